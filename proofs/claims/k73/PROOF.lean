import PyProof.Rows.All
import Wide.All
import OpenK.AllK
import Wide.FinOn
import Lean
import PyProof.EqAt
import PyProof.EqKinds
import PyProof.TupleCall
import PyProof.WalkInts
import PyProof.NeKinds
import KE.KSortTup
import KE.KLam
import PyProof.ListRange
import KE.KDictOf
import PyProof.DictWalks
import KE.KDictSum
import PyProof.StrBlock
import PyProof.StrLaws
import PySem.Challenge.RW_upwords_k73_whole_as_made_afresh
set_option Elab.async false
set_option linter.all false
set_option maxRecDepth 100000
namespace L2
open PySem PySem.Spec PyProof.Rows
abbrev Key:=Sum Int Str
def keyIs:Key→Value→Bool
  | .inl k,v=>Value.isInt k v
  | .inr x,v=>Value.isStrOf x v
def keyH (w:World):Key→Int
  | .inl k=>hashInt k
  | .inr x=>hashStr w x
theorem keyIs_shape:∀ {k:Key} {v:Value},keyIs k v=true→(∃ i t,k=Sum.inl i∧v=Value.int i t)∨(∃ x t,k=Sum.inr x∧v=Value.str x t)
  | .inl i,v,h=>by
    obtain ⟨t,e⟩:=Value.isInt_shape (k:=i) (v:=v) h
    exact .inl ⟨i,t,rfl,e⟩
  | .inr x,v,h=>by
    obtain ⟨t,e⟩:=Value.isStrOf_shape (x:=x) (v:=v) h
    exact .inr ⟨x,t,rfl,e⟩
theorem key_ll (a b:Int):decide ((Sum.inl a:Key)=Sum.inl b)=(a == b):=by
  by_cases e:a=b
  · subst e;simp
  · have h:¬ (Sum.inl a:Key)=Sum.inl b:=fun q=>e (Sum.inl.inj q)
    rw [decide_eq_false h]
    exact (beq_eq_false_iff_ne.mpr e).symm
theorem key_rr (a b:Str):decide ((Sum.inr a:Key)=Sum.inr b)=decide (a=b):=by
  by_cases e:a=b
  · subst e;simp
  · have h:¬ (Sum.inr a:Key)=Sum.inr b:=fun q=>e (Sum.inr.inj q)
    rw [decide_eq_false h,decide_eq_false e]
theorem key_lr (a:Int) (b:Str):decide ((Sum.inl a:Key)=Sum.inr b)=false:=decide_eq_false (fun q=>nomatch q)
theorem key_rl (a:Str) (b:Int):decide ((Sum.inr a:Key)=Sum.inl b)=false:=decide_eq_false (fun q=>nomatch q)
def mixKind (prog:Program) (w:World):PySem.KeyKind prog w Key where
  is:=keyIs
  hash:=keyH w
  inj:=fun v a b ha hb=>by
    rcases keyIs_shape ha with ⟨i,t,rfl,rfl⟩ | ⟨x,t,rfl,rfl⟩
    · rcases keyIs_shape hb with ⟨j,u,rfl,e⟩ | ⟨y,u,rfl,e⟩
      · injection e with e1 _;rw [e1]
      · exact nomatch e
    · rcases keyIs_shape hb with ⟨j,u,rfl,e⟩ | ⟨y,u,rfl,e⟩
      · exact nomatch e
      · injection e with e1 _;rw [e1]
  byValue:=fun k v h=>by
    rcases keyIs_shape h with ⟨i,t,rfl,rfl⟩ | ⟨x,t,rfl,rfl⟩ <;> rfl
  pyHash:=fun hv h=>by
    rcases keyIs_shape hv with ⟨i,t,rfl,rfl⟩ | ⟨x,t,rfl,rfl⟩
    · exact wpAny_pyHash_int h
    · exact wpAny_pyHash_str h
  eqBool:=fun hu hv h=>by
    rcases keyIs_shape hu with ⟨i,t,rfl,rfl⟩ | ⟨x,t,rfl,rfl⟩
    · rcases keyIs_shape hv with ⟨j,u,rfl,rfl⟩ | ⟨y,u,rfl,rfl⟩
      · rw [key_ll] at h;exact wpAny_eqBool_int h
      · rw [key_lr] at h;exact SeqAt.EqAt.int_str i t y u _ _ _ _ h
    · rcases keyIs_shape hv with ⟨j,u,rfl,rfl⟩ | ⟨y,u,rfl,rfl⟩
      · rw [key_rl] at h;exact SeqAt.EqAt.str_int x t j u _ _ _ _ h
      · rw [key_rr] at h;exact wpAny_eqBool_str h
  «strs»:=fun k x t v h=>by
    rcases keyIs_shape h with ⟨i,u,rfl,e⟩ | ⟨y,u,rfl,e⟩
    · exact nomatch e
    · injection e with e1 _
      subst e1
      cases v <;> rfl
end L2
namespace L2
open PySem PySem.Spec PyProof.Rows
inductive V where
  | non | bl (b:Bool) | int (i:Int) | str (x:Str) | byt (b:Array UInt8) | flt (b:UInt64) | ref (a:Addr) | ty (n:String)
  deriving DecidableEq
def RelV:V→Value→Prop
  | .non,u=>u=Value.none
  | .bl b,u=>u=Value.bool b
  | .int i,u=>∃ t,u=Value.int i t
  | .str x,u=>∃ t,u=Value.str x t
  | .byt b,u=>∃ t,u=Value.bytes b t
  | .flt b,u=>∃ t,u=Value.float b t
  | .ref a,u=>u=Value.ref a
  | .ty n,u=>u=Value.type n
abbrev Vals:List V→List Value→Prop:=Paired RelV
theorem Vals.length {xs:List V} {us:List Value} (r:Vals xs us):xs.length=us.length:=Paired.length r
theorem Vals.get:∀ {xs:List V} {us:List Value} {i:Nat} {x:V},Vals xs us→xs[i]?=some x→∃ u,us[i]?=some u∧RelV x u
  | _,_,_,_,.nil,e=>by simp at e
  | _,_,0,_,.cons r _,e=>by simp at e;subst e;exact ⟨_,rfl,r⟩
  | _,_,i+1,x,.cons _ t,e=>by
    obtain ⟨u,h1,h2⟩:=Vals.get (i:=i) (x:=x) t (by simpa using e)
    exact ⟨u,by simpa using h1,h2⟩
theorem Vals.set {x:V} {u:Value} (r:RelV x u):∀ {xs:List V} {us:List Value} (i:Nat),Vals xs us→Vals (xs.set i x) (us.set i u)
  | _,_,_,.nil=>.nil
  | _,_,0,.cons _ t=>.cons r t
  | _,_,i+1,.cons q t=>.cons q (Vals.set r i t)
theorem Vals.append:∀ {xs ys:List V} {us ws:List Value},Vals xs us→Vals ys ws→Vals (xs++ys) (us++ws)
  | _,_,_,_,.nil,s=>s
  | _,_,_,_,.cons r t,s=>.cons r (Vals.append t s)
theorem Vals.take:∀ {xs:List V} {us:List Value} (n:Nat),Vals xs us→Vals (xs.take n) (us.take n)
  | _,_,0,_=>.nil
  | _,_,_+1,.nil=>.nil
  | _,_,n+1,.cons r t=>.cons r (Vals.take n t)
theorem Vals.drop:∀ {xs:List V} {us:List Value} (n:Nat),Vals xs us→Vals (xs.drop n) (us.drop n)
  | _,_,0,r=>r
  | _,_,_+1,.nil=>.nil
  | _,_,n+1,.cons _ t=>Vals.drop n t
def RelO:Option V→Option Value→Prop
  | some v,some u=>RelV v u
  | none,none=>True
  | _,_=>False
def KV {κ:Type}:List (κ × V)→List (κ × Value)→Prop:=Paired fun (p:κ × V) (q:κ × Value)=>p.1=q.1∧RelV p.2 q.2
def kV:Key→V
  | .inl i=>.int i
  | .inr x=>.str x
inductive HO where
    | lst (xs:List V)
    | tup (xs:List V)
    | dK (kvs:List (Key × V)) | dT (kvs:List (List Key × V))
    | set (S:Int→Bool) (n:Nat)
    | ins (C dx:Addr) (fs:List (Str × V))
    | own (x:Addr)
    | xd (fs:List (Str × V))
    | met (f x:Addr)
    | rng (lo hi:Int)
    | frz (o:Obj) (u:HO)
    | tbl (ps:Array Value)
    | ext (φ:Heap→Prop)
abbrev Hp:=Addr→Option HO
def upd (H:Hp) (a:Addr) (o:HO):Hp:=fun b=>if b=a then some o else H b
theorem upd_same {H:Hp} {a:Addr} {o:HO}:upd H a o a=some o:=by unfold upd;rw [if_pos rfl]
theorem upd_ne {H:Hp} {a b:Addr} {o:HO} (h:b≠a):upd H a o b=H b:=by unfold upd;rw [if_neg h]
theorem upd_upd {H:Hp} {a:Addr} {o u:HO}:upd (upd H a o) a u=upd H a u:=by
  funext b;unfold upd;split <;> rfl
theorem ne_of {H:Hp} {a b:Addr} {o u:HO} (h:H a=some o) (h':H b=some u) (d:o≠u):a≠b:=by
  intro e;subst e;rw [h] at h';exact d (Option.some.inj h')
theorem ne_of_none {H:Hp} {a b:Addr} {o:HO} (h:H a=some o) (h':H b=none):a≠b:=by
  intro e;subst e;rw [h] at h';cases h'
section
variable (P:Program) (w:World)
def ObjOk (H:Hp) (h:Heap) (a:Addr):HO→Prop
  | .lst xs=>xs.length≤sizeLine∧∃ (its:List Value) (n:Nat),Vals xs its∧h.get? a=some { cls:=.type "list", data:=.seq its.toArray n }
  | .tup xs=>(xs.length≤sizeLine∧∃ o,h.get? a=some o∧o.dict=none)∧∃ its:List Value,Vals xs its∧IsTup h a its.toArray
  | .dK kvs=>kvs.length≤sizeLine∧(a == sysModules)=false∧∃ vs,KV kvs vs∧h.DictOf (mixKind P w) a vs
  | .dT kvs=>kvs.length≤sizeLine∧(a == sysModules)=false∧∃ xs:List (List Key × Addr × Value),
      Paired (fun (p:List Key × V) (q:List Key × Addr × Value)=>p.1=q.1∧H q.2.1=some (.tup (p.1.map kV))∧RelV p.2 q.2.2) kvs xs ∧
      ∃ o es ep,h.get? a=some o∧o.ExactDict∧o.data=.dict es ep∧es.toList=xs.map (entryOfKey (tupleKind (mixKind P w)))∧(xs.map (·.1)).Nodup
  | .set S n=>h.SetOf (intKind P w) a S n
  | .ins C dx fs=>H dx=some (.own a)∧fs.length≤1000∧dx≠a∧h.get? a=some (PySem.W.instObj C dx) ∧
      ∃ mA,h.Ns1 dx mA∧(∀ f,RelO (fs.lookup f) (mA f))∧PySem.Within mA (fs.map (·.1))
  | .own _=>∃ o,h.get? a=some o
  | .xd fs=>∃ mA,h.Ns1 a mA∧∀ f,RelO (fs.lookup f) (mA f)
  | .rng lo hi=>∃ t u v,h.get? a=some { cls:=.type "range", data:=.fields #[.int lo t,.int hi u,.int 1 v] }
  | .frz o u=>h.get? a=some o∧ObjOk H h a u
  | .tbl ps=>h.get? a=some { cls:=.none,data:=.fields ps }
  | .met f x=>h.get? a=some (PySem.W.methodObj (.ref f) (.ref x))
  | .ext φ=>φ h∧(∃ o,h.get? a=some o)∧∀ h1 h2:Heap,φ h1→(∀ o,h1.get? a=some o→h2.get? a=some o)→φ h2
def HOk (H:Hp) (h:Heap):Prop:=∀ a o,H a=some o→ObjOk P w H h a o
end
section
variable {P:Program} {w:World} {H H':Hp} {h h':Heap} {a:Addr} {o:HO}
theorem ObjOk.lt (x:ObjOk P w H h a o):a < h.objs.size:=by
  cases o with
  | lst xs=>obtain ⟨_,_,_,_,e⟩:=x;exact Heap.lt_size e
  | tup xs=>obtain ⟨_,_,_,p⟩:=x;exact p.lt
  | dK kvs=>obtain ⟨_,_,_,_,o,_,_,e,_⟩:=x;exact Heap.lt_size e
  | dT kvs=>obtain ⟨_,_,_,_,o,_,_,e,_⟩:=x;exact Heap.lt_size e
  | set S n=>obtain ⟨o,_,_,_,e,_⟩:=x;exact Heap.lt_size e
  | ins C dx fs=>obtain ⟨_,_,_,e,_⟩:=x;exact Heap.lt_size e
  | own y=>obtain ⟨_,e⟩:=x;exact Heap.lt_size e
  | xd fs=>obtain ⟨_,⟨_,_,_,e,_⟩,_⟩:=x;exact Heap.lt_size e
  | rng lo hi=>obtain ⟨_,_,_,e⟩:=x;exact Heap.lt_size e
  | frz ob u=>obtain ⟨e,_⟩:=x;exact Heap.lt_size e
  | tbl ps=>exact Heap.lt_size (show h.get? a=some _ from x)
  | met f y=>exact Heap.lt_size (show h.get? a=some _ from x)
  | ext φ=>obtain ⟨_,⟨_,e⟩,_⟩:=x;exact Heap.lt_size e
theorem Paired.mapP {α β:Type} {F G:α→β→Prop}:∀ {l₁:List α} {l₂:List β},Paired F l₁ l₂→(∀ a b,F a b→G a b)→Paired G l₁ l₂
  | _,_,.nil,_=>.nil
  | _,_,.cons r t,f=>.cons (f _ _ r) (Paired.mapP t f)
theorem ObjOk.stay (x:ObjOk P w H h a o) (k:∀ b u,(b=a∨H b=some (.own a))→h.get? b=some u→h'.get? b=some u)
    (ho:∀ b,H b=some (.own a)→H' b=some (.own a)) (ht:∀ b xs,H b=some (.tup xs)→H' b=some (.tup xs)):ObjOk P w H' h' a o:=by
  induction o with
  | lst xs=>obtain ⟨z,its,n,r,e⟩:=x;exact ⟨z,its,n,r,k _ _ (.inl rfl) e⟩
  | tup xs=>obtain ⟨⟨z,o1,e1,c1⟩,its,r,ob,e,c⟩:=x;exact ⟨⟨z,o1,k _ _ (.inl rfl) e1,c1⟩,its,r,ob,k _ _ (.inl rfl) e,c⟩
  | dK kvs=>obtain ⟨z,y,vs,r,ob,es,ep,e,c⟩:=x;exact ⟨z,y,vs,r,ob,es,ep,k _ _ (.inl rfl) e,c⟩
  | dT kvs=>
    obtain ⟨z,y,xs,r,ob,es,ep,e,c⟩:=x
    exact ⟨z,y,xs,Paired.mapP r fun p q z=>⟨z.1,ht _ _ z.2.1,z.2.2⟩,ob,es,ep,k _ _ (.inl rfl) e,c⟩
  | set S n=>obtain ⟨ob,es,ep,t,e,c⟩:=x;exact ⟨ob,es,ep,t,k _ _ (.inl rfl) e,c⟩
  | ins C dx fs=>
    obtain ⟨d,z,ne,e,mA,⟨od,es,ep,e2,c⟩,r⟩:=x
    exact ⟨ho _ d,z,ne,k _ _ (.inl rfl) e,mA,⟨od,es,ep,k _ _ (.inr d) e2,c⟩,r⟩
  | own y=>obtain ⟨ob,e⟩:=x;exact ⟨ob,k _ _ (.inl rfl) e⟩
  | xd fs=>obtain ⟨mA,⟨od,es,ep,e,c⟩,r⟩:=x;exact ⟨mA,⟨od,es,ep,k _ _ (.inl rfl) e,c⟩,r⟩
  | rng lo hi=>obtain ⟨t,u,v,e⟩:=x;exact ⟨t,u,v,k _ _ (.inl rfl) e⟩
  | frz ob u ih=>obtain ⟨e,q⟩:=x;exact ⟨k _ _ (.inl rfl) e,ih q⟩
  | tbl ps=>
    have e:h.get? a=some { cls:=.none,data:=.fields ps }:=x
    show h'.get? a=some { cls:=.none,data:=.fields ps }
    exact k a _ (.inl rfl) e
  | met f y=>
    have e:h.get? a=some (PySem.W.methodObj (.ref f) (.ref y)):=x
    show h'.get? a=some (PySem.W.methodObj (.ref f) (.ref y))
    exact k a _ (.inl rfl) e
  | ext φ=>obtain ⟨p,⟨o,e⟩,st⟩:=x;exact ⟨st _ _ p fun o q=>k _ _ (.inl rfl) q,⟨o,k _ _ (.inl rfl) e⟩,st⟩
theorem HOk.lt (x:HOk P w H h) (e:H a=some o):a < h.objs.size:=(x a o e).lt
theorem HOk.fresh (x:HOk P w H h) (e:h.objs.size≤a):H a=none:=by
  cases q:H a with
  | none=>rfl
  | some u=>exact absurd (Nat.lt_of_lt_of_le (x.lt q) e) (Nat.lt_irrefl _)
theorem HOk.kept (x:HOk P w H h) (k:∀ b u,h.get? b=some u→h'.get? b=some u):HOk P w H h':=fun a o e=>
  (x a o e).stay (fun b u _ q=>k b u q) (fun _ q=>q) fun _ _ q=>q
theorem HOk.laid (x:HOk P w H h) (k:∀ b u,h.get? b=some u→h'.get? b=some u) (hp:h.objs.size≤a) (new:ObjOk P w (upd H a o) h' a o):HOk P w (upd H a o) h':=fun b u e=>by
  have hn:=x.fresh hp
  by_cases hb:b=a
  · subst hb;rw [upd_same] at e;cases e;exact new
  · rw [upd_ne hb] at e
    exact (x b u e).stay (fun c v _ q=>k c v q) (fun c q=>by rw [upd_ne (ne_of_none q hn)];exact q) fun c xs q=>by rw [upd_ne (ne_of_none q hn)];exact q
end
def Rd (H:Hp) (a:Addr) (u:HO):Prop:=H a=some u∨∃ o,H a=some (.frz o u)
theorem Rd.ok {P:Program} {w:World} {H:Hp} {h:Heap} {a:Addr} {u:HO} (r:Rd H a u) (x:HOk P w H h):ObjOk P w H h a u:=by
  rcases r with r | ⟨o,r⟩
  · exact x a u r
  · obtain ⟨_,q⟩:=x a _ r
    exact q
def Mut:Option HO→Prop
  | some (.lst _)=>True
  | some (.dK _)=>True
  | some (.dT _)=>True
  | some (.set _ _)=>True
  | some (.ins _ _ _)=>True
  | some (.ext _)=>True
  | _=>False
section
variable {P:Program} {w:World} {H:Hp} {h h':Heap} {x e:Addr} {o':HO}
theorem HOk.write (ok:HOk P w H h) (mu:Mut (H x)) (he:e=x∨H e=some (.own x)) (k:∀ b u,b≠e→h.get? b=some u→h'.get? b=some u) (heo:∃ u,h'.get? e=some u)
    (new:ObjOk P w (upd H x o') h' x o'):HOk P w (upd H x o') h':=fun b u q=>by
  have nown:∀ c y,H c=some (.own y)→c≠x:=fun c y r z=>by subst z;rw [r] at mu;exact mu
  have ntup:∀ c xs,H c=some (.tup xs)→c≠x:=fun c xs r z=>by subst z;rw [r] at mu;exact mu
  by_cases hb:b=x
  · subst hb;rw [upd_same] at q;cases q;exact new
  · rw [upd_ne hb] at q
    by_cases hbe:b=e
    · have q':H b=some (.own x):=by
        rcases he with z | z
        · exact absurd (hbe.trans z) hb
        · rw [hbe];exact z
      rw [q] at q';cases q'
      obtain ⟨v,hv⟩:=heo
      exact ⟨v,by rw [hbe];exact hv⟩
    · refine (ok b u q).stay (fun c v hc r=>k c v ?_ r) (fun c r=>by rw [upd_ne (nown c b r)];exact r) fun c xs r=>by rw [upd_ne (ntup c xs r)];exact r
      rcases hc with rfl | hc
      · exact hbe
      · rintro rfl
        rcases he with z | z
        · exact nown c b hc z
        · rw [hc] at z;cases z;exact hb rfl
end
structure Un (fs ex:List Addr) (H H':Hp) (h h':Heap):Prop where
  keep:∀ b o,h.get? b=some o→H b=none→b ∉ fs→b ∉ ex→h'.get? b=some o
  slot:∀ b o,h.get? b=some o→H b=none→b∈fs→b ∉ ex→∃ sl,h'.get? b=some { o with slots:=sl }
  free:∀ b o,h.get? b=some o→H b=none→b ∉ ex→H' b=none
  there:∀ b o,h.get? b=some o→b ∉ ex→∃ o',h'.get? b=some o'
  tups:∀ b xs,H b=some (.tup xs)→H' b=some (.tup xs)
  frzs:∀ b o u,H b=some (.frz o u)→H' b=some (.frz o u)
  tbls:∀ b ps,H b=some (.tbl ps)→∃ more,H' b=some (.tbl (ps++more))
section
variable {fs fs' ex ex':List Addr} {H H1 H2:Hp} {h h1 h2 h':Heap} {a x e:Addr} {o:HO}
theorem Un.any (u:Un fs ex H H1 h h1) {b:Addr} {ob:Obj} (q:h.get? b=some ob) (n:H b=none) (hx:b ∉ ex):∃ sl,h1.get? b=some { ob with slots:=sl }:=by
  by_cases hb:b∈fs
  · exact u.slot b ob q n hb hx
  · exact ⟨ob.slots,u.keep b ob q n hb hx⟩
theorem Un.kept (k:∀ b u,h.get? b=some u→h'.get? b=some u):Un fs ex H H h h':=
  ⟨fun b ob q _ _ _=>k b ob q,fun b ob q _ _ _=>⟨ob.slots,k b ob q⟩,fun _ _ _ n _=>n,fun b ob q _=>⟨ob,k b ob q⟩,fun _ _ q=>q,fun _ _ _ q=>q,fun _ ps q=>⟨#[],by rw [q];simp⟩⟩
theorem Un.refl:Un fs ex H H h h:=Un.kept fun _ _ q=>q
theorem Un.laid (k:∀ b u,h.get? b=some u→h'.get? b=some u) (hp:h.objs.size≤a) (hn:H a=none):Un fs ex H (upd H a o) h h' where
  keep:=fun b u q _ _ _=>k b u q
  slot:=fun b u q _ _ _=>⟨u.slots,k b u q⟩
  free:=fun b u q n _=>by rw [upd_ne (Nat.ne_of_lt (Nat.lt_of_lt_of_le (Heap.lt_size q) hp))];exact n
  there:=fun b u q _=>⟨u,k b u q⟩
  tups:=fun b xs q=>by rw [upd_ne (ne_of_none q hn)];exact q
  frzs:=fun b u xs q=>by rw [upd_ne (ne_of_none q hn)];exact q
  tbls:=fun b ps q=>⟨#[],by rw [upd_ne (ne_of_none q hn),q];simp⟩
theorem Un.write (mu:Mut (H x)) (he:e=x∨H e=some (.own x)) (k:∀ b u,b≠e→h.get? b=some u→h'.get? b=some u) (heo:∃ u,h'.get? e=some u):Un fs ex H (upd H x o) h h':=by
  have hx:∀ b,H b=none→b≠x:=fun b n z=>by subst z;rw [n] at mu;exact mu
  have hb:∀ b,H b=none→b≠e:=fun b n z=>by
    subst z
    rcases he with r | r
    · exact hx b n r
    · rw [n] at r;cases r
  have hm:∀ b u,H b=some u→¬ Mut (some u)→b≠x:=fun b u q nm z=>by subst z;rw [q] at mu;exact nm mu
  refine ⟨fun b u q n _ _=>k b u (hb b n) q,fun b u q n _ _=>⟨u.slots,k b u (hb b n) q⟩,fun b u q n _=>by rw [upd_ne (hx b n)];exact n,fun b u q _=>?_,
    fun b xs q=>by rw [upd_ne (hm b _ q fun z=>z)];exact q,fun b u xs q=>by rw [upd_ne (hm b _ q fun z=>z)];exact q,fun b ps q=>⟨#[],by rw [upd_ne (hm b _ q fun z=>z),q];simp⟩⟩
  by_cases hbe:b=e
  · subst hbe;exact heo
  · exact ⟨u,k b u hbe q⟩
end
def trk (h:Heap) (H:Hp):List Addr:=(List.range h.objs.size).filter fun a=>(H a).isSome
def hidT (h:Heap) (H:Hp):Heap:=PySem.W.hideAll h (trk h H)
theorem hidT_size (h:Heap) (H:Hp):(hidT h H).objs.size=h.objs.size:=PySem.W.hideAll_size _ _
theorem hidT_get {h:Heap} {H:Hp} {b:Addr} {o:Obj} (e:h.get? b=some o) (n:H b=none):(hidT h H).get? b=some o:=
  PySem.W.hideAll_get _ e fun hm=>by
    have q:(H b).isSome=true:=(List.mem_filter.mp hm).2
    rw [n] at q;simp at q
theorem of_hidT {h:Heap} {H:Hp} {b:Addr} {o:Obj} (e:(hidT h H).get? b=some o):h.get? b=some o∧H b=none:=by
  have e':h.get? b=some o:=PySem.W.of_hideAll (trk h H) e
  refine ⟨e',?_⟩
  cases q:H b with
  | none=>rfl
  | some x=>
    have hm:b∈trk h H:=List.mem_filter.mpr ⟨List.mem_range.mpr (Heap.lt_size e'),by simp [q]⟩
    have z:(hidT h H).get? b=none:=PySem.W.hideAll_none (trk h H) hm
    rw [z] at e;cases e
def allNews (g h:Heap) (L:Addr):List (Addr × Obj):=(List.range h.objs.size).filterMap fun a=>if a=L∨(g.get? a).isSome=true then none else (h.get? a).map fun o=>(a,o)
def rest (g h:Heap) (L d:Addr):List (Addr × Obj):=(allNews g h L).filter fun p=>decide (p.1≠d)
end L2
namespace L2
open PySem PySem.Spec PyProof.Rows
structure Mod (K:PySem.W.Frag) (mg:Str→Option Value) (base:Heap):Prop where
  kin:K.In base
  glob:base.Ns mainGlobals mg
  blt:∃ mb,base.Ns builtinsNs mb∧∀ x:Str,x ≠ "__name__" → mb x=bootBuiltins x
  nolimit:base.NoLimit
structure Cx where
  prog:Program
  w:World
  K:PySem.W.Frag
  mg:Str→Option Value
  base:Heap
  A:Around
  N:List Str
  s₀:Shared
  H₀:Hp
  env:Env
  outer:List Env
  stack:List Env
  ex:List Addr
  fn:Str→Bool
  calm:Bool
  pn:List (Addr × Obj)
  xe:Value→Shared→Prop
def frs (l:List Env):List Addr:=l.filterMap (·.frame)
abbrev Cx.fs (X:Cx):List Addr:=frs X.outer
def Vis (sc:Scope) (x:Str):Prop:=sc.names.lookup x=some .local∨sc.names.lookup x=some .cell∨sc.names.lookup x=some .free
def Loc (sc:Scope) (x:Str):Prop:=sc.names.lookup x=some .local∨sc.names.lookup x=some .cell
def Look (env:Env) (h:Heap) (m:Str→Option Value) (x:Str) (u:Value):Prop:=
  (env.kindOf x=some .local∧m x=some u)∨((env.kindOf x=some .cell∨env.kindOf x=some .free)∧∃ c,env.cells.lookup x=some c∧h.IsCell c (some u))
structure Cx.Ok (X:Cx):Prop where
  mod:Mod X.K X.mg X.base
  kind:X.env.scope.kind=.function
  glob:X.env.globals=mainGlobals
  blt:X.env.builtins=builtinsNs
  above:X.s₀.heap.objs.size≤X.env.locals
  inj:∀ x y c,X.env.cells.lookup x=some c→X.env.cells.lookup y=some c→x=y
  has:∀ x,(X.env.kindOf x=some .cell∨X.env.kindOf x=some .free)→∃ c,X.env.cells.lookup x=some c
  cab:∀ x c,X.fn x=true→X.env.cells.lookup x=some c→X.s₀.heap.objs.size≤c
  hd:X.calm=true→X.A.handled=none
  frames:X.A.frames=some X.stack
  stk:X.stack=X.outer∨(X.stack=X.env :: X.outer∧X.env.frame=some X.env.locals)
  exf:∀ b∈X.ex,b≠X.env.locals∧∀ x c,X.env.cells.lookup x=some c→c≠b
  bs:∀ b o,X.base.get? b=some o→X.s₀.heap.get? b=some o∧X.H₀ b=none
  bsz:X.base.objs.size≤X.s₀.heap.objs.size
  noex:∀ b o,X.base.get? b=some o→b ∉ X.ex
  exfs:∀ b∈X.ex,b ∉ X.fs
  funs:X.s₀.heap.FunFrames X.base X.outer
  frf:∀ b∈X.fs,X.H₀ b=none
structure Inv (X:Cx) (pins:List (Addr × Obj)) (σ:List (Option V)) (H:Hp) (s:Shared):Prop where
  ok:X.Ok
  os:s.os=X.s₀.os
  bare:AllBare s.gens
  base:Un X.fs X.ex X.H₀ H X.s₀.heap s.heap
  loc:∃ m,s.heap.Ns X.env.locals m∧∀ (i:Nat) (x:Str) (v:V),X.N[i]?=some x→σ[i]?=some (some v)→Vis X.env.scope x→∃ u,RelV v u∧Look X.env s.heap m x u
  cell:∀ x c,X.env.cells.lookup x=some c→∃ v,s.heap.IsCell c v
  free:H X.env.locals=none
  freeC:∀ x c,X.env.cells.lookup x=some c→H c=none
  pin:∀ p∈X.pn++pins,s.heap.get? p.1=some p.2∧H p.1=none∧p.1≠X.env.locals∧p.1 ∉ X.fs∧∀ v,p.2.data≠.cell v
  hok:HOk X.prog X.w H s.heap
  len:σ.length=X.N.length
section
variable {X:Cx} {pins:List (Addr × Obj)} {σ:List (Option V)} {H H':Hp} {s:Shared} {h':Heap}
theorem Cx.Ok.nofr (ok:X.Ok) {b:Addr} {o:Obj} (e:X.base.get? b=some o):b ∉ X.fs:=fun hb=>by
  have:=(ok.funs.mem hb).1
  rw [e] at this;cases this
theorem Inv.bs (I:Inv X pins σ H s):∀ b o,X.base.get? b=some o→s.heap.get? b=some o∧H b=none:=fun b o e=>
  ⟨I.base.keep b o (I.ok.bs b o e).1 (I.ok.bs b o e).2 (I.ok.nofr e) (I.ok.noex b o e),I.base.free b o (I.ok.bs b o e).1 (I.ok.bs b o e).2 (I.ok.noex b o e)⟩
theorem Inv.bk (I:Inv X pins σ H s):∀ b o,X.base.get? b=some o→s.heap.get? b=some o:=fun b o e=>(I.bs b o e).1
theorem Inv.mod (I:Inv X pins σ H s):Mod X.K X.mg X.base:=I.ok.mod
theorem Inv.kIn (I:Inv X pins σ H s):X.K.In s.heap:=I.ok.mod.kin.keeps I.bk
theorem Inv.nolimit (I:Inv X pins σ H s):s.heap.NoLimit:=I.ok.mod.nolimit.keeps I.bk
theorem Inv.fr (I:Inv X pins σ H s):∃ m,Fr X.base X.env.locals s.heap m:=
  let ⟨m,hn,_⟩:=I.loc
  ⟨m,hn,I.bk,Nat.le_trans I.ok.bsz I.ok.above⟩
theorem Inv.lt (I:Inv X pins σ H s):X.env.locals < s.heap.objs.size:=let ⟨_,hn,_⟩:=I.loc;hn.lt
theorem Inv.sz (I:Inv X pins σ H s):X.s₀.heap.objs.size≤s.heap.objs.size:=Nat.le_trans I.ok.above (Nat.le_of_lt I.lt)
theorem Inv.nofs (I:Inv X pins σ H s) {a:Addr} (h:s.heap.objs.size≤a):a ∉ X.fs:=fun hb=>by
  obtain ⟨_,o,ho,_⟩:=I.ok.funs.mem hb
  exact absurd (Nat.lt_of_lt_of_le (Heap.lt_size ho) (Nat.le_trans I.sz h)) (Nat.lt_irrefl _)
theorem Inv.cne (I:Inv X pins σ H s):∀ x c,X.env.cells.lookup x=some c→c≠X.env.locals:=fun x c e z=>by
  obtain ⟨v,o,ho,hd⟩:=I.cell x c e
  obtain ⟨m,⟨o',es,ep,ho',hd',_⟩,_⟩:=I.loc
  rw [z,ho'] at ho;cases ho;rw [hd'] at hd;cases hd
theorem Inv.funs (I:Inv X pins σ H s):s.heap.FunFrames X.base X.outer:=by
  have all:∀ (l:List Env),(∀ b∈frs l,b∈X.fs)→X.s₀.heap.FunFrames X.base l→s.heap.FunFrames X.base l:=by
    intro l
    induction l with
    | nil=>intro _ _;trivial
    | cons env r ih=>
      intro hs hl
      obtain ⟨hk,⟨L,o,hf,hn,ho,hd⟩,hr⟩:=hl
      have hL:L∈X.fs:=hs L (by unfold frs;rw [List.filterMap_cons,hf];exact List.mem_cons_self)
      obtain ⟨sl,e⟩:=I.base.slot L o ho (I.ok.frf L hL) hL fun z=>I.ok.exfs L z hL
      exact ⟨hk,⟨L,_,hf,hn,e,hd⟩,ih (fun b hb=>hs b (by unfold frs;rw [List.filterMap_cons,hf];exact List.mem_cons_of_mem _ hb)) hr⟩
  exact all X.outer (fun _ hb=>hb) I.ok.funs
theorem Inv.stack (I:Inv X pins σ H s):s.heap.FunFrames X.base X.stack:=by
  rcases I.ok.stk with e | ⟨e,hf⟩
  · rw [e];exact I.funs
  · rw [e]
    obtain ⟨m,hn,_⟩:=I.loc
    refine .cons (by rw [I.ok.kind];decide) hf hn ?_ I.funs
    exact Heap.get?_none_of_le (Nat.le_trans I.ok.bsz I.ok.above)
theorem Inv.stkSub (I:Inv X pins σ H s):∀ b∈frs X.stack,b∈X.env.locals :: X.fs:=fun b hb=>by
  rcases I.ok.stk with e | ⟨e,hf⟩
  · rw [e] at hb;exact List.mem_cons_of_mem _ hb
  · rw [e] at hb
    unfold frs at hb
    rw [List.filterMap_cons,hf] at hb
    exact hb
theorem Inv.stkFree (I:Inv X pins σ H s):∀ b∈frs X.stack,H b=none:=fun b hb=>by
  rcases List.mem_cons.mp (I.stkSub b hb) with e | hb
  · rw [e];exact I.free
  · obtain ⟨_,o,ho,_⟩:=I.ok.funs.mem hb
    exact I.base.free b o ho (I.ok.frf b hb) fun z=>I.ok.exfs b z hb
theorem Inv.step {g':Array GenState} {t':Nat} {d':Drawn} {ch:List Addr} (I:Inv X pins σ H s)
    (hch:∀ b∈ch,(b∈X.ex∨X.s₀.heap.objs.size≤b)∧b≠X.env.locals∧(∀ x c,X.env.cells.lookup x=some c→c≠b)∧∀ p∈X.pn++pins,p.1≠b)
    (keep:∀ b o,b≠X.env.locals→b ∉ X.fs→b ∉ ch→s.heap.get? b=some o→H b=none→h'.get? b=some o)
    (slot:∀ b o,b≠X.env.locals→b∈X.fs→b ∉ ch→s.heap.get? b=some o→H b=none→∃ sl,h'.get? b=some { o with slots:=sl }) (free:∀ b o,b ∉ ch→s.heap.get? b=some o→H b=none→H' b=none)
    (there:∀ b o,b ∉ ch→s.heap.get? b=some o→∃ o',h'.get? b=some o')
    (tups:∀ b xs,H b=some (.tup xs)→H' b=some (.tup xs)) (frzs:∀ b o u,H b=some (.frz o u)→H' b=some (.frz o u)) (tbls:∀ b ps,H b=some (.tbl ps)→∃ more,H' b=some (.tbl (ps++more)))
    (ns:∀ m,s.heap.Ns X.env.locals m→h'.Ns X.env.locals m) (hok:HOk X.prog X.w H' h') (hg:AllBare g') :
    Inv X pins σ H' { s with heap:=h',gens:=g',drawn:=d',toks:=t' }:=by
  have neL:∀ b o,X.s₀.heap.get? b=some o→b≠X.env.locals:=fun b o e=>Nat.ne_of_lt (Nat.lt_of_lt_of_le (Heap.lt_size e) I.ok.above)
  have neC:∀ b o,X.s₀.heap.get? b=some o→b ∉ X.ex→b ∉ ch:=fun b o e hx hb=>by
    rcases (hch b hb).1 with z | z
    · exact hx z
    · exact absurd (Nat.lt_of_lt_of_le (Heap.lt_size e) z) (Nat.lt_irrefl _)
  have cellK:∀ x c,X.env.cells.lookup x=some c→∀ v,s.heap.IsCell c v→h'.IsCell c v:=fun x c e v ⟨o,ho,hd⟩=>by
    have nch:c ∉ ch:=fun z=>(hch c z).2.2.1 x c e rfl
    by_cases hc:c∈X.fs
    · obtain ⟨sl,q⟩:=slot c o (I.cne x c e) hc nch ho (I.freeC x c e)
      exact ⟨_,q,hd⟩
    · exact ⟨o,keep c o (I.cne x c e) hc nch ho (I.freeC x c e),hd⟩
  refine ⟨I.ok,I.os,hg,⟨fun b o e n hb hx=>?_,fun b o e n hb hx=>?_,fun b o e n hx=>?_,fun b o e hx=>?_,fun b xs e=>tups b xs (I.base.tups b xs e),fun b o xs e=>frzs b o xs (I.base.frzs b o xs e),fun b ps e=>?_⟩,?_,fun x c e=>?_,?_,fun x c e=>?_,fun p hp=>?_,hok,I.len⟩
  · exact keep b o (neL b o e) hb (neC b o e hx) (I.base.keep b o e n hb hx) (I.base.free b o e n hx)
  · obtain ⟨sl,e1⟩:=I.base.slot b o e n hb hx
    obtain ⟨sl',e2⟩:=slot b _ (neL b o e) hb (neC b o e hx) e1 (I.base.free b o e n hx)
    exact ⟨sl',e2⟩
  · obtain ⟨o',e1⟩:=I.base.there b o e hx
    exact free b o' (neC b o e hx) e1 (I.base.free b o e n hx)
  · obtain ⟨o',e1⟩:=I.base.there b o e hx
    exact there b o' (neC b o e hx) e1
  · obtain ⟨m1,e1⟩:=I.base.tbls b ps e
    obtain ⟨m2,e2⟩:=tbls b _ e1
    exact ⟨m1++m2,by rw [e2,Array.append_assoc]⟩
  · obtain ⟨m,hn,hl⟩:=I.loc
    refine ⟨m,ns m hn,fun i x v e1 e2 e3=>?_⟩
    obtain ⟨u,r,l⟩:=hl i x v e1 e2 e3
    refine ⟨u,r,?_⟩
    rcases l with l | ⟨k,c,e,z⟩
    · exact .inl l
    · exact .inr ⟨k,c,e,cellK x c e _ z⟩
  · obtain ⟨v,z⟩:=I.cell x c e
    exact ⟨v,cellK x c e v z⟩
  · obtain ⟨m,⟨o,_,_,ho,_⟩,_⟩:=I.loc
    exact free _ o (fun z=>(hch _ z).2.1 rfl) ho I.free
  · obtain ⟨v,o,ho,hd⟩:=I.cell x c e
    exact free c o (fun z=>(hch c z).2.2.1 x c e rfl) ho (I.freeC x c e)
  · obtain ⟨e,n,ne,nf,d⟩:=I.pin p hp
    have nch:p.1 ∉ ch:=fun z=>(hch p.1 z).2.2.2 p hp rfl
    exact ⟨keep p.1 p.2 ne nf nch e n,free p.1 p.2 nch e n,ne,nf,d⟩
theorem Inv.un {t':Nat} (I:Inv X pins σ H s) (u:Un X.fs [] H H' s.heap h') (hok:HOk X.prog X.w H' h'):Inv X pins σ H' { s with heap:=h',toks:=t' }:=by
  obtain ⟨m,⟨o,es,ep,ho,r⟩,_⟩:=id I.loc
  obtain ⟨sl,hL⟩:=u.any ho I.free (by simp)
  exact I.step (g':=s.gens) (d':=s.drawn) (ch:=[]) (fun _ z=>nomatch z) (fun b o _ hb _ e n=>u.keep b o e n hb (by simp)) (fun b o _ hb _ e n=>u.slot b o e n hb (by simp)) (fun b o _ e n=>u.free b o e n (by simp)) (fun b o _ e=>u.there b o e (by simp)) u.tups u.frzs u.tbls (fun m' hm=>by
    obtain ⟨o',es',ep',ho',r'⟩:=hm
    rw [ho] at ho';cases ho'
    exact ⟨_,es',ep',hL,r'⟩) hok I.bare
theorem Inv.call {g':Array GenState} {t':Nat} {d':Drawn} {ch:List Addr} (I:Inv X pins σ H s) (u:Un (frs X.stack) ch H H' s.heap h') (hok:HOk X.prog X.w H' h') (hg:AllBare g')
    (hch:∀ b∈ch,(b∈X.ex∨X.s₀.heap.objs.size≤b)∧b≠X.env.locals∧(∀ x c,X.env.cells.lookup x=some c→c≠b)∧∀ p∈X.pn++pins,p.1≠b) :
    Inv X pins σ H' { s with heap:=h',gens:=g',drawn:=d',toks:=t' }:=by
  obtain ⟨m,⟨o,es,ep,ho,r⟩,_⟩:=id I.loc
  obtain ⟨sl,hL⟩:=u.any ho I.free fun z=>(hch _ z).2.1 rfl
  exact I.step (ch:=ch) hch (fun b o hL hb hc e n=>u.keep b o e n (fun z=>(List.mem_cons.mp (I.stkSub b z)).elim hL hb) hc) (fun b o _ _ hc e n=>u.any e n hc) (fun b o hc e n=>u.free b o e n hc) (fun b o hc e=>u.there b o e hc) u.tups u.frzs u.tbls (fun m' hm=>by
    obtain ⟨o',es',ep',ho',r'⟩:=hm
    rw [ho] at ho';cases ho'
    exact ⟨_,es',ep',hL,r'⟩) hok hg
theorem Inv.turned {t':Nat} {it:Addr} (I:Inv X pins σ H s) (k:∀ b o,b≠it→s.heap.get? b=some o→h'.get? b=some o) (hn:H it=none) (hL:it≠X.env.locals)
    (h1:it∈X.ex∨X.s₀.heap.objs.size≤it) (h2:∀ x c,X.env.cells.lookup x=some c→c≠it) (h3:∀ p∈X.pn++pins,p.1≠it):Inv X pins σ H { s with heap:=h',toks:=t' }:=by
  have nit:∀ b u,H b=some u→b≠it:=fun b u e z=>by rw [z,hn] at e;cases e
  refine I.step (g':=s.gens) (d':=s.drawn) (ch:=[it]) (fun b hb=>?_) (fun b o _ _ hc e _=>k b o (fun z=>hc (by simp [z])) e) (fun b o _ _ hc e _=>⟨o.slots,k b o (fun z=>hc (by simp [z])) e⟩) (fun _ _ _ _ n=>n)
    (fun b o hc e=>⟨o,k b o (fun z=>hc (by simp [z])) e⟩) (fun _ _ e=>e) (fun _ _ _ e=>e) (fun b ps e=>⟨#[],by rw [e];simp⟩) (fun m hm=>?_) (fun b u e=>?_) I.bare
  · have e:b=it:=by simpa using hb
    subst e
    exact ⟨h1,hL,h2,h3⟩
  · obtain ⟨o,es,ep,ho,r⟩:=hm
    exact ⟨o,es,ep,k _ o (Ne.symm hL) ho,r⟩
  · refine (I.hok b u e).stay (fun c v hc q=>k c v ?_ q) (fun _ q=>q) fun _ _ q=>q
    rcases hc with z | z
    · rw [z];exact nit b u e
    · exact nit c _ z
theorem Inv.tok (I:Inv X pins σ H s) (t:Nat):Inv X pins σ H { s with toks:=t }:=I.un (h':=s.heap) (t':=t) Un.refl I.hok
theorem Inv.kept {t':Nat} (I:Inv X pins σ H s) (k:∀ b u,s.heap.get? b=some u→h'.get? b=some u):Inv X pins σ H { s with heap:=h',toks:=t' }:=I.un (Un.kept k) (I.hok.kept k)
theorem Inv.laid {a:Addr} {o:HO} {t':Nat} (I:Inv X pins σ H s) (k:∀ b u,s.heap.get? b=some u→h'.get? b=some u) (hp:s.heap.objs.size≤a) (new:ObjOk X.prog X.w (upd H a o) h' a o) :
    Inv X pins σ (upd H a o) { s with heap:=h',toks:=t' }:=I.un (Un.laid k hp (I.hok.fresh hp)) (I.hok.laid k hp new)
theorem Inv.write {x e:Addr} {o:HO} {t':Nat} (I:Inv X pins σ H s) (mu:Mut (H x)) (he:e=x∨H e=some (.own x)) (k:∀ b u,b≠e→s.heap.get? b=some u→h'.get? b=some u) (heo:∃ u,h'.get? e=some u)
    (new:ObjOk X.prog X.w (upd H x o) h' x o):Inv X pins σ (upd H x o) { s with heap:=h',toks:=t' }:=I.un (Un.write mu he k heo) (I.hok.write mu he k heo new)
theorem Inv.weak {σ':List (Option V)} (I:Inv X pins σ H s) (hl:σ'.length=σ.length) (w:∀ (i:Nat) v,σ'[i]?=some (some v)→σ[i]?=some (some v)):Inv X pins σ' H s:=
  ⟨I.ok,I.os,I.bare,I.base,let ⟨m,hn,hl'⟩:=I.loc;⟨m,hn,fun i x v e1 e2 e3=>hl' i x v e1 (w i v e2) e3⟩,I.cell,I.free,I.freeC,I.pin,I.hok,hl.trans I.len⟩
theorem Inv.pins_of {pins':List (Addr × Obj)} (I:Inv X pins σ H s) (h:∀ p∈pins',s.heap.get? p.1=some p.2∧H p.1=none∧p.1≠X.env.locals∧p.1 ∉ X.fs∧∀ v,p.2.data≠.cell v):Inv X pins' σ H s:=
  ⟨I.ok,I.os,I.bare,I.base,I.loc,I.cell,I.free,I.freeC,fun p hp=>(List.mem_append.mp hp).elim (fun z=>I.pin p (List.mem_append_left _ z)) (h p),I.hok,I.len⟩
theorem nodup_ix {N:List Str} (hN:N.Nodup) {i j:Nat} {x:Str} (a:N[i]?=some x) (b:N[j]?=some x):i=j:=by
  obtain ⟨h1,e1⟩:=List.getElem?_eq_some_iff.mp a
  obtain ⟨h2,e2⟩:=List.getElem?_eq_some_iff.mp b
  exact (List.getElem_inj hN).mp (e1.trans e2.symm)
theorem store_ok2 {M:Model} {A:Around} {E:Value→Shared→Prop} {i:Nat} {x:Str} {v:V} {u:Value} {Q:Unit→Shared→Prop} (I:Inv X pins σ H s) (hN:X.N.Nodup) (hi:X.N[i]?=some x) (hx:Loc X.env.scope x) (r:RelV v u)
    (h:∀ s',Inv X pins (σ.set i (some v)) H s'→(∃ a,Heap.SameBut a s.heap s'.heap∧(a=X.env.locals∨X.env.cells.lookup x=some a))→Q () s') (hf:X.fn x=true∨X.env.scope.names.lookup x=some .local:=by first | exact .inl rfl | exact .inr rfl | assumption):wpAny M A (storeName X.env x u) Q E s:=by
  obtain ⟨m,hn,hl⟩:=id I.loc
  have hcls:(X.env.scope.kind == .class || (X.env.scope.kind == .module && X.env.locals != X.env.globals))=false:=by rw [I.ok.kind];rfl
  have hiσ:i < σ.length:=by rw [I.len];exact (List.getElem?_eq_some_iff.mp hi).1
  have cne:=I.cne
  have tracked:∀ {a:Addr} {h':Heap},(∃ o,s.heap.get? a=some o∧H a=none)→Heap.SameBut a s.heap h'→HOk X.prog X.w H h':=fun {a h'} ha hs b ob e=>by
    obtain ⟨_,_,hfree⟩:=ha
    refine (I.hok b ob e).stay (fun c w' hc q=>(hs.2 c ?_).trans q) (fun _ q=>q) fun _ _ q=>q
    rintro rfl
    rcases hc with rfl | hc
    · rw [hfree] at e;cases e
    · rw [hfree] at hc;cases hc
  rcases hx with hk | hk
  · refine wpAny_storeName_local hk hn (fun h' hn' hs=>?_) hcls
    obtain ⟨oL,_,_,hoL,_⟩:=id hn
    refine h _ ⟨I.ok,I.os,I.bare,⟨fun b o e n hb hx=>?_,fun b o e n hb hx=>?_,I.base.free,fun b o e hx=>?_,I.base.tups,I.base.frzs,I.base.tbls⟩,⟨_,hn',fun j y v' e1 e2 e3=>?_⟩,fun y c e=>?_,I.free,I.freeC,fun p hp=>?_,tracked ⟨oL,hoL,I.free⟩ hs,by simpa using I.len⟩ ⟨_,hs,.inl rfl⟩
    · exact (hs.2 b (Nat.ne_of_lt (Nat.lt_of_lt_of_le (Heap.lt_size e) I.ok.above))).trans (I.base.keep b o e n hb hx)
    · obtain ⟨sl,e1⟩:=I.base.slot b o e n hb hx
      exact ⟨sl,(hs.2 b (Nat.ne_of_lt (Nat.lt_of_lt_of_le (Heap.lt_size e) I.ok.above))).trans e1⟩
    · obtain ⟨o',e1⟩:=I.base.there b o e hx
      exact ⟨o',(hs.2 b (Nat.ne_of_lt (Nat.lt_of_lt_of_le (Heap.lt_size e) I.ok.above))).trans e1⟩
    · by_cases hj:j=i
      · subst hj
        rw [hi] at e1;cases e1
        rw [List.getElem?_set_self hiσ] at e2
        cases e2
        exact ⟨u,r,.inl ⟨hk,by simp⟩⟩
      · rw [List.getElem?_set_ne (Ne.symm hj)] at e2
        obtain ⟨u',r',q⟩:=hl j y v' e1 e2 e3
        refine ⟨u',r',?_⟩
        rcases q with ⟨k,e⟩ | ⟨k,c,e,z⟩
        · refine .inl ⟨k,?_⟩
          have:y≠x:=fun e=>hj (nodup_ix hN e1 (e ▸ hi))
          simp [this,e]
        · exact .inr ⟨k,c,e,z.sameBut hs (cne y c e)⟩
    · obtain ⟨w',z⟩:=I.cell y c e
      exact ⟨w',z.sameBut hs (cne y c e)⟩
    · obtain ⟨e,n,ne,nf,d⟩:=I.pin p hp
      exact ⟨(hs.2 p.1 ne).trans e,n,ne,nf,d⟩
  · have hfn:X.fn x=true:=by
      rcases hf with z | z
      · exact z
      · rw [z] at hk;cases hk
    obtain ⟨c,hc⟩:=I.ok.has x (.inl hk)
    obtain ⟨w',z⟩:=I.cell x c hc
    refine wpAny_storeName_cell I.ok.kind hk hc z (fun h' hc' hs=>?_)
    obtain ⟨oc,hoc,hocd⟩:=id z
    refine h { s with heap:=h' } ⟨I.ok,I.os,I.bare,⟨fun b o e n hb hx=>?_,fun b o e n hb hx=>?_,I.base.free,fun b o e hx=>?_,I.base.tups,I.base.frzs,I.base.tbls⟩,⟨m,hn.sameBut hs (Ne.symm (cne x c hc)),fun j y v' e1 e2 e3=>?_⟩,fun y c' e=>?_,I.free,I.freeC,fun p hp=>?_,tracked ⟨oc,hoc,I.freeC x c hc⟩ hs,by simpa using I.len⟩ ⟨c,hs,.inr hc⟩
    · exact (hs.2 b (Nat.ne_of_lt (Nat.lt_of_lt_of_le (Heap.lt_size e) (I.ok.cab x c hfn hc)))).trans (I.base.keep b o e n hb hx)
    · obtain ⟨sl,e1⟩:=I.base.slot b o e n hb hx
      exact ⟨sl,(hs.2 b (Nat.ne_of_lt (Nat.lt_of_lt_of_le (Heap.lt_size e) (I.ok.cab x c hfn hc)))).trans e1⟩
    · obtain ⟨o',e1⟩:=I.base.there b o e hx
      exact ⟨o',(hs.2 b (Nat.ne_of_lt (Nat.lt_of_lt_of_le (Heap.lt_size e) (I.ok.cab x c hfn hc)))).trans e1⟩
    · by_cases hj:j=i
      · subst hj
        rw [hi] at e1;cases e1
        rw [List.getElem?_set_self hiσ] at e2
        cases e2
        exact ⟨u,r,.inr ⟨.inl hk,c,hc,hc'⟩⟩
      · rw [List.getElem?_set_ne (Ne.symm hj)] at e2
        obtain ⟨u',r',q⟩:=hl j y v' e1 e2 e3
        refine ⟨u',r',?_⟩
        rcases q with q | ⟨k,c',e,z'⟩
        · exact .inl q
        · refine .inr ⟨k,c',e,z'.sameBut hs ?_⟩
          rintro rfl
          exact hj (nodup_ix hN e1 (I.ok.inj _ _ _ e hc ▸ hi))
    · by_cases hcc:c'=c
      · subst hcc;exact ⟨_,hc'⟩
      · obtain ⟨w2,z2⟩:=I.cell y c' e
        exact ⟨w2,z2.sameBut hs hcc⟩
    · obtain ⟨e,n,ne,nf,d⟩:=I.pin p hp
      refine ⟨(hs.2 p.1 ?_).trans e,n,ne,nf,d⟩
      intro q
      rw [q,hoc] at e
      have q':oc=p.2:=Option.some.inj e
      exact d w' (by rw [← q'];exact hocd)
theorem store_ok {M:Model} {A:Around} {E:Value→Shared→Prop} {i:Nat} {x:Str} {v:V} {u:Value} {Q:Unit→Shared→Prop} (I:Inv X pins σ H s) (hN:X.N.Nodup) (hi:X.N[i]?=some x) (hx:Loc X.env.scope x) (r:RelV v u)
    (h:∀ s',Inv X pins (σ.set i (some v)) H s'→Q () s') (hf:X.fn x=true∨X.env.scope.names.lookup x=some .local:=by first | exact .inl rfl | exact .inr rfl | assumption):wpAny M A (storeName X.env x u) Q E s:=
  store_ok2 I hN hi hx r (fun s' I' _=>h s' I') hf
theorem Inv.call' {s':Shared} {ch:List Addr} (I:Inv X pins σ H s) (ho:s'.os=s.os) (u:Un (frs X.stack) ch H H' s.heap s'.heap) (hok:HOk X.prog X.w H' s'.heap) (hg:AllBare s'.gens)
    (hch:∀ b∈ch,(b∈X.ex∨X.s₀.heap.objs.size≤b)∧b≠X.env.locals∧(∀ x c,X.env.cells.lookup x=some c→c≠b)∧∀ p∈X.pn++pins,p.1≠b):Inv X pins σ H' s':=by
  obtain ⟨h',g',d',t',o'⟩:=s'
  have e:o'=s.os:=ho
  subst e
  exact I.call (g':=g') (t':=t') (d':=d') u hok hg hch
end
abbrev XK:=Value→Option Addr→Hp→Prop
abbrev St:=List (Option V)
abbrev VK:=V→Hp→Prop
abbrev TE:=St→Hp→VK→Prop
abbrev TT:=St→Hp→(Bool→Hp→Prop)→Prop
abbrev TA:=St→Hp→(List V→Hp→Prop)→Prop
structure Ends where
  nx:St→Hp→Prop
  rt:VK
  bk:St→Hp→Prop:=fun _ _=>False
  ct:St→Hp→Prop:=fun _ _=>False
abbrev TS:=Ends→St→Hp→Prop
def EP (X:Cx) (pins:List (Addr × Obj)) (σ:St) (Q:VK) (u:Value) (s':Shared):Prop:=∃ v H',Inv X pins σ H' s'∧RelV v u∧Q v H'
def TP (X:Cx) (pins:List (Addr × Obj)) (σ:St) (Q:Bool→Hp→Prop) (b:Bool) (s':Shared):Prop:=∃ H',Inv X pins σ H' s'∧Q b H'
def AP (X:Cx) (pins:List (Addr × Obj)) (σ:St) (Q:List V→Hp→Prop) (us:List Value) (s':Shared):Prop:=∃ vs H',Inv X pins σ H' s'∧Vals vs us∧Q vs H'
def SP (X:Cx) (pins:List (Addr × Obj)) (D:Ends) (f:Flow) (s':Shared):Prop:=
  match f with
  | .next=>∃ σ' H',Inv X pins σ' H' s'∧D.nx σ' H'
  | .brk=>∃ σ' H',Inv X pins σ' H' s'∧D.bk σ' H'
  | .cont=>∃ σ' H',Inv X pins σ' H' s'∧D.ct σ' H'
  | .ret u=>∃ v σ' H',Inv X pins σ' H' s'∧RelV v u∧D.rt v H'
def PE (X:Cx) (e:Expr) (t:TE):Prop:=
  ∀ (pins:List (Addr × Obj)) (s:Shared) (σ:St) (H:Hp) (Q:VK),Inv X pins σ H s→t σ H Q→wpAny (model X.prog X.w) X.A (eval e X.env) (EP X pins σ Q) X.xe s
def PT (X:Cx) (e:Expr) (t:TT):Prop:=
  ∀ (pins:List (Addr × Obj)) (s:Shared) (σ:St) (H:Hp) (Q:Bool→Hp→Prop),Inv X pins σ H s→t σ H Q→wpAny (model X.prog X.w) X.A (isTrue e X.env (eval e X.env)) (TP X pins σ Q) X.xe s
def PW (X:Cx) (e:Expr) (t:TT):Prop:=
  ∀ (whole:Sem Value) (pins:List (Addr × Obj)) (s:Shared) (σ:St) (H:Hp) (Q:Bool→Hp→Prop),Inv X pins σ H s→t σ H Q→wpAny (model X.prog X.w) X.A (isTrue e X.env whole) (TP X pins σ Q) X.xe s
theorem PW.pt {X:Cx} {e:Expr} {t:TT} (h:PW X e t):PT X e t:=h _
def PA (X:Cx) (es:List Expr) (t:TA):Prop:=
  ∀ (pos:Pos) (pins:List (Addr × Obj)) (s:Shared) (σ:St) (H:Hp) (Q:List V→Hp→Prop),Inv X pins σ H s→t σ H Q→wpAny (model X.prog X.w) X.A (spliced (backTo pos (starEach es X.env))) (AP X pins σ Q) X.xe s
def PS (X:Cx) (st:Stmt) (t:TS):Prop:=
  ∀ (pins:List (Addr × Obj)) (s:Shared) (σ:St) (H:Hp) (D:Ends),Inv X pins σ H s→t D σ H→wpAny (model X.prog X.w) X.A (exec st X.env) (SP X pins D) X.xe s
def PSs (X:Cx) (st:List Stmt) (t:TS):Prop:=
  ∀ (pins:List (Addr × Obj)) (s:Shared) (σ:St) (H:Hp) (D:Ends),Inv X pins σ H s→t D σ H→wpAny (model X.prog X.w) X.A (execs st X.env) (SP X pins D) X.xe s
theorem thn {α:Type} {t:Sem α} {Q Q':α→Shared→Prop} {M:Model} {A:Around} {E:Value→Shared→Prop} {s:Shared} (h:wpAny M A t Q E s) (hQ:∀ a s,Q a s→Q' a s):wpAny M A t Q' E s:=wpAny_mono h hQ fun _ _ x=>x
end L2
namespace L2
open PySem PySem.Spec PyProof.Rows
section
variable {X:Cx}
def tVar (i:Nat):TE:=fun σ H Q=>∃ v,σ[i]?=some (some v)∧Q v H
def tC (v:V):TE:=fun _ H Q=>Q v H
theorem pe_var {i:Nat} {x:Str} {pos:Pos} (hN:X.N[i]?=some x) (hv:Vis X.env.scope x) (hd:(x == ("__debug__" : Str))=false:=by decide) (hcd:(x == ("__classdict__" : Str))=false:=by decide):PE X (.Name x pos) (tVar i):=by
  intro pins s σ H Q I h
  obtain ⟨v,e,h⟩:=h
  obtain ⟨m,hn,hl⟩:=I.loc
  obtain ⟨u,r,l⟩:=hl i x v hN e hv
  have fin:EP X pins σ Q u s:=⟨v,H,I,r,h⟩
  rcases l with ⟨hk,hm⟩ | ⟨hk,c,hc,hcell⟩
  · exact wpAny_Name (wpAny_loadName_local I.ok.kind hk hn hm fin) hd
  · rcases hk with hk | hk
    · exact wpAny_Name (wpAny_loadName_cell I.ok.kind hk hc hcell fin) hd
    · exact wpAny_Name (wpAny_loadName_free I.ok.kind hk hc hcell fin hcd) hd
theorem pe_int {i j pos}:PE X (.Constant (.int i) j pos) (tC (.int i)):=fun _ _ _ H _ I h=>wpAny_Constant_int ⟨.int i,H,I.tok _,⟨_,rfl⟩,h⟩
theorem pe_bl {b j pos}:PE X (.Constant (.bool b) j pos) (tC (.bl b)):=fun _ _ _ H _ I h=>Constant_bool ⟨.bl b,H,I,rfl,h⟩
theorem pe_str {x j pos}:PE X (.Constant (.str x) j pos) (tC (.str x)):=fun _ _ _ H _ I h=>Calls.Constant_str ⟨.str x,H,I.tok _,⟨_,rfl⟩,h⟩
def Gl (X:Cx) (x:Str):Prop:=X.env.kindOf x=some .globalImplicit
theorem ld_glob {E:Value→Shared→Prop} {pins:List (Addr × Obj)} {s:Shared} {σ:St} {H:Hp} {x:Str} {u:Value} {pos:Pos} {Q:Value→Shared→Prop} (I:Inv X pins σ H s) (hg:Gl X x) (hm:X.mg x=some u) (h:Q u s)
    (hd:(x == ("__debug__" : Str))=false:=by decide):wpAny (model X.prog X.w) X.A (eval (.Name x pos) X.env) Q E s:=
  Calls.Name_function_global I.ok.kind hg (Calls.loadGlobal_global (by rw [I.ok.glob];exact I.mod.glob.keeps I.bk) hm h) hd
theorem ld_blt {E:Value→Shared→Prop} {pins:List (Addr × Obj)} {s:Shared} {σ:St} {H:Hp} {x:Str} {u:Value} {pos:Pos} {Q:Value→Shared→Prop} (I:Inv X pins σ H s) (hg:Gl X x) (hm:X.mg x=none) (hv:bootBuiltins x=some u) (h:Q u s)
    (hn:x ≠ "__name__" := by decide) (hd:(x == ("__debug__" : Str))=false:=by decide):wpAny (model X.prog X.w) X.A (eval (.Name x pos) X.env) Q E s:=by
  obtain ⟨mb,h1,h2⟩:=I.mod.blt
  exact Calls.Name_function_global I.ok.kind hg (Calls.loadGlobal_builtin (by rw [I.ok.glob];exact I.mod.glob.keeps I.bk) hm (by rw [I.ok.blt];exact h1.keeps I.bk) ((h2 x hn).trans hv) h) hd
theorem pe_glob {x:Str} {v:V} {u:Value} {pos:Pos} (hg:Gl X x) (hm:X.mg x=some u) (r:RelV v u) (hd:(x == ("__debug__" : Str))=false:=by decide):PE X (.Name x pos) (tC v):=
  fun _ _ _ H _ I h=>ld_glob I hg hm ⟨v,H,I,r,h⟩ hd
theorem pe_bltn {x:Str} {v:V} {u:Value} {pos:Pos} (hg:Gl X x) (hm:X.mg x=none) (hv:bootBuiltins x=some u) (r:RelV v u) (hn:x ≠ "__name__" := by decide) (hd:(x == ("__debug__" : Str))=false:=by decide):PE X (.Name x pos) (tC v):=
  fun _ _ _ H _ I h=>ld_blt I hg hm hv ⟨v,H,I,r,h⟩ hn hd
variable {a b:Expr} {ta tb:TE} {pos:Pos}
def tB (t:TE):TT:=fun σ H Q=>t σ H fun x H1=>∃ c,x=.bl c∧Q c H1
theorem pt_val {e:Expr} {t:TE} (h:PE X e t) (he:∀ whole,isTrue e X.env whole=(do let v ← whole;standAt e.pos;holding [v] (truthy v)):=by intro _;rfl):PT X e (tB t):=by
  intro pins s σ H Q I hw
  refine isTrue_plain (thn (h pins s σ H _ I hw) fun v s1 ⟨x,H1,I1,r1,q1⟩=>?_) (he _)
  obtain ⟨d,rfl,q⟩:=q1
  cases r1
  exact wpAny_truthy_bool ⟨H1,I1,q⟩
variable {tA tB':TT} {rest:List Expr}
def tAnd (t u:TT):TT:=fun σ H Q=>t σ H fun c H1=>if c=true then u σ H1 Q else Q false H1
def tOr (t u:TT):TT:=fun σ H Q=>t σ H fun c H1=>if c=true then Q true H1 else u σ H1 Q
def tNot (t:TT):TT:=fun σ H Q=>t σ H fun c H1=>Q (!c) H1
theorem pw_and1 (ha:PT X a tA):PW X (.BoolOp .And [a] pos) tA:=by
  intro wh pins s σ H Q I h
  refine isTrue_and (thn (ha pins s σ H Q I h) fun c s1 e=>?_)
  cases c with
  | true=>exact isTrue_and_nil e
  | false=>exact e
theorem pw_or1 (ha:PT X a tA):PW X (.BoolOp .Or [a] pos) tA:=by
  intro wh pins s σ H Q I h
  refine isTrue_or (thn (ha pins s σ H Q I h) fun c s1 e=>?_)
  cases c with
  | false=>exact isTrue_or_nil e
  | true=>exact e
theorem pw_and (ha:PT X a tA) (hb:PW X (.BoolOp .And (b :: rest) pos) tB'):PW X (.BoolOp .And (a :: b :: rest) pos) (tAnd tA tB'):=by
  intro wh pins s σ H Q I h
  refine isTrue_and (thn (ha pins s σ H _ I h) fun c s1 ⟨H1,I1,q1⟩=>?_)
  cases c with
  | true=>exact hb wh pins s1 σ H1 Q I1 q1
  | false=>exact ⟨H1,I1,q1⟩
theorem pw_or (ha:PT X a tA) (hb:PW X (.BoolOp .Or (b :: rest) pos) tB'):PW X (.BoolOp .Or (a :: b :: rest) pos) (tOr tA tB'):=by
  intro wh pins s σ H Q I h
  refine isTrue_or (thn (ha pins s σ H _ I h) fun c s1 ⟨H1,I1,q1⟩=>?_)
  cases c with
  | true=>exact ⟨H1,I1,q1⟩
  | false=>exact hb wh pins s1 σ H1 Q I1 q1
theorem pt_not (ha:PT X a tA):PT X (.UnaryOp .Not a pos) (tNot tA):=by
  intro pins s σ H Q I h
  exact isTrue_not (ha pins s σ H (fun c H1=>Q (!c) H1) I h)
def tAndV (ta tb:TE):TE:=fun σ H Q=>ta σ H fun x H1=>∃ c,x=.bl c∧if c=true then tb σ H1 Q else Q (.bl false) H1
def tOrV (ta tb:TE):TE:=fun σ H Q=>ta σ H fun x H1=>∃ c,x=.bl c∧if c=true then Q (.bl true) H1 else tb σ H1 Q
def tNotV (ta:TE):TE:=fun σ H Q=>ta σ H fun x H1=>∃ c,x=.bl c∧Q (.bl (!c)) H1
theorem pe_one {op} {t:TE} (h:PE X a t):PE X (.BoolOp op [a] pos) t:=fun pins s σ H Q I hw=>BoolOp_one (h pins s σ H Q I hw)
theorem pe_and (ha:PE X a ta) (hb:PE X (.BoolOp .And (b :: rest) pos) tb):PE X (.BoolOp .And (a :: b :: rest) pos) (tAndV ta tb):=by
  intro pins s σ H Q I h
  refine BoolOp_and (thn (ha pins s σ H _ I h) fun v s1 ⟨x,H1,I1,r1,q1⟩=>?_)
  obtain ⟨c,rfl,q1⟩:=q1
  cases r1
  refine wpAny_truthy_bool ?_
  cases c with
  | true=>exact hb pins s1 σ H1 Q I1 q1
  | false=>exact ⟨.bl false,H1,I1,rfl,q1⟩
theorem pe_or (ha:PE X a ta) (hb:PE X (.BoolOp .Or (b :: rest) pos) tb):PE X (.BoolOp .Or (a :: b :: rest) pos) (tOrV ta tb):=by
  intro pins s σ H Q I h
  refine BoolOp_or (thn (ha pins s σ H _ I h) fun v s1 ⟨x,H1,I1,r1,q1⟩=>?_)
  obtain ⟨c,rfl,q1⟩:=q1
  cases r1
  refine wpAny_truthy_bool ?_
  cases c with
  | false=>exact hb pins s1 σ H1 Q I1 q1
  | true=>exact ⟨.bl true,H1,I1,rfl,q1⟩
theorem pe_not (ha:PE X a ta):PE X (.UnaryOp .Not a pos) (tNotV ta):=by
  intro pins s σ H Q I h
  refine UnaryOp_ (thn (ha pins s σ H _ I h) fun v s1 ⟨x,H1,I1,r1,q1⟩=>?_)
  obtain ⟨c,rfl,q1⟩:=q1
  cases r1
  exact not_of (wpAny_truthy_bool ⟨.bl (!c),H1,I1,rfl,q1⟩)
def tIf (t:TT) (ta tb:TE):TE:=fun σ H Q=>t σ H fun c H1=>if c=true then ta σ H1 Q else tb σ H1 Q
theorem pe_ifExp {c:Expr} (hc:PT X c tA) (ha:PE X a ta) (hb:PE X b tb):PE X (.IfExp c a b pos) (tIf tA ta tb):=by
  intro pins s σ H Q I h
  refine wpAny_IfExp (thn (hc pins s σ H _ I h) fun d s1 ⟨H1,I1,q1⟩=>?_)
  cases d with
  | true=>exact ha pins s1 σ H1 Q I1 q1
  | false=>exact hb pins s1 σ H1 Q I1 q1
end
end L2
namespace L2
open PySem PySem.Spec PyProof.Rows
def SqL (K:PySem.W.Frag) (H:Hp) (a:Addr) (xs:List V):Prop:=
  Rd H a (.lst xs) ∨
    ∃ (o:Obj) (its:Array Value) (n:Nat),K.lookup a=some o∧o.cls=.type "list" ∧ o.dict=none∧o.data=.seq its n∧its.size≤sizeLine∧Vals xs its.toList
def SqT (K:PySem.W.Frag) (H:Hp) (a:Addr) (xs:List V):Prop:=
  Rd H a (.tup xs) ∨
    ∃ (o:Obj) (its:Array Value) (n:Nat),K.lookup a=some o∧o.cls=.type "tuple" ∧ o.data=.seq its n∧its.size≤sizeLine∧Vals xs its.toList
def absV:Value→Option V
  | .none=>some .non
  | .bool b=>some (.bl b)
  | .int i _=>some (.int i)
  | .str x _=>some (.str x)
  | .bytes b _=>some (.byt b)
  | .float b _=>some (.flt b)
  | .ref a=>some (.ref a)
  | .type n=>some (.ty n)
  | _=>none
theorem RelV.abs {x:V} {u:Value} (r:RelV x u):absV u=some x:=by
  cases x with
  | non=>cases r;rfl
  | bl _=>cases r;rfl
  | int _=>obtain ⟨t,rfl⟩:=r;rfl
  | str _=>obtain ⟨t,rfl⟩:=r;rfl
  | byt _=>obtain ⟨t,rfl⟩:=r;rfl
  | flt _=>obtain ⟨t,rfl⟩:=r;rfl
  | ref _=>cases r;rfl
  | ty _=>cases r;rfl
theorem RelV.inj {x y:V} {u:Value} (r:RelV x u) (q:RelV y u):x=y:=Option.some.inj (r.abs.symm.trans q.abs)
theorem Vals.inj:∀ {xs ys:List V} {us:List Value},Vals xs us→Vals ys us→xs=ys
  | _,_,_,.nil,.nil=>rfl
  | _,_,_,.cons r t,.cons r' t'=>by rw [r.inj r',Vals.inj t t']
section
variable {X:Cx} {pins:List (Addr × Obj)} {σ:St} {H:Hp} {s:Shared} {a:Addr} {xs ys:List V}
theorem SqL.of {K:PySem.W.Frag} (h:H a=some (.lst xs)):SqL K H a xs:=.inl (.inl h)
theorem SqT.of {K:PySem.W.Frag} (h:H a=some (.tup xs)):SqT K H a xs:=.inl (.inl h)
theorem Inv.list (I:Inv X pins σ H s) (h:SqL X.K H a xs):∃ its:List Value,Vals xs its∧PlainL s.heap a its.toArray∧xs.length≤sizeLine:=by
  rcases h with h | ⟨o,its,n,hk,hc,hd,hs,hz,r⟩
  · obtain ⟨z,its,n,r,e⟩:=h.ok I.hok
    exact ⟨its,r,⟨_,n,e,rfl,rfl,rfl⟩,z⟩
  · refine ⟨its.toList,r,⟨o,n,I.kIn a o hk,hc,hd,by simpa using hs⟩,?_⟩
    have e:=r.length
    simp only [Array.length_toList] at e
    omega
theorem Inv.tuple (I:Inv X pins σ H s) (h:SqT X.K H a xs):∃ its:List Value,Vals xs its∧IsTup s.heap a its.toArray∧xs.length≤sizeLine:=by
  rcases h with h | ⟨o,its,n,hk,hc,hs,hz,r⟩
  · obtain ⟨z,its,r,p⟩:=h.ok I.hok
    exact ⟨its,r,p,z.1⟩
  · refine ⟨its.toList,r,⟨o,I.kIn a o hk,hc,n,by simpa using hs⟩,?_⟩
    have e:=r.length
    simp only [Array.length_toList] at e
    omega
theorem Inv.list_inj (I:Inv X pins σ H s) (h:SqL X.K H a xs) (h':SqL X.K H a ys):xs=ys:=by
  obtain ⟨its,r,⟨o,n,e,_,_,d⟩,_⟩:=I.list h
  obtain ⟨its',r',⟨o',n',e',_,_,d'⟩,_⟩:=I.list h'
  rw [e] at e';cases e'
  rw [d] at d'
  injection d' with d1 _
  have:its=its':=by simpa using congrArg Array.toList d1
  subst this
  exact r.inj r'
theorem Inv.tuple_inj (I:Inv X pins σ H s) (h:SqT X.K H a xs) (h':SqT X.K H a ys):xs=ys:=by
  obtain ⟨its,r,⟨o,e,_,n,d⟩,_⟩:=I.tuple h
  obtain ⟨its',r',⟨o',e',_,n',d'⟩,_⟩:=I.tuple h'
  rw [e] at e';cases e'
  rw [d] at d'
  injection d' with d1 _
  have:its=its':=by simpa using congrArg Array.toList d1
  subst this
  exact r.inj r'
end
abbrev Cx.wish (X:Cx) (E:Value→Shared→Prop):Cx:={ X with xe:=E }
abbrev Cx.nox (X:Cx):Cx:=X.wish fun _ _=>False
theorem Cx.Ok.wish {X:Cx} (ok:X.Ok) (E:Value→Shared→Prop):(X.wish E).Ok:=
  ⟨ok.mod,ok.kind,ok.glob,ok.blt,ok.above,ok.inj,ok.has,ok.cab,ok.hd,ok.frames,ok.stk,ok.exf,ok.bs,ok.bsz,ok.noex,ok.exfs,ok.funs,ok.frf⟩
theorem Cx.Ok.unwish {X:Cx} {E:Value→Shared→Prop} (ok:(X.wish E).Ok):X.Ok:=
  ⟨ok.mod,ok.kind,ok.glob,ok.blt,ok.above,ok.inj,ok.has,ok.cab,ok.hd,ok.frames,ok.stk,ok.exf,ok.bs,ok.bsz,ok.noex,ok.exfs,ok.funs,ok.frf⟩
section
variable {X:Cx} {pins:List (Addr × Obj)} {σ:St} {H:Hp} {s:Shared} {E:Value→Shared→Prop}
theorem Inv.wish (I:Inv X pins σ H s) (E:Value→Shared→Prop):Inv (X.wish E) pins σ H s:=⟨I.ok.wish E,I.os,I.bare,I.base,I.loc,I.cell,I.free,I.freeC,I.pin,I.hok,I.len⟩
theorem Inv.unwish (I:Inv (X.wish E) pins σ H s):Inv X pins σ H s:=⟨I.ok.unwish,I.os,I.bare,I.base,I.loc,I.cell,I.free,I.freeC,I.pin,I.hok,I.len⟩
theorem SP.unwish {D:Ends} {f:Flow} {s':Shared} (h:SP (X.wish E) pins D f s'):SP X pins D f s':=by
  cases f with
  | next=>obtain ⟨σ',H',I,q⟩:=h;exact ⟨σ',H',I.unwish,q⟩
  | brk=>obtain ⟨σ',H',I,q⟩:=h;exact ⟨σ',H',I.unwish,q⟩
  | cont=>obtain ⟨σ',H',I,q⟩:=h;exact ⟨σ',H',I.unwish,q⟩
  | ret u=>obtain ⟨v,σ',H',I,r,q⟩:=h;exact ⟨v,σ',H',I.unwish,r,q⟩
theorem PSs.nox {st:List Stmt} {t:TS} (h:PSs X.nox st t):PSs X st t:=fun pins s σ H D I hw=>
  wpAny_mono (h pins s σ H D (I.wish _) hw) (fun _ _ q=>q.unwish) fun _ _ z=>False.elim z
end
section
variable {X:Cx} {st:Stmt} {rest:List Stmt} {t u:TS} {e:Expr} {te:TE} {pos:Pos}
def tNext:TS:=fun D σ H=>D.nx σ H
def tSeq (t u:TS):TS:=fun D σ H=>t { D with nx:=u D } σ H
theorem pss_nil:PSs X [] tNext:=fun _ _ σ H _ I h=>wpAny_execs_nil ⟨σ,H,I,h⟩
theorem pss_cons (h1:PS X st t) (h2:PSs X rest u):PSs X (st :: rest) (tSeq t u):=by
  intro pins s σ H D I h
  refine wpAny_execs_cons (thn (h1 pins s σ H { D with nx:=u D } I h) fun f s1 q=>?_)
  cases f with
  | next=>
    obtain ⟨σ',H',I',q⟩:=q
    exact h2 pins s1 σ' H' D I' q
  | ret v=>exact q
  | brk=>exact q
  | cont=>exact q
theorem pss_one (h1:PS X st t):PSs X [st] t:=by
  intro pins s σ H D I h
  refine wpAny_execs_cons (thn (h1 pins s σ H D I h) fun f s1 q=>?_)
  cases f with
  | next=>exact wpAny_execs_nil q
  | ret v=>exact q
  | brk=>exact q
  | cont=>exact q
theorem Inv.quiet {pins:List (Addr × Obj)} {σ:St} {H:Hp} {s:Shared} (I:Inv X pins σ H s):interactive X.env=false:=by simp [interactive,I.ok.kind]
def tDrop (te:TE):TS:=fun D σ H=>te σ H fun _ H1=>D.nx σ H1
theorem ps_expr (he:PE X e te) (hs:swapsWith e none pos.line X.env=pure false:=by rfl):PS X (.Expr e pos) (tDrop te):=by
  intro pins s σ H D I h
  exact wpAny_Expr_any (thn (he pins s σ H _ I h) fun v s1 ⟨x,H1,I1,r1,q1⟩=>⟨σ,H1,I1,q1⟩) I.quiet hs
def tRet (te:TE):TS:=fun D σ H=>te σ H D.rt
theorem ps_ret (he:PE X e te):PS X (.Return (some e) pos) (tRet te):=by
  intro pins s σ H D I h
  exact wpAny_Return_some (thn (he pins s σ H _ I h) fun v s1 ⟨x,H1,I1,r1,q1⟩=>⟨x,σ,H1,I1,r1,q1⟩)
def tIfS (c:TT) (t u:TS):TS:=fun D σ H=>c σ H fun b H1=>if b=true then t D σ H1 else u D σ H1
theorem ps_if {c:Expr} {a b:List Stmt} {tc:TT} (hc:PT X c tc) (ha:PSs X a t) (hb:PSs X b u):PS X (.If c a b pos) (tIfS tc t u):=by
  intro pins s σ H D I h
  refine wpAny_If (thn (hc pins s σ H _ I h) fun d s1 ⟨H1,I1,q1⟩=>?_)
  cases d with
  | true=>exact ha pins s1 σ H1 D I1 q1
  | false=>exact hb pins s1 σ H1 D I1 q1
end
abbrev TG:=V→St→Hp→(St→Hp→Prop)→Prop
abbrev TGs:=List V→St→Hp→(St→Hp→Prop)→Prop
def PG (X:Cx) (target:Expr) (t:TG):Prop:=
  ∀ (pins:List (Addr × Obj)) (s:Shared) (σ:St) (H:Hp) (v:V) (u:Value) (Q:St→Hp→Prop),Inv X pins σ H s→RelV v u→t v σ H Q →
    wpAny (model X.prog X.w) X.A (assign target X.env u) (fun _ s'=>∃ σ' H',Inv X pins σ' H' s'∧Q σ' H') X.xe s
def PGs (X:Cx) (ts:List Expr) (t:TGs):Prop:=
  ∀ (pins:List (Addr × Obj)) (s:Shared) (σ:St) (H:Hp) (vs:List V) (us:List Value) (Q:St→Hp→Prop),Inv X pins σ H s→Vals vs us→t vs σ H Q →
    wpAny (model X.prog X.w) X.A (assignInOrder ((assignEach ts X.env).map (·.2)) us) (fun _ s'=>∃ σ' H',Inv X pins σ' H' s'∧Q σ' H') X.xe s
abbrev TSet:=V→V→V→Hp→(Hp→Prop)→Prop
def PSet (X:Cx) (t:TSet):Prop:=
  ∀ (pins:List (Addr × Obj)) (s:Shared) (σ:St) (H:Hp) (o i v:V) (ov iv u:Value) (Q:Hp→Prop),Inv X pins σ H s→RelV o ov→RelV i iv→RelV v u→t o i v H Q →
    wpAny (model X.prog X.w) X.A (setItem ov iv u) (fun _ s'=>∃ H',Inv X pins σ H' s'∧Q H') X.xe s
abbrev TIp:=V→V→Hp→VK→Prop
def PIp (X:Cx) (op:Operator) (t:TIp):Prop:=
  ∀ (pins:List (Addr × Obj)) (s:Shared) (σ:St) (H:Hp) (x y:V) (v u:Value) (Q:VK),Inv X pins σ H s→RelV x v→RelV y u→t x y H Q →
    wpAny (model X.prog X.w) X.A (inplaceOp op v u) (EP X pins σ Q) X.xe s
section
variable {X:Cx} {pos:Pos}
def gName (i:Nat):TG:=fun v σ H Q=>Q (σ.set i (some v)) H
theorem pg_name {i:Nat} {x:Str} (hN:X.N.Nodup) (hi:X.N[i]?=some x) (hx:Loc X.env.scope x) (hf:X.fn x=true∨X.env.scope.names.lookup x=some .local:=by first | exact .inl rfl | exact .inr rfl | assumption):PG X (.Name x pos) (gName i):=by
  intro pins s σ H v u Q I r h
  exact wpAny_assign_Name (store_ok I hN hi hx r (fun s' I'=>⟨_,H,I',h⟩) hf)
def gNil:TGs:=fun vs σ H Q=>vs=[]∧Q σ H
def gCons (t:TG) (u:TGs):TGs:=fun vs σ H Q=>∃ v r,vs=v :: r∧t v σ H fun σ' H'=>u r σ' H' Q
theorem pgs_nil:PGs X [] gNil:=by
  intro pins s σ H vs us Q I r h
  obtain ⟨e,h⟩:=h
  subst e
  cases r
  exact assignInOrder_nil ⟨σ,H,I,h⟩
theorem pgs_cons {e:Expr} {es:List Expr} {t:TG} {u:TGs} (h1:PG X e t) (h2:PGs X es u)
    (hs:(assignEach (e :: es) X.env).map (·.2)=assign e X.env :: (assignEach es X.env).map (·.2):=by rfl):PGs X (e :: es) (gCons t u):=by
  intro pins s σ H vs us Q I r h
  obtain ⟨v,vr,e1,h⟩:=h
  subst e1
  cases r with
  | cons r rr=>
    rw [hs]
    refine assignInOrder_cons (thn (h1 pins s σ H _ _ _ I r h) fun _ s1 ⟨σ1,H1,I1,q1⟩=>?_)
    exact h2 pins s1 σ1 H1 _ _ Q I1 rr q1
def gTup (K:PySem.W.Frag) (n:Nat) (t:TGs):TG:=fun v σ H Q=>∃ a xs,v=.ref a∧SqT K H a xs∧xs.length=n∧t xs σ H Q
theorem pg_tup {es:List Expr} {k:Nat} {t:TGs} {n:Nat} (hc:X.calm=true) (h:PGs X es t)
    (hn:(assignEach es X.env).length=n:=by rfl) (hst:(assignEach es X.env).findIdx? (·.1)=none:=by rfl):PG X (.Tuple es k pos) (gTup X.K n t):=by
  intro pins s σ H v u Q I r hw
  obtain ⟨a,xs,e1,hq,hl,hw⟩:=hw
  subst e1
  cases r
  obtain ⟨its,rv,ht,hz⟩:=I.tuple hq
  refine assign_Tuple_tuple (I.ok.hd hc) ht (by simp [hn,← hl,rv.length]) hst fun h' hx=>?_
  have I1:Inv X pins σ H { s with heap:=h' }:=I.kept (t':=s.toks) fun b o e=>hx b o (Nat.ne_of_lt (Heap.lt_size e)) e
  exact h pins _ σ H xs _ Q I1 (by simpa using rv) hw
def gSub (to ti:TE) (t:TSet):TG:=fun v σ H Q=>to σ H fun o H1=>ti σ H1 fun i H2=>t o i v H2 fun H3=>Q σ H3
theorem pg_sub {o i:Expr} {to ti:TE} {t:TSet} (ho:PE X o to) (hi:PE X i ti) (hs:PSet X t)
    (ha:∀ v,assign (.Subscript o i pos) X.env v=(do
      let ov ← holding [v] (eval o X.env)
      let iv ← holding [v,ov] (eval i X.env)
      standAt pos
      holding [v,ov,iv] (setItem ov iv v)
      release [v,ov,iv] []):=by intro _;rfl):PG X (.Subscript o i pos) (gSub to ti t):=by
  intro pins s σ H v u Q I r h
  rw [ha]
  refine wpAny_bind (wpAny_holding (thn (ho pins s σ H _ I h) fun ov s1 ⟨x,H1,I1,r1,q1⟩=>?_))
  refine wpAny_bind (wpAny_holding (thn (hi pins s1 σ H1 _ I1 q1) fun iv s2 ⟨y,H2,I2,r2,q2⟩=>?_))
  refine wpAny_bind (wpAny_standAt (wpAny_bind (wpAny_holding (thn (hs pins s2 σ H2 x y v ov iv u _ I2 r1 r2 r q2) fun _ s3 ⟨H3,I3,q3⟩=>?_))))
  exact wpAny_release ⟨σ,H3,I3,q3⟩
def tAsg (te:TE) (g:TG):TS:=fun D σ H=>te σ H fun x H1=>g x σ H1 D.nx
theorem ps_asg {tg e:Expr} {te:TE} {g:TG} (he:PE X e te) (hg:PG X tg g) (hs:swapsWithSole [tg] e pos.line X.env=pure false:=by rfl) (hw:swappedStores [tg] e X.env=pure none:=by rfl)
    (h1:(assignEach [tg] X.env).map (·.2)=[assign tg X.env]:=by rfl):PS X (.Assign [tg] e pos) (tAsg te g):=by
  intro pins s σ H D I h
  refine wpAny_Assign_stores (thn (he pins s σ H _ I h) fun v s1 ⟨x,H1,I1,r1,q1⟩=>?_) hs hw
  rw [h1]
  exact thn (hg pins s1 σ H1 x v _ I1 r1 q1) fun _ s2 q=>q
theorem ps_set {i:Nat} {x:Str} {e:Expr} {te:TE} {pos':Pos} (hN:X.N.Nodup) (hi:X.N[i]?=some x) (hx:Loc X.env.scope x) (he:PE X e te) (hs:swapsWith e (some (.Name x pos')) pos.line X.env=pure false:=by rfl) (hf:X.fn x=true∨X.env.scope.names.lookup x=some .local:=by first | exact .inl rfl | exact .inr rfl | assumption) :
    PS X (.Assign [.Name x pos'] e pos) (tAsg te (gName i)):=by
  intro pins s σ H D I h
  refine wpAny_Assign_Name (thn (he pins s σ H _ I h) fun v s1 ⟨y,H1,I1,r1,q1⟩=>?_) hs
  exact store_ok I1 hN hi hx r1 (fun s2 I2=>⟨_,H1,I2,q1⟩) hf
def tAug (i:Nat) (te:TE) (ti:TIp):TS:=fun D σ H=>∃ x,σ[i]?=some (some x)∧te σ H fun y H1=>ti x y H1 fun z H2=>D.nx (σ.set i (some z)) H2
theorem ps_aug {i:Nat} {x:Str} {e:Expr} {te:TE} {op:Operator} {ti:TIp} {pos':Pos} (hN:X.N.Nodup) (hi:X.N[i]?=some x) (hx:Loc X.env.scope x) (he:PE X e te) (ho:PIp X op ti) (hf:X.fn x=true∨X.env.scope.names.lookup x=some .local:=by first | exact .inl rfl | exact .inr rfl | assumption) :
    PS X (.AugAssign (.Name x pos') op e pos) (tAug i te ti):=by
  intro pins s σ H D I h
  obtain ⟨v,e1,h⟩:=h
  obtain ⟨m,hn,hl⟩:=I.loc
  have vis:Vis X.env.scope x:=by rcases hx with k | k;exact .inl k;exact .inr (.inl k)
  obtain ⟨u,r,l⟩:=hl i x v hi e1 vis
  refine wpAny_AugAssign_Name ?_
  have go:wpAny (model X.prog X.w) X.A (eval e X.env) (fun w s₂=>wpAny (model X.prog X.w) X.A (inplaceOp op u w) (fun r s₃=>wpAny (model X.prog X.w) X.A (storeName X.env x r) (fun _=>SP X pins D .next) X.xe s₃) X.xe s₂) X.xe s:=by
    refine thn (he pins s σ H _ I h) fun w s1 ⟨y,H1,I1,r1,q1⟩=>?_
    refine thn (ho pins s1 σ H1 v y u w _ I1 r r1 q1) fun z s2 ⟨zv,H2,I2,r2,q2⟩=>?_
    exact store_ok I2 hN hi hx r2 (fun s3 I3=>⟨_,H2,I3,q2⟩) hf
  rcases l with ⟨hk,hm⟩ | ⟨hk,c,hc,hcell⟩
  · exact wpAny_loadName_local I.ok.kind hk hn hm go
  · rcases hk with hk | hk
    · exact wpAny_loadName_cell I.ok.kind hk hc hcell go
    · rcases hx with k | k
      · have:X.env.scope.names.lookup x=some .free:=hk
        rw [k] at this;cases this
      · have:X.env.scope.names.lookup x=some .free:=hk
        rw [k] at this;cases this
def ipI (f:Int→Int→Int):TIp:=fun x y H Q=>∃ i j,x=.int i∧y=.int j∧Q (.int (f i j)) H
theorem ip_add:PIp X .Add (ipI fun i j=>i+j):=by
  intro pins s σ H x y v u Q I r1 r2 h
  obtain ⟨i,j,e1,e2,q⟩:=h
  subst e1;subst e2
  obtain ⟨t,rfl⟩:=r1
  obtain ⟨t',rfl⟩:=r2
  exact iadd_int ⟨.int _,H,I.tok _,⟨_,rfl⟩,q⟩
end
section
variable {X:Cx} {pos:Pos}
def tWhile (c:TT) (tb:TS):TS:=fun D σ H=>∃ W:Nat→St→Hp→Prop,(∃ m,W m σ H)∧∀ m σ H,W m σ H →
  c σ H fun b H1=>if b=true then ∃ N:St→Hp→Prop,(∀ σ' H',N σ' H'→∃ m',m' < m∧W m' σ' H')∧tb { D with nx:=N,ct:=N,bk:=D.nx } σ H1 else D.nx σ H1
theorem ps_while {c:Expr} {body:List Stmt} {tc:TT} {tb:TS} (hp:PassesOwn (model X.prog X.w) X.A X.env X.xe) (hc:PT X c tc) (hb:PSs X body tb):PS X (.While c body [] pos) (tWhile tc tb):=by
  intro pins s σ H D I h
  obtain ⟨W,⟨m0,w0⟩,turn⟩:=h
  refine wpAny_While (codeAny_whileLoop (fun n s'=>∃ σ' H',Inv X pins σ' H' s'∧W n σ' H') ?_ m0 ⟨σ,H,I,w0⟩)
  rintro n s1 ⟨σ1,H1,I1,w1⟩
  refine wpAny_passesOwn hp (thn (hc pins s1 σ1 H1 _ I1 (turn n σ1 H1 w1)) fun b s2 ⟨H2,I2,q2⟩=>?_)
  cases b with
  | true=>
    obtain ⟨N,hN,q2⟩:=q2
    rw [if_pos rfl]
    refine wpAny_passesOwn hp (thn (hb pins s2 σ1 H2 _ I2 q2) fun f s3 q3=>?_)
    cases f with
    | next=>
      obtain ⟨σ3,H3,I3,n3⟩:=q3
      obtain ⟨m',hm,w3⟩:=hN σ3 H3 n3
      exact ⟨m',hm,σ3,H3,I3,w3⟩
    | cont=>
      obtain ⟨σ3,H3,I3,n3⟩:=q3
      obtain ⟨m',hm,w3⟩:=hN σ3 H3 n3
      exact ⟨m',hm,σ3,H3,I3,w3⟩
    | brk=>exact q3
    | ret v=>exact q3
  | false=>
    rw [if_neg Bool.false_ne_true]
    exact wpAny_execs_nil ⟨σ1,H2,I2,q2⟩
end
structure It where
  go:Nat→Hp→Prop
  yld:Nat→Hp→V→Hp→Prop
  stop:Nat→Hp→Prop
def FpOk (X:Cx) (pins:List (Addr × Obj)) (H:Hp) (b:Addr):Prop:=
  H b=none∧b≠X.env.locals∧b ∉ X.fs∧(b∈X.ex∨X.s₀.heap.objs.size≤b)∧(∀ x c,X.env.cells.lookup x=some c→c≠b)∧∀ p∈X.pn++pins,p.1≠b
theorem Inv.fpOk {X:Cx} {pins:List (Addr × Obj)} {σ:St} {H H':Hp} {s:Shared} {b:Addr} (I:Inv X pins σ H s) (hb:s.heap.objs.size≤b) (hn:H' b=none):FpOk X pins H' b:=by
  refine ⟨hn,Nat.ne_of_gt (Nat.lt_of_lt_of_le I.lt hb),I.nofs hb,.inr (Nat.le_trans I.sz hb),fun x c e z=>?_,fun p hp z=>?_⟩
  · obtain ⟨v,q⟩:=I.cell x c e
    exact absurd (Nat.lt_of_lt_of_le q.lt (by rw [z];exact hb)) (Nat.lt_irrefl _)
  · exact absurd (Nat.lt_of_lt_of_le (Heap.lt_size (I.pin p hp).1) (by rw [z];exact hb)) (Nat.lt_irrefl _)
structure Turn (P:Program) (w:World) (K:PySem.W.Frag) (tg:Expr) (J:It) (fp:List Addr) (it:Addr) (tn:Nat→Heap→Prop):Prop where
  mem:it∈fp
  obj:∀ i h,tn i h→∀ b∈fp,∃ o,h.get? b=some o∧∀ v,o.data≠.cell v
  keep:∀ i h h',tn i h→(∀ b∈fp,∀ o,h.get? b=some o→h'.get? b=some o)→tn i h'
  item:∀ (X:Cx),X.prog=P→X.w=w→X.K=K→X.calm=true→∀ (i:Nat) (pins:List (Addr × Obj)) (s:Shared) (σ:St) (H:Hp) (E:Value→Shared→Prop),Inv X pins σ H s→(∀ b∈fp,FpOk X pins H b)→tn i s.heap→J.go i H →
    wpAny (model P w) X.A (pyNext (.ref it)) (fun r s1=>∃ u,r=some u ∧
      wpAny (model P w) X.A (letOwnedTupleGo tg (.ref it) u) (fun _ s2=>∃ x H',Inv X pins σ H' s2∧RelV x u∧J.yld i H x H'∧tn (i+1) s2.heap∧∀ b∈fp,H' b=none) E s1) E s
  done:∀ (X:Cx),X.prog=P→X.w=w→X.K=K→X.calm=true→∀ (i:Nat) (pins:List (Addr × Obj)) (s:Shared) (σ:St) (H:Hp) (E:Value→Shared→Prop),Inv X pins σ H s→(∀ b∈fp,FpOk X pins H b)→tn i s.heap→J.stop i H →
    wpAny (model P w) X.A (pyNext (.ref it)) (fun r s1=>r=none∧Inv X pins σ H s1) E s
  self:∀ (A:Around) (i:Nat) (s:Shared) (Q:Value→Shared→Prop) (E:Value→Shared→Prop),tn i s.heap→Q (.ref it) s→wpAny (model P w) A (pyIter (.ref it)) Q E s
abbrev TI:=St→Hp→(It→Hp→Prop)→Prop
def PIE (X:Cx) (pins:List (Addr × Obj)) (σ:St) (tg:Expr) (R:It→Hp→Prop) (itv:Value) (s2:Shared):Prop:=
  ∃ (it:Addr) (fp:List Addr) (tn:Nat→Heap→Prop) (J:It) (H':Hp),itv=.ref it∧Inv X pins σ H' s2∧Turn X.prog X.w X.K tg J fp it tn∧tn 0 s2.heap∧(∀ b∈fp,FpOk X pins H' b)∧R J H'
def PI (X:Cx) (tg iter:Expr) (wi:TI):Prop:=
  ∀ (pins:List (Addr × Obj)) (s:Shared) (σ:St) (H:Hp) (R:It→Hp→Prop),Inv X pins σ H s→wi σ H R →
    wpAny (model X.prog X.w) X.A (eval iter X.env) (fun v s1=>wpAny (model X.prog X.w) X.A (pyIter v) (PIE X pins σ tg R) X.xe s1) X.xe s
theorem go_of {M:Model} {A:Around} {E:Value→Shared→Prop} {s:Shared} {tg:Expr} {it:Addr} {u:Value} {o:Obj} {n:String} {vs:Array Value} {Q:Unit→Shared→Prop} (ho:s.heap.get? it=some o) (hc:o.cls=.type n) (hd:o.data=.fields vs)
    (hn:["enumerate", "zip", "dict_itemiterator", "dict_reverseitemiterator", "odict_iterator", "itertools.zip_longest", "itertools.pairwise"].contains n=false) (hQ:Q () s):wpAny M A (letOwnedTupleGo tg (.ref it) u) Q E s:=by
  unfold letOwnedTupleGo
  cases tg <;> first
    | exact wpAny_pure hQ
    | (cases u <;> first
        | exact wpAny_pure hQ
        | (refine wpAny_bind (wpAny_load ho ?_)
           rw [hc,hd]
           show wpAny M A (if (["enumerate", "zip", "dict_itemiterator", "dict_reverseitemiterator", "odict_iterator", "itertools.zip_longest", "itertools.pairwise"].contains n && vs[0]? == some (rawInt _))=true then _ else _) Q E s
           rw [if_neg (by intro h;rw [hn,Bool.false_and] at h;cases h)]
           exact wpAny_pure hQ))
def Itl (K:PySem.W.Frag) (a:Addr):It:=
  ⟨fun i H=>∃ xs x,SqL K H a xs∧xs[i]?=some x,fun i H x H'=>H'=H∧∀ xs,SqL K H a xs→xs[i]?=some x,fun i H=>∃ xs,SqL K H a xs∧xs.length≤i⟩
def Itt (K:PySem.W.Frag) (a:Addr):It:=
  ⟨fun i H=>∃ xs x,SqT K H a xs∧xs[i]?=some x,fun i H x H'=>H'=H∧∀ xs,SqT K H a xs→xs[i]?=some x,fun i H=>∃ xs,SqT K H a xs∧xs.length≤i⟩
def Itr (lo:Int) (n:Nat):It:=⟨fun i _=>i < n,fun i H x H'=>H'=H∧x=.int (lo+i),fun i _=>n≤i⟩
theorem turn_list {P:Program} {w:World} {K:PySem.W.Frag} {tg:Expr} (a it:Addr):Turn P w K tg (Itl K a) [it] it (fun i h=>h.IsListIter it a i) where
  mem:=by simp
  obj:=fun i h st b hb=>by
    have e:b=it:=by simpa using hb
    subst e
    obtain ⟨o,e,c,d⟩:=st
    exact ⟨o,e,fun v z=>by rw [d] at z;cases z⟩
  keep:=fun i h h' st k=>st.at fun o e=>k it (by simp) o e
  item:=by
    intro X hP hw hK hc i pins s σ H E I hf st hg
    subst hP hw hK
    obtain ⟨xs,x,hq,hx⟩:=hg
    obtain ⟨its,rv,p,hz⟩:=I.list hq
    obtain ⟨u,hu,ru⟩:=rv.get hx
    obtain ⟨f0,f1,f2,f3,f4,f5⟩:=hf it (by simp)
    refine wpAny_pyNext_list_item st p.isList (x:=u) (by simpa using hu) fun h' st' sb=>?_
    have I1:Inv X pins σ H { s with heap:=h' }:=I.turned (t':=s.toks) (fun b o hb e=>(sb.2 b hb).trans e) f0 f1 f3 f4 f5
    obtain ⟨o,e,c,d⟩:=id st'
    exact ⟨u,rfl,go_of (s:={ s with heap:=h' }) e c d (by decide) ⟨x,H,I1,ru,⟨rfl,fun ys hy=>by rw [I.list_inj hy hq];exact hx⟩,st',fun b hb=>(hf b hb).1⟩⟩
  done:=by
    intro X hP hw hK hc i pins s σ H E I hf st hg
    subst hP hw hK
    obtain ⟨xs,hq,hx⟩:=hg
    obtain ⟨its,rv,p,hz⟩:=I.list hq
    obtain ⟨f0,f1,f2,f3,f4,f5⟩:=hf it (by simp)
    have hl:=rv.length
    exact wpAny_pyNext_list_end (I.ok.hd hc) st p.isList (by simp;omega) fun h' eb=>⟨rfl,I.turned (t':=s.toks) (fun b o hb e=>eb b o hb e) f0 f1 f3 f4 f5⟩
  self:=fun _ _ _ _ _ st h=>wpAny_pyIter_listiter st h
theorem turn_tuple {P:Program} {w:World} {K:PySem.W.Frag} {tg:Expr} (a it:Addr):Turn P w K tg (Itt K a) [it] it (fun i h=>h.IsTupleIter it a i) where
  mem:=by simp
  obj:=fun i h st b hb=>by
    have e:b=it:=by simpa using hb
    subst e
    obtain ⟨o,e,c,d⟩:=st
    exact ⟨o,e,fun v z=>by rw [d] at z;cases z⟩
  keep:=fun i h h' st k=>st.at fun o e=>k it (by simp) o e
  item:=by
    intro X hP hw hK hc i pins s σ H E I hf st hg
    subst hP hw hK
    obtain ⟨xs,x,hq,hx⟩:=hg
    obtain ⟨its,rv,p,hz⟩:=I.tuple hq
    obtain ⟨u,hu,ru⟩:=rv.get hx
    obtain ⟨f0,f1,f2,f3,f4,f5⟩:=hf it (by simp)
    refine wpAny_pyNext_tuple_item st (show s.heap.IsTuple a its.toArray from p) (x:=u) (by simpa using hu) fun h' st' sb=>?_
    have I1:Inv X pins σ H { s with heap:=h' }:=I.turned (t':=s.toks) (fun b o hb e=>(sb.2 b hb).trans e) f0 f1 f3 f4 f5
    obtain ⟨o,e,c,d⟩:=id st'
    exact ⟨u,rfl,go_of (s:={ s with heap:=h' }) e c d (by decide) ⟨x,H,I1,ru,⟨rfl,fun ys hy=>by rw [I.tuple_inj hy hq];exact hx⟩,st',fun b hb=>(hf b hb).1⟩⟩
  done:=by
    intro X hP hw hK hc i pins s σ H E I hf st hg
    subst hP hw hK
    obtain ⟨xs,hq,hx⟩:=hg
    obtain ⟨its,rv,p,hz⟩:=I.tuple hq
    obtain ⟨f0,f1,f2,f3,f4,f5⟩:=hf it (by simp)
    have hl:=rv.length
    exact wpAny_pyNext_tuple_end (I.ok.hd hc) st (show s.heap.IsTuple a its.toArray from p) (by simp;omega) fun h' eb=>⟨rfl,I.turned (t':=s.toks) (fun b o hb e=>eb b o hb e) f0 f1 f3 f4 f5⟩
  self:=fun _ _ _ _ _ st h=>wpAny_pyIter_tupleiter st h
theorem turn_range {P:Program} {w:World} {K:PySem.W.Frag} {tg:Expr} (it:Addr) (lo:Int) (n:Nat):Turn P w K tg (Itr lo n) [it] it (fun i h=>IsRangeIter h it (lo+(i:Nat) * 1) ((n:Int) - (i:Nat)) 1) where
  mem:=by simp
  obj:=fun i h st b hb=>by
    have e:b=it:=by simpa using hb
    subst e
    exact ⟨_,st,fun v z=>by
      have z':Data.fields _=Data.cell v:=z
      cases z'⟩
  keep:=fun i h h' st k=>k it (by simp) _ st
  item:=by
    intro X hP hw hK hc i pins s σ H E I hf st hg
    subst hP hw hK
    obtain ⟨f0,f1,f2,f3,f4,f5⟩:=hf it (by simp)
    have W:=Walks.range (prog:=X.prog) (w:=X.w) (I.ok.hd hc) it lo 1 n
    refine W.item i s _ _ hg st fun v h' tk hv st' kk=>?_
    obtain ⟨t,rfl⟩:=hv
    have I1:Inv X pins σ H { s with heap:=h',toks:=tk }:=I.turned (fun b o hb e=>kk b o (by simpa using hb) e) f0 f1 f3 f4 f5
    refine ⟨_,rfl,go_of (s:={ s with heap:=h',toks:=tk }) (n := "range_iterator") st' rfl rfl (by decide) ⟨.int (lo+i),H,I1,⟨t,?_⟩,⟨rfl,rfl⟩,st',fun b hb=>(hf b hb).1⟩⟩
    rw [Int.mul_one]
  done:=by
    intro X hP hw hK hc i pins s σ H E I hf st hg
    subst hP hw hK
    obtain ⟨f0,f1,f2,f3,f4,f5⟩:=hf it (by simp)
    exact wpAny_pyNext_range_end (I.ok.hd hc) st (by have:n≤i:=hg;omega) fun h' eb=>⟨rfl,I.turned (t':=s.toks) (fun b o hb e=>eb b o hb e) f0 f1 f3 f4 f5⟩
  self:=fun _ _ _ _ _ st h=>wpAny_pyIter_rangeiter st h
end L2
namespace L2
open PySem PySem.Spec PyProof.Rows
section
variable {X:Cx} {tg:Expr}
def iList (K:PySem.W.Frag) (tl:TE):TI:=fun σ H R=>tl σ H fun x H1=>∃ a,x=.ref a∧(∃ xs,SqL K H1 a xs)∧R (Itl K a) H1
def iTup (K:PySem.W.Frag) (tl:TE):TI:=fun σ H R=>tl σ H fun x H1=>∃ a,x=.ref a∧(∃ xs,SqT K H1 a xs)∧R (Itt K a) H1
theorem pi_list {l:Expr} {tl:TE} (hl:PE X l tl):PI X tg l (iList X.K tl):=by
  intro pins s σ H R I h
  refine thn (hl pins s σ H _ I h) fun v s1 ⟨x,H1,I1,r1,q1⟩=>?_
  obtain ⟨a,e,⟨xs,hq⟩,q⟩:=q1
  subst e
  cases r1
  obtain ⟨its,rv,p,hz⟩:=I1.list hq
  refine wpAny_pyIter_list p.isList ?_
  refine ⟨s1.heap.objs.size,[s1.heap.objs.size],_,_,H1,rfl,I1.kept (t':=s1.toks) fun b o e=>Heap.get?_push_of_some _ e,turn_list a _,⟨_,Heap.get?_push_size _ rfl,rfl,rfl⟩,fun b hb=>?_,q⟩
  have e:b=s1.heap.objs.size:=by simpa using hb
  subst e
  exact I1.fpOk (Nat.le_refl _) (I1.hok.fresh (Nat.le_refl _))
theorem pi_tup {l:Expr} {tl:TE} (hl:PE X l tl):PI X tg l (iTup X.K tl):=by
  intro pins s σ H R I h
  refine thn (hl pins s σ H _ I h) fun v s1 ⟨x,H1,I1,r1,q1⟩=>?_
  obtain ⟨a,e,⟨xs,hq⟩,q⟩:=q1
  subst e
  cases r1
  obtain ⟨its,rv,p,hz⟩:=I1.tuple hq
  refine wpAny_pyIter_tuple (show s1.heap.IsTuple a its.toArray from p) ?_
  refine ⟨s1.heap.objs.size,[s1.heap.objs.size],_,_,H1,rfl,I1.kept (t':=s1.toks) fun b o e=>Heap.get?_push_of_some _ e,turn_tuple a _,⟨_,Heap.get?_push_size _ rfl,rfl,rfl⟩,fun b hb=>?_,q⟩
  have e:b=s1.heap.objs.size:=by simpa using hb
  subst e
  exact I1.fpOk (Nat.le_refl _) (I1.hok.fresh (Nat.le_refl _))
theorem range_it {pins:List (Addr × Obj)} {σ:St} {H:Hp} {s:Shared} {R:It→Hp→Prop} {E:Value→Shared→Prop} {lo hi:Int} {t u v:Tok} {tk:Nat} (I:Inv X pins σ H s) (h1:-(2 ^ 62)≤lo) (h2:lo < 2 ^ 62) (h3:-(2 ^ 62)≤hi) (h4:hi < 2 ^ 62)
    (q:R (Itr lo (hi - lo).toNat) H):wpAny (model X.prog X.w) X.A (pyIter (.ref s.heap.objs.size)) (PIE X pins σ tg R) E { s with heap:=s.heap.push { cls:=.type "range", data:=.fields #[.int lo t,.int hi u,.int 1 v] },toks:=tk }:=by
  refine wpAny_pyIter_range (IsRange.new ..) (small_one h1 h2 h3 h4) ?_
  have I1:Inv X pins σ H { s with heap:=s.heap.push { cls:=.type "range", data:=.fields #[.int lo t,.int hi u,.int 1 v] },toks:=tk }:=I.kept fun b o e=>Heap.get?_push_of_some _ e
  refine ⟨(s.heap.push { cls:=.type "range", data:=.fields #[.int lo t,.int hi u,.int 1 v] }).objs.size,[(s.heap.push { cls:=.type "range", data:=.fields #[.int lo t,.int hi u,.int 1 v] }).objs.size],_,_,H,rfl,
    I1.kept (t':=tk) fun b o e=>Heap.get?_push_of_some _ e,turn_range _ lo (hi - lo).toNat,?_,fun b hb=>?_,q⟩
  · have e1:lo+((0:Nat):Int) * 1=lo:=by simp
    have e2:(((hi - lo).toNat:Nat):Int) - ((0:Nat):Int)=Builtin.Range.rangeSize lo hi 1:=by rw [rangeSize_one];split <;> omega
    show IsRangeIter _ _ (lo+((0:Nat):Int) * 1) ((((hi - lo).toNat:Nat):Int) - ((0:Nat):Int)) 1
    rw [e1,e2]
    exact Heap.get?_push_size _ rfl
  · have e:b=(s.heap.push { cls:=.type "range", data:=.fields #[.int lo t,.int hi u,.int 1 v] }).objs.size:=by simpa using hb
    subst e
    exact I1.fpOk (Nat.le_refl _) (I1.hok.fresh (Nat.le_refl _))
def iRng1 (ta:TA):TI:=fun σ H R=>ta σ H fun vs H1=>∃ j:Int,vs=[.int j]∧-(2 ^ 62)≤j∧j < 2 ^ 62∧R (Itr 0 j.toNat) H1
def iRng2 (ta:TA):TI:=fun σ H R=>ta σ H fun vs H1=>∃ i j:Int,vs=[.int i,.int j]∧(-(2 ^ 62)≤i∧i < 2 ^ 62∧-(2 ^ 62)≤j∧j < 2 ^ 62)∧R (Itr i (j - i).toNat) H1
theorem pi_range1 {a:Expr} {ta:TA} {p pos:Pos} (hg:Gl X "range") (hm:X.mg "range" = none) (ha:PA X [a] ta) (hs:starEach [a] X.env=[(false,eval a X.env)]:=by rfl):PI X tg (.Call (.Name "range" p) [a] [] pos) (iRng1 ta):=by
  intro pins s σ H R I h
  refine Call_ (ld_blt I hg hm boot_range (PyProof.Rows.callWith_type1 (thn (ha pos pins s σ H _ I h) fun us s1 ⟨vs,H1,I1,r1,q1⟩=>?_) hs rfl))
  obtain ⟨j,e,q1,q2,q⟩:=q1
  subst e
  cases r1 with
  | cons r rr=>
    cases rr
    obtain ⟨t,rfl⟩:=r
    exact call_range_1 (range_it I1 (by omega) (by omega) q1 q2 (by simpa using q))
theorem pi_range2 {a b:Expr} {ta:TA} {p pos:Pos} (hg:Gl X "range") (hm:X.mg "range" = none) (ha:PA X [a,b] ta) (hs:starEach [a,b] X.env=[(false,eval a X.env),(false,eval b X.env)]:=by rfl) (hs2:starEach [b] X.env=[(false,eval b X.env)]:=by rfl) :
    PI X tg (.Call (.Name "range" p) [a,b] [] pos) (iRng2 ta):=by
  intro pins s σ H R I h
  refine Call_ (ld_blt I hg hm boot_range (PyProof.Rows.callWith_type1 (thn (ha pos pins s σ H _ I h) fun us s1 ⟨vs,H1,I1,r1,q1⟩=>?_) (by rw [hs,hs2]) (by rw [hs2];rfl)))
  obtain ⟨i,j,e,⟨q1,q2,q3,q4⟩,q⟩:=q1
  subst e
  cases r1 with
  | cons r rr=>
    cases rr with
    | cons r' rr=>
      cases rr
      obtain ⟨t,rfl⟩:=r
      obtain ⟨t',rfl⟩:=r'
      exact call_range_2 (range_it I1 q1 q2 q3 q4 q)
def tFor (wi:TI) (g:TG) (tb:TS):TS:=fun D σ H=>wi σ H fun J H1=>∃ W:Nat→Nat→St→Hp→Prop,(∃ m,W 0 m σ H1)∧∀ i m σ H,W i m σ H →
  (J.stop i H∧D.nx σ H)∨(J.go i H∧∃ N:St→Hp→Prop,(∀ σ' H',N σ' H'→∃ m',m' < m∧W (i+1) m' σ' H')∧∀ x H',J.yld i H x H'→g x σ H' fun σ2 H2=>tb { D with nx:=N,ct:=N,bk:=D.nx } σ2 H2)
def pinsAt (fp:List Addr) (h:Heap):List (Addr × Obj):=fp.filterMap fun b=>(h.get? b).map fun o=>(b,o)
theorem mem_pinsAt {fp:List Addr} {h:Heap} {b:Addr} {o:Obj} (hb:b∈fp) (e:h.get? b=some o):(b,o)∈pinsAt fp h:=List.mem_filterMap.mpr ⟨b,hb,by rw [e];rfl⟩
theorem of_pinsAt {fp:List Addr} {h:Heap} {p:Addr × Obj} (hp:p∈pinsAt fp h):p.1∈fp∧h.get? p.1=some p.2:=by
  obtain ⟨b,hb,e⟩:=List.mem_filterMap.mp hp
  cases q:h.get? b with
  | none=>rw [q] at e;cases e
  | some o=>
    rw [q] at e
    have e':(b,o)=p:=Option.some.inj e
    subst e'
    exact ⟨hb,q⟩
theorem Inv.pinned {pins:List (Addr × Obj)} {σ:St} {H:Hp} {s:Shared} {fp:List Addr} (I:Inv X pins σ H s) (hf:∀ b∈fp,FpOk X pins H b) (ho:∀ b∈fp,∃ o,s.heap.get? b=some o∧∀ v,o.data≠.cell v):Inv X (pins++pinsAt fp s.heap) σ H s:=
  I.pins_of fun p hp=>(List.mem_append.mp hp).elim (fun z=>I.pin p (List.mem_append_right _ z)) fun z=>by
    obtain ⟨hb,e⟩:=of_pinsAt z
    obtain ⟨f0,f1,f2,_⟩:=hf p.1 hb
    obtain ⟨o,e',d⟩:=ho p.1 hb
    rw [e] at e';cases e'
    exact ⟨e,f0,f1,f2,d⟩
theorem Inv.unpinned {pins pl:List (Addr × Obj)} {σ:St} {H:Hp} {s:Shared} (I:Inv X (pins++pl) σ H s):Inv X pins σ H s:=I.pins_of fun p hp=>I.pin p (List.mem_append_right _ (List.mem_append_left _ hp))
theorem ps_for {iter:Expr} {body:List Stmt} {wi:TI} {g:TG} {tb:TS} {pos:Pos} (hp:PassesOwn (model X.prog X.w) X.A X.env X.xe) (hc:X.calm=true) (hi:PI X tg iter wi) (hg:PG X tg g) (hb:PSs X body tb)
    (hs:∀ x,foldedSetIterable iter X.env x=pure x:=by intro _;rfl):PS X (.For tg iter body [] pos) (tFor wi g tb):=by
  intro pins s σ H D I h
  refine wpAny_For (thn (hi pins s σ H _ I h) fun v s1 h1=>thn h1 fun itv s2 h2=>?_) hs
  obtain ⟨it,fp,tn,J,H2,e,I2,T,st2,f2,W,⟨m0,w0⟩,turn⟩:=h2
  subst e
  have stat:∀ {H':Hp},(∀ b∈fp,H' b=none)→∀ b∈fp,FpOk X pins H' b:=fun hn b hb=>⟨hn b hb,(f2 b hb).2⟩
  refine codeAny_forLoop_any (fun n s'=>∃ i σ' H',Inv X pins σ' H' s'∧tn i s'.heap∧(∀ b∈fp,H' b=none)∧W i n σ' H') ?_ m0 ⟨0,σ,H2,I2,st2,fun b hb=>(f2 b hb).1,w0⟩
  rintro n s3 ⟨i,σ3,H3,I3,st3,fr3,w3⟩
  rcases turn i n σ3 H3 w3 with ⟨stop,qn⟩ | ⟨go,N,hN,step⟩
  · refine wpAny_passesOwn hp (thn (T.done X rfl rfl rfl hc i pins s3 σ3 H3 X.xe I3 (stat fr3) st3 stop) fun r s4 ⟨hr,I4⟩=>?_)
    subst hr
    exact wpAny_execs_nil ⟨σ3,H3,I4,qn⟩
  · refine wpAny_passesOwn hp (thn (T.item X rfl rfl rfl hc i pins s3 σ3 H3 X.xe I3 (stat fr3) st3 go) fun r s4 ⟨u,hr,h4⟩=>?_)
    subst hr
    refine wpAny_passesOwn hp (thn h4 fun _ s5 ⟨x,H5,I5,r5,y5,st5,fr5⟩=>?_)
    have I5':=I5.pinned (stat fr5) (T.obj _ _ st5)
    refine wpAny_passesOwn hp (thn (hg _ s5 σ3 H5 x u _ I5' r5 (step x H5 y5)) fun _ s6 ⟨σ6,H6,I6,q6⟩=>?_)
    refine wpAny_passesOwn hp (thn (hb _ s6 σ6 H6 _ I6 q6) fun f s7 q7=>?_)
    have again:∀ {σ7:St} {H7:Hp},Inv X (pins++pinsAt fp s5.heap) σ7 H7 s7→N σ7 H7→∃ m,m < n∧∃ i σ' H',Inv X pins σ' H' s7∧tn i s7.heap∧(∀ b∈fp,H' b=none)∧W i m σ' H':=fun {σ7 H7} I7 n7=>by
      obtain ⟨m',hm,w7⟩:=hN σ7 H7 n7
      refine ⟨m',hm,i+1,σ7,H7,I7.unpinned,T.keep _ _ _ st5 fun b hb o e=>(I7.pin (b,o) (List.mem_append_right _ (List.mem_append_right _ (mem_pinsAt hb e)))).1,fun b hb=>?_,w7⟩
      obtain ⟨o,e,d⟩:=T.obj _ _ st5 b hb
      exact (I7.pin (b,o) (List.mem_append_right _ (List.mem_append_right _ (mem_pinsAt hb e)))).2.1
    cases f with
    | next=>obtain ⟨σ7,H7,I7,n7⟩:=q7;exact again I7 n7
    | cont=>obtain ⟨σ7,H7,I7,n7⟩:=q7;exact again I7 n7
    | brk=>obtain ⟨σ7,H7,I7,q7⟩:=q7;exact ⟨σ7,H7,I7.unpinned,q7⟩
    | ret v=>obtain ⟨x7,σ7,H7,I7,r7,q7⟩:=q7;exact ⟨x7,σ7,H7,I7.unpinned,r7,q7⟩
end
theorem for_list {K:PySem.W.Frag} {a:Addr} {xs:List V} {g:TG} {tb:TS} {D:Ends} {σ:St} {H:Hp} (Pv:Nat→St→Hp→Prop) (h0:Pv 0 σ H) (hl:∀ i σ H,i≤xs.length→Pv i σ H→SqL K H a xs)
    (hs:∀ i x σ H,xs[i]?=some x→Pv i σ H→g x σ H fun σ2 H2=>tb { D with nx:=Pv (i+1),ct:=Pv (i+1),bk:=D.nx } σ2 H2) (hd:∀ σ H,Pv xs.length σ H→D.nx σ H) :
    ∃ W:Nat→Nat→St→Hp→Prop,(∃ m,W 0 m σ H)∧∀ i m σ H,W i m σ H →
      ((Itl K a).stop i H∧D.nx σ H)∨((Itl K a).go i H∧∃ N:St→Hp→Prop,(∀ σ' H',N σ' H'→∃ m',m' < m∧W (i+1) m' σ' H')∧∀ x H',(Itl K a).yld i H x H'→g x σ H' fun σ2 H2=>tb { D with nx:=N,ct:=N,bk:=D.nx } σ2 H2):=by
  refine ⟨fun i m σ H=>m=xs.length - i∧i≤xs.length∧Pv i σ H,⟨xs.length,by simp,Nat.zero_le _,h0⟩,?_⟩
  rintro i m σ H ⟨rfl,hi,p⟩
  have q:=hl i σ H hi p
  by_cases hlt:i < xs.length
  · refine .inr ⟨⟨xs,xs[i],q,by simp [hlt]⟩,Pv (i+1),fun σ' H' p'=>⟨xs.length - (i+1),by omega,rfl,hlt,p'⟩,fun x H' y=>?_⟩
    obtain ⟨e,y⟩:=y
    subst e
    exact hs i x σ _ (y xs q) p
  · have e:i=xs.length:=by omega
    subst e
    exact .inl ⟨⟨xs,q,Nat.le_refl _⟩,hd σ H p⟩
theorem for_range {lo:Int} {n:Nat} {g:TG} {tb:TS} {D:Ends} {σ:St} {H:Hp} (Pv:Nat→St→Hp→Prop) (h0:Pv 0 σ H)
    (hs:∀ i σ H,i < n→Pv i σ H→g (.int (lo+i)) σ H fun σ2 H2=>tb { D with nx:=Pv (i+1),ct:=Pv (i+1),bk:=D.nx } σ2 H2) (hd:∀ σ H,Pv n σ H→D.nx σ H) :
    ∃ W:Nat→Nat→St→Hp→Prop,(∃ m,W 0 m σ H)∧∀ i m σ H,W i m σ H →
      ((Itr lo n).stop i H∧D.nx σ H)∨((Itr lo n).go i H∧∃ N:St→Hp→Prop,(∀ σ' H',N σ' H'→∃ m',m' < m∧W (i+1) m' σ' H')∧∀ x H',(Itr lo n).yld i H x H'→g x σ H' fun σ2 H2=>tb { D with nx:=N,ct:=N,bk:=D.nx } σ2 H2):=by
  refine ⟨fun i m σ H=>m=n - i∧i≤n∧Pv i σ H,⟨n,by simp,Nat.zero_le _,h0⟩,?_⟩
  rintro i m σ H ⟨rfl,hi,p⟩
  by_cases hlt:i < n
  · refine .inr ⟨hlt,Pv (i+1),fun σ' H' p'=>⟨n - (i+1),by omega,rfl,hlt,p'⟩,fun x H' y=>?_⟩
    obtain ⟨e,y⟩:=y
    subst e y
    exact hs i σ _ hlt p
  · have e:i=n:=by omega
    subst e
    exact .inl ⟨Nat.le_refl _,hd σ H p⟩
theorem while_by {c:TT} {tb:TS} {D:Ends} {σ:St} {H:Hp} (Pv:St→Hp→Prop) (μ:St→Hp→Nat) (h0:Pv σ H)
    (hs:∀ σ H,Pv σ H→c σ H fun b H1=>if b=true then tb { D with nx:=fun σ' H'=>Pv σ' H'∧μ σ' H' < μ σ H,ct:=fun σ' H'=>Pv σ' H'∧μ σ' H' < μ σ H,bk:=D.nx } σ H1 else D.nx σ H1)
    (mono:∀ σ H Q Q',(∀ b H1,Q b H1→Q' b H1)→c σ H Q→c σ H Q'):tWhile c tb D σ H:=by
  refine ⟨fun m σ H=>m=μ σ H∧Pv σ H,⟨_,rfl,h0⟩,?_⟩
  rintro m σ H ⟨rfl,p⟩
  refine mono σ H _ _ (fun b H1 q=>?_) (hs σ H p)
  cases b with
  | true=>exact ⟨_,fun σ' H' ⟨p',l⟩=>⟨_,l,rfl,p'⟩,q⟩
  | false=>exact q
end L2
namespace L2
open PySem PySem.Spec PyProof.Rows
abbrev R2:=V→V→Hp→VK→Prop
def OpR (X:Cx) (f:Value→Value→Sem Value) (r:R2):Prop:=
  ∀ (pins:List (Addr × Obj)) (s:Shared) (σ:St) (H:Hp) (x y:V) (v u:Value) (Q:VK),Inv X pins σ H s→RelV x v→RelV y u→r x y H Q →
    wpAny (model X.prog X.w) X.A (f v u) (EP X pins σ Q) X.xe s
def UnR (X:Cx) (f:Value→Sem Value) (r:V→Hp→VK→Prop):Prop:=
  ∀ (pins:List (Addr × Obj)) (s:Shared) (σ:St) (H:Hp) (x:V) (v:Value) (Q:VK),Inv X pins σ H s→RelV x v→r x H Q →
    wpAny (model X.prog X.w) X.A (f v) (EP X pins σ Q) X.xe s
def CallR (X:Cx) (f:Value) (r:List V→Hp→VK→Prop):Prop:=
  ∀ (pins:List (Addr × Obj)) (s:Shared) (σ:St) (H:Hp) (xs:List V) (us:List Value) (Q:VK),Inv X pins σ H s→Vals xs us→r xs H Q →
    wpAny (model X.prog X.w) X.A (call f us) (EP X pins σ Q) X.xe s
def tOp (r:R2) (ta tb:TE):TE:=fun σ H Q=>ta σ H fun x H1=>tb σ H1 fun y H2=>r x y H2 Q
def tUn (r:V→Hp→VK→Prop) (ta:TE):TE:=fun σ H Q=>ta σ H fun x H1=>r x H1 Q
def rI (C:Int→Int→Prop) (g:Int→Int→V):R2:=fun x y H Q=>∃ i j,x=.int i∧y=.int j∧C i j∧Q (g i j) H
def rI0 (g:Int→Int→V):R2:=fun x y H Q=>∃ i j,x=.int i∧y=.int j∧Q (g i j) H
def rU (g:Int→V):V→Hp→VK→Prop:=fun x H Q=>∃ i,x=.int i∧Q (g i) H
section
variable {X:Cx} {a b c:Expr} {ta tb tc:TE} {pos:Pos}
theorem binT (ha:PE X a ta) (hb:PE X b tb) {pins:List (Addr × Obj)} {s:Shared} {σ:St} {H:Hp} {R:V→V→Hp→Prop} (I:Inv X pins σ H s)
    (h:ta σ H fun x H1=>tb σ H1 fun y H2=>R x y H2) {Q:Value→Shared→Prop} {f:Value→Value→Sem Value}
    (hf:∀ v u s2 x y H2,Inv X pins σ H2 s2→RelV x v→RelV y u→R x y H2→wpAny (model X.prog X.w) X.A (f v u) Q X.xe s2) :
    wpAny (model X.prog X.w) X.A (eval a X.env) (fun v s₁=>wpAny (model X.prog X.w) X.A (eval b X.env) (fun u s₂=>wpAny (model X.prog X.w) X.A (f v u) Q X.xe s₂) X.xe s₁) X.xe s:=by
  refine thn (ha pins s σ H _ I h) fun v s1 ⟨x,H1,I1,r1,q1⟩=>?_
  refine thn (hb pins s1 σ H1 _ I1 q1) fun u s2 ⟨y,H2,I2,r2,q2⟩=>?_
  exact hf v u s2 x y H2 I2 r1 r2 q2
theorem pe_op {op:Operator} {r:R2} (ho:OpR X (binaryOp op) r) (ha:PE X a ta) (hb:PE X b tb):PE X (.BinOp a op b pos) (tOp r ta tb):=by
  intro pins s σ H Q I h
  exact wpAny_BinOp (binT ha hb I h fun v u s2 x y H2 I2 rx ry q=>ho pins s2 σ H2 x y v u Q I2 rx ry q)
theorem pe_un {op:UnaryOp} {r:V→Hp→VK→Prop} (ho:UnR X (unaryOp op) r) (ha:PE X a ta):PE X (.UnaryOp op a pos) (tUn r ta):=by
  intro pins s σ H Q I h
  exact UnaryOp_ (thn (ha pins s σ H _ I h) fun v s1 ⟨x,H1,I1,r1,q1⟩=>ho pins s1 σ H1 x v Q I1 r1 q1)
theorem opI {f:Value→Value→Sem Value} {C:Int→Int→Prop} {g:Int→Int→Int}
    (rule:∀ (i j:Int) (t u:Tok) (s:Shared) (Q:Value→Shared→Prop) (E:Value→Shared→Prop),C i j→Q (.int (g i j) s.toks) { s with toks:=s.toks+1 }→wpAny (model X.prog X.w) X.A (f (.int i t) (.int j u)) Q E s) :
    OpR X f (rI C fun i j=>.int (g i j)):=by
  intro pins s σ H x y v u Q I rx ry h
  obtain ⟨i,j,rfl,rfl,hc,q⟩:=h
  obtain ⟨t,rfl⟩:=rx
  obtain ⟨t',rfl⟩:=ry
  exact rule i j t t' s _ _ hc ⟨.int (g i j),H,I.tok _,⟨_,rfl⟩,q⟩
theorem opI0 {f:Value→Value→Sem Value} {g:Int→Int→Int}
    (rule:∀ (i j:Int) (t u:Tok) (s:Shared) (Q:Value→Shared→Prop) (E:Value→Shared→Prop),Q (.int (g i j) s.toks) { s with toks:=s.toks+1 }→wpAny (model X.prog X.w) X.A (f (.int i t) (.int j u)) Q E s) :
    OpR X f (rI0 fun i j=>.int (g i j)):=by
  intro pins s σ H x y v u Q I rx ry h
  obtain ⟨i,j,rfl,rfl,q⟩:=h
  obtain ⟨t,rfl⟩:=rx
  obtain ⟨t',rfl⟩:=ry
  exact rule i j t t' s _ _ ⟨.int (g i j),H,I.tok _,⟨_,rfl⟩,q⟩
theorem opB0 {f:Value→Value→Sem Value} {g:Int→Int→Bool}
    (rule:∀ (i j:Int) (t u:Tok) (s:Shared) (Q:Value→Shared→Prop) (E:Value→Shared→Prop),Q (.bool (g i j)) s→wpAny (model X.prog X.w) X.A (f (.int i t) (.int j u)) Q E s) :
    OpR X f (rI0 fun i j=>.bl (g i j)):=by
  intro pins s σ H x y v u Q I rx ry h
  obtain ⟨i,j,rfl,rfl,q⟩:=h
  obtain ⟨t,rfl⟩:=rx
  obtain ⟨t',rfl⟩:=ry
  exact rule i j t t' s _ _ ⟨.bl (g i j),H,I,rfl,q⟩
def CDiv (i j:Int):Prop:=0 < j∧j < 1073741824
def CPow (i j:Int):Prop:=0≤j∧j≤1000000∧i.natAbs < 2 ^ 64
def CMul (i j:Int):Prop:=(-(2 ^ 64) < i∧i < 2 ^ 64)∨(-(2 ^ 64) < j∧j < 2 ^ 64)
theorem CMul.ok {i j:Int} (h:CMul i j):IntMulOk i j:=by
  rcases h with ⟨h1,h2⟩ | ⟨h1,h2⟩
  · exact .of_left (intBits_le_64 h1 h2)
  · exact .of_right (intBits_le_64 h1 h2)
theorem op_add:OpR X (binaryOp .Add) (rI0 fun i j=>.int (i+j)):=opI0 fun _ _ _ _ _ _ _ q=>add_int q
theorem op_sub:OpR X (binaryOp .Sub) (rI0 fun i j=>.int (i - j)):=opI0 fun _ _ _ _ _ _ _ q=>sub_int q
theorem op_mul:OpR X (binaryOp .Mult) (rI CMul fun i j=>.int (i * j)):=opI fun _ _ _ _ _ _ _ hc q=>mul_int q hc.ok
theorem op_fdiv:OpR X (binaryOp .FloorDiv) (rI CDiv fun i j=>.int (i / j)):=opI fun i j _ _ _ _ _ hc q=>by
  have h1:(0:Int) < j:=hc.1
  have h2:j < 1073741824:=hc.2
  exact floordiv_int (by omega) (by rw [Int.fdiv_eq_ediv_of_nonneg i (by omega)];exact q) (.inl (PyProof.noPylong_small (by omega)))
theorem op_mod:OpR X (binaryOp .Mod) (rI (fun _ j=>0 < j) fun i j=>.int (i % j)):=opI fun i j _ _ _ _ _ hc q=>by
  have h1:(0:Int) < j:=hc
  exact mod_int' (by omega) (by rw [Int.fmod_eq_emod_of_nonneg i (by omega)];exact q)
theorem op_pow:OpR X (binaryOp .Pow) (rI CPow fun i j=>.int (i ^ j.toNat)):=opI fun _ _ _ _ _ _ _ hc q=>pow_int_small hc.1 hc.2.1 hc.2.2 q
theorem unI {f:Value→Sem Value} {g:Int→Int}
    (rule:∀ (i:Int) (t:Tok) (s:Shared) (Q:Value→Shared→Prop) (E:Value→Shared→Prop),Q (.int (g i) s.toks) { s with toks:=s.toks+1 }→wpAny (model X.prog X.w) X.A (f (.int i t)) Q E s) :
    UnR X f (rU fun i=>.int (g i)):=by
  intro pins s σ H x v Q I rx h
  obtain ⟨i,rfl,q⟩:=h
  obtain ⟨t,rfl⟩:=rx
  exact rule i t s _ _ ⟨.int (g i),H,I.tok _,⟨_,rfl⟩,q⟩
theorem un_neg:UnR X (unaryOp .USub) (rU fun i=>.int (-i)):=unI fun _ _ _ _ _ q=>neg_int q
end
def scal:V→V→Bool
  | .non,.non=>true | .non,.int _=>true | .int _,.non=>true | .non,.bl _=>true | .bl _,.non=>true | .non,.str _=>true | .str _,.non=>true
  | .int _,.int _=>true | .bl _,.bl _=>true | .str _,.str _=>true | .byt _,.byt _=>true
  | .int _,.str _=>true | .str _,.int _=>true | .bl _,.str _=>true | .str _,.bl _=>true
  | _,_=>false
def rEq:R2:=fun x y H Q=>scal x y=true∧Q (.bl (decide (x=y))) H
def rNe:R2:=fun x y H Q=>scal x y=true∧Q (.bl (!decide (x=y))) H
theorem dec_int {i j:Int}:decide (V.int i=V.int j)=(i == j):=by
  rw [Bool.eq_iff_iff]
  simp
theorem dec_bl {i j:Bool}:decide (V.bl i=V.bl j)=(i == j):=by
  rw [Bool.eq_iff_iff]
  simp
theorem dec_str {i j:Str}:decide (V.str i=V.str j)=(i == j):=by
  rw [Bool.eq_iff_iff]
  simp
theorem dec_byt {i j:Array UInt8}:decide (V.byt i=V.byt j)=(i.toList == j.toList):=by
  rw [Bool.eq_iff_iff]
  cases i
  cases j
  simp
section
variable {X:Cx} {a b c:Expr} {ta tb tc:TE} {pos:Pos}
theorem fin_bl {pins:List (Addr × Obj)} {σ:St} {H:Hp} {s:Shared} {Q:VK} {k k':Bool} (I:Inv X pins σ H s) (q:Q (.bl k) H) (e:k=k'):EP X pins σ Q (.bool k') s:=by
  subst e
  exact ⟨.bl k,H,I,rfl,q⟩
theorem op_eq:OpR X (compareOp .Eq) rEq:=by
  intro pins s σ H x y v u Q I rx ry h
  obtain ⟨hs,q⟩:=h
  cases x with
  | non=>
    cases rx
    cases y with
    | non=>cases ry;exact PySem.EqNone.eq_none_none (fin_bl I q (by simp))
    | bl j=>cases ry;exact PySem.EqNone.eq_none_bool (fin_bl I q (by simp))
    | int j=>obtain ⟨t',rfl⟩:=ry;exact PySem.EqNone.eq_none_int (fin_bl I q (by simp))
    | str j=>obtain ⟨t',rfl⟩:=ry;exact PySem.EqNone.eq_none_str (fin_bl I q (by simp))
    | _=>exact absurd (show false=true from hs) Bool.false_ne_true
  | bl i=>
    cases rx
    cases y with
    | non=>cases ry;exact PySem.EqNone.eq_bool_none (fin_bl I q (by simp))
    | bl j=>cases ry;exact eq_bool (fin_bl I q dec_bl)
    | str j=>obtain ⟨t',rfl⟩:=ry;exact PySem.EqMixed.eq_bool_str (fin_bl I q (by simp))
    | _=>exact absurd (show false=true from hs) Bool.false_ne_true
  | int i=>
    obtain ⟨t,rfl⟩:=rx
    cases y with
    | non=>cases ry;exact PySem.EqNone.eq_int_none (fin_bl I q (by simp))
    | int j=>obtain ⟨t',rfl⟩:=ry;exact eq_int (fin_bl I q dec_int)
    | str j=>obtain ⟨t',rfl⟩:=ry;exact PySem.EqMixed.eq_int_str (fin_bl I q (by simp))
    | _=>exact absurd (show false=true from hs) Bool.false_ne_true
  | str i=>
    obtain ⟨t,rfl⟩:=rx
    cases y with
    | non=>cases ry;exact PySem.EqNone.eq_str_none (fin_bl I q (by simp))
    | bl j=>cases ry;exact PySem.EqMixed.eq_str_bool (fin_bl I q (by simp))
    | int j=>obtain ⟨t',rfl⟩:=ry;exact PySem.EqMixed.eq_str_int (fin_bl I q (by simp))
    | str j=>obtain ⟨t',rfl⟩:=ry;exact eq_str (fin_bl I q dec_str)
    | _=>exact absurd (show false=true from hs) Bool.false_ne_true
  | byt i=>
    obtain ⟨t,rfl⟩:=rx
    cases y with
    | byt j=>obtain ⟨t',rfl⟩:=ry;exact PySem.W.eq_bytes (fin_bl I q dec_byt)
    | _=>exact absurd (show false=true from hs) Bool.false_ne_true
  | _=>cases y <;> exact absurd (show false=true from hs) Bool.false_ne_true
theorem op_ne:OpR X (compareOp .NotEq) rNe:=by
  intro pins s σ H x y v u Q I rx ry h
  obtain ⟨hs,q⟩:=h
  cases x with
  | non=>
    cases rx
    cases y with
    | non=>cases ry;exact PySem.EqNone.ne_none_none (fin_bl I q (by simp))
    | bl j=>cases ry;exact PySem.EqNone.ne_none_bool (fin_bl I q (by simp))
    | int j=>obtain ⟨t',rfl⟩:=ry;exact PySem.EqNone.ne_none_int (fin_bl I q (by simp))
    | str j=>obtain ⟨t',rfl⟩:=ry;exact PySem.EqNone.ne_none_str (fin_bl I q (by simp))
    | _=>exact absurd (show false=true from hs) Bool.false_ne_true
  | bl i=>
    cases rx
    cases y with
    | non=>cases ry;exact PySem.EqNone.ne_bool_none (fin_bl I q (by simp))
    | bl j=>cases ry;exact ne_bool (fin_bl I q (congrArg not dec_bl))
    | str j=>obtain ⟨t',rfl⟩:=ry;exact PySem.EqMixed.ne_bool_str (fin_bl I q (by simp))
    | _=>exact absurd (show false=true from hs) Bool.false_ne_true
  | int i=>
    obtain ⟨t,rfl⟩:=rx
    cases y with
    | non=>cases ry;exact PySem.EqNone.ne_int_none (fin_bl I q (by simp))
    | int j=>obtain ⟨t',rfl⟩:=ry;exact ne_int (fin_bl I q (congrArg not dec_int))
    | str j=>obtain ⟨t',rfl⟩:=ry;exact PySem.EqMixed.ne_int_str (fin_bl I q (by simp))
    | _=>exact absurd (show false=true from hs) Bool.false_ne_true
  | str i=>
    obtain ⟨t,rfl⟩:=rx
    cases y with
    | non=>cases ry;exact PySem.EqNone.ne_str_none (fin_bl I q (by simp))
    | bl j=>cases ry;exact PySem.EqMixed.ne_str_bool (fin_bl I q (by simp))
    | int j=>obtain ⟨t',rfl⟩:=ry;exact PySem.EqMixed.ne_str_int (fin_bl I q (by simp))
    | str j=>obtain ⟨t',rfl⟩:=ry;exact ne_str (fin_bl I q (congrArg not dec_str))
    | _=>exact absurd (show false=true from hs) Bool.false_ne_true
  | byt i=>
    obtain ⟨t,rfl⟩:=rx
    cases y with
    | byt j=>obtain ⟨t',rfl⟩:=ry;exact PySem.W.ne_bytes (fin_bl I q (congrArg not dec_byt))
    | _=>exact absurd (show false=true from hs) Bool.false_ne_true
  | _=>cases y <;> exact absurd (show false=true from hs) Bool.false_ne_true
theorem op_lt:OpR X (compareOp .Lt) (rI0 fun i j=>.bl (decide (i < j))):=opB0 fun _ _ _ _ _ _ _ q=>lt_int q
theorem op_le:OpR X (compareOp .LtE) (rI0 fun i j=>.bl (decide (i≤j))):=opB0 fun _ _ _ _ _ _ _ q=>le_int q
theorem op_gt:OpR X (compareOp .Gt) (rI0 fun i j=>.bl (decide (j < i))):=opB0 fun _ _ _ _ _ _ _ q=>gt_int q
theorem op_ge:OpR X (compareOp .GtE) (rI0 fun i j=>.bl (decide (j≤i))):=opB0 fun _ _ _ _ _ _ _ q=>ge_int q
theorem op_in_str:OpR X (compareOp .In) (fun x y H Q=>∃ i j,x=.str i∧y=.str j∧Q (.bl (!(Builtin.Str.occurrences j i 0 j.length 1).isEmpty)) H):=by
  intro pins s σ H x y v u Q I rx ry h
  obtain ⟨i,j,rfl,rfl,q⟩:=h
  obtain ⟨t,rfl⟩:=rx
  obtain ⟨t',rfl⟩:=ry
  exact in_str (fin_bl I q rfl)
theorem OpR.or {f:Value→Value→Sem Value} {r r':R2} (h:OpR X f r) (h':OpR X f r'):OpR X f (fun x y H Q=>r x y H Q∨r' x y H Q):=by
  intro pins s σ H x y v u Q I rx ry q
  rcases q with q | q
  · exact h pins s σ H x y v u Q I rx ry q
  · exact h' pins s σ H x y v u Q I rx ry q
theorem nomark (b:Expr) {op:CmpOp} (h:op≠.In:=by decide) (h2:op≠.NotIn:=by decide):behindInMarks op b=false:=by
  have e1:(op == CmpOp.In)=false:=by cases op <;> first | rfl | exact absurd rfl h
  have e2:(op == CmpOp.NotIn)=false:=by cases op <;> first | rfl | exact absurd rfl h2
  cases b <;> simp [behindInMarks,e1,e2]
theorem pe_cmpR {op:CmpOp} {r:R2} (ho:OpR X (compareOp op) r) (ha:PE X a ta) (hb:PE X b tb) (hm:behindInMarks op b=false):PE X (.Compare a [op] [b] pos) (tOp r ta tb):=by
  intro pins s σ H Q I h
  exact wpAny_Compare1 (binT ha hb I h fun v u s2 x y H2 I2 rx ry q=>ho pins s2 σ H2 x y v u Q I2 rx ry q) hm
def tTest (t:TE):TT:=fun σ H Q=>t σ H fun x H'=>∃ k,x=.bl k∧Q k H'
theorem pt_cmpR {op:CmpOp} {r:R2} (ho:OpR X (compareOp op) r) (ha:PE X a ta) (hb:PE X b tb) (hm:behindInMarks op b=false):PT X (.Compare a [op] [b] pos) (tTest (tOp r ta tb)):=by
  intro pins s σ H Q I h
  refine wpAny_isTrue_Compare1 (thn (ha pins s σ H _ I h) fun v s1 ⟨x,H1,I1,r1,q1⟩=>thn (hb pins s1 σ H1 _ I1 q1) fun u s2 ⟨y,H2,I2,r2,q2⟩=>
    thn (ho pins s2 σ H2 x y v u _ I2 r1 r2 q2) fun c s3 ⟨z,H3,I3,r3,k,e,q3⟩=>?_) hm
  subst e
  cases r3
  exact wpAny_truthy_bool ⟨H3,I3,q3⟩
def tChain (r r':R2) (ta tb tc:TE):TE:=fun σ H Q=>ta σ H fun x H1=>tb σ H1 fun y H2=>r x y H2 fun z H3=>∃ k,z=.bl k ∧
  (if k=true then tc σ H3 fun w' H4=>r' y w' H4 Q else Q (.bl false) H3)
theorem pe_chain {op op':CmpOp} {r r':R2} (ho:OpR X (compareOp op) r) (ho':OpR X (compareOp op') r') (ha:PE X a ta) (hb:PE X b tb) (hc:PE X c tc)
    (hm:lastMarks [op,op'] [b,c]=false:=by with_unfolding_all rfl):PE X (.Compare a [op,op'] [b,c] pos) (tChain r r' ta tb tc):=by
  intro pins s σ H Q I h
  refine Compare_chain (thn (ha pins s σ H _ I h) fun v s1 ⟨x,H1,I1,r1,q1⟩=>chain_link (thn (hb pins s1 σ H1 _ I1 q1) fun u s2 ⟨y,H2,I2,r2,q2⟩=>
    thn (ho pins s2 σ H2 x y v u _ I2 r1 r2 q2) fun d s3 ⟨z,H3,I3,r3,k,e,q3⟩=>?_)) hm
  subst e
  cases r3
  refine wpAny_truthy_bool ?_
  cases k with
  | false=>exact ite_ff ⟨.bl false,H3,I3,rfl,q3⟩
  | true=>exact ite_tt (chain_last (thn (hc pins s3 σ H3 _ I3 q3) fun w' s4 ⟨z',H4,I4,r4,q4⟩=>ho' pins s4 σ H4 y z' u w' Q I4 r2 r4 q4))
theorem line63:(sizeLine:Nat) < 2 ^ 63:=by rw [sizeLine_eq];decide
theorem op_add_str:OpR X (binaryOp .Add) (fun x y H Q=>∃ i j,x=.str i∧y=.str j∧i.length+j.length≤sizeLine∧Q (.str (i++j)) H):=by
  intro pins s σ H x y v u Q I rx ry h
  obtain ⟨i,j,rfl,rfl,hz,q⟩:=h
  obtain ⟨t,rfl⟩:=rx
  obtain ⟨t',rfl⟩:=ry
  exact add_str (fun t' tk=>⟨.str (i++j),H,I.tok _,⟨_,rfl⟩,q⟩) hz
theorem vals1 {x:V} {us:List Value} (r:Vals [x] us):∃ u,us=[u]∧RelV x u:=by
  cases r with
  | cons r1 r2=>cases r2;exact ⟨_,rfl,r1⟩
theorem vals2 {x y:V} {us:List Value} (r:Vals [x,y] us):∃ u w',us=[u,w']∧RelV x u∧RelV y w':=by
  cases r with
  | cons r1 r2=>
    cases r2 with
    | cons r3 r4=>cases r4;exact ⟨_,_,rfl,r1,r3⟩
theorem call_max2 (hc:X.calm=true):CallR X (.builtin "max") (fun xs H Q=>∃ i j,xs=[.int i,.int j]∧Q (.int (if j > i then j else i)) H):=by
  intro pins s σ H xs us Q I r h
  obtain ⟨i,j,rfl,q⟩:=h
  obtain ⟨u,w',rfl,⟨t,rfl⟩,⟨t',rfl⟩⟩:=vals2 r
  refine max_two_ints (I.ok.hd hc) fun h' tk k=>⟨_,H,I.kept k,?_,q⟩
  by_cases hj:j > i
  · rw [if_pos hj,if_pos hj];exact ⟨_,rfl⟩
  · rw [if_neg hj,if_neg hj];exact ⟨_,rfl⟩
theorem call_min2 (hc:X.calm=true):CallR X (.builtin "min") (fun xs H Q=>∃ i j,xs=[.int i,.int j]∧Q (.int (if j < i then j else i)) H):=by
  intro pins s σ H xs us Q I r h
  obtain ⟨i,j,rfl,q⟩:=h
  obtain ⟨u,w',rfl,⟨t,rfl⟩,⟨t',rfl⟩⟩:=vals2 r
  refine min_two_ints (I.ok.hd hc) fun h' tk k=>⟨_,H,I.kept k,?_,q⟩
  by_cases hj:j < i
  · rw [if_pos hj,if_pos hj];exact ⟨_,rfl⟩
  · rw [if_neg hj,if_neg hj];exact ⟨_,rfl⟩
theorem call_int1:CallR X (.type "int") (fun xs H Q=>(∃ i,xs=[.int i]∧Q (.int i) H)∨∃ k,xs=[.bl k]∧Q (.int (if k then 1 else 0)) H):=by
  intro pins s σ H xs us Q I r h
  rcases h with ⟨i,rfl,q⟩ | ⟨k,rfl,q⟩
  · obtain ⟨u,rfl,t,rfl⟩:=vals1 r
    exact call_int_int ⟨.int i,H,I,⟨_,rfl⟩,q⟩
  · obtain ⟨u,rfl,r1⟩:=vals1 r
    cases r1
    exact call_int_bool ⟨.int (if k then 1 else 0),H,I.tok _,⟨_,rfl⟩,q⟩
end
end L2
namespace L2
open PySem PySem.Spec PyProof.Rows
structure ObjM (h:Heap) (x dx C:Addr) (mA:Str→Option Value):Prop where
  obj:h.get? x=some (PySem.W.instObj C dx)
  ns:h.Ns1 dx mA
  ne:dx≠x
theorem lookIn_ns {h:Heap} {dx:Addr} {mA:Str→Option Value} (n:h.Ns1 dx mA):∃ od,h.get? dx=some od∧∀ name,PySem.W.lookIn name od=some (mA name):=by
  obtain ⟨o,es,ep,ho,hd,hk,_,hm⟩:=n
  refine ⟨o,ho,fun name=>?_⟩
  have e:=hm name
  unfold nsFind findBy at e
  rw [← Array.find?_toList] at e
  unfold PySem.W.lookIn
  rw [hd]
  dsimp only
  split
  · rename_i y q
    rw [q] at e
    exact congrArg some e
  · rename_i q
    rw [q] at e
    have a:es.toList.any (·.refKey)=false:=by
      rw [List.any_eq_false]
      intro y hy
      obtain ⟨z,t,hkey⟩:=hk y (Array.mem_toList_iff.mp hy)
      simp [DictEntry.refKey,hkey]
    have a':¬ es.toList.any (·.refKey)=true:=by rw [a];exact Bool.false_ne_true
    rw [if_neg a']
    exact congrArg some e
theorem ObjM.look {h:Heap} {x dx C:Addr} {mA:Str→Option Value} (I:ObjM h x dx C mA):∃ od,PySem.W.InstAt h x (PySem.W.instObj C dx) C (some od)∧∀ name,PySem.W.lookIn name od=some (mA name):=
  let ⟨od,ho,hl⟩:=lookIn_ns I.ns
  ⟨od,⟨I.obj,rfl,rfl,ho⟩,hl⟩
section
variable {prog:Program} {w:World} {A:Around} {E:Value→Shared→Prop} {s:Shared} {K:PySem.W.Frag} {x dx C f:Addr} {mA:Str→Option Value} {name:Str} {v:Value}
theorem get_map {expr:Bool} {Q:Value→Shared→Prop} (X:K.In s.heap) (I:ObjM s.heap x dx C mA) (hg:PySem.W.plainGet K C name=true) (hh:PySem.W.hasDictIn K C=true)
    (ha:PySem.W.findIn K (.ref C) name=some none) (hv:mA name=some v) (hv':PySem.W.handedIn v=true) (h:Q v { s with toks:=s.toks+1 }) :
    wpAny (model prog w) A (getAttr (.ref x) name expr) Q E s:=by
  obtain ⟨od,J,hl⟩:=I.look
  exact PySem.W.get_value X J (PySem.W.plainGet_of hg).1 (PySem.W.findObj_own hh ha rfl (by rw [hl,hv])) hv' h
theorem get_meth {pl:Sem Bool} {Q:Value × List Value→Shared→Prop} (X:K.In s.heap) (I:ObjM s.heap x dx C mA) (hg:PySem.W.plainGet K C name=true)
    (hf:PySem.W.findIn K (.ref C) name=some (some (.ref f))) (ht:PySem.W.isFn K (.ref f)=true) (hv:mA name=none) (h:Q (.ref f,[.ref x]) s) :
    wpAny (model prog w) A (getMethod (.ref x) name pl) Q E s:=by
  obtain ⟨od,J,hl⟩:=I.look
  exact PySem.W.method_fn X J (PySem.W.plainGet_of hg).1 (PySem.W.plainGet_of hg).2 hf (beq_iff_eq.mp ht) (by show (PySem.W.lookIn name od).map (·.isSome)=some false;rw [hl,hv];rfl) h
theorem set_map {ns:List Str} {Q:Unit→Shared→Prop} (X:K.In s.heap) (I:ObjM s.heap x dx C mA)
    (hs:PySem.W.findIn K (.ref C) "__setattr__" = some (some (.builtin "object.__setattr__"))) (hp:PySem.W.plainOver K C=true) (ht:PySem.W.takerIn K C name=some none) (hh:PySem.W.hasDictIn K C=true)
    (hw:PySem.Within mA ns) (hsz:ns.length≤sizeLine)
    (h:∀ h',ObjM h' x dx C (fun y=>if y=name then some v else mA y)→Heap.SameBut dx s.heap h'→Q () { s with heap:=h',toks:=s.toks+2 }) :
    wpAny (model prog w) A (setAttr (.ref x) name v) Q E s:=by
  obtain ⟨od,J,hl⟩:=I.look
  refine PySem.W.set_plain X J hs (PySem.W.osa_open (s:={ s with toks:=s.toks+1 }) (r:=none) X J hp ht fun b=>?_)
  obtain ⟨cd,hc,hd'⟩:=PySem.W.any_some hh
  have hx:s.heap.get? x=some ⟨.ref C,some dx,.plain,#[]⟩:=I.obj
  refine wpAny_bind (wpAny_pure (wpAny_bind (wpAny_bind (wpAny_loadPart hx (wpAny_bind (PySem.W.Looks.here (s:={ s with toks:=s.toks+1 }) (PySem.W.looks_clsIn X hc) ?_))))))
  rw [hd']
  refine wpAny_pure (a:=some dx) (wpAny_bind (wpAny_pure (wpAny_bind ?_)))
  refine wpAny_nsSet1 (s:={ s with toks:=s.toks+1 }) I.ns fun h' hn2 hs2=>?_
  obtain ⟨oD,esD,epD,hoD,hdD,hcD⟩:=hn2.count (PySem.Within.cons name v hw)
  refine wpAny_bind (wpAny_lookBehind hoD (by rw [hdD];exact pastItsLine_dict (Nat.le_trans hcD (by rw [List.length_cons];omega))) ?_)
  exact wpAny_pure (h _ ⟨(hs2.2 _ (Ne.symm I.ne)).trans I.obj,hn2,I.ne⟩ hs2)
theorem make_map {R:Result→Shared→Prop} {vs:List Value} {kw:List (Str × Value)} (X:K.In s.heap) (hm:PySem.W.makesIn K C=true)
    (hi:PySem.W.findIn K (.ref C) "__init__" = some (some (.ref f))) (hf:PySem.W.typeIn K (.ref f)=some (.type "function"))
    (h:codeAny (model prog w) (A.under (.builtin "type.__call__" ⟨.ref C :: vs,kw⟩)) (.call (.ref f) ⟨.ref (s.heap.objs.size+1) :: vs,kw⟩) (PySem.W.InitBack (s.heap.objs.size+1) R)
      { s with heap:=(s.heap.push PySem.W.emptyDict).push (PySem.W.instObj C s.heap.objs.size) }) :
    codeAny (model prog w) A (.call (.ref C) ⟨vs,kw⟩) R s:=by
  obtain ⟨hh,g,d,t,os⟩:=s
  exact PySem.W.make_core (PySem.W.makes_of X hm) (PySem.W.looks_findIn X hi) (fun self=>PySem.W.bind_fn X self hf) (.inl rfl) h
end
def putF (f:Str) (v:V):List (Str × V)→List (Str × V)
  | []=>[(f,v)]
  | (g,x) :: r=>if g=f then (g,v) :: r else (g,x) :: putF f v r
theorem lookup_putF (f g:Str) (v:V):∀ fs:List (Str × V),(putF f v fs).lookup g=if g=f then some v else fs.lookup g
  | []=>by
    show List.lookup g [(f,v)]=_
    by_cases h:g=f
    · have hb:(g == f)=true:=beq_iff_eq.mpr h
      simp only [List.lookup,hb,if_pos h]
    · have hb:(g == f)=false:=beq_eq_false_iff_ne.mpr h
      simp only [List.lookup,hb,if_neg h]
  | (k,x) :: r=>by
    have ih:=lookup_putF f g v r
    rw [show putF f v ((k,x) :: r)=(if k=f then (k,v) :: r else (k,x) :: putF f v r) from rfl]
    by_cases hk:k=f
    · rw [if_pos hk]
      by_cases h:g=k
      · have hb:(g == k)=true:=beq_iff_eq.mpr h
        simp only [List.lookup,hb,if_pos (h.trans hk)]
      · have hb:(g == k)=false:=beq_eq_false_iff_ne.mpr h
        simp only [List.lookup,hb,if_neg (fun e:g=f=>h (e.trans hk.symm))]
    · rw [if_neg hk]
      by_cases h:g=k
      · have hb:(g == k)=true:=beq_iff_eq.mpr h
        simp only [List.lookup,hb,if_neg (fun e:g=f=>hk (h.symm.trans e))]
      · have hb:(g == k)=false:=beq_eq_false_iff_ne.mpr h
        simp only [List.lookup,hb]
        exact ih
theorem keys_putF (f:Str) (v:V):∀ fs:List (Str × V),f∈(putF f v fs).map (·.1)∧∀ g,g∈fs.map (·.1)→g∈(putF f v fs).map (·.1)
  | []=>⟨by simp [putF],fun g h=>by simp at h⟩
  | (k,x) :: r=>by
    obtain ⟨i1,i2⟩:=keys_putF f v r
    rw [show putF f v ((k,x) :: r)=(if k=f then (k,v) :: r else (k,x) :: putF f v r) from rfl]
    by_cases hk:k=f
    · rw [if_pos hk]
      subst hk
      exact ⟨by simp,fun g h=>by simpa using h⟩
    · rw [if_neg hk]
      refine ⟨?_,fun g h=>?_⟩
      · rw [List.map_cons]
        exact List.mem_cons_of_mem _ i1
      · rw [List.map_cons] at h ⊢
        rcases List.mem_cons.mp h with e | e
        · exact List.mem_cons.mpr (.inl e)
        · exact List.mem_cons_of_mem _ (i2 g e)
theorem length_putF (f:Str) (v:V):∀ fs:List (Str × V),(putF f v fs).length≤fs.length+1
  | []=>by simp [putF]
  | (k,x) :: r=>by
    have ih:=length_putF f v r
    rw [show putF f v ((k,x) :: r)=(if k=f then (k,v) :: r else (k,x) :: putF f v r) from rfl]
    by_cases hk:k=f
    · rw [if_pos hk,List.length_cons,List.length_cons];omega
    · rw [if_neg hk,List.length_cons,List.length_cons];omega
theorem RelO.some_of {v:V} {o:Option Value} (r:RelO (some v) o):∃ u,o=some u∧RelV v u:=by
  cases o with
  | none=>exact (show False from r).elim
  | some u=>exact ⟨u,rfl,r⟩
theorem RelO.none_of {o:Option Value} (r:RelO none o):o=none:=by
  cases o with
  | none=>rfl
  | some u=>exact (show False from r).elim
theorem handed_of {v:V} {u:Value} (r:RelV v u):PySem.W.handedIn u=true:=by
  cases v with
  | non=>cases (show u=Value.none from r);rfl
  | bl b=>cases (show u=Value.bool b from r);rfl
  | int i=>obtain ⟨t,e⟩:=(show ∃ t,u=Value.int i t from r);cases e;rfl
  | str x=>obtain ⟨t,e⟩:=(show ∃ t,u=Value.str x t from r);cases e;rfl
  | byt b=>obtain ⟨t,e⟩:=(show ∃ t,u=Value.bytes b t from r);cases e;rfl
  | flt b=>obtain ⟨t,e⟩:=(show ∃ t,u=Value.float b t from r);cases e;rfl
  | ref a=>cases (show u=Value.ref a from r);rfl
  | ty n=>cases (show u=Value.type n from r);rfl
section
variable {P:Program} {w:World} {H H':Hp} {h h':Heap} {a C dx:Addr} {fs fs':List (Str × V)}
theorem ins_get (hok:HOk P w H h) (e:H a=some (.ins C dx fs)):∃ mA,ObjM h a dx C mA∧(∀ f,RelO (fs.lookup f) (mA f))∧PySem.Within mA (fs.map (·.1))∧fs.length≤1000∧H dx=some (.own a):=by
  obtain ⟨d,z,ne,ob,mA,n,r,q⟩:=(show ObjOk P w H h a (.ins C dx fs) from hok a _ e)
  exact ⟨mA,⟨ob,n,ne⟩,r,q,z,d⟩
end
structure Cls (K:PySem.W.Frag) (C:Addr):Prop where
  pg:PySem.W.plainGet K C Str.empty=true
  hd:PySem.W.hasDictIn K C=true
  po:PySem.W.plainOver K C=true
  sa:PySem.W.findIn K (.ref C) "__setattr__" = some (some (.builtin "object.__setattr__"))
theorem Cls.get {K:PySem.W.Frag} {C:Addr} (c:Cls K C) (f:Str):PySem.W.plainGet K C f=true:=c.pg
def NoAttr (K:PySem.W.Frag) (C:Addr) (f:Str):Prop:=PySem.W.findIn K (.ref C) f=some none
theorem NoAttr.taker {K:PySem.W.Frag} {C:Addr} {f:Str} (n:NoAttr K C f):PySem.W.takerIn K C f=some none:=by
  unfold PySem.W.takerIn
  rw [show PySem.W.findIn K (.ref C) f=some none from n]
  rfl
structure Meth (K:PySem.W.Frag) (C:Addr) (m:Str) (f:Addr):Prop where
  at_:PySem.W.findIn K (.ref C) m=some (some (.ref f))
  fn:PySem.W.isFn K (.ref f)=true
  kp:PySem.W.keepIn K (.ref f)=true
section
variable {X:Cx} {pins:List (Addr × Obj)} {σ:St} {H:Hp} {s:Shared} {a C dx:Addr} {fs:List (Str × V)} {f:Str} {v:V} {A:Around} {E:Value→Shared→Prop}
theorem getattr_ok {b:Bool} {Q:Value→Shared→Prop} (I:Inv X pins σ H s) (e:H a=some (.ins C dx fs)) (c:Cls X.K C) (n:NoAttr X.K C f) (l:fs.lookup f=some v)
    (h:∀ u s',Inv X pins σ H s'→RelV v u→Q u s'):wpAny (model X.prog X.w) A (getAttr (.ref a) f b) Q E s:=by
  obtain ⟨mA,O,r,_,_,_⟩:=ins_get I.hok e
  obtain ⟨u,hu,ru⟩:=RelO.some_of (v:=v) (o:=mA f) (by rw [← l];exact r f)
  exact get_map I.kIn O (c.get f) c.hd n hu (handed_of ru) (h u _ (I.tok _) ru)
theorem getmeth_ok {m:Str} {g:Addr} {pl:Sem Bool} {Q:Value × List Value→Shared→Prop} (I:Inv X pins σ H s) (e:H a=some (.ins C dx fs)) (c:Cls X.K C) (k:Meth X.K C m g) (l:fs.lookup m=none)
    (h:Q (.ref g,[.ref a]) s):wpAny (model X.prog X.w) A (getMethod (.ref a) m pl) Q E s:=by
  obtain ⟨mA,O,r,_,_,_⟩:=ins_get I.hok e
  have hn:mA m=none:=RelO.none_of (by rw [← l];exact r m)
  exact get_meth I.kIn O (c.get m) k.at_ k.fn hn h
theorem setattr_ok {y:V} {u:Value} {Q:Unit→Shared→Prop} (I:Inv X pins σ H s) (e:H a=some (.ins C dx fs)) (c:Cls X.K C) (n:NoAttr X.K C f) (hl:fs.length < 1000) (ry:RelV y u)
    (h:∀ s',Inv X pins σ (upd H a (.ins C dx (putF f y fs))) s'→Q () s'):wpAny (model X.prog X.w) A (setAttr (.ref a) f u) Q E s:=by
  obtain ⟨mA,O,r,wi,_,ho⟩:=ins_get I.hok e
  have hz:(fs.map (·.1)).length≤sizeLine:=by rw [List.length_map,sizeLine_eq];omega
  refine set_map I.kIn O c.sa c.po n.taker c.hd wi hz fun h' O' sb=>h _ ?_
  have hd:∃ o,h'.get? dx=some o:=let ⟨o,_,_,e',_⟩:=O'.ns;⟨o,e'⟩
  refine I.write (x:=a) (e:=dx) (by rw [e];exact True.intro) (.inr ho) (fun b q hb z=>(sb.2 b hb).trans z) hd ?_
  refine ⟨by rw [upd_ne O.ne];exact ho,?_,O.ne,O'.obj,_,O'.ns,fun g=>?_,fun g hg=>?_⟩
  · have:=length_putF f y fs;omega
  · show RelO ((putF f y fs).lookup g) (if g=f then some u else mA g)
    rw [lookup_putF]
    by_cases q:g=f
    · rw [if_pos q,if_pos q];exact ry
    · rw [if_neg q,if_neg q];exact r g
  · by_cases q:g=f
    · rw [q];exact (keys_putF f y fs).1
    · refine (keys_putF f y fs).2 g (wi g fun z=>hg ?_)
      show (if g=f then some u else mA g)=none
      rw [if_neg q];exact z
theorem Inv.made (I:Inv X pins σ H s):Inv X pins σ (upd (upd H s.heap.objs.size (.own (s.heap.objs.size+1))) (s.heap.objs.size+1) (.ins C s.heap.objs.size []))
    { s with heap:=(s.heap.push PySem.W.emptyDict).push (PySem.W.instObj C s.heap.objs.size) }:=by
  have e1:(s.heap.push PySem.W.emptyDict).get? s.heap.objs.size=some PySem.W.emptyDict:=Heap.get?_push_size s.heap rfl
  have e2:((s.heap.push PySem.W.emptyDict).push (PySem.W.instObj C s.heap.objs.size)).get? (s.heap.objs.size+1)=some (PySem.W.instObj C s.heap.objs.size):=by
    have:=Heap.get?_push_size (s.heap.push PySem.W.emptyDict) (o:=PySem.W.instObj C s.heap.objs.size) rfl
    rwa [Heap.size_push] at this
  have e3:(s.heap.push PySem.W.emptyDict).Ns s.heap.objs.size (fun _=>none):=⟨PySem.W.emptyDict,#[],_,e1,rfl,(fun e he=>absurd he (by simp)),fun _=>rfl⟩
  have I1:=I.laid (a:=s.heap.objs.size) (o:=.own (s.heap.objs.size+1)) (h':=s.heap.push PySem.W.emptyDict) (t':=s.toks) (fun b u q=>Heap.get?_push_of_some _ q) (Nat.le_refl _) ⟨_,e1⟩
  refine I1.laid (a:=s.heap.objs.size+1) (o:=.ins C s.heap.objs.size []) (t':=s.toks) (fun b u q=>Heap.get?_push_of_some _ q) (Nat.le_of_eq (Heap.size_push _ _)) ?_
  have ne:s.heap.objs.size≠s.heap.objs.size+1:=Nat.ne_of_lt (Nat.lt_succ_self _)
  refine ⟨by rw [upd_ne ne,upd_same],Nat.zero_le _,ne,e2,fun _=>none,(Heap.Ns1.of_empty e3).at fun o q=>Heap.get?_push_of_some _ q,fun _=>True.intro,fun y hy=>absurd rfl hy⟩
theorem attr_of {prog:Program} {w:World} {env:Env} {e:Expr} {f:Str} {pos:Pos} {s:Shared} {Q:Value→Shared→Prop} (hb:attributeBase e f env (eval e env)=eval e env)
    (h:wpAny (model prog w) A (eval e env) (fun o s₁=>wpAny (model prog w) A (getAttr o f true) Q E s₁) E s):wpAny (model prog w) A (eval (.Attribute e f pos) env) Q E s:=
  Attribute_any_ h (by rw [arm_eval_Attribute,hb])
end
def tFld (K:PySem.W.Frag) (ta:TE) (f:Str):TE:=fun σ H Q=>ta σ H fun x H1=>∃ a C dx fs v,x=.ref a∧H1 a=some (.ins C dx fs)∧Cls K C∧NoAttr K C f∧fs.lookup f=some v∧Q v H1
def sFld (K:PySem.W.Frag) (ta tv:TE) (f:Str):TS:=fun D σ H=>tv σ H fun y H1=>ta σ H1 fun x H2=>∃ a C dx fs,x=.ref a∧H2 a=some (.ins C dx fs)∧Cls K C∧NoAttr K C f∧fs.length < 1000 ∧
  D.nx σ (upd H2 a (.ins C dx (putF f y fs)))
section
variable {X:Cx} {o e value:Expr} {f:Str} {pos pos' tpos:Pos} {ta tv:TE}
theorem pe_fld (he:PE X e ta) (hb:attributeBase e f X.env (eval e X.env)=eval e X.env):PE X (.Attribute e f pos) (tFld X.K ta f):=by
  intro pins s σ H Q I h
  refine attr_of hb (thn (he pins s σ H _ I h) fun u s1 ⟨x,H1,I1,rx,a,C,dx,fs,v,ex,ea,c,n,l,q⟩=>?_)
  subst ex
  obtain rfl:u=Value.ref a:=rx
  exact getattr_ok I1 ea c n l fun u' s2 I2 ru=>⟨v,H1,I2,ru,q⟩
theorem ps_fld (ha:PE X o ta) (hv:PE X value tv) (hs:swapsWith value (some (.Attribute o f pos')) pos.line X.env=pure false):PS X (.Assign [.Attribute o f pos'] value pos) (sFld X.K ta tv f):=by
  intro pins s σ H D I h
  refine plainObj_wpAny_Assign_Attribute (thn (hv pins s σ H _ I h) fun u s1 ⟨y,H1,I1,ry,q⟩=>thn (ha pins s1 σ H1 _ I1 q) fun ov s2 ⟨x,H2,I2,rx,a,C,dx,fs,ex,ea,c,n,l,q2⟩=>?_) hs
  subst ex
  obtain rfl:ov=Value.ref a:=rx
  exact setattr_ok I2 ea c n l ry fun s3 I3=>⟨σ,_,I3,q2⟩
end
section
variable {X:Cx} {pins:List (Addr × Obj)} {σ:St} {H:Hp} {s:Shared} {A:Around} {E:Value→Shared→Prop} {Q:Value→Shared→Prop} {c:Value} {b:Bool}
inductive TyOf (K:PySem.W.Frag) (H:Hp):V→Value→Prop where
  | non:TyOf K H .non (.type "NoneType")
  | bl (x:Bool):TyOf K H (.bl x) (.type "bool")
  | int (i:Int):TyOf K H (.int i) (.type "int")
  | str (x:Str):TyOf K H (.str x) (.type "str")
  | flt (x:UInt64):TyOf K H (.flt x) (.type "float")
  | lst {a:Addr} {xs:List V} (e:H a=some (.lst xs)):TyOf K H (.ref a) (.type "list")
  | frz {a:Addr} {o:Obj} {xs:List V} (e:H a=some (.frz o (.lst xs))):TyOf K H (.ref a) (.type "list")
  | tup {a:Addr} {xs:List V} (e:H a=some (.tup xs)):TyOf K H (.ref a) (.type "tuple")
  | dK {a:Addr} {kvs:List (Key × V)} (e:H a=some (.dK kvs)):TyOf K H (.ref a) (.type "dict")
  | dT {a:Addr} {kvs:List (List Key × V)} (e:H a=some (.dT kvs)):TyOf K H (.ref a) (.type "dict")
  | ins {a C dx:Addr} {fs:List (Str × V)} (e:H a=some (.ins C dx fs)) (cl:Cls K C) (ha:PySem.W.findIn K (.ref C) "__class__" = some (some (.builtin "object.__class__")))
      (hn:PySem.W.specialIn K (.builtin "object.__class__") "__get__" = some (some (.builtin "getset_descriptor.__get__"))) (htk:PySem.W.takesIn K (.builtin "object.__class__")=some true)
      (hm:PySem.W.mroIn K C (.type "object")=some true):TyOf K H (.ref a) (.ref C)
theorem isinst_ok {x:V} {u t:Value} (I:Inv X pins σ H s) (rx:RelV x u) (ty:TyOf X.K H x t) (e:PySem.W.kitOne X.K t c=some b) (h:∀ tk,Q (.bool b) { s with toks:=tk }) :
    wpAny (model X.prog X.w) A (call (.builtin "isinstance") [u,c]) Q E s:=by
  cases ty with
  | non=>cases (show u=Value.none from rx);exact PySem.W.kia_one PySem.W.kitx_none I.kIn True.intro e (fun z=>nomatch z) h
  | bl y=>cases (show u=Value.bool y from rx);exact PySem.W.kia_one PySem.W.kitx_bool I.kIn True.intro e (fun z=>nomatch z) h
  | int i=>obtain ⟨t,q⟩:=(show ∃ t,u=Value.int i t from rx);cases q;exact PySem.W.kia_one PySem.W.kitx_int I.kIn True.intro e (fun z=>nomatch z) h
  | str y=>obtain ⟨t,q⟩:=(show ∃ t,u=Value.str y t from rx);cases q;exact PySem.W.kia_one PySem.W.kitx_str I.kIn True.intro e (fun z=>nomatch z) h
  | flt y=>obtain ⟨t,q⟩:=(show ∃ t,u=Value.float y t from rx);cases q;exact PySem.W.kia_one PySem.W.kitx_float I.kIn True.intro e (fun z=>nomatch z) h
  | @lst a xs ea=>
    cases (show u=Value.ref a from rx)
    obtain ⟨_,_,n,_,h1⟩:=(show ObjOk X.prog X.w H s.heap a (.lst xs) from I.hok a _ ea)
    exact PySem.W.kia_one PySem.W.kitx_list I.kIn ⟨_,h1,rfl⟩ e (fun z=>nomatch z) h
  | @frz a ob xs ea=>
    cases (show u=Value.ref a from rx)
    obtain ⟨_,_,_,n,_,h1⟩:=(show ObjOk X.prog X.w H s.heap a (.frz ob (.lst xs)) from I.hok a _ ea)
    exact PySem.W.kia_one PySem.W.kitx_list I.kIn ⟨_,h1,rfl⟩ e (fun z=>nomatch z) h
  | @tup a xs ea=>
    cases (show u=Value.ref a from rx)
    obtain ⟨_,_,_,p⟩:=(show ObjOk X.prog X.w H s.heap a (.tup xs) from I.hok a _ ea)
    obtain ⟨o,h1,h2,_⟩:=p
    exact PySem.W.kia_one PySem.W.kitx_tuple I.kIn ⟨o,h1,h2⟩ e (fun z=>nomatch z) h
  | @dK a kvs ea=>
    cases (show u=Value.ref a from rx)
    obtain ⟨_,_,vs,_,p⟩:=(show ObjOk X.prog X.w H s.heap a (.dK kvs) from I.hok a _ ea)
    obtain ⟨o,es,ep,h1,h2,_⟩:=p
    exact PySem.W.kia_one PySem.W.kitx_dict I.kIn ⟨o,h1,h2.1⟩ e (fun z=>nomatch z) h
  | @dT a kvs ea=>
    cases (show u=Value.ref a from rx)
    obtain ⟨_,_,xs,_,o,es,ep,h1,h2,_⟩:=(show ObjOk X.prog X.w H s.heap a (.dT kvs) from I.hok a _ ea)
    exact PySem.W.kia_one PySem.W.kitx_dict I.kIn ⟨o,h1,h2.1⟩ e (fun z=>nomatch z) h
  | @ins a C dx fs ea cl ha hn htk hm=>
    cases (show u=Value.ref a from rx)
    obtain ⟨mA,O,_⟩:=ins_get I.hok ea
    obtain ⟨od,J,_⟩:=O.look
    exact PySem.W.kia_one (PySem.W.kitx_own (cl.get _) cl.hd ha hn htk hm) I.kIn J e (fun z=>nomatch z) h
end
end L2
namespace L2
open PySem PySem.Spec PyProof.Rows
structure Room (k:Nat) (A:Around):Prop where
  hd:A.handled=none
  dp:A.depth+3 * k+5 < recursionLimit
  un:A.units+16 * k+200 < cLine
  gd:A.guards=some []
theorem Room.mono {j k:Nat} {A:Around} (r:Room k A) (h:j≤k):Room j A:=⟨r.hd,by have:=r.dp;omega,by have:=r.un;omega,by first | exact r.gd | (simpa [Around.under,Code.isGuard,guardIds] using r.gd)⟩
theorem Room.deeper {k:Nat} {A:Around} (r:Room (k+1) A) (env:Env):Room k (A.deeper env):=
  ⟨r.hd,by have:=r.dp;show A.depth+1+3 * k+5 < _;omega,by have:=r.un;show A.units+3+16 * k+200 < _;omega,by first | exact r.gd | (simpa [Around.under,Code.isGuard,guardIds] using r.gd)⟩
theorem Room.in1 {k:Nat} {A:Around} (r:Room (k+1) A):Room k A.in1:=
  ⟨r.hd,by have:=r.dp;show A.depth+3 * k+5 < _;omega,by have:=r.un;show A.units+1+16 * k+200 < _;omega,by first | exact r.gd | (simpa [Around.under,Code.isGuard,guardIds] using r.gd)⟩
theorem make_depth {A:Around} {C:Addr} {us:List Value} {kw:List (Str × Value)}:(A.under (.builtin "type.__call__" ⟨.ref C :: us,kw⟩)).depth=A.depth+1:=by
  first | rfl | simp [Around.under,Code.weight,Code.isCreation,Code.isGuard,Code.isCaller,Code.frames,Code.isFrame,guardIds]
theorem make_units {A:Around} {C:Addr} {us:List Value} {kw:List (Str × Value)}:(A.under (.builtin "type.__call__" ⟨.ref C :: us,kw⟩)).units=A.units+1:=by
  first | rfl | simp [Around.under,Code.cUnits,Code.frames,Code.isFrame]
theorem Room.make {k:Nat} {A:Around} (r:Room (k+1) A) (C:Addr) (us:List Value) (kw:List (Str × Value)):Room k (A.under (.builtin "type.__call__" ⟨.ref C :: us,kw⟩)):=
  ⟨r.hd,by have:=r.dp;rw [make_depth];omega,by have:=r.un;rw [make_units];omega,by first | exact r.gd | (simpa [Around.under,Code.isGuard,guardIds] using r.gd)⟩
theorem Room.depth {k:Nat} {A:Around} (r:Room k A):A.depth < recursionLimit:=by have:=r.dp;omega
theorem Room.units {k:Nat} {A:Around} (r:Room k A):A.units+64 < cLine:=by have:=r.un;omega
theorem Room.units0 {k:Nat} {A:Around} (r:Room k A):A.units < cLine:=by have:=r.un;omega
def tNil:TA:=fun _ H Q=>Q [] H
def tCons (ta:TE) (tr:TA):TA:=fun σ H Q=>ta σ H fun x H1=>tr σ H1 fun xs H2=>Q (x :: xs) H2
section
variable {X:Cx} {e:Expr} {es:List Expr} {te:TE} {t:TA} {pos:Pos}
theorem pa_nil:PA X [] tNil:=fun _ _ _ _ H Q I h=>Calls.spliced_nil ⟨[],H,I,.nil,h⟩
theorem pa_cons (ha:PE X e te) (hr:PA X es t) (hs:starEach (e :: es) X.env=(false,eval e X.env) :: starEach es X.env:=by rfl):PA X (e :: es) (tCons te t):=by
  intro pos pins s σ H Q I h
  rw [hs]
  show wpAny _ _ (spliced ((false,eval e X.env) :: backTo pos (starEach es X.env))) _ _ s
  refine Calls.spliced_cons (thn (ha pins s σ H _ I h) fun u s1 ⟨x,H1,I1,r1,q1⟩=>?_)
  exact thn (hr pos pins s1 σ H1 _ I1 q1) fun us s2 ⟨xs,H2,I2,r2,q2⟩=>⟨x :: xs,H2,I2,.cons r1 r2,q2⟩
def tTup (t:TA):TE:=fun σ H Q=>t σ H fun xs H1=>xs.length≤sizeLine∧∀ p,H1 p=none→Q (.ref p) (upd H1 p (.tup xs))
def tLst (t:TA):TE:=fun σ H Q=>t σ H fun xs H1=>xs.length≤sizeLine∧∀ p,H1 p=none→Q (.ref p) (upd H1 p (.lst xs))
theorem pe_tup {x1} (h:PA X es t):PE X (.Tuple es x1 pos) (tTup t):=by
  intro pins s σ H Q I hq
  refine wpAny_Tuple_spliced (thn (h pos pins s σ H _ I hq) fun us s1 ⟨xs,H1,I1,r,z,q⟩=>⟨by rw [← r.length];exact z,?_⟩)
  have hf:H1 s1.heap.objs.size=none:=I1.hok.fresh (Nat.le_refl _)
  refine ⟨.ref s1.heap.objs.size,upd H1 s1.heap.objs.size (.tup xs),I1.laid (t':=s1.toks) (fun b u e=>Heap.get?_push_of_some _ e) (Nat.le_refl _) ?_,rfl,q _ hf⟩
  exact ⟨⟨z,_,Heap.get?_push_size _ rfl,rfl⟩,us,r,⟨_,Heap.get?_push_size _ rfl,rfl,_,rfl⟩⟩
theorem pe_lst (h:PA X es t):PE X (.List es pos) (tLst t):=by
  intro pins s σ H Q I hq
  refine wpAny_List_spliced (thn (h pos pins s σ H _ I hq) fun us s1 ⟨xs,H1,I1,r,z,q⟩=>⟨by rw [← r.length];exact z,?_⟩)
  have hf:H1 s1.heap.objs.size=none:=I1.hok.fresh (Nat.le_refl _)
  refine ⟨.ref s1.heap.objs.size,upd H1 s1.heap.objs.size (.lst xs),I1.laid (t':=s1.toks) (fun b u e=>Heap.get?_push_of_some _ e) (Nat.le_refl _) ?_,rfl,q _ hf⟩
  exact ⟨z,us,0,r,Heap.get?_push_size _ rfl⟩
end
abbrev Sp:=List V→Hp→VK→XK→Prop
abbrev CXT:=List Env→Hp→Shared→XK→Value→Shared→Prop
structure Env0 (P:Program) (w:World) (K:PySem.W.Frag) (mg:Str→Option Value) (base:Heap) (A:Around) (outer:List Env) (s:Shared) (H:Hp):Prop where
  frames:A.frames=some outer
  mod:Mod K mg base
  bs:∀ b o,base.get? b=some o→s.heap.get? b=some o∧H b=none
  bsz:base.objs.size≤s.heap.objs.size
  funs:s.heap.FunFrames base outer
  frf:∀ b∈frs outer,H b=none
  hok:HOk P w H s.heap
  bare:AllBare s.gens
def CE (outer:List Env) (P:Program) (w:World) (H:Hp) (s:Shared) (Q:VK) (u:Value) (s':Shared):Prop:=
  ∃ v H',s'.os=s.os∧AllBare s'.gens∧Un (frs outer) [] H H' s.heap s'.heap∧HOk P w H' s'.heap∧RelV v u∧Q v H'
def CR (CX:CXT) (outer:List Env) (P:Program) (w:World) (H:Hp) (s:Shared) (Q:VK) (E:XK) (r:Result) (s':Shared):Prop:=
  match r with
  | .ok (.ret u)=>CE outer P w H s Q u s'
  | .ok _=>False
  | .error e=>CX outer H s E e s'
structure FnOk (P:Program) (w:World) (K:PySem.W.Frag) (mg:Str→Option Value) (base:Heap) (CX:CXT) (k:Nat) (f:Addr) (fd:FuncData) (ps:List Str) (sp:Sp):Prop where
  len:∀ vs H Q E,sp vs H Q E→vs.length=ps.length
  run:∀ (A:Around) (outer:List Env) (s:Shared) (H:Hp) (args:Args) (us:List Value) (vs:List V) (Q:VK) (E:XK),Room k A→Env0 P w K mg base A outer s H→BindsTo s fd args (ps.zip us)→Vals vs us→sp vs H Q E →
    codeAny (model P w) A (.call (.ref f) args) (CR CX outer P w H s Q E) s
theorem FnOk.mono {P:Program} {w:World} {K:PySem.W.Frag} {mg:Str→Option Value} {base:Heap} {CX:CXT} {j k:Nat} {f:Addr} {fd:FuncData} {ps:List Str} {sp:Sp} (F:FnOk P w K mg base CX j f fd ps sp) (h:j≤k) :
    FnOk P w K mg base CX k f fd ps sp:=⟨F.len,fun A outer s H args us vs Q E hr=>F.run A outer s H args us vs Q E (hr.mono h)⟩
theorem Env0.make {P:Program} {w:World} {K:PySem.W.Frag} {mg:Str→Option Value} {base:Heap} {A:Around} {outer:List Env} {s:Shared} {H:Hp} (e:Env0 P w K mg base A outer s H) (C:Addr) (us:List Value) (kw:List (Str × Value)) :
    Env0 P w K mg base (A.under (.builtin "type.__call__" ⟨.ref C :: us,kw⟩)) outer s H:=⟨by first | exact e.frames | (simpa [Around.under,Code.envs,Code.isFrame,pushEnvs] using e.frames),e.mod,e.bs,e.bsz,e.funs,e.frf,e.hok,e.bare⟩
theorem Env0.in1 {P:Program} {w:World} {K:PySem.W.Frag} {mg:Str→Option Value} {base:Heap} {A:Around} {outer:List Env} {s:Shared} {H:Hp} (e:Env0 P w K mg base A outer s H) :
    Env0 P w K mg base A.in1 outer s H:=⟨e.frames,e.mod,e.bs,e.bsz,e.funs,e.frf,e.hok,e.bare⟩
section
variable {X:Cx} {pins:List (Addr × Obj)} {σ:St} {H:Hp} {s s':Shared}
theorem Inv.env0 (I:Inv X pins σ H s):Env0 X.prog X.w X.K X.mg X.base X.A X.stack s H:=
  ⟨I.ok.frames,I.ok.mod,I.bs,Nat.le_trans I.ok.bsz I.sz,I.stack,I.stkFree,I.hok,I.bare⟩
theorem Inv.after {Q:VK} {u:Value} (I:Inv X pins σ H s) (h:CE X.stack X.prog X.w H s Q u s'):EP X pins σ Q u s':=by
  obtain ⟨v,H',os,bare,un,hok,r,q⟩:=h
  obtain ⟨hh,g,d,t,os'⟩:=s'
  obtain rfl:os'=s.os:=os
  exact ⟨v,H',I.call (h':=hh) (g':=g) (d':=d) (t':=t) (ch:=[]) un hok bare (fun b z=>absurd z (by simp)),r,q⟩
end
def tCall (sp:Sp) (dvs:List V) (E:XK) (t:TA):TE:=fun σ H Q=>t σ H fun vs H1=>sp (vs++dvs) H1 Q E
def tMeth (C:Addr) (m:Str) (sp:Sp) (dvs:List V) (E:XK) (ta:TE) (t:TA):TE:=fun σ H Q=>ta σ H fun x H1=>∃ a dx fs,x=.ref a∧H1 a=some (.ins C dx fs)∧fs.lookup m=none ∧
  t σ H1 fun vs H2=>sp (x :: (vs++dvs)) H2 Q E
def tMake (C:Addr) (sp:Sp) (dvs:List V) (E:XK) (t:TA):TE:=fun σ H Q=>t σ H fun vs H1=>∀ x dx,H1 x=none→H1 dx=none→dx≠x →
  sp (.ref x :: (vs++dvs)) (upd (upd H1 dx (.own x)) x (.ins C dx [])) (fun v H2=>v=.non∧Q (.ref x) H2) E
def Binds (K:PySem.W.Frag) (fd:FuncData) (ps:List Str) (ds:List Value):Prop:=
  ∀ (s:Shared) (us:List Value),K.In s.heap→(us++ds).length=ps.length→BindsTo s fd ⟨us,[]⟩ (ps.zip (us++ds))
theorem Binds.all {K:PySem.W.Frag} {fd:FuncData} {ps:List Str} (h:∀ us:List Value,us.length=ps.length→bindArgs fd ⟨us,[]⟩=pure (ps.zip us)):Binds K fd ps []:=fun s us _ hl=>by
  rw [List.append_nil] at hl ⊢
  exact .of_eq (h us hl)
def Passes (CX:CXT) (X:Cx) (E:XK):Prop:=∀ (pins:List (Addr × Obj)) (σ:St) (H:Hp) (s:Shared) (e:Value) (s':Shared),Inv X pins σ H s→CX X.stack H s E e s'→X.xe e s'
section
variable {X:Cx} {CX:CXT} {k:Nat} {f C:Addr} {fd:FuncData} {ps:List Str} {sp:Sp} {dvs:List V} {ds:List Value} {E:XK} {x m:Str} {p pos apos:Pos} {e o:Expr} {es:List Expr} {ta:TE} {t:TA}
theorem run_fn {pins:List (Addr × Obj)} {σ:St} {H:Hp} {s:Shared} {Q:VK} {us:List Value} {vs:List V} (F:FnOk X.prog X.w X.K X.mg X.base CX k f fd ps sp) (hr:Room k X.A) (hb:Binds X.K fd ps ds) (hd:Vals dvs ds) (hx:Passes CX X E)
    (I:Inv X pins σ H s) (r:Vals vs us) (h:sp (vs++dvs) H Q E):wpAny (model X.prog X.w) X.A (call (.ref f) us) (EP X pins σ Q) X.xe s:=by
  have r2:Vals (vs++dvs) (us++ds):=r.append hd
  have hl:(us++ds).length=ps.length:=by rw [← r2.length];exact F.len _ _ _ _ h
  refine wpAny_call (codeAny_mono (F.run X.A X.stack s H ⟨us,[]⟩ (us++ds) (vs++dvs) Q E hr I.env0 (hb s us I.kIn hl) r2 h) fun r s' hq=>?_)
  cases r with
  | error e=>exact hx pins σ H s e s' I hq
  | ok fl=>
    cases fl with
    | ret u=>exact I.after hq
    | next=>exact False.elim hq
    | brk=>exact False.elim hq
    | cont=>exact False.elim hq
theorem pe_call (F:FnOk X.prog X.w X.K X.mg X.base CX k f fd ps sp) (hr:Room k X.A) (hg:Gl X x) (hm:X.mg x=some (.ref f)) (hk:PySem.W.keepIn X.K (.ref f)=true) (hb:Binds X.K fd ps ds) (hd:Vals dvs ds) (hx:Passes CX X E)
    (ha:PA X (e :: es) t) (hdb:(x == ("__debug__" : Str))=false:=by decide) (he:starEach (e :: es) X.env=(false,eval e X.env) :: starEach es X.env:=by rfl) (hpl:(backTo pos (starEach es X.env)).any (·.1)=false:=by rfl) :
    PE X (.Call (.Name x p) (e :: es) [] pos) (tCall sp dvs E t):=by
  intro pins s σ H Q I h
  refine wpAny_Call_Name_kw (ld_glob I hg hm ?_ hdb)
  refine PySem.W.callWith_K (h₀:=X.base) I.ok.mod.kin hk (thn (ha pos pins s σ H _ I h) fun us s1 ⟨vs,H1,I1,r,q⟩=>⟨I1.kIn,?_⟩) he hpl
  exact run_fn F hr hb hd hx I1 r q
theorem pe_meth {pl:Sem Bool} (he:PE X o ta) (c:Cls X.K C) (hm:Meth X.K C m f) (F:FnOk X.prog X.w X.K X.mg X.base CX k f fd ps sp) (hr:Room k X.A) (hb:Binds X.K fd ps ds) (hd:Vals dvs ds) (hx:Passes CX X E) (ha:PA X (e :: es) t)
    (hst:starEach (e :: es) X.env=(false,eval e X.env) :: starEach es X.env:=by rfl) (hpl:(backTo pos (starEach es X.env)).any (·.1)=false:=by rfl)
    (ht:eval (.Call (.Attribute o m apos) (e :: es) [] pos) X.env=(do
      let ov ← eval o X.env
      standAt apos.atName
      let (f,first) ← holding [ov] (getMethod ov m pl)
      callWith pos f first (backTo pos (starEach (e :: es) X.env)) (backToKw pos (keywordEach [] X.env))):=by rfl) :
    PE X (.Call (.Attribute o m apos) (e :: es) [] pos) (tMeth C m sp dvs E ta t):=by
  intro pins s σ H Q I h
  refine PySem.W.methodCall_KW (pl:=pl) (thn (he pins s σ H _ I h) fun u s1 ⟨x,H1,I1,rx,a,dx,fs,ex,ea,l,q⟩=>?_) ht
  subst ex
  obtain rfl:u=Value.ref a:=rx
  refine getmeth_ok I1 ea c hm l ?_
  refine PySem.W.callWith_K (first:=[.ref a]) (h₀:=X.base) I.ok.mod.kin hm.kp (thn (ha pos pins s1 σ H1 _ I1 q) fun us s2 ⟨vs,H2,I2,r,q2⟩=>⟨I2.kIn,?_⟩) hst hpl
  exact run_fn (us:=.ref a :: us) (vs:=.ref a :: vs) F hr hb hd hx I2 (.cons rfl r) q2
theorem pe_meth0 {pl:Sem Bool} (he:PE X o ta) (c:Cls X.K C) (hm:Meth X.K C m f) (F:FnOk X.prog X.w X.K X.mg X.base CX k f fd ps sp) (hr:Room k X.A) (hb:Binds X.K fd ps ds) (hd:Vals dvs ds) (hx:Passes CX X E)
    (ht:eval (.Call (.Attribute o m apos) [] [] pos) X.env=(do
      let ov ← eval o X.env
      standAt apos.atName
      let (f,first) ← holding [ov] (getMethod ov m pl)
      callWith pos f first (backTo pos (starEach [] X.env)) (backToKw pos (keywordEach [] X.env))):=by rfl) :
    PE X (.Call (.Attribute o m apos) [] [] pos) (tMeth C m sp dvs E ta tNil):=by
  intro pins s σ H Q I h
  refine PySem.W.methodCall_KW (pl:=pl) (thn (he pins s σ H _ I h) fun u s1 ⟨x,H1,I1,rx,a,dx,fs,ex,ea,l,q⟩=>?_) ht
  subst ex
  obtain rfl:u=Value.ref a:=rx
  refine getmeth_ok I1 ea c hm l ?_
  exact PySem.W.callWith_K0 (first:=[.ref a]) I1.kIn hm.kp (run_fn (us:=[.ref a]) (vs:=[.ref a]) F hr hb hd hx I1 (.cons rfl .nil) q)
structure Mk (K:PySem.W.Frag) (C f:Addr):Prop where
  makes:PySem.W.makesIn K C=true
  init:PySem.W.findIn K (.ref C) "__init__" = some (some (.ref f))
  fn:PySem.W.isFn K (.ref f)=true
  kp:PySem.W.keepIn K (.ref C)=true
theorem run_make {pins:List (Addr × Obj)} {σ:St} {H:Hp} {s:Shared} {Q:VK} {us:List Value} {vs:List V} (M:Mk X.K C f) (F:FnOk X.prog X.w X.K X.mg X.base CX k f fd ps sp) (hr:Room (k+1) X.A) (hb:Binds X.K fd ps ds) (hd:Vals dvs ds)
    (hx:Passes CX X E) (I:Inv X pins σ H s) (r:Vals vs us)
    (h:∀ x dx,H x=none→H dx=none→dx≠x→sp (.ref x :: (vs++dvs)) (upd (upd H dx (.own x)) x (.ins C dx [])) (fun v H2=>v=.non∧Q (.ref x) H2) E) :
    wpAny (model X.prog X.w) X.A (call (.ref C) us) (EP X pins σ Q) X.xe s:=by
  have hq:=h (s.heap.objs.size+1) s.heap.objs.size (I.hok.fresh (Nat.le_succ _)) (I.hok.fresh (Nat.le_refl _)) (Nat.ne_of_lt (Nat.lt_succ_self _))
  have I2:=Inv.made (C:=C) I
  have r2:Vals (V.ref (s.heap.objs.size+1) :: (vs++dvs)) (Value.ref (s.heap.objs.size+1) :: (us++ds)):=.cons rfl (r.append hd)
  have hl:(Value.ref (s.heap.objs.size+1) :: us++ds).length=ps.length:=by
    have e:=r2.length
    rw [F.len _ _ _ _ hq] at e
    exact e.symm
  refine wpAny_call (make_map (f:=f) I.kIn M.makes M.init (beq_iff_eq.mp M.fn) (codeAny_mono (F.run _ X.stack _ _ ⟨Value.ref (s.heap.objs.size+1) :: us,[]⟩ (Value.ref (s.heap.objs.size+1) :: (us++ds)) _ _ E (hr.make C us [])
    (I2.env0.make C us []) (hb _ (Value.ref (s.heap.objs.size+1) :: us) I2.kIn hl) r2 hq) fun r s' hq'=>?_))
  cases r with
  | error e=>exact hx pins σ _ _ e s' I2 hq'
  | ok fl=>
    cases fl with
    | ret u=>
      obtain ⟨v,H',I3,rv,ev,q3⟩:=I2.after hq'
      subst ev
      exact ⟨rv,⟨V.ref (s.heap.objs.size+1),H',I3,rfl,q3⟩⟩
    | next=>exact False.elim hq'
    | brk=>exact False.elim hq'
    | cont=>exact False.elim hq'
theorem pe_make (M:Mk X.K C f) (F:FnOk X.prog X.w X.K X.mg X.base CX k f fd ps sp) (hr:Room (k+1) X.A) (hg:Gl X x) (hm:X.mg x=some (.ref C)) (hb:Binds X.K fd ps ds) (hd:Vals dvs ds) (hx:Passes CX X E)
    (ha:PA X (e :: es) t) (hdb:(x == ("__debug__" : Str))=false:=by decide) (he:starEach (e :: es) X.env=(false,eval e X.env) :: starEach es X.env:=by rfl) (hpl:(backTo pos (starEach es X.env)).any (·.1)=false:=by rfl) :
    PE X (.Call (.Name x p) (e :: es) [] pos) (tMake C sp dvs E t):=by
  intro pins s σ H Q I h
  refine wpAny_Call_Name_kw (ld_glob I hg hm ?_ hdb)
  refine PySem.W.callWith_K (h₀:=X.base) I.ok.mod.kin M.kp (thn (ha pos pins s σ H _ I h) fun us s1 ⟨vs,H1,I1,r,q⟩=>⟨I1.kIn,?_⟩) he hpl
  exact run_make M F hr hb hd hx I1 r q
end
section
variable {X:Cx} {CX:CXT} {k:Nat} {f C:Addr} {fd:FuncData} {ps ks:List Str} {sp:Sp} {E:XK} {x m:Str} {p pos apos kpos:Pos} {e o:Expr} {es:List Expr} {kws:List Keyword} {te ta:TE} {t tk:TA} {nm:Option Str}
variable {g:List Value→List Value→List Value} {gV:List V→List V→List V}
end
structure FnScope (N P:List Str) (sc:Scope):Prop where
  kind:sc.kind=.function
  co:sc.isCoroutine=false
  gen:sc.isGenerator=false
  nd:N.Nodup
  pre:N.take P.length=P
  par:∀ x∈P,sc.names.lookup x=some .local∨sc.names.lookup x=some .cell
  nofree:∀ y∈sc.names,y.2≠.free
theorem bindL_out {kindOf:Str→Option NameKind} {x:Str}:∀ {binds:List (Str × Value)} {m:Str→Option Value},(∀ v,(x,v) ∉ binds)→bindL kindOf binds m x=m x
  | [],_,_=>rfl
  | (n,v) :: r,m,h=>by
    unfold bindL
    rw [bindL_out fun w hw=>h w (List.mem_cons_of_mem _ hw)]
    split
    · have:x≠n:=by rintro rfl;exact h v List.mem_cons_self
      simp [this]
    · rfl
theorem bindC_out {kindOf:Str→Option NameKind} {x:Str}:∀ {binds:List (Str × Value)} {m:Str→Option Value},(∀ v,(x,v) ∉ binds)→bindC kindOf binds m x=m x
  | [],_,_=>rfl
  | (n,v) :: r,m,h=>by
    unfold bindC
    rw [bindC_out fun w hw=>h w (List.mem_cons_of_mem _ hw)]
    split
    · rfl
    · have:x≠n:=by rintro rfl;exact h v List.mem_cons_self
      simp [this]
theorem bindL_get {kindOf:Str→Option NameKind} {x:Str} {v:Value}:∀ {P:List Str} {vs:List Value} {i:Nat} {m:Str→Option Value},P.Nodup→P[i]?=some x→vs[i]?=some v→kindOf x=some .local →
    bindL kindOf (P.zip vs) m x=some v
  | [],_,_,_,_,h,_,_=>by simp at h
  | _ :: _,[],_,_,_,_,h,_=>by simp at h
  | p :: P,w :: vs,0,m,nd,h1,h2,hk=>by
    simp at h1 h2;subst h1;subst h2
    show bindL kindOf ((p,w) :: P.zip vs) m p=_
    unfold bindL
    rw [bindL_out fun v hv=>(List.nodup_cons.mp nd).1 (List.of_mem_zip hv).1,if_pos hk]
    simp
  | p :: P,w :: vs,i+1,m,nd,h1,h2,hk=>by
    show bindL kindOf ((p,w) :: P.zip vs) m x=_
    unfold bindL
    exact bindL_get (i:=i) (List.nodup_cons.mp nd).2 (by simpa using h1) (by simpa using h2) hk
theorem bindC_get {kindOf:Str→Option NameKind} {x:Str} {v:Value}:∀ {P:List Str} {vs:List Value} {i:Nat} {m:Str→Option Value},P.Nodup→P[i]?=some x→vs[i]?=some v→kindOf x≠some .local →
    bindC kindOf (P.zip vs) m x=some v
  | [],_,_,_,_,h,_,_=>by simp at h
  | _ :: _,[],_,_,_,_,h,_=>by simp at h
  | p :: P,w :: vs,0,m,nd,h1,h2,hk=>by
    simp at h1 h2;subst h1;subst h2
    show bindC kindOf ((p,w) :: P.zip vs) m p=_
    unfold bindC
    rw [bindC_out fun v hv=>(List.nodup_cons.mp nd).1 (List.of_mem_zip hv).1,if_neg hk]
    simp
  | p :: P,w :: vs,i+1,m,nd,h1,h2,hk=>by
    show bindC kindOf ((p,w) :: P.zip vs) m x=_
    unfold bindC
    exact bindC_get (i:=i) (List.nodup_cons.mp nd).2 (by simpa using h1) (by simpa using h2) hk
def start (N:List Str) (vs:List V):St:=vs.map some++List.replicate (N.length - vs.length) none
def cxOf (CX:CXT) (P:Program) (w:World) (K:PySem.W.Frag) (mg:Str→Option Value) (base:Heap) (N:List Str) (qual:Str) (scope:Scope) (f:Addr) (cd:Value) (A:Around) (outer:List Env) (s:Shared) (H:Hp) (E:XK):Cx where
  prog:=P
  w:=w
  K:=K
  mg:=mg
  base:=base
  A:=A.deeper (envOfC qual scope s.heap.objs.size f cd)
  N:=N
  s₀:=s
  H₀:=H
  env:=envOfC qual scope s.heap.objs.size f cd
  outer:=outer
  stack:=envOfC qual scope s.heap.objs.size f cd :: outer
  ex:=[]
  calm:=true
  fn:=fun _=>true
  pn:=[]
  xe:=fun e s'=>wpAny (model P w) (A.deeper (envOfC qual scope s.heap.objs.size f cd)) (leaving (envOfC qual scope s.heap.objs.size f cd) e) (fun _ s''=>CX outer H s E e s'') (fun e' s''=>CX outer H s E e' s'') s'
theorem cell_has {sc:Scope} {n:Nat} {x:Str} (h:sc.names.lookup x=some .cell):∃ c,(cellsFrom n sc.names []).lookup x=some c:=by
  have q:=PySem.W.cellsFrom_some sc.names n [] (.inl h)
  exact Option.isSome_iff_exists.mp q
theorem inv_start {CX:CXT} {P:Program} {w:World} {K:PySem.W.Frag} {mg:Str→Option Value} {base:Heap} {N ps:List Str} {qual:Str} {scope:Scope} {f:Addr} {cd:Value} {A:Around} {outer:List Env} {s s1:Shared} {H:Hp} {E:XK} {us:List Value} {vs:List V}
    (S:FnScope N ps scope) (hd:A.handled=none) (e0:Env0 P w K mg base A outer s H) (hl:vs.length=ps.length) (r:Vals vs us)
    (x:InCallC s s.heap.objs.size (bindL (envOfC qual scope s.heap.objs.size f cd).kindOf (ps.zip us) fun _=>none) (cellsFrom (s.heap.objs.size+1) scope.names []) (bindC (envOfC qual scope s.heap.objs.size f cd).kindOf (ps.zip us) fun _=>none) s1) :
    Inv (cxOf CX P w K mg base N qual scope f cd A outer s H E) [] (start N vs) H s1:=by
  have hpl:ps.length≤N.length:=by have:=congrArg List.length S.pre;rw [List.length_take] at this;omega
  obtain ⟨h1,tk,rfl,hk⟩:=x.done
  have noA:∀ b:Addr,b ∉ (cxOf CX P w K mg base N qual scope f cd A outer s H E).ex:=fun b z=>absurd (show b∈([]:List Addr) from z) (by simp)
  refine ⟨⟨e0.mod,S.kind,rfl,rfl,Nat.le_refl _,fun y z c h1 h2=>?_,fun y hy=>?_,fun y c _ h=>?_,fun _=>hd,Around.frames_deeper e0.frames,.inr ⟨rfl,rfl⟩,fun b z=>absurd z (noA b),e0.bs,e0.bsz,fun b _ _=>noA b,fun b z=>absurd z (noA b),e0.funs,e0.frf⟩,
    rfl,e0.bare,Un.kept hk,⟨_,x.toInCall.ns,fun i y v h1 h2 h3=>?_⟩,fun y c h=>⟨_,x.cell y c h⟩,e0.hok.fresh (Nat.le_refl _),fun y c h=>?_,fun p hp=>absurd (show p∈([]:List (Addr × Obj)) from hp) (by simp),e0.hok.kept hk,?_⟩
  · exact name_of_addr x.apart (PySem.mem_of_lookup h1) (PySem.mem_of_lookup h2)
  · have hy:scope.names.lookup y=some .cell∨scope.names.lookup y=some .free:=hy
    rcases hy with hy | hy
    · exact cell_has hy
    · exact absurd rfl (S.nofree _ (PySem.mem_of_lookup hy))
  · exact Nat.le_of_lt (x.above y c (PySem.mem_of_lookup h))
  · have hi:i < vs.length:=by
      unfold start at h2
      by_cases hi:i < vs.length
      · exact hi
      · rw [List.getElem?_append_right (by simpa using hi)] at h2
        rw [List.getElem?_replicate] at h2
        split at h2 <;> cases h2
    have ha:vs[i]?=some v:=by
      unfold start at h2
      rw [List.getElem?_append_left (by simpa using hi),List.getElem?_map] at h2
      cases e:vs[i]? with
      | none=>rw [e] at h2;cases h2
      | some a=>rw [e] at h2;cases h2;rfl
    obtain ⟨u,hu,rv⟩:=r.get ha
    have hp:ps[i]?=some y:=by
      rw [← S.pre,List.getElem?_take_of_lt (by omega)];exact h1
    have ndP:ps.Nodup:=by rw [← S.pre];exact S.nd.sublist (List.take_sublist _ _)
    refine ⟨u,rv,?_⟩
    rcases S.par y (List.mem_of_getElem? hp) with k | k
    · exact .inl ⟨k,bindL_get ndP hp hu k⟩
    · obtain ⟨c,e⟩:=cell_has (n:=s.heap.objs.size+1) k
      refine .inr ⟨.inl k,c,e,?_⟩
      have q:=x.cell y c e
      rw [bindC_get ndP hp hu (by show scope.names.lookup y≠_;rw [k];decide)] at q
      exact q
  · exact e0.hok.fresh (Nat.le_of_lt (x.above y c (PySem.mem_of_lookup h)))
  · unfold start
    show _=N.length
    rw [List.length_append,List.length_map,List.length_replicate]
    omega
theorem fn_of {CX:CXT} {P:Program} {w:World} {K:PySem.W.Frag} {mg:Str→Option Value} {base:Heap} {k:Nat} {f:Addr} {name qual:Str} {params:Arguments} {body:List Stmt} {scope:Scope} {dV kV doc pm cdv ct oc:Value} {an od:Option Addr}
    {osl:Array (Option Value)} {N ps:List Str} {sp:Sp} (lk:K.lookup f=some ⟨oc,od,.func (PySem.W.fnOf name qual params body scope dV kV doc pm an cdv ct),osl⟩) (hcd:PySem.W.codeIn K cdv qual=true) (S:FnScope N ps scope)
    (len:∀ vs H Q E,sp vs H Q E→vs.length=ps.length)
    (hbody:∀ (A:Around) (outer:List Env) (s:Shared) (H:Hp) (vs:List V) (Q:VK) (E:XK),Room k (A.deeper (envOfC qual scope s.heap.objs.size f cdv))→sp vs H Q E →
      ∃ t,PSs (cxOf CX P w K mg base N qual scope f cdv A outer s H E) body t∧t { nx:=fun _ H'=>Q .non H',rt:=Q } (start N vs) H) :
    FnOk P w K mg base CX (k+1) f (PySem.W.fnOf name qual params body scope dV kV doc pm an cdv ct) ps sp:=by
  refine ⟨len,fun A outer s H args us vs Q E hr e0 hb r hsp=>?_⟩
  have hl:=len _ _ _ _ hsp
  have KX:K.In s.heap:=e0.mod.kin.keeps fun b o e=>(e0.bs b o e).1
  have lim:s.heap.NoLimit:=e0.mod.nolimit.keeps fun b o e=>(e0.bs b o e).1
  have hkind:∀ y∈ps.zip us,scope.names.lookup y.1=some .local∨(scope.names.lookup y.1=some .cell∧((cellsFrom (s.heap.objs.size+1) scope.names []).lookup y.1).isSome=true):=fun ⟨n,v⟩ hy=>by
    rcases S.par n (List.of_mem_zip hy).1 with q | q
    · exact .inl q
    · exact .inr ⟨q,PySem.W.cellsFrom_some _ _ _ (.inl q)⟩
  refine codeAny_call_function hr.depth (KX _ _ lk) rfl S.co S.gen rfl (PySem.W.codeRec_of KX hcd) (hb _ _ _ _ ?_)
  refine wpAny_newFunctionEnv_cells S.kind hkind fun env he s1 x=>?_
  subst he
  refine ⟨lim.keeps x.toInCall.keep,codeAny_func ?_⟩
  obtain ⟨t,ht,hq⟩:=hbody A outer s H vs Q E (hr.deeper _) hsp
  have I:Inv (cxOf CX P w K mg base N qual scope f cdv A outer s H E) [] (start N vs) H s1:=inv_start S hr.hd e0 hl r x
  refine wpAny_mono (ht [] s1 (start N vs) H _ I hq) (fun fl s' hs=>?_) fun e s' hs=>hs
  have fin:∀ {σ':St} {H':Hp} {v:V} {u:Value},Inv (cxOf CX P w K mg base N qual scope f cdv A outer s H E) [] σ' H' s'→RelV v u→Q v H'→CE outer P w H s Q u s':=
    fun {σ' H' v u} J rv q=>⟨v,H',J.os,J.bare,J.base,J.hok,rv,q⟩
  cases fl with
  | ret u=>
    obtain ⟨v,σ',H',J,rv,q⟩:=hs
    exact fin J rv q
  | next=>
    obtain ⟨σ',H',J,q⟩:=hs
    exact fin (v:=V.non) (u:=Value.none) J rfl q
  | brk=>
    obtain ⟨_,_,_,q⟩:=hs
    exact False.elim q
  | cont=>
    obtain ⟨_,_,_,q⟩:=hs
    exact False.elim q
end L2
namespace L2
open PySem PySem.Spec PyProof.Rows
section
variable {X:Cx} {x:Str} {p pos:Pos} {e:Expr} {es:List Expr} {t:TA} {id T:String} {r:List V→Hp→VK→Prop}
def tCB (r:List V→Hp→VK→Prop) (t:TA):TE:=fun σ H Q=>t σ H fun vs H1=>r vs H1 Q
theorem pe_callB (hc:CallR X (.builtin id) r) (hg:Gl X x) (hm:X.mg x=none) (hv:bootBuiltins x=some (.builtin id)) (ha:PA X (e :: es) t) (hn:x ≠ "__name__" := by decide) (hdb:(x == ("__debug__" : Str))=false:=by decide)
    (he:starEach (e :: es) X.env=(false,eval e X.env) :: starEach es X.env:=by rfl) (hpl:(backTo pos (starEach es X.env)).any (·.1)=false:=by rfl):PE X (.Call (.Name x p) (e :: es) [] pos) (tCB r t):=by
  intro pins s σ H Q I h
  refine wpAny_Call_Name_kw (ld_blt I hg hm hv ?_ hn hdb)
  exact PyProof.Rows.callWith_builtin1 (thn (ha pos pins s σ H _ I h) fun us s1 ⟨vs,H1,I1,r1,q1⟩=>hc pins s1 σ H1 vs us Q I1 r1 q1) he hpl
theorem pe_callTy (hc:CallR X (.type T) r) (hg:Gl X x) (hm:X.mg x=none) (hv:bootBuiltins x=some (.type T)) (ha:PA X (e :: es) t) (hn:x ≠ "__name__" := by decide) (hdb:(x == ("__debug__" : Str))=false:=by decide)
    (he:starEach (e :: es) X.env=(false,eval e X.env) :: starEach es X.env:=by rfl) (hpl:(backTo pos (starEach es X.env)).any (·.1)=false:=by rfl):PE X (.Call (.Name x p) (e :: es) [] pos) (tCB r t):=by
  intro pins s σ H Q I h
  refine wpAny_Call_Name_kw (ld_blt I hg hm hv ?_ hn hdb)
  exact PyProof.Rows.callWith_type1 (thn (ha pos pins s σ H _ I h) fun us s1 ⟨vs,H1,I1,r1,q1⟩=>hc pins s1 σ H1 vs us Q I1 r1 q1) he hpl
end
end L2
namespace HT
open PySem PyProof.Rows
section
open PySem.SeqAt
open PySem.AutoSeq1 (wpAny_loadPart')
open PySem.MeetsSeq PySem.MeetsSeq2 PySem.MeetsSeq3
end
section
variable {prog:Program} {w:World} {A:Around} {E:Value→Shared→Prop} {s:Shared}
theorem cat_tup {t b:Addr} {vs ws:List Value} {Q:Value→Shared→Prop} (ht:IsTup s.heap t vs.toArray) (hb:IsTup s.heap b ws.toArray) (hv:vs≠[])
    (h1:ws=[]→Q (.ref t) s) (h2:ws≠[]→Q (.ref s.heap.objs.size) { s with heap:=s.heap.push { cls:=.type "tuple", data:=.seq (vs++ws).toArray } })
    (hsz:vs.length+ws.length≤sizeLine):wpAny (model prog w) A (binaryOp .Add (.ref t) (.ref b)) Q E s:=by
  obtain ⟨⟨cls,dd,data,sl⟩,ho,hc,n,hd⟩:=id ht
  obtain ⟨⟨cls2,dd2,data2,sl2⟩,ho2,hc2,n2,hd2⟩:=id hb
  simp only at hc hd hc2 hd2
  subst hc hd hc2 hd2
  have e:vs.toArray++ws.toArray=(vs++ws).toArray:=by simp
  by_cases hw:ws=[]
  · exact concat_meets ⟨_,ho,rfl⟩ ⟨_,ho2,rfl⟩ noFill_tuple_add seq_tuple_add PySem.F.slot_tuple_add PySem.F.entry_tuple_add (PySem.F.args_tuple_add_2 _ _)
      (tuple_addW1 t b vs.toArray ws.toArray n n2 dd dd2 sl sl2 (by simpa using hv) (by simp [hw])) ⟨ho,ho2,h1 hw⟩
  · refine concat_meets ⟨_,ho,rfl⟩ ⟨_,ho2,rfl⟩ noFill_tuple_add seq_tuple_add PySem.F.slot_tuple_add PySem.F.entry_tuple_add (PySem.F.args_tuple_add_2 _ _)
      (tuple_addW2 t b vs.toArray ws.toArray n n2 dd dd2 sl sl2 (by simpa using hv) (by simpa using hw) (by rw [List.size_toArray,List.size_toArray];exact hsz)) ⟨ho,ho2,?_⟩
    rw [e]
    exact h2 hw
def sIx (n d:Nat):Option Int→Nat
  | none=>d
  | some v=>if v < 0 then (v+(n:Int)).toNat else min v.toNat n
theorem sIx_none (n d:Nat):sIx n d none=d:=rfl
theorem sIx_nat (n d k:Nat):sIx n d (some (k:Int))=min k n:=by
  show (if (k:Int) < 0 then ((k:Int)+(n:Int)).toNat else min (k:Int).toNat n)=min k n
  rw [if_neg (by omega),Int.toNat_natCast]
theorem sIx_le (n d:Nat) (hd:d≤n) (o:Option Int):sIx n d o≤n:=by
  cases o with
  | none=>exact hd
  | some v=>
    show (if v < 0 then (v+(n:Int)).toNat else min v.toNat n)≤n
    by_cases hv:v < 0
    · rw [if_pos hv];omega
    · rw [if_neg hv];exact Nat.min_le_right _ _
end
end HT
namespace L2
open PySem PySem.Spec PyProof.Rows
abbrev TO:=St→Hp→(Option Int→Hp→Prop)→Prop
def PO (X:Cx) (e:Option Expr) (t:TO):Prop:=
  ∀ (pins:List (Addr × Obj)) (s:Shared) (σ:St) (H:Hp) (Q:Option Int→Hp→Prop),Inv X pins σ H s→t σ H Q →
    wpAny (model X.prog X.w) X.A (evalPart e X.env) (fun u s'=>∃ o H',Inv X pins σ H' s'∧IsPart u o∧Q o H') X.xe s
def tNoPart:TO:=fun _ H Q=>Q none H
def tPart (t:TE):TO:=fun σ H Q=>t σ H fun x H1=>∃ i,x=.int i∧Q (some i) H1
section
variable {X:Cx} {e:Expr} {te:TE} {lo hi:Option Expr} {tl th:TO} {pos p2:Pos}
theorem po_none:PO X none tNoPart:=by
  intro pins s σ H Q I h
  rw [evalPart_none]
  exact wpAny_pure ⟨none,H,I,.none,h⟩
theorem po_some (h:PE X e te):PO X (some e) (tPart te):=by
  intro pins s σ H Q I hw
  rw [evalPart_some]
  refine thn (h pins s σ H _ I hw) fun u s1 ⟨x,H1,I1,r1,q1⟩=>?_
  obtain ⟨i,rfl,q⟩:=q1
  obtain ⟨t,rfl⟩:=r1
  exact ⟨some i,H1,I1,.int i t,q⟩
def SlR (X:Cx) (r:V→Option Int→Option Int→Hp→VK→Prop):Prop:=
  ∀ (pins:List (Addr × Obj)) (s:Shared) (σ:St) (H:Hp) (x:V) (v vl vu:Value) (lo hi:Option Int) (sl:Addr) (Q:VK),Inv X pins σ H s→RelV x v→s.heap.IsSliceOf sl vl vu .none→IsPart vl lo→IsPart vu hi→r x lo hi H Q →
    ∃ T id,typeLookup (.type T) "__getitem__" = pure (some (.builtin id))∧s.TypeIs v T∧wpAny (model X.prog X.w) X.A (getItem v (.ref sl)) (EP X pins σ Q) X.xe s
theorem SlR.or {r r':V→Option Int→Option Int→Hp→VK→Prop} (h:SlR X r) (h':SlR X r'):SlR X (fun x lo hi H Q=>r x lo hi H Q∨r' x lo hi H Q):=by
  intro pins s σ H x v vl vu lo hi sl Q I rx hs pl pu q
  rcases q with q | q
  · exact h pins s σ H x v vl vu lo hi sl Q I rx hs pl pu q
  · exact h' pins s σ H x v vl vu lo hi sl Q I rx hs pl pu q
def tSl (r:V→Option Int→Option Int→Hp→VK→Prop) (te:TE) (tl th:TO):TE:=fun σ H Q=>te σ H fun x H1=>tl σ H1 fun l H2=>th σ H2 fun u H3=>r x l u H3 Q
theorem pe_slice {r:V→Option Int→Option Int→Hp→VK→Prop} (hr:SlR X r) (he:PE X e te) (hl:PO X lo tl) (hu:PO X hi th):PE X (.Subscript e (.Slice lo hi none p2) pos) (tSl r te tl th):=by
  intro pins s σ H Q I h
  refine Subscript_ (thn (he pins s σ H _ I h) fun v s1 ⟨x,H1,I1,r1,q1⟩=>?_)
  refine wpAny_Slice (thn (hl pins s1 σ H1 _ I1 q1) fun vl s2 ⟨l,H2,I2,pl,q2⟩=>thn (hu pins s2 σ H2 _ I2 q2) fun vu s3 ⟨u,H3,I3,pu,q3⟩=>?_)
  rw [evalPart_none]
  refine wpAny_pure ?_
  have I4:Inv X pins σ H3 { s3 with heap:=s3.heap.push { cls:=.type "slice", data:=.fields #[vl,vu,.none] } }:=I3.kept (t':=s3.toks) fun b ob q=>Heap.get?_push_of_some _ q
  obtain ⟨T,id,hT,ht,hg⟩:=hr pins { s3 with heap:=s3.heap.push { cls:=.type "slice", data:=.fields #[vl,vu,.none] } } σ H3 x v vl vu l u s3.heap.objs.size Q I4 r1 (Heap.IsSliceOf.new ..) pl pu q3
  show wpAny (model X.prog X.w) X.A (subscriptTail e (.Slice lo hi none p2) v (.ref s3.heap.objs.size)) (EP X pins σ Q) X.xe { s3 with heap:=s3.heap.push { cls:=.type "slice", data:=.fields #[vl,vu,.none] } }
  exact tail_any (ops:=[.ref s3.heap.objs.size,v]) ht hT hg (by with_unfolding_all rfl)
def cutV (xs:List V) (lo hi:Option Int):List V:=(xs.drop (HT.sIx xs.length 0 lo)).take (HT.sIx xs.length xs.length hi - HT.sIx xs.length 0 lo)
theorem cutV_length (xs:List V) (lo hi:Option Int):(cutV xs lo hi).length≤xs.length:=by
  unfold cutV
  rw [List.length_take,List.length_drop]
  omega
def rCatT (K:PySem.W.Frag):R2:=fun x y H Q=>∃ a b xs ys,x=.ref a∧y=.ref b∧SqT K H a xs∧SqT K H b ys∧xs≠[]∧xs.length+ys.length≤sizeLine ∧
  (ys=[]→Q (.ref a) H)∧(ys≠[]→∀ p,H p=none→Q (.ref p) (upd H p (.tup (xs++ys))))
theorem Vals.nil_iff {xs:List V} {us:List Value} (r:Vals xs us):us=[] ↔ xs=[]:=by
  cases r with
  | nil=>simp
  | cons _ _=>simp
theorem op_catT:OpR X (binaryOp .Add) (rCatT X.K):=by
  intro pins s σ H x y v u Q I rx ry h
  obtain ⟨a,b,xs,ys,rfl,rfl,ha,hb,hx,hz,q1,q2⟩:=h
  cases rx
  cases ry
  obtain ⟨its,r1,p1,_⟩:=I.tuple ha
  obtain ⟨its2,r2,p2,_⟩:=I.tuple hb
  refine HT.cat_tup p1 p2 (fun z=>hx (r1.nil_iff.mp z)) (fun z=>⟨.ref a,H,I,rfl,q1 (r2.nil_iff.mp z)⟩) (fun z=>?_) (by rw [← r1.length,← r2.length];exact hz)
  refine ⟨.ref s.heap.objs.size,_,I.laid (t':=s.toks) (o:=.tup (xs++ys)) (fun b ob q=>Heap.get?_push_of_some _ q) (Nat.le_refl _) ?_,rfl,q2 (fun w=>z (r2.nil_iff.mpr w)) _ (I.hok.fresh (Nat.le_refl _))⟩
  exact ⟨⟨by rw [List.length_append];exact hz,_,Heap.get?_push_size _ rfl,rfl⟩,_,r1.append r2,IsTup.new _ _⟩
end
end L2
namespace L2
open PySem PySem.Spec PyProof.Rows
def ixN (n:Nat) (i:Int):Option Nat:=if 0≤i then (if i < n then some i.toNat else none) else if -(n:Int)≤i then some (i+n).toNat else none
def atI {α:Type} (xs:List α) (i:Int):Option α:=(ixN xs.length i).bind fun j=>xs[j]?
theorem ixN_seq {n:Nat} {i:Int} {j:Nat} (h:ixN n i=some j):seqIndex? i n=some j∧j < n∧-(n:Int)≤i∧i < n:=by
  unfold ixN at h
  by_cases h0:0≤i
  · rw [if_pos h0] at h
    by_cases h1:i < n
    · rw [if_pos h1] at h
      have e:i.toNat=j:=Option.some.inj h
      exact ⟨by rw [seqIndex_of h0 h1,e],by omega,by omega,h1⟩
    · rw [if_neg h1] at h;cases h
  · rw [if_neg h0] at h
    by_cases h1:-(n:Int)≤i
    · rw [if_pos h1] at h
      have e:(i+n).toNat=j:=Option.some.inj h
      exact ⟨by rw [seqIndex_neg (by omega) h1,e],by omega,h1,by omega⟩
    · rw [if_neg h1] at h;cases h
theorem atI_get {α:Type} {xs:List α} {i:Int} {v:α} (h:atI xs i=some v):∃ j,seqIndex? i xs.length=some j∧xs[j]?=some v∧j < xs.length∧-(xs.length:Int)≤i∧i < xs.length:=by
  unfold atI at h
  cases e:ixN xs.length i with
  | none=>rw [e] at h;cases h
  | some j=>
    rw [e] at h
    obtain ⟨h1,h2,h3,h4⟩:=ixN_seq e
    exact ⟨j,h1,h,h2,h3,h4⟩
theorem atI_nat {α:Type} {xs:List α} {j:Nat} {v:α} (h:xs[j]?=some v):atI xs (j:Int)=some v:=by
  have hj:j < xs.length:=(List.getElem?_eq_some_iff.mp h).1
  have e:ixN xs.length (j:Int)=some j:=by
    unfold ixN
    rw [if_pos (by omega),if_pos (by omega)];simp
  unfold atI;rw [e];exact h
theorem atI_last {α:Type} (xs:List α) (v:α):atI (xs++[v]) (-1)=some v:=by
  have hl:(xs++[v]).length=xs.length+1:=by simp
  have e:ixN (xs++[v]).length (-1)=some xs.length:=by
    unfold ixN
    rw [hl,if_neg (by decide),if_pos (by omega)]
    congr 1
    omega
  unfold atI
  rw [e]
  show (xs++[v])[xs.length]?=some v
  simp
def PlainIx (b:Expr):Prop:=∀ o i,subscripted b false o i=operate [o,i] (getItem o i)
def IxR (X:Cx) (r:R2):Prop:=
  ∀ (value slice:Expr) (pins:List (Addr × Obj)) (s:Shared) (σ:St) (H:Hp) (x y:V) (v u:Value) (Q:VK),Inv X pins σ H s→RelV x v→RelV y u→r x y H Q →
    subscripted slice false v u=operate [v,u] (getItem v u)→wpAny (model X.prog X.w) X.A (subscriptTail value slice v u) (EP X pins σ Q) X.xe s
def MtR (X:Cx) (id:String) (r:V→List V→Hp→VK→Prop):Prop:=
  ∀ (pins:List (Addr × Obj)) (s:Shared) (σ:St) (H:Hp) (x:V) (xs:List V) (v:Value) (us:List Value) (Q:VK),Inv X pins σ H s→RelV x v→Vals xs us→r x xs H Q →
    wpAny (model X.prog X.w) X.A (call (.builtin id) (v :: us)) (EP X pins σ Q) X.xe s
section
variable {X:Cx} {a b:Expr} {ta tb:TE} {pos:Pos}
theorem IxR.or {r r':R2} (h:IxR X r) (h':IxR X r'):IxR X (fun x y H Q=>r x y H Q∨r' x y H Q):=by
  intro value slice pins s σ H x y v u Q I rx ry q hs
  rcases q with q | q
  · exact h value slice pins s σ H x y v u Q I rx ry q hs
  · exact h' value slice pins s σ H x y v u Q I rx ry q hs
theorem MtR.or {id:String} {r r':V→List V→Hp→VK→Prop} (h:MtR X id r) (h':MtR X id r'):MtR X id (fun x xs H Q=>r x xs H Q∨r' x xs H Q):=by
  intro pins s σ H x xs v us Q I rx rs q
  rcases q with q | q
  · exact h pins s σ H x xs v us Q I rx rs q
  · exact h' pins s σ H x xs v us Q I rx rs q
theorem pe_ix {r:R2} (hr:IxR X r) (ha:PE X a ta) (hb:PE X b tb) (hs:PlainIx b):PE X (.Subscript a b pos) (tOp r ta tb):=by
  intro pins s σ H Q I h
  exact Subscript_ (binT ha hb I h fun v u s2 x y H2 I2 rx ry q=>hr a b pins s2 σ H2 x y v u Q I2 rx ry q (hs _ _))
def rIxL (K:PySem.W.Frag):R2:=fun x y H Q=>∃ p xs i v,x=.ref p∧y=.int i∧SqL K H p xs∧atI xs i=some v∧Q v H
def rIxT (K:PySem.W.Frag):R2:=fun x y H Q=>∃ p xs i v,x=.ref p∧y=.int i∧SqT K H p xs∧atI xs i=some v∧Q v H
def rIxS:R2:=fun x y H Q=>∃ z i c,x=.str z∧y=.int i∧z.length≤sizeLine∧atI z.cps.toList i=some c∧Q (.str ⟨#[c]⟩) H
theorem ix_list:IxR X (rIxL X.K):=by
  intro value slice pins s σ H x y v u Q I rx ry h hs
  obtain ⟨p,xs,i,z,rfl,rfl,hq,he,q⟩:=h
  cases rx
  obtain ⟨t,rfl⟩:=ry
  obtain ⟨its,r,pl,hz⟩:=I.list hq
  obtain ⟨j,h1,h2,h3,h4,h5⟩:=atI_get he
  obtain ⟨w,ew,rw'⟩:=r.get h2
  have hl:=r.length
  have hn:=line63
  have fin:EP X pins σ Q w s:=⟨z,H,I,rw',q⟩
  by_cases h0:0≤i
  · have hj:i.toNat=j:=by
      rw [seqIndex_of h0 h5] at h1
      exact Option.some.inj h1
    exact item_listR pl.isList h0 (by omega) (by rw [hj];simpa using ew) fin hs
  · have hj:(i+(its.toArray.size:Int)).toNat=j:=by
      rw [seqIndex_neg (by omega) h4] at h1
      rw [List.size_toArray,← hl]
      exact Option.some.inj h1
    exact subscriptTail_builtinR (x:=w) pl.isList.typeIs slot_list_getitem.lookup
      (wpAny_getItem_list_neg (Q:=fun r s'=>r=w∧EP X pins σ Q r s') pl.isList (by omega) (by rw [List.size_toArray] <;> omega) (by omega) (by rw [hj];simpa using ew) ⟨rfl,fin⟩) hs
theorem ix_tup:IxR X (rIxT X.K):=by
  intro value slice pins s σ H x y v u Q I rx ry h hs
  obtain ⟨p,xs,i,z,rfl,rfl,hq,he,q⟩:=h
  cases rx
  obtain ⟨t,rfl⟩:=ry
  obtain ⟨its,r,pl,hz⟩:=I.tuple hq
  obtain ⟨j,h1,h2,h3,h4,h5⟩:=atI_get he
  obtain ⟨w,ew,rw'⟩:=r.get h2
  have hl:=r.length
  have hn:=line63
  have fin:EP X pins σ Q w s:=⟨z,H,I,rw',q⟩
  exact subscriptTail_builtinR (x:=w) pl.typeIs slot_tuple_getitem.lookup
    (getItem_tuple (j:=j) (Q:=fun r s'=>r=w∧EP X pins σ Q r s') pl (by omega) (by omega) (by rw [List.size_toArray,← hl];exact h1) (by simpa using ew) ⟨rfl,fin⟩) hs
theorem ix_str:IxR X rIxS:=by
  intro value slice pins s σ H x y v u Q I rx ry h hs
  obtain ⟨z,i,c,rfl,rfl,hz,he,q⟩:=h
  obtain ⟨t,rfl⟩:=rx
  obtain ⟨t',rfl⟩:=ry
  obtain ⟨j,h1,h2,h3,h4,h5⟩:=atI_get he
  have hl:z.cps.toList.length=z.length:=by simp [Str.length]
  rw [hl] at h1 h4 h5
  have hn:=line63
  exact tail_any (typeIs_str s z t) slot_str_getitem.lookup (getItem_str (c:=c) (by
    have e1:decide (i < -(2 ^ 63:Int))=false:=decide_eq_false (by omega)
    have e2:decide (i ≥ 2 ^ 63)=false:=decide_eq_false (by omega)
    rw [e1,e2,Bool.or_false]) (by rw [h1];simpa using h2) ⟨.str ⟨#[c]⟩,H,I.tok _,⟨_,rfl⟩,q⟩) hs
theorem mapSeq_set (its:List Value) (n j:Nat) (u:Value):Obj.mapSeq (·.setIfInBounds j u) { cls:=.type "list", data:=.seq its.toArray n }={ cls:=.type "list", data:=.seq (its.set j u).toArray n }:=by
  simp [Obj.mapSeq]
theorem Inv.lst {pins:List (Addr × Obj)} {σ:St} {H:Hp} {s:Shared} {p:Addr} {xs:List V} (I:Inv X pins σ H s) (h:H p=some (.lst xs)) :
    ∃ (its:List Value) (n:Nat),Vals xs its∧s.heap.get? p=some { cls:=.type "list", data:=.seq its.toArray n }∧xs.length≤sizeLine:=by
  obtain ⟨z,its,n,r,e⟩:=I.hok p _ h
  exact ⟨its,n,r,e,z⟩
theorem Inv.lstUpd {pins:List (Addr × Obj)} {σ:St} {H:Hp} {s:Shared} {p:Addr} {xs ys:List V} {its its':List Value} {n n':Nat} {f:Obj→Obj} (I:Inv X pins σ H s) (h:H p=some (.lst xs))
    (ho:s.heap.get? p=some { cls:=.type "list", data:=.seq its.toArray n }) (hf:f { cls:=.type "list", data:=.seq its.toArray n }={ cls:=.type "list", data:=.seq its'.toArray n' }) (r:Vals ys its') (hz:ys.length≤sizeLine) (t:Nat) :
    Inv X pins σ (upd H p (.lst ys)) { s with heap:=s.heap.update p f,toks:=t }:=by
  have e:(s.heap.update p f).get? p=some { cls:=.type "list", data:=.seq its'.toArray n' }:=by
    rw [Heap.get?_update_self f ho (by rw [hf] <;> rfl),hf]
  refine I.write (x:=p) (e:=p) (by rw [h];trivial) (.inl rfl) (fun b u hb q=>(Heap.get?_update_other _ _ (Ne.symm hb)).trans q) ⟨_,e⟩ ?_
  exact ⟨hz,its',n',r,e⟩
def rSetL:V→V→V→Hp→(Hp→Prop)→Prop:=fun o i v H Q=>∃ p xs k j,o=.ref p∧i=.int k∧H p=some (.lst xs)∧ixN xs.length k=some j∧Q (upd H p (.lst (xs.set j v)))
theorem set_list:PSet X rSetL:=by
  intro pins s σ H o i v ov iv u Q I ro ri rv h
  obtain ⟨p,xs,k,j,rfl,rfl,hp,hj,q⟩:=h
  cases ro
  obtain ⟨t,rfl⟩:=ri
  obtain ⟨its,n,r,ho,hz⟩:=I.lst hp
  obtain ⟨h1,h2,h3,h4⟩:=ixN_seq hj
  have hl:=r.length
  have hn:=line63
  have I':Inv X pins σ (upd H p (.lst (xs.set j v))) { s with heap:=s.heap.update p (Obj.mapSeq (·.setIfInBounds j u)) }:=
    I.lstUpd hp ho (mapSeq_set its n j u) (r.set rv j) (by rw [List.length_set];exact hz) s.toks
  by_cases h0:0≤k
  · have hk:k.toNat=j:=by
      rw [seqIndex_of h0 h4] at h1
      exact Option.some.inj h1
    exact PySem.W.ki_setAt ho h0 (by omega) (by rw [List.size_toArray,← hl];exact h4) (by rw [hk];exact ⟨_,I',q⟩)
  · have hk:(k+(its.toArray.size:Int)).toNat=j:=by
      rw [seqIndex_neg (by omega) h3] at h1
      rw [List.size_toArray,← hl]
      exact Option.some.inj h1
    exact PySem.W.ki_setBack ho (by omega) (by rw [List.size_toArray,← hl];exact h3) (by omega) (by rw [hk];exact ⟨_,I',q⟩)
theorem slice_bounds (lo hi:Option Int) (n:Nat):(sliceBounds lo hi none n).1=((HT.sIx n 0 lo:Nat):Int)∧(sliceBounds lo hi none n).2.1=((HT.sIx n n hi:Nat):Int)∧(sliceBounds lo hi none n).2.2=1:=by
  refine ⟨?_,?_,rfl⟩
  · cases lo with
    | none=>simp [sliceBounds,HT.sIx]
    | some i=>
      simp only [sliceBounds,HT.sIx,Option.getD_none,show (1:Int) > 0 by decide,if_true]
      by_cases h:i < 0
      · simp only [h,if_true] <;> omega
      · simp only [h,if_false] <;> omega
  · cases hi with
    | none=>simp [sliceBounds,HT.sIx]
    | some i=>
      simp only [sliceBounds,HT.sIx,Option.getD_none,show (1:Int) > 0 by decide,if_true]
      by_cases h:i < 0
      · simp only [h,if_true] <;> omega
      · simp only [h,if_false] <;> omega
theorem slicePick_cut (its:List Value) (lo hi:Option Int):slicePick its.toArray lo hi none=((its.drop (HT.sIx its.length 0 lo)).take (HT.sIx its.length its.length hi - HT.sIx its.length 0 lo)).toArray:=by
  obtain ⟨h1,h2,h3⟩:=slice_bounds lo hi its.toArray.size
  unfold slicePick
  rw [h1,h2,h3]
  simp only [sliceRange_one,pick_run,List.size_toArray] <;> rfl
def rSlL (K:PySem.W.Frag):V→Option Int→Option Int→Hp→VK→Prop:=fun x lo hi H Q=>∃ a xs,x=.ref a∧SqL K H a xs∧∀ p,H p=none→Q (.ref p) (upd H p (.lst (cutV xs lo hi)))
theorem sl_list:SlR X (rSlL X.K):=by
  intro pins s σ H x v vl vu lo hi sl Q I rx hs pl pu h
  obtain ⟨a,xs,rfl,hx,q⟩:=h
  cases rx
  obtain ⟨its,r,ht,hz⟩:=I.list hx
  have hlen:=r.length
  refine ⟨"list", _,slot_list_getitem.lookup,ht.isList.typeIs,?_⟩
  refine wpAny_getItem_list_slice ht.isList hs pl pu .none (by simp) ?_ (by rw [List.size_toArray] <;> omega)
  rw [slicePick_cut,← hlen]
  refine ⟨.ref s.heap.objs.size,_,I.laid (t':=s.toks) (o:=.lst (cutV xs lo hi)) (fun b ob q=>Heap.get?_push_of_some _ q) (Nat.le_refl _) ?_,rfl,q _ (I.hok.fresh (Nat.le_refl _))⟩
  exact ⟨Nat.le_trans (cutV_length xs lo hi) hz,_,0,(r.drop (HT.sIx xs.length 0 lo)).take (HT.sIx xs.length xs.length hi - HT.sIx xs.length 0 lo),Heap.get?_push_size _ rfl⟩
def flatV:V→Bool
  | .non=>true
  | .bl _=>true
  | .int _=>true
  | .str _=>true
  | _=>false
def eqV:V→V→Bool
  | .non,.non=>true
  | .bl a,.bl b=>a == b
  | .bl a,.int b=>(if a then 1 else 0) == b
  | .int a,.bl b=>a == (if b then 1 else 0)
  | .int a,.int b=>a == b
  | .str a,.str b=>a == b
  | _,_=>false
theorem eqAt_V {A:Around} {s:Shared} {y x:V} {u v:Value} (ry:RelV y u) (rx:RelV x v) (fy:flatV y=true) (fx:flatV x=true):SeqAt.EqAt A s u v (eqV y x):=by
  cases y with
  | non=>
    cases ry
    cases x with
    | non=>cases rx;exact SeqAt.EqAt.same _
    | bl b=>cases rx;exact SeqAt.EqAt.none_bool b
    | int b=>obtain ⟨t,rfl⟩:=rx;exact SeqAt.EqAt.none_int b t
    | str b=>obtain ⟨t,rfl⟩:=rx;exact SeqAt.EqAt.none_str b t
    | _=>exact absurd (show false=true from fx) Bool.false_ne_true
  | bl a=>
    cases ry
    cases x with
    | non=>cases rx;exact SeqAt.EqAt.bool_none a
    | bl b=>cases rx;exact SeqAt.EqAt.bool_bool a b
    | int b=>obtain ⟨t,rfl⟩:=rx;exact SeqAt.EqAt.bool_int a b t
    | str b=>obtain ⟨t,rfl⟩:=rx;exact SeqAt.EqAt.bool_str a b t
    | _=>exact absurd (show false=true from fx) Bool.false_ne_true
  | int a=>
    obtain ⟨t',rfl⟩:=ry
    cases x with
    | non=>cases rx;exact SeqAt.EqAt.int_none a t'
    | bl b=>cases rx;exact SeqAt.EqAt.int_bool a t' b
    | int b=>obtain ⟨t,rfl⟩:=rx;exact SeqAt.EqAt.int_int a t' b t
    | str b=>obtain ⟨t,rfl⟩:=rx;exact SeqAt.EqAt.int_str a t' b t
    | _=>exact absurd (show false=true from fx) Bool.false_ne_true
  | str a=>
    obtain ⟨t',rfl⟩:=ry
    cases x with
    | non=>cases rx;exact SeqAt.EqAt.str_none a t'
    | bl b=>cases rx;exact SeqAt.EqAt.str_bool a t' b
    | int b=>obtain ⟨t,rfl⟩:=rx;exact SeqAt.EqAt.str_int a t' b t
    | str b=>obtain ⟨t,rfl⟩:=rx;exact SeqAt.EqAt.str_str a t' b t
    | _=>exact absurd (show false=true from fx) Bool.false_ne_true
  | _=>exact absurd (show false=true from fy) Bool.false_ne_true
def eqU (x:V) (u:Value):Bool:=match u with
  | .none=>eqV .non x
  | .bool b=>eqV (.bl b) x
  | .int i _=>eqV (.int i) x
  | .str z _=>eqV (.str z) x
  | _=>false
theorem eqU_of {x y:V} {u:Value} (r:RelV y u) (f:flatV y=true):eqU x u=eqV y x:=by
  cases y with
  | non=>cases r;rfl
  | bl b=>cases r;rfl
  | int i=>obtain ⟨t,rfl⟩:=r;rfl
  | str z=>obtain ⟨t,rfl⟩:=r;rfl
  | _=>exact absurd (show false=true from f) Bool.false_ne_true
theorem any_eqU {x:V}:∀ {xs:List V} {us:List Value},Vals xs us→xs.all flatV=true→us.any (eqU x)=xs.any fun y=>eqV y x
  | _,_,.nil,_=>rfl
  | y :: xs,u :: us,.cons r t,f=>by
    rw [List.all_cons,Bool.and_eq_true] at f
    rw [List.any_cons,List.any_cons,eqU_of r f.1,any_eqU t f.2]
theorem mem_eqAt {A:Around} {s:Shared} {x:V} {v:Value} (rx:RelV x v) (fx:flatV x=true):∀ {xs:List V} {us:List Value},Vals xs us→xs.all flatV=true→∀ u∈us,SeqAt.EqAt A s u v (eqU x u)
  | _,_,.nil,_=>fun u hu=>by cases hu
  | y :: xs,u :: us,.cons r t,f=>fun u' hu=>by
    rw [List.all_cons,Bool.and_eq_true] at f
    rcases List.mem_cons.mp hu with rfl | hu
    · rw [eqU_of r f.1];exact eqAt_V r rx f.1 fx
    · exact mem_eqAt rx fx t f.2 u' hu
def inV (x:V) (xs:List V):Bool:=xs.any fun y=>eqV y x
def rIn (K:PySem.W.Frag) (neg:Bool):R2:=fun x y H Q=>∃ p xs,y=.ref p∧(SqL K H p xs∨SqT K H p xs)∧flatV x=true∧xs.all flatV=true∧Q (.bl (if neg then !inV x xs else inV x xs)) H
theorem op_notIn_seq:OpR X (compareOp .NotIn) (rIn X.K true):=by
  intro pins s σ H x y v u Q I rx ry h
  obtain ⟨p,xs,rfl,hq,fx,fs,q⟩:=h
  cases ry
  rcases hq with hq | hq
  · obtain ⟨its,r,pl,hz⟩:=I.list hq
    refine SeqAt.notIn_listAt (eqU x) pl.isList (fun w hw=>mem_eqAt rx fx r fs w (by simpa using hw)) ⟨.bl _,H,I,rfl,?_⟩
    rw [show its.toArray.any (eqU x)=its.any (eqU x) by simp,any_eqU r fs]
    exact q
  · obtain ⟨its,r,pl,hz⟩:=I.tuple hq
    refine SeqAt.notIn_tupleAt (eqU x) pl (fun w hw=>mem_eqAt rx fx r fs w (by simpa using hw)) ⟨.bl _,H,I,rfl,?_⟩
    rw [show its.toArray.any (eqU x)=its.any (eqU x) by simp,any_eqU r fs]
    exact q
theorem call_len_seq:CallR X (.builtin "len") (fun xs H Q=>∃ p ys,xs=[.ref p]∧(SqL X.K H p ys∨SqT X.K H p ys)∧Q (.int ys.length) H):=by
  intro pins s σ H xs us Q I r h
  obtain ⟨p,ys,rfl,hq,q⟩:=h
  obtain ⟨u,rfl,rx⟩:=vals1 r
  cases rx
  have hn:=line63
  rcases hq with hq | hq
  · obtain ⟨its,r',pl,hz⟩:=I.list hq
    have hlen:=r'.length
    exact Calls.call_len_list pl.isList (by simp only [List.size_toArray] <;> omega) ⟨.int ys.length,H,I.tok _,⟨s.toks+1,by rw [List.size_toArray,hlen]⟩,q⟩
  · obtain ⟨its,r',pl,hz⟩:=I.tuple hq
    have hlen:=r'.length
    exact len_tuple pl (by simp only [List.size_toArray] <;> omega) ⟨.int ys.length,H,I.tok _,⟨s.toks+1,by rw [List.size_toArray,hlen]⟩,q⟩
theorem call_len_str:CallR X (.builtin "len") (fun xs H Q=>∃ z,xs=[.str z]∧z.length≤sizeLine∧Q (.int z.length) H):=by
  intro pins s σ H xs us Q I r h
  obtain ⟨z,rfl,hz,q⟩:=h
  obtain ⟨u,rfl,t,rfl⟩:=vals1 r
  have hn:=line63
  exact len_str (by omega) ⟨.int z.length,H,I.tok _,⟨_,rfl⟩,q⟩
theorem CallR.or {f:Value} {r r':List V→Hp→VK→Prop} (h:CallR X f r) (h':CallR X f r'):CallR X f (fun xs H Q=>r xs H Q∨r' xs H Q):=by
  intro pins s σ H xs us Q I rs q
  rcases q with q | q
  · exact h pins s σ H xs us Q I rs q
  · exact h' pins s σ H xs us Q I rs q
theorem call_list_of:CallR X (.type "list") (fun xs H Q=>∃ p ys,xs=[.ref p]∧(SqL X.K H p ys∨SqT X.K H p ys)∧∀ l,H l=none→Q (.ref l) (upd H l (.lst ys))):=by
  intro pins s σ H xs us Q I r h
  obtain ⟨p,ys,rfl,hq,q⟩:=h
  obtain ⟨u,rfl,rx⟩:=vals1 r
  cases rx
  have fin:∀ (its:List Value),Vals ys its→ys.length≤sizeLine→∀ (h':Heap) (c':Nat),(∀ b o',s.heap.get? b=some o'→h'.get? b=some o') →
      h'.get? s.heap.objs.size=some { cls:=.type "list", dict:=none,data:=.seq its.toArray c',slots:=#[] }→EP X pins σ Q (.ref s.heap.objs.size) { s with heap:=h' }:=fun its r' hz h' c' kp e=>
    ⟨.ref s.heap.objs.size,_,I.laid (t':=s.toks) kp (Nat.le_refl _) (show ObjOk X.prog X.w _ h' _ (.lst ys) from ⟨hz,its,c',r',e⟩),rfl,q _ (I.hok.fresh (Nat.le_refl _))⟩
  rcases hq with hq | hq
  · obtain ⟨its,r',pl,hz⟩:=I.list hq
    have hlen:=r'.length
    obtain ⟨o,ho,hc,n,hd⟩:=pl.isList
    exact call_list_seq p (.inl rfl) ho hc hd (fun h' c' kp e=>fin its r' hz h' c' kp e) (by simp only [List.size_toArray] <;> omega)
  · obtain ⟨its,r',pl,hz⟩:=I.tuple hq
    have hlen:=r'.length
    obtain ⟨o,ho,hc,n,hd⟩:=pl
    exact call_list_seq p (.inr rfl) ho hc hd (fun h' c' kp e=>fin its r' hz h' c' kp e) (by simp only [List.size_toArray] <;> omega)
theorem call_tuple_of:CallR X (.type "tuple") (fun xs H Q=>∃ p ys,xs=[.ref p]∧((SqL X.K H p ys∧∀ l,H l=none→Q (.ref l) (upd H l (.tup ys)))∨(SqT X.K H p ys∧Q (.ref p) H))):=by
  intro pins s σ H xs us Q I r h
  obtain ⟨p,ys,rfl,h⟩:=h
  obtain ⟨u,rfl,rx⟩:=vals1 r
  cases rx
  rcases h with ⟨hq,q⟩ | ⟨hq,q⟩
  · obtain ⟨its,r',pl,hz⟩:=I.list hq
    have hlen:=r'.length
    refine call_tuple_list pl.isList (fun h' kp=>?_) (by simp only [List.size_toArray] <;> omega)
    have I1:Inv X pins σ H { s with heap:=h' }:=I.kept (t':=s.toks) kp
    have I2:Inv X pins σ (upd H h'.objs.size (.tup ys)) { s with heap:=h'.push { cls:=.type "tuple", data:=.seq its.toArray } }:=
      I1.laid (t':=s.toks) (fun b o e=>Heap.get?_push_of_some _ e) (Nat.le_refl _) (show ObjOk X.prog X.w _ _ _ (.tup ys) from ⟨⟨hz,_,Heap.get?_push_size _ rfl,rfl⟩,its,r',IsTup.new _ _⟩)
    exact ⟨.ref h'.objs.size,_,I2,rfl,q _ (I1.hok.fresh (Nat.le_refl _))⟩
  · obtain ⟨its,r',pl,hz⟩:=I.tuple hq
    exact call_tuple_same pl ⟨.ref p,H,I,rfl,q⟩
def tyV (K:PySem.W.Frag) (T:String) (x:V) (H:Hp):Prop:=match x with
  | .str _=>T = "str"
  | .int _=>T = "int"
  | .ref p=>(T = "list" ∧ ∃ xs,SqL K H p xs)∨(T = "tuple" ∧ ∃ o,K.lookup p=some o∧o.cls=.type "tuple" ∧ o.dict=none) ∨
      (T = "dict" ∧ ((∃ kvs,H p=some (.dK kvs))∨∃ kvs,H p=some (.dT kvs)))∨(T = "set" ∧ ∃ S n,H p=some (.set S n))
  | _=>False
theorem tyV_is {pins:List (Addr × Obj)} {σ:St} {H:Hp} {s:Shared} {T:String} {x:V} {v:Value} (I:Inv X pins σ H s) (r:RelV x v) (ty:tyV X.K T x H) :
    s.TypeIs v T∧∀ a,v=.ref a→∃ ob,s.heap.get? a=some ob∧ob.dict=none:=by
  cases x with
  | str z=>
    obtain ⟨t,rfl⟩:=r
    cases (show T = "str" from ty)
    exact ⟨typeIs_str s z t,fun _ e=>nomatch e⟩
  | int i=>
    obtain ⟨t,rfl⟩:=r
    cases (show T = "int" from ty)
    exact ⟨typeIs_int s i t,fun _ e=>nomatch e⟩
  | ref p=>
    cases r
    rcases ty with ⟨rfl,xs,hq⟩ | ⟨rfl,o,hk,hc,hd⟩ | ⟨rfl,hk⟩ | ⟨rfl,S,n,hk⟩
    · obtain ⟨its,_,pl,_⟩:=I.list hq
      refine ⟨pl.isList.typeIs,fun a e=>?_⟩
      cases e
      obtain ⟨o,n,e,c,hd,_⟩:=pl
      exact ⟨o,e,hd⟩
    · refine ⟨⟨o,I.kIn p o hk,hc⟩,fun a e=>?_⟩
      cases e
      exact ⟨o,I.kIn _ o hk,hd⟩
    · have z:∃ o,s.heap.get? p=some o∧o.ExactDict:=by
        rcases hk with ⟨kvs,hk⟩ | ⟨kvs,hk⟩
        · obtain ⟨_,_,_,_,o,_,_,e,ex,_⟩:=I.hok p _ hk
          exact ⟨o,e,ex⟩
        · obtain ⟨_,_,_,_,o,_,_,e,ex,_⟩:=I.hok p _ hk
          exact ⟨o,e,ex⟩
      obtain ⟨o,e,ex⟩:=z
      refine ⟨⟨o,e,ex.1⟩,fun a e2=>?_⟩
      cases e2
      exact ⟨o,e,ex.2.1⟩
    · obtain ⟨o,_,_,_,e,ex,_⟩:=I.hok p _ hk
      refine ⟨⟨o,e,ex.1⟩,fun a e2=>?_⟩
      cases e2
      exact ⟨o,e,ex.2.1⟩
  | _=>exact False.elim ty
def tBM0 (K:PySem.W.Frag) (T:String) (r:V→List V→Hp→VK→Prop) (to:TE):TE:=fun σ H Q=>to σ H fun x H1=>tyV K T x H1∧r x [] H1 Q
def tBM (K:PySem.W.Frag) (T:String) (r:V→List V→Hp→VK→Prop) (to:TE) (t:TA):TE:=fun σ H Q=>to σ H fun x H1=>tyV K T x H1∧t σ H1 fun xs H2=>r x xs H2 Q
variable {o e:Expr} {es:List Expr} {to:TE} {t:TA} {name:Str} {apos cpos:Pos} {T id:String} {r:V→List V→Hp→VK→Prop}
theorem pe_bm0 (pa:PlainAttrs T) (slot:Slot T name id) (hty:typeOf (.builtin id)=pure (.type "method_descriptor")) (hm:MtR X id r) (ho:PE X o to)
    (hbase:attributeBase o name X.env (eval o X.env)=eval o X.env:=by rfl) (hline:(apos.endLine == cpos.line)=true:=by rfl):PE X (.Call (.Attribute o name apos) [] [] cpos) (tBM0 X.K T r to):=by
  intro pins s σ H Q I h
  refine wpAny_Call_method0_late hbase hline (thn (ho pins s σ H _ I h) fun v s1 ⟨x,H1,I1,r1,ty,q1⟩=>?_)
  obtain ⟨h1,h2⟩:=tyV_is I1 r1 ty
  exact ⟨T,id,pa,slot,hty,h1,h2,Calls.callWith_builtin rfl (PySem.evalArgs_none (hm pins s1 σ H1 x [] v [] Q I1 r1 .nil q1))⟩
theorem pe_bm (pa:PlainAttrs T) (slot:Slot T name id) (hty:typeOf (.builtin id)=pure (.type "method_descriptor")) (hm:MtR X id r) (ho:PE X o to) (ha:PA X (e :: es) t)
    (hbase:attributeBase o name X.env (eval o X.env)=eval o X.env:=by rfl)
    (hfew:((backTo cpos (starEach (e :: es) X.env)).all (fun x=>!x.1) && (backToKw cpos (keywordEach [] X.env)).all (fun x=>x.1.isSome)
      && decide ((e :: es).length+([]:List Keyword).length+(if ([]:List Keyword).isEmpty then 0 else 1) < 30))=true:=by rfl)
    (hline:(apos.endLine == cpos.line)=true:=by rfl) (hs:starEach (e :: es) X.env=(false,eval e X.env) :: starEach es X.env:=by rfl) (hplain:(backTo cpos (starEach es X.env)).any (·.1)=false:=by rfl) :
    PE X (.Call (.Attribute o name apos) (e :: es) [] cpos) (tBM X.K T r to t):=by
  intro pins s σ H Q I h
  refine wpAny_Call_method_late hbase hfew hline rfl (thn (ho pins s σ H _ I h) fun v s1 ⟨x,H1,I1,r1,ty,q1⟩=>?_)
  obtain ⟨h1,h2⟩:=tyV_is I1 r1 ty
  refine ⟨T,id,pa,slot,hty,h1,h2,?_⟩
  have hA:=ha cpos pins s1 σ H1 _ I1 q1
  rw [hs] at hA ⊢
  refine Calls.callWith_builtin (by show (false || (backTo cpos (starEach es X.env)).any (·.1))=false;rw [hplain] <;> rfl) (Calls.evalArgs_plain ?_)
  exact thn hA fun us s2 ⟨vs,H2,I2,r2,q2⟩=>hm pins s2 σ H2 x vs v us Q I2 r1 r2 q2
/- xs.append(e),list.index on a module's tuple .. are MtR facts of 06m -/
end
end L2
namespace L2
open PySem PySem.Spec PyProof.Rows
def MtM (X:Cx) (id:String) (r:V→List V→Hp→VK→Prop):Prop:=
  ∀ (pins:List (Addr × Obj)) (s:Shared) (σ:St) (H:Hp) (x:V) (xs:List V) (v:Value) (us:List Value) (Q:VK),Inv X pins σ H s→RelV x v→Vals xs us→r x xs H Q →
    wpAny (model X.prog X.w) X.A (call (.builtin id) (v :: us)) (EP X pins σ Q) X.xe s
theorem Vals.one:∀ {x:V} {us:List Value},Vals [x] us→∃ u,us=[u]∧RelV x u
  | _,_,.cons r .nil=>⟨_,rfl,r⟩
theorem Vals.zero:∀ {us:List Value},Vals [] us→us=[]
  | _,.nil=>rfl
theorem Vals.dropLast {xs:List V} {us:List Value} (h:Vals xs us):Vals xs.dropLast us.dropLast:=by
  induction h with
  | nil=>exact .nil
  | cons r t ih=>
    cases t with
    | nil=>exact .nil
    | cons q t'=>exact .cons r ih
theorem Vals.eraseIdx:∀ {xs:List V} {us:List Value} (i:Nat),Vals xs us→Vals (xs.eraseIdx i) (us.eraseIdx i)
  | _,_,_,.nil=>.nil
  | _,_,0,.cons _ t=>t
  | _,_,i+1,.cons r t=>.cons r (Vals.eraseIdx i t)
theorem Vals.reverse {xs:List V} {us:List Value} (h:Vals xs us):Vals xs.reverse us.reverse:=by
  induction h with
  | nil=>exact .nil
  | cons r t ih=>rw [List.reverse_cons,List.reverse_cons];exact Vals.append ih (.cons r .nil)
theorem Vals.rep {xs:List V} {us:List Value} (h:Vals xs us):∀ k:Nat,Vals (List.replicate k xs).flatten (List.replicate k us).flatten
  | 0=>.nil
  | k+1=>by
    rw [List.replicate_succ,List.replicate_succ,List.flatten_cons,List.flatten_cons]
    exact Vals.append h (Vals.rep h k)
theorem erase_last {α:Type} (l:List α):l.eraseIdx (l.length - 1)=l.dropLast:=by
  induction l with
  | nil=>rfl
  | cons a r ih=>
    cases r with
    | nil=>rfl
    | cons b r=>
      have e:(a :: b :: r).length - 1=((b :: r).length - 1)+1:=by
        have h1:(a :: b :: r).length=r.length+2:=rfl
        have h2:(b :: r).length=r.length+1:=rfl
        omega
      rw [e,List.eraseIdx_cons_succ,ih]
      all_goals rfl
theorem len_erase {α:Type}:∀ (l:List α) (i:Nat),(l.eraseIdx i).length≤l.length
  | [],_=>Nat.le_refl _
  | _ :: _,0=>Nat.le_succ _
  | _ :: r,i+1=>Nat.succ_le_succ (len_erase r i)
theorem foldl_rep (its:List Value):∀ (k:Nat) (acc:List Value),
    List.foldl (fun x1 x2=>x1++x2) acc.toArray (List.replicate k its.toArray)=(acc++(List.replicate k its).flatten).toArray
  | 0,acc=>by simp
  | k+1,acc=>by
    have e:acc.toArray++its.toArray=(acc++its).toArray:=by simp
    have e2:(acc++its)++(List.replicate k its).flatten=acc++(List.replicate (k+1) its).flatten:=by
      rw [List.replicate_succ,List.flatten_cons,List.append_assoc]
    rw [← e2,← foldl_rep its k (acc++its),← e,List.replicate_succ,List.foldl_cons]
section
variable {X:Cx} {pins:List (Addr × Obj)} {σ:St} {H:Hp} {s:Shared} {l b:Addr} {xs ys zs:List V}
theorem Inv.lset {its its':List Value} {n:Nat} {f:Array Value→Array Value} {t':Nat} (I:Inv X pins σ H s) (hH:H l=some (.lst xs))
    (e:s.heap.get? l=some { cls:=.type "list", data:=.seq its.toArray n }) (hf:f its.toArray=its'.toArray) (hv:Vals ys its') (hz:ys.length≤sizeLine) :
    Inv X pins σ (upd H l (.lst ys)) { s with heap:=s.heap.update l (Obj.mapSeq f),toks:=t' }:=by
  have q:=PySem.IsL.update e f
  rw [hf] at q
  refine I.write (x:=l) (e:=l) (by rw [hH];exact trivial) (.inl rfl) (fun b' u hb hu=>(Heap.get?_update_other s.heap (Obj.mapSeq f) (Ne.symm hb)).trans hu) ⟨_,q⟩ ?_
  exact ⟨hz,its',_,hv,q⟩
theorem Inv.lnew {its:List Value} {t':Nat} (I:Inv X pins σ H s) (hv:Vals ys its) (hz:ys.length≤sizeLine) :
    Inv X pins σ (upd H s.heap.objs.size (.lst ys)) { s with heap:=s.heap.push { cls:=.type "list", data:=.seq its.toArray },toks:=t' }:=
  I.laid (fun _ _ q=>Heap.get?_push_of_some _ q) (Nat.le_refl _) ⟨hz,its,0,hv,Heap.get?_push_size _ rfl⟩
theorem Inv.fresh (I:Inv X pins σ H s):H s.heap.objs.size=none:=I.hok.fresh (Nat.le_refl _)
theorem Inv.lstM (I:Inv X pins σ H s) (hH:H l=some (.lst xs)):xs.length≤sizeLine∧∃ (its:List Value) (n:Nat),Vals xs its∧xs.length=its.length∧s.heap.get? l=some { cls:=.type "list", data:=.seq its.toArray n }:=by
  obtain ⟨z,its,n,r,e⟩:=I.hok l _ hH
  exact ⟨z,its,n,r,r.length,e⟩
theorem notLongL {n:Nat} (h:n≤sizeLine):Builtin.List.listTooLong n=false:=by
  unfold Builtin.List.listTooLong
  exact decide_eq_false (by omega)
end
section
variable {X:Cx}
def rAppend:V→List V→Hp→VK→Prop:=fun x vs H Q=>∃ l xs y,x=.ref l∧vs=[y]∧H l=some (.lst xs)∧xs.length < sizeLine∧Q .non (upd H l (.lst (xs++[y])))
theorem mt_append:MtM X "list.append" rAppend:=by
  intro pins s σ H x vs v us Q I rx rv h
  obtain ⟨l,xs,y,rfl,rfl,hH,hz,q⟩:=h
  cases rx
  obtain ⟨u,rfl,ru⟩:=rv.one
  obtain ⟨z,its,n,r,hl,e⟩:=I.lstM hH
  refine call_meets F.slot_list_append ⟨_,e,rfl⟩ F.entry_list_append (F.args_list_append_2 _ _) (PySem.list_append l its.toArray n u (by rw [List.size_toArray];omega)) ⟨e,?_⟩
  refine ⟨.non,_,I.lset (its':=its++[u]) hH e (by simp) (r.append (.cons ru .nil)) ?_,rfl,q⟩
  rw [List.length_append,List.length_singleton]
  omega
def rExtend:V→List V→Hp→VK→Prop:=fun x vs H Q=>∃ l b xs zs,x=.ref l∧vs=[.ref b]∧H l=some (.lst xs)∧H b=some (.lst zs)∧xs.length+zs.length≤sizeLine∧Q .non (upd H l (.lst (xs++zs)))
theorem mt_extend:MtM X "list.extend" rExtend:=by
  intro pins s σ H x vs v us Q I rx rv h
  obtain ⟨l,b,xs,zs,rfl,rfl,hH,hB,hz,q⟩:=h
  cases rx
  obtain ⟨u,rfl,ru⟩:=rv.one
  cases ru
  obtain ⟨z,its,n,r,hl,e⟩:=I.lstM hH
  obtain ⟨z2,its2,n2,r2,hl2,e2⟩:=I.lstM hB
  have hsz:its.toArray.size+its2.toArray.size≤sizeLine:=by rw [List.size_toArray,List.size_toArray];omega
  have hlong:¬ (!its.toArray.isEmpty && Builtin.List.listTooLong (its.toArray.size+its2.toArray.size))=true:=by
    rw [notLongL hsz,Bool.and_false]
    exact Bool.false_ne_true
  refine call_meets F.slot_list_extend ⟨_,e,rfl⟩ F.entry_list_extend (F.args_list_extend_2 _ _)
    (AutoSeq1.list_extend_list_list_0 l its.toArray n b its2.toArray n2 hlong (by rw [List.size_toArray];omega) (by omega)) ⟨e,e2,?_⟩
  refine ⟨.non,_,I.lset (its':=its++its2) hH e (by simp) (r.append r2) ?_,rfl,q⟩
  rw [List.length_append]
  omega
def rPop:V→List V→Hp→VK→Prop:=fun x vs H Q=>∃ l xs y,x=.ref l∧vs=[]∧H l=some (.lst xs)∧xs[xs.length - 1]?=some y∧Q y (upd H l (.lst xs.dropLast))
theorem mt_pop:MtM X "list.pop" rPop:=by
  intro pins s σ H x vs v us Q I rx rv h
  obtain ⟨l,xs,y,rfl,rfl,hH,hy,q⟩:=h
  cases rx
  have hus:=rv.zero
  subst hus
  obtain ⟨z,its,n,r,hl,e⟩:=I.lstM hH
  obtain ⟨u,hu,ru⟩:=r.get hy
  have hy':its.toArray[its.toArray.size - 1]?=some u:=by
    show its.toArray[its.length - 1]?=some u
    rw [← Array.getElem?_toList,← hl]
    exact hu
  refine call_meets F.slot_list_pop ⟨_,e,rfl⟩ F.entry_list_pop (F.args_list_pop_1 _) (MeetsSeq.list_pop_last l its.toArray n u hy' (by rw [List.size_toArray];omega)) ⟨e,?_⟩
  refine ⟨y,_,I.lset (its':=its.dropLast) hH e ?_ r.dropLast ?_,ru,q⟩
  · show its.toArray.eraseIdxIfInBounds (its.toArray.size - 1)=its.dropLast.toArray
    rw [List.size_toArray,List.eraseIdxIfInBounds_toArray,erase_last]
  · rw [List.length_dropLast]
    omega
def rPopAt:V→List V→Hp→VK→Prop:=fun x vs H Q=>∃ l xs i k y,x=.ref l∧vs=[.int i]∧H l=some (.lst xs)∧-(2 ^ 63)≤i∧i < 2 ^ 63∧seqIndex? i xs.length=some k∧xs[k]?=some y∧Q y (upd H l (.lst (xs.eraseIdx k)))
theorem mt_popAt:MtM X "list.pop" rPopAt:=by
  intro pins s σ H x vs v us Q I rx rv h
  obtain ⟨l,xs,i,k,y,rfl,rfl,hH,h1,h2,hk,hy,q⟩:=h
  cases rx
  obtain ⟨u,rfl,ru⟩:=rv.one
  obtain ⟨t,rfl⟩:=ru
  obtain ⟨z,its,n,r,hl,e⟩:=I.lstM hH
  obtain ⟨w,hw,rw'⟩:=r.get hy
  refine call_meets F.slot_list_pop ⟨_,e,rfl⟩ F.entry_list_pop (F.args_list_pop_2 _ _)
    (MeetsSeq.list_pop_at l its.toArray n i t k w (fitsIndex_both h1 h2) (by rw [List.size_toArray,← hl];exact hk) (by rw [← Array.getElem?_toList];exact hw) (by rw [List.size_toArray];omega)) ⟨e,?_⟩
  refine ⟨y,_,I.lset (its':=its.eraseIdx k) hH e ?_ (r.eraseIdx k) ?_,rw',q⟩
  · show its.toArray.eraseIdxIfInBounds k=(its.eraseIdx k).toArray
    rw [List.eraseIdxIfInBounds_toArray]
  · have:=len_erase xs k
    omega
def rCat:R2:=fun x y H Q=>∃ l b xs zs,x=.ref l∧y=.ref b∧H l=some (.lst xs)∧H b=some (.lst zs)∧xs.length+zs.length≤sizeLine∧∀ p,H p=none→Q (.ref p) (upd H p (.lst (xs++zs)))
theorem op_cat:OpR X (binaryOp .Add) rCat:=by
  intro pins s σ H x y v u Q I rx ry h
  obtain ⟨l,b,xs,zs,rfl,rfl,hH,hB,hz,q⟩:=h
  cases rx
  cases ry
  obtain ⟨z,its,n,r,hl,e⟩:=I.lstM hH
  obtain ⟨z2,its2,n2,r2,hl2,e2⟩:=I.lstM hB
  refine PySem.P.add_list e e2 ?_ (by rw [List.size_toArray,List.size_toArray];omega)
  have ea:its.toArray++its2.toArray=(its++its2).toArray:=by simp
  rw [ea]
  exact ⟨.ref _,_,I.lnew (t':=s.toks) (r.append r2) (by rw [List.length_append];omega),rfl,q _ I.fresh⟩
def rRep:R2:=fun x y H Q=>∃ l k xs,x=.ref l∧y=.int k∧H l=some (.lst xs)∧-(2 ^ 63)≤k∧k < 2 ^ 63∧xs.length * k.toNat≤sizeLine ∧
  ∀ p,H p=none→Q (.ref p) (upd H p (.lst (List.replicate k.toNat xs).flatten))
theorem len_rep {α:Type} (xs:List α) (k:Nat):(List.replicate k xs).flatten.length=k * xs.length:=by
  induction k with
  | zero=>simp
  | succ k ih=>rw [List.replicate_succ,List.flatten_cons,List.length_append,ih,Nat.succ_mul,Nat.add_comm]
theorem op_rep:OpR X (binaryOp .Mult) rRep:=by
  intro pins s σ H x y v u Q I rx ry h
  obtain ⟨l,k,xs,rfl,rfl,hH,h1,h2,hz,q⟩:=h
  cases rx
  obtain ⟨t,rfl⟩:=ry
  obtain ⟨z,its,n,r,hl,e⟩:=I.lstM hH
  have hlen:its.toArray.size * k.toNat≤sizeLine:=by rw [List.size_toArray,← hl];exact hz
  have hcap:¬ its.toArray.size * k.toNat > (2 ^ 63 - 1) / 8:=by
    have:(sizeLine:Nat)≤(2 ^ 63 - 1) / 8:=by decide
    omega
  have hfit:¬ (!Builtin.List.listFitsIndex k)=true:=by
    rw [fitsIndex_both h1 h2]
    exact Bool.false_ne_true
  have hlong:¬ Builtin.List.listTooLong (its.toArray.size * k.toNat)=true:=by
    rw [notLongL hlen]
    exact Bool.false_ne_true
  have hnew:List.foldl (fun x1 x2=>x1++x2) #[] (List.replicate (if its.toArray.isEmpty=true then 0 else k.toNat) its.toArray)=(List.replicate k.toNat its).flatten.toArray:=by
    have f0:∀ m:Nat,List.foldl (fun x1 x2=>x1++x2) #[] (List.replicate m its.toArray)=(List.replicate m its).flatten.toArray:=fun m=>by
      have:=foldl_rep its m []
      rw [List.nil_append] at this
      exact this
    rw [f0]
    cases its with
    | nil=>simp
    | cons a r'=>rw [if_neg (by simp)]
  refine wpAny_binaryOp_repeat_ref (T := "list") (U := "int") (by decide) ⟨_,e,rfl⟩ (fun s'=>typeIs_int s' k t) noFill_list_mul F.fills_int_mul F.slot_int_rmul repeat_list F.slot_int_index.lookup
    (call_meets F.slot_int_rmul (typeIs_int s k t) F.entry_int_rmul (F.args_int_rmul_2 _ _) (int___rmul___int_list k t l its.toArray n)
      ⟨e,rfl,⟨_,e,rfl⟩,call_meets F.slot_list_mul ⟨_,e,rfl⟩ F.entry_list_mul (F.args_list_mul_2 _ _) (AutoListH.list___mul___list_int_3 l its.toArray n k t hfit hcap hlong) ⟨e,?_⟩⟩)
  rw [hnew]
  exact ⟨.ref _,_,I.lnew (t':=s.toks) (r.rep k.toNat) (by rw [len_rep,Nat.mul_comm];exact hz),rfl,q _ I.fresh⟩
end
section
variable {prog:Program} {w:World} {A:Around} {E:Value→Shared→Prop} {s:Shared}
end
section
variable {X:Cx}
end
end L2
namespace Att
open PySem PySem.W PySem.Calls PyProof.Rows
theorem ints_of_wellAll {P:Params} {h:Heap}:∀ (ns:List Int) (vs:List Value),WellAll P h vs (ns.map WData.int)→IntsAre vs ns:=by
  intro ns
  induction ns with
  | nil=>
    intro vs w
    rw [List.map_nil] at w
    cases w
    exact .nil
  | cons n ns ih=>
    intro vs w
    rw [List.map_cons] at w
    cases w with
    | cons a b=>
      cases a
      exact .cons _ _ (ih _ b)
theorem script_of {l:OpenLaw} {n:Nat} (hn:l.most=some n) {P:Params} {h:Heap} {args:List WData} {vals:List Value}
    (hpre:l.row.toRowW.claim.pre args=true) (hwl:WellAll P h vals args) :
    ∃ a vs ns,vals=[Value.ref a]∧args=[WData.list (ns.map WData.int)]∧h.get? a=some { cls:=.type "list", data:=.seq vs.toArray }∧IntsAre vs ns∧ns.length≤n:=by
  have hsh:WShape.hasAll [] args [.list .int]=true:=(pre_splitW hpre).1
  have hc:l.pre.holds [] { args:=args }=true:=(pre_splitW hpre).2
  obtain ⟨d,r,rfl,h1,h2⟩:=hasAllW_cons hsh
  obtain rfl:=hasAllW_nil h2
  obtain ⟨xs,rfl,h3⟩:=hasW_list h1
  obtain ⟨ns,rfl⟩:=items_int h3
  have hlen:ns.length≤n:=by
    unfold OpenLaw.pre at hc
    have h4:(WTm.not (.lt (.lit (.int (n:Int))) (.len (.arg 0)))).holds [] { args:=[.list (ns.map .int)] }=true:=by
      have h4:=(holds_andW hc).1
      rw [hn] at h4
      exact h4
    have h5:=condW_of h4 (w_not (w_lt w_lit (w_len_list (w_arg rfl))))
    rw [List.length_map] at h5
    refine Nat.le_of_not_lt fun q=>?_
    have q':(n:Int) < ((ns.length:Nat):Int):=by omega
    first
      | (rw [decide_eq_true q'] at h5;exact absurd h5 (by decide))
      | (simp at h5;omega)
  cases hwl with
  | cons w1 w2=>
    cases w2
    cases w1 with
    | list ho hall=>exact ⟨_,_,ns,rfl,rfl,ho,ints_of_wellAll ns _ hall,hlen⟩
theorem post_true (l:OpenLaw) (args:List WData):l.row.toRowW.claim.post args (.bool true) args=true:=
  postW_of (r:=l.row.toRowW) (X:=(true == true))
    (show WShape.has [] (.bool true) .bool=true by first | rfl | decide | simp [WShape.has,WShape.arms,WShape.armsAll])
    (show (WTm.eq .res (.lit (.bool true))).value [] { args:=args,res:=some (.bool true),after:=args }=some (.bool (true == true)) from w_eq_bool (w_res rfl) w_lit) rfl
theorem attach_call {l:OpenLaw} {n:Nat} {q:Program} {loose:List Str} {XP:(Str→Option Value)→Heap→Prop} {YP:World→Heap→Prop} {d:DefRec}
    (hn:l.most=some n) (hdf:d.params.defaults=[])
    (call:∀ (w:World) (s₀ s₁:Shared) (mg mb:Str→Option Value) (fa:Addr) (o:Obj) (pm cd doc:Value) (a:Addr) (vs:List Value) (ns:List Int),
      Ground q loose [] XP w s₀ mg mb s₁.heap→YP w s₁.heap →
      s₁.heap.get? fa=some o→o.data=.func (docDef d.name d.params d.body d.scope pm cd doc)→s₁.heap.CodeRec cd d.name→mg d.name=some (.ref fa) →
      s₁.heap.get? a=some { cls:=.type "list", data:=.seq vs.toArray }→IntsAre vs ns→ns.length≤n→s₁.gens=#[] →
      codeAny (model l.prog w) callerA (.call (.ref fa) ⟨[.ref a],[]⟩) (fun r s'=>r=.ok (.ret (.bool true))∧OldK s₁.heap s'.heap∧s'.os=s₁.os∧AllBare s'.gens) s₁) :
    WalkO q loose XP YP l.row.toRowW d [] (fun f vs=>PySem.call f vs):=by
  intro w s₀ s₁ mg mb G Y fa o pm cd doc dV kV ho hd hcd hD hmg hg args vals as hpre hlay hrd hwl hlo
  obtain rfl:dV=.none:=Dflts.none hD hdf
  obtain rfl:kV=.none:=Dflts.noKw hD
  obtain ⟨a,vs,ns,rfl,rfl,hobj,hints,hlen⟩:=script_of hn hpre hwl
  refine enter_call (codeAny_mono (call w s₀ s₁ mg mb fa o pm cd doc a vs ns G Y ho (fd_plain hd) hcd hmg hobj hints hlen hg) fun r s' hq=>?_)
  obtain ⟨rfl,h2,h3,h4⟩:=hq
  exact ⟨.inl ⟨.bool true,.bool true,[],rfl,fun _=>rfl,.bool true,post_true l _,fun _=>⟨List.Pairwise.nil,fun _ hm=>(nomatch hm)⟩⟩,h2,h3,h4⟩
section
variable {prog:Program} {w:World} {A:Around} {E:Value→Shared→Prop} {s:Shared} {K:Frag}
def ledger (h:Heap) (L d:Addr):List (Addr × Obj):=(List.range h.objs.size).filterMap fun a=>if a=L∨a=d then none else (h.get? a).map fun o=>(a,o)
end
end Att
namespace L2
open PySem PySem.Spec PyProof.Rows
theorem vals_ints:∀ {vs:List Value} {ns:List Int},IntsAre vs ns→Vals (ns.map V.int) vs
  | _,_,.nil=>.nil
  | _,_,.cons n t h=>.cons ⟨t,rfl⟩ (vals_ints h)
end L2
namespace L2
open PySem PySem.Spec PyProof.Rows
abbrev KOf {K:PySem.W.Frag} {h:Heap} (_:K.In h):PySem.W.Frag:=K
end L2
namespace L2
open PySem PySem.Spec PyProof.Rows
def inClass (s:Stmt) (j:Nat):Stmt:=match s with
  | .ClassDef _ _ _ body _ _ _ _ _ _ _=>body.getD j (.Pass ⟨0,0,0,0⟩)
  | _=>.Pass ⟨0,0,0,0⟩
def defArgs (s:Stmt):Arguments:=match s with
  | .FunctionDef _ a _ _ _ _ _ _ _ _=>a
  | _=>{ posonlyargs:=[],args:=[],vararg:=none,kwonlyargs:=[],kw_defaults:=[],kwarg:=none,defaults:=[] }
def defBody (s:Stmt):List Stmt:=match s with
  | .FunctionDef _ _ b _ _ _ _ _ _ _=>b
  | _=>[]
def defScope (s:Stmt):Scope:=match s with
  | .FunctionDef _ _ _ _ _ _ sc _ _ _=>sc
  | _=>{ kind:=.function,names:=[],isGenerator:=false,isCoroutine:=false }
abbrev CX0:CXT:=fun _ _ _ _ _ _=>False
abbrev E0:XK:=fun _ _ _=>False
theorem pass0 {X:Cx}:Passes CX0 X E0:=fun _ _ _ _ _ _ _ h=>h.elim
structure Fun (K:PySem.W.Frag) (x qual:Str) (st:Stmt) (f:Addr) (fd:FuncData):Prop where
  ex:∃ (oc:Value) (od:Option Addr) (kV doc pm:Value) (an:Option Addr) (cdv ct:Value) (osl:Array (Option Value)),
    fd=PySem.W.fnOf x qual (defArgs st) (defBody st) (defScope st) .none kV doc pm an cdv ct∧K.lookup f=some ⟨oc,od,.func fd,osl⟩∧PySem.W.codeIn K cdv qual=true
  kp:PySem.W.keepIn K (.ref f)=true
section
variable {P:Program} {w:World} {K:PySem.W.Frag} {mg:Str→Option Value} {base:Heap}
theorem Fun.ok {x qual:Str} {st:Stmt} {f:Addr} {fd:FuncData} {N ps:List Str} {k:Nat} {sp:Sp} (F:Fun K x qual st f fd) (S:FnScope N ps (defScope st)) (len:∀ vs H Q E,sp vs H Q E→vs.length=ps.length)
    (hbody:∀ (cdv:Value) (A:Around) (outer:List Env) (s:Shared) (H:Hp) (vs:List V) (Q:VK) (E:XK),Room k (A.deeper (envOfC qual (defScope st) s.heap.objs.size f cdv))→sp vs H Q E →
      ∃ t,PSs (cxOf CX0 P w K mg base N qual (defScope st) f cdv A outer s H E).nox (defBody st) t∧t { nx:=fun _ H'=>Q .non H',rt:=Q } (start N vs) H):FnOk P w K mg base CX0 (k+1) f fd ps sp:=by
  obtain ⟨oc,od,kV,doc,pm,an,cdv,ct,osl,rfl,lk,hcd⟩:=F.ex
  refine fn_of lk hcd S len fun A outer s H vs Q E hr hsp=>?_
  obtain ⟨t,h,q⟩:=hbody cdv A outer s H vs Q E hr hsp
  exact ⟨t,h.nox,q⟩
theorem Fun.binds {x qual:Str} {st:Stmt} {f:Addr} {fd:FuncData} {ps:List Str} (F:Fun K x qual st f fd)
    (h:∀ (kV doc pm:Value) (an:Option Addr) (cdv ct:Value) (us:List Value),us.length=ps.length→bindArgs (PySem.W.fnOf x qual (defArgs st) (defBody st) (defScope st) .none kV doc pm an cdv ct) ⟨us,[]⟩=pure (ps.zip us)):Binds K fd ps []:=by
  obtain ⟨oc,od,kV,doc,pm,an,cdv,ct,osl,rfl,lk,hcd⟩:=F.ex
  exact .all (h kV doc pm an cdv ct)
theorem fun_mk {x qual:Str} {st:Stmt} {f:Addr} {oc:Value} {od an:Option Addr} {osl:Array (Option Value)} {kV doc pm cdv ct:Value} (l:K.lookup f=some ⟨oc,od,.func (PySem.W.fnOf x qual (defArgs st) (defBody st) (defScope st) .none kV doc pm an cdv ct),osl⟩)
    (c:PySem.W.codeIn K cdv qual=true) (k:PySem.W.keepIn K (.ref f)=true):Fun K x qual st f (PySem.W.fnOf x qual (defArgs st) (defBody st) (defScope st) .none kV doc pm an cdv ct):=⟨⟨oc,od,kV,doc,pm,an,cdv,ct,osl,rfl,l,c⟩,k⟩
end
theorem small1000 {n:Nat} (h:n≤1000):n < sizeLine:=Nat.lt_of_le_of_lt h (by decide)
section
variable {X:Cx}
theorem pv (i:Nat) {x:Str} {pos:Pos} (hN:X.N[i]?=some x:=by rfl) (hv:Vis X.env.scope x:=by first | exact Or.inl rfl | exact Or.inr (Or.inl rfl) | exact Or.inr (Or.inr rfl)) (hd:(x == ("__debug__" : Str))=false:=by decide)
    (hcd:(x == ("__classdict__" : Str))=false:=by decide):PE X (.Name x pos) (tVar i):=pe_var hN hv hd hcd
end
theorem iteF {A B:Prop} (h:B):if false=true then A else B:=by
  rw [if_neg Bool.false_ne_true]
  exact h
theorem iteT {A B:Prop} (h:A):if true=true then A else B:=by
  rw [if_pos rfl]
  exact h
theorem ite2 {c A B:Prop} [Decidable c] (h1:c→A) (h2:¬ c→B):if c then A else B:=by
  by_cases h:c
  · rw [if_pos h]
    exact h1 h
  · rw [if_neg h]
    exact h2 h
def Same (H H':Hp):Prop:=∀ b o,H b=some o→H' b=some o
theorem Same.refl (H:Hp):Same H H:=fun _ _ h=>h
theorem Same.trans {H H1 H2:Hp} (a:Same H H1) (b:Same H1 H2):Same H H2:=fun c o h=>b c o (a c o h)
theorem Same.free {H H':Hp} (e:Same H H') {l:Addr} (h:H' l=Option.none):H l=Option.none:=by
  cases q:H l with
  | none=>rfl
  | some o=>
    rw [e l o q] at h
    cases h
theorem Same.seq {K:PySem.W.Frag} {H H':Hp} {a:Addr} {xs:List V} (e:Same H H') (h:SqL K H a xs):SqL K H' a xs:=by
  rcases h with (h | ⟨o,h⟩) | h
  · exact .inl (.inl (e _ _ h))
  · exact .inl (.inr ⟨o,e _ _ h⟩)
  · exact .inr h
end L2
set_option maxHeartbeats 16000000
namespace L2
open PySem PySem.Spec PyProof.Rows
theorem lookup_mem {α:Type}:∀ {cl:List (Str × α)} {x:Str} {c:α},cl.lookup x=some c→(x,c)∈cl
  | [],_,_,h=>by simp at h
  | (y,d) :: r,x,c,h=>by
    rw [List.lookup_cons] at h
    cases e:x == y with
    | true=>
      rw [e] at h
      have e':x=y:=eq_of_beq e
      cases h
      rw [e'];exact List.mem_cons_self
    | false=>
      rw [e] at h
      exact List.mem_cons_of_mem _ (lookup_mem h)
theorem lookup_of_mem {α:Type}:∀ {cl:List (Str × α)} {x:Str} {c:α},(x,c)∈cl→∃ c',cl.lookup x=some c'
  | [],_,_,h=>nomatch h
  | (y,d) :: r,x,c,h=>by
    rw [List.lookup_cons]
    cases e:x == y with
    | true=>exact ⟨d,rfl⟩
    | false=>
      rcases List.mem_cons.mp h with h | h
      · cases h
        simp at e
      · exact lookup_of_mem h
theorem closure_go {env:Env} {f:(Str × NameKind)→List (Str × Addr)→Sem (ForInStep (List (Str × Addr)))}
    (h1:∀ x k cs,k≠NameKind.free→f (x,k) cs=pure (.yield cs)) (h2:∀ x cs c,env.cells.lookup x=some c→f (x,NameKind.free) cs=pure (.yield ((x,c) :: cs))) :
    ∀ (names:List (Str × NameKind)) (acc:List (Str × Addr)),(∀ x,(x,NameKind.free)∈names→∃ c,env.cells.lookup x=some c) →
      ∃ cl,forIn names acc f=pure cl∧(∀ p∈cl,p∈acc∨env.cells.lookup p.1=some p.2)∧(∀ p∈acc,p∈cl)∧∀ x,(x,NameKind.free)∈names→∃ c,(x,c)∈cl
  | [],acc,_=>⟨acc,rfl,fun _ h=>.inl h,fun _ h=>h,fun _ h=>nomatch h⟩
  | (x,k) :: r,acc,h=>by
    by_cases hk:k=NameKind.free
    · subst hk
      obtain ⟨c,hc⟩:=h x List.mem_cons_self
      obtain ⟨cl,e,a,b,d⟩:=closure_go h1 h2 r ((x,c) :: acc) fun y hy=>h y (List.mem_cons_of_mem _ hy)
      refine ⟨cl,?_,fun p hp=>?_,fun p hp=>b p (List.mem_cons_of_mem _ hp),fun y hy=>?_⟩
      · rw [List.forIn_cons,h2 x acc c hc,pure_bind];exact e
      · rcases a p hp with q | q
        · rcases List.mem_cons.mp q with q | q
          · subst q;exact .inr hc
          · exact .inl q
        · exact .inr q
      · rcases List.mem_cons.mp hy with q | q
        · cases q;exact ⟨c,b _ List.mem_cons_self⟩
        · exact d y q
    · obtain ⟨cl,e,a,b,d⟩:=closure_go h1 h2 r acc fun y hy=>h y (List.mem_cons_of_mem _ hy)
      refine ⟨cl,?_,a,b,fun y hy=>?_⟩
      · rw [List.forIn_cons,h1 x k acc hk,pure_bind];exact e
      · rcases List.mem_cons.mp hy with q | q
        · cases q;exact absurd rfl hk
        · exact d y q
theorem closure_ok {scope:Scope} {env:Env} (h:∀ x,(x,NameKind.free)∈scope.names→∃ c,env.cells.lookup x=some c) :
    ∃ cl,closureFor scope env=pure cl∧(∀ x c,cl.lookup x=some c→env.cells.lookup x=some c)∧∀ x,(x,NameKind.free)∈scope.names→∃ c,cl.lookup x=some c:=by
  have go:=closure_go (env:=env) (f:=fun x cs=>match x with | (name,kind)=>if (kind == NameKind.free)=true then do let a ← cellOf env name;pure (.yield ((name,a) :: cs)) else pure (.yield cs))
    (fun x k cs hk=>by
      have:(k == NameKind.free)=false:=by simpa using hk
      simp only [this,Bool.false_eq_true,if_false])
    (fun x cs c hc=>by
      simp only [beq_self_eq_true,if_true]
      unfold cellOf
      rw [hc,pure_bind])
    scope.names [] h
  obtain ⟨cl,e,a,_,d⟩:=go
  refine ⟨cl,?_,fun x c hx=>?_,fun x hx=>?_⟩
  · unfold closureFor
    simp only [bind_pure]
    exact e
  · rcases a _ (lookup_mem hx) with q | q
    · exact nomatch q
    · exact q
  · obtain ⟨c,hc⟩:=d x hx
    exact lookup_of_mem hc
theorem relabel_lookup {env:Env} {x:Str} {k:NameKind}:∀ {names:List (Str × NameKind)},
    (names.map fun (n,k)=>if (k == NameKind.free && env.scope.kind == .function && env.kindOf n == some .cell) then (n,NameKind.cell) else (n,k)).lookup x=some k →
      names.lookup x=some k∨(k=.cell∧names.lookup x=some .free)
  | [],h=>by simp at h
  | (n,j) :: r,h=>by
    have ih:=@relabel_lookup env x k r
    rw [List.lookup_cons]
    change List.lookup x ((if (j == NameKind.free && env.scope.kind == .function && env.kindOf n == some .cell)=true then (n,NameKind.cell) else (n,j)) :: _)=_ at h
    by_cases hc:(j == NameKind.free && env.scope.kind == .function && env.kindOf n == some .cell)=true
    · rw [if_pos hc,List.lookup_cons] at h
      have hj:j=NameKind.free:=by
        simp only [Bool.and_eq_true] at hc
        exact eq_of_beq hc.1.1
      cases hx:x == n with
      | true=>rw [hx] at h;cases h;exact .inr ⟨rfl,by rw [hj]⟩
      | false=>rw [hx] at h;exact ih h
    · rw [if_neg hc,List.lookup_cons] at h
      cases hx:x == n with
      | true=>rw [hx] at h;exact .inl h
      | false=>rw [hx] at h;exact ih h
def cxComp (X:Cx) (scope:Scope) (NL:List Str) (ix:List Nat) (cl:List (Str × Addr)) (C:Addr) (s₃:Shared) (H₃:Hp) (fp:List Addr) (pins:List (Addr × Obj)):Cx where
  prog:=X.prog
  w:=X.w
  K:=X.K
  mg:=X.mg
  base:=X.base
  A:=X.A
  N:=NL++ix.map fun j=>X.N.getD j ""
  s₀:=s₃
  H₀:=H₃
  env:=compEnvC scope cl C X.env
  outer:=X.stack
  stack:=X.stack
  ex:=fp
  fn:=fun _=>false
  calm:=X.calm
  pn:=X.pn++pins
  xe:=fun _ _=>False
def comp0 (NL:List Str) (ix:List Nat) (σ:St):St:=NL.map (fun _=>none)++ix.map fun j=>σ.getD j none
def PIfs (X:Cx) (ifs:List Expr) (t:TT):Prop:=
  ∀ (pins:List (Addr × Obj)) (s:Shared) (σ:St) (H:Hp) (Q:Bool→Hp→Prop),Inv X pins σ H s→t σ H Q →
    wpAny (model X.prog X.w) X.A (forIn ifs true fun c r=>if r=true then do let ok ← isTrue c X.env (eval c X.env);pure (ForInStep.yield ok) else pure (ForInStep.yield r)) (TP X pins σ Q) X.xe s
def tYes:TT:=fun _ H Q=>Q true H
theorem pifs_nil {X:Cx}:PIfs X [] tYes:=fun _ _ _ H _ I h=>wpAny_tests_nil ⟨H,I,h⟩
theorem pifs_one {X:Cx} {c:Expr} {t:TT} (h:PT X c t):PIfs X [c] t:=fun pins s σ H Q I q=>wpAny_tests_one (h pins s σ H Q I q)
def tComp (NL:List Str) (ix:List Nat) (wi:TI) (g:TG) (tt:TT) (te:TE):TE:=fun σ H Q=>
  wi σ H fun J H1=>∀ acc,H1 acc=none→∃ W:Nat→Nat→List V→Hp→Prop,(∃ m,W 0 m [] (upd H1 acc (.lst []))) ∧
    ∀ i m ys H2,W i m ys H2→H2 acc=some (.lst ys)∧ys.length < sizeLine ∧
      ((J.stop i H2∧Q (.ref acc) H2)∨(J.go i H2∧∃ N:List V→Hp→Prop,(∀ ys' H',N ys' H'→∃ m',m' < m∧W (i+1) m' ys' H') ∧
        ∀ x H3,J.yld i H2 x H3→g x (comp0 NL ix σ) H3 fun σ' H4=>σ'.drop NL.length=ix.map (fun j=>σ.getD j none)∧tt σ' H4 fun b H5=>
          if b=true then te σ' H5 fun v H6=>H6 acc=some (.lst ys)∧N (ys++[v]) (upd H6 acc (.lst (ys++[v]))) else N ys H5))
section
variable {X:Cx} {pins:List (Addr × Obj)} {σ:St} {H:Hp} {s:Shared}
structure CompScope (X:Cx) (scope:Scope) (NL:List Str) (ix:List Nat):Prop where
  kind:scope.kind=.function
  cell:∀ y∈scope.names,y.2≠.cell
  names:∀ y∈scope.names,y.2=.local→scope.names.lookup y.1=some .local
  free:∀ y∈scope.names,y.2=.free→X.env.kindOf y.1=some .cell∨X.env.kindOf y.1=some .free
  cap:∀ j∈ix,∃ x,X.N[j]?=some x∧scope.names.lookup x=some .free
theorem comp_inv {scope:Scope} {NL:List Str} {ix:List Nat} {cl:List (Str × Addr)} {fp:List Addr} {tn:Nat→Heap→Prop} {s₃:Shared} {h₁:Heap} {m:Str→Option Value} {tk:Nat}
    (S:CompScope X scope NL ix) (I:Inv X pins σ H s₃) (c1:∀ x c,cl.lookup x=some c→X.env.cells.lookup x=some c) (c2:∀ x,(x,NameKind.free)∈scope.names→∃ c,cl.lookup x=some c)
    (hf:∀ b∈fp,FpOk X pins H b) (ho:∀ b∈fp,∃ o,s₃.heap.get? b=some o) (hn:h₁.Ns s₃.heap.objs.size m) (old:∀ b o,s₃.heap.get? b=some o→h₁.get? b=some o) :
    Inv (cxComp X scope NL ix cl s₃.heap.objs.size s₃ H fp pins) [] (comp0 NL ix σ) H { s₃ with heap:=h₁,toks:=tk }:=by
  have e0:=I.env0
  have lt:∀ b o,s₃.heap.get? b=some o→b≠s₃.heap.objs.size:=fun b o e=>Nat.ne_of_lt (Heap.lt_size e)
  have nst:∀ b,b≠X.env.locals→b ∉ X.fs→b ∉ frs X.stack:=fun b h1 h2 h3=>(List.mem_cons.mp (I.stkSub b h3)).elim h1 h2
  have ok:(cxComp X scope NL ix cl s₃.heap.objs.size s₃ H fp pins).Ok:=
    { mod:=I.ok.mod
      kind:=S.kind
      glob:=I.ok.glob
      blt:=I.ok.blt
      above:=Nat.le_refl _
      inj:=fun x y c h1 h2=>I.ok.inj x y c (c1 x c h1) (c1 y c h2)
      has:=fun x hx=>by
        have hfree:scope.names.lookup x=some .free:=by
          rcases hx with hx | hx
          · rcases relabel_lookup hx with q | ⟨_,q⟩
            · exact absurd rfl (S.cell _ (lookup_mem q))
            · exact q
          · rcases relabel_lookup hx with q | ⟨z,_⟩
            · exact q
            · cases z
        exact c2 x (lookup_mem hfree)
      cab:=fun _ _ z=>nomatch z
      hd:=I.ok.hd
      frames:=I.ok.frames
      stk:=.inl rfl
      exf:=fun b hb=>⟨let ⟨o,e⟩:=ho b hb;lt b o e,fun x c hx=>(hf b hb).2.2.2.2.1 x c (c1 x c hx)⟩
      bs:=I.bs
      bsz:=e0.bsz
      noex:=fun b o e hb=>by
        rcases (hf b hb).2.2.2.1 with z | z
        · exact I.ok.noex b o e z
        · exact absurd (Nat.lt_of_lt_of_le (Heap.lt_size e) (Nat.le_trans I.ok.bsz z)) (Nat.lt_irrefl _)
      exfs:=fun b hb=>nst b (hf b hb).2.1 (hf b hb).2.2.1
      funs:=e0.funs
      frf:=e0.frf }
  refine ⟨ok,rfl,I.bare,Un.kept old,⟨m,hn,fun i x v e1 e2 e3=>?_⟩,fun x c e=>?_,I.hok.fresh (Nat.le_refl _),fun x c e=>I.freeC x c (c1 x c e),fun p hp=>?_,I.hok.kept old,?_⟩
  · have hl:NL.length≤i:=by
      rcases Nat.lt_or_ge i NL.length with z | z
      · exfalso
        unfold comp0 at e2
        rw [List.getElem?_append_left (by simpa using z),List.getElem?_map] at e2
        cases q:NL[i]? with
        | none=>rw [q] at e2;cases e2
        | some y=>rw [q] at e2;cases e2
      · exact z
    unfold comp0 at e2
    rw [List.getElem?_append_right (by simpa using hl),List.length_map,List.getElem?_map] at e2
    change (NL++ix.map fun j=>X.N.getD j "")[i]?=some x at e1
    rw [List.getElem?_append_right hl,List.getElem?_map] at e1
    cases q:ix[i - NL.length]? with
    | none=>rw [q] at e1;cases e1
    | some j=>
      rw [q] at e1 e2
      have e1':X.N.getD j "" = x:=Option.some.inj e1
      have e2':σ.getD j none=some v:=Option.some.inj e2
      obtain ⟨x',hx',hfr⟩:=S.cap j (List.mem_of_getElem? q)
      have exx:x'=x:=by
        rw [← e1',List.getD_eq_getElem?_getD,hx'];rfl
      subst exx
      have hσ:σ[j]?=some (some v):=by
        rw [List.getD_eq_getElem?_getD] at e2'
        cases z:σ[j]? with
        | none=>rw [z] at e2';cases e2'
        | some o=>rw [z] at e2';exact congrArg some e2'
      have kd:=S.free _ (lookup_mem hfr) rfl
      have vis:Vis X.env.scope x':=by
        rcases kd with z | z
        · exact .inr (.inl z)
        · exact .inr (.inr z)
      obtain ⟨m',hn',hl'⟩:=I.loc
      obtain ⟨u,r,l⟩:=hl' j x' v hx' hσ vis
      refine ⟨u,r,.inr ?_⟩
      have hk':(compEnvC scope cl s₃.heap.objs.size X.env).kindOf x'=some .cell∨(compEnvC scope cl s₃.heap.objs.size X.env).kindOf x'=some .free:=by
        rcases e3 with z | z | z
        · rcases relabel_lookup z with w | ⟨w,_⟩
          · rw [hfr] at w;cases w
          · cases w
        · exact .inl z
        · exact .inr z
      refine ⟨hk',?_⟩
      obtain ⟨c,hc⟩:=c2 x' (lookup_mem hfr)
      rcases l with ⟨k,_⟩ | ⟨k,c',ec,o,ho',hd⟩
      · rcases kd with z | z
        · rw [k] at z;cases z
        · rw [k] at z;cases z
      · have:c'=c:=by
          have:=c1 x' c hc
          rw [ec] at this
          exact Option.some.inj this
        subst this
        exact ⟨c',hc,o,old _ _ ho',hd⟩
  · obtain ⟨v,o,ho',hd⟩:=I.cell x c (c1 x c e)
    exact ⟨v,o,old _ _ ho',hd⟩
  · have hp':p∈X.pn++pins:=by
      rcases List.mem_append.mp hp with z | z
      · exact z
      · exact nomatch z
    obtain ⟨e,n,ne,nf,d⟩:=I.pin p hp'
    exact ⟨old _ _ e,n,lt _ _ e,nst _ ne nf,d⟩
  · show (NL.map (fun _=>(none:Option V))++ix.map fun j=>σ.getD j none).length=(NL++ix.map fun j=>X.N.getD j "").length
    simp
theorem comp_run {scope:Scope} {NL:List Str} {ix:List Nat} {elt tg iter:Expr} {ifs:List Expr} {pos:Pos} {g:TG} {tt:TT} {te:TE} {cl:List (Str × Addr)} {fp:List Addr} {it:Addr} {tn:Nat→Heap→Prop} {J:It} {Q:VK}
    {E:Value→Shared→Prop} {RR:Value→Addr→Result→Shared→Prop}
    (hc:X.calm=true) (S:CompScope X scope NL ix) (c1:∀ x c,cl.lookup x=some c→X.env.cells.lookup x=some c) (c2:∀ x,(x,NameKind.free)∈scope.names→∃ c,cl.lookup x=some c)
    (hb:∀ (cl:List (Str × Addr)) (C:Addr) (s₃:Shared) (H₃:Hp) (fp:List Addr) (pins:List (Addr × Obj)),PG (cxComp X scope NL ix cl C s₃ H₃ fp pins) tg g∧PIfs (cxComp X scope NL ix cl C s₃ H₃ fp pins) ifs tt∧PE (cxComp X scope NL ix cl C s₃ H₃ fp pins) elt te)
    (I:Inv X pins σ H s) (T:Turn X.prog X.w X.K tg J fp it tn) (st:tn 0 s.heap) (hf:∀ b∈fp,FpOk X pins H b)
    (q:∀ acc,H acc=none→∃ W:Nat→Nat→List V→Hp→Prop,(∃ m,W 0 m [] (upd H acc (.lst []))) ∧
      ∀ i m ys H2,W i m ys H2→H2 acc=some (.lst ys)∧ys.length < sizeLine ∧
      ((J.stop i H2∧Q (.ref acc) H2)∨(J.go i H2∧∃ N:List V→Hp→Prop,(∀ ys' H',N ys' H'→∃ m',m' < m∧W (i+1) m' ys' H') ∧
        ∀ x H3,J.yld i H2 x H3→g x (comp0 NL ix σ) H3 fun σ' H4=>σ'.drop NL.length=ix.map (fun j=>σ.getD j none)∧tt σ' H4 fun b H5=>
          if b=true then te σ' H5 fun v H6=>H6 acc=some (.lst ys)∧N (ys++[v]) (upd H6 acc (.lst (ys++[v]))) else N ys H5)))
    (hRR:∀ (acc C:Addr) (H':Hp) (s':Shared) (m':Str→Option Value),Inv X pins σ H' s'→s'.heap.Ns C m'→FpOk X pins H' C→Q (.ref acc) H'→RR (.ref acc) C (.ok .next) s') :
    wpAny (model X.prog X.w) X.A (newList []) (fun acc s₃=>wpAny (model X.prog X.w) X.A (newFunctionEnv scope X.env.globals cl [] X.env.qual none .none (some X.env)) (fun cenv s₄=>
      codeAny (model X.prog X.w) X.A (.compStart (.ListComp elt [⟨tg,iter,ifs,0⟩] scope pos) 0 (.ref it) acc { cenv with scope:=relabel scope X.env }) (RR acc cenv.locals) s₄) E s₃) E s:=by
  refine wpAny_newObj_type (wpAny_newFunctionEnv S.cell (by intro y hy;simp at hy) (fun h₁ hns₁ hsb₁=>?_) S.kind)
  have I3:Inv X pins σ (upd H s.heap.objs.size (.lst [])) { s with heap:=s.heap.push { cls:=.type "list", data:=.seq ([]:List Value).toArray },toks:=s.toks }:=I.lnew (its:=[]) .nil (Nat.zero_le _)
  have hfr:H s.heap.objs.size=none:=I.hok.fresh (Nat.le_refl _)
  generalize hs3:({ s with heap:=s.heap.push { cls:=.type "list", data:=.seq ([]:List Value).toArray },toks:=s.toks }:Shared)=s₃ at I3
  have hsz:s₃.heap.objs.size=s.heap.objs.size+1:=by rw [← hs3];exact Heap.size_push ..
  have old1:∀ b o,s.heap.get? b=some o→s₃.heap.get? b=some o:=fun b o e=>by rw [← hs3];exact Heap.get?_push_of_some _ e
  have key:codeAny (model X.prog X.w) X.A (.compStart (.ListComp elt [⟨tg,iter,ifs,0⟩] scope pos) 0 (.ref it) (.ref s.heap.objs.size) (compEnvC scope cl s₃.heap.objs.size X.env))
      (RR (.ref s.heap.objs.size) s₃.heap.objs.size) { s₃ with heap:=h₁,toks:=s₃.toks+0 }:=by
    have hns:h₁.Ns s₃.heap.objs.size (fun _=>none):=by
      have:=hns₁
      rw [← hs3]
      exact this
    have hsb:Heap.SameBut s₃.heap.objs.size (s₃.heap.push { cls:=.type "dict", data:=.dict #[] }) h₁:=by
      have:=hsb₁
      rw [← hs3]
      exact this
    have old:∀ b o,s₃.heap.get? b=some o→h₁.get? b=some o:=fun b o e=>hsb.extBut b o (Nat.ne_of_lt (Heap.lt_size e)) (Heap.get?_push_of_some _ e)
    have hf3:∀ b∈fp,FpOk X pins (upd H s.heap.objs.size (.lst [])) b:=fun b hb'=>by
      obtain ⟨o,e,_⟩:=T.obj 0 _ st b hb'
      have ne:b≠s.heap.objs.size:=Nat.ne_of_lt (Heap.lt_size e)
      exact ⟨by rw [upd_ne ne];exact (hf b hb').1,(hf b hb').2⟩
    have ho3:∀ b∈fp,∃ o,s₃.heap.get? b=some o:=fun b hb'=>by
      obtain ⟨o,e,_⟩:=T.obj 0 _ st b hb'
      exact ⟨o,old1 b o e⟩
    have st1:tn 0 h₁:=T.keep 0 _ _ st fun b hb' o e=>old b o (old1 b o e)
    have I4:=comp_inv (tn:=tn) (tk:=s₃.toks+0) S I3 c1 c2 hf3 ho3 hns old
    obtain ⟨W,⟨m0,w0⟩,turn⟩:=q s.heap.objs.size hfr
    obtain ⟨hg,ht,he⟩:=hb cl s₃.heap.objs.size s₃ (upd H s.heap.objs.size (.lst [])) fp pins
    generalize hX':cxComp X scope NL ix cl s₃.heap.objs.size s₃ (upd H s.heap.objs.size (.lst [])) fp pins=X' at I4 hg ht he
    have p1:X'.prog=X.prog:=by rw [← hX'];rfl
    have p2:X'.w=X.w:=by rw [← hX'];rfl
    have p3:X'.K=X.K:=by rw [← hX'];rfl
    have p4:X'.A=X.A:=by rw [← hX'];rfl
    have p5:X'.env=compEnvC scope cl s₃.heap.objs.size X.env:=by rw [← hX'];rfl
    have p6:X'.calm=true:=by rw [← hX'];exact hc
    have p7:X'.xe=fun _ _=>False:=by rw [← hX'];rfl
    have stat:∀ {H':Hp},(∀ b∈fp,H' b=none)→∀ b∈fp,FpOk X' [] H' b:=fun {H'} hn b hb'=>by
      have z:=hf3 b hb'
      obtain ⟨o,eo⟩:=ho3 b hb'
      rw [← hX']
      refine ⟨hn b hb',Nat.ne_of_lt (Heap.lt_size eo),fun q=>(List.mem_cons.mp (I3.stkSub b q)).elim z.2.1 z.2.2.1,.inl hb',fun x c hx=>z.2.2.2.2.1 x c (c1 x c hx),fun p hp=>?_⟩
      rcases List.mem_append.mp hp with w | w
      · exact z.2.2.2.2.2 p w
      · exact nomatch w
    have fin:∀ i n ys H' s',Inv X' [] (comp0 NL ix σ) H' s'→W i n ys H'→Q (.ref s.heap.objs.size) H'→RR (.ref s.heap.objs.size) s₃.heap.objs.size (.ok .next) s':=fun i n ys H' s' I' w' q'=>by
      obtain ⟨m',hn',_⟩:=I'.loc
      have hos:s'.os=s₃.os:=by have:=I'.os;rw [← hX'] at this;exact this
      have hu:Un (frs X.stack) fp (upd H s.heap.objs.size (.lst [])) H' s₃.heap s'.heap:=by have:=I'.base;rw [← hX'] at this;exact this
      have hk:HOk X.prog X.w H' s'.heap:=by have:=I'.hok;rw [← hX'] at this;exact this
      have hfC:H' s₃.heap.objs.size=none:=by have:=I'.free;rw [← hX'] at this;exact this
      have hnC:s'.heap.Ns s₃.heap.objs.size m':=by rw [p5] at hn';exact hn'
      exact hRR _ _ H' s' m' (I3.call' hos hu hk I'.bare fun b hb'=>⟨(hf3 b hb').2.2.2.1,(hf3 b hb').2.1,(hf3 b hb').2.2.2.2.1,(hf3 b hb').2.2.2.2.2⟩) hnC (I3.fpOk (Nat.le_refl _) hfC) q'
    have loop:∀ s₄:Shared,Inv X' [] (comp0 NL ix σ) (upd H s.heap.objs.size (.lst [])) s₄→tn 0 s₄.heap→codeAny (model X.prog X.w) X.A (.compLoop (.ListComp elt [⟨tg,iter,ifs,0⟩] scope pos) 0 (.ref it) (.ref s.heap.objs.size) (compEnvC scope cl s₃.heap.objs.size X.env))
        (RR (.ref s.heap.objs.size) s₃.heap.objs.size) s₄:=fun s₄ I4 st1=>by
      refine codeAny_loop rfl (fun n s'=>∃ i ys H',Inv X' [] (comp0 NL ix σ) H' s'∧tn i s'.heap∧(∀ b∈fp,H' b=none)∧W i n ys H') (fun n s' hI=>?_) m0 ⟨0,[],_,I4,st1,fun b hb'=>(hf3 b hb').1,w0⟩
      obtain ⟨i,ys,H',I',st',fr',w'⟩:=hI
      show wpAny _ X.A ((compTurn (.ListComp elt [⟨tg,iter,ifs,0⟩] scope pos) 0 (.ref it) (.ref s.heap.objs.size) (compEnvC scope cl s₃.heap.objs.size X.env)).onRaise (fun x=>do noteFrame x (compEnvC scope cl s₃.heap.objs.size X.env);theTreesLotGoes x)) _ _ s'
      refine wpAny_noted ?_
      rw [compTurn_list]
      obtain ⟨hacc,hz8,alt⟩:=turn i n ys H' w'
      rcases alt with ⟨stop,qn⟩ | ⟨go,N,hN,step⟩
      · have d:=T.done X' p1 p2 p3 p6 i [] s' (comp0 NL ix σ) H' (notedBy (model X.prog X.w) X.A (compEnvC scope cl s₃.heap.objs.size X.env) fun e s'=>RR (.ref s.heap.objs.size) s₃.heap.objs.size (.error e) s') I' (stat fr') st' stop
        rw [p4] at d
        refine wpAny_bind (wpAny_standAt (wpAny_bind (thn d fun r s1 ⟨hr,I1⟩=>?_)))
        subst hr
        exact wpAny_pure (fin i n ys H' s1 I1 w' qn)
      · have d:=T.item X' p1 p2 p3 p6 i [] s' (comp0 NL ix σ) H' (notedBy (model X.prog X.w) X.A (compEnvC scope cl s₃.heap.objs.size X.env) fun e s'=>RR (.ref s.heap.objs.size) s₃.heap.objs.size (.error e) s') I' (stat fr') st' go
        rw [p4] at d
        refine wpAny_bind (wpAny_standAt (wpAny_bind (thn d fun r s1 ⟨u,hr,h4⟩=>?_)))
        subst hr
        refine wpAny_bind (thn h4 fun _ s5 ⟨x,H5,I5,r5,y5,st5,fr5⟩=>?_)
        have I5':=I5.pinned (stat fr5) (T.obj _ _ st5)
        have nofail:∀ {α:Type} {t:Sem α} {R:α→Shared→Prop} {sx:Shared},wpAny (model X'.prog X'.w) X'.A t R X'.xe sx→wpAny (model X.prog X.w) X.A t R (notedBy (model X.prog X.w) X.A (compEnvC scope cl s₃.heap.objs.size X.env) fun e s'=>RR (.ref s.heap.objs.size) s₃.heap.objs.size (.error e) s') sx:=fun {α t R sx} hh=>by
          rw [p1,p2,p4,p7] at hh
          exact wpAny_mono hh (fun _ _ z=>z) fun _ _ z=>z.elim
        have again:∀ {σ7:St} {H7:Hp} {s7:Shared} {ys':List V},σ7.drop NL.length=ix.map (fun j=>σ.getD j none)→Inv X' ([]++pinsAt fp s5.heap) σ7 H7 s7→(∃ m',m' < n∧W (i+1) m' ys' H7)→∃ m,m < n∧∃ i ys H',Inv X' [] (comp0 NL ix σ) H' s7∧tn i s7.heap∧(∀ b∈fp,H' b=none)∧W i m ys H':=fun {σ7 H7 s7 ys'} hσ I7 n7=>by
          obtain ⟨m',hm,w7⟩:=n7
          have Iw:Inv X' ([]++pinsAt fp s5.heap) (comp0 NL ix σ) H7 s7:=I7.weak (by rw [I7.len,I'.len]) fun j v hj=>by
            have hlj:NL.length≤j:=by
              rcases Nat.lt_or_ge j NL.length with z | z
              · exfalso
                unfold comp0 at hj
                rw [List.getElem?_append_left (by simpa using z),List.getElem?_map] at hj
                cases q:NL[j]? with
                | none=>rw [q] at hj;cases hj
                | some y=>rw [q] at hj;cases hj
              · exact z
            unfold comp0 at hj
            rw [List.getElem?_append_right (by simpa using hlj),List.length_map,← hσ,List.getElem?_drop] at hj
            rw [← hj]
            congr 1
            omega
          refine ⟨m',hm,i+1,ys',H7,Iw.unpinned,T.keep _ _ _ st5 fun b hb' o e=>(I7.pin (b,o) (List.mem_append_right _ (List.mem_append_right _ (mem_pinsAt hb' e)))).1,fun b hb'=>?_,w7⟩
          obtain ⟨o,e,d⟩:=T.obj _ _ st5 b hb'
          exact (I7.pin (b,o) (List.mem_append_right _ (List.mem_append_right _ (mem_pinsAt hb' e)))).2.1
        have hg':=nofail (hg _ s5 (comp0 NL ix σ) H5 x u _ I5' r5 (step x H5 y5))
        rw [p5] at hg'
        refine wpAny_bind (thn hg' fun _ s6 ⟨σ6,H6,I6,hσ6,q6⟩=>?_)
        have ht':=nofail (ht _ s6 σ6 H6 _ I6 q6)
        rw [p5] at ht'
        refine wpAny_bind (thn ht' fun ok s7 ⟨H7,I7,q7⟩=>?_)
        cases ok with
        | false=>
          have q7':N ys H7:=by simpa using q7
          exact wpAny_pure ⟨rfl,again hσ6 I7 (hN _ _ q7')⟩
        | true=>
          have q7':=(if_pos rfl).mp q7
          have he':=nofail (he _ s7 σ6 H7 _ I7 q7')
          rw [p5] at he'
          refine wpAny_bind (wpAny_bind (thn he' fun v s8 ⟨y,H8,I8,r8,ha8,q8⟩=>?_))
          have ap:=nofail (mt_append _ s8 σ6 H8 (.ref s.heap.objs.size) [y] (.ref s.heap.objs.size) [v] (fun _ H9=>H9=upd H8 s.heap.objs.size (.lst (ys++[y]))) I8 rfl (.cons r8 .nil) ⟨_,ys,y,rfl,rfl,ha8,hz8,rfl⟩)
          refine wpAny_bind (thn ap fun _ s9 ⟨z,H9,I9,r9,e9⟩=>wpAny_pure (wpAny_pure ⟨rfl,?_⟩))
          subst e9
          exact again hσ6 I9 (hN _ _ q8)
    exact codeAny_compStart_list (loop _ I4 st1) (T.self X.A 0 _ _ _ st1 (loop _ I4 st1))
  exact key
theorem pe_comp {scope:Scope} {NL:List Str} {ix:List Nat} {elt tg iter:Expr} {ifs:List Expr} {pos:Pos} {wi:TI} {g:TG} {tt:TT} {te:TE}
    (hc:X.calm=true) (hi:PI X tg iter wi) (S:CompScope X scope NL ix)
    (hb:∀ (cl:List (Str × Addr)) (C:Addr) (s₃:Shared) (H₃:Hp) (fp:List Addr) (pins:List (Addr × Obj)),PG (cxComp X scope NL ix cl C s₃ H₃ fp pins) tg g∧PIfs (cxComp X scope NL ix cl C s₃ H₃ fp pins) ifs tt∧PE (cxComp X scope NL ix cl C s₃ H₃ fp pins) elt te)
    (hs:∀ x,foldedSetIterable iter X.env x=pure x:=by intro _;rfl):PE X (.ListComp elt [⟨tg,iter,ifs,0⟩] scope pos) (tComp NL ix wi g tt te):=by
  intro pins s σ H Q I h
  obtain ⟨cl,hcl,c1,c2⟩:=closure_ok (scope:=scope) (env:=X.env) fun x hx=>by
    rcases S.free _ hx rfl with z | z
    · exact I.ok.has x (.inl z)
    · exact I.ok.has x (.inr z)
  rw [eval_ListComp]
  refine wpAny_comprehension_free (use:=none) rfl hs hcl S.kind S.names (thn (hi pins s σ H _ I h) fun xv s1 h1=>thn h1 fun itv s2 h2=>?_)
  obtain ⟨it,fp,tn,J,H2,rfl,I2,T,st2,f2,q⟩:=h2
  refine comp_run (RR:=fun acc C=>compPost (model X.prog X.w) X.A X.xe none (EP X pins σ Q) acc C) hc S c1 c2 hb I2 T st2 f2 q ?_
  intro acc C H' s' m' I' hn fC q'
  refine ⟨m',hn,fun h' sb=>⟨.ref acc,H',?_,rfl,q'⟩⟩
  exact I'.turned (t':=s'.toks) (fun b o hb e=>sb.extBut b o hb e) fC.1 fC.2.1 fC.2.2.2.1 fC.2.2.2.2.1 fC.2.2.2.2.2
theorem ps_comp {i:Nat} {y:Str} {py spos:Pos} {scope:Scope} {NL:List Str} {ix:List Nat} {elt tg iter:Expr} {ifs:List Expr} {pos:Pos} {wi:TI} {g:TG} {tt:TT} {te:TE}
    (hN:X.N.Nodup) (hiy:X.N[i]?=some y) (hy:Loc X.env.scope y)
    (hc:X.calm=true) (hi:PI X tg iter wi) (S:CompScope X scope NL ix)
    (hb:∀ (cl:List (Str × Addr)) (C:Addr) (s₃:Shared) (H₃:Hp) (fp:List Addr) (pins:List (Addr × Obj)),PG (cxComp X scope NL ix cl C s₃ H₃ fp pins) tg g∧PIfs (cxComp X scope NL ix cl C s₃ H₃ fp pins) ifs tt∧PE (cxComp X scope NL ix cl C s₃ H₃ fp pins) elt te)
    (hsw:swapsWith (.ListComp elt [⟨tg,iter,ifs,0⟩] scope pos) (some (.Name y py)) spos.line X.env=pure true:=by rfl)
    (hs:∀ x,foldedSetIterable iter X.env x=pure x:=by intro _;rfl)
    (hf:X.fn y=true∨X.env.scope.names.lookup y=some .local:=by first | exact .inl rfl | exact .inr rfl | assumption) :
    PS X (.Assign [.Name y py] (.ListComp elt [⟨tg,iter,ifs,0⟩] scope pos) spos) (tAsg (tComp NL ix wi g tt te) (gName i)):=by
  intro pins s σ H D I h
  obtain ⟨cl,hcl,c1,c2⟩:=closure_ok (scope:=scope) (env:=X.env) fun x hx=>by
    rcases S.free _ hx rfl with z | z
    · exact I.ok.has x (.inl z)
    · exact I.ok.has x (.inr z)
  rw [exec_Assign_Name_used _ _ _ _ hsw]
  refine wpAny_bind (wpAny_standAt (wpAny_bind ?_))
  show wpAny _ X.A (do let _ ← comprehension (.ListComp elt [⟨tg,iter,ifs,0⟩] scope pos) scope X.env _ (newList []) false (eval iter X.env) (some (assign (.Name y py) X.env))) _ _ s
  refine wpAny_bind (thn (wpAny_comprehension_free (use:=some (assign (.Name y py) X.env)) (Q:=fun _ s'=>SP X pins D .next s') rfl hs hcl S.kind S.names
    (thn (hi pins s σ H _ I h) fun xv s1 h1=>thn h1 fun itv s2 h2=>?_)) fun _ s' hq=>wpAny_pure (wpAny_pure hq))
  obtain ⟨it,fp,tn,J,H2,rfl,I2,T,st2,f2,q⟩:=h2
  refine comp_run (RR:=fun acc C=>compPost (model X.prog X.w) X.A X.xe (some (assign (.Name y py) X.env)) (fun _ s'=>SP X pins D .next s') acc C) (Q:=fun x H1=>gName i x σ H1 D.nx) hc S c1 c2 hb I2 T st2 f2 q ?_
  intro acc C H' s' m' I' hn fC q'
  show wpAny _ X.A (assign (.Name y py) X.env (.ref acc)) _ _ _
  refine wpAny_assign_Name (store_ok2 I' hN hiy hy (v:=.ref acc) rfl (fun s'' I'' hsb=>?_) hf)
  obtain ⟨a,sb,ha⟩:=hsb
  have hne:C≠a:=by
    rcases ha with z | z
    · rw [z];exact fC.2.1
    · exact fun w=>fC.2.2.2.2.1 y a z w.symm
  refine ⟨m',hn.sameBut sb hne,fun h' sb'=>⟨_,H',?_,q'⟩⟩
  exact I''.turned (t':=s''.toks) (fun b o hb e=>sb'.extBut b o hb e) fC.1 fC.2.1 fC.2.2.2.1 fC.2.2.2.2.1 fC.2.2.2.2.2
theorem comp_by {J:It} {NL:List Str} {ix:List Nat} {g:TG} {tt:TT} {te:TE} {σ:St} {H1:Hp} {Qs:Hp→Prop} {acc:Addr} (n:Nat) (hn:n < 1000) (Pv:Nat→List V→Hp→Prop)
    (hacc:∀ i ys H2,Pv i ys H2→H2 acc=some (.lst ys)∧ys.length≤i) (h0:Pv 0 [] (upd H1 acc (.lst []))) (hstop:∀ ys H2,Pv n ys H2→J.stop n H2∧Qs H2)
    (hturn:∀ i ys H2,i < n→Pv i ys H2→J.go i H2∧∀ x H3,J.yld i H2 x H3→g x (comp0 NL ix σ) H3 fun σ' H4=>σ'.drop NL.length=ix.map (fun j=>σ.getD j none)∧tt σ' H4 fun b H5=>
      if b=true then te σ' H5 fun v H6=>H6 acc=some (.lst ys)∧Pv (i+1) (ys++[v]) (upd H6 acc (.lst (ys++[v]))) else Pv (i+1) ys H5) :
    ∃ W:Nat→Nat→List V→Hp→Prop,(∃ m,W 0 m [] (upd H1 acc (.lst []))) ∧
    ∀ i m ys H2,W i m ys H2→H2 acc=some (.lst ys)∧ys.length < sizeLine ∧
      ((J.stop i H2∧Qs H2)∨(J.go i H2∧∃ N:List V→Hp→Prop,(∀ ys' H',N ys' H'→∃ m',m' < m∧W (i+1) m' ys' H') ∧
        ∀ x H3,J.yld i H2 x H3→g x (comp0 NL ix σ) H3 fun σ' H4=>σ'.drop NL.length=ix.map (fun j=>σ.getD j none)∧tt σ' H4 fun b H5=>
          if b=true then te σ' H5 fun v H6=>H6 acc=some (.lst ys)∧N (ys++[v]) (upd H6 acc (.lst (ys++[v]))) else N ys H5)):=by
  refine ⟨fun i m ys H2=>i≤n∧m=n - i∧Pv i ys H2,⟨n,Nat.zero_le _,rfl,h0⟩,fun i m ys H2 ⟨hi,hm,hp⟩=>?_⟩
  obtain ⟨a1,a2⟩:=hacc i ys H2 hp
  refine ⟨a1,small1000 (by omega),?_⟩
  rcases Nat.lt_or_ge i n with lt | ge
  · obtain ⟨go,tn⟩:=hturn i ys H2 lt hp
    exact .inr ⟨go,Pv (i+1),fun ys' H' hN=>⟨n - (i+1),by omega,by omega,rfl,hN⟩,tn⟩
  · have e:i=n:=by omega
    subst e
    exact .inl (hstop ys H2 hp)
end
end L2
namespace L2
open PySem PySem.Spec PyProof.Rows
section
variable {prog:Program} {w:World} {A:Around} {E:Value→Shared→Prop} {s:Shared}
theorem nextOf_tuple_item {it t:Addr} {i:Nat} {items:Array Value} {x:Value} {Q:Value→Shared→Prop} (hit:s.heap.IsTupleIter it t i)
    (ht:s.heap.IsTuple t items) (hx:items[i]?=some x)
    (hQ:∀ h',h'.IsTupleIter it t (i+1)→Heap.SameBut it s.heap h'→Q x { s with heap:=h' }) :
    wpAny (model prog w) A (Builtin.SmallTypes.nextOf (.ref it)) Q E s:=by
  obtain ⟨o,ho,hc,hd⟩:=id hit
  obtain ⟨ol,hol,_,nl,hdl⟩:=ht
  unfold Builtin.SmallTypes.nextOf
  refine wpAny_bind (wpAny_callSpecial?_slot (name:=Str.ofString "__next__") hit.typeIs F.slot_tuple_iterator_next
    (wpAny_call_entry F.slot_tuple_iterator_next hit.typeIs F.entry_tuple_iterator_next ?_ (F.args_tuple_iterator_next_1 _)))
  show wpAny _ _ (field (.ref it) 0 >>= _) _ _ s
  refine wpAny_bind (wpAny_field ho hd (x:=.ref t) rfl ?_)
  show wpAny _ _ (if (Value.ref t == Value.none)=true then _ else _) _ _ s
  rw [if_neg (show ¬ ((Value.ref t == Value.none)=true) from Bool.false_ne_true)]
  show wpAny _ _ (field (.ref it) 1 >>= _) _ _ s
  refine wpAny_bind (wpAny_field ho hd (x:=.int i 0) rfl ?_)
  show wpAny _ _ (seqItems? (.ref t) >>= _) _ _ s
  refine wpAny_bind (wpAny_seqItems hol hdl ?_)
  simp only [Int.toNat_natCast,hx]
  refine wpAny_bind (wpAny_setField ho hd (by simp) (wpAny_pure ⟨x,rfl,wpAny_pure (hQ _ ?_ (Heap.SameBut.update ..))⟩))
  exact ⟨_,Heap.get?_update_self _ ho (Obj.isFreed_of_fields (Obj.data_mapFields hd _)),(Obj.cls_mapFields ..).trans hc,by
    rw [Obj.data_mapFields hd];simp [rawInt]⟩
theorem nextOf_tuple_end {it t:Addr} {i:Nat} {items:Array Value} {Q:Value→Shared→Prop} (hh:A.handled=none)
    (hit:s.heap.IsTupleIter it t i) (ht:s.heap.IsTuple t items) (hx:items[i]?=none)
    (hE:∀ h' e,Heap.ExtBut it s.heap h'→(∃ o,h'.get? e=some o∧o.cls=.type "StopIteration")→E (.ref e) { s with heap:=h' }) :
    wpAny (model prog w) A (Builtin.SmallTypes.nextOf (.ref it)) Q E s:=by
  obtain ⟨o,ho,hc,hd⟩:=id hit
  obtain ⟨ol,hol,_,nl,hdl⟩:=ht
  unfold Builtin.SmallTypes.nextOf
  refine wpAny_bind (wpAny_callSpecial?_slot (name:=Str.ofString "__next__") hit.typeIs F.slot_tuple_iterator_next
    (wpAny_call_entry F.slot_tuple_iterator_next hit.typeIs F.entry_tuple_iterator_next ?_ (F.args_tuple_iterator_next_1 _)))
  show wpAny _ _ (field (.ref it) 0 >>= _) _ _ s
  refine wpAny_bind (wpAny_field ho hd (x:=.ref t) rfl ?_)
  show wpAny _ _ (if (Value.ref t == Value.none)=true then _ else _) _ _ s
  rw [if_neg (show ¬ ((Value.ref t == Value.none)=true) from Bool.false_ne_true)]
  show wpAny _ _ (field (.ref it) 1 >>= _) _ _ s
  refine wpAny_bind (wpAny_field ho hd (x:=.int i 0) rfl ?_)
  show wpAny _ _ (seqItems? (.ref t) >>= _) _ _ s
  refine wpAny_bind (wpAny_seqItems hol hdl ?_)
  simp only [Int.toNat_natCast,hx]
  refine wpAny_bind (wpAny_rule (wpAny_bind (wpAny_setField ho hd (by simp) ?_)))
  show wpAny _ _ (newExc (.type "StopIteration") [] >>= _) _ _ _
  refine wpAny_bind ?_
  simp only [newExc,newTuple]
  refine wpAny_bind (wpAny_newObj_type ?_ (by size_fits))
  refine wpAny_bind (m:=firstArgMember _ _) (wpAny_of_eq (a:=Value.none) (by first | rfl | (simp only [firstArgMember];rfl)) ?_)
  refine wpAny_newObj_type ?_ (by size_fits)
  simp only [raiseNew]
  refine wpAny_bind (wpAny_handled ?_)
  first | rw [show A.in1.handled=none from hh] | rw [hh]
  refine wpAny_bind (wpAny_pure (wpAny_throw ?_))
  exact hE _ _ (((Heap.SameBut.update ..).extBut.push _).push _) ⟨_,Heap.get?_push_size _ rfl,rfl⟩
end
theorem draws_tuple {prog:Program} {w:World} {A:Around} (hh:A.handled=none) (it l:Addr) (hne:l≠it) (items:Array Value) :
    Draws prog w A it [it,l] items.size (fun i v=>items[i]?=some v) (fun i h=>h.IsTupleIter it l i∧h.IsTuple l items) where
  live:=fun _ _ st=>let ⟨o,ho,_⟩:=st.1;⟨o,ho⟩
  frame:=fun _ _ _ st hk=>⟨st.1.at fun o e=>hk it (by simp) o e,let ⟨o,ho,r⟩:=st.2;⟨o,hk l (by simp) o ho,r⟩⟩
  item:=fun i s Q E hi st hQ=>by
    refine nextOf_tuple_item st.1 st.2 (x:=items[i]) (by simp [hi]) fun h' hit' hs'=>?_
    exact hQ _ h' s.toks (by simp [hi]) ⟨hit',st.2.extBut hs'.extBut hne⟩ hs'
  done:=fun s Q E st hE=>nextOf_tuple_end hh st.1 st.2 (by simp) hE
theorem draws_str {prog:Program} {w:World} {A:Around} (hh:A.handled=none) (it:Addr) (x:Str) (t:Tok) :
    Draws prog w A it [it] x.cps.size (fun i v=>∃ c u,x.cps[i]?=some c∧v=.str ⟨#[c]⟩ u) (fun i h=>h.IsStrIter it (strIterType x) x t i):=by
  unfold strIterType
  cases x.cps.all (· < 128) with
  | true=>exact Draws.strAscii hh it x t
  | false=>exact Draws.strWide hh it x t
inductive SK where
  | lst (a:Addr) | tup (a:Addr) | str (x:Str)
def SK.val:SK→V
  | .lst a=>.ref a
  | .tup a=>.ref a
  | .str x=>.str x
def signs (x:Str):List V:=x.cps.toList.map fun c=>.str ⟨#[c]⟩
def SK.has (H:Hp):SK→List V→Prop
  | .lst a,xs=>Rd H a (.lst xs)
  | .tup a,xs=>Rd H a (.tup xs)
  | .str x,xs=>xs=signs x
def SK.own (it:Addr) (k:Nat) (h:Heap):SK→Prop
  | .lst a=>h.IsListIter it a k
  | .tup a=>h.IsTupleIter it a k
  | .str x=>∃ t,h.IsStrIter it (strIterType x) x t k
theorem SK.own_at {it:Addr} {k:Nat} {h h':Heap} {κ:SK} (x:κ.own it k h) (e:∀ o,h.get? it=some o→h'.get? it=some o):κ.own it k h':=by
  cases κ with
  | lst a=>exact Heap.IsListIter.at x e
  | tup a=>exact Heap.IsTupleIter.at x e
  | str y=>obtain ⟨t,o,ho,r⟩:=x;exact ⟨t,o,e o ho,r⟩
theorem SK.own_obj {it:Addr} {k:Nat} {h:Heap} {κ:SK} (x:κ.own it k h):∃ o,h.get? it=some o∧(∀ v,o.data≠.cell v)∧o.cls≠.type "tuple" ∧ o.cls≠.type "zip" ∧ o.cls≠.type "enumerate" := by
  cases κ with
  | lst a=>obtain ⟨o,ho,c,d⟩:=x;exact ⟨o,ho,(fun v z=>by rw [d] at z;cases z),(fun z=>by rw [c] at z;simp at z),(fun z=>by rw [c] at z;simp at z),(fun z=>by rw [c] at z;simp at z)⟩
  | tup a=>obtain ⟨o,ho,c,d⟩:=x;exact ⟨o,ho,(fun v z=>by rw [d] at z;cases z),(fun z=>by rw [c] at z;simp at z),(fun z=>by rw [c] at z;simp at z),(fun z=>by rw [c] at z;simp at z)⟩
  | str y=>
    obtain ⟨t,o,ho,c,d⟩:=x
    refine ⟨o,ho,(fun v z=>by rw [d] at z;cases z),?_,?_,?_⟩ <;>
    · intro z
      rw [c] at z
      unfold strIterType at z
      split at z <;> simp at z
theorem Rd.inj {H:Hp} {a:Addr} {u v:HO} (hu:∀ o w,u≠.frz o w) (hv:∀ o w,v≠.frz o w) (x:Rd H a u) (y:Rd H a v):u=v:=by
  rcases x with x | ⟨o,x⟩ <;> rcases y with y | ⟨p,y⟩ <;> rw [x] at y
  · exact Option.some.inj y
  · exact absurd (Option.some.inj y) (hu p v)
  · exact absurd (Option.some.inj y).symm (hv o u)
  · have:=Option.some.inj y
    injection this
theorem SK.inj {H:Hp} {κ:SK} {xs ys:List V} (x:κ.has H xs) (y:κ.has H ys):xs=ys:=by
  cases κ with
  | lst a=>have:=Rd.inj (u:=.lst xs) (v:=.lst ys) (fun _ _ z=>nomatch z) (fun _ _ z=>nomatch z) x y;injection this
  | tup a=>have:=Rd.inj (u:=.tup xs) (v:=.tup ys) (fun _ _ z=>nomatch z) (fun _ _ z=>nomatch z) x y;injection this
  | str z=>exact Eq.trans x (Eq.symm y)
def SK.box:SK→List Addr
  | .lst a=>[a]
  | .tup a=>[a]
  | .str _=>[]
theorem SK.box_some {H:Hp} {κ:SK} {xs:List V} (x:κ.has H xs) {b:Addr} (hb:b∈κ.box):H b≠none:=by
  cases κ with
  | lst a => have e:b=a:=by simpa [SK.box] using hb
             subst e;intro z;rcases x with q | ⟨o,q⟩ <;> (rw [z] at q;cases q)
  | tup a => have e:b=a:=by simpa [SK.box] using hb
             subst e;intro z;rcases x with q | ⟨o,q⟩ <;> (rw [z] at q;cases q)
  | str z=>simp [SK.box] at hb
section
variable {X:Cx} {pins:List (Addr × Obj)} {σ:St} {H:Hp} {s:Shared}
theorem sk_draws {κ:SK} {it:Addr} {k:Nat} {xs:List V} {A:Around} (I:Inv X pins σ H s) (hv:κ.has H xs) (hit:κ.own it k s.heap) (hn:H it=none) (hh:A.handled=none) :
    ∃ (P:Nat→Value→Prop) (St:Nat→Heap→Prop),Draws X.prog X.w A it (it :: κ.box) xs.length P St∧St k s.heap∧(∀ i u,P i u→∃ x,xs[i]?=some x∧RelV x u)∧(∀ i h,St i h→κ.own it i h):=by
  have ne:∀ b∈κ.box,b≠it:=fun b hb z=>SK.box_some hv hb (by rw [z];exact hn)
  cases κ with
  | lst a=>
    obtain ⟨_,its,n,r,e⟩:=Rd.ok hv I.hok
    have hl:s.heap.IsList a its.toArray:=⟨_,e,rfl,n,rfl⟩
    have D:=Draws.list (prog:=X.prog) (w:=X.w) hh it a (ne a (by simp [SK.box])) its.toArray
    rw [List.size_toArray,← r.length] at D
    refine ⟨_,_,D,⟨hit,hl⟩,fun i u hu=>?_,fun i h st=>st.1⟩
    · have hu':its[i]?=some u:=by simpa using hu
      have hlt:i < xs.length:=by rw [r.length];exact (List.getElem?_eq_some_iff.mp hu').1
      obtain ⟨u',e1,e2⟩:=r.get (List.getElem?_eq_getElem hlt)
      rw [hu'] at e1;cases e1
      exact ⟨_,List.getElem?_eq_getElem hlt,e2⟩
  | tup a=>
    obtain ⟨_,its,r,ht⟩:=Rd.ok hv I.hok
    have hl:s.heap.IsTuple a its.toArray:=ht
    have D:=draws_tuple (prog:=X.prog) (w:=X.w) hh it a (ne a (by simp [SK.box])) its.toArray
    rw [List.size_toArray,← r.length] at D
    refine ⟨_,_,D,⟨hit,hl⟩,fun i u hu=>?_,fun i h st=>st.1⟩
    · have hu':its[i]?=some u:=by simpa using hu
      have hlt:i < xs.length:=by rw [r.length];exact (List.getElem?_eq_some_iff.mp hu').1
      obtain ⟨u',e1,e2⟩:=r.get (List.getElem?_eq_getElem hlt)
      rw [hu'] at e1;cases e1
      exact ⟨_,List.getElem?_eq_getElem hlt,e2⟩
  | str z=>
    obtain ⟨t,hit⟩:=hit
    have hv':xs=signs z:=hv
    subst hv'
    have D:=draws_str (prog:=X.prog) (w:=X.w) hh it z t
    have e:(signs z).length=z.cps.size:=by simp [signs]
    rw [← e] at D
    refine ⟨_,_,D,hit,fun i u hu=>?_,fun i h st=>⟨t,st⟩⟩
    · obtain ⟨c,u',hc,rfl⟩:=hu
      refine ⟨.str ⟨#[c]⟩,?_,⟨u',rfl⟩⟩
      simp only [signs,List.getElem?_map,Array.getElem?_toList,hc,Option.map_some]
theorem Inv.turnedNew {ch:List Addr} {p:Addr} {o:HO} {h':Heap} {tk:Nat} (I:Inv X pins σ H s)
    (hch:∀ b∈ch,FpOk X pins H b) (k:∀ b ob,b ∉ ch→s.heap.get? b=some ob→h'.get? b=some ob) (hp:s.heap.objs.size≤p) (new:ObjOk X.prog X.w (upd H p o) h' p o) :
    Inv X pins σ (upd H p o) { s with heap:=h',toks:=tk }:=by
  have hn:H p=none:=I.hok.fresh hp
  refine I.call (g':=s.gens) (d':=s.drawn) (ch:=ch) ⟨fun b u q _ _ hx=>k b u hx q,fun b u q _ _ hx=>⟨u.slots,k b u hx q⟩,fun b u q n _=>?_,fun b u q hx=>⟨u,k b u hx q⟩,fun b xs q=>?_,fun b u xs q=>?_,fun b ps q=>⟨#[],?_⟩⟩ (fun b u e=>?_) I.bare
    fun b hb=>⟨(hch b hb).2.2.2.1,(hch b hb).2.1,(hch b hb).2.2.2.2.1,(hch b hb).2.2.2.2.2⟩
  · rw [upd_ne (Nat.ne_of_lt (Nat.lt_of_lt_of_le (Heap.lt_size q) hp))];exact n
  · rw [upd_ne (ne_of_none q hn)];exact q
  · rw [upd_ne (ne_of_none q hn)];exact q
  · rw [upd_ne (ne_of_none q hn),q];simp
  · by_cases hb:b=p
    · subst hb;rw [upd_same] at e;cases e;exact new
    · rw [upd_ne hb] at e
      refine (I.hok b u e).stay (fun c v hc q=>k c v (fun hm=>?_) q) (fun c q=>by rw [upd_ne (ne_of_none q hn)];exact q) fun c xs q=>by rw [upd_ne (ne_of_none q hn)];exact q
      have z:=(hch c hm).1
      rcases hc with hc | hc
      · rw [hc,e] at z;cases z
      · rw [hc] at z;cases z
theorem Inv.turnedMany {ch:List Addr} {h':Heap} {tk:Nat} (I:Inv X pins σ H s)
    (hch:∀ b∈ch,FpOk X pins H b) (k:∀ b ob,b ∉ ch→s.heap.get? b=some ob→h'.get? b=some ob):Inv X pins σ H { s with heap:=h',toks:=tk }:=by
  refine I.call (g':=s.gens) (d':=s.drawn) (ch:=ch) ⟨fun b u q _ _ hx=>k b u hx q,fun b u q _ _ hx=>⟨u.slots,k b u hx q⟩,fun b u q n _=>n,fun b u q hx=>⟨u,k b u hx q⟩,fun b xs q=>q,fun b u xs q=>q,fun b ps q=>⟨#[],by rw [q];simp⟩⟩ (fun b u e=>?_) I.bare
    fun b hb=>⟨(hch b hb).2.2.2.1,(hch b hb).2.1,(hch b hb).2.2.2.2.1,(hch b hb).2.2.2.2.2⟩
  refine (I.hok b u e).stay (fun c v hc q=>k c v (fun hm=>?_) q) (fun _ q=>q) fun _ _ q=>q
  have z:=(hch c hm).1
  rcases hc with hc | hc
  · rw [hc,e] at z;cases z
  · rw [hc] at z;cases z
end
def Ite (κ:SK):It:=
  ⟨fun i H=>∃ xs x,κ.has H xs∧xs[i]?=some x,fun i H v H'=>∃ p x,v=.ref p∧H p=none∧H'=upd H p (.tup [.int i,x])∧∀ xs,κ.has H xs→xs[i]?=some x,fun i H=>∃ xs,κ.has H xs∧xs.length=i⟩
theorem turn_enum {P:Program} {w:World} {K:PySem.W.Frag} {elts:List Expr} {x1:Nat} {tpos:Pos} (κ:SK) (e it:Addr) (hei:e≠it) :
    Turn P w K (.Tuple elts x1 tpos) (Ite κ) [e,it] e (fun i h=>(∃ old,IsEnum h e it i old)∧κ.own it i h) where
  mem:=by simp
  obj:=fun i h st b hb=>by
    obtain ⟨⟨old,he⟩,ho⟩:=st
    simp only [List.mem_cons,List.not_mem_nil,or_false] at hb
    rcases hb with rfl | rfl
    · exact ⟨_,he,fun v z=>by
        have z':Data.fields _=Data.cell v:=z
        cases z'⟩
    · obtain ⟨o,h1,h2,_⟩:=SK.own_obj ho
      exact ⟨o,h1,h2⟩
  keep:=fun i h h' st k=>by
    obtain ⟨⟨old,he⟩,ho⟩:=st
    exact ⟨⟨old,k e (by simp) _ he⟩,SK.own_at ho fun o q=>k it (by simp) o q⟩
  item:=by
    intro X hP hw hK hc i pins s σ H E I hf st hg
    subst hP hw hK
    obtain ⟨⟨old,he⟩,ho⟩:=st
    obtain ⟨xs,x,hx,hxi⟩:=hg
    have hlt:i < xs.length:=(List.getElem?_eq_some_iff.mp hxi).1
    have hh:X.A.in1.handled=none:=I.ok.hd hc
    obtain ⟨Pp,St,D,hst,hrel,hown⟩:=sk_draws (A:=X.A.in1) I hx ho (hf it (by simp)).1 hh
    have hef:e ∉ it :: κ.box:=fun z=>by
      rcases List.mem_cons.mp z with z | z
      · exact hei z
      · exact SK.box_some hx z (hf e (by simp)).1
    refine wpAny_pyNext_enum_itemD D he hst hlt hei hef fun y h' tk hy ho' hst' hT hsz hk=>⟨_,rfl,?_⟩
    refine wpAny_letOwnedTupleGo_enum ho' fun h'' he'' hs''=>?_
    obtain ⟨x',hx',rx⟩:=hrel i y hy
    have exx:x'=x:=Option.some.inj (hx'.symm.trans hxi)
    subst exx
    have kk:∀ b ob,b ∉ [e,it]→s.heap.get? b=some ob→h''.get? b=some ob:=fun b ob hb q=>
      (hs''.2 b (fun z=>hb (by simp [z]))).trans (hk b ob (fun z=>hb (by simp [z])) (fun z=>hb (by simp [z])) q)
    have ne:s.heap.objs.size≠e:=Nat.ne_of_gt (Heap.lt_size he)
    have hT':h''.get? s.heap.objs.size=some { cls:=.type "tuple", data:=.seq #[.int i tk,y] }:=(hs''.2 _ ne).trans hT
    refine ⟨.ref s.heap.objs.size,upd H s.heap.objs.size (.tup [.int i,x']),I.turnedNew (tk:=tk+1) hf kk (Nat.le_refl _) ⟨⟨(by show 2≤sizeLine;decide),_,hT',rfl⟩,[.int i tk,y],.cons ⟨tk,rfl⟩ (.cons rx .nil),_,hT',rfl,0,rfl⟩,rfl,
      ⟨_,x',rfl,I.hok.fresh (Nat.le_refl _),rfl,fun ys hy'=>by rw [SK.inj hy' hx];exact hxi⟩,⟨⟨y,by simpa using he''⟩,SK.own_at (hown _ _ hst') fun o q=>(hs''.2 it (Ne.symm hei)).trans q⟩,fun b hb=>?_⟩
    obtain ⟨o,hob,_⟩:∃ o,s.heap.get? b=some o∧True:=by
      simp only [List.mem_cons,List.not_mem_nil,or_false] at hb
      rcases hb with rfl | rfl
      · exact ⟨_,he,trivial⟩
      · obtain ⟨o,h1,_⟩:=SK.own_obj ho;exact ⟨o,h1,trivial⟩
    rw [upd_ne (Nat.ne_of_lt (Heap.lt_size hob))]
    exact (hf b hb).1
  done:=by
    intro X hP hw hK hc i pins s σ H E I hf st hg
    subst hP hw hK
    obtain ⟨⟨old,he⟩,ho⟩:=st
    obtain ⟨xs,hx,hlen⟩:=hg
    have hh:X.A.in1.handled=none:=I.ok.hd hc
    obtain ⟨Pp,St,D,hst,hrel,hown⟩:=sk_draws (A:=X.A.in1) I hx ho (hf it (by simp)).1 hh
    have hst':St xs.length s.heap:=by rw [hlen];exact hst
    refine wpAny_pyNext_enum_endD D he hst' fun h' hx'=>⟨rfl,?_⟩
    have f:=hf it (by simp)
    exact I.turned (t':=s.toks) (fun b o hb q=>hx' b o hb q) f.1 f.2.1 f.2.2.2.1 f.2.2.2.2.1 f.2.2.2.2.2
  self:=fun _ _ _ _ _ st h=>let ⟨⟨_,he⟩,_⟩:=st;wpAny_pyIter_enum he h
open AutoSeq1 (wpAny_loadPart') in
set_option maxHeartbeats 4000000 in
theorem meets_enumerate_newT (l:Addr) (items:Array Value) (n:Nat) (dct:Option Addr) (sl:Array (Option Value)) :
    Meets (Builtin.«enumerate.__new__» ⟨[.type "enumerate", .ref l],[]⟩) (fun _ R s=>s.heap.get? l=some { cls:=.type "tuple", dict:=dct,data:=.seq items n,slots:=sl } ∧
      R (.ok (.ret (.ref (s.heap.push { cls:=.type "tuple_iterator", data:=.fields #[.ref l,.int 0 0] }).objs.size)))
        { s with heap:=(s.heap.push { cls:=.type "tuple_iterator", data:=.fields #[.ref l,.int 0 0] }).push { cls:=.type "enumerate", data:=.fields #[.none,.bool false,.ref s.heap.objs.size,rawInt 0,.none,.none] } }):=
  .of_wp fun prog w A R s h=>by
    obtain ⟨hp,g,d,tk,os⟩:=s;obtain ⟨hl,h⟩:=h
    have hsub:=sub_enumerate
    have hL:Heap.IsTuple (Shared.heap ⟨hp,g,d,tk,os⟩) l items:=⟨_,hl,rfl,n,rfl⟩
    wp_walk using wpAny_loadPart' hl
    refine wpAny_stack_any fun st=>wpAny_pure ?_
    split
    · rename_i c _ _ _ _ _
      cases (c == Value.type "enumerate")
      · wp_walk using wpAny_loadPart' hl,wpAny_pyIter_tuple hL
        exact ⟨_,rfl,h⟩
      · wp_walk using wpAny_loadPart' hl,wpAny_pyIter_tuple hL
        exact ⟨_,rfl,h⟩
    · wp_walk using wpAny_loadPart' hl,wpAny_pyIter_tuple hL
      exact ⟨_,rfl,h⟩
theorem call_enumerate_tuple {prog:Program} {w:World} {A:Around} {E:Value→Shared→Prop} {s:Shared} {l:Addr} {items:Array Value} {Q:Value→Shared→Prop} (hL:s.heap.IsTuple l items)
    (h:∀ h',IsEnum h' (s.heap.objs.size+1) s.heap.objs.size 0 .none→h'.IsTupleIter s.heap.objs.size l 0→h'.objs.size=s.heap.objs.size+2 →
      (∀ b o,s.heap.get? b=some o→h'.get? b=some o)→Q (.ref (s.heap.objs.size+1)) { s with heap:=h' }) :
    wpAny (model prog w) A (call (.type "enumerate") [.ref l]) Q E s:=by
  obtain ⟨⟨c,dct,dt,sl⟩,hl,hc,n,hd⟩:=hL
  replace hc:c=.type "tuple" := hc
  replace hd:dt=.seq items n:=hd
  subst hc hd
  refine callType_new F.called_enumerate (by decide) (F.typeCall_enumerate_1 _) (F.newCall_enumerate_1 _) (fun obj=>F.args_object_init_2 obj _) F.entry_enumerate_new
    (meets_enumerate_newT l items n dct sl) ⟨hl,?_⟩
  have hz:(s.heap.push { cls:=.type "tuple_iterator", data:=.fields #[.ref l,.int 0 0] }).objs.size=s.heap.objs.size+1:=Heap.size_push ..
  show _∧_
  rw [hz]
  have he:IsEnum ((s.heap.push { cls:=.type "tuple_iterator", data:=.fields #[.ref l,.int 0 0] }).push
      { cls:=.type "enumerate", data:=.fields #[.none,.bool false,.ref s.heap.objs.size,rawInt 0,.none,.none] }) (s.heap.objs.size+1) s.heap.objs.size 0 .none:=by
    have:=Heap.get?_push_size (s.heap.push { cls:=.type "tuple_iterator", data:=.fields #[.ref l,.int 0 0] })
      (o:={ cls:=.type "enumerate", data:=.fields #[.none,.bool false,.ref s.heap.objs.size,rawInt 0,.none,.none] }) rfl
    rw [hz] at this;exact this
  refine ⟨⟨_,he,rfl⟩,h _ he ⟨_,Heap.get?_push_of_some _ (Heap.get?_push_size _ rfl),rfl,rfl⟩ (by rw [Heap.size_push,hz]) fun b o x=>Heap.get?_push_of_some _ (Heap.get?_push_of_some _ x)⟩
section
variable {X:Cx} {pins:List (Addr × Obj)} {σ:St} {H:Hp} {s:Shared}
theorem call_enum {κ:SK} {xs:List V} {u:Value} {E:Value→Shared→Prop} {Q:Value→Shared→Prop} (I:Inv X pins σ H s) (hv:κ.has H xs) (r:RelV κ.val u)
    (h:∀ h',IsEnum h' (s.heap.objs.size+1) s.heap.objs.size 0 .none→κ.own s.heap.objs.size 0 h'→(∀ b o,s.heap.get? b=some o→h'.get? b=some o)→Q (.ref (s.heap.objs.size+1)) { s with heap:=h' }) :
    wpAny (model X.prog X.w) X.A (call (.type "enumerate") [u]) Q E s:=by
  cases κ with
  | lst a=>
    cases (show u=Value.ref a from r)
    obtain ⟨_,its,n,rr,e⟩:=Rd.ok hv I.hok
    exact call_enumerate_list ⟨_,e,rfl,n,rfl⟩ fun h' a1 a2 _ a4=>h h' a1 a2 a4
  | tup a=>
    cases (show u=Value.ref a from r)
    obtain ⟨_,its,rr,e⟩:=Rd.ok hv I.hok
    exact call_enumerate_tuple e fun h' a1 a2 _ a4=>h h' a1 a2 a4
  | str x=>
    obtain ⟨t,q⟩:=(show ∃ t,u=Value.str x t from r)
    subst q
    exact call_enumerate_str fun h' a1 a2 _ a4=>h h' a1 ⟨t,a2⟩ a4
def iEnum (ta:TA):TI:=fun σ H R=>ta σ H fun vs H1=>∃ κ:SK,vs=[κ.val]∧(∃ xs,κ.has H1 xs)∧R (Ite κ) H1
theorem pi_enum {a:Expr} {ta:TA} {p pos:Pos} {elts:List Expr} {x1:Nat} {tpos:Pos} (hg:Gl X "enumerate") (hm:X.mg "enumerate" = none) (ha:PA X [a] ta)
    (hs:starEach [a] X.env=[(false,eval a X.env)]:=by rfl):PI X (.Tuple elts x1 tpos) (.Call (.Name "enumerate" p) [a] [] pos) (iEnum ta):=by
  intro pins s σ H R I h
  refine Call_ (ld_blt I hg hm boot_enumerate (PyProof.Rows.callWith_type1 (thn (ha pos pins s σ H _ I h) fun us s1 ⟨vs,H1,I1,r1,q1⟩=>?_) hs rfl))
  obtain ⟨κ,e,⟨xs,hx⟩,q⟩:=q1
  subst e
  obtain ⟨u,rfl,ru⟩:=vals1 r1
  refine call_enum I1 hx ru fun h' he hi hk=>?_
  refine wpAny_pyIter_enum he ⟨s1.heap.objs.size+1,[s1.heap.objs.size+1,s1.heap.objs.size],_,_,H1,rfl,I1.kept (t':=s1.toks) hk,turn_enum κ _ _ (Nat.ne_of_gt (Nat.lt_succ_self _)),⟨⟨_,he⟩,hi⟩,fun b hb=>?_,q⟩
  have hge:s1.heap.objs.size≤b:=by
    simp only [List.mem_cons,List.not_mem_nil,or_false] at hb
    rcases hb with rfl | rfl
    · exact Nat.le_succ _
    · exact Nat.le_refl _
  exact I1.fpOk hge (I1.hok.fresh hge)
end
structure ZA (z TI TO i1 i2:Addr) (fp1 fp2:List Addr):Prop where
  TIz:TI≠z
  TOz:TO≠z
  i1z:i1≠z
  i2z:i2≠z
  TITO:TI≠TO
  TIi1:TI≠i1
  TIi2:TI≠i2
  TOi1:TO≠i1
  TOi2:TO≠i2
  i12:i1≠i2
  z1:z ∉ fp1
  z2:z ∉ fp2
  o1:TO ∉ fp1
  o2:TO ∉ fp2
  a1:i2 ∉ fp1
  a2:i1 ∉ fp2
section
variable {prog:Program} {w:World} {A:Around} {E:Value→Shared→Prop} {s:Shared}
theorem zip_next_itemD {z TI TO i1 i2:Addr} {fp1 fp2:List Addr} {n1 n2 k:Nat} {P1 P2:Nat→Value→Prop} {S1 S2:Nat→Heap→Prop} {a b:Value} {Q:Value→Shared→Prop} (Z:ZA z TI TO i1 i2 fp1 fp2)
    (D1:Draws prog w A i1 fp1 n1 P1 S1) (D2:Draws prog w A i2 fp2 n2 P2 S2)
    (hz:IsZip s.heap z TI TO .none) (hTI:IsPair s.heap TI (.ref i1) (.ref i2)) (hTO:IsPair s.heap TO a b) (h1:S1 k s.heap) (h2:S2 k s.heap) (l1:k < n1) (l2:k < n2)
    (hQ:∀ x y h' tk,P1 k x→P2 k y→IsZip h' z TI TO (rawInt s.heap.objs.size)→IsPair h' TO x y→S1 (k+1) h'→S2 (k+1) h'→IsPair h' s.heap.objs.size x y→h'.objs.size=s.heap.objs.size+1 →
      (∀ c o,c≠z→c≠TO→c≠i1→c≠i2→s.heap.get? c=some o→h'.get? c=some o)→Q (.ref s.heap.objs.size) { s with heap:=h',toks:=tk }) :
    wpAny (model prog w) A (Builtin.«zip.__next__» ⟨[.ref z],[]⟩) (fun fin s'=>∃ v,fin=.done (.ret v)∧Q v s') E s:=by
  obtain ⟨hp,g,d,tk₀,os⟩:=s
  show wpAny _ _ (field (.ref z) 2 >>= _) _ _ _
  refine wpAny_bind (wpAny_field hz rfl (x:=.bool false) rfl ?_)
  show wpAny _ _ (field (.ref z) 3 >>= _) _ _ _
  refine wpAny_bind (wpAny_field hz rfl (x:=.ref TI) rfl ?_)
  refine wpAny_bind (wpAny_seqItems hTI rfl ?_)
  show wpAny _ _ (Builtin.SmallTypes.ownedTupleIsFree (.ref z) >>= _) _ _ _
  refine wpAny_bind ?_
  unfold Builtin.SmallTypes.ownedTupleIsFree
  refine wpAny_bind (wpAny_field hz rfl (x:=.none) rfl (wpAny_pure ?_))
  simp only [if_true]
  refine wpAny_bind (wpAny_rule ?_)
  refine wpAny_bind (wpAny_field hz rfl (x:=.ref TO) rfl ?_)
  refine wpAny_bind (wpAny_setField_rec hz (by simp) fun h₁ hz₁ hs₁=>?_)
  replace hz₁:IsZip h₁ z TI TO .ellipsis:=hz₁
  replace hs₁:Heap.SameBut z hp h₁:=hs₁
  refine wpAny_bind ?_
  simp only [List.zipIdx_cons,List.zipIdx_nil,List.forIn_cons,List.forIn_nil]
  refine wpAny_bind (wpAny_bind (wpAny_onRaise ?_))
  show wpAny _ _ (Builtin.SmallTypes.nextOf (.ref i1) >>= _) _ _ _
  have h1₁:S1 k h₁:=D1.frame _ _ _ h1 fun c hc o e=>hs₁.extBut _ _ (fun q=>Z.z1 (q ▸ hc)) e
  refine wpAny_bind (D1.item k _ _ _ l1 h1₁ fun x h₂ tk₂ hx h1₂ hs₂=>wpAny_pure ?_)
  replace hs₂:Heap.SameBut i1 h₁ h₂:=hs₂
  have hTO₂:IsPair h₂ TO a b:=hs₂.extBut _ _ Z.TOi1 (hs₁.extBut _ _ Z.TOz hTO)
  refine wpAny_bind (wpAny_seqItems (s:=⟨h₂,g,d,tk₂,os⟩) hTO₂ rfl ?_)
  refine wpAny_bind (wpAny_updateSeq_pair (s:=⟨h₂,g,d,tk₂,os⟩) hTO₂ fun h₃ hTO₃ hs₃=>?_)
  replace hTO₃:IsPair h₃ TO x b:=hTO₃
  replace hs₃:Heap.SameBut TO h₂ h₃:=hs₃
  refine wpAny_bind (wpAny_letGo (wpAny_pure ?_))
  refine wpAny_bind (wpAny_bind (wpAny_onRaise ?_))
  show wpAny _ _ (Builtin.SmallTypes.nextOf (.ref i2) >>= _) _ _ _
  have h2₃:S2 k h₃:=D2.frame _ _ _ h2 fun c hc o e=>hs₃.extBut _ _ (fun q=>Z.o2 (q ▸ hc)) (hs₂.extBut _ _ (fun q=>Z.a2 (q ▸ hc)) (hs₁.extBut _ _ (fun q=>Z.z2 (q ▸ hc)) e))
  refine wpAny_bind (D2.item k _ _ _ l2 h2₃ fun y h₄ tk₄ hy h2₄ hs₄=>wpAny_pure ?_)
  replace hs₄:Heap.SameBut i2 h₃ h₄:=hs₄
  have hTO₄:IsPair h₄ TO x b:=hs₄.extBut _ _ Z.TOi2 hTO₃
  refine wpAny_bind (wpAny_seqItems (s:=⟨h₄,g,d,tk₄,os⟩) hTO₄ rfl ?_)
  refine wpAny_bind (wpAny_updateSeq_pair (s:=⟨h₄,g,d,tk₄,os⟩) hTO₄ fun h₅ hTO₅ hs₅=>?_)
  replace hTO₅:IsPair h₅ TO x y:=hTO₅
  replace hs₅:Heap.SameBut TO h₄ h₅:=hs₅
  refine wpAny_bind (wpAny_letGo (wpAny_pure (wpAny_pure ?_)))
  refine wpAny_bind (wpAny_seqItems (s:=⟨h₅,g,d,tk₄,os⟩) hTO₅ rfl ?_)
  refine wpAny_bind (wpAny_newTuple ?_)
  have hsz:h₅.objs.size=hp.objs.size:=by rw [hs₅.1,hs₄.1,hs₃.1,hs₂.1,hs₁.1]
  have hz₅:IsZip h₅ z TI TO .ellipsis:=hs₅.extBut _ _ Z.TOz.symm (hs₄.extBut _ _ Z.i2z.symm (hs₃.extBut _ _ Z.TOz.symm (hs₂.extBut _ _ Z.i1z.symm hz₁)))
  have hk₅:∀ c o,c≠z→c≠TO→c≠i1→c≠i2→hp.get? c=some o→h₅.get? c=some o:=fun c o c1 c2 c3 c4 e=>
    hs₅.extBut _ _ c2 (hs₄.extBut _ _ c4 (hs₃.extBut _ _ c2 (hs₂.extBut _ _ c3 (hs₁.extBut _ _ c1 e))))
  have h1₅:S1 (k+1) h₅:=D1.frame _ _ _ h1₂ fun c hc o e=>hs₅.extBut _ _ (fun q=>Z.o1 (q ▸ hc)) (hs₄.extBut _ _ (fun q=>Z.a1 (q ▸ hc)) (hs₃.extBut _ _ (fun q=>Z.o1 (q ▸ hc)) e))
  have h2₅:S2 (k+1) h₅:=D2.frame _ _ _ h2₄ fun c hc o e=>hs₅.extBut _ _ (fun q=>Z.o2 (q ▸ hc)) e
  have hzlt:z < h₅.objs.size:=Heap.lt_size hz₅
  show wpAny _ _ (Builtin.SmallTypes.ownedTupleHandOut (.ref z) (.ref h₅.objs.size) >>= _) _ _ _
  refine wpAny_bind ?_
  unfold Builtin.SmallTypes.ownedTupleHandOut
  have hz₆:IsZip (h₅.push { cls:=.type "tuple", data:=.seq #[x,y] }) z TI TO .ellipsis:=Heap.get?_push_of_some _ hz₅
  refine wpAny_bind (wpAny_setField_rec hz₆ (by simp) fun h₇ hz₇ hs₇=>?_)
  replace hz₇:IsZip h₇ z TI TO (rawInt h₅.objs.size):=hz₇
  replace hs₇:Heap.SameBut z (h₅.push { cls:=.type "tuple", data:=.seq #[x,y] }) h₇:=hs₇
  refine wpAny_setField_rec hz₇ (by simp) fun h₈ hz₈ hs₈=>?_
  replace hz₈:IsZip h₈ z TI TO (rawInt h₅.objs.size):=hz₈
  replace hs₈:Heap.SameBut z h₇ h₈:=hs₈
  have up:∀ c o,c≠z→h₅.get? c=some o→h₈.get? c=some o:=fun c o c1 e=>hs₈.extBut _ _ c1 (hs₇.extBut _ _ c1 (Heap.get?_push_of_some _ e))
  have hT₈:IsPair h₈ h₅.objs.size x y:=hs₈.extBut _ _ (Nat.ne_of_gt hzlt) (hs₇.extBut _ _ (Nat.ne_of_gt hzlt) (Heap.get?_push_size _ rfl))
  have hz8:h₈.objs.size=h₅.objs.size+1:=by rw [hs₈.1,hs₇.1,Heap.size_push]
  rw [hsz] at hz₈ hT₈ hz8
  refine wpAny_pure ⟨_,rfl,?_⟩
  show Q (.ref h₅.objs.size) _
  rw [hsz]
  exact hQ x y h₈ tk₄ hx hy hz₈ (up _ _ Z.TOz hTO₅) (D1.frame _ _ _ h1₅ fun c hc o e=>up c o (fun q=>Z.z1 (q ▸ hc)) e) (D2.frame _ _ _ h2₅ fun c hc o e=>up c o (fun q=>Z.z2 (q ▸ hc)) e) hT₈ hz8 fun c o c1 c2 c3 c4 e=>up c o c1 (hk₅ c o c1 c2 c3 c4 e)
theorem zip_next_endD {z TI TO i1 i2:Addr} {fp1 fp2:List Addr} {n1 n2 k:Nat} {P1 P2:Nat→Value→Prop} {S1 S2:Nat→Heap→Prop} {a b:Value} {Q:Fin→Shared→Prop} (Z:ZA z TI TO i1 i2 fp1 fp2)
    (D1:Draws prog w A i1 fp1 n1 P1 S1) (D2:Draws prog w A i2 fp2 n2 P2 S2)
    (hz:IsZip s.heap z TI TO .none) (hTI:IsPair s.heap TI (.ref i1) (.ref i2)) (hTO:IsPair s.heap TO a b) (h1:S1 k s.heap) (h2:S2 k s.heap) (hend:n1=k∨(k < n1∧n2=k))
    (hE:∀ h' e tk,(∀ c o,c≠z→c≠TO→c≠i1→c≠i2→s.heap.get? c=some o→h'.get? c=some o)→(∃ o,h'.get? e=some o∧o.cls=.type "StopIteration")→E (.ref e) { s with heap:=h',toks:=tk }) :
    wpAny (model prog w) A (Builtin.«zip.__next__» ⟨[.ref z],[]⟩) Q E s:=by
  obtain ⟨hp,g,d,tk₀,os⟩:=s
  show wpAny _ _ (field (.ref z) 2 >>= _) _ _ _
  refine wpAny_bind (wpAny_field hz rfl (x:=.bool false) rfl ?_)
  show wpAny _ _ (field (.ref z) 3 >>= _) _ _ _
  refine wpAny_bind (wpAny_field hz rfl (x:=.ref TI) rfl ?_)
  refine wpAny_bind (wpAny_seqItems hTI rfl ?_)
  show wpAny _ _ (Builtin.SmallTypes.ownedTupleIsFree (.ref z) >>= _) _ _ _
  refine wpAny_bind ?_
  unfold Builtin.SmallTypes.ownedTupleIsFree
  refine wpAny_bind (wpAny_field hz rfl (x:=.none) rfl (wpAny_pure ?_))
  simp only [if_true]
  refine wpAny_bind (wpAny_rule ?_)
  refine wpAny_bind (wpAny_field hz rfl (x:=.ref TO) rfl ?_)
  refine wpAny_bind (wpAny_setField_rec hz (by simp) fun h₁ hz₁ hs₁=>?_)
  replace hz₁:IsZip h₁ z TI TO .ellipsis:=hz₁
  replace hs₁:Heap.SameBut z hp h₁:=hs₁
  refine wpAny_bind ?_
  simp only [List.zipIdx_cons,List.zipIdx_nil,List.forIn_cons,List.forIn_nil]
  refine wpAny_bind (wpAny_bind (wpAny_onRaise ?_))
  show wpAny _ _ (Builtin.SmallTypes.nextOf (.ref i1) >>= _) _ _ _
  have h1₁:S1 k h₁:=D1.frame _ _ _ h1 fun c hc o e=>hs₁.extBut _ _ (fun q=>Z.z1 (q ▸ hc)) e
  rcases hend with hn | ⟨l1,hn⟩
  · subst hn
    refine wpAny_bind (D1.done _ _ _ h1₁ fun h₂ e hs₂ he=>?_)
    obtain ⟨oe,hoe,hce⟩:=he
    replace hs₂:Heap.ExtBut i1 h₁ h₂:=hs₂
    have hz₂:IsZip h₂ z TI TO .ellipsis:=hs₂ _ _ Z.i1z.symm hz₁
    have hez:e≠z:=fun x=>by subst x;rw [hz₂] at hoe;cases hoe;simp at hce
    exact wpAny_setField_rec hz₂ (by simp) fun h₃ _ hs₃=>hE h₃ e _ (fun c o c1 _ c3 _ x=>hs₃.extBut _ _ c1 (hs₂ _ _ c3 (hs₁.extBut _ _ c1 x))) ⟨oe,hs₃.extBut _ _ hez hoe,hce⟩
  · subst hn
    refine wpAny_bind (D1.item _ _ _ _ l1 h1₁ fun x h₂ tk₂ hx h1₂ hs₂=>wpAny_pure ?_)
    replace hs₂:Heap.SameBut i1 h₁ h₂:=hs₂
    have hTO₂:IsPair h₂ TO a b:=hs₂.extBut _ _ Z.TOi1 (hs₁.extBut _ _ Z.TOz hTO)
    refine wpAny_bind (wpAny_seqItems (s:=⟨h₂,g,d,tk₂,os⟩) hTO₂ rfl ?_)
    refine wpAny_bind (wpAny_updateSeq_pair (s:=⟨h₂,g,d,tk₂,os⟩) hTO₂ fun h₃ hTO₃ hs₃=>?_)
    replace hs₃:Heap.SameBut TO h₂ h₃:=hs₃
    refine wpAny_bind (wpAny_letGo (wpAny_pure ?_))
    refine wpAny_bind (wpAny_bind (wpAny_onRaise ?_))
    show wpAny _ _ (Builtin.SmallTypes.nextOf (.ref i2) >>= _) _ _ _
    have h2₃:=D2.frame _ _ h₃ h2 fun c hc o e=>hs₃.extBut _ _ (fun q=>Z.o2 (q ▸ hc)) (hs₂.extBut _ _ (fun q=>Z.a2 (q ▸ hc)) (hs₁.extBut _ _ (fun q=>Z.z2 (q ▸ hc)) e))
    refine wpAny_bind (D2.done _ _ _ h2₃ fun h₄ e hs₄ he=>?_)
    obtain ⟨oe,hoe,hce⟩:=he
    replace hs₄:Heap.ExtBut i2 h₃ h₄:=hs₄
    have hz₄:IsZip h₄ z TI TO .ellipsis:=hs₄ _ _ Z.i2z.symm (hs₃.extBut _ _ Z.TOz.symm (hs₂.extBut _ _ Z.i1z.symm hz₁))
    have hez:e≠z:=fun x=>by subst x;rw [hz₄] at hoe;cases hoe;simp at hce
    exact wpAny_setField_rec hz₄ (by simp) fun h₅ _ hs₅=>hE h₅ e _ (fun c o c1 c2 c3 c4 x=>hs₅.extBut _ _ c1 (hs₄ _ _ c4 (hs₃.extBut _ _ c2 (hs₂.extBut _ _ c3 (hs₁.extBut _ _ c1 x))))) ⟨oe,hs₅.extBut _ _ hez hoe,hce⟩
end
def Itz (κ1 κ2:SK):It:=
  ⟨fun i H=>∃ xs ys x y,κ1.has H xs∧κ2.has H ys∧xs[i]?=some x∧ys[i]?=some y,
   fun i H v H'=>∃ p x y,v=.ref p∧H p=none∧H'=upd H p (.tup [x,y])∧(∀ xs,κ1.has H xs→xs[i]?=some x)∧∀ ys,κ2.has H ys→ys[i]?=some y,
   fun i H=>∃ xs ys,κ1.has H xs∧κ2.has H ys∧(xs.length=i∨(i < xs.length∧ys.length=i))⟩
theorem turn_zip {P:Program} {w:World} {K:PySem.W.Frag} {elts:List Expr} {x1:Nat} {tpos:Pos} (κ1 κ2:SK) (z TI TO i1 i2:Addr) (hnd:[z,TI,TO,i1,i2].Nodup) :
    Turn P w K (.Tuple elts x1 tpos) (Itz κ1 κ2) [z,TI,TO,i1,i2] z (fun i h=>IsZip h z TI TO .none∧IsPair h TI (.ref i1) (.ref i2)∧(∃ a b,IsPair h TO a b)∧κ1.own i1 i h∧κ2.own i2 i h) where
  mem:=by simp
  obj:=fun i h st b hb=>by
    obtain ⟨hz,hTI,⟨a,c,hTO⟩,h1,h2⟩:=st
    simp only [List.mem_cons,List.not_mem_nil,or_false] at hb
    rcases hb with rfl | rfl | rfl | rfl | rfl
    · exact ⟨_,hz,fun v y=>by have y':Data.fields _=Data.cell v:=y;cases y'⟩
    · exact ⟨_,hTI,fun v y=>by have y':Data.seq _ _=Data.cell v:=y;cases y'⟩
    · exact ⟨_,hTO,fun v y=>by have y':Data.seq _ _=Data.cell v:=y;cases y'⟩
    · obtain ⟨o,e1,e2,_⟩:=SK.own_obj h1;exact ⟨o,e1,e2⟩
    · obtain ⟨o,e1,e2,_⟩:=SK.own_obj h2;exact ⟨o,e1,e2⟩
  keep:=fun i h h' st k=>by
    obtain ⟨hz,hTI,⟨a,c,hTO⟩,h1,h2⟩:=st
    exact ⟨k z (by simp) _ hz,k TI (by simp) _ hTI,⟨a,c,k TO (by simp) _ hTO⟩,SK.own_at h1 fun o q=>k i1 (by simp) o q,SK.own_at h2 fun o q=>k i2 (by simp) o q⟩
  item:=by
    intro X hP hw hK hc i pins s σ H E I hf st hg
    subst hP hw hK
    obtain ⟨hz,hTI,⟨a,c,hTO⟩,h1,h2⟩:=st
    obtain ⟨xs,ys,x,y,hx,hy,hxi,hyi⟩:=hg
    have l1:i < xs.length:=(List.getElem?_eq_some_iff.mp hxi).1
    have l2:i < ys.length:=(List.getElem?_eq_some_iff.mp hyi).1
    have hh:X.A.in1.handled=none:=I.ok.hd hc
    obtain ⟨P1,S1,D1,s1,r1,w1⟩:=sk_draws (A:=X.A.in1) I hx h1 (hf i1 (by simp)).1 hh
    obtain ⟨P2,S2,D2,s2,r2,w2⟩:=sk_draws (A:=X.A.in1) I hy h2 (hf i2 (by simp)).1 hh
    simp only [List.nodup_cons,List.mem_cons,List.not_mem_nil,or_false,not_or] at hnd
    obtain ⟨⟨n1,n2,n3,n4⟩,⟨n5,n6,n7⟩,⟨n8,n9⟩,n10,_⟩:=hnd
    have nb:∀ {κ:SK} {zs:List V} {b it:Addr},κ.has H zs→H b=none→b≠it→b ∉ it :: κ.box:=fun {κ zs b it} hκ hb hne q=>by
      rcases List.mem_cons.mp q with q | q
      · exact hne q
      · exact SK.box_some hκ q hb
    have Z:ZA z TI TO i1 i2 (i1 :: κ1.box) (i2 :: κ2.box):=
      { TIz:=Ne.symm n1,TOz:=Ne.symm n2,i1z:=Ne.symm n3,i2z:=Ne.symm n4,TITO:=n5,TIi1:=n6,TIi2:=n7,TOi1:=n8,TOi2:=n9,i12:=n10
        z1:=nb hx (hf z (by simp)).1 n3,z2:=nb hy (hf z (by simp)).1 n4,o1:=nb hx (hf TO (by simp)).1 n8,o2:=nb hy (hf TO (by simp)).1 n9,a1:=nb hx (hf i2 (by simp)).1 (Ne.symm n10),a2:=nb hy (hf i1 (by simp)).1 n10 }
    have hT:s.TypeIs (.ref z) "zip" := ⟨_,hz,rfl⟩
    unfold pyNext
    refine wpAny_bind (wpAny_attempt (wpAny_callSpecial?_slot (name:=Str.ofString "__next__") hT F.slot_zip_next
      (wpAny_call_entry F.slot_zip_next hT F.entry_zip_next
        (zip_next_itemD Z D1 D2 hz hTI hTO s1 s2 l1 l2 fun u v h' tk hu hv hz' hTO' s1' s2' hT' hsz hk=>wpAny_pure ⟨_,rfl,?_⟩) (F.args_zip_next_1 _))))
    refine wpAny_letOwnedTupleGo_zip hz' fun h'' hz'' hs''=>?_
    obtain ⟨x',hx',rx⟩:=r1 i u hu
    obtain ⟨y',hy',ry⟩:=r2 i v hv
    have ex:x'=x:=Option.some.inj (hx'.symm.trans hxi)
    have ey:y'=y:=Option.some.inj (hy'.symm.trans hyi)
    subst ex ey
    have kk:∀ b ob,b ∉ [z,TI,TO,i1,i2]→s.heap.get? b=some ob→h''.get? b=some ob:=fun b ob hb q=>
      (hs''.2 b (fun e=>hb (by simp [e]))).trans (hk b ob (fun e=>hb (by simp [e])) (fun e=>hb (by simp [e])) (fun e=>hb (by simp [e])) (fun e=>hb (by simp [e])) q)
    have ne:s.heap.objs.size≠z:=Nat.ne_of_gt (Heap.lt_size hz)
    have hT'':h''.get? s.heap.objs.size=some { cls:=.type "tuple", data:=.seq #[u,v] }:=(hs''.2 _ ne).trans hT'
    refine ⟨.ref s.heap.objs.size,upd H s.heap.objs.size (.tup [x',y']),I.turnedNew (tk:=tk) hf kk (Nat.le_refl _) ⟨⟨(by show 2≤sizeLine;decide),_,hT'',rfl⟩,[u,v],.cons rx (.cons ry .nil),_,hT'',rfl,0,rfl⟩,rfl,
      ⟨_,x',y',rfl,I.hok.fresh (Nat.le_refl _),rfl,fun zs hzs=>by rw [SK.inj hzs hx];exact hxi,fun zs hzs=>by rw [SK.inj hzs hy];exact hyi⟩,
      ⟨hz'',hs''.extBut _ _ (Ne.symm n1) (hk _ _ (Ne.symm n1) n5 n6 n7 hTI),⟨_,_,hs''.extBut _ _ (Ne.symm n2) hTO'⟩,SK.own_at (w1 _ _ s1') fun o q=>(hs''.2 i1 (Ne.symm n3)).trans q,SK.own_at (w2 _ _ s2') fun o q=>(hs''.2 i2 (Ne.symm n4)).trans q⟩,fun b hb=>?_⟩
    have hob:∃ o,s.heap.get? b=some o:=by
      simp only [List.mem_cons,List.not_mem_nil,or_false] at hb
      rcases hb with rfl | rfl | rfl | rfl | rfl
      · exact ⟨_,hz⟩
      · exact ⟨_,hTI⟩
      · exact ⟨_,hTO⟩
      · obtain ⟨o,e1,_⟩:=SK.own_obj h1;exact ⟨o,e1⟩
      · obtain ⟨o,e1,_⟩:=SK.own_obj h2;exact ⟨o,e1⟩
    obtain ⟨o,hob⟩:=hob
    rw [upd_ne (Nat.ne_of_lt (Heap.lt_size hob))]
    exact (hf b hb).1
  done:=by
    intro X hP hw hK hc i pins s σ H E I hf st hg
    subst hP hw hK
    obtain ⟨hz,hTI,⟨a,c,hTO⟩,h1,h2⟩:=st
    obtain ⟨xs,ys,hx,hy,hend⟩:=hg
    have hh:X.A.in1.handled=none:=I.ok.hd hc
    obtain ⟨P1,S1,D1,s1,r1,w1⟩:=sk_draws (A:=X.A.in1) I hx h1 (hf i1 (by simp)).1 hh
    obtain ⟨P2,S2,D2,s2,r2,w2⟩:=sk_draws (A:=X.A.in1) I hy h2 (hf i2 (by simp)).1 hh
    simp only [List.nodup_cons,List.mem_cons,List.not_mem_nil,or_false,not_or] at hnd
    obtain ⟨⟨n1,n2,n3,n4⟩,⟨n5,n6,n7⟩,⟨n8,n9⟩,n10,_⟩:=hnd
    have nb:∀ {κ:SK} {zs:List V} {b it:Addr},κ.has H zs→H b=none→b≠it→b ∉ it :: κ.box:=fun {κ zs b it} hκ hb hne q=>by
      rcases List.mem_cons.mp q with q | q
      · exact hne q
      · exact SK.box_some hκ q hb
    have Z:ZA z TI TO i1 i2 (i1 :: κ1.box) (i2 :: κ2.box):=
      { TIz:=Ne.symm n1,TOz:=Ne.symm n2,i1z:=Ne.symm n3,i2z:=Ne.symm n4,TITO:=n5,TIi1:=n6,TIi2:=n7,TOi1:=n8,TOi2:=n9,i12:=n10
        z1:=nb hx (hf z (by simp)).1 n3,z2:=nb hy (hf z (by simp)).1 n4,o1:=nb hx (hf TO (by simp)).1 n8,o2:=nb hy (hf TO (by simp)).1 n9,a1:=nb hx (hf i2 (by simp)).1 (Ne.symm n10),a2:=nb hy (hf i1 (by simp)).1 n10 }
    have hT:s.TypeIs (.ref z) "zip" := ⟨_,hz,rfl⟩
    unfold pyNext
    refine wpAny_bind (wpAny_attempt (wpAny_callSpecial?_slot (name:=Str.ofString "__next__") hT F.slot_zip_next
      (wpAny_call_entry F.slot_zip_next hT F.entry_zip_next (zip_next_endD Z D1 D2 hz hTI hTO s1 s2 hend fun h' e tk hk he=>?_) (F.args_zip_next_1 _))))
    obtain ⟨o,ho,hcl⟩:=he
    refine wpAny_bind (wpAny_isInstance (T := "StopIteration") (b:=true) ⟨o,ho,hcl⟩ isSubtype_stop ?_)
    exact wpAny_pure ⟨rfl,I.turnedMany hf fun b ob hb q=>hk b ob (fun e=>hb (by simp [e])) (fun e=>hb (by simp [e])) (fun e=>hb (by simp [e])) (fun e=>hb (by simp [e])) q⟩
  self:=fun _ _ _ _ _ st h=>wpAny_pyIter_zip st.1 h
def itObj (v:Value):SK→Obj
  | .lst _=>{ cls:=.type "list_iterator", data:=.fields #[v,.int 0 0] }
  | .tup _=>{ cls:=.type "tuple_iterator", data:=.fields #[v,.int 0 0] }
  | .str x=>{ cls:=.type (strIterType x),data:=.fields #[v,.int 0 0] }
theorem itObj_live (v:Value) (κ:SK):(itObj v κ).isFreed=false:=by cases κ <;> rfl
def Iters (h:Heap) (v:Value) (o:Obj):Prop:=∀ (prog:Program) (w:World) (A:Around) (E:Value→Shared→Prop) (s:Shared) (Q:Value→Shared→Prop),(∀ b ob,h.get? b=some ob→s.heap.get? b=some ob)→Q (.ref s.heap.objs.size) { s with heap:=s.heap.push o }→wpAny (model prog w) A (pyIter v) Q E s
theorem sk_iters {X:Cx} {pins:List (Addr × Obj)} {σ:St} {H:Hp} {s:Shared} {κ:SK} {xs:List V} {u:Value} (I:Inv X pins σ H s) (hv:κ.has H xs) (r:RelV κ.val u):Iters s.heap u (itObj u κ):=by
  intro prog w A E s' Q k h
  cases κ with
  | lst a=>
    cases (show u=Value.ref a from r)
    obtain ⟨_,its,n,rr,e⟩:=Rd.ok hv I.hok
    exact wpAny_pyIter_list (items:=its.toArray) ⟨_,k _ _ e,rfl,n,rfl⟩ h
  | tup a=>
    cases (show u=Value.ref a from r)
    obtain ⟨_,its,rr,o,e,c⟩:=Rd.ok hv I.hok
    exact wpAny_pyIter_tuple (items:=its.toArray) ⟨o,k _ _ e,c⟩ h
  | str x=>
    obtain ⟨t,q⟩:=(show ∃ t,u=Value.str x t from r)
    subst q
    exact wpAny_pyIter_strU h
theorem sk_own0 {κ:SK} {u:Value} {h h':Heap} {it:Addr} (r:RelV κ.val u) (e:h.get? it=some (itObj u κ)):κ.own it 0 h:=by
  cases κ with
  | lst a=>cases (show u=Value.ref a from r);exact ⟨_,e,rfl,rfl⟩
  | tup a=>cases (show u=Value.ref a from r);exact ⟨_,e,rfl,rfl⟩
  | str x=>obtain ⟨t,q⟩:=(show ∃ t,u=Value.str x t from r);subst q;exact ⟨t,_,e,rfl,rfl⟩
abbrev zH1 (h:Heap) (o1:Obj):Heap:=h.push o1
abbrev zH2 (h:Heap) (o1 o2:Obj):Heap:=(zH1 h o1).push o2
abbrev zH3 (h:Heap) (o1 o2:Obj):Heap:=(zH2 h o1 o2).push { cls:=.type "tuple", data:=.seq #[.ref h.objs.size,.ref (zH1 h o1).objs.size] }
abbrev zH4 (h:Heap) (o1 o2:Obj):Heap:=(zH3 h o1 o2).push { cls:=.type "tuple", data:=.seq #[.none,.none] }
abbrev zH5 (h:Heap) (o1 o2:Obj):Heap:=(zH4 h o1 o2).push { cls:=.type "zip", data:=.fields #[.none,.bool false,.bool false,.ref (zH2 h o1 o2).objs.size,.ref (zH3 h o1 o2).objs.size] }
set_option maxHeartbeats 4000000 in
theorem meets_zipG (v1 v2:Value) (o1 o2:Obj) :
    Meets (Builtin.«zip.__new__» ⟨[.type "zip", v1,v2],[]⟩) (fun _ R s=>Iters s.heap v1 o1∧Iters s.heap v2 o2 ∧
      R (.ok (.ret (.ref (zH4 s.heap o1 o2).objs.size))) { s with heap:=zH5 s.heap o1 o2 }):=
  .of_wp fun prog w A R s h=>by
    obtain ⟨hp,g,d,tk,os⟩:=s;obtain ⟨hl1,hl2,h⟩:=h
    have hsub:=sub_zip
    have g1:∀ (A:Around) (E:Value→Shared→Prop) (Q:Value→Shared→Prop),Q (.ref hp.objs.size) ⟨hp.push o1,g,d,tk,os⟩→wpAny (model prog w) A (pyIter v1) Q E ⟨hp,g,d,tk,os⟩:=fun A E Q q=>hl1 prog w A E ⟨hp,g,d,tk,os⟩ Q (fun _ _ e=>e) q
    have g2:∀ (A:Around) (E:Value→Shared→Prop) (Q:Value→Shared→Prop),Q (.ref (hp.push o1).objs.size) ⟨(hp.push o1).push o2,g,d,tk,os⟩→wpAny (model prog w) A (pyIter v2) Q E ⟨hp.push o1,g,d,tk,os⟩:=fun A E Q q=>hl2 prog w A E ⟨hp.push o1,g,d,tk,os⟩ Q (fun _ _ e=>Heap.get?_push_of_some _ e) q
    wp_walk using g1 _ _ _,g2 _ _ _
    exact ⟨_,rfl,h⟩
theorem call_zipG {prog:Program} {w:World} {A:Around} {E:Value→Shared→Prop} {s:Shared} {v1 v2:Value} {o1 o2:Obj} {Q:Value→Shared→Prop} (f1:o1.isFreed=false) (f2:o2.isFreed=false) (hl1:Iters s.heap v1 o1) (hl2:Iters s.heap v2 o2)
    (h:∀ h',IsZip h' (s.heap.objs.size+4) (s.heap.objs.size+2) (s.heap.objs.size+3) .none→IsPair h' (s.heap.objs.size+2) (.ref s.heap.objs.size) (.ref (s.heap.objs.size+1)) →
      IsPair h' (s.heap.objs.size+3) .none .none→h'.get? s.heap.objs.size=some o1→h'.get? (s.heap.objs.size+1)=some o2 →
      (∀ c o,s.heap.get? c=some o→h'.get? c=some o)→Q (.ref (s.heap.objs.size+4)) { s with heap:=h' }) :
    wpAny (model prog w) A (call (.type "zip") [v1,v2]) Q E s:=by
  refine callType_new F.called_zip (by decide) (F.typeCall_zip_2 _ _) (F.newCall_zip_2 _ _) (fun obj=>F.args_object_init_3 obj _ _) F.entry_zip_new
    (meets_zipG v1 v2 o1 o2) ⟨hl1,hl2,?_⟩
  have z1:(zH1 s.heap o1).objs.size=s.heap.objs.size+1:=Heap.size_push ..
  have z2:(zH2 s.heap o1 o2).objs.size=s.heap.objs.size+2:=by rw [Heap.size_push,z1]
  have z3:(zH3 s.heap o1 o2).objs.size=s.heap.objs.size+3:=by rw [Heap.size_push,z2]
  have z4:(zH4 s.heap o1 o2).objs.size=s.heap.objs.size+4:=by rw [Heap.size_push,z3]
  have g5:(zH5 s.heap o1 o2).get? (zH4 s.heap o1 o2).objs.size=some _:=Heap.get?_push_size _ rfl
  have g4:(zH5 s.heap o1 o2).get? (zH3 s.heap o1 o2).objs.size=some _:=Heap.get?_push_of_some _ (Heap.get?_push_size _ rfl)
  have g3:(zH5 s.heap o1 o2).get? (zH2 s.heap o1 o2).objs.size=some _:=Heap.get?_push_of_some _ (Heap.get?_push_of_some _ (Heap.get?_push_size _ rfl))
  have g2:(zH5 s.heap o1 o2).get? (zH1 s.heap o1).objs.size=some _:=Heap.get?_push_of_some _ (Heap.get?_push_of_some _ (Heap.get?_push_of_some _ (Heap.get?_push_size _ f2)))
  have g1:(zH5 s.heap o1 o2).get? s.heap.objs.size=some _:=Heap.get?_push_of_some _ (Heap.get?_push_of_some _ (Heap.get?_push_of_some _ (Heap.get?_push_of_some _ (Heap.get?_push_size _ f1))))
  show _∧_
  rw [z2,z3,z4] at g5
  rw [z1,z2] at g3
  rw [z3] at g4
  rw [z1] at g2
  rw [z4]
  exact ⟨⟨_,g5,rfl⟩,h _ g5 g3 g4 g1 g2 fun c o x=>
    Heap.get?_push_of_some _ (Heap.get?_push_of_some _ (Heap.get?_push_of_some _ (Heap.get?_push_of_some _ (Heap.get?_push_of_some _ x))))⟩
section
variable {X:Cx}
def iZip (ta:TA):TI:=fun σ H R=>ta σ H fun vs H1=>∃ κ1 κ2:SK,vs=[κ1.val,κ2.val]∧(∃ xs,κ1.has H1 xs)∧(∃ ys,κ2.has H1 ys)∧R (Itz κ1 κ2) H1
theorem pi_zip {a b:Expr} {ta:TA} {p pos:Pos} {elts:List Expr} {x1:Nat} {tpos:Pos} (hg:Gl X "zip") (hm:X.mg "zip" = none) (ha:PA X [a,b] ta)
    (hs:starEach [a,b] X.env=[(false,eval a X.env),(false,eval b X.env)]:=by rfl) (hs2:starEach [b] X.env=[(false,eval b X.env)]:=by rfl):PI X (.Tuple elts x1 tpos) (.Call (.Name "zip" p) [a,b] [] pos) (iZip ta):=by
  intro pins s σ H R I h
  refine Call_ (ld_blt I hg hm boot_zip (PyProof.Rows.callWith_type1 (thn (ha pos pins s σ H _ I h) fun us s1 ⟨vs,H1,I1,r1,q1⟩=>?_) (by rw [hs,hs2]) (by rw [hs2];rfl)))
  obtain ⟨κ1,κ2,e,⟨xs,hx⟩,⟨ys,hy⟩,q⟩:=q1
  subst e
  obtain ⟨u,v,rfl,ru,rv⟩:=vals2 r1
  refine call_zipG (itObj_live u κ1) (itObj_live v κ2) (sk_iters I1 hx ru) (sk_iters I1 hy rv) fun h' hz hTI hTO h1 h2 hk=>?_
  refine wpAny_pyIter_zip hz ⟨s1.heap.objs.size+4,[s1.heap.objs.size+4,s1.heap.objs.size+2,s1.heap.objs.size+3,s1.heap.objs.size,s1.heap.objs.size+1],_,_,H1,rfl,I1.kept (t':=s1.toks) hk,
    turn_zip κ1 κ2 _ _ _ _ _ (by simp),⟨hz,hTI,⟨_,_,hTO⟩,sk_own0 (h':=h') ru h1,sk_own0 (h':=h') rv h2⟩,fun b hb=>?_,q⟩
  have hge:s1.heap.objs.size≤b:=by
    simp only [List.mem_cons,List.not_mem_nil,or_false] at hb
    rcases hb with rfl | rfl | rfl | rfl | rfl <;> first | exact Nat.le_add_right _ _ | exact Nat.le_refl _
  exact I1.fpOk hge (I1.hok.fresh hge)
end
theorem for_zip {κ1 κ2:SK} {xs ys:List V} {g:TG} {tb:TS} {D:Ends} {σ:St} {H:Hp} (Pv:Nat→St→Hp→Prop) (h0:Pv 0 σ H) (hlen:xs.length=ys.length) (hl:∀ i σ H,i≤xs.length→Pv i σ H→κ1.has H xs∧κ2.has H ys)
    (hs:∀ i x y σ H p,xs[i]?=some x→ys[i]?=some y→Pv i σ H→H p=none→g (.ref p) σ (upd H p (.tup [x,y])) fun σ2 H2=>tb { D with nx:=Pv (i+1),ct:=Pv (i+1),bk:=D.nx } σ2 H2) (hd:∀ σ H,Pv xs.length σ H→D.nx σ H) :
    ∃ W:Nat→Nat→St→Hp→Prop,(∃ m,W 0 m σ H)∧∀ i m σ H,W i m σ H →
      ((Itz κ1 κ2).stop i H∧D.nx σ H)∨((Itz κ1 κ2).go i H∧∃ N:St→Hp→Prop,(∀ σ' H',N σ' H'→∃ m',m' < m∧W (i+1) m' σ' H')∧∀ x H',(Itz κ1 κ2).yld i H x H'→g x σ H' fun σ2 H2=>tb { D with nx:=N,ct:=N,bk:=D.nx } σ2 H2):=by
  refine ⟨fun i m σ H=>i≤xs.length∧m=xs.length - i∧Pv i σ H,⟨xs.length,Nat.zero_le _,rfl,h0⟩,fun i m σ H ⟨hi,hm,hp⟩=>?_⟩
  obtain ⟨a1,a2⟩:=hl i σ H hi hp
  rcases Nat.lt_or_ge i xs.length with lt | ge
  · have lt2:i < ys.length:=by omega
    refine .inr ⟨⟨xs,ys,xs[i],ys[i],a1,a2,List.getElem?_eq_getElem lt,List.getElem?_eq_getElem lt2⟩,Pv (i+1),fun σ' H' hn=>⟨xs.length - (i+1),by omega,by omega,rfl,hn⟩,fun x H' hy=>?_⟩
    obtain ⟨p,x',y',rfl,hpn,rfl,e1,e2⟩:=hy
    exact hs i x' y' σ H p (e1 xs a1) (e2 ys a2) hp hpn
  · have e:i=xs.length:=by omega
    subst e
    exact .inl ⟨⟨xs,ys,a1,a2,.inl rfl⟩,hd σ H hp⟩
theorem for_enum {κ:SK} {xs:List V} {g:TG} {tb:TS} {D:Ends} {σ:St} {H:Hp} (Pv:Nat→St→Hp→Prop) (h0:Pv 0 σ H) (hl:∀ i σ H,i≤xs.length→Pv i σ H→κ.has H xs)
    (hs:∀ (i:Nat) x σ H p,xs[i]?=some x→Pv i σ H→H p=none→g (.ref p) σ (upd H p (.tup [.int i,x])) fun σ2 H2=>tb { D with nx:=Pv (i+1),ct:=Pv (i+1),bk:=D.nx } σ2 H2) (hd:∀ σ H,Pv xs.length σ H→D.nx σ H) :
    ∃ W:Nat→Nat→St→Hp→Prop,(∃ m,W 0 m σ H)∧∀ i m σ H,W i m σ H →
      ((Ite κ).stop i H∧D.nx σ H)∨((Ite κ).go i H∧∃ N:St→Hp→Prop,(∀ σ' H',N σ' H'→∃ m',m' < m∧W (i+1) m' σ' H')∧∀ x H',(Ite κ).yld i H x H'→g x σ H' fun σ2 H2=>tb { D with nx:=N,ct:=N,bk:=D.nx } σ2 H2):=by
  refine ⟨fun i m σ H=>i≤xs.length∧m=xs.length - i∧Pv i σ H,⟨xs.length,Nat.zero_le _,rfl,h0⟩,fun i m σ H ⟨hi,hm,hp⟩=>?_⟩
  have a1:=hl i σ H hi hp
  rcases Nat.lt_or_ge i xs.length with lt | ge
  · refine .inr ⟨⟨xs,xs[i],a1,List.getElem?_eq_getElem lt⟩,Pv (i+1),fun σ' H' hn=>⟨xs.length - (i+1),by omega,by omega,rfl,hn⟩,fun x H' hy=>?_⟩
    obtain ⟨p,x',rfl,hpn,rfl,e1⟩:=hy
    exact hs i x' σ H p (e1 xs a1) hp hpn
  · have e:i=xs.length:=by omega
    subst e
    exact .inl ⟨⟨xs,a1,rfl⟩,hd σ H hp⟩
def cutS (z:Str) (lo hi:Option Int):Str:=⟨((z.cps.toList.drop (HT.sIx z.length 0 lo)).take (HT.sIx z.length z.length hi - HT.sIx z.length 0 lo)).toArray⟩
theorem clip_s (i:Int) (n d:Nat):max 0 (min (if i < 0 then i+(n:Int) else i) (n:Int))=((HT.sIx n d (some i):Nat):Int):=by
  simp only [HT.sIx]
  split
  · omega
  · omega
theorem range_cut (a b:Nat):sliceRange (a:Int) (b:Int) 1=(List.range (b - a)).map fun k=>a+k:=by
  unfold sliceRange
  simp only [show ((1:Int) > 0)=True from by simp,if_true]
  by_cases hlt:(a:Int) < b
  · have e3:(((b:Int) - a+1 - 1) / 1).toNat=b - a:=by
      rw [Int.ediv_one];omega
    simp only [hlt,if_true,e3]
    refine List.map_congr_left fun k _=>?_
    omega
  · have:b - a=0:=by omega
    simp [hlt,this]
theorem sliceIdx_cut (lo hi:Option Int) (n:Nat):Builtin.Str.strSliceIndices lo hi 1 n=(List.range (HT.sIx n n hi - HT.sIx n 0 lo)).map fun k=>HT.sIx n 0 lo+k:=by
  unfold Builtin.Str.strSliceIndices
  simp only [show ((1:Int) > 0)=True from by simp,if_true]
  cases lo with
  | none=>
    cases hi with
    | none=>exact range_cut 0 n
    | some j=>dsimp only;rw [clip_s j n n];exact range_cut 0 _
  | some i=>
    cases hi with
    | none=>dsimp only;rw [clip_s i n 0];exact range_cut _ n
    | some j=>dsimp only;rw [clip_s i n 0,clip_s j n n];exact range_cut _ _
theorem slice_text (z:Str) (t:Tok) (l u:Option (Int × Tok)):∀ (Q:Value→Shared→Prop) (s:Shared),z.length≤sizeLine→(∀ t' s',s'.heap=s.heap→s'.gens=s.gens→s'.drawn=s.drawn→s'.os=s.os→Q (.str (cutS z (l.map (·.1)) (u.map (·.1))) t') s')→(sliceMade z t l u none).post Q s:=by
  intro Q s hz h
  have hidx:=sliceIdx_cut (l.map (·.1)) (u.map (·.1)) z.length
  have hle:HT.sIx z.length z.length (u.map (·.1))≤z.length:=HT.sIx_le _ _ (Nat.le_refl _) _
  have hlo:HT.sIx z.length 0 (l.map (·.1))≤z.length:=HT.sIx_le _ _ (Nat.zero_le _) _
  have hzl:z.length=z.cps.toList.length:=by simp [Str.length]
  have cut:((slicePicked z l u none).filterMap (z.cps[·]?))=(z.cps.toList.drop (HT.sIx z.length 0 (l.map (·.1)))).take (HT.sIx z.length z.length (u.map (·.1)) - HT.sIx z.length 0 (l.map (·.1))):=by
    have p:=StrLaws.picks z.cps.toList (HT.sIx z.length z.length (u.map (·.1)) - HT.sIx z.length 0 (l.map (·.1))) (HT.sIx z.length 0 (l.map (·.1))) (by omega)
    rw [← p]
    unfold slicePicked
    simp only [Option.map_none,Option.getD_none]
    rw [hidx]
    congr 1
    funext k
    simp
  unfold sliceMade
  split
  · rename_i c
    have whole:cutS z (l.map (·.1)) (u.map (·.1))=z:=by
      unfold cutS
      have e:(slicePicked z l u none).length=z.length:=by
        simp only [Bool.and_eq_true,beq_iff_eq] at c
        exact c.2
      have e':HT.sIx z.length z.length (u.map (·.1)) - HT.sIx z.length 0 (l.map (·.1))=z.length:=by
        unfold slicePicked at e
        simp only [Option.map_none,Option.getD_none] at e
        rw [hidx] at e
        simpa using e
      have e0:HT.sIx z.length 0 (l.map (·.1))=0:=by omega
      rw [e',e0,List.drop_zero,hzl,List.take_length]
    have:=h t s rfl rfl rfl rfl
    rw [whole] at this
    exact this
  · rw [cut]
    have hl':(⟨((z.cps.toList.drop (HT.sIx z.length 0 (l.map (·.1)))).take (HT.sIx z.length z.length (u.map (·.1)) - HT.sIx z.length 0 (l.map (·.1)))).toArray⟩:Str).length≤sizeLine:=by
      have:(⟨((z.cps.toList.drop (HT.sIx z.length 0 (l.map (·.1)))).take (HT.sIx z.length z.length (u.map (·.1)) - HT.sIx z.length 0 (l.map (·.1)))).toArray⟩:Str).length≤z.length:=by
        simp only [Str.length,List.size_toArray,List.length_take,List.length_drop]
        have:z.cps.size=z.length:=rfl
        omega
      omega
    first
      | exact ⟨hl',h _ _ rfl rfl rfl rfl⟩
      | exact h _ _ rfl rfl rfl rfl
def rSlS:V→Option Int→Option Int→Hp→VK→Prop:=fun x lo hi H Q=>∃ z,x=.str z∧z.length≤sizeLine∧Q (.str (cutS z lo hi)) H
theorem sl_str {X:Cx}:SlR X rSlS:=by
  intro pins s σ H x v vl vu lo hi sl Q I rx hs pl pu h
  obtain ⟨z,rfl,hz,q⟩:=h
  obtain ⟨t,rfl⟩:=rx
  refine ⟨"str", _,F.slot_str_getitem.lookup,typeIs_str s z t,?_⟩
  have part:∀ {v:Value} {o:Option Int},IsPart v o→∃ p:Option (Int × Tok),v=partValue p∧p.map (·.1)=o:=fun {v o} p=>by
    cases p with
    | none=>exact ⟨none,rfl,rfl⟩
    | int i t=>exact ⟨some (i,t),rfl,rfl⟩
  obtain ⟨l,rfl,rfl⟩:=part pl
  obtain ⟨u,rfl,rfl⟩:=part pu
  refine wpAny_getItem_str_slice (l:=l) (u:=u) (st:=none) hs rfl (slice_text z t l u _ s hz fun t' s' e1 e2 e3 e4=>⟨.str _,H,?_,⟨t',rfl⟩,q⟩)
  obtain ⟨hp,g,d,tk,os⟩:=s'
  cases e1;cases e2;cases e3;cases e4
  exact I.tok tk
theorem cutS_from (z:Str) (k:Nat):(cutS z (some (k:Int)) none).cps.toList=z.cps.toList.drop k:=by
  unfold cutS
  have hzl:z.length=z.cps.toList.length:=by simp [Str.length]
  simp only [HT.sIx_nat,HT.sIx_none]
  rcases Nat.le_total k z.length with h | h
  · rw [Nat.min_eq_left h]
    exact List.take_of_length_le (by rw [List.length_drop];omega)
  · rw [Nat.min_eq_right h,Nat.sub_self,List.take_zero]
    exact (List.drop_eq_nil_of_le (by omega)).symm
theorem cutS_to (z:Str) (k:Nat):(cutS z none (some (k:Int))).cps.toList=z.cps.toList.take k:=by
  unfold cutS
  have hzl:z.length=z.cps.toList.length:=by simp [Str.length]
  simp only [HT.sIx_nat,HT.sIx_none,List.drop_zero,Nat.sub_zero]
  rcases Nat.le_total k z.length with h | h
  · rw [Nat.min_eq_left h]
  · rw [Nat.min_eq_right h,hzl,List.take_length]
    exact (List.take_of_length_le (by omega)).symm
theorem call_isinst {X:Cx}:CallR X (.builtin "isinstance") (fun vs H Q=>∃ x t T b,vs=[x,.ty T]∧TyOf X.K H x t∧PySem.W.kitOne X.K t (.type T)=some b∧Q (.bl b) H):=by
  intro pins s σ H xs us Q I r h
  obtain ⟨x,t,T,b,rfl,ty,e,q⟩:=h
  obtain ⟨u,v,rfl,ru,rv⟩:=vals2 r
  cases (show v=Value.type T from rv)
  exact isinst_ok I ru ty e fun tk=>⟨.bl b,H,I.tok tk,rfl,q⟩
end L2
namespace L2
open PySem PySem.Spec PyProof.Rows
theorem csc {X:Cx} {scope:Scope} {NL:List Str} {ix:List Nat} (esc:Scope) (N:List Str) (h1:X.env.scope=esc:=by rfl) (h2:X.N=N:=by rfl) (c1:scope.kind=.function:=by rfl)
    (c2:∀ y∈scope.names,y.2≠.cell:=by decide +kernel) (c3:∀ y∈scope.names,y.2=.local→scope.names.lookup y.1=some .local:=by decide +kernel)
    (c4:∀ y∈scope.names,y.2=.free→esc.names.lookup y.1=some .cell∨esc.names.lookup y.1=some .free:=by decide +kernel)
    (c5:∀ j∈ix,(N[j]?).bind (fun x=>scope.names.lookup x)=some .free:=by decide +kernel):CompScope X scope NL ix where
  kind:=c1
  cell:=c2
  names:=c3
  free:=fun y hy hf=>by
    have:=c4 y hy hf
    rw [← h1] at this
    exact this
  cap:=fun j hj=>by
    have:=c5 j hj
    rw [h2]
    cases e:N[j]? with
    | none=>rw [e] at this;cases this
    | some x=>rw [e] at this;exact ⟨x,rfl,this⟩
def Has (P:Program) (w:World) (K:PySem.W.Frag) (mg:Str→Option Value) (base:Heap) (x:Str) (k:Nat) (ps:List Str) (sp:Sp):Prop:=
  ∃ f fd,FnOk P w K mg base CX0 k f fd ps sp∧Binds K fd ps []∧PySem.W.keepIn K (.ref f)=true∧mg x=some (.ref f)
section
variable {P:Program} {w:World} {K:PySem.W.Frag} {mg:Str→Option Value} {base:Heap}
theorem Has.mono {x:Str} {j k:Nat} {ps:List Str} {sp:Sp} (G:Has P w K mg base x j ps sp) (h:j≤k):Has P w K mg base x k ps sp:=
  let ⟨f,fd,F,r⟩:=G;⟨f,fd,F.mono h,r⟩
def Df (K:PySem.W.Frag) (mg:Str→Option Value) (x:Str) (st:Stmt):Prop:=∃ f fd,Fun K x x st f fd∧mg x=some (.ref f)
theorem Df.has {x:Str} {st:Stmt} {N ps:List Str} {k:Nat} {sp:Sp} (D:Df K mg x st) (S:FnScope N ps (defScope st))
    (hb:∀ (kV doc pm:Value) (an:Option Addr) (cdv ct:Value) (us:List Value),us.length=ps.length→bindArgs (PySem.W.fnOf x x (defArgs st) (defBody st) (defScope st) .none kV doc pm an cdv ct) ⟨us,[]⟩=pure (ps.zip us))
    (len:∀ vs H Q E,sp vs H Q E→vs.length=ps.length)
    (hbody:∀ (f:Addr) (cdv:Value) (A:Around) (outer:List Env) (s:Shared) (H:Hp) (vs:List V) (Q:VK) (E:XK),Room k (A.deeper (envOfC x (defScope st) s.heap.objs.size f cdv))→sp vs H Q E →
      ∃ t,PSs (cxOf CX0 P w K mg base N x (defScope st) f cdv A outer s H E).nox (defBody st) t∧t { nx:=fun _ H'=>Q .non H',rt:=Q } (start N vs) H):Has P w K mg base x (k+1) ps sp:=by
  obtain ⟨f,fd,F,m⟩:=D
  exact ⟨f,fd,F.ok S len fun cdv A outer s H vs Q E hr h=>hbody f cdv A outer s H vs Q E hr h,F.binds hb,F.kp,m⟩
end
theorem pe_callH {X:Cx} {x:Str} {k:Nat} {ps:List Str} {sp:Sp} {p pos:Pos} {e:Expr} {es:List Expr} {t:TA} (G:Has X.prog X.w X.K X.mg X.base x k ps sp) (hr:Room k X.A) (hg:Gl X x) (ha:PA X (e :: es) t)
    (hdb:(x == ("__debug__" : Str))=false:=by decide) (he:starEach (e :: es) X.env=(false,eval e X.env) :: starEach es X.env:=by rfl) (hpl:(backTo pos (starEach es X.env)).any (·.1)=false:=by rfl) :
    PE X (.Call (.Name x p) (e :: es) [] pos) (tCall sp [] E0 t):=by
  obtain ⟨f,fd,F,b,kp,m⟩:=G
  exact pe_call F hr hg m kp b .nil pass0 ha hdb he hpl
structure Blt (mg:Str→Option Value):Prop where
  len:mg "len" = none
  range:mg "range" = none
  zip:mg "zip" = none
  enumerate:mg "enumerate" = none
  max:mg "max" = none
  min:mg "min" = none
  int_:mg "int" = none
  str_:mg "str" = none
  bool_:mg "bool" = none
  list_:mg "list" = none
  tuple_:mg "tuple" = none
  isinstance:mg "isinstance" = none
section
variable {p q:Addr} {H H1 H2:Hp} {o:HO}
end
theorem bt_len:bootBuiltins "len" = some (.builtin "len"):=by decide +kernel
theorem bt_max:bootBuiltins "max" = some (.builtin "max"):=by decide +kernel
theorem bt_min:bootBuiltins "min" = some (.builtin "min"):=by decide +kernel
theorem bt_sorted:bootBuiltins "sorted" = some (.builtin "sorted"):=by decide +kernel
theorem bt_isinstance:bootBuiltins "isinstance" = some (.builtin "isinstance"):=by decide +kernel
theorem bt_int:bootBuiltins "int" = some (.type "int"):=by decide +kernel
theorem bt_str:bootBuiltins "str" = some (.type "str"):=by decide +kernel
theorem bt_bool:bootBuiltins "bool" = some (.type "bool"):=by decide +kernel
theorem bt_list:bootBuiltins "list" = some (.type "list"):=by decide +kernel
theorem bt_tuple:bootBuiltins "tuple" = some (.type "tuple"):=by decide +kernel
theorem Same.new {H0 H:Hp} {q:Addr} {o:HO} (h:Same H0 H) (hq:H q=none):Same H0 (upd H q o):=fun b u e=>by
  have:=h b u e
  rw [upd_ne (ne_of_none this hq)];exact this
theorem Same.write {H0 H:Hp} {q:Addr} {o:HO} (h:Same H0 H) (hq:H0 q=none):Same H0 (upd H q o):=fun b u e=>by
  rw [upd_ne (ne_of_none e hq)];exact h b u e
theorem app_list (a y:Str):(a++y).cps.toList=a.cps.toList++y.cps.toList:=by
  show (a.cps++y.cps).toList=_
  simp
end L2
namespace L2
open PySem PySem.Spec PyProof.Rows
section
variable {X:Cx}
theorem mt_startswith:MtR X "str.startswith" (fun x vs H Q=>∃ z p,x=.str z∧vs=[.str p]∧Q (.bl (Txt.startswith z p)) H):=by
  intro pins s σ H x xs v us Q I rx rv h
  obtain ⟨z,p,rfl,rfl,q⟩:=h
  obtain ⟨t,rfl⟩:=rx
  obtain ⟨u,rfl,t',rfl⟩:=rv.one
  exact SC.startswith ⟨.bl _,H,I,rfl,q⟩
theorem pe_starts {o e:Expr} {to te:TE} {apos cpos:Pos} (ho:PE X o to) (he:PE X e te) (hbase:attributeBase o "startswith" X.env (eval o X.env)=eval o X.env:=by rfl)
    (h1:starEach [e] X.env=[(false,eval e X.env)]:=by rfl) (hl:(apos.endLine == cpos.line)=true:=by rfl) :
    PE X (.Call (.Attribute o "startswith" apos) [e] [] cpos) (tBM X.K "str" (fun x vs H Q=>∃ z p,x=.str z∧vs=[.str p]∧Q (.bl (Txt.startswith z p)) H) to (tCons te tNil)):=
  pe_bm PySem.F.plainAttrs_str PySem.F.slot_str_startswith PySem.F.type_str_startswith mt_startswith ho (pa_cons he pa_nil h1) hbase (by rw [h1];rfl) hl h1 (by rfl)
theorem pifs_startsK (K:PySem.W.Frag) {o e:Expr} {to te:TE} {apos cpos:Pos} (ho:PE X o to) (he:PE X e te) (hK:X.K=K:=by rfl) (hbase:attributeBase o "startswith" X.env (eval o X.env)=eval o X.env:=by rfl)
    (h1:starEach [e] X.env=[(false,eval e X.env)]:=by rfl) (hl:(apos.endLine == cpos.line)=true:=by rfl) :
    PIfs X [.Call (.Attribute o "startswith" apos) [e] [] cpos] (tB (tBM K "str" (fun x vs H Q=>∃ z p,x=.str z∧vs=[.str p]∧Q (.bl (Txt.startswith z p)) H) to (tCons te tNil))):=by
  subst hK
  exact pifs_one (pt_val (pe_starts ho he hbase h1 hl))
theorem pg_tupK (K:PySem.W.Frag) {es:List Expr} {k:Nat} {t:TGs} {n:Nat} {pos:Pos} (hc:X.calm=true) (h:PGs X es t) (hK:X.K=K:=by rfl) (hn:(assignEach es X.env).length=n:=by rfl)
    (hst:(assignEach es X.env).findIdx? (·.1)=none:=by rfl):PG X (.Tuple es k pos) (gTup K n t):=by
  subst hK
  exact pg_tup hc h hn hst
theorem strsAre_of:∀ {ys:List Str} {us:List Value},Vals (ys.map V.str) us→StrsAre us ys
  | [],[],_=>.nil
  | [],_ :: _,h=>nomatch h
  | _ :: _,[],h=>nomatch h
  | y :: r,u :: us,h=>by
    cases h with
    | cons a b=>
      obtain ⟨t,rfl⟩:=a
      exact .cons y t (strsAre_of b)
theorem mt_join:MtR X "str.join" (fun x vs H Q=>∃ z a ys,x=.str z∧vs=[.ref a]∧SqL X.K H a (ys.map V.str)∧(ys.map (·.length)).sum+ys.length * z.length≤16777216∧Q (.str (Txt.join z ys)) H):=by
  intro pins s σ H x xs v us Q I rx rv h
  obtain ⟨z,a,ys,rfl,rfl,hl,hok,q⟩:=h
  obtain ⟨t,rfl⟩:=rx
  obtain ⟨u,rfl,ru⟩:=rv.one
  cases (show u=Value.ref a from ru)
  obtain ⟨its,r,ht,hz⟩:=I.list hl
  exact join_list ht.isList (strsAre_of (by simpa using r)) hok fun t' k=>⟨.str _,H,I.tok k,⟨t',rfl⟩,q⟩
theorem op_mul_str:OpR X (binaryOp .Mult) (fun x y H Q=>∃ z n,x=.str z∧y=.int n∧MulOk z n∧Q (.str (Txt.mul z n)) H):=by
  intro pins s σ H x y v u Q I rx ry h
  obtain ⟨z,n,rfl,rfl,hok,q⟩:=h
  obtain ⟨t,rfl⟩:=rx
  obtain ⟨t',rfl⟩:=ry
  exact SB.mul hok fun t' k=>⟨.str _,H,I.tok k,⟨t',rfl⟩,q⟩
def eqAtJ (xs ys:List V) (j:Nat):Bool:=match xs[j]?,ys[j]? with
  | some x,some y=>eqV x y
  | _,_=>false
def eqVs (xs ys:List V):Bool:=xs.length == ys.length && (List.range xs.length).all (eqAtJ xs ys)
theorem flat_ints (ns:List Int):(ns.map V.int).all flatV=true:=by
  rw [List.all_eq_true];intro x hx;obtain ⟨n,_,rfl⟩:=List.mem_map.mp hx;rfl
theorem eqAt_items {A:Around} {s:Shared} {xs ys:List V} {us ws:List Value} (r1:Vals xs us) (r2:Vals ys ws) (f1:xs.all flatV=true) (f2:ys.all flatV=true) (j:Nat) (h1:j < us.toArray.size) (h2:j < ws.toArray.size) :
    SeqAt.EqAt A s us.toArray[j] ws.toArray[j] (eqAtJ xs ys j):=by
  have g1:j < xs.length:=by rw [r1.length];simpa using h1
  have g2:j < ys.length:=by rw [r2.length];simpa using h2
  obtain ⟨u,e1,q1⟩:=r1.get (List.getElem?_eq_getElem g1)
  obtain ⟨v,e2,q2⟩:=r2.get (List.getElem?_eq_getElem g2)
  have d1:us.toArray[j]=u:=by
    rw [List.getElem?_eq_getElem (by simpa using h1)] at e1
    simpa using Option.some.inj e1
  have d2:ws.toArray[j]=v:=by
    rw [List.getElem?_eq_getElem (by simpa using h2)] at e2
    simpa using Option.some.inj e2
  rw [d1,d2]
  unfold eqAtJ
  rw [List.getElem?_eq_getElem g1,List.getElem?_eq_getElem g2]
  exact eqAt_V q1 q2 (List.all_eq_true.mp f1 _ (List.getElem_mem g1)) (List.all_eq_true.mp f2 _ (List.getElem_mem g2))
theorem op_eq_lst (hu:X.A.units < cLine):OpR X (compareOp .Eq) (fun x y H Q=>∃ a b xs ys,x=.ref a∧y=.ref b∧SqL X.K H a xs∧SqL X.K H b ys∧xs.all flatV=true∧ys.all flatV=true∧Q (.bl (eqVs xs ys)) H):=by
  intro pins s σ H x y v u Q I rx ry h
  obtain ⟨a,b,xs,ys,rfl,rfl,h1,h2,f1,f2,q⟩:=h
  cases (show v=Value.ref a from rx)
  cases (show u=Value.ref b from ry)
  obtain ⟨us,r1,l1,_⟩:=I.list h1
  obtain ⟨ws,r2,l2,_⟩:=I.list h2
  have e1:=r1.length
  have e2:=r2.length
  by_cases hl:xs.length=ys.length
  · refine SeqAt.eq_listAt (e:=eqAtJ xs ys) l1.isList l2.isList (by simp;omega) hu (fun j g1 g2=>eqAt_items r1 r2 f1 f2 j g1 g2) ⟨.bl _,H,I,rfl,?_⟩
    have:eqVs xs ys=(List.range us.toArray.size).all (eqAtJ xs ys):=by
      unfold eqVs
      rw [List.size_toArray,← e1,beq_iff_eq.mpr hl,Bool.true_and]
    rw [← this];exact q
  · refine SeqAt.eq_list_lengthsAt l1.isList l2.isList (by simp;omega) hu ⟨.bl _,H,I,rfl,?_⟩
    have:eqVs xs ys=false:=by
      unfold eqVs
      have:(xs.length == ys.length)=false:=by simpa using hl
      rw [this];rfl
    rw [this] at q;exact q
theorem op_eq_tup (hu:X.A.units < cLine):OpR X (compareOp .Eq) (fun x y H Q=>∃ a b xs ys,x=.ref a∧y=.ref b∧SqT X.K H a xs∧SqT X.K H b ys∧xs.all flatV=true∧ys.all flatV=true∧Q (.bl (eqVs xs ys)) H):=by
  intro pins s σ H x y v u Q I rx ry h
  obtain ⟨a,b,xs,ys,rfl,rfl,h1,h2,f1,f2,q⟩:=h
  cases (show v=Value.ref a from rx)
  cases (show u=Value.ref b from ry)
  obtain ⟨us,r1,l1,_⟩:=I.tuple h1
  obtain ⟨ws,r2,l2,_⟩:=I.tuple h2
  have e1:=r1.length
  have e2:=r2.length
  refine SeqAt.eq_tupleAt (e:=eqAtJ xs ys) l1 l2 hu (fun j g1 g2=>eqAt_items r1 r2 f1 f2 j g1 g2) ⟨.bl _,H,I,rfl,?_⟩
  have:eqVs xs ys=((List.range (min us.toArray.size ws.toArray.size)).all (eqAtJ xs ys) && us.toArray.size == ws.toArray.size):=by
    unfold eqVs
    rw [List.size_toArray,List.size_toArray,← e1,← e2]
    by_cases hl:xs.length=ys.length
    · rw [← hl,Nat.min_self,Bool.and_comm]
    · have:(xs.length == ys.length)=false:=by simpa using hl
      rw [this,Bool.and_false];rfl
  rw [← this];exact q
end
section
variable {NL:List Str} {ix:List Nat} {g:TG} {tt:TT} {te:TE} {σ:St} {H1:Hp} {Qs:Hp→Prop} {acc:Addr}
theorem comp_lst {K:PySem.W.Frag} {a:Addr} {xs:List V} (hn:xs.length < 1000) (Pv:Nat→List V→Hp→Prop)
    (hl:∀ i ys H2,Pv i ys H2→SqL K H2 a xs) (hacc:∀ i ys H2,Pv i ys H2→H2 acc=some (.lst ys)∧ys.length≤i) (h0:Pv 0 [] (upd H1 acc (.lst []))) (hstop:∀ ys H2,Pv xs.length ys H2→Qs H2)
    (hturn:∀ i x ys H2,xs[i]?=some x→Pv i ys H2→g x (comp0 NL ix σ) H2 fun σ' H4=>σ'.drop NL.length=ix.map (fun j=>σ.getD j none)∧tt σ' H4 fun b H5=>
      if b=true then te σ' H5 fun v H6=>H6 acc=some (.lst ys)∧Pv (i+1) (ys++[v]) (upd H6 acc (.lst (ys++[v]))) else Pv (i+1) ys H5) :
    ∃ W:Nat→Nat→List V→Hp→Prop,(∃ m,W 0 m [] (upd H1 acc (.lst []))) ∧
    ∀ i m ys H2,W i m ys H2→H2 acc=some (.lst ys)∧ys.length < sizeLine ∧
      (((Itl K a).stop i H2∧Qs H2)∨((Itl K a).go i H2∧∃ N:List V→Hp→Prop,(∀ ys' H',N ys' H'→∃ m',m' < m∧W (i+1) m' ys' H') ∧
        ∀ x H3,(Itl K a).yld i H2 x H3→g x (comp0 NL ix σ) H3 fun σ' H4=>σ'.drop NL.length=ix.map (fun j=>σ.getD j none)∧tt σ' H4 fun b H5=>
          if b=true then te σ' H5 fun v H6=>H6 acc=some (.lst ys)∧N (ys++[v]) (upd H6 acc (.lst (ys++[v]))) else N ys H5)):=by
  refine comp_by xs.length hn Pv hacc h0 (fun ys H2 hp=>⟨⟨xs,hl _ _ _ hp,Nat.le_refl _⟩,hstop ys H2 hp⟩) fun i ys H2 hi hp=>?_
  have hs:=hl _ _ _ hp
  refine ⟨⟨xs,xs[i],hs,List.getElem?_eq_getElem hi⟩,?_⟩
  rintro x H3 ⟨rfl,hx⟩
  exact hturn i x ys H3 (hx xs hs) hp
theorem comp_enum {κ:SK} {xs:List V} (hn:xs.length < 1000) (Pv:Nat→List V→Hp→Prop)
    (hl:∀ i ys H2,Pv i ys H2→κ.has H2 xs) (hacc:∀ i ys H2,Pv i ys H2→H2 acc=some (.lst ys)∧ys.length≤i) (h0:Pv 0 [] (upd H1 acc (.lst []))) (hstop:∀ ys H2,Pv xs.length ys H2→Qs H2)
    (hturn:∀ (i:Nat) x ys H2 p,xs[i]?=some x→Pv i ys H2→H2 p=none→g (.ref p) (comp0 NL ix σ) (upd H2 p (.tup [.int i,x])) fun σ' H4=>σ'.drop NL.length=ix.map (fun j=>σ.getD j none)∧tt σ' H4 fun b H5=>
      if b=true then te σ' H5 fun v H6=>H6 acc=some (.lst ys)∧Pv (i+1) (ys++[v]) (upd H6 acc (.lst (ys++[v]))) else Pv (i+1) ys H5) :
    ∃ W:Nat→Nat→List V→Hp→Prop,(∃ m,W 0 m [] (upd H1 acc (.lst []))) ∧
    ∀ i m ys H2,W i m ys H2→H2 acc=some (.lst ys)∧ys.length < sizeLine ∧
      (((Ite κ).stop i H2∧Qs H2)∨((Ite κ).go i H2∧∃ N:List V→Hp→Prop,(∀ ys' H',N ys' H'→∃ m',m' < m∧W (i+1) m' ys' H') ∧
        ∀ x H3,(Ite κ).yld i H2 x H3→g x (comp0 NL ix σ) H3 fun σ' H4=>σ'.drop NL.length=ix.map (fun j=>σ.getD j none)∧tt σ' H4 fun b H5=>
          if b=true then te σ' H5 fun v H6=>H6 acc=some (.lst ys)∧N (ys++[v]) (upd H6 acc (.lst (ys++[v]))) else N ys H5)):=by
  refine comp_by xs.length hn Pv hacc h0 (fun ys H2 hp=>⟨⟨xs,hl _ _ _ hp,rfl⟩,hstop ys H2 hp⟩) fun i ys H2 hi hp=>?_
  have hs:=hl _ _ _ hp
  refine ⟨⟨xs,xs[i],hs,List.getElem?_eq_getElem hi⟩,?_⟩
  rintro x H3 ⟨p,x',rfl,hpn,rfl,hx⟩
  exact hturn i x' ys H2 p (hx xs hs) hp hpn
end
theorem kit_int_bool (K:PySem.W.Frag):PySem.W.kitOne K (.type "int") (.type "bool")=some false:=by rfl
theorem kit_same (K:PySem.W.Frag) (T:String):PySem.W.kitOne K (.type T) (.type T)=some true:=by
  unfold PySem.W.kitOne
  rw [if_pos (beq_self_eq_true _)]
theorem foldl_repN (xs:Array Nat):∀ (n:Nat) (acc:Array Nat),((List.replicate n xs).foldl (·++·) acc).size=acc.size+n * xs.size
  | 0,acc=>by simp
  | n+1,acc=>by
    rw [List.replicate_succ,List.foldl_cons,foldl_repN xs n,Array.size_append,Nat.succ_mul]
    omega
theorem mul_len {c:Nat} {n:Int} (h:0≤n):(Txt.mul ⟨#[c]⟩ n).cps.toList.length=n.toNat:=by
  unfold Txt.mul
  split
  · have:n.toNat=0:=by omega
    rw [this];rfl
  · split
    · rename_i h1 h2
      have h3:n=1:=by
        simp only [Bool.or_eq_true,beq_iff_eq] at h2
        rcases h2 with h2 | h2
        · exact h2
        · have h4:(⟨#[c]⟩:Str).length=1:=rfl
          omega
      subst h3;rfl
    · rw [Array.length_toList]
      show (List.foldl (·++·) #[] (List.replicate n.toNat #[c])).size=n.toNat
      rw [foldl_repN]
      simp
abbrev Deck (H:Hp) (p:Addr) (c:Int):Prop:=∃ x y z:Int,H p=some (.lst [.int x,.int y,.int z])∧0≤z∧z≤c
structure Kd (p:Addr) (c:Int) (H H':Hp):Prop where
  deck:Deck H' p c
  keep:∀ b o,b≠p→H b=some o→H' b=some o
section
variable {p q:Addr} {H H1 H2:Hp} {o:HO} {c d:Int}
theorem Deck.mono (h:Deck H p c) (e:c≤d):Deck H p d:=let ⟨x,y,z,a,b,f⟩:=h;⟨x,y,z,a,b,Int.le_trans f e⟩
theorem Kd.mono (h:Kd p c H H1) (e:c≤d):Kd p d H H1:=⟨h.deck.mono e,h.keep⟩
theorem Kd.refl (h:Deck H p c):Kd p c H H:=⟨h,fun _ _ _ e=>e⟩
theorem Kd.trans (a:Kd p c H H1) (b:Kd p d H1 H2):Kd p d H H2:=⟨b.deck,fun k u hc e=>b.keep k u hc (a.keep k u hc e)⟩
theorem Kd.new (a:Kd p c H H1) (hq:H1 q=none):Kd p c H (upd H1 q o):=by
  obtain ⟨⟨x,y,z,e,r⟩,k⟩:=a
  refine ⟨⟨x,y,z,by rw [upd_ne (ne_of_none e hq)];exact e,r⟩,fun b u hc h=>?_⟩
  have:=k b u hc h
  rw [upd_ne (ne_of_none this hq)];exact this
theorem Kd.write (a:Kd p c H H1) (hq:H q=none) (hp:q≠p):Kd p c H (upd H1 q o):=by
  obtain ⟨⟨x,y,z,e,r⟩,k⟩:=a
  refine ⟨⟨x,y,z,by rw [upd_ne (Ne.symm hp)];exact e,r⟩,fun b u hc h=>?_⟩
  rw [upd_ne (ne_of_none h hq)];exact k b u hc h
theorem Deck.ne (h:Deck H p c) (hq:H q=none):q≠p:=by
  obtain ⟨x,y,z,e,_⟩:=h
  exact Ne.symm (ne_of_none e hq)
theorem Kd.same (a:Kd p c H H1) (s:Same H1 H2):Kd p c H H2:=by
  obtain ⟨⟨x,y,z,e,r⟩,k⟩:=a
  exact ⟨⟨x,y,z,s _ _ e,r⟩,fun b u hc h=>s _ _ (k b u hc h)⟩
theorem Kd.fresh (a:Kd p c H H1) (hq:H1 q=none):H q=none:=by
  cases e:H q with
  | none=>rfl
  | some u=>
    have:=a.keep q u (a.deck.ne hq) e
    rw [hq] at this;cases this
theorem ne_deck {o:HO} (h:Deck H p c) (e:H q=some o) (ho:∀ x y z:Int,o≠.lst [.int x,.int y,.int z]):q≠p:=fun k=>by
  obtain ⟨x,y,z,hp,_⟩:=h
  subst k
  rw [hp] at e
  exact ho x y z (Option.some.inj e).symm
end
end L2
namespace L2
open PySem PySem.Spec PyProof.Rows
section
variable {X:Cx}
theorem op_ne_lst (hu:X.A.units < cLine):OpR X (compareOp .NotEq) (fun x y H Q=>∃ a b xs ys,x=.ref a∧y=.ref b∧SqL X.K H a xs∧SqL X.K H b ys∧xs.all flatV=true∧ys.all flatV=true∧Q (.bl (!eqVs xs ys)) H):=by
  intro pins s σ H x y v u Q I rx ry h
  obtain ⟨a,b,xs,ys,rfl,rfl,h1,h2,f1,f2,q⟩:=h
  cases (show v=Value.ref a from rx)
  cases (show u=Value.ref b from ry)
  obtain ⟨us,r1,l1,_⟩:=I.list h1
  obtain ⟨ws,r2,l2,_⟩:=I.list h2
  have e1:=r1.length
  have e2:=r2.length
  by_cases hl:xs.length=ys.length
  · refine SeqAt.RcNeAt.lists (e:=eqAtJ xs ys) l1.isList l2.isList (by simp;omega) hu (fun j g1 g2=>eqAt_items r1 r2 f1 f2 j g1 g2) _ _ _ _ ⟨.bl _,H,I,rfl,?_⟩
    have:eqVs xs ys=(List.range us.toArray.size).all (eqAtJ xs ys):=by
      unfold eqVs
      rw [List.size_toArray,← e1,beq_iff_eq.mpr hl,Bool.true_and]
    rw [← this];exact q
  · refine SeqAt.RcNeAt.lists_lengths l1.isList l2.isList (by simp;omega) hu _ _ _ _ ⟨.bl _,H,I,rfl,?_⟩
    have:eqVs xs ys=false:=by
      unfold eqVs
      have:(xs.length == ys.length)=false:=by simpa using hl
      rw [this];rfl
    rw [this] at q;exact q
end
end L2
namespace L2
open PySem PySem.Spec PyProof.Rows
section
variable {X:Cx}
theorem strsAre_get {vs:List Value} {ss:List Str} (h:StrsAre vs ss):Vals (ss.map V.str) vs:=by
  induction h with
  | nil=>exact .nil
  | cons y t _ ih=>exact .cons ⟨t,rfl⟩ ih
theorem call_sorted_strs:CallR X (.builtin "sorted") (fun vs H Q=>∃ (a:Addr) (ss:List Str),vs=[.ref a]∧SqL X.K H a (ss.map V.str)∧ss.length < 64 ∧
    ∀ (ss':List Str) (l:Addr),ss'.Perm ss→sortedS ss'=true→H l=none→Q (.ref l) (upd H l (.lst (ss'.map V.str)))):=by
  intro pins s σ H xs us Q I r h
  obtain ⟨a,ss,rfl,hl,h64,q⟩:=h
  obtain ⟨u,rfl,ru⟩:=vals1 r
  cases (show u=Value.ref a from ru)
  obtain ⟨its,rv,ht,hz⟩:=I.list hl
  have hlen:=rv.length
  rw [List.length_map] at hlen
  refine sorted_strs ht.isList (strsAre_of rv) (by omega) fun out ss' a1 a2 a3=>?_
  obtain ⟨e,he⟩:=sortedAll_at s.heap its out
  have l2:=a2.length_eq
  refine ⟨.ref (s.heap.objs.size+1),_,I.laid (t':=s.toks) (fun _ _=>sortedAll_old) (Nat.le_succ _) (show ObjOk X.prog X.w _ _ _ (.lst (ss'.map V.str)) from ⟨?_,out.toList,e,strsAre_get a1,he⟩),rfl,q ss' _ a2 a3 (I.hok.fresh (Nat.le_succ _))⟩
  rw [List.length_map]
  exact Nat.le_of_lt (small1000 (by omega))
theorem range_all (bs:List Bool):(List.range bs.length).all (fun i=>bs.getD i true)=bs.all id:=by
  rw [Bool.eq_iff_iff,List.all_eq_true,List.all_eq_true]
  constructor
  · intro h b hb
    obtain ⟨i,hi,rfl⟩:=List.getElem_of_mem hb
    have:=h i (List.mem_range.mpr hi)
    rw [List.getD_eq_getElem?_getD,List.getElem?_eq_getElem hi] at this
    exact this
  · intro h i hi
    have hi':=List.mem_range.mp hi
    rw [List.getD_eq_getElem?_getD,List.getElem?_eq_getElem hi']
    exact h _ (List.getElem_mem hi')
theorem call_all (hc:X.calm=true):CallR X (.builtin "all") (fun vs H Q=>∃ (a:Addr) (bs:List Bool),vs=[.ref a]∧SqL X.K H a (bs.map V.bl)∧Q (.bl (bs.all id)) H):=by
  intro pins s σ H xs us Q I r h
  obtain ⟨a,bs,rfl,hl,q⟩:=h
  obtain ⟨u,rfl,ru⟩:=vals1 r
  cases (show u=Value.ref a from ru)
  obtain ⟨its,rv,ht,hz⟩:=I.list hl
  have hlen:=rv.length
  rw [List.length_map] at hlen
  have hh:X.A.in1.handled=none:=I.ok.hd hc
  have hlt:a < s.heap.objs.size:=by obtain ⟨o,e,_⟩:=ht.isList;exact Heap.lt_size e
  refine call_all_walk (wpAny_pyIter_list ht.isList ⟨s.heap.objs.size,_,_,_,_,_,fun i=>bs.getD i true,rfl,Walks.list hh s.heap.objs.size a (Nat.ne_of_lt hlt) its.toArray,?_,?_,?_⟩)
  · exact ⟨⟨_,Heap.get?_push_size _ rfl,rfl,rfl⟩,Heap.IsList.push ht.isList _⟩
  · intro i v s' Q' E' hv hQ
    have hv':its[i]?=some v:=by simpa using hv
    have hi:i < (bs.map V.bl).length:=by rw [List.length_map,hlen];exact (List.getElem?_eq_some_iff.mp hv').1
    obtain ⟨u',e1,e2⟩:=rv.get (List.getElem?_eq_getElem hi)
    rw [hv'] at e1
    cases e1
    rw [List.getElem_map] at e2
    cases (show v=Value.bool _ from e2)
    refine wpAny_truthy_bool ?_
    have hb:bs.getD i true=bs[i]'(by simpa using hi):=by rw [List.getD_eq_getElem?_getD,List.getElem?_eq_getElem (by simpa using hi)];rfl
    rw [← hb]
    exact hQ
  · intro h' tk hk
    refine ⟨.bl (bs.all id),H,?_,?_,q⟩
    · exact I.kept (t':=tk) fun b o e=>hk b o (by simp;exact Nat.ne_of_lt (Heap.lt_size e)) (Heap.get?_push_of_some _ e)
    · show Value.bool _=Value.bool _
      rw [← range_all,hlen,List.size_toArray]
end
end L2
namespace L2
open PySem.W PyProof.Rows
section
variable {α β:Type} {n:Nat} {lt:Nat→Nat→Bool}
def okT (n:Nat) (lt:Nat→Nat→Bool):KasT α→(α→Prop)→Prop
  | .ret a,Q=>Q a
  | .ask i j k,Q=>i < n∧j < n∧okT n lt (k (lt i j)) Q
theorem okT_bind {f:α→KasT β} {Q:β→Prop}:∀ t:KasT α,okT n lt t (fun a=>okT n lt (f a) Q)→okT n lt (t.bind f) Q
  | .ret _,h=>h
  | .ask i j k,h=>⟨h.1,h.2.1,okT_bind (k (lt i j)) h.2.2⟩
structure TotB (n:Nat) (lt:Nat→Nat→Bool):Prop where
  asym:∀ i j,lt i j=true→lt j i=false
  tr:∀ i j k,lt j i=false→lt k j=false→lt k i=false
  tot:∀ i j,i < n→j < n→lt i j=false→lt j i=false→i=j
def PermN (n:Nat) (p:Array Nat):Prop:=p.toList.Perm (List.range n)
abbrev Rise (lt:Nat→Nat→Bool) (p:Array Nat) (m:Nat):Prop:=∀ i j,i < j→j < m→lt (p.getD j 0) (p.getD i 0)=false
abbrev Fall (lt:Nat→Nat→Bool) (p:Array Nat) (m:Nat):Prop:=∀ i j,i < j→j < m→lt (p.getD i 0) (p.getD j 0)=false
theorem PermN.sz {p:Array Nat} (h:PermN n p):p.size=n:=by
  have:=List.Perm.length_eq h
  simpa using this
theorem PermN.below {p:Array Nat} (h:PermN n p) (h0:0 < n) (k:Nat):p.getD k 0 < n:=by
  rw [Array.getD_eq_getD_getElem?]
  cases e:p[k]? with
  | none=>exact h0
  | some x=>
    have:x∈p.toList:=by
      have:=Array.mem_of_getElem? e
      exact Array.mem_toList_iff.mpr this
    exact List.mem_range.mp ((List.Perm.mem_iff h).mp this)
theorem PermN.inj {p:Array Nat} (h:PermN n p) {i j:Nat} (hi:i < n) (hj:j < n) (e:p.getD i 0=p.getD j 0):i=j:=by
  have nd:p.toList.Nodup:=(List.Perm.nodup_iff h).mpr List.nodup_range
  have s:=h.sz
  have hi':i < p.toList.length:=by rw [Array.length_toList,s];exact hi
  have hj':j < p.toList.length:=by rw [Array.length_toList,s];exact hj
  rw [Array.getD_eq_getD_getElem?,Array.getD_eq_getD_getElem?,Array.getElem?_eq_getElem (by omega),Array.getElem?_eq_getElem (by omega)] at e
  have e':p.toList[i]=p.toList[j]:=by simpa using e
  exact (List.getElem_inj nd).mp e'
theorem rev_at {p:Array Nat} {m:Nat} (hm:m≤p.size) (k:Nat):(kas_rev p 0 m).getD k 0=if k < m then p.getD (m - 1 - k) 0 else p.getD k 0:=by
  unfold kas_rev
  rw [Array.getD_eq_getD_getElem?,getElem?_mirror_all hm]
  by_cases h:k < m
  · rw [if_pos ⟨Nat.zero_le _,h⟩,if_pos h,Array.getD_eq_getD_getElem?,Nat.zero_add]
  · rw [if_neg (by omega),if_neg h,Array.getD_eq_getD_getElem?]
theorem rev_perm {p:Array Nat} {m:Nat} (h:PermN n p):PermN n (kas_rev p 0 m):=List.Perm.trans (Array.perm_iff_toList_perm.mp (mirror_perm p 0 m _)) h
theorem rev_rise {p:Array Nat} {m:Nat} (hm:m≤p.size) (h:Fall lt p m):Rise lt (kas_rev p 0 m) m:=fun i j hij hj=>by
  rw [rev_at hm,rev_at hm,if_pos hj,if_pos (by omega)]
  exact h _ _ (by omega) (by omega)
variable (o:TotB n lt)
include o
theorem asc_ok {p:Array Nat} (hp:PermN n p) {Q:Nat→Prop}:∀ f m,1≤m→m+f≤n→Rise lt p m→(∀ k,m≤k→k≤m+f→Rise lt p k→(k=m+f∨lt (p.getD k 0) (p.getD (k - 1) 0)=true)→Q k)→okT n lt (kas_asc p f m) Q
  | 0,m,h1,h2,hr,hq=>hq m (Nat.le_refl _) (Nat.le_refl _) hr (.inl rfl)
  | f+1,m,h1,h2,hr,hq=>by
    refine ⟨hp.below (by omega) _,hp.below (by omega) _,?_⟩
    cases e:lt (p.getD m 0) (p.getD (m - 1) 0) with
    | true=>exact hq m (Nat.le_refl _) (by omega) hr (.inr e)
    | false=>
      refine asc_ok hp f (m+1) (by omega) (by omega) (fun i j hij hj=>?_) fun k a b c d=>hq k (by omega) (by omega) c (by rcases d with d | d;exact .inl (by omega);exact .inr d)
      rcases Nat.lt_or_ge j m with q | q
      · exact hr i j hij q
      · have:j=m:=by omega
        subst this
        rcases Nat.lt_or_ge i (j - 1) with z | z
        · exact o.tr _ _ _ (hr i (j - 1) z (by omega)) e
        · have:i=j - 1:=by omega
          rw [this];exact e
theorem desc_ok {p:Array Nat} (hp:PermN n p) {Q:Array Nat × Nat × Nat→Prop}:∀ f m,1≤m→m+f≤n→Fall lt p m→(∀ k,m≤k→k≤m+f→Fall lt p k→Q (p,k,0))→okT n lt (kas_desc f p m 0) Q
  | 0,m,h1,h2,hr,hq=>hq m (Nat.le_refl _) (Nat.le_refl _) hr
  | f+1,m,h1,h2,hr,hq=>by
    refine ⟨hp.below (by omega) _,hp.below (by omega) _,?_⟩
    cases e:lt (p.getD m 0) (p.getD (m - 1) 0) with
    | true=>
      simp only [if_true,Nat.lt_irrefl,gt_iff_lt,if_false]
      refine desc_ok hp f (m+1) (by omega) (by omega) (fun i j hij hj=>?_) fun k a b c=>hq k (by omega) (by omega) c
      rcases Nat.lt_or_ge j m with q | q
      · exact hr i j hij q
      · have:j=m:=by omega
        subst this
        have e':=o.asym _ _ e
        rcases Nat.lt_or_ge i (j - 1) with z | z
        · exact o.tr _ _ _ e' (hr i (j - 1) z (by omega))
        · have:i=j - 1:=by omega
          rw [this];exact e'
    | false=>
      simp only [Bool.false_eq_true,if_false]
      refine ⟨hp.below (by omega) _,hp.below (by omega) _,?_⟩
      cases d:lt (p.getD (m - 1) 0) (p.getD m 0) with
      | true=>exact hq m (Nat.le_refl _) (by omega) hr
      | false=>
        have z:=hp.inj (by omega) (by omega) (o.tot _ _ (hp.below (by omega) _) (hp.below (by omega) _) d e)
        omega
theorem tail_ok {p:Array Nat} (hp:PermN n p) {Q:Nat × Array Nat→Prop} {m:Nat} (h1:1≤m) (h2:m≤n) (hf:Fall lt p m) (hq:∀ k p',1≤k→k≤n→PermN n p'→Rise lt p' k→Q (k,p')):okT n lt (kas_tail3 m n p) Q:=by
  have s:=hp.sz
  exact okT_bind _ (asc_ok o (rev_perm hp) (n - m) m h1 (by omega) (rev_rise (by omega) hf) fun k a b c _=>hq k _ (by omega) (by omega) (rev_perm hp) c)
theorem part_ok {p:Array Nat} (hp:PermN n p) {Q:Nat × Array Nat→Prop} {m:Nat} (h1:1≤m) (h2:m+1≤n) (hf:Fall lt p (m+1)) (hq:∀ k p',1≤k→k≤n→PermN n p'→Rise lt p' k→Q (k,p')):okT n lt (kas_descPart m n p) Q:=by
  refine okT_bind _ (desc_ok o hp (n - (m+1)) (m+1) (by omega) (by omega) hf fun k a b c=>?_)
  show okT n lt (if 0 > 0 then _ else kas_tail3 k n p) Q
  rw [if_neg (by omega)]
  exact tail_ok o hp (by omega) (by omega) c hq
theorem count_ok {p:Array Nat} (hp:PermN n p) {Q:Nat × Array Nat→Prop} (h1:1≤n) (hq:∀ k p',1≤k→k≤n→PermN n p'→Rise lt p' k→Q (k,p')):okT n lt (kas_count n p) Q:=by
  refine okT_bind _ (asc_ok o hp (n - 1) 1 (Nat.le_refl _) (by omega) (fun i j a b=>by omega) fun k a b c d=>?_)
  by_cases e:k=n
  · rw [if_pos (by rw [e];exact beq_self_eq_true _)]
    exact hq k p a (by omega) hp c
  · rw [if_neg (by simpa using e)]
    have dk:lt (p.getD k 0) (p.getD (k - 1) 0)=true:=by rcases d with d | d;exact absurd (by omega) e;exact d
    by_cases g:k > 1
    · rw [if_pos g]
      refine ⟨hp.below (by omega) _,hp.below (by omega) _,?_⟩
      cases f:lt (p.getD 0 0) (p.getD (k - 1) 0) with
      | true=>exact hq k p a (by omega) hp c
      | false=>
        have z:=hp.inj (by omega) (by omega) (o.tot _ _ (hp.below (by omega) _) (hp.below (by omega) _) f (c 0 (k - 1) (by omega) (by omega)))
        omega
    · rw [if_neg g]
      have hk:k=1:=by omega
      subst hk
      refine part_ok o hp (Nat.le_refl _) (by omega) (fun i j hij hj=>?_) hq
      have:i=0∧j=1:=by omega
      rw [this.1,this.2]
      exact o.asym _ _ dk
theorem place_ok {p:Array Nat} (hp:PermN n p) {k:Nat} (hk:k < n) (hr:Rise lt p k) {Q:Nat→Prop} (hq:∀ x,x≤k→(∀ i,i < x→lt (p.getD k 0) (p.getD i 0)=false)→(∀ i,x≤i→i < k→lt (p.getD k 0) (p.getD i 0)=true)→Q x) :
    ∀ f l r,l≤r→r≤k→r - l≤f→(∀ i,i < l→lt (p.getD k 0) (p.getD i 0)=false)→(∀ i,r≤i→i < k→lt (p.getD k 0) (p.getD i 0)=true)→okT n lt (kas_place p k f l r) Q
  | 0,l,r,h1,h2,h3,a,b=>hq l (by omega) a fun i x y=>b i (by omega) y
  | f+1,l,r,h1,h2,h3,a,b=>by
    unfold kas_place
    by_cases g:l ≥ r
    · rw [if_pos g]
      exact hq l (by omega) a fun i x y=>b i (by omega) y
    · rw [if_neg g]
      refine ⟨hp.below (by omega) _,hp.below (by omega) _,?_⟩
      cases e:lt (p.getD k 0) (p.getD ((l+r) / 2) 0) with
      | true=>
        show okT n lt (kas_place p k f l ((l+r) / 2)) Q
        refine place_ok hp hk hr hq f l ((l+r) / 2) (by omega) (by omega) (by omega) a fun i x y=>?_
        rcases Nat.lt_or_ge ((l+r) / 2) i with z | z
        · cases w:lt (p.getD k 0) (p.getD i 0) with
          | true=>rfl
          | false=>
            have:=o.tr _ _ _ (hr _ i z y) w
            rw [e] at this;cases this
        · have:i=(l+r) / 2:=by omega
          rw [this];exact e
      | false=>
        show okT n lt (kas_place p k f ((l+r) / 2+1) r) Q
        refine place_ok hp hk hr hq f ((l+r) / 2+1) r (by omega) h2 (by omega) (fun i x=>?_) b
        rcases Nat.lt_or_ge i ((l+r) / 2) with z | z
        · exact o.tr _ _ _ (hr i _ z (by omega)) e
        · have:i=(l+r) / 2:=by omega
          rw [this];exact e
theorem bin_ok {Q:Array Nat→Prop} (hq:∀ p,PermN n p→Rise lt p n→Q p):∀ f k (p:Array Nat),k+f=n→PermN n p→Rise lt p k→okT n lt (kas_bin f p k) Q
  | 0,k,p,hk,hp,hr=>by
    have:k=n:=by omega
    subst this
    exact hq p hp hr
  | f+1,k,p,hk,hp,hr=>by
    have s:=hp.sz
    refine okT_bind _ (place_ok o hp (by omega) hr (fun x hx lo hi=>?_) k 0 k (Nat.zero_le _) (Nat.le_refl _) (by omega) (fun i hi=>absurd hi (Nat.not_lt_zero _)) fun i a b=>absurd b (by omega))
    have e:k - (k - x)=x:=by omega
    have at':∀ y,(bubble p k (k - x)).getD y 0=if y=x then p.getD k 0 else if x < y∧y≤k then p.getD (y - 1) 0 else p.getD y 0:=fun y=>by
      rw [Array.getD_eq_getD_getElem?,getElem?_bubble (by omega) (k - x) (by omega) y,e]
      split
      · rw [Array.getD_eq_getD_getElem?]
      · split <;> rw [Array.getD_eq_getD_getElem?]
    refine bin_ok hq f (k+1) _ (by omega) (List.Perm.trans (Array.perm_iff_toList_perm.mp (bubble_perm p k _)) hp) fun i j hij hj=>?_
    rw [at',at']
    by_cases jx:j=x
    · rw [if_pos jx,if_neg (by omega),if_neg (by omega)]
      exact lo i (by omega)
    · rw [if_neg jx]
      by_cases ix:i=x
      · rw [if_pos ix,if_pos ⟨by omega,by omega⟩]
        exact o.asym _ _ (hi (j - 1) (by omega) (by omega))
      · rw [if_neg ix]
        by_cases jg:x < j∧j≤k
        · rw [if_pos jg]
          by_cases ig:x < i∧i≤k
          · rw [if_pos ig];exact hr _ _ (by omega) (by omega)
          · rw [if_neg ig];exact hr _ _ (by omega) (by omega)
        · rw [if_neg jg,if_neg (by omega)];exact hr _ _ hij (by omega)
theorem sort_ok (h1:1≤n):okT n lt (kas_sort n) fun p=>PermN n p∧Rise lt p n:=by
  refine okT_bind _ (count_ok o (by unfold PermN;simp) h1 fun k p a b hp hr=>?_)
  show okT n lt (if k < n then kas_bin (n - max k 1) p (max k 1) else .ret p) _
  by_cases g:k < n
  · rw [if_pos g]
    have e:max k 1=k:=by omega
    rw [e]
    exact bin_ok o (fun p hp hr=>⟨hp,hr⟩) (n - k) k p (by omega) hp hr
  · rw [if_neg g]
    have:k=n:=by omega
    subst this
    exact ⟨hp,hr⟩
end
open PySem PySem.Spec
theorem okT_wp {α:Type} {n:Nat} {lt:Nat→Nat→Bool} {cmp:Nat→Nat→(Bool→Shared→Prop)→Shared→Prop} {J:Shared→Prop} {Q:α→Prop} {G:α→Shared→Prop}
    (hc:∀ i j C s,i < n→j < n→J s→(∀ s',J s'→C (lt i j) s')→cmp i j C s) (hG:∀ a s',Q a→J s'→G a s'):∀ (t:KasT α) (s:Shared),J s→okT n lt t Q→t.kasWp cmp G s
  | .ret a,s,hi,h=>hG a s h hi
  | .ask i j k,s,hi,h=>hc i j _ s h.1 h.2.1 hi fun s' hi'=>okT_wp hc hG (k (lt i j)) s' hi' h.2.2
def shV:V→Nat
  | .int _=>1
  | .str _=>2
  | _=>0
def ltV:V→V→Bool
  | .int i,.int j=>decide (i < j)
  | .str a,.str b=>decide (a.cps.toList < b.cps.toList)
  | _,_=>false
def lexV:List V→List V→Bool
  | x :: xs,y :: ys=>if x=y then lexV xs ys else ltV x y
  | [],_ :: _=>true
  | _,_=>false
theorem str_eq {a b:Str} (h:a.cps.toList=b.cps.toList):a=b:=by
  obtain ⟨x⟩:=a;obtain ⟨y⟩:=b
  have:x=y:=Array.toList_inj.mp h
  rw [this]
theorem two_kinds {x y:V} (hs:shV x=shV y) (h0:shV x≠0):(∃ i j,x=.int i∧y=.int j)∨∃ a b,x=.str a∧y=.str b:=by
  cases x <;> cases y <;> simp [shV] at hs h0 ⊢
theorem ltV_asym {x y:V} (h:ltV x y=true):ltV y x=false:=by
  cases x <;> cases y <;> simp [ltV] at h ⊢
  · omega
  · exact List.not_lt.mp (List.lt_asymm h)
theorem ltV_tot {x y:V} (hs:shV x=shV y) (h0:shV x≠0) (h1:ltV x y=false) (h2:ltV y x=false):x=y:=by
  rcases two_kinds hs h0 with ⟨i,j,rfl,rfl⟩ | ⟨a,b,rfl,rfl⟩
  · have h1':¬ i < j:=of_decide_eq_false h1
    have h2':¬ j < i:=of_decide_eq_false h2
    rw [show i=j by omega]
  · have h1':¬ a.cps.toList < b.cps.toList:=of_decide_eq_false h1
    have h2':¬ b.cps.toList < a.cps.toList:=of_decide_eq_false h2
    rw [str_eq (List.le_antisymm (List.not_lt.mp h2') (List.not_lt.mp h1'))]
theorem ltV_tr {x y z:V} (hs:shV x=shV y) (ht:shV y=shV z) (h0:shV x≠0) (h1:ltV y x=false) (h2:ltV z y=false):ltV z x=false:=by
  rcases two_kinds hs h0 with ⟨i,j,rfl,rfl⟩ | ⟨a,b,rfl,rfl⟩
  · rcases two_kinds ht (by simp [shV]) with ⟨_,k,e,rfl⟩ | ⟨_,_,e,_⟩
    · have h1':¬ j < i:=of_decide_eq_false h1
      cases e
      have h2':¬ k < j:=of_decide_eq_false h2
      exact decide_eq_false (by omega)
    · cases e
  · rcases two_kinds ht (by simp [shV]) with ⟨_,_,e,_⟩ | ⟨_,c,e,rfl⟩
    · cases e
    · cases e
      have h1':¬ b.cps.toList < a.cps.toList:=of_decide_eq_false h1
      have h2':¬ c.cps.toList < b.cps.toList:=of_decide_eq_false h2
      exact decide_eq_false (List.not_lt.mpr (List.le_trans (List.not_lt.mp h1') (List.not_lt.mp h2')))
theorem lexV_asym:∀ (xs ys:List V),lexV xs ys=true→lexV ys xs=false
  | x :: xs,y :: ys,h=>by
    unfold lexV at h ⊢
    by_cases e:x=y
    · rw [if_pos e] at h;rw [if_pos e.symm];exact lexV_asym xs ys h
    · rw [if_neg e] at h;rw [if_neg (Ne.symm e)];exact ltV_asym h
  | [],_ :: _,_=>rfl
  | [],[],h=>by cases h
  | _ :: _,[],h=>by cases h
theorem lexV_tot:∀ (xs ys:List V),xs.map shV=ys.map shV→0 ∉ xs.map shV→lexV xs ys=false→lexV ys xs=false→xs=ys
  | x :: xs,y :: ys,hs,h0,h1,h2=>by
    simp only [List.map_cons,List.cons.injEq] at hs
    simp only [List.map_cons,List.mem_cons,not_or] at h0
    unfold lexV at h1 h2
    by_cases e:x=y
    · rw [if_pos e] at h1;rw [if_pos e.symm] at h2
      rw [e,lexV_tot xs ys hs.2 h0.2 h1 h2]
    · rw [if_neg e] at h1;rw [if_neg (Ne.symm e)] at h2
      exact absurd (ltV_tot hs.1 (Ne.symm h0.1) h1 h2) e
  | [],[],_,_,_,_=>rfl
  | [],_ :: _,hs,_,_,_=>by cases hs
  | _ :: _,[],hs,_,_,_=>by cases hs
theorem lexV_tr:∀ (xs ys zs:List V),xs.map shV=ys.map shV→ys.map shV=zs.map shV→0 ∉ xs.map shV→lexV ys xs=false→lexV zs ys=false→lexV zs xs=false
  | x :: xs,y :: ys,z :: zs,hs,ht,h0,h1,h2=>by
    simp only [List.map_cons,List.cons.injEq] at hs ht
    simp only [List.map_cons,List.mem_cons,not_or] at h0
    unfold lexV at h1 h2 ⊢
    by_cases e:y=x
    · rw [if_pos e] at h1
      by_cases f:z=y
      · rw [if_pos f] at h2;rw [if_pos (f.trans e)];exact lexV_tr xs ys zs hs.2 ht.2 h0.2 h1 h2
      · rw [if_neg f] at h2;rw [if_neg (fun q=>f (q.trans e.symm)),← e];exact h2
    · rw [if_neg e] at h1
      by_cases f:z=y
      · rw [if_pos f] at h2;rw [if_neg (fun q=>e (f.symm.trans q)),f];exact h1
      · rw [if_neg f] at h2
        by_cases g:z=x
        · exact absurd (ltV_tot hs.1.symm (by rw [← hs.1];exact Ne.symm h0.1) h1 (by rw [← g];exact h2)) e
        · rw [if_neg g];exact ltV_tr hs.1 ht.1 (Ne.symm h0.1) h1 h2
  | [],[],[],_,_,_,_,_=>rfl
  | [],_ :: _,_,hs,_,_,_,_=>by cases hs
  | _ :: _,[],_,hs,_,_,_,_=>by cases hs
  | [],[],_ :: _,_,ht,_,_,_=>by cases ht
  | _ :: _,_ :: _,[],_,ht,_,_,_=>by cases ht
structure Keys (n:Nat) (K:Nat→List V) (sh:List Nat):Prop where
  shp:∀ i,(K i).map shV=sh
  ne:sh≠[]
  z:0 ∉ sh
  inj:∀ i j,i < n→j < n→K i=K j→i=j
theorem Keys.tot {n:Nat} {K:Nat→List V} {sh:List Nat} (k:Keys n K sh):TotB n (fun i j=>lexV (K i) (K j)) where
  asym:=fun i j h=>lexV_asym _ _ h
  tr:=fun i j l h1 h2=>lexV_tr _ _ _ ((k.shp i).trans (k.shp j).symm) ((k.shp j).trans (k.shp l).symm) (by rw [k.shp];exact k.z) h1 h2
  tot:=fun i j hi hj h1 h2=>k.inj i j hi hj (lexV_tot _ _ ((k.shp i).trans (k.shp j).symm) (by rw [k.shp];exact k.z) h1 h2)
section
variable {prog:Program} {w:World} {A:Around} {E:Value→Shared→Prop} {s:Shared} {Q:Bool→Shared→Prop}
theorem eq_VB {x y:V} {u v:Value} (hx:RelV x u) (hy:RelV y v) (hs:shV x=shV y) (h0:shV x≠0) (h:Q (decide (x=y)) s):wpAny (model prog w) A (eqBool u v) Q E s:=by
  rcases two_kinds hs h0 with ⟨i,j,rfl,rfl⟩ | ⟨a,b,rfl,rfl⟩
  · obtain ⟨t,rfl⟩:=hx
    obtain ⟨t',rfl⟩:=hy
    refine wpAny_eqBool_int ?_
    have e:(i == j)=decide (V.int i=V.int j):=by by_cases q:i=j <;> simp [q]
    rw [e];exact h
  · obtain ⟨t,rfl⟩:=hx
    obtain ⟨t',rfl⟩:=hy
    refine wpAny_eqBool_str ?_
    have e:decide (a=b)=decide (V.str a=V.str b):=by by_cases q:a=b <;> simp [q]
    rw [e];exact h
theorem lt_VB (flag:Bool) {x y:V} {u v:Value} (hx:RelV x u) (hy:RelV y v) (hs:shV x=shV y) (h0:shV x≠0) (h:Q (ltV x y) s):wpAny (model prog w) A (oneLt' flag u v) Q E s:=by
  rcases two_kinds hs h0 with ⟨i,j,rfl,rfl⟩ | ⟨a,b,rfl,rfl⟩
  · obtain ⟨t,rfl⟩:=hx
    obtain ⟨t',rfl⟩:=hy
    cases flag
    · exact kat_one _ _ (PyProof.Rows.lt_int h)
    · exact oneLt_int h
  · obtain ⟨t,rfl⟩:=hx
    obtain ⟨t',rfl⟩:=hy
    cases flag
    · exact kat_one _ _ (PyProof.Rows.lt_str h)
    · exact oneLt_str h
theorem lex_kat:∀ {xs ys:List V} {us ws:List Value} (i:Nat),Vals xs us→Vals ys ws→xs.map shV=ys.map shV→0 ∉ xs.map shV→Q (lexV xs ys) s→KatLex prog w A true false Q (us.zip ws) i s
  | [],[],_,_,i,.nil,.nil,_,_,h=>kat_nil h
  | x :: xs,y :: ys,_,_,i,.cons (b:=u) r1 t1,.cons (b:=v) r2 t2,hs,h0,h=>by
    simp only [List.map_cons,List.cons.injEq] at hs
    simp only [List.map_cons,List.mem_cons,not_or] at h0
    rw [List.zip_cons_cons]
    refine kat_cons (eq_VB r1 r2 hs.1 (Ne.symm h0.1) ?_)
    unfold lexV at h
    by_cases e:x=y
    · rw [if_pos e] at h
      rw [decide_eq_true e]
      exact kat_yes (lex_kat (i+1) t1 t2 hs.2 h0.2 h)
    · rw [if_neg e] at h
      rw [decide_eq_false e]
      exact kat_no (lt_VB _ r1 r2 hs.1 (Ne.symm h0.1) h)
  | [],_ :: _,_,_,_,_,_,hs,_,_=>by cases hs
  | _ :: _,[],_,_,_,_,_,hs,_,_=>by cases hs
def KeysOn (h:Heap) (ks:List Value) (K:Nat→List V):Prop:=∀ (i:Nat) (v:Value),ks[i]?=some v→∃ a its,v=.ref a∧IsTup h a its.toArray∧Vals (K i) its
theorem KeysOn.keeps {h h':Heap} {ks:List Value} {K:Nat→List V} (x:KeysOn h ks K) (k:∀ b o,o.cls=.type "tuple" → h.get? b=some o→h'.get? b=some o):KeysOn h' ks K:=fun i v hv=>by
  obtain ⟨a,its,rfl,⟨o,ho,hc,r⟩,q⟩:=x i v hv
  exact ⟨a,its,rfl,⟨o,k _ _ hc ho,hc,r⟩,q⟩
theorem katTups_of {h:Heap}:∀ (ks:List Value) (K:Nat→List V),KeysOn h ks K→(∀ i,K i≠[])→∃ fs,KatTups h ks fs∧fs.length=ks.length∧∀ f∈fs,∃ i x r,K i=x :: r∧RelV x f
  | [],K,_,_=>⟨[],.nil,rfl,fun _ h=>nomatch h⟩
  | v :: ks,K,hk,ne=>by
    obtain ⟨a,its,rfl,⟨o,ho,hc,n,hd⟩,r⟩:=hk 0 v rfl
    obtain ⟨fs,t,l,q⟩:=katTups_of ks (fun i=>K (i+1)) (fun i v hv=>hk (i+1) v (by simpa using hv)) fun i=>ne (i+1)
    cases e:K 0 with
    | nil=>exact absurd e (ne 0)
    | cons x rr=>
      rw [e] at r
      cases r with
      | cons rx rt=>
        refine ⟨_ :: fs,.cons ho hc hd rfl t,by simp [l],fun f hf=>?_⟩
        rcases List.mem_cons.mp hf with rfl | hf
        · exact ⟨0,x,rr,e,rx⟩
        · obtain ⟨i,x,r,h1,h2⟩:=q f hf
          exact ⟨i+1,x,r,h1,h2⟩
theorem looks_ty {M:Model} {h:Heap} {x:V} {u:Value} (r:RelV x u) (h0:shV x≠0):Looks M h (typeOf u) (.type (if shV x=1 then "int" else "str")):=by
  rcases two_kinds (rfl:shV x=shV x) h0 with ⟨i,_,rfl,_⟩ | ⟨a,_,rfl,_⟩
  · obtain ⟨t,rfl⟩:=r;exact Looks.now
  · obtain ⟨t,rfl⟩:=r;exact Looks.now
variable {n:Nat} {K:Nat→List V} {sh:List Nat} {ks:List Value}
theorem keys_kind {Q:SortKind→Shared→Prop} (k:Keys n K sh) (hk:KeysOn s.heap ks K) (h1:0 < ks.length) (h:Q (tuples' true) s):wpAny (model prog w) A (keyKind' ks.toArray) Q E s:=by
  have ne:∀ i,K i≠[]:=fun i e=>k.ne (by rw [← k.shp i,e];rfl)
  obtain ⟨fs,t,l,q⟩:=katTups_of ks K hk ne
  obtain ⟨d,dr,hd⟩:∃ d dr,sh=d :: dr:=by
    cases e:sh with
    | nil=>exact absurd e k.ne
    | cons d dr=>exact ⟨d,dr,rfl⟩
  refine kat_kind (T:=.type (if d=1 then "int" else "str")) t (by omega) (fun v hv=>?_) (by split <;> rfl) (by split <;> exact h)
  obtain ⟨i,x,r,e,rx⟩:=q v hv
  have e2:=k.shp i
  rw [e,hd,List.map_cons] at e2
  have e3:shV x=d:=(List.cons.inj e2).1
  rw [← e3]
  exact looks_ty rx (fun z=>k.z (by rw [hd,← e3,z];exact List.mem_cons_self))
theorem keys_run {G:Array Nat→Shared→Prop} (k:Keys n K sh) (hk:KeysOn s.heap ks K) (hl:ks.length=n) (h1:1≤n) (h:∀ p,PermN n p→Rise (fun i j=>lexV (K i) (K j)) p n→G p s) :
    (kas_sort n).kasWp (kas_ask prog w A (tuples' true) ks) G s:=by
  refine okT_wp (n:=n) (lt:=fun i j=>lexV (K i) (K j)) (J:=fun s'=>s'=s) (Q:=fun p=>PermN n p∧Rise (fun i j=>lexV (K i) (K j)) p n) (fun i j C s' hi hj es hC=>?_) (fun p s' hp es=>?_) _ s rfl (sort_ok k.tot h1)
  · subst es
    have gi:ks[i]?=some ks[i]:=List.getElem?_eq_getElem (by omega)
    have gj:ks[j]?=some ks[j]:=List.getElem?_eq_getElem (by omega)
    obtain ⟨a,xs,ea,⟨o,ho,_,m,hd⟩,r1⟩:=hk i _ gi
    obtain ⟨b,ys,eb,⟨o',ho',_,m',hd'⟩,r2⟩:=hk j _ gj
    unfold kas_ask
    rw [List.getD_eq_getElem?_getD,List.getD_eq_getElem?_getD,gi,gj,Option.getD_some,Option.getD_some,ea,eb]
    have l1:=r1.length
    have l2:=r2.length
    have l3:(K i).length=(K j).length:=by
      have:=congrArg List.length ((k.shp i).trans (k.shp j).symm)
      simpa using this
    have ef:decide (xs.toArray.size < ys.toArray.size)=false:=by
      rw [List.size_toArray,List.size_toArray];exact decide_eq_false (by omega)
    refine kat_lt ho hd ho' hd' ?_
    rw [ef]
    exact lex_kat 0 r1 r2 ((k.shp i).trans (k.shp j).symm) (by rw [k.shp];exact k.z) (hC _ rfl)
  · subst es
    exact h p hp.1 hp.2
end
end L2
namespace L2
open PySem PySem.Spec PyProof.Rows PySem.W
theorem vals_refs:∀ {as:List Addr} {its:List Value},Vals (as.map V.ref) its→its=as.map Value.ref
  | [],_,.nil=>rfl
  | a :: as,_,.cons r t=>by
    cases (show _=Value.ref a from r)
    rw [vals_refs t];rfl
section
variable {prog:Program} {w:World} {A:Around} {E:Value→Shared→Prop} {s:Shared} {K:Nat→List V} {sh:List Nat} {vs:List Value}
abbrev outOf (vs:List Value) (p:Array Nat):List Value:=p.toList.map fun i=>vs.getD i Value.none
theorem few_out {xs:Array Value} (hl:xs.size=vs.length) (h2:vs.length < 2):(xs.zip vs.toArray).map (·.2)=(outOf vs (List.range vs.length).toArray).toArray:=by
  apply Array.toList_inj.mp
  match vs,h2 with
  | [],_=>
    have:xs=#[]:=Array.eq_empty_of_size_eq_zero (by simpa using hl)
    subst this;simp [outOf]
  | [v],_=>
    obtain ⟨x,rfl⟩:∃ x,xs=#[x]:=Array.size_eq_one_iff.mp (by simpa using hl)
    simp [outOf]
theorem range_perm (n:Nat):PermN n (List.range n).toArray:=by unfold PermN;simp
end
theorem rise_list {n:Nat} {lt:Nat→Nat→Bool} {p:Array Nat} (h:Rise lt p n):∀ i j,i < j→j < n→lt (p.toList.getD j 0) (p.toList.getD i 0)=false:=fun i j a b=>by
  have:=h i j a b
  rw [Array.getD_eq_getD_getElem?,Array.getD_eq_getD_getElem?] at this
  rw [List.getD_eq_getElem?_getD,List.getD_eq_getElem?_getD,Array.getElem?_toList,Array.getElem?_toList];exact this
section
variable {X:Cx}
end
end L2
namespace L2
open PySem PySem.Spec PyProof.Rows PySem.W
section
variable {X:Cx} {pins:List (Addr × Obj)} {σ:St} {H:Hp} {s:Shared}
theorem Inv.adopt {D:Addr} {o:HO} {h':Heap} {t':Nat} {oD:Obj} (I:Inv X pins σ H s) (f:FpOk X pins H D) (k:∀ b u,b≠D→s.heap.get? b=some u→h'.get? b=some u) (new:ObjOk X.prog X.w (upd H D o) h' D o) (hD:s.heap.get? D=some oD) :
    Inv X pins σ (upd H D o) { s with heap:=h',toks:=t' }:=by
  have nD:∀ b u,H b=some u→b≠D:=fun b u e=>ne_of_none e f.1
  refine I.step (g':=s.gens) (d':=s.drawn) (ch:=[D]) (fun b hb=>?_) (fun b u _ _ hc e _=>k b u (fun z=>hc (by simp [z])) e) (fun b u _ _ hc e _=>⟨u.slots,k b u (fun z=>hc (by simp [z])) e⟩)
    (fun b u hc e n=>by rw [upd_ne (fun z=>hc (by simp [z]))];exact n) (fun b u hc e=>⟨u,k b u (fun z=>hc (by simp [z])) e⟩)
    (fun b xs e=>by rw [upd_ne (nD b _ e)];exact e) (fun b ob u e=>by rw [upd_ne (nD b _ e)];exact e) (fun b ps e=>⟨#[],by rw [upd_ne (nD b _ e),e];simp⟩) (fun m hm=>?_) (fun b u e=>?_) I.bare
  · have e:b=D:=by simpa using hb
    subst e
    exact ⟨f.2.2.2.1,f.2.1,f.2.2.2.2.1,f.2.2.2.2.2⟩
  · obtain ⟨ob,es,ep,ho,r⟩:=hm
    exact ⟨ob,es,ep,k _ ob (Ne.symm f.2.1) ho,r⟩
  · by_cases hb:b=D
    · subst hb;rw [upd_same] at e;cases e;exact new
    · rw [upd_ne hb] at e
      refine (I.hok b u e).stay (fun c v hc q=>k c v ?_ q) (fun c q=>by rw [upd_ne (nD c _ q)];exact q) fun c xs q=>by rw [upd_ne (nD c _ q)];exact q
      rcases hc with z | z
      · rw [z];exact hb
      · exact nD c _ z
def KeyFn (X:Cx) (A1:Around) (pins0:List (Addr × Obj)) (σ:St) (H0:Hp) (fv:Value) (vs:List Value) (K:Nat→List V):Prop:=
  ∀ (i:Nat) (v:Value) (pins:List (Addr × Obj)) (H:Hp) (s:Shared),vs[i]?=some v→(∀ p∈pins0,p∈pins)→Inv X pins σ H s→Same H0 H →
    wpAny (model X.prog X.w) A1 (call fv [v]) (EP X pins σ fun k H'=>∃ a,k=.ref a∧H' a=some (.tup (K i))∧Same H H') (fun _ _=>False) s
theorem keysOn_of {as:List Addr} {K:Nat→List V} (I:Inv X pins σ H s) (h:∀ j a,as[j]?=some a→H a=some (.tup (K j))):KeysOn s.heap (as.map Value.ref) K:=fun i v hv=>by
  rw [List.getElem?_map] at hv
  cases e:as[i]? with
  | none=>rw [e] at hv;cases hv
  | some b=>
    rw [e] at hv
    cases hv
    obtain ⟨_,ys,ry,t⟩:=I.hok b _ (h i b e)
    exact ⟨b,ys,rfl,t,ry⟩
theorem key_sort {A1:Around} {E:Value→Shared→Prop} {D fa:Addr} {c0:Nat} {vs:List Value} {vV:List V} {K:Nat→List V} {sh:List Nat} {P:PySem.Fin→Shared→Prop} (I:Inv X pins σ H s) (hD:s.heap.get? D=some (seqObj "list" vs.toArray c0)) (fD:FpOk X pins H D)
    (rv:Vals vV vs) (h64:vs.length < 64) (k:Keys vs.length K sh) (F:KeyFn X A1 pins σ H (.ref fa) vs K)
    (h:∀ (p:Array Nat) (H':Hp) (s':Shared) (c:Nat),PermN vs.length p→Rise (fun i j=>lexV (K i) (K j)) p vs.length→Same H H'→H' D=none→Inv X pins σ (upd H' D (.lst (p.toList.map fun i=>vV.getD i .non))) s'→P (.done (.ret .none)) s') :
    wpAny (model X.prog X.w) A1 (ksk_tree D (.ref fa) false) P E s:=by
  have lv:=rv.length
  unfold ksk_tree
  refine wpAny_bind (listItems_at (a:=D) hD rfl ?_)
  refine wpAny_bind (listUpdate_at (a:=D) hD rfl ?_ (by rw [List.size_toArray,sizeLine_eq];omega) (Nat.zero_le _))
  obtain ⟨e1,hD1⟩:∃ e1,(s.heap.update D (Obj.mapSeq fun _=>#[])).get? D=some (seqObj "list" #[] e1):=⟨_,get?_update_seq hD (fun _=>#[])⟩
  have I1:Inv X pins σ H { s with heap:=s.heap.update D (Obj.mapSeq fun _=>#[]),toks:=s.toks }:=I.turned (t':=s.toks) (fun b o hb e=>(Heap.get?_update_ne _ _ _ _ hb).trans e) fD.1 fD.2.1 fD.2.2.2.1 fD.2.2.2.2.1 fD.2.2.2.2.2
  refine wpAny_bind (seqEpoch_at (a:=D) hD1 rfl ?_)
  refine wpAny_bind (wpAny_newTuple ?_ (by show vs.length≤_;rw [sizeLine_eq];omega))
  have I2:Inv X pins σ H { s with heap:=(s.heap.update D (Obj.mapSeq fun _=>#[])).push (seqObj "tuple" vs.toArray 0),toks:=s.toks }:=I1.kept (t':=s.toks) fun b o e=>Heap.get?_push_of_some _ e
  have hD2:((s.heap.update D (Obj.mapSeq fun _=>#[])).push (seqObj "tuple" vs.toArray 0)).get? D=some (seqObj "list" #[] e1):=Heap.get?_push_of_some _ hD1
  generalize hg2:(s.heap.update D (Obj.mapSeq fun _=>#[])).push (seqObj "tuple" vs.toArray 0)=g2 at I2 hD2
  have e2:((s.heap.update D (Obj.mapSeq fun _=>(#[]:Array Value))).push { cls:=.type "tuple", data:=.seq vs.toArray })=g2:=hg2
  refine wpAny_bind (wpAny_newList ?_ (Nat.zero_le _))
  refine wpAny_holding ?_
  have fk:H g2.objs.size=none:=I2.hok.fresh (Nat.le_refl _)
  have I3:Inv X pins σ (upd H g2.objs.size (.lst [])) { s with heap:=g2.push { cls:=.type "list", data:=.seq ([]:List Value).toArray },toks:=s.toks }:=I2.lnew (its:=[]) (t':=s.toks) .nil (Nat.zero_le _)
  have hD3:(g2.push { cls:=.type "list", data:=.seq ([]:List Value).toArray }).get? D=some (seqObj "list" #[] e1):=Heap.get?_push_of_some _ hD2
  have kD:g2.objs.size≠D:=Nat.ne_of_gt (Heap.lt_size hD2)
  simp only [e2]
  generalize hkS:g2.objs.size=kS at I3 fk kD ⊢
  have fD3:FpOk X pins (upd H kS (.lst [])) D:=⟨by rw [upd_ne (Ne.symm kD)];exact fD.1,fD.2⟩
  have I4:Inv X (pins++[(D,seqObj "list" #[] e1)]) σ (upd H kS (.lst [])) { s with heap:=g2.push { cls:=.type "list", data:=.seq ([]:List Value).toArray },toks:=s.toks }:=I3.pins_of fun p hp=>by
    rcases List.mem_append.mp hp with q | q
    · exact I3.pin p (List.mem_append_right _ q)
    · obtain rfl:p=(D,seqObj "list" #[] e1):=by simpa using q
      exact ⟨hD3,fD3.1,fD3.2.1,fD3.2.2.1,fun v z=>by cases z⟩
  generalize ({ s with heap:=g2.push { cls:=.type "list", data:=.seq ([]:List Value).toArray },toks:=s.toks }:Shared)=s4 at I4 ⊢
  unfold ksk_rest
  refine wpAny_bind (wpAny_rule ?_)
  rw [List.forIn_toArray]
  refine wpAny_bind (ksk_fold (fun i s'=>∃ (H':Hp) (as:List Addr),Inv X (pins++[(D,seqObj "list" #[] e1)]) σ H' s'∧Same H H'∧H' kS=some (.lst (as.map V.ref))∧as.length=i∧∀ j a,as[j]?=some a→H' a=some (.tup (K j))) vs 0 s4
    ⟨_,[],I4,(Same.refl H).new fk,upd_same,rfl,fun j a e=>by simp at e⟩ (fun j x s' hx hJ=>?_) fun s' hJ=>?_)
  · obtain ⟨H',as,I',S',hk',hl',ht'⟩:=hJ
    rw [Nat.zero_add] at hl' ⊢
    refine wpAny_bind (wpAny_attempt (wpAny_mono (F j x _ H' s' hx (fun p hp=>List.mem_append_left _ hp) I' S') (fun u s'' hu=>?_) fun _ _ z=>z.elim))
    obtain ⟨v,H'',I'',ru,a,rfl,ha,S''⟩:=hu
    cases (show u=Value.ref a from ru)
    have hk'':=S'' _ _ hk'
    obtain ⟨z,its,m,r,hl,e⟩:=I''.lstM hk''
    have jl:j < vs.length:=(List.getElem?_eq_some_iff.mp hx).1
    have il:its.length=j:=by rw [← hl,List.length_map,hl']
    dsimp only
    refine wpAny_bind (listUpdate_at (a:=kS) e rfl ?_ (by rw [List.size_toArray,sizeLine_eq];omega) (by rw [Array.size_push,List.size_toArray,sizeLine_eq];omega))
    refine wpAny_pure ⟨rfl,_,as++[a],I''.lset (ys:=as.map V.ref++[V.ref a]) (its':=its++[.ref a]) (t':=s''.toks) hk'' e (by simp) (r.append (.cons (show RelV (V.ref a) (Value.ref a) from rfl) .nil)) (by rw [List.length_append,List.length_map,List.length_singleton,sizeLine_eq];omega),(S'.trans S'').write fk,by rw [upd_same,List.map_append];rfl,by simp [hl'],fun i b hb=>?_⟩
    rcases Nat.lt_or_ge i as.length with q | q
    · rw [List.getElem?_append_left q] at hb
      have:=S'' _ _ (ht' i b hb)
      rw [upd_ne (ne_of this hk'' (by intro z;cases z))];exact this
    · rw [List.getElem?_append_right q] at hb
      have q0:i - as.length=0:=by
        rcases Nat.eq_zero_or_pos (i - as.length) with z | z
        · exact z
        · rw [List.getElem?_eq_none (by simp;omega)] at hb;cases hb
      rw [q0] at hb
      have eb:a=b:=by simpa using hb
      subst eb
      have ei:i=j:=by omega
      subst ei
      rw [upd_ne (ne_of ha hk'' (by intro z;cases z))];exact ha
  · obtain ⟨H',as,I',S',hk',hl',ht'⟩:=hJ
    rw [Nat.zero_add] at hl'
    obtain ⟨z,its,m,r,hl,e⟩:=I'.lstM hk'
    have ei:=vals_refs r
    subst ei
    have lm:(as.map Value.ref).length=vs.length:=by rw [List.length_map,hl']
    refine wpAny_bind (listItems_at (a:=kS) e rfl ?_)
    have hks:KeysOn s'.heap (as.map Value.ref) K:=keysOn_of I' ht'
    have fin:∀ (st:SortSt) (p:Array Nat),PermN vs.length p→Rise (fun i j=>lexV (K i) (K j)) p vs.length→(arrOf st).map (·.2)=(outOf vs p).toArray→failedOf st=none→wpAny (model X.prog X.w) A1 (ksk_tail D false e1 (.ref kS) st) P E s':=fun st p hp hr ho hf=>by
      have pD:s'.heap.get? D=some (seqObj "list" #[] e1):=(I'.pin (D,seqObj "list" #[] e1) (List.mem_append_right _ (List.mem_append_right _ List.mem_cons_self))).1
      have nD:H' D=none:=(I'.pin (D,seqObj "list" #[] e1) (List.mem_append_right _ (List.mem_append_right _ List.mem_cons_self))).2.1
      unfold ksk_tail
      dsimp only
      rw [ho]
      refine wpAny_bind (listUpdate_at (a:=kS) e rfl ?_ (by rw [List.size_toArray,lm,sizeLine_eq];omega) (Nat.zero_le _))
      refine wpAny_bind (wpAny_letGo ?_)
      have I5:=I'.lset (its':=[]) (ys:=[]) (t':=s'.toks) (f:=fun _=>#[]) hk' e rfl .nil (Nat.zero_le _)
      have pD5:(s'.heap.update kS (Obj.mapSeq fun _=>#[])).get? D=some (seqObj "list" #[] e1):=(Heap.get?_update_ne _ _ _ _ (Ne.symm kD)).trans pD
      refine wpAny_bind (seqEpoch_at (a:=D) (s:={ s' with heap:=s'.heap.update kS (Obj.mapSeq fun _=>#[]) }) pD5 rfl ?_)
      refine wpAny_bind (listUpdate_at (a:=D) (s:={ s' with heap:=s'.heap.update kS (Obj.mapSeq fun _=>#[]) }) pD5 rfl ?_ (Nat.zero_le _) (by rw [if_neg (by simp),List.size_toArray,List.length_map,Array.length_toList,hp.sz,sizeLine_eq];omega))
      rw [hf]
      simp only [bne_self_eq_false,Bool.false_eq_true,if_false]
      refine wpAny_pure (h p (upd H' kS (.lst [])) _ 0 hp hr (S'.write fk) (by rw [upd_ne (Ne.symm kD)];exact nD) ?_)
      refine Inv.adopt (s:={ s' with heap:=s'.heap.update kS (Obj.mapSeq fun _=>#[]),toks:=s'.toks }) (t':=s'.toks) I5.unpinned ⟨by rw [upd_ne (Ne.symm kD)];exact nD,fD.2⟩ (fun b u hb q=>(Heap.get?_update_ne _ _ _ _ hb).trans q) ?_ pD5
      refine ⟨by rw [List.length_map,Array.length_toList,hp.sz,sizeLine_eq];omega,outOf vs p,_,?_,get?_update_seq pD5 _⟩
      have all:∀ l:List Nat,(∀ i∈l,i < vs.length)→Vals (l.map fun i=>vV.getD i .non) (l.map fun i=>vs.getD i Value.none):=fun l=>by
        induction l with
        | nil=>exact fun _=>.nil
        | cons i r ih=>
          intro hl
          have hi:i < vV.length:=by rw [lv];exact hl i List.mem_cons_self
          obtain ⟨u,hu,ru⟩:=rv.get (List.getElem?_eq_getElem hi)
          refine .cons ?_ (ih fun j hj=>hl j (List.mem_cons_of_mem _ hj))
          show RelV (vV.getD i .non) (vs.getD i Value.none)
          rw [List.getD_eq_getElem?_getD,List.getD_eq_getElem?_getD,hu,List.getElem?_eq_getElem hi]
          exact ru
      exact all p.toList fun i hi=>List.mem_range.mp ((List.Perm.mem_iff hp).mp hi)
    unfold ksk_end
    dsimp only
    simp only [Bool.false_eq_true,if_false]
    have sz:vs.toArray.size=vs.length:=List.size_toArray ..
    by_cases h2:vs.toArray.size < 2
    · rw [if_pos h2,if_pos h2]
      refine wpAny_bind (wpAny_pure ?_)
      rw [StateT.run_pure]
      refine wpAny_bind (wpAny_pure ?_)
      exact fin _ _ (range_perm _) (fun i j hij hj=>by omega) (few_out (by rw [List.size_toArray,lm]) (by omega)) rfl
    · rw [if_neg h2,if_neg h2]
      refine wpAny_bind (keys_kind (n:=vs.length) k hks (by omega) ?_)
      refine wpAny_bind (wpAny_mono (kat_run (ks:=as.map Value.ref) (vs:=vs) (Q:=fun st' t'=>∃ p:Array Nat,t'=s'∧PermN vs.length p∧Rise (fun i j=>lexV (K i) (K j)) p vs.length∧arrOf st'=p.map (kas_item ((as.map Value.ref).toArray.zip vs.toArray))∧failedOf st'=none)
        (G:=fun p t'=>t'=s'∧PermN vs.length p∧Rise (fun i j=>lexV (K i) (K j)) p vs.length) lm (by omega) h64 (fun p st' t' a1 a2 a3 a4=>⟨p,a4.1,a4.2.1,a4.2.2,a2,a3⟩)
        (keys_run k hks lm (by omega) fun p hp hr=>⟨rfl,hp,hr⟩)) ?_ fun _ _ e=>e)
      rintro ⟨⟨⟩,st'⟩ t' ⟨p,rfl,hp,hr,har,hf⟩
      exact fin st' p hp hr (kat_snds lm har) hf
end
end L2
namespace L2
open PySem PySem.Spec PyProof.Rows PySem.W
def codeO (c:Addr) (qual:Str):HO:=.ext fun h=>h.CodeRec (.ref c) qual
def LamAt (P:Addr) (lp:Pos) (qual:Str) (H:Hp):Prop:=∃ ps,H P=some (.tbl ps)∧TriplesOk ps.toList∧(codeAmong lp ps.toList=none∨∃ c,codeAmong lp ps.toList=some (.ref c)∧H c=some (codeO c qual))
abbrev Lm:=Addr × Pos × Str
def Lams (ls:List Lm) (H:Hp):Prop:=∀ l∈ls,LamAt l.1 l.2.1 l.2.2 H
def LmOk (ls:List Lm):Prop:=∀ l∈ls,∀ m∈ls,l=m∨¬ (l.2.1.line=m.2.1.line∧l.2.1.col=m.2.1.col)
structure Kt (ls:List Lm) (H H':Hp):Prop where
  lam:Lams ls H'
  keep:∀ b o,(∀ ps,o≠.tbl ps)→H b=some o→H' b=some o
  here:∀ b,H' b=none→H b=none
theorem codeAmong_other {pos p2:Pos} {c:Value} (hne:¬ (p2.line=pos.line∧p2.col=pos.col)) (l:List Value) (h:TriplesOk l):codeAmong pos (l++[rawInt p2.line,rawInt p2.col,c])=codeAmong pos l:=by
  fun_induction TriplesOk l with
  | case1=>
    have e:((p2.line:Int) == (pos.line:Int) && (p2.col:Int) == (pos.col:Int))=false:=by
      rw [Bool.eq_false_iff]
      intro z
      rw [Bool.and_eq_true,beq_iff_eq,beq_iff_eq] at z
      exact hne ⟨by have:=z.1;omega,by have:=z.2;omega⟩
    show (if ((p2.line:Int) == (pos.line:Int) && (p2.col:Int) == (pos.col:Int)) then some c else codeAmong pos [])=codeAmong pos []
    rw [e];rfl
  | case2 a t b u x rest ih=>
    simp only [List.cons_append,codeAmong]
    rw [ih h]
  | case3 l h1 h2=>exact h.elim
section
variable {P q:Addr} {lp:Pos} {qual:Str} {H H1 H2:Hp} {o:HO} {ls:List Lm} {xs:List V}
theorem LamAt.same (a:LamAt P lp qual H) (s:Same H H1):LamAt P lp qual H1:=by
  obtain ⟨ps,a,b,c⟩:=a
  refine ⟨ps,s _ _ a,b,?_⟩
  rcases c with c | ⟨d,c,e⟩
  · exact .inl c
  · exact .inr ⟨d,c,s _ _ e⟩
theorem LamAt.start (h:H P=some (.tbl #[])):LamAt P lp qual H:=⟨#[],h,trivial,.inl rfl⟩
theorem Lams.same (a:Lams ls H) (s:Same H H1):Lams ls H1:=fun l hl=>(a l hl).same s
theorem LamAt.write (a:LamAt P lp qual H) (h:H q=some (.lst xs)):LamAt P lp qual (upd H q o):=by
  obtain ⟨ps,a,b,c⟩:=a
  refine ⟨ps,by rw [upd_ne (ne_of a h (by intro z;cases z))];exact a,b,?_⟩
  rcases c with c | ⟨d,c,e⟩
  · exact .inl c
  · exact .inr ⟨d,c,by rw [upd_ne (ne_of e h (by intro z;cases z))];exact e⟩
theorem Kt.refl (a:Lams ls H):Kt ls H H:=⟨a,fun _ _ _ e=>e,fun _ e=>e⟩
theorem Kt.trans (a:Kt ls H H1) (b:Kt ls H1 H2):Kt ls H H2:=⟨b.lam,fun c u hc e=>b.keep c u hc (a.keep c u hc e),fun c e=>a.here c (b.here c e)⟩
theorem Kt.same (a:Kt ls H H1) (s:Same H1 H2):Kt ls H H2:=⟨a.lam.same s,fun c u hc e=>s _ _ (a.keep c u hc e),fun c e=>a.here c (s.free e)⟩
theorem Same.kt (s:Same H H1) (b:Kt ls H1 H2):Kt ls H H2:=⟨b.lam,fun c u hc e=>b.keep c u hc (s _ _ e),fun c e=>s.free (b.here c e)⟩
theorem Kt.of (s:Same H H1) (a:Lams ls H):Kt ls H H1:=(Kt.refl a).same s
theorem Kt.write (a:Kt ls H H1) (hq:H q=none) (h:H1 q=some (.lst xs)):Kt ls H (upd H1 q o):=
  ⟨fun l hl=>(a.lam l hl).write h,fun b u hb e=>by rw [upd_ne (ne_of_none e hq)];exact a.keep b u hb e,fun b e=>by
    by_cases z:b=q
    · rw [z,upd_same] at e;cases e
    · rw [upd_ne z] at e;exact a.here b e⟩
theorem Kt.lst (a:Kt ls H H1) (h:H q=some (.lst xs)):H1 q=some (.lst xs):=a.keep _ _ (fun _ z=>by cases z) h
theorem Kt.tup (a:Kt ls H H1) (h:H q=some (.tup xs)):H1 q=some (.tup xs):=a.keep _ _ (fun _ z=>by cases z) h
end
def cxLam (X:Cx) (scope:Scope) (NL:List Str) (ix:List Nat) (qual:Str) (cl:List (Str × Addr)) (fa:Addr) (cd:Value) (A1:Around) (s₃:Shared) (H₃:Hp) (pins:List (Addr × Obj)):Cx where
  prog:=X.prog
  w:=X.w
  K:=X.K
  mg:=X.mg
  base:=X.base
  A:=A1.deeper (envX qual scope s₃.heap.objs.size fa cd cl)
  N:=NL++ix.map fun j=>X.N.getD j ""
  s₀:=s₃
  H₀:=H₃
  env:=envX qual scope s₃.heap.objs.size fa cd cl
  outer:=X.stack
  stack:=envX qual scope s₃.heap.objs.size fa cd cl :: X.stack
  ex:=[]
  fn:=fun _=>false
  calm:=X.calm
  pn:=X.pn++pins
  xe:=fun _ _=>False
def lam0 (v:V) (ix:List Nat) (σ:St):St:=some v :: ix.map fun j=>σ.getD j none
section
variable {X:Cx} {pins:List (Addr × Obj)} {σ:St} {H:Hp} {s:Shared}
theorem lam_inv {scope:Scope} {x:Str} {ix:List Nat} {qual:Str} {cl:List (Str × Addr)} {fa:Addr} {cd:Value} {A1:Around} {s₃:Shared} {h₁:Heap} {m:Str→Option Value} {tk:Nat} {v:V} {u:Value}
    (S:CompScope X scope [x] ix) (I:Inv X pins σ H s₃) (c1:∀ x c,cl.lookup x=some c→X.env.cells.lookup x=some c) (c2:∀ x,(x,NameKind.free)∈scope.names→∃ c,cl.lookup x=some c)
    (hfr:A1.frames=some X.stack) (hh:A1.handled=none) (hx:scope.names.lookup x=some .local) (hmx:m x=some u) (ru:RelV v u)
    (hn:h₁.Ns s₃.heap.objs.size m) (old:∀ b o,s₃.heap.get? b=some o→h₁.get? b=some o) :
    Inv (cxLam X scope [x] ix qual cl fa cd A1 s₃ H pins) [] (lam0 v ix σ) H { s₃ with heap:=h₁,toks:=tk }:=by
  have e0:=I.env0
  have lt:∀ b o,s₃.heap.get? b=some o→b≠s₃.heap.objs.size:=fun b o e=>Nat.ne_of_lt (Heap.lt_size e)
  have noA:∀ b:Addr,b ∉ (cxLam X scope [x] ix qual cl fa cd A1 s₃ H pins).ex:=fun b z=>absurd (show b∈([]:List Addr) from z) (by simp)
  have nst:∀ b,b≠X.env.locals→b ∉ X.fs→b ∉ frs X.stack:=fun b h1 h2 h3=>(List.mem_cons.mp (I.stkSub b h3)).elim h1 h2
  have ok:(cxLam X scope [x] ix qual cl fa cd A1 s₃ H pins).Ok:=
    { mod:=I.ok.mod
      kind:=S.kind
      glob:=rfl
      blt:=rfl
      above:=Nat.le_refl _
      inj:=fun x y c h1 h2=>I.ok.inj x y c (c1 x c h1) (c1 y c h2)
      has:=fun y hy=>by
        have hy':scope.names.lookup y=some .cell∨scope.names.lookup y=some .free:=hy
        rcases hy' with q | q
        · exact absurd rfl (S.cell _ (lookup_mem q))
        · exact c2 y (lookup_mem q)
      cab:=fun _ _ z=>nomatch z
      hd:=fun _=>hh
      frames:=Around.frames_deeper hfr
      stk:=.inr ⟨rfl,rfl⟩
      exf:=fun b hb=>absurd hb (noA b)
      bs:=I.bs
      bsz:=e0.bsz
      noex:=fun b _ _=>noA b
      exfs:=fun b hb=>absurd hb (noA b)
      funs:=e0.funs
      frf:=e0.frf }
  refine ⟨ok,rfl,I.bare,Un.kept old,⟨m,hn,fun i y w e1 e2 e3=>?_⟩,fun y c e=>?_,I.hok.fresh (Nat.le_refl _),fun y c e=>I.freeC y c (c1 y c e),fun p hp=>?_,I.hok.kept old,?_⟩
  · cases i with
    | zero=>
      have ey:x=y:=by simpa [cxLam] using e1
      have ev:v=w:=by simpa [lam0] using e2
      subst ey;subst ev
      exact ⟨u,ru,.inl ⟨hx,hmx⟩⟩
    | succ i=>
      have e1':(ix.map fun j=>X.N.getD j "")[i]?=some y:=by simpa [cxLam] using e1
      have e2':(ix.map fun j=>σ.getD j none)[i]?=some (some w):=by simpa [lam0] using e2
      rw [List.getElem?_map] at e1' e2'
      cases q:ix[i]? with
      | none=>rw [q] at e1';cases e1'
      | some j=>
        rw [q] at e1' e2'
        have e1'':X.N.getD j "" = y:=Option.some.inj e1'
        have e2'':σ.getD j none=some w:=Option.some.inj e2'
        obtain ⟨x',hx',hfr'⟩:=S.cap j (List.mem_of_getElem? q)
        have exx:x'=y:=by
          rw [← e1'',List.getD_eq_getElem?_getD,hx'];rfl
        subst exx
        have hσ:σ[j]?=some (some w):=by
          rw [List.getD_eq_getElem?_getD] at e2''
          cases z:σ[j]? with
          | none=>rw [z] at e2'';cases e2''
          | some o=>rw [z] at e2'';exact congrArg some e2''
        have kd:=S.free _ (lookup_mem hfr') rfl
        have vis:Vis X.env.scope x':=by
          rcases kd with z | z
          · exact .inr (.inl z)
          · exact .inr (.inr z)
        obtain ⟨m',hn',hl'⟩:=I.loc
        obtain ⟨u',r,l⟩:=hl' j x' w hx' hσ vis
        refine ⟨u',r,.inr ⟨.inr hfr',?_⟩⟩
        obtain ⟨c,hc⟩:=c2 x' (lookup_mem hfr')
        rcases l with ⟨k,_⟩ | ⟨k,c',ec,o,ho',hd⟩
        · rcases kd with z | z
          · rw [k] at z;cases z
          · rw [k] at z;cases z
        · have:c'=c:=by
            have:=c1 x' c hc
            rw [ec] at this
            exact Option.some.inj this
          subst this
          exact ⟨c',hc,o,old _ _ ho',hd⟩
  · obtain ⟨v',o,ho',hd⟩:=I.cell y c (c1 y c e)
    exact ⟨v',o,old _ _ ho',hd⟩
  · have hp':p∈X.pn++pins:=by
      rcases List.mem_append.mp hp with z | z
      · exact z
      · exact nomatch z
    obtain ⟨e,n,ne,nf,d⟩:=I.pin p hp'
    exact ⟨old _ _ e,n,lt _ _ e,nst _ ne nf,d⟩
  · show (some v :: ix.map fun j=>σ.getD j none).length=([x]++ix.map fun j=>X.N.getD j "").length
    simp
theorem lam_call {scope:Scope} {x:Str} {ix:List Nat} {nm qual:Str} {params:Arguments} {body:Expr} {cl:List (Str × Addr)} {fa c:Addr} {pm ctv:Value} {A1:Around} {te:TE} {v:V} {u:Value} {Q:VK}
    (S:CompScope X scope [x] ix) (I:Inv X pins σ H s) (c1:∀ x c,cl.lookup x=some c→X.env.cells.lookup x=some c) (c2:∀ x,(x,NameKind.free)∈scope.names→∃ c,cl.lookup x=some c)
    (ho:s.heap.get? fa=some (kla_obj nm qual params body scope cl pm c ctv)) (hcd:s.heap.CodeRec (.ref c) qual) (hfr:A1.frames=some X.stack) (hh:A1.handled=none) (hroom:A1.depth < recursionLimit)
    (hbind:∀ u:Value,bindArgs (kla_fn nm qual params body scope cl pm (.ref c) ctv) ⟨[u],[]⟩=pure [(x,u)]) (hx:scope.names.lookup x=some .local) (hco:scope.isCoroutine=false) (hgen:scope.isGenerator=false)
    (hb:∀ (s₃:Shared) (H₃:Hp),PE (cxLam X scope [x] ix qual cl fa (.ref c) A1 s₃ H₃ pins) body te) (ru:RelV v u) (q:te (lam0 v ix σ) H Q) :
    wpAny (model X.prog X.w) A1 (call (.ref fa) [u]) (EP X pins σ Q) (fun _ _=>False) s:=by
  refine wpAny_call (kla_callFunE hroom ho rfl hco hgen rfl hcd ?_)
  rw [hbind u]
  refine wpAny_pure (wpAny_newFunctionEnv S.cell (fun y hy=>?_) (fun h₁ hns hsb=>⟨(I.nolimit).fresh _ hsb,?_⟩) S.kind)
  · obtain rfl:y=(x,u):=by simpa using hy
    exact hx
  show codeAny _ _ (.expr body (envX qual scope s.heap.objs.size fa (.ref c) cl)) _ _
  have hk₁:∀ b o,s.heap.get? b=some o→h₁.get? b=some o:=fun b o e=>hsb.extBut b o (Nat.ne_of_lt (Heap.lt_size e)) (Heap.get?_push_of_some _ e)
  have I1:=lam_inv (qual:=qual) (fa:=fa) (cd:=.ref c) (A1:=A1) (tk:=s.toks+[(x,u)].length) S I c1 c2 hfr hh hx (show (fun y=>[(x,u)].reverse.lookup y) x=some u by simp) ru hns hk₁
  refine kla_codeExpr (wpAny_mono (hb s H [] _ (lam0 v ix σ) H Q I1 q) (fun v' s' hv=>?_) fun _ _ z=>z.elim)
  obtain ⟨v2,H',J,rv,q'⟩:=hv
  exact I.after ⟨v2,H',J.os,J.bare,J.base,J.hok,rv,q'⟩
theorem lam_make {scope:Scope} {params:Arguments} {body:Expr} {lp:Pos} {cl:List (Str × Addr)} {c0 P:Addr} {ls:List Lm} {E:Value→Shared→Prop} {Q:Value→Shared→Prop} (I:Inv X pins σ H s) (hcl:closureFor scope X.env=pure cl) (hcode:X.env.code=.ref c0) (CH:CodeHd X.base c0 P)
    (hb:X.base.BuiltinsAt X.mg P) (lo:LmOk ls) (li:(P,lp,X.env.qual ++ "<lambda>")∈ls) (LL:Lams ls H) (hdef:defaultsOf params X.env=([],[]))
    (h:∀ (fa c:Addr) (pm ctv:Value) (H':Hp) (s':Shared),Kt ls H H'→H' c=some (codeO c (X.env.qual ++ "<lambda>"))→Inv X (pins++[(fa,kla_obj "<lambda>" (X.env.qual ++ "<lambda>") params body scope cl pm c ctv)]) σ H' s'→Q (.ref fa) s') :
    wpAny (model X.prog X.w) X.A (eval (.Lambda params body scope lp) X.env) Q E s:=by
  refine kla_eval hdef ?_
  have hgs:s.heap.Ns mainGlobals X.mg:=I.mod.glob.keeps I.bk
  have C:=CH.keeps I.bk
  have pinIt:∀ {fa c:Addr} {pm ctv:Value} {H':Hp} {h':Heap} {tk:Nat},Inv X pins σ H' { s with heap:=h',toks:=tk }→fa=h'.objs.size →
      Inv X (pins++[(fa,kla_obj "<lambda>" (X.env.qual ++ "<lambda>") params body scope cl pm c ctv)]) σ H' { s with heap:=h'.push (kla_obj "<lambda>" (X.env.qual ++ "<lambda>") params body scope cl pm c ctv),toks:=tk }:=fun {fa c pm ctv H' h' tk} J e=>by
    subst e
    have J2:=J.kept (t':=tk) (h':=h'.push (kla_obj "<lambda>" (X.env.qual ++ "<lambda>") params body scope cl pm c ctv)) fun b o e=>Heap.get?_push_of_some _ e
    have f:=J.fpOk (Nat.le_refl _) (J.hok.fresh (Nat.le_refl _))
    refine J2.pins_of fun p hp=>?_
    rcases List.mem_append.mp hp with z | z
    · exact J2.pin p (List.mem_append_right _ z)
    · obtain rfl:=List.mem_singleton.mp z
      exact ⟨Heap.get?_push_size _ rfl,f.1,f.2.1,f.2.2.1,fun v z=>by cases z⟩
  obtain ⟨bm,ob,b1,b2,b3,b4,b5,b6⟩:=hb
  have hbs:s.heap.BuiltinsAt X.mg P:=⟨bm,ob,b1,b2,b3,b4,I.bk _ _ b5,b6⟩
  obtain ⟨ps,L,tok,Lc⟩:=LL _ li
  dsimp only at L Lc
  rcases Lc with Lno | ⟨c,Lc,Hc⟩
  · have hP:s.heap.get? P=some (tabObj ps):=I.hok P _ L
    have hgP:mainGlobals≠P:=fun q=>by
      obtain ⟨o,es,ep,e,hd,_⟩:=hgs
      rw [q,hP] at e;cases e;cases hd
    refine kla_makeFunction (mg:=X.mg) hcl I.ok.glob hgs hcode C hP tok Lno hgP hbs fun c ctv h' tk hx hge hlt hrec htb=>?_
    have hc0:H c=none:=I.hok.fresh hge
    have ncP:c≠P:=fun e=>by rw [e,L] at hc0;cases hc0
    have nP:∀ b,H b=none→b≠P:=fun b e z=>by rw [z,L] at e;cases e
    have htb':h'.get? P=some (tabObj (ps++#[rawInt lp.line,rawInt lp.col,.ref c])):=htb
    have hc1:∃ oc,h'.get? c=some oc:=by
      obtain ⟨_,oc,_,_,e,ho,_⟩:=id hrec
      cases e;exact ⟨oc,ho⟩
    have J:Inv X pins σ (upd (upd H P (.tbl (ps++#[rawInt lp.line,rawInt lp.col,.ref c]))) c (codeO c (X.env.qual ++ "<lambda>"))) { s with heap:=h',toks:=tk }:=by
      have at1:∀ b,b≠P→b≠c→upd (upd H P (.tbl (ps++#[rawInt lp.line,rawInt lp.col,.ref c]))) c (codeO c (X.env.qual ++ "<lambda>")) b=H b:=fun b h1 h2=>by rw [upd_ne h2,upd_ne h1]
      have atP:upd (upd H P (.tbl (ps++#[rawInt lp.line,rawInt lp.col,.ref c]))) c (codeO c (X.env.qual ++ "<lambda>")) P=some (.tbl (ps++#[rawInt lp.line,rawInt lp.col,.ref c])):=by rw [upd_ne (Ne.symm ncP),upd_same]
      have old:∀ b o,s.heap.get? b=some o→b≠c:=fun b o e z=>absurd (Heap.lt_size e) (by rw [z];exact Nat.not_lt.mpr hge)
      have trk:∀ b o,H b=some o→b≠c:=fun b o e=>ne_of_none e hc0
      refine I.step (g':=s.gens) (d':=s.drawn) (ch:=[]) (fun _ z=>nomatch z) (fun b o _ _ _ e n=>hx b o (nP b n) e) (fun b o _ _ _ e n=>⟨o.slots,hx b o (nP b n) e⟩) (fun b o _ e n=>by rw [at1 b (nP b n) (old b o e)];exact n) (fun b o _ e=>?_)
        (fun b xs e=>by rw [at1 b (fun z=>by rw [z,L] at e;cases e) (trk b _ e)];exact e) (fun b ob u e=>by rw [at1 b (fun z=>by rw [z,L] at e;cases e) (trk b _ e)];exact e) (fun b ps e=>?_) (fun m hm=>?_) (fun b u e=>?_) I.bare
      · by_cases z:b=P
        · exact ⟨_,by rw [z];exact htb'⟩
        · exact ⟨o,hx b o z e⟩
      · by_cases z:b=P
        · subst z
          rw [L] at e;cases e
          exact ⟨_,atP⟩
        · exact ⟨#[],by rw [at1 b z (trk b _ e),e];simp⟩
      · obtain ⟨o,es,ep,e,r⟩:=hm
        exact ⟨o,es,ep,hx _ o (nP _ I.free) e,r⟩
      · by_cases z1:b=c
        · subst z1
          rw [upd_same] at e;cases e
          refine ⟨hrec,hc1,fun h1 h2 p k=>?_⟩
          obtain ⟨c2,o2,vs2,t2,e2,g2,r2⟩:=p
          cases e2
          exact ⟨b,o2,vs2,t2,rfl,k _ g2,r2⟩
        · by_cases z2:b=P
          · subst z2
            rw [atP] at e;cases e
            exact htb'
          · rw [at1 b z2 z1] at e
            refine (I.hok b u e).stay (fun d v hd q=>hx d v ?_ q) (fun d q=>by rw [at1 d (fun z=>by rw [z,L] at q;cases q) (trk d _ q)];exact q) fun d xs q=>by rw [at1 d (fun z=>by rw [z,L] at q;cases q) (trk d _ q)];exact q
            rcases hd with z | z
            · rw [z];exact z2
            · exact fun y=>by rw [y,L] at z;cases z
    refine h h'.objs.size c _ ctv _ _ ⟨fun l hl=>?_,fun b o hb e=>?_,fun b e=>?_⟩ upd_same (pinIt J rfl)
    · obtain ⟨qs,q1,q2,q3⟩:=LL l hl
      by_cases z:l.1=P
      · rw [z] at q1 ⊢
        rw [L] at q1
        cases q1
        refine ⟨_,by rw [upd_ne (Ne.symm ncP),upd_same],by rw [Array.toList_append];exact TriplesOk_snoc _ _ _ _ q2,?_⟩
        rw [Array.toList_append]
        rcases lo _ li l hl with y | y
        · subst y
          exact .inr ⟨c,codeAmong_snoc _ tok Lno,upd_same⟩
        · show codeAmong l.2.1 (ps.toList++[rawInt lp.line,rawInt lp.col,.ref c])=none∨_
          have eo:=codeAmong_other (c:=.ref c) y ps.toList tok
          dsimp only at eo
          rcases q3 with q3 | ⟨d,q3,q4⟩
          · exact .inl (eo.trans q3)
          · exact .inr ⟨d,eo.trans q3,by rw [upd_ne (ne_of_none q4 hc0),upd_ne (fun y=>by rw [y,L] at q4;cases q4)];exact q4⟩
      · refine ⟨qs,by rw [upd_ne (ne_of_none q1 hc0),upd_ne z];exact q1,q2,?_⟩
        rcases q3 with q3 | ⟨d,q3,q4⟩
        · exact .inl q3
        · exact .inr ⟨d,q3,by rw [upd_ne (ne_of_none q4 hc0),upd_ne (fun y=>by rw [y,L] at q4;cases q4)];exact q4⟩
    · rw [upd_ne (ne_of_none e hc0),upd_ne (fun z=>by rw [z,L] at e;cases e;exact hb _ rfl)];exact e
    · by_cases z1:b=c
      · rw [z1];exact hc0
      · rw [upd_ne z1] at e
        by_cases z2:b=P
        · rw [z2,upd_same] at e;cases e
        · rw [upd_ne z2] at e;exact e
  · have hP:s.heap.get? P=some (tabObj ps):=I.hok P _ L
    refine kla_makeFunctionHit (mg:=X.mg) (cv:=.ref c) hcl I.ok.glob hgs hcode C hP tok Lc hbs fun ctv h' tk hk hsz=>?_
    exact h h'.objs.size c _ ctv H _ (Kt.refl LL) Hc (pinIt (I.kept (t':=tk) hk) rfl)
end
end L2
namespace L2
open PySem PySem.Spec PyProof.Rows PySem.W
section
variable {prog:Program} {w:World} {A:Around} {E:Value→Shared→Prop} {s:Shared}
theorem collect_rng {r:Addr} {lo hi:Int} {t u v:Tok} {n:Nat} {Q:List Value→Shared→Prop} (hh:A.handled=none) (hr:IsRange s.heap r lo hi 1 t u v) (hsmall:Builtin.Range.small lo hi 1=true) (hn:Builtin.Range.rangeSize lo hi 1=n) (hlen:n≤2 ^ 24)
    (h:∀ (h':Heap) (tk:Nat) (acc:Array Value),(∀ b o,s.heap.get? b=some o→h'.get? b=some o)→s.heap.objs.size≤h'.objs.size→ItemsOf (fun i v=>∃ t,v=.int (lo+i * 1) t) acc n→Q acc.toList { s with heap:=h',toks:=tk }) :
    wpAny (model prog w) A (collect (.ref r)) Q E s:=by
  unfold collect
  refine wpAny_bind (wpAny_runValue (codeAny_builtin F.entry_proto_collect ?_))
  rw [Around.under_plainId F.plain_proto_collect _]
  show wpAny _ A.in1 (newList [] >>= fun l=>again (.builtin "list.__iadd__" ⟨[l,.ref r],[]⟩)) _ _ s
  refine wpAny_bind (wpAny_newObj_type ?_)
  refine wpAny_pure ⟨plainId_quiet F.plain_list_iadd _,codeAny_builtin F.entry_list_iadd ?_⟩
  rw [Around.under_plainId F.plain_list_iadd _]
  show wpAny _ A.in1 (Builtin.List.listExtendWith (.ref s.heap.objs.size) (.ref r) (.ref s.heap.objs.size)) _ _ _
  have hS₁:(s.heap.push { cls:=.type "list", data:=.seq ([]:List Value).toArray }).get? s.heap.objs.size=some { cls:=.type "list", data:=.seq #[] 0 }:=Heap.get?_push_size _ rfl
  refine wpAny_mono (wpAny_extend_range (s:={ s with heap:=s.heap.push { cls:=.type "list", data:=.seq ([]:List Value).toArray } }) (R:=fun r' s'=>r'=.ok (.ret (.ref s.heap.objs.size))∧∃ h' tk acc' c',s'={ s with heap:=h',toks:=tk }∧(∀ b o,b≠s.heap.objs.size→(s.heap.push { cls:=.type "list", data:=.seq ([]:List Value).toArray }).get? b=some o→h'.get? b=some o) ∧
      h'.get? s.heap.objs.size=some { cls:=.type "list", dict:=none,data:=.seq acc' c',slots:=#[] }∧ItemsOf (fun i v=>∃ t,v=.int (lo+i * 1) t) acc' n)
    hh (Heap.get?_push_of_some _ hr) hsmall hn hlen s.heap.objs.size (.ref s.heap.objs.size) 0 hS₁ fun h' tk acc' c' kp hS' hacc=>⟨rfl,h',tk,acc',c',rfl,kp,hS',hacc⟩) (fun fin s' hf=>?_) (fun e s' hf=>?_)
  · have key:∀ {f:Flow} {s':Shared},((Except.ok f:Result)=.ok (.ret (.ref s.heap.objs.size))∧∃ h' tk acc' c',s'={ s with heap:=h',toks:=tk }∧(∀ b o,b≠s.heap.objs.size→(s.heap.push { cls:=.type "list", data:=.seq ([]:List Value).toArray }).get? b=some o→h'.get? b=some o) ∧
      h'.get? s.heap.objs.size=some { cls:=.type "list", dict:=none,data:=.seq acc' c',slots:=#[] }∧ItemsOf (fun i v=>∃ t,v=.int (lo+i * 1) t) acc' n)→f=.ret (.ref s.heap.objs.size)∧wpAny (model prog w) A (do
          let __do_lift ← load s.heap.objs.size
          match __do_lift.data with
            | .seq xs _=>pure xs.toList
            | _=>unsupported "internal:collect") Q E s':=fun {f s'} hz=>by
      obtain ⟨e1,h',tk,acc',c',rfl,kp,hS',hacc⟩:=hz
      refine ⟨by injection e1,?_⟩
      refine wpAny_bind (wpAny_load (s:={ s with heap:=h',toks:=tk }) hS' ?_)
      exact wpAny_pure (h h' tk acc' (fun b o e=>kp b o (Nat.ne_of_lt (Heap.lt_size e)) (Heap.get?_push_of_some _ e)) (Nat.le_of_lt (Heap.lt_size hS')) hacc)
    cases fin with
    | done f=>
      obtain ⟨rfl,hw⟩:=key hf
      exact hw
    | again c'=>
      refine ⟨hf.1,codeAny_mono hf.2 fun r' s'' hr'=>?_⟩
      cases r' with
      | error e=>exact absurd hr'.1 (by intro z;cases z)
      | ok f=>
        obtain ⟨rfl,hw⟩:=key hr'
        exact hw
  · exact absurd hf.1 (by intro z;cases z)
end
theorem vals_at:∀ {xs:List V} {us:List Value},xs.length=us.length→(∀ (i:Nat) (x:V) (u:Value),xs[i]?=some x→us[i]?=some u→RelV x u)→Vals xs us
  | [],[],_,_=>.nil
  | [],_ :: _,h,_=>by cases h
  | _ :: _,[],h,_=>by cases h
  | x :: xs,u :: us,h,k=>.cons (k 0 x u rfl rfl) (vals_at (by simpa using h) fun i y v a b=>k (i+1) y v (by simpa using a) (by simpa using b))
section
variable {X:Cx}
def tRng1 (ta:TA):TE:=fun σ H Q=>ta σ H fun vs H1=>∃ j:Int,vs=[.int j]∧∀ r,H1 r=none→Q (.ref r) (upd H1 r (.rng 0 j))
def tRng2 (ta:TA):TE:=fun σ H Q=>ta σ H fun vs H1=>∃ i j:Int,vs=[.int i,.int j]∧∀ r,H1 r=none→Q (.ref r) (upd H1 r (.rng i j))
theorem pe_rng1 {a:Expr} {ta:TA} {p pos:Pos} (hg:Gl X "range") (hm:X.mg "range" = none) (ha:PA X [a] ta) (hs:starEach [a] X.env=[(false,eval a X.env)]:=by rfl):PE X (.Call (.Name "range" p) [a] [] pos) (tRng1 ta):=by
  intro pins s σ H Q I h
  refine Call_ (ld_blt I hg hm boot_range (PyProof.Rows.callWith_type1 (thn (ha pos pins s σ H _ I h) fun us s1 ⟨vs,H1,I1,r1,q1⟩=>?_) hs rfl))
  obtain ⟨j,e,q⟩:=q1
  subst e
  cases r1 with
  | cons r rr=>
    cases rr
    obtain ⟨t,rfl⟩:=r
    exact call_range_1 ⟨.ref s1.heap.objs.size,_,I1.laid (o:=.rng 0 j) (t':=s1.toks+1+1) (fun b o e=>Heap.get?_push_of_some _ e) (Nat.le_refl _) ⟨_,_,_,Heap.get?_push_size _ rfl⟩,rfl,q _ I1.fresh⟩
theorem pe_rng2 {a b:Expr} {ta:TA} {p pos:Pos} (hg:Gl X "range") (hm:X.mg "range" = none) (ha:PA X [a,b] ta) (hs:starEach [a,b] X.env=[(false,eval a X.env),(false,eval b X.env)]:=by rfl) (hs2:starEach [b] X.env=[(false,eval b X.env)]:=by rfl) :
    PE X (.Call (.Name "range" p) [a,b] [] pos) (tRng2 ta):=by
  intro pins s σ H Q I h
  refine Call_ (ld_blt I hg hm boot_range (PyProof.Rows.callWith_type1 (thn (ha pos pins s σ H _ I h) fun us s1 ⟨vs,H1,I1,r1,q1⟩=>?_) (by rw [hs,hs2]) (by rw [hs2];rfl)))
  obtain ⟨i,j,e,q⟩:=q1
  subst e
  cases r1 with
  | cons r rr=>
    cases rr with
    | cons r' rr=>
      cases rr
      obtain ⟨t,rfl⟩:=r
      obtain ⟨t',rfl⟩:=r'
      exact call_range_2 ⟨.ref s1.heap.objs.size,_,I1.laid (o:=.rng i j) (t':=s1.toks+1) (fun b o e=>Heap.get?_push_of_some _ e) (Nat.le_refl _) ⟨_,_,_,Heap.get?_push_size _ rfl⟩,rfl,q _ I1.fresh⟩
def tSortEnd (ls:List Lm) (ix:List Nat) (tb:TE) (σ:St) (Q:VK) (x:V) (H1:Hp):Prop:=∃ (r:Addr) (lo hi:Int) (K:Nat→List V) (sh:List Nat),x=.ref r∧H1 r=some (.rng lo hi)∧(-(2 ^ 62)≤lo∧lo < 2 ^ 62∧-(2 ^ 62)≤hi∧hi < 2 ^ 62)∧(hi - lo).toNat < 64 ∧
  Lams ls H1∧Keys (hi - lo).toNat K sh ∧
  (∀ (i:Nat) (H2:Hp),i < (hi - lo).toNat→Kt ls H1 H2→tb (lam0 (.int (lo+i)) ix σ) H2 fun k H3=>∃ a,k=.ref a∧H3 a=some (.tup (K i))∧Same H2 H3) ∧
  ∀ (p:List Nat) (l:Addr) (H2:Hp),p.Perm (List.range (hi - lo).toNat)→(∀ i j,i < j→j < (hi - lo).toNat→lexV (K (p.getD j 0)) (K (p.getD i 0))=false)→Kt ls H1 H2→H1 l=none→H2 l=some (.lst (p.map fun i:Nat=>V.int (lo+(i:Int))))→Q (.ref l) H2
def tSortLam (ls:List Lm) (ix:List Nat) (te tb:TE):TE:=fun σ H Q=>te σ H (tSortEnd ls ix tb σ Q)
theorem pe_sortLam {k:Nat} {P c0:Addr} {ls:List Lm} {x:Str} {ix:List Nat} {e:Expr} {params:Arguments} {body:Expr} {scope:Scope} {lp kpos p pos:Pos} {te tb:TE}
    (hr:Room k X.A) (hcalm:X.calm=true) (hg:Gl X "sorted") (hm:X.mg "sorted" = none) (he:PE X e te) (hcode:X.env.code=.ref c0) (CH:CodeHd X.base c0 P) (hb:X.base.BuiltinsAt X.mg P) (lk:LmOk ls) (li:(P,lp,X.env.qual ++ "<lambda>")∈ls) (S:CompScope X scope [x] ix)
    (ht:∀ (qual:Str) (cl:List (Str × Addr)) (fa:Addr) (cd:Value) (A1:Around) (s₃:Shared) (H₃:Hp) (pins:List (Addr × Obj)),PE (cxLam X scope [x] ix qual cl fa cd A1 s₃ H₃ pins) body tb)
    (hx:scope.names.lookup x=some .local:=by rfl) (hco:scope.isCoroutine=false:=by rfl) (hgen:scope.isGenerator=false:=by rfl) (hdef:defaultsOf params X.env=([],[]):=by rfl)
    (hbind:∀ (qual:Str) (cl:List (Str × Addr)) (pm:Value) (c:Addr) (ctv u:Value),bindArgs (kla_fn "<lambda>" qual params body scope cl pm (.ref c) ctv) ⟨[u],[]⟩=pure [(x,u)]:=by intros;rfl)
    (hs:starEach [e] X.env=[(false,eval e X.env)]:=by rfl) :
    PE X (.Call (.Name "sorted" p) [e] [⟨some "key", .Lambda params body scope lp,kpos⟩] pos) (tSortLam ls ix te tb):=by
  intro pins s σ H Q I h
  obtain ⟨cl,hcl,c1,c2⟩:=closure_ok (scope:=scope) (env:=X.env) fun y hy=>by
    rcases S.free _ hy rfl with z | z
    · exact I.ok.has y (.inl z)
    · exact I.ok.has y (.inr z)
  refine wpAny_Call_Name_kw (ld_blt I hg hm L2.bt_sorted ?_)
  refine callWith_kw (thn ((pa_cons he pa_nil hs) pos pins s σ H (fun xs H1=>match xs with | [x]=>tSortEnd ls ix tb σ Q x H1 | _=>False) I h) fun us s1 ⟨xs,H1,I1,r1,q1⟩=>?_) (by rw [hs];rfl) (by rw [hs];rfl)
  obtain ⟨x0,ex0,q1⟩:∃ x0,xs=[x0]∧tSortEnd ls ix tb σ Q x0 H1:=by
    cases xs with
    | nil=>exact False.elim q1
    | cons x0 rest=>
      cases rest with
      | nil=>exact ⟨x0,rfl,q1⟩
      | cons _ _=>exact False.elim q1
  subst ex0
  obtain ⟨r,lo,hi,K,sh,rfl,hrng,⟨l1,l2,l3,l4⟩,h64,L,kk,hbody,hend⟩:=q1
  obtain ⟨u,rfl,ru⟩:=vals1 r1
  cases (show u=Value.ref r from ru)
  show wpAny _ _ (evalAll [do let v ← eval (.Lambda params body scope lp) X.env;standAt pos;pure v]) _ _ s1
  refine wpAny_evalAll_cons (wpAny_bind (lam_make (P:=P) (c0:=c0) I1 hcl hcode CH hb lk li L hdef fun fa c pm ctv H2 s2 kt hc I2=>wpAny_bind (wpAny_standAt (wpAny_pure (wpAny_evalAll_nil ?_)))))
  show wpAny _ _ (call (.builtin "sorted") [.ref r] [(Str.ofString "key", .ref fa)]) _ _ s2
  obtain ⟨t,t',t'',hr2⟩:=I2.hok r _ (kt.keep r _ (fun ps z=>by cases z) hrng)
  have hA:X.A.handled=none:=I.ok.hd hcalm
  have en:Builtin.Range.rangeSize lo hi 1=(((hi - lo).toNat:Nat):Int):=by rw [rangeSize_one];split <;> omega
  refine call_function_entry_kw kind_sorted plain_sorted entry_sorted (ksk_s1 _ _) ?_
  unfold Builtin.«sorted»
  refine wpAny_bind (m:=checkCount "sorted" 1 1 _) (wpAny_pure ?_)
  refine wpAny_bind (collect_rng (A:=X.A.in1) hA hr2 (small_one l1 l2 l3 l4) en (by omega) fun h3 tk acc kp3 sz3 hacc=>?_)
  have la:acc.toList.length=(hi - lo).toNat:=by rw [Array.length_toList];exact hacc.1
  refine wpAny_bind (wpAny_newList ?_ (by rw [la,sizeLine_eq];omega))
  have I3:=I2.kept (t':=tk) kp3
  have vals:Vals ((List.range (hi - lo).toNat).map fun i:Nat=>V.int (lo+(i:Int))) acc.toList:=by
    refine (vals_at ?_ ?_)
    · rw [List.length_map,List.length_range,la]
    · intro i x u hx' hu
      rw [List.getElem?_map] at hx'
      cases e1:(List.range (hi - lo).toNat)[i]? with
      | none=>rw [e1] at hx';cases hx'
      | some j=>
        rw [e1] at hx'
        have ej:j=i:=by
          have:=List.getElem?_eq_some_iff.mp e1
          obtain ⟨a,b⟩:=this
          rw [List.getElem_range] at b;exact b.symm
        subst ej
        cases hx'
        obtain ⟨tt,e2⟩:=hacc.2 j u (by rw [← Array.getElem?_toList];exact hu)
        rw [Int.mul_one] at e2
        exact ⟨tt,e2⟩
  generalize hg3:(h3.push { cls:=.type "list", data:=.seq acc.toList.toArray }:Heap)=g
  have hDg:g.get? h3.objs.size=some (seqObj "list" acc.toList.toArray 0):=by rw [← hg3];exact Heap.get?_push_size _ rfl
  have I4:Inv X (pins++[(fa,kla_obj "<lambda>" (X.env.qual ++ "<lambda>") params body scope cl pm c ctv)]) σ H2 { s2 with heap:=g,toks:=tk }:=I3.kept (t':=tk) fun b o e=>by rw [← hg3];exact Heap.get?_push_of_some _ e
  have fD:FpOk X (pins++[(fa,kla_obj "<lambda>" (X.env.qual ++ "<lambda>") params body scope cl pm c ctv)]) H2 h3.objs.size:=I3.fpOk (Nat.le_refl _) (I3.hok.fresh (Nat.le_refl _))
  refine wpAny_bind (wpAny_holding (wpAny_call_entry_kw slot_list_sort ⟨_,hDg,rfl⟩ entry_list_sort ?body (ksk_l1 _ _)))
  case body=>
    show wpAny (model X.prog X.w) X.A.in1.in1 (Builtin.«list.sort» ⟨[.ref h3.objs.size],[(Str.ofString "key", .ref fa)]⟩) _ _ _
    rw [ksk_t1]
    refine key_sort (K:=K) (sh:=sh) I4 hDg fD vals (by rw [la];exact h64) (by rw [la];exact kk) (fun i v pins' H' s' hv hsub I' S'=>?_) fun p H' s' c' hp hr' S' hD' J=>⟨_,rfl,?_⟩
    · have hi':i < (hi - lo).toNat:=by rw [← la];exact (List.getElem?_eq_some_iff.mp hv).1
      obtain ⟨u',hu',rv⟩:=vals.get (i:=i) (x:=V.int (lo+(i:Int))) (by rw [List.getElem?_map,List.getElem?_range hi'];rfl)
      rw [hv] at hu'
      cases hu'
      have pf:=(I'.pin (fa,kla_obj "<lambda>" (X.env.qual ++ "<lambda>") params body scope cl pm c ctv) (List.mem_append_right _ (hsub _ (List.mem_append_right _ List.mem_cons_self)))).1
      have hcd:=(I'.hok c _ (S' _ _ hc)).1
      exact lam_call (te:=tb) S I' c1 c2 pf hcd I.ok.frames hA hr.depth (hbind _ _ _ _ _) hx hco hgen (fun s₃ H₃=>ht _ _ _ _ _ s₃ H₃ pins') rv (hbody i H' hi' (kt.same S'))
    · rw [la] at hp hr'
      have J2:Inv X pins σ _ s':=J.unpinned
      refine wpAny_pure ⟨_,rfl,⟨.ref h3.objs.size,_,J2,rfl,hend p.toList h3.objs.size _ hp (rise_list hr') ((kt.same S').same ((Same.refl H').new hD')) (kt.here _ fD.1) ?_⟩⟩
      rw [upd_same]
      congr 2
      refine List.map_congr_left fun i hi'=>?_
      have:i < (hi - lo).toNat:=List.mem_range.mp ((List.Perm.mem_iff hp).mp hi')
      rw [List.getD_eq_getElem?_getD,List.getElem?_map,List.getElem?_range this];rfl
end
end L2
namespace L2
open PySem PySem.Spec PyProof.Rows PySem.W
theorem noTabs_none {K:Frag} {h:Heap} {P:Addr} {ps:Array Value} (X:K.In h) (hK:noTabs K=true) (hP:h.get? P=some (tabObj ps)):K.lookup P=none:=by
  cases e:K.lookup P with
  | none=>rfl
  | some o=>
    have e1:=X P o e
    rw [hP] at e1
    cases e1
    have h2:=List.all_eq_true.mp hK (P,tabObj ps) (mem_of_lookupK e)
    exact absurd (show false=true from h2) Bool.false_ne_true
structure TabAt (base:Heap) (mg:Str→Option Value) (nm:Str) (T:Addr):Prop where
  fn:∃ a o fd c,mg nm=some (.ref a)∧base.get? a=some o∧o.data=.func fd∧fd.code=.ref c∧CodeHd base c T
  blt:base.BuiltinsAt mg T
inductive Two {α β:Type} (R:α→β→Prop):List α→List β→Prop
  | nil:Two R [] []
  | cons {a b xs ys}:R a b→Two R xs ys→Two R (a :: xs) (b :: ys)
theorem forall2_imp {α β:Type} {R S:α→β→Prop} (h:∀ a b,R a b→S a b):∀ {xs:List α} {ys:List β},Two R xs ys→Two S xs ys
  | [],[],_=>.nil
  | _ :: _,_ :: _,.cons a b=>.cons (h _ _ a) (forall2_imp h b)
theorem law_callT {P:Program} {w:World} {K:Frag} {mg mb:Str→Option Value} {CX:CXT} {k:Nat} {fa a:Addr} {Ts:List Addr} {nms:List Str} {fd:FuncData} {x:Str} {sp:Sp} {s₁:Shared} {vs:List Value} {ns:List Int}
    (KX:K.In s₁.heap) (hns:s₁.heap.Ns mainGlobals mg) (hb:s₁.heap.Ns builtinsNs mb) (hbb:∀ x:Str,x ≠ "__name__" → mb x=bootBuiltins x) (hlim:s₁.heap.NoLimit) (hg:s₁.gens=#[])
    (ha:s₁.heap.get? a=some { cls:=.type "list", data:=.seq vs.toArray }) (hi:IntsAre vs ns) (hl:ns.length≤sizeLine) (hr:Room k callerA)
    (hT:∀ T∈Ts,s₁.heap.get? T=some (tabObj #[])) (hTc:∀ T∈Ts,isCodeTable s₁.heap T) (hTA:Two (TabAt s₁.heap mg) nms Ts) (hnt:noTabs K=true)
    (F:∀ base:Heap,K.In base→base.Ns mainGlobals mg→Two (TabAt base mg) nms Ts→FnOk P w K mg base CX k fa fd [x] sp) (hbind:∀ (s:Shared) (u:Value),BindsTo s fd ⟨[u],[]⟩ [(x,u)])
    (hsp:∀ H:Hp,(∀ T∈Ts,H T=some (.tbl #[]))→SqL K H a (ns.map V.int)→sp [.ref a] H (fun v _=>v=.bl true) fun _ _ _=>False)
    (hCX:∀ H e s',CX [] H s₁ (fun _ _ _=>False) e s'→False) :
    codeAny (model P w) callerA (.call (.ref fa) ⟨[.ref a],[]⟩) (fun r s'=>r=.ok (.ret (.bool true))∧OldK s₁.heap s'.heap∧s'.os=s₁.os∧AllBare s'.gens) s₁:=by
  have rv:=vals_ints hi
  have lenV:=hi.length
  have aT:a ∉ Ts:=fun e=>by rw [hT a e] at ha;cases ha
  have core:∀ H:Hp,(∀ T∈Ts,H T=some (.tbl #[]))→SqL K H a (ns.map V.int)→HOk P w H s₁.heap→(∀ b,H b≠none→b=a∨b∈Ts)→(H a≠none→K.lookup a=none)→(∀ u,H a=some u→∃ xs,u=.frz { cls:=.type "list", data:=.seq vs.toArray } (.lst xs)) →
      codeAny (model P w) callerA (.call (.ref fa) ⟨[.ref a],[]⟩) (fun r s'=>r=.ok (.ret (.bool true))∧OldK s₁.heap s'.heap∧s'.os=s₁.os∧AllBare s'.gens) s₁:=by
    intro H hHT hS hok hA hK hF
    have base_of:∀ {b:Addr} {o:Obj},s₁.heap.get? b=some o→H b=none→(hidT s₁.heap H).get? b=some o:=fun e n=>hidT_get e n
    have free:∀ {b:Addr} {o:Obj},s₁.heap.get? b=some o→o.cls≠.type "list" → o.cls≠.none→H b=none:=fun {b o} e c1 c2=>by
      cases q:H b with
      | none=>rfl
      | some u=>
        rcases hA b (by rw [q];simp) with z | z
        · subst z;rw [ha] at e;cases e;exact absurd rfl c1
        · rw [hT b z] at e;cases e;exact absurd rfl c2
    have noA:∀ {b:Addr} {o:Obj} {es:Array DictEntry} {ep:Nat},s₁.heap.get? b=some o→o.data=.dict es ep→H b=none:=fun {b o es ep} e d=>by
      cases q:H b with
      | none=>rfl
      | some u=>
        rcases hA b (by rw [q];simp) with z | z
        · subst z;rw [ha] at e;cases e;cases d
        · rw [hT b z] at e;cases e;cases d
    have nsK:∀ {b:Addr} {m:Str→Option Value},s₁.heap.Ns b m→(hidT s₁.heap H).Ns b m:=fun {b m} ⟨o,es,ep,e,d,r⟩=>⟨o,es,ep,base_of e (noA e d),d,r⟩
    have hKb:K.In (hidT s₁.heap H):=fun b o e=>base_of (KX b o e) (by
      cases q:H b with
      | none=>rfl
      | some u=>
        rcases hA b (by rw [q];simp) with z | z
        · subst z;rw [hK (by rw [q];simp)] at e;cases e
        · rw [noTabs_none KX hnt (hT b z)] at e;cases e)
    have hM:Mod K mg (hidT s₁.heap H):=⟨hKb,nsK hns,⟨mb,nsK hb,hbb⟩,let ⟨mc,h1,h2⟩:=hlim;⟨mc,nsK h1,h2⟩⟩
    have hTb:Two (TabAt (hidT s₁.heap H) mg) nms Ts:=forall2_imp (fun nm T hTA=>by
      obtain ⟨⟨f,o,fd',c,e1,e2,e3,e4,o5,vs5,file,tf,flags,tg,inF,text,tt,f1,f2,r5⟩,bm,ob,b1,b2,b3,b4,b5,b6,b7⟩:=hTA
      refine ⟨⟨f,o,fd',c,e1,base_of e2 ?_,e3,e4,o5,vs5,file,tf,flags,tg,inF,text,tt,base_of f1 (free f1 (by rw [f2];intro z;exact absurd (Value.type.inj z) (by decide)) (by rw [f2];intro z;cases z)),f2,r5⟩,bm,ob,b1,b2,b3,b4,base_of b5 (free b5 (by rw [b6];intro z;exact absurd (Value.type.inj z) (by decide)) (by rw [b6];intro z;cases z)),b6,b7⟩
      cases q:H f with
      | none=>rfl
      | some u=>
        rcases hA f (by rw [q];simp) with z | z
        · subst z;rw [ha] at e2;cases e2;cases e3
        · rw [hT f z] at e2;cases e2;cases e3) hTA
    have e0:Env0 P w K mg (hidT s₁.heap H) callerA [] s₁ H:=⟨rfl,hM,fun b o e=>of_hidT e,Nat.le_of_eq (hidT_size _ _),trivial,fun b hb=>absurd (show b∈([]:List Addr) from hb) (by simp),hok,.of_eq hg⟩
    refine codeAny_mono ((F _ hKb (nsK hns) hTb).run callerA [] s₁ H ⟨[.ref a],[]⟩ [.ref a] [.ref a] _ _ hr e0 (hbind s₁ (.ref a)) (.cons rfl .nil) (hsp H hHT hS)) fun r s' h=>?_
    cases r with
    | error e=>exact (hCX H e s' h).elim
    | ok fl=>
      cases fl with
      | next=>exact False.elim h
      | brk=>exact False.elim h
      | cont=>exact False.elim h
      | ret u=>
        obtain ⟨v,H',os,bare,un,hok',r',q⟩:=h
        have q':v=.bl true:=q
        subst q'
        obtain rfl:u=Value.bool true:=r'
        have kept:∀ b o,b ∉ Ts→s₁.heap.get? b=some o→s'.heap.get? b=some o:=fun b o hbT e=>by
          cases q:H b with
          | none=>exact un.keep b o e q (by intro z;exact absurd (show b∈([]:List Addr) from z) (by simp)) (by simp)
          | some u=>
            rcases hA b (by rw [q];simp) with z | z
            · subst z
              obtain ⟨xs,z⟩:=hF u q
              subst z
              obtain ⟨e2,_⟩:=hok' b _ (un.frzs b _ _ q)
              rw [ha] at e;cases e
              exact e2
            · exact absurd z hbT
        have hT':∀ T∈Ts,∃ more,s'.heap.get? T=some (tabObj (#[]++more)):=fun T hTm=>by
          obtain ⟨more,eT⟩:=un.tbls T _ (hHT T hTm)
          exact ⟨more,hok' T _ eT⟩
        refine ⟨rfl,⟨fun b o e=>?_,fun b o e=>?_⟩,os,bare⟩
        · by_cases z:b∈Ts
          · rw [hT b z] at e;cases e
            obtain ⟨more,hT''⟩:=hT' b z
            exact .inr (.inl ⟨hTc b z,rfl,#[],more,rfl,hT''⟩)
          · exact .inl (kept b o z e)
        · by_cases z:b∈Ts
          · obtain ⟨more,hT''⟩:=hT' b z
            exact ⟨_,hT''⟩
          · exact ⟨o,kept b o z e⟩
  cases hk:K.lookup a with
  | some o=>
    have e:=KX a o hk
    rw [ha] at e
    cases e
    refine core (fun b=>if b∈Ts then some (.tbl #[]) else none) (fun T hTm=>if_pos hTm) (.inr ⟨_,vs.toArray,_,hk,rfl,rfl,rfl,by rw [List.size_toArray,lenV];exact hl,by simpa using rv⟩) (fun b u z=>?_) (fun b z=>?_) (fun z=>absurd (if_neg aT) z) (fun u z=>by rw [if_neg aT] at z;cases z)
    · dsimp only at z
      by_cases hb:b∈Ts
      · rw [if_pos hb] at z;cases z;exact hT b hb
      · rw [if_neg hb] at z;cases z
    · by_cases hb:b∈Ts
      · exact .inr hb
      · exact absurd (if_neg hb) z
  | none=>
    refine core (fun b=>if b∈Ts then some (.tbl #[]) else if b=a then some (.frz { cls:=.type "list", data:=.seq vs.toArray } (.lst (ns.map V.int))) else none) (fun T hTm=>if_pos hTm)
      (.inl (.inr ⟨{ cls:=.type "list", data:=.seq vs.toArray },by show (if a∈Ts then _ else _)=_;rw [if_neg aT,if_pos rfl]⟩)) (fun b u z=>?_) (fun b z=>?_) (fun _=>hk) (fun u z=>?_)
    · dsimp only at z
      by_cases hb:b∈Ts
      · rw [if_pos hb] at z;cases z;exact hT b hb
      · rw [if_neg hb] at z
        by_cases hb2:b=a
        · rw [if_pos hb2] at z;cases z;subst hb2
          exact ⟨ha,by rw [List.length_map];exact hl,vs,_,rv,ha⟩
        · rw [if_neg hb2] at z;cases z
    · by_cases hb:b∈Ts
      · exact .inr hb
      · by_cases hb2:b=a
        · exact .inl hb2
        · exact absurd (show (if b∈Ts then _ else if b=a then _ else none)=none by rw [if_neg hb,if_neg hb2]) z
    · have z':(if a∈Ts then some (HO.tbl #[]) else if a=a then some (.frz { cls:=.type "list", data:=.seq vs.toArray } (.lst (ns.map V.int))) else none)=some u:=z
      rw [if_neg aT,if_pos rfl] at z'
      cases z'
      exact ⟨_,rfl⟩
theorem walk_ofT {l:PySem.W.OpenLaw} {n k:Nat} {q:Program} {loose:List Str} {XP:(Str→Option Value)→Heap→Prop} {YP:World→Heap→Prop} {d:DefRec} {dns:List DefRec} {K:Params→PySem.W.Frag} {CX:CXT} {sp:List Addr→PySem.W.Frag→Sp} {x:Str} {nms:List Str}
    (hn:l.most=some n) (hn2:n≤sizeLine) (hdf:d.params.defaults=[]) (hr:Room k callerA)
    (hY:∀ (w:World) (h:Heap),YP w h→(K w.params).In h) (hfind:Two (fun nm dn=>(recsOf q).find? (fun e=>e.name == nm)=some dn) nms dns) (hnt:∀ w:World,noTabs (K w.params)=true)
    (F:∀ (w:World) (mg:Str→Option Value) (fa:Addr) (h:Heap),(K w.params).In h→h.Ns mainGlobals mg→mg d.name=some (.ref fa) →
      ∃ fd:FuncData,(∀ (s:Shared) (u:Value),BindsTo s fd ⟨[u],[]⟩ [(x,u)]) ∧
        ∀ (Ts:List Addr) (base:Heap),(K w.params).In base→base.Ns mainGlobals mg→Two (TabAt base mg) nms Ts→FnOk l.prog w (K w.params) mg base CX k fa fd [x] (sp Ts (K w.params)))
    (hsp:∀ (K:PySem.W.Frag) (Ts:List Addr) (H:Hp) (a:Addr) (ns:List Int),ns.length≤n→Ts.length=nms.length→(∀ T∈Ts,H T=some (.tbl #[]))→SqL K H a (ns.map V.int)→sp Ts K [.ref a] H (fun v _=>v=.bl true) fun _ _ _=>False)
    (hCX:∀ (H:Hp) (s:Shared) (e:Value) (s':Shared),CX [] H s (fun _ _ _=>False) e s'→False) :
    PySem.W.WalkO q loose XP YP l.row.toRowW d [] (fun f vs=>PySem.call f vs):=by
  refine Att.attach_call hn hdf fun w s₀ s₁ mg mb fa o pm cd doc a vs ns G Y ho hd hcd hmg hobj hints hlen hg=>?_
  have KX:=hY w _ Y
  obtain ⟨fd,hb,hF⟩:=F w mg fa _ KX G.T.g hmg
  have all:∀ {nms:List Str} {dns:List DefRec},Two (fun nm dn=>(recsOf q).find? (fun e=>e.name == nm)=some dn) nms dns→∃ Ts:List Addr,Two (TabAt s₁.heap mg) nms Ts∧Ts.length=nms.length∧(∀ T∈Ts,s₁.heap.get? T=some (tabObj #[]))∧∀ T∈Ts,isCodeTable s₁.heap T:=by
    intro nms dns hf
    induction hf with
    | nil=>exact ⟨[],.nil,rfl,fun T h=>(by simp at h),fun T h=>(by simp at h)⟩
    | @cons nm dn _ _ hfind _ ih=>
      obtain ⟨Ts,i1,i2,i3,i4⟩:=ih
      have en:dn.name=nm:=beq_iff_eq.mp (List.find?_some (p:=fun e:DefRec=>e.name == nm) hfind)
      obtain ⟨f,o',fd',c,T,t1,t2,t3,t4,t5,t6⟩:=G.T.tab dn (List.mem_of_find?_eq_some hfind)
      rw [en] at t1
      obtain ⟨bm,ob,b1,b2,b3,b4,b5,b6⟩:=G.T.bmain
      have hbP:bm≠T:=fun q=>by
        have e:=b3
        rw [q,t6.2] at e;cases e;cases b4
      have hbG:bm≠mainGlobals:=fun q=>by
        obtain ⟨o,es,ep,e,hd,_⟩:=G.T.g
        rw [q,e] at b3;cases b3;rw [hd] at b6;cases b6
      refine ⟨T :: Ts,.cons ⟨⟨f,o',fd',c,t1,t2,t3,t4,CodeHd.of t5 t6⟩,bm,ob,b1,b2,hbG,hbP,b3,b4,b5,b6⟩ i1,by simp [i2],fun T' h=>?_,fun T' h=>?_⟩
      · rcases List.mem_cons.mp h with z | z
        · rw [z];exact t6.2
        · exact i3 T' z
      · rcases List.mem_cons.mp h with z | z
        · rw [z];exact t6.isCodeTable
        · exact i4 T' z
  obtain ⟨Ts,i1,i2,i3,i4⟩:=all hfind
  exact law_callT (nms:=nms) (Ts:=Ts) KX G.T.g G.T.b G.T.builtins G.T.nolimit hg hobj hints (Nat.le_trans hlen hn2) hr i3 i4 i1 (hnt w)
    (fun base h1 h2 h3=>hF Ts base h1 h2 h3) hb (fun H hH hS=>hsp (K w.params) Ts H a ns hlen i2 hH hS) fun H e s'=>hCX H s₁ e s'
end L2
namespace L2
open PySem PySem.Spec PyProof.Rows PySem.W
theorem Df.hasT {P:Program} {w:World} {K:PySem.W.Frag} {mg:Str→Option Value} {base:Heap} {T:Addr} {x:Str} {st:Stmt} {N ps:List Str} {k:Nat} {sp:Sp} (D:Df K mg x st) (kb:K.In base) (TA:TabAt base mg x T) (S:FnScope N ps (defScope st))
    (hb:∀ (kV doc pm:Value) (an:Option Addr) (cdv ct:Value) (us:List Value),us.length=ps.length→bindArgs (PySem.W.fnOf x x (defArgs st) (defBody st) (defScope st) .none kV doc pm an cdv ct) ⟨us,[]⟩=pure (ps.zip us))
    (len:∀ vs H Q E,sp vs H Q E→vs.length=ps.length)
    (hbody:∀ (f c:Addr) (A:Around) (outer:List Env) (s:Shared) (H:Hp) (vs:List V) (Q:VK) (E:XK),CodeHd base c T→Room k (A.deeper (envOfC x (defScope st) s.heap.objs.size f (.ref c)))→sp vs H Q E →
      ∃ t,PSs (cxOf CX0 P w K mg base N x (defScope st) f (.ref c) A outer s H E).nox (defBody st) t∧t { nx:=fun _ H'=>Q .non H',rt:=Q } (start N vs) H):Has P w K mg base x (k+1) ps sp:=by
  obtain ⟨f,fd,F,m⟩:=D
  have bd:=F.binds hb
  have kp:=F.kp
  obtain ⟨oc,od,kV,doc,pm,an,cdv,ct,osl,e,lk,hcd⟩:=F.ex
  obtain ⟨a,o,fd',c,t1,t2,t3,t4,t5⟩:=TA.fn
  have ea:=m.symm.trans t1
  cases ea
  have eo:=kb f _ lk
  rw [t2] at eo
  cases eo
  cases t3
  subst e
  have ec:cdv=.ref c:=t4
  subst ec
  refine ⟨f,_,fn_of lk hcd S len fun A outer s H vs Q E hr hsp=>?_,bd,kp,m⟩
  obtain ⟨t,h,q⟩:=hbody f c A outer s H vs Q E t5 hr hsp
  exact ⟨t,h.nox,q⟩
theorem ix_listK {X:Cx} (K:PySem.W.Frag) (hK:X.K=K:=by rfl):IxR X (rIxL K):=by
  subst hK;exact ix_list
theorem rise_one {n:Nat} {K:Nat→List V} {sh:List Nat} (k:Keys n K sh) {p q:List Nat} (hp:p.Perm (List.range n)) (hq:q.Perm (List.range n)) (rp:∀ i j,i < j→j < n→lexV (K (p.getD j 0)) (K (p.getD i 0))=false)
    (rq:∀ i j,i < j→j < n→lexV (K (q.getD j 0)) (K (q.getD i 0))=false):p=q:=by
  have pw:∀ {r:List Nat},r.Perm (List.range n)→(∀ i j,i < j→j < n→lexV (K (r.getD j 0)) (K (r.getD i 0))=false)→r.Pairwise (fun a b=>lexV (K b) (K a)=false):=fun {r} hr h=>by
    have ln:r.length=n:=by have:=hr.length_eq;simpa using this
    rw [List.pairwise_iff_getElem]
    intro i j hi hj hij
    have:=h i j hij (by omega)
    rw [List.getD_eq_getElem?_getD,List.getD_eq_getElem?_getD,List.getElem?_eq_getElem hi,List.getElem?_eq_getElem hj] at this
    exact this
  refine (hp.trans hq.symm).eq_of_pairwise (fun a b ha hb h1 h2=>?_) (pw hp rp) (pw hq rq)
  exact k.inj a b (List.mem_range.mp (hp.mem_iff.mp ha)) (List.mem_range.mp (hq.mem_iff.mp hb)) (lexV_tot _ _ ((k.shp a).trans (k.shp b).symm) (by rw [k.shp];exact k.z) h2 h1)
end L2
namespace L2
open PySem PySem.Spec PyProof.Rows PySem.W
section
variable {X:Cx} {k:Nat}
theorem ix_tupK (K:PySem.W.Frag) (hK:X.K=K:=by rfl):IxR X (rIxT K):=by
  subst hK;exact ix_tup
end
end L2
namespace L2
open PySem PySem.Spec PyProof.Rows PySem.W
end L2
namespace L2
open PySem PySem.Spec PyProof.Rows PySem.W
section
variable {X:Cx} {k:Nat}
theorem op_notIn_seqK (K:PySem.W.Frag) (hK:X.K=K:=by rfl):OpR X (compareOp .NotIn) (rIn K true):=by
  subst hK;exact op_notIn_seq
end
end L2
namespace L2
open PySem PySem.Spec PyProof.Rows PySem.W
section
variable {X:Cx}
theorem vals_ty:∀ {Ts:List String} {its:List Value},Vals (Ts.map V.ty) its→its=Ts.map Value.type
  | [],_,.nil=>rfl
  | T :: Ts,_ :: _,.cons r h=>by rw [vals_ty h];cases (show _=Value.type T from r);rfl
theorem kitx_any {x:V} {u t:Value} {pins:_} {σ:St} {H:Hp} {s:Shared} (I:Inv X pins σ H s) (rx:RelV x u) (ty:TyOf X.K H x t):∃ Hh:Heap→Prop,KitX X.K u t Hh∧Hh s.heap∧u≠.builtin "__main__.__loader__#opaque" := by
  cases ty with
  | non=>cases (show u=Value.none from rx);exact ⟨_,kitx_none,True.intro,fun z=>nomatch z⟩
  | bl y=>cases (show u=Value.bool y from rx);exact ⟨_,kitx_bool,True.intro,fun z=>nomatch z⟩
  | int i=>obtain ⟨t,q⟩:=(show ∃ t,u=Value.int i t from rx);cases q;exact ⟨_,kitx_int,True.intro,fun z=>nomatch z⟩
  | str y=>obtain ⟨t,q⟩:=(show ∃ t,u=Value.str y t from rx);cases q;exact ⟨_,kitx_str,True.intro,fun z=>nomatch z⟩
  | flt y=>obtain ⟨t,q⟩:=(show ∃ t,u=Value.float y t from rx);cases q;exact ⟨_,kitx_float,True.intro,fun z=>nomatch z⟩
  | @lst a xs ea=>
    cases (show u=Value.ref a from rx)
    obtain ⟨_,_,n,_,h1⟩:=(show ObjOk X.prog X.w H s.heap a (.lst xs) from I.hok a _ ea)
    exact ⟨_,kitx_list,⟨_,h1,rfl⟩,fun z=>nomatch z⟩
  | @frz a ob xs ea=>
    cases (show u=Value.ref a from rx)
    obtain ⟨_,_,_,n,_,h1⟩:=(show ObjOk X.prog X.w H s.heap a (.frz ob (.lst xs)) from I.hok a _ ea)
    exact ⟨_,kitx_list,⟨_,h1,rfl⟩,fun z=>nomatch z⟩
  | @tup a xs ea=>
    cases (show u=Value.ref a from rx)
    obtain ⟨_,_,_,p⟩:=(show ObjOk X.prog X.w H s.heap a (.tup xs) from I.hok a _ ea)
    obtain ⟨o,h1,h2,_⟩:=p
    exact ⟨_,kitx_tuple,⟨o,h1,h2⟩,fun z=>nomatch z⟩
  | @dK a kvs ea=>
    cases (show u=Value.ref a from rx)
    obtain ⟨_,_,vs,_,p⟩:=(show ObjOk X.prog X.w H s.heap a (.dK kvs) from I.hok a _ ea)
    obtain ⟨o,es,ep,h1,h2,_⟩:=p
    exact ⟨_,kitx_dict,⟨o,h1,h2.1⟩,fun z=>nomatch z⟩
  | @dT a kvs ea=>
    cases (show u=Value.ref a from rx)
    obtain ⟨_,_,xs,_,o,es,ep,h1,h2,_⟩:=(show ObjOk X.prog X.w H s.heap a (.dT kvs) from I.hok a _ ea)
    exact ⟨_,kitx_dict,⟨o,h1,h2.1⟩,fun z=>nomatch z⟩
  | @ins a C dx fs ea cl ha hn htk hm=>
    cases (show u=Value.ref a from rx)
    obtain ⟨mA,O,_⟩:=ins_get I.hok ea
    obtain ⟨od,J,_⟩:=O.look
    exact ⟨_,kitx_own (cl.get _) cl.hd ha hn htk hm,J,fun z=>nomatch z⟩
theorem call_isinstT (K:PySem.W.Frag) (hK:X.K=K:=by rfl):CallR X (.builtin "isinstance") (fun vs H Q=>∃ (x:V) (t:Value) (c:Addr) (Ts:List String) (b:Bool),vs=[x,.ref c]∧H c=some (.tup (Ts.map V.ty))∧TyOf K H x t∧kitAny K t (Ts.map Value.type)=some b∧Q (.bl b) H):=by
  subst hK
  intro pins s σ H xs us Q I r h
  obtain ⟨x,t,c,Ts,b,rfl,hc,ty,e,q⟩:=h
  obtain ⟨u,v,rfl,ru,rv⟩:=vals2 r
  cases (show v=Value.ref c from rv)
  obtain ⟨Hh,Z,p,hx⟩:=kitx_any I ru ty
  obtain ⟨_,its,rv2,⟨o,h1,h2,n,h3⟩⟩:=(show ObjOk X.prog X.w H s.heap c (.tup (Ts.map V.ty)) from I.hok c _ hc)
  cases vals_ty rv2
  obtain ⟨cls,dd,dat,sl⟩:=o
  cases h2;cases h3
  exact kia_tup Z I.kIn p h1 e hx fun tk=>⟨.bl b,H,I.tok tk,rfl,q⟩
end
end L2
namespace L2
open PySem PySem.Spec PyProof.Rows
section
variable {κ:Type} [DecidableEq κ]
def valV (kvs:List (κ × V)) (k:κ):Option V:=(kvs.find? fun kv=>decide (kv.1=k)).map (·.2)
def putK (kvs:List (κ × V)) (k:κ) (v:V):List (κ × V):=
  if (kvs.any fun kv=>decide (kv.1=k))=true then kvs.map (fun kv=>if kv.1=k then (kv.1,v) else kv) else kvs++[(k,v)]
theorem RelO.getD {o:Option V} {u:Option Value} {d:V} {d':Value} (r:RelO o u) (rd:RelV d d'):RelV (o.getD d) (u.getD d'):=by
  cases o with
  | none=>cases u with
    | none=>exact rd
    | some _=>exact (show False from r).elim
  | some _=>cases u with
    | none=>exact (show False from r).elim
    | some _=>exact r
theorem KV.keys {kvs:List (κ × V)} {vs:List (κ × Value)} (r:KV kvs vs):kvs.map (·.1)=vs.map (·.1):=by
  unfold KV at r
  induction r with
  | nil=>rfl
  | cons h t ih=>rw [List.map_cons,List.map_cons,ih,h.1]
end
abbrev KT (H:Hp):List (List Key × V)→List (List Key × Addr × Value)→Prop:=Paired fun p q=>p.1=q.1∧H q.2.1=some (.tup (p.1.map kV))∧RelV p.2 q.2.2
theorem KT.keeps {H H':Hp} {kvs:List (List Key × V)} {xs:List (List Key × Addr × Value)} (r:KT H kvs xs) (ht:∀ b ys,H b=some (.tup ys)→H' b=some (.tup ys)):KT H' kvs xs:=
  Paired.mapP r fun _ _ z=>⟨z.1,ht _ _ z.2.1,z.2.2⟩
section
variable {P:Program} {w:World} {H:Hp} {h:Heap} {a:Addr}
end
def DGet (H:Hp) (a:Addr) (y:V) (r:Option V):Prop:=
  (∃ kvs k,Rd H a (.dK kvs)∧y=kV k∧r=valV kvs k)∨∃ kvs k b,Rd H a (.dT kvs)∧y=.ref b∧H b=some (.tup (k.map kV))∧r=valV kvs k
def DPut (H:Hp) (a:Addr) (y v:V) (H':Hp):Prop:=
  (∃ kvs k,H a=some (.dK kvs)∧y=kV k∧kvs.length < sizeLine∧H'=upd H a (.dK (putK kvs k v))) ∨
  ∃ kvs k b,H a=some (.dT kvs)∧y=.ref b∧H b=some (.tup (k.map kV))∧kvs.length < sizeLine∧H'=upd H a (.dT (putK kvs k v))
theorem DGet.k {H:Hp} {a:Addr} {kvs:List (Key × V)} {k:Key} (e:H a=some (.dK kvs)):DGet H a (kV k) (valV kvs k):=.inl ⟨kvs,k,.inl e,rfl,rfl⟩
theorem DGet.t {H:Hp} {a b:Addr} {kvs:List (List Key × V)} {k:List Key} (e:H a=some (.dT kvs)) (eb:H b=some (.tup (k.map kV))):DGet H a (.ref b) (valV kvs k):=.inr ⟨kvs,k,b,.inl e,rfl,eb,rfl⟩
theorem DPut.k {H:Hp} {a:Addr} {kvs:List (Key × V)} {k:Key} {v:V} (e:H a=some (.dK kvs)) (hl:kvs.length < sizeLine):DPut H a (kV k) v (upd H a (.dK (putK kvs k v))):=.inl ⟨kvs,k,e,rfl,hl,rfl⟩
theorem DPut.t {H:Hp} {a b:Addr} {kvs:List (List Key × V)} {k:List Key} {v:V} (e:H a=some (.dT kvs)) (eb:H b=some (.tup (k.map kV))) (hl:kvs.length < sizeLine) :
    DPut H a (.ref b) v (upd H a (.dT (putK kvs k v))):=.inr ⟨kvs,k,b,e,rfl,eb,hl,rfl⟩
section
variable {X:Cx} {pins:List (Addr × Obj)} {σ:St} {H:Hp} {s:Shared} {a:Addr} {y v:V} {u r:Value} {o:Option V} {A:Around} {E:Value→Shared→Prop}
end
section
variable {X:Cx} {pins:List (Addr × Obj)} {σ:St} {H:Hp} {s:Shared} {a:Addr} {kvs:List (Key × V)} {k:Key} {u:Value} {A:Around} {E:Value→Shared→Prop}
end
section
variable {X:Cx} {o i e value:Expr} {pos pos' tpos:Pos} {td ty tv:TE}
end
section
variable {X:Cx} {pos:Pos}
end
section
variable {X:Cx} {pins:List (Addr × Obj)} {σ:St} {H:Hp} {s:Shared} {a:Addr} {y d:V} {u r:Value} {o:Option V} {A:Around} {E:Value→Shared→Prop}
end
section
variable {X:Cx} {o e f:Expr} {apos cpos:Pos} {td ty tx:TE}
end
section
variable {X:Cx} {pins:List (Addr × Obj)} {σ:St} {H:Hp} {s:Shared} {a:Addr} {kvs:List (Key × V)} {A:Around} {E:Value→Shared→Prop}
end
section
variable {X:Cx} {pins:List (Addr × Obj)} {σ:St} {H:Hp} {s:Shared} {a:Addr} {y:V} {u:Value} {A:Around} {E:Value→Shared→Prop}
end
end L2
namespace L2
open PySem PySem.Spec PyProof.Rows PySem.W
open MeetsSeq MeetsSeq2 MeetsSeq3 SeqRoads2 SeqAt
section
variable {X:Cx} {tg:Expr}
end
section
theorem small10000 {n:Nat} (h:n < 10000):n < sizeLine:=by
  rw [sizeLine_eq];omega
theorem comp_big {J:It} {NL:List Str} {ix:List Nat} {g:TG} {tt:TT} {te:TE} {σ:St} {H1:Hp} {Qs:Hp→Prop} {acc:Addr} (n:Nat) (hn:n < 10000) (Pv:Nat→List V→Hp→Prop)
    (hacc:∀ i ys H2,Pv i ys H2→H2 acc=some (.lst ys)∧ys.length≤i) (h0:Pv 0 [] (upd H1 acc (.lst []))) (hstop:∀ ys H2,Pv n ys H2→J.stop n H2∧Qs H2)
    (hturn:∀ i ys H2,i < n→Pv i ys H2→J.go i H2∧∀ x H3,J.yld i H2 x H3→g x (comp0 NL ix σ) H3 fun σ' H4=>σ'.drop NL.length=ix.map (fun j=>σ.getD j none)∧tt σ' H4 fun b H5=>
      if b=true then te σ' H5 fun v H6=>H6 acc=some (.lst ys)∧Pv (i+1) (ys++[v]) (upd H6 acc (.lst (ys++[v]))) else Pv (i+1) ys H5) :
    ∃ W:Nat→Nat→List V→Hp→Prop,(∃ m,W 0 m [] (upd H1 acc (.lst []))) ∧
    ∀ i m ys H2,W i m ys H2→H2 acc=some (.lst ys)∧ys.length < sizeLine ∧
      ((J.stop i H2∧Qs H2)∨(J.go i H2∧∃ N:List V→Hp→Prop,(∀ ys' H',N ys' H'→∃ m',m' < m∧W (i+1) m' ys' H') ∧
        ∀ x H3,J.yld i H2 x H3→g x (comp0 NL ix σ) H3 fun σ' H4=>σ'.drop NL.length=ix.map (fun j=>σ.getD j none)∧tt σ' H4 fun b H5=>
          if b=true then te σ' H5 fun v H6=>H6 acc=some (.lst ys)∧N (ys++[v]) (upd H6 acc (.lst (ys++[v]))) else N ys H5)):=by
  refine ⟨fun i m ys H2=>i≤n∧m=n - i∧Pv i ys H2,⟨n,Nat.zero_le _,rfl,h0⟩,fun i m ys H2 ⟨hi,hm,hp⟩=>?_⟩
  obtain ⟨a1,a2⟩:=hacc i ys H2 hp
  refine ⟨a1,small10000 (by omega),?_⟩
  rcases Nat.lt_or_ge i n with lt | ge
  · obtain ⟨go,tn⟩:=hturn i ys H2 lt hp
    exact .inr ⟨go,Pv (i+1),fun ys' H' hN=>⟨n - (i+1),by omega,by omega,rfl,hN⟩,tn⟩
  · have e:i=n:=by omega
    subst e
    exact .inl (hstop ys H2 hp)
end
section
variable {NL:List Str} {ix:List Nat} {g:TG} {tt:TT} {te:TE} {σ:St} {H1:Hp} {Qs:Hp→Prop} {acc:Addr}
end
section
variable {X:Cx}
end
end L2
namespace L2
open PySem PySem.Spec PyProof.Rows PySem.W
end L2
namespace L2
open PySem PySem.Spec PyProof.Rows PySem.W
section
variable {prog:Program} {w:World} {A:Around} {E:Value→Shared→Prop} {s:Shared}
end
section
variable {prog:Program} {w:World} {A:Around} {E:Value→Shared→Prop} {s:Shared} {T:String} {r d:Addr} {n:Nat} {P:Nat→Value→Prop} {OK:Heap→Prop}
end
section
variable {X:Cx}
theorem ps_raise0 {e:Option Expr} {c:Option Expr} {pos:Pos}:PS X (.Raise e c pos) (fun _ _ _=>False):=fun _ _ _ _ _ _ h=>h.elim
end
end L2
namespace L2
open PySem PySem.Spec PyProof.Rows PySem.W
section
variable {NL:List Str} {ix:List Nat} {g:TG} {tt:TT} {te:TE} {σ:St} {H1:Hp} {Qs:Hp→Prop} {acc:Addr}
theorem comp_zipB {κ1 κ2:SK} {xs zs:List V} (hn:xs.length < 10000) (hlen:xs.length=zs.length) (Pv:Nat→List V→Hp→Prop)
    (hl:∀ i ys H2,Pv i ys H2→κ1.has H2 xs∧κ2.has H2 zs) (hacc:∀ i ys H2,Pv i ys H2→H2 acc=some (.lst ys)∧ys.length≤i) (h0:Pv 0 [] (upd H1 acc (.lst []))) (hstop:∀ ys H2,Pv xs.length ys H2→Qs H2)
    (hturn:∀ (i:Nat) x z ys H2 p,xs[i]?=some x→zs[i]?=some z→Pv i ys H2→H2 p=none→g (.ref p) (comp0 NL ix σ) (upd H2 p (.tup [x,z])) fun σ' H4=>σ'.drop NL.length=ix.map (fun j=>σ.getD j none)∧tt σ' H4 fun b H5=>
      if b=true then te σ' H5 fun v H6=>H6 acc=some (.lst ys)∧Pv (i+1) (ys++[v]) (upd H6 acc (.lst (ys++[v]))) else Pv (i+1) ys H5) :
    ∃ W:Nat→Nat→List V→Hp→Prop,(∃ m,W 0 m [] (upd H1 acc (.lst []))) ∧
    ∀ i m ys H2,W i m ys H2→H2 acc=some (.lst ys)∧ys.length < sizeLine ∧
      (((Itz κ1 κ2).stop i H2∧Qs H2)∨((Itz κ1 κ2).go i H2∧∃ N:List V→Hp→Prop,(∀ ys' H',N ys' H'→∃ m',m' < m∧W (i+1) m' ys' H') ∧
        ∀ x H3,(Itz κ1 κ2).yld i H2 x H3→g x (comp0 NL ix σ) H3 fun σ' H4=>σ'.drop NL.length=ix.map (fun j=>σ.getD j none)∧tt σ' H4 fun b H5=>
          if b=true then te σ' H5 fun v H6=>H6 acc=some (.lst ys)∧N (ys++[v]) (upd H6 acc (.lst (ys++[v]))) else N ys H5)):=by
  refine comp_big xs.length hn Pv hacc h0 (fun ys H2 hp=>⟨⟨xs,zs,(hl _ _ _ hp).1,(hl _ _ _ hp).2,.inl rfl⟩,hstop ys H2 hp⟩) fun i ys H2 hi hp=>?_
  have hs:=hl _ _ _ hp
  refine ⟨⟨xs,zs,xs[i],zs[i],hs.1,hs.2,List.getElem?_eq_getElem hi,List.getElem?_eq_getElem (by omega)⟩,?_⟩
  rintro x H3 ⟨p,x',z',rfl,hpn,rfl,hx,hz⟩
  exact hturn i x' z' ys H2 p (hx xs hs.1) (hz zs hs.2) hp hpn
end
end L2
namespace L2
open PySem PySem.Spec PyProof.Rows PySem.W
section
variable {X:Cx}
variable {e st:Expr} {te:TE} {ts:TO} {pos p2:Pos}
end
def Itx (x:Str):It:=⟨fun i _=>i < x.cps.size,fun i H v H'=>H'=H∧∃ c,x.cps[i]?=some c∧v=.str ⟨#[c]⟩,fun i _=>x.cps.size≤i⟩
theorem turn_str {P:Program} {w:World} {K:PySem.W.Frag} {tg:Expr} (x:Str) (t:Tok) (it:Addr):Turn P w K tg (Itx x) [it] it (fun i h=>h.IsStrIter it (strIterType x) x t i) where
  mem:=by simp
  obj:=fun i h st b hb=>by
    have e:b=it:=by simpa using hb
    subst e
    obtain ⟨o,e,c,d⟩:=st
    exact ⟨o,e,fun v z=>by rw [d] at z;cases z⟩
  keep:=fun i h h' st k=>by
    obtain ⟨o,e,c,d⟩:=st
    exact ⟨o,k it (by simp) o e,c,d⟩
  item:=by
    intro X hP hw hK hc i pins s σ H E I hf st hg
    subst hP hw hK
    have hg:i < x.cps.size:=hg
    obtain ⟨f0,f1,f2,f3,f4,f5⟩:=hf it (by simp)
    have hx:x.cps[i]?=some (x.cps[i]'hg):=Array.getElem?_eq_getElem hg
    have go:∀ (h':Heap),h'.IsStrIter it (strIterType x) x t (i+1)→Heap.SameBut it s.heap h'→∃ u,some (Value.str ⟨#[x.cps[i]'hg]⟩ s.toks)=some u ∧
        wpAny (model X.prog X.w) X.A (letOwnedTupleGo tg (.ref it) u) (fun _ s2=>∃ v H',Inv X pins σ H' s2∧RelV v u∧(Itx x).yld i H v H'∧s2.heap.IsStrIter it (strIterType x) x t (i+1)∧∀ b∈[it],H' b=none) E { s with heap:=h',toks:=s.toks+1 }:=fun h' st' sb=>by
      have I1:Inv X pins σ H { s with heap:=h',toks:=s.toks+1 }:=I.turned (t':=s.toks+1) (fun b o hb e=>(sb.2 b hb).trans e) f0 f1 f3 f4 f5
      obtain ⟨o,e,c,d⟩:=id st'
      refine ⟨_,rfl,go_of (s:={ s with heap:=h',toks:=s.toks+1 }) e c d ?_ ⟨.str ⟨#[x.cps[i]'hg]⟩,H,I1,⟨_,rfl⟩,⟨rfl,_,hx,rfl⟩,st',fun b hb=>(hf b hb).1⟩⟩
      unfold strIterType
      split <;> decide
    cases c:x.cps.all (· < 128) with
    | true=>
      have e:strIterType x = "str_ascii_iterator" := by unfold strIterType;rw [c];rfl
      rw [e] at st
      exact wpAny_pyNext_ascii_item st hx fun h' st' sb=>go h' (by rw [e];exact st') sb
    | false=>
      have e:strIterType x = "str_iterator" := by unfold strIterType;rw [c];rfl
      rw [e] at st
      exact wpAny_pyNext_wide_item st hx fun h' st' sb=>go h' (by rw [e];exact st') sb
  done:=by
    intro X hP hw hK hc i pins s σ H E I hf st hg
    subst hP hw hK
    have hg:x.cps.size≤i:=hg
    obtain ⟨f0,f1,f2,f3,f4,f5⟩:=hf it (by simp)
    have hx:x.cps[i]?=none:=Array.getElem?_eq_none hg
    cases c:x.cps.all (· < 128) with
    | true=>
      have e:strIterType x = "str_ascii_iterator" := by unfold strIterType;rw [c];rfl
      rw [e] at st
      exact wpAny_pyNext_ascii_end (I.ok.hd hc) st hx fun h' eb=>⟨rfl,I.turned (t':=s.toks) (fun b o hb e=>eb b o hb e) f0 f1 f3 f4 f5⟩
    | false=>
      have e:strIterType x = "str_iterator" := by unfold strIterType;rw [c];rfl
      rw [e] at st
      exact wpAny_pyNext_wide_end (I.ok.hd hc) st hx fun h' eb=>⟨rfl,I.turned (t':=s.toks) (fun b o hb e=>eb b o hb e) f0 f1 f3 f4 f5⟩
  self:=fun _ _ _ _ _ st h=>by
    cases c:x.cps.all (· < 128) with
    | true=>
      have e:strIterType x = "str_ascii_iterator" := by unfold strIterType;rw [c];rfl
      rw [e] at st
      exact wpAny_pyIter_striter_ascii st h
    | false=>
      have e:strIterType x = "str_iterator" := by unfold strIterType;rw [c];rfl
      rw [e] at st
      exact wpAny_pyIter_striter_wide st h
section
variable {X:Cx} {tg:Expr}
def iStr (tl:TE):TI:=fun σ H R=>tl σ H fun x H1=>∃ z,x=.str z∧R (Itx z) H1
theorem pi_str {l:Expr} {tl:TE} (hl:PE X l tl):PI X tg l (iStr tl):=by
  intro pins s σ H R I h
  refine thn (hl pins s σ H _ I h) fun v s1 ⟨x,H1,I1,r1,q1⟩=>?_
  obtain ⟨z,rfl,q⟩:=q1
  obtain ⟨t,rfl⟩:=r1
  refine wpAny_pyIter_strU ?_
  refine ⟨s1.heap.objs.size,[s1.heap.objs.size],_,_,H1,rfl,I1.kept (t':=s1.toks) fun b o e=>Heap.get?_push_of_some _ e,turn_str z t _,⟨_,Heap.get?_push_size _ rfl,rfl,rfl⟩,fun b hb=>?_,q⟩
  have e:b=s1.heap.objs.size:=by simpa using hb
  subst e
  exact I1.fpOk (Nat.le_refl _) (I1.hok.fresh (Nat.le_refl _))
end
section
variable {NL:List Str} {ix:List Nat} {g:TG} {tt:TT} {te:TE} {σ:St} {H1:Hp} {Qs:Hp→Prop} {acc:Addr}
theorem comp_str {z:Str} (hn:z.cps.size < 10000) (Pv:Nat→List V→Hp→Prop)
    (hacc:∀ i ys H2,Pv i ys H2→H2 acc=some (.lst ys)∧ys.length≤i) (h0:Pv 0 [] (upd H1 acc (.lst []))) (hstop:∀ ys H2,Pv z.cps.size ys H2→Qs H2)
    (hturn:∀ i c ys H2,z.cps[i]?=some c→Pv i ys H2→g (.str ⟨#[c]⟩) (comp0 NL ix σ) H2 fun σ' H4=>σ'.drop NL.length=ix.map (fun j=>σ.getD j none)∧tt σ' H4 fun b H5=>
      if b=true then te σ' H5 fun v H6=>H6 acc=some (.lst ys)∧Pv (i+1) (ys++[v]) (upd H6 acc (.lst (ys++[v]))) else Pv (i+1) ys H5) :
    ∃ W:Nat→Nat→List V→Hp→Prop,(∃ m,W 0 m [] (upd H1 acc (.lst []))) ∧
    ∀ i m ys H2,W i m ys H2→H2 acc=some (.lst ys)∧ys.length < sizeLine ∧
      (((Itx z).stop i H2∧Qs H2)∨((Itx z).go i H2∧∃ N:List V→Hp→Prop,(∀ ys' H',N ys' H'→∃ m',m' < m∧W (i+1) m' ys' H') ∧
        ∀ x H3,(Itx z).yld i H2 x H3→g x (comp0 NL ix σ) H3 fun σ' H4=>σ'.drop NL.length=ix.map (fun j=>σ.getD j none)∧tt σ' H4 fun b H5=>
          if b=true then te σ' H5 fun v H6=>H6 acc=some (.lst ys)∧N (ys++[v]) (upd H6 acc (.lst (ys++[v]))) else N ys H5)):=by
  refine comp_big z.cps.size hn Pv hacc h0 (fun ys H2 hp=>⟨Nat.le_refl _,hstop ys H2 hp⟩) fun i ys H2 hi hp=>⟨hi,?_⟩
  rintro x H3 ⟨rfl,c,hc,rfl⟩
  exact hturn i c ys H3 hc hp
end
section
variable {X:Cx}
end
end L2
namespace L2
open PySem PySem.Spec PyProof.Rows PySem.W
section
variable {X:Cx}
def rIndexI:V→List V→Hp→VK→Prop:=fun x vs H Q=>∃ (l:Addr) (ss:List Int) (y:Int),x=.ref l∧vs=[.int y]∧H l=some (.lst (ss.map V.int))∧y∈ss∧ss.length≤10000∧Q (.int ((ss.idxOf y:Nat):Int)) H
theorem mt_indexI:MtM X "list.index" rIndexI:=by
  intro pins s σ H x vs v us Q I rx rv h
  obtain ⟨l,ss,y,rfl,rfl,hH,hm,hl,q⟩:=h
  cases rx
  obtain ⟨u,rfl,ru⟩:=rv.one
  have ru0:=ru
  obtain ⟨ty,rfl⟩:=ru
  obtain ⟨z,its,n,r,hz,e⟩:=I.lstM hH
  have rl:=r.length
  rw [List.length_map] at rl
  have jl:ss.idxOf y < ss.length:=List.idxOf_lt_length_of_mem hm
  have key:∀ (j:Nat) (hj:j < its.toArray.size),eqU (V.int y) its.toArray[j]=(ss[j]'(by rw [rl];simpa using hj) == y):=fun j hj=>by
    have hj':j < ss.length:=by rw [rl];simpa using hj
    obtain ⟨w',e1,e2⟩:=r.get (i:=j) (x:=V.int (ss[j])) (by rw [List.getElem?_map,List.getElem?_eq_getElem hj'];rfl)
    obtain ⟨t',rfl⟩:=e2
    have:its.toArray[j]=Value.int ss[j] t':=by
      rw [List.getElem?_eq_getElem (by omega)] at e1
      simpa using Option.some.inj e1
    rw [this]
    rfl
  refine call_meets F.slot_list_index ⟨_,e,rfl⟩ F.entry_list_index (F.args_list_index_2 _ _) (SeqAt.list_indexAt l its.toArray n none #[] (.int y ty) (eqU (V.int y)) (ss.idxOf y) (by rw [List.size_toArray];omega) (by omega) ?_ ?_) ⟨e,fun u hu=>mem_eqAt (x:=V.int y) ru0 rfl r (flat_ints ss) u (by simpa using hu),?_⟩
  · rw [key _ (by rw [List.size_toArray];omega),List.getElem_idxOf jl];exact beq_self_eq_true y
  · intro m hm' hlt
    rw [key m hm']
    have:=List.not_of_lt_findIdx (p:=(· == y)) (xs:=ss) (i:=m) hlt
    simpa using this
  · exact ⟨.int _,H,I.tok _,⟨_,rfl⟩,q⟩
theorem pe_indexI (K:PySem.W.Frag) {o e:Expr} {to te:TE} {apos cpos:Pos} (ho:PE X o to) (he:PE X e te) (hK:X.K=K:=by rfl) (hbase:attributeBase o "index" X.env (eval o X.env)=eval o X.env:=by rfl)
    (h1:starEach [e] X.env=[(false,eval e X.env)]:=by rfl) (hl:(apos.endLine == cpos.line)=true:=by rfl) :
    PE X (.Call (.Attribute o "index" apos) [e] [] cpos) (tBM K "list" rIndexI to (tCons te tNil)):=by
  subst hK
  exact pe_bm PySem.F.plainAttrs_list PySem.F.slot_list_index PySem.F.type_list_index mt_indexI ho (pa_cons he pa_nil h1) hbase (by rw [h1];rfl) hl h1 (by rfl)
end
end L2
namespace L2
section
variable {NL:List PySem.Str} {ix:List Nat} {g:TG} {tt:TT} {te:TE} {σ:St} {H1:Hp} {Qs:Hp→Prop} {acc:PySem.Addr}
theorem comp_tupI {K:PySem.W.Frag} {a:PySem.Addr} {xs:List V} (hn:xs.length < 1000) (Pv:Nat→List V→Hp→Prop)
    (hl:∀ i ys H2,Pv i ys H2→SqT K H2 a xs) (hacc:∀ i ys H2,Pv i ys H2→H2 acc=some (.lst ys)∧ys.length≤i) (h0:Pv 0 [] (upd H1 acc (.lst []))) (hstop:∀ ys H2,Pv xs.length ys H2→Qs H2)
    (hturn:∀ i x ys H2,xs[i]?=some x→Pv i ys H2→g x (comp0 NL ix σ) H2 fun σ' H4=>σ'.drop NL.length=ix.map (fun j=>σ.getD j none)∧tt σ' H4 fun b H5=>
      if b=true then te σ' H5 fun v H6=>H6 acc=some (.lst ys)∧Pv (i+1) (ys++[v]) (upd H6 acc (.lst (ys++[v]))) else Pv (i+1) ys H5) :
    ∃ W:Nat→Nat→List V→Hp→Prop,(∃ m,W 0 m [] (upd H1 acc (.lst []))) ∧
    ∀ i m ys H2,W i m ys H2→H2 acc=some (.lst ys)∧ys.length < PySem.sizeLine ∧
      (((Itt K a).stop i H2∧Qs H2)∨((Itt K a).go i H2∧∃ N:List V→Hp→Prop,(∀ ys' H',N ys' H'→∃ m',m' < m∧W (i+1) m' ys' H') ∧
        ∀ x H3,(Itt K a).yld i H2 x H3→g x (comp0 NL ix σ) H3 fun σ' H4=>σ'.drop NL.length=ix.map (fun j=>σ.getD j none)∧tt σ' H4 fun b H5=>
          if b=true then te σ' H5 fun v H6=>H6 acc=some (.lst ys)∧N (ys++[v]) (upd H6 acc (.lst (ys++[v]))) else N ys H5)):=by
  refine comp_by xs.length hn Pv hacc h0 (fun ys H2 hp=>⟨⟨xs,hl _ _ _ hp,Nat.le_refl _⟩,hstop ys H2 hp⟩) fun i ys H2 hi hp=>?_
  have hs:=hl _ _ _ hp
  refine ⟨⟨xs,xs[i],hs,List.getElem?_eq_getElem hi⟩,?_⟩
  rintro x H3 ⟨rfl,hx⟩
  exact hturn i x ys H3 (hx xs hs) hp
end
end L2
namespace L2
open PySem PySem.Spec PyProof.Rows PySem.W
section
variable {X:Cx}
def rInsert:V→List V→Hp→VK→Prop:=fun x vs H Q=>∃ (l:Addr) (xs:List V) (i:Int) (j:Nat) (y:V),x=.ref l∧vs=[.int i,y]∧i=(j:Int)∧H l=some (.lst xs)∧j≤xs.length∧xs.length < 10000∧Q .non (upd H l (.lst (xs.take j++y :: xs.drop j)))
theorem mt_insert:MtM X "list.insert" rInsert:=by
  intro pins s σ H x vs v us Q I rx rv h
  obtain ⟨l,xs,i,j,y,rfl,rfl,hij,hH,hj,hz,q⟩:=h
  cases rx
  obtain ⟨u,us',rfl,ru,rv2⟩:∃ u us',us=u :: us'∧RelV (.int i) u∧Vals [y] us':=by
    cases rv with
    | cons a b=>exact ⟨_,_,rfl,a,b⟩
  obtain ⟨w,rfl,rw'⟩:=rv2.one
  obtain ⟨t,rfl⟩:=ru
  obtain ⟨z,its,n,r,hl,e⟩:=I.lstM hH
  have e10:xs.length < sizeLine:=small10000 hz
  have h1:-(2 ^ 63)≤i:=by rw [hij];exact Int.le_trans (by decide) (Int.natCast_nonneg j)
  have h2:i < 2 ^ 63:=by rw [hij];exact Int.lt_of_lt_of_le (show (j:Int) < 10000 by omega) (by decide)
  have fx:¬ (!Builtin.List.listFitsIndex i)=true:=by
    have:=fitsIndex_both h1 h2
    simpa using this
  have hz2:its.toArray.size≤sizeLine:=by rw [List.size_toArray];omega
  have m:=AutoSeq1.list_insert_list_int_val_1 l its.toArray n i t w fx hz2
  refine call_meets F.slot_list_insert ⟨_,e,rfl⟩ F.entry_list_insert (F.args_list_insert_3 _ _ _) m ⟨e,?_⟩
  refine ⟨.non,_,I.lset (its':=its.take j++w :: its.drop j) hH e ?_ ((r.take j).append (.cons rw' (r.drop j))) ?_,rfl,q⟩
  · have hn:¬ (i < 0):=by omega
    have hm:min i.toNat its.length=j:=by omega
    simp only [if_neg hn,List.size_toArray,hm]
    apply Array.toList_inj.mp
    simp [List.extract_eq_drop_take]
    exact List.take_of_length_le (by rw [List.length_drop];exact Nat.le_refl _)
  · rw [List.length_append,List.length_cons,List.length_take,List.length_drop]
    omega
end
end L2
namespace L2
open PySem PySem.Spec PyProof.Rows PySem.W
section
variable {X:Cx}
theorem op_eq_nil (hu:X.A.units < cLine):OpR X (compareOp .Eq) (fun x y H Q=>∃ a b xs,x=.ref a∧y=.ref b∧SqL X.K H a xs∧SqL X.K H b []∧Q (.bl xs.isEmpty) H):=by
  intro pins s σ H x y v u Q I rx ry h
  obtain ⟨a,b,xs,rfl,rfl,h1,h2,q⟩:=h
  cases xs with
  | nil=>exact op_eq_lst hu pins s σ H _ _ v u Q I rx ry ⟨a,b,[],[],rfl,rfl,h1,h2,rfl,rfl,q⟩
  | cons z zs=>
    cases (show v=Value.ref a from rx)
    cases (show u=Value.ref b from ry)
    obtain ⟨us,r1,l1,_⟩:=I.list h1
    obtain ⟨ws,r2,l2,_⟩:=I.list h2
    have e1:=r1.length
    have e2:=r2.length
    rw [List.length_cons] at e1
    rw [List.length_nil] at e2
    exact SeqAt.eq_list_lengthsAt l1.isList l2.isList (by simp;omega) hu ⟨.bl _,H,I,rfl,q⟩
theorem op_ne_nil (hu:X.A.units < cLine):OpR X (compareOp .NotEq) (fun x y H Q=>∃ a b xs,x=.ref a∧y=.ref b∧SqL X.K H a xs∧SqL X.K H b []∧Q (.bl (!xs.isEmpty)) H):=by
  intro pins s σ H x y v u Q I rx ry h
  obtain ⟨a,b,xs,rfl,rfl,h1,h2,q⟩:=h
  cases xs with
  | nil=>exact op_ne_lst hu pins s σ H _ _ v u Q I rx ry ⟨a,b,[],[],rfl,rfl,h1,h2,rfl,rfl,q⟩
  | cons z zs=>
    cases (show v=Value.ref a from rx)
    cases (show u=Value.ref b from ry)
    obtain ⟨us,r1,l1,_⟩:=I.list h1
    obtain ⟨ws,r2,l2,_⟩:=I.list h2
    have e1:=r1.length
    have e2:=r2.length
    rw [List.length_cons] at e1
    rw [List.length_nil] at e2
    exact SeqAt.RcNeAt.lists_lengths l1.isList l2.isList (by simp;omega) hu _ _ _ _ ⟨.bl _,H,I,rfl,q⟩
end
end L2
namespace L2
open PySem
theorem mid {t u:TS} {D:Ends} {σ:St} {H:Hp} (P:St→Hp→Prop) (h2:∀ σ' H',P σ' H'→u D σ' H') (h1:∀ E:Ends,(∀ σ' H',P σ' H'→E.nx σ' H')→t E σ H):tSeq t u D σ H:=h1 { D with nx:=u D } h2
end L2
namespace L2
open PySem PySem.Spec PyProof.Rows PySem.W
theorem midR {t u:TS} {D:Ends} {σ:St} {H:Hp} (P:St→Hp→Prop) (h2:∀ σ' H',P σ' H'→u D σ' H') (h1:∀ E:Ends,(∀ σ' H',P σ' H'→E.nx σ' H')→(∀ v H',D.rt v H'→E.rt v H')→t E σ H):tSeq t u D σ H:=h1 { D with nx:=u D } h2 fun _ _ x=>x
theorem iteB {c:Bool} {A B:Prop} (h:c=false) (q:B):if c=true then A else B:=by rw [h];exact iteF q
theorem iteA {c:Bool} {A B:Prop} (h:c=true) (q:A):if c=true then A else B:=by rw [h];exact iteT q
end L2
namespace W16
open PySem
def lcp:List Nat→List Nat→Nat
  | a :: x,b :: y=>if a=b then lcp x y+1 else 0
  | _,_=>0
theorem lcp_le:∀ x y:List Nat,lcp x y≤x.length∧lcp x y≤y.length
  | [],y=>⟨Nat.zero_le _,Nat.zero_le _⟩
  | a :: x,[]=>⟨Nat.zero_le _,Nat.zero_le _⟩
  | a :: x,b :: y=>by
    have h:=lcp_le x y
    unfold lcp
    by_cases e:a=b
    · rw [if_pos e,List.length_cons,List.length_cons];omega
    · rw [if_neg e];exact ⟨Nat.zero_le _,Nat.zero_le _⟩
theorem lcp_stop:∀ (x y:List Nat) (n:Nat),n≤x.length→n≤y.length→(∀ j,j < n→x[j]?=y[j]?)→(n < x.length→n < y.length→x[n]?≠y[n]?)→lcp x y=n
  | [], y, n, h, _, _, _ => by have:n=0:=by simpa using h
                               subst this;rfl
  | a :: x, [], n, _, h, _, _ => by have:n=0:=by simpa using h
                                    subst this;rfl
  | a :: x,b :: y,0,_,_,_,s=>by
    have:=s (by rw [List.length_cons];omega) (by rw [List.length_cons];omega)
    unfold lcp
    rw [if_neg (fun e=>this (by rw [e];rfl))]
  | a :: x,b :: y,n+1,h1,h2,h,s=>by
    have e:a=b:=by simpa using h 0 (by omega)
    unfold lcp
    rw [if_pos e,lcp_stop x y n (by rw [List.length_cons] at h1;omega) (by rw [List.length_cons] at h2;omega) (fun j hj=>by simpa using h (j+1) (by omega))
      (fun k1 k2=>by simpa using s (by rw [List.length_cons];omega) (by rw [List.length_cons];omega))]
end W16
namespace W18
open W16
def lc (ss:List (List Nat)) (i:Nat):Nat:=if i=0 then 0 else lcp (ss.getD (i - 1) []) (ss.getD i [])
def blk (z:List Nat) (a:Nat):List (List Nat):=(List.range (z.length - a)).map fun j=>z.take (a+1+j)
def unl (ss:List (List Nat)) (n:Nat):List (List Nat):=(List.range n).flatMap fun i=>blk (ss.getD i []) (lc ss i)
theorem unl_succ (ss:List (List Nat)) (n:Nat):unl ss (n+1)=unl ss n++blk (ss.getD n []) (lc ss n):=by
  unfold unl;rw [List.range_succ,List.flatMap_append];simp
end W18
namespace W7
def wd (ups:List Int) (lab:List Nat):Nat→Nat→List Nat
  | 0,_=>[]
  | f+1,k=>lab.getD k 0 :: (if ups.getD k 0 < 0 then [] else wd ups lab f (ups.getD k 0).toNat)
structure TreeOk (ups:List Int) (lab:List Nat):Prop where
  len:ups.length=lab.length
  pos:0 < ups.length
  most:ups.length≤60
  root:ups.getD 0 0=-1
  up:∀ k,0 < k→k < ups.length→0≤ups.getD k 0∧ups.getD k 0 < (k:Int)
theorem TreeOk.lt {ups:List Int} {lab:List Nat} (t:TreeOk ups lab) {k:Nat} (h:k < ups.length) (h0:¬ ups.getD k 0 < 0):(ups.getD k 0).toNat < k:=by
  rcases Nat.eq_zero_or_pos k with e | e
  · subst e;have:=t.root;omega
  · have:=t.up k e h;omega
theorem TreeOk.neg {ups:List Int} {lab:List Nat} (t:TreeOk ups lab) {k:Nat} (h:k < ups.length):ups.getD k 0 < 0 ↔ ups.getD k 0=-1:=by
  rcases Nat.eq_zero_or_pos k with e | e
  · subst e;have:=t.root;omega
  · have:=t.up k e h;omega
theorem wd_fuel {ups:List Int} {lab:List Nat} (t:TreeOk ups lab):∀ (f g k:Nat),k < ups.length→k < f→k < g→wd ups lab f k=wd ups lab g k
  | 0,_,_,_,h,_=>absurd h (Nat.not_lt_zero _)
  | _+1,0,_,_,_,h=>absurd h (Nat.not_lt_zero _)
  | f+1,g+1,k,hk,hf,hg=>by
    simp only [wd]
    congr 1
    split
    · rfl
    · rename_i h0
      have:=t.lt hk h0
      exact wd_fuel t f g _ (by omega) (by omega) (by omega)
def W (ups:List Int) (lab:List Nat) (k:Nat):List Nat:=wd ups lab (k+1) k
theorem W_eq {ups:List Int} {lab:List Nat} (t:TreeOk ups lab) {k:Nat} (hk:k < ups.length):W ups lab k=lab.getD k 0 :: (if ups.getD k 0 < 0 then [] else W ups lab (ups.getD k 0).toNat):=by
  unfold W
  rw [wd]
  congr 1
  split
  · rfl
  · rename_i h0
    have:=t.lt hk h0
    exact wd_fuel t _ _ _ (by omega) (by omega) (by omega)
theorem W_len {ups:List Int} {lab:List Nat} (t:TreeOk ups lab):∀ (n k:Nat),k < n→k < ups.length→(W ups lab k).length≤k+1
  | 0,_,h,_=>absurd h (Nat.not_lt_zero _)
  | n+1,k,hn,hk=>by
    rw [W_eq t hk]
    split
    · simp
    · rename_i h0
      have:=t.lt hk h0
      have ih:=W_len t n (ups.getD k 0).toNat (by omega) (by omega)
      simp only [List.length_cons]
      omega
def R (ups:List Int) (lab:List Nat) (k:Int):List Nat:=if k < 0 then [] else W ups lab k.toNat
theorem R_step {ups:List Int} {lab:List Nat} (t:TreeOk ups lab) {k:Int} (h0:0≤k) (hk:k < (ups.length:Int)):R ups lab k=lab.getD k.toNat 0 :: R ups lab (ups.getD k.toNat 0):=by
  unfold R
  rw [if_neg (by omega),W_eq t (by omega)]
end W7
namespace S73
open PySem L2 W7
def top (i:Nat):Stmt:=PySem.Challenge.pw_upwords_k73_whole_as_made_afresh.main.body.getD i (.Pass ⟨0,0,0,0⟩)
abbrev s_is_whole:Stmt:=top 10
abbrev N_is_whole:List Str:=["thing"]
theorem sc_is_whole:FnScope N_is_whole ["thing"] (defScope s_is_whole):=⟨rfl,rfl,rfl,by decide +kernel,rfl,by decide +kernel,by decide +kernel⟩
abbrev s_is_number_below:Stmt:=top 11
abbrev N_is_number_below:List Str:=["thing", "behind"]
theorem sc_is_number_below:FnScope N_is_number_below ["thing", "behind"] (defScope s_is_number_below):=⟨rfl,rfl,rfl,by decide +kernel,rfl,by decide +kernel,by decide +kernel⟩
abbrev s_is_letters:Stmt:=top 12
abbrev N_is_letters:List Str:=["thing"]
theorem sc_is_letters:FnScope N_is_letters ["thing"] (defScope s_is_letters):=⟨rfl,rfl,rfl,by decide +kernel,rfl,by decide +kernel,by decide +kernel⟩
abbrev s_is_letter:Stmt:=top 13
abbrev N_is_letter:List Str:=["thing"]
theorem sc_is_letter:FnScope N_is_letter ["thing"] (defScope s_is_letter):=⟨rfl,rfl,rfl,by decide +kernel,rfl,by decide +kernel,by decide +kernel⟩
abbrev s_words_of:Stmt:=top 15
abbrev N_words_of:List Str:=["tree", "words", "letter", "up"]
theorem sc_words_of:FnScope N_words_of ["tree"] (defScope s_words_of):=⟨rfl,rfl,rfl,by decide +kernel,rfl,by decide +kernel,by decide +kernel⟩
abbrev s_order_of:Stmt:=top 17
abbrev N_order_of:List Str:=["tree", "words"]
theorem sc_order_of:FnScope N_order_of ["tree"] (defScope s_order_of):=⟨rfl,rfl,rfl,by decide +kernel,rfl,by decide +kernel,by decide +kernel⟩
abbrev s_ranks_of:Stmt:=top 18
abbrev N_ranks_of:List Str:=["tree", "order", "ranks", "rank", "place"]
theorem sc_ranks_of:FnScope N_ranks_of ["tree"] (defScope s_ranks_of):=⟨rfl,rfl,rfl,by decide +kernel,rfl,by decide +kernel,by decide +kernel⟩
abbrev s_alike_of:Stmt:=top 19
abbrev N_alike_of:List Str:=["tree", "words"]
theorem sc_alike_of:FnScope N_alike_of ["tree"] (defScope s_alike_of):=⟨rfl,rfl,rfl,by decide +kernel,rfl,by decide +kernel,by decide +kernel⟩
abbrev s_many_alike:Stmt:=top 20
abbrev N_many_alike:List Str:=["one", "other", "many"]
theorem sc_many_alike:FnScope N_many_alike ["one", "other"] (defScope s_many_alike):=⟨rfl,rfl,rfl,by decide +kernel,rfl,by decide +kernel,by decide +kernel⟩
abbrev s_is_tree:Stmt:=top 23
abbrev N_is_tree:List Str:=["thing"]
theorem sc_is_tree:FnScope N_is_tree ["thing"] (defScope s_is_tree):=⟨rfl,rfl,rfl,by decide +kernel,rfl,by decide +kernel,by decide +kernel⟩
abbrev s_is_labels:Stmt:=top 24
abbrev N_is_labels:List Str:=["thing"]
theorem sc_is_labels:FnScope N_is_labels ["thing"] (defScope s_is_labels):=⟨rfl,rfl,rfl,by decide +kernel,rfl,by decide +kernel,by decide +kernel⟩
abbrev s_is_ups:Stmt:=top 25
abbrev N_is_ups:List Str:=["thing", "many", "place", "ahead"]
theorem sc_is_ups:FnScope N_is_ups ["thing", "many"] (defScope s_is_ups):=⟨rfl,rfl,rfl,by decide +kernel,rfl,by decide +kernel,by decide +kernel⟩
abbrev s_all_above:Stmt:=top 26
abbrev N_all_above:List Str:=["ups", "place", "found", "up"]
theorem sc_all_above:FnScope N_all_above ["ups", "place"] (defScope s_all_above):=⟨rfl,rfl,rfl,by decide +kernel,rfl,by decide +kernel,by decide +kernel⟩
abbrev s_beneath_of:Stmt:=top 27
abbrev N_beneath_of:List Str:=["tree", "place"]
theorem sc_beneath_of:FnScope N_beneath_of ["tree", "place"] (defScope s_beneath_of):=⟨rfl,rfl,rfl,by decide +kernel,rfl,by decide +kernel,by decide +kernel⟩
abbrev s_is_leaf:Stmt:=top 28
abbrev N_is_leaf:List Str:=["tree", "place"]
theorem sc_is_leaf:FnScope N_is_leaf ["tree", "place"] (defScope s_is_leaf):=⟨rfl,rfl,rfl,by decide +kernel,rfl,by decide +kernel,by decide +kernel⟩
abbrev s_bough_of:Stmt:=top 29
abbrev N_bough_of:List Str:=["tree", "place", "ups", "behind"]
theorem sc_bough_of:FnScope N_bough_of ["tree", "place"] (defScope s_bough_of):=⟨rfl,rfl,rfl,by decide +kernel,rfl,by decide +kernel,by decide +kernel⟩
abbrev s_kept_order:Stmt:=top 31
abbrev N_kept_order:List Str:=["tree", "ups", "ranks"]
theorem sc_kept_order:FnScope N_kept_order ["tree"] (defScope s_kept_order):=⟨rfl,rfl,rfl,by decide +kernel,rfl,by decide +kernel,by decide +kernel⟩
abbrev s_rows_of:Stmt:=top 32
abbrev N_rows_of:List Str:=["tree", "order", "labels", "lasts", "leaves"]
theorem sc_rows_of:FnScope N_rows_of ["tree"] (defScope s_rows_of):=⟨rfl,rfl,rfl,by decide +kernel,rfl,by decide +kernel,by decide +kernel⟩
abbrev s_is_last:Stmt:=top 33
abbrev N_is_last:List Str:=["tree", "place"]
theorem sc_is_last:FnScope N_is_last ["tree", "place"] (defScope s_is_last):=⟨rfl,rfl,rfl,by decide +kernel,rfl,by decide +kernel,by decide +kernel⟩
abbrev s_count_read:Stmt:=top 35
abbrev N_count_read:List Str:=["words", "word"]
theorem sc_count_read:FnScope N_count_read ["words", "word"] (defScope s_count_read):=⟨rfl,rfl,rfl,by decide +kernel,rfl,by decide +kernel,by decide +kernel⟩
abbrev s_how_many:Stmt:=top 36
abbrev N_how_many:List Str:=["tree", "word"]
theorem sc_how_many:FnScope N_how_many ["tree", "word"] (defScope s_how_many):=⟨rfl,rfl,rfl,by decide +kernel,rfl,by decide +kernel,by decide +kernel⟩
abbrev s_unlike_words:Stmt:=top 38
abbrev N_unlike_words:List Str:=["tree", "found", "word", "alike"]
theorem sc_unlike_words:FnScope N_unlike_words ["tree"] (defScope s_unlike_words):=⟨rfl,rfl,rfl,by decide +kernel,rfl,by decide +kernel,by decide +kernel⟩
abbrev s_count_words:Stmt:=top 39
abbrev N_count_words:List Str:=["tree"]
theorem sc_count_words:FnScope N_count_words ["tree"] (defScope s_count_words):=⟨rfl,rfl,rfl,by decide +kernel,rfl,by decide +kernel,by decide +kernel⟩
abbrev s_with_leaf:Stmt:=top 42
abbrev N_with_leaf:List Str:=["tree", "leaf", "above", "letter", "ups"]
theorem sc_with_leaf:FnScope N_with_leaf ["tree", "leaf", "above", "letter"] (defScope s_with_leaf):=⟨rfl,rfl,rfl,by decide +kernel,rfl,by decide +kernel,by decide +kernel⟩
abbrev s_without_leaf:Stmt:=top 43
abbrev N_without_leaf:List Str:=["tree", "leaf", "ups"]
theorem sc_without_leaf:FnScope N_without_leaf ["tree", "leaf"] (defScope s_without_leaf):=⟨rfl,rfl,rfl,by decide +kernel,rfl,by decide +kernel,by decide +kernel⟩
abbrev s_triple_of:Stmt:=top 44
abbrev N_triple_of:List Str:=["tree", "place"]
theorem sc_triple_of:FnScope N_triple_of ["tree", "place"] (defScope s_triple_of):=⟨rfl,rfl,rfl,by decide +kernel,rfl,by decide +kernel,by decide +kernel⟩
abbrev s_law_prime:Stmt:=top 46
abbrev N_law_prime:List Str:=["at", "some"]
theorem sc_law_prime:FnScope N_law_prime ["at"] (defScope s_law_prime):=⟨rfl,rfl,rfl,by decide +kernel,rfl,by decide +kernel,by decide +kernel⟩
abbrev s_law_pool:Stmt:=top 47
abbrev N_law_pool:List Str:=["cell"]
theorem sc_law_pool:FnScope N_law_pool ["cell"] (defScope s_law_pool):=⟨rfl,rfl,rfl,by decide +kernel,rfl,by decide +kernel,by decide +kernel⟩
abbrev s_law_take:Stmt:=top 48
abbrev N_law_take:List Str:=["pool", "many", "found", "at", "one", "two"]
theorem sc_law_take:FnScope N_law_take ["pool", "many"] (defScope s_law_take):=⟨rfl,rfl,rfl,by decide +kernel,rfl,by decide +kernel,by decide +kernel⟩
abbrev s_law_cells:Stmt:=top 49
abbrev N_law_cells:List Str:=["script", "most", "found", "k"]
theorem sc_law_cells:FnScope N_law_cells ["script", "most"] (defScope s_law_cells):=⟨rfl,rfl,rfl,by decide +kernel,rfl,by decide +kernel,by decide +kernel⟩
abbrev s_law_letter:Stmt:=top 50
abbrev N_law_letter:List Str:=["pool", "base"]
theorem sc_law_letter:FnScope N_law_letter ["pool", "base"] (defScope s_law_letter):=⟨rfl,rfl,rfl,by decide +kernel,rfl,by decide +kernel,by decide +kernel⟩
abbrev s_law_tree:Stmt:=top 51
abbrev N_law_tree:List Str:=["pool", "most", "many", "base", "way", "turns", "climbs", "signs", "ups", "labels", "k", "some", "place", "step"]
theorem sc_law_tree:FnScope N_law_tree ["pool", "most"] (defScope s_law_tree):=⟨rfl,rfl,rfl,by decide +kernel,rfl,by decide +kernel,by decide +kernel⟩
abbrev s_law_word:Stmt:=top 52
abbrev N_law_word:List Str:=["tree", "place", "found"]
theorem sc_law_word:FnScope N_law_word ["tree", "place"] (defScope s_law_word):=⟨rfl,rfl,rfl,by decide +kernel,rfl,by decide +kernel,by decide +kernel⟩
abbrev s_law_beneath:Stmt:=top 53
abbrev N_law_beneath:List Str:=["tree", "place"]
theorem sc_law_beneath:FnScope N_law_beneath ["tree", "place"] (defScope s_law_beneath):=⟨rfl,rfl,rfl,by decide +kernel,rfl,by decide +kernel,by decide +kernel⟩
abbrev s_law_leaves:Stmt:=top 54
abbrev N_law_leaves:List Str:=["tree"]
theorem sc_law_leaves:FnScope N_law_leaves ["tree"] (defScope s_law_leaves):=⟨rfl,rfl,rfl,by decide +kernel,rfl,by decide +kernel,by decide +kernel⟩
abbrev s_law_sign:Stmt:=top 55
abbrev N_law_sign:List Str:=["pool", "tree", "letters"]
theorem sc_law_sign:FnScope N_law_sign ["pool", "tree"] (defScope s_law_sign):=⟨rfl,rfl,rfl,by decide +kernel,rfl,by decide +kernel,by decide +kernel⟩
abbrev s_law_putting:Stmt:=top 56
abbrev N_law_putting:List Str:=["pool", "tree", "above", "beneath"]
theorem sc_law_putting:FnScope N_law_putting ["pool", "tree"] (defScope s_law_putting):=⟨rfl,rfl,rfl,by decide +kernel,rfl,by decide +kernel,by decide +kernel⟩
abbrev s_law_deed:Stmt:=top 57
abbrev N_law_deed:List Str:=["pool", "tree", "stood", "way", "leaves"]
theorem sc_law_deed:FnScope N_law_deed ["pool", "tree", "stood"] (defScope s_law_deed):=⟨rfl,rfl,rfl,by decide +kernel,rfl,by decide +kernel,by decide +kernel⟩
abbrev s_law_ask:Stmt:=top 58
abbrev N_law_ask:List Str:=["keeper", "deed"]
theorem sc_law_ask:FnScope N_law_ask ["keeper", "deed"] (defScope s_law_ask):=⟨rfl,rfl,rfl,by decide +kernel,rfl,by decide +kernel,by decide +kernel⟩
abbrev s_law_seek:Stmt:=top 59
abbrev N_law_seek:List Str:=["pool", "tree", "way", "word", "first", "last", "letter", "some"]
theorem sc_law_seek:FnScope N_law_seek ["pool", "tree"] (defScope s_law_seek):=⟨rfl,rfl,rfl,by decide +kernel,rfl,by decide +kernel,by decide +kernel⟩
abbrev s_law_same:Stmt:=top 60
abbrev N_law_same:List Str:=["found", "due"]
theorem sc_law_same:FnScope N_law_same ["found", "due"] (defScope s_law_same):=⟨rfl,rfl,rfl,by decide +kernel,rfl,by decide +kernel,by decide +kernel⟩
abbrev s_law_told:Stmt:=top 61
abbrev N_law_told:List Str:=["keeper", "words", "some"]
theorem sc_law_told:FnScope N_law_told ["keeper", "words"] (defScope s_law_told):=⟨rfl,rfl,rfl,by decide +kernel,rfl,by decide +kernel,by decide +kernel⟩
abbrev s_law_afresh:Stmt:=top 62
abbrev N_law_afresh:List Str:=["tree", "words"]
theorem sc_law_afresh:FnScope N_law_afresh ["tree", "words"] (defScope s_law_afresh):=⟨rfl,rfl,rfl,by decide +kernel,rfl,by decide +kernel,by decide +kernel⟩
abbrev s_law_right:Stmt:=top 63
abbrev N_law_right:List Str:=["pool", "keeper", "tree", "words", "other", "first", "deed"]
theorem sc_law_right:FnScope N_law_right ["pool", "keeper"] (defScope s_law_right):=⟨rfl,rfl,rfl,by decide +kernel,rfl,by decide +kernel,by decide +kernel⟩
abbrev s_law:Stmt:=top 64
abbrev N_law:List Str:=["script", "cell", "pool", "deeds", "trees", "keepers", "stood", "turn", "at", "deed"]
theorem sc_law:FnScope N_law ["script"] (defScope s_law):=⟨rfl,rfl,rfl,by decide +kernel,rfl,by decide +kernel,by decide +kernel⟩
abbrev s_Keeper___init__:Stmt:=inClass (top 41) 0
abbrev N_Keeper___init__:List Str:=["self", "tree"]
theorem sc_Keeper___init__:FnScope N_Keeper___init__ ["self", "tree"] (defScope s_Keeper___init__):=⟨rfl,rfl,rfl,by decide +kernel,rfl,by decide +kernel,by decide +kernel⟩
abbrev s_Keeper_put:Stmt:=inClass (top 41) 1
abbrev N_Keeper_put:List Str:=["self", "place", "number", "letter", "beneath", "leaf", "grown"]
theorem sc_Keeper_put:FnScope N_Keeper_put ["self", "place", "number", "letter"] (defScope s_Keeper_put):=⟨rfl,rfl,rfl,by decide +kernel,rfl,by decide +kernel,by decide +kernel⟩
abbrev s_Keeper_take:Stmt:=inClass (top 41) 2
abbrev N_Keeper_take:List Str:=["self", "place"]
theorem sc_Keeper_take:FnScope N_Keeper_take ["self", "place"] (defScope s_Keeper_take):=⟨rfl,rfl,rfl,by decide +kernel,rfl,by decide +kernel,by decide +kernel⟩
abbrev s_Keeper_back:Stmt:=inClass (top 41) 3
abbrev N_Keeper_back:List Str:=["self", "deed"]
theorem sc_Keeper_back:FnScope N_Keeper_back ["self"] (defScope s_Keeper_back):=⟨rfl,rfl,rfl,by decide +kernel,rfl,by decide +kernel,by decide +kernel⟩
abbrev s_Keeper_change:Stmt:=inClass (top 41) 4
abbrev N_Keeper_change:List Str:=["self", "tree", "triple"]
theorem sc_Keeper_change:FnScope N_Keeper_change ["self", "tree", "triple"] (defScope s_Keeper_change):=⟨rfl,rfl,rfl,by decide +kernel,rfl,by decide +kernel,by decide +kernel⟩
abbrev s_Keeper_refuse_no_place:Stmt:=inClass (top 41) 5
abbrev N_Keeper_refuse_no_place:List Str:=["self", "place"]
theorem sc_Keeper_refuse_no_place:FnScope N_Keeper_refuse_no_place ["self", "place"] (defScope s_Keeper_refuse_no_place):=⟨rfl,rfl,rfl,by decide +kernel,rfl,by decide +kernel,by decide +kernel⟩
abbrev s_Keeper_tree_now:Stmt:=inClass (top 41) 6
abbrev N_Keeper_tree_now:List Str:=["self"]
theorem sc_Keeper_tree_now:FnScope N_Keeper_tree_now ["self"] (defScope s_Keeper_tree_now):=⟨rfl,rfl,rfl,by decide +kernel,rfl,by decide +kernel,by decide +kernel⟩
abbrev s_Keeper_order_now:Stmt:=inClass (top 41) 7
abbrev N_Keeper_order_now:List Str:=["self"]
theorem sc_Keeper_order_now:FnScope N_Keeper_order_now ["self"] (defScope s_Keeper_order_now):=⟨rfl,rfl,rfl,by decide +kernel,rfl,by decide +kernel,by decide +kernel⟩
abbrev s_Keeper_rows_now:Stmt:=inClass (top 41) 8
abbrev N_Keeper_rows_now:List Str:=["self"]
theorem sc_Keeper_rows_now:FnScope N_Keeper_rows_now ["self"] (defScope s_Keeper_rows_now):=⟨rfl,rfl,rfl,by decide +kernel,rfl,by decide +kernel,by decide +kernel⟩
abbrev s_Keeper_count_now:Stmt:=inClass (top 41) 9
abbrev N_Keeper_count_now:List Str:=["self", "word"]
theorem sc_Keeper_count_now:FnScope N_Keeper_count_now ["self", "word"] (defScope s_Keeper_count_now):=⟨rfl,rfl,rfl,by decide +kernel,rfl,by decide +kernel,by decide +kernel⟩
abbrev s_Keeper_many_now:Stmt:=inClass (top 41) 10
abbrev N_Keeper_many_now:List Str:=["self"]
theorem sc_Keeper_many_now:FnScope N_Keeper_many_now ["self"] (defScope s_Keeper_many_now):=⟨rfl,rfl,rfl,by decide +kernel,rfl,by decide +kernel,by decide +kernel⟩
abbrev s_Keeper_deeds_now:Stmt:=inClass (top 41) 11
abbrev N_Keeper_deeds_now:List Str:=["self"]
theorem sc_Keeper_deeds_now:FnScope N_Keeper_deeds_now ["self"] (defScope s_Keeper_deeds_now):=⟨rfl,rfl,rfl,by decide +kernel,rfl,by decide +kernel,by decide +kernel⟩
section
variable {P:Program} {w:World} {K:PySem.W.Frag} {mg:Str→Option Value} {base:Heap} {k:Nat}
def mk (l:List Nat):Str:=⟨l.toArray⟩
theorem mk_cps (l:List Nat):(mk l).cps.toList=l:=rfl
theorem mk_len (l:List Nat):(mk l).length=l.length:=by simp [mk,Str.length]
theorem str_ext {a b:Str} (h:a.cps.toList=b.cps.toList):a=b:=by
  obtain ⟨x⟩:=a;obtain ⟨y⟩:=b
  have:x=y:=Array.toList_inj.mp h
  rw [this]
theorem mk_app (c:Nat) (l:List Nat):(⟨#[c]⟩:Str)++mk l=mk (c :: l):=by
  apply str_ext
  rw [app_list]
  rfl
def TreeAt (H:Hp) (t:Addr) (ups:List Int) (lab:Str):Prop:=∃ u,H t=some (.tup [.ref u,.str lab])∧H u=some (.tup (ups.map V.int))∧TreeOk ups lab.cps.toList
theorem TreeAt.same {H H':Hp} {t:Addr} {ups:List Int} {lab:Str} (h:TreeAt H t ups lab) (s:Same H H'):TreeAt H' t ups lab:=by
  obtain ⟨u,a,b,c⟩:=h
  exact ⟨u,s _ _ a,s _ _ b,c⟩
def oneV (cs:List Nat):List V:=cs.map fun c=>.str ⟨#[c]⟩
theorem oneV_len (cs:List Nat):(oneV cs).length=cs.length:=List.length_map _
theorem oneV_at {cs:List Nat} {i:Int} (h0:0≤i) (h1:i < (cs.length:Int)):∃ c,atI (oneV cs) i=some (.str ⟨#[c]⟩)∧c∈cs:=by
  have hk:i.toNat < cs.length:=by omega
  refine ⟨cs[i.toNat],?_,List.getElem_mem hk⟩
  have e:=atI_nat (xs:=oneV cs) (j:=i.toNat) (v:=.str ⟨#[cs[i.toNat]]⟩) (by unfold oneV;rw [List.getElem?_map,List.getElem?_eq_getElem hk];rfl)
  rw [show ((i.toNat:Nat):Int)=i by omega] at e
  exact e
theorem ints_at {us:List Int} {i:Int} (h0:0≤i) (h1:i < (us.length:Int)):atI (us.map V.int) i=some (.int (us.getD i.toNat 0)):=by
  have hk:i.toNat < us.length:=by omega
  have e:=atI_nat (xs:=us.map V.int) (j:=i.toNat) (v:=.int (us.getD i.toNat 0)) (by rw [List.getElem?_map,List.getElem?_eq_getElem hk,List.getD_eq_getElem?_getD,List.getElem?_eq_getElem hk];rfl)
  rw [show ((i.toNat:Nat):Int)=i by omega] at e
  exact e
abbrev Lw (c:Nat):Prop:=97≤c∧c < 123
theorem alph_at {i:Int} (h0:0≤i) (h1:i < 26):∃ c,atI (Str.ofString "abcdefghijklmnopqrstuvwxyz").cps.toList i=some c∧Lw c:=by
  have hl:(Str.ofString "abcdefghijklmnopqrstuvwxyz").cps.toList.length=26:=by decide +kernel
  have hk:i.toNat < (Str.ofString "abcdefghijklmnopqrstuvwxyz").cps.toList.length:=by omega
  have e:=atI_nat (xs:=(Str.ofString "abcdefghijklmnopqrstuvwxyz").cps.toList) (j:=i.toNat) (List.getElem?_eq_getElem hk)
  rw [show ((i.toNat:Nat):Int)=i by omega] at e
  have all:∀ c∈(Str.ofString "abcdefghijklmnopqrstuvwxyz").cps.toList,Lw c:=by decide +kernel
  exact ⟨_,e,all _ (List.getElem_mem hk)⟩
theorem menu {us:List Int} {n lo hi:Int} (h0:0≤n) (h1:n < (us.length:Int)) (hb:∀ v∈us,lo≤v∧v≤hi):∃ v:Int,atI (us.map V.int) n=some (.int v)∧lo≤v∧v≤hi:=by
  refine ⟨_,ints_at h0 h1,?_⟩
  have hk:n.toNat < us.length:=by omega
  rw [List.getD_eq_getElem?_getD,List.getElem?_eq_getElem hk]
  exact hb _ (List.getElem_mem hk)
def sp_prime:Sp:=fun vs H Q _=>∃ z:Int,vs=[.int z]∧∀ (n:Int) (H':Hp),0 < n→n < 2147483648→Same H H'→Q (.int n) H'
theorem has_prime (D:Df K mg "_law_prime" s_law_prime) (B:Blt mg):Has P w K mg base "_law_prime" (k+1) ["at"] sp_prime:=by
  refine D.has sc_law_prime (fun _ _ _ _ _ _ us hl=>match us,hl with | [_],_=>rfl) (fun vs H Q E h=>by obtain ⟨z,rfl,_⟩:=h;rfl) (fun f cdv A outer s H vs Q E hr h=>?_)
  obtain ⟨z,rfl,q⟩:=h
  refine ⟨_,(pss_cons (ps_set (i:=1) sc_law_prime.nd rfl (by first | exact Or.inl rfl | exact Or.inr rfl) (pe_lst (pa_cons pe_int (pa_cons pe_int (pa_cons pe_int (pa_cons pe_int (pa_cons pe_int (pa_cons pe_int (pa_cons pe_int pa_nil)))))))))
  (pss_one (ps_ret (pe_ix ix_list (pe_op op_cat (pv 1) (pe_lst (pa_cons pe_int (pa_cons pe_int (pa_cons pe_int (pa_cons pe_int pa_nil)))))) (pe_op op_mod (pv 0) pe_int) (fun _ _=>rfl))))),?_⟩
  refine ⟨(by show 7≤sizeLine;decide),fun r1 hr1=>?_⟩
  refine ⟨_,rfl,(by show 4≤sizeLine;decide),fun r2 hr2=>?_⟩
  have n12:r1≠r2:=ne_of_none upd_same hr2
  refine ⟨r1,r2,_,_,rfl,rfl,by rw [upd_ne n12];exact upd_same,upd_same,(by show 11≤sizeLine;decide),fun r3 hr3=>?_⟩
  refine ⟨_,rfl,_,_,rfl,rfl,(by decide:(0:Int) < 11),?_⟩
  obtain ⟨v,hv,v0,v1⟩:=menu (us:=[2147483647,2147483629,2147483587,2147483579,2147483563,2147483549,2147483543,2147483497,2147483489,2147483477,2147483423]) (n:=z % 11) (lo:=1) (hi:=2147483647) (Int.emod_nonneg _ (by decide)) (Int.emod_lt_of_pos _ (by decide)) (by decide)
  refine ⟨r3,_,_,_,rfl,rfl,SqL.of upd_same,hv,q v _ (by omega) (by omega) ?_⟩
  exact (((Same.refl H).new hr1).new hr2).new hr3
def sp_pool:Sp:=fun vs H Q _=>∃ cell:Int,vs=[.int cell]∧∀ (p:Addr) (x y:Int),H p=none→Q (.ref p) (upd H p (.lst [.int x,.int y,.int 0]))
theorem has_pool (D:Df K mg "_law_pool" s_law_pool) (B:Blt mg):Has P w K mg base "_law_pool" (k+1) ["cell"] sp_pool:=by
  refine D.has sc_law_pool (fun _ _ _ _ _ _ us hl=>match us,hl with | [_],_=>rfl) (fun vs H Q E h=>by obtain ⟨z,rfl,_⟩:=h;rfl) (fun f cdv A outer s H vs Q E hr h=>?_)
  obtain ⟨cell,rfl,q⟩:=h
  refine ⟨_,(pss_one (ps_ret (pe_lst (pa_cons (pe_callB (call_max2 rfl) rfl B.max bt_max (pa_cons pe_int (pa_cons (pe_op op_sub (pv 0) (pe_op op_pow pe_int pe_int)) pa_nil))) (pa_cons (pv 0) (pa_cons pe_int pa_nil)))))),?_⟩
  refine ⟨_,rfl,_,_,rfl,rfl,⟨by decide,by decide,by decide⟩,_,_,rfl,rfl,_,_,rfl,?_⟩
  exact ⟨_,rfl,(by show 3≤sizeLine;decide),fun p hp=>q p _ _ hp⟩
theorem pow_ok (u n z y:Int) (hn:0 < n) (hn2:n < 2147483648) (z0:0≤z) (z1:z < 1000000):(u % n * (u % n)+69621 * z+y % 65537+1).natAbs < 2 ^ 64:=by
  have o1:=Int.emod_nonneg u (show n≠0 by omega)
  have o2:=Int.emod_lt_of_pos u hn
  generalize u % n=one at o1 o2
  have oo:one * one≤2147483648 * 2147483648:=Int.mul_le_mul (by omega) (by omega) o1 (by decide)
  have oo0:0≤one * one:=Int.mul_nonneg o1 o1
  have w1:=Int.emod_nonneg y (by decide:(65537:Int)≠0)
  have w2:=Int.emod_lt_of_pos y (by decide:(0:Int) < 65537)
  generalize one * one=q1 at oo oo0
  omega
theorem mod_in (u n:Int) (hn:0 < n) (hn2:n < 2147483648):-(2 ^ 64) < u % n∧u % n < 2 ^ 64:=by
  have o1:=Int.emod_nonneg u (show n≠0 by omega)
  have o2:=Int.emod_lt_of_pos u hn
  omega
def sp_take:Sp:=fun vs H Q _=>∃ (p:Addr) (m c:Int),vs=[.ref p,.int m]∧Deck H p c∧c < 1000000∧0 < m∧m < 1073741824∧∀ (n:Int) (H':Hp),0≤n→n < m→Kd p (c+1) H H'→Q (.int n) H'
theorem has_take (D:Df K mg "_law_take" s_law_take) (B:Blt mg) (G_law_prime:Has P w K mg base "_law_prime" k ["at"] sp_prime):Has P w K mg base "_law_take" (k+1) ["pool", "many"] sp_take:=by
  refine D.has sc_law_take (fun _ _ _ _ _ _ us hl=>match us,hl with | [_,_],_=>rfl) (fun vs H Q E h=>by obtain ⟨p,m,c,rfl,_⟩:=h;rfl) (fun f cdv A outer s H vs Q E hr h=>?_)
  obtain ⟨p,m,c,rfl,⟨x,y,z,hp,z0,z1⟩,c6,m0,m1,q⟩:=h
  refine ⟨_,(pss_cons (ps_if (pt_cmpR op_gt (pe_ix ix_list (pv 0) pe_int (fun _ _=>rfl)) pe_int (nomark _))
  (pss_cons (ps_set (i:=2) sc_law_take.nd rfl (by first | exact Or.inl rfl | exact Or.inr rfl) (pe_op op_mod (pe_ix ix_list (pv 0) pe_int (fun _ _=>rfl)) (pv 1)))
  (pss_cons (ps_asg (pe_op op_fdiv (pe_ix ix_list (pv 0) pe_int (fun _ _=>rfl)) (pv 1)) (pg_sub (pv 0) pe_int set_list))
  (pss_one (ps_ret (pv 2)))))
  pss_nil)
  (pss_cons (ps_set (i:=3) sc_law_take.nd rfl (by first | exact Or.inl rfl | exact Or.inr rfl) (pe_ix ix_list (pv 0) pe_int (fun _ _=>rfl)))
  (pss_cons (ps_asg (pe_op op_add (pv 3) pe_int) (pg_sub (pv 0) pe_int set_list))
  (pss_cons (ps_set (i:=4) sc_law_take.nd rfl (by first | exact Or.inl rfl | exact Or.inr rfl) (pe_op op_mod (pe_op op_pow (pe_op op_add (pe_op op_add (pe_op op_mod (pe_ix ix_list (pv 0) pe_int (fun _ _=>rfl)) pe_int) (pe_op op_mul pe_int (pv 3))) pe_int) pe_int) (pe_callH G_law_prime hr rfl (pa_cons (pv 3) pa_nil))))
  (pss_cons (ps_set (i:=5) sc_law_take.nd rfl (by first | exact Or.inl rfl | exact Or.inr rfl) (pe_op op_mod (pe_op op_pow (pe_op op_add (pe_op op_add (pe_op op_add (pe_op op_mul (pv 4) (pv 4)) (pe_op op_mul pe_int (pv 3))) (pe_op op_mod (pe_ix ix_list (pv 0) pe_int (fun _ _=>rfl)) pe_int)) pe_int) pe_int) (pe_callH G_law_prime hr rfl (pa_cons (pe_op op_add (pv 3) pe_int) pa_nil))))
  (pss_one (ps_ret (pe_op op_mod (pe_op op_fdiv (pe_op op_mod (pe_op op_add (pe_op op_mul (pv 5) pe_int) (pv 4)) (pe_callH G_law_prime hr rfl (pa_cons (pe_op op_add (pv 3) pe_int) pa_nil))) pe_int) (pv 1))))))))),?_⟩
  refine ⟨_,rfl,p,_,_,_,rfl,rfl,SqL.of hp,rfl,_,_,rfl,rfl,_,rfl,ite2 (fun cnd=>?_) (fun cnd=>?_)⟩
  · refine ⟨_,rfl,p,_,_,_,rfl,rfl,SqL.of hp,rfl,_,rfl,_,_,rfl,rfl,m0,?_⟩
    refine ⟨_,rfl,p,_,_,_,rfl,rfl,SqL.of hp,rfl,_,rfl,_,_,rfl,rfl,⟨m0,m1⟩,?_⟩
    refine ⟨_,rfl,p,_,_,0,rfl,rfl,hp,rfl,_,rfl,?_⟩
    exact q _ _ (Int.emod_nonneg _ (by omega)) (Int.emod_lt_of_pos _ m0) ⟨⟨_,y,z,upd_same,z0,by omega⟩,fun b o hb e=>by rw [upd_ne hb];exact e⟩
  · refine ⟨_,rfl,p,_,_,_,rfl,rfl,SqL.of hp,rfl,_,rfl,_,_,rfl,rfl,?_⟩
    refine ⟨_,rfl,p,_,_,2,rfl,rfl,hp,rfl,?_⟩
    have hp':upd H p (.lst [.int x,.int y,.int (z+1)]) p=some (.lst [.int x,.int y,.int (z+1)]):=upd_same
    have kd:Kd p (c+1) H (upd H p (.lst [.int x,.int y,.int (z+1)])):=⟨⟨x,y,z+1,upd_same,by omega,by omega⟩,fun b o hb e=>by rw [upd_ne hb];exact e⟩
    have y1:=Int.emod_nonneg y (by decide:(2147483399:Int)≠0)
    have y2:=Int.emod_lt_of_pos y (by decide:(0:Int) < 2147483399)
    refine ⟨_,rfl,p,_,_,_,rfl,rfl,SqL.of hp',rfl,_,_,rfl,rfl,(by decide:(0:Int) < 2147483399),_,rfl,_,_,rfl,rfl,.inl ⟨by decide,by decide⟩,_,_,rfl,rfl,_,_,rfl,rfl,_,_,rfl,rfl,⟨by decide,by decide,by omega⟩,?_⟩
    refine ⟨_,rfl,z,rfl,fun n1 H1 a0 a1 s1=>⟨_,_,rfl,rfl,a0,?_⟩⟩
    have hp1:=s1 _ _ hp'
    refine ⟨_,rfl,_,rfl,_,_,rfl,rfl,.inl (mod_in _ _ a0 a1),_,rfl,_,_,rfl,rfl,.inl ⟨by decide,by decide⟩,_,_,rfl,rfl,_,rfl,p,_,_,_,rfl,rfl,SqL.of hp1,rfl,_,_,rfl,rfl,(by decide:(0:Int) < 65537),_,_,rfl,rfl,_,_,rfl,rfl,_,_,rfl,rfl,⟨by decide,by decide,pow_ok _ _ _ _ a0 a1 z0 (by omega)⟩,?_⟩
    refine ⟨_,rfl,_,_,rfl,rfl,z+4,rfl,fun n2 H2 b0 b1 s2=>⟨_,_,rfl,rfl,b0,?_⟩⟩
    refine ⟨_,rfl,_,_,rfl,rfl,.inr ⟨by decide,by decide⟩,_,rfl,_,_,rfl,rfl,_,rfl,_,_,rfl,rfl,z+7,rfl,fun n3 H3 d0 d1 s3=>⟨_,_,rfl,rfl,d0,?_⟩⟩
    refine ⟨_,_,rfl,rfl,⟨by decide,by decide⟩,_,rfl,_,_,rfl,rfl,m0,?_⟩
    exact q _ _ (Int.emod_nonneg _ (by omega)) (Int.emod_lt_of_pos _ m0) (((kd.same s1).same s2).same s3)
def sp_letter:Sp:=fun vs H Q _=>∃ (p b:Addr) (c b0 b1:Int),vs=[.ref p,.ref b]∧Deck H p c∧c < 1000000∧H b=some (.tup [.int b0,.int b1])∧0 < b1∧b1≤26∧∀ (ch:Nat) (H':Hp),Lw ch→Kd p (c+1) H H'→Q (.str ⟨#[ch]⟩) H'
theorem has_letter (D:Df K mg "_law_letter" s_law_letter) (B:Blt mg) (G_law_take:Has P w K mg base "_law_take" k ["pool", "many"] sp_take):Has P w K mg base "_law_letter" (k+1) ["pool", "base"] sp_letter:=by
  refine D.has sc_law_letter (fun _ _ _ _ _ _ us hl=>match us,hl with | [_,_],_=>rfl) (fun vs H Q E h=>by obtain ⟨p,b,c,b0,b1,rfl,_⟩:=h;rfl) (fun f cdv A outer s H vs Q E hr h=>?_)
  obtain ⟨p,b,c,b0,b1,rfl,hd,c6,hb,p0,p1,q⟩:=h
  refine ⟨_,(pss_one (ps_ret (pe_ix ix_str pe_str (pe_op op_mod (pe_op op_add (pe_ix ix_tup (pv 1) pe_int (fun _ _=>rfl)) (pe_op op_mul pe_int (pe_callH G_law_take hr rfl (pa_cons (pv 0) (pa_cons (pe_ix ix_tup (pv 1) pe_int (fun _ _=>rfl)) pa_nil))))) pe_int) (fun _ _=>rfl)))),?_⟩
  have hl:(Str.ofString "abcdefghijklmnopqrstuvwxyz").length=26:=by decide +kernel
  refine ⟨_,rfl,b,_,_,_,rfl,rfl,SqT.of hb,rfl,_,rfl,_,rfl,b,_,_,_,rfl,rfl,SqT.of hb,rfl,p,b1,c,rfl,hd,c6,p0,by omega,fun n H1 n0 n1 kd=>?_⟩
  obtain ⟨ch,hch,chl⟩:=alph_at (i:=(b0+5 * n) % 26) (Int.emod_nonneg _ (by decide)) (Int.emod_lt_of_pos _ (by decide))
  refine ⟨_,_,rfl,rfl,.inl ⟨by decide,by decide⟩,_,_,rfl,rfl,_,_,rfl,rfl,(by decide:(0:Int) < 26),_,_,_,rfl,rfl,by rw [hl];exact Nat.le_of_lt (small1000 (by decide)),hch,q ch H1 chl kd⟩
def wordsV (ups:List Int) (lab:Str) (n:Nat):List V:=(List.range n).map fun j=>.str (mk (W ups lab.cps.toList j))
def sp_words:Sp:=fun vs H Q _=>∃ (t:Addr) (ups:List Int) (lab:Str),vs=[.ref t]∧TreeAt H t ups lab∧∀ (q:Addr) (H':Hp),Same H H'→H' q=some (.lst (wordsV ups lab ups.length))→Q (.ref q) H'
theorem has_words (D:Df K mg "words_of" s_words_of) (B:Blt mg):Has P w K mg base "words_of" (k+1) ["tree"] sp_words:=by
  refine D.has sc_words_of (fun _ _ _ _ _ _ us hl=>match us,hl with | [_],_=>rfl) (fun vs H Q E h=>by obtain ⟨t,ups,lab,rfl,_⟩:=h;rfl) (fun f cdv A outer s H vs Q E hr h=>?_)
  obtain ⟨t,ups,lab,rfl,⟨u,ht,hu,ok⟩,q⟩:=h
  refine ⟨_,(pss_cons (ps_set (i:=1) sc_words_of.nd rfl (by first | exact Or.inl rfl | exact Or.inr rfl) (pe_lst pa_nil))
  (pss_cons (ps_for PassesOwn.never rfl (pi_zip rfl B.zip (pa_cons (pe_ix ix_tup (pv 0) pe_int (fun _ _=>rfl)) (pa_cons (pe_ix ix_tup (pv 0) pe_int (fun _ _=>rfl)) pa_nil))) (pg_tup rfl (pgs_cons (pg_name (i:=2) sc_words_of.nd rfl (by first | exact Or.inl rfl | exact Or.inr rfl)) (pgs_cons (pg_name (i:=3) sc_words_of.nd rfl (by first | exact Or.inl rfl | exact Or.inr rfl)) pgs_nil)))
  (pss_one (ps_expr (pe_bm PySem.F.plainAttrs_list PySem.F.slot_list_append PySem.F.type_list_append mt_append (pv 1) (pa_cons (pe_ifExp (pt_cmpR op_eq (pv 3) (pe_un un_neg pe_int) (nomark _)) (pv 2) (pe_op op_add_str (pv 2) (pe_ix ix_list (pv 1) (pv 3) (fun _ _=>rfl)))) pa_nil)))))
  (pss_one (ps_ret (pv 1))))),?_⟩
  have hlen:(signs lab).length=(ups.map V.int).length:=by rw [List.length_map,ok.len];simp [signs]
  refine ⟨(by show 0≤sizeLine;decide),fun r hr0=>?_⟩
  have s0:Same H (upd H r (.lst [])):=(Same.refl H).new hr0
  refine ⟨_,rfl,t,_,_,_,rfl,rfl,SqT.of (s0 _ _ ht),rfl,_,rfl,t,_,_,_,rfl,rfl,SqT.of (s0 _ _ ht),rfl,.str lab,.tup u,rfl,⟨_,rfl⟩,⟨_,.inl (s0 _ _ hu)⟩,?_⟩
  refine for_zip (xs:=signs lab) (ys:=ups.map V.int) (fun i σ H'=>∃ o1 o2:Option V,σ=[some (.ref t),some (.ref r),o1,o2]∧Same H H'∧H' r=some (.lst (wordsV ups lab i))) ⟨none,none,rfl,s0,upd_same⟩ hlen
    (fun i σ H' hi h=>by obtain ⟨o1,o2,_,s1,_⟩:=h;exact ⟨rfl,.inl (s1 _ _ hu)⟩) ?_ ?_
  · rintro i x y σ H' p hx hy ⟨o1,o2,rfl,s1,hr1⟩ hp
    obtain ⟨c,hc,rfl⟩:∃ c,lab.cps.toList[i]?=some c∧x=.str ⟨#[c]⟩:=by
      simp only [signs,List.getElem?_map] at hx
      cases e:lab.cps.toList[i]? with
      | none=>rw [e] at hx;cases hx
      | some c=>rw [e] at hx;exact ⟨c,rfl,(Option.some.inj hx).symm⟩
    obtain ⟨v,hv,rfl⟩:∃ v,ups[i]?=some v∧y=.int v:=by
      simp only [List.getElem?_map] at hy
      cases e:ups[i]? with
      | none=>rw [e] at hy;cases hy
      | some v=>rw [e] at hy;exact ⟨v,rfl,(Option.some.inj hy).symm⟩
    have hi:i < ups.length:=(List.getElem?_eq_some_iff.mp hv).1
    have ev:ups.getD i 0=v:=by rw [List.getD_eq_getElem?_getD,hv];rfl
    have ec:lab.cps.toList.getD i 0=c:=by rw [List.getD_eq_getElem?_getD,hc];rfl
    have hm:=ok.most
    have s2:Same H (upd H' p (.tup [.str ⟨#[c]⟩,.int v])):=s1.new hp
    have hr2:upd H' p (.tup [.str ⟨#[c]⟩,.int v]) r=some (.lst (wordsV ups lab i)):=by rw [upd_ne (ne_of_none hr1 hp)];exact hr1
    have wl:(wordsV ups lab i).length=i:=by simp [wordsV]
    have step:wordsV ups lab (i+1)=wordsV ups lab i++[.str (mk (W ups lab.cps.toList i))]:=by
      unfold wordsV
      rw [List.range_succ,List.map_append];rfl
    refine ⟨p,_,rfl,SqT.of upd_same,rfl,_,_,rfl,_,_,rfl,rfl,?_⟩
    refine ⟨_,rfl,.inl ⟨rfl,_,SqL.of hr2⟩,_,rfl,_,rfl,rfl,_,rfl,ite2 (fun cnd=>?_) (fun cnd=>?_)⟩
    · have e1:V.int v=V.int (-1):=of_decide_eq_true cnd
      have e2:v=-1:=by injection e1
      have ew:W ups lab.cps.toList i=[c]:=by rw [W_eq ok hi,ev,ec,if_pos (by omega)]
      refine ⟨_,rfl,r,_,_,rfl,rfl,hr2,by rw [wl];exact small1000 (by omega),⟨_,_,rfl,s2.write hr0,?_⟩⟩
      rw [upd_same,step,ew]
      rfl
    · have e1:¬ V.int v=V.int (-1):=of_decide_eq_false (Bool.eq_false_iff.mpr cnd)
      have e2:v≠-1:=fun z=>e1 (by rw [z])
      have e3:¬ v < 0:=by
        have:=ok.neg hi
        rw [ev] at this
        omega
      have lt:=ok.lt hi (by rw [ev];exact e3)
      rw [ev] at lt
      have hat:atI (wordsV ups lab i) v=some (.str (mk (W ups lab.cps.toList v.toNat))):=by
        have e:atI (wordsV ups lab i) ((v.toNat:Nat):Int)=some (.str (mk (W ups lab.cps.toList v.toNat))):=atI_nat (by
          unfold wordsV
          rw [List.getElem?_map,List.getElem?_range lt];rfl)
        rw [show ((v.toNat:Nat):Int)=v by omega] at e
        exact e
      have wle:=W_len ok (v.toNat+1) v.toNat (by omega) (by omega)
      have ew:W ups lab.cps.toList i=c :: W ups lab.cps.toList v.toNat:=by rw [W_eq ok hi,ev,ec,if_neg e3]
      refine ⟨_,rfl,_,rfl,_,rfl,r,_,_,_,rfl,rfl,SqL.of hr2,hat,_,_,rfl,rfl,?_,r,_,_,rfl,rfl,hr2,by rw [wl];exact small1000 (by omega),⟨_,_,rfl,s2.write hr0,?_⟩⟩
      · rw [mk_len]
        have:(⟨#[c]⟩:Str).length=1:=rfl
        rw [this]
        exact Nat.le_of_lt (small1000 (by omega))
      · rw [upd_same,step,ew,mk_app]
  · rintro σ H' ⟨o1,o2,rfl,s1,hr1⟩
    refine ⟨_,rfl,q r H' s1 ?_⟩
    rw [hr1]
    congr 2
    simp [signs,ok.len]
def sp_lword:Sp:=fun vs H Q _=>∃ (t:Addr) (ups:List Int) (lab:Str) (i:Int),vs=[.ref t,.int i]∧TreeAt H t ups lab∧i < (ups.length:Int)∧Q (.str (mk (R ups lab.cps.toList i))) H
theorem has_lword (D:Df K mg "_law_word" s_law_word) (B:Blt mg):Has P w K mg base "_law_word" (k+1) ["tree", "place"] sp_lword:=by
  refine D.has sc_law_word (fun _ _ _ _ _ _ us hl=>match us,hl with | [_,_],_=>rfl) (fun vs H Q E h=>by obtain ⟨t,ups,lab,i,rfl,_⟩:=h;rfl) (fun f cdv A outer s H vs Q E hr h=>?_)
  obtain ⟨t,ups,lab,i,rfl,⟨u,ht,hu,ok⟩,hi,q⟩:=h
  refine ⟨_,(pss_cons (ps_set (i:=2) sc_law_word.nd rfl (by first | exact Or.inl rfl | exact Or.inr rfl) pe_str)
  (pss_cons (ps_while PassesOwn.never (pt_cmpR op_ge (pv 1) pe_int (nomark _))
  (pss_cons (ps_set (i:=2) sc_law_word.nd rfl (by first | exact Or.inl rfl | exact Or.inr rfl) (pe_op op_add_str (pv 2) (pe_ix ix_str (pe_ix ix_tup (pv 0) pe_int (fun _ _=>rfl)) (pv 1) (fun _ _=>rfl))))
  (pss_one (ps_set (i:=1) sc_law_word.nd rfl (by first | exact Or.inl rfl | exact Or.inr rfl) (pe_ix ix_tup (pe_ix ix_tup (pv 0) pe_int (fun _ _=>rfl)) (pv 1) (fun _ _=>rfl))))))
  (pss_one (ps_ret (pv 2))))),?_⟩
  have hm:=ok.most
  refine while_by (fun σ H'=>H'=H∧∃ (j:Int) (l:List Nat),σ=[some (.ref t),some (.int j),some (.str (mk l))]∧j < (ups.length:Int)∧l++R ups lab.cps.toList j=R ups lab.cps.toList i∧l.length+(j+1).toNat≤60)
    (fun σ _=>match σ with | [_,some (.int j),_]=>(j+1).toNat | _=>0) ⟨rfl,i,[],rfl,hi,rfl,by simp;omega⟩ ?_ (fun σ H Q Q' h ⟨v,e,i,j,e1,e2,k,e3,q⟩=>⟨v,e,i,j,e1,e2,k,e3,h _ _ q⟩)
  rintro σ H' ⟨rfl,j,l,rfl,hj,hl,hlen⟩
  refine ⟨_,rfl,_,_,rfl,rfl,_,rfl,ite2 (fun c=>?_) (fun c=>?_)⟩
  · have c':0≤j:=of_decide_eq_true c
    have hk:j.toNat < ups.length:=by omega
    have hk2:j.toNat < lab.cps.toList.length:=by rw [← ok.len];exact hk
    have e1:atI lab.cps.toList j=some lab.cps.toList[j.toNat]:=by
      have e:=atI_nat (xs:=lab.cps.toList) (j:=j.toNat) (List.getElem?_eq_getElem hk2)
      rw [show ((j.toNat:Nat):Int)=j by omega] at e
      exact e
    have e2:atI (ups.map V.int) j=some (.int ups[j.toNat]):=by
      have e:=atI_nat (xs:=ups.map V.int) (j:=j.toNat) (v:=.int ups[j.toNat]) (by rw [List.getElem?_map,List.getElem?_eq_getElem hk];rfl)
      rw [show ((j.toNat:Nat):Int)=j by omega] at e
      exact e
    have g1:lab.cps.toList.getD j.toNat 0=lab.cps.toList[j.toNat]:=by rw [List.getD_eq_getElem?_getD,List.getElem?_eq_getElem hk2];rfl
    have g2:ups.getD j.toNat 0=ups[j.toNat]:=by rw [List.getD_eq_getElem?_getD,List.getElem?_eq_getElem hk];rfl
    have st:=R_step ok c' hj
    rw [g1,g2] at st
    have lt:ups[j.toNat] < j:=by
      rcases Nat.eq_zero_or_pos j.toNat with z | z
      · have:=ok.root
        rw [← z,g2] at this
        omega
      · have:=ok.up j.toNat z hk
        rw [g2] at this
        omega
    have hlab:lab.length=ups.length:=by rw [ok.len];simp [Str.length]
    refine ⟨_,rfl,_,rfl,t,_,_,_,rfl,rfl,SqT.of ht,rfl,_,rfl,_,_,_,rfl,rfl,by rw [hlab];exact Nat.le_of_lt (small1000 (by omega)),e1,_,_,rfl,rfl,?_,?_⟩
    · rw [mk_len]
      have:(⟨#[lab.cps.toList[j.toNat]]⟩:Str).length=1:=rfl
      rw [this]
      exact Nat.le_of_lt (small1000 (by omega))
    · refine ⟨_,rfl,t,_,_,_,rfl,rfl,SqT.of ht,rfl,_,rfl,u,_,_,_,rfl,rfl,SqT.of hu,e2,?_⟩
      refine ⟨⟨rfl,ups[j.toNat],l++[lab.cps.toList[j.toNat]],?_,by omega,?_,?_⟩,?_⟩
      · have:mk l++(⟨#[lab.cps.toList[j.toNat]]⟩:Str)=mk (l++[lab.cps.toList[j.toNat]]):=by
          apply str_ext;rw [app_list];rfl
        rw [this];rfl
      · rw [List.append_assoc,← hl,st];rfl
      · simp only [List.length_append,List.length_singleton];omega
      · show (ups[j.toNat]+1).toNat < (j+1).toNat
        omega
  · have c':¬ 0≤j:=of_decide_eq_false (Bool.eq_false_iff.mpr c)
    have e:l=R ups lab.cps.toList i:=by
      rw [← hl];unfold R;rw [if_pos (show j < 0 by omega),List.append_nil]
    refine ⟨_,rfl,?_⟩
    rw [e]
    exact q
end
end S73
namespace S73
open PySem L2 W7
section
variable {P:Program} {w:World} {K:PySem.W.Frag} {mg:Str→Option Value} {base:Heap} {k:Nat}
def stepUp (us:List Int) (p:Int):Int:=if us.getD p.toNat 0 > 0 then us.getD p.toNat 0 else 0
def climb (us:List Int):Nat→Int→Int
  | 0,p=>p
  | n+1,p=>stepUp us (climb us n p)
structure GrOk (us:List Int):Prop where
  road:∀ k,0 < k→k < us.length→∃ n,climb us n ((k:Int) - 1)=us.getD k 0
  pos:0 < us.length
  root:us.getD 0 0=-1
  up:∀ k,0 < k→k < us.length→0≤us.getD k 0∧us.getD k 0 < (k:Int)
theorem getD_app {us vs:List Int} {j:Nat}:(us++vs).getD j 0=if j < us.length then us.getD j 0 else vs.getD (j - us.length) 0:=by
  simp only [List.getD_eq_getElem?_getD]
  split
  · rename_i h;rw [List.getElem?_append_left h]
  · rename_i h;rw [List.getElem?_append_right (by omega)]
theorem GrOk.climb {us:List Int} (g:GrOk us) (v:Int) {p:Int} (h0:0≤p) (h1:p < (us.length:Int)):∀ n,climb (us++[v]) n p=climb us n p∧0≤climb us n p∧climb us n p < (us.length:Int)
  | 0=>⟨rfl,h0,h1⟩
  | n+1=>by
    obtain ⟨a,b,c⟩:=g.climb v h0 h1 n
    have lt:(S73.climb us n p).toNat < us.length:=by omega
    have e:(us++[v]).getD (S73.climb us n p).toNat 0=us.getD (S73.climb us n p).toNat 0:=by rw [getD_app,if_pos lt]
    refine ⟨?_,?_⟩
    · show stepUp (us++[v]) (S73.climb (us++[v]) n p)=stepUp us (S73.climb us n p)
      rw [a];unfold stepUp;rw [e]
    · show 0≤stepUp us (S73.climb us n p)∧stepUp us (S73.climb us n p) < (us.length:Int)
      have pos:=g.pos
      unfold stepUp
      rcases Nat.eq_zero_or_pos (S73.climb us n p).toNat with z | z
      · rw [z,g.root];exact ⟨by decide,by show (0:Int) < _;omega⟩
      · have:=g.up _ z lt
        split <;> omega
theorem GrOk.snoc {us:List Int} (g:GrOk us) {v:Int} (h0:0≤v) (h1:v < (us.length:Int)) (hr:∃ n,S73.climb us n ((us.length:Int) - 1)=v):GrOk (us++[v]) where
  road:=fun j hj hl=>by
    rw [List.length_append,List.length_singleton] at hl
    rw [getD_app]
    have pos:=g.pos
    split
    · rename_i h
      obtain ⟨n,e⟩:=g.road j hj h
      exact ⟨n,((g.climb v (by omega) (by omega) n).1).trans e⟩
    · rename_i h
      have e:j=us.length:=by omega
      subst e
      obtain ⟨n,e⟩:=hr
      rw [Nat.sub_self]
      exact ⟨n,((g.climb v (by omega) (by omega) n).1).trans e⟩
  pos:=by rw [List.length_append];have:=g.pos;omega
  root:=by rw [getD_app,if_pos g.pos];exact g.root
  up:=fun j hj hl=>by
    rw [List.length_append,List.length_singleton] at hl
    rw [getD_app]
    split
    · rename_i h;exact g.up j hj h
    · rename_i h
      have e:j=us.length:=by omega
      subst e
      rw [Nat.sub_self]
      exact ⟨h0,h1⟩
theorem GrOk.one:GrOk [-1]:=⟨fun j h0 h1=>by
  have:j < 1:=h1
  omega,by decide,rfl,fun j h0 h1=>by
  have:j < 1:=h1
  omega⟩
theorem mem_getD {us:List Int} {j:Nat} (h:j < us.length):us.getD j 0∈us:=by
  rw [List.getD_eq_getElem?_getD,List.getElem?_eq_getElem h]
  exact List.getElem_mem h
theorem gr_tree {us:List Int} {ls:List Nat} (g:GrOk us) (hl:us.length=ls.length) (h60:us.length≤60):TreeOk us (mk ls).cps.toList:=⟨by rw [mk_cps];exact hl,g.pos,h60,g.root,g.up⟩
structure Fine (ups:List Int) (lab:Str):Prop where
  low:∀ c∈lab.cps.toList,Lw c
  road:∀ k,0 < k→k < ups.length→∃ n,climb ups n ((k:Int) - 1)=ups.getD k 0
theorem low_app {cs:List Nat} {c:Nat} (h:∀ x∈cs,Lw x) (hc:Lw c):∀ x∈cs++[c],Lw x:=fun x hx=>by
  rcases List.mem_append.mp hx with z | z
  · exact h x z
  · obtain rfl:=List.mem_singleton.mp z;exact hc
def sp_tree:Sp:=fun vs H Q _=>∃ (p:Addr) (most c:Int),vs=[.ref p,.int most]∧Deck H p c∧0≤c∧c < 900000∧1≤most∧most≤60∧∀ (t:Addr) (ups:List Int) (lab:Str) (H':Hp),Kd p (c+400) H H'→TreeAt H' t ups lab→Fine ups lab→Q (.ref t) H'
theorem has_tree (D:Df K mg "_law_tree" s_law_tree) (B:Blt mg) (G_law_take:Has P w K mg base "_law_take" k ["pool", "many"] sp_take) (G_law_letter:Has P w K mg base "_law_letter" k ["pool", "base"] sp_letter):Has P w K mg base "_law_tree" (k+1) ["pool", "most"] sp_tree:=by
  refine D.has sc_law_tree (fun _ _ _ _ _ _ us hl=>match us,hl with | [_,_],_=>rfl) (fun vs H Q E h=>by obtain ⟨p,m,c,rfl,_⟩:=h;rfl) (fun f cdv A outer s H vs Q E hr h=>?_)
  obtain ⟨p,most,c,rfl,hd,cc0,cc1,ms1,ms60,q⟩:=h
  refine ⟨_,(pss_cons (ps_set (i:=2) sc_law_tree.nd rfl (by first | exact Or.inl rfl | exact Or.inr rfl) (pe_ix ix_list (pe_lst (pa_cons (pe_op op_add pe_int (pe_callH G_law_take hr rfl (pa_cons (pv 0) (pa_cons (pv 1) pa_nil)))) (pa_cons (pv 1) (pa_cons (pe_op op_add pe_int (pe_callH G_law_take hr rfl (pa_cons (pv 0) (pa_cons (pe_callB (call_min2 rfl) rfl B.min bt_min (pa_cons (pv 1) (pa_cons pe_int pa_nil))) pa_nil)))) pa_nil)))) (pe_callH G_law_take hr rfl (pa_cons (pv 0) (pa_cons pe_int pa_nil))) (fun _ _=>rfl)))
  (pss_cons (ps_set (i:=3) sc_law_tree.nd rfl (by first | exact Or.inl rfl | exact Or.inr rfl) (pe_tup (pa_cons (pe_callH G_law_take hr rfl (pa_cons (pv 0) (pa_cons pe_int pa_nil))) (pa_cons (pe_ix ix_list (pe_lst (pa_cons pe_int (pa_cons pe_int (pa_cons pe_int (pa_cons pe_int pa_nil))))) (pe_callH G_law_take hr rfl (pa_cons (pv 0) (pa_cons pe_int pa_nil))) (fun _ _=>rfl)) pa_nil))))
  (pss_cons (ps_set (i:=4) sc_law_tree.nd rfl (by first | exact Or.inl rfl | exact Or.inr rfl) (pe_callH G_law_take hr rfl (pa_cons (pv 0) (pa_cons pe_int pa_nil))))
  (pss_cons (ps_set (i:=5) sc_law_tree.nd rfl (by first | exact Or.inl rfl | exact Or.inr rfl) (pe_op op_add pe_int (pe_callH G_law_take hr rfl (pa_cons (pv 0) (pa_cons pe_int pa_nil)))))
  (pss_cons (ps_comp (i:=6) sc_law_tree.nd rfl (by first | exact Or.inl rfl | exact Or.inr rfl) rfl (pi_range1 rfl B.range (pa_cons (pv 5) pa_nil)) (NL:=["k"]) (ix:=[0]) (csc (defScope s_law_tree) N_law_tree) (fun cl C s₃ H₃ fp pins=>⟨(pg_name (i:=0) (show List.Nodup (["k", "pool"]:List Str) from by decide +kernel) rfl (by first | exact Or.inl rfl | exact Or.inr rfl)),pifs_nil,(pe_callH G_law_take hr rfl (pa_cons (pv 1) (pa_cons pe_int pa_nil)))⟩))
  (pss_cons (ps_comp (i:=7) sc_law_tree.nd rfl (by first | exact Or.inl rfl | exact Or.inr rfl) rfl (pi_range1 rfl B.range (pa_cons (pv 5) pa_nil)) (NL:=["k"]) (ix:=[0,3]) (csc (defScope s_law_tree) N_law_tree) (fun cl C s₃ H₃ fp pins=>⟨(pg_name (i:=0) (show List.Nodup (["k", "pool", "base"]:List Str) from by decide +kernel) rfl (by first | exact Or.inl rfl | exact Or.inr rfl)),pifs_nil,(pe_callH G_law_letter hr rfl (pa_cons (pv 1) (pa_cons (pv 2) pa_nil)))⟩))
  (pss_cons (ps_set (i:=8) sc_law_tree.nd rfl (by first | exact Or.inl rfl | exact Or.inr rfl) (pe_lst (pa_cons (pe_op op_sub pe_int pe_int) pa_nil)))
  (pss_cons (ps_set (i:=9) sc_law_tree.nd rfl (by first | exact Or.inl rfl | exact Or.inr rfl) (pe_callH G_law_letter hr rfl (pa_cons (pv 0) (pa_cons (pv 3) pa_nil))))
  (pss_cons (ps_for PassesOwn.never rfl (pi_range2 rfl B.range (pa_cons pe_int (pa_cons (pv 2) pa_nil))) (pg_name (i:=10) sc_law_tree.nd rfl (by first | exact Or.inl rfl | exact Or.inr rfl))
  (pss_cons (ps_set (i:=11) sc_law_tree.nd rfl (by first | exact Or.inl rfl | exact Or.inr rfl) (pe_lst (pa_cons pe_int (pa_cons pe_int (pa_cons (pe_op op_mod (pv 10) pe_int) (pa_cons (pe_callH G_law_take hr rfl (pa_cons (pv 0) (pa_cons pe_int pa_nil))) (pa_cons (pe_callH G_law_take hr rfl (pa_cons (pv 0) (pa_cons pe_int pa_nil))) pa_nil)))))))
  (pss_cons (ps_set (i:=11) sc_law_tree.nd rfl (by first | exact Or.inl rfl | exact Or.inr rfl) (pe_op op_cat (pv 11) (pe_lst (pa_cons (pe_ix ix_list (pv 6) (pe_op op_mod (pv 10) (pv 5)) (fun _ _=>rfl)) (pa_cons (pe_callH G_law_take hr rfl (pa_cons (pv 0) (pa_cons pe_int pa_nil))) (pa_cons (pe_op op_mul pe_int (pe_callH G_law_take hr rfl (pa_cons (pv 0) (pa_cons pe_int pa_nil)))) pa_nil))))))
  (pss_cons (ps_set (i:=12) sc_law_tree.nd rfl (by first | exact Or.inl rfl | exact Or.inr rfl) (pe_op op_sub (pv 10) pe_int))
  (pss_cons (ps_for PassesOwn.never rfl (pi_range1 rfl B.range (pa_cons (pe_ix ix_list (pv 11) (pv 4) (fun _ _=>rfl)) pa_nil)) (pg_name (i:=13) sc_law_tree.nd rfl (by first | exact Or.inl rfl | exact Or.inr rfl))
  (pss_one (ps_set (i:=12) sc_law_tree.nd rfl (by first | exact Or.inl rfl | exact Or.inr rfl) (pe_callB (call_max2 rfl) rfl B.max bt_max (pa_cons pe_int (pa_cons (pe_ix ix_list (pv 8) (pv 12) (fun _ _=>rfl)) pa_nil))))))
  (pss_cons (ps_expr (pe_bm PySem.F.plainAttrs_list PySem.F.slot_list_append PySem.F.type_list_append mt_append (pv 8) (pa_cons (pv 12) pa_nil)))
  (pss_one (ps_set (i:=9) sc_law_tree.nd rfl (by first | exact Or.inl rfl | exact Or.inr rfl) (pe_op op_add_str (pv 9) (pe_ix ix_list (pe_lst (pa_cons (pe_callH G_law_letter hr rfl (pa_cons (pv 0) (pa_cons (pv 3) pa_nil))) (pa_cons (pe_ix ix_list (pv 7) (pe_op op_mod (pv 10) (pv 5)) (fun _ _=>rfl)) pa_nil))) (pe_callTy call_int1 rfl B.int_ bt_int (pa_cons (pe_cmpR op_eq (pv 4) pe_int (nomark _)) pa_nil)) (fun _ _=>rfl)))))))))))
  (pss_one (ps_ret (pe_tup (pa_cons (pe_callTy call_tuple_of rfl B.tuple_ bt_tuple (pa_cons (pv 8) pa_nil)) (pa_cons (pv 9) pa_nil)))))))))))))),?_⟩
  refine ⟨_,rfl,_,rfl,p,most,c,rfl,hd,by omega,by omega,by omega,fun n1 H1 a0 a1 kd1=>?_⟩
  refine ⟨_,_,rfl,rfl,_,rfl,_,rfl,_,rfl,_,_,rfl,p,_,c+1,rfl,kd1.deck,by omega,?_,?_,fun n2 H2 b0 b1 kd2=>?_⟩
  · split <;> omega
  · split <;> omega
  have b2:n2 < 7∧n2 < most:=by
    revert b1;split <;> omega
  refine ⟨_,_,rfl,rfl,(by show 3≤sizeLine;decide),fun r1 hr1=>?_⟩
  have kq2:=((kd1.trans kd2).new (o:=.lst [.int (1+n1),.int most,.int (1+n2)]) hr1)
  refine ⟨_,rfl,p,3,_,rfl,kq2.deck,by omega,by decide,by decide,fun n3 H3 d0 d1 kd3=>?_⟩
  have ku3:=kq2.trans kd3
  obtain ⟨many,hmany,mn1,mn60⟩:∃ v:Int,atI [V.int (1+n1),.int most,.int (1+n2)] n3=some (.int v)∧1≤v∧v≤60:=by
    have:n3=0∨n3=1∨n3=2:=by omega
    rcases this with rfl | rfl | rfl
    · exact ⟨_,rfl,by omega,by omega⟩
    · exact ⟨_,rfl,by omega,by omega⟩
    · exact ⟨_,rfl,by omega,by omega⟩
  refine ⟨r1,_,_,_,rfl,rfl,SqL.of (kd3.keep _ _ (kd2.deck.ne hr1) upd_same),hmany,?_⟩
  refine ⟨_,rfl,p,26,_,rfl,ku3.deck,by omega,by decide,by decide,fun b0' H4 e0 e1 kd4=>?_⟩
  have ku4:=ku3.trans kd4
  refine ⟨(by show 4≤sizeLine;decide),fun r2 hr2=>?_⟩
  have kq4:=ku4.new (o:=.lst [.int 1,.int 2,.int 3,.int 26]) hr2
  refine ⟨_,rfl,p,4,_,rfl,kq4.deck,by omega,by decide,by decide,fun n5 H5 f0 f1 kd5=>?_⟩
  have ku5:=kq4.trans kd5
  obtain ⟨bb,hbb,bb1,bb26⟩:=menu (us:=[1,2,3,26]) (n:=n5) (lo:=1) (hi:=26) f0 f1 (by decide)
  refine ⟨r2,_,_,_,rfl,rfl,SqL.of (kd5.keep _ _ (ku4.deck.ne hr2) upd_same),hbb,(by show 2≤sizeLine;decide),fun bs hbs=>?_⟩
  have hHbs:H bs=none:=ku5.fresh hbs
  have bsp:bs≠p:=ku5.deck.ne hbs
  have kq5:=(ku5.new (o:=.tup [.int b0',.int bb]) hbs).mono (show _≤c+5 by omega)
  have hb5:upd H5 bs (.tup [.int b0',.int bb]) bs=some (.tup [.int b0',.int bb]):=upd_same
  generalize upd H5 bs (.tup [.int b0',.int bb])=Hb at kq5 hb5
  refine ⟨_,rfl,p,8,_,rfl,kq5.deck,by omega,by decide,by decide,fun way H6 g0 g1 kd6=>?_⟩
  have ku6:=kq5.trans kd6
  have hb6:=kd6.keep _ _ bsp hb5
  refine ⟨_,rfl,p,7,_,rfl,ku6.deck,by omega,by decide,by decide,fun n9 H9 k0 k1 kd9=>?_⟩
  have ku9:=(ku6.trans kd9).mono (show _≤c+9 by omega)
  have hb9:=kd9.keep _ _ bsp hb6
  refine ⟨_,_,rfl,rfl,?_⟩
  have per1:1≤(1+n9):=by omega
  have per7:(1+n9)≤7:=by omega
  refine ⟨_,rfl,_,rfl,by omega,by omega,fun cl0 hcl=>?_⟩
  have hHcl:H cl0=none:=ku9.fresh hcl
  have clp:cl0≠p:=ku9.deck.ne hcl
  have bcl:bs≠cl0:=ne_of_none hb9 hcl
  refine comp_by (1+n9).toNat (by omega) (fun j ys H'=>H' cl0=some (.lst ys)∧ys.length=j∧Kd p (c+9+j) H H'∧H' bs=some (.tup [.int b0',.int bb])∧∃ us:List Int,ys=us.map V.int∧∀ v∈us,0≤v∧v≤3)
    (fun j ys H' h=>⟨h.1,by omega⟩) ⟨upd_same,rfl,(ku9.new hcl).mono (by omega),by rw [upd_ne bcl];exact hb9,[],rfl,by simp⟩ ?_ ?_
  rotate_left
  · rintro j ys Ha hj ⟨x1,x2,x3,x4,us,rfl,x5⟩
    refine ⟨hj,?_⟩
    rintro x H4' ⟨rfl,rfl⟩
    refine ⟨rfl,?_⟩
    refine ⟨_,rfl,p,4,_,rfl,x3.deck,by omega,by decide,by decide,fun n Hc y0 y1 kd=>?_⟩
    refine ⟨kd.keep _ _ clp x1,upd_same,by rw [List.length_append,x2];rfl,((x3.trans kd).write hHcl clp).mono (by omega),by rw [upd_ne bcl];exact kd.keep _ _ bsp x4,us++[n],by rw [List.map_append];rfl,fun v hv=>?_⟩
    rcases List.mem_append.mp hv with hv | hv
    · exact x5 v hv
    · have:v=n:=by simpa using hv
      omega
  rintro ys Ha ⟨hc1,hc2,ku10,hb10,cls,rfl,hcls⟩
  refine ⟨Nat.le_refl _,?_⟩
  rw [List.length_map] at hc2
  refine ⟨_,rfl,_,rfl,by omega,by omega,fun sg0 hsg=>?_⟩
  have hHsg:H sg0=none:=ku10.fresh hsg
  have sgp:sg0≠p:=ku10.deck.ne hsg
  have bsg:bs≠sg0:=ne_of_none hb10 hsg
  have csg:cl0≠sg0:=ne_of_none hc1 hsg
  refine comp_by (1+n9).toNat (by omega) (fun j ys H'=>H' sg0=some (.lst ys)∧ys.length=j∧Kd p (c+9+(1+n9).toNat+j) H H'∧H' bs=some (.tup [.int b0',.int bb])∧H' cl0=some (.lst (cls.map V.int))∧∃ cs:List Nat,ys=oneV cs∧∀ c∈cs,Lw c)
    (fun j ys H' h=>⟨h.1,by omega⟩) ⟨upd_same,rfl,(ku10.new hsg).mono (by omega),by rw [upd_ne bsg];exact hb10,by rw [upd_ne csg];exact hc1,[],rfl,by simp⟩ ?_ ?_
  rotate_left
  · rintro j ys Hb' hj ⟨x1,x2,x3,x4,x5,cs,rfl,x6⟩
    refine ⟨hj,?_⟩
    rintro x H4' ⟨rfl,rfl⟩
    refine ⟨rfl,?_⟩
    refine ⟨_,rfl,_,rfl,p,bs,_,b0',bb,rfl,x3.deck,by omega,x4,by omega,by omega,fun ch Hc chl kd=>?_⟩
    refine ⟨kd.keep _ _ sgp x1,upd_same,by rw [List.length_append,x2];rfl,((x3.trans kd).write hHsg sgp).mono (by omega),by rw [upd_ne bsg];exact kd.keep _ _ bsp x4,by rw [upd_ne csg];exact kd.keep _ _ clp x5,cs++[ch],by unfold oneV;rw [List.map_append];rfl,low_app x6 chl⟩
  rintro ys Hb' ⟨hs1,hs2,ku11,hb11,hc11,cs,rfl,lowc⟩
  refine ⟨Nat.le_refl _,?_⟩
  rw [oneV_len] at hs2
  have ku11':=ku11.mono (show _≤c+23 by omega)
  refine ⟨_,_,rfl,rfl,(by show 1≤sizeLine;decide),fun u hu0=>?_⟩
  have hup:u≠p:=ku11'.deck.ne hu0
  have hHu:H u=none:=ku11'.fresh hu0
  have ubs:bs≠u:=ne_of_none hb11 hu0
  have ucl:cl0≠u:=ne_of_none hc11 hu0
  have usg:sg0≠u:=ne_of_none hs1 hu0
  have ku12:Kd p (c+23) H (upd Hb' u (.lst [.int (0 - 1)])):=ku11'.new hu0
  have hb12:upd Hb' u (.lst [.int (0 - 1)]) bs=some (.tup [.int b0',.int bb]):=by rw [upd_ne ubs];exact hb11
  have hc12:upd Hb' u (.lst [.int (0 - 1)]) cl0=some (.lst (cls.map V.int)):=by rw [upd_ne ucl];exact hc11
  have hs12:upd Hb' u (.lst [.int (0 - 1)]) sg0=some (.lst (oneV cs)):=by rw [upd_ne usg];exact hs1
  have hu12:upd Hb' u (.lst [.int (0 - 1)]) u=some (.lst (([-1]:List Int).map V.int)):=upd_same
  generalize upd Hb' u (.lst [.int (0 - 1)])=H12 at ku12 hb12 hc12 hs12 hu12
  refine ⟨_,rfl,_,rfl,p,bs,_,b0',bb,rfl,ku12.deck,by omega,hb12,by omega,by omega,fun lc0 H13 lcl0 kd13=>?_⟩
  have ku13:=(ku12.trans kd13).mono (show _≤c+24 by omega)
  have hb13:=kd13.keep _ _ bsp hb12
  have hc13:=kd13.keep _ _ clp hc12
  have hs13:=kd13.keep _ _ sgp hs12
  have hu13:=kd13.keep _ _ hup hu12
  refine ⟨_,rfl,_,_,rfl,⟨by omega,by omega,by omega,by omega⟩,?_⟩
  refine for_range (lo:=1) (n:=(many - 1).toNat) (fun i σ H'=>∃ (us:List Int) (ls:List Nat) (tx:Str) (o10 o11 o12 o13:Option V),
      σ=[some (.ref p),some (.int most),some (.int many),some (.ref bs),some (.int way),some (.int (1+n9)),some (.ref cl0),some (.ref sg0),some (.ref u),some (.str tx),o10,o11,o12,o13]∧tx=mk ls ∧
      Kd p (c+24+6 * i) H H'∧H' bs=some (.tup [.int b0',.int bb])∧H' cl0=some (.lst (cls.map V.int))∧H' sg0=some (.lst (oneV cs))∧H' u=some (.lst (us.map V.int))∧us.length=i+1∧ls.length=i+1∧GrOk us∧∀ c∈ls,Lw c)
    ⟨[-1],[lc0],_,none,none,none,none,rfl,rfl,ku13.mono (by omega),hb13,hc13,hs13,hu13,rfl,rfl,GrOk.one,fun x hx=>by obtain rfl:=List.mem_singleton.mp hx;exact lcl0⟩ ?_ ?_
  · rintro i σ H' hi ⟨us,ls,tx,o10,o11,o12,o13,rfl,rfl,kd,hb,hc,hs,hu,hlen,hls,gr,low⟩
    have hul:(us.map V.int).length=us.length:=List.length_map _
    have im:=Int.emod_nonneg (1+(i:Int)) (show (1+n9)≠0 by omega)
    have im2:=Int.emod_lt_of_pos (1+(i:Int)) (show 0 < (1+n9) by omega)
    have i2:=Int.emod_nonneg (1+(i:Int)) (by decide:(2:Int)≠0)
    have i22:=Int.emod_lt_of_pos (1+(i:Int)) (by decide:(0:Int) < 2)
    obtain ⟨cv,hcv,cv0,cv3⟩:=menu (us:=cls) (n:=(1+(i:Int)) % (1+n9)) (lo:=0) (hi:=3) im (by omega) hcls
    refine ⟨_,rfl,_,_,rfl,rfl,(by decide:(0:Int) < 2),_,rfl,p,2,_,rfl,kd.deck,by omega,by decide,by decide,fun m1 G1 p0 p1 e1=>?_⟩
    refine ⟨_,rfl,p,3,_,rfl,e1.deck,by omega,by decide,by decide,fun m2 G2 p2 p3 e2=>?_⟩
    refine ⟨(by show 5≤sizeLine;decide),fun s1 hs1'=>?_⟩
    have kd3:=(((Kd.refl kd.deck).trans e1).trans e2).new (o:=.lst [.int 0,.int 60,.int ((1+(i:Int)) % 2),.int m1,.int m2]) hs1'
    have hsp1:s1≠p:=e2.deck.ne hs1'
    have hss1:upd G2 s1 (.lst [.int 0,.int 60,.int ((1+(i:Int)) % 2),.int m1,.int m2]) s1=some (.lst [.int 0,.int 60,.int ((1+(i:Int)) % 2),.int m1,.int m2]):=upd_same
    generalize upd G2 s1 (.lst [.int 0,.int 60,.int ((1+(i:Int)) % 2),.int m1,.int m2])=G3' at kd3 hss1
    have hc2:=kd3.keep _ _ clp hc
    refine ⟨_,rfl,_,rfl,_,rfl,_,rfl,_,_,rfl,rfl,by omega,cl0,_,_,_,rfl,rfl,SqL.of hc2,hcv,?_⟩
    refine ⟨_,rfl,p,5,_,rfl,kd3.deck,by omega,by decide,by decide,fun m3 G4 p4 p5 e3=>?_⟩
    refine ⟨_,rfl,p,2,_,rfl,e3.deck,by omega,by decide,by decide,fun m4 G5 p6 p7 e4=>?_⟩
    refine ⟨_,_,rfl,rfl,.inl ⟨by decide,by decide⟩,(by show 3≤sizeLine;decide),fun s2 hs2'=>?_⟩
    have kd5:=((kd3.trans e3).trans e4).new (o:=.lst [.int cv,.int m3,.int (3 * m4)]) hs2'
    have hss2:upd G5 s2 (.lst [.int cv,.int m3,.int (3 * m4)]) s1=some (.lst [.int 0,.int 60,.int ((1+(i:Int)) % 2),.int m1,.int m2]):=by
      have z:=e4.keep _ _ hsp1 (e3.keep _ _ hsp1 hss1)
      rw [upd_ne (ne_of_none z hs2')];exact z
    refine ⟨s1,s2,_,_,rfl,rfl,hss2,upd_same,(by show 8≤sizeLine;decide),fun s3 hs3'=>?_⟩
    have kd6:=kd5.new (o:=.lst ([.int 0,.int 60,.int ((1+(i:Int)) % 2),.int m1,.int m2]++[.int cv,.int m3,.int (3 * m4)])) hs3'
    have hs3:upd (upd G5 s2 (.lst [.int cv,.int m3,.int (3 * m4)])) s3 (.lst ([.int 0,.int 60,.int ((1+(i:Int)) % 2),.int m1,.int m2]++[.int cv,.int m3,.int (3 * m4)])) s3=some (.lst (([0,60,(1+(i:Int)) % 2,m1,m2,cv,m3,3 * m4]:List Int).map V.int)):=upd_same
    generalize upd (upd G5 s2 (.lst [.int cv,.int m3,.int (3 * m4)])) s3 (.lst ([.int 0,.int 60,.int ((1+(i:Int)) % 2),.int m1,.int m2]++[.int cv,.int m3,.int (3 * m4)]))=G6 at kd6 hs3
    have kk:Kd p (c+24+6 * i+5) H G6:=(kd.trans kd6).mono (by omega)
    have keep:∀ b o,b≠p→H' b=some o→G6 b=some o:=kd6.keep
    have hu6:=keep _ _ hup hu
    have hb6':=keep _ _ bsp hb
    have hs6:=keep _ _ sgp hs
    refine ⟨_,rfl,_,_,rfl,rfl,?_⟩
    obtain ⟨stp,hstp,st0,st60⟩:=menu (us:=[0,60,(1+(i:Int)) % 2,m1,m2,cv,m3,3 * m4]) (n:=way) (lo:=0) (hi:=60) g0 (by show way < 8;exact g1) (by
      intro v hv
      simp only [List.mem_cons,List.not_mem_nil,or_false] at hv
      rcases hv with rfl | rfl | rfl | rfl | rfl | rfl | rfl | rfl <;> omega)
    refine ⟨_,rfl,_,rfl,s3,_,_,_,rfl,rfl,SqL.of hs3,hstp,_,rfl,by omega,by omega,?_⟩
    have hn:stp.toNat≤60:=by omega
    generalize stp.toNat=nst at hn
    refine for_range (lo:=0) (n:=nst) (fun j σ H''=>∃ (pl:Int) (o13':Option V),
        σ=[some (.ref p),some (.int most),some (.int many),some (.ref bs),some (.int way),some (.int (1+n9)),some (.ref cl0),some (.ref sg0),some (.ref u),some (.str (mk ls)),some (.int (1+(i:Int))),some (.ref s3),some (.int pl),o13']∧H''=G6∧0≤pl∧pl < (i:Int)+1∧∃ n,climb us n (1+(i:Int) - 1)=pl)
      ⟨1+(i:Int) - 1,o13,rfl,rfl,by omega,by omega,0,rfl⟩ ?_ ?_
    · rintro j σ H'' hj ⟨pl,o13',rfl,rfl,pl0,pl1,n0,hn0⟩
      have hat:=ints_at (us:=us) (i:=pl) pl0 (by omega)
      have hv:us.getD pl.toNat 0 < pl∨(us.getD pl.toNat 0=-1∧pl=0):=by
        rcases Nat.eq_zero_or_pos pl.toNat with e | e
        · right;rw [e];exact ⟨gr.root,by omega⟩
        · left;have:=gr.up pl.toNat e (by omega);omega
      refine ⟨_,rfl,_,rfl,u,_,_,_,rfl,rfl,SqL.of hu6,hat,_,_,rfl,?_⟩
      refine ⟨_,_,rfl,rfl,?_,?_,n0+1,?_⟩
      · split <;> omega
      · split <;> omega
      · show stepUp us (climb us n0 _)=_
        rw [hn0];rfl
    rintro σ Gx ⟨pl,o13',rfl,rfl,pl0,pl1,n0,hn0⟩
    refine ⟨_,rfl,.inl ⟨rfl,_,SqL.of hu6⟩,_,rfl,u,_,_,rfl,rfl,hu6,by rw [hul];exact small1000 (by omega),?_⟩
    have kk7:Kd p (c+24+6 * i+5) H (upd Gx u (.lst (us.map V.int++[.int pl]))):=kk.write hHu hup
    have hu7:upd Gx u (.lst (us.map V.int++[.int pl])) u=some (.lst ((us++[pl]).map V.int)):=by rw [upd_same,List.map_append];rfl
    have hb7':upd Gx u (.lst (us.map V.int++[.int pl])) bs=some (.tup [.int b0',.int bb]):=by rw [upd_ne ubs];exact hb6'
    have hs7:upd Gx u (.lst (us.map V.int++[.int pl])) sg0=some (.lst (oneV cs)):=by rw [upd_ne usg];exact hs6
    have hc7:upd Gx u (.lst (us.map V.int++[.int pl])) cl0=some (.lst (cls.map V.int)):=by rw [upd_ne ucl];exact keep _ _ clp hc
    generalize upd Gx u (.lst (us.map V.int++[.int pl]))=G7 at kk7 hu7 hb7' hs7 hc7
    refine ⟨_,rfl,_,rfl,_,rfl,p,bs,_,b0',bb,rfl,kk7.deck,by omega,hb7',by omega,by omega,fun ch G8 chl e8=>?_⟩
    have hs8:=e8.keep _ _ sgp hs7
    have hb8':=e8.keep _ _ bsp hb7'
    have hc8:=e8.keep _ _ clp hc7
    have hu8:=e8.keep _ _ hup hu7
    have kk8:=(kk7.trans e8).mono (show _≤c+24+6 * (i:Int)+6 by omega)
    obtain ⟨sv,hsv,svm⟩:=oneV_at (cs:=cs) (i:=(1+(i:Int)) % (1+n9)) im (by omega)
    refine ⟨_,rfl,_,rfl,_,rfl,_,_,rfl,rfl,by omega,sg0,_,_,_,rfl,rfl,SqL.of hs8,hsv,(by show 2≤sizeLine;decide),fun l1' hl1'=>?_⟩
    have kk9:=kk8.new (o:=.lst [V.str ⟨#[ch]⟩,.str ⟨#[sv]⟩]) hl1'
    have kp:∀ b o,G8 b=some o→upd G8 l1' (.lst [V.str ⟨#[ch]⟩,.str ⟨#[sv]⟩]) b=some o:=fun b o e=>(Same.refl G8).new hl1' b o e
    have hl9:upd G8 l1' (.lst [V.str ⟨#[ch]⟩,.str ⟨#[sv]⟩]) l1'=some (.lst [V.str ⟨#[ch]⟩,.str ⟨#[sv]⟩]):=upd_same
    generalize upd G8 l1' (.lst [V.str ⟨#[ch]⟩,.str ⟨#[sv]⟩])=G9 at kk9 kp hl9
    obtain ⟨lc,hlc,lcl⟩:∃ ov:Nat,atI [V.str ⟨#[ch]⟩,.str ⟨#[sv]⟩] (if decide (V.int way=V.int 5)=true then 1 else 0)=some (.str ⟨#[ov]⟩)∧Lw ov:=by
      by_cases z:V.int way=V.int 5
      · rw [decide_eq_true z];exact ⟨sv,rfl,lowc _ svm⟩
      · rw [decide_eq_false z];exact ⟨ch,rfl,chl⟩
    have happ:mk ls++(⟨#[lc]⟩:Str)=mk (ls++[lc]):=by
      apply str_ext;rw [app_list];rfl
    refine ⟨_,rfl,rfl,.inr ⟨_,rfl,l1',_,_,_,rfl,rfl,SqL.of hl9,hlc,_,_,rfl,rfl,?_,us++[pl],ls++[lc],_,_,_,_,_,rfl,happ,kk9.mono (by omega),kp _ _ hb8',kp _ _ hc8,kp _ _ hs8,kp _ _ hu8,by rw [List.length_append,hlen];rfl,by rw [List.length_append,hls];rfl,?_,low_app low lcl⟩⟩
    · rw [mk_len]
      have:(⟨#[lc]⟩:Str).length=1:=rfl
      rw [this]
      exact Nat.le_of_lt (small1000 (by omega))
    · exact gr.snoc pl0 (by omega) ⟨n0,by rw [← hn0];congr 1;omega⟩
  · rintro σ H' ⟨us,ls,tx,o10,o11,o12,o13,rfl,rfl,kd,hb,hc,hs,hu,hlen,hls,gr,low⟩
    refine ⟨_,rfl,u,_,rfl,.inl ⟨SqL.of hu,fun r7 hr7=>?_⟩⟩
    refine ⟨_,rfl,(by show 2≤sizeLine;decide),fun t ht=>?_⟩
    refine q t us (mk ls) _ (((kd.new hr7).new ht).mono (by omega)) ⟨r7,upd_same,?_,gr_tree gr (by omega) (by omega)⟩ ⟨low,gr.road⟩
    rw [upd_ne (ne_of_none upd_same ht)];exact upd_same
end
end S73
namespace S73
open PySem L2 W7
structure Blt7 (mg:Str→Option Value):Prop extends Blt mg where
  sorted:mg "sorted" = none
  all:mg "all" = none
  repr:mg "repr" = none
  set_:mg "set" = none
  most:∃ u,mg "MOST_PLACES" = some u∧RelV (.int 60) u
  letters:∃ u,mg "LETTERS" = some u∧RelV (.str "abcdefghijklmnopqrstuvwxyz") u
section
variable {P:Program} {w:World} {K:PySem.W.Frag} {mg:Str→Option Value} {base:Heap} {k:Nat}
theorem bt_all:bootBuiltins "all" = some (.builtin "all"):=by decide +kernel
theorem cut_to {xs:List V} {h:Int} (h0:0≤h):cutV xs none (some h)=xs.take h.toNat:=by
  unfold cutV
  have e1:=HT.sIx_nat xs.length xs.length h.toNat
  rw [show ((h.toNat:Nat):Int)=h by omega] at e1
  rw [e1,HT.sIx_none,List.drop_zero,Nat.sub_zero]
  rcases Nat.le_total h.toNat xs.length with z | z
  · rw [Nat.min_eq_left z]
  · rw [Nat.min_eq_right z,List.take_of_length_le (Nat.le_refl _),List.take_of_length_le z]
def sp_cells:PySem.W.Frag→Sp:=fun K vs H Q _=>∃ (a:Addr) (ns:List Int) (most:Int),vs=[.ref a,.int most]∧SqL K H a (ns.map V.int)∧ns.length≤63∧0 < most∧most≤63 ∧
  ∀ (r:Addr) (ms:List Int) (H':Hp),Same H H'→H r=none→H' r=some (.lst (ms.map V.int))→ms.length≤63→Q (.ref r) H'
theorem has_cells (D:Df K mg "_law_cells" s_law_cells) (B:Blt mg):Has P w K mg base "_law_cells" (k+1) ["script", "most"] (sp_cells K):=by
  refine D.has sc_law_cells (fun _ _ _ _ _ _ us hl=>match us,hl with | [_,_],_=>rfl) (fun vs H Q E h=>by obtain ⟨a,ns,most,rfl,_⟩:=h;rfl) (fun f cdv A outer s H vs Q E hr h=>?_)
  obtain ⟨a,ns,most,rfl,hS,h63,m0,m63,q⟩:=h
  refine ⟨_,(pss_cons (ps_set (i:=2) sc_law_cells.nd rfl (by first | exact Or.inl rfl | exact Or.inr rfl) (pe_slice sl_list (pe_op op_cat (pe_callTy call_list_of rfl B.list_ bt_list (pa_cons (pe_slice sl_list (pv 0) po_none (po_some (pv 1))) pa_nil)) (pe_lst (pa_cons pe_int pa_nil))) po_none (po_some (pe_callB (call_max2 rfl) rfl B.max bt_max (pa_cons pe_int (pa_cons (pe_callB (call_min2 rfl) rfl B.min bt_min (pa_cons (pv 1) (pa_cons (pe_callB call_len_seq rfl B.len bt_len (pa_cons (pv 0) pa_nil)) pa_nil))) pa_nil))))))
  (pss_cons (ps_for PassesOwn.never rfl (pi_range2 rfl B.range (pa_cons (pv 1) (pa_cons (pe_callB call_len_seq rfl B.len bt_len (pa_cons (pv 0) pa_nil)) pa_nil))) (pg_name (i:=3) sc_law_cells.nd rfl (by first | exact Or.inl rfl | exact Or.inr rfl))
  (pss_one (ps_asg (pe_op op_add (pe_op op_mul (pe_ix ix_list (pv 2) (pe_op op_mod (pv 3) (pv 1)) (fun _ _=>rfl)) pe_int) (pe_ix ix_list (pv 0) (pv 3) (fun _ _=>rfl))) (pg_sub (pv 2) (pe_op op_mod (pv 3) (pv 1)) set_list))))
  (pss_one (ps_ret (pv 2))))),?_⟩
  have hl:(ns.map V.int).length=ns.length:=List.length_map _
  refine ⟨_,rfl,_,rfl,_,rfl,a,_,rfl,hS,fun p1 hp1=>?_⟩
  rw [cut_to (by omega),← List.map_take]
  have s1:Same H (upd H p1 (.lst ((ns.take most.toNat).map V.int))):=(Same.refl H).new hp1
  have h1:upd H p1 (.lst ((ns.take most.toNat).map V.int)) p1=some (.lst ((ns.take most.toNat).map V.int)):=upd_same
  generalize upd H p1 (.lst ((ns.take most.toNat).map V.int))=H1 at s1 h1
  refine ⟨p1,_,rfl,.inl (SqL.of h1),fun p2 hp2=>?_⟩
  have s2:Same H1 (upd H1 p2 (.lst ((ns.take most.toNat).map V.int))):=(Same.refl H1).new hp2
  have h2:upd H1 p2 (.lst ((ns.take most.toNat).map V.int)) p2=some (.lst ((ns.take most.toNat).map V.int)):=upd_same
  generalize upd H1 p2 (.lst ((ns.take most.toNat).map V.int))=H2 at s2 h2
  refine ⟨(by show 1≤sizeLine;decide),fun p3 hp3=>?_⟩
  have s3:Same H2 (upd H2 p3 (.lst [.int 23])):=(Same.refl H2).new hp3
  have h3:upd H2 p3 (.lst [.int 23]) p3=some (.lst [.int 23]):=upd_same
  generalize upd H2 p3 (.lst [.int 23])=H3 at s3 h3
  have tl:(ns.take most.toNat).length≤63:=by rw [List.length_take];omega
  refine ⟨p2,p3,_,_,rfl,rfl,s3 _ _ h2,h3,by rw [List.length_map];exact Nat.le_of_lt (small1000 (by show _+1≤1000;omega)),fun p4 hp4=>?_⟩
  rw [show ((ns.take most.toNat).map V.int++[V.int 23])=(ns.take most.toNat++[23]).map V.int by rw [List.map_append];rfl]
  have s4:Same H3 (upd H3 p4 (.lst ((ns.take most.toNat++[23]).map V.int))):=(Same.refl H3).new hp4
  have h4:upd H3 p4 (.lst ((ns.take most.toNat++[23]).map V.int)) p4=some (.lst ((ns.take most.toNat++[23]).map V.int)):=upd_same
  generalize upd H3 p4 (.lst ((ns.take most.toNat++[23]).map V.int))=H4 at s4 h4
  have s04:Same H H4:=((s1.trans s2).trans s3).trans s4
  refine ⟨_,rfl,_,rfl,a,_,rfl,.inl (s04.seq hS),_,_,rfl,_,_,rfl,_,rfl,p4,_,rfl,SqL.of h4,fun p5 hp5=>?_⟩
  obtain ⟨M,hM,hMm⟩:∃ M:Int,M=(if (if (((ns.map V.int).length:Nat):Int) < most then (((ns.map V.int).length:Nat):Int) else most) > 1 then (if (((ns.map V.int).length:Nat):Int) < most then (((ns.map V.int).length:Nat):Int) else most) else 1)∧0 < M∧M≤63∧(most < (ns.length:Int)→M=most):=by
    refine ⟨_,rfl,?_⟩
    rw [hl]
    split <;> (try split) <;> omega
  rw [← hM,cut_to (by omega),← List.map_take]
  generalize hms:(ns.take most.toNat++[23]).take M.toNat=ms0
  have L63:ms0.length≤63:=by rw [← hms,List.length_take];omega
  have Lm:most < (ns.length:Int)→(ms0.length:Int)=most:=fun z=>by
    have e:=hMm.2.2 z
    rw [← hms,List.length_take,List.length_append,List.length_take]
    simp only [List.length_singleton]
    omega
  have s5:Same H (upd H4 p5 (.lst (ms0.map V.int))):=s04.new hp5
  have h5:upd H4 p5 (.lst (ms0.map V.int)) p5=some (.lst (ms0.map V.int)):=upd_same
  have f5:H p5=none:=s04.free hp5
  generalize upd H4 p5 (.lst (ms0.map V.int))=H5 at s5 h5
  refine ⟨_,rfl,_,rfl,a,_,rfl,.inl (s5.seq hS),_,_,rfl,⟨by omega,by omega,by omega,by rw [hl];omega⟩,?_⟩
  refine for_range (lo:=most) (n:=((((ns.map V.int).length:Nat):Int) - most).toNat) (fun i σ H'=>∃ (ms:List Int) (o3:Option V),σ=[some (.ref a),some (.int most),some (.ref p5),o3]∧Same H H'∧H' p5=some (.lst (ms.map V.int))∧ms.length=ms0.length) ⟨ms0,none,rfl,s5,h5,rfl⟩ ?_ ?_
  · rintro i σ H' hi ⟨ms,o3,rfl,sX,hX,hlX⟩
    rw [hl] at hi
    have Lm':=Lm (by omega)
    have e0:=Int.emod_nonneg (most+(i:Int)) (show most≠0 by omega)
    have e1:=Int.emod_lt_of_pos (most+(i:Int)) m0
    have at1:=ints_at (us:=ms) (i:=(most+(i:Int)) % most) e0 (by omega)
    have at2:=ints_at (us:=ns) (i:=most+(i:Int)) (by omega) (by omega)
    have hj:ixN (ms.map V.int).length ((most+(i:Int)) % most)=some ((most+(i:Int)) % most).toNat:=by
      unfold ixN;rw [if_pos e0,List.length_map,if_pos (by omega)]
    refine ⟨_,rfl,_,rfl,_,rfl,_,_,rfl,rfl,m0,p5,_,_,_,rfl,rfl,SqL.of hX,at1,_,_,rfl,rfl,.inr ⟨by decide,by decide⟩,_,rfl,_,rfl,a,_,_,_,rfl,rfl,sX.seq hS,at2,_,_,rfl,rfl,?_⟩
    refine ⟨_,rfl,_,rfl,_,rfl,_,_,rfl,rfl,m0,p5,_,_,_,rfl,rfl,hX,hj,?_⟩
    refine ⟨ms.set ((most+(i:Int)) % most).toNat (ms.getD ((most+(i:Int)) % most).toNat 0 * 31+ns.getD (most+(i:Int)).toNat 0),_,rfl,sX.write f5,?_,by rw [List.length_set];exact hlX⟩
    rw [upd_same,List.map_set]
  · rintro σ H' ⟨ms,o3,rfl,sX,hX,hlX⟩
    exact ⟨_,rfl,q p5 ms H' sX f5 hX (by omega)⟩
end
end S73
namespace S73
open PySem L2 W7
section
variable {P:Program} {w:World} {K:PySem.W.Frag} {mg:Str→Option Value} {base:Heap} {k:Nat}
abbrev lpO:Pos:=⟨35,41,35,76⟩
abbrev qO:Str:=(("order_of" : Str) ++ ".<locals>.") ++ "<lambda>"
def Kw (ups:List Int) (lab:Str) (i:Nat):List V:=[.str (mk (W ups lab.cps.toList i)),.int (i:Int)]
theorem kw_keys (ups:List Int) (lab:Str) (n:Nat):Keys n (Kw ups lab) [2,1] where
  shp:=fun i=>rfl
  ne:=by simp
  z:=by simp
  inj:=fun i j _ _ h=>by
    have h2:[V.str (mk (W ups lab.cps.toList i)),.int (i:Int)]=[.str (mk (W ups lab.cps.toList j)),.int (j:Int)]:=h
    simp only [List.cons.injEq,V.int.injEq,and_true] at h2
    omega
structure OrderOk (ups:List Int) (lab:Str) (os:List Nat):Prop where
  perm:os.Perm (List.range ups.length)
  rise:∀ i j,i < j→j < ups.length→lexV (Kw ups lab (os.getD j 0)) (Kw ups lab (os.getD i 0))=false
theorem OrderOk.len {ups:List Int} {lab:Str} {os:List Nat} (h:OrderOk ups lab os):os.length=ups.length:=by have:=h.perm.length_eq;simpa using this
theorem OrderOk.one {ups:List Int} {lab:Str} {os os':List Nat} (h:OrderOk ups lab os) (h':OrderOk ups lab os'):os=os':=rise_one (kw_keys ups lab ups.length) h.perm h'.perm h.rise h'.rise
abbrev natV (l:List Nat):List V:=l.map fun i:Nat=>V.int (i:Int)
theorem natV_ints (l:List Nat):natV l=(l.map fun i:Nat=>(i:Int)).map V.int:=by unfold natV;rw [List.map_map];rfl
theorem wordsV_at {ups:List Int} {lab:Str} {i n:Nat} (h:i < n):atI (wordsV ups lab n) (i:Int)=some (.str (mk (W ups lab.cps.toList i))):=atI_nat (by unfold wordsV;rw [List.getElem?_map,List.getElem?_range h];rfl)
def sp_order (ls:List Lm):Sp:=fun vs H Q _=>∃ (t:Addr) (ups:List Int) (lab:Str),vs=[.ref t]∧TreeAt H t ups lab∧Lams ls H ∧
  ∀ (os:List Nat) (r:Addr) (H':Hp),OrderOk ups lab os→Kt ls H H'→H r=none→H' r=some (.lst (natV os))→Q (.ref r) H'
theorem has_order {T:Addr} {ls:List Lm} (D:Df K mg "order_of" s_order_of) (B:Blt7 mg) (kb:K.In base) (TA:TabAt base mg "order_of" T) (LK:LmOk ls) (LI:(T,lpO,qO)∈ls) (G_words_of:Has P w K mg base "words_of" k ["tree"] sp_words):Has P w K mg base "order_of" (k+1) ["tree"] (sp_order ls):=by
  refine D.hasT kb TA sc_order_of (fun _ _ _ _ _ _ us hl=>match us,hl with | [_],_=>rfl) (fun vs H Q E h=>by obtain ⟨t,ups,lab,rfl,_⟩:=h;rfl) (fun f c A outer s H vs Q E CH hr h=>?_)
  have BA:=TA.blt
  obtain ⟨t,ups,lab,rfl,tr,L,q⟩:=h
  refine ⟨_,(pss_cons (ps_set (i:=1) sc_order_of.nd rfl (by first | exact Or.inl rfl | exact Or.inr rfl) (pe_callH G_words_of hr rfl (pa_cons (pv 0) pa_nil)))
  (pss_one (ps_ret (pe_sortLam (x := "place") (ix:=[1]) hr rfl rfl B.sorted (pe_rng1 rfl B.range (pa_cons (pe_callB call_len_seq rfl B.len bt_len (pa_cons (pv 1) pa_nil)) pa_nil)) rfl CH BA LK LI (csc (defScope s_order_of) N_order_of) (fun qual cl fa cd A1 s₃ H₃ pins=>(pe_tup (pa_cons (pe_ix (ix_listK K) (pv 1) (pv 0) (fun _ _=>rfl)) (pa_cons (pv 0) pa_nil)))))))),?_⟩
  obtain ⟨_,_,_,ok⟩:=id tr
  have m60:=ok.most
  have lpos:=ok.pos
  refine ⟨_,rfl,t,ups,lab,rfl,tr,fun r H1 s1 hr1=>?_⟩
  have wl:(wordsV ups lab ups.length).length=ups.length:=by simp [wordsV]
  have L1:=L.same s1
  refine ⟨_,rfl,r,_,rfl,.inl (SqL.of hr1),_,rfl,fun g hg=>?_⟩
  have s2:Same H1 (upd H1 g (.rng 0 (((wordsV ups lab ups.length).length:Nat):Int))):=(Same.refl H1).new hg
  refine ⟨g,0,_,Kw ups lab,[2,1],rfl,upd_same,⟨by decide,by decide,by omega,by omega⟩,by omega,L1.same s2,kw_keys _ _ _,fun i H2 hi kt=>?_,fun p l H2 hp hrise kt hl hl2=>?_⟩
  · have hr2:=kt.lst (s2 _ _ hr1)
    rw [wl] at hi
    have e0:(0:Int)+(i:Int)=(i:Int):=Int.zero_add _
    refine ⟨_,rfl,_,rfl,r,_,_,_,rfl,rfl,SqL.of hr2,by rw [e0];exact wordsV_at (by omega),_,rfl,(by show 2≤sizeLine;decide),fun a ha=>⟨a,rfl,?_,(Same.refl H2).new ha⟩⟩
    rw [upd_same]
    unfold Kw
    rw [e0]
  · have e1:((((wordsV ups lab ups.length).length:Nat):Int) - 0).toNat=ups.length:=by rw [wl];omega
    rw [e1] at hp hrise
    refine q p l H2 ⟨hp,hrise⟩ ((s1.trans s2).kt kt) ((s1.trans s2).free hl) ?_
    rw [hl2]
    congr 2
    unfold natV
    refine List.map_congr_left fun i _=>?_
    rw [Int.zero_add]
theorem rise_true {ups:List Int} {lab:Str} {os:List Nat} (h:OrderOk ups lab os) {i j:Nat} (hij:i < j) (hj:j < ups.length):lexV (Kw ups lab (os.getD i 0)) (Kw ups lab (os.getD j 0))=true:=by
  cases e:lexV (Kw ups lab (os.getD i 0)) (Kw ups lab (os.getD j 0)) with
  | true=>rfl
  | false=>
    exfalso
    have z:=(kw_keys ups lab ups.length)
    have ek:=lexV_tot _ _ ((z.shp (os.getD i 0)).trans (z.shp (os.getD j 0)).symm) (by rw [z.shp];exact z.z) e (h.rise i j hij hj)
    have ln:=h.len
    have e2:os.getD i 0=os.getD j 0:=by
      have h2:[V.str (mk (W ups lab.cps.toList (os.getD i 0))),.int ((os.getD i 0:Nat):Int)]=[.str (mk (W ups lab.cps.toList (os.getD j 0))),.int ((os.getD j 0:Nat):Int)]:=ek
      simp only [List.cons.injEq,V.int.injEq,and_true] at h2
      omega
    have nd:os.Nodup:=h.perm.nodup_iff.mpr List.nodup_range
    rw [List.getD_eq_getElem?_getD,List.getD_eq_getElem?_getD,List.getElem?_eq_getElem (by omega),List.getElem?_eq_getElem (by omega)] at e2
    have:=(List.getElem_inj nd).mp (show os[i]'(by omega)=os[j]'(by omega) from e2)
    omega
theorem count_split (f:Nat→Bool):∀ (l:List Nat) (j:Nat),j≤l.length→(∀ i,i < j→f (l.getD i 0)=true)→(∀ i,j≤i→i < l.length→f (l.getD i 0)=false)→(l.filter f).length=j
  | [],j,h,_,_=>by simp at h;simp [h]
  | x :: l,0,_,_,b=>by
    have hx:f x=false:=b 0 (Nat.le_refl _) (by simp)
    rw [List.filter_cons_of_neg (by rw [hx];simp)]
    exact count_split f l 0 (Nat.zero_le _) (fun i hi=>absurd hi (Nat.not_lt_zero _)) fun i _ hi=>b (i+1) (Nat.zero_le _) (by simpa using hi)
  | x :: l,j+1,h,a,b=>by
    have hx:f x=true:=a 0 (Nat.succ_pos _)
    rw [List.filter_cons_of_pos hx,List.length_cons,count_split f l j (by simpa using h) (fun i hi=>a (i+1) (by omega)) fun i h1 h2=>b (i+1) (by omega) (by simpa using h2)]
def cnt (ups:List Int) (lab:Str) (p:Nat):Nat:=((List.range ups.length).filter fun i=>lexV (Kw ups lab i) (Kw ups lab p)).length
theorem cnt_rank {ups:List Int} {lab:Str} {os:List Nat} (h:OrderOk ups lab os) {j:Nat} (hj:j < ups.length):cnt ups lab (os.getD j 0)=j:=by
  have ln:=h.len
  have e:(os.filter fun i=>lexV (Kw ups lab i) (Kw ups lab (os.getD j 0))).length=j:=by
    refine count_split _ os j (by omega) (fun i hi=>rise_true h hi hj) fun i h1 h2=>?_
    rcases Nat.eq_or_lt_of_le h1 with q | q
    · rw [← q]
      cases e:lexV (Kw ups lab (os.getD j 0)) (Kw ups lab (os.getD j 0)) with
      | false=>rfl
      | true=>have:=lexV_asym _ _ e;rw [e] at this;cases this
    · exact h.rise j i q (by omega)
  have e2:=(h.perm.filter (fun i=>lexV (Kw ups lab i) (Kw ups lab (os.getD j 0)))).length_eq
  unfold cnt
  rw [← e2]
  exact e
def sp_ranks (ls:List Lm):Sp:=fun vs H Q _=>∃ (t:Addr) (ups:List Int) (lab:Str),vs=[.ref t]∧TreeAt H t ups lab∧Lams ls H ∧
  ∀ (os:List Nat) (r:Addr) (H':Hp),OrderOk ups lab os→Kt ls H H'→H r=none→H' r=some (.lst (natV ((List.range ups.length).map (cnt ups lab))))→Q (.ref r) H'
theorem has_ranks {ls:List Lm} (D:Df K mg "ranks_of" s_ranks_of) (B:Blt7 mg) (G_order_of:Has P w K mg base "order_of" k ["tree"] (sp_order ls)):Has P w K mg base "ranks_of" (k+1) ["tree"] (sp_ranks ls):=by
  refine D.has sc_ranks_of (fun _ _ _ _ _ _ us hl=>match us,hl with | [_],_=>rfl) (fun vs H Q E h=>by obtain ⟨t,ups,lab,rfl,_⟩:=h;rfl) (fun f cdv A outer s H vs Q E hr h=>?_)
  obtain ⟨t,ups,lab,rfl,tr,L,q⟩:=h
  refine ⟨_,(pss_cons (ps_set (i:=1) sc_ranks_of.nd rfl (by first | exact Or.inl rfl | exact Or.inr rfl) (pe_callH G_order_of hr rfl (pa_cons (pv 0) pa_nil)))
  (pss_cons (ps_set (i:=2) sc_ranks_of.nd rfl (by first | exact Or.inl rfl | exact Or.inr rfl) (pe_op op_rep (pe_lst (pa_cons pe_int pa_nil)) (pe_callB call_len_seq rfl B.len bt_len (pa_cons (pv 1) pa_nil))))
  (pss_cons (ps_for PassesOwn.never rfl (pi_enum rfl B.enumerate (pa_cons (pv 1) pa_nil)) (pg_tup rfl (pgs_cons (pg_name (i:=3) sc_ranks_of.nd rfl (by first | exact Or.inl rfl | exact Or.inr rfl)) (pgs_cons (pg_name (i:=4) sc_ranks_of.nd rfl (by first | exact Or.inl rfl | exact Or.inr rfl)) pgs_nil)))
  (pss_one (ps_asg (pv 3) (pg_sub (pv 2) (pv 4) set_list))))
  (pss_one (ps_ret (pv 2)))))),?_⟩
  obtain ⟨_,_,_,ok⟩:=id tr
  have m60:=ok.most
  have lpos:=ok.pos
  refine ⟨_,rfl,t,ups,lab,rfl,tr,L,fun os r H1 oo k1 hf1 hr1=>?_⟩
  have ol:=oo.len
  have nl:(natV os).length=ups.length:=by rw [List.length_map,ol]
  refine ⟨(by show 1≤sizeLine;decide),fun z hz=>?_⟩
  have s2:Same H1 (upd H1 z (.lst [.int 0])):=(Same.refl H1).new hz
  refine ⟨_,rfl,r,_,rfl,.inl (SqL.of (s2 _ _ hr1)),z,_,_,rfl,rfl,upd_same,by omega,by omega,?_,fun r2 hr2=>?_⟩
  · rw [nl,List.length_singleton,Nat.one_mul]
    exact Nat.le_of_lt (small1000 (by omega))
  have eF:(List.replicate ((((natV os).length:Nat):Int)).toNat [V.int 0]).flatten=(List.replicate ups.length (0:Int)).map V.int:=by
    rw [nl,Int.toNat_natCast]
    induction ups.length with
    | zero=>rfl
    | succ m ih=>rw [List.replicate_succ,List.flatten_cons,ih,List.replicate_succ];rfl
  rw [eF]
  have s3:Same (upd H1 z (.lst [.int 0])) (upd (upd H1 z (.lst [.int 0])) r2 (.lst ((List.replicate ups.length (0:Int)).map V.int))):=(Same.refl _).new hr2
  have h22:upd (upd H1 z (.lst [.int 0])) r2 (.lst ((List.replicate ups.length (0:Int)).map V.int)) r2=some (.lst ((List.replicate ups.length (0:Int)).map V.int)):=upd_same
  have f2:H1 r2=none:=s2.free hr2
  have s4:=s2.trans s3
  generalize upd (upd H1 z (.lst [.int 0])) r2 (.lst ((List.replicate ups.length (0:Int)).map V.int))=H4 at s4 h22
  have h41:=s4 _ _ hr1
  have rr:r≠r2:=ne_of_none hr1 f2
  refine ⟨_,rfl,.lst r,rfl,⟨_,.inl h41⟩,?_⟩
  refine for_enum (xs:=natV os) (fun j σ H'=>∃ o3 o4:Option V,∃ rs:List Int,σ=[some (.ref t),some (.ref r),some (.ref r2),o3,o4]∧Kt ls H H'∧H' r=some (.lst (natV os))∧H' r2=some (.lst (rs.map V.int))∧rs.length=ups.length∧∀ i p,i < j→os[i]?=some p→rs[p]?=some (i:Int))
    ⟨none,none,_,rfl,k1.same s4,h41,h22,List.length_replicate ..,fun i p hi=>absurd hi (Nat.not_lt_zero _)⟩ (fun j σ H' _ h=>by obtain ⟨_,_,_,_,_,h,_⟩:=h;exact .inl h) ?_ ?_
  · rintro j x σ H' p hx ⟨o3,o4,rs,rfl,kt,g1,g2,rl,hrs⟩ hp
    rw [natV,List.getElem?_map] at hx
    cases e1:os[j]? with
    | none=>rw [e1] at hx;cases hx
    | some pl=>
      rw [e1] at hx
      cases hx
      have pll:pl < ups.length:=List.mem_range.mp (oo.perm.mem_iff.mp (List.mem_of_getElem? e1))
      have jl:j < os.length:=(List.getElem?_eq_some_iff.mp e1).1
      refine ⟨p,_,rfl,SqT.of upd_same,rfl,_,_,rfl,_,_,rfl,rfl,?_⟩
      have g1':upd H' p (.tup [.int (j:Int),.int (pl:Int)]) r=some (.lst (natV os)):=by rw [upd_ne (ne_of_none g1 hp)];exact g1
      have g2':upd H' p (.tup [.int (j:Int),.int (pl:Int)]) r2=some (.lst (rs.map V.int)):=by rw [upd_ne (ne_of_none g2 hp)];exact g2
      have kt':Kt ls H (upd H' p (.tup [.int (j:Int),.int (pl:Int)])):=kt.same ((Same.refl H').new hp)
      refine ⟨_,rfl,_,rfl,_,rfl,r2,_,_,pl,rfl,rfl,g2',?_,_,_,rs.set pl (j:Int),rfl,kt'.write ?_ g2',?_,?_,by rw [List.length_set];exact rl,fun i p' hi hp'=>?_⟩
      · unfold ixN
        rw [List.length_map,rl,if_pos (by omega),if_pos (by omega),Int.toNat_natCast]
      · exact k1.here _ f2
      · rw [upd_ne rr];exact g1'
      · rw [upd_same,List.map_set]
      · rcases Nat.lt_or_ge i j with c | c
        · have nd:os.Nodup:=oo.perm.nodup_iff.mpr List.nodup_range
          have ne:pl≠p':=fun e=>by
            subst e
            have i1:=(List.getElem?_eq_some_iff.mp hp')
            have i2:=(List.getElem?_eq_some_iff.mp e1)
            have:=(List.getElem_inj nd).mp (i1.2.trans i2.2.symm)
            omega
          rw [List.getElem?_set_ne ne]
          exact hrs i p' c hp'
        · have ei:i=j:=by omega
          subst ei
          rw [e1] at hp';cases hp'
          rw [List.getElem?_set_self (by omega)]
  · rintro σ H' ⟨o3,o4,rs,rfl,kt,g1,g2,rl,hrs⟩
    refine ⟨_,rfl,q os r2 H' oo kt (k1.here _ f2) ?_⟩
    rw [g2]
    congr 2
    rw [natV_ints]
    congr 1
    apply List.ext_getElem?
    intro p
    rcases Nat.lt_or_ge p ups.length with c | c
    · have hm:p∈os:=oo.perm.mem_iff.mpr (List.mem_range.mpr c)
      obtain ⟨i,hi,e⟩:=List.getElem_of_mem hm
      have ei:os[i]?=some p:=by rw [List.getElem?_eq_getElem hi,e]
      rw [hrs i p (by rw [nl];omega) ei,List.getElem?_map,List.getElem?_map,List.getElem?_range c]
      have ec:=cnt_rank oo (j:=i) (by omega)
      rw [List.getD_eq_getElem?_getD,ei,Option.getD_some] at ec
      show _=some ((cnt ups lab p:Nat):Int)
      rw [ec]
    · rw [List.getElem?_eq_none (by omega),List.getElem?_eq_none (by simp;omega)]
abbrev lpK:Pos:=⟨89,48,89,88⟩
abbrev qK:Str:=(("kept_order" : Str) ++ ".<locals>.") ++ "<lambda>"
theorem cnt_pos {ups:List Int} {lab:Str} {os:List Nat} (h:OrderOk ups lab os) {a:Nat} (ha:a < ups.length):∃ i,i < ups.length∧os.getD i 0=a∧cnt ups lab a=i:=by
  have ln:=h.len
  have hm:a∈os:=h.perm.mem_iff.mpr (List.mem_range.mpr ha)
  obtain ⟨i,hi,e⟩:=List.getElem_of_mem hm
  have e2:os.getD i 0=a:=by rw [List.getD_eq_getElem?_getD,List.getElem?_eq_getElem hi];exact e
  have e3:=cnt_rank h (j:=i) (by omega)
  rw [e2] at e3
  exact ⟨i,by omega,e2,e3⟩
theorem cnt_lex {ups:List Int} {lab:Str} {os:List Nat} (h:OrderOk ups lab os) {a b:Nat} (ha:a < ups.length) (hb:b < ups.length) (hab:a≠b):cnt ups lab a≠cnt ups lab b∧lexV (Kw ups lab a) (Kw ups lab b)=decide (cnt ups lab a < cnt ups lab b):=by
  obtain ⟨i,i1,i2,i3⟩:=cnt_pos h ha
  obtain ⟨j,j1,j2,j3⟩:=cnt_pos h hb
  have ne:i≠j:=fun e=>hab (by rw [← i2,← j2,e])
  rw [i3,j3]
  refine ⟨ne,?_⟩
  rcases Nat.lt_or_gt_of_ne ne with c | c
  · have:=rise_true h c j1
    rw [i2,j2] at this
    rw [this,decide_eq_true c]
  · have:=h.rise j i c i1
    rw [i2,j2] at this
    rw [this,decide_eq_false (by omega)]
def upN (ups:List Int) (i:Nat):Nat:=(ups.getD (i+1) 0).toNat
def Kr (ups:List Int) (lab:Str) (i:Nat):List V:=[.int ((cnt ups lab (upN ups i):Nat):Int),.int (1+(i:Int))]
def Kl (ups:List Int) (lab:Str) (i:Nat):List V:=[.str (mk (W ups lab.cps.toList (upN ups i))),.int ((upN ups i:Nat):Int),.int (1+(i:Int))]
theorem kr_keys (ups:List Int) (lab:Str) (n:Nat):Keys n (Kr ups lab) [1,1] where
  shp:=fun i=>rfl
  ne:=by simp
  z:=by simp
  inj:=fun i j _ _ h=>by
    unfold Kr at h
    simp only [List.cons.injEq,V.int.injEq,and_true] at h
    omega
theorem kl_keys (ups:List Int) (lab:Str) (n:Nat):Keys n (Kl ups lab) [2,1,1] where
  shp:=fun i=>rfl
  ne:=by simp
  z:=by simp
  inj:=fun i j _ _ h=>by
    unfold Kl at h
    simp only [List.cons.injEq,V.int.injEq,and_true] at h
    omega
theorem lex_cons (x y:V) (xs ys:List V):lexV (x :: xs) (y :: ys)=if x=y then lexV xs ys else ltV x y:=by rw [lexV]
theorem up_lt {ups:List Int} {lab:List Nat} (ok:TreeOk ups lab) {i:Nat} (hi:i < ups.length - 1):upN ups i < ups.length∧ups.getD (i+1) 0=((upN ups i:Nat):Int):=by
  have:=ok.up (i+1) (by omega) (by omega)
  unfold upN
  omega
theorem lex_same {ups:List Int} {lab:Str} {os:List Nat} (h:OrderOk ups lab os) (ok:TreeOk ups lab.cps.toList) {i j:Nat} (hi:i < ups.length - 1) (hj:j < ups.length - 1):lexV (Kr ups lab i) (Kr ups lab j)=lexV (Kl ups lab i) (Kl ups lab j):=by
  have ai:=(up_lt ok hi).1
  have aj:=(up_lt ok hj).1
  unfold Kr Kl
  generalize upN ups i=a at ai
  generalize upN ups j=b at aj
  by_cases e:a=b
  · subst e
    rw [lex_cons,if_pos rfl,lex_cons (.str _),if_pos rfl,lex_cons (.int (a:Int)),if_pos rfl]
  · obtain ⟨c1,c2⟩:=cnt_lex h ai aj e
    have n1:¬ (V.int ((cnt ups lab a:Nat):Int)=V.int ((cnt ups lab b:Nat):Int)):=fun z=>c1 (by injection z;omega)
    have n2:¬ (V.int (a:Int)=V.int (b:Int)):=fun z=>e (by injection z;omega)
    unfold Kw at c2
    rw [lex_cons,lex_cons (.int (a:Int)),if_neg n2] at c2
    rw [lex_cons,if_neg n1,lex_cons (.str _),lex_cons (.int (a:Int)),if_neg n2,c2]
    show decide (((cnt ups lab a:Nat):Int) < ((cnt ups lab b:Nat):Int))=_
    rw [Bool.eq_iff_iff,decide_eq_true_eq,decide_eq_true_eq]
    omega
structure KeptOk (ups:List Int) (lab:Str) (ks:List Nat):Prop where
  perm:ks.Perm (List.range (ups.length - 1))
  rise:∀ i j,i < j→j < ups.length - 1→lexV (Kl ups lab (ks.getD j 0)) (Kl ups lab (ks.getD i 0))=false
theorem KeptOk.len {ups:List Int} {lab:Str} {ks:List Nat} (h:KeptOk ups lab ks):ks.length=ups.length - 1:=by have:=h.perm.length_eq;simpa using this
theorem KeptOk.one {ups:List Int} {lab:Str} {os os':List Nat} (h:KeptOk ups lab os) (h':KeptOk ups lab os'):os=os':=rise_one (kl_keys ups lab (ups.length - 1)) h.perm h'.perm h.rise h'.rise
abbrev keptI (ks:List Nat):List Int:=0 :: ks.map fun i:Nat=>1+(i:Int)
def sp_kept (ls:List Lm):Sp:=fun vs H Q _=>∃ (t:Addr) (ups:List Int) (lab:Str),vs=[.ref t]∧TreeAt H t ups lab∧Lams ls H ∧
  ∀ (ks:List Nat) (r:Addr) (H':Hp),KeptOk ups lab ks→Kt ls H H'→H r=none→H' r=some (.lst ((keptI ks).map V.int))→Q (.ref r) H'
theorem has_kept {T:Addr} {ls:List Lm} (D:Df K mg "kept_order" s_kept_order) (B:Blt7 mg) (kb:K.In base) (TA:TabAt base mg "kept_order" T) (LK:LmOk ls) (LI:(T,lpK,qK)∈ls) (G_ranks_of:Has P w K mg base "ranks_of" k ["tree"] (sp_ranks ls)):Has P w K mg base "kept_order" (k+1) ["tree"] (sp_kept ls):=by
  refine D.hasT kb TA sc_kept_order (fun _ _ _ _ _ _ us hl=>match us,hl with | [_],_=>rfl) (fun vs H Q E h=>by obtain ⟨t,ups,lab,rfl,_⟩:=h;rfl) (fun f c A outer s H vs Q E CH hr h=>?_)
  have BA:=TA.blt
  obtain ⟨t,ups,lab,rfl,tr,L,q⟩:=h
  refine ⟨_,(pss_cons (ps_set (i:=1) sc_kept_order.nd rfl (by first | exact Or.inl rfl | exact Or.inr rfl) (pe_ix ix_tup (pv 0) pe_int (fun _ _=>rfl)))
  (pss_cons (ps_set (i:=2) sc_kept_order.nd rfl (by first | exact Or.inl rfl | exact Or.inr rfl) (pe_callH G_ranks_of hr rfl (pa_cons (pv 0) pa_nil)))
  (pss_one (ps_ret (pe_op op_cat (pe_lst (pa_cons pe_int pa_nil)) (pe_sortLam (x := "place") (ix:=[2,1]) hr rfl rfl B.sorted (pe_rng2 rfl B.range (pa_cons pe_int (pa_cons (pe_callB call_len_seq rfl B.len bt_len (pa_cons (pv 1) pa_nil)) pa_nil))) rfl CH BA LK LI (csc (defScope s_kept_order) N_kept_order) (fun qual cl fa cd A1 s₃ H₃ pins=>(pe_tup (pa_cons (pe_ix (ix_listK K) (pv 1) (pe_ix (ix_tupK K) (pv 2) (pv 0) (fun _ _=>rfl)) (fun _ _=>rfl)) (pa_cons (pv 0) pa_nil)))))))))),?_⟩
  obtain ⟨u,ht,hu,ok⟩:=id tr
  have m60:=ok.most
  have lpos:=ok.pos
  refine ⟨_,rfl,t,_,_,_,rfl,rfl,SqT.of ht,rfl,?_⟩
  refine ⟨_,rfl,t,ups,lab,rfl,tr,L,fun os r H1 oo k1 hf1 hr1=>?_⟩
  have hu1:=k1.tup hu
  refine ⟨(by show 1≤sizeLine;decide),fun z hz=>?_⟩
  have s2:Same H1 (upd H1 z (.lst [.int 0])):=(Same.refl H1).new hz
  have z2:upd H1 z (.lst [.int 0]) z=some (.lst [.int 0]):=upd_same
  generalize upd H1 z (.lst [.int 0])=H2 at s2 z2
  have hr2:=s2 _ _ hr1
  have hu2:=s2 _ _ hu1
  have L2':Lams ls H2:=k1.lam.same s2
  refine ⟨_,rfl,u,_,rfl,.inr (SqT.of hu2),_,_,rfl,fun g hg=>?_⟩
  have s3:Same H2 (upd H2 g (.rng 1 (((ups.map V.int).length:Nat):Int))):=(Same.refl H2).new hg
  have ul:(ups.map V.int).length=ups.length:=List.length_map _
  refine ⟨g,1,_,Kr ups lab,[1,1],rfl,upd_same,⟨by decide,by decide,by omega,by omega⟩,by omega,L2'.same s3,kr_keys _ _ _,fun i H3 hi kt=>?_,fun p l H3 hp hrise kt hl hl2=>?_⟩
  · have hi':i < ups.length - 1:=by omega
    have hr3:=kt.lst (s3 _ _ hr2)
    have hu3:=kt.tup (s3 _ _ hu2)
    have e1:(1+(i:Int)).toNat=i+1:=by omega
    obtain ⟨ul1,ul2⟩:=up_lt ok hi'
    refine ⟨_,rfl,_,rfl,_,rfl,u,_,_,_,rfl,rfl,SqT.of hu3,(ints_at (us:=ups) (i:=1+(i:Int)) (by omega) (by omega)),r,_,_,_,rfl,rfl,SqL.of hr3,?_,_,rfl,(by show 2≤sizeLine;decide),fun a ha=>⟨a,rfl,upd_same,(Same.refl H3).new ha⟩⟩
    rw [e1,ul2]
    refine atI_nat ?_
    rw [natV,List.map_map,List.getElem?_map,List.getElem?_range ul1];rfl
  · have e1:((((ups.map V.int).length:Nat):Int) - 1).toNat=ups.length - 1:=by omega
    rw [e1] at hp hrise
    have mem:∀ i,i < ups.length - 1→p.getD i 0 < ups.length - 1:=fun i hi=>by
      have pl:p.length=ups.length - 1:=by have:=hp.length_eq;simpa using this
      rw [List.getD_eq_getElem?_getD,List.getElem?_eq_getElem (by omega)]
      exact List.mem_range.mp (hp.mem_iff.mp (List.getElem_mem _))
    have ko:KeptOk ups lab p:=⟨hp,fun i j hij hj=>by
      rw [← lex_same oo ok (mem j hj) (mem i (by omega))];exact hrise i j hij hj⟩
    have kl:=ko.len
    have z3:=kt.lst (s3 _ _ z2)
    refine ⟨z,l,_,_,rfl,rfl,z3,hl2,?_,fun pp hpp=>q p pp _ ko ?_ ?_ ?_⟩
    · rw [List.length_map,kl]
      exact Nat.le_of_lt (small1000 (by simp only [List.length_cons,List.length_nil];omega))
    · exact (k1.same (s2.trans s3)).trans (kt.same ((Same.refl H3).new hpp))
    · exact k1.here _ ((s2.trans s3).free (kt.here _ hpp))
    · rw [upd_same,List.map_cons,List.map_map];rfl
end
end S73
namespace S73
open PySem L2 W7
theorem inV_int (v:Int) (l:List Int):inV (V.int v) (l.map V.int)=decide (v∈l):=by
  unfold inV
  rw [Bool.eq_iff_iff,List.any_eq_true,decide_eq_true_eq]
  constructor
  · rintro ⟨y,hy,e⟩
    obtain ⟨n,hn,rfl⟩:=List.mem_map.mp hy
    have:n=v:=by simpa [eqV] using e
    rw [← this];exact hn
  · intro h
    exact ⟨V.int v,List.mem_map.mpr ⟨v,h,rfl⟩,by simp [eqV]⟩
section
variable {P:Program} {w:World} {K:PySem.W.Frag} {mg:Str→Option Value} {base:Heap} {k:Nat}
def sp_whole:Sp:=fun vs H Q _=>∃ i:Int,vs=[.int i]∧Q (.bl true) H
theorem has_whole (D:Df K mg "is_whole" s_is_whole) (B:Blt7 mg):Has P w K mg base "is_whole" (k+1) ["thing"] sp_whole:=by
  refine D.has sc_is_whole (fun _ _ _ _ _ _ us hl=>match us,hl with | [_],_=>rfl) (fun vs H Q E h=>by obtain ⟨x,rfl,_⟩:=h;rfl) (fun f cdv A outer s H vs Q E hr h=>?_)
  obtain ⟨i,rfl,q⟩:=h
  refine ⟨_,(pss_one (ps_ret (pe_and (pe_callB call_isinst rfl B.isinstance bt_isinstance (pa_cons (pv 0) (pa_cons (pe_bltn (v:=.ty "int") rfl B.int_ bt_int rfl) pa_nil))) (pe_one (pe_not (pe_callB call_isinst rfl B.isinstance bt_isinstance (pa_cons (pv 0) (pa_cons (pe_bltn (v:=.ty "bool") rfl B.bool_ bt_bool rfl) pa_nil)))))))),?_⟩
  refine ⟨_,rfl,_,.type "int", "int", true,rfl,.int _,kit_same _ _,_,rfl,iteT ?_⟩
  exact ⟨_,rfl,_,.type "int", "bool", false,rfl,.int _,kit_int_bool _,_,rfl,q⟩
def sp_below:Sp:=fun vs H Q _=>∃ i n:Int,vs=[.int i,.int n]∧0≤i∧i < n∧Q (.bl true) H
theorem has_below (D:Df K mg "is_number_below" s_is_number_below) (B:Blt7 mg) (G_is_whole:Has P w K mg base "is_whole" k ["thing"] sp_whole):Has P w K mg base "is_number_below" (k+1) ["thing", "behind"] sp_below:=by
  refine D.has sc_is_number_below (fun _ _ _ _ _ _ us hl=>match us,hl with | [_,_],_=>rfl) (fun vs H Q E h=>by obtain ⟨x,y,rfl,_⟩:=h;rfl) (fun f cdv A outer s H vs Q E hr h=>?_)
  obtain ⟨i,n,rfl,h0,h1,q⟩:=h
  refine ⟨_,(pss_one (ps_ret (pe_and (pe_callH G_is_whole hr rfl (pa_cons (pv 0) pa_nil)) (pe_one (pe_chain op_le op_lt pe_int (pv 0) (pv 1)))))),?_⟩
  refine ⟨_,rfl,i,rfl,_,rfl,iteT ?_⟩
  refine ⟨_,rfl,_,_,rfl,rfl,_,rfl,?_⟩
  rw [decide_eq_true h0]
  refine iteT ⟨_,rfl,_,_,rfl,rfl,?_⟩
  show Q (.bl (decide (i < n))) H
  rw [decide_eq_true h1];exact q
theorem kept_mem {ups:List Int} {lab:Str} {ks:List Nat} (h:KeptOk ups lab ks) {n:Nat} (hn:n < ups.length):(n:Int)∈keptI ks:=by
  rcases Nat.eq_zero_or_pos n with e | e
  · subst e;exact List.mem_cons_self ..
  · refine List.mem_cons_of_mem _ (List.mem_map.mpr ⟨n - 1,h.perm.mem_iff.mpr (List.mem_range.mpr (by omega)),by omega⟩)
theorem kept_len {ups:List Int} {lab:Str} {ks:List Nat} (h:KeptOk ups lab ks):(keptI ks).length≤ups.length+1:=by
  have:=h.len
  simp only [keptI,List.length_cons,List.length_map]
  omega
theorem order_idx {ups:List Int} {lab:Str} {os:List Nat} (h:OrderOk ups lab os) {n:Nat} (hn:n < ups.length):os.idxOf n=cnt ups lab n:=by
  obtain ⟨i,i1,i2,i3⟩:=cnt_pos h hn
  have nd:os.Nodup:=h.perm.nodup_iff.mpr List.nodup_range
  have ln:=h.len
  rw [i3]
  have hm:n∈os:=h.perm.mem_iff.mpr (List.mem_range.mpr hn)
  have lt:os.idxOf n < os.length:=List.idxOf_lt_length_of_mem hm
  have e1:os[os.idxOf n]=n:=List.getElem_idxOf lt
  rw [List.getD_eq_getElem?_getD,List.getElem?_eq_getElem (by omega)] at i2
  exact (List.getElem_inj nd).mp (e1.trans i2.symm)
def Tri (ups:List Int) (lab:Str) (n:Nat) (a b:Int):Prop:=(∃ os ks,OrderOk ups lab os∧KeptOk ups lab ks)∧∀ os ks,OrderOk ups lab os→KeptOk ups lab ks→a=((os.idxOf n:Nat):Int)∧b=(((keptI ks).idxOf (n:Int):Nat):Int)
def sp_tri (ls:List Lm):Sp:=fun vs H Q _=>∃ (t:Addr) (ups:List Int) (lab:Str) (n:Nat),vs=[.ref t,.int (n:Int)]∧TreeAt H t ups lab∧n < ups.length∧Lams ls H ∧
  ∀ (r:Addr) (a b:Int) (H':Hp),Kt ls H H'→H r=none→Tri ups lab n a b→H' r=some (.tup [.int (n:Int),.int a,.int b])→Q (.ref r) H'
theorem has_tri {ls:List Lm} (D:Df K mg "triple_of" s_triple_of) (B:Blt7 mg) (G_ranks_of:Has P w K mg base "ranks_of" k ["tree"] (sp_ranks ls)) (G_kept_order:Has P w K mg base "kept_order" k ["tree"] (sp_kept ls)):Has P w K mg base "triple_of" (k+1) ["tree", "place"] (sp_tri ls):=by
  refine D.has sc_triple_of (fun _ _ _ _ _ _ us hl=>match us,hl with | [_,_],_=>rfl) (fun vs H Q E h=>by obtain ⟨t,ups,lab,p,rfl,_⟩:=h;rfl) (fun f cdv A outer s H vs Q E hr h=>?_)
  obtain ⟨t,ups,lab,n,rfl,tr,hn,L,q⟩:=h
  refine ⟨_,(pss_one (ps_ret (pe_tup (pa_cons (pv 1) (pa_cons (pe_ix ix_list (pe_callH G_ranks_of hr rfl (pa_cons (pv 0) pa_nil)) (pv 1) (fun _ _=>rfl)) (pa_cons (pe_indexI K (pe_callH G_kept_order hr rfl (pa_cons (pv 0) pa_nil)) (pv 1)) pa_nil)))))),?_⟩
  obtain ⟨u,ht,hu,ok⟩:=id tr
  have m60:=ok.most
  refine ⟨_,rfl,_,rfl,t,ups,lab,rfl,tr,L,fun os r1 H1 oo k1 hf1 hr1=>?_⟩
  have at1:atI (natV ((List.range ups.length).map (cnt ups lab))) (n:Int)=some (.int ((cnt ups lab n:Nat):Int)):=by
    refine atI_nat ?_
    unfold natV
    rw [List.getElem?_map,List.getElem?_map,List.getElem?_range hn];rfl
  refine ⟨_,rfl,r1,_,_,_,rfl,rfl,SqL.of hr1,at1,?_⟩
  refine ⟨_,rfl,t,ups,lab,rfl,⟨u,k1.tup ht,k1.tup hu,ok⟩,k1.lam,fun ks r2 H2 ko k2 hf2 hr2=>?_⟩
  have kl:=kept_len ko
  refine ⟨.inl ⟨rfl,_,SqL.of hr2⟩,_,rfl,r2,keptI ks,(n:Int),rfl,rfl,hr2,kept_mem ko hn,by omega,(by show 3≤sizeLine;decide),fun r hr=>?_⟩
  refine q r _ _ _ ((k1.trans k2).same ((Same.refl H2).new hr)) (k1.here _ (k2.here _ hr)) ⟨⟨os,ks,oo,ko⟩,?_⟩ upd_same
  intro os' ks' oo' ko'
  rw [order_idx oo' hn,ko'.one ko]
  exact ⟨rfl,rfl⟩
end
end S73
namespace S73
open PySem L2 W7
section
variable {P:Program} {w:World} {K:PySem.W.Frag} {mg:Str→Option Value} {base:Heap} {k:Nat}
def S1 (x y:V):Prop:=x=y∧((∃ i,x=.int i)∨(∃ z,x=.str z)∨∃ b,x=.bl b)
def Up (S:Hp→V→V→Prop) (H:Hp) (x y:V):Prop:=S1 x y∨∃ (p q:Addr) (xs ys:List V),x=.ref p∧y=.ref q∧xs.length=ys.length∧xs.length < 10000∧((H p=some (.lst xs)∧H q=some (.lst ys))∨(H p=some (.tup xs)∧H q=some (.tup ys)))∧∀ (i:Nat) a b,xs[i]?=some a→ys[i]?=some b→S H a b
def Mon (S:Hp→V→V→Prop):Prop:=∀ H H' x y,Same H H'→S H x y→S H' x y
def S0:Hp→V→V→Prop:=fun _ _ _=>False
theorem mon0:Mon S0:=fun _ _ _ _ _ h=>h
theorem Mon.up {S:Hp→V→V→Prop} (m:Mon S):Mon (Up S):=fun H H' x y s h=>by
  rcases h with h | ⟨p,q,xs,ys,e1,e2,l1,l2,a,al⟩
  · exact .inl h
  · refine .inr ⟨p,q,xs,ys,e1,e2,l1,l2,?_,fun i a b ha hb=>m _ _ _ _ s (al i a b ha hb)⟩
    rcases a with ⟨a,b⟩ | ⟨a,b⟩
    · exact .inl ⟨s _ _ a,s _ _ b⟩
    · exact .inr ⟨s _ _ a,s _ _ b⟩
def sp_sm (S:Hp→V→V→Prop):Sp:=fun vs H Q _=>∃ x y:V,vs=[x,y]∧S H x y∧∀ H':Hp,Same H H'→Q (.bl true) H'
theorem has_sm0 (D:Df K mg "_law_same" s_law_same):Has P w K mg base "_law_same" (k+1) ["found", "due"] (sp_sm S0):=by
  refine D.has sc_law_same (fun _ _ _ _ _ _ us hl=>match us,hl with | [_,_],_=>rfl) (fun vs H Q E h=>by obtain ⟨x,y,rfl,_⟩:=h;rfl) (fun f cdv A outer s H vs Q E hr h=>?_)
  obtain ⟨x,y,_,h,_⟩:=h
  exact h.elim
theorem has_sm {S:Hp→V→V→Prop} (m:Mon S) (D:Df K mg "_law_same" s_law_same) (B:Blt7 mg) (G_law_same:Has P w K mg base "_law_same" k ["found", "due"] (sp_sm S)):Has P w K mg base "_law_same" (k+1) ["found", "due"] (sp_sm (Up S)):=by
  refine D.has sc_law_same (fun _ _ _ _ _ _ us hl=>match us,hl with | [_,_],_=>rfl) (fun vs H Q E h=>by obtain ⟨x,y,rfl,_⟩:=h;rfl) (fun f cdv A outer s H vs Q E hr h=>?_)
  obtain ⟨x,y,rfl,h,q⟩:=h
  refine ⟨_,(pss_cons (ps_if (pt_val (pe_callB (call_isinstT K) rfl B.isinstance bt_isinstance (pa_cons (pv 1) (pa_cons (pe_tup (pa_cons (pe_bltn (v:=.ty "list") rfl B.list_ bt_list rfl) (pa_cons (pe_bltn (v:=.ty "tuple") rfl B.tuple_ bt_tuple rfl) pa_nil))) pa_nil))))
  (pss_cons (ps_if (PW.pt (pw_or (pt_not (pt_val (pe_callB (call_isinstT K) rfl B.isinstance bt_isinstance (pa_cons (pv 0) (pa_cons (pe_tup (pa_cons (pe_bltn (v:=.ty "list") rfl B.list_ bt_list rfl) (pa_cons (pe_bltn (v:=.ty "tuple") rfl B.tuple_ bt_tuple rfl) pa_nil))) pa_nil))))) (pw_or1 (pt_cmpR op_ne (pe_callB call_isinst rfl B.isinstance bt_isinstance (pa_cons (pv 0) (pa_cons (pe_bltn (v:=.ty "list") rfl B.list_ bt_list rfl) pa_nil))) (pe_callB call_isinst rfl B.isinstance bt_isinstance (pa_cons (pv 1) (pa_cons (pe_bltn (v:=.ty "list") rfl B.list_ bt_list rfl) pa_nil))) (nomark _)))))
  (pss_one (ps_ret pe_bl))
  pss_nil)
  (pss_cons (ps_if (pt_cmpR op_ne (pe_callB call_len_seq rfl B.len bt_len (pa_cons (pv 0) pa_nil)) (pe_callB call_len_seq rfl B.len bt_len (pa_cons (pv 1) pa_nil)) (nomark _))
  (pss_one (ps_ret pe_bl))
  pss_nil)
  (pss_one (ps_ret (pe_callB (call_all rfl) rfl B.all bt_all (pa_cons (pe_comp rfl (pi_zip rfl B.zip (pa_cons (pv 0) (pa_cons (pv 1) pa_nil))) (NL:=["one", "other"]) (ix:=[]) (csc (defScope s_law_same) N_law_same) (fun cl C s₃ H₃ fp pins=>⟨(pg_tupK K (n:=2) rfl (pgs_cons (pg_name (i:=0) (show List.Nodup (["one", "other"]:List Str) from by decide +kernel) rfl (by first | exact Or.inl rfl | exact Or.inr rfl)) (pgs_cons (pg_name (i:=1) (show List.Nodup (["one", "other"]:List Str) from by decide +kernel) rfl (by first | exact Or.inl rfl | exact Or.inr rfl)) pgs_nil))),pifs_nil,(pe_callH G_law_same hr rfl (pa_cons (pv 0) (pa_cons (pv 1) pa_nil)))⟩)) pa_nil))))))
  pss_nil)
  (pss_cons (ps_if (PW.pt (pw_or (pt_cmpR op_ne (pe_callB call_isinst rfl B.isinstance bt_isinstance (pa_cons (pv 0) (pa_cons (pe_bltn (v:=.ty "bool") rfl B.bool_ bt_bool rfl) pa_nil))) (pe_callB call_isinst rfl B.isinstance bt_isinstance (pa_cons (pv 1) (pa_cons (pe_bltn (v:=.ty "bool") rfl B.bool_ bt_bool rfl) pa_nil))) (nomark _)) (pw_or1 (pt_cmpR op_ne (pe_callB call_isinst rfl B.isinstance bt_isinstance (pa_cons (pv 0) (pa_cons (pe_bltn (v:=.ty "int") rfl B.int_ bt_int rfl) pa_nil))) (pe_callB call_isinst rfl B.isinstance bt_isinstance (pa_cons (pv 1) (pa_cons (pe_bltn (v:=.ty "int") rfl B.int_ bt_int rfl) pa_nil))) (nomark _)))))
  (pss_one (ps_ret pe_bl))
  pss_nil)
  (pss_one (ps_ret (pe_and (pe_cmpR op_eq (pe_callB call_isinst rfl B.isinstance bt_isinstance (pa_cons (pv 0) (pa_cons (pe_bltn (v:=.ty "str") rfl B.str_ bt_str rfl) pa_nil))) (pe_callB call_isinst rfl B.isinstance bt_isinstance (pa_cons (pv 1) (pa_cons (pe_bltn (v:=.ty "str") rfl B.str_ bt_str rfl) pa_nil))) (nomark _)) (pe_one (pe_cmpR op_eq (pv 0) (pv 1) (nomark _)))))))),?_⟩
  refine ⟨_,rfl,(by show 2≤sizeLine;decide),fun c hc=>?_⟩
  have s1:Same H (upd H c (.tup [.ty "list", .ty "tuple"])):=(Same.refl H).new hc
  have h1:upd H c (.tup [.ty "list", .ty "tuple"]) c=some (.tup [.ty "list", .ty "tuple"]):=upd_same
  generalize upd H c (.tup [.ty "list", .ty "tuple"])=H1 at s1 h1
  rcases h with ⟨rfl,⟨i,rfl⟩ | ⟨z,rfl⟩ | ⟨bb,rfl⟩⟩ | ⟨p,p',xs,ys,rfl,rfl,l1,l2,hab,al⟩
  · have q:=q H1 s1
    refine ⟨_,_,c,["list", "tuple"],false,rfl,h1,.int _,rfl,_,rfl,iteF ?_⟩
    refine ⟨_,rfl,_,.type "int", "bool", false,rfl,.int _,kit_int_bool _,_,rfl,_,.type "int", "bool", false,rfl,.int _,kit_int_bool _,rfl,_,rfl,?_⟩
    rw [decide_eq_true rfl]
    refine iteF ?_
    refine ⟨_,rfl,_,.type "int", "int", true,rfl,.int _,kit_same _ _,_,rfl,_,.type "int", "int", true,rfl,.int _,kit_same _ _,rfl,_,rfl,?_⟩
    rw [decide_eq_true rfl]
    refine iteF ?_
    refine ⟨_,rfl,_,.type "int", "str", false,rfl,.int _,rfl,_,rfl,_,.type "int", "str", false,rfl,.int _,rfl,rfl,_,rfl,?_⟩
    rw [decide_eq_true rfl]
    refine iteT ?_
    refine ⟨_,rfl,_,rfl,rfl,?_⟩
    rw [decide_eq_true rfl];exact q
  · have q:=q H1 s1
    refine ⟨_,_,c,["list", "tuple"],false,rfl,h1,.str _,rfl,_,rfl,iteF ?_⟩
    refine ⟨_,rfl,_,.type "str", "bool", false,rfl,.str _,rfl,_,rfl,_,.type "str", "bool", false,rfl,.str _,rfl,rfl,_,rfl,?_⟩
    rw [decide_eq_true rfl]
    refine iteF ?_
    refine ⟨_,rfl,_,.type "str", "int", false,rfl,.str _,rfl,_,rfl,_,.type "str", "int", false,rfl,.str _,rfl,rfl,_,rfl,?_⟩
    rw [decide_eq_true rfl]
    refine iteF ?_
    refine ⟨_,rfl,_,.type "str", "str", true,rfl,.str _,kit_same _ _,_,rfl,_,.type "str", "str", true,rfl,.str _,kit_same _ _,rfl,_,rfl,?_⟩
    rw [decide_eq_true rfl]
    refine iteT ?_
    refine ⟨_,rfl,_,rfl,rfl,?_⟩
    rw [decide_eq_true rfl];exact q
  · have q:=q H1 s1
    refine ⟨_,_,c,["list", "tuple"],false,rfl,h1,.bl _,rfl,_,rfl,iteF ?_⟩
    refine ⟨_,rfl,_,.type "bool", "bool", true,rfl,.bl _,kit_same _ _,_,rfl,_,.type "bool", "bool", true,rfl,.bl _,kit_same _ _,rfl,_,rfl,?_⟩
    rw [decide_eq_true rfl]
    refine iteF ?_
    refine ⟨_,rfl,_,.type "bool", "int", true,rfl,.bl _,rfl,_,rfl,_,.type "bool", "int", true,rfl,.bl _,rfl,rfl,_,rfl,?_⟩
    rw [decide_eq_true rfl]
    refine iteF ?_
    refine ⟨_,rfl,_,.type "bool", "str", false,rfl,.bl _,rfl,_,rfl,_,.type "bool", "str", false,rfl,.bl _,rfl,rfl,_,rfl,?_⟩
    rw [decide_eq_true rfl]
    refine iteT ?_
    refine ⟨_,rfl,_,rfl,rfl,?_⟩
    rw [decide_eq_true rfl];exact q
  · rcases hab with ⟨ha,hb⟩ | ⟨ha,hb⟩
    · have ha:=s1 _ _ ha
      have hb:=s1 _ _ hb
      refine ⟨_,_,c,["list", "tuple"],true,rfl,h1,.lst hb,rfl,_,rfl,iteT ?_⟩
      refine ⟨_,rfl,(by show 2≤sizeLine;decide),fun c2 hc2=>?_⟩
      have s2:Same H1 (upd H1 c2 (.tup [.ty "list", .ty "tuple"])):=(Same.refl H1).new hc2
      have h2:upd H1 c2 (.tup [.ty "list", .ty "tuple"]) c2=some (.tup [.ty "list", .ty "tuple"]):=upd_same
      generalize upd H1 c2 (.tup [.ty "list", .ty "tuple"])=H2 at s2 h2
      have ha:=s2 _ _ ha
      have hb:=s2 _ _ hb
      have s02:=s1.trans s2
      refine ⟨_,_,c2,["list", "tuple"],true,rfl,h2,.lst ha,rfl,_,rfl,iteF ?_⟩
      refine ⟨_,rfl,_,.type "list", "list", _,rfl,.lst ha,rfl,_,rfl,_,.type "list", "list", _,rfl,.lst hb,rfl,rfl,_,rfl,?_⟩
      rw [decide_eq_true rfl]
      refine iteF ?_
      refine ⟨_,rfl,p,_,rfl,.inl (SqL.of ha),_,rfl,p',_,rfl,.inl (SqL.of hb),rfl,_,rfl,?_⟩
      rw [decide_eq_true (by rw [l1])]
      refine iteF ?_
      refine ⟨_,rfl,_,rfl,.lst p,.lst p',rfl,⟨_,.inl ha⟩,⟨_,.inl hb⟩,fun acc hacc=>?_⟩
      refine comp_zipB (xs:=xs) (zs:=ys) l2 l1 (fun i zs H3=>H3 acc=some (.lst zs)∧zs=(List.replicate i true).map V.bl∧Same H2 H3)
        (fun i zs H3 h=>⟨.inl (h.2.2 _ _ ha),.inl (h.2.2 _ _ hb)⟩) (fun i zs H3 h=>⟨h.1,by rw [h.2.1,List.length_map,List.length_replicate];exact Nat.le_refl _⟩) ⟨upd_same,rfl,(Same.refl H2).new hacc⟩ ?_ ?_
      · rintro zs H3 ⟨g1,rfl,g3⟩
        refine ⟨acc,_,rfl,SqL.of g1,?_⟩
        have e:(List.replicate xs.length true).all id=true:=by simp
        rw [e];exact q H3 (s02.trans g3)
      · rintro i x z zs H3 r hx hz ⟨g1,rfl,g3⟩ hr2
        have sX:Same H2 (upd H3 r (.tup [x,z])):=g3.new hr2
        have g1':upd H3 r (.tup [x,z]) acc=some (.lst ((List.replicate i true).map V.bl)):=by rw [upd_ne (ne_of_none g1 hr2)];exact g1
        refine ⟨r,_,rfl,SqT.of upd_same,rfl,_,_,rfl,_,_,rfl,rfl,rfl,?_⟩
        refine ⟨_,rfl,_,rfl,x,z,rfl,m _ _ _ _ (s02.trans sX) (al i x z hx hz),fun H4 s4=>⟨s4 _ _ g1',upd_same,?_,(sX.trans s4).write hacc⟩⟩
        rw [List.replicate_succ',List.map_append];rfl
    · have ha:=s1 _ _ ha
      have hb:=s1 _ _ hb
      refine ⟨_,_,c,["list", "tuple"],true,rfl,h1,.tup hb,rfl,_,rfl,iteT ?_⟩
      refine ⟨_,rfl,(by show 2≤sizeLine;decide),fun c2 hc2=>?_⟩
      have s2:Same H1 (upd H1 c2 (.tup [.ty "list", .ty "tuple"])):=(Same.refl H1).new hc2
      have h2:upd H1 c2 (.tup [.ty "list", .ty "tuple"]) c2=some (.tup [.ty "list", .ty "tuple"]):=upd_same
      generalize upd H1 c2 (.tup [.ty "list", .ty "tuple"])=H2 at s2 h2
      have ha:=s2 _ _ ha
      have hb:=s2 _ _ hb
      have s02:=s1.trans s2
      refine ⟨_,_,c2,["list", "tuple"],true,rfl,h2,.tup ha,rfl,_,rfl,iteF ?_⟩
      refine ⟨_,rfl,_,.type "tuple", "list", _,rfl,.tup ha,rfl,_,rfl,_,.type "tuple", "list", _,rfl,.tup hb,rfl,rfl,_,rfl,?_⟩
      rw [decide_eq_true rfl]
      refine iteF ?_
      refine ⟨_,rfl,p,_,rfl,.inr (SqT.of ha),_,rfl,p',_,rfl,.inr (SqT.of hb),rfl,_,rfl,?_⟩
      rw [decide_eq_true (by rw [l1])]
      refine iteF ?_
      refine ⟨_,rfl,_,rfl,.tup p,.tup p',rfl,⟨_,.inl ha⟩,⟨_,.inl hb⟩,fun acc hacc=>?_⟩
      refine comp_zipB (xs:=xs) (zs:=ys) l2 l1 (fun i zs H3=>H3 acc=some (.lst zs)∧zs=(List.replicate i true).map V.bl∧Same H2 H3)
        (fun i zs H3 h=>⟨.inl (h.2.2 _ _ ha),.inl (h.2.2 _ _ hb)⟩) (fun i zs H3 h=>⟨h.1,by rw [h.2.1,List.length_map,List.length_replicate];exact Nat.le_refl _⟩) ⟨upd_same,rfl,(Same.refl H2).new hacc⟩ ?_ ?_
      · rintro zs H3 ⟨g1,rfl,g3⟩
        refine ⟨acc,_,rfl,SqL.of g1,?_⟩
        have e:(List.replicate xs.length true).all id=true:=by simp
        rw [e];exact q H3 (s02.trans g3)
      · rintro i x z zs H3 r hx hz ⟨g1,rfl,g3⟩ hr2
        have sX:Same H2 (upd H3 r (.tup [x,z])):=g3.new hr2
        have g1':upd H3 r (.tup [x,z]) acc=some (.lst ((List.replicate i true).map V.bl)):=by rw [upd_ne (ne_of_none g1 hr2)];exact g1
        refine ⟨r,_,rfl,SqT.of upd_same,rfl,_,_,rfl,_,_,rfl,rfl,rfl,?_⟩
        refine ⟨_,rfl,_,rfl,x,z,rfl,m _ _ _ _ (s02.trans sX) (al i x z hx hz),fun H4 s4=>⟨s4 _ _ g1',upd_same,?_,(sX.trans s4).write hacc⟩⟩
        rw [List.replicate_succ',List.map_append];rfl
end
end S73
namespace S73
open PySem L2 W7
end S73
namespace S73
open PySem L2 W7
theorem putF_len (f:Str) (v:V):∀ fs:List (Str × V),(putF f v fs).length≤fs.length+1
  | []=>Nat.le_refl _
  | (g,x) :: r=>by
    show (if g=f then (g,v) :: r else (g,x) :: putF f v r).length≤_
    split
    · simp
    · rw [List.length_cons,List.length_cons]
      have:=putF_len f v r
      omega
theorem putF_swap {f g:Str} (v w:V) (ne:¬ g=f):putF f v (putF g w (putF f w' []))=putF g w (putF f v []):=by
  have n2:¬ f=g:=fun z=>ne z.symm
  show putF f v (if f=g then (f,w) :: [] else (f,w') :: putF g w [])=if f=g then (f,w) :: [] else (f,v) :: putF g w []
  rw [if_neg n2,if_neg n2]
  show (if f=f then (f,v) :: putF g w [] else _)=_
  rw [if_pos rfl]
def flds (t l:Addr):List (Str × V):=putF "deeds" (.ref l) (putF "tree" (.ref t) [])
theorem n1:¬ (("tree" : Str) = "deeds"):=by decide +kernel
section
variable {t l:Addr}
theorem f_tree:(flds t l).lookup ("tree" : Str)=some (.ref t):=by
  unfold flds
  rw [lookup_putF,if_neg n1,lookup_putF,if_pos rfl]
theorem f_deeds:(flds t l).lookup ("deeds" : Str)=some (.ref l):=by
  unfold flds
  rw [lookup_putF,if_pos rfl]
theorem f_no {m:Str} (h1:¬ m = "deeds") (h2:¬ m = "tree"):(flds t l).lookup m=none:=by
  unfold flds
  rw [lookup_putF,if_neg h1,lookup_putF,if_neg h2]
  all_goals rfl
theorem f_put {t2:Addr}:putF "tree" (.ref t2) (flds t l)=flds t2 l:=by
  unfold flds
  exact putF_swap _ _ (fun z=>n1 z.symm)
theorem f_len:(flds t l).length < 1000:=by
  unfold flds
  have h1:=putF_len "tree" (.ref t) []
  have h2:=putF_len "deeds" (.ref l) (putF "tree" (.ref t) [])
  rw [List.length_nil] at h1
  omega
end
structure Tx (K:PySem.W.Frag) (mg:Str→Option Value) (C:Addr):Prop where
  cl:Cls K C
  nT:NoAttr K C "tree"
  nD:NoAttr K C "deeds"
  mgC:mg "Keeper" = some (.ref C)
structure KpAt (C:Addr) (H:Hp) (x dx l t:Addr) (ups:List Int) (lab:Str) (ds:List V):Prop where
  ob:H x=some (.ins C dx (flds t l))
  dl:H l=some (.lst ds)
  tr:TreeAt H t ups lab
theorem KpAt.same {C:Addr} {H H':Hp} {x dx l t:Addr} {ups:List Int} {lab:Str} {ds:List V} (h:KpAt C H x dx l t ups lab ds) (k:Same H H'):KpAt C H' x dx l t ups lab ds:=⟨k _ _ h.ob,k _ _ h.dl,h.tr.same k⟩
theorem TreeAt.of {H H':Hp} {t:Addr} {ups:List Int} {lab:Str} (h:TreeAt H t ups lab) (kp:∀ b xs,H b=some (.tup xs)→H' b=some (.tup xs)):TreeAt H' t ups lab:=by
  obtain ⟨u,ht,hu,ok⟩:=h
  exact ⟨u,kp _ _ ht,kp _ _ hu,ok⟩
theorem KpAt.kt {C:Addr} {ls:List Lm} {H H':Hp} {x dx l t:Addr} {ups:List Int} {lab:Str} {ds:List V} (h:KpAt C H x dx l t ups lab ds) (k:Kt ls H H'):KpAt C H' x dx l t ups lab ds:=
  ⟨k.keep _ _ (fun _ z=>by cases z) h.ob,k.lst h.dl,TreeAt.of h.tr fun b xs e=>k.tup e⟩
structure Ke (ls:List Lm) (x l:Addr) (H H':Hp):Prop where
  lam:Lams ls H'
  keep:∀ b o,(∀ ps,o≠.tbl ps)→b≠x→b≠l→H b=some o→H' b=some o
  here:∀ b,H' b=none→H b=none
theorem Lams.upd {ls:List Lm} {H:Hp} {q:Addr} {o0 o:HO} (a:Lams ls H) (h:H q=some o0) (h1:∀ ps,o0≠.tbl ps) (h2:∀ g,o0≠.ext g):Lams ls (upd H q o):=fun m hm=>by
  obtain ⟨ps,a,b,c⟩:=a m hm
  refine ⟨ps,by rw [upd_ne (ne_of a h (fun z=>h1 ps z.symm))];exact a,b,?_⟩
  rcases c with c | ⟨d,c,e⟩
  · exact .inl c
  · exact .inr ⟨d,c,by rw [upd_ne (ne_of e h (fun z=>h2 _ z.symm))];exact e⟩
theorem here_upd {H H':Hp} {q:Addr} {o:HO} (h:∀ b,H' b=none→H b=none):∀ b,upd H' q o b=none→H b=none:=fun b e=>by
  by_cases z:b=q
  · rw [z,upd_same] at e;cases e
  · rw [upd_ne z] at e;exact h b e
def Tu (H H':Hp):Prop:=∀ b xs,H b=some (.tup xs)→H' b=some (.tup xs)
theorem Tu.of {H H':Hp} (s:Same H H'):Tu H H':=fun b xs e=>s b _ e
theorem Tu.kt {ls:List Lm} {H H':Hp} (k:Kt ls H H'):Tu H H':=fun b xs e=>k.tup e
structure Hs where
  us:List Int
  lb:Str
  n:Int
  a:Int
  b:Int
def DeedAt (H:Hp) (d:V) (h:Hs):Prop:=∃ e t r:Addr,d=.ref e∧H e=some (.tup [.ref t,.ref r])∧TreeAt H t h.us h.lb∧H r=some (.tup [.int h.n,.int h.a,.int h.b])
theorem DeedAt.tu {H H':Hp} {d:V} {h:Hs} (x:DeedAt H d h) (t:Tu H H'):DeedAt H' d h:=by
  obtain ⟨e,t',r,e1,e2,e3,e4⟩:=x
  exact ⟨e,t',r,e1,t _ _ e2,TreeAt.of e3 t,t _ _ e4⟩
def Deeds (H:Hp) (ds:List V) (hs:List Hs):Prop:=ds.length=hs.length∧∀ (i:Nat) d h,ds[i]?=some d→hs[i]?=some h→DeedAt H d h
theorem Deeds.tu {H H':Hp} {ds:List V} {hs:List Hs} (x:Deeds H ds hs) (t:Tu H H'):Deeds H' ds hs:=⟨x.1,fun i d h a b=>(x.2 i d h a b).tu t⟩
theorem Deeds.nil {H:Hp}:Deeds H [] []:=⟨rfl,fun i d h a=>by cases a⟩
theorem Deeds.push {H:Hp} {ds:List V} {hs:List Hs} {d:V} {h:Hs} (x:Deeds H ds hs) (y:DeedAt H d h):Deeds H (ds++[d]) (hs++[h]):=by
  refine ⟨by simp [x.1],fun i d' h' a b=>?_⟩
  rcases Nat.lt_or_ge i ds.length with z | z
  · rw [List.getElem?_append_left z] at a
    rw [List.getElem?_append_left (by rw [← x.1];exact z)] at b
    exact x.2 i d' h' a b
  · rw [List.getElem?_append_right z] at a
    rw [List.getElem?_append_right (by rw [← x.1];exact z)] at b
    rw [← x.1] at b
    cases e:i - ds.length with
    | zero=>
      rw [e] at a b
      obtain rfl:d=d':=by simpa using a
      obtain rfl:h=h':=by simpa using b
      exact y
    | succ m=>rw [e] at a;cases a
theorem Deeds.pop {H:Hp} {ds:List V} {hs:List Hs} {h:Hs} (x:Deeds H ds (hs++[h])):∃ ds' d,ds=ds'++[d]∧Deeds H ds' hs∧DeedAt H d h:=by
  have l:=x.1
  rw [List.length_append,List.length_singleton] at l
  have ne:ds≠[]:=fun z=>by rw [z] at l;simp at l
  refine ⟨ds.dropLast,ds.getLast ne,(List.dropLast_concat_getLast ne).symm,⟨by rw [List.length_dropLast];omega,fun i d' h' a b=>?_⟩,?_⟩
  · have hi:=(List.getElem?_eq_some_iff.mp b).1
    refine x.2 i d' h' ?_ (by rw [List.getElem?_append_left hi];exact b)
    rw [List.getElem?_dropLast,if_pos (by omega)] at a
    exact a
  · refine x.2 hs.length _ h ?_ (by rw [List.getElem?_append_right (Nat.le_refl _),Nat.sub_self];rfl)
    rw [List.getLast_eq_getElem,List.getElem?_eq_getElem (by omega)]
    congr 1
    congr 1
    omega
def sp_init (C:Addr):Sp:=fun vs H Q _=>∃ (p dx t:Addr) (ups:List Int) (lab:Str),vs=[.ref p,.ref t]∧H p=some (.ins C dx [])∧TreeAt H t ups lab∧∀ (l:Addr) (H':Hp),H l=none→KpAt C H' p dx l t ups lab []→(∀ b o,H b=some o→b≠p→H' b=some o)→Q .non H'
def sp_now (C:Addr):Sp:=fun vs H Q _=>∃ (x dx l t:Addr) (ups:List Int) (lab:Str) (ds:List V),vs=[.ref x]∧KpAt C H x dx l t ups lab ds∧Q (.ref t) H
def sp_deeds (C:Addr):Sp:=fun vs H Q _=>∃ (x dx l t:Addr) (ups:List Int) (lab:Str) (ds:List V),vs=[.ref x]∧KpAt C H x dx l t ups lab ds∧ds.length < 9000∧Q (.int ((ds.length:Nat):Int)) H
def sp_refuse (C:Addr):Sp:=fun vs H Q _=>∃ (x dx l t:Addr) (ups:List Int) (lab:Str) (ds:List V) (n:Nat),vs=[.ref x,.int (n:Int)]∧KpAt C H x dx l t ups lab ds∧n < ups.length∧Q .non H
def sp_change (C:Addr) (ls:List Lm):Sp:=fun vs H Q _=>∃ (x dx l t t2 r:Addr) (ups:List Int) (lab:Str) (ds:List V),vs=[.ref x,.ref t2,.ref r]∧KpAt C H x dx l t ups lab ds∧ds.length < 9000∧Lams ls H ∧
  ∀ (H':Hp) (e:Addr),H' x=some (.ins C dx (flds t2 l))→H' l=some (.lst (ds++[.ref e]))→H' e=some (.tup [.ref t,.ref r])→Ke ls x l H H'→Q (.ref r) H'
section
variable {P:Program} {w:World} {K:PySem.W.Frag} {mg:Str→Option Value} {base:Heap} {k:Nat} {C f:Addr} {fd:FuncData}
theorem ok_init (F:Fun K "__init__" "Keeper.__init__" s_Keeper___init__ f fd) (T:Tx K mg C):FnOk P w K mg base CX0 (k+1) f fd ["self", "tree"] (sp_init C):=by
  refine F.ok sc_Keeper___init__ (fun vs H Q E h=>by obtain ⟨p,dx,t,ups,lab,rfl,_⟩:=h;rfl) (fun cdv A outer s H vs Q E hr h=>?_)
  obtain ⟨p,dx,t,ups,lab,rfl,hp,tr,q⟩:=h
  refine ⟨_,(pss_cons (ps_fld (pv 0) (pv 1) rfl)
  (pss_one (ps_fld (pv 0) (pe_lst pa_nil) rfl))),?_⟩
  refine ⟨_,rfl,_,rfl,p,C,dx,[],rfl,hp,T.cl,T.nT,(by show 0 < 1000;decide),?_⟩
  refine ⟨(by show 0≤sizeLine;decide),fun l hl=>?_⟩
  have pl:p≠l:=ne_of_none upd_same hl
  have fl:H l=none:=by rw [upd_ne pl.symm] at hl;exact hl
  refine ⟨_,rfl,p,C,dx,_,rfl,(by rw [upd_ne pl,upd_same]),T.cl,T.nD,Nat.lt_of_le_of_lt (putF_len _ _ _) (by show 1 < 1000;decide),?_⟩
  have kp:∀ b o,H b=some o→b≠p→upd (upd (upd H p (.ins C dx (putF "tree" (.ref t) []))) l (.lst [])) p (.ins C dx (flds t l)) b=some o:=fun b o e hb=>by
    rw [upd_ne hb,upd_ne (ne_of_none e fl),upd_ne hb];exact e
  refine q l _ fl ⟨upd_same,?_,?_⟩ kp
  · rw [upd_ne pl.symm,upd_same]
  · exact TreeAt.of tr fun b xs e=>kp b _ e (ne_of e hp (by intro z;cases z))
theorem ok_now (F:Fun K "tree_now" "Keeper.tree_now" s_Keeper_tree_now f fd) (T:Tx K mg C):FnOk P w K mg base CX0 (k+1) f fd ["self"] (sp_now C):=by
  refine F.ok sc_Keeper_tree_now (fun vs H Q E h=>by obtain ⟨x,dx,l,t,ups,lab,ds,rfl,_⟩:=h;rfl) (fun cdv A outer s H vs Q E hr h=>?_)
  obtain ⟨x,dx,l,t,ups,lab,ds,rfl,S,q⟩:=h
  refine ⟨_,(pss_one (ps_ret (pe_fld (pv 0) rfl))),?_⟩
  exact ⟨_,rfl,x,C,dx,_,_,rfl,S.ob,T.cl,T.nT,f_tree,q⟩
theorem ok_deeds (F:Fun K "deeds_now" "Keeper.deeds_now" s_Keeper_deeds_now f fd) (T:Tx K mg C) (B:Blt7 mg):FnOk P w K mg base CX0 (k+1) f fd ["self"] (sp_deeds C):=by
  refine F.ok sc_Keeper_deeds_now (fun vs H Q E h=>by obtain ⟨x,dx,l,t,ups,lab,ds,rfl,_⟩:=h;rfl) (fun cdv A outer s H vs Q E hr h=>?_)
  obtain ⟨x,dx,l,t,ups,lab,ds,rfl,S,h9,q⟩:=h
  refine ⟨_,(pss_one (ps_ret (pe_callB call_len_seq rfl B.len bt_len (pa_cons (pe_fld (pv 0) rfl) pa_nil)))),?_⟩
  exact ⟨_,rfl,x,C,dx,_,_,rfl,S.ob,T.cl,T.nD,f_deeds,l,_,rfl,.inl (SqL.of S.dl),q⟩
theorem ok_refuse (F:Fun K "refuse_no_place" "Keeper.refuse_no_place" s_Keeper_refuse_no_place f fd) (T:Tx K mg C) (B:Blt7 mg) (G_is_number_below:Has P w K mg base "is_number_below" k ["thing", "behind"] sp_below):FnOk P w K mg base CX0 (k+1) f fd ["self", "place"] (sp_refuse C):=by
  refine F.ok sc_Keeper_refuse_no_place (fun vs H Q E h=>by obtain ⟨x,dx,l,t,ups,lab,ds,n,rfl,_⟩:=h;rfl) (fun cdv A outer s H vs Q E hr h=>?_)
  obtain ⟨x,dx,l,t,ups,lab,ds,n,rfl,S,hn,q⟩:=h
  refine ⟨_,(pss_one (ps_if (pt_not (pt_val (pe_callH G_is_number_below hr rfl (pa_cons (pv 1) (pa_cons (pe_callB call_len_str rfl B.len bt_len (pa_cons (pe_ix ix_tup (pe_fld (pv 0) rfl) pe_int (fun _ _=>rfl)) pa_nil)) pa_nil)))))
  (pss_one ps_raise0)
  pss_nil)),?_⟩
  obtain ⟨u,ht,hu,ok⟩:=id S.tr
  have m60:=ok.most
  have ll:lab.length=ups.length:=by rw [ok.len];simp [Str.length]
  refine ⟨_,rfl,_,rfl,x,C,dx,_,_,rfl,S.ob,T.cl,T.nT,f_tree,t,_,_,_,rfl,rfl,SqT.of ht,rfl,lab,rfl,Nat.le_of_lt (small1000 (by omega)),?_⟩
  exact ⟨_,_,rfl,by omega,by omega,_,rfl,iteF q⟩
theorem ok_change {ls:List Lm} (F:Fun K "change" "Keeper.change" s_Keeper_change f fd) (T:Tx K mg C) (B:Blt7 mg):FnOk P w K mg base CX0 (k+1) f fd ["self", "tree", "triple"] (sp_change C ls):=by
  refine F.ok sc_Keeper_change (fun vs H Q E h=>by obtain ⟨x,dx,l,t,t2,r,ups,lab,ds,rfl,_⟩:=h;rfl) (fun cdv A outer s H vs Q E hr h=>?_)
  obtain ⟨x,dx,l,t,t2,r,ups,lab,ds,rfl,S,h9,L,q⟩:=h
  refine ⟨_,(pss_cons (ps_expr (pe_bm PySem.F.plainAttrs_list PySem.F.slot_list_append PySem.F.type_list_append mt_append (pe_fld (pv 0) rfl) (pa_cons (pe_tup (pa_cons (pe_fld (pv 0) rfl) (pa_cons (pv 2) pa_nil))) pa_nil)))
  (pss_cons (ps_fld (pv 0) (pv 1) rfl)
  (pss_one (ps_ret (pv 2))))),?_⟩
  refine ⟨_,rfl,x,C,dx,_,_,rfl,S.ob,T.cl,T.nD,f_deeds,.inl ⟨rfl,_,SqL.of S.dl⟩,?_⟩
  refine ⟨_,rfl,x,C,dx,_,_,rfl,S.ob,T.cl,T.nT,f_tree,_,rfl,(by show 2≤sizeLine;decide),fun e he=>?_⟩
  have s1:Same H (upd H e (.tup [.ref t,.ref r])):=(Same.refl H).new he
  have e1:upd H e (.tup [.ref t,.ref r]) e=some (.tup [.ref t,.ref r]):=upd_same
  show (fun HH=>_) (upd H e (.tup [.ref t,.ref r]))
  generalize upd H e (.tup [.ref t,.ref r])=H1 at s1 e1
  have S1:=S.same s1
  have xl:x≠l:=ne_of S1.ob S1.dl (by intro z;cases z)
  refine ⟨l,_,_,rfl,rfl,S1.dl,small10000 (by omega),?_⟩
  refine ⟨_,rfl,_,rfl,x,C,dx,_,rfl,(by rw [upd_ne xl];exact S1.ob),T.cl,T.nT,f_len,?_⟩
  rw [f_put]
  have L1:Lams ls H1:=L.same s1
  refine ⟨_,rfl,q _ e upd_same ?_ ?_ ⟨?_,fun b o ho hx hl e=>?_,?_⟩⟩
  · rw [upd_ne xl.symm,upd_same]
  · rw [upd_ne (ne_of e1 S1.ob (by intro z;cases z)),upd_ne (ne_of e1 S1.dl (by intro z;cases z))];exact e1
  · refine Lams.upd (o0:=.ins C dx (flds t l)) (Lams.upd L1 S1.dl (fun _ z=>by cases z) (fun _ z=>by cases z)) (by rw [upd_ne xl];exact S1.ob) (fun _ z=>by cases z) (fun _ z=>by cases z)
  · rw [upd_ne hx,upd_ne hl];exact s1 _ _ e
  · exact here_upd (here_upd fun b e=>s1.free e)
end
end S73
namespace S73
open PySem L2 W7
def gr (leaf:Nat) (u:Int):Int:=if (leaf:Int)≤u then u+1 else u
def grow (ups:List Int) (leaf:Nat) (above:Int):List Int:=(ups.map (gr leaf)).take leaf++above :: (ups.map (gr leaf)).drop leaf
def growL (lab:Str) (leaf:Nat) (z:Str):Str:=mk (lab.cps.toList.take leaf++z.cps.toList++lab.cps.toList.drop leaf)
theorem gr_zero {leaf:Nat} (h:0 < leaf):gr leaf 0=0:=by unfold gr;rw [if_neg (by omega)]
theorem grow_len {ups:List Int} {leaf:Nat} {above:Int} (h:leaf≤ups.length):(grow ups leaf above).length=ups.length+1:=by
  unfold grow
  rw [List.length_append,List.length_cons,List.length_take,List.length_drop,List.length_map]
  omega
theorem map_getD {ups:List Int} {leaf:Nat} (l0:0 < leaf) (j:Nat):(((ups.map (gr leaf))[j]?).getD 0:Int)=gr leaf (ups.getD j 0):=by
  rw [List.getElem?_map,List.getD_eq_getElem?_getD]
  cases ups[j]? with
  | none=>exact (gr_zero l0).symm
  | some v=>rfl
theorem grow_at {ups:List Int} {leaf:Nat} {above:Int} (l0:0 < leaf) (h:leaf≤ups.length) (k:Nat):(grow ups leaf above).getD k 0=if k < leaf then gr leaf (ups.getD k 0) else if k=leaf then above else gr leaf (ups.getD (k - 1) 0):=by
  unfold grow
  have tl:((ups.map (gr leaf)).take leaf).length=leaf:=by rw [List.length_take,List.length_map];omega
  rw [List.getD_eq_getElem?_getD]
  by_cases c:k < leaf
  · rw [if_pos c,List.getElem?_append_left (by omega),List.getElem?_take_of_lt c]
    exact map_getD l0 k
  · rw [if_neg c,List.getElem?_append_right (by omega),tl]
    by_cases e:k=leaf
    · rw [if_pos e,e,Nat.sub_self];rfl
    · rw [if_neg e,show k - leaf=(k - leaf - 1)+1 by omega,List.getElem?_cons_succ,List.getElem?_drop,show leaf+(k - leaf - 1)=k - 1 by omega]
      exact map_getD l0 (k - 1)
theorem grow_ok {ups:List Int} {lab z:Str} {leaf above:Nat} (ok:TreeOk ups lab.cps.toList) (h:leaf≤ups.length) (ha:above < leaf) (h60:ups.length < 60) (hz:z.length=1):TreeOk (grow ups leaf (above:Int)) (growL lab leaf z).cps.toList:=by
  have gl:=grow_len (above:=(above:Int)) h
  have l0:0 < leaf:=by omega
  have zl:z.cps.toList.length=1:=by simpa [Str.length] using hz
  refine ⟨?_,by omega,by omega,?_,fun k k0 k1=>?_⟩
  · rw [gl]
    show _=(lab.cps.toList.take leaf++z.cps.toList++lab.cps.toList.drop leaf).length
    rw [List.length_append,List.length_append,List.length_take,List.length_drop,← ok.len,zl]
    omega
  · rw [grow_at l0 h,if_pos l0,ok.root]
    unfold gr
    rw [if_neg (by omega)]
  · rw [grow_at l0 h]
    by_cases c:k < leaf
    · rw [if_pos c]
      have:=ok.up k k0 (by omega)
      unfold gr
      split <;> omega
    · rw [if_neg c]
      by_cases e:k=leaf
      · rw [if_pos e];omega
      · rw [if_neg e]
        have:=ok.up (k - 1) (by omega) (by omega)
        unfold gr
        split <;> omega
theorem growL_low {lab z:Str} {leaf:Nat} (h:∀ c∈lab.cps.toList,Lw c) (hz:∀ c∈z.cps.toList,Lw c):∀ c∈(growL lab leaf z).cps.toList,Lw c:=fun c hc=>by
  have hc:c∈lab.cps.toList.take leaf++z.cps.toList++lab.cps.toList.drop leaf:=hc
  rcases List.mem_append.mp hc with hc | hc
  · rcases List.mem_append.mp hc with hc | hc
    · exact h c (List.mem_of_mem_take hc)
    · exact hz c hc
  · exact h c (List.mem_of_mem_drop hc)
theorem grow_text {lab z:Str} {leaf:Nat}:cutS lab none (some (leaf:Int))++z++cutS lab (some (leaf:Int)) none=growL lab leaf z:=by
  apply str_ext
  rw [app_list,app_list,cutS_to,cutS_from]
  rfl
theorem cutS_len {lab:Str} (h:lab.length≤60) (lo hi:Option Int):(cutS lab lo hi).length≤60:=by
  have:(cutS lab lo hi).cps.toList.length≤lab.cps.toList.length:=by
    unfold cutS
    show (List.toArray _).toList.length≤_
    rw [List.toList_toArray,List.length_take,List.length_drop];omega
  simp only [Str.length,Array.length_toList] at this h ⊢
  omega
def bn (ups:List Int) (p:Int) (n:Nat):List Int:=((List.range n).filter fun k=>decide (ups.getD k 0=p)).map fun k:Nat=>(k:Int)
theorem bn_len (ups:List Int) (p:Int) (n:Nat):(bn ups p n).length≤n:=by
  unfold bn
  rw [List.length_map]
  refine Nat.le_trans (List.length_filter_le _ _) ?_
  simp
theorem bn_step (ups:List Int) (p:Int) (n:Nat):bn ups p (n+1)=bn ups p n++(if ups.getD n 0=p then [(n:Int)] else []):=by
  unfold bn
  rw [List.range_succ,List.filter_append,List.map_append]
  congr 1
  by_cases e:ups.getD n 0=p
  · rw [if_pos e,List.filter_cons,if_pos (decide_eq_true e)];rfl
  · rw [if_neg e,List.filter_cons,if_neg (by simpa using e)];rfl
theorem bn_mem {ups:List Int} {lab:List Nat} {p:Nat} (ok:TreeOk ups lab):∀ v∈bn ups (p:Int) ups.length,∃ k:Nat,v=(k:Int)∧p < k∧k≤ups.length:=fun v hv=>by
  unfold bn at hv
  obtain ⟨k,hk,rfl⟩:=List.mem_map.mp hv
  obtain ⟨h1,h2⟩:=List.mem_filter.mp hk
  have h1:=List.mem_range.mp h1
  have h2:=of_decide_eq_true h2
  refine ⟨k,rfl,?_,by omega⟩
  rcases Nat.eq_zero_or_pos k with z | z
  · rw [z,ok.root] at h2;omega
  · have:=ok.up k z h1;omega
structure Bgh (ups:List Int) (p b:Nat):Prop where
  lo:p < b
  hi:b≤ups.length
  all:∀ k,p < k→k < b→(p:Int)≤ups.getD k 0
  out:b < ups.length→ups.getD b 0 < (p:Int)
theorem bgh_ex {ups:List Int} {p:Nat}:∀ (m c:Nat),p < c→c+m=ups.length→(∀ k,p < k→k < c→(p:Int)≤ups.getD k 0)→∃ b,Bgh ups p b
  | 0,c,h1,h2,h3=>⟨c,h1,by omega,h3,fun h=>by omega⟩
  | m+1,c,h1,h2,h3=>by
    by_cases e:(p:Int)≤ups.getD c 0
    · refine bgh_ex m (c+1) (by omega) (by omega) fun k k0 k1=>?_
      rcases Nat.lt_or_ge k c with y | y
      · exact h3 k k0 y
      · rw [show k=c by omega];exact e
    · exact ⟨c,h1,by omega,h3,fun _=>by omega⟩
theorem Bgh.one {ups:List Int} {p b b':Nat} (h:Bgh ups p b) (h':Bgh ups p b'):b=b':=by
  rcases Nat.lt_trichotomy b b' with y | y | y
  · have:=h.out (by have:=h'.hi;omega)
    have:=h'.all b h.lo y
    omega
  · exact y
  · have:=h'.out (by have:=h.hi;omega)
    have:=h.all b' h'.lo y
    omega
def lfI (ups:List Int) (p b:Nat) (num:Nat):Int:=(bn ups (p:Int) ups.length++[(b:Int)]).getD num 0
theorem lf_ok {ups:List Int} {lab:List Nat} {p b num:Nat} (ok:TreeOk ups lab) (hb:Bgh ups p b) (hn:num≤(bn ups (p:Int) ups.length).length):∃ leaf:Nat,lfI ups p b num=(leaf:Int)∧p < leaf∧leaf≤ups.length:=by
  have hm:lfI ups p b num∈bn ups (p:Int) ups.length++[(b:Int)]:=by
    unfold lfI
    rw [List.getD_eq_getElem?_getD,List.getElem?_eq_getElem (by rw [List.length_append,List.length_singleton];omega)]
    exact List.getElem_mem _
  rcases List.mem_append.mp hm with h | h
  · exact bn_mem ok _ h
  · rw [List.mem_singleton.mp h];exact ⟨b,rfl,hb.lo,hb.hi⟩
section
variable {P:Program} {w:World} {K:PySem.W.Frag} {mg:Str→Option Value} {base:Heap} {k:Nat}
theorem in_letters {c:Nat} (h:Lw c):(!(Builtin.Str.occurrences (Str.ofString "abcdefghijklmnopqrstuvwxyz") (mk [c]) 0 (Str.ofString "abcdefghijklmnopqrstuvwxyz").length 1).isEmpty)=true:=by
  have all:∀ c:Nat,c < 123→97≤c→(!(Builtin.Str.occurrences (Str.ofString "abcdefghijklmnopqrstuvwxyz") (mk [c]) 0 (Str.ofString "abcdefghijklmnopqrstuvwxyz").length 1).isEmpty)=true:=by decide +kernel
  unfold Lw at h
  exact all c (by omega) (by omega)
theorem trues_all (n:Nat):(List.replicate n true).all id=true:=by simp
theorem trues_snoc (n:Nat):(List.replicate n true).map V.bl++[V.bl true]=(List.replicate (n+1) true).map V.bl:=by rw [List.replicate_succ',List.map_append];rfl
def sp_letters:Sp:=fun vs H Q _=>∃ z:Str,vs=[.str z]∧z.length≤60∧(∀ c∈z.cps.toList,Lw c)∧∀ H',Same H H'→Q (.bl true) H'
theorem has_letters (D:Df K mg "is_letters" s_is_letters) (B:Blt7 mg):Has P w K mg base "is_letters" (k+1) ["thing"] sp_letters:=by
  refine D.has sc_is_letters (fun _ _ _ _ _ _ us hl=>match us,hl with | [_],_=>rfl) (fun vs H Q E h=>by obtain ⟨x,rfl,_⟩:=h;rfl) (fun f cdv A outer s H vs Q E hr h=>?_)
  obtain ⟨z,rfl,zl,low,q⟩:=h
  obtain ⟨u2,h_LETTERS,r_LETTERS⟩:=B.letters
  refine ⟨_,(pss_one (ps_ret (pe_and (pe_callB call_isinst rfl B.isinstance bt_isinstance (pa_cons (pv 0) (pa_cons (pe_bltn (v:=.ty "str") rfl B.str_ bt_str rfl) pa_nil))) (pe_one (pe_callB (call_all rfl) rfl B.all bt_all (pa_cons (pe_comp rfl (pi_str (pv 0)) (NL:=["sign"]) (ix:=[]) (csc (defScope s_is_letters) N_is_letters) (fun cl C s₃ H₃ fp pins=>⟨(pg_name (i:=0) (show List.Nodup (["sign"]:List Str) from by decide +kernel) rfl (by first | exact Or.inl rfl | exact Or.inr rfl)),pifs_nil,(pe_cmpR op_in_str (pv 0) (pe_glob (v:=.str "abcdefghijklmnopqrstuvwxyz") rfl h_LETTERS r_LETTERS) (by with_unfolding_all rfl))⟩)) pa_nil)))))),?_⟩
  refine ⟨_,rfl,_,_,_,true,rfl,.str _,kit_same _ _,_,rfl,iteT ?_⟩
  have zs:z.cps.size≤60:=zl
  refine ⟨_,rfl,_,rfl,fun a1 ha1=>?_⟩
  refine comp_str (by omega) (fun i ys HX=>HX a1=some (.lst ys)∧Same H HX∧ys=(List.replicate i true).map V.bl)
    (fun i ys HX h=>⟨h.1,by rw [h.2.2,List.length_map,List.length_replicate];exact Nat.le_refl _⟩) ⟨upd_same,(Same.refl H).new ha1,rfl⟩ ?_ ?_
  rotate_left
  · rintro i c ys HX hc ⟨g1,g2,rfl⟩
    have hm:c∈z.cps.toList:=by rw [← Array.getElem?_toList] at hc;exact List.mem_of_getElem? hc
    refine ⟨rfl,_,rfl,_,_,rfl,rfl,?_⟩
    have e:(!(Builtin.Str.occurrences (Str.ofString "abcdefghijklmnopqrstuvwxyz") ⟨#[c]⟩ 0 (Str.ofString "abcdefghijklmnopqrstuvwxyz").length 1).isEmpty)=true:=in_letters (low c hm)
    rw [e]
    exact ⟨g1,upd_same,g2.write ha1,trues_snoc i⟩
  rintro ys H1 ⟨g1,s1,rfl⟩
  refine ⟨a1,_,rfl,SqL.of g1,?_⟩
  rw [trues_all]
  exact q _ s1
def sp_ltr:Sp:=fun vs H Q _=>∃ z:Str,vs=[.str z]∧z.length=1∧(∀ c∈z.cps.toList,Lw c)∧∀ H',Same H H'→Q (.bl true) H'
theorem has_ltr (D:Df K mg "is_letter" s_is_letter) (B:Blt7 mg) (G_is_letters:Has P w K mg base "is_letters" k ["thing"] sp_letters):Has P w K mg base "is_letter" (k+1) ["thing"] sp_ltr:=by
  refine D.has sc_is_letter (fun _ _ _ _ _ _ us hl=>match us,hl with | [_],_=>rfl) (fun vs H Q E h=>by obtain ⟨x,rfl,_⟩:=h;rfl) (fun f cdv A outer s H vs Q E hr h=>?_)
  obtain ⟨z,rfl,zl,low,q⟩:=h
  refine ⟨_,(pss_one (ps_ret (pe_and (pe_callH G_is_letters hr rfl (pa_cons (pv 0) pa_nil)) (pe_one (pe_cmpR op_eq (pe_callB call_len_str rfl B.len bt_len (pa_cons (pv 0) pa_nil)) pe_int (nomark _)))))),?_⟩
  refine ⟨_,rfl,z,rfl,by omega,low,fun H1 s1=>⟨_,rfl,iteT ?_⟩⟩
  refine ⟨_,rfl,z,rfl,Nat.le_of_lt (small1000 (by omega)),rfl,?_⟩
  rw [zl]
  exact q _ s1
def sp_ben:Sp:=fun vs H Q _=>∃ (t:Addr) (ups:List Int) (lab:Str) (p:Int),vs=[.ref t,.int p]∧TreeAt H t ups lab∧∀ (r:Addr) (H':Hp),Same H H'→H r=none→H' r=some (.lst ((bn ups p ups.length).map V.int))→Q (.ref r) H'
theorem has_ben (D:Df K mg "beneath_of" s_beneath_of) (B:Blt7 mg):Has P w K mg base "beneath_of" (k+1) ["tree", "place"] sp_ben:=by
  refine D.has sc_beneath_of (fun _ _ _ _ _ _ us hl=>match us,hl with | [_,_],_=>rfl) (fun vs H Q E h=>by obtain ⟨t,ups,lab,p,rfl,_⟩:=h;rfl) (fun f cdv A outer s H vs Q E hr h=>?_)
  obtain ⟨t,ups,lab,p,rfl,tr,q⟩:=h
  refine ⟨_,(pss_one (ps_ret (pe_comp rfl (pi_enum rfl B.enumerate (pa_cons (pe_ix ix_tup (pv 0) pe_int (fun _ _=>rfl)) pa_nil)) (NL:=["other", "up"]) (ix:=[1]) (csc (defScope s_beneath_of) N_beneath_of) (fun cl C s₃ H₃ fp pins=>⟨(pg_tupK K (n:=2) rfl (pgs_cons (pg_name (i:=0) (show List.Nodup (["other", "up", "place"]:List Str) from by decide +kernel) rfl (by first | exact Or.inl rfl | exact Or.inr rfl)) (pgs_cons (pg_name (i:=1) (show List.Nodup (["other", "up", "place"]:List Str) from by decide +kernel) rfl (by first | exact Or.inl rfl | exact Or.inr rfl)) pgs_nil))),(pifs_one (pt_cmpR op_eq (pv 1) (pv 2) (nomark _))),(pv 0)⟩)))),?_⟩
  obtain ⟨u,ht,hu,ok⟩:=id tr
  have m60:=ok.most
  refine ⟨_,rfl,t,_,_,_,rfl,rfl,SqT.of ht,rfl,.tup u,rfl,⟨_,.inl hu⟩,fun acc hacc=>?_⟩
  refine comp_enum (κ:=.tup u) (xs:=ups.map V.int) (by rw [List.length_map];omega) (fun i ys HX=>HX acc=some (.lst ys)∧ys=(bn ups p i).map V.int∧Same H HX)
    (fun i ys HX h=>.inl (h.2.2 _ _ hu)) (fun i ys HX h=>⟨h.1,by rw [h.2.1,List.length_map];exact bn_len _ _ _⟩) ⟨upd_same,rfl,(Same.refl H).new hacc⟩ ?_ ?_
  rotate_left
  · rintro i x ys HX pp hx ⟨g1,rfl,g3⟩ hp
    have hi:i < ups.length:=by have:=(List.getElem?_eq_some_iff.mp hx).1;rw [List.length_map] at this;exact this
    have ex:x=.int (ups.getD i 0):=by
      rw [List.getElem?_map,List.getElem?_eq_getElem hi] at hx
      rw [List.getD_eq_getElem?_getD,List.getElem?_eq_getElem hi]
      exact (Option.some.inj hx).symm
    subst ex
    have sP:=g3.new (o:=.tup [.int (i:Int),.int (ups.getD i 0)]) hp
    have gP:upd HX pp (.tup [.int (i:Int),.int (ups.getD i 0)]) acc=some (.lst ((bn ups p i).map V.int)):=by rw [upd_ne (ne_of_none g1 hp)];exact g1
    refine ⟨pp,_,rfl,SqT.of upd_same,rfl,_,_,rfl,_,_,rfl,rfl,rfl,?_⟩
    show (fun HH=>_) (upd HX pp (.tup [.int (i:Int),.int (ups.getD i 0)]))
    generalize upd HX pp (.tup [.int (i:Int),.int (ups.getD i 0)])=HP at sP gP
    refine ⟨_,rfl,_,rfl,rfl,_,rfl,ite2 (fun c=>?_) (fun c=>?_)⟩
    · have c':ups.getD i 0=p:=by have:=of_decide_eq_true c;injection this
      refine ⟨_,rfl,gP,upd_same,?_,sP.write hacc⟩
      rw [bn_step,if_pos c',List.map_append];rfl
    · have c':¬ ups.getD i 0=p:=fun z=>c (decide_eq_true (by rw [z]))
      refine ⟨gP,?_,sP⟩
      rw [bn_step,if_neg c',List.append_nil]
  rintro ys H1 ⟨g1,rfl,g3⟩
  rw [List.length_map] at g1
  exact q acc _ g3 hacc g1
theorem has_lben (D:Df K mg "_law_beneath" s_law_beneath) (B:Blt7 mg):Has P w K mg base "_law_beneath" (k+1) ["tree", "place"] sp_ben:=by
  refine D.has sc_law_beneath (fun _ _ _ _ _ _ us hl=>match us,hl with | [_,_],_=>rfl) (fun vs H Q E h=>by obtain ⟨t,ups,lab,p,rfl,_⟩:=h;rfl) (fun f cdv A outer s H vs Q E hr h=>?_)
  obtain ⟨t,ups,lab,p,rfl,tr,q⟩:=h
  refine ⟨_,(pss_one (ps_ret (pe_comp rfl (pi_range1 rfl B.range (pa_cons (pe_callB call_len_seq rfl B.len bt_len (pa_cons (pe_ix ix_tup (pv 0) pe_int (fun _ _=>rfl)) pa_nil)) pa_nil)) (NL:=["k"]) (ix:=[0,1]) (csc (defScope s_law_beneath) N_law_beneath) (fun cl C s₃ H₃ fp pins=>⟨(pg_name (i:=0) (show List.Nodup (["k", "tree", "place"]:List Str) from by decide +kernel) rfl (by first | exact Or.inl rfl | exact Or.inr rfl)),(pifs_one (pt_cmpR op_eq (pe_ix (ix_tupK K) (pe_ix (ix_tupK K) (pv 1) pe_int (fun _ _=>rfl)) (pv 0) (fun _ _=>rfl)) (pv 2) (nomark _))),(pv 0)⟩)))),?_⟩
  obtain ⟨u,ht,hu,ok⟩:=id tr
  have m60:=ok.most
  have ul:(ups.map V.int).length=ups.length:=List.length_map _
  refine ⟨_,rfl,t,_,_,_,rfl,rfl,SqT.of ht,rfl,u,_,rfl,.inr (SqT.of hu),_,rfl,?_,?_,fun acc hacc=>?_⟩
  · omega
  · omega
  have eM:(((ups.map V.int).length:Nat):Int).toNat=ups.length:=by omega
  refine comp_by ((((ups.map V.int).length:Nat):Int).toNat) (by omega) (fun j ys H'=>H' acc=some (.lst ys)∧ys=(bn ups p j).map V.int∧Same H H')
    (fun j ys H' h=>⟨h.1,by rw [h.2.1,List.length_map];exact bn_len _ _ _⟩) ⟨upd_same,rfl,(Same.refl H).new hacc⟩ ?_ ?_
  rotate_left
  · rintro j ys HX hj ⟨g1,rfl,g3⟩
    refine ⟨hj,?_⟩
    rintro x H5 ⟨rfl,rfl⟩
    refine ⟨rfl,?_⟩
    rw [eM] at hj
    refine ⟨_,rfl,t,_,_,_,rfl,rfl,SqT.of (g3 _ _ ht),rfl,_,rfl,u,_,_,_,rfl,rfl,SqT.of (g3 _ _ hu),ints_at (us:=ups) (i:=0+(j:Int)) (by omega) (by omega),_,rfl,rfl,_,rfl,?_⟩
    rw [show (0+(j:Int)).toNat=j by omega]
    refine ite2 (fun c=>?_) (fun c=>?_)
    · have c':ups.getD j 0=p:=by have:=of_decide_eq_true c;injection this
      refine ⟨_,rfl,g1,upd_same,?_,g3.write hacc⟩
      rw [bn_step,if_pos c',List.map_append,Int.zero_add];rfl
    · have c':¬ ups.getD j 0=p:=fun z=>c (decide_eq_true (by rw [z]))
      refine ⟨g1,?_,g3⟩
      rw [bn_step,if_neg c',List.append_nil]
  rintro ys H4 ⟨g4,rfl,g5⟩
  refine ⟨Nat.le_refl _,?_⟩
  rw [eM] at g4
  exact q acc _ g5 hacc g4
def sp_bough:Sp:=fun vs H Q _=>∃ (t:Addr) (ups:List Int) (lab:Str) (p:Nat),vs=[.ref t,.int (p:Int)]∧TreeAt H t ups lab∧p < ups.length∧∀ (b:Nat) (r:Addr) (H':Hp),Bgh ups p b→Same H H'→H r=none→H' r=some (.tup [.int (p:Int),.int (b:Int)])→Q (.ref r) H'
theorem has_bough (D:Df K mg "bough_of" s_bough_of) (B:Blt7 mg):Has P w K mg base "bough_of" (k+1) ["tree", "place"] sp_bough:=by
  refine D.has sc_bough_of (fun _ _ _ _ _ _ us hl=>match us,hl with | [_,_],_=>rfl) (fun vs H Q E h=>by obtain ⟨t,ups,lab,p,rfl,_⟩:=h;rfl) (fun f cdv A outer s H vs Q E hr h=>?_)
  obtain ⟨t,ups,lab,p,rfl,tr,hp,q⟩:=h
  refine ⟨_,(pss_cons (ps_set (i:=2) sc_bough_of.nd rfl (by first | exact Or.inl rfl | exact Or.inr rfl) (pe_ix ix_tup (pv 0) pe_int (fun _ _=>rfl)))
  (pss_cons (ps_set (i:=3) sc_bough_of.nd rfl (by first | exact Or.inl rfl | exact Or.inr rfl) (pe_op op_add (pv 1) pe_int))
  (pss_cons (ps_while PassesOwn.never (PW.pt (pw_and (pt_cmpR op_lt (pv 3) (pe_callB call_len_seq rfl B.len bt_len (pa_cons (pv 2) pa_nil)) (nomark _)) (pw_and1 (pt_cmpR op_ge (pe_ix ix_tup (pv 2) (pv 3) (fun _ _=>rfl)) (pv 1) (nomark _)))))
  (pss_one (ps_aug (i:=3) sc_bough_of.nd rfl (by first | exact Or.inl rfl | exact Or.inr rfl) pe_int ip_add)))
  (pss_one (ps_ret (pe_tup (pa_cons (pv 1) (pa_cons (pv 3) pa_nil)))))))),?_⟩
  obtain ⟨u,ht,hu,ok⟩:=id tr
  have m60:=ok.most
  have ul:(ups.map V.int).length=ups.length:=List.length_map _
  refine ⟨_,rfl,t,_,_,_,rfl,rfl,SqT.of ht,rfl,?_⟩
  refine ⟨_,rfl,_,_,rfl,rfl,?_⟩
  refine ⟨fun m σ H'=>∃ b:Nat,σ=[some (.ref t),some (.int (p:Int)),some (.ref u),some (.int (b:Int))]∧H'=H∧m=ups.length - b∧p < b∧b≤ups.length∧∀ k,p < k→k < b→(p:Int)≤ups.getD k 0,
    ⟨_,p+1,rfl,rfl,rfl,by omega,by omega,fun k a c=>by omega⟩,?_⟩
  rintro m σ H' ⟨b,rfl,rfl,rfl,pb,bn,hk⟩
  have done:(b < ups.length→ups.getD b 0 < (p:Int))→∀ r,H' r=none→Q (.ref r) (upd H' r (.tup [.int (p:Int),.int (b:Int)])):=fun h r hr=>q b r _ ⟨pb,bn,hk,h⟩ ((Same.refl H').new hr) hr upd_same
  refine ⟨_,rfl,_,rfl,u,_,rfl,.inr (SqT.of hu),_,_,rfl,rfl,_,rfl,ite2 (fun cnd=>?_) (fun cnd=>?_)⟩
  · have lt:b < ups.length:=by have:=of_decide_eq_true cnd;omega
    have hat:=ints_at (us:=ups) (i:=(b:Int)) (by omega) (by omega)
    rw [Int.toNat_natCast] at hat
    refine ⟨_,rfl,_,rfl,u,_,_,_,rfl,rfl,SqT.of hu,hat,_,rfl,_,_,rfl,rfl,_,rfl,ite2 (fun cnd2=>?_) (fun cnd2=>?_)⟩
    · have ge:(p:Int)≤ups.getD b 0:=of_decide_eq_true cnd2
      refine ⟨_,fun σ' H3 h=>h,?_⟩
      refine ⟨_,rfl,_,_,rfl,rfl,ups.length - (b+1),by omega,b+1,rfl,rfl,rfl,by omega,by omega,fun k a c=>?_⟩
      rcases Nat.lt_or_ge k b with z | z
      · exact hk k a z
      · have:k=b:=by omega
        rw [this];exact ge
    · have:¬ ((p:Int)≤ups.getD b 0):=fun z=>cnd2 (decide_eq_true z)
      exact ⟨_,rfl,_,rfl,(by show 2≤sizeLine;decide),done (fun _=>by omega)⟩
  · have ge:¬ b < ups.length:=fun z=>cnd (decide_eq_true (by omega))
    exact ⟨_,rfl,_,rfl,(by show 2≤sizeLine;decide),done (fun z=>absurd z ge)⟩
def sp_with:Sp:=fun vs H Q _=>∃ (t:Addr) (ups:List Int) (lab z:Str) (leaf above:Nat),vs=[.ref t,.int (leaf:Int),.int (above:Int),.str z]∧TreeAt H t ups lab∧above < leaf∧leaf≤ups.length∧ups.length < 60∧z.length=1 ∧
  ∀ (r:Addr) (H':Hp),Same H H'→H r=none→TreeAt H' r (grow ups leaf (above:Int)) (growL lab leaf z)→Q (.ref r) H'
theorem has_with (D:Df K mg "with_leaf" s_with_leaf) (B:Blt7 mg):Has P w K mg base "with_leaf" (k+1) ["tree", "leaf", "above", "letter"] sp_with:=by
  refine D.has sc_with_leaf (fun _ _ _ _ _ _ us hl=>match us,hl with | [_,_,_,_],_=>rfl) (fun vs H Q E h=>by obtain ⟨t,ups,lab,z,l,a,rfl,_⟩:=h;rfl) (fun f cdv A outer s H vs Q E hr h=>?_)
  obtain ⟨t,ups,lab,z,leaf,above,rfl,tr,al,l1,h60,hz,q⟩:=h
  refine ⟨_,(pss_cons (ps_comp (i:=4) sc_with_leaf.nd rfl (by first | exact Or.inl rfl | exact Or.inr rfl) rfl (pi_tup (pe_ix ix_tup (pv 0) pe_int (fun _ _=>rfl))) (NL:=["up"]) (ix:=[1]) (csc (defScope s_with_leaf) N_with_leaf) (fun cl C s₃ H₃ fp pins=>⟨(pg_name (i:=0) (show List.Nodup (["up", "leaf"]:List Str) from by decide +kernel) rfl (by first | exact Or.inl rfl | exact Or.inr rfl)),pifs_nil,(pe_ifExp (pt_cmpR op_ge (pv 0) (pv 1) (nomark _)) (pe_op op_add (pv 0) pe_int) (pv 0))⟩))
  (pss_cons (ps_expr (pe_bm PySem.F.plainAttrs_list PySem.F.slot_list_insert PySem.F.type_list_insert mt_insert (pv 4) (pa_cons (pv 1) (pa_cons (pv 2) pa_nil))))
  (pss_one (ps_ret (pe_tup (pa_cons (pe_callTy call_tuple_of rfl B.tuple_ bt_tuple (pa_cons (pv 4) pa_nil)) (pa_cons (pe_op op_add_str (pe_op op_add_str (pe_slice sl_str (pe_ix ix_tup (pv 0) pe_int (fun _ _=>rfl)) po_none (po_some (pv 1))) (pv 3)) (pe_slice sl_str (pe_ix ix_tup (pv 0) pe_int (fun _ _=>rfl)) (po_some (pv 1)) po_none)) pa_nil))))))),?_⟩
  obtain ⟨u,ht,hu,ok⟩:=id tr
  have ll:lab.length=ups.length:=by rw [ok.len];simp [Str.length]
  refine ⟨_,rfl,t,_,_,_,rfl,rfl,SqT.of ht,rfl,u,rfl,⟨_,SqT.of hu⟩,fun acc hacc=>?_⟩
  refine comp_tupI (K:=K) (a:=u) (xs:=ups.map V.int) (by rw [List.length_map];omega) (fun i ys HX=>HX acc=some (.lst ys)∧ys=((ups.take i).map (gr leaf)).map V.int∧Same H HX)
    (fun i ys HX h=>SqT.of (h.2.2 _ _ hu)) (fun i ys HX h=>⟨h.1,by rw [h.2.1,List.length_map,List.length_map,List.length_take];omega⟩) ⟨upd_same,by simp,(Same.refl H).new hacc⟩ ?_ ?_
  rotate_left
  · rintro i x ys HX hx ⟨g1,rfl,g3⟩
    rw [List.getElem?_map] at hx
    cases e1:ups[i]? with
    | none=>rw [e1] at hx;cases hx
    | some v=>
      rw [e1] at hx
      cases hx
      have st:((ups.take (i+1)).map (gr leaf)).map V.int=((ups.take i).map (gr leaf)).map V.int++[.int (gr leaf v)]:=by
        rw [List.take_succ,e1,List.map_append,List.map_append];rfl
      refine ⟨rfl,?_⟩
      refine ⟨_,rfl,_,rfl,_,_,rfl,rfl,_,rfl,ite2 (fun c=>?_) (fun c=>?_)⟩
      · refine ⟨_,rfl,_,_,rfl,rfl,g1,upd_same,?_,g3.write hacc⟩
        rw [st];unfold gr;rw [if_pos (of_decide_eq_true c)]
      · refine ⟨_,rfl,g1,upd_same,?_,g3.write hacc⟩
        rw [st];unfold gr;rw [if_neg (of_decide_eq_false (Bool.eq_false_iff.mpr c))]
  rintro ys H1 ⟨g1,rfl,g3⟩
  rw [List.length_map,List.take_length] at g1
  have pl:(((ups.map (gr leaf)).map V.int)).length=ups.length:=by rw [List.length_map,List.length_map]
  refine ⟨_,rfl,.inl ⟨rfl,_,SqL.of g1⟩,_,rfl,_,rfl,acc,_,_,leaf,_,rfl,rfl,rfl,g1,by omega,by omega,?_⟩
  have e2:((ups.map (gr leaf)).map V.int).take leaf++V.int (above:Int) :: ((ups.map (gr leaf)).map V.int).drop leaf=(grow ups leaf (above:Int)).map V.int:=by
    unfold grow
    rw [List.map_append,List.map_cons,List.map_take,List.map_drop]
  rw [e2]
  have s2:Same H (upd H1 acc (.lst ((grow ups leaf (above:Int)).map V.int))):=g3.write hacc
  have h2:upd H1 acc (.lst ((grow ups leaf (above:Int)).map V.int)) acc=some (.lst ((grow ups leaf (above:Int)).map V.int)):=upd_same
  show (fun HH=>_) (upd H1 acc (.lst ((grow ups leaf (above:Int)).map V.int)))
  generalize upd H1 acc (.lst ((grow ups leaf (above:Int)).map V.int))=H2 at s2 h2
  refine ⟨_,rfl,acc,_,rfl,.inl ⟨SqL.of h2,fun r2 hr2=>?_⟩⟩
  have s3:Same H (upd H2 r2 (.tup ((grow ups leaf (above:Int)).map V.int))):=s2.new hr2
  have h3:upd H2 r2 (.tup ((grow ups leaf (above:Int)).map V.int)) r2=some (.tup ((grow ups leaf (above:Int)).map V.int)):=upd_same
  show (fun HH=>_) (upd H2 r2 (.tup ((grow ups leaf (above:Int)).map V.int)))
  generalize upd H2 r2 (.tup ((grow ups leaf (above:Int)).map V.int))=H3 at s3 h3
  have lz:lab.length≤sizeLine:=Nat.le_of_lt (small1000 (by omega))
  have a1:=cutS_len (lab:=lab) (by omega) none (some (leaf:Int))
  have a2:=cutS_len (lab:=lab) (by omega) (some (leaf:Int)) none
  have a3:(cutS lab none (some (leaf:Int))++z).length≤61:=by
    have:=congrArg List.length (app_list (cutS lab none (some (leaf:Int))) z)
    rw [List.length_append] at this
    simp only [Str.length,Array.length_toList] at this a1 hz ⊢
    omega
  refine ⟨_,rfl,t,_,_,_,rfl,rfl,SqT.of (s3 _ _ ht),rfl,_,rfl,_,rfl,lab,rfl,lz,_,rfl,_,_,rfl,rfl,?_,?_⟩
  · exact Nat.le_of_lt (small1000 (by omega))
  refine ⟨_,rfl,t,_,_,_,rfl,rfl,SqT.of (s3 _ _ ht),rfl,_,rfl,_,rfl,lab,rfl,lz,_,_,rfl,rfl,?_,?_⟩
  · exact Nat.le_of_lt (small1000 (by omega))
  rw [grow_text]
  refine ⟨(by show 2≤sizeLine;decide),fun r hr=>q r _ (s3.new hr) (s3.free hr) ?_⟩
  exact ⟨r2,upd_same,by rw [upd_ne (ne_of_none h3 hr)];exact h3,grow_ok ok l1 al h60 hz⟩
end
end S73
namespace S73
open PySem L2 W7
theorem Lams.kd {ls:List Lm} {p:Addr} {c:Int} {H H':Hp} (a:Lams ls H) (dk:∃ c,Deck H p c) (k:Kd p c H H'):Lams ls H':=fun m hm=>by
  obtain ⟨c0,x,y,z,e0,_⟩:=dk
  obtain ⟨ps,a,b,c⟩:=a m hm
  refine ⟨ps,k.keep _ _ (ne_of a e0 (by intro z;cases z)) a,b,?_⟩
  rcases c with c | ⟨d,c,e⟩
  · exact .inl c
  · exact .inr ⟨d,c,k.keep _ _ (ne_of e e0 (by intro z;cases z)) e⟩
theorem TreeAt.kd {p:Addr} {c:Int} {H H':Hp} {t:Addr} {ups:List Int} {lab:Str} (h:TreeAt H t ups lab) (dk:∃ c,Deck H p c) (k:Kd p c H H'):TreeAt H' t ups lab:=by
  obtain ⟨c0,x,y,z,e0,_⟩:=dk
  exact TreeAt.of h fun b xs e=>k.keep _ _ (ne_of e e0 (by intro z;cases z)) e
theorem Deck.same {p:Addr} {c:Int} {H H':Hp} (h:Deck H p c) (s:Same H H'):Deck H' p c:=by
  obtain ⟨x,y,z,e,r⟩:=h
  exact ⟨x,y,z,s _ _ e,r⟩
theorem at3 {a b c:V} {n:Int} (h0:0≤n) (h3:n < 3):∃ v,(v=a∨v=b∨v=c)∧atI [a,b,c] n=some v:=by
  have:n=0∨n=1∨n=2:=by omega
  rcases this with rfl | rfl | rfl
  · exact ⟨a,.inl rfl,rfl⟩
  · exact ⟨b,.inr (.inl rfl),rfl⟩
  · exact ⟨c,.inr (.inr rfl),rfl⟩
theorem at2 {a b:V} {n:Int} (h0:0≤n) (h3:n < 2):∃ v,(v=a∨v=b)∧atI [a,b] n=some v:=by
  have:n=0∨n=1:=by omega
  rcases this with rfl | rfl
  · exact ⟨a,.inl rfl,rfl⟩
  · exact ⟨b,.inr rfl,rfl⟩
section
variable {P:Program} {w:World} {K:PySem.W.Frag} {mg:Str→Option Value} {base:Heap} {k:Nat}
def abc:Str:=Str.ofString "abcdefghijklmnopqrstuvwxyz"
theorem abc_low:∀ c∈abc.cps.toList,Lw c:=by
  have:∀ c∈abc.cps.toList,97≤c∧c≤122:=by decide +kernel
  intro c hc
  have:=this c hc
  unfold Lw;omega
theorem abc_len:abc.length=26:=by decide +kernel
def sp_sign:Sp:=fun vs H Q _=>∃ (p t:Addr) (ups:List Int) (lab:Str) (c:Int),vs=[.ref p,.ref t]∧Deck H p c∧0≤c∧c < 900000∧TreeAt H t ups lab∧(∀ x∈lab.cps.toList,Lw x)∧∀ (z:Str) (H':Hp),z.length=1→(∀ x∈z.cps.toList,Lw x)→Kd p (c+2) H H'→Q (.str z) H'
theorem has_sign (D:Df K mg "_law_sign" s_law_sign) (B:Blt7 mg) (G_law_take:Has P w K mg base "_law_take" k ["pool", "many"] sp_take):Has P w K mg base "_law_sign" (k+1) ["pool", "tree"] sp_sign:=by
  refine D.has sc_law_sign (fun _ _ _ _ _ _ us hl=>match us,hl with | [_,_],_=>rfl) (fun vs H Q E h=>by obtain ⟨p,t,ups,lab,c,rfl,_⟩:=h;rfl) (fun f cdv A outer s H vs Q E hr h=>?_)
  obtain ⟨p,t,ups,lab,c,rfl,dk,c0,c1,tr,low,q⟩:=h
  refine ⟨_,(pss_cons (ps_set (i:=2) sc_law_sign.nd rfl (by first | exact Or.inl rfl | exact Or.inr rfl) (pe_op op_add_str (pe_ix ix_tup (pv 1) pe_int (fun _ _=>rfl)) pe_str))
  (pss_one (ps_ret (pe_ix ix_str (pv 2) (pe_callH G_law_take hr rfl (pa_cons (pv 0) (pa_cons (pe_ix ix_list (pe_lst (pa_cons (pe_callB call_len_str rfl B.len bt_len (pa_cons (pe_ix ix_tup (pv 1) pe_int (fun _ _=>rfl)) pa_nil)) (pa_cons (pe_callB call_len_str rfl B.len bt_len (pa_cons (pv 2) pa_nil)) pa_nil))) (pe_callH G_law_take hr rfl (pa_cons (pv 0) (pa_cons pe_int pa_nil))) (fun _ _=>rfl)) pa_nil))) (fun _ _=>rfl))))),?_⟩
  obtain ⟨u,ht,hu,ok⟩:=id tr
  have m60:=ok.most
  have lpos:=ok.pos
  have ll:lab.length=ups.length:=by rw [ok.len];simp [Str.length]
  have al:=abc_len
  have e1:(lab++abc).length=ups.length+26:=by
    have:=congrArg List.length (app_list lab abc)
    rw [List.length_append] at this
    simp only [Str.length,Array.length_toList] at this ll al ⊢
    omega
  refine ⟨_,rfl,t,_,_,_,rfl,rfl,SqT.of ht,rfl,_,_,rfl,rfl,?_,?_⟩
  · show (lab.length+abc.length)≤sizeLine
    exact Nat.le_of_lt (small1000 (by omega))
  show (fun σ=>_) [some (V.ref p),some (V.ref t),some (V.str (lab++abc))]
  refine ⟨_,rfl,_,rfl,_,rfl,t,_,_,_,rfl,rfl,SqT.of ht,rfl,lab,rfl,Nat.le_of_lt (small1000 (by omega)),?_⟩
  refine ⟨_,rfl,(lab++abc),rfl,Nat.le_of_lt (small1000 (by omega)),?_⟩
  refine ⟨(by show 2≤sizeLine;decide),fun v hv=>?_⟩
  have vp:v≠p:=dk.ne hv
  have k1:=(Kd.refl dk).new (o:=.lst [.int ((lab.length:Nat):Int),.int (((lab++abc).length:Nat):Int)]) hv
  have h1:upd H v (.lst [.int ((lab.length:Nat):Int),.int (((lab++abc).length:Nat):Int)]) v=some (.lst [.int ((lab.length:Nat):Int),.int (((lab++abc).length:Nat):Int)]):=upd_same
  show (fun HH=>_) (upd H v (.lst [.int ((lab.length:Nat):Int),.int (((lab++abc).length:Nat):Int)]))
  generalize upd H v (.lst [.int ((lab.length:Nat):Int),.int (((lab++abc).length:Nat):Int)])=H1 at k1 h1
  refine ⟨_,rfl,p,2,c,rfl,k1.deck,by omega,by decide,by decide,fun n1 H2 n10 n11 k2=>?_⟩
  obtain ⟨vv,vo,va⟩:=at2 (a:=V.int ((lab.length:Nat):Int)) (b:=.int (((lab++abc).length:Nat):Int)) n10 n11
  refine ⟨v,_,_,_,rfl,rfl,SqL.of (k2.keep _ _ vp h1),va,?_⟩
  obtain ⟨mm,rfl,m1,m2⟩:∃ mm:Int,vv=.int mm∧0 < mm∧mm≤(((lab++abc).length:Nat):Int):=by
    rcases vo with rfl | rfl
    · exact ⟨_,rfl,by omega,by omega⟩
    · exact ⟨_,rfl,by omega,by omega⟩
  refine ⟨p,mm,c+1,rfl,k2.deck,by omega,m1,by omega,fun n2 H3 n20 n21 k3=>?_⟩
  have hk:n2.toNat < (lab++abc).cps.toList.length:=by
    have:(lab++abc).cps.toList.length=(lab++abc).length:=by simp [Str.length]
    omega
  have ea:atI (lab++abc).cps.toList n2=some (lab++abc).cps.toList[n2.toNat]:=by
    have e:=atI_nat (xs:=(lab++abc).cps.toList) (j:=n2.toNat) (List.getElem?_eq_getElem hk)
    rw [show ((n2.toNat:Nat):Int)=n2 by omega] at e
    exact e
  refine ⟨_,_,_,rfl,rfl,(show (lab++abc).length≤sizeLine from Nat.le_of_lt (small1000 (by omega))),ea,?_⟩
  refine q _ H3 rfl (fun x hx=>?_) (((k1.trans k2).trans k3).mono (by omega))
  have hx:x=(lab++abc).cps.toList[n2.toNat]:=by simpa using hx
  have hm:x∈lab.cps.toList++abc.cps.toList:=by rw [← app_list,hx];exact List.getElem_mem _
  rcases List.mem_append.mp hm with y | y
  · exact low x y
  · exact abc_low x y
end
end S73
namespace S73
open PySem L2 W7
structure PutOk (ups:List Int) (above num:Nat) (z:Str):Prop where
  ab:above < ups.length
  nu:num≤(bn ups (above:Int) ups.length).length
  zl:z.length=1
  low:∀ x∈z.cps.toList,Lw x
section
variable {P:Program} {w:World} {K:PySem.W.Frag} {mg:Str→Option Value} {base:Heap} {k:Nat}
def sp_putting:Sp:=fun vs H Q _=>∃ (p t:Addr) (ups:List Int) (lab:Str) (c:Int),vs=[.ref p,.ref t]∧Deck H p c∧0≤c∧c < 800000∧TreeAt H t ups lab∧(∀ x∈lab.cps.toList,Lw x) ∧
  ∀ (r:Addr) (above num:Nat) (z:Str) (H':Hp),PutOk ups above num z→Kd p (c+6) H H'→H' r=some (.tup [.int (above:Int),.int (num:Int),.str z])→H r=none→Q (.ref r) H'
theorem has_putting (D:Df K mg "_law_putting" s_law_putting) (B:Blt7 mg) (G_law_take:Has P w K mg base "_law_take" k ["pool", "many"] sp_take) (G_law_beneath:Has P w K mg base "_law_beneath" k ["tree", "place"] sp_ben) (G_law_sign:Has P w K mg base "_law_sign" k ["pool", "tree"] sp_sign):Has P w K mg base "_law_putting" (k+1) ["pool", "tree"] sp_putting:=by
  refine D.has sc_law_putting (fun _ _ _ _ _ _ us hl=>match us,hl with | [_,_],_=>rfl) (fun vs H Q E h=>by obtain ⟨p,t,ups,lab,c,rfl,_⟩:=h;rfl) (fun f cdv A outer s H vs Q E hr h=>?_)
  obtain ⟨p,t,ups,lab,c,rfl,dk,c0,c1,tr,low,q⟩:=h
  refine ⟨_,(pss_cons (ps_set (i:=2) sc_law_putting.nd rfl (by first | exact Or.inl rfl | exact Or.inr rfl) (pe_ix ix_list (pe_lst (pa_cons (pe_callH G_law_take hr rfl (pa_cons (pv 0) (pa_cons (pe_callB call_len_str rfl B.len bt_len (pa_cons (pe_ix ix_tup (pv 1) pe_int (fun _ _=>rfl)) pa_nil)) pa_nil))) (pa_cons (pe_op op_sub (pe_callB call_len_str rfl B.len bt_len (pa_cons (pe_ix ix_tup (pv 1) pe_int (fun _ _=>rfl)) pa_nil)) pe_int) (pa_cons pe_int pa_nil)))) (pe_callH G_law_take hr rfl (pa_cons (pv 0) (pa_cons pe_int pa_nil))) (fun _ _=>rfl)))
  (pss_cons (ps_set (i:=3) sc_law_putting.nd rfl (by first | exact Or.inl rfl | exact Or.inr rfl) (pe_callB call_len_seq rfl B.len bt_len (pa_cons (pe_callH G_law_beneath hr rfl (pa_cons (pv 1) (pa_cons (pv 2) pa_nil))) pa_nil)))
  (pss_one (ps_ret (pe_tup (pa_cons (pv 2) (pa_cons (pe_ix ix_list (pe_lst (pa_cons (pe_callH G_law_take hr rfl (pa_cons (pv 0) (pa_cons (pe_op op_add (pv 3) pe_int) pa_nil))) (pa_cons pe_int (pa_cons (pv 3) pa_nil)))) (pe_callH G_law_take hr rfl (pa_cons (pv 0) (pa_cons pe_int pa_nil))) (fun _ _=>rfl)) (pa_cons (pe_callH G_law_sign hr rfl (pa_cons (pv 0) (pa_cons (pv 1) pa_nil))) pa_nil)))))))),?_⟩
  obtain ⟨u,ht,hu,ok⟩:=id tr
  have m60:=ok.most
  have lpos:=ok.pos
  have ll:lab.length=ups.length:=by rw [ok.len];simp [Str.length]
  have lz:lab.length≤sizeLine:=Nat.le_of_lt (small1000 (by omega))
  refine ⟨_,rfl,_,rfl,t,_,_,_,rfl,rfl,SqT.of ht,rfl,lab,rfl,lz,p,_,c,rfl,dk,by omega,by omega,by omega,fun n1 H1 n10 n11 k1=>?_⟩
  have tr1:=TreeAt.kd tr ⟨_,dk⟩ k1
  obtain ⟨u1,ht1,hu1,_⟩:=id tr1
  refine ⟨_,rfl,t,_,_,_,rfl,rfl,SqT.of ht1,rfl,lab,rfl,lz,_,_,rfl,rfl,?_⟩
  refine ⟨(by show 3≤sizeLine;decide),fun v hv=>?_⟩
  have vp:v≠p:=k1.deck.ne hv
  have s2:=(Same.refl H1).new (o:=.lst [.int n1,.int (((lab.length:Nat):Int) - 1),.int 0]) hv
  have h2:upd H1 v (.lst [.int n1,.int (((lab.length:Nat):Int) - 1),.int 0]) v=some (.lst [.int n1,.int (((lab.length:Nat):Int) - 1),.int 0]):=upd_same
  show (fun HH=>_) (upd H1 v (.lst [.int n1,.int (((lab.length:Nat):Int) - 1),.int 0]))
  generalize upd H1 v (.lst [.int n1,.int (((lab.length:Nat):Int) - 1),.int 0])=H2 at s2 h2
  have d2:=Deck.same k1.deck s2
  refine ⟨_,rfl,p,3,c+1,rfl,d2,by omega,by decide,by decide,fun n2 H3 n20 n21 k3=>?_⟩
  obtain ⟨vv,vo,va⟩:=at3 (a:=V.int n1) (b:=.int (((lab.length:Nat):Int) - 1)) (c:=.int 0) n20 n21
  refine ⟨v,_,_,_,rfl,rfl,SqL.of (k3.keep _ _ vp h2),va,?_⟩
  obtain ⟨above,rfl,ab⟩:∃ above:Nat,vv=.int (above:Int)∧above < ups.length:=by
    rcases vo with rfl | rfl | rfl
    · exact ⟨n1.toNat,by rw [show ((n1.toNat:Nat):Int)=n1 by omega],by omega⟩
    · exact ⟨ups.length - 1,by rw [show ((ups.length - 1:Nat):Int)=((lab.length:Nat):Int) - 1 by omega],by omega⟩
    · exact ⟨0,rfl,by omega⟩
  have K3:Kd p (c+1+1) H H3:=(k1.same s2).trans k3
  have tr3:=TreeAt.kd (tr1.same s2) ⟨_,d2⟩ k3
  refine ⟨_,rfl,_,rfl,t,ups,lab,_,rfl,tr3,fun r4 H4 s4 f4 hr4=>?_⟩
  have bl:=bn_len ups (above:Int) ups.length
  have bm:((bn ups (above:Int) ups.length).map V.int).length=(bn ups (above:Int) ups.length).length:=List.length_map _
  refine ⟨r4,_,rfl,.inl (SqL.of hr4),?_⟩
  have K4:=K3.same s4
  refine ⟨_,rfl,_,rfl,_,rfl,_,_,rfl,rfl,p,_,_,rfl,K4.deck,by omega,by omega,by omega,fun n3 H5 n30 n31 k5=>?_⟩
  refine ⟨_,rfl,(by show 3≤sizeLine;decide),fun v2 hv2=>?_⟩
  have v2p:v2≠p:=k5.deck.ne hv2
  have s6:=(Same.refl H5).new (o:=.lst [.int n3,.int 0,.int ((((bn ups (above:Int) ups.length).map V.int).length:Nat):Int)]) hv2
  have h6:upd H5 v2 (.lst [.int n3,.int 0,.int ((((bn ups (above:Int) ups.length).map V.int).length:Nat):Int)]) v2=some (.lst [.int n3,.int 0,.int ((((bn ups (above:Int) ups.length).map V.int).length:Nat):Int)]):=upd_same
  show (fun HH=>_) (upd H5 v2 (.lst [.int n3,.int 0,.int ((((bn ups (above:Int) ups.length).map V.int).length:Nat):Int)]))
  generalize upd H5 v2 (.lst [.int n3,.int 0,.int ((((bn ups (above:Int) ups.length).map V.int).length:Nat):Int)])=H6 at s6 h6
  have K5:=K4.trans k5
  have K6:=K5.same s6
  refine ⟨_,rfl,p,3,_,rfl,K6.deck,by omega,by decide,by decide,fun n4 H7 n40 n41 k7=>?_⟩
  obtain ⟨vv,vo,va⟩:=at3 (a:=V.int n3) (b:=.int 0) (c:=.int ((((bn ups (above:Int) ups.length).map V.int).length:Nat):Int)) n40 n41
  refine ⟨v2,_,_,_,rfl,rfl,SqL.of (k7.keep _ _ v2p h6),va,?_⟩
  obtain ⟨num,rfl,nu⟩:∃ num:Nat,vv=.int (num:Int)∧num≤(bn ups (above:Int) ups.length).length:=by
    rcases vo with rfl | rfl | rfl
    · exact ⟨n3.toNat,by rw [show ((n3.toNat:Nat):Int)=n3 by omega],by omega⟩
    · exact ⟨0,rfl,by omega⟩
    · exact ⟨_,rfl,by omega⟩
  have K7:=K6.trans k7
  have tr7:=TreeAt.kd tr ⟨_,dk⟩ K7
  refine ⟨_,rfl,_,rfl,p,t,ups,lab,c+1+1+1+1,rfl,K7.deck,by omega,by omega,tr7,low,fun z H8 zl zlow k8=>?_⟩
  have K8:=K7.trans k8
  refine ⟨(by show 3≤sizeLine;decide),fun r hr=>?_⟩
  exact q r above num z _ ⟨ab,nu,zl,zlow⟩ ((K8.mono (by omega)).new hr) upd_same (K8.fresh hr)
def sp_put (C:Addr) (ls:List Lm):Sp:=fun vs H Q _=>∃ (x dx l t:Addr) (ups:List Int) (lab z:Str) (ds:List V) (above num b leaf:Nat),vs=[.ref x,.int (above:Int),.int (num:Int),.str z]∧KpAt C H x dx l t ups lab ds∧ds.length < 9000∧Lams ls H∧PutOk ups above num z∧Bgh ups above b∧lfI ups above b num=(leaf:Int)∧ups.length < 60 ∧
  ∀ (H':Hp) (t2 r e:Addr) (a1 b1:Int),KpAt C H' x dx l t2 (grow ups leaf (above:Int)) (growL lab leaf z) (ds++[.ref e])→H' e=some (.tup [.ref t,.ref r])→Ke ls x l H H'→Tri (grow ups leaf (above:Int)) (growL lab leaf z) leaf a1 b1→H' r=some (.tup [.int (leaf:Int),.int a1,.int b1])→Q (.ref r) H'
theorem ok_put {C f:Addr} {fd:FuncData} {ls:List Lm} {fR fC:Addr} {dR dC:FuncData} (F:Fun K "put" "Keeper.put" s_Keeper_put f fd) (T:Tx K mg C) (B:Blt7 mg) (m_Keeper_refuse_no_place:Meth K C "refuse_no_place" fR) (F_R:Fun K "refuse_no_place" "Keeper.refuse_no_place" s_Keeper_refuse_no_place fR dR) (m_Keeper_change:Meth K C "change" fC) (F_C:Fun K "change" "Keeper.change" s_Keeper_change fC dC)
    (G_Keeper_refuse_no_place:FnOk P w K mg base CX0 k fR dR ["self", "place"] (sp_refuse C)) (G_Keeper_change:FnOk P w K mg base CX0 k fC dC ["self", "tree", "triple"] (sp_change C ls)) (G_beneath_of:Has P w K mg base "beneath_of" k ["tree", "place"] sp_ben) (G_is_number_below:Has P w K mg base "is_number_below" k ["thing", "behind"] sp_below) (G_is_letter:Has P w K mg base "is_letter" k ["thing"] sp_ltr)
    (G_bough_of:Has P w K mg base "bough_of" k ["tree", "place"] sp_bough) (G_with_leaf:Has P w K mg base "with_leaf" k ["tree", "leaf", "above", "letter"] sp_with) (G_triple_of:Has P w K mg base "triple_of" k ["tree", "place"] (sp_tri ls)) :
    FnOk P w K mg base CX0 (k+1) f fd ["self", "place", "number", "letter"] (sp_put C ls):=by
  have b_Keeper_refuse_no_place:=F_R.binds (ps:=["self", "place"]) (fun _ _ _ _ _ _ us hl=>match us,hl with | [_,_],_=>rfl)
  have b_Keeper_change:=F_C.binds (ps:=["self", "tree", "triple"]) (fun _ _ _ _ _ _ us hl=>match us,hl with | [_,_,_],_=>rfl)
  obtain ⟨u1,h_MOST_PLACES,r_MOST_PLACES⟩:=B.most
  refine F.ok sc_Keeper_put (fun vs H Q E h=>by obtain ⟨x,dx,l,t,ups,lab,z,ds,a,n,b,lf,rfl,_⟩:=h;rfl) (fun cdv A outer s H vs Q E hr h=>?_)
  obtain ⟨x,dx,l,t,ups,lab,z,ds,above,num,b,leaf,rfl,S,h9,L,po,bg,lf,h60,q⟩:=h
  refine ⟨_,(pss_cons (ps_expr (pe_meth (pv 0) T.cl m_Keeper_refuse_no_place G_Keeper_refuse_no_place hr b_Keeper_refuse_no_place .nil pass0 (pa_cons (pv 1) pa_nil)))
  (pss_cons (ps_set (i:=4) sc_Keeper_put.nd rfl (by first | exact Or.inl rfl | exact Or.inr rfl) (pe_callH G_beneath_of hr rfl (pa_cons (pe_fld (pv 0) rfl) (pa_cons (pv 1) pa_nil))))
  (pss_cons (ps_if (pt_not (pt_val (pe_callH G_is_number_below hr rfl (pa_cons (pv 2) (pa_cons (pe_op op_add (pe_callB call_len_seq rfl B.len bt_len (pa_cons (pv 4) pa_nil)) pe_int) pa_nil)))))
  (pss_one ps_raise0)
  pss_nil)
  (pss_cons (ps_if (pt_not (pt_val (pe_callH G_is_letter hr rfl (pa_cons (pv 3) pa_nil))))
  (pss_one ps_raise0)
  pss_nil)
  (pss_cons (ps_if (pt_cmpR op_ge (pe_callB call_len_str rfl B.len bt_len (pa_cons (pe_ix ix_tup (pe_fld (pv 0) rfl) pe_int (fun _ _=>rfl)) pa_nil)) (pe_glob (v:=.int 60) rfl h_MOST_PLACES r_MOST_PLACES) (nomark _))
  (pss_one ps_raise0)
  pss_nil)
  (pss_cons (ps_set (i:=5) sc_Keeper_put.nd rfl (by first | exact Or.inl rfl | exact Or.inr rfl) (pe_ix ix_list (pe_op op_cat (pv 4) (pe_lst (pa_cons (pe_ix ix_tup (pe_callH G_bough_of hr rfl (pa_cons (pe_fld (pv 0) rfl) (pa_cons (pv 1) pa_nil))) pe_int (fun _ _=>rfl)) pa_nil))) (pv 2) (fun _ _=>rfl)))
  (pss_cons (ps_set (i:=6) sc_Keeper_put.nd rfl (by first | exact Or.inl rfl | exact Or.inr rfl) (pe_callH G_with_leaf hr rfl (pa_cons (pe_fld (pv 0) rfl) (pa_cons (pv 5) (pa_cons (pv 1) (pa_cons (pv 3) pa_nil))))))
  (pss_one (ps_ret (pe_meth (pv 0) T.cl m_Keeper_change G_Keeper_change hr b_Keeper_change .nil pass0 (pa_cons (pv 6) (pa_cons (pe_callH G_triple_of hr rfl (pa_cons (pv 6) (pa_cons (pv 5) pa_nil))) pa_nil)))))))))))),?_⟩
  have ok:=S.tr.choose_spec.2.2
  have ll:lab.length=ups.length:=by rw [ok.len];simp [Str.length]
  have lz:lab.length≤sizeLine:=Nat.le_of_lt (small1000 (by omega))
  have bl:=bn_len ups (above:Int) ups.length
  have bm:((bn ups (above:Int) ups.length).map V.int).length=(bn ups (above:Int) ups.length).length:=List.length_map _
  have nu:=po.nu
  have ab:=po.ab
  refine ⟨_,rfl,x,dx,_,rfl,S.ob,f_no (by decide +kernel) (by decide +kernel),_,rfl,x,dx,l,t,ups,lab,ds,above,rfl,S,ab,?_⟩
  refine ⟨_,rfl,x,C,dx,_,_,rfl,S.ob,T.cl,T.nT,f_tree,_,rfl,t,ups,lab,_,rfl,S.tr,fun r1 H1 s1 f1 hr1=>?_⟩
  have S1:=S.same s1
  obtain ⟨u,ht1,hu1,_⟩:=id S1.tr
  refine ⟨_,rfl,_,rfl,r1,_,rfl,.inl (SqL.of hr1),_,_,rfl,rfl,_,_,rfl,by omega,by omega,_,rfl,iteF ?_⟩
  refine ⟨_,rfl,z,rfl,po.zl,po.low,fun H2 s2=>⟨_,rfl,iteF ?_⟩⟩
  have S2:=S1.same s2
  obtain ⟨u2,ht2,hu2,_⟩:=id S2.tr
  refine ⟨_,rfl,x,C,dx,_,_,rfl,S2.ob,T.cl,T.nT,f_tree,t,_,_,_,rfl,rfl,SqT.of ht2,rfl,lab,rfl,lz,_,_,rfl,rfl,_,rfl,?_⟩
  rw [decide_eq_false (show ¬ (60:Int)≤((lab.length:Nat):Int) by omega)]
  refine iteF ?_
  refine ⟨_,rfl,_,rfl,x,C,dx,_,_,rfl,S2.ob,T.cl,T.nT,f_tree,_,rfl,t,ups,lab,above,rfl,S2.tr,ab,fun b' r3 H3 bg' s3 f3 hr3=>?_⟩
  obtain rfl:b'=b:=bg'.one bg
  refine ⟨r3,_,_,_,rfl,rfl,SqT.of hr3,rfl,(by show 1≤sizeLine;decide),fun v hv=>?_⟩
  have s4:=(Same.refl H3).new (o:=.lst [.int (b':Int)]) hv
  have h4:upd H3 v (.lst [.int (b':Int)]) v=some (.lst [.int (b':Int)]):=upd_same
  show (fun HH=>_) (upd H3 v (.lst [.int (b':Int)]))
  generalize upd H3 v (.lst [.int (b':Int)])=H4 at s4 h4
  have s24:=s3.trans s4
  refine ⟨r1,v,_,_,rfl,rfl,s24 _ _ (s2 _ _ hr1),h4,Nat.le_of_lt (small1000 (by rw [List.length_map];simp only [List.length_cons,List.length_nil];omega)),fun v3 hv3=>?_⟩
  have ec:(bn ups (above:Int) ups.length).map V.int++[V.int (b':Int)]=(bn ups (above:Int) ups.length++[(b':Int)]).map V.int:=by rw [List.map_append];rfl
  rw [ec]
  have s5:=(Same.refl H4).new (o:=.lst ((bn ups (above:Int) ups.length++[(b':Int)]).map V.int)) hv3
  have h5:upd H4 v3 (.lst ((bn ups (above:Int) ups.length++[(b':Int)]).map V.int)) v3=some (.lst ((bn ups (above:Int) ups.length++[(b':Int)]).map V.int)):=upd_same
  show (fun HH=>_) (upd H4 v3 (.lst ((bn ups (above:Int) ups.length++[(b':Int)]).map V.int)))
  generalize upd H4 v3 (.lst ((bn ups (above:Int) ups.length++[(b':Int)]).map V.int))=H5 at s5 h5
  have at1:atI ((bn ups (above:Int) ups.length++[(b':Int)]).map V.int) (num:Int)=some (.int (leaf:Int)):=by
    rw [ints_at (by omega) (by rw [List.length_append,List.length_singleton];omega),Int.toNat_natCast,← lf]
    rfl
  refine ⟨_,rfl,v3,_,_,_,rfl,rfl,SqL.of h5,at1,?_⟩
  obtain ⟨leaf',el,l0,l1⟩:=lf_ok ok bg nu
  obtain rfl:leaf'=leaf:=by rw [lf] at el;omega
  have S5:=(S2.same s24).same s5
  refine ⟨_,rfl,x,C,dx,_,_,rfl,S5.ob,T.cl,T.nT,f_tree,_,rfl,_,rfl,_,rfl,t,ups,lab,z,leaf',above,rfl,S5.tr,l0,l1,h60,po.zl,fun t2 H6 s6 f6 tr6=>?_⟩
  have S6:=S5.same s6
  have sAll:Same H H6:=(((s1.trans s2).trans s24).trans s5).trans s6
  have gl:=grow_len (above:=(above:Int)) l1
  refine ⟨_,rfl,x,dx,_,rfl,S6.ob,f_no (by decide +kernel) (by decide +kernel),_,rfl,_,rfl,_,rfl,t2,_,_,leaf',rfl,tr6,by omega,L.same sAll,fun r a1 b1 H7 k7 f7 tri hr7=>?_⟩
  have S7:=S6.kt k7
  have tr7:TreeAt H7 t2 (grow ups leaf' (above:Int)) (growL lab leaf' z):=TreeAt.of tr6 fun b xs e=>k7.tup e
  refine ⟨x,dx,l,t,t2,r,ups,lab,ds,rfl,S7,h9,k7.lam,fun H8 e ob8 dl8 he8 ke=>?_⟩
  have kt8:∀ b xs,H7 b=some (.tup xs)→H8 b=some (.tup xs):=fun b xs e=>ke.keep b _ (fun _ z=>by cases z) (ne_of e S7.ob (by intro z;cases z)) (ne_of e S7.dl (by intro z;cases z)) e
  refine q H8 t2 r e a1 b1 ⟨ob8,dl8,TreeAt.of tr7 kt8⟩ he8 ⟨ke.lam,fun b o ho hx hl e=>ke.keep b o ho hx hl (k7.keep b o ho (sAll _ _ e)),fun b e=>sAll.free (k7.here b (ke.here b e))⟩ tri (kt8 _ _ hr7)
end
end S73
namespace S73
open PySem L2 W7
def pr (leaf:Nat) (u:Int):Int:=if (leaf:Int) < u then u - 1 else u
def prune (ups:List Int) (leaf:Nat):List Int:=(ups.map (pr leaf)).eraseIdx leaf
def cutL (lab:Str) (leaf:Nat):Str:=mk (lab.cps.toList.eraseIdx leaf)
theorem pr_zero (leaf:Nat):pr leaf 0=0:=by unfold pr;rw [if_neg (by omega)]
theorem prune_len {ups:List Int} {leaf:Nat} (h:leaf < ups.length):(prune ups leaf).length=ups.length - 1:=by
  unfold prune
  rw [List.length_eraseIdx,List.length_map,if_pos h]
theorem prune_at (ups:List Int) (leaf k:Nat):(prune ups leaf).getD k 0=pr leaf (ups.getD (if k < leaf then k else k+1) 0):=by
  unfold prune
  rw [List.getD_eq_getElem?_getD,List.getElem?_eraseIdx]
  have e:∀ j,(((ups.map (pr leaf))[j]?).getD 0:Int)=pr leaf (ups.getD j 0):=fun j=>by
    rw [List.getElem?_map,List.getD_eq_getElem?_getD]
    cases ups[j]? with
    | none=>exact (pr_zero leaf).symm
    | some v=>rfl
  split
  · exact e k
  · exact e (k+1)
theorem prune_ok {ups:List Int} {lab:Str} {leaf:Nat} (ok:TreeOk ups lab.cps.toList) (l0:0 < leaf) (l1:leaf < ups.length) (hl:(leaf:Int) ∉ ups):TreeOk (prune ups leaf) (cutL lab leaf).cps.toList:=by
  have pl:=prune_len l1
  have m60:=ok.most
  refine ⟨?_,by omega,by omega,?_,fun k k0 k1=>?_⟩
  · rw [pl]
    show _=(lab.cps.toList.eraseIdx leaf).length
    rw [List.length_eraseIdx,← ok.len,if_pos l1]
  · rw [prune_at,if_pos l0,ok.root]
    unfold pr
    rw [if_neg (by omega)]
  · rw [prune_at]
    by_cases c:k < leaf
    · rw [if_pos c]
      have:=ok.up k k0 (by omega)
      unfold pr
      rw [if_neg (by omega)]
      exact this
    · rw [if_neg c]
      have:=ok.up (k+1) (by omega) (by omega)
      have ne:ups.getD (k+1) 0≠(leaf:Int):=fun e=>hl (by
        rw [← e,List.getD_eq_getElem?_getD,List.getElem?_eq_getElem (by omega)]
        exact List.getElem_mem _)
      unfold pr
      split <;> omega
theorem map_erase {α β:Type} (f:α→β):∀ (l:List α) (n:Nat),(l.map f).eraseIdx n=(l.eraseIdx n).map f
  | [],n=>rfl
  | a :: l,0=>rfl
  | a :: l,n+1=>by
    show f a :: (l.map f).eraseIdx n=f a :: (l.eraseIdx n).map f
    rw [map_erase f l n]
theorem cut_text {lab:Str} {leaf:Nat}:cutS lab none (some (leaf:Int))++cutS lab (some ((leaf:Int)+1)) none=cutL lab leaf:=by
  apply str_ext
  rw [app_list,cutS_to,show (leaf:Int)+1=((leaf+1:Nat):Int) by omega,cutS_from]
  exact (List.eraseIdx_eq_take_drop_succ _ _).symm
def lvs (ups:List Int) (n:Nat):List Int:=((List.range n).map fun j:Nat=>1+(j:Int)).filter fun x=>!decide (x∈ups)
theorem lvs_mem {ups:List Int} {n:Nat} (hn:n≤ups.length - 1):∀ v∈lvs ups n,∃ leaf:Nat,v=(leaf:Int)∧0 < leaf∧leaf < ups.length∧(leaf:Int) ∉ ups:=fun v hv=>by
  unfold lvs at hv
  obtain ⟨h1,h2⟩:=List.mem_filter.mp hv
  obtain ⟨j,hj,rfl⟩:=List.mem_map.mp h1
  have hj':=List.mem_range.mp hj
  refine ⟨j+1,by omega,by omega,by omega,fun z=>?_⟩
  rw [show ((j+1:Nat):Int)=1+(j:Int) by omega] at z
  simp [z] at h2
theorem lvs_ne {ups:List Int} {lab:List Nat} (ok:TreeOk ups lab) (h2:2≤ups.length):lvs ups (ups.length - 1)≠[]:=fun z=>by
  have nm:((ups.length - 1:Nat):Int) ∉ ups:=fun h=>by
    obtain ⟨i,hi,e⟩:=List.getElem_of_mem h
    have eg:ups.getD i 0=((ups.length - 1:Nat):Int):=by rw [List.getD_eq_getElem?_getD,List.getElem?_eq_getElem hi];exact e
    rcases Nat.eq_zero_or_pos i with y | y
    · rw [y,ok.root] at eg;omega
    · have:=ok.up i y hi;omega
  have:((ups.length - 1:Nat):Int)∈lvs ups (ups.length - 1):=by
    unfold lvs
    refine List.mem_filter.mpr ⟨List.mem_map.mpr ⟨ups.length - 2,List.mem_range.mpr (by omega),by omega⟩,by simp [nm]⟩
  rw [z] at this
  cases this
theorem lvs_len (ups:List Int) (n:Nat):(lvs ups n).length≤n:=by
  unfold lvs
  refine Nat.le_trans (List.length_filter_le _ _) ?_
  simp
theorem lvs_step (ups:List Int) (j:Nat):lvs ups (j+1)=lvs ups j++(if (1+(j:Int))∈ups then [] else [1+(j:Int)]):=by
  unfold lvs
  rw [List.range_succ,List.map_append,List.filter_append]
  congr 1
  by_cases e:(1+(j:Int))∈ups
  · simp [e]
  · simp [e]
section
variable {P:Program} {w:World} {K:PySem.W.Frag} {mg:Str→Option Value} {base:Heap} {k:Nat}
def sp_leaf:Sp:=fun vs H Q _=>∃ (t:Addr) (ups:List Int) (lab:Str) (p:Int),vs=[.ref t,.int p]∧TreeAt H t ups lab∧p ∉ ups∧Q (.bl true) H
theorem has_leaf (D:Df K mg "is_leaf" s_is_leaf) (B:Blt7 mg):Has P w K mg base "is_leaf" (k+1) ["tree", "place"] sp_leaf:=by
  refine D.has sc_is_leaf (fun _ _ _ _ _ _ us hl=>match us,hl with | [_,_],_=>rfl) (fun vs H Q E h=>by obtain ⟨t,ups,lab,p,rfl,_⟩:=h;rfl) (fun f cdv A outer s H vs Q E hr h=>?_)
  obtain ⟨t,ups,lab,p,rfl,tr,np,q⟩:=h
  refine ⟨_,(pss_one (ps_ret (pe_cmpR op_notIn_seq (pv 1) (pe_ix ix_tup (pv 0) pe_int (fun _ _=>rfl)) (by with_unfolding_all rfl)))),?_⟩
  obtain ⟨u,ht,hu,ok⟩:=id tr
  refine ⟨_,rfl,_,rfl,t,_,_,_,rfl,rfl,SqT.of ht,rfl,u,_,rfl,.inr (SqT.of hu),rfl,flat_ints _,?_⟩
  rw [inV_int,decide_eq_false np]
  exact q
theorem pop_ix {n leaf:Nat} (h:leaf < n):seqIndex? (leaf:Int) n=some leaf:=by
  have:=seqIndex_of (k:=(leaf:Int)) (n:=n) (by omega) (by omega)
  simpa using this
def sp_less:Sp:=fun vs H Q _=>∃ (t:Addr) (ups:List Int) (lab:Str) (leaf:Nat),vs=[.ref t,.int (leaf:Int)]∧TreeAt H t ups lab∧0 < leaf∧leaf < ups.length∧(leaf:Int) ∉ ups ∧
  ∀ (r:Addr) (H':Hp),Same H H'→H r=none→TreeAt H' r (prune ups leaf) (cutL lab leaf)→Q (.ref r) H'
theorem has_less (D:Df K mg "without_leaf" s_without_leaf) (B:Blt7 mg):Has P w K mg base "without_leaf" (k+1) ["tree", "leaf"] sp_less:=by
  refine D.has sc_without_leaf (fun _ _ _ _ _ _ us hl=>match us,hl with | [_,_],_=>rfl) (fun vs H Q E h=>by obtain ⟨t,ups,lab,p,rfl,_⟩:=h;rfl) (fun f cdv A outer s H vs Q E hr h=>?_)
  obtain ⟨t,ups,lab,leaf,rfl,tr,l0,l1,np,q⟩:=h
  refine ⟨_,(pss_cons (ps_comp (i:=2) sc_without_leaf.nd rfl (by first | exact Or.inl rfl | exact Or.inr rfl) rfl (pi_tup (pe_ix ix_tup (pv 0) pe_int (fun _ _=>rfl))) (NL:=["up"]) (ix:=[1]) (csc (defScope s_without_leaf) N_without_leaf) (fun cl C s₃ H₃ fp pins=>⟨(pg_name (i:=0) (show List.Nodup (["up", "leaf"]:List Str) from by decide +kernel) rfl (by first | exact Or.inl rfl | exact Or.inr rfl)),pifs_nil,(pe_ifExp (pt_cmpR op_gt (pv 0) (pv 1) (nomark _)) (pe_op op_sub (pv 0) pe_int) (pv 0))⟩))
  (pss_cons (ps_expr (pe_bm PySem.F.plainAttrs_list PySem.F.slot_list_pop PySem.F.type_list_pop mt_popAt (pv 2) (pa_cons (pv 1) pa_nil)))
  (pss_one (ps_ret (pe_tup (pa_cons (pe_callTy call_tuple_of rfl B.tuple_ bt_tuple (pa_cons (pv 2) pa_nil)) (pa_cons (pe_op op_add_str (pe_slice sl_str (pe_ix ix_tup (pv 0) pe_int (fun _ _=>rfl)) po_none (po_some (pv 1))) (pe_slice sl_str (pe_ix ix_tup (pv 0) pe_int (fun _ _=>rfl)) (po_some (pe_op op_add (pv 1) pe_int)) po_none)) pa_nil))))))),?_⟩
  obtain ⟨u,ht,hu,ok⟩:=id tr
  have m60:=ok.most
  have ll:lab.length=ups.length:=by rw [ok.len];simp [Str.length]
  refine ⟨_,rfl,t,_,_,_,rfl,rfl,SqT.of ht,rfl,u,rfl,⟨_,SqT.of hu⟩,fun acc hacc=>?_⟩
  refine comp_tupI (K:=K) (a:=u) (xs:=ups.map V.int) (by rw [List.length_map];omega) (fun i ys HX=>HX acc=some (.lst ys)∧ys=((ups.take i).map (pr leaf)).map V.int∧Same H HX)
    (fun i ys HX h=>SqT.of (h.2.2 _ _ hu)) (fun i ys HX h=>⟨h.1,by rw [h.2.1,List.length_map,List.length_map,List.length_take];omega⟩) ⟨upd_same,by simp,(Same.refl H).new hacc⟩ ?_ ?_
  rotate_left
  · rintro i x ys HX hx ⟨g1,rfl,g3⟩
    rw [List.getElem?_map] at hx
    cases e1:ups[i]? with
    | none=>rw [e1] at hx;cases hx
    | some v=>
      rw [e1] at hx
      cases hx
      have st:((ups.take (i+1)).map (pr leaf)).map V.int=((ups.take i).map (pr leaf)).map V.int++[.int (pr leaf v)]:=by
        rw [List.take_succ,e1,List.map_append,List.map_append];rfl
      refine ⟨rfl,?_⟩
      refine ⟨_,rfl,_,rfl,_,_,rfl,rfl,_,rfl,ite2 (fun c=>?_) (fun c=>?_)⟩
      · refine ⟨_,rfl,_,_,rfl,rfl,g1,upd_same,?_,g3.write hacc⟩
        rw [st];unfold pr;rw [if_pos (of_decide_eq_true c)]
      · refine ⟨_,rfl,g1,upd_same,?_,g3.write hacc⟩
        rw [st];unfold pr;rw [if_neg (of_decide_eq_false (Bool.eq_false_iff.mpr c))]
  rintro ys H1 ⟨g1,rfl,g3⟩
  rw [List.length_map,List.take_length] at g1
  have pl:(((ups.map (pr leaf)).map V.int)).length=ups.length:=by rw [List.length_map,List.length_map]
  refine ⟨_,rfl,.inl ⟨rfl,_,SqL.of g1⟩,_,rfl,acc,_,(leaf:Int),leaf,_,rfl,rfl,g1,by omega,by omega,by rw [pl];exact pop_ix l1,List.getElem?_eq_getElem (by rw [pl];exact l1),?_⟩
  have e2:((ups.map (pr leaf)).map V.int).eraseIdx leaf=(prune ups leaf).map V.int:=by unfold prune;rw [map_erase]
  rw [e2]
  have s2:Same H (upd H1 acc (.lst ((prune ups leaf).map V.int))):=g3.write hacc
  have h2:upd H1 acc (.lst ((prune ups leaf).map V.int)) acc=some (.lst ((prune ups leaf).map V.int)):=upd_same
  show (fun HH=>_) (upd H1 acc (.lst ((prune ups leaf).map V.int)))
  generalize upd H1 acc (.lst ((prune ups leaf).map V.int))=H2 at s2 h2
  refine ⟨_,rfl,acc,_,rfl,.inl ⟨SqL.of h2,fun r2 hr2=>?_⟩⟩
  have s3:Same H (upd H2 r2 (.tup ((prune ups leaf).map V.int))):=s2.new hr2
  have h3:upd H2 r2 (.tup ((prune ups leaf).map V.int)) r2=some (.tup ((prune ups leaf).map V.int)):=upd_same
  show (fun HH=>_) (upd H2 r2 (.tup ((prune ups leaf).map V.int)))
  generalize upd H2 r2 (.tup ((prune ups leaf).map V.int))=H3 at s3 h3
  have lz:lab.length≤sizeLine:=Nat.le_of_lt (small1000 (by omega))
  have cl:∀ lo hi,(cutS lab lo hi).length≤60:=fun lo hi=>by
    have:(cutS lab lo hi).cps.toList.length≤lab.cps.toList.length:=by
      unfold cutS
      show (List.toArray _).toList.length≤_
      rw [List.toList_toArray,List.length_take,List.length_drop];omega
    simp only [Str.length,Array.length_toList] at this ll ⊢
    omega
  refine ⟨_,rfl,t,_,_,_,rfl,rfl,SqT.of (s3 _ _ ht),rfl,_,rfl,_,rfl,lab,rfl,lz,_,rfl,t,_,_,_,rfl,rfl,SqT.of (s3 _ _ ht),rfl,_,rfl,_,_,rfl,rfl,_,rfl,lab,rfl,lz,_,_,rfl,rfl,?_,?_⟩
  · have a1:=cl none (some (leaf:Int))
    have a2:=cl (some ((leaf:Int)+1)) none
    exact Nat.le_of_lt (small1000 (by omega))
  rw [cut_text]
  refine ⟨(by show 2≤sizeLine;decide),fun r hr=>q r _ (s3.new hr) (s3.free hr) ?_⟩
  exact ⟨r2,upd_same,by rw [upd_ne (ne_of_none h3 hr)];exact h3,prune_ok ok l0 l1 np⟩
def sp_leaves:Sp:=fun vs H Q _=>∃ (t:Addr) (ups:List Int) (lab:Str),vs=[.ref t]∧TreeAt H t ups lab ∧
  ∀ (r:Addr) (H':Hp),Same H H'→H r=none→H' r=some (.lst ((lvs ups (ups.length - 1)).map V.int))→Q (.ref r) H'
theorem has_leaves (D:Df K mg "_law_leaves" s_law_leaves) (B:Blt7 mg):Has P w K mg base "_law_leaves" (k+1) ["tree"] sp_leaves:=by
  refine D.has sc_law_leaves (fun _ _ _ _ _ _ us hl=>match us,hl with | [_],_=>rfl) (fun vs H Q E h=>by obtain ⟨t,ups,lab,rfl,_⟩:=h;rfl) (fun f cdv A outer s H vs Q E hr h=>?_)
  obtain ⟨t,ups,lab,rfl,tr,q⟩:=h
  refine ⟨_,(pss_one (ps_ret (pe_comp rfl (pi_range2 rfl B.range (pa_cons pe_int (pa_cons (pe_callB call_len_seq rfl B.len bt_len (pa_cons (pe_ix ix_tup (pv 0) pe_int (fun _ _=>rfl)) pa_nil)) pa_nil))) (NL:=["place"]) (ix:=[0]) (csc (defScope s_law_leaves) N_law_leaves) (fun cl C s₃ H₃ fp pins=>⟨(pg_name (i:=0) (show List.Nodup (["place", "tree"]:List Str) from by decide +kernel) rfl (by first | exact Or.inl rfl | exact Or.inr rfl)),(pifs_one (pt_cmpR (op_notIn_seqK K) (pv 0) (pe_ix (ix_tupK K) (pv 1) pe_int (fun _ _=>rfl)) (by with_unfolding_all rfl))),(pv 0)⟩)))),?_⟩
  obtain ⟨u,ht,hu,ok⟩:=id tr
  have m60:=ok.most
  have lpos:=ok.pos
  have ul:(ups.map V.int).length=ups.length:=List.length_map _
  refine ⟨_,rfl,t,_,_,_,rfl,rfl,SqT.of ht,rfl,u,_,rfl,.inr (SqT.of hu),_,_,rfl,?_,fun acc hacc=>?_⟩
  · omega
  have eM:((((ups.map V.int).length:Nat):Int) - 1).toNat=ups.length - 1:=by omega
  refine comp_by (((((ups.map V.int).length:Nat):Int) - 1).toNat) (by omega) (fun j ys H'=>H' acc=some (.lst ys)∧ys=(lvs ups j).map V.int∧Same H H')
    (fun j ys H' h=>⟨h.1,by rw [h.2.1,List.length_map];exact lvs_len _ _⟩) ⟨upd_same,rfl,(Same.refl H).new hacc⟩ ?_ ?_
  rotate_left
  · rintro j ys HX hj ⟨g1,rfl,g3⟩
    refine ⟨hj,?_⟩
    rintro x H5 ⟨rfl,rfl⟩
    refine ⟨rfl,?_⟩
    refine ⟨_,rfl,_,rfl,t,_,_,_,rfl,rfl,SqT.of (g3 _ _ ht),rfl,u,_,rfl,.inr (SqT.of (g3 _ _ hu)),rfl,flat_ints _,?_⟩
    rw [inV_int]
    refine ⟨_,rfl,ite2 (fun c=>?_) (fun c=>?_)⟩
    · have c':¬ (1+(j:Int))∈ups:=by simpa using c
      refine ⟨_,rfl,g1,upd_same,?_,g3.write hacc⟩
      rw [lvs_step,if_neg c',List.map_append];rfl
    · have c':(1+(j:Int))∈ups:=by simpa using c
      refine ⟨g1,?_,g3⟩
      rw [lvs_step,if_pos c',List.append_nil]
  rintro ys H4 ⟨g4,rfl,g5⟩
  refine ⟨Nat.le_refl _,?_⟩
  rw [eM] at g4
  exact q acc _ g5 hacc g4
end
end S73
namespace S73
open PySem L2 W7
def sp_tk (C:Addr) (ls:List Lm):Sp:=fun vs H Q _=>∃ (x dx l t:Addr) (ups:List Int) (lab:Str) (ds:List V) (n:Nat),vs=[.ref x,.int (n:Int)]∧KpAt C H x dx l t ups lab ds∧ds.length < 9000∧Lams ls H∧0 < n∧n < ups.length∧(n:Int) ∉ ups ∧
  ∀ (H':Hp) (t2 r e:Addr) (a b:Int),KpAt C H' x dx l t2 (prune ups n) (cutL lab n) (ds++[.ref e])→H' e=some (.tup [.ref t,.ref r])→Ke ls x l H H'→Tri ups lab n a b→H' r=some (.tup [.int (n:Int),.int a,.int b])→Q (.ref r) H'
section
variable {P:Program} {w:World} {K:PySem.W.Frag} {mg:Str→Option Value} {base:Heap} {k:Nat} {C f:Addr} {fd:FuncData}
theorem ok_tk {ls:List Lm} {fR fC:Addr} {dR dC:FuncData} (F:Fun K "take" "Keeper.take" s_Keeper_take f fd) (T:Tx K mg C) (B:Blt7 mg) (m_Keeper_refuse_no_place:Meth K C "refuse_no_place" fR) (F_R:Fun K "refuse_no_place" "Keeper.refuse_no_place" s_Keeper_refuse_no_place fR dR) (m_Keeper_change:Meth K C "change" fC) (F_C:Fun K "change" "Keeper.change" s_Keeper_change fC dC)
    (G_Keeper_refuse_no_place:FnOk P w K mg base CX0 k fR dR ["self", "place"] (sp_refuse C)) (G_Keeper_change:FnOk P w K mg base CX0 k fC dC ["self", "tree", "triple"] (sp_change C ls)) (G_is_leaf:Has P w K mg base "is_leaf" k ["tree", "place"] sp_leaf) (G_without_leaf:Has P w K mg base "without_leaf" k ["tree", "leaf"] sp_less) (G_triple_of:Has P w K mg base "triple_of" k ["tree", "place"] (sp_tri ls)) :
    FnOk P w K mg base CX0 (k+1) f fd ["self", "place"] (sp_tk C ls):=by
  have b_Keeper_refuse_no_place:=F_R.binds (ps:=["self", "place"]) (fun _ _ _ _ _ _ us hl=>match us,hl with | [_,_],_=>rfl)
  have b_Keeper_change:=F_C.binds (ps:=["self", "tree", "triple"]) (fun _ _ _ _ _ _ us hl=>match us,hl with | [_,_,_],_=>rfl)
  refine F.ok sc_Keeper_take (fun vs H Q E h=>by obtain ⟨x,dx,l,t,ups,lab,ds,n,rfl,_⟩:=h;rfl) (fun cdv A outer s H vs Q E hr h=>?_)
  obtain ⟨x,dx,l,t,ups,lab,ds,n,rfl,S,h9,L,n0,n1',nm,q⟩:=h
  refine ⟨_,(pss_cons (ps_expr (pe_meth (pv 0) T.cl m_Keeper_refuse_no_place G_Keeper_refuse_no_place hr b_Keeper_refuse_no_place .nil pass0 (pa_cons (pv 1) pa_nil)))
  (pss_cons (ps_if (PW.pt (pw_or (pt_cmpR op_eq (pv 1) pe_int (nomark _)) (pw_or1 (pt_not (pt_val (pe_callH G_is_leaf hr rfl (pa_cons (pe_fld (pv 0) rfl) (pa_cons (pv 1) pa_nil))))))))
  (pss_one ps_raise0)
  pss_nil)
  (pss_one (ps_ret (pe_meth (pv 0) T.cl m_Keeper_change G_Keeper_change hr b_Keeper_change .nil pass0 (pa_cons (pe_callH G_without_leaf hr rfl (pa_cons (pe_fld (pv 0) rfl) (pa_cons (pv 1) pa_nil))) (pa_cons (pe_callH G_triple_of hr rfl (pa_cons (pe_fld (pv 0) rfl) (pa_cons (pv 1) pa_nil))) pa_nil))))))),?_⟩
  refine ⟨_,rfl,x,dx,_,rfl,S.ob,f_no (by decide +kernel) (by decide +kernel),_,rfl,x,dx,l,t,ups,lab,ds,n,rfl,S,n1',?_⟩
  refine ⟨_,rfl,rfl,_,rfl,?_⟩
  have nz:decide (V.int (n:Int)=V.int 0)=false:=decide_eq_false fun e=>by injection e with e;omega
  rw [nz]
  refine iteF ?_
  refine ⟨_,rfl,x,C,dx,_,_,rfl,S.ob,T.cl,T.nT,f_tree,_,rfl,t,ups,lab,(n:Int),rfl,S.tr,nm,_,rfl,iteF ?_⟩
  refine ⟨_,rfl,x,dx,_,rfl,S.ob,f_no (by decide +kernel) (by decide +kernel),?_⟩
  refine ⟨_,rfl,x,C,dx,_,_,rfl,S.ob,T.cl,T.nT,f_tree,_,rfl,t,ups,lab,n,rfl,S.tr,n0,n1',nm,fun t2 H1 s1 hf1 tr1=>?_⟩
  have S1:=S.same s1
  refine ⟨_,rfl,x,C,dx,_,_,rfl,S1.ob,T.cl,T.nT,f_tree,_,rfl,t,ups,lab,n,rfl,S1.tr,n1',L.same s1,fun r a b H2 k2 hf2 tri hr2=>?_⟩
  have S2:=S1.kt k2
  have tr2:TreeAt H2 t2 (prune ups n) (cutL lab n):=TreeAt.of tr1 fun b xs e=>k2.tup e
  refine ⟨x,dx,l,t,t2,r,ups,lab,ds,rfl,S2,h9,k2.lam,fun H3 e ob3 dl3 he3 ke=>?_⟩
  have kt3:∀ b xs,H2 b=some (.tup xs)→H3 b=some (.tup xs):=fun b xs e=>ke.keep b _ (fun _ z=>by cases z) (ne_of e S2.ob (by intro z;cases z)) (ne_of e S2.dl (by intro z;cases z)) e
  refine q H3 t2 r e a b ⟨ob3,dl3,TreeAt.of tr2 kt3⟩ he3 ⟨ke.lam,fun b o ho hx hl e=>ke.keep b o ho hx hl (k2.keep b o ho (s1 _ _ e)),fun b e=>s1.free (k2.here b (ke.here b e))⟩ tri (kt3 _ _ hr2)
end
end S73
namespace S73
open PySem L2 W7
def sp_back (C:Addr) (ls:List Lm):Sp:=fun vs H Q _=>∃ (x dx l t:Addr) (ups:List Int) (lab:Str) (ds:List V) (e t0 r:Addr),vs=[.ref x]∧KpAt C H x dx l t ups lab (ds++[.ref e])∧H e=some (.tup [.ref t0,.ref r])∧Lams ls H∧ds.length < 9000 ∧
  ∀ (H':Hp),H' x=some (.ins C dx (flds t0 l))→H' l=some (.lst ds)→Ke ls x l H H'→Q (.ref r) H'
section
variable {P:Program} {w:World} {K:PySem.W.Frag} {mg:Str→Option Value} {base:Heap} {k:Nat} {C f:Addr} {fd:FuncData}
theorem ok_back {ls:List Lm} (F:Fun K "back" "Keeper.back" s_Keeper_back f fd) (T:Tx K mg C) (B:Blt7 mg):FnOk P w K mg base CX0 (k+1) f fd ["self"] (sp_back C ls):=by
  refine F.ok sc_Keeper_back (fun vs H Q E h=>by obtain ⟨x,dx,l,t,ups,lab,ds,e,t0,r,rfl,_⟩:=h;rfl) (fun cdv A outer s H vs Q E hr h=>?_)
  obtain ⟨x,dx,l,t,ups,lab,ds,e,t0,r,rfl,S,he,L,h9,q⟩:=h
  refine ⟨_,(pss_cons (ps_if (pt_cmpR (op_eq_nil hr.units0) (pe_fld (pv 0) rfl) (pe_lst pa_nil) (nomark _))
  (pss_one ps_raise0)
  pss_nil)
  (pss_cons (ps_set (i:=1) sc_Keeper_back.nd rfl (by first | exact Or.inl rfl | exact Or.inr rfl) (pe_bm0 PySem.F.plainAttrs_list PySem.F.slot_list_pop PySem.F.type_list_pop mt_pop (pe_fld (pv 0) rfl)))
  (pss_cons (ps_fld (pv 0) (pe_ix ix_tup (pv 1) pe_int (fun _ _=>rfl)) rfl)
  (pss_one (ps_ret (pe_ix ix_tup (pv 1) pe_int (fun _ _=>rfl))))))),?_⟩
  refine ⟨_,rfl,x,C,dx,_,_,rfl,S.ob,T.cl,T.nD,f_deeds,(by show 0≤sizeLine;decide),fun v hv=>?_⟩
  have s1:Same H (upd H v (.lst [])):=(Same.refl H).new hv
  have h1:upd H v (.lst []) v=some (.lst []):=upd_same
  show (fun HH=>_) (upd H v (.lst []))
  generalize upd H v (.lst [])=H1 at s1 h1
  have S1:=S.same s1
  have he1:=s1 _ _ he
  have L1:Lams ls H1:=L.same s1
  have xl:x≠l:=ne_of S1.ob S1.dl (by intro z;cases z)
  have ex:e≠x:=ne_of he1 S1.ob (by intro z;cases z)
  have el:e≠l:=ne_of he1 S1.dl (by intro z;cases z)
  refine ⟨l,v,_,rfl,rfl,SqL.of S1.dl,SqL.of h1,_,rfl,iteB (by simp) ?_⟩
  refine ⟨_,rfl,x,C,dx,_,_,rfl,S1.ob,T.cl,T.nD,f_deeds,.inl ⟨rfl,_,SqL.of S1.dl⟩,l,_,.ref e,rfl,rfl,S1.dl,by simp,?_⟩
  rw [List.dropLast_concat]
  refine ⟨_,rfl,e,_,_,_,rfl,rfl,SqT.of (by rw [upd_ne el];exact he1),rfl,_,rfl,x,C,dx,_,rfl,(by rw [upd_ne xl];exact S1.ob),T.cl,T.nT,f_len,?_⟩
  rw [f_put]
  refine ⟨_,rfl,e,_,_,_,rfl,rfl,SqT.of (by rw [upd_ne ex,upd_ne el];exact he1),rfl,q _ upd_same (by rw [upd_ne xl.symm,upd_same]) ⟨?_,fun b o ho hx hl e=>?_,?_⟩⟩
  · exact Lams.upd (o0:=.ins C dx (flds t l)) (Lams.upd L1 S1.dl (fun _ z=>by cases z) (fun _ z=>by cases z)) (by rw [upd_ne xl];exact S1.ob) (fun _ z=>by cases z) (fun _ z=>by cases z)
  · rw [upd_ne hx,upd_ne hl];exact s1 _ _ e
  · exact here_upd (here_upd fun b e=>s1.free e)
inductive Dd where
  | back:Dd
  | take (n:Nat):Dd
  | put (above num:Nat) (z:Str):Dd
def DdAt (H:Hp) (d:Addr):Dd→Prop
  | .back=>H d=some (.tup [.str "back"])
  | .take n=>H d=some (.tup [.str "take", .int (n:Int)])
  | .put a n z=>H d=some (.tup [.str "put", .int (a:Int),.int (n:Int),.str z])
def DdOk (ups:List Int) (hs:List Hs):Dd→Prop
  | .back=>hs≠[]
  | .take n=>0 < n∧n < ups.length∧(n:Int) ∉ ups
  | .put a n z=>PutOk ups a n z∧ups.length < 60
theorem at_ints {us:List Int} {n:Int} (h0:0≤n) (h1:n < (us.length:Int)):∃ v∈us,atI (us.map V.int) n=some (.int v):=by
  have hk:n.toNat < us.length:=by omega
  refine ⟨us.getD n.toNat 0,?_,ints_at h0 h1⟩
  rw [List.getD_eq_getElem?_getD,List.getElem?_eq_getElem hk]
  exact List.getElem_mem hk
def sp_deed:Sp:=fun vs H Q _=>∃ (p t q0:Addr) (ups:List Int) (lab:Str) (c:Int) (ds:List V) (hs:List Hs),vs=[.ref p,.ref t,.ref q0]∧Deck H p c∧0≤c∧c < 700000∧TreeAt H t ups lab∧(∀ x∈lab.cps.toList,Lw x)∧p≠q0∧H q0=some (.lst ds)∧ds.length=hs.length ∧
  ∀ (d:Addr) (dd:Dd) (H':Hp),Kd p (c+8) H H'→H d=none→DdAt H' d dd→DdOk ups hs dd→Q (.ref d) H'
theorem has_deed (D:Df K mg "_law_deed" s_law_deed) (B:Blt7 mg) (G_law_take:Has P w K mg base "_law_take" k ["pool", "many"] sp_take) (G_law_leaves:Has P w K mg base "_law_leaves" k ["tree"] sp_leaves) (G_law_putting:Has P w K mg base "_law_putting" k ["pool", "tree"] sp_putting):Has P w K mg base "_law_deed" (k+1) ["pool", "tree", "stood"] sp_deed:=by
  refine D.has sc_law_deed (fun _ _ _ _ _ _ us hl=>match us,hl with | [_,_,_],_=>rfl) (fun vs H Q E h=>by obtain ⟨p,t,q0,ups,lab,c,ds,hs,rfl,_⟩:=h;rfl) (fun f cdv A outer s H vs Q E hr h=>?_)
  obtain ⟨p,t,q0,ups,lab,c,ds,hs,rfl,dk,c0,c1,tr,low,pq,hq,dl,q⟩:=h
  refine ⟨_,(pss_cons (ps_set (i:=3) sc_law_deed.nd rfl (by first | exact Or.inl rfl | exact Or.inr rfl) (pe_callH G_law_take hr rfl (pa_cons (pv 0) (pa_cons pe_int pa_nil))))
  (pss_cons (ps_if (PW.pt (pw_and (pt_cmpR op_eq (pv 3) pe_int (nomark _)) (pw_and1 (pt_cmpR (op_ne_nil hr.units0) (pv 2) (pe_lst pa_nil) (nomark _)))))
  (pss_one (ps_ret (pe_tup (pa_cons pe_str pa_nil))))
  pss_nil)
  (pss_cons (ps_set (i:=4) sc_law_deed.nd rfl (by first | exact Or.inl rfl | exact Or.inr rfl) (pe_callH G_law_leaves hr rfl (pa_cons (pv 1) pa_nil)))
  (pss_cons (ps_if (PW.pt (pw_and (PW.pt (pw_or (pt_cmpR op_gt (pv 3) pe_int (nomark _)) (pw_or1 (pt_cmpR op_eq (pe_callB call_len_str rfl B.len bt_len (pa_cons (pe_ix ix_tup (pv 1) pe_int (fun _ _=>rfl)) pa_nil)) pe_int (nomark _))))) (pw_and1 (pt_cmpR (op_ne_lst hr.units0) (pv 4) (pe_lst pa_nil) (nomark _)))))
  (pss_one (ps_ret (pe_tup (pa_cons pe_str (pa_cons (pe_ix ix_list (pv 4) (pe_callH G_law_take hr rfl (pa_cons (pv 0) (pa_cons (pe_callB call_len_seq rfl B.len bt_len (pa_cons (pv 4) pa_nil)) pa_nil))) (fun _ _=>rfl)) pa_nil)))))
  pss_nil)
  (pss_one (ps_ret (pe_op op_catT (pe_tup (pa_cons pe_str pa_nil)) (pe_callH G_law_putting hr rfl (pa_cons (pv 0) (pa_cons (pv 1) pa_nil)))))))))),?_⟩
  refine ⟨_,rfl,p,8,c,rfl,dk,by omega,by decide,by decide,fun n H1 n0 n1 k1=>?_⟩
  have tr1:=TreeAt.kd tr ⟨_,dk⟩ k1
  have hq1:=k1.keep _ _ pq.symm hq
  dsimp only [gName]
  refine midR (fun σ HX=>σ=[some (.ref p),some (.ref t),some (.ref q0),some (.int n),none]∧Kd p (c+1) H HX) ?_ fun E nx rt=>?_
  rotate_left
  · refine ⟨_,rfl,rfl,_,rfl,ite2 (fun c7=>?_) (fun c7=>nx _ _ ⟨rfl,k1⟩)⟩
    refine ⟨_,rfl,(by show 0≤sizeLine;decide),fun v hv=>?_⟩
    have vq:q0≠v:=ne_of_none hq1 hv
    refine ⟨q0,v,ds,rfl,rfl,SqL.of (by rw [upd_ne vq];exact hq1),SqL.of upd_same,_,rfl,ite2 (fun ce=>?_) (fun ce=>nx _ _ ⟨rfl,k1.new hv⟩)⟩
    refine ⟨(by show 1≤sizeLine;decide),fun r hr=>rt _ _ (q r .back _ (((k1.mono (by omega)).new hv).new hr) ((k1.new hv).fresh hr) upd_same ?_)⟩
    intro z
    rw [z,List.length_nil] at dl
    have:=List.eq_nil_of_length_eq_zero dl
    rw [this] at ce
    simp at ce
  rintro σ H2 ⟨rfl,k2⟩
  have tr2:=TreeAt.kd tr ⟨_,dk⟩ k2
  refine ⟨_,rfl,t,ups,lab,rfl,tr2,fun r3 H3 s3 f3 h3=>?_⟩
  have k3:=k2.same s3
  have tr3:=tr2.same s3
  obtain ⟨u,ht,hu,ok⟩:=id tr3
  have m60:=ok.most
  have lpos:=ok.pos
  have ll:lab.length=ups.length:=by rw [ok.len];simp [Str.length]
  have lz:lab.length≤sizeLine:=Nat.le_of_lt (small1000 (by omega))
  have lvl:=lvs_len ups (ups.length - 1)
  have r3p:r3≠p:=(k2.deck.ne f3)
  dsimp only [gName]
  refine midR (fun σ HX=>σ=[some (.ref p),some (.ref t),some (.ref q0),some (.int n),some (.ref r3)]∧Kd p (c+1) H HX∧ups.length < 60) ?_ fun E nx rt=>?_
  rotate_left
  · have ee:∀ us:List Int,eqVs (us.map V.int) []=us.isEmpty:=fun us=>by cases us <;> rfl
    have some_:(!eqVs ((lvs ups (ups.length - 1)).map V.int) [])=true→lvs ups (ups.length - 1)≠[]:=fun h z=>by rw [ee,z] at h;simp at h
    have few:¬ (!eqVs ((lvs ups (ups.length - 1)).map V.int) [])=true→ups.length < 60:=fun h=>by
      rw [ee] at h
      rcases Nat.lt_or_ge ups.length 2 with z | z
      · omega
      · have:=lvs_ne ok z
        cases e:lvs ups (ups.length - 1) with
        | nil=>exact absurd e this
        | cons a b=>rw [e] at h;simp at h
    refine ⟨_,rfl,_,_,rfl,rfl,_,rfl,ite2 (fun c4=>?_) (fun c4=>?_)⟩
    · show (if true=true then _ else _)
      refine iteT ⟨_,rfl,(by show 0≤sizeLine;decide),fun v hv=>?_⟩
      have k4:=k3.new (o:=.lst []) hv
      have h4:upd H3 v (.lst []) r3=some (.lst ((lvs ups (ups.length - 1)).map V.int)):=by rw [upd_ne (ne_of_none h3 hv)];exact h3
      refine ⟨r3,v,_,_,rfl,rfl,SqL.of h4,SqL.of upd_same,flat_ints _,rfl,_,rfl,ite2 (fun ce=>?_) (fun ce=>nx _ _ ⟨rfl,k4,few ce⟩)⟩
      show (fun HH=>_) (upd H3 v (.lst []))
      generalize upd H3 v (.lst [])=H4 at k4 h4
      have lne:=some_ ce
      have lp:=List.length_pos_iff.mpr lne
      refine ⟨_,rfl,_,rfl,_,rfl,r3,_,rfl,.inl (SqL.of h4),p,_,c+1,rfl,k4.deck,by omega,by rw [List.length_map];omega,by rw [List.length_map];omega,fun m H5 m0 m1 k5=>?_⟩
      rw [List.length_map] at m1
      obtain ⟨lf,lfm,lfa⟩:=at_ints (us:=lvs ups (ups.length - 1)) m0 m1
      obtain ⟨leaf,rfl,l0,l1,l2⟩:=lvs_mem (Nat.le_refl _) lf lfm
      refine ⟨r3,_,_,_,rfl,rfl,SqL.of (k5.keep _ _ r3p h4),lfa,(by show 2≤sizeLine;decide),fun d hd=>?_⟩
      have K5:=k4.trans k5
      exact rt _ _ (q d (.take leaf) _ ((K5.mono (by omega)).new hd) (K5.fresh hd) upd_same ⟨l0,l1,l2⟩)
    · refine ⟨_,rfl,t,_,_,_,rfl,rfl,SqT.of ht,rfl,lab,rfl,lz,rfl,_,rfl,?_⟩
      show (if _=true then _ else _)
      refine ite2 (fun c60=>?_) (fun c60=>?_)
      rotate_left
      · exact nx _ _ ⟨rfl,k3,by
          rcases Nat.lt_or_ge ups.length 60 with z | z
          · exact z
          · exact absurd (decide_eq_true (by rw [ll,show ups.length=60 by omega];rfl)) c60⟩
      refine ⟨_,rfl,(by show 0≤sizeLine;decide),fun v hv=>?_⟩
      have k4:=k3.new (o:=.lst []) hv
      have h4:upd H3 v (.lst []) r3=some (.lst ((lvs ups (ups.length - 1)).map V.int)):=by rw [upd_ne (ne_of_none h3 hv)];exact h3
      refine ⟨r3,v,_,_,rfl,rfl,SqL.of h4,SqL.of upd_same,flat_ints _,rfl,_,rfl,ite2 (fun ce=>?_) (fun ce=>nx _ _ ⟨rfl,k4,few ce⟩)⟩
      show (fun HH=>_) (upd H3 v (.lst []))
      generalize upd H3 v (.lst [])=H4 at k4 h4
      have lne:=some_ ce
      have lp:=List.length_pos_iff.mpr lne
      refine ⟨_,rfl,_,rfl,_,rfl,r3,_,rfl,.inl (SqL.of h4),p,_,c+1,rfl,k4.deck,by omega,by rw [List.length_map];omega,by rw [List.length_map];omega,fun m H5 m0 m1 k5=>?_⟩
      rw [List.length_map] at m1
      obtain ⟨lf,lfm,lfa⟩:=at_ints (us:=lvs ups (ups.length - 1)) m0 m1
      obtain ⟨leaf,rfl,l0,l1,l2⟩:=lvs_mem (Nat.le_refl _) lf lfm
      refine ⟨r3,_,_,_,rfl,rfl,SqL.of (k5.keep _ _ r3p h4),lfa,(by show 2≤sizeLine;decide),fun d hd=>?_⟩
      have K5:=k4.trans k5
      exact rt _ _ (q d (.take leaf) _ ((K5.mono (by omega)).new hd) (K5.fresh hd) upd_same ⟨l0,l1,l2⟩)
  rintro σ H4 ⟨rfl,k4,h60⟩
  refine ⟨(by show 1≤sizeLine;decide),fun v hv=>?_⟩
  have k5:=k4.new (o:=.tup [.str "put"]) hv
  have h5:upd H4 v (.tup [.str "put"]) v=some (.tup [.str "put"]):=upd_same
  show (fun HH=>_) (upd H4 v (.tup [.str "put"]))
  have vp:v≠p:=k4.deck.ne hv
  generalize upd H4 v (.tup [.str "put"])=H5 at k5 h5
  have tr5:=TreeAt.kd tr ⟨_,dk⟩ k5
  refine ⟨_,rfl,_,rfl,p,t,ups,lab,c+1,rfl,k5.deck,by omega,by omega,tr5,low,fun r above num z H6 po k6 h6 f6=>?_⟩
  refine ⟨v,r,_,_,rfl,rfl,SqT.of (k6.keep _ _ vp h5),SqT.of h6,by simp,(by show 4≤sizeLine;decide),(fun z=>by cases z),fun _ d hd=>?_⟩
  have K6:=k5.trans k6
  exact q d (.put above num z) _ ((K6.mono (by omega)).new hd) (K6.fresh hd) upd_same ⟨po,h60⟩
end
end S73
namespace S73
open PySem L2 W7
def Stp (ups:List Int) (lab:Str) (hs:List Hs) (d:Dd) (ups':List Int) (lab':Str) (hs':List Hs) (n a b:Int):Prop:=match d with
  | .back=>∃ h:Hs,hs=hs'++[h]∧ups'=h.us∧lab'=h.lb∧n=h.n∧a=h.a∧b=h.b
  | .take leaf=>ups'=prune ups leaf∧lab'=cutL lab leaf∧n=(leaf:Int)∧Tri ups lab leaf a b∧hs'=hs++[⟨ups,lab,n,a,b⟩]
  | .put above num z=>∃ bb leaf:Nat,Bgh ups above bb∧lfI ups above bb num=(leaf:Int)∧ups'=grow ups leaf (above:Int)∧lab'=growL lab leaf z∧n=(leaf:Int)∧Tri ups' lab' leaf a b∧hs'=hs++[⟨ups,lab,n,a,b⟩]
theorem DdAt.tu {H H':Hp} {d:Addr} {dd:Dd} (h:DdAt H d dd) (t:Tu H H'):DdAt H' d dd:=by
  cases dd with
  | back=>exact t _ _ h
  | take n=>exact t _ _ h
  | put a n z=>exact t _ _ h
theorem Ke.tu {ls:List Lm} {C x l dx:Addr} {H H':Hp} {t:Addr} {ups:List Int} {lab:Str} {ds:List V} (k:Ke ls x l H H') (S:KpAt C H x dx l t ups lab ds):Tu H H':=fun b xs e=>
  k.keep b _ (fun _ z=>by cases z) (ne_of e S.ob (by intro z;cases z)) (ne_of e S.dl (by intro z;cases z)) e
section
variable {P:Program} {w:World} {K:PySem.W.Frag} {mg:Str→Option Value} {base:Heap} {k:Nat} {C:Addr}
def sp_ask (C:Addr) (ls:List Lm):Sp:=fun vs H Q _=>∃ (x dx l t d:Addr) (ups:List Int) (lab:Str) (ds:List V) (hs:List Hs) (dd:Dd),vs=[.ref x,.ref d]∧KpAt C H x dx l t ups lab ds∧Deeds H ds hs∧DdAt H d dd∧DdOk ups hs dd∧Lams ls H∧ds.length < 8000 ∧
  ∀ (r t':Addr) (ups':List Int) (lab':Str) (ds':List V) (hs':List Hs) (n a b:Int) (H':Hp),KpAt C H' x dx l t' ups' lab' ds'→Ke ls x l H H'→Deeds H' ds' hs'→H' r=some (.tup [.int n,.int a,.int b])→Stp ups lab hs dd ups' lab' hs' n a b→Q (.ref r) H'
theorem has_ask {ls:List Lm} {fP fT fB:Addr} {dP dT dB:FuncData} (D:Df K mg "_law_ask" s_law_ask) (B:Blt7 mg) (T:Tx K mg C) (m_Keeper_put:Meth K C "put" fP) (F_P:Fun K "put" "Keeper.put" s_Keeper_put fP dP) (m_Keeper_take:Meth K C "take" fT) (F_T:Fun K "take" "Keeper.take" s_Keeper_take fT dT) (m_Keeper_back:Meth K C "back" fB) (F_B:Fun K "back" "Keeper.back" s_Keeper_back fB dB)
    (G_Keeper_put:FnOk P w K mg base CX0 k fP dP ["self", "place", "number", "letter"] (sp_put C ls)) (G_Keeper_take:FnOk P w K mg base CX0 k fT dT ["self", "place"] (sp_tk C ls)) (G_Keeper_back:FnOk P w K mg base CX0 k fB dB ["self"] (sp_back C ls)):Has P w K mg base "_law_ask" (k+1) ["keeper", "deed"] (sp_ask C ls):=by
  have b_Keeper_put:=F_P.binds (ps:=["self", "place", "number", "letter"]) (fun _ _ _ _ _ _ us hl=>match us,hl with | [_,_,_,_],_=>rfl)
  have b_Keeper_take:=F_T.binds (ps:=["self", "place"]) (fun _ _ _ _ _ _ us hl=>match us,hl with | [_,_],_=>rfl)
  have b_Keeper_back:=F_B.binds (ps:=["self"]) (fun _ _ _ _ _ _ us hl=>match us,hl with | [_],_=>rfl)
  refine D.has sc_law_ask (fun _ _ _ _ _ _ us hl=>match us,hl with | [_,_],_=>rfl) (fun vs H Q E h=>by obtain ⟨x,dx,l,t,d,ups,lab,ds,hs,dd,rfl,_⟩:=h;rfl) (fun f cdv A outer s H vs Q E hr h=>?_)
  obtain ⟨x,dx,l,t,d,ups,lab,ds,hs,dd,rfl,S,DD,da,dok,L,h8,q⟩:=h
  refine ⟨_,(pss_cons (ps_if (pt_cmpR op_eq (pe_ix ix_tup (pv 1) pe_int (fun _ _=>rfl)) pe_str (nomark _))
  (pss_one (ps_ret (pe_meth (pv 0) T.cl m_Keeper_put G_Keeper_put hr b_Keeper_put .nil pass0 (pa_cons (pe_ix ix_tup (pv 1) pe_int (fun _ _=>rfl)) (pa_cons (pe_ix ix_tup (pv 1) pe_int (fun _ _=>rfl)) (pa_cons (pe_ix ix_tup (pv 1) pe_int (fun _ _=>rfl)) pa_nil))))))
  pss_nil)
  (pss_one (ps_ret (pe_ifExp (pt_cmpR op_eq (pe_ix ix_tup (pv 1) pe_int (fun _ _=>rfl)) pe_str (nomark _)) (pe_meth (pv 0) T.cl m_Keeper_take G_Keeper_take hr b_Keeper_take .nil pass0 (pa_cons (pe_ix ix_tup (pv 1) pe_int (fun _ _=>rfl)) pa_nil)) (pe_meth0 (pv 0) T.cl m_Keeper_back G_Keeper_back hr b_Keeper_back .nil pass0))))),?_⟩
  have fn1:∀ {m:Str},¬ m = "deeds" → ¬ m = "tree" → (flds t l).lookup m=none:=fun {m} a b=>f_no a b
  cases dd with
  | put above num z=>
    have da':H d=some (.tup [.str "put", .int (above:Int),.int (num:Int),.str z]):=da
    obtain ⟨po,h60⟩:=dok
    have ok:=S.tr.choose_spec.2.2
    have ab:=po.ab
    obtain ⟨b,bg⟩:=bgh_ex (ups:=ups) (p:=above) (ups.length - (above+1)) (above+1) (by omega) (by omega) (fun k k0 k1=>by omega)
    obtain ⟨leaf,el,l1,l2⟩:=lf_ok ok bg po.nu
    refine ⟨_,rfl,d,_,_,_,rfl,rfl,SqT.of da',rfl,rfl,_,rfl,iteA (by rfl) ?_⟩
    refine ⟨_,rfl,x,dx,_,rfl,S.ob,f_no (by decide +kernel) (by decide +kernel),_,rfl,d,_,_,_,rfl,rfl,SqT.of da',rfl,_,rfl,d,_,_,_,rfl,rfl,SqT.of da',rfl,_,rfl,d,_,_,_,rfl,rfl,SqT.of da',rfl,x,dx,l,t,ups,lab,z,ds,above,num,b,leaf,rfl,S,by omega,L,po,bg,el,h60,fun H' t2 r e a1 b1 S' he ke tri hr'=>?_⟩
    have tu:=ke.tu S
    exact q r t2 _ _ _ (hs++[⟨ups,lab,leaf,a1,b1⟩]) _ _ _ H' S' ke ((DD.tu tu).push ⟨e,t,r,rfl,he,TreeAt.of S.tr tu,hr'⟩) hr' ⟨b,leaf,bg,el,rfl,rfl,rfl,tri,rfl⟩
  | take n=>
    have da':H d=some (.tup [.str "take", .int (n:Int)]):=da
    obtain ⟨n0,n1',nm⟩:=dok
    refine ⟨_,rfl,d,_,_,_,rfl,rfl,SqT.of da',rfl,rfl,_,rfl,iteB (by decide +kernel) ?_⟩
    refine ⟨_,rfl,d,_,_,_,rfl,rfl,SqT.of da',rfl,rfl,_,rfl,iteA (by rfl) ?_⟩
    refine ⟨_,rfl,x,dx,_,rfl,S.ob,f_no (by decide +kernel) (by decide +kernel),_,rfl,d,_,_,_,rfl,rfl,SqT.of da',rfl,x,dx,l,t,ups,lab,ds,n,rfl,S,by omega,L,n0,n1',nm,fun H' t2 r e a b S' he ke tri hr'=>?_⟩
    have tu:=ke.tu S
    exact q r t2 _ _ _ (hs++[⟨ups,lab,n,a,b⟩]) _ _ _ H' S' ke ((DD.tu tu).push ⟨e,t,r,rfl,he,TreeAt.of S.tr tu,hr'⟩) hr' ⟨rfl,rfl,rfl,tri,rfl⟩
  | back=>
    have da':H d=some (.tup [.str "back"]):=da
    have hne:hs≠[]:=dok
    obtain ⟨hs0,h,rfl⟩:∃ hs0 h,hs=hs0++[h]:=⟨hs.dropLast,hs.getLast hne,(List.dropLast_concat_getLast hne).symm⟩
    obtain ⟨ds0,e0,rfl,D0,e,t0,r,rfl,he,tr0,hr0⟩:=DD.pop
    rw [List.length_append,List.length_singleton] at h8
    refine ⟨_,rfl,d,_,_,_,rfl,rfl,SqT.of da',rfl,rfl,_,rfl,iteB (by decide +kernel) ?_⟩
    refine ⟨_,rfl,d,_,_,_,rfl,rfl,SqT.of da',rfl,rfl,_,rfl,iteB (by decide +kernel) ?_⟩
    refine ⟨_,rfl,x,dx,_,rfl,S.ob,f_no (by decide +kernel) (by decide +kernel),x,dx,l,t,ups,lab,ds0,e,t0,r,rfl,S,he,L,by omega,fun H' ob' dl' ke=>?_⟩
    have tu:=ke.tu S
    exact q r t0 h.us h.lb ds0 hs0 h.n h.a h.b H' ⟨ob',dl',TreeAt.of tr0 tu⟩ ke (D0.tu tu) (tu _ _ hr0) ⟨h,rfl,rfl,rfl,rfl,rfl,rfl⟩
end
end S73
namespace W7
def chf (ups:List Int):Nat→Nat→List Int
  | 0,_=>[]
  | f+1,k=>if ups.getD k 0 < 0 then [] else ups.getD k 0 :: chf ups f (ups.getD k 0).toNat
theorem chf_fuel {ups:List Int} {lab:List Nat} (t:TreeOk ups lab):∀ (f g k:Nat),k < ups.length→k < f→k < g→chf ups f k=chf ups g k
  | 0,_,_,_,h,_=>absurd h (Nat.not_lt_zero _)
  | _+1,0,_,_,_,h=>absurd h (Nat.not_lt_zero _)
  | f+1,g+1,k,hk,hf,hg=>by
    simp only [chf]
    split
    · rfl
    · rename_i h0
      have:=t.lt hk h0
      congr 1
      exact chf_fuel t f g _ (by omega) (by omega) (by omega)
def chn (ups:List Int) (k:Nat):List Int:=chf ups (k+1) k
theorem chn_eq {ups:List Int} {lab:List Nat} (t:TreeOk ups lab) {k:Nat} (hk:k < ups.length):chn ups k=if ups.getD k 0 < 0 then [] else ups.getD k 0 :: chn ups (ups.getD k 0).toNat:=by
  unfold chn
  rw [chf]
  split
  · rfl
  · rename_i h0
    have:=t.lt hk h0
    congr 1
    exact chf_fuel t _ _ _ (by omega) (by omega) (by omega)
def rst (ups:List Int) (k:Int):List Int:=if k < 0 then [] else k :: chn ups k.toNat
theorem chn_rst {ups:List Int} {lab:List Nat} (t:TreeOk ups lab) {k:Nat} (hk:k < ups.length):chn ups k=rst ups (ups.getD k 0):=by
  rw [chn_eq t hk];rfl
theorem rst_step {ups:List Int} {lab:List Nat} (t:TreeOk ups lab) {k:Int} (h0:0≤k) (hk:k < (ups.length:Int)):rst ups k=k :: rst ups (ups.getD k.toNat 0):=by
  have:=chn_rst t (k:=k.toNat) (by omega)
  unfold rst
  rw [if_neg (by omega),this]
  rfl
theorem chn_mem {ups:List Int} {lab:List Nat} (t:TreeOk ups lab):∀ (n k:Nat),k < n→k < ups.length→(chn ups k).length≤k∧∀ v∈chn ups k,0≤v∧v < (k:Int)
  | 0,_,h,_=>absurd h (Nat.not_lt_zero _)
  | n+1,k,hn,hk=>by
    rw [chn_eq t hk]
    split
    · exact ⟨Nat.zero_le _,fun v hv=>nomatch hv⟩
    · rename_i h0
      have lt:=t.lt hk h0
      obtain ⟨i1,i2⟩:=chn_mem t n (ups.getD k 0).toNat (by omega) (by omega)
      refine ⟨by rw [List.length_cons];omega,fun v hv=>?_⟩
      rcases List.mem_cons.mp hv with e | e
      · omega
      · have:=i2 v e;omega
end W7
namespace L2
section
variable {NL:List PySem.Str} {ix:List Nat} {g:TG} {tt:TT} {te:TE} {σ:St} {H1:Hp} {Qs:Hp→Prop} {acc:PySem.Addr}
theorem comp_tupl {K:PySem.W.Frag} {a:PySem.Addr} {xs:List V} (hn:xs.length < 1000) (Pv:Nat→List V→Hp→Prop)
    (hl:∀ i ys H2,Pv i ys H2→SqT K H2 a xs) (hacc:∀ i ys H2,Pv i ys H2→H2 acc=some (.lst ys)∧ys.length≤i) (h0:Pv 0 [] (upd H1 acc (.lst []))) (hstop:∀ ys H2,Pv xs.length ys H2→Qs H2)
    (hturn:∀ i x ys H2,xs[i]?=some x→Pv i ys H2→g x (comp0 NL ix σ) H2 fun σ' H4=>σ'.drop NL.length=ix.map (fun j=>σ.getD j none)∧tt σ' H4 fun b H5=>
      if b=true then te σ' H5 fun v H6=>H6 acc=some (.lst ys)∧Pv (i+1) (ys++[v]) (upd H6 acc (.lst (ys++[v]))) else Pv (i+1) ys H5) :
    ∃ W:Nat→Nat→List V→Hp→Prop,(∃ m,W 0 m [] (upd H1 acc (.lst []))) ∧
    ∀ i m ys H2,W i m ys H2→H2 acc=some (.lst ys)∧ys.length < PySem.sizeLine ∧
      (((Itt K a).stop i H2∧Qs H2)∨((Itt K a).go i H2∧∃ N:List V→Hp→Prop,(∀ ys' H',N ys' H'→∃ m',m' < m∧W (i+1) m' ys' H') ∧
        ∀ x H3,(Itt K a).yld i H2 x H3→g x (comp0 NL ix σ) H3 fun σ' H4=>σ'.drop NL.length=ix.map (fun j=>σ.getD j none)∧tt σ' H4 fun b H5=>
          if b=true then te σ' H5 fun v H6=>H6 acc=some (.lst ys)∧N (ys++[v]) (upd H6 acc (.lst (ys++[v]))) else N ys H5)):=by
  refine comp_by xs.length hn Pv hacc h0 (fun ys H2 hp=>⟨⟨xs,hl _ _ _ hp,Nat.le_refl _⟩,hstop ys H2 hp⟩) fun i ys H2 hi hp=>?_
  have hs:=hl _ _ _ hp
  refine ⟨⟨xs,xs[i],hs,List.getElem?_eq_getElem hi⟩,?_⟩
  rintro x H3 ⟨rfl,hx⟩
  exact hturn i x ys H3 (hx xs hs) hp
end
end L2
namespace S73.R
open PySem L2 W7
theorem bt_all:bootBuiltins "all" = some (.builtin "all"):=by decide +kernel
theorem iteB {c:Bool} {A B:Prop} (h:c=true) (q:A):if c=true then A else B:=by rw [if_pos h];exact q
theorem bq {Q:VK} {b:Bool} {H:Hp} (h:b=true) (q:Q (.bl true) H):Q (.bl b) H:=by rw [h];exact q
theorem in_letters {c:Nat} (h:Lw c):(!(Builtin.Str.occurrences (Str.ofString "abcdefghijklmnopqrstuvwxyz") (mk [c]) 0 (Str.ofString "abcdefghijklmnopqrstuvwxyz").length 1).isEmpty)=true:=by
  have all:∀ c:Nat,c < 123→97≤c→(!(Builtin.Str.occurrences (Str.ofString "abcdefghijklmnopqrstuvwxyz") (mk [c]) 0 (Str.ofString "abcdefghijklmnopqrstuvwxyz").length 1).isEmpty)=true:=by decide +kernel
  unfold Lw at h
  exact all c (by omega) (by omega)
theorem iteN {c:Bool} {A B:Prop} (h:c=false) (q:B):if c=true then A else B:=by rw [h];exact iteF q
section
variable {P:Program} {w:World} {K:PySem.W.Frag} {mg:Str→Option Value} {base:Heap} {k:Nat}
def stepUp (us:List Int) (p:Int):Int:=if us.getD p.toNat 0 > 0 then us.getD p.toNat 0 else 0
def climb (us:List Int):Nat→Int→Int
  | 0,p=>p
  | n+1,p=>stepUp us (climb us n p)
structure GrOk (us:List Int):Prop where
  road:∀ k,0 < k→k < us.length→∃ n,climb us n ((k:Int) - 1)=us.getD k 0
  pos:0 < us.length
  root:us.getD 0 0=-1
  up:∀ k,0 < k→k < us.length→0≤us.getD k 0∧us.getD k 0 < (k:Int)
theorem getD_app {us vs:List Int} {j:Nat}:(us++vs).getD j 0=if j < us.length then us.getD j 0 else vs.getD (j - us.length) 0:=by
  simp only [List.getD_eq_getElem?_getD]
  split
  · rename_i h;rw [List.getElem?_append_left h]
  · rename_i h;rw [List.getElem?_append_right (by omega)]
theorem GrOk.climb {us:List Int} (g:GrOk us) (v:Int) {p:Int} (h0:0≤p) (h1:p < (us.length:Int)):∀ n,climb (us++[v]) n p=climb us n p∧0≤climb us n p∧climb us n p < (us.length:Int)
  | 0=>⟨rfl,h0,h1⟩
  | n+1=>by
    obtain ⟨a,b,c⟩:=g.climb v h0 h1 n
    have lt:(S73.R.climb us n p).toNat < us.length:=by omega
    have e:(us++[v]).getD (S73.R.climb us n p).toNat 0=us.getD (S73.R.climb us n p).toNat 0:=by rw [getD_app,if_pos lt]
    refine ⟨?_,?_⟩
    · show stepUp (us++[v]) (S73.R.climb (us++[v]) n p)=stepUp us (S73.R.climb us n p)
      rw [a];unfold stepUp;rw [e]
    · show 0≤stepUp us (S73.R.climb us n p)∧stepUp us (S73.R.climb us n p) < (us.length:Int)
      have pos:=g.pos
      unfold stepUp
      rcases Nat.eq_zero_or_pos (S73.R.climb us n p).toNat with z | z
      · rw [z,g.root];exact ⟨by decide,by show (0:Int) < _;omega⟩
      · have:=g.up _ z lt
        split <;> omega
theorem GrOk.snoc {us:List Int} (g:GrOk us) {v:Int} (h0:0≤v) (h1:v < (us.length:Int)) (hr:∃ n,S73.R.climb us n ((us.length:Int) - 1)=v):GrOk (us++[v]) where
  road:=fun j hj hl=>by
    rw [List.length_append,List.length_singleton] at hl
    rw [getD_app]
    have pos:=g.pos
    split
    · rename_i h
      obtain ⟨n,e⟩:=g.road j hj h
      exact ⟨n,((g.climb v (by omega) (by omega) n).1).trans e⟩
    · rename_i h
      have e:j=us.length:=by omega
      subst e
      obtain ⟨n,e⟩:=hr
      rw [Nat.sub_self]
      exact ⟨n,((g.climb v (by omega) (by omega) n).1).trans e⟩
  pos:=by rw [List.length_append];have:=g.pos;omega
  root:=by rw [getD_app,if_pos g.pos];exact g.root
  up:=fun j hj hl=>by
    rw [List.length_append,List.length_singleton] at hl
    rw [getD_app]
    split
    · rename_i h;exact g.up j hj h
    · rename_i h
      have e:j=us.length:=by omega
      subst e
      rw [Nat.sub_self]
      exact ⟨h0,h1⟩
theorem GrOk.one:GrOk [-1]:=⟨fun j h0 h1=>by
  have:j < 1:=h1
  omega,by decide,rfl,fun j h0 h1=>by
  have:j < 1:=h1
  omega⟩
theorem gr_tree {us:List Int} {ls:List Nat} (g:GrOk us) (hl:us.length=ls.length) (h60:us.length≤60):TreeOk us (mk ls).cps.toList:=⟨by rw [mk_cps];exact hl,g.pos,h60,g.root,g.up⟩
end
section
variable {ups:List Int} {lab:List Nat}
theorem chn_trans (t:TreeOk ups lab):∀ (n k:Nat),k < n→k < ups.length→∀ v∈chn ups k,∀ w∈chn ups v.toNat,w∈chn ups k
  | 0,_,h,_,_,_,_,_=>absurd h (Nat.not_lt_zero _)
  | n+1,k,hn,hk,v,hv,w,hw=>by
    rw [chn_eq t hk] at hv ⊢
    split at hv
    · cases hv
    · rename_i h0
      rw [if_neg h0]
      have lt:=t.lt hk h0
      rcases List.mem_cons.mp hv with e | e
      · rw [e] at hw;exact List.mem_cons_of_mem _ hw
      · exact List.mem_cons_of_mem _ (chn_trans t n _ (by omega) (by omega) v e w hw)
theorem road_mem (t:TreeOk ups lab) {k:Nat} (hk:k < ups.length):∀ n,climb ups n (k:Int)=(k:Int)∨climb ups n (k:Int)∈chn ups k
  | 0=>.inl rfl
  | n+1=>by
    have step:∀ c:Nat,c < ups.length→stepUp ups (c:Int)=(c:Int)∨stepUp ups (c:Int)∈chn ups c:=fun c hc=>by
      rcases Nat.eq_zero_or_pos c with z | z
      · left;subst z;unfold stepUp;show (if ups.getD 0 0 > 0 then ups.getD 0 0 else 0)=0;rw [t.root];rfl
      · right
        have u:=t.up c z hc
        rw [chn_eq t hc,if_neg (by omega)]
        have e:stepUp ups (c:Int)=ups.getD c 0:=by
          unfold stepUp;rw [Int.toNat_natCast];split <;> omega
        rw [e];exact List.mem_cons_self ..
    show stepUp ups (climb ups n (k:Int))=_∨stepUp ups (climb ups n (k:Int))∈_
    rcases road_mem t hk n with a | a
    · rw [a];exact step k hk
    · have b:=(chn_mem t (k+1) k (by omega) hk).2 _ a
      have e:climb ups n (k:Int)=((climb ups n (k:Int)).toNat:Int):=by omega
      rcases step (climb ups n (k:Int)).toNat (by omega) with s | s
      · rw [← e] at s;rw [s];exact .inr a
      · rw [← e] at s;exact .inr (chn_trans t (k+1) k (by omega) hk _ a _ s)
end
section
variable {P:Program} {w:World} {K:PySem.W.Frag} {mg:Str→Option Value} {base:Heap} {k:Nat}
def sp_all:Sp:=fun vs H Q _=>∃ (u:Addr) (ups more:List Int) (lab:List Nat) (i:Int),vs=[.ref u,.int i]∧H u=some (.tup ((ups++more).map V.int))∧TreeOk ups lab∧0≤i∧i < (ups.length:Int) ∧
  ∀ (r:Addr) (H':Hp),Same H H'→H' r=some (.lst ((chn ups i.toNat).map V.int))→Q (.ref r) H'
theorem ints_atM {us more:List Int} {i:Int} (h0:0≤i) (h1:i < (us.length:Int)):atI ((us++more).map V.int) i=some (.int (us.getD i.toNat 0)):=by
  have:=ints_at (us:=us++more) (i:=i) h0 (by rw [List.length_append];omega)
  rw [getD_app,if_pos (by omega)] at this
  exact this
theorem has_all (D:Df K mg "all_above" s_all_above) (B:Blt7 mg):Has P w K mg base "all_above" (k+1) ["ups", "place"] sp_all:=by
  refine D.has sc_all_above (fun _ _ _ _ _ _ us hl=>match us,hl with | [_,_],_=>rfl) (fun vs H Q E h=>by obtain ⟨u,ups,more,lab,i,rfl,_⟩:=h;rfl) (fun f cdv A outer s H vs Q E hr h=>?_)
  obtain ⟨u,ups,more,lab,i,rfl,hu,ok,i0,i1,q⟩:=h
  refine ⟨_,(pss_cons (ps_set (i:=2) sc_all_above.nd rfl (by first | exact Or.inl rfl | exact Or.inr rfl) (pe_lst pa_nil))
  (pss_cons (ps_set (i:=3) sc_all_above.nd rfl (by first | exact Or.inl rfl | exact Or.inr rfl) (pe_ix ix_tup (pv 0) (pv 1) (fun _ _=>rfl)))
  (pss_cons (ps_while PassesOwn.never (pt_cmpR op_ne (pv 3) (pe_un un_neg pe_int) (nomark _))
  (pss_cons (ps_expr (pe_bm PySem.F.plainAttrs_list PySem.F.slot_list_append PySem.F.type_list_append mt_append (pv 2) (pa_cons (pv 3) pa_nil)))
  (pss_one (ps_set (i:=3) sc_all_above.nd rfl (by first | exact Or.inl rfl | exact Or.inr rfl) (pe_ix ix_tup (pv 0) (pv 3) (fun _ _=>rfl))))))
  (pss_one (ps_ret (pv 2)))))),?_⟩
  have m60:=ok.most
  have hup:∀ j:Int,0≤j→j < (ups.length:Int)→ups.getD j.toNat 0 < j∧-1≤ups.getD j.toNat 0:=fun j h0 h1=>by
    rcases Nat.eq_zero_or_pos j.toNat with z | z
    · have:=ok.root
      rw [z];omega
    · have:=ok.up j.toNat z (by omega)
      omega
  refine ⟨(by show 0≤sizeLine;decide),fun r hr0=>?_⟩
  have ne:u≠r:=ne_of_none hu hr0
  have hu':∀ o,upd H r o u=some (.tup ((ups++more).map V.int)):=fun o=>by rw [upd_ne ne];exact hu
  refine ⟨_,rfl,_,rfl,u,_,_,_,rfl,rfl,SqT.of (hu' _),ints_atM i0 i1,?_⟩
  refine ⟨fun m σ H'=>∃ (l:List Int) (up:Int),σ=[some (.ref u),some (.int i),some (.ref r),some (.int up)]∧H'=upd H r (.lst (l.map V.int))∧l++rst ups up=chn ups i.toNat∧m=(up+1).toNat∧up < (ups.length:Int)∧-1≤up∧l.length+(up+1).toNat≤61,
    ⟨_,[],_,rfl,rfl,(by rw [List.nil_append];exact (chn_rst ok (by omega)).symm),rfl,by have:=hup i i0 i1;omega,(hup i i0 i1).2,by have:=hup i i0 i1;rw [List.length_nil];omega⟩,?_⟩
  rintro m σ H' ⟨l,up,rfl,rfl,hl,rfl,u1,u2,u3⟩
  refine ⟨_,rfl,_,rfl,rfl,_,rfl,?_⟩
  by_cases hc:V.int up=V.int (-1)
  · rw [decide_eq_true hc]
    refine iteF ?_
    have e:up=-1:=by injection hc
    subst e
    refine ⟨_,rfl,q r _ ((Same.refl H).new hr0) ?_⟩
    rw [upd_same,← hl]
    have:rst ups (-1)=[]:=by unfold rst;rw [if_pos (by decide)]
    rw [this,List.append_nil]
  · rw [decide_eq_false hc]
    refine iteT ?_
    have e:up≠-1:=fun z=>hc (by rw [z])
    have g:=hup up (by omega) u1
    refine ⟨_,fun σ' H3 h=>h,?_⟩
    refine ⟨_,rfl,.inl ⟨rfl,_,SqL.of upd_same⟩,_,rfl,r,_,_,rfl,rfl,upd_same,by rw [List.length_map];exact small1000 (by omega),?_⟩
    rw [upd_upd]
    refine ⟨_,rfl,_,rfl,u,_,_,_,rfl,rfl,SqT.of (hu' _),ints_atM (by omega) u1,?_⟩
    refine ⟨(ups.getD up.toNat 0+1).toNat,by omega,l++[up],ups.getD up.toNat 0,rfl,by rw [List.map_append];rfl,?_,rfl,by omega,g.2,by rw [List.length_append,List.length_singleton];omega⟩
    rw [List.append_assoc,← hl,rst_step ok (by omega) u1];rfl
end
theorem trues_all (n:Nat):((List.replicate n true).all id)=true:=by induction n with
  | zero=>rfl
  | succ n ih=>rw [List.replicate_succ,List.all_cons,ih];rfl
theorem trues_snoc (n:Nat):(List.replicate n true).map V.bl++[V.bl true]=(List.replicate (n+1) true).map V.bl:=by rw [List.replicate_succ',List.map_append];rfl
section
variable {P:Program} {w:World} {K:PySem.W.Frag} {mg:Str→Option Value} {base:Heap} {k:Nat}
def sp_whole:Sp:=fun vs H Q _=>∃ i:Int,vs=[.int i]∧Q (.bl true) H
theorem has_whole (D:Df K mg "is_whole" s_is_whole) (B:Blt7 mg):Has P w K mg base "is_whole" (k+1) ["thing"] sp_whole:=by
  refine D.has sc_is_whole (fun _ _ _ _ _ _ us hl=>match us,hl with | [_],_=>rfl) (fun vs H Q E h=>by obtain ⟨x,rfl,_⟩:=h;rfl) (fun f cdv A outer s H vs Q E hr h=>?_)
  obtain ⟨i,rfl,q⟩:=h
  refine ⟨_,(pss_one (ps_ret (pe_and (pe_callB call_isinst rfl B.isinstance bt_isinstance (pa_cons (pv 0) (pa_cons (pe_bltn (v:=.ty "int") rfl B.int_ bt_int rfl) pa_nil))) (pe_one (pe_not (pe_callB call_isinst rfl B.isinstance bt_isinstance (pa_cons (pv 0) (pa_cons (pe_bltn (v:=.ty "bool") rfl B.bool_ bt_bool rfl) pa_nil)))))))),?_⟩
  refine ⟨_,rfl,_,.type "int", "int", true,rfl,.int _,kit_same _ _,_,rfl,iteT ?_⟩
  exact ⟨_,rfl,_,.type "int", "bool", false,rfl,.int _,kit_int_bool _,_,rfl,q⟩
def sp_letters:Sp:=fun vs H Q _=>∃ z:Str,vs=[.str z]∧z.length≤60∧(∀ c∈z.cps.toList,Lw c)∧∀ H',Same H H'→Q (.bl true) H'
theorem has_letters (D:Df K mg "is_letters" s_is_letters) (B:Blt7 mg):Has P w K mg base "is_letters" (k+1) ["thing"] sp_letters:=by
  refine D.has sc_is_letters (fun _ _ _ _ _ _ us hl=>match us,hl with | [_],_=>rfl) (fun vs H Q E h=>by obtain ⟨x,rfl,_⟩:=h;rfl) (fun f cdv A outer s H vs Q E hr h=>?_)
  obtain ⟨z,rfl,zl,low,q⟩:=h
  obtain ⟨u2,h_LETTERS,r_LETTERS⟩:=B.letters
  refine ⟨_,(pss_one (ps_ret (pe_and (pe_callB call_isinst rfl B.isinstance bt_isinstance (pa_cons (pv 0) (pa_cons (pe_bltn (v:=.ty "str") rfl B.str_ bt_str rfl) pa_nil))) (pe_one (pe_callB (call_all rfl) rfl B.all bt_all (pa_cons (pe_comp rfl (pi_str (pv 0)) (NL:=["sign"]) (ix:=[]) (csc (defScope s_is_letters) N_is_letters) (fun cl C s₃ H₃ fp pins=>⟨(pg_name (i:=0) (show List.Nodup (["sign"]:List Str) from by decide +kernel) rfl (by first | exact Or.inl rfl | exact Or.inr rfl)),pifs_nil,(pe_cmpR op_in_str (pv 0) (pe_glob (v:=.str "abcdefghijklmnopqrstuvwxyz") rfl h_LETTERS r_LETTERS) (by with_unfolding_all rfl))⟩)) pa_nil)))))),?_⟩
  refine ⟨_,rfl,_,_,_,true,rfl,.str _,kit_same _ _,_,rfl,iteT ?_⟩
  have zs:z.cps.size≤60:=zl
  refine ⟨_,rfl,_,rfl,fun a1 ha1=>?_⟩
  refine comp_str (by omega) (fun i ys HX=>HX a1=some (.lst ys)∧Same H HX∧ys=(List.replicate i true).map V.bl)
    (fun i ys HX h=>⟨h.1,by rw [h.2.2,List.length_map,List.length_replicate];exact Nat.le_refl _⟩) ⟨upd_same,(Same.refl H).new ha1,rfl⟩ ?_ ?_
  rotate_left
  · rintro i c ys HX hc ⟨g1,g2,rfl⟩
    have hm:c∈z.cps.toList:=by rw [← Array.getElem?_toList] at hc;exact List.mem_of_getElem? hc
    refine ⟨rfl,_,rfl,_,_,rfl,rfl,?_⟩
    have e:(!(Builtin.Str.occurrences (Str.ofString "abcdefghijklmnopqrstuvwxyz") ⟨#[c]⟩ 0 (Str.ofString "abcdefghijklmnopqrstuvwxyz").length 1).isEmpty)=true:=in_letters (low c hm)
    rw [e]
    exact ⟨g1,upd_same,g2.write ha1,trues_snoc i⟩
  rintro ys H1 ⟨g1,s1,rfl⟩
  refine ⟨a1,_,rfl,SqL.of g1,?_⟩
  rw [trues_all]
  exact q _ s1
def sp_labels:Sp:=fun vs H Q _=>∃ z:Str,vs=[.str z]∧1≤z.length∧z.length≤60∧(∀ c∈z.cps.toList,Lw c)∧∀ H',Same H H'→Q (.bl true) H'
theorem has_labels (D:Df K mg "is_labels" s_is_labels) (B:Blt7 mg) (G_is_letters:Has P w K mg base "is_letters" k ["thing"] sp_letters):Has P w K mg base "is_labels" (k+1) ["thing"] sp_labels:=by
  refine D.has sc_is_labels (fun _ _ _ _ _ _ us hl=>match us,hl with | [_],_=>rfl) (fun vs H Q E h=>by obtain ⟨x,rfl,_⟩:=h;rfl) (fun f cdv A outer s H vs Q E hr h=>?_)
  obtain ⟨z,rfl,z1,z60,low,q⟩:=h
  obtain ⟨u1,h_MOST_PLACES,r_MOST_PLACES⟩:=B.most
  refine ⟨_,(pss_one (ps_ret (pe_and (pe_callH G_is_letters hr rfl (pa_cons (pv 0) pa_nil)) (pe_one (pe_chain op_le op_le pe_int (pe_callB call_len_str rfl B.len bt_len (pa_cons (pv 0) pa_nil)) (pe_glob (v:=.int 60) rfl h_MOST_PLACES r_MOST_PLACES)))))),?_⟩
  refine ⟨_,rfl,z,rfl,z60,low,fun H1 s1=>⟨_,rfl,iteT ?_⟩⟩
  refine ⟨_,rfl,_,rfl,Nat.le_of_lt (small1000 (by omega)),_,_,rfl,rfl,_,rfl,?_⟩
  refine iteB (decide_eq_true (by show (1:Int)≤(z.length:Int);omega)) ?_
  refine ⟨_,_,rfl,rfl,?_⟩
  exact bq (decide_eq_true (by show (z.length:Int)≤60;omega)) (q H1 s1)
theorem climb_app {pre:List Int} (g:GrOk pre) (more:List Int) {p:Int} (h0:0≤p) (h1:p < (pre.length:Int)):∀ n,climb (pre++more) n p=climb pre n p∧0≤climb pre n p∧climb pre n p < (pre.length:Int)
  | 0=>⟨rfl,h0,h1⟩
  | n+1=>by
    obtain ⟨a,b,c⟩:=climb_app g more h0 h1 n
    have lt:(climb pre n p).toNat < pre.length:=by omega
    have e:(pre++more).getD (climb pre n p).toNat 0=pre.getD (climb pre n p).toNat 0:=by rw [getD_app,if_pos lt]
    refine ⟨?_,?_⟩
    · show stepUp (pre++more) (climb (pre++more) n p)=stepUp pre (climb pre n p)
      rw [a];unfold stepUp;rw [e]
    · exact (g.climb 0 h0 h1 (n+1)).2
theorem climb_in (us:List Int):∀ (n:Nat) (p:Int),climb us n (stepUp us p)=stepUp us (climb us n p)
  | 0,_=>rfl
  | n+1,p=>by show stepUp us (climb us n (stepUp us p))=_;rw [climb_in us n p];rfl
theorem chn_climb {ups:List Int} {lab:List Nat} (t:TreeOk ups lab):∀ (f j:Nat),j < f→j < ups.length→∀ v∈chn ups j,∃ n,climb ups n (j:Int)=v
  | 0,j,h,_,_,_=>absurd h (Nat.not_lt_zero _)
  | f+1,j,h,hj,v,hv=>by
    rw [chn_eq t hj] at hv
    split at hv
    · cases hv
    · rename_i h0
      have lt:=t.lt hj h0
      have st:stepUp ups (j:Int)=ups.getD j 0:=by unfold stepUp;rw [Int.toNat_natCast];split <;> omega
      rcases List.mem_cons.mp hv with e | e
      · exact ⟨1,by show stepUp ups (j:Int)=v;rw [st,e]⟩
      · obtain ⟨n,en⟩:=chn_climb t f _ (by omega) (by omega) v e
        refine ⟨n+1,?_⟩
        show stepUp ups (climb ups n (j:Int))=v
        rw [← climb_in,st,← en]
        congr 1
        omega
theorem gr_lab {us:List Int} (g:GrOk us) (h60:us.length≤60):TreeOk us (List.replicate us.length 97):=by
  have:=gr_tree (ls:=List.replicate us.length 97) g (by rw [List.length_replicate]) h60
  exact this
theorem gr_next {pre:List Int} {v:Int} (g:GrOk pre) (h60:pre.length≤60):(v=(pre.length:Int) - 1∨v∈chn pre (pre.length - 1)) ↔ GrOk (pre++[v]):=by
  have pos:=g.pos
  have t:=gr_lab g h60
  constructor
  · rintro (e | e)
    · exact g.snoc (by omega) (by omega) ⟨0,e.symm⟩
    · have m:=(chn_mem t (pre.length - 1+1) (pre.length - 1) (by omega) (by omega)).2 v e
      obtain ⟨n,en⟩:=chn_climb t (pre.length - 1+1) (pre.length - 1) (by omega) (by omega) v e
      exact g.snoc (by omega) (by omega) ⟨n,by rw [← en];congr 1;omega⟩
  · intro g2
    obtain ⟨n,en⟩:=g2.road pre.length pos (by rw [List.length_append];show _ < _+1;omega)
    rw [(climb_app g [v] (by omega) (by omega) n).1,getD_app,if_neg (by omega),Nat.sub_self] at en
    have en:climb pre n ((pre.length:Int) - 1)=v:=en
    rcases road_mem t (k:=pre.length - 1) (by omega) n with m | m
    · left
      rw [show (((pre.length - 1:Nat)):Int)=(pre.length:Int) - 1 by omega,en] at m
      exact m
    · right
      rw [show (((pre.length - 1:Nat)):Int)=(pre.length:Int) - 1 by omega,en] at m
      exact m
theorem gr_pre {pre more:List Int} {v:Int} (g:GrOk pre) (g2:GrOk (pre++v :: more)):GrOk (pre++[v]):=by
  have pos:=g.pos
  have lt:pre.length < (pre++v :: more).length:=by rw [List.length_append,List.length_cons];omega
  have u:=g2.up pre.length pos lt
  obtain ⟨n,en⟩:=g2.road pre.length pos lt
  rw [(climb_app g (v :: more) (by omega) (by omega) n).1,getD_app,if_neg (by omega),Nat.sub_self] at en
  rw [getD_app,if_neg (by omega),Nat.sub_self] at u
  exact g.snoc u.1 u.2 ⟨n,en⟩
end
theorem inV_int (v:Int) (l:List Int):inV (V.int v) (l.map V.int)=decide (v∈l):=by
  unfold inV
  rw [Bool.eq_iff_iff,List.any_eq_true,decide_eq_true_eq]
  constructor
  · rintro ⟨y,hy,e⟩
    obtain ⟨n,hn,rfl⟩:=List.mem_map.mp hy
    have:n=v:=by simpa [eqV] using e
    rw [← this];exact hn
  · intro h
    exact ⟨V.int v,List.mem_map.mpr ⟨v,h,rfl⟩,by simp [eqV]⟩
section
variable {P:Program} {w:World} {K:PySem.W.Frag} {mg:Str→Option Value} {base:Heap} {k:Nat}
def sp_ups:Sp:=fun vs H Q _=>∃ (u:Addr) (us:List Int),vs=[.ref u,.int (us.length:Int)]∧H u=some (.tup (us.map V.int))∧1≤us.length∧us.length≤60∧∀ (b:Bool) (H':Hp),Same H H'→(b=true ↔ GrOk us)→Q (.bl b) H'
theorem has_ups (D:Df K mg "is_ups" s_is_ups) (B:Blt7 mg) (G_is_whole:Has P w K mg base "is_whole" k ["thing"] sp_whole) (G_all_above:Has P w K mg base "all_above" k ["ups", "place"] sp_all):Has P w K mg base "is_ups" (k+1) ["thing", "many"] sp_ups:=by
  refine D.has sc_is_ups (fun _ _ _ _ _ _ us hl=>match us,hl with | [_,_],_=>rfl) (fun vs H Q E h=>by obtain ⟨u,us,rfl,_⟩:=h;rfl) (fun f cdv A outer s H vs Q E hr h=>?_)
  obtain ⟨u,us,rfl,hu,l1,l60,q⟩:=h
  refine ⟨_,(pss_cons (ps_if (PW.pt (pw_or (pt_not (pt_val (pe_callB call_isinst rfl B.isinstance bt_isinstance (pa_cons (pv 0) (pa_cons (pe_bltn (v:=.ty "tuple") rfl B.tuple_ bt_tuple rfl) pa_nil))))) (pw_or1 (pt_cmpR op_ne (pe_callB call_len_seq rfl B.len bt_len (pa_cons (pv 0) pa_nil)) (pv 1) (nomark _)))))
  (pss_one (ps_ret pe_bl))
  pss_nil)
  (pss_cons (ps_if (PW.pt (pw_or (pt_not (pt_val (pe_callB (call_all rfl) rfl B.all bt_all (pa_cons (pe_comp rfl (pi_tup (pv 0)) (NL:=["up"]) (ix:=[]) (csc (defScope s_is_ups) N_is_ups) (fun cl C s₃ H₃ fp pins=>⟨(pg_name (i:=0) (show List.Nodup (["up"]:List Str) from by decide +kernel) rfl (by first | exact Or.inl rfl | exact Or.inr rfl)),pifs_nil,(pe_callH G_is_whole hr rfl (pa_cons (pv 0) pa_nil))⟩)) pa_nil)))) (pw_or1 (pt_cmpR op_ne (pe_ix ix_tup (pv 0) pe_int (fun _ _=>rfl)) (pe_un un_neg pe_int) (nomark _)))))
  (pss_one (ps_ret pe_bl))
  pss_nil)
  (pss_cons (ps_for PassesOwn.never rfl (pi_range2 rfl B.range (pa_cons pe_int (pa_cons (pv 1) pa_nil))) (pg_name (i:=2) sc_is_ups.nd rfl (by first | exact Or.inl rfl | exact Or.inr rfl))
  (pss_cons (ps_set (i:=3) sc_is_ups.nd rfl (by first | exact Or.inl rfl | exact Or.inr rfl) (pe_op op_sub (pv 2) pe_int))
  (pss_one (ps_if (PW.pt (pw_and (pt_cmpR op_ne (pe_ix ix_tup (pv 0) (pv 2) (fun _ _=>rfl)) (pv 3) (nomark _)) (pw_and1 (pt_cmpR op_notIn_seq (pe_ix ix_tup (pv 0) (pv 2) (fun _ _=>rfl)) (pe_callH G_all_above hr rfl (pa_cons (pv 0) (pa_cons (pv 3) pa_nil))) (by with_unfolding_all rfl)))))
  (pss_one (ps_ret pe_bl))
  pss_nil))))
  (pss_one (ps_ret pe_bl))))),?_⟩
  refine ⟨_,rfl,_,_,_,true,rfl,.tup hu,kit_same _ _,_,rfl,iteF ?_⟩
  refine ⟨_,rfl,u,_,rfl,.inr (SqT.of hu),_,rfl,rfl,_,rfl,iteN (by rw [List.length_map];simp) ?_⟩
  refine ⟨_,rfl,u,rfl,⟨_,SqT.of hu⟩,fun a1 ha1'=>?_⟩
  refine comp_tupl (K:=K) (a:=u) (xs:=us.map V.int) (by rw [List.length_map];omega) (fun i ys HX=>HX a1=some (.lst ys)∧Same H HX∧ys=(List.replicate i true).map V.bl)
    (fun i ys HX h=>SqT.of (h.2.1 _ _ hu)) (fun i ys HX h=>⟨h.1,by rw [h.2.2,List.length_map,List.length_replicate];exact Nat.le_refl _⟩) ⟨upd_same,(Same.refl H).new ha1',rfl⟩ ?_ ?_
  rotate_left
  · rintro i x ys HX hx ⟨g1,g2,rfl⟩
    obtain ⟨n,hn,rfl⟩:=List.mem_map.mp (List.mem_of_getElem? hx)
    exact ⟨rfl,_,rfl,n,rfl,g1,upd_same,g2.write ha1',trues_snoc i⟩
  rintro ys H2 ⟨g1,s2,rfl⟩
  refine ⟨a1,_,rfl,SqL.of g1,_,rfl,?_⟩
  rw [trues_all]
  refine iteF ?_
  have hu2:=s2 _ _ hu
  refine ⟨_,rfl,u,_,_,_,rfl,rfl,SqT.of hu2,ints_at (by decide) (by omega),_,rfl,rfl,_,rfl,?_⟩
  by_cases r0:us.getD 0 0=-1
  · refine iteN (by show (!decide (V.int (us.getD 0 0)=V.int (-1)))=false;rw [r0];simp) ?_
    refine ⟨_,rfl,_,_,rfl,⟨by decide,by decide,by omega,by omega⟩,?_⟩
    have en:(((us.length:Nat):Int) - 1).toNat=us.length - 1:=by omega
    rw [en]
    refine for_range (lo:=1) (n:=us.length - 1) (fun i σ H'=>∃ o2 o3:Option V,σ=[some (.ref u),some (.int (us.length:Int)),o2,o3]∧Same H2 H'∧GrOk (us.take (1+i))) ⟨none,none,rfl,Same.refl H2,?_⟩ ?_ ?_
    · have:us.take (1+0)=[-1]:=by
        cases us with
        | nil=>simp at l1
        | cons x r=>rw [show x=-1 from r0];simp
      rw [this];exact GrOk.one
    · rintro i σ H' hi ⟨o2,o3,rfl,sX,g⟩
      have huX:=sX _ _ hu2
      have pl:1+i < us.length:=by omega
      have tk:(us.take (1+i)).length=1+i:=by rw [List.length_take];omega
      have ex:us=us.take (1+i)++us.getD (1+i) 0 :: us.drop (1+i+1):=by
        conv=>lhs;rw [← List.take_append_drop (1+i) us]
        rw [List.drop_eq_getElem_cons pl,List.getD_eq_getElem?_getD,List.getElem?_eq_getElem pl];rfl
      have nx:us.take (1+(i+1))=us.take (1+i)++[us.getD (1+i) 0]:=by
        rw [show 1+(i+1)=(1+i)+1 by omega,List.take_succ,List.getElem?_eq_getElem pl,List.getD_eq_getElem?_getD,List.getElem?_eq_getElem pl];rfl
      have iff:=gr_next (v:=us.getD (1+i) 0) g (by omega)
      rw [tk] at iff
      have at1:=ints_at (us:=us) (i:=1+(i:Int)) (by omega) (by omega)
      rw [show (1+(i:Int)).toNat=1+i by omega] at at1
      refine ⟨_,rfl,_,_,rfl,rfl,?_⟩
      refine ⟨_,rfl,_,rfl,u,_,_,_,rfl,rfl,SqT.of huX,at1,_,rfl,rfl,_,rfl,?_⟩
      by_cases c1:us.getD (1+i) 0=1+(i:Int) - 1
      · refine iteN (by rw [decide_eq_true (by rw [c1])];rfl) ?_
        refine iteF ?_
        refine ⟨_,_,rfl,sX,?_⟩
        rw [nx]
        exact iff.mp (.inl (by omega))
      · refine iteB (by rw [decide_eq_false (fun e=>c1 (by injection e))];rfl) ?_
        refine ⟨_,rfl,_,rfl,u,_,_,_,rfl,rfl,SqT.of huX,at1,_,rfl,_,rfl,u,us.take (1+i),us.drop (1+i),List.replicate (us.take (1+i)).length 97,1+(i:Int) - 1,rfl,by rw [List.take_append_drop];exact huX,gr_lab g (by omega),by omega,by omega,fun r H3 s3 hr3=>?_⟩
        refine ⟨r,_,rfl,.inl (SqL.of hr3),rfl,flat_ints _,_,rfl,?_⟩
        rw [inV_int,show (1+(i:Int) - 1).toNat=1+i - 1 by omega]
        by_cases c2:us.getD (1+i) 0∈chn (us.take (1+i)) (1+i - 1)
        · rw [decide_eq_true c2]
          refine iteF ?_
          refine ⟨_,_,rfl,sX.trans s3,?_⟩
          rw [nx]
          exact iff.mp (.inr c2)
        · rw [decide_eq_false c2]
          refine iteT ?_
          refine q false _ ((s2.trans sX).trans s3) ⟨(fun e=>by cases e),fun gg=>?_⟩
          rw [ex] at gg
          rcases iff.mpr (gr_pre g gg) with z | z
          · exact absurd (by omega) c1
          · exact absurd z c2
    · rintro σ H' ⟨o2,o3,rfl,sX,g⟩
      have:us.take (1+(us.length - 1))=us:=List.take_of_length_le (by omega)
      rw [this] at g
      exact q true _ (s2.trans sX) ⟨fun _=>g,fun _=>rfl⟩
  · refine iteB (by show (!decide (V.int (us.getD 0 0)=V.int (-1)))=true;rw [decide_eq_false (fun e=>r0 (by injection e))];rfl) ?_
    exact q false _ s2 ⟨(fun e=>by cases e),fun g=>absurd g.root r0⟩
def sp_ist:Sp:=fun vs H Q _=>∃ (t u:Addr) (us:List Int) (z:Str),vs=[.ref t]∧H t=some (.tup [.ref u,.str z])∧H u=some (.tup (us.map V.int))∧us.length=z.length∧1≤us.length∧us.length≤60∧(∀ c∈z.cps.toList,Lw c)∧∀ (b:Bool) (H':Hp),Same H H'→(b=true ↔ GrOk us)→Q (.bl b) H'
theorem has_ist (D:Df K mg "is_tree" s_is_tree) (B:Blt7 mg) (G_is_labels:Has P w K mg base "is_labels" k ["thing"] sp_labels) (G_is_ups:Has P w K mg base "is_ups" k ["thing", "many"] sp_ups):Has P w K mg base "is_tree" (k+1) ["thing"] sp_ist:=by
  refine D.has sc_is_tree (fun _ _ _ _ _ _ us hl=>match us,hl with | [_],_=>rfl) (fun vs H Q E h=>by obtain ⟨t,u,us,z,rfl,_⟩:=h;rfl) (fun f cdv A outer s H vs Q E hr h=>?_)
  obtain ⟨t,u,us,z,rfl,ht,hu,lz,l1,l60,low,q⟩:=h
  refine ⟨_,(pss_cons (ps_if (PW.pt (pw_or (pt_not (pt_val (pe_callB call_isinst rfl B.isinstance bt_isinstance (pa_cons (pv 0) (pa_cons (pe_bltn (v:=.ty "tuple") rfl B.tuple_ bt_tuple rfl) pa_nil))))) (pw_or1 (pt_cmpR op_ne (pe_callB call_len_seq rfl B.len bt_len (pa_cons (pv 0) pa_nil)) pe_int (nomark _)))))
  (pss_one (ps_ret pe_bl))
  pss_nil)
  (pss_one (ps_ret (pe_and (pe_callH G_is_labels hr rfl (pa_cons (pe_ix ix_tup (pv 0) pe_int (fun _ _=>rfl)) pa_nil)) (pe_one (pe_callH G_is_ups hr rfl (pa_cons (pe_ix ix_tup (pv 0) pe_int (fun _ _=>rfl)) (pa_cons (pe_callB call_len_str rfl B.len bt_len (pa_cons (pe_ix ix_tup (pv 0) pe_int (fun _ _=>rfl)) pa_nil)) pa_nil)))))))),?_⟩
  refine ⟨_,rfl,_,_,_,true,rfl,.tup ht,kit_same _ _,_,rfl,iteF ?_⟩
  refine ⟨_,rfl,t,_,rfl,.inr (SqT.of ht),rfl,_,rfl,iteF ?_⟩
  refine ⟨_,rfl,t,_,_,_,rfl,rfl,SqT.of ht,rfl,z,rfl,by omega,by omega,low,fun H1 s1=>⟨_,rfl,iteT ?_⟩⟩
  have ht1:=s1 _ _ ht
  refine ⟨_,rfl,t,_,_,_,rfl,rfl,SqT.of ht1,rfl,_,rfl,t,_,_,_,rfl,rfl,SqT.of ht1,rfl,z,rfl,Nat.le_of_lt (small1000 (by omega)),u,us,by rw [lz];rfl,s1 _ _ hu,l1,l60,fun b H2 s2 hb=>q b H2 (s1.trans s2) hb⟩
end
end S73.R
namespace S73
open PySem L2 W7
theorem climb_R (us:List Int):∀ (n:Nat) (p:Int),R.climb us n p=climb us n p
  | 0,_=>rfl
  | n+1,p=>by
    show R.stepUp us (R.climb us n p)=stepUp us (climb us n p)
    rw [climb_R us n p];rfl
theorem climb_add (us:List Int) (n:Nat) (p:Int):∀ m,climb us (m+n) p=climb us m (climb us n p)
  | 0=>by rw [Nat.zero_add];rfl
  | m+1=>by
    rw [show m+1+n=(m+n)+1 by omega]
    show stepUp us (climb us (m+n) p)=stepUp us (climb us m (climb us n p))
    rw [climb_add us n p m]
theorem climb_one (us:List Int) (n:Nat) (p:Int):climb us (n+1) p=climb us n (stepUp us p):=climb_add us 1 p n
section
variable {ups:List Int} {lab:List Nat}
theorem climb_rng (t:TreeOk ups lab) {p:Int} (h0:0≤p) (h1:p < (ups.length:Int)):∀ n,0≤climb ups n p∧climb ups n p≤p
  | 0=>⟨h0,Int.le_refl _⟩
  | n+1=>by
    obtain ⟨a,b⟩:=climb_rng t h0 h1 n
    show 0≤stepUp ups (climb ups n p)∧stepUp ups (climb ups n p)≤p
    unfold stepUp
    rcases Nat.eq_zero_or_pos (climb ups n p).toNat with z | z
    · rw [z,t.root,if_neg (by decide)];exact ⟨Int.le_refl _,h0⟩
    · have:=t.up _ z (by omega)
      split <;> omega
theorem step_up (t:TreeOk ups lab) {k:Nat} (h0:0 < k) (h1:k < ups.length):stepUp ups (k:Int)=ups.getD k 0:=by
  have:=t.up k h0 h1
  unfold stepUp
  rw [Int.toNat_natCast]
  split <;> omega
theorem climb_prune {leaf:Nat} (t:TreeOk ups lab) (l0:0 < leaf) (l1:leaf < ups.length) (hl:(leaf:Int) ∉ ups) {p:Int} (p0:0≤p) (p1:p < (ups.length:Int)) (pn:p≠(leaf:Int)):∀ n,climb (prune ups leaf) n (pr leaf p)=pr leaf (climb ups n p)∧climb ups n p≠(leaf:Int)
  | 0=>⟨rfl,pn⟩
  | n+1=>by
    obtain ⟨e,ne⟩:=climb_prune t l0 l1 hl p0 p1 pn n
    obtain ⟨c0,c1⟩:=climb_rng t p0 p1 n
    show stepUp (prune ups leaf) (climb (prune ups leaf) n (pr leaf p))=pr leaf (stepUp ups (climb ups n p))∧stepUp ups (climb ups n p)≠(leaf:Int)
    rw [e]
    generalize climb ups n p=q at ne c0 c1
    have q1:q < (ups.length:Int):=by omega
    have at1:(prune ups leaf).getD (pr leaf q).toNat 0=pr leaf (ups.getD q.toNat 0):=by
      rw [prune_at]
      congr 2
      unfold pr
      split
      · rw [if_neg (by omega)];omega
      · rw [if_pos (by omega)]
    have un:ups.getD q.toNat 0≠(leaf:Int):=fun e=>hl (by rw [← e];exact mem_getD (by omega))
    unfold stepUp
    rw [at1]
    generalize ups.getD q.toNat 0=u at un
    unfold pr
    constructor <;> (repeat' split) <;> omega
theorem GrOk.prune {leaf:Nat} (g:GrOk ups) (t:TreeOk ups lab) {lab':List Nat} (t':TreeOk (prune ups leaf) lab') (l0:0 < leaf) (l1:leaf < ups.length) (hl:(leaf:Int) ∉ ups):GrOk (prune ups leaf) where
  pos:=t'.pos
  root:=t'.root
  up:=t'.up
  road:=fun k k0 k1=>by
    rw [prune_len l1] at k1
    rw [prune_at]
    rcases Nat.lt_trichotomy k leaf with c | c | c
    · rw [if_pos c]
      obtain ⟨n,e⟩:=g.road k k0 (by omega)
      have:=(climb_prune t l0 l1 hl (p:=(k:Int) - 1) (by omega) (by omega) (by omega) n).1
      rw [e] at this
      refine ⟨n,?_⟩
      rw [← this]
      congr 1
      unfold pr;rw [if_neg (by omega)]
    · subst c
      rw [if_neg (by omega)]
      obtain ⟨n,e⟩:=g.road (k+1) (by omega) (by omega)
      obtain ⟨n',e'⟩:=g.road k k0 l1
      have ek:((k+1:Nat):Int) - 1=(k:Int):=by omega
      rw [ek] at e
      cases n with
      | zero=>
        exfalso
        refine hl ?_
        have e2:(k:Int)=ups.getD (k+1) 0:=e
        rw [e2];exact mem_getD (by omega)
      | succ m=>
        rw [climb_one,step_up t k0 l1,← e',← climb_add] at e
        have:=(climb_prune t l0 l1 hl (p:=(k:Int) - 1) (by omega) (by omega) (by omega) (m+n')).1
        rw [e] at this
        refine ⟨m+n',?_⟩
        rw [← this]
        congr 1
        unfold pr;rw [if_neg (by omega)]
    · rw [if_neg (by omega)]
      obtain ⟨n,e⟩:=g.road (k+1) (by omega) (by omega)
      have ek:((k+1:Nat):Int) - 1=(k:Int):=by omega
      rw [ek] at e
      have:=(climb_prune t l0 l1 hl (p:=(k:Int)) (by omega) (by omega) (by omega) n).1
      rw [e] at this
      refine ⟨n,?_⟩
      rw [← this]
      congr 1
      unfold pr;rw [if_pos (by omega)]
theorem climb_grow {leaf:Nat} {above:Int} (t:TreeOk ups lab) (l0:0 < leaf) (l1:leaf≤ups.length) {p:Int} (p0:0≤p) (p1:p < (ups.length:Int)):∀ n,climb (grow ups leaf above) n (gr leaf p)=gr leaf (climb ups n p)
  | 0=>rfl
  | n+1=>by
    have e:=climb_grow (above:=above) t l0 l1 p0 p1 n
    obtain ⟨c0,c1⟩:=climb_rng t p0 p1 n
    show stepUp (grow ups leaf above) (climb (grow ups leaf above) n (gr leaf p))=gr leaf (stepUp ups (climb ups n p))
    rw [e]
    generalize climb ups n p=q at c0 c1
    have at1:(grow ups leaf above).getD (gr leaf q).toNat 0=gr leaf (ups.getD q.toNat 0):=by
      rw [grow_at l0 l1]
      by_cases c:(leaf:Int)≤q
      · have e2:(gr leaf q).toNat=q.toNat+1:=by unfold gr;rw [if_pos c];omega
        rw [e2,if_neg (by omega),if_neg (by omega),Nat.add_sub_cancel]
      · have e2:(gr leaf q).toNat=q.toNat:=by unfold gr;rw [if_neg c]
        rw [e2,if_pos (by omega)]
    unfold stepUp
    rw [at1]
    generalize ups.getD q.toNat 0=u
    unfold gr
    (repeat' split) <;> omega
theorem anc_bgh {p b:Nat} (t:TreeOk ups lab) (h:Bgh ups p b):∀ (f j:Nat),j < f→p≤j→j < b→∃ n,climb ups n (j:Int)=(p:Int)
  | 0,j,h,_,_=>absurd h (Nat.not_lt_zero _)
  | f+1,j,hj,h0,h1=>by
    rcases Nat.eq_or_lt_of_le h0 with e | e
    · exact ⟨0,by rw [e];rfl⟩
    · have a1:=h.all j e h1
      have hi:=h.hi
      have a2:=t.up j (by omega) (by omega)
      obtain ⟨n,en⟩:=anc_bgh t h f (ups.getD j 0).toNat (by omega) (by omega) (by omega)
      refine ⟨n+1,?_⟩
      rw [climb_one,step_up t (by omega) (by omega),← en]
      congr 1
      omega
theorem lf_road {p b num leaf:Nat} (g:GrOk ups) (t:TreeOk ups lab) (h:Bgh ups p b) (hn:num≤(bn ups (p:Int) ups.length).length) (e:lfI ups p b num=(leaf:Int)):p < leaf∧leaf≤ups.length∧(∃ n,climb ups n ((leaf:Int) - 1)=(p:Int))∧(leaf < ups.length→∃ n,climb ups n (p:Int)=ups.getD leaf 0):=by
  have hm:lfI ups p b num∈bn ups (p:Int) ups.length++[(b:Int)]:=by
    unfold lfI
    rw [List.getD_eq_getElem?_getD,List.getElem?_eq_getElem (by rw [List.length_append,List.length_singleton];omega)]
    exact List.getElem_mem _
  rw [e] at hm
  rcases List.mem_append.mp hm with m | m
  · obtain ⟨k,ek,k0,_⟩:=bn_mem t _ m
    have ek':leaf=k:=by omega
    subst ek'
    unfold bn at m
    obtain ⟨k2,hk2,e2⟩:=List.mem_map.mp m
    obtain ⟨h1,h2⟩:=List.mem_filter.mp hk2
    have e3:k2=leaf:=by omega
    subst e3
    have h1:=List.mem_range.mp h1
    have h2:=of_decide_eq_true h2
    obtain ⟨n,en⟩:=g.road k2 (by omega) h1
    exact ⟨k0,by omega,⟨n,by rw [en,h2]⟩,fun _=>⟨0,h2.symm⟩⟩
  · have eb:leaf=b:=by have:=List.mem_singleton.mp m;omega
    subst eb
    have lo:=h.lo
    have hi:=h.hi
    obtain ⟨m',em⟩:=anc_bgh t h leaf (leaf - 1) (by omega) (by omega) (by omega)
    have el:((leaf - 1:Nat):Int)=(leaf:Int) - 1:=by omega
    rw [el] at em
    refine ⟨lo,hi,⟨m',em⟩,fun hl=>?_⟩
    have out:=h.out hl
    obtain ⟨n,en⟩:=g.road leaf (by omega) hl
    rcases Nat.lt_or_ge m' n with c | c
    · refine ⟨n - m',?_⟩
      rw [← em,← climb_add,show n - m'+m'=n by omega];exact en
    · exfalso
      have z:=climb_add ups n ((leaf:Int) - 1) (m' - n)
      rw [show m' - n+n=m' by omega,em,en] at z
      have up:=t.up leaf (by omega) hl
      have:=(climb_rng t (p:=ups.getD leaf 0) up.1 (by omega) (m' - n)).2
      omega
theorem GrOk.grow {leaf p b num:Nat} (g:GrOk ups) (t:TreeOk ups lab) {lab':List Nat} (t':TreeOk (grow ups leaf (p:Int)) lab') (h:Bgh ups p b) (hn:num≤(bn ups (p:Int) ups.length).length) (e:lfI ups p b num=(leaf:Int)):GrOk (grow ups leaf (p:Int)):=by
  obtain ⟨pl,ll,⟨nA,hA⟩,hB⟩:=lf_road g t h hn e
  have l0:0 < leaf:=by omega
  refine ⟨fun k k0 k1=>?_,t'.pos,t'.root,t'.up⟩
  rw [grow_len ll] at k1
  have fix:∀ x:Int,x < (leaf:Int)→gr leaf x=x:=fun x hx=>by unfold gr;rw [if_neg (by omega)]
  rw [grow_at l0 ll]
  rcases Nat.lt_trichotomy k leaf with c | c | c
  · rw [if_pos c]
    obtain ⟨n,en⟩:=g.road k k0 (by omega)
    refine ⟨n,?_⟩
    rw [← en,← climb_grow t l0 ll (by omega) (by omega),fix _ (by omega)]
  · rw [if_neg (by omega),if_pos c]
    refine ⟨nA,?_⟩
    rw [c]
    have:=climb_grow (above:=(p:Int)) t l0 ll (p:=(leaf:Int) - 1) (by omega) (by omega) nA
    rw [hA,fix _ (by omega),fix _ (by omega)] at this
    exact this
  · rw [if_neg (by omega),if_neg (by omega)]
    rcases Nat.eq_or_lt_of_le (show leaf+1≤k from c) with d | d
    · subst d
      obtain ⟨n,en⟩:=hB (by omega)
      refine ⟨n+1,?_⟩
      rw [Nat.add_sub_cancel,show ((leaf+1:Nat):Int) - 1=(leaf:Int) by omega,climb_one]
      have su:stepUp (S73.grow ups leaf (p:Int)) (leaf:Int)=(p:Int):=by
        have at1:(S73.grow ups leaf (p:Int)).getD leaf 0=(p:Int):=by rw [grow_at l0 ll,if_neg (by omega),if_pos rfl]
        unfold stepUp
        rw [Int.toNat_natCast,at1]
        split <;> omega
      rw [su,← en,← climb_grow (above:=(p:Int)) t l0 ll (by omega) (by omega),fix _ (by omega)]
    · obtain ⟨n,en⟩:=g.road (k - 1) (by omega) (by omega)
      refine ⟨n,?_⟩
      have ek:((k - 1:Nat):Int) - 1=(k:Int) - 1 - 1:=by omega
      rw [ek] at en
      rw [← en,← climb_grow (above:=(p:Int)) t l0 ll (by omega) (by omega)]
      congr 1
      unfold gr;rw [if_pos (by omega)];omega
theorem gr_R (g:GrOk ups):R.GrOk ups:=⟨fun k h0 h1=>by obtain ⟨n,e⟩:=g.road k h0 h1;exact ⟨n,by rw [climb_R];exact e⟩,g.pos,g.root,g.up⟩
end
end S73
namespace S73
open PySem L2 W7
section
variable {P:Program} {w:World} {K:PySem.W.Frag} {mg:Str→Option Value} {base:Heap} {k:Nat}
theorem lt_asymm':∀ x y:List Nat,¬ y < x→¬ x < y→x=y:=fun x y h1 h2=>List.le_antisymm (List.not_lt.mp h1) (List.not_lt.mp h2)
theorem rising_pair:∀ (l:List Str) (p:Str),PyProof.Rows.risingS p l=true→(p :: l).Pairwise (fun a b=>¬ b.cps.toList < a.cps.toList)
  | [],p,_=>List.pairwise_singleton _ _
  | x :: r,p,h=>by
    have h':(!PySem.Spec.ltCps x.cps.toList p.cps.toList && PyProof.Rows.risingS x r)=true:=h
    obtain ⟨h1,h2⟩:=(Bool.and_eq_true _ _).mp h'
    have ih:=rising_pair r x h2
    have px:¬ x.cps.toList < p.cps.toList:=by
      rw [PyProof.Rows.ltCps_eq] at h1
      simpa using h1
    refine List.pairwise_cons.mpr ⟨fun y hy=>?_,ih⟩
    rcases List.mem_cons.mp hy with rfl | hy
    · exact px
    · have xy:=List.rel_of_pairwise_cons ih hy
      exact List.not_lt.mpr (List.le_trans (List.not_lt.mp px) (List.not_lt.mp xy))
theorem sorted_pair:∀ ss:List Str,PyProof.Rows.sortedS ss=true→ss.Pairwise (fun a b=>¬ b.cps.toList < a.cps.toList)
  | [],_=>List.Pairwise.nil
  | x :: r,h=>rising_pair r x h
theorem sorted_one {a b:List Str} (h1:PyProof.Rows.sortedS a=true) (h2:PyProof.Rows.sortedS b=true) (p:a.Perm b):a=b:=
  p.eq_of_pairwise (fun x y _ _ l1 l2=>by
    have:=lt_asymm' x.cps.toList y.cps.toList l1 l2
    exact str_ext this) (sorted_pair a h1) (sorted_pair b h2)
def wordsS (ups:List Int) (lab:Str):List Str:=(List.range ups.length).map fun j=>mk (W ups lab.cps.toList j)
theorem wordsV_eq (ups:List Int) (lab:Str):wordsV ups lab ups.length=(wordsS ups lab).map V.str:=by
  unfold wordsV wordsS
  rw [List.map_map];rfl
theorem wordsS_len (ups:List Int) (lab:Str):(wordsS ups lab).length=ups.length:=by simp [wordsS]
theorem wordsS_le {ups:List Int} {lab:Str} (ok:TreeOk ups lab.cps.toList):∀ z∈wordsS ups lab,z.length≤60:=by
  intro z hz
  obtain ⟨j,hj,rfl⟩:=List.mem_map.mp hz
  have hj':=List.mem_range.mp hj
  have:=W_len ok (j+1) j (by omega) hj'
  have:=ok.most
  rw [mk_len];omega
theorem cps_len (z:Str):z.cps.toList.length=z.length:=by simp [Str.length]
def sp_alike:Sp:=fun vs H Q _=>∃ one other:Str,vs=[.str one,.str other]∧one.length≤60∧other.length≤60∧Q (.int ((W16.lcp one.cps.toList other.cps.toList:Nat):Int)) H
theorem has_alike (D:Df K mg "many_alike" s_many_alike) (B:Blt7 mg):Has P w K mg base "many_alike" (k+1) ["one", "other"] sp_alike:=by
  refine D.has sc_many_alike (fun _ _ _ _ _ _ us hl=>match us,hl with | [_,_],_=>rfl) (fun vs H Q E h=>by obtain ⟨one,other,rfl,_⟩:=h;rfl) (fun f cdv A outer s H vs Q E hr h=>?_)
  obtain ⟨one,other,rfl,l1,l2,q⟩:=h
  refine ⟨_,(pss_cons (ps_set (i:=2) sc_many_alike.nd rfl (by first | exact Or.inl rfl | exact Or.inr rfl) pe_int)
  (pss_cons (ps_while PassesOwn.never (PW.pt (pw_and (pt_cmpR op_lt (pv 2) (pe_callB (call_min2 rfl) rfl B.min bt_min (pa_cons (pe_callB call_len_str rfl B.len bt_len (pa_cons (pv 0) pa_nil)) (pa_cons (pe_callB call_len_str rfl B.len bt_len (pa_cons (pv 1) pa_nil)) pa_nil))) (nomark _)) (pw_and1 (pt_cmpR op_eq (pe_ix ix_str (pv 0) (pv 2) (fun _ _=>rfl)) (pe_ix ix_str (pv 1) (pv 2) (fun _ _=>rfl)) (nomark _)))))
  (pss_one (ps_aug (i:=2) sc_many_alike.nd rfl (by first | exact Or.inl rfl | exact Or.inr rfl) pe_int ip_add)))
  (pss_one (ps_ret (pv 2))))),?_⟩
  have z1:one.length≤sizeLine:=Nat.le_of_lt (small1000 (by omega))
  have z2:other.length≤sizeLine:=Nat.le_of_lt (small1000 (by omega))
  have c1:=cps_len one
  have c2:=cps_len other
  refine ⟨fun m σ H'=>H'=H∧∃ n:Nat,σ=[some (.str one),some (.str other),some (.int n)]∧m=60 - n∧n≤one.length∧n≤other.length∧∀ j,j < n→one.cps.toList[j]?=other.cps.toList[j]?,⟨_,rfl,0,rfl,rfl,Nat.zero_le _,Nat.zero_le _,fun j hj=>absurd hj (Nat.not_lt_zero _)⟩,?_⟩
  rintro m σ H' ⟨rfl,n,rfl,rfl,n1,n2,ne⟩
  refine ⟨_,rfl,_,rfl,_,rfl,z1,_,rfl,_,rfl,z2,_,_,rfl,_,_,rfl,rfl,_,rfl,ite2 (fun c=>?_) (fun c=>?_)⟩
  · have c':=of_decide_eq_true c
    have lt1:n < one.length:=by split at c' <;> omega
    have lt2:n < other.length:=by split at c' <;> omega
    have g1:one.cps.toList[n]?=some (one.cps.toList[n]'(by omega)):=List.getElem?_eq_getElem _
    have g2:other.cps.toList[n]?=some (other.cps.toList[n]'(by omega)):=List.getElem?_eq_getElem _
    refine ⟨_,rfl,_,rfl,_,_,_,rfl,rfl,z1,atI_nat g1,_,rfl,_,rfl,_,_,_,rfl,rfl,z2,atI_nat g2,rfl,_,rfl,?_⟩
    by_cases hc:V.str ⟨#[one.cps.toList[n]'(by omega)]⟩=V.str ⟨#[other.cps.toList[n]'(by omega)]⟩
    · rw [decide_eq_true hc]
      refine iteT ?_
      refine ⟨_,fun σ' H3 h=>h,?_⟩
      refine ⟨_,rfl,_,_,rfl,rfl,?_⟩
      have e:one.cps.toList[n]'(by omega)=other.cps.toList[n]'(by omega):=by
        injection hc with hc;injection hc with hc;injection hc with hc;injection hc
      refine ⟨60 - (n+1),by omega,rfl,n+1,rfl,rfl,by omega,by omega,fun j hj=>?_⟩
      rcases Nat.lt_or_ge j n with h | h
      · exact ne j h
      · have:j=n:=by omega
        subst this
        rw [g1,g2,e]
    · rw [decide_eq_false hc]
      refine iteF ?_
      have e:W16.lcp one.cps.toList other.cps.toList=n:=W16.lcp_stop _ _ n (by omega) (by omega) ne (fun _ _ he=>hc (by rw [g1,g2] at he;rw [Option.some.inj he]))
      rw [e] at q
      exact ⟨_,rfl,q⟩
  · have c':=of_decide_eq_false (Bool.eq_false_iff.mpr c)
    have e:W16.lcp one.cps.toList other.cps.toList=n:=W16.lcp_stop _ _ n (by omega) (by omega) ne (fun h1 h2=>by split at c' <;> omega)
    rw [e] at q
    exact ⟨_,rfl,q⟩
def alk (ss:List Str) (i:Nat):Int:=if i=0 then 0 else ((W16.lcp (ss.getD (i - 1) Str.empty).cps.toList (ss.getD i Str.empty).cps.toList:Nat):Int)
def als (ss:List Str) (n:Nat):List Int:=(List.range n).map (alk ss)
theorem als_len (ss:List Str) (n:Nat):((als ss n).map V.int).length=n:=by simp [als]
theorem strs_at {ss:List Str} {i:Nat} (h:i < ss.length):atI (ss.map V.str) (i:Int)=some (.str (ss.getD i Str.empty)):=atI_nat (by rw [List.getElem?_map,List.getElem?_eq_getElem h,List.getD_eq_getElem?_getD,List.getElem?_eq_getElem h];rfl)
def sp_alikes:Sp:=fun vs H Q _=>∃ (t:Addr) (ups:List Int) (lab:Str),vs=[.ref t]∧TreeAt H t ups lab ∧
  ∀ (ss:List Str) (r:Addr) (H':Hp),ss.Perm (wordsS ups lab)→PyProof.Rows.sortedS ss=true→Same H H'→H r=none→H' r=some (.lst ((als ss ss.length).map V.int))→Q (.ref r) H'
theorem has_alikes (D:Df K mg "alike_of" s_alike_of) (B:Blt7 mg) (G_words_of:Has P w K mg base "words_of" k ["tree"] sp_words) (G_many_alike:Has P w K mg base "many_alike" k ["one", "other"] sp_alike):Has P w K mg base "alike_of" (k+1) ["tree"] sp_alikes:=by
  refine D.has sc_alike_of (fun _ _ _ _ _ _ us hl=>match us,hl with | [_],_=>rfl) (fun vs H Q E h=>by obtain ⟨t,ups,lab,rfl,_⟩:=h;rfl) (fun f cdv A outer s H vs Q E hr h=>?_)
  obtain ⟨t,ups,lab,rfl,tr,q⟩:=h
  refine ⟨_,(pss_cons (ps_set (i:=1) sc_alike_of.nd rfl (by first | exact Or.inl rfl | exact Or.inr rfl) (pe_callB call_sorted_strs rfl B.sorted bt_sorted (pa_cons (pe_callH G_words_of hr rfl (pa_cons (pv 0) pa_nil)) pa_nil)))
  (pss_one (ps_ret (pe_op op_cat (pe_lst (pa_cons pe_int pa_nil)) (pe_comp rfl (pi_range2 rfl B.range (pa_cons pe_int (pa_cons (pe_callB call_len_seq rfl B.len bt_len (pa_cons (pv 1) pa_nil)) pa_nil))) (NL:=["rank"]) (ix:=[1]) (csc (defScope s_alike_of) N_alike_of) (fun cl C s₃ H₃ fp pins=>⟨(pg_name (i:=0) (show List.Nodup (["rank", "words"]:List Str) from by decide +kernel) rfl (by first | exact Or.inl rfl | exact Or.inr rfl)),pifs_nil,(pe_callH G_many_alike hr rfl (pa_cons (pe_ix (ix_listK K) (pv 1) (pe_op op_sub (pv 0) pe_int) (fun _ _=>rfl)) (pa_cons (pe_ix (ix_listK K) (pv 1) (pv 0) (fun _ _=>rfl)) pa_nil)))⟩)))))),?_⟩
  obtain ⟨_,_,_,ok⟩:=id tr
  have m60:=ok.most
  have lpos:=ok.pos
  have wl:=wordsS_len ups lab
  have wle:=wordsS_le ok
  refine ⟨_,rfl,t,ups,lab,rfl,tr,fun r H1 s1 hr1=>?_⟩
  rw [wordsV_eq] at hr1
  refine ⟨r,_,rfl,SqL.of hr1,by omega,fun ss r2 hp hs hr2=>?_⟩
  have sl:=hp.length_eq
  have s2:Same H (upd H1 r2 (.lst (ss.map V.str))):=s1.new hr2
  have h22:upd H1 r2 (.lst (ss.map V.str)) r2=some (.lst (ss.map V.str)):=upd_same
  generalize upd H1 r2 (.lst (ss.map V.str))=H2 at s2 h22
  have sle:∀ i,(ss.getD i Str.empty).length≤60:=fun i=>by
    rw [List.getD_eq_getElem?_getD]
    cases e:ss[i]? with
    | none=>show Str.empty.length≤60;decide
    | some z=>exact wle z (hp.mem_iff.mp (List.mem_of_getElem? e))
  refine ⟨(by show 1≤sizeLine;decide),fun r3 hr3=>?_⟩
  have s3:Same H2 (upd H2 r3 (.lst [.int 0])):=(Same.refl H2).new hr3
  have h33:upd H2 r3 (.lst [.int 0]) r3=some (.lst [.int 0]):=upd_same
  generalize upd H2 r3 (.lst [.int 0])=H3 at s3 h33
  refine ⟨_,rfl,r2,_,rfl,.inl (SqL.of (s3 _ _ h22)),_,_,rfl,?_,fun acc hacc=>?_⟩
  · rw [List.length_map];omega
  have eN:((((ss.map V.str).length:Nat):Int) - 1).toNat=ss.length - 1:=by rw [List.length_map];omega
  refine comp_by ((((ss.map V.str).length:Nat):Int) - 1).toNat (by omega) (fun i ys H'=>H' acc=some (.lst ys)∧ys=((List.range i).map fun j=>alk ss (j+1)).map V.int∧Same H3 H')
    (fun i ys H' h=>⟨h.1,by rw [h.2.1,List.length_map,List.length_map,List.length_range];exact Nat.le_refl _⟩) ⟨upd_same,rfl,(Same.refl H3).new hacc⟩ ?_ ?_
  · rintro ys H4 ⟨g1,rfl,g3⟩
    refine ⟨Nat.le_refl _,?_⟩
    rw [eN] at g1
    refine ⟨r3,acc,_,_,rfl,rfl,g3 _ _ h33,g1,?_,fun r4 hr4=>?_⟩
    · rw [List.length_map,List.length_map,List.length_range]
      show 1+_≤sizeLine
      exact Nat.le_of_lt (small1000 (by omega))
    refine q ss r4 _ hp hs (((s2.trans s3).trans g3).new hr4) (((s2.trans s3).trans g3).free hr4) ?_
    rw [upd_same]
    have e:als ss ss.length=0 :: ((List.range (ss.length - 1)).map fun j=>alk ss (j+1)):=by
      obtain ⟨m,em⟩:∃ m,ss.length=m+1:=⟨ss.length - 1,by omega⟩
      unfold als
      rw [em,List.range_succ_eq_map,List.map_cons,List.map_map]
      rfl
    rw [e];rfl
  · rintro i ys H4 hi ⟨g1,rfl,g3⟩
    rw [eN] at hi
    refine ⟨by rw [eN];exact hi,?_⟩
    rintro x H5 ⟨rfl,rfl⟩
    refine ⟨rfl,?_⟩
    have a1:atI (ss.map V.str) (1+(i:Int) - 1)=some (.str (ss.getD i Str.empty)):=by rw [show 1+(i:Int) - 1=(i:Int) by omega];exact strs_at (by omega)
    have a2:atI (ss.map V.str) (1+(i:Int))=some (.str (ss.getD (i+1) Str.empty)):=by rw [show 1+(i:Int)=((i+1:Nat):Int) by omega];exact strs_at (by omega)
    have hl2:=g3 _ _ (s3 _ _ h22)
    refine ⟨_,rfl,_,rfl,_,_,rfl,rfl,r2,_,_,_,rfl,rfl,SqL.of hl2,a1,_,rfl,_,rfl,r2,_,_,_,rfl,rfl,SqL.of hl2,a2,_,_,rfl,sle i,sle (i+1),g1,upd_same,?_,g3.write hacc⟩
    rw [List.range_succ,List.map_append,List.map_append];rfl
def cs (ss:List Str):List (List Nat):=ss.map fun z=>z.cps.toList
theorem cs_getD (ss:List Str) (i:Nat):(cs ss).getD i []=(ss.getD i Str.empty).cps.toList:=by
  unfold cs
  rw [List.getD_eq_getElem?_getD,List.getD_eq_getElem?_getD,List.getElem?_map]
  cases ss[i]? <;> rfl
theorem alk_lc (ss:List Str) (i:Nat):alk ss i=((W18.lc (cs ss) i:Nat):Int):=by
  unfold alk W18.lc
  by_cases h:i=0
  · rw [if_pos h,if_pos h];rfl
  · rw [if_neg h,if_neg h,cs_getD,cs_getD]
def unlS (ss:List Str) (n:Nat):List Str:=(W18.unl (cs ss) n).map mk
theorem unl_len {ss:List Str} (h:∀ i,(ss.getD i Str.empty).length≤60):∀ n,(unlS ss n).length≤60 * n
  | 0=>Nat.le_refl _
  | n+1=>by
    have ih:=unl_len h n
    unfold unlS at ih ⊢
    rw [W18.unl_succ,List.map_append,List.length_append]
    have:((W18.blk ((cs ss).getD n []) (W18.lc (cs ss) n)).map mk).length≤60:=by
      rw [List.length_map];unfold W18.blk;rw [List.length_map,List.length_range,cs_getD,cps_len]
      have:=h n
      omega
    omega
def sp_unlike:Sp:=fun vs H Q _=>∃ (t:Addr) (ups:List Int) (lab:Str),vs=[.ref t]∧TreeAt H t ups lab ∧
  ∀ (ss:List Str) (r:Addr) (H':Hp),ss.Perm (wordsS ups lab)→PyProof.Rows.sortedS ss=true→Same H H'→H r=none→H' r=some (.lst ((unlS ss ss.length).map V.str))→Q (.ref r) H'
theorem has_unlike (D:Df K mg "unlike_words" s_unlike_words) (B:Blt7 mg) (G_words_of:Has P w K mg base "words_of" k ["tree"] sp_words) (G_alike_of:Has P w K mg base "alike_of" k ["tree"] sp_alikes):Has P w K mg base "unlike_words" (k+1) ["tree"] sp_unlike:=by
  refine D.has sc_unlike_words (fun _ _ _ _ _ _ us hl=>match us,hl with | [_],_=>rfl) (fun vs H Q E h=>by obtain ⟨t,ups,lab,rfl,_⟩:=h;rfl) (fun f cdv A outer s H vs Q E hr h=>?_)
  obtain ⟨t,ups,lab,rfl,tr,q⟩:=h
  refine ⟨_,(pss_cons (ps_set (i:=1) sc_unlike_words.nd rfl (by first | exact Or.inl rfl | exact Or.inr rfl) (pe_lst pa_nil))
  (pss_cons (ps_for PassesOwn.never rfl (pi_zip rfl B.zip (pa_cons (pe_callB call_sorted_strs rfl B.sorted bt_sorted (pa_cons (pe_callH G_words_of hr rfl (pa_cons (pv 0) pa_nil)) pa_nil)) (pa_cons (pe_callH G_alike_of hr rfl (pa_cons (pv 0) pa_nil)) pa_nil))) (pg_tup rfl (pgs_cons (pg_name (i:=2) sc_unlike_words.nd rfl (by first | exact Or.inl rfl | exact Or.inr rfl)) (pgs_cons (pg_name (i:=3) sc_unlike_words.nd rfl (by first | exact Or.inl rfl | exact Or.inr rfl)) pgs_nil)))
  (pss_one (ps_expr (pe_bm PySem.F.plainAttrs_list PySem.F.slot_list_extend PySem.F.type_list_extend mt_extend (pv 1) (pa_cons (pe_comp rfl (pi_range2 rfl B.range (pa_cons (pe_op op_add (pv 3) pe_int) (pa_cons (pe_op op_add (pe_callB call_len_str rfl B.len bt_len (pa_cons (pv 2) pa_nil)) pe_int) pa_nil))) (NL:=["length"]) (ix:=[2]) (csc (defScope s_unlike_words) N_unlike_words) (fun cl C s₃ H₃ fp pins=>⟨(pg_name (i:=0) (show List.Nodup (["length", "word"]:List Str) from by decide +kernel) rfl (by first | exact Or.inl rfl | exact Or.inr rfl)),pifs_nil,(pe_slice sl_str (pv 1) po_none (po_some (pv 0)))⟩)) pa_nil)))))
  (pss_one (ps_ret (pv 1))))),?_⟩
  obtain ⟨_,_,_,ok⟩:=id tr
  have m60:=ok.most
  have lpos:=ok.pos
  have wl:=wordsS_len ups lab
  have wle:=wordsS_le ok
  refine ⟨(by show 0≤sizeLine;decide),fun r hr0=>?_⟩
  have s0:Same H (upd H r (.lst [])):=(Same.refl H).new hr0
  have h0:upd H r (.lst []) r=some (.lst []):=upd_same
  generalize upd H r (.lst [])=H0 at s0 h0
  refine ⟨_,rfl,t,ups,lab,rfl,tr.same s0,fun r1 H1 s1 hr1=>?_⟩
  rw [wordsV_eq] at hr1
  refine ⟨r1,_,rfl,SqL.of hr1,by omega,fun ss r2 hp hs hr2=>?_⟩
  have sl:=hp.length_eq
  have s2:Same H1 (upd H1 r2 (.lst (ss.map V.str))):=(Same.refl H1).new hr2
  have h2:upd H1 r2 (.lst (ss.map V.str)) r2=some (.lst (ss.map V.str)):=upd_same
  generalize upd H1 r2 (.lst (ss.map V.str))=H2 at s2 h2
  refine ⟨_,rfl,t,ups,lab,rfl,tr.same ((s0.trans s1).trans s2),fun ss' r3 H3 hp' hs' s3 hf3 hr3=>?_⟩
  have es:ss'=ss:=sorted_one hs' hs (hp'.trans hp.symm)
  subst es
  have sle:∀ i,(ss'.getD i Str.empty).length≤60:=fun i=>by
    rw [List.getD_eq_getElem?_getD]
    cases e:ss'[i]? with
    | none=>show Str.empty.length≤60;decide
    | some z=>exact wle z (hp.mem_iff.mp (List.mem_of_getElem? e))
  have h23:=s3 _ _ h2
  have s03:Same H0 H3:=(s1.trans s2).trans s3
  refine ⟨.lst r2,.lst r3,rfl,⟨_,.inl h23⟩,⟨_,.inl hr3⟩,?_⟩
  have hlen:(ss'.map V.str).length=((als ss' ss'.length).map V.int).length:=by rw [als_len,List.length_map]
  have n2:r2≠r:=(ne_of_none (s1 _ _ h0) hr2).symm
  have n3:r3≠r:=(ne_of_none (s2 _ _ (s1 _ _ h0)) hf3).symm
  refine for_zip (xs:=ss'.map V.str) (ys:=(als ss' ss'.length).map V.int) (fun i σ H'=>∃ o2 o3:Option V,σ=[some (.ref t),some (.ref r),o2,o3]∧Same H H'∧H' r=some (.lst ((unlS ss' i).map V.str))∧H' r2=some (.lst (ss'.map V.str))∧H' r3=some (.lst ((als ss' ss'.length).map V.int)))
    ⟨none,none,rfl,s0.trans s03,s03 _ _ h0,h23,hr3⟩ hlen (fun i σ H' hi h=>by obtain ⟨o2,o3,_,_,_,a,b⟩:=h;exact ⟨.inl a,.inl b⟩) ?_ ?_
  · rintro i x y σ H' p hx hy ⟨o2,o3,rfl,sX,g1,g2,g3⟩ hp0
    have hi:i < ss'.length:=by
      have:=(List.getElem?_eq_some_iff.mp hx).1
      rw [List.length_map] at this;exact this
    obtain rfl:x=.str (ss'.getD i Str.empty):=by
      rw [List.getElem?_map,List.getElem?_eq_getElem hi] at hx
      rw [List.getD_eq_getElem?_getD,List.getElem?_eq_getElem hi]
      exact (Option.some.inj hx).symm
    obtain rfl:y=.int (alk ss' i):=by
      unfold als at hy
      rw [List.getElem?_map,List.getElem?_map,List.getElem?_range hi] at hy
      exact (Option.some.inj hy).symm
    have za:=sle i
    have hstep:unlS ss' (i+1)=unlS ss' i++(W18.blk (ss'.getD i Str.empty).cps.toList (W18.lc (cs ss') i)).map mk:=by
      unfold unlS;rw [W18.unl_succ,List.map_append,cs_getD]
    have ul:=unl_len sle i
    rw [alk_lc]
    have ab:W18.lc (cs ss') i≤60:=by
      unfold W18.lc
      split
      · exact Nat.zero_le _
      · have:=(W16.lcp_le ((cs ss').getD (i - 1) []) ((cs ss').getD i [])).2
        have e2:=congrArg List.length (cs_getD ss' i)
        rw [cps_len] at e2
        omega
    generalize W18.lc (cs ss') i=a at hstep ab
    generalize ss'.getD i Str.empty=z at za hstep
    have cz:=cps_len z
    have z1:z.length≤sizeLine:=Nat.le_of_lt (small1000 (by omega))
    refine ⟨p,_,rfl,SqT.of upd_same,rfl,_,_,rfl,_,_,rfl,rfl,?_⟩
    have sP:Same H' (upd H' p (.tup [.str z,.int (a:Int)])):=(Same.refl H').new hp0
    generalize upd H' p (.tup [.str z,.int (a:Int)])=HP at sP
    have g1P:=sP _ _ g1
    refine ⟨_,rfl,.inl ⟨rfl,_,SqL.of g1P⟩,_,rfl,_,_,rfl,rfl,_,rfl,z,rfl,z1,_,_,rfl,rfl,_,_,rfl,⟨by omega,by omega,by omega,by omega⟩,fun acc hacc=>?_⟩
    have eN:((z.length:Int)+1 - ((a:Int)+1)).toNat=z.cps.toList.length - a:=by rw [cz];omega
    refine comp_by ((z.length:Int)+1 - ((a:Int)+1)).toNat (by rw [eN];omega) (fun j ys HX=>HX acc=some (.lst ys)∧ys=((List.range j).map fun n=>mk (z.cps.toList.take (a+1+n))).map V.str∧Same HP HX)
      (fun j ys HX h=>⟨h.1,by rw [h.2.1,List.length_map,List.length_map,List.length_range];exact Nat.le_refl _⟩) ⟨upd_same,rfl,(Same.refl HP).new hacc⟩ ?_ ?_
    · rintro ys HX ⟨e1,rfl,e3⟩
      refine ⟨Nat.le_refl _,?_⟩
      rw [eN] at e1
      have eb:(List.range (z.cps.toList.length - a)).map (fun n=>mk (z.cps.toList.take (a+1+n)))=(W18.blk z.cps.toList a).map mk:=by
        unfold W18.blk;rw [List.map_map];rfl
      rw [eb] at e1
      refine ⟨r,acc,_,_,rfl,rfl,e3 _ _ g1P,e1,?_,?_⟩
      · rw [List.length_map,List.length_map,List.length_map]
        have:(W18.blk z.cps.toList a).length≤60:=by unfold W18.blk;rw [List.length_map,List.length_range];omega
        exact Nat.le_of_lt (small10000 (by omega))
      · have sA:=sX.trans (sP.trans e3)
        refine ⟨_,_,rfl,sA.write hr0,?_,?_,?_⟩
        · rw [upd_same,hstep,List.map_append]
        · rw [upd_ne n2];exact e3 _ _ (sP _ _ g2)
        · rw [upd_ne n3];exact e3 _ _ (sP _ _ g3)
    · rintro j ys HX hj ⟨e1,rfl,e3⟩
      refine ⟨hj,?_⟩
      rintro x HY ⟨rfl,rfl⟩
      refine ⟨rfl,?_⟩
      have ce:cutS z none (some ((a:Int)+1+(j:Int)))=mk (z.cps.toList.take (a+1+j)):=by
        apply str_ext
        rw [show (a:Int)+1+(j:Int)=((a+1+j:Nat):Int) by omega,cutS_to];rfl
      refine ⟨_,rfl,_,rfl,_,rfl,z,rfl,z1,e1,upd_same,?_,e3.write hacc⟩
      rw [List.range_succ,List.map_append,List.map_append,ce];rfl
  · rintro σ H' ⟨o2,o3,rfl,sX,g1,g2,g3⟩
    rw [List.length_map] at g1
    exact ⟨_,rfl,q ss' r H' hp hs sX hr0 g1⟩
end
end S73
namespace S73
open PySem L2 W7
section
variable {P:Program} {w:World} {K:PySem.W.Frag} {mg:Str→Option Value} {base:Heap} {k:Nat}
theorem cutS_le (z:Str) (lo hi:Option Int):(cutS z lo hi).length≤z.length:=by
  rw [← cps_len,← cps_len]
  unfold cutS
  show (List.toArray _).toList.length≤_
  rw [List.toList_toArray,List.length_take,List.length_drop]
  omega
theorem app_len (x y:Str):(x++y).length=x.length+y.length:=by
  have:=congrArg List.length (app_list x y)
  rw [List.length_append] at this
  simpa [Str.length] using this
def sp_seek:Sp:=fun vs H Q _=>∃ (p t:Addr) (ups:List Int) (lab:Str) (c:Int),vs=[.ref p,.ref t]∧Deck H p c∧0≤c∧c < 900000∧TreeAt H t ups lab∧∀ (z:Str) (H':Hp),z.length≤200→Kd p (c+5) H H'→Q (.str z) H'
theorem has_seek (D:Df K mg "_law_seek" s_law_seek) (B:Blt7 mg) (G_law_take:Has P w K mg base "_law_take" k ["pool", "many"] sp_take) (G_law_word:Has P w K mg base "_law_word" k ["tree", "place"] sp_lword):Has P w K mg base "_law_seek" (k+1) ["pool", "tree"] sp_seek:=by
  refine D.has sc_law_seek (fun _ _ _ _ _ _ us hl=>match us,hl with | [_,_],_=>rfl) (fun vs H Q E h=>by obtain ⟨p,t,ups,lab,c,rfl,_⟩:=h;rfl) (fun f cdv A outer s H vs Q E hr h=>?_)
  obtain ⟨p,t,ups,lab,c,rfl,dk,c0,c9,tr,q⟩:=h
  refine ⟨_,(pss_cons (ps_set (i:=2) sc_law_seek.nd rfl (by first | exact Or.inl rfl | exact Or.inr rfl) (pe_callH G_law_take hr rfl (pa_cons (pv 0) (pa_cons pe_int pa_nil))))
  (pss_cons (ps_set (i:=3) sc_law_seek.nd rfl (by first | exact Or.inl rfl | exact Or.inr rfl) (pe_callH G_law_word hr rfl (pa_cons (pv 1) (pa_cons (pe_callH G_law_take hr rfl (pa_cons (pv 0) (pa_cons (pe_callB call_len_str rfl B.len bt_len (pa_cons (pe_ix ix_tup (pv 1) pe_int (fun _ _=>rfl)) pa_nil)) pa_nil))) pa_nil))))
  (pss_cons (ps_set (i:=4) sc_law_seek.nd rfl (by first | exact Or.inl rfl | exact Or.inr rfl) (pe_callH G_law_take hr rfl (pa_cons (pv 0) (pa_cons (pe_callB call_len_str rfl B.len bt_len (pa_cons (pv 3) pa_nil)) pa_nil))))
  (pss_cons (ps_set (i:=5) sc_law_seek.nd rfl (by first | exact Or.inl rfl | exact Or.inr rfl) (pe_op op_add (pv 4) (pe_callH G_law_take hr rfl (pa_cons (pv 0) (pa_cons (pe_op op_add (pe_op op_sub (pe_callB call_len_str rfl B.len bt_len (pa_cons (pv 3) pa_nil)) (pv 4)) pe_int) pa_nil)))))
  (pss_cons (ps_set (i:=6) sc_law_seek.nd rfl (by first | exact Or.inl rfl | exact Or.inr rfl) (pe_ix ix_str pe_str (pe_callH G_law_take hr rfl (pa_cons (pv 0) (pa_cons pe_int pa_nil))) (fun _ _=>rfl)))
  (pss_cons (ps_set (i:=7) sc_law_seek.nd rfl (by first | exact Or.inl rfl | exact Or.inr rfl) (pe_lst (pa_cons (pe_slice sl_str (pv 3) po_none (po_some (pv 5))) (pa_cons (pv 3) (pa_cons (pe_slice sl_str (pv 3) (po_some (pv 4)) po_none) (pa_cons (pe_slice sl_str (pv 3) (po_some (pv 4)) (po_some (pv 5))) (pa_cons (pe_op op_add_str (pe_op op_add_str (pe_slice sl_str (pv 3) po_none (po_some (pv 4))) (pv 6)) (pe_slice sl_str (pv 3) (po_some (pe_op op_add (pv 4) pe_int)) po_none)) pa_nil)))))))
  (pss_one (ps_ret (pe_ix ix_list (pe_op op_cat (pv 7) (pe_lst (pa_cons (pe_slice sl_str (pe_op op_add_str (pe_op op_add_str (pe_slice sl_str (pv 3) po_none (po_some (pv 4))) (pv 6)) (pe_slice sl_str (pv 3) (po_some (pv 4)) po_none)) po_none (po_some pe_int)) (pa_cons (pe_op op_mul_str (pv 6) (pe_op op_sub (pv 5) (pv 4))) pa_nil)))) (pv 2) (fun _ _=>rfl)))))))))),?_⟩
  obtain ⟨u,ht,hu,ok⟩:=id tr
  have m60:=ok.most
  have lpos:=ok.pos
  have hlab:lab.length=ups.length:=by rw [ok.len];simp [Str.length]
  have trK:∀ {c' H'},Kd p c' H H'→TreeAt H' t ups lab:=fun {c' H'} kd=>⟨u,kd.keep _ _ (ne_deck dk ht (by intro _ _ _ e;cases e)) ht,kd.keep _ _ (ne_deck dk hu (by intro _ _ _ e;cases e)) hu,ok⟩
  refine ⟨_,rfl,p,7,c,rfl,dk,by omega,by decide,by decide,fun way H1 a0 a1 kd1=>?_⟩
  obtain ⟨_,ht1,_,_⟩:=id (trK kd1)
  refine ⟨_,rfl,_,rfl,_,rfl,t,_,_,_,rfl,rfl,SqT.of ht1,rfl,lab,rfl,by rw [hlab];exact Nat.le_of_lt (small1000 (by omega)),p,_,c+1,rfl,kd1.deck,by omega,by rw [hlab];omega,by rw [hlab];omega,fun pl H2 b0 b1 kd2=>?_⟩
  rw [hlab] at b1
  have ku2:=kd1.trans kd2
  refine ⟨t,ups,lab,pl,rfl,trK ku2,by omega,?_⟩
  have eR:R ups lab.cps.toList pl=W ups lab.cps.toList pl.toNat:=by
    unfold R
    rw [if_neg (by omega)]
  rw [eR]
  have wl:=W_len ok (pl.toNat+1) pl.toNat (by omega) (by omega)
  have wp:0 < (W ups lab.cps.toList pl.toNat).length:=by rw [W_eq ok (by omega)];simp
  have e1:(mk (W ups lab.cps.toList pl.toNat)).length=(W ups lab.cps.toList pl.toNat).length:=mk_len _
  have e2:(mk (W ups lab.cps.toList pl.toNat)).length≤60∧0 < (mk (W ups lab.cps.toList pl.toNat)).length:=by omega
  clear e1
  generalize mk (W ups lab.cps.toList pl.toNat)=z at e2
  obtain ⟨z60,z0⟩:=e2
  have zz:z.length≤sizeLine:=Nat.le_of_lt (small1000 (by omega))
  refine ⟨_,rfl,_,rfl,z,rfl,zz,p,_,c+1+1,rfl,ku2.deck,by omega,by omega,by omega,fun first H3 f0 f1 kd3=>?_⟩
  have ku3:=ku2.trans kd3
  refine ⟨_,rfl,_,rfl,_,rfl,z,rfl,zz,_,rfl,_,_,rfl,rfl,_,_,rfl,rfl,p,_,c+1+1+1,rfl,ku3.deck,by omega,by omega,by omega,fun more H4 g0 g1 kd4=>?_⟩
  have ku4:=ku3.trans kd4
  refine ⟨_,_,rfl,rfl,?_⟩
  refine ⟨_,rfl,p,26,_,rfl,ku4.deck,by omega,by decide,by decide,fun ci H5 h0 h1 kd5=>?_⟩
  have ku5:=(ku4.trans kd5).mono (show c+1+1+1+1+1≤c+5 by omega)
  obtain ⟨ch,hch,lch⟩:=alph_at h0 h1
  refine ⟨_,_,_,rfl,rfl,by decide +kernel,hch,?_⟩
  have c1:(⟨#[ch]⟩:Str).length=1:=rfl
  have cl:∀ lo hi,(cutS z lo hi).length≤60:=fun lo hi=>Nat.le_trans (cutS_le z lo hi) z60
  have q1:=cl none (some first)
  have q2:=cl (some (first+1)) none
  have q3:=cl (some first) none
  have q4:=cl none (some (first+more))
  have q5:=cl (some first) (some (first+more))
  refine ⟨_,rfl,_,rfl,_,rfl,z,rfl,zz,_,rfl,_,rfl,_,rfl,_,rfl,z,rfl,zz,_,rfl,_,rfl,_,rfl,_,rfl,_,rfl,z,rfl,zz,_,rfl,_,rfl,_,rfl,z,rfl,zz,_,rfl,_,_,rfl,rfl,Nat.le_of_lt (small1000 (by omega)),?_⟩
  refine ⟨_,rfl,_,rfl,_,_,rfl,rfl,_,rfl,z,rfl,zz,_,_,rfl,rfl,by rw [app_len];exact Nat.le_of_lt (small1000 (by omega)),(by show 5≤sizeLine;decide),fun r1 hr1=>?_⟩
  refine ⟨_,rfl,_,rfl,_,rfl,_,rfl,z,rfl,zz,_,rfl,_,_,rfl,rfl,Nat.le_of_lt (small1000 (by omega)),?_⟩
  refine ⟨_,rfl,_,rfl,_,rfl,z,rfl,zz,_,_,rfl,rfl,by rw [app_len];exact Nat.le_of_lt (small1000 (by omega)),?_⟩
  have q6:(cutS z none (some first)++(⟨#[ch]⟩:Str)++cutS z (some first) none).length≤121:=by rw [app_len,app_len];omega
  have q7:=cutS_le (cutS z none (some first)++(⟨#[ch]⟩:Str)++cutS z (some first) none) none (some 60)
  have q8:(cutS z none (some first)++(⟨#[ch]⟩:Str)++cutS z (some (first+1)) none).length≤121:=by rw [app_len,app_len];omega
  have mo:MulOk (⟨#[ch]⟩:Str) (first+more - first):=PyProof.Rows.mulOk_of 1 60 (by rw [c1];decide) (by omega) (by omega) (by decide) (by decide)
  have q9:(Txt.mul ⟨#[ch]⟩ (first+more - first)).length≤60:=by
    have:=mul_len (c:=ch) (n:=first+more - first) (by omega)
    rw [cps_len] at this
    omega
  refine ⟨_,rfl,_,rfl,Nat.le_of_lt (small1000 (by omega)),_,rfl,_,rfl,_,rfl,_,_,rfl,rfl,_,_,rfl,rfl,mo,(by show 2≤sizeLine;decide),fun r2 hr2=>?_⟩
  generalize cutS (cutS z none (some first)++(⟨#[ch]⟩:Str)++cutS z (some first) none) none (some 60)=x5 at q7
  generalize Txt.mul ⟨#[ch]⟩ (first+more - first)=x6 at q9
  generalize cutS z none (some first)++(⟨#[ch]⟩:Str)++cutS z (some (first+1)) none=x4 at q8 hr2
  generalize cutS z none (some (first+more))=x0 at q4 hr2
  generalize cutS z (some first) none=x2 at q3 hr2
  generalize cutS z (some first) (some (first+more))=x3 at q5 hr2
  have k5:=(ku5.new (o:=.lst [.str x0,.str z,.str x2,.str x3,.str x4]) hr1)
  have h11:upd H5 r1 (.lst [.str x0,.str z,.str x2,.str x3,.str x4]) r1=some (.lst [.str x0,.str z,.str x2,.str x3,.str x4]):=upd_same
  have k6:=k5.new (o:=.lst [.str x5,.str x6]) hr2
  have h12:upd (upd H5 r1 (.lst [.str x0,.str z,.str x2,.str x3,.str x4])) r2 (.lst [.str x5,.str x6]) r2=some (.lst [.str x5,.str x6]):=upd_same
  have h13:upd (upd H5 r1 (.lst [.str x0,.str z,.str x2,.str x3,.str x4])) r2 (.lst [.str x5,.str x6]) r1=some (.lst [.str x0,.str z,.str x2,.str x3,.str x4]):=by rw [upd_ne (ne_of_none h11 hr2)];exact h11
  generalize upd (upd H5 r1 (.lst [.str x0,.str z,.str x2,.str x3,.str x4])) r2 (.lst [.str x5,.str x6])=H6 at k6 h12 h13
  refine ⟨r1,r2,_,_,rfl,rfl,h13,h12,(by show 5+2≤sizeLine;decide),fun r3 hr3=>?_⟩
  have el:[V.str x0,.str z,.str x2,.str x3,.str x4]++[V.str x5,.str x6]=[x0,z,x2,x3,x4,x5,x6].map V.str:=rfl
  rw [el]
  have all:∀ y∈[x0,z,x2,x3,x4,x5,x6],y.length≤200:=fun y hy=>by
    simp only [List.mem_cons,List.not_mem_nil,or_false] at hy
    rcases hy with rfl | rfl | rfl | rfl | rfl | rfl | rfl <;> omega
  have ln:[x0,z,x2,x3,x4,x5,x6].length=7:=rfl
  generalize [x0,z,x2,x3,x4,x5,x6]=zs at all ln
  have k7:=k6.new (o:=.lst (zs.map V.str)) hr3
  have at1:atI (zs.map V.str) way=some (.str (zs.getD way.toNat Str.empty)):=by
    have:=strs_at (ss:=zs) (i:=way.toNat) (by omega)
    rw [show ((way.toNat:Nat):Int)=way by omega] at this
    exact this
  refine ⟨_,rfl,r3,_,_,_,rfl,rfl,SqL.of upd_same,at1,q _ _ (all _ ?_) k7⟩
  rw [List.getD_eq_getElem?_getD,List.getElem?_eq_getElem (by omega)]
  exact List.getElem_mem _
end
end S73
namespace S73
open PySem L2 W7
section
variable {P:Program} {w:World} {K:PySem.W.Frag} {mg:Str→Option Value} {base:Heap} {k:Nat}
def ben (ups:List Int) (p:Int) (m:Nat):List Nat:=(List.range m).filter fun j=>decide (ups.getD j 0=p)
theorem ben_succ (ups:List Int) (p:Int) (m:Nat):ben ups p (m+1)=if ups.getD m 0=p then ben ups p m++[m] else ben ups p m:=by
  unfold ben
  rw [List.range_succ,List.filter_append]
  by_cases h:ups.getD m 0=p
  · rw [if_pos h,List.filter_cons_of_pos (by simpa using h)];rfl
  · rw [if_neg h,List.filter_cons_of_neg (by simpa using h)];simp
theorem ben_le (ups:List Int) (p:Int) (m:Nat):(ben ups p m).length≤m:=by
  have:=List.length_filter_le (fun j=>decide (ups.getD j 0=p)) (List.range m)
  simpa [ben] using this
def sp_beneath:Sp:=fun vs H Q _=>∃ (t:Addr) (ups:List Int) (lab:Str) (p:Int),vs=[.ref t,.int p]∧TreeAt H t ups lab ∧
  ∀ (r:Addr) (H':Hp),Same H H'→H r=none→H' r=some (.lst (natV (ben ups p ups.length)))→Q (.ref r) H'
theorem has_beneath (D:Df K mg "beneath_of" s_beneath_of) (B:Blt7 mg):Has P w K mg base "beneath_of" (k+1) ["tree", "place"] sp_beneath:=by
  refine D.has sc_beneath_of (fun _ _ _ _ _ _ us hl=>match us,hl with | [_,_],_=>rfl) (fun vs H Q E h=>by obtain ⟨t,ups,lab,p,rfl,_⟩:=h;rfl) (fun f cdv A outer s H vs Q E hr h=>?_)
  obtain ⟨t,ups,lab,p,rfl,tr,q⟩:=h
  refine ⟨_,(pss_one (ps_ret (pe_comp rfl (pi_enum rfl B.enumerate (pa_cons (pe_ix ix_tup (pv 0) pe_int (fun _ _=>rfl)) pa_nil)) (NL:=["other", "up"]) (ix:=[1]) (csc (defScope s_beneath_of) N_beneath_of) (fun cl C s₃ H₃ fp pins=>⟨(pg_tupK K (n:=2) rfl (pgs_cons (pg_name (i:=0) (show List.Nodup (["other", "up", "place"]:List Str) from by decide +kernel) rfl (by first | exact Or.inl rfl | exact Or.inr rfl)) (pgs_cons (pg_name (i:=1) (show List.Nodup (["other", "up", "place"]:List Str) from by decide +kernel) rfl (by first | exact Or.inl rfl | exact Or.inr rfl)) pgs_nil))),(pifs_one (pt_cmpR op_eq (pv 1) (pv 2) (nomark _))),(pv 0)⟩)))),?_⟩
  obtain ⟨u,ht,hu,ok⟩:=id tr
  have m60:=ok.most
  refine ⟨_,rfl,t,_,_,_,rfl,rfl,SqT.of ht,rfl,.tup u,rfl,⟨_,.inl hu⟩,fun acc hacc=>?_⟩
  refine comp_enum (xs:=ups.map V.int) (by rw [List.length_map];omega) (fun i ys H2=>H2 acc=some (.lst ys)∧ys=natV (ben ups p i)∧Same H H2)
    (fun i ys H2 h=>.inl (h.2.2 _ _ hu)) (fun i ys H2 h=>⟨h.1,by rw [h.2.1,natV,List.length_map];exact ben_le _ _ _⟩) ⟨upd_same,rfl,(Same.refl H).new hacc⟩ ?_ ?_
  · rintro ys H2 ⟨g1,rfl,g3⟩
    rw [List.length_map] at g1
    exact q acc H2 g3 hacc g1
  · rintro i x ys H2 pp hx ⟨g1,rfl,g3⟩ hpp
    rw [List.getElem?_map] at hx
    cases e1:ups[i]? with
    | none=>rw [e1] at hx;cases hx
    | some v=>
      rw [e1] at hx
      cases hx
      have ev:ups.getD i 0=v:=by rw [List.getD_eq_getElem?_getD,e1];rfl
      refine ⟨pp,_,rfl,SqT.of upd_same,rfl,_,_,rfl,_,_,rfl,rfl,?_⟩
      refine ⟨rfl,?_⟩
      have g1':upd H2 pp (.tup [.int (i:Int),.int v]) acc=some (.lst (natV (ben ups p i))):=by rw [upd_ne (ne_of_none g1 hpp)];exact g1
      refine ⟨_,rfl,_,rfl,rfl,_,rfl,ite2 (fun cnd=>?_) (fun cnd=>?_)⟩
      · have ec:v=p:=by
          have:=of_decide_eq_true cnd
          injection this
        exact ⟨_,rfl,g1',upd_same,by rw [ben_succ,if_pos (ev.trans ec),natV,natV,List.map_append];rfl,(g3.new hpp).write hacc⟩
      · have ec:v≠p:=fun z=>cnd (by rw [z];exact decide_eq_true rfl)
        exact ⟨g1',by rw [ben_succ,if_neg (by rw [ev];exact ec)],g3.new hpp⟩
def leafB (ups:List Int) (p:Int):Bool:=!inV (.int p) (ups.map V.int)
def sp_leafR:Sp:=fun vs H Q _=>∃ (t:Addr) (ups:List Int) (lab:Str) (p:Int),vs=[.ref t,.int p]∧TreeAt H t ups lab∧Q (.bl (leafB ups p)) H
theorem has_leafR (D:Df K mg "is_leaf" s_is_leaf) (B:Blt7 mg):Has P w K mg base "is_leaf" (k+1) ["tree", "place"] sp_leafR:=by
  refine D.has sc_is_leaf (fun _ _ _ _ _ _ us hl=>match us,hl with | [_,_],_=>rfl) (fun vs H Q E h=>by obtain ⟨t,ups,lab,p,rfl,_⟩:=h;rfl) (fun f cdv A outer s H vs Q E hr h=>?_)
  obtain ⟨t,ups,lab,p,rfl,tr,q⟩:=h
  refine ⟨_,(pss_one (ps_ret (pe_cmpR op_notIn_seq (pv 1) (pe_ix ix_tup (pv 0) pe_int (fun _ _=>rfl)) (by with_unfolding_all rfl)))),?_⟩
  obtain ⟨u,ht,hu,ok⟩:=id tr
  exact ⟨_,rfl,_,rfl,t,_,_,_,rfl,rfl,SqT.of ht,rfl,u,_,rfl,.inr (SqT.of hu),rfl,flat_ints _,q⟩
def lastB (ups:List Int) (j:Nat):Bool:=decide (j=0) || decide ((ben ups (ups.getD j 0) ups.length).getLast?=some j)
def sp_last:Sp:=fun vs H Q _=>∃ (t:Addr) (ups:List Int) (lab:Str) (j:Nat),vs=[.ref t,.int (j:Int)]∧TreeAt H t ups lab∧j < ups.length∧∀ H':Hp,Same H H'→Q (.bl (lastB ups j)) H'
theorem has_last (D:Df K mg "is_last" s_is_last) (B:Blt7 mg) (G_beneath_of:Has P w K mg base "beneath_of" k ["tree", "place"] sp_beneath):Has P w K mg base "is_last" (k+1) ["tree", "place"] sp_last:=by
  refine D.has sc_is_last (fun _ _ _ _ _ _ us hl=>match us,hl with | [_,_],_=>rfl) (fun vs H Q E h=>by obtain ⟨t,ups,lab,p,rfl,_⟩:=h;rfl) (fun f cdv A outer s H vs Q E hr h=>?_)
  obtain ⟨t,ups,lab,j,rfl,tr,hj,q⟩:=h
  refine ⟨_,(pss_one (ps_ret (pe_or (pe_cmpR op_eq (pv 1) pe_int (nomark _)) (pe_one (pe_cmpR op_eq (pv 1) (pe_ix ix_list (pe_callH G_beneath_of hr rfl (pa_cons (pv 0) (pa_cons (pe_ix ix_tup (pe_ix ix_tup (pv 0) pe_int (fun _ _=>rfl)) (pv 1) (fun _ _=>rfl)) pa_nil))) (pe_un un_neg pe_int) (fun _ _=>rfl)) (nomark _)))))),?_⟩
  obtain ⟨u,ht,hu,ok⟩:=id tr
  have m60:=ok.most
  refine ⟨_,rfl,rfl,_,rfl,ite2 (fun cnd=>?_) (fun cnd=>?_)⟩
  · have z:=of_decide_eq_true cnd
    have z0:j=0:=by injection z with z;omega
    have e:lastB ups j=true:=by unfold lastB;rw [z0];rfl
    have:=q H (Same.refl H)
    rw [e] at this
    exact this
  · have nz:j≠0:=fun e=>cnd (by rw [e];exact decide_eq_true rfl)
    have hat:=ints_at (us:=ups) (i:=(j:Int)) (by omega) (by omega)
    rw [Int.toNat_natCast] at hat
    refine ⟨_,rfl,_,rfl,_,rfl,t,_,_,_,rfl,rfl,SqT.of ht,rfl,_,rfl,u,_,_,_,rfl,rfl,SqT.of hu,hat,t,ups,lab,_,rfl,tr,fun r H1 s1 hf1 hr1=>?_⟩
    have hm:j∈ben ups (ups.getD j 0) ups.length:=by
      unfold ben
      rw [List.mem_filter]
      exact ⟨List.mem_range.mpr hj,decide_eq_true rfl⟩
    have el:lastB ups j=decide ((ben ups (ups.getD j 0) ups.length).getLast?=some j):=by unfold lastB;rw [decide_eq_false nz,Bool.false_or]
    generalize ben ups (ups.getD j 0) ups.length=bs at hm el hr1
    rcases List.eq_nil_or_concat bs with eb | ⟨bi,bl,eb⟩
    · rw [eb] at hm;cases hm
    · rw [List.concat_eq_append] at eb
      subst eb
      have hat2:atI (natV (bi++[bl])) (-1)=some (.int (bl:Int)):=by rw [natV,List.map_append];exact atI_last _ _
      refine ⟨_,rfl,r,_,_,_,rfl,rfl,SqL.of hr1,hat2,rfl,?_⟩
      have:=q H1 s1
      rw [el,List.getLast?_concat] at this
      have e2:decide (V.int (j:Int)=V.int (bl:Int))=decide (some bl=some j):=by
        rw [Bool.eq_iff_iff,decide_eq_true_eq,decide_eq_true_eq]
        constructor
        · intro z;injection z with z;rw [show bl=j by omega]
        · intro z;injection z with z;rw [z]
      rw [e2]
      exact this
abbrev keptN (ks:List Nat):List Nat:=0 :: ks.map (·+1)
def oneS (lab:Str) (j:Nat):Str:=⟨#[lab.cps.toList.getD j 0]⟩
def rowsText (lab:Str) (ks:List Nat):Str:=Txt.join (Str.ofString "") ((keptN ks).map (oneS lab))
def sp_rows (ls:List Lm):Sp:=fun vs H Q _=>∃ (t:Addr) (ups:List Int) (lab:Str),vs=[.ref t]∧TreeAt H t ups lab∧Lams ls H ∧
  ∀ (ks:List Nat) (r a b:Addr) (H':Hp),KeptOk ups lab ks→Kt ls H H'→H r=none→H' r=some (.tup [.str (rowsText lab ks),.ref a,.ref b]) →
    H' a=some (.tup ((keptN ks).map fun j=>.bl (lastB ups j)))→H' b=some (.tup ((keptN ks).map fun j:Nat=>.bl (leafB ups (j:Int))))→Q (.ref r) H'
theorem has_rows {ls:List Lm} (D:Df K mg "rows_of" s_rows_of) (B:Blt7 mg) (G_kept_order:Has P w K mg base "kept_order" k ["tree"] (sp_kept ls)) (G_is_last:Has P w K mg base "is_last" k ["tree", "place"] sp_last) (G_is_leaf:Has P w K mg base "is_leaf" k ["tree", "place"] sp_leafR):Has P w K mg base "rows_of" (k+1) ["tree"] (sp_rows ls):=by
  refine D.has sc_rows_of (fun _ _ _ _ _ _ us hl=>match us,hl with | [_],_=>rfl) (fun vs H Q E h=>by obtain ⟨t,ups,lab,rfl,_⟩:=h;rfl) (fun f cdv A outer s H vs Q E hr h=>?_)
  obtain ⟨t,ups,lab,rfl,tr,L,q⟩:=h
  refine ⟨_,(pss_cons (ps_set (i:=1) sc_rows_of.nd rfl (by first | exact Or.inl rfl | exact Or.inr rfl) (pe_callH G_kept_order hr rfl (pa_cons (pv 0) pa_nil)))
  (pss_cons (ps_set (i:=2) sc_rows_of.nd rfl (by first | exact Or.inl rfl | exact Or.inr rfl) (pe_bm PySem.F.plainAttrs_str PySem.F.slot_str_join PySem.F.type_str_join mt_join pe_str (pa_cons (pe_comp rfl (pi_list (pv 1)) (NL:=["place"]) (ix:=[0]) (csc (defScope s_rows_of) N_rows_of) (fun cl C s₃ H₃ fp pins=>⟨(pg_name (i:=0) (show List.Nodup (["place", "tree"]:List Str) from by decide +kernel) rfl (by first | exact Or.inl rfl | exact Or.inr rfl)),pifs_nil,(pe_ix ix_str (pe_ix (ix_tupK K) (pv 1) pe_int (fun _ _=>rfl)) (pv 0) (fun _ _=>rfl))⟩)) pa_nil)))
  (pss_cons (ps_set (i:=3) sc_rows_of.nd rfl (by first | exact Or.inl rfl | exact Or.inr rfl) (pe_callTy call_tuple_of rfl B.tuple_ bt_tuple (pa_cons (pe_comp rfl (pi_list (pv 1)) (NL:=["place"]) (ix:=[0]) (csc (defScope s_rows_of) N_rows_of) (fun cl C s₃ H₃ fp pins=>⟨(pg_name (i:=0) (show List.Nodup (["place", "tree"]:List Str) from by decide +kernel) rfl (by first | exact Or.inl rfl | exact Or.inr rfl)),pifs_nil,(pe_callH G_is_last hr rfl (pa_cons (pv 1) (pa_cons (pv 0) pa_nil)))⟩)) pa_nil)))
  (pss_cons (ps_set (i:=4) sc_rows_of.nd rfl (by first | exact Or.inl rfl | exact Or.inr rfl) (pe_callTy call_tuple_of rfl B.tuple_ bt_tuple (pa_cons (pe_comp rfl (pi_list (pv 1)) (NL:=["place"]) (ix:=[0]) (csc (defScope s_rows_of) N_rows_of) (fun cl C s₃ H₃ fp pins=>⟨(pg_name (i:=0) (show List.Nodup (["place", "tree"]:List Str) from by decide +kernel) rfl (by first | exact Or.inl rfl | exact Or.inr rfl)),pifs_nil,(pe_callH G_is_leaf hr rfl (pa_cons (pv 1) (pa_cons (pv 0) pa_nil)))⟩)) pa_nil)))
  (pss_one (ps_ret (pe_tup (pa_cons (pv 2) (pa_cons (pv 3) (pa_cons (pv 4) pa_nil)))))))))),?_⟩
  obtain ⟨u,ht,hu,ok⟩:=id tr
  have m60:=ok.most
  have lpos:=ok.pos
  refine ⟨_,rfl,t,ups,lab,rfl,tr,L,fun ks r1 H1 ko k1 hf1 hr1=>?_⟩
  have kl:=ko.len
  have ek:(keptI ks).map V.int=natV (keptN ks):=by
    rw [natV,keptI,keptN,List.map_cons,List.map_cons,List.map_map,List.map_map]
    congr 1
    refine List.map_congr_left fun i _=>?_
    show V.int (1+(i:Int))=V.int ((i+1:Nat):Int)
    congr 1;omega
  rw [ek] at hr1
  have kn:(keptN ks).length=ups.length:=by simp only [keptN,List.length_cons,List.length_map];omega
  have kin:∀ j∈keptN ks,j < ups.length:=fun j hj=>by
    rcases List.mem_cons.mp hj with z | z
    · omega
    · obtain ⟨i,hi,rfl⟩:=List.mem_map.mp z
      have:=List.mem_range.mp (ko.perm.mem_iff.mp hi)
      omega
  have q':=fun (r a b:Addr) (H':Hp)=>q ks r a b H' ko
  unfold rowsText at q'
  generalize keptN ks=ns at kn kin hr1 q'
  have nl:(natV ns).length=ups.length:=by rw [natV,List.length_map,kn]
  have ht1:=k1.tup ht
  have hu1:=k1.tup hu
  have tr1:TreeAt H1 t ups lab:=⟨u,ht1,hu1,ok⟩
  have ll:lab.cps.toList.length=ups.length:=ok.len.symm
  have lz:lab.length≤sizeLine:=Nat.le_of_lt (small1000 (by simp only [Str.length];rw [← Array.length_toList,ll];omega))
  have nget:∀ {i:Nat} {x:V},(natV ns)[i]?=some x→∃ j,ns[i]?=some j∧j < ups.length∧x=.int (j:Int):=fun {i x} hx=>by
    rw [natV,List.getElem?_map] at hx
    cases e1:ns[i]? with
    | none=>rw [e1] at hx;cases hx
    | some j=>rw [e1] at hx;cases hx;exact ⟨j,rfl,kin j (List.mem_of_getElem? e1),rfl⟩
  refine ⟨rfl,_,rfl,r1,rfl,⟨_,SqL.of hr1⟩,fun acc hacc=>?_⟩
  refine comp_lst (xs:=natV ns) (by omega) (fun i ys H2=>H2 acc=some (.lst ys)∧ys=((ns.take i).map (oneS lab)).map V.str∧Same H1 H2)
    (fun i ys H2 h=>SqL.of (h.2.2 _ _ hr1)) (fun i ys H2 h=>⟨h.1,by rw [h.2.1,List.length_map,List.length_map,List.length_take];exact Nat.min_le_left _ _⟩) ⟨upd_same,rfl,(Same.refl H1).new hacc⟩ ?_ ?_
  rotate_left
  · rintro i x ys H2 hx ⟨g1,rfl,g3⟩
    obtain ⟨j,e1,jl,rfl⟩:=nget hx
    refine ⟨rfl,?_⟩
    refine ⟨_,rfl,t,_,_,_,rfl,rfl,SqT.of (g3 _ _ ht1),rfl,_,rfl,lab,_,_,rfl,rfl,lz,atI_nat (List.getElem?_eq_getElem (by omega:j < lab.cps.toList.length)),g1,upd_same,?_,g3.write hacc⟩
    rw [List.take_succ,e1,List.map_append,List.map_append]
    congr 1
    show _=[V.str (oneS lab j)]
    unfold oneS
    rw [List.getD_eq_getElem?_getD,List.getElem?_eq_getElem (by omega:j < lab.cps.toList.length)];rfl
  rintro ys H2 ⟨g1,rfl,g3⟩
  rw [nl,← kn,List.take_length] at g1
  refine ⟨_,acc,_,rfl,rfl,SqL.of g1,?_,?_⟩
  · have:∀ l:List Nat,((l.map (oneS lab)).map (·.length)).sum=l.length:=fun l=>by
      induction l with
      | nil=>rfl
      | cons a r ih=>rw [List.map_cons,List.map_cons,List.sum_cons,ih,List.length_cons];show 1+_=_;omega
    rw [this,List.length_map]
    have e0:(Str.ofString "").length=0:=rfl
    rw [e0];omega
  have hr2:=g3 _ _ hr1
  refine ⟨_,rfl,r1,rfl,⟨_,SqL.of hr2⟩,fun ac2 hac2=>?_⟩
  refine comp_lst (xs:=natV ns) (by omega) (fun i ys H3=>H3 ac2=some (.lst ys)∧ys=(ns.take i).map (fun j=>V.bl (lastB ups j))∧Same H2 H3)
    (fun i ys H3 h=>SqL.of (h.2.2 _ _ hr2)) (fun i ys H3 h=>⟨h.1,by rw [h.2.1,List.length_map,List.length_take];exact Nat.min_le_left _ _⟩) ⟨upd_same,rfl,(Same.refl H2).new hac2⟩ ?_ ?_
  rotate_left
  · rintro i x ys H3 hx ⟨g4,rfl,g5⟩
    obtain ⟨j,e1,jl,rfl⟩:=nget hx
    refine ⟨rfl,?_⟩
    refine ⟨_,rfl,_,rfl,t,ups,lab,j,rfl,(tr1.same g3).same g5,jl,fun H4 s4=>?_⟩
    refine ⟨s4 _ _ g4,upd_same,?_,(g5.trans s4).write hac2⟩
    rw [List.take_succ,e1,List.map_append];rfl
  rintro ys H3 ⟨g4,rfl,g5⟩
  rw [nl,← kn,List.take_length] at g4
  refine ⟨ac2,_,rfl,.inl ⟨SqL.of g4,fun la hla=>?_⟩⟩
  have s6:Same H3 (upd H3 la (.tup (ns.map fun j=>V.bl (lastB ups j)))):=(Same.refl H3).new hla
  have h6:upd H3 la (.tup (ns.map fun j=>V.bl (lastB ups j))) la=some (.tup (ns.map fun j=>V.bl (lastB ups j))):=upd_same
  generalize upd H3 la (.tup (ns.map fun j=>V.bl (lastB ups j)))=H6 at s6 h6
  have hr6:=s6 _ _ (g5 _ _ hr2)
  refine ⟨_,rfl,r1,rfl,⟨_,SqL.of hr6⟩,fun ac3 hac3=>?_⟩
  refine comp_lst (xs:=natV ns) (by omega) (fun i ys H7=>H7 ac3=some (.lst ys)∧ys=(ns.take i).map (fun j:Nat=>V.bl (leafB ups (j:Int)))∧Same H6 H7)
    (fun i ys H7 h=>SqL.of (h.2.2 _ _ hr6)) (fun i ys H7 h=>⟨h.1,by rw [h.2.1,List.length_map,List.length_take];exact Nat.min_le_left _ _⟩) ⟨upd_same,rfl,(Same.refl H6).new hac3⟩ ?_ ?_
  rotate_left
  · rintro i x ys H7 hx ⟨g7,rfl,g8⟩
    obtain ⟨j,e1,jl,rfl⟩:=nget hx
    refine ⟨rfl,?_⟩
    refine ⟨_,rfl,_,rfl,t,ups,lab,_,rfl,(((tr1.same g3).same g5).same s6).same g8,g7,upd_same,?_,g8.write hac3⟩
    rw [List.take_succ,e1,List.map_append];rfl
  rintro ys H7 ⟨g7,rfl,g8⟩
  rw [nl,← kn,List.take_length] at g7
  refine ⟨ac3,_,rfl,.inl ⟨SqL.of g7,fun le hle=>?_⟩⟩
  have s9:Same H7 (upd H7 le (.tup (ns.map fun j:Nat=>V.bl (leafB ups (j:Int))))):=(Same.refl H7).new hle
  have h9:upd H7 le (.tup (ns.map fun j:Nat=>V.bl (leafB ups (j:Int)))) le=some (.tup (ns.map fun j:Nat=>V.bl (leafB ups (j:Int)))):=upd_same
  generalize upd H7 le (.tup (ns.map fun j:Nat=>V.bl (leafB ups (j:Int))))=H9 at s9 h9
  refine ⟨_,rfl,_,rfl,_,rfl,(by show 3≤sizeLine;decide),fun rr hrr=>?_⟩
  have s19:Same H1 H9:=((((g3.trans g5).trans s6).trans g8).trans s9)
  have sR:Same H9 (upd H9 rr (.tup [.str (Txt.join (Str.ofString "") (ns.map (oneS lab))),.ref la,.ref le])):=(Same.refl H9).new hrr
  exact q' rr la le _ (k1.same (s19.trans sR)) (k1.here _ (s19.free hrr)) upd_same (sR _ _ ((g8.trans s9) _ _ h6)) (sR _ _ h9)
end
end S73
namespace S73
open PySem L2 W7
section
variable {P:Program} {w:World} {K:PySem.W.Frag} {mg:Str→Option Value} {base:Heap} {k:Nat}
def sp_cw:Sp:=fun vs H Q _=>∃ (t:Addr) (ups:List Int) (lab:Str),vs=[.ref t]∧TreeAt H t ups lab ∧
  ∀ (ss:List Str) (H':Hp),ss.Perm (wordsS ups lab)→PyProof.Rows.sortedS ss=true→Same H H'→Q (.int (((unlS ss ss.length).length:Nat):Int)) H'
theorem has_cw (D:Df K mg "count_words" s_count_words) (B:Blt7 mg) (G_unlike_words:Has P w K mg base "unlike_words" k ["tree"] sp_unlike):Has P w K mg base "count_words" (k+1) ["tree"] sp_cw:=by
  refine D.has sc_count_words (fun _ _ _ _ _ _ us hl=>match us,hl with | [_],_=>rfl) (fun vs H Q E h=>by obtain ⟨t,ups,lab,rfl,_⟩:=h;rfl) (fun f cdv A outer s H vs Q E hr h=>?_)
  obtain ⟨t,ups,lab,rfl,tr,q⟩:=h
  refine ⟨_,(pss_one (ps_ret (pe_callB call_len_seq rfl B.len bt_len (pa_cons (pe_callH G_unlike_words hr rfl (pa_cons (pv 0) pa_nil)) pa_nil)))),?_⟩
  refine ⟨_,rfl,t,ups,lab,rfl,tr,fun ss r H1 hp hs s1 hf1 hr1=>⟨r,_,rfl,.inl (SqL.of hr1),?_⟩⟩
  have:=q ss H1 hp hs s1
  rw [List.length_map];exact this
def cntW (ss:List Str) (word:Str):List Str:=ss.filter fun z=>Txt.startswith z word
theorem strs_get {ss:List Str} {i:Nat} {x:V} (h:(ss.map V.str)[i]?=some x):∃ z,ss[i]?=some z∧x=.str z:=by
  rw [List.getElem?_map] at h
  cases e:ss[i]? with
  | none=>rw [e] at h;cases h
  | some z=>rw [e] at h;exact ⟨z,rfl,(Option.some.inj h).symm⟩
theorem filt_step {ss:List Str} {i:Nat} {z:Str} {f:Str→Bool} (h:ss[i]?=some z) (b:Bool) (hb:f z=b):(((ss.take (i+1)).filter f).map V.str)=((ss.take i).filter f).map V.str++(if b=true then [V.str z] else []):=by
  rw [PySem.take_succ_filter f ss i z h,hb,List.map_append]
  cases b <;> rfl
theorem filt_len {ss:List Str} {i:Nat} {f:Str→Bool}:(((ss.take i).filter f).map V.str).length≤i:=by
  rw [List.length_map]
  exact Nat.le_trans (List.length_filter_le _ _) (by rw [List.length_take];omega)
def sp_count:Sp:=fun vs H Q _=>∃ (r:Addr) (ss:List Str) (word:Str),vs=[.ref r,.str word]∧H r=some (.lst (ss.map V.str))∧ss.length≤60∧∀ H':Hp,Same H H'→Q (.int ((cntW ss word).length:Int)) H'
theorem has_count (D:Df K mg "count_read" s_count_read) (B:Blt mg):Has P w K mg base "count_read" (k+1) ["words", "word"] sp_count:=by
  refine D.has sc_count_read (fun _ _ _ _ _ _ us hl=>match us,hl with | [_,_],_=>rfl) (fun vs H Q E h=>by obtain ⟨r,ss,word,rfl,_⟩:=h;rfl) (fun f cdv A outer s H vs Q E hr h=>?_)
  obtain ⟨r,ss,word,rfl,hr0,s60,q⟩:=h
  refine ⟨_,(pss_one (ps_ret (pe_callB call_len_seq rfl B.len bt_len (pa_cons (pe_comp rfl (pi_list (pv 0)) (NL:=["other"]) (ix:=[1]) (csc (defScope s_count_read) N_count_read) (fun cl C s₃ H₃ fp pins=>⟨(pg_name (i:=0) (show List.Nodup (["other", "word"]:List Str) from by decide +kernel) rfl (by first | exact Or.inl rfl | exact Or.inr rfl)),(pifs_startsK K (pv 0) (pv 1)),(pv 0)⟩)) pa_nil)))),?_⟩
  refine ⟨_,rfl,r,rfl,⟨_,SqL.of hr0⟩,fun acc hacc=>?_⟩
  refine comp_lst (xs:=ss.map V.str) (by rw [List.length_map];omega) (fun i ys H2=>H2 acc=some (.lst ys)∧ys=((ss.take i).filter fun z=>Txt.startswith z word).map V.str∧Same H H2)
    (fun i ys H2 h=>SqL.of (h.2.2 _ _ hr0)) (fun i ys H2 h=>⟨h.1,by rw [h.2.1];exact filt_len⟩) ⟨upd_same,by simp,(Same.refl H).new hacc⟩ ?_ ?_
  · rintro ys H2 ⟨g1,rfl,g3⟩
    refine ⟨acc,_,rfl,.inl (SqL.of g1),?_⟩
    have e:((List.map V.str (List.filter (fun z=>Txt.startswith z word) (List.take (List.map V.str ss).length ss))).length:Int)=((cntW ss word).length:Int):=by
      rw [List.length_map,List.length_map,List.take_length];rfl
    rw [e];exact q H2 g3
  · rintro i x ys H2 hx ⟨g1,rfl,g3⟩
    obtain ⟨z,hz,rfl⟩:=strs_get hx
    refine ⟨rfl,_,rfl,rfl,_,rfl,_,_,rfl,rfl,_,rfl,ite2 (fun cnd=>?_) (fun cnd=>?_)⟩
    · exact ⟨_,rfl,g1,upd_same,by rw [filt_step hz true cnd];rfl,g3.write hacc⟩
    · exact ⟨g1,by rw [filt_step hz false (Bool.eq_false_iff.mpr cnd)];simp,g3⟩
def sp_many:Sp:=fun vs H Q _=>∃ (t:Addr) (ups:List Int) (lab word:Str),vs=[.ref t,.str word]∧TreeAt H t ups lab∧∀ H':Hp,Same H H'→Q (.int ((cntW (wordsS ups lab) word).length:Int)) H'
theorem has_many (D:Df K mg "how_many" s_how_many) (B:Blt mg) (G_words_of:Has P w K mg base "words_of" k ["tree"] sp_words) (G_count_read:Has P w K mg base "count_read" k ["words", "word"] sp_count):Has P w K mg base "how_many" (k+1) ["tree", "word"] sp_many:=by
  refine D.has sc_how_many (fun _ _ _ _ _ _ us hl=>match us,hl with | [_,_],_=>rfl) (fun vs H Q E h=>by obtain ⟨t,ups,lab,word,rfl,_⟩:=h;rfl) (fun f cdv A outer s H vs Q E hr h=>?_)
  obtain ⟨t,ups,lab,word,rfl,tr,q⟩:=h
  refine ⟨_,(pss_one (ps_ret (pe_callH G_count_read hr rfl (pa_cons (pe_callH G_words_of hr rfl (pa_cons (pv 0) pa_nil)) (pa_cons (pv 1) pa_nil))))),?_⟩
  obtain ⟨_,_,_,ok⟩:=id tr
  have m60:=ok.most
  have wl:=wordsS_len ups lab
  refine ⟨_,rfl,t,ups,lab,rfl,tr,fun r H1 s1 hr1=>?_⟩
  rw [wordsV_eq] at hr1
  exact ⟨_,rfl,r,_,word,rfl,hr1,by omega,fun H2 s2=>q H2 (s1.trans s2)⟩
end
section
variable {P:Program} {w:World} {K:PySem.W.Frag} {mg:Str→Option Value} {base:Heap} {k:Nat} {C f:Addr} {fd:FuncData}
def sp_onow (C:Addr) (ls:List Lm):Sp:=fun vs H Q _=>∃ (x dx l t:Addr) (ups:List Int) (lab:Str) (ds:List V),vs=[.ref x]∧KpAt C H x dx l t ups lab ds∧Lams ls H ∧
  ∀ (os:List Nat) (r:Addr) (H':Hp),OrderOk ups lab os→Kt ls H H'→H r=none→H' r=some (.lst (natV os))→Q (.ref r) H'
theorem ok_onow {ls:List Lm} (F:Fun K "order_now" "Keeper.order_now" s_Keeper_order_now f fd) (T:Tx K mg C) (G_order_of:Has P w K mg base "order_of" k ["tree"] (sp_order ls)):FnOk P w K mg base CX0 (k+1) f fd ["self"] (sp_onow C ls):=by
  refine F.ok sc_Keeper_order_now (fun vs H Q E h=>by obtain ⟨x,dx,l,t,ups,lab,ds,rfl,_⟩:=h;rfl) (fun cdv A outer s H vs Q E hr h=>?_)
  obtain ⟨x,dx,l,t,ups,lab,ds,rfl,S,L,q⟩:=h
  refine ⟨_,(pss_one (ps_ret (pe_callH G_order_of hr rfl (pa_cons (pe_fld (pv 0) rfl) pa_nil)))),?_⟩
  exact ⟨_,rfl,x,C,dx,_,_,rfl,S.ob,T.cl,T.nT,f_tree,t,ups,lab,rfl,S.tr,L,q⟩
def sp_rnow (C:Addr) (ls:List Lm):Sp:=fun vs H Q _=>∃ (x dx l t:Addr) (ups:List Int) (lab:Str) (ds:List V),vs=[.ref x]∧KpAt C H x dx l t ups lab ds∧Lams ls H ∧
  ∀ (ks:List Nat) (r a b:Addr) (H':Hp),KeptOk ups lab ks→Kt ls H H'→H r=none→H' r=some (.tup [.str (rowsText lab ks),.ref a,.ref b]) →
    H' a=some (.tup ((keptN ks).map fun j=>.bl (lastB ups j)))→H' b=some (.tup ((keptN ks).map fun j:Nat=>.bl (leafB ups (j:Int))))→Q (.ref r) H'
theorem ok_rnow {ls:List Lm} (F:Fun K "rows_now" "Keeper.rows_now" s_Keeper_rows_now f fd) (T:Tx K mg C) (G_rows_of:Has P w K mg base "rows_of" k ["tree"] (sp_rows ls)):FnOk P w K mg base CX0 (k+1) f fd ["self"] (sp_rnow C ls):=by
  refine F.ok sc_Keeper_rows_now (fun vs H Q E h=>by obtain ⟨x,dx,l,t,ups,lab,ds,rfl,_⟩:=h;rfl) (fun cdv A outer s H vs Q E hr h=>?_)
  obtain ⟨x,dx,l,t,ups,lab,ds,rfl,S,L,q⟩:=h
  refine ⟨_,(pss_one (ps_ret (pe_callH G_rows_of hr rfl (pa_cons (pe_fld (pv 0) rfl) pa_nil)))),?_⟩
  exact ⟨_,rfl,x,C,dx,_,_,rfl,S.ob,T.cl,T.nT,f_tree,t,ups,lab,rfl,S.tr,L,q⟩
def sp_cnow (C:Addr):Sp:=fun vs H Q _=>∃ (x dx l t:Addr) (ups:List Int) (lab:Str) (ds:List V) (word:Str),vs=[.ref x,.str word]∧KpAt C H x dx l t ups lab ds∧∀ H':Hp,Same H H'→Q (.int ((cntW (wordsS ups lab) word).length:Int)) H'
theorem ok_cnow (F:Fun K "count_now" "Keeper.count_now" s_Keeper_count_now f fd) (T:Tx K mg C) (G_how_many:Has P w K mg base "how_many" k ["tree", "word"] sp_many):FnOk P w K mg base CX0 (k+1) f fd ["self", "word"] (sp_cnow C):=by
  refine F.ok sc_Keeper_count_now (fun vs H Q E h=>by obtain ⟨x,dx,l,t,ups,lab,ds,word,rfl,_⟩:=h;rfl) (fun cdv A outer s H vs Q E hr h=>?_)
  obtain ⟨x,dx,l,t,ups,lab,ds,word,rfl,S,q⟩:=h
  refine ⟨_,(pss_one (ps_ret (pe_callH G_how_many hr rfl (pa_cons (pe_fld (pv 0) rfl) (pa_cons (pv 1) pa_nil))))),?_⟩
  exact ⟨_,rfl,x,C,dx,_,_,rfl,S.ob,T.cl,T.nT,f_tree,_,rfl,t,ups,lab,word,rfl,S.tr,q⟩
def sp_mnow (C:Addr):Sp:=fun vs H Q _=>∃ (x dx l t:Addr) (ups:List Int) (lab:Str) (ds:List V),vs=[.ref x]∧KpAt C H x dx l t ups lab ds ∧
  ∀ (ss:List Str) (H':Hp),ss.Perm (wordsS ups lab)→PyProof.Rows.sortedS ss=true→Same H H'→Q (.int (((unlS ss ss.length).length:Nat):Int)) H'
theorem ok_mnow (F:Fun K "many_now" "Keeper.many_now" s_Keeper_many_now f fd) (T:Tx K mg C) (G_count_words:Has P w K mg base "count_words" k ["tree"] sp_cw):FnOk P w K mg base CX0 (k+1) f fd ["self"] (sp_mnow C):=by
  refine F.ok sc_Keeper_many_now (fun vs H Q E h=>by obtain ⟨x,dx,l,t,ups,lab,ds,rfl,_⟩:=h;rfl) (fun cdv A outer s H vs Q E hr h=>?_)
  obtain ⟨x,dx,l,t,ups,lab,ds,rfl,S,q⟩:=h
  refine ⟨_,(pss_one (ps_ret (pe_callH G_count_words hr rfl (pa_cons (pe_fld (pv 0) rfl) pa_nil)))),?_⟩
  exact ⟨_,rfl,x,C,dx,_,_,rfl,S.ob,T.cl,T.nT,f_tree,t,ups,lab,rfl,S.tr,q⟩
end
end S73
namespace S73
open PySem L2 W7
structure Mv (A:List Addr) (H H':Hp):Prop where
  keep:∀ b o,(∀ ps,o≠.tbl ps)→b ∉ A→H b=some o→H' b=some o
  here:∀ b,H' b=none→H b=none
section
variable {A B:List Addr} {H H1 H2:Hp} {ls:List Lm}
theorem Mv.refl:Mv A H H:=⟨fun _ _ _ _ e=>e,fun _ e=>e⟩
theorem Mv.trans (a:Mv A H H1) (b:Mv A H1 H2):Mv A H H2:=⟨fun c u hc n e=>b.keep c u hc n (a.keep c u hc n e),fun c e=>a.here c (b.here c e)⟩
theorem Mv.of (s:Same H H1):Mv A H H1:=⟨fun _ _ _ _ e=>s _ _ e,fun _ e=>s.free e⟩
theorem Mv.kt (s:Kt ls H H1):Mv A H H1:=⟨fun b o t _ e=>s.keep b o t e,fun b e=>s.here b e⟩
theorem Mv.lst (a:Mv A H H1) {b:Addr} {xs:List V} (n:b ∉ A) (e:H b=some (.lst xs)):H1 b=some (.lst xs):=a.keep _ _ (fun _ z=>by cases z) n e
theorem Mv.mono (a:Mv A H H1) (h:∀ x∈A,x∈B):Mv B H H1:=⟨fun b o t n e=>a.keep b o t (fun z=>n (h b z)) e,a.here⟩
end
def NT (A:List Addr) (H:Hp):Prop:=∀ a∈A,∀ xs,H a≠some (.tup xs)
theorem Mv.tu {A:List Addr} {H H1:Hp} (a:Mv A H H1) (n:NT A H):Tu H H1:=fun b xs e=>a.keep b _ (fun _ z=>by cases z) (fun m=>n b m xs e) e
abbrev SS:Hp→V→V→Prop:=Up (Up (Up (Up S0)))
theorem same_leaf {S:Hp→V→V→Prop} {H:Hp} {xs:List V} (hx:∀ x∈xs,S1 x x) {i:Nat} {a b:V} (ha:xs[i]?=some a) (hb:xs[i]?=some b):Up S H a b:=by
  rw [ha] at hb
  obtain rfl:=Option.some.inj hb
  exact .inl (hx a (List.mem_of_getElem? ha))
theorem s1_ints (ns:List Int):∀ x∈ns.map V.int,S1 x x:=fun x hx=>by
  obtain ⟨n,_,rfl⟩:=List.mem_map.mp hx
  exact ⟨rfl,.inl ⟨n,rfl⟩⟩
theorem s1_nats (ns:List Nat):∀ x∈natV ns,S1 x x:=fun x hx=>by
  obtain ⟨n,_,rfl⟩:=List.mem_map.mp hx
  exact ⟨rfl,.inl ⟨_,rfl⟩⟩
theorem s1_bls {f:Nat→Bool} (ns:List Nat):∀ x∈ns.map fun j=>V.bl (f j),S1 x x:=fun x hx=>by
  obtain ⟨n,_,rfl⟩:=List.mem_map.mp hx
  exact ⟨rfl,.inr (.inr ⟨_,rfl⟩)⟩
theorem same_lst {S:Hp→V→V→Prop} {H:Hp} {r r2:Addr} {xs:List V} (hl:xs.length < 10000) (hx:∀ x∈xs,S1 x x) (h1:H r=some (.lst xs)) (h2:H r2=some (.lst xs)):Up (Up S) H (.ref r) (.ref r2):=
  .inr ⟨r,r2,xs,xs,rfl,rfl,rfl,hl,.inl ⟨h1,h2⟩,fun i a b ha hb=>same_leaf hx ha hb⟩
theorem same_tup {S:Hp→V→V→Prop} {H:Hp} {r r2:Addr} {xs:List V} (hl:xs.length < 10000) (hx:∀ x∈xs,S1 x x) (h1:H r=some (.tup xs)) (h2:H r2=some (.tup xs)):Up (Up S) H (.ref r) (.ref r2):=
  .inr ⟨r,r2,xs,xs,rfl,rfl,rfl,hl,.inr ⟨h1,h2⟩,fun i a b ha hb=>same_leaf hx ha hb⟩
theorem same_rows {S:Hp→V→V→Prop} {H:Hp} {r r2 a a2 b b2:Addr} {z:Str} {xs ys:List V} (lx:xs.length < 10000) (ly:ys.length < 10000) (hx:∀ x∈xs,S1 x x) (hy:∀ x∈ys,S1 x x) (h1:H r=some (.tup [.str z,.ref a,.ref b])) (h2:H r2=some (.tup [.str z,.ref a2,.ref b2])) (ha:H a=some (.tup xs)) (ha2:H a2=some (.tup xs)) (hb:H b=some (.tup ys)) (hb2:H b2=some (.tup ys)):Up (Up (Up S)) H (.ref r) (.ref r2):=by
  refine .inr ⟨r,r2,[.str z,.ref a,.ref b],[.str z,.ref a2,.ref b2],rfl,rfl,rfl,(by show 3 < 10000;decide),.inr ⟨h1,h2⟩,fun i x y ex ey=>?_⟩
  match i with
  | 0=>cases ex;cases ey;exact .inl ⟨rfl,.inr (.inl ⟨_,rfl⟩)⟩
  | 1=>cases ex;cases ey;exact same_tup lx hx ha ha2
  | 2=>cases ex;cases ey;exact same_tup ly hy hb hb2
  | i+3=>cases ex
theorem same_tree {S:Hp→V→V→Prop} {H:Hp} {t t2:Addr} {ups:List Int} {lab:Str} (h1:TreeAt H t ups lab) (h2:TreeAt H t2 ups lab):Up (Up (Up S)) H (.ref t) (.ref t2):=by
  obtain ⟨u,ht,hu,ok⟩:=h1
  obtain ⟨u2,ht2,hu2,_⟩:=h2
  have m60:=ok.most
  refine .inr ⟨t,t2,[.ref u,.str lab],[.ref u2,.str lab],rfl,rfl,rfl,by show 2 < 10000;decide,.inr ⟨ht,ht2⟩,fun i a b ha hb=>?_⟩
  match i with
  | 0=>cases ha;cases hb;exact same_tup (by rw [List.length_map];omega) (s1_ints _) hu hu2
  | 1=>cases ha;cases hb;exact .inl ⟨rfl,.inr (.inl ⟨_,rfl⟩)⟩
  | i+2=>cases ha
structure Told (H:Hp) (r:Addr) (us:List Int) (lb:Str) (ws:List Str) (t o rr a b:Addr) (os ks:List Nat) (ss:List Str):Prop where
  ls:H r=some (.lst ([V.ref t,.ref o,.ref rr,.int (((unlS ss ss.length).length:Nat):Int)]++(ws.map fun z=>((cntW (wordsS us lb) z).length:Int)).map V.int))
  tr:TreeAt H t us lb
  ho:H o=some (.lst (natV os))
  oo:OrderOk us lb os
  hr:H rr=some (.tup [.str (rowsText lb ks),.ref a,.ref b])
  ha:H a=some (.tup ((keptN ks).map fun j=>.bl (lastB us j)))
  hb:H b=some (.tup ((keptN ks).map fun j:Nat=>.bl (leafB us (j:Int))))
  ko:KeptOk us lb ks
  sp:ss.Perm (wordsS us lb)
  so:PyProof.Rows.sortedS ss=true
theorem Told.mv {A:List Addr} {H H':Hp} {r:Addr} {us:List Int} {lb:Str} {ws:List Str} {t o rr a b:Addr} {os ks:List Nat} {ss:List Str} (h:Told H r us lb ws t o rr a b os ks ss) (m:Mv A H H') (n:NT A H) (nr:r ∉ A) (no:o ∉ A):Told H' r us lb ws t o rr a b os ks ss:=
  ⟨m.lst nr h.ls,TreeAt.of h.tr (m.tu n),m.lst no h.ho,h.oo,m.tu n _ _ h.hr,m.tu n _ _ h.ha,m.tu n _ _ h.hb,h.ko,h.sp,h.so⟩
theorem Told.same {H:Hp} {r r2:Addr} {us:List Int} {lb:Str} {ws:List Str} (hw:ws.length≤100) {t o rr a b t2 o2 rr2 a2 b2:Addr} {os ks os2 ks2:List Nat} {ss ss2:List Str} (h:Told H r us lb ws t o rr a b os ks ss) (h2:Told H r2 us lb ws t2 o2 rr2 a2 b2 os2 ks2 ss2):SS H (.ref r) (.ref r2):=by
  obtain rfl:=h.oo.one h2.oo
  obtain rfl:=h.ko.one h2.ko
  obtain rfl:ss=ss2:=sorted_one h.so h2.so (h.sp.trans h2.sp.symm)
  obtain ⟨_,_,_,ok⟩:=id h.tr
  have m60:=ok.most
  have ol:=h.oo.len
  have kl:=h.ko.len
  have nl:(keptN ks).length < 10000:=by simp only [keptN,List.length_cons,List.length_map];omega
  refine .inr ⟨r,r2,[V.ref t,.ref o,.ref rr,.int (((unlS ss ss.length).length:Nat):Int)]++(ws.map fun z=>((cntW (wordsS us lb) z).length:Int)).map V.int,[V.ref t2,.ref o2,.ref rr2,.int (((unlS ss ss.length).length:Nat):Int)]++(ws.map fun z=>((cntW (wordsS us lb) z).length:Int)).map V.int,rfl,rfl,rfl,by rw [List.length_append,List.length_map,List.length_map];show 4+_ < _;omega,.inl ⟨h.ls,h2.ls⟩,fun i x y ex ey=>?_⟩
  match i with
  | 0=>cases ex;cases ey;exact same_tree h.tr h2.tr
  | 1=>cases ex;cases ey;exact same_lst (by unfold natV;rw [List.length_map];omega) (s1_nats _) h.ho h2.ho
  | 2=>cases ex;cases ey;exact same_rows (by rw [List.length_map];exact nl) (by rw [List.length_map];exact nl) (s1_bls _) (s1_bls _) h.hr h2.hr h.ha h2.ha h.hb h2.hb
  | 3=>cases ex;cases ey;exact .inl ⟨rfl,.inl ⟨_,rfl⟩⟩
  | i+4=>exact same_leaf (s1_ints _) (xs:=(ws.map fun z=>((cntW (wordsS us lb) z).length:Int)).map V.int) (i:=i) (by simpa using ex) (by simpa using ey)
section
variable {P:Program} {w:World} {K:PySem.W.Frag} {mg:Str→Option Value} {base:Heap} {k:Nat} {C:Addr}
def sp_told (C:Addr) (ls:List Lm):Sp:=fun vs H Q _=>∃ (x dx l tk wr:Addr) (us:List Int) (lb:Str) (ds:List V) (ws:List Str),vs=[.ref x,.ref wr]∧KpAt C H x dx l tk us lb ds∧H wr=some (.lst (ws.map V.str))∧ws.length≤60∧Lams ls H ∧
  ∀ (r o rr a b:Addr) (os ks:List Nat) (ss:List Str) (H':Hp),Kt ls H H'→H r=none→H o=none→Told H' r us lb ws tk o rr a b os ks ss→Q (.ref r) H'
theorem has_told {ls:List Lm} {fT fO fR fC fM:Addr} {dT dO dR dC dM:FuncData} (D:Df K mg "_law_told" s_law_told) (B:Blt7 mg) (T:Tx K mg C)
    (m_Keeper_tree_now:Meth K C "tree_now" fT) (F_T:Fun K "tree_now" "Keeper.tree_now" s_Keeper_tree_now fT dT) (m_Keeper_order_now:Meth K C "order_now" fO) (F_O:Fun K "order_now" "Keeper.order_now" s_Keeper_order_now fO dO) (m_Keeper_rows_now:Meth K C "rows_now" fR) (F_R:Fun K "rows_now" "Keeper.rows_now" s_Keeper_rows_now fR dR) (m_Keeper_count_now:Meth K C "count_now" fC) (F_C:Fun K "count_now" "Keeper.count_now" s_Keeper_count_now fC dC) (m_Keeper_many_now:Meth K C "many_now" fM) (F_M:Fun K "many_now" "Keeper.many_now" s_Keeper_many_now fM dM)
    (G_Keeper_tree_now:FnOk P w K mg base CX0 k fT dT ["self"] (sp_now C)) (G_Keeper_order_now:FnOk P w K mg base CX0 k fO dO ["self"] (sp_onow C ls)) (G_Keeper_rows_now:FnOk P w K mg base CX0 k fR dR ["self"] (sp_rnow C ls)) (G_Keeper_count_now:FnOk P w K mg base CX0 k fC dC ["self", "word"] (sp_cnow C)) (G_Keeper_many_now:FnOk P w K mg base CX0 k fM dM ["self"] (sp_mnow C)):Has P w K mg base "_law_told" (k+1) ["keeper", "words"] (sp_told C ls):=by
  have b_Keeper_tree_now:=F_T.binds (ps:=["self"]) (fun _ _ _ _ _ _ us hl=>match us,hl with | [_],_=>rfl)
  have b_Keeper_order_now:=F_O.binds (ps:=["self"]) (fun _ _ _ _ _ _ us hl=>match us,hl with | [_],_=>rfl)
  have b_Keeper_rows_now:=F_R.binds (ps:=["self"]) (fun _ _ _ _ _ _ us hl=>match us,hl with | [_],_=>rfl)
  have b_Keeper_count_now:=F_C.binds (ps:=["self", "word"]) (fun _ _ _ _ _ _ us hl=>match us,hl with | [_,_],_=>rfl)
  have b_Keeper_many_now:=F_M.binds (ps:=["self"]) (fun _ _ _ _ _ _ us hl=>match us,hl with | [_],_=>rfl)
  refine D.has sc_law_told (fun _ _ _ _ _ _ us hl=>match us,hl with | [_,_],_=>rfl) (fun vs H Q E h=>by obtain ⟨x,dx,l,tk,wr,us,lb,ds,ws,rfl,_⟩:=h;rfl) (fun f cdv A outer s H vs Q E hr h=>?_)
  obtain ⟨x,dx,l,tk,wr,us,lb,ds,ws,rfl,S,hw,w60,L,q⟩:=h
  refine ⟨_,(pss_cons (ps_set (i:=2) sc_law_told.nd rfl (by first | exact Or.inl rfl | exact Or.inr rfl) (pe_lst (pa_cons (pe_meth0 (pv 0) T.cl m_Keeper_tree_now G_Keeper_tree_now hr b_Keeper_tree_now .nil pass0) (pa_cons (pe_meth0 (pv 0) T.cl m_Keeper_order_now G_Keeper_order_now hr b_Keeper_order_now .nil pass0) (pa_cons (pe_meth0 (pv 0) T.cl m_Keeper_rows_now G_Keeper_rows_now hr b_Keeper_rows_now .nil pass0) (pa_cons (pe_meth0 (pv 0) T.cl m_Keeper_many_now G_Keeper_many_now hr b_Keeper_many_now .nil pass0) pa_nil))))))
  (pss_one (ps_ret (pe_op op_cat (pv 2) (pe_comp rfl (pi_list (pv 1)) (NL:=["word"]) (ix:=[0]) (csc (defScope s_law_told) N_law_told) (fun cl C s₃ H₃ fp pins=>⟨(pg_name (i:=0) (show List.Nodup (["word", "keeper"]:List Str) from by decide +kernel) rfl (by first | exact Or.inl rfl | exact Or.inr rfl)),pifs_nil,(pe_meth (pv 1) T.cl m_Keeper_count_now G_Keeper_count_now hr b_Keeper_count_now .nil pass0 (pa_cons (pv 0) pa_nil))⟩)))))),?_⟩
  refine ⟨_,rfl,x,dx,_,rfl,S.ob,f_no (by decide +kernel) (by decide +kernel),x,dx,l,tk,us,lb,ds,rfl,S,?_⟩
  refine ⟨_,rfl,x,dx,_,rfl,S.ob,f_no (by decide +kernel) (by decide +kernel),x,dx,l,tk,us,lb,ds,rfl,S,L,fun os o H1 oo k1 fo ho=>?_⟩
  have S1:=S.kt k1
  refine ⟨_,rfl,x,dx,_,rfl,S1.ob,f_no (by decide +kernel) (by decide +kernel),x,dx,l,tk,us,lb,ds,rfl,S1,k1.lam,fun ks rr a b H2 ko k2 fr hr2 ha2 hb2=>?_⟩
  have S2:=S1.kt k2
  refine ⟨_,rfl,x,dx,_,rfl,S2.ob,f_no (by decide +kernel) (by decide +kernel),x,dx,l,tk,us,lb,ds,rfl,S2,fun ss H3 hp hs s3=>?_⟩
  have kt3:=(k1.trans k2).same s3
  refine ⟨(by show 4≤sizeLine;decide),fun v hv=>?_⟩
  generalize hJ:upd H3 v _=H4
  have s4:Same H3 H4:=by rw [← hJ];exact (Same.refl H3).new hv
  have h4:H4 v=some (.lst [V.ref tk,.ref o,.ref rr,.int (((unlS ss ss.length).length:Nat):Int)]):=by rw [← hJ];exact upd_same
  clear hJ
  have kt4:=kt3.same s4
  have hw4:=kt4.lst hw
  have S4:=S.kt kt4
  refine ⟨_,rfl,_,rfl,wr,rfl,⟨_,SqL.of hw4⟩,fun acc hacc=>?_⟩
  refine comp_lst (xs:=ws.map V.str) (by rw [List.length_map];omega) (fun i ys HX=>HX acc=some (.lst ys)∧ys=((ws.take i).map fun z=>((cntW (wordsS us lb) z).length:Int)).map V.int∧Same H4 HX)
    (fun i ys HX h=>SqL.of (h.2.2 _ _ hw4)) (fun i ys HX h=>⟨h.1,by rw [h.2.1,List.length_map,List.length_map,List.length_take];exact Nat.min_le_left _ _⟩) ⟨upd_same,rfl,(Same.refl H4).new hacc⟩ ?_ ?_
  rotate_left
  · rintro i x0 ys HX hx ⟨g1,rfl,g3⟩
    rw [List.getElem?_map] at hx
    cases e:ws[i]? with
    | none=>rw [e] at hx;cases hx
    | some z=>
      rw [e] at hx
      cases hx
      refine ⟨rfl,?_⟩
      have SX:=S4.same g3
      refine ⟨_,rfl,x,dx,_,rfl,SX.ob,f_no (by decide +kernel) (by decide +kernel),_,rfl,x,dx,l,tk,us,lb,ds,z,rfl,SX,fun HY sY=>?_⟩
      refine ⟨sY _ _ g1,upd_same,?_,(g3.trans sY).write hacc⟩
      rw [List.take_add_one,e,List.map_append,List.map_append];rfl
  rintro ys H5 ⟨g5,rfl,s5⟩
  rw [List.length_map,List.take_length] at g5
  refine ⟨v,acc,_,_,rfl,rfl,s5 _ _ h4,g5,?_,fun r hr=>?_⟩
  · rw [List.length_map,List.length_map]
    show 4+_≤sizeLine
    exact Nat.le_of_lt (small1000 (by omega))
  have s6:Same H5 (upd H5 r (.lst ([V.ref tk,.ref o,.ref rr,.int (((unlS ss ss.length).length:Nat):Int)]++(ws.map fun z=>((cntW (wordsS us lb) z).length:Int)).map V.int))):=(Same.refl H5).new hr
  have s36:=(s4.trans s5).trans s6
  have kt5:=kt4.same s5
  exact q r o rr a b os ks ss _ (kt5.same s6) (kt5.here _ hr) fo ⟨upd_same,((S4.same s5).same s6).tr,s36 _ _ (s3 _ _ (k2.lst ho)),oo,s36 _ _ (s3 _ _ hr2),s36 _ _ (s3 _ _ ha2),s36 _ _ (s3 _ _ hb2),ko,hp,hs⟩
def sp_afresh (ls:List Lm):Sp:=fun vs H Q _=>∃ (tk wr:Addr) (us:List Int) (lb:Str) (ws:List Str),vs=[.ref tk,.ref wr]∧TreeAt H tk us lb∧H wr=some (.lst (ws.map V.str))∧ws.length≤60∧Lams ls H ∧
  ∀ (r o rr a b:Addr) (os ks:List Nat) (ss:List Str) (H':Hp),Kt ls H H'→H r=none→H o=none→Told H' r us lb ws tk o rr a b os ks ss→Q (.ref r) H'
theorem has_afresh {ls:List Lm} (D:Df K mg "_law_afresh" s_law_afresh) (B:Blt7 mg) (G_order_of:Has P w K mg base "order_of" k ["tree"] (sp_order ls)) (G_rows_of:Has P w K mg base "rows_of" k ["tree"] (sp_rows ls)) (G_count_words:Has P w K mg base "count_words" k ["tree"] sp_cw) (G_how_many:Has P w K mg base "how_many" k ["tree", "word"] sp_many):Has P w K mg base "_law_afresh" (k+1) ["tree", "words"] (sp_afresh ls):=by
  refine D.has sc_law_afresh (fun _ _ _ _ _ _ us hl=>match us,hl with | [_,_],_=>rfl) (fun vs H Q E h=>by obtain ⟨tk,wr,us,lb,ws,rfl,_⟩:=h;rfl) (fun f cdv A outer s H vs Q E hr h=>?_)
  obtain ⟨tk,wr,us,lb,ws,rfl,tr,hw,w60,L,q⟩:=h
  refine ⟨_,(pss_one (ps_ret (pe_op op_cat (pe_lst (pa_cons (pv 0) (pa_cons (pe_callH G_order_of hr rfl (pa_cons (pv 0) pa_nil)) (pa_cons (pe_callH G_rows_of hr rfl (pa_cons (pv 0) pa_nil)) (pa_cons (pe_callH G_count_words hr rfl (pa_cons (pv 0) pa_nil)) pa_nil))))) (pe_comp rfl (pi_list (pv 1)) (NL:=["word"]) (ix:=[0]) (csc (defScope s_law_afresh) N_law_afresh) (fun cl C s₃ H₃ fp pins=>⟨(pg_name (i:=0) (show List.Nodup (["word", "tree"]:List Str) from by decide +kernel) rfl (by first | exact Or.inl rfl | exact Or.inr rfl)),pifs_nil,(pe_callH G_how_many hr rfl (pa_cons (pv 1) (pa_cons (pv 0) pa_nil)))⟩))))),?_⟩
  have trk:∀ {H':Hp},Kt ls H H'→TreeAt H' tk us lb:=fun {H'} k=>TreeAt.of tr fun b xs e=>k.tup e
  refine ⟨_,rfl,_,rfl,tk,us,lb,rfl,tr,L,fun os o H1 oo k1 fo ho=>?_⟩
  refine ⟨_,rfl,tk,us,lb,rfl,trk k1,k1.lam,fun ks rr a b H2 ko k2 fr hr2 ha2 hb2=>?_⟩
  have k12:=k1.trans k2
  refine ⟨_,rfl,tk,us,lb,rfl,trk k12,fun ss H3 hp hs s3=>?_⟩
  have kt3:=k12.same s3
  refine ⟨(by show 4≤sizeLine;decide),fun v hv=>?_⟩
  generalize hJ:upd H3 v _=H4
  have s4:Same H3 H4:=by rw [← hJ];exact (Same.refl H3).new hv
  have h4:H4 v=some (.lst [V.ref tk,.ref o,.ref rr,.int (((unlS ss ss.length).length:Nat):Int)]):=by rw [← hJ];exact upd_same
  clear hJ
  have kt4:=kt3.same s4
  have hw4:=kt4.lst hw
  have tr4:=trk kt4
  refine ⟨_,rfl,wr,rfl,⟨_,SqL.of hw4⟩,fun acc hacc=>?_⟩
  refine comp_lst (xs:=ws.map V.str) (by rw [List.length_map];omega) (fun i ys HX=>HX acc=some (.lst ys)∧ys=((ws.take i).map fun z=>((cntW (wordsS us lb) z).length:Int)).map V.int∧Same H4 HX)
    (fun i ys HX h=>SqL.of (h.2.2 _ _ hw4)) (fun i ys HX h=>⟨h.1,by rw [h.2.1,List.length_map,List.length_map,List.length_take];exact Nat.min_le_left _ _⟩) ⟨upd_same,rfl,(Same.refl H4).new hacc⟩ ?_ ?_
  rotate_left
  · rintro i x0 ys HX hx ⟨g1,rfl,g3⟩
    rw [List.getElem?_map] at hx
    cases e:ws[i]? with
    | none=>rw [e] at hx;cases hx
    | some z=>
      rw [e] at hx
      cases hx
      refine ⟨rfl,?_⟩
      refine ⟨_,rfl,_,rfl,tk,us,lb,z,rfl,tr4.same g3,fun HY sY=>?_⟩
      refine ⟨sY _ _ g1,upd_same,?_,(g3.trans sY).write hacc⟩
      rw [List.take_add_one,e,List.map_append,List.map_append];rfl
  rintro ys H5 ⟨g5,rfl,s5⟩
  rw [List.length_map,List.take_length] at g5
  refine ⟨v,acc,_,_,rfl,rfl,s5 _ _ h4,g5,?_,fun r hr=>?_⟩
  · rw [List.length_map,List.length_map]
    show 4+_≤sizeLine
    exact Nat.le_of_lt (small1000 (by omega))
  have s6:Same H5 (upd H5 r (.lst ([V.ref tk,.ref o,.ref rr,.int (((unlS ss ss.length).length:Nat):Int)]++(ws.map fun z=>((cntW (wordsS us lb) z).length:Int)).map V.int))):=(Same.refl H5).new hr
  have s36:=(s4.trans s5).trans s6
  have kt5:=kt4.same s5
  exact q r o rr a b os ks ss _ (kt5.same s6) (kt5.here _ hr) fo ⟨upd_same,(tr4.same s5).same s6,s36 _ _ (s3 _ _ (k2.lst ho)),oo,s36 _ _ (s3 _ _ hr2),s36 _ _ (s3 _ _ ha2),s36 _ _ (s3 _ _ hb2),ko,hp,hs⟩
end
end S73
namespace S73
open PySem L2 W7
theorem Stp.two {ups:List Int} {lab:Str} {hs hs':List Hs} {d:Dd} (nb:d≠.back) {u1 u2:List Int} {l1 l2:Str} {h1 h2:List Hs} {n1 a1 b1 n2 a2 b2:Int} (x:Stp ups lab hs d u1 l1 h1 n1 a1 b1) (y:Stp ups lab hs' d u2 l2 h2 n2 a2 b2):u1=u2∧l1=l2∧n1=n2∧a1=a2∧b1=b2∧h1=hs++[⟨ups,lab,n1,a1,b1⟩]∧h2=hs'++[⟨ups,lab,n1,a1,b1⟩]:=by
  cases d with
  | back=>exact absurd rfl nb
  | take leaf=>
    obtain ⟨rfl,rfl,rfl,t1,rfl⟩:=x
    obtain ⟨rfl,rfl,rfl,t2,rfl⟩:=y
    obtain ⟨⟨os,ks,o,kk⟩,t1⟩:=t1
    obtain ⟨rfl,rfl⟩:=t1 os ks o kk
    obtain ⟨rfl,rfl⟩:=t2.2 os ks o kk
    exact ⟨rfl,rfl,rfl,rfl,rfl,rfl,rfl⟩
  | put above num z=>
    obtain ⟨bb,leaf,g1,e1,rfl,rfl,rfl,t1,rfl⟩:=x
    obtain ⟨bb',leaf',g2,e2,rfl,rfl,rfl,t2,rfl⟩:=y
    obtain rfl:bb=bb':=g1.one g2
    obtain rfl:leaf=leaf':=by rw [e1] at e2;omega
    obtain ⟨⟨os,ks,o,kk⟩,t1⟩:=t1
    obtain ⟨rfl,rfl⟩:=t1 os ks o kk
    obtain ⟨rfl,rfl⟩:=t2.2 os ks o kk
    exact ⟨rfl,rfl,rfl,rfl,rfl,rfl,rfl⟩
theorem DdOk.any {ups:List Int} {hs hs':List Hs} {d:Dd} (nb:d≠.back) (h:DdOk ups hs d):DdOk ups hs' d:=by
  cases d with
  | back=>exact absurd rfl nb
  | take n=>exact h
  | put a n z=>exact h
theorem KpAt.mv {C:Addr} {A:List Addr} {H H':Hp} {x dx l t:Addr} {ups:List Int} {lab:Str} {ds:List V} (S:KpAt C H x dx l t ups lab ds) (m:Mv A H H') (n:NT A H) (nx:x ∉ A) (nl:l ∉ A):KpAt C H' x dx l t ups lab ds:=
  ⟨m.keep _ _ (fun _ z=>by cases z) nx S.ob,m.lst nl S.dl,TreeAt.of S.tr (m.tu n)⟩
theorem Mv.ke {ls:List Lm} {x l:Addr} {H H':Hp} (k:Ke ls x l H H'):Mv [x,l] H H':=⟨fun b o t n e=>k.keep b o t (fun z=>n (by rw [z];simp)) (fun z=>n (by rw [z];simp)) e,k.here⟩
theorem Mv.kd {p:Addr} {c:Int} {H H':Hp} (k:Kd p c H H'):Mv [p] H H':=⟨fun b o _ n e=>k.keep b o (fun z=>n (by rw [z];simp)) e,fun _ e=>k.fresh e⟩
theorem deck_mv {p:Addr} {c:Int} {A:List Addr} {H H':Hp} (h:Deck H p c) (m:Mv A H H') (n:p ∉ A):Deck H' p c:=by
  obtain ⟨x,y,z,e,r⟩:=h
  exact ⟨x,y,z,m.lst n e,r⟩
theorem deck_nt {p:Addr} {c:Int} {H:Hp} (h:Deck H p c) (xs:List V):H p≠some (.tup xs):=fun e=>by
  obtain ⟨x,y,z,e',_⟩:=h
  rw [e'] at e;cases e
theorem KpAt.nt {C:Addr} {H:Hp} {x dx l t:Addr} {ups:List Int} {lab:Str} {ds:List V} (S:KpAt C H x dx l t ups lab ds):NT [x,l] H:=fun a ha xs e=>by
  rcases List.mem_cons.mp ha with rfl | ha
  · rw [S.ob] at e;cases e
  · obtain rfl:=List.mem_singleton.mp ha
    rw [S.dl] at e;cases e
structure Twin (ls:List Lm) (C p x dx l x2 dx2 l2 wr:Addr) (ws:List Str) (J H:Hp) (c:Int) (t t2:Addr) (us:List Int) (lb:Str) (ds ds2:List V) (hs hs2:List Hs):Prop where
  lam:Lams ls H
  dk:Deck H p c
  k1:KpAt C H x dx l t us lb ds
  k2:KpAt C H x2 dx2 l2 t2 us lb ds2
  d1:Deeds H ds hs
  d2:Deeds H ds2 hs2
  hw:H wr=some (.lst (ws.map V.str))
  mv:Mv [p,x,l,x2,l2] J H
section
variable {ls:List Lm} {C p x dx l x2 dx2 l2 wr:Addr} {ws:List Str} {J H H':Hp} {c c':Int} {t t2:Addr} {us:List Int} {lb:Str} {ds ds2:List V} {hs hs2:List Hs}
structure Five (p x l x2 l2 wr:Addr):Prop where
  px:p≠x
  pl:p≠l
  px2:p≠x2
  pl2:p≠l2
  xx:x≠x2
  xl:x≠l2
  lx:l≠x2
  ll:l≠l2
  wp:wr≠p
  wx:wr≠x
  wl:wr≠l
  wx2:wr≠x2
  wl2:wr≠l2
theorem Twin.nt (w:Twin ls C p x dx l x2 dx2 l2 wr ws J H c t t2 us lb ds ds2 hs hs2):NT [p,x,l,x2,l2] H:=fun a ha xs e=>by
  simp only [List.mem_cons,List.not_mem_nil,or_false] at ha
  rcases ha with rfl | rfl | rfl | rfl | rfl
  · exact deck_nt w.dk xs e
  · exact w.k1.nt _ (by simp) xs e
  · exact w.k1.nt _ (by simp) xs e
  · exact w.k2.nt _ (by simp) xs e
  · exact w.k2.nt _ (by simp) xs e
theorem Twin.kt (w:Twin ls C p x dx l x2 dx2 l2 wr ws J H c t t2 us lb ds ds2 hs hs2) (k:Kt ls H H'):Twin ls C p x dx l x2 dx2 l2 wr ws J H' c t t2 us lb ds ds2 hs hs2:=
  ⟨k.lam,deck_mv w.dk (Mv.kt (A:=[]) k) (by simp),w.k1.kt k,w.k2.kt k,w.d1.tu (Tu.kt k),w.d2.tu (Tu.kt k),k.lst w.hw,w.mv.trans (Mv.kt k)⟩
theorem Twin.same (w:Twin ls C p x dx l x2 dx2 l2 wr ws J H c t t2 us lb ds ds2 hs hs2) (s:Same H H'):Twin ls C p x dx l x2 dx2 l2 wr ws J H' c t t2 us lb ds ds2 hs hs2:=w.kt (Kt.of s w.lam)
theorem Twin.kd (w:Twin ls C p x dx l x2 dx2 l2 wr ws J H c t t2 us lb ds ds2 hs hs2) (f:Five p x l x2 l2 wr) (k:Kd p c' H H'):Twin ls C p x dx l x2 dx2 l2 wr ws J H' c' t t2 us lb ds ds2 hs hs2:=by
  have m:=Mv.kd k
  have nt:NT [p] H:=fun a ha xs e=>by rw [List.mem_singleton.mp ha] at e;exact deck_nt w.dk xs e
  have tu:=m.tu nt
  exact ⟨Lams.kd w.lam ⟨_,w.dk⟩ k,k.deck,w.k1.mv m nt (by simp;exact f.px.symm) (by simp;exact f.pl.symm),w.k2.mv m nt (by simp;exact f.px2.symm) (by simp;exact f.pl2.symm),w.d1.tu tu,w.d2.tu tu,m.lst (by simp;exact f.wp) w.hw,w.mv.trans (m.mono (by simp))⟩
theorem Twin.ke1 {us2:List Int} {lb2:Str} (f:Five p x l x2 l2 wr) (lam:Lams ls H) (dk:Deck H p c) (S:KpAt C H x dx l t us lb ds) (S2:KpAt C H x2 dx2 l2 t2 us2 lb2 ds2) (D2:Deeds H ds2 hs2) (hw:H wr=some (.lst (ws.map V.str))) (mv:Mv [p,x,l,x2,l2] J H) (k:Ke ls x l H H') :
    Lams ls H'∧Deck H' p c∧KpAt C H' x2 dx2 l2 t2 us2 lb2 ds2∧Deeds H' ds2 hs2∧H' wr=some (.lst (ws.map V.str))∧Mv [p,x,l,x2,l2] J H':=by
  have m:=Mv.ke k
  have nt:=S.nt
  exact ⟨k.lam,deck_mv dk m (by simp;exact ⟨f.px,f.pl⟩),S2.mv m nt (by simp;exact ⟨f.xx.symm,f.lx.symm⟩) (by simp;exact ⟨f.xl.symm,f.ll.symm⟩),D2.tu (m.tu nt),m.lst (by simp;exact ⟨f.wx,f.wl⟩) hw,mv.trans (m.mono (by simp))⟩
theorem Twin.ke2 {us2:List Int} {lb2:Str} (f:Five p x l x2 l2 wr) (lam:Lams ls H) (dk:Deck H p c) (S:KpAt C H x dx l t us lb ds) (S2:KpAt C H x2 dx2 l2 t2 us2 lb2 ds2) (D1:Deeds H ds hs) (hw:H wr=some (.lst (ws.map V.str))) (mv:Mv [p,x,l,x2,l2] J H) (k:Ke ls x2 l2 H H') :
    Lams ls H'∧Deck H' p c∧KpAt C H' x dx l t us lb ds∧Deeds H' ds hs∧H' wr=some (.lst (ws.map V.str))∧Mv [p,x,l,x2,l2] J H':=by
  have m:=Mv.ke k
  have nt:=S2.nt
  exact ⟨k.lam,deck_mv dk m (by simp;exact ⟨f.px2,f.pl2⟩),S.mv m nt (by simp;exact ⟨f.xx,f.xl⟩) (by simp;exact ⟨f.lx,f.ll⟩),D1.tu (m.tu nt),m.lst (by simp;exact ⟨f.wx2,f.wl2⟩) hw,mv.trans (m.mono (by simp))⟩
end
section
variable {P:Program} {w:World} {K:PySem.W.Frag} {mg:Str→Option Value} {base:Heap} {k:Nat} {C:Addr}
def sp_right (C:Addr) (ls:List Lm):Sp:=fun vs H Q _=>∃ (p x dx l tk:Addr) (us:List Int) (lb:Str) (ds:List V) (hs:List Hs) (c:Int),vs=[.ref p,.ref x]∧Deck H p c∧0≤c∧c < 600000∧KpAt C H x dx l tk us lb ds∧Deeds H ds hs∧ds.length < 7000∧GrOk us∧(∀ y∈lb.cps.toList,Lw y)∧p≠x∧p≠l∧Lams ls H ∧
  ∀ (tk':Addr) (ds':List V) (H':Hp),Lams ls H'→Deck H' p (c+13)→KpAt C H' x dx l tk' us lb ds'→Deeds H' ds' hs→Mv [p,x,l] H H'→Q (.bl true) H'
theorem has_right {ls:List Lm} {fI fT fB:Addr} {dI dT dB:FuncData} (D:Df K mg "_law_right" s_law_right) (B:Blt7 mg) (T:Tx K mg C) (Mk_Keeper:Mk K C fI) (F_I:Fun K "__init__" "Keeper.__init__" s_Keeper___init__ fI dI) (m_Keeper_tree_now:Meth K C "tree_now" fT) (F_T:Fun K "tree_now" "Keeper.tree_now" s_Keeper_tree_now fT dT) (m_Keeper_back:Meth K C "back" fB) (F_B:Fun K "back" "Keeper.back" s_Keeper_back fB dB)
    (G_Keeper___init__:FnOk P w K mg base CX0 k fI dI ["self", "tree"] (sp_init C)) (G_Keeper_tree_now:FnOk P w K mg base CX0 (k+1) fT dT ["self"] (sp_now C)) (G_Keeper_back:FnOk P w K mg base CX0 (k+1) fB dB ["self"] (sp_back C ls)) (G_law_seek:Has P w K mg base "_law_seek" (k+1) ["pool", "tree"] sp_seek) (G_law_told:Has P w K mg base "_law_told" (k+1) ["keeper", "words"] (sp_told C ls)) (G_law_afresh:Has P w K mg base "_law_afresh" (k+1) ["tree", "words"] (sp_afresh ls)) (G_is_tree:Has P w K mg base "is_tree" (k+1) ["thing"] R.sp_ist)
    (G_law_same:Has P w K mg base "_law_same" (k+1) ["found", "due"] (sp_sm SS)) (G_law_deed:Has P w K mg base "_law_deed" (k+1) ["pool", "tree", "stood"] sp_deed) (G_law_ask:Has P w K mg base "_law_ask" (k+1) ["keeper", "deed"] (sp_ask C ls)):Has P w K mg base "_law_right" (k+1+1) ["pool", "keeper"] (sp_right C ls):=by
  have b_Keeper___init__:=F_I.binds (ps:=["self", "tree"]) (fun _ _ _ _ _ _ us hl=>match us,hl with | [_,_],_=>rfl)
  have b_Keeper_tree_now:=F_T.binds (ps:=["self"]) (fun _ _ _ _ _ _ us hl=>match us,hl with | [_],_=>rfl)
  have b_Keeper_back:=F_B.binds (ps:=["self"]) (fun _ _ _ _ _ _ us hl=>match us,hl with | [_],_=>rfl)
  refine D.has sc_law_right (fun _ _ _ _ _ _ us hl=>match us,hl with | [_,_],_=>rfl) (fun vs H Q E h=>by obtain ⟨p,x,dx,l,tk,us,lb,ds,hs,c,rfl,_⟩:=h;rfl) (fun f cdv A outer s H vs Q E hr h=>?_)
  obtain ⟨p,x,dx,l,tk,us,lb,ds,hs,c,rfl,dk,c0,c6,S,D1,d7,gr,low,px,pl,L,q⟩:=h
  refine ⟨_,(pss_cons (ps_set (i:=2) sc_law_right.nd rfl (by first | exact Or.inl rfl | exact Or.inr rfl) (pe_meth0 (pv 1) T.cl m_Keeper_tree_now G_Keeper_tree_now hr b_Keeper_tree_now .nil pass0))
  (pss_cons (ps_set (i:=3) sc_law_right.nd rfl (by first | exact Or.inl rfl | exact Or.inr rfl) (pe_lst (pa_cons pe_str (pa_cons (pe_callH G_law_seek hr rfl (pa_cons (pv 0) (pa_cons (pv 2) pa_nil))) pa_nil))))
  (pss_cons (ps_set (i:=4) sc_law_right.nd rfl (by first | exact Or.inl rfl | exact Or.inr rfl) (pe_make Mk_Keeper G_Keeper___init__ hr rfl T.mgC b_Keeper___init__ .nil pass0 (pa_cons (pv 2) pa_nil)))
  (pss_cons (ps_set (i:=5) sc_law_right.nd rfl (by first | exact Or.inl rfl | exact Or.inr rfl) (pe_callH G_law_told hr rfl (pa_cons (pv 1) (pa_cons (pv 3) pa_nil))))
  (pss_cons (ps_if (PW.pt (pw_or (pt_not (pt_val (pe_callH G_is_tree hr rfl (pa_cons (pv 2) pa_nil)))) (pw_or1 (pt_not (pt_val (pe_callH G_law_same hr rfl (pa_cons (pv 5) (pa_cons (pe_callH G_law_afresh hr rfl (pa_cons (pv 2) (pa_cons (pv 3) pa_nil))) pa_nil))))))))
  (pss_one (ps_ret pe_bl))
  pss_nil)
  (pss_cons (ps_if (pt_not (pt_val (pe_callH G_law_same hr rfl (pa_cons (pe_callH G_law_told hr rfl (pa_cons (pv 4) (pa_cons (pv 3) pa_nil))) (pa_cons (pe_callH G_law_told hr rfl (pa_cons (pv 1) (pa_cons (pv 3) pa_nil))) pa_nil)))))
  (pss_one (ps_ret pe_bl))
  pss_nil)
  (pss_cons (ps_set (i:=6) sc_law_right.nd rfl (by first | exact Or.inl rfl | exact Or.inr rfl) (pe_callH G_law_deed hr rfl (pa_cons (pv 0) (pa_cons (pv 2) (pa_cons (pe_lst pa_nil) pa_nil)))))
  (pss_cons (ps_if (pt_not (pt_val (pe_callH G_law_same hr rfl (pa_cons (pe_callH G_law_ask hr rfl (pa_cons (pv 1) (pa_cons (pv 6) pa_nil))) (pa_cons (pe_callH G_law_ask hr rfl (pa_cons (pv 4) (pa_cons (pv 6) pa_nil))) pa_nil)))))
  (pss_one (ps_ret pe_bl))
  pss_nil)
  (pss_cons (ps_if (pt_not (pt_val (pe_callH G_law_same hr rfl (pa_cons (pe_callH G_law_told hr rfl (pa_cons (pv 1) (pa_cons (pv 3) pa_nil))) (pa_cons (pe_callH G_law_told hr rfl (pa_cons (pv 4) (pa_cons (pv 3) pa_nil))) pa_nil)))))
  (pss_one (ps_ret pe_bl))
  pss_nil)
  (pss_cons (ps_if (pt_not (pt_val (pe_callH G_law_same hr rfl (pa_cons (pe_meth0 (pv 1) T.cl m_Keeper_back G_Keeper_back hr b_Keeper_back .nil pass0) (pa_cons (pe_meth0 (pv 4) T.cl m_Keeper_back G_Keeper_back hr b_Keeper_back .nil pass0) pa_nil)))))
  (pss_one (ps_ret pe_bl))
  pss_nil)
  (pss_one (ps_ret (pe_and (pe_callH G_law_same hr rfl (pa_cons (pe_callH G_law_told hr rfl (pa_cons (pv 1) (pa_cons (pv 3) pa_nil))) (pa_cons (pv 5) pa_nil))) (pe_one (pe_callH G_law_same hr rfl (pa_cons (pe_callH G_law_told hr rfl (pa_cons (pv 4) (pa_cons (pv 3) pa_nil))) (pa_cons (pv 5) pa_nil))))))))))))))))),?_⟩
  obtain ⟨u,ht,hu,ok⟩:=id S.tr
  have m60:=ok.most
  have lpos:=ok.pos
  refine ⟨_,rfl,x,dx,_,rfl,S.ob,f_no (by decide +kernel) (by decide +kernel),x,dx,l,tk,us,lb,ds,rfl,S,?_⟩
  refine ⟨_,rfl,_,rfl,p,tk,us,lb,c,rfl,dk,c0,by omega,S.tr,fun z H1 zl kd1=>?_⟩
  have m1:=Mv.kd kd1
  have nt1:NT [p] H:=fun a ha xs e=>by rw [List.mem_singleton.mp ha] at e;exact deck_nt dk xs e
  have S1:=S.mv m1 nt1 (by simp;exact px.symm) (by simp;exact pl.symm)
  have L1:=Lams.kd L ⟨_,dk⟩ kd1
  have D11:=D1.tu (m1.tu nt1)
  refine ⟨(by show 2≤sizeLine;decide),fun wr hwr=>?_⟩
  generalize hJ:upd H1 wr _=H2
  have s2:Same H1 H2:=by rw [← hJ];exact (Same.refl H1).new hwr
  have h2:H2 wr=some (.lst ([Str.ofString "", z].map V.str)):=by rw [← hJ];exact upd_same
  clear hJ
  have S2:=S1.same s2
  refine ⟨_,rfl,fun x2 dx2 nx ndx nex=>?_⟩
  have sK:Same H2 (upd (upd H2 dx2 (.own x2)) x2 (.ins C dx2 [])):=fun b o e=>by
    rw [upd_ne (ne_of_none e nx),upd_ne (ne_of_none e ndx)]
    exact e
  refine ⟨x2,dx2,tk,us,lb,rfl,upd_same,S2.tr.same sK,fun l2 H3 fl S3' kp=>⟨rfl,?_⟩⟩
  have s3:Same H2 H3:=fun b o e=>kp b o (sK b o e) (ne_of_none e nx)
  have fl2:H2 l2=none:=sK.free fl
  have S3:=S2.same s3
  have dk2:Deck H2 p (c+5):=Deck.same kd1.deck s2
  have pe:∃ o,H2 p=some o:=by obtain ⟨_,_,_,e,_⟩:=dk2;exact ⟨_,e⟩
  have fv:Five p x l x2 l2 wr:=by
    obtain ⟨o,po⟩:=pe
    have w1:∀ {b o},H1 b=some o→wr≠b:=fun e=>(ne_of_none e hwr).symm
    refine ⟨px,pl,ne_of_none po nx,ne_of_none po fl2,ne_of_none S2.ob nx,ne_of_none S2.ob fl2,ne_of_none S2.dl nx,ne_of_none S2.dl fl2,?_,w1 S1.ob,w1 S1.dl,ne_of_none h2 nx,ne_of_none h2 fl2⟩
    obtain ⟨_,_,_,e,_⟩:=kd1.deck
    exact w1 e
  have T3:Twin ls C p x dx l x2 dx2 l2 wr [Str.ofString "", z] H3 H3 (c+5) tk tk us lb ds [] hs []:=⟨(L1.same s2).same s3,Deck.same dk2 s3,S3,S3',(D11.tu (Tu.of s2)).tu (Tu.of s3),Deeds.nil,s3 _ _ h2,Mv.refl⟩
  refine ⟨_,rfl,_,rfl,x,dx,l,tk,wr,us,lb,ds,_,rfl,T3.k1,T3.hw,by show 2≤60;decide,T3.lam,fun r1 o1 rr1 a1 b1 os1 ks1 ss1 H4 k4 fr1 fo1 t1=>?_⟩
  have nin:∀ {r:Addr},H3 r=none→r ∉ [p,x,l,x2,l2]:=fun {r} e m=>by
    simp only [List.mem_cons,List.not_mem_nil,or_false] at m
    obtain ⟨_,_,_,ep,_⟩:=T3.dk
    rcases m with rfl | rfl | rfl | rfl | rfl
    · rw [ep] at e;cases e
    · rw [T3.k1.ob] at e;cases e
    · rw [T3.k1.dl] at e;cases e
    · rw [T3.k2.ob] at e;cases e
    · rw [T3.k2.dl] at e;cases e
  have w100:[Str.ofString "", z].length≤100:=by show 2≤100;decide
  have nr1:=nin fr1
  have no1:=nin fo1
  have T4:=T3.kt k4
  obtain ⟨u4,ht4,hu4,_⟩:=id T4.k1.tr
  have hlab:us.length=lb.length:=by rw [ok.len];simp [Str.length]
  refine ⟨_,rfl,tk,u4,us,lb,rfl,ht4,hu4,hlab,lpos,m60,low,fun bb H5 s5 hb=>?_⟩
  obtain rfl:bb=true:=hb.mpr (gr_R gr)
  refine ⟨_,rfl,L2.iteB rfl ?_⟩
  have T5:=T4.same s5
  refine ⟨_,rfl,_,rfl,_,rfl,tk,wr,us,lb,_,rfl,T5.k1.tr,T5.hw,by show 2≤60;decide,T5.lam,fun r2 o2 rr2 a2 b2 os2 ks2 ss2 H6 k6 fr2 fo2 t2=>?_⟩
  have T6:=T5.kt k6
  have t16:=t1.mv ((Mv.of s5).trans (Mv.kt k6)) T4.nt nr1 no1
  refine ⟨.ref r1,.ref r2,rfl,t16.same w100 t2,fun H7 s7=>⟨_,rfl,iteF ?_⟩⟩
  have T7:=T6.same s7
  have t17:=t16.mv (Mv.of s7) T6.nt nr1 no1
  refine ⟨_,rfl,_,rfl,x2,dx2,l2,tk,wr,us,lb,[],_,rfl,T7.k2,T7.hw,by show 2≤60;decide,T7.lam,fun r3 o3 rr3 a3 b3 os3 ks3 ss3 H8 k8 fr3 fo3 t3=>?_⟩
  have T8:=T7.kt k8
  refine ⟨_,rfl,_,rfl,x,dx,l,tk,wr,us,lb,ds,_,rfl,T8.k1,T8.hw,by show 2≤60;decide,T8.lam,fun r4 o4 rr4 a4 b4 os4 ks4 ss4 H9 k9 fr4 fo4 t4=>?_⟩
  have T9:=T8.kt k9
  have t39:=t3.mv (A:=[]) (Mv.kt k9) (fun a ha=>by cases ha) (by simp) (by simp)
  refine ⟨.ref r3,.ref r4,rfl,t39.same w100 t4,fun HA sA=>⟨_,rfl,iteF ?_⟩⟩
  have TA:=T9.same sA
  have t1A:=((t17.mv (Mv.kt k8) T7.nt nr1 no1).mv (Mv.kt k9) T8.nt nr1 no1).mv (Mv.of sA) T9.nt nr1 no1
  refine ⟨_,rfl,_,rfl,(by show 0≤sizeLine;decide),fun q0 hq0=>?_⟩
  generalize hJ:upd HA q0 _=HB
  have sB:Same HA HB:=by rw [← hJ];exact (Same.refl HA).new hq0
  have hB:HB q0=some (.lst []):=by rw [← hJ];exact upd_same
  clear hJ
  have TB:=TA.same sB
  have pq:p≠q0:=by
    obtain ⟨_,_,_,ep,_⟩:=TA.dk
    exact ne_of_none ep hq0
  refine ⟨p,tk,q0,us,lb,_,[],[],rfl,TB.dk,by omega,by omega,TB.k1.tr,low,pq,hB,rfl,fun d dd HC kdC fd' dat dok=>?_⟩
  have nb:dd≠.back:=fun e=>by rw [e] at dok;exact absurd rfl dok
  have TC:=TB.kd fv kdC
  have t1C:=(t1A.mv (Mv.of sB) TA.nt nr1 no1).mv ((Mv.kd kdC).mono (by simp)) TB.nt nr1 no1
  refine ⟨_,rfl,_,rfl,x,dx,l,tk,d,us,lb,ds,hs,dd,rfl,TC.k1,TC.d1,dat,dok.any nb,TC.lam,by omega,fun r5 tk5 u5 lb5 ds5 hs5 n5 a5 b5 HD S5 ke5 D5 h5 st5=>?_⟩
  have mD:=Mv.ke ke5
  obtain ⟨LD,dkD,S2D,D2D,hwD,mvD⟩:=Twin.ke1 fv TC.lam TC.dk TC.k1 TC.k2 TC.d2 TC.hw TC.mv ke5
  have t1D:=t1C.mv (mD.mono (by simp)) TC.nt nr1 no1
  have datD:=dat.tu (mD.tu TC.k1.nt)
  refine ⟨_,rfl,_,rfl,x2,dx2,l2,tk,d,us,lb,[],[],dd,rfl,S2D,D2D,datD,dok.any nb,LD,by decide,fun r6 tk6 u6 lb6 ds6 hs6 n6 a6 b6 HE S6 ke6 D6 h6 st6=>?_⟩
  obtain ⟨rfl,rfl,rfl,rfl,rfl,eh5,eh6⟩:=st5.two nb st6
  obtain ⟨LE,dkE,S5E,D5E,hwE,mvE⟩:=Twin.ke2 fv LD dkD S5 S2D D5 hwD mvD ke6
  have mE:=Mv.ke ke6
  have ntD:NT [p,x,l,x2,l2] HD:=fun a ha xs e=>by
    simp only [List.mem_cons,List.not_mem_nil,or_false] at ha
    rcases ha with rfl | rfl | rfl | rfl | rfl
    · exact deck_nt dkD xs e
    · exact S5.nt _ (by simp) xs e
    · exact S5.nt _ (by simp) xs e
    · exact S2D.nt _ (by simp) xs e
    · exact S2D.nt _ (by simp) xs e
  have t1E:=t1D.mv (mE.mono (by simp)) ntD nr1 no1
  have TE:Twin ls C p x dx l x2 dx2 l2 wr [Str.ofString "", z] H3 HE (c+5+8) tk5 tk6 u5 lb5 ds5 ds6 hs5 hs6:=⟨LE,dkE,S5E,S6,D5E,D6,hwE,mvE⟩
  have h5E:=mE.tu S2D.nt _ _ h5
  refine ⟨.ref r5,.ref r6,rfl,same_tup (xs:=[V.int n5,.int a5,.int b5]) (by show 3 < 10000;decide) (s1_ints [n5,a5,b5]) h5E h6,fun HF sF=>⟨_,rfl,iteF ?_⟩⟩
  have TF:=TE.same sF
  have t1F:=t1E.mv (Mv.of sF) TE.nt nr1 no1
  refine ⟨_,rfl,_,rfl,x,dx,l,tk5,wr,u5,lb5,ds5,_,rfl,TF.k1,TF.hw,by show 2≤60;decide,TF.lam,fun r7 o7 rr7 a7 b7 os7 ks7 ss7 HG kG fr7 fo7 t7=>?_⟩
  have TG:=TF.kt kG
  refine ⟨_,rfl,_,rfl,x2,dx2,l2,tk6,wr,u5,lb5,ds6,_,rfl,TG.k2,TG.hw,by show 2≤60;decide,TG.lam,fun r8 o8 rr8 a8 b8 os8 ks8 ss8 HH kH fr8 fo8 t8=>?_⟩
  have TH:=TG.kt kH
  have t7H:=t7.mv (A:=[]) (Mv.kt kH) (fun a ha=>by cases ha) (by simp) (by simp)
  refine ⟨.ref r7,.ref r8,rfl,t7H.same w100 t8,fun HI sI=>⟨_,rfl,iteF ?_⟩⟩
  have TI:=TH.same sI
  have t1I:=((t1F.mv (Mv.kt kG) TF.nt nr1 no1).mv (Mv.kt kH) TG.nt nr1 no1).mv (Mv.of sI) TH.nt nr1 no1
  have DI1:=TI.d1
  rw [eh5] at DI1
  obtain ⟨ds',dv,rfl,Da,⟨e1,t01,r01,rfl,he1,tr01,hr01⟩⟩:=DI1.pop
  have DI2:=TI.d2
  rw [eh6] at DI2
  obtain ⟨ds2',dv2,rfl,Db,⟨e2,t02,r02,rfl,he2,tr02,hr02⟩⟩:=DI2.pop
  have la:=Da.1
  have lb':=Db.1
  have ld:=D1.1
  refine ⟨_,rfl,x,dx,_,rfl,TI.k1.ob,f_no (by decide +kernel) (by decide +kernel),x,dx,l,tk5,u5,lb5,ds',e1,t01,r01,rfl,TI.k1,he1,TI.lam,by omega,fun HJ hxJ hlJ keJ=>?_⟩
  have mJ:=Mv.ke keJ
  have tuJ:=mJ.tu TI.k1.nt
  have SJ:KpAt C HJ x dx l t01 us lb ds':=⟨hxJ,hlJ,TreeAt.of tr01 tuJ⟩
  obtain ⟨LJ,dkJ,S2J,D2J,hwJ,mvJ⟩:=Twin.ke1 fv TI.lam TI.dk TI.k1 TI.k2 TI.d2 TI.hw TI.mv keJ
  have t1J:=t1I.mv (mJ.mono (by simp)) TI.nt nr1 no1
  refine ⟨_,rfl,x2,dx2,_,rfl,S2J.ob,f_no (by decide +kernel) (by decide +kernel),x2,dx2,l2,tk6,u5,lb5,ds2',e2,t02,r02,rfl,S2J,tuJ _ _ he2,LJ,by rw [lb'];decide,fun HK hxK hlK keK=>?_⟩
  have mK:=Mv.ke keK
  have tuK:=mK.tu S2J.nt
  have S2K:KpAt C HK x2 dx2 l2 t02 us lb ds2':=⟨hxK,hlK,TreeAt.of (TreeAt.of tr02 tuJ) tuK⟩
  obtain ⟨LK,dkK,SK,D1K,hwK,mvK⟩:=Twin.ke2 fv LJ dkJ SJ S2J (Da.tu tuJ) hwJ mvJ keK
  have ntJ:NT [p,x,l,x2,l2] HJ:=fun a ha xs e=>by
    simp only [List.mem_cons,List.not_mem_nil,or_false] at ha
    rcases ha with rfl | rfl | rfl | rfl | rfl
    · exact deck_nt dkJ xs e
    · exact SJ.nt _ (by simp) xs e
    · exact SJ.nt _ (by simp) xs e
    · exact S2J.nt _ (by simp) xs e
    · exact S2J.nt _ (by simp) xs e
  have t1K:=t1J.mv (mK.mono (by simp)) ntJ nr1 no1
  have TK:Twin ls C p x dx l x2 dx2 l2 wr [Str.ofString "", z] H3 HK (c+5+8) t01 t02 us lb ds' ds2' hs []:=⟨LK,dkK,SK,S2K,D1K,(Db.tu tuJ).tu tuK,hwK,mvK⟩
  refine ⟨.ref r01,.ref r02,rfl,same_tup (xs:=[V.int n5,.int a5,.int b5]) (by show 3 < 10000;decide) (s1_ints [n5,a5,b5]) (tuK _ _ (tuJ _ _ hr01)) (tuK _ _ (tuJ _ _ hr02)),fun HL sL=>⟨_,rfl,iteF ?_⟩⟩
  have TL:=TK.same sL
  have t1L:=t1K.mv (Mv.of sL) TK.nt nr1 no1
  refine ⟨_,rfl,_,rfl,x,dx,l,t01,wr,us,lb,ds',_,rfl,TL.k1,TL.hw,by show 2≤60;decide,TL.lam,fun r9 o9 rr9 a9 b9 os9 ks9 ss9 HM kM fr9 fo9 t9=>?_⟩
  have TM:=TL.kt kM
  have t1M:=t1L.mv (Mv.kt kM) TL.nt nr1 no1
  refine ⟨_,rfl,.ref r9,.ref r1,rfl,t9.same w100 t1M,fun HN sN=>⟨_,rfl,iteT ?_⟩⟩
  have TN:=TM.same sN
  have t1N:=t1M.mv (Mv.of sN) TM.nt nr1 no1
  refine ⟨_,rfl,_,rfl,x2,dx2,l2,t02,wr,us,lb,ds2',_,rfl,TN.k2,TN.hw,by show 2≤60;decide,TN.lam,fun rA oA rrA aA bA osA ksA ssA HO kO frA foA tA=>?_⟩
  have TO:=TN.kt kO
  have t1O:=t1N.mv (Mv.kt kO) TN.nt nr1 no1
  refine ⟨_,rfl,.ref rA,.ref r1,rfl,tA.same w100 t1O,fun HP sP=>?_⟩
  have TP:=TO.same sP
  refine q t01 ds' HP TP.lam (by have:=TP.dk;rwa [show c+5+8=c+13 by omega] at this) TP.k1 TP.d1 ⟨fun b o t n e=>?_,fun b e=>?_⟩
  · have e1:=m1.keep b o t (fun y=>n (by rw [List.mem_singleton.mp y];simp)) e
    have e2:=s2 _ _ e1
    refine TP.mv.keep b o t (fun y=>?_) (s3 _ _ e2)
    simp only [List.mem_cons,List.not_mem_nil,or_false] at y n
    rcases y with y | y | y | y | y
    · exact n (.inl y)
    · exact n (.inr (.inl y))
    · exact n (.inr (.inr y))
    · rw [y,nx] at e2;cases e2
    · rw [y,fl2] at e2;cases e2
  · exact m1.here b (s2.free (s3.free (TP.mv.here b e)))
end
end S73
namespace S73
open PySem L2 W7
def lamsOf (Ts:List Addr):List Lm:=[(Ts.getD 0 0,lpO,qO),(Ts.getD 1 0,lpK,qK)]
theorem lm_ok (Ts:List Addr):LmOk (lamsOf Ts):=by
  intro l hl m hm
  simp only [lamsOf,List.mem_cons,List.not_mem_nil,or_false] at hl hm
  rcases hl with rfl | rfl <;> rcases hm with rfl | rfl
  · exact .inl rfl
  · exact .inr (show ¬ (_∧_) from by dsimp only;decide)
  · exact .inr (show ¬ (_∧_) from by dsimp only;decide)
  · exact .inl rfl
theorem lams_start {Ts:List Addr} {H:Hp} (hl:Ts.length=2) (h:∀ T∈Ts,H T=some (.tbl #[])):Lams (lamsOf Ts) H:=by
  match Ts,hl with
  | [T1,T2],_=>
    intro l hl
    simp only [lamsOf,List.mem_cons,List.not_mem_nil,or_false] at hl
    rcases hl with rfl | rfl
    · exact LamAt.start (h T1 (by simp))
    · exact LamAt.start (h T2 (by simp))
theorem cutL_low {lab:Str} {leaf:Nat} (h:∀ c∈lab.cps.toList,Lw c):∀ c∈(cutL lab leaf).cps.toList,Lw c:=fun c hc=>by
  unfold cutL at hc
  rw [mk_cps] at hc
  exact h c (List.mem_of_mem_eraseIdx hc)
structure One (C:Addr) (H:Hp) (x dx l q tk:Addr) (us:List Int) (lb:Str) (ds es:List V) (hs:List Hs) (u0:List Int) (l0:Str):Prop where
  kp:KpAt C H x dx l tk us lb ds
  dd:Deeds H ds hs
  sl:H q=some (.lst es)
  el:es.length=hs.length
  gr:GrOk us
  low:∀ c∈lb.cps.toList,Lw c
  hg:∀ h∈hs,GrOk h.us∧∀ c∈h.lb.cps.toList,Lw c
  fs:((hs.map fun h=>(h.us,h.lb))++[(us,lb)]).head?=some (u0,l0)
section
variable {ls:List Lm} {C x dx l q tk:Addr} {us:List Int} {lb:Str} {ds es:List V} {hs:List Hs} {u0:List Int} {l0:Str} {H H':Hp} {A:List Addr}
theorem One.mv (o:One C H x dx l q tk us lb ds es hs u0 l0) (m:Mv A H H') (n:NT A H) (nx:x ∉ A) (nl:l ∉ A) (nq:q ∉ A):One C H' x dx l q tk us lb ds es hs u0 l0:=
  ⟨o.kp.mv m n nx nl,o.dd.tu (m.tu n),m.lst nq o.sl,o.el,o.gr,o.low,o.hg,o.fs⟩
theorem One.kt (o:One C H x dx l q tk us lb ds es hs u0 l0) (k:Kt ls H H'):One C H' x dx l q tk us lb ds es hs u0 l0:=o.mv (A:=[]) (Mv.kt k) (fun a ha=>by cases ha) (by simp) (by simp) (by simp)
theorem head_app {α:Type} {a b:List α} (h:a≠[]):(a++b).head?=a.head?:=by
  cases a with
  | nil=>exact absurd rfl h
  | cons x a=>rfl
theorem One.step (o:One C H x dx l q tk us lb ds es hs u0 l0) {dd:Dd} (dok:DdOk us hs dd) {tk':Addr} {us':List Int} {lb':Str} {ds' es':List V} {hs':List Hs} {n a b:Int} (S:KpAt C H' x dx l tk' us' lb' ds') (D:Deeds H' ds' hs') (sl:H' q=some (.lst es')) (el:es'.length=hs'.length) (st:Stp us lb hs dd us' lb' hs' n a b):One C H' x dx l q tk' us' lb' ds' es' hs' u0 l0:=by
  obtain ⟨_,_,_,ok⟩:=id o.kp.tr
  obtain ⟨_,_,_,ok'⟩:=id S.tr
  have fs:=o.fs
  cases dd with
  | back=>
    obtain ⟨h,e,e1,e2,_⟩:=st
    have hm:h∈hs:=by rw [e];simp
    refine ⟨S,D,sl,el,by rw [e1];exact (o.hg h hm).1,by rw [e2];exact (o.hg h hm).2,fun h' hh=>o.hg h' (by rw [e];exact List.mem_append_left _ hh),?_⟩
    rw [e,List.map_append,head_app (by simp)] at fs
    rw [e1,e2];exact fs
  | take m=>
    obtain ⟨e1,e2,_,_,e⟩:=st
    refine ⟨S,D,sl,el,?_,by rw [e2];exact cutL_low o.low,fun h' hh=>?_,?_⟩
    · rw [e1] at ok' ⊢
      exact o.gr.prune ok ok' dok.1 dok.2.1 dok.2.2
    · rw [e] at hh
      rcases List.mem_append.mp hh with z | z
      · exact o.hg h' z
      · rw [List.mem_singleton.mp z];exact ⟨o.gr,o.low⟩
    · rw [e,List.map_append,head_app (by simp)];exact fs
  | put ab num z=>
    obtain ⟨bb,leaf,g1,ee,e1,e2,_,_,e⟩:=st
    refine ⟨S,D,sl,el,?_,by rw [e2];exact growL_low o.low dok.1.low,fun h' hh=>?_,?_⟩
    · rw [e1] at ok' ⊢
      exact o.gr.grow ok ok' g1 dok.1.nu ee
    · rw [e] at hh
      rcases List.mem_append.mp hh with z | z
      · exact o.hg h' z
      · rw [List.mem_singleton.mp z];exact ⟨o.gr,o.low⟩
    · rw [e,List.map_append,head_app (by simp)];exact fs
end
def Al (D:List Addr) (H:Hp):Prop:=∀ a∈D,∃ o,H a=some o∧(∀ xs,o≠.tup xs)∧∀ ps,o≠.tbl ps
theorem Al.nt {D:List Addr} {H:Hp} (h:Al D H):NT D H:=fun a ha xs e=>by
  obtain ⟨o,eo,no,_⟩:=h a ha
  rw [eo] at e
  exact no xs (Option.some.inj e)
theorem Al.mv {D E:List Addr} {H H':Hp} (h:Al E H) (m:Mv D H H') (d:Al D H'):Al E H':=fun a ha=>by
  by_cases z:a∈D
  · exact d a z
  · obtain ⟨o,eo,no,nt⟩:=h a ha
    exact ⟨o,m.keep a o nt z eo,no,nt⟩
theorem Al.sub {D E:List Addr} {H:Hp} (h:Al D H) (s:∀ a∈E,a∈D):Al E H:=fun a ha=>h a (s a ha)
theorem Al.cons {D:List Addr} {H:Hp} {a:Addr} {o:HO} (h:Al D H) (e:H a=some o) (h1:∀ xs,o≠.tup xs) (h2:∀ ps,o≠.tbl ps):Al (a :: D) H:=fun b hb=>by
  rcases List.mem_cons.mp hb with rfl | hb
  · exact ⟨o,e,h1,h2⟩
  · exact h b hb
theorem Al.nil {H:Hp}:Al [] H:=fun a ha=>by cases ha
theorem One.al {C x dx l q tk:Addr} {us:List Int} {lb:Str} {ds es:List V} {hs:List Hs} {u0:List Int} {l0:Str} {H:Hp} (o:One C H x dx l q tk us lb ds es hs u0 l0):Al [x,l,q] H:=
  ((Al.nil.cons o.sl (fun _ z=>by cases z) (fun _ z=>by cases z)).cons o.kp.dl (fun _ z=>by cases z) (fun _ z=>by cases z)).cons o.kp.ob (fun _ z=>by cases z) (fun _ z=>by cases z)
theorem Al.deck {D:List Addr} {H:Hp} {p:Addr} {c:Int} (h:Al D H) (d:Deck H p c):Al (p :: D) H:=by
  obtain ⟨x,y,z,e,_⟩:=d
  exact h.cons e (fun _ z=>by cases z) (fun _ z=>by cases z)
structure JJ (ls:List Lm) (C p Tl Ks St xa dxa la qa xb dxb lb qb ta tb:Addr) (ua:List Int) (na:Str) (ub:List Int) (nb:Str) (A B:Prop) (H0 H:Hp) (c:Int) (n:Nat):Prop where
  lam:Lams ls H
  dk:Deck H p c
  hT:H Tl=some (.lst [.ref ta,.ref tb])
  tra:TreeAt H ta ua na
  trb:TreeAt H tb ub nb
  hK:H Ks=some (.lst [.ref xa,.ref xb])
  hS:H St=some (.lst [.ref qa,.ref qb])
  oa:A→∃ tk us l ds es hs,One C H xa dxa la qa tk us l ds es hs ua na∧hs.length≤n
  ob:B→∃ tk us l ds es hs,One C H xb dxb lb qb tk us l ds es hs ub nb∧hs.length≤n
  mv:Mv [p,xa,la,qa,xb,lb,qb] H0 H
  al:Al [p,xa,la,qa,xb,lb,qb] H
theorem JJ.imp {ls:List Lm} {C p Tl Ks St xa dxa la qa xb dxb lb qb ta tb:Addr} {ua:List Int} {na:Str} {ub:List Int} {nb:Str} {A B A' B':Prop} {H0 H:Hp} {c:Int} {n:Nat} (j:JJ ls C p Tl Ks St xa dxa la qa xb dxb lb qb ta tb ua na ub nb A B H0 H c n) (ha:A'→A) (hb:B'→B):JJ ls C p Tl Ks St xa dxa la qa xb dxb lb qb ta tb ua na ub nb A' B' H0 H c n:=
  ⟨j.lam,j.dk,j.hT,j.tra,j.trb,j.hK,j.hS,fun z=>j.oa (ha z),fun z=>j.ob (hb z),j.mv,j.al⟩
structure AN (H0:Hp) (D:List Addr) (H:Hp):Prop where
  al:Al D H
  nd:D.Nodup
  fr:∀ a∈D,H0 a=none
  he:∀ b,H b=none→H0 b=none
section
variable {H0 H H':Hp} {D:List Addr} {a:Addr} {o:HO}
theorem AN.same (h:AN H0 D H) (s:Same H H'):AN H0 D H':=⟨h.al.mv (D:=[]) (Mv.of s) Al.nil,h.nd,h.fr,fun b e=>h.he b (s.free e)⟩
theorem AN.no (h:AN H0 D H) (n:H a=none):a ∉ D:=fun m=>by
  obtain ⟨o,e,_⟩:=h.al a m
  rw [n] at e;cases e
theorem AN.new (h:AN H0 D H) (s:Same H H') (n:H a=none) (e:H' a=some o) (h1:∀ xs,o≠.tup xs) (h2:∀ ps,o≠.tbl ps):AN H0 (a :: D) H':=
  ⟨(h.same s).al.cons e h1 h2,List.nodup_cons.mpr ⟨h.no n,h.nd⟩,fun b hb=>by
    rcases List.mem_cons.mp hb with rfl | hb
    · exact h.he _ n
    · exact h.fr b hb,(h.same s).he⟩
theorem AN.two {C x dx l t:Addr} {us:List Int} {lb:Str} {ds:List V} (h:AN H0 D H) (s:Same H H') (nx:H x=none) (nl:H l=none) (xl:l≠x) (S:KpAt C H' x dx l t us lb ds):AN H0 (l :: x :: D) H':=by
  have h1:=h.new s nx S.ob (fun _ z=>by cases z) (fun _ z=>by cases z)
  refine ⟨h1.al.cons S.dl (fun _ z=>by cases z) (fun _ z=>by cases z),List.nodup_cons.mpr ⟨fun m=>?_,h1.nd⟩,fun b hb=>?_,h1.he⟩
  · rcases List.mem_cons.mp m with z | z
    · exact xl z
    · exact h.no nl z
  · rcases List.mem_cons.mp hb with rfl | hb
    · exact h.he _ nl
    · exact h1.fr b hb
theorem AN.put {ys:List V} (h:AN H0 D H):AN H0 D (upd H a (.lst ys)):=by
  refine ⟨fun b hb=>?_,h.nd,h.fr,fun b e=>h.he b ?_⟩
  · by_cases z:b=a
    · rw [z];exact ⟨_,upd_same,(fun _ z=>by cases z),(fun _ z=>by cases z)⟩
    · rw [upd_ne z];exact h.al b hb
  · by_cases z:b=a
    · rw [z,upd_same] at e;cases e
    · rwa [upd_ne z] at e
theorem Mv.put {ys:List V}:Mv [a] H (upd H a (.lst ys)):=⟨fun b o _ n e=>by rw [upd_ne (by simpa using n)];exact e,fun b e=>by
  by_cases z:b=a
  · rw [z,upd_same] at e;cases e
  · rwa [upd_ne z] at e⟩
end
theorem nd_of {p Tl Ks St xa la qa xb lb qb:Addr} (nd:[St,qb,qa,lb,xb,la,xa,Ks,Tl,p].Nodup):[p,Tl,Ks,St,xa,la,qa,xb,lb,qb].Nodup:=by
  simp only [List.nodup_cons,List.mem_cons,List.not_mem_nil,or_false,not_or,List.nodup_nil,not_false_eq_true,and_true] at nd ⊢
  grind
theorem Kt.kd {ls:List Lm} {p:Addr} {c:Int} {H0 H H':Hp} (a:Kt ls H0 H) (dk:∃ c,Deck H p c) (hp:H0 p=none) (k:Kd p c H H'):Kt ls H0 H':=
  ⟨Lams.kd a.lam dk k,fun b o ho e=>k.keep b o (ne_of_none e hp) (a.keep b o ho e),fun b e=>a.here b (k.fresh e)⟩
theorem nd4 {p x l q:Addr} (nd:[p,x,l,q].Nodup):p≠x∧p≠l∧p≠q∧x≠l∧x≠q∧l≠q:=by
  simp only [List.nodup_cons,List.mem_cons,List.not_mem_nil,or_false,not_or,List.nodup_nil,not_false_eq_true,and_true] at nd
  exact ⟨nd.1.1,nd.1.2.1,nd.1.2.2,nd.2.1.1,nd.2.1.2,nd.2.2⟩
theorem Stp.len {ups:List Int} {lab:Str} {hs:List Hs} {d:Dd} {ups':List Int} {lab':Str} {hs':List Hs} {n a b:Int} (s:Stp ups lab hs d ups' lab' hs' n a b):(d=.back→hs'.length+1=hs.length)∧(d≠.back→hs'.length=hs.length+1):=by
  cases d with
  | back=>obtain ⟨h,e,_⟩:=s;rw [e,List.length_append,List.length_singleton];exact ⟨fun _=>rfl,fun z=>absurd rfl z⟩
  | take m=>obtain ⟨_,_,_,_,e⟩:=s;rw [e,List.length_append,List.length_singleton];exact ⟨(fun z=>by cases z),(fun _=>rfl)⟩
  | put _ _ _=>obtain ⟨_,_,_,_,_,_,_,_,e⟩:=s;rw [e,List.length_append,List.length_singleton];exact ⟨(fun z=>by cases z),(fun _=>rfl)⟩
theorem at409 {n:Int} (h0:0≤n) (h3:n < 2):∃ m:Int,1≤m∧m≤60∧atI [V.int 40,.int 9] n=some (.int m):=by
  have:n=0∨n=1:=by omega
  rcases this with rfl | rfl
  · exact ⟨40,by decide,by decide,rfl⟩
  · exact ⟨9,by decide,by decide,rfl⟩
structure Pk (ls:List Lm) (C p Tl Ks St xa xb qa qb ta tb:Addr) (H:Hp) (n:Nat) (at_:Int) (J:Hp→Int→Nat→Prop) (J2:Hp→Prop) (x dx l q tk tt:Addr) (us:List Int) (lbl:Str) (ds es:List V) (hs:List Hs) (u0:List Int) (l0:Str):Prop where
  kx:atI [V.ref xa,.ref xb] at_=some (.ref x)
  kq:atI [V.ref qa,.ref qb] at_=some (.ref q)
  kt:atI [V.ref ta,.ref tb] at_=some (.ref tt)
  tr:TreeAt H tt u0 l0
  on:One C H x dx l q tk us lbl ds es hs u0 l0
  hn:hs.length≤n
  nd:[p,x,l,q].Nodup
  nT:Tl ∉ [p,x,l,q]
  nK:Ks ∉ [p,x,l,q]
  nS:St ∉ [p,x,l,q]
  al:Al [p,x,l,q] H
  go:∀ (H':Hp) (c':Int) (n':Nat) (tk':Addr) (us':List Int) (lbl':Str) (ds' es':List V) (hs':List Hs),n≤n'→hs'.length≤n'→Lams ls H'→Deck H' p c'→One C H' x dx l q tk' us' lbl' ds' es' hs' u0 l0→Mv [p,x,l,q] H H'→J H' c' n'
  go2:∀ (H':Hp),Lams ls H'→Mv [p,x,l,q] H H'→(∃ c',Deck H' p c')→Al [x,l,q] H'→J2 H'
section
variable {ls:List Lm} {C p Tl Ks St xa dxa la qa xb dxb lb qb ta tb:Addr} {ua:List Int} {na:Str} {ub:List Int} {nb:Str} {A B:Prop} {H0 H H':Hp} {c c':Int} {n n':Nat}
theorem JJ.mono (j:JJ ls C p Tl Ks St xa dxa la qa xb dxb lb qb ta tb ua na ub nb A B H0 H c n) (hc:c≤c') (hn:n≤n'):JJ ls C p Tl Ks St xa dxa la qa xb dxb lb qb ta tb ua na ub nb A B H0 H c' n':=
  { j with dk:=j.dk.mono hc,oa:=fun z=>by obtain ⟨_,_,_,_,_,_,o,l⟩:=j.oa z;exact ⟨_,_,_,_,_,_,o,by omega⟩,ob:=fun z=>by obtain ⟨_,_,_,_,_,_,o,l⟩:=j.ob z;exact ⟨_,_,_,_,_,_,o,by omega⟩ }
theorem JJ.go (j:JJ ls C p Tl Ks St xa dxa la qa xb dxb lb qb ta tb ua na ub nb A B H0 H c n) {A' B':Prop} {D:List Addr} (lam:Lams ls H') (dk:Deck H' p c') (m:Mv D H H') (nD:NT D H) (sub:∀ a∈D,a∈[p,xa,la,qa,xb,lb,qb]) (nT:Tl ∉ D) (nK:Ks ∉ D) (nS:St ∉ D) (oa:A'→∃ tk us l ds es hs,One C H' xa dxa la qa tk us l ds es hs ua na∧hs.length≤n') (ob:B'→∃ tk us l ds es hs,One C H' xb dxb lb qb tk us l ds es hs ub nb∧hs.length≤n') (alD:Al D H') :
    JJ ls C p Tl Ks St xa dxa la qa xb dxb lb qb ta tb ua na ub nb A' B' H0 H' c' n':=
  ⟨lam,dk,m.lst nT j.hT,TreeAt.of j.tra (m.tu nD),TreeAt.of j.trb (m.tu nD),m.lst nK j.hK,m.lst nS j.hS,oa,ob,j.mv.trans (m.mono sub),j.al.mv m alD⟩
theorem nd_b {p Tl Ks St xa la qa xb lb qb:Addr} (nd:[p,Tl,Ks,St,xa,la,qa,xb,lb,qb].Nodup):xb ∉ [p,xa,la,qa]∧lb ∉ [p,xa,la,qa]∧qb ∉ [p,xa,la,qa]:=by
  simp only [List.nodup_cons,List.mem_cons,List.not_mem_nil,or_false,not_or,List.nodup_nil,not_false_eq_true,and_true] at nd ⊢
  grind
theorem nd_a {p Tl Ks St xa la qa xb lb qb:Addr} (nd:[p,Tl,Ks,St,xa,la,qa,xb,lb,qb].Nodup):xa ∉ [p,xb,lb,qb]∧la ∉ [p,xb,lb,qb]∧qa ∉ [p,xb,lb,qb]:=by
  simp only [List.nodup_cons,List.mem_cons,List.not_mem_nil,or_false,not_or,List.nodup_nil,not_false_eq_true,and_true] at nd ⊢
  grind
theorem nd_p {p Tl Ks St xa la qa xb lb qb:Addr} (nd:[p,Tl,Ks,St,xa,la,qa,xb,lb,qb].Nodup):(xa ∉ [p]∧la ∉ [p]∧qa ∉ [p])∧xb ∉ [p]∧lb ∉ [p]∧qb ∉ [p]:=by
  simp only [List.nodup_cons,List.mem_cons,List.not_mem_nil,or_false,not_or,List.nodup_nil,not_false_eq_true,and_true] at nd ⊢
  grind
theorem JJ.pick (j:JJ ls C p Tl Ks St xa dxa la qa xb dxb lb qb ta tb ua na ub nb A B H0 H c n) (nd:[p,Tl,Ks,St,xa,la,qa,xb,lb,qb].Nodup) {i:Nat} (hA:i=0→A) (hB:i=1→B) (hi:i < 2) :
    ∃ x dx l q tk tt us lbl ds es hs u0 l0,Pk ls C p Tl Ks St xa xb qa qb ta tb H n (i:Int) (fun H' c' n'=>JJ ls C p Tl Ks St xa dxa la qa xb dxb lb qb ta tb ua na ub nb A B H0 H' c' n') (fun H'=>∃ c',JJ ls C p Tl Ks St xa dxa la qa xb dxb lb qb ta tb ua na ub nb (A∧i≠0) (B∧i≠1) H0 H' c' n) x dx l q tk tt us lbl ds es hs u0 l0:=by
  have alA:Al [p,xa,la,qa] H:=j.al.sub (by simp)
  have alB:Al [p,xb,lb,qb] H:=j.al.sub (by simp)
  rcases (show i=0∨i=1 by omega) with rfl | rfl
  · obtain ⟨tk,us,l,ds,es,hs,o,hl⟩:=j.oa (hA rfl)
    have oB:∀ {H':Hp},Mv [p,xa,la,qa] H H'→∀ n',n≤n'→B→∃ tk us l ds es hs,One C H' xb dxb lb qb tk us l ds es hs ub nb∧hs.length≤n':=fun {H'} m n' hn b=>by
      obtain ⟨_,_,_,_,_,_,o2,l2⟩:=j.ob b
      exact ⟨_,_,_,_,_,_,o2.mv m alA.nt (nd_b nd).1 (nd_b nd).2.1 (nd_b nd).2.2,by omega⟩
    refine ⟨xa,dxa,la,qa,tk,ta,us,l,ds,es,hs,ua,na,rfl,rfl,rfl,j.tra,o,hl,by grind,by grind,by grind,by grind,alA,fun H' c' n' tk' us' l' ds' es' hs' hn hl' L' d' o' m=>?_,fun H' L' m d' al'=>?_⟩
    · exact j.go L' d' m alA.nt (by simp) (by grind) (by grind) (by grind) (fun _=>⟨_,_,_,_,_,_,o',hl'⟩) (oB m n' hn) (o'.al.deck d')
    · obtain ⟨c',d'⟩:=d'
      exact ⟨c',j.go L' d' m alA.nt (by simp) (by grind) (by grind) (by grind) (fun z=>absurd rfl z.2) (fun z=>oB m n (Nat.le_refl _) z.1) (al'.deck d')⟩
  · obtain ⟨tk,us,l,ds,es,hs,o,hl⟩:=j.ob (hB rfl)
    have oA:∀ {H':Hp},Mv [p,xb,lb,qb] H H'→∀ n',n≤n'→A→∃ tk us l ds es hs,One C H' xa dxa la qa tk us l ds es hs ua na∧hs.length≤n':=fun {H'} m n' hn a=>by
      obtain ⟨_,_,_,_,_,_,o2,l2⟩:=j.oa a
      exact ⟨_,_,_,_,_,_,o2.mv m alB.nt (nd_a nd).1 (nd_a nd).2.1 (nd_a nd).2.2,by omega⟩
    refine ⟨xb,dxb,lb,qb,tk,tb,us,l,ds,es,hs,ub,nb,rfl,rfl,rfl,j.trb,o,hl,by grind,by grind,by grind,by grind,alB,fun H' c' n' tk' us' l' ds' es' hs' hn hl' L' d' o' m=>?_,fun H' L' m d' al'=>?_⟩
    · exact j.go L' d' m alB.nt (by simp) (by grind) (by grind) (by grind) (oA m n' hn) (fun _=>⟨_,_,_,_,_,_,o',hl'⟩) (o'.al.deck d')
    · obtain ⟨c',d'⟩:=d'
      exact ⟨c',j.go L' d' m alB.nt (by simp) (by grind) (by grind) (by grind) (fun z=>oA m n (Nat.le_refl _) z.1) (fun z=>absurd rfl z.2) (al'.deck d')⟩
theorem JJ.kd (j:JJ ls C p Tl Ks St xa dxa la qa xb dxb lb qb ta tb ua na ub nb A B H0 H c n) (nd:[p,Tl,Ks,St,xa,la,qa,xb,lb,qb].Nodup) (k:Kd p c' H H'):JJ ls C p Tl Ks St xa dxa la qa xb dxb lb qb ta tb ua na ub nb A B H0 H' c' n:=by
  have m:=Mv.kd k
  have al:Al [p] H:=j.al.sub (by simp)
  refine j.go (Lams.kd j.lam ⟨_,j.dk⟩ k) k.deck m al.nt (by simp) (by grind) (by grind) (by grind) (fun z=>?_) (fun z=>?_) (Al.nil.deck k.deck)
  · obtain ⟨_,_,_,_,_,_,o,l⟩:=j.oa z
    exact ⟨_,_,_,_,_,_,o.mv m al.nt (nd_p nd).1.1 (nd_p nd).1.2.1 (nd_p nd).1.2.2,l⟩
  · obtain ⟨_,_,_,_,_,_,o,l⟩:=j.ob z
    exact ⟨_,_,_,_,_,_,o.mv m al.nt (nd_p nd).2.1 (nd_p nd).2.2.1 (nd_p nd).2.2.2,l⟩
theorem JJ.kt (j:JJ ls C p Tl Ks St xa dxa la qa xb dxb lb qb ta tb ua na ub nb A B H0 H c n) (k:Kt ls H H'):JJ ls C p Tl Ks St xa dxa la qa xb dxb lb qb ta tb ua na ub nb A B H0 H' c n:=by
  refine j.go (D:=[]) k.lam (deck_mv j.dk (Mv.kt (A:=[]) k) (by simp)) (Mv.kt k) Al.nil.nt (by simp) (by simp) (by simp) (by simp) (fun z=>?_) (fun z=>?_) Al.nil
  · obtain ⟨_,_,_,_,_,_,o,l⟩:=j.oa z
    exact ⟨_,_,_,_,_,_,o.kt k,l⟩
  · obtain ⟨_,_,_,_,_,_,o,l⟩:=j.ob z
    exact ⟨_,_,_,_,_,_,o.kt k,l⟩
theorem JJ.same (j:JJ ls C p Tl Ks St xa dxa la qa xb dxb lb qb ta tb ua na ub nb A B H0 H c n) (s:Same H H'):JJ ls C p Tl Ks St xa dxa la qa xb dxb lb qb ta tb ua na ub nb A B H0 H' c n:=j.kt (Kt.of s j.lam)
end
section
variable {P:Program} {w:World} {K:PySem.W.Frag} {mg:Str→Option Value} {base:Heap} {k:Nat}
def Made (K:PySem.W.Frag) (mg:Str→Option Value):Prop:=∃ (C fI fP fT fB fC fR fE fO fW fN fM fD:Addr) (dI dP dT dB dC dR dE dO dW dN dM dD:FuncData),Tx K mg C∧Mk K C fI∧Fun K "__init__" "Keeper.__init__" s_Keeper___init__ fI dI ∧
  Meth K C "put" fP∧Fun K "put" "Keeper.put" s_Keeper_put fP dP∧Meth K C "take" fT∧Fun K "take" "Keeper.take" s_Keeper_take fT dT∧Meth K C "back" fB∧Fun K "back" "Keeper.back" s_Keeper_back fB dB∧Meth K C "change" fC∧Fun K "change" "Keeper.change" s_Keeper_change fC dC∧Meth K C "refuse_no_place" fR∧Fun K "refuse_no_place" "Keeper.refuse_no_place" s_Keeper_refuse_no_place fR dR∧Meth K C "tree_now" fE∧Fun K "tree_now" "Keeper.tree_now" s_Keeper_tree_now fE dE ∧
  Meth K C "order_now" fO∧Fun K "order_now" "Keeper.order_now" s_Keeper_order_now fO dO∧Meth K C "rows_now" fW∧Fun K "rows_now" "Keeper.rows_now" s_Keeper_rows_now fW dW∧Meth K C "count_now" fN∧Fun K "count_now" "Keeper.count_now" s_Keeper_count_now fN dN∧Meth K C "many_now" fM∧Fun K "many_now" "Keeper.many_now" s_Keeper_many_now fM dM∧Meth K C "deeds_now" fD∧Fun K "deeds_now" "Keeper.deeds_now" s_Keeper_deeds_now fD dD
def sp_law (ls:List Lm):PySem.W.Frag→Sp:=fun K vs H Q _=>∃ (a:Addr) (ns:List Int),vs=[.ref a]∧SqL K H a (ns.map V.int)∧ns.length≤63∧Lams ls H∧∀ H',Q (.bl true) H'
theorem ok_law {ls:List Lm} {f:Addr} {fd:FuncData} (F:Fun K "law" "law" s_law f fd) (B:Blt7 mg) (M:Made K mg) (d_ask:Df K mg "_law_ask" s_law_ask) (d_told:Df K mg "_law_told" s_law_told) (d_right:Df K mg "_law_right" s_law_right) (G_law_cells:Has P w K mg base "_law_cells" (k+7) ["script", "most"] (sp_cells K)) (G_law_pool:Has P w K mg base "_law_pool" (k+7) ["cell"] sp_pool) (G_law_take:Has P w K mg base "_law_take" (k+7) ["pool", "many"] sp_take) (G_law_tree:Has P w K mg base "_law_tree" (k+7) ["pool", "most"] sp_tree)
    (G_below0:Has P w K mg base "is_number_below" k ["thing", "behind"] sp_below) (G_below1:Has P w K mg base "is_number_below" (k+1) ["thing", "behind"] sp_below) (G_beneath_of:Has P w K mg base "beneath_of" (k+1) ["tree", "place"] sp_ben) (G_is_letter:Has P w K mg base "is_letter" (k+1) ["thing"] sp_ltr) (G_bough_of:Has P w K mg base "bough_of" (k+1) ["tree", "place"] sp_bough) (G_with_leaf:Has P w K mg base "with_leaf" (k+1) ["tree", "leaf", "above", "letter"] sp_with) (G_triple_of:Has P w K mg base "triple_of" (k+1) ["tree", "place"] (sp_tri ls))
    (G_is_leaf:Has P w K mg base "is_leaf" (k+1) ["tree", "place"] sp_leaf) (G_without_leaf:Has P w K mg base "without_leaf" (k+1) ["tree", "leaf"] sp_less) (G_order_of:Has P w K mg base "order_of" (k+3) ["tree"] (sp_order ls)) (G_rows_of:Has P w K mg base "rows_of" (k+3) ["tree"] (sp_rows ls)) (G_how_many:Has P w K mg base "how_many" (k+3) ["tree", "word"] sp_many) (G_count_words:Has P w K mg base "count_words" (k+3) ["tree"] sp_cw)
    (G_law_seek:Has P w K mg base "_law_seek" (k+5) ["pool", "tree"] sp_seek) (G_law_afresh:Has P w K mg base "_law_afresh" (k+5) ["tree", "words"] (sp_afresh ls)) (G_is_tree:Has P w K mg base "is_tree" (k+5) ["thing"] R.sp_ist) (G_law_deed:Has P w K mg base "_law_deed" (k+5) ["pool", "tree", "stood"] sp_deed) (G_law_same:Has P w K mg base "_law_same" (k+5) ["found", "due"] (sp_sm SS)) :
    FnOk P w K mg base CX0 (k+7+1) f fd ["script"] (sp_law ls K):=by
  obtain ⟨C,fI,fP,fT,fB,fC,fR,fE,fO,fW,fN,fM,fD,dI,dP,dT,dB,dC,dR,dE,dO,dW,dN,dM,dD,T,Mk_Keeper,F_I,m_Keeper_put,F_P,m_Keeper_take,F_T,m_Keeper_back,F_B,m_Keeper_change,F_C,m_Keeper_refuse_no_place,F_R,m_Keeper_tree_now,F_E,m_Keeper_order_now,F_O,m_Keeper_rows_now,F_W,m_Keeper_count_now,F_N,m_Keeper_many_now,F_M,m_Keeper_deeds_now,F_D⟩:=M
  have G_Keeper___init__4:FnOk P w K mg base CX0 (k+4) fI dI ["self", "tree"] (sp_init C):=ok_init F_I T
  have G_Keeper___init__:FnOk P w K mg base CX0 (k+6) fI dI ["self", "tree"] (sp_init C):=ok_init F_I T
  have G_now4:FnOk P w K mg base CX0 (k+4) fE dE ["self"] (sp_now C):=ok_now F_E T
  have G_now5:FnOk P w K mg base CX0 (k+5) fE dE ["self"] (sp_now C):=ok_now F_E T
  have G_Keeper_tree_now:FnOk P w K mg base CX0 (k+7) fE dE ["self"] (sp_now C):=ok_now F_E T
  have G_Keeper_deeds_now:FnOk P w K mg base CX0 (k+7) fD dD ["self"] (sp_deeds C):=ok_deeds F_D T B
  have G_onow:FnOk P w K mg base CX0 (k+4) fO dO ["self"] (sp_onow C ls):=ok_onow F_O T G_order_of
  have G_rnow:FnOk P w K mg base CX0 (k+4) fW dW ["self"] (sp_rnow C ls):=ok_rnow F_W T G_rows_of
  have G_cnow:FnOk P w K mg base CX0 (k+4) fN dN ["self", "word"] (sp_cnow C):=ok_cnow F_N T G_how_many
  have G_mnow:FnOk P w K mg base CX0 (k+4) fM dM ["self"] (sp_mnow C):=ok_mnow F_M T G_count_words
  have G_refuse:FnOk P w K mg base CX0 (k+1) fR dR ["self", "place"] (sp_refuse C):=ok_refuse F_R T B G_below0
  have G_change:FnOk P w K mg base CX0 (k+1) fC dC ["self", "tree", "triple"] (sp_change C ls):=ok_change F_C T B
  have G_put:FnOk P w K mg base CX0 (k+2) fP dP ["self", "place", "number", "letter"] (sp_put C ls):=ok_put F_P T B m_Keeper_refuse_no_place F_R m_Keeper_change F_C G_refuse G_change G_beneath_of G_below1 G_is_letter G_bough_of G_with_leaf G_triple_of
  have G_take:FnOk P w K mg base CX0 (k+2) fT dT ["self", "place"] (sp_tk C ls):=ok_tk F_T T B m_Keeper_refuse_no_place F_R m_Keeper_change F_C G_refuse G_change G_is_leaf G_without_leaf G_triple_of
  have G_back2:FnOk P w K mg base CX0 (k+2) fB dB ["self"] (sp_back C ls):=ok_back F_B T B
  have G_back5:FnOk P w K mg base CX0 (k+5) fB dB ["self"] (sp_back C ls):=ok_back F_B T B
  have G_Keeper_back:FnOk P w K mg base CX0 (k+7) fB dB ["self"] (sp_back C ls):=ok_back F_B T B
  have G_ask0:Has P w K mg base "_law_ask" (k+3) ["keeper", "deed"] (sp_ask C ls):=has_ask d_ask B T m_Keeper_put F_P m_Keeper_take F_T m_Keeper_back F_B G_put G_take G_back2
  have G_law_ask:Has P w K mg base "_law_ask" (k+7) ["keeper", "deed"] (sp_ask C ls):=G_ask0.mono (by omega)
  have G_told5:Has P w K mg base "_law_told" (k+5) ["keeper", "words"] (sp_told C ls):=has_told d_told B T m_Keeper_tree_now F_E m_Keeper_order_now F_O m_Keeper_rows_now F_W m_Keeper_count_now F_N m_Keeper_many_now F_M G_now4 G_onow G_rnow G_cnow G_mnow
  have G_law_told:Has P w K mg base "_law_told" (k+7) ["keeper", "words"] (sp_told C ls):=G_told5.mono (by omega)
  have G_right6:Has P w K mg base "_law_right" (k+6) ["pool", "keeper"] (sp_right C ls):=has_right d_right B T Mk_Keeper F_I m_Keeper_tree_now F_E m_Keeper_back F_B G_Keeper___init__4 G_now5 G_back5 G_law_seek G_told5 G_law_afresh G_is_tree G_law_same G_law_deed (G_ask0.mono (by omega))
  have G_law_right:Has P w K mg base "_law_right" (k+7) ["pool", "keeper"] (sp_right C ls):=G_right6.mono (by omega)
  have G_law_afresh:Has P w K mg base "_law_afresh" (k+7) ["tree", "words"] (sp_afresh ls):=G_law_afresh.mono (by omega)
  have G_law_deed:Has P w K mg base "_law_deed" (k+7) ["pool", "tree", "stood"] sp_deed:=G_law_deed.mono (by omega)
  have G_law_same:Has P w K mg base "_law_same" (k+7) ["found", "due"] (sp_sm SS):=G_law_same.mono (by omega)
  have b_Keeper___init__:=F_I.binds (ps:=["self", "tree"]) (fun _ _ _ _ _ _ us hl=>match us,hl with | [_,_],_=>rfl)
  have b_Keeper_tree_now:=F_E.binds (ps:=["self"]) (fun _ _ _ _ _ _ us hl=>match us,hl with | [_],_=>rfl)
  have b_Keeper_deeds_now:=F_D.binds (ps:=["self"]) (fun _ _ _ _ _ _ us hl=>match us,hl with | [_],_=>rfl)
  have b_Keeper_back:=F_B.binds (ps:=["self"]) (fun _ _ _ _ _ _ us hl=>match us,hl with | [_],_=>rfl)
  refine F.ok sc_law (fun vs H Q E h=>by obtain ⟨a,ns,rfl,_⟩:=h;rfl) (fun cdv A outer s H vs Q E hr h=>?_)
  obtain ⟨a,ns,rfl,hS,h63,L,q⟩:=h
  refine ⟨_,(pss_cons (ps_for PassesOwn.never rfl (pi_list (pe_callH G_law_cells hr rfl (pa_cons (pv 0) (pa_cons pe_int pa_nil)))) (pg_name (i:=1) sc_law.nd rfl (by first | exact Or.inl rfl | exact Or.inr rfl))
  (pss_cons (ps_set (i:=2) sc_law.nd rfl (by first | exact Or.inl rfl | exact Or.inr rfl) (pe_callH G_law_pool hr rfl (pa_cons (pv 1) pa_nil)))
  (pss_cons (ps_set (i:=3) sc_law.nd rfl (by first | exact Or.inl rfl | exact Or.inr rfl) (pe_op op_add pe_int (pe_callH G_law_take hr rfl (pa_cons (pv 2) (pa_cons pe_int pa_nil)))))
  (pss_cons (ps_set (i:=4) sc_law.nd rfl (by first | exact Or.inl rfl | exact Or.inr rfl) (pe_lst (pa_cons (pe_callH G_law_tree hr rfl (pa_cons (pv 2) (pa_cons (pe_ix ix_list (pe_lst (pa_cons pe_int (pa_cons pe_int pa_nil))) (pe_callH G_law_take hr rfl (pa_cons (pv 2) (pa_cons pe_int pa_nil))) (fun _ _=>rfl)) pa_nil))) (pa_cons (pe_callH G_law_tree hr rfl (pa_cons (pv 2) (pa_cons pe_int pa_nil))) pa_nil))))
  (pss_cons (ps_comp (i:=5) sc_law.nd rfl (by first | exact Or.inl rfl | exact Or.inr rfl) rfl (pi_list (pv 4)) (NL:=["tree"]) (ix:=[]) (csc (defScope s_law) N_law) (fun cl C s₃ H₃ fp pins=>⟨(pg_name (i:=0) (show List.Nodup (["tree"]:List Str) from by decide +kernel) rfl (by first | exact Or.inl rfl | exact Or.inr rfl)),pifs_nil,(pe_make Mk_Keeper G_Keeper___init__ hr rfl T.mgC b_Keeper___init__ .nil pass0 (pa_cons (pv 0) pa_nil))⟩))
  (pss_cons (ps_set (i:=6) sc_law.nd rfl (by first | exact Or.inl rfl | exact Or.inr rfl) (pe_lst (pa_cons (pe_lst pa_nil) (pa_cons (pe_lst pa_nil) pa_nil))))
  (pss_cons (ps_for PassesOwn.never rfl (pi_range1 rfl B.range (pa_cons (pv 3) pa_nil)) (pg_name (i:=7) sc_law.nd rfl (by first | exact Or.inl rfl | exact Or.inr rfl))
  (pss_cons (ps_set (i:=8) sc_law.nd rfl (by first | exact Or.inl rfl | exact Or.inr rfl) (pe_callH G_law_take hr rfl (pa_cons (pv 2) (pa_cons pe_int pa_nil))))
  (pss_cons (ps_set (i:=9) sc_law.nd rfl (by first | exact Or.inl rfl | exact Or.inr rfl) (pe_callH G_law_deed hr rfl (pa_cons (pv 2) (pa_cons (pe_meth0 (pe_ix ix_list (pv 5) (pv 8) (fun _ _=>rfl)) T.cl m_Keeper_tree_now G_Keeper_tree_now hr b_Keeper_tree_now .nil pass0) (pa_cons (pe_ix ix_list (pv 6) (pv 8) (fun _ _=>rfl)) pa_nil)))))
  (pss_cons (ps_expr (pe_callH G_law_ask hr rfl (pa_cons (pe_ix ix_list (pv 5) (pv 8) (fun _ _=>rfl)) (pa_cons (pv 9) pa_nil))))
  (pss_cons (ps_if (pt_cmpR (op_eq_tup hr.units0) (pv 9) (pe_tup (pa_cons pe_str pa_nil)) (nomark _))
  (pss_one (ps_expr (pe_bm0 PySem.F.plainAttrs_list PySem.F.slot_list_pop PySem.F.type_list_pop mt_pop (pe_ix ix_list (pv 6) (pv 8) (fun _ _=>rfl)))))
  (pss_one (ps_expr (pe_bm PySem.F.plainAttrs_list PySem.F.slot_list_append PySem.F.type_list_append mt_append (pe_ix ix_list (pv 6) (pv 8) (fun _ _=>rfl)) (pa_cons (pv 9) pa_nil)))))
  (pss_one (ps_if (PW.pt (pw_and (pt_cmpR op_eq (pv 7) pe_int (nomark _)) (pw_and1 (pt_not (pt_val (pe_callH G_law_right hr rfl (pa_cons (pv 2) (pa_cons (pe_ix ix_list (pv 5) (pv 8) (fun _ _=>rfl)) pa_nil))))))))
  (pss_one (ps_ret pe_bl))
  pss_nil)))))))
  (pss_one (ps_for PassesOwn.never rfl (pi_range1 rfl B.range (pa_cons pe_int pa_nil)) (pg_name (i:=8) sc_law.nd rfl (by first | exact Or.inl rfl | exact Or.inr rfl))
  (pss_cons (ps_if (pt_not (pt_val (pe_callH G_law_same hr rfl (pa_cons (pe_meth0 (pe_ix ix_list (pv 5) (pv 8) (fun _ _=>rfl)) T.cl m_Keeper_deeds_now G_Keeper_deeds_now hr b_Keeper_deeds_now .nil pass0) (pa_cons (pe_callB call_len_seq rfl B.len bt_len (pa_cons (pe_ix ix_list (pv 6) (pv 8) (fun _ _=>rfl)) pa_nil)) pa_nil)))))
  (pss_one (ps_ret pe_bl))
  pss_nil)
  (pss_cons (ps_if (pt_not (pt_val (pe_callH G_law_same hr rfl (pa_cons (pe_callH G_law_told hr rfl (pa_cons (pe_make Mk_Keeper G_Keeper___init__ hr rfl T.mgC b_Keeper___init__ .nil pass0 (pa_cons (pe_ix ix_list (pv 4) (pv 8) (fun _ _=>rfl)) pa_nil)) (pa_cons (pe_lst (pa_cons pe_str pa_nil)) pa_nil))) (pa_cons (pe_callH G_law_afresh hr rfl (pa_cons (pe_ix ix_list (pv 4) (pv 8) (fun _ _=>rfl)) (pa_cons (pe_lst (pa_cons pe_str pa_nil)) pa_nil))) pa_nil)))))
  (pss_one (ps_ret pe_bl))
  pss_nil)
  (pss_cons (ps_for PassesOwn.never rfl (pi_range1 rfl B.range (pa_cons (pe_callB call_len_seq rfl B.len bt_len (pa_cons (pe_ix ix_list (pv 6) (pv 8) (fun _ _=>rfl)) pa_nil)) pa_nil)) (pg_name (i:=7) sc_law.nd rfl (by first | exact Or.inl rfl | exact Or.inr rfl))
  (pss_one (ps_expr (pe_meth0 (pe_ix ix_list (pv 5) (pv 8) (fun _ _=>rfl)) T.cl m_Keeper_back G_Keeper_back hr b_Keeper_back .nil pass0))))
  (pss_one (ps_if (pt_not (pt_val (pe_callH G_law_same hr rfl (pa_cons (pe_callH G_law_told hr rfl (pa_cons (pe_ix ix_list (pv 5) (pv 8) (fun _ _=>rfl)) (pa_cons (pe_lst (pa_cons pe_str pa_nil)) pa_nil))) (pa_cons (pe_callH G_law_afresh hr rfl (pa_cons (pe_ix ix_list (pv 4) (pv 8) (fun _ _=>rfl)) (pa_cons (pe_lst (pa_cons pe_str pa_nil)) pa_nil))) pa_nil)))))
  (pss_one (ps_ret pe_bl))
  pss_nil))))))))))))))
  (pss_one (ps_ret pe_bl))),?_⟩
  refine ⟨_,rfl,a,ns,2,rfl,hS,h63,by decide,by decide,fun r ms H1 s1 hf1 hr1 ml=>?_⟩
  refine ⟨r,rfl,⟨_,SqL.of hr1⟩,?_⟩
  refine for_list (xs:=ms.map V.int) (fun i σ H'=>∃ o1 o2 o3 o4 o5 o6 o7 o8 o9:Option V,σ=[some (.ref a),o1,o2,o3,o4,o5,o6,o7,o8,o9]∧Kt ls H1 H') ⟨none,none,none,none,none,none,none,none,none,rfl,Kt.refl (L.same s1)⟩ (fun i σ H' _ h=>by obtain ⟨_,_,_,_,_,_,_,_,_,_,k1⟩:=h;exact SqL.of (k1.lst hr1)) ?_ ?_
  · rintro i x σ H0 hx ⟨o1,o2,o3,o4,o5,o6,o7,o8,o9,rfl,k1⟩
    obtain ⟨cell,_,rfl⟩:=List.mem_map.mp (List.mem_of_getElem? hx)
    refine ⟨_,rfl,cell,rfl,fun p x y hp=>?_⟩
    have dk0:Deck (upd H0 p (.lst [.int x,.int y,.int 0])) p 0:=⟨x,y,0,upd_same,by decide,by decide⟩
    have kp0:Kt ls H0 (upd H0 p (.lst [.int x,.int y,.int 0])):=(Kt.refl k1.lam).same ((Same.refl H0).new hp)
    show (fun HH=>_) (upd H0 p (.lst [.int x,.int y,.int 0]))
    generalize upd H0 p (.lst [.int x,.int y,.int 0])=HP at dk0 kp0
    refine ⟨_,rfl,p,6,0,rfl,dk0,by decide,by decide,by decide,fun dn HQ d0 d1 kdQ=>⟨_,_,rfl,rfl,?_⟩⟩
    have ktQ:=Kt.kd kp0 ⟨_,dk0⟩ hp kdQ
    refine ⟨_,rfl,(by show 2≤sizeLine;decide),fun v hv=>?_⟩
    have s3:Same HQ (upd HQ v (.lst [.int 40,.int 9])):=(Same.refl HQ).new hv
    have h3:upd HQ v (.lst [.int 40,.int 9]) v=some (.lst [.int 40,.int 9]):=upd_same
    show (fun HH=>_) (upd HQ v (.lst [.int 40,.int 9]))
    generalize upd HQ v (.lst [.int 40,.int 9])=H3 at s3 h3
    have vp:v≠p:=kdQ.deck.ne hv
    have dk3:Deck H3 p (0+1):=Deck.same kdQ.deck s3
    refine ⟨_,rfl,p,2,0+1,rfl,dk3,by decide,by decide,by decide,fun n2 H4 n20 n21 kd4=>?_⟩
    obtain ⟨most,ms1,ms60,atm⟩:=at409 n20 n21
    refine ⟨v,_,_,_,rfl,rfl,SqL.of (kd4.keep _ _ vp h3),atm,?_⟩
    refine ⟨p,most,0+1+1,rfl,kd4.deck,by decide,by decide,ms1,ms60,fun ta ua na H5 kd5 tra5 finea=>?_⟩
    have kt5:Kt ls H0 H5:=Kt.kd (Kt.kd (ktQ.same s3) ⟨_,dk3⟩ hp kd4) ⟨_,kd4.deck⟩ hp kd5
    refine ⟨_,rfl,p,20,_,rfl,kd5.deck,by decide,by decide,by decide,by decide,fun tb ub nb H6 kd6 trb6 fineb=>?_⟩
    have kt6:Kt ls H0 H6:=Kt.kd kt5 ⟨_,kd5.deck⟩ hp kd6
    have dk6:Deck H6 p 1000:=kd6.deck.mono (by omega)
    have nt5:NT [p] H5:=fun a ha xs e=>by rw [List.mem_singleton.mp ha] at e;exact deck_nt kd5.deck xs e
    have tra6:=TreeAt.of tra5 ((Mv.kd kd6).tu nt5)
    refine ⟨(by show 2≤sizeLine;decide),fun Tl hTl=>?_⟩
    generalize hJ:upd H6 Tl _=H7
    have s7:Same H6 H7:=by rw [← hJ];exact (Same.refl H6).new hTl
    have h7:H7 Tl=some (.lst [.ref ta,.ref tb]):=by rw [← hJ];exact upd_same
    clear hJ
    have an6:AN H0 [p] H6:=⟨Al.nil.deck dk6,by simp,fun a ha=>by rw [List.mem_singleton.mp ha];exact hp,fun b e=>kt6.here b e⟩
    have an7:AN H0 [Tl,p] H7:=an6.new s7 hTl h7 (fun _ z=>by cases z) (fun _ z=>by cases z)
    have kt7:=kt6.same s7
    have tra7:=tra6.same s7
    have trb7:=trb6.same s7
    refine ⟨_,rfl,Tl,rfl,⟨_,SqL.of h7⟩,fun Ks hKs=>?_⟩
    refine comp_lst (xs:=[V.ref ta,.ref tb]) (by show 2 < 1000;decide) (fun i ys HX=>HX Ks=some (.lst ys)∧Same H7 HX∧i≤2∧ys.length=i∧(i=0→AN H0 [Ks,Tl,p] HX)∧(i=1→∃ xa dxa la,ys=[.ref xa]∧KpAt C HX xa dxa la ta ua na []∧AN H0 [la,xa,Ks,Tl,p] HX)∧(i=2→∃ xa dxa la xb dxb lb,ys=[.ref xa,.ref xb]∧KpAt C HX xa dxa la ta ua na []∧KpAt C HX xb dxb lb tb ub nb []∧AN H0 [lb,xb,la,xa,Ks,Tl,p] HX))
      (fun i ys HX h=>SqL.of (h.2.1 _ _ h7)) (fun i ys HX h=>⟨h.1,by have:=h.2.2.2.1;omega⟩) ⟨upd_same,(Same.refl H7).new hKs,by omega,rfl,(fun _=>an7.new ((Same.refl H7).new hKs) hKs upd_same (fun _ z=>by cases z) (fun _ z=>by cases z)),(fun z=>by cases z),(fun z=>by cases z)⟩ ?_ ?_
    rotate_left
    · rintro i x0 ys HX hx ⟨g1,g2,i2,yl,e0,e1,e2⟩
      refine ⟨rfl,?_⟩
      refine ⟨_,rfl,fun x dx nx ndx nex=>?_⟩
      have sK:Same HX (upd (upd HX dx (.own x)) x (.ins C dx [])):=fun b o e=>by
        rw [upd_ne (ne_of_none e nx),upd_ne (ne_of_none e ndx)]
        exact e
      have xK:x≠Ks:=(ne_of_none g1 nx).symm
      match i with
      | 0=>
        cases hx
        refine ⟨x,dx,ta,ua,na,rfl,upd_same,(tra7.same g2).same sK,fun l HY fl S kp=>⟨rfl,?_⟩⟩
        have sY:Same HX HY:=fun b o e=>kp b o (sK b o e) (ne_of_none e nx)
        have lK:l≠Ks:=(ne_of_none g1 (sK.free fl)).symm
        have lx:l≠x:=fun z=>by rw [z,upd_same] at fl;cases fl
        have an:=((e0 rfl).two sY nx (sK.free fl) lx S).put (a:=Ks) (ys:=ys++[.ref x])
        have nt:NT [Ks] HY:=fun b hb xs e=>by rw [List.mem_singleton.mp hb,sY _ _ g1] at e;cases e
        refine ⟨sY _ _ g1,upd_same,(g2.trans sY).write hKs,by omega,by rw [List.length_append,yl];rfl,(fun z=>by cases z),(fun _=>⟨x,dx,l,by rw [List.eq_nil_of_length_eq_zero yl];rfl,S.mv Mv.put nt (by simpa using xK) (by simpa using lK),an⟩),(fun z=>by cases z)⟩
      | 1=>
        cases hx
        refine ⟨x,dx,tb,ub,nb,rfl,upd_same,(trb7.same g2).same sK,fun l HY fl S kp=>⟨rfl,?_⟩⟩
        have sY:Same HX HY:=fun b o e=>kp b o (sK b o e) (ne_of_none e nx)
        have lK:l≠Ks:=(ne_of_none g1 (sK.free fl)).symm
        have lx:l≠x:=fun z=>by rw [z,upd_same] at fl;cases fl
        obtain ⟨xa,dxa,la,rfl,Sa,ana⟩:=e1 rfl
        have an:=(ana.two sY nx (sK.free fl) lx S).put (a:=Ks) (ys:=[.ref xa]++[.ref x])
        have nt:NT [Ks] HY:=fun b hb xs e=>by rw [List.mem_singleton.mp hb,sY _ _ g1] at e;cases e
        have nda:=ana.nd
        simp only [List.nodup_cons,List.mem_cons,List.not_mem_nil,or_false,not_or,List.nodup_nil,not_false_eq_true,and_true] at nda
        refine ⟨sY _ _ g1,upd_same,(g2.trans sY).write hKs,by omega,rfl,(fun z=>by cases z),(fun z=>by cases z),(fun _=>⟨xa,dxa,la,x,dx,l,rfl,(Sa.same sY).mv Mv.put nt (by simp;exact nda.2.1.1) (by simp;exact nda.1.2.1),S.mv Mv.put nt (by simpa using xK) (by simpa using lK),an⟩)⟩
      | i+2=>cases hx
    rintro ys H8 ⟨g8,s8,_,_,_,_,e2⟩
    obtain ⟨xa,dxa,la,xb,dxb,lb,rfl,Sa8,Sb8,an8⟩:=e2 rfl
    have h78:=s8 _ _ h7
    have kt8:=kt7.same s8
    refine ⟨(by show 0≤sizeLine;decide),fun qa hqa=>?_⟩
    generalize hJ:upd H8 qa _=H9
    have s9:Same H8 H9:=by rw [← hJ];exact (Same.refl H8).new hqa
    have h9:H9 qa=some (.lst []):=by rw [← hJ];exact upd_same
    clear hJ
    have an9:=an8.new s9 hqa h9 (fun _ z=>by cases z) (fun _ z=>by cases z)
    refine ⟨(by show 0≤sizeLine;decide),fun qb hqb=>?_⟩
    generalize hJ:upd H9 qb _=H10
    have s10:Same H9 H10:=by rw [← hJ];exact (Same.refl H9).new hqb
    have h10:H10 qb=some (.lst []):=by rw [← hJ];exact upd_same
    clear hJ
    have an10:=an9.new s10 hqb h10 (fun _ z=>by cases z) (fun _ z=>by cases z)
    refine ⟨(by show 2≤sizeLine;decide),fun St hSt=>?_⟩
    generalize hJ:upd H10 St _=HB
    have sB:Same H10 HB:=by rw [← hJ];exact (Same.refl H10).new hSt
    have hB:HB St=some (.lst [.ref qa,.ref qb]):=by rw [← hJ];exact upd_same
    clear hJ
    have anB:=an10.new sB hSt hB (fun _ z=>by cases z) (fun _ z=>by cases z)
    have nd:=nd_of anB.nd
    have s8B:=(s9.trans s10).trans sB
    have s6B:=(s7.trans s8).trans s8B
    have ktB:Kt ls H0 HB:=kt8.same s8B
    obtain ⟨_,_,_,oka⟩:=id tra6
    obtain ⟨_,_,_,okb⟩:=id trb6
    have j0:JJ ls C p Tl Ks St xa dxa la qa xb dxb lb qb ta tb ua na ub nb True True HB HB 1000 0:=
      ⟨ktB.lam,Deck.same dk6 s6B,s8B _ _ h78,tra6.same s6B,trb6.same s6B,s8B _ _ g8,hB,(fun _=>⟨ta,ua,na,[],[],[],⟨Sa8.same s8B,Deeds.nil,sB _ _ (s10 _ _ h9),rfl,⟨finea.road,oka.pos,oka.root,oka.up⟩,finea.low,(fun h hh=>by cases hh),rfl⟩,Nat.le_refl _⟩),(fun _=>⟨tb,ub,nb,[],[],[],⟨Sb8.same s8B,Deeds.nil,sB _ _ h10,rfl,⟨fineb.road,okb.pos,okb.root,okb.up⟩,fineb.low,(fun h hh=>by cases hh),rfl⟩,Nat.le_refl _⟩),Mv.refl,anB.al.sub (by simp)⟩
    have fin:∀ {HY:Hp},Lams ls HY→Mv [p,xa,la,qa,xb,lb,qb] HB HY→Kt ls H1 HY:=fun {HY} LY m=>k1.trans ⟨LY,fun b o t e=>m.keep b o t (fun z=>by
      have n:=anB.fr b (by simp only [List.mem_cons,List.not_mem_nil,or_false] at z ⊢;grind)
      rw [n] at e;cases e) (ktB.keep b o t e),fun b e=>ktB.here b (m.here b e)⟩
    refine ⟨_,rfl,_,rfl,by omega,by omega,?_⟩
    refine for_range (lo:=0) (n:=(3+dn).toNat) (fun i σ HX=>∃ (o7 o8 o9:Option V),σ=[some (.ref a),some (.int cell),some (.ref p),some (.int (3+dn)),some (.ref Tl),some (.ref Ks),some (.ref St),o7,o8,o9]∧JJ ls C p Tl Ks St xa dxa la qa xb dxb lb qb ta tb ua na ub nb True True HB HX (1000+40 * (i:Int)) i)
      ⟨_,_,_,rfl,j0.mono (by omega) (by omega)⟩ ?_ ?_
    · rintro i σ HX hi ⟨o7,o8,o9,rfl,j⟩
      refine ⟨_,rfl,p,2,_,rfl,j.dk,by omega,by omega,by decide,fun at_ HA a0 a1 kdA=>?_⟩
      have jA:=j.kd nd kdA
      obtain ⟨ix,rfl⟩:∃ n:Nat,at_=(n:Int):=⟨at_.toNat,by omega⟩
      obtain ⟨x,dx,l,q0,tk,tt,us,lbl,ds,es,hs,u0,l0,pk⟩:=jA.pick nd (i:=ix) (fun _=>trivial) (fun _=>trivial) (by omega)
      obtain ⟨px,pl,pq,xl,xq,lq⟩:=nd4 pk.nd
      have hs7:=pk.hn
      have on:=pk.on
      have dl:=on.dd.1
      have el:=on.el
      refine ⟨_,rfl,_,rfl,_,rfl,Ks,_,_,_,rfl,rfl,SqL.of jA.hK,pk.kx,x,dx,_,rfl,on.kp.ob,f_no (by decide +kernel) (by decide +kernel),x,dx,l,tk,us,lbl,ds,rfl,on.kp,?_⟩
      refine ⟨_,rfl,_,rfl,St,_,_,_,rfl,rfl,SqL.of jA.hS,pk.kq,?_⟩
      refine ⟨p,tk,q0,us,lbl,_,es,hs,rfl,jA.dk,by omega,by omega,on.kp.tr,on.low,pq,on.sl,el,fun d dd HC kdC fd' dat dok=>?_⟩
      have mC:Mv [p,x,l,q0] HA HC:=(Mv.kd kdC).mono (by simp)
      have ntA:=pk.al.nt
      have ntp:NT [p] HA:=(pk.al.sub (by simp)).nt
      have onC:=on.mv (Mv.kd kdC) ntp (by simpa using px.symm) (by simpa using pl.symm) (by simpa using pq.symm)
      have LC:=Lams.kd jA.lam ⟨_,jA.dk⟩ kdC
      have hKC:=mC.lst pk.nK jA.hK
      have hSC:=mC.lst pk.nS jA.hS
      refine ⟨_,rfl,_,rfl,Ks,_,_,_,rfl,rfl,SqL.of hKC,pk.kx,?_⟩
      refine ⟨_,rfl,x,dx,l,tk,d,us,lbl,ds,hs,dd,rfl,onC.kp,onC.dd,dat,dok,LC,by omega,fun r tk1 u1 lb1 ds1 hs1 n1 a1 b1 HD SD ke DD hr9 st1=>?_⟩
      have mD:Mv [p,x,l,q0] HA HD:=mC.trans ((Mv.ke ke).mono (by simp))
      have hKD:=mD.lst pk.nK jA.hK
      have hSD:=mD.lst pk.nS jA.hS
      have datD:=dat.tu ((Mv.ke ke).tu onC.kp.nt)
      have qD:=(Mv.ke ke).lst (by simp;exact ⟨xq.symm,lq.symm⟩) onC.sl
      obtain ⟨sb,sn⟩:=Stp.len st1
      refine mid (fun σ' H'=>σ'=[some (.ref a),some (.int cell),some (.ref p),some (.int (3+dn)),some (.ref Tl),some (.ref Ks),some (.ref St),some (.int (0+(i:Int))),some (.int (ix:Int)),some (.ref d)]∧H'=HD) ?_ fun E nx=>nx _ _ ⟨rfl,rfl⟩
      rintro σ' H' ⟨e1,e2⟩
      rw [e1,e2]
      clear e1 e2
      refine mid (fun σ' HE=>∃ (ty:Addr) (uy:List Int) (ly:Str) (dy ey:List V) (hy:List Hs),σ'=[some (.ref a),some (.int cell),some (.ref p),some (.int (3+dn)),some (.ref Tl),some (.ref Ks),some (.ref St),some (.int (0+(i:Int))),some (.int (ix:Int)),some (.ref d)]∧One C HE x dx l q0 ty uy ly dy ey hy u0 l0∧hy.length≤i+1∧Lams ls HE∧Deck HE p (1000+40 * (i:Int)+1+8)∧Mv [p,x,l,q0] HA HE) ?_ fun E nx=>?_
      · rintro σ' HE ⟨ty,uy,ly,dy,ey,hy,rfl,onE,hl,LE,dkE,mE⟩
        by_cases e2:i=2
        · refine ⟨_,rfl,rfl,_,rfl,L2.iteA (by rw [e2];rfl) ?_⟩
          have le:=onE.el
          have ld:=onE.dd.1
          refine ⟨_,rfl,_,rfl,_,rfl,Ks,_,_,_,rfl,rfl,SqL.of (mE.lst pk.nK jA.hK),pk.kx,?_⟩
          refine ⟨p,x,dx,l,ty,uy,ly,dy,hy,_,rfl,dkE,by omega,by omega,onE.kp,onE.dd,by omega,onE.gr,onE.low,px,pl,LE,fun tk' ds' H' L' dk' S' D' m'=>?_⟩
          refine ⟨_,rfl,iteF ?_⟩
          have mm:Mv [p,x,l,q0] HA H':=mE.trans (m'.mono (by simp))
          exact ⟨_,_,_,rfl,(pk.go H' _ (i+1) tk' uy ly ds' ey hy (by omega) hl L' dk' ⟨S',D',m'.lst (by simp;exact ⟨pq.symm,xq.symm,lq.symm⟩) onE.sl,onE.el,onE.gr,onE.low,onE.hg,onE.fs⟩ mm).mono (by omega) (Nat.le_refl _)⟩
        · refine ⟨_,rfl,rfl,_,rfl,L2.iteB (decide_eq_false fun z=>e2 (by injection z;omega)) ?_⟩
          refine L2.iteB rfl ?_
          exact ⟨_,_,_,rfl,(pk.go HE _ (i+1) ty uy ly dy ey hy (by omega) hl LE dkE onE mE).mono (by omega) (Nat.le_refl _)⟩
      · refine ⟨_,rfl,(by show 1≤sizeLine;decide),fun bk hbk=>?_⟩
        generalize hJ:upd HD bk _=HF
        have sF:Same HD HF:=by rw [← hJ];exact (Same.refl HD).new hbk
        have hF:HF bk=some (.tup [.str "back"]):=by rw [← hJ];exact upd_same
        clear hJ
        have datF:=datD.tu (Tu.of sF)
        have mF:Mv [p,x,l,q0] HA HF:=mD.trans (Mv.of sF)
        have hSF:=mF.lst pk.nS jA.hS
        have qF:=sF _ _ qD
        have dkF:Deck HF p (1000+40 * (i:Int)+1+8):=Deck.same (deck_mv kdC.deck (Mv.ke ke) (by simp;exact ⟨px,pl⟩)) sF
        have ntq:NT [q0] HF:=fun b hb xs e=>by rw [List.mem_singleton.mp hb,qF] at e;cases e
        have all:∀ es2:List V,es2.length=hs1.length→One C (upd HF q0 (.lst es2)) x dx l q0 tk1 u1 lb1 ds1 es2 hs1 u0 l0∧Lams ls (upd HF q0 (.lst es2))∧Deck (upd HF q0 (.lst es2)) p (1000+40 * (i:Int)+1+8)∧Mv [p,x,l,q0] HA (upd HF q0 (.lst es2)):=fun es2 h2=>
          have m:Mv [q0] HF (upd HF q0 (.lst es2)):=Mv.put
          ⟨onC.step dok ((SD.same sF).mv m ntq (by simpa using xq) (by simpa using lq)) ((DD.tu (Tu.of sF)).tu (m.tu ntq)) upd_same h2 st1,Lams.upd (ke.lam.same sF) qF (fun _ z=>by cases z) (fun _ z=>by cases z),deck_mv dkF m (by simpa using pq),mF.trans (m.mono (by simp))⟩
        have app:dd≠.back→∀ {σ:L2.St},σ=[some (.ref a),some (.int cell),some (.ref p),some (.int (3+dn)),some (.ref Tl),some (.ref Ks),some (.ref St),some (.int (0+(i:Int))),some (.int (ix:Int)),some (.ref d)]→E.nx σ (upd HF q0 (.lst (es++[.ref d]))):=fun nb {σ} e=>by
          have l1:=sn nb
          obtain ⟨a1,a2,a3,a4⟩:=all (es++[.ref d]) (by rw [List.length_append,List.length_singleton];omega)
          exact nx _ _ ⟨tk1,u1,lb1,ds1,_,hs1,e,a1,by omega,a2,a3,a4⟩
        have es8:es.length < sizeLine:=small1000 (by omega)
        cases dd with
        | back=>
          have l1:=sb rfl
          refine ⟨d,bk,[.str "back"],[.str "back"],rfl,rfl,SqT.of datF,SqT.of hF,rfl,rfl,?_⟩
          refine ⟨_,rfl,L2.iteA rfl ?_⟩
          have ne:es≠[]:=fun z=>by rw [z] at el;simp at el;omega
          refine ⟨_,rfl,_,rfl,St,_,_,_,rfl,rfl,SqL.of hSF,pk.kq,.inl ⟨rfl,_,SqL.of qF⟩,q0,es,es.getLast ne,rfl,rfl,qF,by rw [List.getLast_eq_getElem];exact List.getElem?_eq_getElem _,?_⟩
          obtain ⟨a1,a2,a3,a4⟩:=all es.dropLast (by rw [List.length_dropLast];omega)
          exact nx _ _ ⟨tk1,u1,lb1,ds1,_,hs1,rfl,a1,by omega,a2,a3,a4⟩
        | take m=>
          refine ⟨d,bk,[.str "take", .int (m:Int)],[.str "back"],rfl,rfl,SqT.of datF,SqT.of hF,rfl,rfl,?_⟩
          refine ⟨_,rfl,L2.iteB rfl ?_⟩
          refine ⟨_,rfl,_,rfl,St,_,_,_,rfl,rfl,SqL.of hSF,pk.kq,.inl ⟨rfl,_,SqL.of qF⟩,_,rfl,q0,es,.ref d,rfl,rfl,qF,es8,?_⟩
          exact app (fun z=>by cases z) rfl
        | put ab nu z=>
          refine ⟨d,bk,[.str "put", .int (ab:Int),.int (nu:Int),.str z],[.str "back"],rfl,rfl,SqT.of datF,SqT.of hF,rfl,rfl,?_⟩
          refine ⟨_,rfl,L2.iteB rfl ?_⟩
          refine ⟨_,rfl,_,rfl,St,_,_,_,rfl,rfl,SqL.of hSF,pk.kq,.inl ⟨rfl,_,SqL.of qF⟩,_,rfl,q0,es,.ref d,rfl,rfl,qF,es8,?_⟩
          exact app (fun z=>by cases z) rfl
    · rintro σ HX ⟨o7,o8,o9,rfl,j⟩
      have n9:(3+dn).toNat≤9:=by omega
      refine ⟨2,rfl,by decide,by decide,?_⟩
      refine for_range (lo:=0) (n:=2) (fun i σ HY=>∃ (o7 o8:Option V) (c:Int),σ=[some (.ref a),some (.int cell),some (.ref p),some (.int (3+dn)),some (.ref Tl),some (.ref Ks),some (.ref St),o7,o8,o9]∧JJ ls C p Tl Ks St xa dxa la qa xb dxb lb qb ta tb ua na ub nb (i≤0) (i≤1) HB HY c 9)
        ⟨_,_,_,rfl,(j.mono (c':=_) (Int.le_refl _) n9).imp (fun _=>trivial) (fun _=>trivial)⟩ ?_ ?_
      · rintro ix σ HA hi ⟨o7',o8',c,rfl,jA⟩
        obtain ⟨x,dx,l,q0,tk,tt,us,lbl,ds,es,hs,u0,l0,pk⟩:=jA.pick nd (i:=ix) (fun z=>by omega) (fun z=>by omega) (by omega)
        obtain ⟨px,pl,pq,xl,xq,lq⟩:=nd4 pk.nd
        have hs7:=pk.hn
        have on:=pk.on
        have dl:=on.dd.1
        have el:=on.el
        rw [show (0:Int)+(ix:Int)=(ix:Int) by omega]
        refine ⟨_,rfl,_,rfl,Ks,_,_,_,rfl,rfl,SqL.of jA.hK,pk.kx,x,dx,_,rfl,on.kp.ob,f_no (by decide +kernel) (by decide +kernel),x,dx,l,tk,us,lbl,ds,rfl,on.kp,by omega,?_⟩
        refine ⟨_,rfl,_,rfl,St,_,_,_,rfl,rfl,SqL.of jA.hS,pk.kq,q0,es,rfl,.inl (SqL.of on.sl),?_⟩
        refine ⟨_,_,rfl,.inl ⟨by rw [dl,el],.inl ⟨_,rfl⟩⟩,fun H2 s2=>⟨_,rfl,iteF ?_⟩⟩
        have j2:=jA.same s2
        have tr2:=pk.tr.same s2
        refine ⟨_,rfl,_,rfl,Tl,_,_,_,rfl,rfl,SqL.of j2.hT,pk.kt,fun x3 dx3 nx ndx nex=>?_⟩
        have sK:Same H2 (upd (upd H2 dx3 (.own x3)) x3 (.ins C dx3 [])):=fun b o e=>by
          rw [upd_ne (ne_of_none e nx),upd_ne (ne_of_none e ndx)]
          exact e
        refine ⟨x3,dx3,tt,u0,l0,rfl,upd_same,tr2.same sK,fun l3 H3 fl S3 kp=>⟨rfl,?_⟩⟩
        have s3:Same H2 H3:=fun b o e=>kp b o (sK b o e) (ne_of_none e nx)
        refine ⟨(by show 1≤sizeLine;decide),fun wr hwr=>?_⟩
        generalize hJ:upd H3 wr _=H4
        have s4:Same H3 H4:=by rw [← hJ];exact (Same.refl H3).new hwr
        have h4:H4 wr=some (.lst ([Str.ofString "a"].map V.str)):=by rw [← hJ];exact upd_same
        clear hJ
        have kt4:Kt ls HA H4:=Kt.of ((s2.trans s3).trans s4) jA.lam
        refine ⟨x3,dx3,l3,tt,wr,u0,l0,[],[Str.ofString "a"],rfl,S3.same s4,h4,by show 1≤60;decide,kt4.lam,fun r5 o5 rr5 a5 b5 os5 ks5 ss5 H5 k5 _ _ t5=>?_⟩
        have kt5:=kt4.trans k5
        refine ⟨_,rfl,_,rfl,Tl,_,_,_,rfl,rfl,SqL.of (kt5.lst jA.hT),pk.kt,?_⟩
        refine ⟨(by show 1≤sizeLine;decide),fun wr2 hwr2=>?_⟩
        generalize hJ:upd H5 wr2 _=H6
        have s6:Same H5 H6:=by rw [← hJ];exact (Same.refl H5).new hwr2
        have h6:H6 wr2=some (.lst ([Str.ofString "a"].map V.str)):=by rw [← hJ];exact upd_same
        clear hJ
        have kt6:=kt5.same s6
        have trk:∀ {H':Hp},Kt ls HA H'→TreeAt H' tt u0 l0:=fun {H'} k=>TreeAt.of pk.tr fun b xs e=>k.tup e
        refine ⟨tt,wr2,u0,l0,[Str.ofString "a"],rfl,trk kt6,h6,by show 1≤60;decide,kt6.lam,fun r7 o7 rr7 a7 b7 os7 ks7 ss7 H7 k7 _ _ t7=>?_⟩
        have t57:=(t5.mv (A:=[]) (Mv.of s6) (fun a ha=>by cases ha) (by simp) (by simp)).mv (A:=[]) (Mv.kt k7) (fun a ha=>by cases ha) (by simp) (by simp)
        refine ⟨.ref r5,.ref r7,rfl,t57.same (by show 1≤100;decide) t7,fun H8 s8=>⟨_,rfl,iteF ?_⟩⟩
        have kt8:=(kt6.trans k7).same s8
        have on8:=on.kt kt8
        have hK8:=kt8.lst jA.hK
        have hS8:=kt8.lst jA.hS
        have hT8:=kt8.lst jA.hT
        refine ⟨_,rfl,_,rfl,St,_,_,_,rfl,rfl,SqL.of hS8,pk.kq,q0,es,rfl,.inl (SqL.of on8.sl),_,rfl,by omega,by omega,?_⟩
        refine for_range (lo:=0) (n:=es.length) (fun i σ HX=>∃ (o7:Option V) (ty:Addr) (uy:List Int) (ly:Str) (dy:List V) (hy:List Hs),σ=[some (.ref a),some (.int cell),some (.ref p),some (.int (3+dn)),some (.ref Tl),some (.ref Ks),some (.ref St),o7,some (.int (ix:Int)),o9]∧KpAt C HX x dx l ty uy ly dy∧Deeds HX dy hy∧hy.length+i=hs.length∧((hy.map fun h=>(h.us,h.lb))++[(uy,ly)]).head?=some (u0,l0)∧Lams ls HX∧Mv [x,l] H8 HX)
          ⟨_,tk,us,lbl,ds,hs,rfl,on8.kp,on8.dd,rfl,on8.fs,kt8.lam,Mv.refl⟩ ?_ ?_
        · rintro m σ HX hm ⟨o7'',ty,uy,ly,dy,hy,rfl,S,D,hl,fs,LX,mX⟩
          have hne:hy≠[]:=fun z=>by rw [z] at hl;simp at hl;omega
          obtain ⟨hy0,h,rfl⟩:∃ hs0 h,hy=hs0++[h]:=⟨hy.dropLast,hy.getLast hne,(List.dropLast_concat_getLast hne).symm⟩
          obtain ⟨dy0,e0,rfl,D0,e,t0,r,rfl,he,tr0,hr0⟩:=D.pop
          have ld:=D0.1
          rw [List.length_append,List.length_singleton] at hl
          have nKx:Ks ∉ [x,l]:=fun z=>pk.nK (by simp only [List.mem_cons,List.not_mem_nil,or_false] at z ⊢;grind)
          refine ⟨_,rfl,_,rfl,Ks,_,_,_,rfl,rfl,SqL.of (mX.lst nKx hK8),pk.kx,x,dx,_,rfl,S.ob,f_no (by decide +kernel) (by decide +kernel),x,dx,l,ty,uy,ly,dy0,e,t0,r,rfl,S,he,LX,by omega,fun HJ hxJ hlJ keJ=>?_⟩
          have mJ:=Mv.ke keJ
          have tuJ:=mJ.tu S.nt
          refine ⟨_,t0,h.us,h.lb,dy0,hy0,rfl,⟨hxJ,hlJ,TreeAt.of tr0 tuJ⟩,D0.tu tuJ,by omega,?_,keJ.lam,mX.trans mJ⟩
          rw [List.map_append,head_app (by simp)] at fs
          exact fs
        · rintro σ HX ⟨o7'',ty,uy,ly,dy,hy,rfl,S,D,hl,fs,LX,mX⟩
          obtain rfl:hy=[]:=List.eq_nil_of_length_eq_zero (by omega)
          obtain ⟨rfl,rfl⟩:uy=u0∧ly=l0:=by
            have e:=Option.some.inj fs
            exact ⟨congrArg Prod.fst e,congrArg Prod.snd e⟩
          have nx':∀ b,b ∉ [p,x,l,q0]→b ∉ [x,l]:=fun b n z=>n (by simp only [List.mem_cons,List.not_mem_nil,or_false] at z ⊢;grind)
          have mA:Mv [p,x,l,q0] HA HX:=(Mv.kt kt8).trans (mX.mono (by simp))
          have hKX:=mA.lst pk.nK jA.hK
          have hTX:=mA.lst pk.nT jA.hT
          have trX:TreeAt HX tt uy ly:=TreeAt.of pk.tr (mA.tu pk.al.nt)
          refine ⟨_,rfl,_,rfl,Ks,_,_,_,rfl,rfl,SqL.of hKX,pk.kx,?_⟩
          refine ⟨(by show 1≤sizeLine;decide),fun wr3 hwr3=>?_⟩
          generalize hJ:upd HX wr3 _=J1
          have z1:Same HX J1:=by rw [← hJ];exact (Same.refl HX).new hwr3
          have y1:J1 wr3=some (.lst ([Str.ofString "a"].map V.str)):=by rw [← hJ];exact upd_same
          clear hJ
          have q1:Kt ls HX J1:=Kt.of z1 LX
          refine ⟨x,dx,l,ty,wr3,uy,ly,dy,[Str.ofString "a"],rfl,S.same z1,y1,by show 1≤60;decide,q1.lam,fun r9 o9' rr9 a9 b9 os9 ks9 ss9 J2 k9 _ _ t9=>?_⟩
          have q2:=q1.trans k9
          refine ⟨_,rfl,_,rfl,Tl,_,_,_,rfl,rfl,SqL.of (q2.lst hTX),pk.kt,?_⟩
          refine ⟨(by show 1≤sizeLine;decide),fun wr4 hwr4=>?_⟩
          generalize hJ:upd J2 wr4 _=J3
          have z3:Same J2 J3:=by rw [← hJ];exact (Same.refl J2).new hwr4
          have y3:J3 wr4=some (.lst ([Str.ofString "a"].map V.str)):=by rw [← hJ];exact upd_same
          clear hJ
          have q3:=q2.same z3
          refine ⟨tt,wr4,uy,ly,[Str.ofString "a"],rfl,TreeAt.of trX (fun b xs e=>q3.tup e),y3,by show 1≤60;decide,q3.lam,fun rA oA rrA aA bA osA ksA ssA J4 kA _ _ tA=>?_⟩
          have t9A:=(t9.mv (A:=[]) (Mv.of z3) (fun a ha=>by cases ha) (by simp) (by simp)).mv (A:=[]) (Mv.kt kA) (fun a ha=>by cases ha) (by simp) (by simp)
          refine ⟨.ref r9,.ref rA,rfl,t9A.same (by show 1≤100;decide) tA,fun J5 z5=>⟨_,rfl,iteF ?_⟩⟩
          have q5:=(q3.trans kA).same z5
          have m5:=mA.trans (Mv.kt q5)
          have S5:=S.kt q5
          have q05:J5 q0=some (.lst es):=q5.lst (mX.lst (by simp;exact ⟨xq.symm,lq.symm⟩) on8.sl)
          obtain ⟨c5,j5⟩:=pk.go2 J5 q5.lam m5 ⟨c,deck_mv (deck_mv (deck_mv jA.dk (Mv.kt (A:=[]) kt8) (by simp)) mX (by simp;exact ⟨px,pl⟩)) (Mv.kt (A:=[]) q5) (by simp)⟩ (((Al.nil.cons q05 (fun _ z=>by cases z) (fun _ z=>by cases z)).cons S5.dl (fun _ z=>by cases z) (fun _ z=>by cases z)).cons S5.ob (fun _ z=>by cases z) (fun _ z=>by cases z))
          exact ⟨_,_,c5,rfl,j5.imp (fun z=>by omega) (fun z=>by omega)⟩
      · rintro σ HY ⟨o7',o8',c,rfl,jY⟩
        exact ⟨_,_,_,_,_,_,_,_,_,rfl,fin jY.lam jY.mv⟩
  · rintro σ H' ⟨o1,o2,o3,o4,o5,o6,o7,o8,o9,rfl,k1⟩
    exact q H'
end
end S73
namespace S73
open PySem L2 W7
theorem df_mk {K:PySem.W.Frag} {h:Heap} {mg:Str→Option Value} {x:Str} {st:Stmt} {f:Addr} {oc:Value} {od an:Option Addr} {osl:Array (Option Value)} {kV doc pm cdv ct:Value} (X:K.In h) (G:h.Ns mainGlobals mg)
    (a:PySem.W.nsIn K mainGlobals x=some (some (.ref f))) (l:K.lookup f=some ⟨oc,od,.func (PySem.W.fnOf x x (defArgs st) (defBody st) (defScope st) .none kV doc pm an cdv ct),osl⟩) (c:PySem.W.codeIn K cdv x=true) (kk:PySem.W.keepIn K (.ref f)=true):Df K mg x st:=
  ⟨f,_,fun_mk l c kk,PySem.W.mg_of X G a⟩
theorem made_mkKeeper {K:PySem.W.Frag} {h:Heap} {mg:Str→Option Value} {C f1 f2 f3 f4 f5 f6 f7 f8 f9 f10 f11 f12:Addr} (X:K.In h) (G:h.Ns mainGlobals mg) {od1 an1 od2 an2 od3 an3 od4 an4 od5 an5 od6 an6 od7 an7 od8 an8 od9 an9 od10 an10 od11 an11 od12 an12:Option Addr} {sl1 sl2 sl3 sl4 sl5 sl6 sl7 sl8 sl9 sl10 sl11 sl12:Array (Option Value)} {oc1 kV1 dc1 pm1 cd1 ct1 oc2 kV2 dc2 pm2 cd2 ct2 oc3 kV3 dc3 pm3 cd3 ct3 oc4 kV4 dc4 pm4 cd4 ct4 oc5 kV5 dc5 pm5 cd5 ct5 oc6 kV6 dc6 pm6 cd6 ct6 oc7 kV7 dc7 pm7 cd7 ct7 oc8 kV8 dc8 pm8 cd8 ct8 oc9 kV9 dc9 pm9 cd9 ct9 oc10 kV10 dc10 pm10 cd10 ct10 oc11 kV11 dc11 pm11 cd11 ct11 oc12 kV12 dc12 pm12 cd12 ct12:Value}
    (aC:PySem.W.nsIn K mainGlobals "Keeper" = some (some (.ref C)))
     (a1:PySem.W.findIn K (.ref C) "__init__" = some (some (.ref f1))) (i1:PySem.W.isFn K (.ref f1)=true) (l1:K.lookup f1=some ⟨oc1,od1,.func (PySem.W.fnOf "__init__" "Keeper.__init__" (defArgs s_Keeper___init__) (defBody s_Keeper___init__) (defScope s_Keeper___init__) .none kV1 dc1 pm1 an1 cd1 ct1),sl1⟩) (c1:PySem.W.codeIn K cd1 "Keeper.__init__" = true) (k1:PySem.W.keepIn K (.ref f1)=true)
     (a2:PySem.W.findIn K (.ref C) "put" = some (some (.ref f2))) (i2:PySem.W.isFn K (.ref f2)=true) (l2:K.lookup f2=some ⟨oc2,od2,.func (PySem.W.fnOf "put" "Keeper.put" (defArgs s_Keeper_put) (defBody s_Keeper_put) (defScope s_Keeper_put) .none kV2 dc2 pm2 an2 cd2 ct2),sl2⟩) (c2:PySem.W.codeIn K cd2 "Keeper.put" = true) (k2:PySem.W.keepIn K (.ref f2)=true)
     (a3:PySem.W.findIn K (.ref C) "take" = some (some (.ref f3))) (i3:PySem.W.isFn K (.ref f3)=true) (l3:K.lookup f3=some ⟨oc3,od3,.func (PySem.W.fnOf "take" "Keeper.take" (defArgs s_Keeper_take) (defBody s_Keeper_take) (defScope s_Keeper_take) .none kV3 dc3 pm3 an3 cd3 ct3),sl3⟩) (c3:PySem.W.codeIn K cd3 "Keeper.take" = true) (k3:PySem.W.keepIn K (.ref f3)=true)
     (a4:PySem.W.findIn K (.ref C) "back" = some (some (.ref f4))) (i4:PySem.W.isFn K (.ref f4)=true) (l4:K.lookup f4=some ⟨oc4,od4,.func (PySem.W.fnOf "back" "Keeper.back" (defArgs s_Keeper_back) (defBody s_Keeper_back) (defScope s_Keeper_back) .none kV4 dc4 pm4 an4 cd4 ct4),sl4⟩) (c4:PySem.W.codeIn K cd4 "Keeper.back" = true) (k4:PySem.W.keepIn K (.ref f4)=true)
     (a5:PySem.W.findIn K (.ref C) "change" = some (some (.ref f5))) (i5:PySem.W.isFn K (.ref f5)=true) (l5:K.lookup f5=some ⟨oc5,od5,.func (PySem.W.fnOf "change" "Keeper.change" (defArgs s_Keeper_change) (defBody s_Keeper_change) (defScope s_Keeper_change) .none kV5 dc5 pm5 an5 cd5 ct5),sl5⟩) (c5:PySem.W.codeIn K cd5 "Keeper.change" = true) (k5:PySem.W.keepIn K (.ref f5)=true)
     (a6:PySem.W.findIn K (.ref C) "refuse_no_place" = some (some (.ref f6))) (i6:PySem.W.isFn K (.ref f6)=true) (l6:K.lookup f6=some ⟨oc6,od6,.func (PySem.W.fnOf "refuse_no_place" "Keeper.refuse_no_place" (defArgs s_Keeper_refuse_no_place) (defBody s_Keeper_refuse_no_place) (defScope s_Keeper_refuse_no_place) .none kV6 dc6 pm6 an6 cd6 ct6),sl6⟩) (c6:PySem.W.codeIn K cd6 "Keeper.refuse_no_place" = true) (k6:PySem.W.keepIn K (.ref f6)=true)
     (a7:PySem.W.findIn K (.ref C) "tree_now" = some (some (.ref f7))) (i7:PySem.W.isFn K (.ref f7)=true) (l7:K.lookup f7=some ⟨oc7,od7,.func (PySem.W.fnOf "tree_now" "Keeper.tree_now" (defArgs s_Keeper_tree_now) (defBody s_Keeper_tree_now) (defScope s_Keeper_tree_now) .none kV7 dc7 pm7 an7 cd7 ct7),sl7⟩) (c7:PySem.W.codeIn K cd7 "Keeper.tree_now" = true) (k7:PySem.W.keepIn K (.ref f7)=true)
     (a8:PySem.W.findIn K (.ref C) "order_now" = some (some (.ref f8))) (i8:PySem.W.isFn K (.ref f8)=true) (l8:K.lookup f8=some ⟨oc8,od8,.func (PySem.W.fnOf "order_now" "Keeper.order_now" (defArgs s_Keeper_order_now) (defBody s_Keeper_order_now) (defScope s_Keeper_order_now) .none kV8 dc8 pm8 an8 cd8 ct8),sl8⟩) (c8:PySem.W.codeIn K cd8 "Keeper.order_now" = true) (k8:PySem.W.keepIn K (.ref f8)=true)
     (a9:PySem.W.findIn K (.ref C) "rows_now" = some (some (.ref f9))) (i9:PySem.W.isFn K (.ref f9)=true) (l9:K.lookup f9=some ⟨oc9,od9,.func (PySem.W.fnOf "rows_now" "Keeper.rows_now" (defArgs s_Keeper_rows_now) (defBody s_Keeper_rows_now) (defScope s_Keeper_rows_now) .none kV9 dc9 pm9 an9 cd9 ct9),sl9⟩) (c9:PySem.W.codeIn K cd9 "Keeper.rows_now" = true) (k9:PySem.W.keepIn K (.ref f9)=true)
     (a10:PySem.W.findIn K (.ref C) "count_now" = some (some (.ref f10))) (i10:PySem.W.isFn K (.ref f10)=true) (l10:K.lookup f10=some ⟨oc10,od10,.func (PySem.W.fnOf "count_now" "Keeper.count_now" (defArgs s_Keeper_count_now) (defBody s_Keeper_count_now) (defScope s_Keeper_count_now) .none kV10 dc10 pm10 an10 cd10 ct10),sl10⟩) (c10:PySem.W.codeIn K cd10 "Keeper.count_now" = true) (k10:PySem.W.keepIn K (.ref f10)=true)
     (a11:PySem.W.findIn K (.ref C) "many_now" = some (some (.ref f11))) (i11:PySem.W.isFn K (.ref f11)=true) (l11:K.lookup f11=some ⟨oc11,od11,.func (PySem.W.fnOf "many_now" "Keeper.many_now" (defArgs s_Keeper_many_now) (defBody s_Keeper_many_now) (defScope s_Keeper_many_now) .none kV11 dc11 pm11 an11 cd11 ct11),sl11⟩) (c11:PySem.W.codeIn K cd11 "Keeper.many_now" = true) (k11:PySem.W.keepIn K (.ref f11)=true)
     (a12:PySem.W.findIn K (.ref C) "deeds_now" = some (some (.ref f12))) (i12:PySem.W.isFn K (.ref f12)=true) (l12:K.lookup f12=some ⟨oc12,od12,.func (PySem.W.fnOf "deeds_now" "Keeper.deeds_now" (defArgs s_Keeper_deeds_now) (defBody s_Keeper_deeds_now) (defScope s_Keeper_deeds_now) .none kV12 dc12 pm12 an12 cd12 ct12),sl12⟩) (c12:PySem.W.codeIn K cd12 "Keeper.deeds_now" = true) (k12:PySem.W.keepIn K (.ref f12)=true)
    (pg:PySem.W.plainGet K C Str.empty=true) (hd:PySem.W.hasDictIn K C=true) (po:PySem.W.plainOver K C=true) (sa:PySem.W.findIn K (.ref C) "__setattr__" = some (some (.builtin "object.__setattr__"))) (mk:PySem.W.makesIn K C=true) (kc:PySem.W.keepIn K (.ref C)=true) (ntree:PySem.W.findIn K (.ref C) "tree" = some none) (ndeeds:PySem.W.findIn K (.ref C) "deeds" = some none):Made K mg:=
  ⟨C,f1,f2,f3,f4,f5,f6,f7,f8,f9,f10,f11,f12,_,_,_,_,_,_,_,_,_,_,_,_,⟨⟨pg,hd,po,sa⟩,ntree,ndeeds,PySem.W.mg_of X G aC⟩,⟨mk,a1,i1,kc⟩,fun_mk l1 c1 k1,⟨a2,i2,k2⟩,fun_mk l2 c2 k2,⟨a3,i3,k3⟩,fun_mk l3 c3 k3,⟨a4,i4,k4⟩,fun_mk l4 c4 k4,⟨a5,i5,k5⟩,fun_mk l5 c5 k5,⟨a6,i6,k6⟩,fun_mk l6 c6 k6,⟨a7,i7,k7⟩,fun_mk l7 c7 k7,⟨a8,i8,k8⟩,fun_mk l8 c8 k8,⟨a9,i9,k9⟩,fun_mk l9 c9 k9,⟨a10,i10,k10⟩,fun_mk l10 c10 k10,⟨a11,i11,k11⟩,fun_mk l11 c11 k11,⟨a12,i12,k12⟩,fun_mk l12 c12 k12⟩
theorem blt_mk {K:PySem.W.Frag} {h:Heap} {mg:Str→Option Value} (X:K.In h) (G:h.Ns mainGlobals mg)
    (z1:PySem.W.nsIn K mainGlobals "len" = some none) (z2:PySem.W.nsIn K mainGlobals "range" = some none) (z3:PySem.W.nsIn K mainGlobals "zip" = some none) (z4:PySem.W.nsIn K mainGlobals "enumerate" = some none)
    (z5:PySem.W.nsIn K mainGlobals "max" = some none) (z6:PySem.W.nsIn K mainGlobals "min" = some none) (z7:PySem.W.nsIn K mainGlobals "int" = some none) (z8:PySem.W.nsIn K mainGlobals "str" = some none)
    (z9:PySem.W.nsIn K mainGlobals "bool" = some none) (z10:PySem.W.nsIn K mainGlobals "list" = some none) (z11:PySem.W.nsIn K mainGlobals "tuple" = some none) (z12:PySem.W.nsIn K mainGlobals "isinstance" = some none):Blt mg:=
  ⟨PySem.W.mg_none_of X G z1,PySem.W.mg_none_of X G z2,PySem.W.mg_none_of X G z3,PySem.W.mg_none_of X G z4,PySem.W.mg_none_of X G z5,PySem.W.mg_none_of X G z6,PySem.W.mg_none_of X G z7,PySem.W.mg_none_of X G z8,
    PySem.W.mg_none_of X G z9,PySem.W.mg_none_of X G z10,PySem.W.mg_none_of X G z11,PySem.W.mg_none_of X G z12⟩
theorem all_ok {P:Program} {w:World} {K:PySem.W.Frag} {mg:Str→Option Value} {fa:Addr} (hfa:mg "law" = some (.ref fa)) (B:Blt7 mg)
    (d1:Df K mg "is_whole" s_is_whole) (d2:Df K mg "is_number_below" s_is_number_below) (d3:Df K mg "is_letters" s_is_letters) (d4:Df K mg "is_letter" s_is_letter) (d5:Df K mg "words_of" s_words_of) (d6:Df K mg "order_of" s_order_of) (d7:Df K mg "ranks_of" s_ranks_of) (d8:Df K mg "alike_of" s_alike_of) (d9:Df K mg "many_alike" s_many_alike) (d10:Df K mg "is_tree" s_is_tree) (d11:Df K mg "is_labels" s_is_labels) (d12:Df K mg "is_ups" s_is_ups) (d13:Df K mg "all_above" s_all_above) (d14:Df K mg "beneath_of" s_beneath_of) (d15:Df K mg "is_leaf" s_is_leaf) (d16:Df K mg "bough_of" s_bough_of) (d17:Df K mg "kept_order" s_kept_order) (d18:Df K mg "rows_of" s_rows_of) (d19:Df K mg "is_last" s_is_last) (d20:Df K mg "count_read" s_count_read) (d21:Df K mg "how_many" s_how_many) (d22:Df K mg "unlike_words" s_unlike_words) (d23:Df K mg "count_words" s_count_words) (d24:Df K mg "with_leaf" s_with_leaf) (d25:Df K mg "without_leaf" s_without_leaf) (d26:Df K mg "triple_of" s_triple_of) (d27:Df K mg "_law_prime" s_law_prime) (d28:Df K mg "_law_pool" s_law_pool) (d29:Df K mg "_law_take" s_law_take) (d30:Df K mg "_law_cells" s_law_cells) (d31:Df K mg "_law_letter" s_law_letter) (d32:Df K mg "_law_tree" s_law_tree) (d33:Df K mg "_law_word" s_law_word) (d34:Df K mg "_law_beneath" s_law_beneath) (d35:Df K mg "_law_leaves" s_law_leaves) (d36:Df K mg "_law_sign" s_law_sign) (d37:Df K mg "_law_putting" s_law_putting) (d38:Df K mg "_law_deed" s_law_deed) (d39:Df K mg "_law_ask" s_law_ask) (d40:Df K mg "_law_seek" s_law_seek) (d41:Df K mg "_law_same" s_law_same) (d42:Df K mg "_law_told" s_law_told) (d43:Df K mg "_law_afresh" s_law_afresh) (d44:Df K mg "_law_right" s_law_right) (d45:Df K mg "law" s_law) (M:Made K mg) :
    ∃ fd:FuncData,(∀ (s:Shared) (v:Value),BindsTo s fd ⟨[v],[]⟩ [("script", v)])∧∀ (Ts:List Addr) (base:Heap),K.In base→Two (TabAt base mg) ["order_of", "kept_order"] Ts→FnOk P w K mg base CX0 12 fa fd ["script"] (sp_law (lamsOf Ts) K):=by
  obtain ⟨f,fd,F,m⟩:=d45
  have e:=hfa.symm.trans m
  cases e
  refine ⟨fd,?_,fun Ts base kb TT=>?_⟩
  · obtain ⟨oc,od,kV,doc,pm,an,cdv,ct,osl,rfl,_,_⟩:=F.ex
    exact fun s v=>.of_eq rfl
  cases TT with
  | cons TA1 TT2=>
    rename_i T1 _
    cases TT2 with
    | cons TA2 TT3=>
      rename_i T2 _
      cases TT3
      have LK:LmOk (lamsOf [T1,T2]):=lm_ok _
      have LI1:(T1,lpO,qO)∈lamsOf [T1,T2]:=List.mem_cons_self ..
      have LI2:(T2,lpK,qK)∈lamsOf [T1,T2]:=List.mem_cons_of_mem _ (List.mem_cons_self ..)
      have g_words:=has_words (P:=P) (w:=w) (base:=base) (k:=0) d5 B.toBlt
      have g_order:=has_order (k:=1) d6 B kb TA1 LK LI1 g_words
      have g_ranks:=has_ranks (k:=2) d7 B g_order
      have g_kept:=has_kept (k:=3) d17 B kb TA2 LK LI2 g_ranks
      have g_tri:=has_tri (k:=4) d26 B (g_ranks.mono (by decide)) g_kept
      have g_whole:=has_whole (P:=P) (w:=w) (base:=base) (k:=0) d1 B
      have g_below:=has_below (k:=1) d2 B g_whole
      have g_prime:=has_prime (P:=P) (w:=w) (base:=base) (k:=0) d27 B.toBlt
      have g_pool:=has_pool (P:=P) (w:=w) (base:=base) (k:=0) d28 B.toBlt
      have g_take:=has_take (k:=1) d29 B.toBlt g_prime
      have g_letter:=has_letter (k:=2) d31 B.toBlt g_take
      have g_tree:=has_tree (k:=3) d32 B.toBlt (g_take.mono (by decide)) g_letter
      have g_cells:=has_cells (P:=P) (w:=w) (base:=base) (k:=0) d30 B.toBlt
      have g_lword:=has_lword (P:=P) (w:=w) (base:=base) (k:=0) d33 B.toBlt
      have g_less:=has_less (P:=P) (w:=w) (base:=base) (k:=0) d25 B
      have g_leaf:=has_leaf (P:=P) (w:=w) (base:=base) (k:=0) d15 B
      have g_leaves:=has_leaves (P:=P) (w:=w) (base:=base) (k:=0) d35 B
      have g_letters:=has_letters (P:=P) (w:=w) (base:=base) (k:=0) d3 B
      have g_ltr:=has_ltr (k:=1) d4 B g_letters
      have g_ben:=has_ben (P:=P) (w:=w) (base:=base) (k:=0) d14 B
      have g_lben:=has_lben (P:=P) (w:=w) (base:=base) (k:=0) d34 B
      have g_bough:=has_bough (P:=P) (w:=w) (base:=base) (k:=0) d16 B
      have g_with:=has_with (P:=P) (w:=w) (base:=base) (k:=0) d24 B
      have g_sign:=has_sign (k:=2) d36 B g_take
      have g_putting:=has_putting (k:=3) d37 B (g_take.mono (by decide)) (g_lben.mono (by decide)) g_sign
      have g_s0:=has_sm0 (P:=P) (w:=w) (base:=base) (k:=0) d41
      have g_s1:=has_sm (k:=1) mon0 d41 B g_s0
      have g_s2:=has_sm (k:=2) mon0.up d41 B g_s1
      have g_s3:=has_sm (k:=3) mon0.up.up d41 B g_s2
      have g_deed:=has_deed (k:=4) d38 B (g_take.mono (by decide)) (g_leaves.mono (by decide)) g_putting
      have g_lseek:=has_seek (k:=2) d40 B g_take (g_lword.mono (by decide))
      have g_many_alike:=has_alike (P:=P) (w:=w) (base:=base) (k:=0) d9 B
      have g_alikes:=has_alikes (k:=1) d8 B g_words g_many_alike
      have g_unlike:=has_unlike (k:=2) d22 B (g_words.mono (by decide)) g_alikes
      have g_cw:=has_cw (k:=3) d23 B g_unlike
      have g_count:=has_count (P:=P) (w:=w) (base:=base) (k:=0) d20 B.toBlt
      have g_many:=has_many (k:=1) d21 B.toBlt g_words g_count
      have g_beneath:=has_beneath (P:=P) (w:=w) (base:=base) (k:=0) d14 B
      have g_last:=has_last (k:=1) d19 B g_beneath
      have g_leafR:=has_leafR (P:=P) (w:=w) (base:=base) (k:=0) d15 B
      have g_rows:=has_rows (k:=4) d18 B g_kept (g_last.mono (by decide)) (g_leafR.mono (by decide))
      have g_s4:=has_sm (k:=4) mon0.up.up.up d41 B g_s3
      have g_rall:=R.has_all (P:=P) (w:=w) (base:=base) (k:=0) d13 B
      have g_rwhole:=R.has_whole (P:=P) (w:=w) (base:=base) (k:=0) d1 B
      have g_rletters:=R.has_letters (P:=P) (w:=w) (base:=base) (k:=0) d3 B
      have g_rlabels:=R.has_labels (k:=1) d11 B g_rletters
      have g_rups:=R.has_ups (k:=1) d12 B g_rwhole g_rall
      have g_rist:=R.has_ist (k:=2) d10 B g_rlabels g_rups
      have g_afresh:=has_afresh (k:=5) d43 B (g_order.mono (by decide)) g_rows (g_cw.mono (by decide)) (g_many.mono (by decide))
      exact (ok_law (k:=4) F B M d39 d42 d44 (g_cells.mono (by decide)) (g_pool.mono (by decide)) (g_take.mono (by decide)) (g_tree.mono (by decide)) (g_below.mono (by decide)) (g_below.mono (by decide)) (g_ben.mono (by decide)) (g_ltr.mono (by decide)) (g_bough.mono (by decide)) (g_with.mono (by decide)) g_tri (g_leaf.mono (by decide)) (g_less.mono (by decide)) (g_order.mono (by decide)) (g_rows.mono (by decide)) (g_many.mono (by decide)) (g_cw.mono (by decide)) (g_lseek.mono (by decide)) (g_afresh.mono (by decide)) (g_rist.mono (by decide)) (g_deed.mono (by decide)) (g_s4.mono (by decide))).mono (by decide)
end S73
def PySem.W.Fast.tw15860668994883830464 : Nat := 0
def PySem.W.Fast.tw11938168709171447205 : Nat := 0
def PySem.W.Fast.tw16244830679777275283 : Nat := 0
def PySem.W.Fast.tw5910898091526717162 : Nat := 0
def PySem.W.Fast.tw2856828690860844938 : Nat := 0
def PySem.W.Fast.tw12834534110308401902 : Nat := 0
def PySem.W.Fast.tw2367797114181748504 : Nat := 0
def PySem.W.Fast.tw3001783577421997919 : Nat := 0
def PySem.W.Fast.tw3737867738053737788 : Nat := 0
def PySem.W.Fast.tw15872442467145264346 : Nat := 0
def PySem.W.Fast.tw17270918014042754988 : Nat := 0
def PySem.W.Fast.tw15590155901356577358 : Nat := 0
def PySem.W.Fast.tw6222568405252392439 : Nat := 0
def PySem.W.Fast.tw6587539981508625330 : Nat := 0
def PySem.W.Fast.tw5957695794364732100 : Nat := 0
def PySem.W.Fast.tw1319652075874365632 : Nat := 0
def PySem.W.Fast.tw16031233256127412293 : Nat := 0
def PySem.W.Fast.tw11193473556284901453 : Nat := 0
def PySem.W.Fast.tw14251557682867645527 : Nat := 0
def PySem.W.Fast.tw15779298518189126388 : Nat := 0
def PySem.W.Fast.tw18372665361852599980 : Nat := 0
def PySem.W.Fast.tw8059291404115395995 : Nat := 0
def PySem.W.Fast.tw15491307024160466213 : Nat := 0
def PySem.W.Fast.tw10267134115273916984 : Nat := 0
def PySem.W.Fast.tw3528918492757183502 : Nat := 0
def PySem.W.Fast.tw9517543439811166987 : Nat := 0
def PySem.W.Fast.tw189647584456174058 : Nat := 0
def PySem.W.Fast.tw17140609445113250272 : Nat := 0
def PySem.W.Fast.tw15491659060709599745 : Nat := 0
def PySem.W.Fast.tw2799108416692450292 : Nat := 0
def PySem.W.Fast.tw6965216410300622832 : Nat := 0
def PySem.W.Fast.tw9457390490733452976 : Nat := 0
def PySem.W.Fast.tw5461418511170156428 : Nat := 0
def PySem.W.Fast.tw14099596863533935753 : Nat := 0
def PySem.W.Fast.tw11420898151750200422 : Nat := 0
def PySem.W.Fast.tw6253746240845792872 : Nat := 0
open PySem PySem.W PyProof.Rows
set_option maxRecDepth 100000 in
set_option maxHeartbeats 0 in
theorem PySem.Challenge.cw_upwords_k73_whole_as_made_afresh_holds : PySem.Challenge.rw_upwords_k73_whole_as_made_afresh.Holds := by
  w_on; o_law; k_head; (case hw => w_witness2)
  k_fill
  refine L2.walk_ofT (l := PySem.Challenge.rw_upwords_k73_whole_as_made_afresh) (n := 63) (k := 12) (x := "script") (nms := ["order_of", "kept_order"]) (CX := L2.CX0) (sp := fun Ts => S73.sp_law (S73.lamsOf Ts)) rfl (by decide) rfl ⟨rfl, by decide, by decide, rfl⟩ (fun w h Y => PySem.W.km_in_of Y) (.cons rfl (.cons rfl .nil)) (fun w => by kernel_rfl) ?F
    (fun K Ts H a ns hl hlen hT hS => ⟨a, ns, rfl, hS, hl, S73.lams_start hlen hT, fun _ => rfl⟩) (fun _ _ _ _ z => z)
  case F =>
    intro w mg fa h KX G hmg
    have B : L2.Blt mg := by
      refine' S73.blt_mk KX G ?z1 ?z2 ?z3 ?z4 ?z5 ?z6 ?z7 ?z8 ?z9 ?z10 ?z11 ?z12
      (case z1 => k_is); (case z2 => k_is); (case z3 => k_is); (case z4 => k_is); (case z5 => k_is); (case z6 => k_is); (case z7 => k_is); (case z8 => k_is); (case z9 => k_is); (case z10 => k_is); (case z11 => k_is); (case z12 => k_is)
    have Bx0 : mg "sorted" = none := by
      refine' PySem.W.mg_none_of KX G ?z
      (case z => k_is)
    have Bx1 : mg "all" = none := by
      refine' PySem.W.mg_none_of KX G ?z
      (case z => k_is)
    have Bx2 : mg "repr" = none := by
      refine' PySem.W.mg_none_of KX G ?z
      (case z => k_is)
    have Bx3 : mg "set" = none := by
      refine' PySem.W.mg_none_of KX G ?z
      (case z => k_is)
    have Bx4 : ∃ u, mg "MOST_PLACES" = some u ∧ L2.RelV (.int 60) u := by
      refine' ⟨_, PySem.W.mg_of KX G ?z, ?r⟩
      (case z => k_is)
      (case r => exact ⟨_, rfl⟩)
    have Bx5 : ∃ u, mg "LETTERS" = some u ∧ L2.RelV (.str "abcdefghijklmnopqrstuvwxyz") u := by
      refine' ⟨_, PySem.W.mg_of KX G ?z, ?r⟩
      (case z => k_is)
      (case r => exact ⟨_, rfl⟩)
    have d1 : L2.Df (L2.KOf KX) mg "is_whole" S73.s_is_whole := by
      dsimp only [L2.KOf]; refine' S73.df_mk KX G ?a ?l ?c ?k
      (case a => k_is); (case l => k_is); (case c => k_is); (case k => k_is)
    have d2 : L2.Df (L2.KOf KX) mg "is_number_below" S73.s_is_number_below := by
      dsimp only [L2.KOf]; refine' S73.df_mk KX G ?a ?l ?c ?k
      (case a => k_is); (case l => k_is); (case c => k_is); (case k => k_is)
    have d3 : L2.Df (L2.KOf KX) mg "is_letters" S73.s_is_letters := by
      dsimp only [L2.KOf]; refine' S73.df_mk KX G ?a ?l ?c ?k
      (case a => k_is); (case l => k_is); (case c => k_is); (case k => k_is)
    have d4 : L2.Df (L2.KOf KX) mg "is_letter" S73.s_is_letter := by
      dsimp only [L2.KOf]; refine' S73.df_mk KX G ?a ?l ?c ?k
      (case a => k_is); (case l => k_is); (case c => k_is); (case k => k_is)
    have d5 : L2.Df (L2.KOf KX) mg "words_of" S73.s_words_of := by
      dsimp only [L2.KOf]; refine' S73.df_mk KX G ?a ?l ?c ?k
      (case a => k_is); (case l => k_is); (case c => k_is); (case k => k_is)
    have d6 : L2.Df (L2.KOf KX) mg "order_of" S73.s_order_of := by
      dsimp only [L2.KOf]; refine' S73.df_mk KX G ?a ?l ?c ?k
      (case a => k_is); (case l => k_is); (case c => k_is); (case k => k_is)
    have d7 : L2.Df (L2.KOf KX) mg "ranks_of" S73.s_ranks_of := by
      dsimp only [L2.KOf]; refine' S73.df_mk KX G ?a ?l ?c ?k
      (case a => k_is); (case l => k_is); (case c => k_is); (case k => k_is)
    have d8 : L2.Df (L2.KOf KX) mg "alike_of" S73.s_alike_of := by
      dsimp only [L2.KOf]; refine' S73.df_mk KX G ?a ?l ?c ?k
      (case a => k_is); (case l => k_is); (case c => k_is); (case k => k_is)
    have d9 : L2.Df (L2.KOf KX) mg "many_alike" S73.s_many_alike := by
      dsimp only [L2.KOf]; refine' S73.df_mk KX G ?a ?l ?c ?k
      (case a => k_is); (case l => k_is); (case c => k_is); (case k => k_is)
    have d10 : L2.Df (L2.KOf KX) mg "is_tree" S73.s_is_tree := by
      dsimp only [L2.KOf]; refine' S73.df_mk KX G ?a ?l ?c ?k
      (case a => k_is); (case l => k_is); (case c => k_is); (case k => k_is)
    have d11 : L2.Df (L2.KOf KX) mg "is_labels" S73.s_is_labels := by
      dsimp only [L2.KOf]; refine' S73.df_mk KX G ?a ?l ?c ?k
      (case a => k_is); (case l => k_is); (case c => k_is); (case k => k_is)
    have d12 : L2.Df (L2.KOf KX) mg "is_ups" S73.s_is_ups := by
      dsimp only [L2.KOf]; refine' S73.df_mk KX G ?a ?l ?c ?k
      (case a => k_is); (case l => k_is); (case c => k_is); (case k => k_is)
    have d13 : L2.Df (L2.KOf KX) mg "all_above" S73.s_all_above := by
      dsimp only [L2.KOf]; refine' S73.df_mk KX G ?a ?l ?c ?k
      (case a => k_is); (case l => k_is); (case c => k_is); (case k => k_is)
    have d14 : L2.Df (L2.KOf KX) mg "beneath_of" S73.s_beneath_of := by
      dsimp only [L2.KOf]; refine' S73.df_mk KX G ?a ?l ?c ?k
      (case a => k_is); (case l => k_is); (case c => k_is); (case k => k_is)
    have d15 : L2.Df (L2.KOf KX) mg "is_leaf" S73.s_is_leaf := by
      dsimp only [L2.KOf]; refine' S73.df_mk KX G ?a ?l ?c ?k
      (case a => k_is); (case l => k_is); (case c => k_is); (case k => k_is)
    have d16 : L2.Df (L2.KOf KX) mg "bough_of" S73.s_bough_of := by
      dsimp only [L2.KOf]; refine' S73.df_mk KX G ?a ?l ?c ?k
      (case a => k_is); (case l => k_is); (case c => k_is); (case k => k_is)
    have d17 : L2.Df (L2.KOf KX) mg "kept_order" S73.s_kept_order := by
      dsimp only [L2.KOf]; refine' S73.df_mk KX G ?a ?l ?c ?k
      (case a => k_is); (case l => k_is); (case c => k_is); (case k => k_is)
    have d18 : L2.Df (L2.KOf KX) mg "rows_of" S73.s_rows_of := by
      dsimp only [L2.KOf]; refine' S73.df_mk KX G ?a ?l ?c ?k
      (case a => k_is); (case l => k_is); (case c => k_is); (case k => k_is)
    have d19 : L2.Df (L2.KOf KX) mg "is_last" S73.s_is_last := by
      dsimp only [L2.KOf]; refine' S73.df_mk KX G ?a ?l ?c ?k
      (case a => k_is); (case l => k_is); (case c => k_is); (case k => k_is)
    have d20 : L2.Df (L2.KOf KX) mg "count_read" S73.s_count_read := by
      dsimp only [L2.KOf]; refine' S73.df_mk KX G ?a ?l ?c ?k
      (case a => k_is); (case l => k_is); (case c => k_is); (case k => k_is)
    have d21 : L2.Df (L2.KOf KX) mg "how_many" S73.s_how_many := by
      dsimp only [L2.KOf]; refine' S73.df_mk KX G ?a ?l ?c ?k
      (case a => k_is); (case l => k_is); (case c => k_is); (case k => k_is)
    have d22 : L2.Df (L2.KOf KX) mg "unlike_words" S73.s_unlike_words := by
      dsimp only [L2.KOf]; refine' S73.df_mk KX G ?a ?l ?c ?k
      (case a => k_is); (case l => k_is); (case c => k_is); (case k => k_is)
    have d23 : L2.Df (L2.KOf KX) mg "count_words" S73.s_count_words := by
      dsimp only [L2.KOf]; refine' S73.df_mk KX G ?a ?l ?c ?k
      (case a => k_is); (case l => k_is); (case c => k_is); (case k => k_is)
    have d24 : L2.Df (L2.KOf KX) mg "with_leaf" S73.s_with_leaf := by
      dsimp only [L2.KOf]; refine' S73.df_mk KX G ?a ?l ?c ?k
      (case a => k_is); (case l => k_is); (case c => k_is); (case k => k_is)
    have d25 : L2.Df (L2.KOf KX) mg "without_leaf" S73.s_without_leaf := by
      dsimp only [L2.KOf]; refine' S73.df_mk KX G ?a ?l ?c ?k
      (case a => k_is); (case l => k_is); (case c => k_is); (case k => k_is)
    have d26 : L2.Df (L2.KOf KX) mg "triple_of" S73.s_triple_of := by
      dsimp only [L2.KOf]; refine' S73.df_mk KX G ?a ?l ?c ?k
      (case a => k_is); (case l => k_is); (case c => k_is); (case k => k_is)
    have d27 : L2.Df (L2.KOf KX) mg "_law_prime" S73.s_law_prime := by
      dsimp only [L2.KOf]; refine' S73.df_mk KX G ?a ?l ?c ?k
      (case a => k_is); (case l => k_is); (case c => k_is); (case k => k_is)
    have d28 : L2.Df (L2.KOf KX) mg "_law_pool" S73.s_law_pool := by
      dsimp only [L2.KOf]; refine' S73.df_mk KX G ?a ?l ?c ?k
      (case a => k_is); (case l => k_is); (case c => k_is); (case k => k_is)
    have d29 : L2.Df (L2.KOf KX) mg "_law_take" S73.s_law_take := by
      dsimp only [L2.KOf]; refine' S73.df_mk KX G ?a ?l ?c ?k
      (case a => k_is); (case l => k_is); (case c => k_is); (case k => k_is)
    have d30 : L2.Df (L2.KOf KX) mg "_law_cells" S73.s_law_cells := by
      dsimp only [L2.KOf]; refine' S73.df_mk KX G ?a ?l ?c ?k
      (case a => k_is); (case l => k_is); (case c => k_is); (case k => k_is)
    have d31 : L2.Df (L2.KOf KX) mg "_law_letter" S73.s_law_letter := by
      dsimp only [L2.KOf]; refine' S73.df_mk KX G ?a ?l ?c ?k
      (case a => k_is); (case l => k_is); (case c => k_is); (case k => k_is)
    have d32 : L2.Df (L2.KOf KX) mg "_law_tree" S73.s_law_tree := by
      dsimp only [L2.KOf]; refine' S73.df_mk KX G ?a ?l ?c ?k
      (case a => k_is); (case l => k_is); (case c => k_is); (case k => k_is)
    have d33 : L2.Df (L2.KOf KX) mg "_law_word" S73.s_law_word := by
      dsimp only [L2.KOf]; refine' S73.df_mk KX G ?a ?l ?c ?k
      (case a => k_is); (case l => k_is); (case c => k_is); (case k => k_is)
    have d34 : L2.Df (L2.KOf KX) mg "_law_beneath" S73.s_law_beneath := by
      dsimp only [L2.KOf]; refine' S73.df_mk KX G ?a ?l ?c ?k
      (case a => k_is); (case l => k_is); (case c => k_is); (case k => k_is)
    have d35 : L2.Df (L2.KOf KX) mg "_law_leaves" S73.s_law_leaves := by
      dsimp only [L2.KOf]; refine' S73.df_mk KX G ?a ?l ?c ?k
      (case a => k_is); (case l => k_is); (case c => k_is); (case k => k_is)
    have d36 : L2.Df (L2.KOf KX) mg "_law_sign" S73.s_law_sign := by
      dsimp only [L2.KOf]; refine' S73.df_mk KX G ?a ?l ?c ?k
      (case a => k_is); (case l => k_is); (case c => k_is); (case k => k_is)
    have d37 : L2.Df (L2.KOf KX) mg "_law_putting" S73.s_law_putting := by
      dsimp only [L2.KOf]; refine' S73.df_mk KX G ?a ?l ?c ?k
      (case a => k_is); (case l => k_is); (case c => k_is); (case k => k_is)
    have d38 : L2.Df (L2.KOf KX) mg "_law_deed" S73.s_law_deed := by
      dsimp only [L2.KOf]; refine' S73.df_mk KX G ?a ?l ?c ?k
      (case a => k_is); (case l => k_is); (case c => k_is); (case k => k_is)
    have d39 : L2.Df (L2.KOf KX) mg "_law_ask" S73.s_law_ask := by
      dsimp only [L2.KOf]; refine' S73.df_mk KX G ?a ?l ?c ?k
      (case a => k_is); (case l => k_is); (case c => k_is); (case k => k_is)
    have d40 : L2.Df (L2.KOf KX) mg "_law_seek" S73.s_law_seek := by
      dsimp only [L2.KOf]; refine' S73.df_mk KX G ?a ?l ?c ?k
      (case a => k_is); (case l => k_is); (case c => k_is); (case k => k_is)
    have d41 : L2.Df (L2.KOf KX) mg "_law_same" S73.s_law_same := by
      dsimp only [L2.KOf]; refine' S73.df_mk KX G ?a ?l ?c ?k
      (case a => k_is); (case l => k_is); (case c => k_is); (case k => k_is)
    have d42 : L2.Df (L2.KOf KX) mg "_law_told" S73.s_law_told := by
      dsimp only [L2.KOf]; refine' S73.df_mk KX G ?a ?l ?c ?k
      (case a => k_is); (case l => k_is); (case c => k_is); (case k => k_is)
    have d43 : L2.Df (L2.KOf KX) mg "_law_afresh" S73.s_law_afresh := by
      dsimp only [L2.KOf]; refine' S73.df_mk KX G ?a ?l ?c ?k
      (case a => k_is); (case l => k_is); (case c => k_is); (case k => k_is)
    have d44 : L2.Df (L2.KOf KX) mg "_law_right" S73.s_law_right := by
      dsimp only [L2.KOf]; refine' S73.df_mk KX G ?a ?l ?c ?k
      (case a => k_is); (case l => k_is); (case c => k_is); (case k => k_is)
    have d45 : L2.Df (L2.KOf KX) mg "law" S73.s_law := by
      dsimp only [L2.KOf]; refine' S73.df_mk KX G ?a ?l ?c ?k
      (case a => k_is); (case l => k_is); (case c => k_is); (case k => k_is)
    have M : S73.Made (L2.KOf KX) mg := by
      dsimp only [L2.KOf]; refine' S73.made_mkKeeper KX G ?aC ?a1 ?i1 ?l1 ?c1 ?k1 ?a2 ?i2 ?l2 ?c2 ?k2 ?a3 ?i3 ?l3 ?c3 ?k3 ?a4 ?i4 ?l4 ?c4 ?k4 ?a5 ?i5 ?l5 ?c5 ?k5 ?a6 ?i6 ?l6 ?c6 ?k6 ?a7 ?i7 ?l7 ?c7 ?k7 ?a8 ?i8 ?l8 ?c8 ?k8 ?a9 ?i9 ?l9 ?c9 ?k9 ?a10 ?i10 ?l10 ?c10 ?k10 ?a11 ?i11 ?l11 ?c11 ?k11 ?a12 ?i12 ?l12 ?c12 ?k12 ?pg ?hd ?po ?sa ?mk ?kc ?ntree ?ndeeds
      (case aC => k_is); (case a1 => k_is); (case i1 => k_is); (case l1 => k_is); (case c1 => k_is); (case k1 => k_is); (case a2 => k_is); (case i2 => k_is); (case l2 => k_is); (case c2 => k_is); (case k2 => k_is); (case a3 => k_is); (case i3 => k_is); (case l3 => k_is); (case c3 => k_is); (case k3 => k_is); (case a4 => k_is); (case i4 => k_is); (case l4 => k_is); (case c4 => k_is); (case k4 => k_is); (case a5 => k_is); (case i5 => k_is); (case l5 => k_is); (case c5 => k_is); (case k5 => k_is); (case a6 => k_is); (case i6 => k_is); (case l6 => k_is); (case c6 => k_is); (case k6 => k_is); (case a7 => k_is); (case i7 => k_is); (case l7 => k_is); (case c7 => k_is); (case k7 => k_is); (case a8 => k_is); (case i8 => k_is); (case l8 => k_is); (case c8 => k_is); (case k8 => k_is); (case a9 => k_is); (case i9 => k_is); (case l9 => k_is); (case c9 => k_is); (case k9 => k_is); (case a10 => k_is); (case i10 => k_is); (case l10 => k_is); (case c10 => k_is); (case k10 => k_is); (case a11 => k_is); (case i11 => k_is); (case l11 => k_is); (case c11 => k_is); (case k11 => k_is); (case a12 => k_is); (case i12 => k_is); (case l12 => k_is); (case c12 => k_is); (case k12 => k_is); (case pg => k_is); (case hd => k_is); (case po => k_is); (case sa => k_is); (case mk => k_is); (case kc => k_is); (case ntree => k_is); (case ndeeds => k_is)
    obtain ⟨fd, h1, h2⟩ := S73.all_ok (P := PySem.Challenge.rw_upwords_k73_whole_as_made_afresh.prog) (w := w) hmg ⟨B, Bx0, Bx1, Bx2, Bx3, Bx4, Bx5⟩ d1 d2 d3 d4 d5 d6 d7 d8 d9 d10 d11 d12 d13 d14 d15 d16 d17 d18 d19 d20 d21 d22 d23 d24 d25 d26 d27 d28 d29 d30 d31 d32 d33 d34 d35 d36 d37 d38 d39 d40 d41 d42 d43 d44 d45 M
    exact ⟨fd, h1, fun Ts base kb _ TA => h2 Ts base kb TA⟩
