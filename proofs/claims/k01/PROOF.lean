import PyProof.Rows.All
import Wide.All
import OpenK.AllK
import Wide.FinOn
import Lean
import PyProof.EqAt
import PyProof.EqKinds
import PyProof.TupleCall
import PyProof.WalkInts
import PyProof.NeKinds
import KE.KSortTup
import KE.KDictOf
import PyProof.DictWalks
import PyProof.AttrMissSeq
import PyProof.Rows.TupAdd
import KE.KTryOn
import PyProof.NsDelKeeps
import PyProof.ExcAttrAll.ValueError
import KE.KMinKey
import PyProof.ListStr
import PySem.Challenge.RW_upwords_k01_trees_told_apart
set_option Elab.async false
set_option linter.all false
set_option maxRecDepth 100000
namespace L2
open PySem PySem.Spec PyProof.Rows
abbrev Key:=Sum Int Str
def keyIs:Key→Value→Bool
  | .inl k,v=>Value.isInt k v
  | .inr x,v=>Value.isStrOf x v
def keyH (w:World):Key→Int
  | .inl k=>hashInt k
  | .inr x=>hashStr w x
theorem keyIs_shape:∀ {k:Key} {v:Value},keyIs k v=true→(∃ i t,k=Sum.inl i∧v=Value.int i t)∨(∃ x t,k=Sum.inr x∧v=Value.str x t)
  | .inl i,v,h=>by
    obtain ⟨t,e⟩:=Value.isInt_shape (k:=i) (v:=v) h
    exact .inl ⟨i,t,rfl,e⟩
  | .inr x,v,h=>by
    obtain ⟨t,e⟩:=Value.isStrOf_shape (x:=x) (v:=v) h
    exact .inr ⟨x,t,rfl,e⟩
theorem key_ll (a b:Int):decide ((Sum.inl a:Key)=Sum.inl b)=(a == b):=by
  by_cases e:a=b
  · subst e;simp
  · have h:¬ (Sum.inl a:Key)=Sum.inl b:=fun q=>e (Sum.inl.inj q)
    rw [decide_eq_false h]
    exact (beq_eq_false_iff_ne.mpr e).symm
theorem key_rr (a b:Str):decide ((Sum.inr a:Key)=Sum.inr b)=decide (a=b):=by
  by_cases e:a=b
  · subst e;simp
  · have h:¬ (Sum.inr a:Key)=Sum.inr b:=fun q=>e (Sum.inr.inj q)
    rw [decide_eq_false h,decide_eq_false e]
theorem key_lr (a:Int) (b:Str):decide ((Sum.inl a:Key)=Sum.inr b)=false:=decide_eq_false (fun q=>nomatch q)
theorem key_rl (a:Str) (b:Int):decide ((Sum.inr a:Key)=Sum.inl b)=false:=decide_eq_false (fun q=>nomatch q)
def mixKind (prog:Program) (w:World):PySem.KeyKind prog w Key where
  is:=keyIs
  hash:=keyH w
  inj:=fun v a b ha hb=>by
    rcases keyIs_shape ha with ⟨i,t,rfl,rfl⟩ | ⟨x,t,rfl,rfl⟩
    · rcases keyIs_shape hb with ⟨j,u,rfl,e⟩ | ⟨y,u,rfl,e⟩
      · injection e with e1 _;rw [e1]
      · exact nomatch e
    · rcases keyIs_shape hb with ⟨j,u,rfl,e⟩ | ⟨y,u,rfl,e⟩
      · exact nomatch e
      · injection e with e1 _;rw [e1]
  byValue:=fun k v h=>by
    rcases keyIs_shape h with ⟨i,t,rfl,rfl⟩ | ⟨x,t,rfl,rfl⟩ <;> rfl
  pyHash:=fun hv h=>by
    rcases keyIs_shape hv with ⟨i,t,rfl,rfl⟩ | ⟨x,t,rfl,rfl⟩
    · exact wpAny_pyHash_int h
    · exact wpAny_pyHash_str h
  eqBool:=fun hu hv h=>by
    rcases keyIs_shape hu with ⟨i,t,rfl,rfl⟩ | ⟨x,t,rfl,rfl⟩
    · rcases keyIs_shape hv with ⟨j,u,rfl,rfl⟩ | ⟨y,u,rfl,rfl⟩
      · rw [key_ll] at h;exact wpAny_eqBool_int h
      · rw [key_lr] at h;exact SeqAt.EqAt.int_str i t y u _ _ _ _ h
    · rcases keyIs_shape hv with ⟨j,u,rfl,rfl⟩ | ⟨y,u,rfl,rfl⟩
      · rw [key_rl] at h;exact SeqAt.EqAt.str_int x t j u _ _ _ _ h
      · rw [key_rr] at h;exact wpAny_eqBool_str h
  «strs»:=fun k x t v h=>by
    rcases keyIs_shape h with ⟨i,u,rfl,e⟩ | ⟨y,u,rfl,e⟩
    · exact nomatch e
    · injection e with e1 _
      subst e1
      cases v <;> rfl
end L2
namespace L2
open PySem PySem.Spec PyProof.Rows
inductive V where
  | non | bl (b:Bool) | int (i:Int) | str (x:Str) | byt (b:Array UInt8) | flt (b:UInt64) | ref (a:Addr) | ty (n:String)
  deriving DecidableEq
def RelV:V→Value→Prop
  | .non,u=>u=Value.none
  | .bl b,u=>u=Value.bool b
  | .int i,u=>∃ t,u=Value.int i t
  | .str x,u=>∃ t,u=Value.str x t
  | .byt b,u=>∃ t,u=Value.bytes b t
  | .flt b,u=>∃ t,u=Value.float b t
  | .ref a,u=>u=Value.ref a
  | .ty n,u=>u=Value.type n
abbrev Vals:List V→List Value→Prop:=Paired RelV
theorem Vals.length {xs:List V} {us:List Value} (r:Vals xs us):xs.length=us.length:=Paired.length r
theorem Vals.get:∀ {xs:List V} {us:List Value} {i:Nat} {x:V},Vals xs us→xs[i]?=some x→∃ u,us[i]?=some u∧RelV x u
  | _,_,_,_,.nil,e=>by simp at e
  | _,_,0,_,.cons r _,e=>by simp at e;subst e;exact ⟨_,rfl,r⟩
  | _,_,i+1,x,.cons _ t,e=>by
    obtain ⟨u,h1,h2⟩:=Vals.get (i:=i) (x:=x) t (by simpa using e)
    exact ⟨u,by simpa using h1,h2⟩
theorem Vals.set {x:V} {u:Value} (r:RelV x u):∀ {xs:List V} {us:List Value} (i:Nat),Vals xs us→Vals (xs.set i x) (us.set i u)
  | _,_,_,.nil=>.nil
  | _,_,0,.cons _ t=>.cons r t
  | _,_,i+1,.cons q t=>.cons q (Vals.set r i t)
theorem Vals.append:∀ {xs ys:List V} {us ws:List Value},Vals xs us→Vals ys ws→Vals (xs++ys) (us++ws)
  | _,_,_,_,.nil,s=>s
  | _,_,_,_,.cons r t,s=>.cons r (Vals.append t s)
theorem Vals.take:∀ {xs:List V} {us:List Value} (n:Nat),Vals xs us→Vals (xs.take n) (us.take n)
  | _,_,0,_=>.nil
  | _,_,_+1,.nil=>.nil
  | _,_,n+1,.cons r t=>.cons r (Vals.take n t)
theorem Vals.drop:∀ {xs:List V} {us:List Value} (n:Nat),Vals xs us→Vals (xs.drop n) (us.drop n)
  | _,_,0,r=>r
  | _,_,_+1,.nil=>.nil
  | _,_,n+1,.cons _ t=>Vals.drop n t
def RelO:Option V→Option Value→Prop
  | some v,some u=>RelV v u
  | none,none=>True
  | _,_=>False
def KV {κ:Type}:List (κ × V)→List (κ × Value)→Prop:=Paired fun (p:κ × V) (q:κ × Value)=>p.1=q.1∧RelV p.2 q.2
def kV:Key→V
  | .inl i=>.int i
  | .inr x=>.str x
inductive HO where
    | lst (xs:List V)
    | tup (xs:List V)
    | dK (kvs:List (Key × V)) | dT (kvs:List (List Key × V))
    | set (S:Int→Bool) (n:Nat)
    | ins (C dx:Addr) (fs:List (Str × V))
    | own (x:Addr)
    | xd (fs:List (Str × V))
    | met (f x:Addr)
    | rng (lo hi:Int)
    | frz (o:Obj) (u:HO)
    | tbl (ps:Array Value)
    | ext (φ:Heap→Prop)
abbrev Hp:=Addr→Option HO
def upd (H:Hp) (a:Addr) (o:HO):Hp:=fun b=>if b=a then some o else H b
theorem upd_same {H:Hp} {a:Addr} {o:HO}:upd H a o a=some o:=by unfold upd;rw [if_pos rfl]
theorem upd_ne {H:Hp} {a b:Addr} {o:HO} (h:b≠a):upd H a o b=H b:=by unfold upd;rw [if_neg h]
theorem upd_upd {H:Hp} {a:Addr} {o u:HO}:upd (upd H a o) a u=upd H a u:=by
  funext b;unfold upd;split <;> rfl
theorem ne_of {H:Hp} {a b:Addr} {o u:HO} (h:H a=some o) (h':H b=some u) (d:o≠u):a≠b:=by
  intro e;subst e;rw [h] at h';exact d (Option.some.inj h')
theorem ne_of_none {H:Hp} {a b:Addr} {o:HO} (h:H a=some o) (h':H b=none):a≠b:=by
  intro e;subst e;rw [h] at h';cases h'
section
variable (P:Program) (w:World)
def ObjOk (H:Hp) (h:Heap) (a:Addr):HO→Prop
  | .lst xs=>xs.length≤sizeLine∧∃ (its:List Value) (n:Nat),Vals xs its∧h.get? a=some { cls:=.type "list", data:=.seq its.toArray n }
  | .tup xs=>(xs.length≤sizeLine∧∃ o,h.get? a=some o∧o.dict=none)∧∃ its:List Value,Vals xs its∧IsTup h a its.toArray
  | .dK kvs=>kvs.length≤sizeLine∧(a == sysModules)=false∧∃ vs,KV kvs vs∧h.DictOf (mixKind P w) a vs
  | .dT kvs=>kvs.length≤sizeLine∧(a == sysModules)=false∧∃ xs:List (List Key × Addr × Value),
      Paired (fun (p:List Key × V) (q:List Key × Addr × Value)=>p.1=q.1∧H q.2.1=some (.tup (p.1.map kV))∧RelV p.2 q.2.2) kvs xs ∧
      ∃ o es ep,h.get? a=some o∧o.ExactDict∧o.data=.dict es ep∧es.toList=xs.map (entryOfKey (tupleKind (mixKind P w)))∧(xs.map (·.1)).Nodup
  | .set S n=>h.SetOf (intKind P w) a S n
  | .ins C dx fs=>H dx=some (.own a)∧fs.length≤1000∧dx≠a∧h.get? a=some (PySem.W.instObj C dx) ∧
      ∃ mA,h.Ns1 dx mA∧(∀ f,RelO (fs.lookup f) (mA f))∧PySem.Within mA (fs.map (·.1))
  | .own _=>∃ o,h.get? a=some o
  | .xd fs=>∃ mA,h.Ns1 a mA∧∀ f,RelO (fs.lookup f) (mA f)
  | .rng lo hi=>∃ t u v,h.get? a=some { cls:=.type "range", data:=.fields #[.int lo t,.int hi u,.int 1 v] }
  | .frz o u=>h.get? a=some o∧ObjOk H h a u
  | .tbl ps=>h.get? a=some { cls:=.none,data:=.fields ps }
  | .met f x=>h.get? a=some (PySem.W.methodObj (.ref f) (.ref x))
  | .ext φ=>φ h∧(∃ o,h.get? a=some o)∧∀ h1 h2:Heap,φ h1→(∀ o,h1.get? a=some o→h2.get? a=some o)→φ h2
def HOk (H:Hp) (h:Heap):Prop:=∀ a o,H a=some o→ObjOk P w H h a o
end
section
variable {P:Program} {w:World} {H H':Hp} {h h':Heap} {a:Addr} {o:HO}
theorem ObjOk.lt (x:ObjOk P w H h a o):a < h.objs.size:=by
  cases o with
  | lst xs=>obtain ⟨_,_,_,_,e⟩:=x;exact Heap.lt_size e
  | tup xs=>obtain ⟨_,_,_,p⟩:=x;exact p.lt
  | dK kvs=>obtain ⟨_,_,_,_,o,_,_,e,_⟩:=x;exact Heap.lt_size e
  | dT kvs=>obtain ⟨_,_,_,_,o,_,_,e,_⟩:=x;exact Heap.lt_size e
  | set S n=>obtain ⟨o,_,_,_,e,_⟩:=x;exact Heap.lt_size e
  | ins C dx fs=>obtain ⟨_,_,_,e,_⟩:=x;exact Heap.lt_size e
  | own y=>obtain ⟨_,e⟩:=x;exact Heap.lt_size e
  | xd fs=>obtain ⟨_,⟨_,_,_,e,_⟩,_⟩:=x;exact Heap.lt_size e
  | rng lo hi=>obtain ⟨_,_,_,e⟩:=x;exact Heap.lt_size e
  | frz ob u=>obtain ⟨e,_⟩:=x;exact Heap.lt_size e
  | tbl ps=>exact Heap.lt_size (show h.get? a=some _ from x)
  | met f y=>exact Heap.lt_size (show h.get? a=some _ from x)
  | ext φ=>obtain ⟨_,⟨_,e⟩,_⟩:=x;exact Heap.lt_size e
theorem Paired.mapP {α β:Type} {F G:α→β→Prop}:∀ {l₁:List α} {l₂:List β},Paired F l₁ l₂→(∀ a b,F a b→G a b)→Paired G l₁ l₂
  | _,_,.nil,_=>.nil
  | _,_,.cons r t,f=>.cons (f _ _ r) (Paired.mapP t f)
theorem ObjOk.stay (x:ObjOk P w H h a o) (k:∀ b u,(b=a∨H b=some (.own a))→h.get? b=some u→h'.get? b=some u)
    (ho:∀ b,H b=some (.own a)→H' b=some (.own a)) (ht:∀ b xs,H b=some (.tup xs)→H' b=some (.tup xs)):ObjOk P w H' h' a o:=by
  induction o with
  | lst xs=>obtain ⟨z,its,n,r,e⟩:=x;exact ⟨z,its,n,r,k _ _ (.inl rfl) e⟩
  | tup xs=>obtain ⟨⟨z,o1,e1,c1⟩,its,r,ob,e,c⟩:=x;exact ⟨⟨z,o1,k _ _ (.inl rfl) e1,c1⟩,its,r,ob,k _ _ (.inl rfl) e,c⟩
  | dK kvs=>obtain ⟨z,y,vs,r,ob,es,ep,e,c⟩:=x;exact ⟨z,y,vs,r,ob,es,ep,k _ _ (.inl rfl) e,c⟩
  | dT kvs=>
    obtain ⟨z,y,xs,r,ob,es,ep,e,c⟩:=x
    exact ⟨z,y,xs,Paired.mapP r fun p q z=>⟨z.1,ht _ _ z.2.1,z.2.2⟩,ob,es,ep,k _ _ (.inl rfl) e,c⟩
  | set S n=>obtain ⟨ob,es,ep,t,e,c⟩:=x;exact ⟨ob,es,ep,t,k _ _ (.inl rfl) e,c⟩
  | ins C dx fs=>
    obtain ⟨d,z,ne,e,mA,⟨od,es,ep,e2,c⟩,r⟩:=x
    exact ⟨ho _ d,z,ne,k _ _ (.inl rfl) e,mA,⟨od,es,ep,k _ _ (.inr d) e2,c⟩,r⟩
  | own y=>obtain ⟨ob,e⟩:=x;exact ⟨ob,k _ _ (.inl rfl) e⟩
  | xd fs=>obtain ⟨mA,⟨od,es,ep,e,c⟩,r⟩:=x;exact ⟨mA,⟨od,es,ep,k _ _ (.inl rfl) e,c⟩,r⟩
  | rng lo hi=>obtain ⟨t,u,v,e⟩:=x;exact ⟨t,u,v,k _ _ (.inl rfl) e⟩
  | frz ob u ih=>obtain ⟨e,q⟩:=x;exact ⟨k _ _ (.inl rfl) e,ih q⟩
  | tbl ps=>
    have e:h.get? a=some { cls:=.none,data:=.fields ps }:=x
    show h'.get? a=some { cls:=.none,data:=.fields ps }
    exact k a _ (.inl rfl) e
  | met f y=>
    have e:h.get? a=some (PySem.W.methodObj (.ref f) (.ref y)):=x
    show h'.get? a=some (PySem.W.methodObj (.ref f) (.ref y))
    exact k a _ (.inl rfl) e
  | ext φ=>obtain ⟨p,⟨o,e⟩,st⟩:=x;exact ⟨st _ _ p fun o q=>k _ _ (.inl rfl) q,⟨o,k _ _ (.inl rfl) e⟩,st⟩
theorem HOk.lt (x:HOk P w H h) (e:H a=some o):a < h.objs.size:=(x a o e).lt
theorem HOk.fresh (x:HOk P w H h) (e:h.objs.size≤a):H a=none:=by
  cases q:H a with
  | none=>rfl
  | some u=>exact absurd (Nat.lt_of_lt_of_le (x.lt q) e) (Nat.lt_irrefl _)
theorem HOk.kept (x:HOk P w H h) (k:∀ b u,h.get? b=some u→h'.get? b=some u):HOk P w H h':=fun a o e=>
  (x a o e).stay (fun b u _ q=>k b u q) (fun _ q=>q) fun _ _ q=>q
theorem HOk.laid (x:HOk P w H h) (k:∀ b u,h.get? b=some u→h'.get? b=some u) (hp:h.objs.size≤a) (new:ObjOk P w (upd H a o) h' a o):HOk P w (upd H a o) h':=fun b u e=>by
  have hn:=x.fresh hp
  by_cases hb:b=a
  · subst hb;rw [upd_same] at e;cases e;exact new
  · rw [upd_ne hb] at e
    exact (x b u e).stay (fun c v _ q=>k c v q) (fun c q=>by rw [upd_ne (ne_of_none q hn)];exact q) fun c xs q=>by rw [upd_ne (ne_of_none q hn)];exact q
end
def Rd (H:Hp) (a:Addr) (u:HO):Prop:=H a=some u∨∃ o,H a=some (.frz o u)
theorem Rd.of {H:Hp} {a:Addr} {u:HO} (h:H a=some u):Rd H a u:=.inl h
theorem Rd.ok {P:Program} {w:World} {H:Hp} {h:Heap} {a:Addr} {u:HO} (r:Rd H a u) (x:HOk P w H h):ObjOk P w H h a u:=by
  rcases r with r | ⟨o,r⟩
  · exact x a u r
  · obtain ⟨_,q⟩:=x a _ r
    exact q
def Mut:Option HO→Prop
  | some (.lst _)=>True
  | some (.dK _)=>True
  | some (.dT _)=>True
  | some (.set _ _)=>True
  | some (.ins _ _ _)=>True
  | some (.ext _)=>True
  | _=>False
section
variable {P:Program} {w:World} {H:Hp} {h h':Heap} {x e:Addr} {o':HO}
theorem HOk.write (ok:HOk P w H h) (mu:Mut (H x)) (he:e=x∨H e=some (.own x)) (k:∀ b u,b≠e→h.get? b=some u→h'.get? b=some u) (heo:∃ u,h'.get? e=some u)
    (new:ObjOk P w (upd H x o') h' x o'):HOk P w (upd H x o') h':=fun b u q=>by
  have nown:∀ c y,H c=some (.own y)→c≠x:=fun c y r z=>by subst z;rw [r] at mu;exact mu
  have ntup:∀ c xs,H c=some (.tup xs)→c≠x:=fun c xs r z=>by subst z;rw [r] at mu;exact mu
  by_cases hb:b=x
  · subst hb;rw [upd_same] at q;cases q;exact new
  · rw [upd_ne hb] at q
    by_cases hbe:b=e
    · have q':H b=some (.own x):=by
        rcases he with z | z
        · exact absurd (hbe.trans z) hb
        · rw [hbe];exact z
      rw [q] at q';cases q'
      obtain ⟨v,hv⟩:=heo
      exact ⟨v,by rw [hbe];exact hv⟩
    · refine (ok b u q).stay (fun c v hc r=>k c v ?_ r) (fun c r=>by rw [upd_ne (nown c b r)];exact r) fun c xs r=>by rw [upd_ne (ntup c xs r)];exact r
      rcases hc with rfl | hc
      · exact hbe
      · rintro rfl
        rcases he with z | z
        · exact nown c b hc z
        · rw [hc] at z;cases z;exact hb rfl
end
structure Un (fs ex:List Addr) (H H':Hp) (h h':Heap):Prop where
  keep:∀ b o,h.get? b=some o→H b=none→b ∉ fs→b ∉ ex→h'.get? b=some o
  slot:∀ b o,h.get? b=some o→H b=none→b∈fs→b ∉ ex→∃ sl,h'.get? b=some { o with slots:=sl }
  free:∀ b o,h.get? b=some o→H b=none→b ∉ ex→H' b=none
  there:∀ b o,h.get? b=some o→b ∉ ex→∃ o',h'.get? b=some o'
  tups:∀ b xs,H b=some (.tup xs)→H' b=some (.tup xs)
  frzs:∀ b o u,H b=some (.frz o u)→H' b=some (.frz o u)
  tbls:∀ b ps,H b=some (.tbl ps)→∃ more,H' b=some (.tbl (ps++more))
section
variable {fs fs' ex ex':List Addr} {H H1 H2:Hp} {h h1 h2 h':Heap} {a x e:Addr} {o:HO}
theorem Un.any (u:Un fs ex H H1 h h1) {b:Addr} {ob:Obj} (q:h.get? b=some ob) (n:H b=none) (hx:b ∉ ex):∃ sl,h1.get? b=some { ob with slots:=sl }:=by
  by_cases hb:b∈fs
  · exact u.slot b ob q n hb hx
  · exact ⟨ob.slots,u.keep b ob q n hb hx⟩
theorem Un.trans (a:Un fs ex H H1 h h1) (b:Un fs ex H1 H2 h1 h2):Un fs ex H H2 h h2 where
  keep:=fun c ob q n hc hx=>b.keep c ob (a.keep c ob q n hc hx) (a.free c ob q n hx) hc hx
  slot:=fun c ob q n hc hx=>by
    obtain ⟨sl,e1⟩:=a.slot c ob q n hc hx
    obtain ⟨sl',e2⟩:=b.slot c _ e1 (a.free c ob q n hx) hc hx
    exact ⟨sl',e2⟩
  free:=fun c ob q n hx=>by
    obtain ⟨o',e1⟩:=a.there c ob q hx
    exact b.free c o' e1 (a.free c ob q n hx) hx
  there:=fun c ob q hx=>by
    obtain ⟨o',e1⟩:=a.there c ob q hx
    exact b.there c o' e1 hx
  tups:=fun c xs q=>b.tups c xs (a.tups c xs q)
  frzs:=fun c ob xs q=>b.frzs c ob xs (a.frzs c ob xs q)
  tbls:=fun c ps q=>by
    obtain ⟨m1,e1⟩:=a.tbls c ps q
    obtain ⟨m2,e2⟩:=b.tbls c _ e1
    exact ⟨m1++m2,by rw [e2,Array.append_assoc]⟩
theorem Un.kept (k:∀ b u,h.get? b=some u→h'.get? b=some u):Un fs ex H H h h':=
  ⟨fun b ob q _ _ _=>k b ob q,fun b ob q _ _ _=>⟨ob.slots,k b ob q⟩,fun _ _ _ n _=>n,fun b ob q _=>⟨ob,k b ob q⟩,fun _ _ q=>q,fun _ _ _ q=>q,fun _ ps q=>⟨#[],by rw [q];simp⟩⟩
theorem Un.refl:Un fs ex H H h h:=Un.kept fun _ _ q=>q
theorem Un.laid (k:∀ b u,h.get? b=some u→h'.get? b=some u) (hp:h.objs.size≤a) (hn:H a=none):Un fs ex H (upd H a o) h h' where
  keep:=fun b u q _ _ _=>k b u q
  slot:=fun b u q _ _ _=>⟨u.slots,k b u q⟩
  free:=fun b u q n _=>by rw [upd_ne (Nat.ne_of_lt (Nat.lt_of_lt_of_le (Heap.lt_size q) hp))];exact n
  there:=fun b u q _=>⟨u,k b u q⟩
  tups:=fun b xs q=>by rw [upd_ne (ne_of_none q hn)];exact q
  frzs:=fun b u xs q=>by rw [upd_ne (ne_of_none q hn)];exact q
  tbls:=fun b ps q=>⟨#[],by rw [upd_ne (ne_of_none q hn),q];simp⟩
theorem Un.write (mu:Mut (H x)) (he:e=x∨H e=some (.own x)) (k:∀ b u,b≠e→h.get? b=some u→h'.get? b=some u) (heo:∃ u,h'.get? e=some u):Un fs ex H (upd H x o) h h':=by
  have hx:∀ b,H b=none→b≠x:=fun b n z=>by subst z;rw [n] at mu;exact mu
  have hb:∀ b,H b=none→b≠e:=fun b n z=>by
    subst z
    rcases he with r | r
    · exact hx b n r
    · rw [n] at r;cases r
  have hm:∀ b u,H b=some u→¬ Mut (some u)→b≠x:=fun b u q nm z=>by subst z;rw [q] at mu;exact nm mu
  refine ⟨fun b u q n _ _=>k b u (hb b n) q,fun b u q n _ _=>⟨u.slots,k b u (hb b n) q⟩,fun b u q n _=>by rw [upd_ne (hx b n)];exact n,fun b u q _=>?_,
    fun b xs q=>by rw [upd_ne (hm b _ q fun z=>z)];exact q,fun b u xs q=>by rw [upd_ne (hm b _ q fun z=>z)];exact q,fun b ps q=>⟨#[],by rw [upd_ne (hm b _ q fun z=>z),q];simp⟩⟩
  by_cases hbe:b=e
  · subst hbe;exact heo
  · exact ⟨u,k b u hbe q⟩
theorem Un.mono (u:Un fs ex H H1 h h1) (hs:∀ b∈fs,b∈fs') (hx:∀ b∈ex,b∈ex'):Un fs' ex' H H1 h h1:=
  ⟨fun b ob q n hb he=>u.keep b ob q n (fun z=>hb (hs b z)) fun z=>he (hx b z),fun _ _ q n _ he=>u.any q n fun z=>he (hx _ z),fun b ob q n he=>u.free b ob q n fun z=>he (hx b z),fun b ob q he=>u.there b ob q fun z=>he (hx b z),u.tups,u.frzs,u.tbls⟩
end
def trk (h:Heap) (H:Hp):List Addr:=(List.range h.objs.size).filter fun a=>(H a).isSome
def hidT (h:Heap) (H:Hp):Heap:=PySem.W.hideAll h (trk h H)
theorem hidT_size (h:Heap) (H:Hp):(hidT h H).objs.size=h.objs.size:=PySem.W.hideAll_size _ _
theorem hidT_get {h:Heap} {H:Hp} {b:Addr} {o:Obj} (e:h.get? b=some o) (n:H b=none):(hidT h H).get? b=some o:=
  PySem.W.hideAll_get _ e fun hm=>by
    have q:(H b).isSome=true:=(List.mem_filter.mp hm).2
    rw [n] at q;simp at q
theorem of_hidT {h:Heap} {H:Hp} {b:Addr} {o:Obj} (e:(hidT h H).get? b=some o):h.get? b=some o∧H b=none:=by
  have e':h.get? b=some o:=PySem.W.of_hideAll (trk h H) e
  refine ⟨e',?_⟩
  cases q:H b with
  | none=>rfl
  | some x=>
    have hm:b∈trk h H:=List.mem_filter.mpr ⟨List.mem_range.mpr (Heap.lt_size e'),by simp [q]⟩
    have z:(hidT h H).get? b=none:=PySem.W.hideAll_none (trk h H) hm
    rw [z] at e;cases e
def allNews (g h:Heap) (L:Addr):List (Addr × Obj):=(List.range h.objs.size).filterMap fun a=>if a=L∨(g.get? a).isSome=true then none else (h.get? a).map fun o=>(a,o)
def rest (g h:Heap) (L d:Addr):List (Addr × Obj):=(allNews g h L).filter fun p=>decide (p.1≠d)
end L2
namespace L2
open PySem PySem.Spec PyProof.Rows
structure Mod (K:PySem.W.Frag) (mg:Str→Option Value) (base:Heap):Prop where
  kin:K.In base
  glob:base.Ns mainGlobals mg
  blt:∃ mb,base.Ns builtinsNs mb∧∀ x:Str,x ≠ "__name__" → mb x=bootBuiltins x
  nolimit:base.NoLimit
structure Cx where
  prog:Program
  w:World
  K:PySem.W.Frag
  mg:Str→Option Value
  base:Heap
  A:Around
  N:List Str
  s₀:Shared
  H₀:Hp
  env:Env
  outer:List Env
  stack:List Env
  ex:List Addr
  fn:Str→Bool
  calm:Bool
  pn:List (Addr × Obj)
  xe:Value→Shared→Prop
def frs (l:List Env):List Addr:=l.filterMap (·.frame)
abbrev Cx.fs (X:Cx):List Addr:=frs X.outer
def Vis (sc:Scope) (x:Str):Prop:=sc.names.lookup x=some .local∨sc.names.lookup x=some .cell∨sc.names.lookup x=some .free
def Loc (sc:Scope) (x:Str):Prop:=sc.names.lookup x=some .local∨sc.names.lookup x=some .cell
def Look (env:Env) (h:Heap) (m:Str→Option Value) (x:Str) (u:Value):Prop:=
  (env.kindOf x=some .local∧m x=some u)∨((env.kindOf x=some .cell∨env.kindOf x=some .free)∧∃ c,env.cells.lookup x=some c∧h.IsCell c (some u))
structure Cx.Ok (X:Cx):Prop where
  mod:Mod X.K X.mg X.base
  kind:X.env.scope.kind=.function
  glob:X.env.globals=mainGlobals
  blt:X.env.builtins=builtinsNs
  above:X.s₀.heap.objs.size≤X.env.locals
  inj:∀ x y c,X.env.cells.lookup x=some c→X.env.cells.lookup y=some c→x=y
  has:∀ x,(X.env.kindOf x=some .cell∨X.env.kindOf x=some .free)→∃ c,X.env.cells.lookup x=some c
  cab:∀ x c,X.fn x=true→X.env.cells.lookup x=some c→X.s₀.heap.objs.size≤c
  hd:X.calm=true→X.A.handled=none
  frames:X.A.frames=some X.stack
  stk:X.stack=X.outer∨(X.stack=X.env :: X.outer∧X.env.frame=some X.env.locals)
  exf:∀ b∈X.ex,b≠X.env.locals∧∀ x c,X.env.cells.lookup x=some c→c≠b
  bs:∀ b o,X.base.get? b=some o→X.s₀.heap.get? b=some o∧X.H₀ b=none
  bsz:X.base.objs.size≤X.s₀.heap.objs.size
  noex:∀ b o,X.base.get? b=some o→b ∉ X.ex
  exfs:∀ b∈X.ex,b ∉ X.fs
  funs:X.s₀.heap.FunFrames X.base X.outer
  frf:∀ b∈X.fs,X.H₀ b=none
structure Inv (X:Cx) (pins:List (Addr × Obj)) (σ:List (Option V)) (H:Hp) (s:Shared):Prop where
  ok:X.Ok
  os:s.os=X.s₀.os
  bare:AllBare s.gens
  base:Un X.fs X.ex X.H₀ H X.s₀.heap s.heap
  loc:∃ m,s.heap.Ns X.env.locals m∧∀ (i:Nat) (x:Str) (v:V),X.N[i]?=some x→σ[i]?=some (some v)→Vis X.env.scope x→∃ u,RelV v u∧Look X.env s.heap m x u
  cell:∀ x c,X.env.cells.lookup x=some c→∃ v,s.heap.IsCell c v
  free:H X.env.locals=none
  freeC:∀ x c,X.env.cells.lookup x=some c→H c=none
  pin:∀ p∈X.pn++pins,s.heap.get? p.1=some p.2∧H p.1=none∧p.1≠X.env.locals∧p.1 ∉ X.fs∧∀ v,p.2.data≠.cell v
  hok:HOk X.prog X.w H s.heap
  len:σ.length=X.N.length
section
variable {X:Cx} {pins:List (Addr × Obj)} {σ:List (Option V)} {H H':Hp} {s:Shared} {h':Heap}
theorem Cx.Ok.nofr (ok:X.Ok) {b:Addr} {o:Obj} (e:X.base.get? b=some o):b ∉ X.fs:=fun hb=>by
  have:=(ok.funs.mem hb).1
  rw [e] at this;cases this
theorem Inv.bs (I:Inv X pins σ H s):∀ b o,X.base.get? b=some o→s.heap.get? b=some o∧H b=none:=fun b o e=>
  ⟨I.base.keep b o (I.ok.bs b o e).1 (I.ok.bs b o e).2 (I.ok.nofr e) (I.ok.noex b o e),I.base.free b o (I.ok.bs b o e).1 (I.ok.bs b o e).2 (I.ok.noex b o e)⟩
theorem Inv.bk (I:Inv X pins σ H s):∀ b o,X.base.get? b=some o→s.heap.get? b=some o:=fun b o e=>(I.bs b o e).1
theorem Inv.mod (I:Inv X pins σ H s):Mod X.K X.mg X.base:=I.ok.mod
theorem Inv.kIn (I:Inv X pins σ H s):X.K.In s.heap:=I.ok.mod.kin.keeps I.bk
theorem Inv.nolimit (I:Inv X pins σ H s):s.heap.NoLimit:=I.ok.mod.nolimit.keeps I.bk
theorem Inv.lt (I:Inv X pins σ H s):X.env.locals < s.heap.objs.size:=let ⟨_,hn,_⟩:=I.loc;hn.lt
theorem Inv.sz (I:Inv X pins σ H s):X.s₀.heap.objs.size≤s.heap.objs.size:=Nat.le_trans I.ok.above (Nat.le_of_lt I.lt)
theorem Inv.nofs (I:Inv X pins σ H s) {a:Addr} (h:s.heap.objs.size≤a):a ∉ X.fs:=fun hb=>by
  obtain ⟨_,o,ho,_⟩:=I.ok.funs.mem hb
  exact absurd (Nat.lt_of_lt_of_le (Heap.lt_size ho) (Nat.le_trans I.sz h)) (Nat.lt_irrefl _)
theorem Inv.cne (I:Inv X pins σ H s):∀ x c,X.env.cells.lookup x=some c→c≠X.env.locals:=fun x c e z=>by
  obtain ⟨v,o,ho,hd⟩:=I.cell x c e
  obtain ⟨m,⟨o',es,ep,ho',hd',_⟩,_⟩:=I.loc
  rw [z,ho'] at ho;cases ho;rw [hd'] at hd;cases hd
theorem Inv.funs (I:Inv X pins σ H s):s.heap.FunFrames X.base X.outer:=by
  have all:∀ (l:List Env),(∀ b∈frs l,b∈X.fs)→X.s₀.heap.FunFrames X.base l→s.heap.FunFrames X.base l:=by
    intro l
    induction l with
    | nil=>intro _ _;trivial
    | cons env r ih=>
      intro hs hl
      obtain ⟨hk,⟨L,o,hf,hn,ho,hd⟩,hr⟩:=hl
      have hL:L∈X.fs:=hs L (by unfold frs;rw [List.filterMap_cons,hf];exact List.mem_cons_self)
      obtain ⟨sl,e⟩:=I.base.slot L o ho (I.ok.frf L hL) hL fun z=>I.ok.exfs L z hL
      exact ⟨hk,⟨L,_,hf,hn,e,hd⟩,ih (fun b hb=>hs b (by unfold frs;rw [List.filterMap_cons,hf];exact List.mem_cons_of_mem _ hb)) hr⟩
  exact all X.outer (fun _ hb=>hb) I.ok.funs
theorem Inv.stack (I:Inv X pins σ H s):s.heap.FunFrames X.base X.stack:=by
  rcases I.ok.stk with e | ⟨e,hf⟩
  · rw [e];exact I.funs
  · rw [e]
    obtain ⟨m,hn,_⟩:=I.loc
    refine .cons (by rw [I.ok.kind];decide) hf hn ?_ I.funs
    exact Heap.get?_none_of_le (Nat.le_trans I.ok.bsz I.ok.above)
theorem Inv.stkSub (I:Inv X pins σ H s):∀ b∈frs X.stack,b∈X.env.locals :: X.fs:=fun b hb=>by
  rcases I.ok.stk with e | ⟨e,hf⟩
  · rw [e] at hb;exact List.mem_cons_of_mem _ hb
  · rw [e] at hb
    unfold frs at hb
    rw [List.filterMap_cons,hf] at hb
    exact hb
theorem Inv.stkFree (I:Inv X pins σ H s):∀ b∈frs X.stack,H b=none:=fun b hb=>by
  rcases List.mem_cons.mp (I.stkSub b hb) with e | hb
  · rw [e];exact I.free
  · obtain ⟨_,o,ho,_⟩:=I.ok.funs.mem hb
    exact I.base.free b o ho (I.ok.frf b hb) fun z=>I.ok.exfs b z hb
theorem Inv.step {g':Array GenState} {t':Nat} {d':Drawn} {ch:List Addr} (I:Inv X pins σ H s)
    (hch:∀ b∈ch,(b∈X.ex∨X.s₀.heap.objs.size≤b)∧b≠X.env.locals∧(∀ x c,X.env.cells.lookup x=some c→c≠b)∧∀ p∈X.pn++pins,p.1≠b)
    (keep:∀ b o,b≠X.env.locals→b ∉ X.fs→b ∉ ch→s.heap.get? b=some o→H b=none→h'.get? b=some o)
    (slot:∀ b o,b≠X.env.locals→b∈X.fs→b ∉ ch→s.heap.get? b=some o→H b=none→∃ sl,h'.get? b=some { o with slots:=sl }) (free:∀ b o,b ∉ ch→s.heap.get? b=some o→H b=none→H' b=none)
    (there:∀ b o,b ∉ ch→s.heap.get? b=some o→∃ o',h'.get? b=some o')
    (tups:∀ b xs,H b=some (.tup xs)→H' b=some (.tup xs)) (frzs:∀ b o u,H b=some (.frz o u)→H' b=some (.frz o u)) (tbls:∀ b ps,H b=some (.tbl ps)→∃ more,H' b=some (.tbl (ps++more)))
    (ns:∀ m,s.heap.Ns X.env.locals m→h'.Ns X.env.locals m) (hok:HOk X.prog X.w H' h') (hg:AllBare g') :
    Inv X pins σ H' { s with heap:=h',gens:=g',drawn:=d',toks:=t' }:=by
  have neL:∀ b o,X.s₀.heap.get? b=some o→b≠X.env.locals:=fun b o e=>Nat.ne_of_lt (Nat.lt_of_lt_of_le (Heap.lt_size e) I.ok.above)
  have neC:∀ b o,X.s₀.heap.get? b=some o→b ∉ X.ex→b ∉ ch:=fun b o e hx hb=>by
    rcases (hch b hb).1 with z | z
    · exact hx z
    · exact absurd (Nat.lt_of_lt_of_le (Heap.lt_size e) z) (Nat.lt_irrefl _)
  have cellK:∀ x c,X.env.cells.lookup x=some c→∀ v,s.heap.IsCell c v→h'.IsCell c v:=fun x c e v ⟨o,ho,hd⟩=>by
    have nch:c ∉ ch:=fun z=>(hch c z).2.2.1 x c e rfl
    by_cases hc:c∈X.fs
    · obtain ⟨sl,q⟩:=slot c o (I.cne x c e) hc nch ho (I.freeC x c e)
      exact ⟨_,q,hd⟩
    · exact ⟨o,keep c o (I.cne x c e) hc nch ho (I.freeC x c e),hd⟩
  refine ⟨I.ok,I.os,hg,⟨fun b o e n hb hx=>?_,fun b o e n hb hx=>?_,fun b o e n hx=>?_,fun b o e hx=>?_,fun b xs e=>tups b xs (I.base.tups b xs e),fun b o xs e=>frzs b o xs (I.base.frzs b o xs e),fun b ps e=>?_⟩,?_,fun x c e=>?_,?_,fun x c e=>?_,fun p hp=>?_,hok,I.len⟩
  · exact keep b o (neL b o e) hb (neC b o e hx) (I.base.keep b o e n hb hx) (I.base.free b o e n hx)
  · obtain ⟨sl,e1⟩:=I.base.slot b o e n hb hx
    obtain ⟨sl',e2⟩:=slot b _ (neL b o e) hb (neC b o e hx) e1 (I.base.free b o e n hx)
    exact ⟨sl',e2⟩
  · obtain ⟨o',e1⟩:=I.base.there b o e hx
    exact free b o' (neC b o e hx) e1 (I.base.free b o e n hx)
  · obtain ⟨o',e1⟩:=I.base.there b o e hx
    exact there b o' (neC b o e hx) e1
  · obtain ⟨m1,e1⟩:=I.base.tbls b ps e
    obtain ⟨m2,e2⟩:=tbls b _ e1
    exact ⟨m1++m2,by rw [e2,Array.append_assoc]⟩
  · obtain ⟨m,hn,hl⟩:=I.loc
    refine ⟨m,ns m hn,fun i x v e1 e2 e3=>?_⟩
    obtain ⟨u,r,l⟩:=hl i x v e1 e2 e3
    refine ⟨u,r,?_⟩
    rcases l with l | ⟨k,c,e,z⟩
    · exact .inl l
    · exact .inr ⟨k,c,e,cellK x c e _ z⟩
  · obtain ⟨v,z⟩:=I.cell x c e
    exact ⟨v,cellK x c e v z⟩
  · obtain ⟨m,⟨o,_,_,ho,_⟩,_⟩:=I.loc
    exact free _ o (fun z=>(hch _ z).2.1 rfl) ho I.free
  · obtain ⟨v,o,ho,hd⟩:=I.cell x c e
    exact free c o (fun z=>(hch c z).2.2.1 x c e rfl) ho (I.freeC x c e)
  · obtain ⟨e,n,ne,nf,d⟩:=I.pin p hp
    have nch:p.1 ∉ ch:=fun z=>(hch p.1 z).2.2.2 p hp rfl
    exact ⟨keep p.1 p.2 ne nf nch e n,free p.1 p.2 nch e n,ne,nf,d⟩
theorem Inv.un {t':Nat} (I:Inv X pins σ H s) (u:Un X.fs [] H H' s.heap h') (hok:HOk X.prog X.w H' h'):Inv X pins σ H' { s with heap:=h',toks:=t' }:=by
  obtain ⟨m,⟨o,es,ep,ho,r⟩,_⟩:=id I.loc
  obtain ⟨sl,hL⟩:=u.any ho I.free (by simp)
  exact I.step (g':=s.gens) (d':=s.drawn) (ch:=[]) (fun _ z=>nomatch z) (fun b o _ hb _ e n=>u.keep b o e n hb (by simp)) (fun b o _ hb _ e n=>u.slot b o e n hb (by simp)) (fun b o _ e n=>u.free b o e n (by simp)) (fun b o _ e=>u.there b o e (by simp)) u.tups u.frzs u.tbls (fun m' hm=>by
    obtain ⟨o',es',ep',ho',r'⟩:=hm
    rw [ho] at ho';cases ho'
    exact ⟨_,es',ep',hL,r'⟩) hok I.bare
theorem Inv.call {g':Array GenState} {t':Nat} {d':Drawn} {ch:List Addr} (I:Inv X pins σ H s) (u:Un (frs X.stack) ch H H' s.heap h') (hok:HOk X.prog X.w H' h') (hg:AllBare g')
    (hch:∀ b∈ch,(b∈X.ex∨X.s₀.heap.objs.size≤b)∧b≠X.env.locals∧(∀ x c,X.env.cells.lookup x=some c→c≠b)∧∀ p∈X.pn++pins,p.1≠b) :
    Inv X pins σ H' { s with heap:=h',gens:=g',drawn:=d',toks:=t' }:=by
  obtain ⟨m,⟨o,es,ep,ho,r⟩,_⟩:=id I.loc
  obtain ⟨sl,hL⟩:=u.any ho I.free fun z=>(hch _ z).2.1 rfl
  exact I.step (ch:=ch) hch (fun b o hL hb hc e n=>u.keep b o e n (fun z=>(List.mem_cons.mp (I.stkSub b z)).elim hL hb) hc) (fun b o _ _ hc e n=>u.any e n hc) (fun b o hc e n=>u.free b o e n hc) (fun b o hc e=>u.there b o e hc) u.tups u.frzs u.tbls (fun m' hm=>by
    obtain ⟨o',es',ep',ho',r'⟩:=hm
    rw [ho] at ho';cases ho'
    exact ⟨_,es',ep',hL,r'⟩) hok hg
theorem Inv.turned {t':Nat} {it:Addr} (I:Inv X pins σ H s) (k:∀ b o,b≠it→s.heap.get? b=some o→h'.get? b=some o) (hn:H it=none) (hL:it≠X.env.locals)
    (h1:it∈X.ex∨X.s₀.heap.objs.size≤it) (h2:∀ x c,X.env.cells.lookup x=some c→c≠it) (h3:∀ p∈X.pn++pins,p.1≠it):Inv X pins σ H { s with heap:=h',toks:=t' }:=by
  have nit:∀ b u,H b=some u→b≠it:=fun b u e z=>by rw [z,hn] at e;cases e
  refine I.step (g':=s.gens) (d':=s.drawn) (ch:=[it]) (fun b hb=>?_) (fun b o _ _ hc e _=>k b o (fun z=>hc (by simp [z])) e) (fun b o _ _ hc e _=>⟨o.slots,k b o (fun z=>hc (by simp [z])) e⟩) (fun _ _ _ _ n=>n)
    (fun b o hc e=>⟨o,k b o (fun z=>hc (by simp [z])) e⟩) (fun _ _ e=>e) (fun _ _ _ e=>e) (fun b ps e=>⟨#[],by rw [e];simp⟩) (fun m hm=>?_) (fun b u e=>?_) I.bare
  · have e:b=it:=by simpa using hb
    subst e
    exact ⟨h1,hL,h2,h3⟩
  · obtain ⟨o,es,ep,ho,r⟩:=hm
    exact ⟨o,es,ep,k _ o (Ne.symm hL) ho,r⟩
  · refine (I.hok b u e).stay (fun c v hc q=>k c v ?_ q) (fun _ q=>q) fun _ _ q=>q
    rcases hc with z | z
    · rw [z];exact nit b u e
    · exact nit c _ z
theorem Inv.tok (I:Inv X pins σ H s) (t:Nat):Inv X pins σ H { s with toks:=t }:=I.un (h':=s.heap) (t':=t) Un.refl I.hok
theorem Inv.kept {t':Nat} (I:Inv X pins σ H s) (k:∀ b u,s.heap.get? b=some u→h'.get? b=some u):Inv X pins σ H { s with heap:=h',toks:=t' }:=I.un (Un.kept k) (I.hok.kept k)
theorem Inv.laid {a:Addr} {o:HO} {t':Nat} (I:Inv X pins σ H s) (k:∀ b u,s.heap.get? b=some u→h'.get? b=some u) (hp:s.heap.objs.size≤a) (new:ObjOk X.prog X.w (upd H a o) h' a o) :
    Inv X pins σ (upd H a o) { s with heap:=h',toks:=t' }:=I.un (Un.laid k hp (I.hok.fresh hp)) (I.hok.laid k hp new)
theorem Inv.write {x e:Addr} {o:HO} {t':Nat} (I:Inv X pins σ H s) (mu:Mut (H x)) (he:e=x∨H e=some (.own x)) (k:∀ b u,b≠e→s.heap.get? b=some u→h'.get? b=some u) (heo:∃ u,h'.get? e=some u)
    (new:ObjOk X.prog X.w (upd H x o) h' x o):Inv X pins σ (upd H x o) { s with heap:=h',toks:=t' }:=I.un (Un.write mu he k heo) (I.hok.write mu he k heo new)
theorem Inv.weak {σ':List (Option V)} (I:Inv X pins σ H s) (hl:σ'.length=σ.length) (w:∀ (i:Nat) v,σ'[i]?=some (some v)→σ[i]?=some (some v)):Inv X pins σ' H s:=
  ⟨I.ok,I.os,I.bare,I.base,let ⟨m,hn,hl'⟩:=I.loc;⟨m,hn,fun i x v e1 e2 e3=>hl' i x v e1 (w i v e2) e3⟩,I.cell,I.free,I.freeC,I.pin,I.hok,hl.trans I.len⟩
theorem Inv.pins_of {pins':List (Addr × Obj)} (I:Inv X pins σ H s) (h:∀ p∈pins',s.heap.get? p.1=some p.2∧H p.1=none∧p.1≠X.env.locals∧p.1 ∉ X.fs∧∀ v,p.2.data≠.cell v):Inv X pins' σ H s:=
  ⟨I.ok,I.os,I.bare,I.base,I.loc,I.cell,I.free,I.freeC,fun p hp=>(List.mem_append.mp hp).elim (fun z=>I.pin p (List.mem_append_left _ z)) (h p),I.hok,I.len⟩
theorem nodup_ix {N:List Str} (hN:N.Nodup) {i j:Nat} {x:Str} (a:N[i]?=some x) (b:N[j]?=some x):i=j:=by
  obtain ⟨h1,e1⟩:=List.getElem?_eq_some_iff.mp a
  obtain ⟨h2,e2⟩:=List.getElem?_eq_some_iff.mp b
  exact (List.getElem_inj hN).mp (e1.trans e2.symm)
theorem store_ok2 {M:Model} {A:Around} {E:Value→Shared→Prop} {i:Nat} {x:Str} {v:V} {u:Value} {Q:Unit→Shared→Prop} (I:Inv X pins σ H s) (hN:X.N.Nodup) (hi:X.N[i]?=some x) (hx:Loc X.env.scope x) (r:RelV v u)
    (h:∀ s',Inv X pins (σ.set i (some v)) H s'→(∃ a,Heap.SameBut a s.heap s'.heap∧(a=X.env.locals∨X.env.cells.lookup x=some a))→Q () s') (hf:X.fn x=true∨X.env.scope.names.lookup x=some .local:=by first | exact .inl rfl | exact .inr rfl | assumption):wpAny M A (storeName X.env x u) Q E s:=by
  obtain ⟨m,hn,hl⟩:=id I.loc
  have hcls:(X.env.scope.kind == .class || (X.env.scope.kind == .module && X.env.locals != X.env.globals))=false:=by rw [I.ok.kind];rfl
  have hiσ:i < σ.length:=by rw [I.len];exact (List.getElem?_eq_some_iff.mp hi).1
  have cne:=I.cne
  have tracked:∀ {a:Addr} {h':Heap},(∃ o,s.heap.get? a=some o∧H a=none)→Heap.SameBut a s.heap h'→HOk X.prog X.w H h':=fun {a h'} ha hs b ob e=>by
    obtain ⟨_,_,hfree⟩:=ha
    refine (I.hok b ob e).stay (fun c w' hc q=>(hs.2 c ?_).trans q) (fun _ q=>q) fun _ _ q=>q
    rintro rfl
    rcases hc with rfl | hc
    · rw [hfree] at e;cases e
    · rw [hfree] at hc;cases hc
  rcases hx with hk | hk
  · refine wpAny_storeName_local hk hn (fun h' hn' hs=>?_) hcls
    obtain ⟨oL,_,_,hoL,_⟩:=id hn
    refine h _ ⟨I.ok,I.os,I.bare,⟨fun b o e n hb hx=>?_,fun b o e n hb hx=>?_,I.base.free,fun b o e hx=>?_,I.base.tups,I.base.frzs,I.base.tbls⟩,⟨_,hn',fun j y v' e1 e2 e3=>?_⟩,fun y c e=>?_,I.free,I.freeC,fun p hp=>?_,tracked ⟨oL,hoL,I.free⟩ hs,by simpa using I.len⟩ ⟨_,hs,.inl rfl⟩
    · exact (hs.2 b (Nat.ne_of_lt (Nat.lt_of_lt_of_le (Heap.lt_size e) I.ok.above))).trans (I.base.keep b o e n hb hx)
    · obtain ⟨sl,e1⟩:=I.base.slot b o e n hb hx
      exact ⟨sl,(hs.2 b (Nat.ne_of_lt (Nat.lt_of_lt_of_le (Heap.lt_size e) I.ok.above))).trans e1⟩
    · obtain ⟨o',e1⟩:=I.base.there b o e hx
      exact ⟨o',(hs.2 b (Nat.ne_of_lt (Nat.lt_of_lt_of_le (Heap.lt_size e) I.ok.above))).trans e1⟩
    · by_cases hj:j=i
      · subst hj
        rw [hi] at e1;cases e1
        rw [List.getElem?_set_self hiσ] at e2
        cases e2
        exact ⟨u,r,.inl ⟨hk,by simp⟩⟩
      · rw [List.getElem?_set_ne (Ne.symm hj)] at e2
        obtain ⟨u',r',q⟩:=hl j y v' e1 e2 e3
        refine ⟨u',r',?_⟩
        rcases q with ⟨k,e⟩ | ⟨k,c,e,z⟩
        · refine .inl ⟨k,?_⟩
          have:y≠x:=fun e=>hj (nodup_ix hN e1 (e ▸ hi))
          simp [this,e]
        · exact .inr ⟨k,c,e,z.sameBut hs (cne y c e)⟩
    · obtain ⟨w',z⟩:=I.cell y c e
      exact ⟨w',z.sameBut hs (cne y c e)⟩
    · obtain ⟨e,n,ne,nf,d⟩:=I.pin p hp
      exact ⟨(hs.2 p.1 ne).trans e,n,ne,nf,d⟩
  · have hfn:X.fn x=true:=by
      rcases hf with z | z
      · exact z
      · rw [z] at hk;cases hk
    obtain ⟨c,hc⟩:=I.ok.has x (.inl hk)
    obtain ⟨w',z⟩:=I.cell x c hc
    refine wpAny_storeName_cell I.ok.kind hk hc z (fun h' hc' hs=>?_)
    obtain ⟨oc,hoc,hocd⟩:=id z
    refine h { s with heap:=h' } ⟨I.ok,I.os,I.bare,⟨fun b o e n hb hx=>?_,fun b o e n hb hx=>?_,I.base.free,fun b o e hx=>?_,I.base.tups,I.base.frzs,I.base.tbls⟩,⟨m,hn.sameBut hs (Ne.symm (cne x c hc)),fun j y v' e1 e2 e3=>?_⟩,fun y c' e=>?_,I.free,I.freeC,fun p hp=>?_,tracked ⟨oc,hoc,I.freeC x c hc⟩ hs,by simpa using I.len⟩ ⟨c,hs,.inr hc⟩
    · exact (hs.2 b (Nat.ne_of_lt (Nat.lt_of_lt_of_le (Heap.lt_size e) (I.ok.cab x c hfn hc)))).trans (I.base.keep b o e n hb hx)
    · obtain ⟨sl,e1⟩:=I.base.slot b o e n hb hx
      exact ⟨sl,(hs.2 b (Nat.ne_of_lt (Nat.lt_of_lt_of_le (Heap.lt_size e) (I.ok.cab x c hfn hc)))).trans e1⟩
    · obtain ⟨o',e1⟩:=I.base.there b o e hx
      exact ⟨o',(hs.2 b (Nat.ne_of_lt (Nat.lt_of_lt_of_le (Heap.lt_size e) (I.ok.cab x c hfn hc)))).trans e1⟩
    · by_cases hj:j=i
      · subst hj
        rw [hi] at e1;cases e1
        rw [List.getElem?_set_self hiσ] at e2
        cases e2
        exact ⟨u,r,.inr ⟨.inl hk,c,hc,hc'⟩⟩
      · rw [List.getElem?_set_ne (Ne.symm hj)] at e2
        obtain ⟨u',r',q⟩:=hl j y v' e1 e2 e3
        refine ⟨u',r',?_⟩
        rcases q with q | ⟨k,c',e,z'⟩
        · exact .inl q
        · refine .inr ⟨k,c',e,z'.sameBut hs ?_⟩
          rintro rfl
          exact hj (nodup_ix hN e1 (I.ok.inj _ _ _ e hc ▸ hi))
    · by_cases hcc:c'=c
      · subst hcc;exact ⟨_,hc'⟩
      · obtain ⟨w2,z2⟩:=I.cell y c' e
        exact ⟨w2,z2.sameBut hs hcc⟩
    · obtain ⟨e,n,ne,nf,d⟩:=I.pin p hp
      refine ⟨(hs.2 p.1 ?_).trans e,n,ne,nf,d⟩
      intro q
      rw [q,hoc] at e
      have q':oc=p.2:=Option.some.inj e
      exact d w' (by rw [← q'];exact hocd)
theorem store_ok {M:Model} {A:Around} {E:Value→Shared→Prop} {i:Nat} {x:Str} {v:V} {u:Value} {Q:Unit→Shared→Prop} (I:Inv X pins σ H s) (hN:X.N.Nodup) (hi:X.N[i]?=some x) (hx:Loc X.env.scope x) (r:RelV v u)
    (h:∀ s',Inv X pins (σ.set i (some v)) H s'→Q () s') (hf:X.fn x=true∨X.env.scope.names.lookup x=some .local:=by first | exact .inl rfl | exact .inr rfl | assumption):wpAny M A (storeName X.env x u) Q E s:=
  store_ok2 I hN hi hx r (fun s' I' _=>h s' I') hf
theorem Inv.call' {s':Shared} {ch:List Addr} (I:Inv X pins σ H s) (ho:s'.os=s.os) (u:Un (frs X.stack) ch H H' s.heap s'.heap) (hok:HOk X.prog X.w H' s'.heap) (hg:AllBare s'.gens)
    (hch:∀ b∈ch,(b∈X.ex∨X.s₀.heap.objs.size≤b)∧b≠X.env.locals∧(∀ x c,X.env.cells.lookup x=some c→c≠b)∧∀ p∈X.pn++pins,p.1≠b):Inv X pins σ H' s':=by
  obtain ⟨h',g',d',t',o'⟩:=s'
  have e:o'=s.os:=ho
  subst e
  exact I.call (g':=g') (t':=t') (d':=d') u hok hg hch
end
abbrev XK:=Value→Option Addr→Hp→Prop
abbrev St:=List (Option V)
abbrev VK:=V→Hp→Prop
abbrev TE:=St→Hp→VK→Prop
abbrev TT:=St→Hp→(Bool→Hp→Prop)→Prop
abbrev TA:=St→Hp→(List V→Hp→Prop)→Prop
structure Ends where
  nx:St→Hp→Prop
  rt:VK
  bk:St→Hp→Prop:=fun _ _=>False
  ct:St→Hp→Prop:=fun _ _=>False
abbrev TS:=Ends→St→Hp→Prop
def EP (X:Cx) (pins:List (Addr × Obj)) (σ:St) (Q:VK) (u:Value) (s':Shared):Prop:=∃ v H',Inv X pins σ H' s'∧RelV v u∧Q v H'
def TP (X:Cx) (pins:List (Addr × Obj)) (σ:St) (Q:Bool→Hp→Prop) (b:Bool) (s':Shared):Prop:=∃ H',Inv X pins σ H' s'∧Q b H'
def AP (X:Cx) (pins:List (Addr × Obj)) (σ:St) (Q:List V→Hp→Prop) (us:List Value) (s':Shared):Prop:=∃ vs H',Inv X pins σ H' s'∧Vals vs us∧Q vs H'
def SP (X:Cx) (pins:List (Addr × Obj)) (D:Ends) (f:Flow) (s':Shared):Prop:=
  match f with
  | .next=>∃ σ' H',Inv X pins σ' H' s'∧D.nx σ' H'
  | .brk=>∃ σ' H',Inv X pins σ' H' s'∧D.bk σ' H'
  | .cont=>∃ σ' H',Inv X pins σ' H' s'∧D.ct σ' H'
  | .ret u=>∃ v σ' H',Inv X pins σ' H' s'∧RelV v u∧D.rt v H'
def PE (X:Cx) (e:Expr) (t:TE):Prop:=
  ∀ (pins:List (Addr × Obj)) (s:Shared) (σ:St) (H:Hp) (Q:VK),Inv X pins σ H s→t σ H Q→wpAny (model X.prog X.w) X.A (eval e X.env) (EP X pins σ Q) X.xe s
def PT (X:Cx) (e:Expr) (t:TT):Prop:=
  ∀ (pins:List (Addr × Obj)) (s:Shared) (σ:St) (H:Hp) (Q:Bool→Hp→Prop),Inv X pins σ H s→t σ H Q→wpAny (model X.prog X.w) X.A (isTrue e X.env (eval e X.env)) (TP X pins σ Q) X.xe s
def PW (X:Cx) (e:Expr) (t:TT):Prop:=
  ∀ (whole:Sem Value) (pins:List (Addr × Obj)) (s:Shared) (σ:St) (H:Hp) (Q:Bool→Hp→Prop),Inv X pins σ H s→t σ H Q→wpAny (model X.prog X.w) X.A (isTrue e X.env whole) (TP X pins σ Q) X.xe s
theorem PW.pt {X:Cx} {e:Expr} {t:TT} (h:PW X e t):PT X e t:=h _
def PA (X:Cx) (es:List Expr) (t:TA):Prop:=
  ∀ (pos:Pos) (pins:List (Addr × Obj)) (s:Shared) (σ:St) (H:Hp) (Q:List V→Hp→Prop),Inv X pins σ H s→t σ H Q→wpAny (model X.prog X.w) X.A (spliced (backTo pos (starEach es X.env))) (AP X pins σ Q) X.xe s
def PS (X:Cx) (st:Stmt) (t:TS):Prop:=
  ∀ (pins:List (Addr × Obj)) (s:Shared) (σ:St) (H:Hp) (D:Ends),Inv X pins σ H s→t D σ H→wpAny (model X.prog X.w) X.A (exec st X.env) (SP X pins D) X.xe s
def PSs (X:Cx) (st:List Stmt) (t:TS):Prop:=
  ∀ (pins:List (Addr × Obj)) (s:Shared) (σ:St) (H:Hp) (D:Ends),Inv X pins σ H s→t D σ H→wpAny (model X.prog X.w) X.A (execs st X.env) (SP X pins D) X.xe s
theorem thn {α:Type} {t:Sem α} {Q Q':α→Shared→Prop} {M:Model} {A:Around} {E:Value→Shared→Prop} {s:Shared} (h:wpAny M A t Q E s) (hQ:∀ a s,Q a s→Q' a s):wpAny M A t Q' E s:=wpAny_mono h hQ fun _ _ x=>x
end L2
namespace L2
open PySem PySem.Spec PyProof.Rows
section
variable {X:Cx}
def tVar (i:Nat):TE:=fun σ H Q=>∃ v,σ[i]?=some (some v)∧Q v H
def tC (v:V):TE:=fun _ H Q=>Q v H
theorem pe_var {i:Nat} {x:Str} {pos:Pos} (hN:X.N[i]?=some x) (hv:Vis X.env.scope x) (hd:(x == ("__debug__" : Str))=false:=by decide) (hcd:(x == ("__classdict__" : Str))=false:=by decide):PE X (.Name x pos) (tVar i):=by
  intro pins s σ H Q I h
  obtain ⟨v,e,h⟩:=h
  obtain ⟨m,hn,hl⟩:=I.loc
  obtain ⟨u,r,l⟩:=hl i x v hN e hv
  have fin:EP X pins σ Q u s:=⟨v,H,I,r,h⟩
  rcases l with ⟨hk,hm⟩ | ⟨hk,c,hc,hcell⟩
  · exact wpAny_Name (wpAny_loadName_local I.ok.kind hk hn hm fin) hd
  · rcases hk with hk | hk
    · exact wpAny_Name (wpAny_loadName_cell I.ok.kind hk hc hcell fin) hd
    · exact wpAny_Name (wpAny_loadName_free I.ok.kind hk hc hcell fin hcd) hd
theorem pe_int {i j pos}:PE X (.Constant (.int i) j pos) (tC (.int i)):=fun _ _ _ H _ I h=>wpAny_Constant_int ⟨.int i,H,I.tok _,⟨_,rfl⟩,h⟩
theorem pe_bl {b j pos}:PE X (.Constant (.bool b) j pos) (tC (.bl b)):=fun _ _ _ H _ I h=>Constant_bool ⟨.bl b,H,I,rfl,h⟩
theorem pe_non {j pos}:PE X (.Constant .none j pos) (tC .non):=fun _ _ _ H _ I h=>Constant_none ⟨.non,H,I,rfl,h⟩
theorem pe_str {x j pos}:PE X (.Constant (.str x) j pos) (tC (.str x)):=fun _ _ _ H _ I h=>Calls.Constant_str ⟨.str x,H,I.tok _,⟨_,rfl⟩,h⟩
def Gl (X:Cx) (x:Str):Prop:=X.env.kindOf x=some .globalImplicit
theorem ld_glob {E:Value→Shared→Prop} {pins:List (Addr × Obj)} {s:Shared} {σ:St} {H:Hp} {x:Str} {u:Value} {pos:Pos} {Q:Value→Shared→Prop} (I:Inv X pins σ H s) (hg:Gl X x) (hm:X.mg x=some u) (h:Q u s)
    (hd:(x == ("__debug__" : Str))=false:=by decide):wpAny (model X.prog X.w) X.A (eval (.Name x pos) X.env) Q E s:=
  Calls.Name_function_global I.ok.kind hg (Calls.loadGlobal_global (by rw [I.ok.glob];exact I.mod.glob.keeps I.bk) hm h) hd
theorem ld_blt {E:Value→Shared→Prop} {pins:List (Addr × Obj)} {s:Shared} {σ:St} {H:Hp} {x:Str} {u:Value} {pos:Pos} {Q:Value→Shared→Prop} (I:Inv X pins σ H s) (hg:Gl X x) (hm:X.mg x=none) (hv:bootBuiltins x=some u) (h:Q u s)
    (hn:x ≠ "__name__" := by decide) (hd:(x == ("__debug__" : Str))=false:=by decide):wpAny (model X.prog X.w) X.A (eval (.Name x pos) X.env) Q E s:=by
  obtain ⟨mb,h1,h2⟩:=I.mod.blt
  exact Calls.Name_function_global I.ok.kind hg (Calls.loadGlobal_builtin (by rw [I.ok.glob];exact I.mod.glob.keeps I.bk) hm (by rw [I.ok.blt];exact h1.keeps I.bk) ((h2 x hn).trans hv) h) hd
theorem pe_glob {x:Str} {v:V} {u:Value} {pos:Pos} (hg:Gl X x) (hm:X.mg x=some u) (r:RelV v u) (hd:(x == ("__debug__" : Str))=false:=by decide):PE X (.Name x pos) (tC v):=
  fun _ _ _ H _ I h=>ld_glob I hg hm ⟨v,H,I,r,h⟩ hd
theorem pe_bltn {x:Str} {v:V} {u:Value} {pos:Pos} (hg:Gl X x) (hm:X.mg x=none) (hv:bootBuiltins x=some u) (r:RelV v u) (hn:x ≠ "__name__" := by decide) (hd:(x == ("__debug__" : Str))=false:=by decide):PE X (.Name x pos) (tC v):=
  fun _ _ _ H _ I h=>ld_blt I hg hm hv ⟨v,H,I,r,h⟩ hn hd
variable {a b:Expr} {ta tb:TE} {pos:Pos}
def tB (t:TE):TT:=fun σ H Q=>t σ H fun x H1=>∃ c,x=.bl c∧Q c H1
theorem pt_val {e:Expr} {t:TE} (h:PE X e t) (he:∀ whole,isTrue e X.env whole=(do let v ← whole;standAt e.pos;holding [v] (truthy v)):=by intro _;rfl):PT X e (tB t):=by
  intro pins s σ H Q I hw
  refine isTrue_plain (thn (h pins s σ H _ I hw) fun v s1 ⟨x,H1,I1,r1,q1⟩=>?_) (he _)
  obtain ⟨d,rfl,q⟩:=q1
  cases r1
  exact wpAny_truthy_bool ⟨H1,I1,q⟩
variable {tA tB':TT} {rest:List Expr}
def tAnd (t u:TT):TT:=fun σ H Q=>t σ H fun c H1=>if c=true then u σ H1 Q else Q false H1
def tOr (t u:TT):TT:=fun σ H Q=>t σ H fun c H1=>if c=true then Q true H1 else u σ H1 Q
def tNot (t:TT):TT:=fun σ H Q=>t σ H fun c H1=>Q (!c) H1
theorem pw_and1 (ha:PT X a tA):PW X (.BoolOp .And [a] pos) tA:=by
  intro wh pins s σ H Q I h
  refine isTrue_and (thn (ha pins s σ H Q I h) fun c s1 e=>?_)
  cases c with
  | true=>exact isTrue_and_nil e
  | false=>exact e
theorem pw_or1 (ha:PT X a tA):PW X (.BoolOp .Or [a] pos) tA:=by
  intro wh pins s σ H Q I h
  refine isTrue_or (thn (ha pins s σ H Q I h) fun c s1 e=>?_)
  cases c with
  | false=>exact isTrue_or_nil e
  | true=>exact e
theorem pw_and (ha:PT X a tA) (hb:PW X (.BoolOp .And (b :: rest) pos) tB'):PW X (.BoolOp .And (a :: b :: rest) pos) (tAnd tA tB'):=by
  intro wh pins s σ H Q I h
  refine isTrue_and (thn (ha pins s σ H _ I h) fun c s1 ⟨H1,I1,q1⟩=>?_)
  cases c with
  | true=>exact hb wh pins s1 σ H1 Q I1 q1
  | false=>exact ⟨H1,I1,q1⟩
theorem pw_or (ha:PT X a tA) (hb:PW X (.BoolOp .Or (b :: rest) pos) tB'):PW X (.BoolOp .Or (a :: b :: rest) pos) (tOr tA tB'):=by
  intro wh pins s σ H Q I h
  refine isTrue_or (thn (ha pins s σ H _ I h) fun c s1 ⟨H1,I1,q1⟩=>?_)
  cases c with
  | true=>exact ⟨H1,I1,q1⟩
  | false=>exact hb wh pins s1 σ H1 Q I1 q1
theorem pt_not (ha:PT X a tA):PT X (.UnaryOp .Not a pos) (tNot tA):=by
  intro pins s σ H Q I h
  exact isTrue_not (ha pins s σ H (fun c H1=>Q (!c) H1) I h)
def tAndV (ta tb:TE):TE:=fun σ H Q=>ta σ H fun x H1=>∃ c,x=.bl c∧if c=true then tb σ H1 Q else Q (.bl false) H1
def tNotV (ta:TE):TE:=fun σ H Q=>ta σ H fun x H1=>∃ c,x=.bl c∧Q (.bl (!c)) H1
theorem pe_one {op} {t:TE} (h:PE X a t):PE X (.BoolOp op [a] pos) t:=fun pins s σ H Q I hw=>BoolOp_one (h pins s σ H Q I hw)
theorem pe_and (ha:PE X a ta) (hb:PE X (.BoolOp .And (b :: rest) pos) tb):PE X (.BoolOp .And (a :: b :: rest) pos) (tAndV ta tb):=by
  intro pins s σ H Q I h
  refine BoolOp_and (thn (ha pins s σ H _ I h) fun v s1 ⟨x,H1,I1,r1,q1⟩=>?_)
  obtain ⟨c,rfl,q1⟩:=q1
  cases r1
  refine wpAny_truthy_bool ?_
  cases c with
  | true=>exact hb pins s1 σ H1 Q I1 q1
  | false=>exact ⟨.bl false,H1,I1,rfl,q1⟩
theorem pe_not (ha:PE X a ta):PE X (.UnaryOp .Not a pos) (tNotV ta):=by
  intro pins s σ H Q I h
  refine UnaryOp_ (thn (ha pins s σ H _ I h) fun v s1 ⟨x,H1,I1,r1,q1⟩=>?_)
  obtain ⟨c,rfl,q1⟩:=q1
  cases r1
  exact not_of (wpAny_truthy_bool ⟨.bl (!c),H1,I1,rfl,q1⟩)
end
end L2
namespace L2
open PySem PySem.Spec PyProof.Rows
def SqL (K:PySem.W.Frag) (H:Hp) (a:Addr) (xs:List V):Prop:=
  Rd H a (.lst xs) ∨
    ∃ (o:Obj) (its:Array Value) (n:Nat),K.lookup a=some o∧o.cls=.type "list" ∧ o.dict=none∧o.data=.seq its n∧its.size≤sizeLine∧Vals xs its.toList
def SqT (K:PySem.W.Frag) (H:Hp) (a:Addr) (xs:List V):Prop:=
  Rd H a (.tup xs) ∨
    ∃ (o:Obj) (its:Array Value) (n:Nat),K.lookup a=some o∧o.cls=.type "tuple" ∧ o.data=.seq its n∧its.size≤sizeLine∧Vals xs its.toList
def absV:Value→Option V
  | .none=>some .non
  | .bool b=>some (.bl b)
  | .int i _=>some (.int i)
  | .str x _=>some (.str x)
  | .bytes b _=>some (.byt b)
  | .float b _=>some (.flt b)
  | .ref a=>some (.ref a)
  | .type n=>some (.ty n)
  | _=>none
theorem RelV.abs {x:V} {u:Value} (r:RelV x u):absV u=some x:=by
  cases x with
  | non=>cases r;rfl
  | bl _=>cases r;rfl
  | int _=>obtain ⟨t,rfl⟩:=r;rfl
  | str _=>obtain ⟨t,rfl⟩:=r;rfl
  | byt _=>obtain ⟨t,rfl⟩:=r;rfl
  | flt _=>obtain ⟨t,rfl⟩:=r;rfl
  | ref _=>cases r;rfl
  | ty _=>cases r;rfl
theorem RelV.inj {x y:V} {u:Value} (r:RelV x u) (q:RelV y u):x=y:=Option.some.inj (r.abs.symm.trans q.abs)
theorem Vals.inj:∀ {xs ys:List V} {us:List Value},Vals xs us→Vals ys us→xs=ys
  | _,_,_,.nil,.nil=>rfl
  | _,_,_,.cons r t,.cons r' t'=>by rw [r.inj r',Vals.inj t t']
section
variable {X:Cx} {pins:List (Addr × Obj)} {σ:St} {H:Hp} {s:Shared} {a:Addr} {xs ys:List V}
theorem SqL.of {K:PySem.W.Frag} (h:H a=some (.lst xs)):SqL K H a xs:=.inl (.inl h)
theorem SqT.of {K:PySem.W.Frag} (h:H a=some (.tup xs)):SqT K H a xs:=.inl (.inl h)
theorem Inv.list (I:Inv X pins σ H s) (h:SqL X.K H a xs):∃ its:List Value,Vals xs its∧PlainL s.heap a its.toArray∧xs.length≤sizeLine:=by
  rcases h with h | ⟨o,its,n,hk,hc,hd,hs,hz,r⟩
  · obtain ⟨z,its,n,r,e⟩:=h.ok I.hok
    exact ⟨its,r,⟨_,n,e,rfl,rfl,rfl⟩,z⟩
  · refine ⟨its.toList,r,⟨o,n,I.kIn a o hk,hc,hd,by simpa using hs⟩,?_⟩
    have e:=r.length
    simp only [Array.length_toList] at e
    omega
theorem Inv.tuple (I:Inv X pins σ H s) (h:SqT X.K H a xs):∃ its:List Value,Vals xs its∧IsTup s.heap a its.toArray∧xs.length≤sizeLine:=by
  rcases h with h | ⟨o,its,n,hk,hc,hs,hz,r⟩
  · obtain ⟨z,its,r,p⟩:=h.ok I.hok
    exact ⟨its,r,p,z.1⟩
  · refine ⟨its.toList,r,⟨o,I.kIn a o hk,hc,n,by simpa using hs⟩,?_⟩
    have e:=r.length
    simp only [Array.length_toList] at e
    omega
theorem Inv.list_inj (I:Inv X pins σ H s) (h:SqL X.K H a xs) (h':SqL X.K H a ys):xs=ys:=by
  obtain ⟨its,r,⟨o,n,e,_,_,d⟩,_⟩:=I.list h
  obtain ⟨its',r',⟨o',n',e',_,_,d'⟩,_⟩:=I.list h'
  rw [e] at e';cases e'
  rw [d] at d'
  injection d' with d1 _
  have:its=its':=by simpa using congrArg Array.toList d1
  subst this
  exact r.inj r'
theorem Inv.tuple_inj (I:Inv X pins σ H s) (h:SqT X.K H a xs) (h':SqT X.K H a ys):xs=ys:=by
  obtain ⟨its,r,⟨o,e,_,n,d⟩,_⟩:=I.tuple h
  obtain ⟨its',r',⟨o',e',_,n',d'⟩,_⟩:=I.tuple h'
  rw [e] at e';cases e'
  rw [d] at d'
  injection d' with d1 _
  have:its=its':=by simpa using congrArg Array.toList d1
  subst this
  exact r.inj r'
end
abbrev Cx.wish (X:Cx) (E:Value→Shared→Prop):Cx:={ X with xe:=E }
abbrev Cx.nox (X:Cx):Cx:=X.wish fun _ _=>False
theorem Cx.Ok.wish {X:Cx} (ok:X.Ok) (E:Value→Shared→Prop):(X.wish E).Ok:=
  ⟨ok.mod,ok.kind,ok.glob,ok.blt,ok.above,ok.inj,ok.has,ok.cab,ok.hd,ok.frames,ok.stk,ok.exf,ok.bs,ok.bsz,ok.noex,ok.exfs,ok.funs,ok.frf⟩
theorem Cx.Ok.unwish {X:Cx} {E:Value→Shared→Prop} (ok:(X.wish E).Ok):X.Ok:=
  ⟨ok.mod,ok.kind,ok.glob,ok.blt,ok.above,ok.inj,ok.has,ok.cab,ok.hd,ok.frames,ok.stk,ok.exf,ok.bs,ok.bsz,ok.noex,ok.exfs,ok.funs,ok.frf⟩
section
variable {X:Cx} {pins:List (Addr × Obj)} {σ:St} {H:Hp} {s:Shared} {E:Value→Shared→Prop}
theorem Inv.wish (I:Inv X pins σ H s) (E:Value→Shared→Prop):Inv (X.wish E) pins σ H s:=⟨I.ok.wish E,I.os,I.bare,I.base,I.loc,I.cell,I.free,I.freeC,I.pin,I.hok,I.len⟩
theorem Inv.unwish (I:Inv (X.wish E) pins σ H s):Inv X pins σ H s:=⟨I.ok.unwish,I.os,I.bare,I.base,I.loc,I.cell,I.free,I.freeC,I.pin,I.hok,I.len⟩
theorem SP.unwish {D:Ends} {f:Flow} {s':Shared} (h:SP (X.wish E) pins D f s'):SP X pins D f s':=by
  cases f with
  | next=>obtain ⟨σ',H',I,q⟩:=h;exact ⟨σ',H',I.unwish,q⟩
  | brk=>obtain ⟨σ',H',I,q⟩:=h;exact ⟨σ',H',I.unwish,q⟩
  | cont=>obtain ⟨σ',H',I,q⟩:=h;exact ⟨σ',H',I.unwish,q⟩
  | ret u=>obtain ⟨v,σ',H',I,r,q⟩:=h;exact ⟨v,σ',H',I.unwish,r,q⟩
theorem PE.nox {e:Expr} {t:TE} (h:PE X.nox e t):PE X e t:=fun pins s σ H Q I hw=>
  wpAny_mono (h pins s σ H Q (I.wish _) hw) (fun _ _ ⟨v,H',I',r,q⟩=>⟨v,H',I'.unwish,r,q⟩) fun _ _ z=>False.elim z
theorem PT.nox {e:Expr} {t:TT} (h:PT X.nox e t):PT X e t:=fun pins s σ H Q I hw=>
  wpAny_mono (h pins s σ H Q (I.wish _) hw) (fun _ _ ⟨H',I',q⟩=>⟨H',I'.unwish,q⟩) fun _ _ z=>False.elim z
theorem PSs.nox {st:List Stmt} {t:TS} (h:PSs X.nox st t):PSs X st t:=fun pins s σ H D I hw=>
  wpAny_mono (h pins s σ H D (I.wish _) hw) (fun _ _ q=>q.unwish) fun _ _ z=>False.elim z
end
section
variable {X:Cx} {st:Stmt} {rest:List Stmt} {t u:TS} {e:Expr} {te:TE} {pos:Pos}
def tNext:TS:=fun D σ H=>D.nx σ H
def tSeq (t u:TS):TS:=fun D σ H=>t { D with nx:=u D } σ H
theorem pss_nil:PSs X [] tNext:=fun _ _ σ H _ I h=>wpAny_execs_nil ⟨σ,H,I,h⟩
theorem pss_cons (h1:PS X st t) (h2:PSs X rest u):PSs X (st :: rest) (tSeq t u):=by
  intro pins s σ H D I h
  refine wpAny_execs_cons (thn (h1 pins s σ H { D with nx:=u D } I h) fun f s1 q=>?_)
  cases f with
  | next=>
    obtain ⟨σ',H',I',q⟩:=q
    exact h2 pins s1 σ' H' D I' q
  | ret v=>exact q
  | brk=>exact q
  | cont=>exact q
theorem pss_one (h1:PS X st t):PSs X [st] t:=by
  intro pins s σ H D I h
  refine wpAny_execs_cons (thn (h1 pins s σ H D I h) fun f s1 q=>?_)
  cases f with
  | next=>exact wpAny_execs_nil q
  | ret v=>exact q
  | brk=>exact q
  | cont=>exact q
theorem Inv.quiet {pins:List (Addr × Obj)} {σ:St} {H:Hp} {s:Shared} (I:Inv X pins σ H s):interactive X.env=false:=by simp [interactive,I.ok.kind]
def tDrop (te:TE):TS:=fun D σ H=>te σ H fun _ H1=>D.nx σ H1
theorem ps_expr (he:PE X e te) (hs:swapsWith e none pos.line X.env=pure false:=by rfl):PS X (.Expr e pos) (tDrop te):=by
  intro pins s σ H D I h
  exact wpAny_Expr_any (thn (he pins s σ H _ I h) fun v s1 ⟨x,H1,I1,r1,q1⟩=>⟨σ,H1,I1,q1⟩) I.quiet hs
def tRet (te:TE):TS:=fun D σ H=>te σ H D.rt
theorem ps_ret (he:PE X e te):PS X (.Return (some e) pos) (tRet te):=by
  intro pins s σ H D I h
  exact wpAny_Return_some (thn (he pins s σ H _ I h) fun v s1 ⟨x,H1,I1,r1,q1⟩=>⟨x,σ,H1,I1,r1,q1⟩)
def tIfS (c:TT) (t u:TS):TS:=fun D σ H=>c σ H fun b H1=>if b=true then t D σ H1 else u D σ H1
theorem ps_if {c:Expr} {a b:List Stmt} {tc:TT} (hc:PT X c tc) (ha:PSs X a t) (hb:PSs X b u):PS X (.If c a b pos) (tIfS tc t u):=by
  intro pins s σ H D I h
  refine wpAny_If (thn (hc pins s σ H _ I h) fun d s1 ⟨H1,I1,q1⟩=>?_)
  cases d with
  | true=>exact ha pins s1 σ H1 D I1 q1
  | false=>exact hb pins s1 σ H1 D I1 q1
end
abbrev TG:=V→St→Hp→(St→Hp→Prop)→Prop
abbrev TGs:=List V→St→Hp→(St→Hp→Prop)→Prop
def PG (X:Cx) (target:Expr) (t:TG):Prop:=
  ∀ (pins:List (Addr × Obj)) (s:Shared) (σ:St) (H:Hp) (v:V) (u:Value) (Q:St→Hp→Prop),Inv X pins σ H s→RelV v u→t v σ H Q →
    wpAny (model X.prog X.w) X.A (assign target X.env u) (fun _ s'=>∃ σ' H',Inv X pins σ' H' s'∧Q σ' H') X.xe s
def PGs (X:Cx) (ts:List Expr) (t:TGs):Prop:=
  ∀ (pins:List (Addr × Obj)) (s:Shared) (σ:St) (H:Hp) (vs:List V) (us:List Value) (Q:St→Hp→Prop),Inv X pins σ H s→Vals vs us→t vs σ H Q →
    wpAny (model X.prog X.w) X.A (assignInOrder ((assignEach ts X.env).map (·.2)) us) (fun _ s'=>∃ σ' H',Inv X pins σ' H' s'∧Q σ' H') X.xe s
abbrev TSet:=V→V→V→Hp→(Hp→Prop)→Prop
def PSet (X:Cx) (t:TSet):Prop:=
  ∀ (pins:List (Addr × Obj)) (s:Shared) (σ:St) (H:Hp) (o i v:V) (ov iv u:Value) (Q:Hp→Prop),Inv X pins σ H s→RelV o ov→RelV i iv→RelV v u→t o i v H Q →
    wpAny (model X.prog X.w) X.A (setItem ov iv u) (fun _ s'=>∃ H',Inv X pins σ H' s'∧Q H') X.xe s
section
variable {X:Cx} {pos:Pos}
def gName (i:Nat):TG:=fun v σ H Q=>Q (σ.set i (some v)) H
theorem pg_name {i:Nat} {x:Str} (hN:X.N.Nodup) (hi:X.N[i]?=some x) (hx:Loc X.env.scope x) (hf:X.fn x=true∨X.env.scope.names.lookup x=some .local:=by first | exact .inl rfl | exact .inr rfl | assumption):PG X (.Name x pos) (gName i):=by
  intro pins s σ H v u Q I r h
  exact wpAny_assign_Name (store_ok I hN hi hx r (fun s' I'=>⟨_,H,I',h⟩) hf)
def gNil:TGs:=fun vs σ H Q=>vs=[]∧Q σ H
def gCons (t:TG) (u:TGs):TGs:=fun vs σ H Q=>∃ v r,vs=v :: r∧t v σ H fun σ' H'=>u r σ' H' Q
theorem pgs_nil:PGs X [] gNil:=by
  intro pins s σ H vs us Q I r h
  obtain ⟨e,h⟩:=h
  subst e
  cases r
  exact assignInOrder_nil ⟨σ,H,I,h⟩
theorem pgs_cons {e:Expr} {es:List Expr} {t:TG} {u:TGs} (h1:PG X e t) (h2:PGs X es u)
    (hs:(assignEach (e :: es) X.env).map (·.2)=assign e X.env :: (assignEach es X.env).map (·.2):=by rfl):PGs X (e :: es) (gCons t u):=by
  intro pins s σ H vs us Q I r h
  obtain ⟨v,vr,e1,h⟩:=h
  subst e1
  cases r with
  | cons r rr=>
    rw [hs]
    refine assignInOrder_cons (thn (h1 pins s σ H _ _ _ I r h) fun _ s1 ⟨σ1,H1,I1,q1⟩=>?_)
    exact h2 pins s1 σ1 H1 _ _ Q I1 rr q1
def gTup (K:PySem.W.Frag) (n:Nat) (t:TGs):TG:=fun v σ H Q=>∃ a xs,v=.ref a∧SqT K H a xs∧xs.length=n∧t xs σ H Q
theorem pg_tup {es:List Expr} {k:Nat} {t:TGs} {n:Nat} (hc:X.calm=true) (h:PGs X es t)
    (hn:(assignEach es X.env).length=n:=by rfl) (hst:(assignEach es X.env).findIdx? (·.1)=none:=by rfl):PG X (.Tuple es k pos) (gTup X.K n t):=by
  intro pins s σ H v u Q I r hw
  obtain ⟨a,xs,e1,hq,hl,hw⟩:=hw
  subst e1
  cases r
  obtain ⟨its,rv,ht,hz⟩:=I.tuple hq
  refine assign_Tuple_tuple (I.ok.hd hc) ht (by simp [hn,← hl,rv.length]) hst fun h' hx=>?_
  have I1:Inv X pins σ H { s with heap:=h' }:=I.kept (t':=s.toks) fun b o e=>hx b o (Nat.ne_of_lt (Heap.lt_size e)) e
  exact h pins _ σ H xs _ Q I1 (by simpa using rv) hw
def gSub (to ti:TE) (t:TSet):TG:=fun v σ H Q=>to σ H fun o H1=>ti σ H1 fun i H2=>t o i v H2 fun H3=>Q σ H3
theorem pg_sub {o i:Expr} {to ti:TE} {t:TSet} (ho:PE X o to) (hi:PE X i ti) (hs:PSet X t)
    (ha:∀ v,assign (.Subscript o i pos) X.env v=(do
      let ov ← holding [v] (eval o X.env)
      let iv ← holding [v,ov] (eval i X.env)
      standAt pos
      holding [v,ov,iv] (setItem ov iv v)
      release [v,ov,iv] []):=by intro _;rfl):PG X (.Subscript o i pos) (gSub to ti t):=by
  intro pins s σ H v u Q I r h
  rw [ha]
  refine wpAny_bind (wpAny_holding (thn (ho pins s σ H _ I h) fun ov s1 ⟨x,H1,I1,r1,q1⟩=>?_))
  refine wpAny_bind (wpAny_holding (thn (hi pins s1 σ H1 _ I1 q1) fun iv s2 ⟨y,H2,I2,r2,q2⟩=>?_))
  refine wpAny_bind (wpAny_standAt (wpAny_bind (wpAny_holding (thn (hs pins s2 σ H2 x y v ov iv u _ I2 r1 r2 r q2) fun _ s3 ⟨H3,I3,q3⟩=>?_))))
  exact wpAny_release ⟨σ,H3,I3,q3⟩
def tAsg (te:TE) (g:TG):TS:=fun D σ H=>te σ H fun x H1=>g x σ H1 D.nx
theorem ps_asg {tg e:Expr} {te:TE} {g:TG} (he:PE X e te) (hg:PG X tg g) (hs:swapsWithSole [tg] e pos.line X.env=pure false:=by rfl) (hw:swappedStores [tg] e X.env=pure none:=by rfl)
    (h1:(assignEach [tg] X.env).map (·.2)=[assign tg X.env]:=by rfl):PS X (.Assign [tg] e pos) (tAsg te g):=by
  intro pins s σ H D I h
  refine wpAny_Assign_stores (thn (he pins s σ H _ I h) fun v s1 ⟨x,H1,I1,r1,q1⟩=>?_) hs hw
  rw [h1]
  exact thn (hg pins s1 σ H1 x v _ I1 r1 q1) fun _ s2 q=>q
theorem ps_set {i:Nat} {x:Str} {e:Expr} {te:TE} {pos':Pos} (hN:X.N.Nodup) (hi:X.N[i]?=some x) (hx:Loc X.env.scope x) (he:PE X e te) (hs:swapsWith e (some (.Name x pos')) pos.line X.env=pure false:=by rfl) (hf:X.fn x=true∨X.env.scope.names.lookup x=some .local:=by first | exact .inl rfl | exact .inr rfl | assumption) :
    PS X (.Assign [.Name x pos'] e pos) (tAsg te (gName i)):=by
  intro pins s σ H D I h
  refine wpAny_Assign_Name (thn (he pins s σ H _ I h) fun v s1 ⟨y,H1,I1,r1,q1⟩=>?_) hs
  exact store_ok I1 hN hi hx r1 (fun s2 I2=>⟨_,H1,I2,q1⟩) hf
end
section
variable {X:Cx} {pos:Pos}
def tWhile (c:TT) (tb:TS):TS:=fun D σ H=>∃ W:Nat→St→Hp→Prop,(∃ m,W m σ H)∧∀ m σ H,W m σ H →
  c σ H fun b H1=>if b=true then ∃ N:St→Hp→Prop,(∀ σ' H',N σ' H'→∃ m',m' < m∧W m' σ' H')∧tb { D with nx:=N,ct:=N,bk:=D.nx } σ H1 else D.nx σ H1
theorem ps_while {c:Expr} {body:List Stmt} {tc:TT} {tb:TS} (hp:PassesOwn (model X.prog X.w) X.A X.env X.xe) (hc:PT X c tc) (hb:PSs X body tb):PS X (.While c body [] pos) (tWhile tc tb):=by
  intro pins s σ H D I h
  obtain ⟨W,⟨m0,w0⟩,turn⟩:=h
  refine wpAny_While (codeAny_whileLoop (fun n s'=>∃ σ' H',Inv X pins σ' H' s'∧W n σ' H') ?_ m0 ⟨σ,H,I,w0⟩)
  rintro n s1 ⟨σ1,H1,I1,w1⟩
  refine wpAny_passesOwn hp (thn (hc pins s1 σ1 H1 _ I1 (turn n σ1 H1 w1)) fun b s2 ⟨H2,I2,q2⟩=>?_)
  cases b with
  | true=>
    obtain ⟨N,hN,q2⟩:=q2
    rw [if_pos rfl]
    refine wpAny_passesOwn hp (thn (hb pins s2 σ1 H2 _ I2 q2) fun f s3 q3=>?_)
    cases f with
    | next=>
      obtain ⟨σ3,H3,I3,n3⟩:=q3
      obtain ⟨m',hm,w3⟩:=hN σ3 H3 n3
      exact ⟨m',hm,σ3,H3,I3,w3⟩
    | cont=>
      obtain ⟨σ3,H3,I3,n3⟩:=q3
      obtain ⟨m',hm,w3⟩:=hN σ3 H3 n3
      exact ⟨m',hm,σ3,H3,I3,w3⟩
    | brk=>exact q3
    | ret v=>exact q3
  | false=>
    rw [if_neg Bool.false_ne_true]
    exact wpAny_execs_nil ⟨σ1,H2,I2,q2⟩
end
structure It where
  go:Nat→Hp→Prop
  yld:Nat→Hp→V→Hp→Prop
  stop:Nat→Hp→Prop
def FpOk (X:Cx) (pins:List (Addr × Obj)) (H:Hp) (b:Addr):Prop:=
  H b=none∧b≠X.env.locals∧b ∉ X.fs∧(b∈X.ex∨X.s₀.heap.objs.size≤b)∧(∀ x c,X.env.cells.lookup x=some c→c≠b)∧∀ p∈X.pn++pins,p.1≠b
theorem Inv.fpOk {X:Cx} {pins:List (Addr × Obj)} {σ:St} {H H':Hp} {s:Shared} {b:Addr} (I:Inv X pins σ H s) (hb:s.heap.objs.size≤b) (hn:H' b=none):FpOk X pins H' b:=by
  refine ⟨hn,Nat.ne_of_gt (Nat.lt_of_lt_of_le I.lt hb),I.nofs hb,.inr (Nat.le_trans I.sz hb),fun x c e z=>?_,fun p hp z=>?_⟩
  · obtain ⟨v,q⟩:=I.cell x c e
    exact absurd (Nat.lt_of_lt_of_le q.lt (by rw [z];exact hb)) (Nat.lt_irrefl _)
  · exact absurd (Nat.lt_of_lt_of_le (Heap.lt_size (I.pin p hp).1) (by rw [z];exact hb)) (Nat.lt_irrefl _)
structure Turn (P:Program) (w:World) (K:PySem.W.Frag) (tg:Expr) (J:It) (fp:List Addr) (it:Addr) (tn:Nat→Heap→Prop):Prop where
  mem:it∈fp
  obj:∀ i h,tn i h→∀ b∈fp,∃ o,h.get? b=some o∧∀ v,o.data≠.cell v
  keep:∀ i h h',tn i h→(∀ b∈fp,∀ o,h.get? b=some o→h'.get? b=some o)→tn i h'
  item:∀ (X:Cx),X.prog=P→X.w=w→X.K=K→X.calm=true→∀ (i:Nat) (pins:List (Addr × Obj)) (s:Shared) (σ:St) (H:Hp) (E:Value→Shared→Prop),Inv X pins σ H s→(∀ b∈fp,FpOk X pins H b)→tn i s.heap→J.go i H →
    wpAny (model P w) X.A (pyNext (.ref it)) (fun r s1=>∃ u,r=some u ∧
      wpAny (model P w) X.A (letOwnedTupleGo tg (.ref it) u) (fun _ s2=>∃ x H',Inv X pins σ H' s2∧RelV x u∧J.yld i H x H'∧tn (i+1) s2.heap∧∀ b∈fp,H' b=none) E s1) E s
  done:∀ (X:Cx),X.prog=P→X.w=w→X.K=K→X.calm=true→∀ (i:Nat) (pins:List (Addr × Obj)) (s:Shared) (σ:St) (H:Hp) (E:Value→Shared→Prop),Inv X pins σ H s→(∀ b∈fp,FpOk X pins H b)→tn i s.heap→J.stop i H →
    wpAny (model P w) X.A (pyNext (.ref it)) (fun r s1=>r=none∧Inv X pins σ H s1) E s
  self:∀ (A:Around) (i:Nat) (s:Shared) (Q:Value→Shared→Prop) (E:Value→Shared→Prop),tn i s.heap→Q (.ref it) s→wpAny (model P w) A (pyIter (.ref it)) Q E s
abbrev TI:=St→Hp→(It→Hp→Prop)→Prop
def PIE (X:Cx) (pins:List (Addr × Obj)) (σ:St) (tg:Expr) (R:It→Hp→Prop) (itv:Value) (s2:Shared):Prop:=
  ∃ (it:Addr) (fp:List Addr) (tn:Nat→Heap→Prop) (J:It) (H':Hp),itv=.ref it∧Inv X pins σ H' s2∧Turn X.prog X.w X.K tg J fp it tn∧tn 0 s2.heap∧(∀ b∈fp,FpOk X pins H' b)∧R J H'
def PI (X:Cx) (tg iter:Expr) (wi:TI):Prop:=
  ∀ (pins:List (Addr × Obj)) (s:Shared) (σ:St) (H:Hp) (R:It→Hp→Prop),Inv X pins σ H s→wi σ H R →
    wpAny (model X.prog X.w) X.A (eval iter X.env) (fun v s1=>wpAny (model X.prog X.w) X.A (pyIter v) (PIE X pins σ tg R) X.xe s1) X.xe s
theorem go_of {M:Model} {A:Around} {E:Value→Shared→Prop} {s:Shared} {tg:Expr} {it:Addr} {u:Value} {o:Obj} {n:String} {vs:Array Value} {Q:Unit→Shared→Prop} (ho:s.heap.get? it=some o) (hc:o.cls=.type n) (hd:o.data=.fields vs)
    (hn:["enumerate", "zip", "dict_itemiterator", "dict_reverseitemiterator", "odict_iterator", "itertools.zip_longest", "itertools.pairwise"].contains n=false) (hQ:Q () s):wpAny M A (letOwnedTupleGo tg (.ref it) u) Q E s:=by
  unfold letOwnedTupleGo
  cases tg <;> first
    | exact wpAny_pure hQ
    | (cases u <;> first
        | exact wpAny_pure hQ
        | (refine wpAny_bind (wpAny_load ho ?_)
           rw [hc,hd]
           show wpAny M A (if (["enumerate", "zip", "dict_itemiterator", "dict_reverseitemiterator", "odict_iterator", "itertools.zip_longest", "itertools.pairwise"].contains n && vs[0]? == some (rawInt _))=true then _ else _) Q E s
           rw [if_neg (by intro h;rw [hn,Bool.false_and] at h;cases h)]
           exact wpAny_pure hQ))
def Itl (K:PySem.W.Frag) (a:Addr):It:=
  ⟨fun i H=>∃ xs x,SqL K H a xs∧xs[i]?=some x,fun i H x H'=>H'=H∧∀ xs,SqL K H a xs→xs[i]?=some x,fun i H=>∃ xs,SqL K H a xs∧xs.length≤i⟩
def Itt (K:PySem.W.Frag) (a:Addr):It:=
  ⟨fun i H=>∃ xs x,SqT K H a xs∧xs[i]?=some x,fun i H x H'=>H'=H∧∀ xs,SqT K H a xs→xs[i]?=some x,fun i H=>∃ xs,SqT K H a xs∧xs.length≤i⟩
def Itr (lo:Int) (n:Nat):It:=⟨fun i _=>i < n,fun i H x H'=>H'=H∧x=.int (lo+i),fun i _=>n≤i⟩
theorem turn_list {P:Program} {w:World} {K:PySem.W.Frag} {tg:Expr} (a it:Addr):Turn P w K tg (Itl K a) [it] it (fun i h=>h.IsListIter it a i) where
  mem:=by simp
  obj:=fun i h st b hb=>by
    have e:b=it:=by simpa using hb
    subst e
    obtain ⟨o,e,c,d⟩:=st
    exact ⟨o,e,fun v z=>by rw [d] at z;cases z⟩
  keep:=fun i h h' st k=>st.at fun o e=>k it (by simp) o e
  item:=by
    intro X hP hw hK hc i pins s σ H E I hf st hg
    subst hP hw hK
    obtain ⟨xs,x,hq,hx⟩:=hg
    obtain ⟨its,rv,p,hz⟩:=I.list hq
    obtain ⟨u,hu,ru⟩:=rv.get hx
    obtain ⟨f0,f1,f2,f3,f4,f5⟩:=hf it (by simp)
    refine wpAny_pyNext_list_item st p.isList (x:=u) (by simpa using hu) fun h' st' sb=>?_
    have I1:Inv X pins σ H { s with heap:=h' }:=I.turned (t':=s.toks) (fun b o hb e=>(sb.2 b hb).trans e) f0 f1 f3 f4 f5
    obtain ⟨o,e,c,d⟩:=id st'
    exact ⟨u,rfl,go_of (s:={ s with heap:=h' }) e c d (by decide) ⟨x,H,I1,ru,⟨rfl,fun ys hy=>by rw [I.list_inj hy hq];exact hx⟩,st',fun b hb=>(hf b hb).1⟩⟩
  done:=by
    intro X hP hw hK hc i pins s σ H E I hf st hg
    subst hP hw hK
    obtain ⟨xs,hq,hx⟩:=hg
    obtain ⟨its,rv,p,hz⟩:=I.list hq
    obtain ⟨f0,f1,f2,f3,f4,f5⟩:=hf it (by simp)
    have hl:=rv.length
    exact wpAny_pyNext_list_end (I.ok.hd hc) st p.isList (by simp;omega) fun h' eb=>⟨rfl,I.turned (t':=s.toks) (fun b o hb e=>eb b o hb e) f0 f1 f3 f4 f5⟩
  self:=fun _ _ _ _ _ st h=>wpAny_pyIter_listiter st h
theorem turn_tuple {P:Program} {w:World} {K:PySem.W.Frag} {tg:Expr} (a it:Addr):Turn P w K tg (Itt K a) [it] it (fun i h=>h.IsTupleIter it a i) where
  mem:=by simp
  obj:=fun i h st b hb=>by
    have e:b=it:=by simpa using hb
    subst e
    obtain ⟨o,e,c,d⟩:=st
    exact ⟨o,e,fun v z=>by rw [d] at z;cases z⟩
  keep:=fun i h h' st k=>st.at fun o e=>k it (by simp) o e
  item:=by
    intro X hP hw hK hc i pins s σ H E I hf st hg
    subst hP hw hK
    obtain ⟨xs,x,hq,hx⟩:=hg
    obtain ⟨its,rv,p,hz⟩:=I.tuple hq
    obtain ⟨u,hu,ru⟩:=rv.get hx
    obtain ⟨f0,f1,f2,f3,f4,f5⟩:=hf it (by simp)
    refine wpAny_pyNext_tuple_item st (show s.heap.IsTuple a its.toArray from p) (x:=u) (by simpa using hu) fun h' st' sb=>?_
    have I1:Inv X pins σ H { s with heap:=h' }:=I.turned (t':=s.toks) (fun b o hb e=>(sb.2 b hb).trans e) f0 f1 f3 f4 f5
    obtain ⟨o,e,c,d⟩:=id st'
    exact ⟨u,rfl,go_of (s:={ s with heap:=h' }) e c d (by decide) ⟨x,H,I1,ru,⟨rfl,fun ys hy=>by rw [I.tuple_inj hy hq];exact hx⟩,st',fun b hb=>(hf b hb).1⟩⟩
  done:=by
    intro X hP hw hK hc i pins s σ H E I hf st hg
    subst hP hw hK
    obtain ⟨xs,hq,hx⟩:=hg
    obtain ⟨its,rv,p,hz⟩:=I.tuple hq
    obtain ⟨f0,f1,f2,f3,f4,f5⟩:=hf it (by simp)
    have hl:=rv.length
    exact wpAny_pyNext_tuple_end (I.ok.hd hc) st (show s.heap.IsTuple a its.toArray from p) (by simp;omega) fun h' eb=>⟨rfl,I.turned (t':=s.toks) (fun b o hb e=>eb b o hb e) f0 f1 f3 f4 f5⟩
  self:=fun _ _ _ _ _ st h=>wpAny_pyIter_tupleiter st h
theorem turn_range {P:Program} {w:World} {K:PySem.W.Frag} {tg:Expr} (it:Addr) (lo:Int) (n:Nat):Turn P w K tg (Itr lo n) [it] it (fun i h=>IsRangeIter h it (lo+(i:Nat) * 1) ((n:Int) - (i:Nat)) 1) where
  mem:=by simp
  obj:=fun i h st b hb=>by
    have e:b=it:=by simpa using hb
    subst e
    exact ⟨_,st,fun v z=>by
      have z':Data.fields _=Data.cell v:=z
      cases z'⟩
  keep:=fun i h h' st k=>k it (by simp) _ st
  item:=by
    intro X hP hw hK hc i pins s σ H E I hf st hg
    subst hP hw hK
    obtain ⟨f0,f1,f2,f3,f4,f5⟩:=hf it (by simp)
    have W:=Walks.range (prog:=X.prog) (w:=X.w) (I.ok.hd hc) it lo 1 n
    refine W.item i s _ _ hg st fun v h' tk hv st' kk=>?_
    obtain ⟨t,rfl⟩:=hv
    have I1:Inv X pins σ H { s with heap:=h',toks:=tk }:=I.turned (fun b o hb e=>kk b o (by simpa using hb) e) f0 f1 f3 f4 f5
    refine ⟨_,rfl,go_of (s:={ s with heap:=h',toks:=tk }) (n := "range_iterator") st' rfl rfl (by decide) ⟨.int (lo+i),H,I1,⟨t,?_⟩,⟨rfl,rfl⟩,st',fun b hb=>(hf b hb).1⟩⟩
    rw [Int.mul_one]
  done:=by
    intro X hP hw hK hc i pins s σ H E I hf st hg
    subst hP hw hK
    obtain ⟨f0,f1,f2,f3,f4,f5⟩:=hf it (by simp)
    exact wpAny_pyNext_range_end (I.ok.hd hc) st (by have:n≤i:=hg;omega) fun h' eb=>⟨rfl,I.turned (t':=s.toks) (fun b o hb e=>eb b o hb e) f0 f1 f3 f4 f5⟩
  self:=fun _ _ _ _ _ st h=>wpAny_pyIter_rangeiter st h
end L2
namespace L2
open PySem PySem.Spec PyProof.Rows
section
variable {X:Cx} {tg:Expr}
def iList (K:PySem.W.Frag) (tl:TE):TI:=fun σ H R=>tl σ H fun x H1=>∃ a,x=.ref a∧(∃ xs,SqL K H1 a xs)∧R (Itl K a) H1
def iTup (K:PySem.W.Frag) (tl:TE):TI:=fun σ H R=>tl σ H fun x H1=>∃ a,x=.ref a∧(∃ xs,SqT K H1 a xs)∧R (Itt K a) H1
theorem pi_list {l:Expr} {tl:TE} (hl:PE X l tl):PI X tg l (iList X.K tl):=by
  intro pins s σ H R I h
  refine thn (hl pins s σ H _ I h) fun v s1 ⟨x,H1,I1,r1,q1⟩=>?_
  obtain ⟨a,e,⟨xs,hq⟩,q⟩:=q1
  subst e
  cases r1
  obtain ⟨its,rv,p,hz⟩:=I1.list hq
  refine wpAny_pyIter_list p.isList ?_
  refine ⟨s1.heap.objs.size,[s1.heap.objs.size],_,_,H1,rfl,I1.kept (t':=s1.toks) fun b o e=>Heap.get?_push_of_some _ e,turn_list a _,⟨_,Heap.get?_push_size _ rfl,rfl,rfl⟩,fun b hb=>?_,q⟩
  have e:b=s1.heap.objs.size:=by simpa using hb
  subst e
  exact I1.fpOk (Nat.le_refl _) (I1.hok.fresh (Nat.le_refl _))
theorem pi_tup {l:Expr} {tl:TE} (hl:PE X l tl):PI X tg l (iTup X.K tl):=by
  intro pins s σ H R I h
  refine thn (hl pins s σ H _ I h) fun v s1 ⟨x,H1,I1,r1,q1⟩=>?_
  obtain ⟨a,e,⟨xs,hq⟩,q⟩:=q1
  subst e
  cases r1
  obtain ⟨its,rv,p,hz⟩:=I1.tuple hq
  refine wpAny_pyIter_tuple (show s1.heap.IsTuple a its.toArray from p) ?_
  refine ⟨s1.heap.objs.size,[s1.heap.objs.size],_,_,H1,rfl,I1.kept (t':=s1.toks) fun b o e=>Heap.get?_push_of_some _ e,turn_tuple a _,⟨_,Heap.get?_push_size _ rfl,rfl,rfl⟩,fun b hb=>?_,q⟩
  have e:b=s1.heap.objs.size:=by simpa using hb
  subst e
  exact I1.fpOk (Nat.le_refl _) (I1.hok.fresh (Nat.le_refl _))
theorem range_it {pins:List (Addr × Obj)} {σ:St} {H:Hp} {s:Shared} {R:It→Hp→Prop} {E:Value→Shared→Prop} {lo hi:Int} {t u v:Tok} {tk:Nat} (I:Inv X pins σ H s) (h1:-(2 ^ 62)≤lo) (h2:lo < 2 ^ 62) (h3:-(2 ^ 62)≤hi) (h4:hi < 2 ^ 62)
    (q:R (Itr lo (hi - lo).toNat) H):wpAny (model X.prog X.w) X.A (pyIter (.ref s.heap.objs.size)) (PIE X pins σ tg R) E { s with heap:=s.heap.push { cls:=.type "range", data:=.fields #[.int lo t,.int hi u,.int 1 v] },toks:=tk }:=by
  refine wpAny_pyIter_range (IsRange.new ..) (small_one h1 h2 h3 h4) ?_
  have I1:Inv X pins σ H { s with heap:=s.heap.push { cls:=.type "range", data:=.fields #[.int lo t,.int hi u,.int 1 v] },toks:=tk }:=I.kept fun b o e=>Heap.get?_push_of_some _ e
  refine ⟨(s.heap.push { cls:=.type "range", data:=.fields #[.int lo t,.int hi u,.int 1 v] }).objs.size,[(s.heap.push { cls:=.type "range", data:=.fields #[.int lo t,.int hi u,.int 1 v] }).objs.size],_,_,H,rfl,
    I1.kept (t':=tk) fun b o e=>Heap.get?_push_of_some _ e,turn_range _ lo (hi - lo).toNat,?_,fun b hb=>?_,q⟩
  · have e1:lo+((0:Nat):Int) * 1=lo:=by simp
    have e2:(((hi - lo).toNat:Nat):Int) - ((0:Nat):Int)=Builtin.Range.rangeSize lo hi 1:=by rw [rangeSize_one];split <;> omega
    show IsRangeIter _ _ (lo+((0:Nat):Int) * 1) ((((hi - lo).toNat:Nat):Int) - ((0:Nat):Int)) 1
    rw [e1,e2]
    exact Heap.get?_push_size _ rfl
  · have e:b=(s.heap.push { cls:=.type "range", data:=.fields #[.int lo t,.int hi u,.int 1 v] }).objs.size:=by simpa using hb
    subst e
    exact I1.fpOk (Nat.le_refl _) (I1.hok.fresh (Nat.le_refl _))
def iRng1 (ta:TA):TI:=fun σ H R=>ta σ H fun vs H1=>∃ j:Int,vs=[.int j]∧-(2 ^ 62)≤j∧j < 2 ^ 62∧R (Itr 0 j.toNat) H1
def iRng2 (ta:TA):TI:=fun σ H R=>ta σ H fun vs H1=>∃ i j:Int,vs=[.int i,.int j]∧(-(2 ^ 62)≤i∧i < 2 ^ 62∧-(2 ^ 62)≤j∧j < 2 ^ 62)∧R (Itr i (j - i).toNat) H1
theorem pi_range1 {a:Expr} {ta:TA} {p pos:Pos} (hg:Gl X "range") (hm:X.mg "range" = none) (ha:PA X [a] ta) (hs:starEach [a] X.env=[(false,eval a X.env)]:=by rfl):PI X tg (.Call (.Name "range" p) [a] [] pos) (iRng1 ta):=by
  intro pins s σ H R I h
  refine Call_ (ld_blt I hg hm boot_range (PyProof.Rows.callWith_type1 (thn (ha pos pins s σ H _ I h) fun us s1 ⟨vs,H1,I1,r1,q1⟩=>?_) hs rfl))
  obtain ⟨j,e,q1,q2,q⟩:=q1
  subst e
  cases r1 with
  | cons r rr=>
    cases rr
    obtain ⟨t,rfl⟩:=r
    exact call_range_1 (range_it I1 (by omega) (by omega) q1 q2 (by simpa using q))
theorem pi_range2 {a b:Expr} {ta:TA} {p pos:Pos} (hg:Gl X "range") (hm:X.mg "range" = none) (ha:PA X [a,b] ta) (hs:starEach [a,b] X.env=[(false,eval a X.env),(false,eval b X.env)]:=by rfl) (hs2:starEach [b] X.env=[(false,eval b X.env)]:=by rfl) :
    PI X tg (.Call (.Name "range" p) [a,b] [] pos) (iRng2 ta):=by
  intro pins s σ H R I h
  refine Call_ (ld_blt I hg hm boot_range (PyProof.Rows.callWith_type1 (thn (ha pos pins s σ H _ I h) fun us s1 ⟨vs,H1,I1,r1,q1⟩=>?_) (by rw [hs,hs2]) (by rw [hs2];rfl)))
  obtain ⟨i,j,e,⟨q1,q2,q3,q4⟩,q⟩:=q1
  subst e
  cases r1 with
  | cons r rr=>
    cases rr with
    | cons r' rr=>
      cases rr
      obtain ⟨t,rfl⟩:=r
      obtain ⟨t',rfl⟩:=r'
      exact call_range_2 (range_it I1 q1 q2 q3 q4 q)
def tFor (wi:TI) (g:TG) (tb:TS):TS:=fun D σ H=>wi σ H fun J H1=>∃ W:Nat→Nat→St→Hp→Prop,(∃ m,W 0 m σ H1)∧∀ i m σ H,W i m σ H →
  (J.stop i H∧D.nx σ H)∨(J.go i H∧∃ N:St→Hp→Prop,(∀ σ' H',N σ' H'→∃ m',m' < m∧W (i+1) m' σ' H')∧∀ x H',J.yld i H x H'→g x σ H' fun σ2 H2=>tb { D with nx:=N,ct:=N,bk:=D.nx } σ2 H2)
def pinsAt (fp:List Addr) (h:Heap):List (Addr × Obj):=fp.filterMap fun b=>(h.get? b).map fun o=>(b,o)
theorem mem_pinsAt {fp:List Addr} {h:Heap} {b:Addr} {o:Obj} (hb:b∈fp) (e:h.get? b=some o):(b,o)∈pinsAt fp h:=List.mem_filterMap.mpr ⟨b,hb,by rw [e];rfl⟩
theorem of_pinsAt {fp:List Addr} {h:Heap} {p:Addr × Obj} (hp:p∈pinsAt fp h):p.1∈fp∧h.get? p.1=some p.2:=by
  obtain ⟨b,hb,e⟩:=List.mem_filterMap.mp hp
  cases q:h.get? b with
  | none=>rw [q] at e;cases e
  | some o=>
    rw [q] at e
    have e':(b,o)=p:=Option.some.inj e
    subst e'
    exact ⟨hb,q⟩
theorem Inv.pinned {pins:List (Addr × Obj)} {σ:St} {H:Hp} {s:Shared} {fp:List Addr} (I:Inv X pins σ H s) (hf:∀ b∈fp,FpOk X pins H b) (ho:∀ b∈fp,∃ o,s.heap.get? b=some o∧∀ v,o.data≠.cell v):Inv X (pins++pinsAt fp s.heap) σ H s:=
  I.pins_of fun p hp=>(List.mem_append.mp hp).elim (fun z=>I.pin p (List.mem_append_right _ z)) fun z=>by
    obtain ⟨hb,e⟩:=of_pinsAt z
    obtain ⟨f0,f1,f2,_⟩:=hf p.1 hb
    obtain ⟨o,e',d⟩:=ho p.1 hb
    rw [e] at e';cases e'
    exact ⟨e,f0,f1,f2,d⟩
theorem Inv.unpinned {pins pl:List (Addr × Obj)} {σ:St} {H:Hp} {s:Shared} (I:Inv X (pins++pl) σ H s):Inv X pins σ H s:=I.pins_of fun p hp=>I.pin p (List.mem_append_right _ (List.mem_append_left _ hp))
theorem ps_for {iter:Expr} {body:List Stmt} {wi:TI} {g:TG} {tb:TS} {pos:Pos} (hp:PassesOwn (model X.prog X.w) X.A X.env X.xe) (hc:X.calm=true) (hi:PI X tg iter wi) (hg:PG X tg g) (hb:PSs X body tb)
    (hs:∀ x,foldedSetIterable iter X.env x=pure x:=by intro _;rfl):PS X (.For tg iter body [] pos) (tFor wi g tb):=by
  intro pins s σ H D I h
  refine wpAny_For (thn (hi pins s σ H _ I h) fun v s1 h1=>thn h1 fun itv s2 h2=>?_) hs
  obtain ⟨it,fp,tn,J,H2,e,I2,T,st2,f2,W,⟨m0,w0⟩,turn⟩:=h2
  subst e
  have stat:∀ {H':Hp},(∀ b∈fp,H' b=none)→∀ b∈fp,FpOk X pins H' b:=fun hn b hb=>⟨hn b hb,(f2 b hb).2⟩
  refine codeAny_forLoop_any (fun n s'=>∃ i σ' H',Inv X pins σ' H' s'∧tn i s'.heap∧(∀ b∈fp,H' b=none)∧W i n σ' H') ?_ m0 ⟨0,σ,H2,I2,st2,fun b hb=>(f2 b hb).1,w0⟩
  rintro n s3 ⟨i,σ3,H3,I3,st3,fr3,w3⟩
  rcases turn i n σ3 H3 w3 with ⟨stop,qn⟩ | ⟨go,N,hN,step⟩
  · refine wpAny_passesOwn hp (thn (T.done X rfl rfl rfl hc i pins s3 σ3 H3 X.xe I3 (stat fr3) st3 stop) fun r s4 ⟨hr,I4⟩=>?_)
    subst hr
    exact wpAny_execs_nil ⟨σ3,H3,I4,qn⟩
  · refine wpAny_passesOwn hp (thn (T.item X rfl rfl rfl hc i pins s3 σ3 H3 X.xe I3 (stat fr3) st3 go) fun r s4 ⟨u,hr,h4⟩=>?_)
    subst hr
    refine wpAny_passesOwn hp (thn h4 fun _ s5 ⟨x,H5,I5,r5,y5,st5,fr5⟩=>?_)
    have I5':=I5.pinned (stat fr5) (T.obj _ _ st5)
    refine wpAny_passesOwn hp (thn (hg _ s5 σ3 H5 x u _ I5' r5 (step x H5 y5)) fun _ s6 ⟨σ6,H6,I6,q6⟩=>?_)
    refine wpAny_passesOwn hp (thn (hb _ s6 σ6 H6 _ I6 q6) fun f s7 q7=>?_)
    have again:∀ {σ7:St} {H7:Hp},Inv X (pins++pinsAt fp s5.heap) σ7 H7 s7→N σ7 H7→∃ m,m < n∧∃ i σ' H',Inv X pins σ' H' s7∧tn i s7.heap∧(∀ b∈fp,H' b=none)∧W i m σ' H':=fun {σ7 H7} I7 n7=>by
      obtain ⟨m',hm,w7⟩:=hN σ7 H7 n7
      refine ⟨m',hm,i+1,σ7,H7,I7.unpinned,T.keep _ _ _ st5 fun b hb o e=>(I7.pin (b,o) (List.mem_append_right _ (List.mem_append_right _ (mem_pinsAt hb e)))).1,fun b hb=>?_,w7⟩
      obtain ⟨o,e,d⟩:=T.obj _ _ st5 b hb
      exact (I7.pin (b,o) (List.mem_append_right _ (List.mem_append_right _ (mem_pinsAt hb e)))).2.1
    cases f with
    | next=>obtain ⟨σ7,H7,I7,n7⟩:=q7;exact again I7 n7
    | cont=>obtain ⟨σ7,H7,I7,n7⟩:=q7;exact again I7 n7
    | brk=>obtain ⟨σ7,H7,I7,q7⟩:=q7;exact ⟨σ7,H7,I7.unpinned,q7⟩
    | ret v=>obtain ⟨x7,σ7,H7,I7,r7,q7⟩:=q7;exact ⟨x7,σ7,H7,I7.unpinned,r7,q7⟩
end
theorem for_list {K:PySem.W.Frag} {a:Addr} {xs:List V} {g:TG} {tb:TS} {D:Ends} {σ:St} {H:Hp} (Pv:Nat→St→Hp→Prop) (h0:Pv 0 σ H) (hl:∀ i σ H,i≤xs.length→Pv i σ H→SqL K H a xs)
    (hs:∀ i x σ H,xs[i]?=some x→Pv i σ H→g x σ H fun σ2 H2=>tb { D with nx:=Pv (i+1),ct:=Pv (i+1),bk:=D.nx } σ2 H2) (hd:∀ σ H,Pv xs.length σ H→D.nx σ H) :
    ∃ W:Nat→Nat→St→Hp→Prop,(∃ m,W 0 m σ H)∧∀ i m σ H,W i m σ H →
      ((Itl K a).stop i H∧D.nx σ H)∨((Itl K a).go i H∧∃ N:St→Hp→Prop,(∀ σ' H',N σ' H'→∃ m',m' < m∧W (i+1) m' σ' H')∧∀ x H',(Itl K a).yld i H x H'→g x σ H' fun σ2 H2=>tb { D with nx:=N,ct:=N,bk:=D.nx } σ2 H2):=by
  refine ⟨fun i m σ H=>m=xs.length - i∧i≤xs.length∧Pv i σ H,⟨xs.length,by simp,Nat.zero_le _,h0⟩,?_⟩
  rintro i m σ H ⟨rfl,hi,p⟩
  have q:=hl i σ H hi p
  by_cases hlt:i < xs.length
  · refine .inr ⟨⟨xs,xs[i],q,by simp [hlt]⟩,Pv (i+1),fun σ' H' p'=>⟨xs.length - (i+1),by omega,rfl,hlt,p'⟩,fun x H' y=>?_⟩
    obtain ⟨e,y⟩:=y
    subst e
    exact hs i x σ _ (y xs q) p
  · have e:i=xs.length:=by omega
    subst e
    exact .inl ⟨⟨xs,q,Nat.le_refl _⟩,hd σ H p⟩
theorem for_range {lo:Int} {n:Nat} {g:TG} {tb:TS} {D:Ends} {σ:St} {H:Hp} (Pv:Nat→St→Hp→Prop) (h0:Pv 0 σ H)
    (hs:∀ i σ H,i < n→Pv i σ H→g (.int (lo+i)) σ H fun σ2 H2=>tb { D with nx:=Pv (i+1),ct:=Pv (i+1),bk:=D.nx } σ2 H2) (hd:∀ σ H,Pv n σ H→D.nx σ H) :
    ∃ W:Nat→Nat→St→Hp→Prop,(∃ m,W 0 m σ H)∧∀ i m σ H,W i m σ H →
      ((Itr lo n).stop i H∧D.nx σ H)∨((Itr lo n).go i H∧∃ N:St→Hp→Prop,(∀ σ' H',N σ' H'→∃ m',m' < m∧W (i+1) m' σ' H')∧∀ x H',(Itr lo n).yld i H x H'→g x σ H' fun σ2 H2=>tb { D with nx:=N,ct:=N,bk:=D.nx } σ2 H2):=by
  refine ⟨fun i m σ H=>m=n - i∧i≤n∧Pv i σ H,⟨n,by simp,Nat.zero_le _,h0⟩,?_⟩
  rintro i m σ H ⟨rfl,hi,p⟩
  by_cases hlt:i < n
  · refine .inr ⟨hlt,Pv (i+1),fun σ' H' p'=>⟨n - (i+1),by omega,rfl,hlt,p'⟩,fun x H' y=>?_⟩
    obtain ⟨e,y⟩:=y
    subst e y
    exact hs i σ _ hlt p
  · have e:i=n:=by omega
    subst e
    exact .inl ⟨Nat.le_refl _,hd σ H p⟩
end L2
namespace L2
open PySem PySem.Spec PyProof.Rows
abbrev R2:=V→V→Hp→VK→Prop
def OpR (X:Cx) (f:Value→Value→Sem Value) (r:R2):Prop:=
  ∀ (pins:List (Addr × Obj)) (s:Shared) (σ:St) (H:Hp) (x y:V) (v u:Value) (Q:VK),Inv X pins σ H s→RelV x v→RelV y u→r x y H Q →
    wpAny (model X.prog X.w) X.A (f v u) (EP X pins σ Q) X.xe s
def UnR (X:Cx) (f:Value→Sem Value) (r:V→Hp→VK→Prop):Prop:=
  ∀ (pins:List (Addr × Obj)) (s:Shared) (σ:St) (H:Hp) (x:V) (v:Value) (Q:VK),Inv X pins σ H s→RelV x v→r x H Q →
    wpAny (model X.prog X.w) X.A (f v) (EP X pins σ Q) X.xe s
def CallR (X:Cx) (f:Value) (r:List V→Hp→VK→Prop):Prop:=
  ∀ (pins:List (Addr × Obj)) (s:Shared) (σ:St) (H:Hp) (xs:List V) (us:List Value) (Q:VK),Inv X pins σ H s→Vals xs us→r xs H Q →
    wpAny (model X.prog X.w) X.A (call f us) (EP X pins σ Q) X.xe s
def tOp (r:R2) (ta tb:TE):TE:=fun σ H Q=>ta σ H fun x H1=>tb σ H1 fun y H2=>r x y H2 Q
def tUn (r:V→Hp→VK→Prop) (ta:TE):TE:=fun σ H Q=>ta σ H fun x H1=>r x H1 Q
def rI (C:Int→Int→Prop) (g:Int→Int→V):R2:=fun x y H Q=>∃ i j,x=.int i∧y=.int j∧C i j∧Q (g i j) H
def rI0 (g:Int→Int→V):R2:=fun x y H Q=>∃ i j,x=.int i∧y=.int j∧Q (g i j) H
def rU (g:Int→V):V→Hp→VK→Prop:=fun x H Q=>∃ i,x=.int i∧Q (g i) H
section
variable {X:Cx} {a b c:Expr} {ta tb tc:TE} {pos:Pos}
theorem binT (ha:PE X a ta) (hb:PE X b tb) {pins:List (Addr × Obj)} {s:Shared} {σ:St} {H:Hp} {R:V→V→Hp→Prop} (I:Inv X pins σ H s)
    (h:ta σ H fun x H1=>tb σ H1 fun y H2=>R x y H2) {Q:Value→Shared→Prop} {f:Value→Value→Sem Value}
    (hf:∀ v u s2 x y H2,Inv X pins σ H2 s2→RelV x v→RelV y u→R x y H2→wpAny (model X.prog X.w) X.A (f v u) Q X.xe s2) :
    wpAny (model X.prog X.w) X.A (eval a X.env) (fun v s₁=>wpAny (model X.prog X.w) X.A (eval b X.env) (fun u s₂=>wpAny (model X.prog X.w) X.A (f v u) Q X.xe s₂) X.xe s₁) X.xe s:=by
  refine thn (ha pins s σ H _ I h) fun v s1 ⟨x,H1,I1,r1,q1⟩=>?_
  refine thn (hb pins s1 σ H1 _ I1 q1) fun u s2 ⟨y,H2,I2,r2,q2⟩=>?_
  exact hf v u s2 x y H2 I2 r1 r2 q2
theorem pe_op {op:Operator} {r:R2} (ho:OpR X (binaryOp op) r) (ha:PE X a ta) (hb:PE X b tb):PE X (.BinOp a op b pos) (tOp r ta tb):=by
  intro pins s σ H Q I h
  exact wpAny_BinOp (binT ha hb I h fun v u s2 x y H2 I2 rx ry q=>ho pins s2 σ H2 x y v u Q I2 rx ry q)
theorem pe_un {op:UnaryOp} {r:V→Hp→VK→Prop} (ho:UnR X (unaryOp op) r) (ha:PE X a ta):PE X (.UnaryOp op a pos) (tUn r ta):=by
  intro pins s σ H Q I h
  exact UnaryOp_ (thn (ha pins s σ H _ I h) fun v s1 ⟨x,H1,I1,r1,q1⟩=>ho pins s1 σ H1 x v Q I1 r1 q1)
theorem opI {f:Value→Value→Sem Value} {C:Int→Int→Prop} {g:Int→Int→Int}
    (rule:∀ (i j:Int) (t u:Tok) (s:Shared) (Q:Value→Shared→Prop) (E:Value→Shared→Prop),C i j→Q (.int (g i j) s.toks) { s with toks:=s.toks+1 }→wpAny (model X.prog X.w) X.A (f (.int i t) (.int j u)) Q E s) :
    OpR X f (rI C fun i j=>.int (g i j)):=by
  intro pins s σ H x y v u Q I rx ry h
  obtain ⟨i,j,rfl,rfl,hc,q⟩:=h
  obtain ⟨t,rfl⟩:=rx
  obtain ⟨t',rfl⟩:=ry
  exact rule i j t t' s _ _ hc ⟨.int (g i j),H,I.tok _,⟨_,rfl⟩,q⟩
theorem opI0 {f:Value→Value→Sem Value} {g:Int→Int→Int}
    (rule:∀ (i j:Int) (t u:Tok) (s:Shared) (Q:Value→Shared→Prop) (E:Value→Shared→Prop),Q (.int (g i j) s.toks) { s with toks:=s.toks+1 }→wpAny (model X.prog X.w) X.A (f (.int i t) (.int j u)) Q E s) :
    OpR X f (rI0 fun i j=>.int (g i j)):=by
  intro pins s σ H x y v u Q I rx ry h
  obtain ⟨i,j,rfl,rfl,q⟩:=h
  obtain ⟨t,rfl⟩:=rx
  obtain ⟨t',rfl⟩:=ry
  exact rule i j t t' s _ _ ⟨.int (g i j),H,I.tok _,⟨_,rfl⟩,q⟩
theorem opB0 {f:Value→Value→Sem Value} {g:Int→Int→Bool}
    (rule:∀ (i j:Int) (t u:Tok) (s:Shared) (Q:Value→Shared→Prop) (E:Value→Shared→Prop),Q (.bool (g i j)) s→wpAny (model X.prog X.w) X.A (f (.int i t) (.int j u)) Q E s) :
    OpR X f (rI0 fun i j=>.bl (g i j)):=by
  intro pins s σ H x y v u Q I rx ry h
  obtain ⟨i,j,rfl,rfl,q⟩:=h
  obtain ⟨t,rfl⟩:=rx
  obtain ⟨t',rfl⟩:=ry
  exact rule i j t t' s _ _ ⟨.bl (g i j),H,I,rfl,q⟩
def CDiv (i j:Int):Prop:=0 < j∧j < 1073741824
def CPow (i j:Int):Prop:=0≤j∧j≤1000000∧i.natAbs < 2 ^ 64
def CMul (i j:Int):Prop:=(-(2 ^ 64) < i∧i < 2 ^ 64)∨(-(2 ^ 64) < j∧j < 2 ^ 64)
theorem CMul.ok {i j:Int} (h:CMul i j):IntMulOk i j:=by
  rcases h with ⟨h1,h2⟩ | ⟨h1,h2⟩
  · exact .of_left (intBits_le_64 h1 h2)
  · exact .of_right (intBits_le_64 h1 h2)
theorem op_add:OpR X (binaryOp .Add) (rI0 fun i j=>.int (i+j)):=opI0 fun _ _ _ _ _ _ _ q=>add_int q
theorem op_sub:OpR X (binaryOp .Sub) (rI0 fun i j=>.int (i - j)):=opI0 fun _ _ _ _ _ _ _ q=>sub_int q
theorem op_mul:OpR X (binaryOp .Mult) (rI CMul fun i j=>.int (i * j)):=opI fun _ _ _ _ _ _ _ hc q=>mul_int q hc.ok
theorem op_fdiv:OpR X (binaryOp .FloorDiv) (rI CDiv fun i j=>.int (i / j)):=opI fun i j _ _ _ _ _ hc q=>by
  have h1:(0:Int) < j:=hc.1
  have h2:j < 1073741824:=hc.2
  exact floordiv_int (by omega) (by rw [Int.fdiv_eq_ediv_of_nonneg i (by omega)];exact q) (.inl (PyProof.noPylong_small (by omega)))
theorem op_mod:OpR X (binaryOp .Mod) (rI (fun _ j=>0 < j) fun i j=>.int (i % j)):=opI fun i j _ _ _ _ _ hc q=>by
  have h1:(0:Int) < j:=hc
  exact mod_int' (by omega) (by rw [Int.fmod_eq_emod_of_nonneg i (by omega)];exact q)
theorem op_pow:OpR X (binaryOp .Pow) (rI CPow fun i j=>.int (i ^ j.toNat)):=opI fun _ _ _ _ _ _ _ hc q=>pow_int_small hc.1 hc.2.1 hc.2.2 q
theorem unI {f:Value→Sem Value} {g:Int→Int}
    (rule:∀ (i:Int) (t:Tok) (s:Shared) (Q:Value→Shared→Prop) (E:Value→Shared→Prop),Q (.int (g i) s.toks) { s with toks:=s.toks+1 }→wpAny (model X.prog X.w) X.A (f (.int i t)) Q E s) :
    UnR X f (rU fun i=>.int (g i)):=by
  intro pins s σ H x v Q I rx h
  obtain ⟨i,rfl,q⟩:=h
  obtain ⟨t,rfl⟩:=rx
  exact rule i t s _ _ ⟨.int (g i),H,I.tok _,⟨_,rfl⟩,q⟩
theorem un_neg:UnR X (unaryOp .USub) (rU fun i=>.int (-i)):=unI fun _ _ _ _ _ q=>neg_int q
end
def scal:V→V→Bool
  | .non,.non=>true | .non,.int _=>true | .int _,.non=>true | .non,.bl _=>true | .bl _,.non=>true | .non,.str _=>true | .str _,.non=>true
  | .int _,.int _=>true | .bl _,.bl _=>true | .str _,.str _=>true | .byt _,.byt _=>true
  | .int _,.str _=>true | .str _,.int _=>true | .bl _,.str _=>true | .str _,.bl _=>true
  | _,_=>false
def rEq:R2:=fun x y H Q=>scal x y=true∧Q (.bl (decide (x=y))) H
def rNe:R2:=fun x y H Q=>scal x y=true∧Q (.bl (!decide (x=y))) H
theorem dec_int {i j:Int}:decide (V.int i=V.int j)=(i == j):=by
  rw [Bool.eq_iff_iff]
  simp
theorem dec_bl {i j:Bool}:decide (V.bl i=V.bl j)=(i == j):=by
  rw [Bool.eq_iff_iff]
  simp
theorem dec_str {i j:Str}:decide (V.str i=V.str j)=(i == j):=by
  rw [Bool.eq_iff_iff]
  simp
theorem dec_byt {i j:Array UInt8}:decide (V.byt i=V.byt j)=(i.toList == j.toList):=by
  rw [Bool.eq_iff_iff]
  cases i
  cases j
  simp
section
variable {X:Cx} {a b c:Expr} {ta tb tc:TE} {pos:Pos}
theorem fin_bl {pins:List (Addr × Obj)} {σ:St} {H:Hp} {s:Shared} {Q:VK} {k k':Bool} (I:Inv X pins σ H s) (q:Q (.bl k) H) (e:k=k'):EP X pins σ Q (.bool k') s:=by
  subst e
  exact ⟨.bl k,H,I,rfl,q⟩
theorem op_eq:OpR X (compareOp .Eq) rEq:=by
  intro pins s σ H x y v u Q I rx ry h
  obtain ⟨hs,q⟩:=h
  cases x with
  | non=>
    cases rx
    cases y with
    | non=>cases ry;exact PySem.EqNone.eq_none_none (fin_bl I q (by simp))
    | bl j=>cases ry;exact PySem.EqNone.eq_none_bool (fin_bl I q (by simp))
    | int j=>obtain ⟨t',rfl⟩:=ry;exact PySem.EqNone.eq_none_int (fin_bl I q (by simp))
    | str j=>obtain ⟨t',rfl⟩:=ry;exact PySem.EqNone.eq_none_str (fin_bl I q (by simp))
    | _=>exact absurd (show false=true from hs) Bool.false_ne_true
  | bl i=>
    cases rx
    cases y with
    | non=>cases ry;exact PySem.EqNone.eq_bool_none (fin_bl I q (by simp))
    | bl j=>cases ry;exact eq_bool (fin_bl I q dec_bl)
    | str j=>obtain ⟨t',rfl⟩:=ry;exact PySem.EqMixed.eq_bool_str (fin_bl I q (by simp))
    | _=>exact absurd (show false=true from hs) Bool.false_ne_true
  | int i=>
    obtain ⟨t,rfl⟩:=rx
    cases y with
    | non=>cases ry;exact PySem.EqNone.eq_int_none (fin_bl I q (by simp))
    | int j=>obtain ⟨t',rfl⟩:=ry;exact eq_int (fin_bl I q dec_int)
    | str j=>obtain ⟨t',rfl⟩:=ry;exact PySem.EqMixed.eq_int_str (fin_bl I q (by simp))
    | _=>exact absurd (show false=true from hs) Bool.false_ne_true
  | str i=>
    obtain ⟨t,rfl⟩:=rx
    cases y with
    | non=>cases ry;exact PySem.EqNone.eq_str_none (fin_bl I q (by simp))
    | bl j=>cases ry;exact PySem.EqMixed.eq_str_bool (fin_bl I q (by simp))
    | int j=>obtain ⟨t',rfl⟩:=ry;exact PySem.EqMixed.eq_str_int (fin_bl I q (by simp))
    | str j=>obtain ⟨t',rfl⟩:=ry;exact eq_str (fin_bl I q dec_str)
    | _=>exact absurd (show false=true from hs) Bool.false_ne_true
  | byt i=>
    obtain ⟨t,rfl⟩:=rx
    cases y with
    | byt j=>obtain ⟨t',rfl⟩:=ry;exact PySem.W.eq_bytes (fin_bl I q dec_byt)
    | _=>exact absurd (show false=true from hs) Bool.false_ne_true
  | _=>cases y <;> exact absurd (show false=true from hs) Bool.false_ne_true
theorem op_ne:OpR X (compareOp .NotEq) rNe:=by
  intro pins s σ H x y v u Q I rx ry h
  obtain ⟨hs,q⟩:=h
  cases x with
  | non=>
    cases rx
    cases y with
    | non=>cases ry;exact PySem.EqNone.ne_none_none (fin_bl I q (by simp))
    | bl j=>cases ry;exact PySem.EqNone.ne_none_bool (fin_bl I q (by simp))
    | int j=>obtain ⟨t',rfl⟩:=ry;exact PySem.EqNone.ne_none_int (fin_bl I q (by simp))
    | str j=>obtain ⟨t',rfl⟩:=ry;exact PySem.EqNone.ne_none_str (fin_bl I q (by simp))
    | _=>exact absurd (show false=true from hs) Bool.false_ne_true
  | bl i=>
    cases rx
    cases y with
    | non=>cases ry;exact PySem.EqNone.ne_bool_none (fin_bl I q (by simp))
    | bl j=>cases ry;exact ne_bool (fin_bl I q (congrArg not dec_bl))
    | str j=>obtain ⟨t',rfl⟩:=ry;exact PySem.EqMixed.ne_bool_str (fin_bl I q (by simp))
    | _=>exact absurd (show false=true from hs) Bool.false_ne_true
  | int i=>
    obtain ⟨t,rfl⟩:=rx
    cases y with
    | non=>cases ry;exact PySem.EqNone.ne_int_none (fin_bl I q (by simp))
    | int j=>obtain ⟨t',rfl⟩:=ry;exact ne_int (fin_bl I q (congrArg not dec_int))
    | str j=>obtain ⟨t',rfl⟩:=ry;exact PySem.EqMixed.ne_int_str (fin_bl I q (by simp))
    | _=>exact absurd (show false=true from hs) Bool.false_ne_true
  | str i=>
    obtain ⟨t,rfl⟩:=rx
    cases y with
    | non=>cases ry;exact PySem.EqNone.ne_str_none (fin_bl I q (by simp))
    | bl j=>cases ry;exact PySem.EqMixed.ne_str_bool (fin_bl I q (by simp))
    | int j=>obtain ⟨t',rfl⟩:=ry;exact PySem.EqMixed.ne_str_int (fin_bl I q (by simp))
    | str j=>obtain ⟨t',rfl⟩:=ry;exact ne_str (fin_bl I q (congrArg not dec_str))
    | _=>exact absurd (show false=true from hs) Bool.false_ne_true
  | byt i=>
    obtain ⟨t,rfl⟩:=rx
    cases y with
    | byt j=>obtain ⟨t',rfl⟩:=ry;exact PySem.W.ne_bytes (fin_bl I q (congrArg not dec_byt))
    | _=>exact absurd (show false=true from hs) Bool.false_ne_true
  | _=>cases y <;> exact absurd (show false=true from hs) Bool.false_ne_true
theorem op_lt:OpR X (compareOp .Lt) (rI0 fun i j=>.bl (decide (i < j))):=opB0 fun _ _ _ _ _ _ _ q=>lt_int q
theorem op_le:OpR X (compareOp .LtE) (rI0 fun i j=>.bl (decide (i≤j))):=opB0 fun _ _ _ _ _ _ _ q=>le_int q
theorem op_gt:OpR X (compareOp .Gt) (rI0 fun i j=>.bl (decide (j < i))):=opB0 fun _ _ _ _ _ _ _ q=>gt_int q
theorem op_in_str:OpR X (compareOp .In) (fun x y H Q=>∃ i j,x=.str i∧y=.str j∧Q (.bl (!(Builtin.Str.occurrences j i 0 j.length 1).isEmpty)) H):=by
  intro pins s σ H x y v u Q I rx ry h
  obtain ⟨i,j,rfl,rfl,q⟩:=h
  obtain ⟨t,rfl⟩:=rx
  obtain ⟨t',rfl⟩:=ry
  exact in_str (fin_bl I q rfl)
theorem op_notin_str:OpR X (compareOp .NotIn) (fun x y H Q=>∃ i j,x=.str i∧y=.str j∧Q (.bl (!(!(Builtin.Str.occurrences j i 0 j.length 1).isEmpty))) H):=by
  intro pins s σ H x y v u Q I rx ry h
  obtain ⟨i,j,rfl,rfl,q⟩:=h
  obtain ⟨t,rfl⟩:=rx
  obtain ⟨t',rfl⟩:=ry
  exact notIn_str (fin_bl I q rfl)
theorem OpR.or {f:Value→Value→Sem Value} {r r':R2} (h:OpR X f r) (h':OpR X f r'):OpR X f (fun x y H Q=>r x y H Q∨r' x y H Q):=by
  intro pins s σ H x y v u Q I rx ry q
  rcases q with q | q
  · exact h pins s σ H x y v u Q I rx ry q
  · exact h' pins s σ H x y v u Q I rx ry q
theorem nomark (b:Expr) {op:CmpOp} (h:op≠.In:=by decide) (h2:op≠.NotIn:=by decide):behindInMarks op b=false:=by
  have e1:(op == CmpOp.In)=false:=by cases op <;> first | rfl | exact absurd rfl h
  have e2:(op == CmpOp.NotIn)=false:=by cases op <;> first | rfl | exact absurd rfl h2
  cases b <;> simp [behindInMarks,e1,e2]
theorem pe_cmpR {op:CmpOp} {r:R2} (ho:OpR X (compareOp op) r) (ha:PE X a ta) (hb:PE X b tb) (hm:behindInMarks op b=false):PE X (.Compare a [op] [b] pos) (tOp r ta tb):=by
  intro pins s σ H Q I h
  exact wpAny_Compare1 (binT ha hb I h fun v u s2 x y H2 I2 rx ry q=>ho pins s2 σ H2 x y v u Q I2 rx ry q) hm
def tTest (t:TE):TT:=fun σ H Q=>t σ H fun x H'=>∃ k,x=.bl k∧Q k H'
theorem pt_cmpR {op:CmpOp} {r:R2} (ho:OpR X (compareOp op) r) (ha:PE X a ta) (hb:PE X b tb) (hm:behindInMarks op b=false):PT X (.Compare a [op] [b] pos) (tTest (tOp r ta tb)):=by
  intro pins s σ H Q I h
  refine wpAny_isTrue_Compare1 (thn (ha pins s σ H _ I h) fun v s1 ⟨x,H1,I1,r1,q1⟩=>thn (hb pins s1 σ H1 _ I1 q1) fun u s2 ⟨y,H2,I2,r2,q2⟩=>
    thn (ho pins s2 σ H2 x y v u _ I2 r1 r2 q2) fun c s3 ⟨z,H3,I3,r3,k,e,q3⟩=>?_) hm
  subst e
  cases r3
  exact wpAny_truthy_bool ⟨H3,I3,q3⟩
def tChain (r r':R2) (ta tb tc:TE):TE:=fun σ H Q=>ta σ H fun x H1=>tb σ H1 fun y H2=>r x y H2 fun z H3=>∃ k,z=.bl k ∧
  (if k=true then tc σ H3 fun w' H4=>r' y w' H4 Q else Q (.bl false) H3)
theorem pe_chain {op op':CmpOp} {r r':R2} (ho:OpR X (compareOp op) r) (ho':OpR X (compareOp op') r') (ha:PE X a ta) (hb:PE X b tb) (hc:PE X c tc)
    (hm:lastMarks [op,op'] [b,c]=false:=by with_unfolding_all rfl):PE X (.Compare a [op,op'] [b,c] pos) (tChain r r' ta tb tc):=by
  intro pins s σ H Q I h
  refine Compare_chain (thn (ha pins s σ H _ I h) fun v s1 ⟨x,H1,I1,r1,q1⟩=>chain_link (thn (hb pins s1 σ H1 _ I1 q1) fun u s2 ⟨y,H2,I2,r2,q2⟩=>
    thn (ho pins s2 σ H2 x y v u _ I2 r1 r2 q2) fun d s3 ⟨z,H3,I3,r3,k,e,q3⟩=>?_)) hm
  subst e
  cases r3
  refine wpAny_truthy_bool ?_
  cases k with
  | false=>exact ite_ff ⟨.bl false,H3,I3,rfl,q3⟩
  | true=>exact ite_tt (chain_last (thn (hc pins s3 σ H3 _ I3 q3) fun w' s4 ⟨z',H4,I4,r4,q4⟩=>ho' pins s4 σ H4 y z' u w' Q I4 r2 r4 q4))
theorem pt_chain {op op':CmpOp} {r r':R2} (ho:OpR X (compareOp op) r) (ho':OpR X (compareOp op') r') (ha:PE X a ta) (hb:PE X b tb) (hc:PE X c tc)
    (hm:lastMarks [op,op'] [b,c]=false:=by with_unfolding_all rfl):PT X (.Compare a [op,op'] [b,c] pos) (tTest (tChain r r' ta tb tc)):=by
  intro pins s σ H Q I h
  refine isTrue_chain (thn (ha pins s σ H _ I h) fun v s1 ⟨x,H1,I1,r1,q1⟩=>test_link (thn (hb pins s1 σ H1 _ I1 q1) fun u s2 ⟨y,H2,I2,r2,q2⟩=>
    thn (ho pins s2 σ H2 x y v u _ I2 r1 r2 q2) fun d s3 ⟨z,H3,I3,r3,k,e,q3⟩=>?_)) hm
  subst e
  cases r3
  refine wpAny_truthy_bool ?_
  cases k with
  | false=>
    obtain ⟨k',e',q'⟩:=q3
    cases e'
    exact ite_ff ⟨H3,I3,q'⟩
  | true=>
    refine ite_tt (test_last (thn (hc pins s3 σ H3 _ I3 q3) fun w' s4 ⟨z',H4,I4,r4,q4⟩=>thn (ho' pins s4 σ H4 y z' u w' _ I4 r2 r4 q4) fun d' s5 ⟨z2,H5,I5,r5,k2,e2,q5⟩=>?_))
    subst e2
    cases r5
    exact wpAny_truthy_bool ⟨H5,I5,q5⟩
theorem line63:(sizeLine:Nat) < 2 ^ 63:=by rw [sizeLine_eq];decide
theorem op_add_str:OpR X (binaryOp .Add) (fun x y H Q=>∃ i j,x=.str i∧y=.str j∧i.length+j.length≤sizeLine∧Q (.str (i++j)) H):=by
  intro pins s σ H x y v u Q I rx ry h
  obtain ⟨i,j,rfl,rfl,hz,q⟩:=h
  obtain ⟨t,rfl⟩:=rx
  obtain ⟨t',rfl⟩:=ry
  exact add_str (fun t' tk=>⟨.str (i++j),H,I.tok _,⟨_,rfl⟩,q⟩) hz
theorem vals1 {x:V} {us:List Value} (r:Vals [x] us):∃ u,us=[u]∧RelV x u:=by
  cases r with
  | cons r1 r2=>cases r2;exact ⟨_,rfl,r1⟩
theorem vals2 {x y:V} {us:List Value} (r:Vals [x,y] us):∃ u w',us=[u,w']∧RelV x u∧RelV y w':=by
  cases r with
  | cons r1 r2=>
    cases r2 with
    | cons r3 r4=>cases r4;exact ⟨_,_,rfl,r1,r3⟩
theorem call_max2 (hc:X.calm=true):CallR X (.builtin "max") (fun xs H Q=>∃ i j,xs=[.int i,.int j]∧Q (.int (if j > i then j else i)) H):=by
  intro pins s σ H xs us Q I r h
  obtain ⟨i,j,rfl,q⟩:=h
  obtain ⟨u,w',rfl,⟨t,rfl⟩,⟨t',rfl⟩⟩:=vals2 r
  refine max_two_ints (I.ok.hd hc) fun h' tk k=>⟨_,H,I.kept k,?_,q⟩
  by_cases hj:j > i
  · rw [if_pos hj,if_pos hj];exact ⟨_,rfl⟩
  · rw [if_neg hj,if_neg hj];exact ⟨_,rfl⟩
theorem call_min2 (hc:X.calm=true):CallR X (.builtin "min") (fun xs H Q=>∃ i j,xs=[.int i,.int j]∧Q (.int (if j < i then j else i)) H):=by
  intro pins s σ H xs us Q I r h
  obtain ⟨i,j,rfl,q⟩:=h
  obtain ⟨u,w',rfl,⟨t,rfl⟩,⟨t',rfl⟩⟩:=vals2 r
  refine min_two_ints (I.ok.hd hc) fun h' tk k=>⟨_,H,I.kept k,?_,q⟩
  by_cases hj:j < i
  · rw [if_pos hj,if_pos hj];exact ⟨_,rfl⟩
  · rw [if_neg hj,if_neg hj];exact ⟨_,rfl⟩
theorem call_int1:CallR X (.type "int") (fun xs H Q=>(∃ i,xs=[.int i]∧Q (.int i) H)∨∃ k,xs=[.bl k]∧Q (.int (if k then 1 else 0)) H):=by
  intro pins s σ H xs us Q I r h
  rcases h with ⟨i,rfl,q⟩ | ⟨k,rfl,q⟩
  · obtain ⟨u,rfl,t,rfl⟩:=vals1 r
    exact call_int_int ⟨.int i,H,I,⟨_,rfl⟩,q⟩
  · obtain ⟨u,rfl,r1⟩:=vals1 r
    cases r1
    exact call_int_bool ⟨.int (if k then 1 else 0),H,I.tok _,⟨_,rfl⟩,q⟩
theorem call_str_int:CallR X (.type "str") (fun xs H Q=>∃ i,xs=[.int i]∧i.natAbs.log2 < 1920∧Q (.str (toString i)) H):=by
  intro pins s σ H xs us Q I r h
  obtain ⟨i,rfl,hz,q⟩:=h
  obtain ⟨u,rfl,t,rfl⟩:=vals1 r
  exact PySem.P.str_of_int hz ⟨.str _,H,I.tok _,⟨_,rfl⟩,q⟩
end
end L2
namespace L2
open PySem PySem.Spec PyProof.Rows
structure ObjM (h:Heap) (x dx C:Addr) (mA:Str→Option Value):Prop where
  obj:h.get? x=some (PySem.W.instObj C dx)
  ns:h.Ns1 dx mA
  ne:dx≠x
theorem lookIn_ns {h:Heap} {dx:Addr} {mA:Str→Option Value} (n:h.Ns1 dx mA):∃ od,h.get? dx=some od∧∀ name,PySem.W.lookIn name od=some (mA name):=by
  obtain ⟨o,es,ep,ho,hd,hk,_,hm⟩:=n
  refine ⟨o,ho,fun name=>?_⟩
  have e:=hm name
  unfold nsFind findBy at e
  rw [← Array.find?_toList] at e
  unfold PySem.W.lookIn
  rw [hd]
  dsimp only
  split
  · rename_i y q
    rw [q] at e
    exact congrArg some e
  · rename_i q
    rw [q] at e
    have a:es.toList.any (·.refKey)=false:=by
      rw [List.any_eq_false]
      intro y hy
      obtain ⟨z,t,hkey⟩:=hk y (Array.mem_toList_iff.mp hy)
      simp [DictEntry.refKey,hkey]
    have a':¬ es.toList.any (·.refKey)=true:=by rw [a];exact Bool.false_ne_true
    rw [if_neg a']
    exact congrArg some e
theorem ObjM.look {h:Heap} {x dx C:Addr} {mA:Str→Option Value} (I:ObjM h x dx C mA):∃ od,PySem.W.InstAt h x (PySem.W.instObj C dx) C (some od)∧∀ name,PySem.W.lookIn name od=some (mA name):=
  let ⟨od,ho,hl⟩:=lookIn_ns I.ns
  ⟨od,⟨I.obj,rfl,rfl,ho⟩,hl⟩
section
variable {prog:Program} {w:World} {A:Around} {E:Value→Shared→Prop} {s:Shared} {K:PySem.W.Frag} {x dx C f:Addr} {mA:Str→Option Value} {name:Str} {v:Value}
end
section
variable {P:Program} {w:World} {H H':Hp} {h h':Heap} {a C dx:Addr} {fs fs':List (Str × V)}
theorem ins_get (hok:HOk P w H h) (e:H a=some (.ins C dx fs)):∃ mA,ObjM h a dx C mA∧(∀ f,RelO (fs.lookup f) (mA f))∧PySem.Within mA (fs.map (·.1))∧fs.length≤1000∧H dx=some (.own a):=by
  obtain ⟨d,z,ne,ob,mA,n,r,q⟩:=(show ObjOk P w H h a (.ins C dx fs) from hok a _ e)
  exact ⟨mA,⟨ob,n,ne⟩,r,q,z,d⟩
end
structure Cls (K:PySem.W.Frag) (C:Addr):Prop where
  pg:PySem.W.plainGet K C Str.empty=true
  hd:PySem.W.hasDictIn K C=true
  po:PySem.W.plainOver K C=true
  sa:PySem.W.findIn K (.ref C) "__setattr__" = some (some (.builtin "object.__setattr__"))
theorem Cls.get {K:PySem.W.Frag} {C:Addr} (c:Cls K C) (f:Str):PySem.W.plainGet K C f=true:=c.pg
structure Con (K:PySem.W.Frag) (C:Addr) (f:Str) (v:V) (u:Value):Prop where
  at_:PySem.W.findIn K (.ref C) f=some (some u)
  rel:RelV v u
  get:PySem.W.specialIn K u "__get__" = some none
  cp:PySem.W.copiedNames.contains f=false
structure Meth (K:PySem.W.Frag) (C:Addr) (m:Str) (f:Addr):Prop where
  at_:PySem.W.findIn K (.ref C) m=some (some (.ref f))
  fn:PySem.W.isFn K (.ref f)=true
  kp:PySem.W.keepIn K (.ref f)=true
section
variable {X:Cx} {pins:List (Addr × Obj)} {σ:St} {H:Hp} {s:Shared} {a C dx:Addr} {fs:List (Str × V)} {f:Str} {v:V} {A:Around} {E:Value→Shared→Prop}
theorem Inv.made (I:Inv X pins σ H s):Inv X pins σ (upd (upd H s.heap.objs.size (.own (s.heap.objs.size+1))) (s.heap.objs.size+1) (.ins C s.heap.objs.size []))
    { s with heap:=(s.heap.push PySem.W.emptyDict).push (PySem.W.instObj C s.heap.objs.size) }:=by
  have e1:(s.heap.push PySem.W.emptyDict).get? s.heap.objs.size=some PySem.W.emptyDict:=Heap.get?_push_size s.heap rfl
  have e2:((s.heap.push PySem.W.emptyDict).push (PySem.W.instObj C s.heap.objs.size)).get? (s.heap.objs.size+1)=some (PySem.W.instObj C s.heap.objs.size):=by
    have:=Heap.get?_push_size (s.heap.push PySem.W.emptyDict) (o:=PySem.W.instObj C s.heap.objs.size) rfl
    rwa [Heap.size_push] at this
  have e3:(s.heap.push PySem.W.emptyDict).Ns s.heap.objs.size (fun _=>none):=⟨PySem.W.emptyDict,#[],_,e1,rfl,(fun e he=>absurd he (by simp)),fun _=>rfl⟩
  have I1:=I.laid (a:=s.heap.objs.size) (o:=.own (s.heap.objs.size+1)) (h':=s.heap.push PySem.W.emptyDict) (t':=s.toks) (fun b u q=>Heap.get?_push_of_some _ q) (Nat.le_refl _) ⟨_,e1⟩
  refine I1.laid (a:=s.heap.objs.size+1) (o:=.ins C s.heap.objs.size []) (t':=s.toks) (fun b u q=>Heap.get?_push_of_some _ q) (Nat.le_of_eq (Heap.size_push _ _)) ?_
  have ne:s.heap.objs.size≠s.heap.objs.size+1:=Nat.ne_of_lt (Nat.lt_succ_self _)
  refine ⟨by rw [upd_ne ne,upd_same],Nat.zero_le _,ne,e2,fun _=>none,(Heap.Ns1.of_empty e3).at fun o q=>Heap.get?_push_of_some _ q,fun _=>True.intro,fun y hy=>absurd rfl hy⟩
end
section
variable {X:Cx} {o e value:Expr} {f:Str} {pos pos' tpos:Pos} {ta tv:TE}
end
section
variable {X:Cx} {pins:List (Addr × Obj)} {σ:St} {H:Hp} {s:Shared} {A:Around} {E:Value→Shared→Prop} {Q:Value→Shared→Prop} {c:Value} {b:Bool}
inductive TyOf (K:PySem.W.Frag) (H:Hp):V→Value→Prop where
  | non:TyOf K H .non (.type "NoneType")
  | bl (x:Bool):TyOf K H (.bl x) (.type "bool")
  | int (i:Int):TyOf K H (.int i) (.type "int")
  | str (x:Str):TyOf K H (.str x) (.type "str")
  | flt (x:UInt64):TyOf K H (.flt x) (.type "float")
  | lst {a:Addr} {xs:List V} (e:H a=some (.lst xs)):TyOf K H (.ref a) (.type "list")
  | frz {a:Addr} {o:Obj} {xs:List V} (e:H a=some (.frz o (.lst xs))):TyOf K H (.ref a) (.type "list")
  | tup {a:Addr} {xs:List V} (e:H a=some (.tup xs)):TyOf K H (.ref a) (.type "tuple")
  | dK {a:Addr} {kvs:List (Key × V)} (e:H a=some (.dK kvs)):TyOf K H (.ref a) (.type "dict")
  | dT {a:Addr} {kvs:List (List Key × V)} (e:H a=some (.dT kvs)):TyOf K H (.ref a) (.type "dict")
  | ins {a C dx:Addr} {fs:List (Str × V)} (e:H a=some (.ins C dx fs)) (cl:Cls K C) (ha:PySem.W.findIn K (.ref C) "__class__" = some (some (.builtin "object.__class__")))
      (hn:PySem.W.specialIn K (.builtin "object.__class__") "__get__" = some (some (.builtin "getset_descriptor.__get__"))) (htk:PySem.W.takesIn K (.builtin "object.__class__")=some true)
      (hm:PySem.W.mroIn K C (.type "object")=some true):TyOf K H (.ref a) (.ref C)
theorem isinst_ok {x:V} {u t:Value} (I:Inv X pins σ H s) (rx:RelV x u) (ty:TyOf X.K H x t) (e:PySem.W.kitOne X.K t c=some b) (h:∀ tk,Q (.bool b) { s with toks:=tk }) :
    wpAny (model X.prog X.w) A (call (.builtin "isinstance") [u,c]) Q E s:=by
  cases ty with
  | non=>cases (show u=Value.none from rx);exact PySem.W.kia_one PySem.W.kitx_none I.kIn True.intro e (fun z=>nomatch z) h
  | bl y=>cases (show u=Value.bool y from rx);exact PySem.W.kia_one PySem.W.kitx_bool I.kIn True.intro e (fun z=>nomatch z) h
  | int i=>obtain ⟨t,q⟩:=(show ∃ t,u=Value.int i t from rx);cases q;exact PySem.W.kia_one PySem.W.kitx_int I.kIn True.intro e (fun z=>nomatch z) h
  | str y=>obtain ⟨t,q⟩:=(show ∃ t,u=Value.str y t from rx);cases q;exact PySem.W.kia_one PySem.W.kitx_str I.kIn True.intro e (fun z=>nomatch z) h
  | flt y=>obtain ⟨t,q⟩:=(show ∃ t,u=Value.float y t from rx);cases q;exact PySem.W.kia_one PySem.W.kitx_float I.kIn True.intro e (fun z=>nomatch z) h
  | @lst a xs ea=>
    cases (show u=Value.ref a from rx)
    obtain ⟨_,_,n,_,h1⟩:=(show ObjOk X.prog X.w H s.heap a (.lst xs) from I.hok a _ ea)
    exact PySem.W.kia_one PySem.W.kitx_list I.kIn ⟨_,h1,rfl⟩ e (fun z=>nomatch z) h
  | @frz a ob xs ea=>
    cases (show u=Value.ref a from rx)
    obtain ⟨_,_,_,n,_,h1⟩:=(show ObjOk X.prog X.w H s.heap a (.frz ob (.lst xs)) from I.hok a _ ea)
    exact PySem.W.kia_one PySem.W.kitx_list I.kIn ⟨_,h1,rfl⟩ e (fun z=>nomatch z) h
  | @tup a xs ea=>
    cases (show u=Value.ref a from rx)
    obtain ⟨_,_,_,p⟩:=(show ObjOk X.prog X.w H s.heap a (.tup xs) from I.hok a _ ea)
    obtain ⟨o,h1,h2,_⟩:=p
    exact PySem.W.kia_one PySem.W.kitx_tuple I.kIn ⟨o,h1,h2⟩ e (fun z=>nomatch z) h
  | @dK a kvs ea=>
    cases (show u=Value.ref a from rx)
    obtain ⟨_,_,vs,_,p⟩:=(show ObjOk X.prog X.w H s.heap a (.dK kvs) from I.hok a _ ea)
    obtain ⟨o,es,ep,h1,h2,_⟩:=p
    exact PySem.W.kia_one PySem.W.kitx_dict I.kIn ⟨o,h1,h2.1⟩ e (fun z=>nomatch z) h
  | @dT a kvs ea=>
    cases (show u=Value.ref a from rx)
    obtain ⟨_,_,xs,_,o,es,ep,h1,h2,_⟩:=(show ObjOk X.prog X.w H s.heap a (.dT kvs) from I.hok a _ ea)
    exact PySem.W.kia_one PySem.W.kitx_dict I.kIn ⟨o,h1,h2.1⟩ e (fun z=>nomatch z) h
  | @ins a C dx fs ea cl ha hn htk hm=>
    cases (show u=Value.ref a from rx)
    obtain ⟨mA,O,_⟩:=ins_get I.hok ea
    obtain ⟨od,J,_⟩:=O.look
    exact PySem.W.kia_one (PySem.W.kitx_own (cl.get _) cl.hd ha hn htk hm) I.kIn J e (fun z=>nomatch z) h
end
end L2
namespace L2
open PySem PySem.Spec PyProof.Rows
structure Room (k:Nat) (A:Around):Prop where
  hd:A.handled=none
  dp:A.depth+3 * k+5 < recursionLimit
  un:A.units+16 * k+200 < cLine
  gd:A.guards=some []
theorem Room.mono {j k:Nat} {A:Around} (r:Room k A) (h:j≤k):Room j A:=⟨r.hd,by have:=r.dp;omega,by have:=r.un;omega,by first | exact r.gd | (simpa [Around.under,Code.isGuard,guardIds] using r.gd)⟩
theorem Room.deeper {k:Nat} {A:Around} (r:Room (k+1) A) (env:Env):Room k (A.deeper env):=
  ⟨r.hd,by have:=r.dp;show A.depth+1+3 * k+5 < _;omega,by have:=r.un;show A.units+3+16 * k+200 < _;omega,by first | exact r.gd | (simpa [Around.under,Code.isGuard,guardIds] using r.gd)⟩
theorem Room.in1 {k:Nat} {A:Around} (r:Room (k+1) A):Room k A.in1:=
  ⟨r.hd,by have:=r.dp;show A.depth+3 * k+5 < _;omega,by have:=r.un;show A.units+1+16 * k+200 < _;omega,by first | exact r.gd | (simpa [Around.under,Code.isGuard,guardIds] using r.gd)⟩
theorem Room.depth {k:Nat} {A:Around} (r:Room k A):A.depth < recursionLimit:=by have:=r.dp;omega
theorem Room.units {k:Nat} {A:Around} (r:Room k A):A.units+64 < cLine:=by have:=r.un;omega
theorem Room.units0 {k:Nat} {A:Around} (r:Room k A):A.units < cLine:=by have:=r.un;omega
def tNil:TA:=fun _ H Q=>Q [] H
def tCons (ta:TE) (tr:TA):TA:=fun σ H Q=>ta σ H fun x H1=>tr σ H1 fun xs H2=>Q (x :: xs) H2
section
variable {X:Cx} {e:Expr} {es:List Expr} {te:TE} {t:TA} {pos:Pos}
theorem pa_nil:PA X [] tNil:=fun _ _ _ _ H Q I h=>Calls.spliced_nil ⟨[],H,I,.nil,h⟩
theorem pa_cons (ha:PE X e te) (hr:PA X es t) (hs:starEach (e :: es) X.env=(false,eval e X.env) :: starEach es X.env:=by rfl):PA X (e :: es) (tCons te t):=by
  intro pos pins s σ H Q I h
  rw [hs]
  show wpAny _ _ (spliced ((false,eval e X.env) :: backTo pos (starEach es X.env))) _ _ s
  refine Calls.spliced_cons (thn (ha pins s σ H _ I h) fun u s1 ⟨x,H1,I1,r1,q1⟩=>?_)
  exact thn (hr pos pins s1 σ H1 _ I1 q1) fun us s2 ⟨xs,H2,I2,r2,q2⟩=>⟨x :: xs,H2,I2,.cons r1 r2,q2⟩
def tTup (t:TA):TE:=fun σ H Q=>t σ H fun xs H1=>xs.length≤sizeLine∧∀ p,H1 p=none→Q (.ref p) (upd H1 p (.tup xs))
def tLst (t:TA):TE:=fun σ H Q=>t σ H fun xs H1=>xs.length≤sizeLine∧∀ p,H1 p=none→Q (.ref p) (upd H1 p (.lst xs))
theorem pe_tup {x1} (h:PA X es t):PE X (.Tuple es x1 pos) (tTup t):=by
  intro pins s σ H Q I hq
  refine wpAny_Tuple_spliced (thn (h pos pins s σ H _ I hq) fun us s1 ⟨xs,H1,I1,r,z,q⟩=>⟨by rw [← r.length];exact z,?_⟩)
  have hf:H1 s1.heap.objs.size=none:=I1.hok.fresh (Nat.le_refl _)
  refine ⟨.ref s1.heap.objs.size,upd H1 s1.heap.objs.size (.tup xs),I1.laid (t':=s1.toks) (fun b u e=>Heap.get?_push_of_some _ e) (Nat.le_refl _) ?_,rfl,q _ hf⟩
  exact ⟨⟨z,_,Heap.get?_push_size _ rfl,rfl⟩,us,r,⟨_,Heap.get?_push_size _ rfl,rfl,_,rfl⟩⟩
theorem pe_lst (h:PA X es t):PE X (.List es pos) (tLst t):=by
  intro pins s σ H Q I hq
  refine wpAny_List_spliced (thn (h pos pins s σ H _ I hq) fun us s1 ⟨xs,H1,I1,r,z,q⟩=>⟨by rw [← r.length];exact z,?_⟩)
  have hf:H1 s1.heap.objs.size=none:=I1.hok.fresh (Nat.le_refl _)
  refine ⟨.ref s1.heap.objs.size,upd H1 s1.heap.objs.size (.lst xs),I1.laid (t':=s1.toks) (fun b u e=>Heap.get?_push_of_some _ e) (Nat.le_refl _) ?_,rfl,q _ hf⟩
  exact ⟨z,us,0,r,Heap.get?_push_size _ rfl⟩
end
abbrev Sp:=List V→Hp→VK→XK→Prop
abbrev CXT:=List Env→Hp→Shared→XK→Value→Shared→Prop
structure Env0 (P:Program) (w:World) (K:PySem.W.Frag) (mg:Str→Option Value) (base:Heap) (A:Around) (outer:List Env) (s:Shared) (H:Hp):Prop where
  frames:A.frames=some outer
  mod:Mod K mg base
  bs:∀ b o,base.get? b=some o→s.heap.get? b=some o∧H b=none
  bsz:base.objs.size≤s.heap.objs.size
  funs:s.heap.FunFrames base outer
  frf:∀ b∈frs outer,H b=none
  hok:HOk P w H s.heap
  bare:AllBare s.gens
def CE (outer:List Env) (P:Program) (w:World) (H:Hp) (s:Shared) (Q:VK) (u:Value) (s':Shared):Prop:=
  ∃ v H',s'.os=s.os∧AllBare s'.gens∧Un (frs outer) [] H H' s.heap s'.heap∧HOk P w H' s'.heap∧RelV v u∧Q v H'
def CR (CX:CXT) (outer:List Env) (P:Program) (w:World) (H:Hp) (s:Shared) (Q:VK) (E:XK) (r:Result) (s':Shared):Prop:=
  match r with
  | .ok (.ret u)=>CE outer P w H s Q u s'
  | .ok _=>False
  | .error e=>CX outer H s E e s'
structure FnOk (P:Program) (w:World) (K:PySem.W.Frag) (mg:Str→Option Value) (base:Heap) (CX:CXT) (k:Nat) (f:Addr) (fd:FuncData) (ps:List Str) (sp:Sp):Prop where
  len:∀ vs H Q E,sp vs H Q E→vs.length=ps.length
  run:∀ (A:Around) (outer:List Env) (s:Shared) (H:Hp) (args:Args) (us:List Value) (vs:List V) (Q:VK) (E:XK),Room k A→Env0 P w K mg base A outer s H→BindsTo s fd args (ps.zip us)→Vals vs us→sp vs H Q E →
    codeAny (model P w) A (.call (.ref f) args) (CR CX outer P w H s Q E) s
theorem FnOk.mono {P:Program} {w:World} {K:PySem.W.Frag} {mg:Str→Option Value} {base:Heap} {CX:CXT} {j k:Nat} {f:Addr} {fd:FuncData} {ps:List Str} {sp:Sp} (F:FnOk P w K mg base CX j f fd ps sp) (h:j≤k) :
    FnOk P w K mg base CX k f fd ps sp:=⟨F.len,fun A outer s H args us vs Q E hr=>F.run A outer s H args us vs Q E (hr.mono h)⟩
theorem FnOk.imp {P:Program} {w:World} {K:PySem.W.Frag} {mg:Str→Option Value} {base:Heap} {CX:CXT} {k:Nat} {f:Addr} {fd:FuncData} {ps:List Str} {sp sp':Sp} (F:FnOk P w K mg base CX k f fd ps sp)
    (h:∀ vs H Q E,sp' vs H Q E→sp vs H Q E):FnOk P w K mg base CX k f fd ps sp':=
  ⟨fun vs H Q E q=>F.len vs H Q E (h _ _ _ _ q),fun A outer s H args us vs Q E hr he hb hv hs=>F.run A outer s H args us vs Q E hr he hb hv (h _ _ _ _ hs)⟩
theorem Env0.in1 {P:Program} {w:World} {K:PySem.W.Frag} {mg:Str→Option Value} {base:Heap} {A:Around} {outer:List Env} {s:Shared} {H:Hp} (e:Env0 P w K mg base A outer s H) :
    Env0 P w K mg base A.in1 outer s H:=⟨e.frames,e.mod,e.bs,e.bsz,e.funs,e.frf,e.hok,e.bare⟩
section
variable {X:Cx} {pins:List (Addr × Obj)} {σ:St} {H:Hp} {s s':Shared}
theorem Inv.env0 (I:Inv X pins σ H s):Env0 X.prog X.w X.K X.mg X.base X.A X.stack s H:=
  ⟨I.ok.frames,I.ok.mod,I.bs,Nat.le_trans I.ok.bsz I.sz,I.stack,I.stkFree,I.hok,I.bare⟩
theorem Inv.after {Q:VK} {u:Value} (I:Inv X pins σ H s) (h:CE X.stack X.prog X.w H s Q u s'):EP X pins σ Q u s':=by
  obtain ⟨v,H',os,bare,un,hok,r,q⟩:=h
  obtain ⟨hh,g,d,t,os'⟩:=s'
  obtain rfl:os'=s.os:=os
  exact ⟨v,H',I.call (h':=hh) (g':=g) (d':=d) (t':=t) (ch:=[]) un hok bare (fun b z=>absurd z (by simp)),r,q⟩
end
def tCall (sp:Sp) (dvs:List V) (E:XK) (t:TA):TE:=fun σ H Q=>t σ H fun vs H1=>sp (vs++dvs) H1 Q E
def Binds (K:PySem.W.Frag) (fd:FuncData) (ps:List Str) (ds:List Value):Prop:=
  ∀ (s:Shared) (us:List Value),K.In s.heap→(us++ds).length=ps.length→BindsTo s fd ⟨us,[]⟩ (ps.zip (us++ds))
theorem Binds.all {K:PySem.W.Frag} {fd:FuncData} {ps:List Str} (h:∀ us:List Value,us.length=ps.length→bindArgs fd ⟨us,[]⟩=pure (ps.zip us)):Binds K fd ps []:=fun s us _ hl=>by
  rw [List.append_nil] at hl ⊢
  exact .of_eq (h us hl)
def Passes (CX:CXT) (X:Cx) (E:XK):Prop:=∀ (pins:List (Addr × Obj)) (σ:St) (H:Hp) (s:Shared) (e:Value) (s':Shared),Inv X pins σ H s→CX X.stack H s E e s'→X.xe e s'
section
variable {X:Cx} {CX:CXT} {k:Nat} {f C:Addr} {fd:FuncData} {ps:List Str} {sp:Sp} {dvs:List V} {ds:List Value} {E:XK} {x m:Str} {p pos apos:Pos} {e o:Expr} {es:List Expr} {ta:TE} {t:TA}
theorem run_fn {pins:List (Addr × Obj)} {σ:St} {H:Hp} {s:Shared} {Q:VK} {us:List Value} {vs:List V} (F:FnOk X.prog X.w X.K X.mg X.base CX k f fd ps sp) (hr:Room k X.A) (hb:Binds X.K fd ps ds) (hd:Vals dvs ds) (hx:Passes CX X E)
    (I:Inv X pins σ H s) (r:Vals vs us) (h:sp (vs++dvs) H Q E):wpAny (model X.prog X.w) X.A (call (.ref f) us) (EP X pins σ Q) X.xe s:=by
  have r2:Vals (vs++dvs) (us++ds):=r.append hd
  have hl:(us++ds).length=ps.length:=by rw [← r2.length];exact F.len _ _ _ _ h
  refine wpAny_call (codeAny_mono (F.run X.A X.stack s H ⟨us,[]⟩ (us++ds) (vs++dvs) Q E hr I.env0 (hb s us I.kIn hl) r2 h) fun r s' hq=>?_)
  cases r with
  | error e=>exact hx pins σ H s e s' I hq
  | ok fl=>
    cases fl with
    | ret u=>exact I.after hq
    | next=>exact False.elim hq
    | brk=>exact False.elim hq
    | cont=>exact False.elim hq
theorem pe_call (F:FnOk X.prog X.w X.K X.mg X.base CX k f fd ps sp) (hr:Room k X.A) (hg:Gl X x) (hm:X.mg x=some (.ref f)) (hk:PySem.W.keepIn X.K (.ref f)=true) (hb:Binds X.K fd ps ds) (hd:Vals dvs ds) (hx:Passes CX X E)
    (ha:PA X (e :: es) t) (hdb:(x == ("__debug__" : Str))=false:=by decide) (he:starEach (e :: es) X.env=(false,eval e X.env) :: starEach es X.env:=by rfl) (hpl:(backTo pos (starEach es X.env)).any (·.1)=false:=by rfl) :
    PE X (.Call (.Name x p) (e :: es) [] pos) (tCall sp dvs E t):=by
  intro pins s σ H Q I h
  refine wpAny_Call_Name_kw (ld_glob I hg hm ?_ hdb)
  refine PySem.W.callWith_K (h₀:=X.base) I.ok.mod.kin hk (thn (ha pos pins s σ H _ I h) fun us s1 ⟨vs,H1,I1,r,q⟩=>⟨I1.kIn,?_⟩) he hpl
  exact run_fn F hr hb hd hx I1 r q
structure Mk (K:PySem.W.Frag) (C f:Addr):Prop where
  makes:PySem.W.makesIn K C=true
  init:PySem.W.findIn K (.ref C) "__init__" = some (some (.ref f))
  fn:PySem.W.isFn K (.ref f)=true
  kp:PySem.W.keepIn K (.ref C)=true
end
section
variable {X:Cx} {CX:CXT} {k:Nat} {f C:Addr} {fd:FuncData} {ps ks:List Str} {sp:Sp} {E:XK} {x m:Str} {p pos apos kpos:Pos} {e o:Expr} {es:List Expr} {kws:List Keyword} {te ta:TE} {t tk:TA} {nm:Option Str}
structure KBinds (K:PySem.W.Frag) (fd:FuncData) (ps ks:List Str) (g:List Value→List Value→List Value) (gV:List V→List V→List V):Prop where
  to:∀ (s:Shared) (us ws:List Value),K.In s.heap→(g us ws).length=ps.length→BindsTo s fd ⟨us,ks.zip ws⟩ (ps.zip (g us ws))
  rel:∀ {vs:List V} {us:List Value} {zs:List V} {ws:List Value},Vals vs us→Vals zs ws→Vals (gV vs zs) (g us ws)
variable {g:List Value→List Value→List Value} {gV:List V→List V→List V}
end
structure FnScope (N P:List Str) (sc:Scope):Prop where
  kind:sc.kind=.function
  co:sc.isCoroutine=false
  gen:sc.isGenerator=false
  nd:N.Nodup
  pre:N.take P.length=P
  par:∀ x∈P,sc.names.lookup x=some .local∨sc.names.lookup x=some .cell
  nofree:∀ y∈sc.names,y.2≠.free
theorem bindL_out {kindOf:Str→Option NameKind} {x:Str}:∀ {binds:List (Str × Value)} {m:Str→Option Value},(∀ v,(x,v) ∉ binds)→bindL kindOf binds m x=m x
  | [],_,_=>rfl
  | (n,v) :: r,m,h=>by
    unfold bindL
    rw [bindL_out fun w hw=>h w (List.mem_cons_of_mem _ hw)]
    split
    · have:x≠n:=by rintro rfl;exact h v List.mem_cons_self
      simp [this]
    · rfl
theorem bindC_out {kindOf:Str→Option NameKind} {x:Str}:∀ {binds:List (Str × Value)} {m:Str→Option Value},(∀ v,(x,v) ∉ binds)→bindC kindOf binds m x=m x
  | [],_,_=>rfl
  | (n,v) :: r,m,h=>by
    unfold bindC
    rw [bindC_out fun w hw=>h w (List.mem_cons_of_mem _ hw)]
    split
    · rfl
    · have:x≠n:=by rintro rfl;exact h v List.mem_cons_self
      simp [this]
theorem bindL_get {kindOf:Str→Option NameKind} {x:Str} {v:Value}:∀ {P:List Str} {vs:List Value} {i:Nat} {m:Str→Option Value},P.Nodup→P[i]?=some x→vs[i]?=some v→kindOf x=some .local →
    bindL kindOf (P.zip vs) m x=some v
  | [],_,_,_,_,h,_,_=>by simp at h
  | _ :: _,[],_,_,_,_,h,_=>by simp at h
  | p :: P,w :: vs,0,m,nd,h1,h2,hk=>by
    simp at h1 h2;subst h1;subst h2
    show bindL kindOf ((p,w) :: P.zip vs) m p=_
    unfold bindL
    rw [bindL_out fun v hv=>(List.nodup_cons.mp nd).1 (List.of_mem_zip hv).1,if_pos hk]
    simp
  | p :: P,w :: vs,i+1,m,nd,h1,h2,hk=>by
    show bindL kindOf ((p,w) :: P.zip vs) m x=_
    unfold bindL
    exact bindL_get (i:=i) (List.nodup_cons.mp nd).2 (by simpa using h1) (by simpa using h2) hk
theorem bindC_get {kindOf:Str→Option NameKind} {x:Str} {v:Value}:∀ {P:List Str} {vs:List Value} {i:Nat} {m:Str→Option Value},P.Nodup→P[i]?=some x→vs[i]?=some v→kindOf x≠some .local →
    bindC kindOf (P.zip vs) m x=some v
  | [],_,_,_,_,h,_,_=>by simp at h
  | _ :: _,[],_,_,_,_,h,_=>by simp at h
  | p :: P,w :: vs,0,m,nd,h1,h2,hk=>by
    simp at h1 h2;subst h1;subst h2
    show bindC kindOf ((p,w) :: P.zip vs) m p=_
    unfold bindC
    rw [bindC_out fun v hv=>(List.nodup_cons.mp nd).1 (List.of_mem_zip hv).1,if_neg hk]
    simp
  | p :: P,w :: vs,i+1,m,nd,h1,h2,hk=>by
    show bindC kindOf ((p,w) :: P.zip vs) m x=_
    unfold bindC
    exact bindC_get (i:=i) (List.nodup_cons.mp nd).2 (by simpa using h1) (by simpa using h2) hk
def start (N:List Str) (vs:List V):St:=vs.map some++List.replicate (N.length - vs.length) none
def cxOf (CX:CXT) (P:Program) (w:World) (K:PySem.W.Frag) (mg:Str→Option Value) (base:Heap) (N:List Str) (qual:Str) (scope:Scope) (f:Addr) (cd:Value) (A:Around) (outer:List Env) (s:Shared) (H:Hp) (E:XK):Cx where
  prog:=P
  w:=w
  K:=K
  mg:=mg
  base:=base
  A:=A.deeper (envOfC qual scope s.heap.objs.size f cd)
  N:=N
  s₀:=s
  H₀:=H
  env:=envOfC qual scope s.heap.objs.size f cd
  outer:=outer
  stack:=envOfC qual scope s.heap.objs.size f cd :: outer
  ex:=[]
  calm:=true
  fn:=fun _=>true
  pn:=[]
  xe:=fun e s'=>wpAny (model P w) (A.deeper (envOfC qual scope s.heap.objs.size f cd)) (leaving (envOfC qual scope s.heap.objs.size f cd) e) (fun _ s''=>CX outer H s E e s'') (fun e' s''=>CX outer H s E e' s'') s'
theorem cell_has {sc:Scope} {n:Nat} {x:Str} (h:sc.names.lookup x=some .cell):∃ c,(cellsFrom n sc.names []).lookup x=some c:=by
  have q:=PySem.W.cellsFrom_some sc.names n [] (.inl h)
  exact Option.isSome_iff_exists.mp q
theorem inv_start {CX:CXT} {P:Program} {w:World} {K:PySem.W.Frag} {mg:Str→Option Value} {base:Heap} {N ps:List Str} {qual:Str} {scope:Scope} {f:Addr} {cd:Value} {A:Around} {outer:List Env} {s s1:Shared} {H:Hp} {E:XK} {us:List Value} {vs:List V}
    (S:FnScope N ps scope) (hd:A.handled=none) (e0:Env0 P w K mg base A outer s H) (hl:vs.length=ps.length) (r:Vals vs us)
    (x:InCallC s s.heap.objs.size (bindL (envOfC qual scope s.heap.objs.size f cd).kindOf (ps.zip us) fun _=>none) (cellsFrom (s.heap.objs.size+1) scope.names []) (bindC (envOfC qual scope s.heap.objs.size f cd).kindOf (ps.zip us) fun _=>none) s1) :
    Inv (cxOf CX P w K mg base N qual scope f cd A outer s H E) [] (start N vs) H s1:=by
  have hpl:ps.length≤N.length:=by have:=congrArg List.length S.pre;rw [List.length_take] at this;omega
  obtain ⟨h1,tk,rfl,hk⟩:=x.done
  have noA:∀ b:Addr,b ∉ (cxOf CX P w K mg base N qual scope f cd A outer s H E).ex:=fun b z=>absurd (show b∈([]:List Addr) from z) (by simp)
  refine ⟨⟨e0.mod,S.kind,rfl,rfl,Nat.le_refl _,fun y z c h1 h2=>?_,fun y hy=>?_,fun y c _ h=>?_,fun _=>hd,Around.frames_deeper e0.frames,.inr ⟨rfl,rfl⟩,fun b z=>absurd z (noA b),e0.bs,e0.bsz,fun b _ _=>noA b,fun b z=>absurd z (noA b),e0.funs,e0.frf⟩,
    rfl,e0.bare,Un.kept hk,⟨_,x.toInCall.ns,fun i y v h1 h2 h3=>?_⟩,fun y c h=>⟨_,x.cell y c h⟩,e0.hok.fresh (Nat.le_refl _),fun y c h=>?_,fun p hp=>absurd (show p∈([]:List (Addr × Obj)) from hp) (by simp),e0.hok.kept hk,?_⟩
  · exact name_of_addr x.apart (PySem.mem_of_lookup h1) (PySem.mem_of_lookup h2)
  · have hy:scope.names.lookup y=some .cell∨scope.names.lookup y=some .free:=hy
    rcases hy with hy | hy
    · exact cell_has hy
    · exact absurd rfl (S.nofree _ (PySem.mem_of_lookup hy))
  · exact Nat.le_of_lt (x.above y c (PySem.mem_of_lookup h))
  · have hi:i < vs.length:=by
      unfold start at h2
      by_cases hi:i < vs.length
      · exact hi
      · rw [List.getElem?_append_right (by simpa using hi)] at h2
        rw [List.getElem?_replicate] at h2
        split at h2 <;> cases h2
    have ha:vs[i]?=some v:=by
      unfold start at h2
      rw [List.getElem?_append_left (by simpa using hi),List.getElem?_map] at h2
      cases e:vs[i]? with
      | none=>rw [e] at h2;cases h2
      | some a=>rw [e] at h2;cases h2;rfl
    obtain ⟨u,hu,rv⟩:=r.get ha
    have hp:ps[i]?=some y:=by
      rw [← S.pre,List.getElem?_take_of_lt (by omega)];exact h1
    have ndP:ps.Nodup:=by rw [← S.pre];exact S.nd.sublist (List.take_sublist _ _)
    refine ⟨u,rv,?_⟩
    rcases S.par y (List.mem_of_getElem? hp) with k | k
    · exact .inl ⟨k,bindL_get ndP hp hu k⟩
    · obtain ⟨c,e⟩:=cell_has (n:=s.heap.objs.size+1) k
      refine .inr ⟨.inl k,c,e,?_⟩
      have q:=x.cell y c e
      rw [bindC_get ndP hp hu (by show scope.names.lookup y≠_;rw [k];decide)] at q
      exact q
  · exact e0.hok.fresh (Nat.le_of_lt (x.above y c (PySem.mem_of_lookup h)))
  · unfold start
    show _=N.length
    rw [List.length_append,List.length_map,List.length_replicate]
    omega
theorem fn_of {CX:CXT} {P:Program} {w:World} {K:PySem.W.Frag} {mg:Str→Option Value} {base:Heap} {k:Nat} {f:Addr} {name qual:Str} {params:Arguments} {body:List Stmt} {scope:Scope} {dV kV doc pm cdv ct oc:Value} {an od:Option Addr}
    {osl:Array (Option Value)} {N ps:List Str} {sp:Sp} (lk:K.lookup f=some ⟨oc,od,.func (PySem.W.fnOf name qual params body scope dV kV doc pm an cdv ct),osl⟩) (hcd:PySem.W.codeIn K cdv qual=true) (S:FnScope N ps scope)
    (len:∀ vs H Q E,sp vs H Q E→vs.length=ps.length)
    (hbody:∀ (A:Around) (outer:List Env) (s:Shared) (H:Hp) (vs:List V) (Q:VK) (E:XK),Room k (A.deeper (envOfC qual scope s.heap.objs.size f cdv))→sp vs H Q E →
      ∃ t,PSs (cxOf CX P w K mg base N qual scope f cdv A outer s H E) body t∧t { nx:=fun _ H'=>Q .non H',rt:=Q } (start N vs) H) :
    FnOk P w K mg base CX (k+1) f (PySem.W.fnOf name qual params body scope dV kV doc pm an cdv ct) ps sp:=by
  refine ⟨len,fun A outer s H args us vs Q E hr e0 hb r hsp=>?_⟩
  have hl:=len _ _ _ _ hsp
  have KX:K.In s.heap:=e0.mod.kin.keeps fun b o e=>(e0.bs b o e).1
  have lim:s.heap.NoLimit:=e0.mod.nolimit.keeps fun b o e=>(e0.bs b o e).1
  have hkind:∀ y∈ps.zip us,scope.names.lookup y.1=some .local∨(scope.names.lookup y.1=some .cell∧((cellsFrom (s.heap.objs.size+1) scope.names []).lookup y.1).isSome=true):=fun ⟨n,v⟩ hy=>by
    rcases S.par n (List.of_mem_zip hy).1 with q | q
    · exact .inl q
    · exact .inr ⟨q,PySem.W.cellsFrom_some _ _ _ (.inl q)⟩
  refine codeAny_call_function hr.depth (KX _ _ lk) rfl S.co S.gen rfl (PySem.W.codeRec_of KX hcd) (hb _ _ _ _ ?_)
  refine wpAny_newFunctionEnv_cells S.kind hkind fun env he s1 x=>?_
  subst he
  refine ⟨lim.keeps x.toInCall.keep,codeAny_func ?_⟩
  obtain ⟨t,ht,hq⟩:=hbody A outer s H vs Q E (hr.deeper _) hsp
  have I:Inv (cxOf CX P w K mg base N qual scope f cdv A outer s H E) [] (start N vs) H s1:=inv_start S hr.hd e0 hl r x
  refine wpAny_mono (ht [] s1 (start N vs) H _ I hq) (fun fl s' hs=>?_) fun e s' hs=>hs
  have fin:∀ {σ':St} {H':Hp} {v:V} {u:Value},Inv (cxOf CX P w K mg base N qual scope f cdv A outer s H E) [] σ' H' s'→RelV v u→Q v H'→CE outer P w H s Q u s':=
    fun {σ' H' v u} J rv q=>⟨v,H',J.os,J.bare,J.base,J.hok,rv,q⟩
  cases fl with
  | ret u=>
    obtain ⟨v,σ',H',J,rv,q⟩:=hs
    exact fin J rv q
  | next=>
    obtain ⟨σ',H',J,q⟩:=hs
    exact fin (v:=V.non) (u:=Value.none) J rfl q
  | brk=>
    obtain ⟨_,_,_,q⟩:=hs
    exact False.elim q
  | cont=>
    obtain ⟨_,_,_,q⟩:=hs
    exact False.elim q
end L2
namespace L2
open PySem PySem.Spec PyProof.Rows
section
variable {X:Cx} {x:Str} {p pos:Pos} {e:Expr} {es:List Expr} {t:TA} {id T:String} {r:List V→Hp→VK→Prop}
def tCB (r:List V→Hp→VK→Prop) (t:TA):TE:=fun σ H Q=>t σ H fun vs H1=>r vs H1 Q
theorem pe_callB (hc:CallR X (.builtin id) r) (hg:Gl X x) (hm:X.mg x=none) (hv:bootBuiltins x=some (.builtin id)) (ha:PA X (e :: es) t) (hn:x ≠ "__name__" := by decide) (hdb:(x == ("__debug__" : Str))=false:=by decide)
    (he:starEach (e :: es) X.env=(false,eval e X.env) :: starEach es X.env:=by rfl) (hpl:(backTo pos (starEach es X.env)).any (·.1)=false:=by rfl):PE X (.Call (.Name x p) (e :: es) [] pos) (tCB r t):=by
  intro pins s σ H Q I h
  refine wpAny_Call_Name_kw (ld_blt I hg hm hv ?_ hn hdb)
  exact PyProof.Rows.callWith_builtin1 (thn (ha pos pins s σ H _ I h) fun us s1 ⟨vs,H1,I1,r1,q1⟩=>hc pins s1 σ H1 vs us Q I1 r1 q1) he hpl
theorem pe_callTy (hc:CallR X (.type T) r) (hg:Gl X x) (hm:X.mg x=none) (hv:bootBuiltins x=some (.type T)) (ha:PA X (e :: es) t) (hn:x ≠ "__name__" := by decide) (hdb:(x == ("__debug__" : Str))=false:=by decide)
    (he:starEach (e :: es) X.env=(false,eval e X.env) :: starEach es X.env:=by rfl) (hpl:(backTo pos (starEach es X.env)).any (·.1)=false:=by rfl):PE X (.Call (.Name x p) (e :: es) [] pos) (tCB r t):=by
  intro pins s σ H Q I h
  refine wpAny_Call_Name_kw (ld_blt I hg hm hv ?_ hn hdb)
  exact PyProof.Rows.callWith_type1 (thn (ha pos pins s σ H _ I h) fun us s1 ⟨vs,H1,I1,r1,q1⟩=>hc pins s1 σ H1 vs us Q I1 r1 q1) he hpl
end
end L2
namespace HT
open PySem PyProof.Rows
section
open PySem.SeqAt
open PySem.AutoSeq1 (wpAny_loadPart')
open PySem.MeetsSeq PySem.MeetsSeq2 PySem.MeetsSeq3
end
section
variable {prog:Program} {w:World} {A:Around} {E:Value→Shared→Prop} {s:Shared}
theorem cat_tup {t b:Addr} {vs ws:List Value} {Q:Value→Shared→Prop} (ht:IsTup s.heap t vs.toArray) (hb:IsTup s.heap b ws.toArray) (hv:vs≠[])
    (h1:ws=[]→Q (.ref t) s) (h2:ws≠[]→Q (.ref s.heap.objs.size) { s with heap:=s.heap.push { cls:=.type "tuple", data:=.seq (vs++ws).toArray } })
    (hsz:vs.length+ws.length≤sizeLine):wpAny (model prog w) A (binaryOp .Add (.ref t) (.ref b)) Q E s:=by
  obtain ⟨⟨cls,dd,data,sl⟩,ho,hc,n,hd⟩:=id ht
  obtain ⟨⟨cls2,dd2,data2,sl2⟩,ho2,hc2,n2,hd2⟩:=id hb
  simp only at hc hd hc2 hd2
  subst hc hd hc2 hd2
  have e:vs.toArray++ws.toArray=(vs++ws).toArray:=by simp
  by_cases hw:ws=[]
  · exact concat_meets ⟨_,ho,rfl⟩ ⟨_,ho2,rfl⟩ noFill_tuple_add seq_tuple_add PySem.F.slot_tuple_add PySem.F.entry_tuple_add (PySem.F.args_tuple_add_2 _ _)
      (tuple_addW1 t b vs.toArray ws.toArray n n2 dd dd2 sl sl2 (by simpa using hv) (by simp [hw])) ⟨ho,ho2,h1 hw⟩
  · refine concat_meets ⟨_,ho,rfl⟩ ⟨_,ho2,rfl⟩ noFill_tuple_add seq_tuple_add PySem.F.slot_tuple_add PySem.F.entry_tuple_add (PySem.F.args_tuple_add_2 _ _)
      (tuple_addW2 t b vs.toArray ws.toArray n n2 dd dd2 sl sl2 (by simpa using hv) (by simpa using hw) (by rw [List.size_toArray,List.size_toArray];exact hsz)) ⟨ho,ho2,?_⟩
    rw [e]
    exact h2 hw
def sIx (n d:Nat):Option Int→Nat
  | none=>d
  | some v=>if v < 0 then (v+(n:Int)).toNat else min v.toNat n
theorem sIx_none (n d:Nat):sIx n d none=d:=rfl
theorem sIx_nat (n d k:Nat):sIx n d (some (k:Int))=min k n:=by
  show (if (k:Int) < 0 then ((k:Int)+(n:Int)).toNat else min (k:Int).toNat n)=min k n
  rw [if_neg (by omega),Int.toNat_natCast]
theorem sIx_le (n d:Nat) (hd:d≤n) (o:Option Int):sIx n d o≤n:=by
  cases o with
  | none=>exact hd
  | some v=>
    show (if v < 0 then (v+(n:Int)).toNat else min v.toNat n)≤n
    by_cases hv:v < 0
    · rw [if_pos hv];omega
    · rw [if_neg hv];exact Nat.min_le_right _ _
theorem clip_eq (v:Int) (n d:Nat):(if v < 0 then max (v+(n:Int)) 0 else min v (n:Int))=((sIx n d (some v):Nat):Int):=by
  show (if v < 0 then max (v+(n:Int)) 0 else min v (n:Int))=(((if v < 0 then (v+(n:Int)).toNat else min v.toNat n):Nat):Int)
  by_cases hv:v < 0
  · simp only [if_pos hv];omega
  · simp only [if_neg hv];omega
theorem adjust_gen (lo hi:Option Int) (n:Nat):Builtin.Slice.sliceAdjust lo hi 1 (n:Int)=(((sIx n 0 lo:Nat):Int),((sIx n n hi:Nat):Int)):=by
  have h1:¬ ((1:Int) < 0):=by omega
  unfold Builtin.Slice.sliceAdjust
  simp only [h1,if_false]
  refine Prod.ext ?_ ?_
  · cases lo with
    | none=>rfl
    | some v=>exact clip_eq v n 0
  · cases hi with
    | none=>rfl
    | some v=>exact clip_eq v n n
theorem places_gen (i j:Nat):Builtin.Slice.slicePlaces (i:Int) (j:Int) 1=j - i:=by
  unfold Builtin.Slice.slicePlaces
  have h1:(1:Int) > 0:=by omega
  simp only [h1,if_true,Int.ediv_one]
  split <;> omega
theorem slicePart_ {v:Value} {o:Option Int} {Q:Option Int→Shared→Prop} (p:IsPart v o) (h:Q o s):wpAny (model prog w) A (Builtin.Slice.slicePartIndex v) Q E s:=by
  cases p with
  | none=>exact slicePart_none h
  | int i t=>exact slicePart_int h
theorem sliceApplied_gen {sl:Addr} {vl vu:Value} {lo hi:Option Int} {n:Nat} {Q:Int × Int × Nat→Shared→Prop} (hs:s.heap.IsSliceOf sl vl vu .none) (pl:IsPart vl lo) (pu:IsPart vu hi)
    (h:Q (((sIx n 0 lo:Nat):Int),1,sIx n n hi - sIx n 0 lo) s):wpAny (model prog w) A (Builtin.Slice.sliceApplied (.ref sl) (pure (n:Int))) Q E s:=by
  obtain ⟨os,hos,hcs,hds⟩:=id hs
  unfold Builtin.Slice.sliceApplied Builtin.Slice.sliceFields
  refine wpAny_bind (wpAny_bind (wpAny_field hos hds (x:=vl) rfl (wpAny_bind (wpAny_field hos hds (x:=vu) rfl (wpAny_bind (wpAny_field hos hds (x:=.none) rfl (wpAny_pure ?_)))))))
  refine wpAny_bind (slicePart_none ?_)
  show wpAny _ _ (if ((1:Int) == 0)=true then _ else _) _ _ s
  rw [if_neg (by decide)]
  refine wpAny_bind (slicePart_ pl (wpAny_bind (slicePart_ pu (wpAny_bind (wpAny_pure ?_)))))
  show wpAny _ _ (match Builtin.Slice.sliceAdjust lo hi 1 (n:Int) with | (lo,hi)=>pure (lo,(1:Int),Builtin.Slice.slicePlaces lo hi 1)) _ _ s
  rw [adjust_gen lo hi n]
  show wpAny _ _ (pure (((sIx n 0 lo:Nat):Int),(1:Int),Builtin.Slice.slicePlaces ((sIx n 0 lo:Nat):Int) ((sIx n n hi:Nat):Int) 1)) _ _ s
  rw [places_gen]
  exact wpAny_pure h
theorem pick_gen (xs:Array Value) (i k:Nat):((List.range k).filterMap fun (m:Nat)=>xs[((i:Int)+(m:Int) * 1).toNat]?).toArray=((xs.toList.drop i).take k).toArray:=by
  have e:(fun (m:Nat)=>xs[((i:Int)+(m:Int) * 1).toNat]?)=fun m=>xs[i+m]?:=by
    funext m
    have:((i:Int)+(m:Int) * 1).toNat=i+m:=by omega
    rw [this]
  rw [e]
  have:=pick_run xs i k
  rw [List.filterMap_map] at this
  have e2:((fun x=>xs[x]?) ∘ fun x=>i+x)=fun m=>xs[i+m]?:=rfl
  rw [e2] at this
  rw [this]
theorem getItem_tuple_cut {t sl:Addr} {items:Array Value} {vl vu:Value} {lo hi:Option Int} {Q:Value→Shared→Prop} (ht:IsTup s.heap t items) (hs:s.heap.IsSliceOf sl vl vu .none) (pl:IsPart vl lo) (pu:IsPart vu hi)
    (hw:¬ (sIx items.size 0 lo=0∧sIx items.size items.size hi=items.size))
    (h:Q (.ref s.heap.objs.size) { s with heap:=s.heap.push { cls:=.type "tuple", data:=.seq ((items.toList.drop (sIx items.size 0 lo)).take (sIx items.size items.size hi - sIx items.size 0 lo)).toArray } })
    (hsz:items.size≤sizeLine):wpAny (model prog w) A (getItem (.ref t) (.ref sl)) Q E s:=by
  have htake:sizeOk (.seq ((items.toList.drop (sIx items.size 0 lo)).take (sIx items.size items.size hi - sIx items.size 0 lo)).toArray):=by
    show ((items.toList.drop (sIx items.size 0 lo)).take (sIx items.size items.size hi - sIx items.size 0 lo)).toArray.size≤sizeLine
    rw [List.size_toArray,List.length_take,List.length_drop,Array.length_toList]
    omega
  have hj:sIx items.size items.size hi≤items.size:=sIx_le _ _ (Nat.le_refl _) hi
  obtain ⟨os,hos,hcs,hds⟩:=id hs
  have hTs:s.TypeIs (.ref sl) "slice" := ⟨os,hos,hcs⟩
  unfold getItem
  try with_reducible refine wpAny_holding ?_
  first | refine wpAny_bind (wpAny_pure ?_) | skip
  refine wpAny_bind (wpAny_sequenceKey ht.typeIs (by decide) ?_)
  refine wpAny_bind (wpAny_callSpecial?_slot (name:=Str.ofString "__getitem__") ht.typeIs PyProof.Rows.slot_tuple_getitem
    (wpAny_call_entry PyProof.Rows.slot_tuple_getitem ht.typeIs entry_tuple_getitem ?_ (args_tuple_getitem _ _)))
  show wpAny _ _ (Builtin.Tuple.tupleItemsOf (.ref t) >>= _) _ _ s
  refine wpAny_bind (tupleItemsOf_ ht ?_)
  refine wpAny_bind (wpAny_typeOf hTs ?_)
  rw [if_pos (by decide)]
  refine wpAny_bind (sliceApplied_gen hs pl pu ?_)
  have hno:¬ ((((sIx items.size 0 lo:Nat):Int) == 0 && (1:Int) == 1 && (sIx items.size items.size hi - sIx items.size 0 lo) == items.size)=true):=by
    intro q
    rw [Bool.and_eq_true,Bool.and_eq_true] at q
    have q1:((sIx items.size 0 lo:Nat):Int)=0:=eq_of_beq q.1.1
    have q2:sIx items.size items.size hi - sIx items.size 0 lo=items.size:=eq_of_beq q.2
    exact hw ⟨by omega,by omega⟩
  show wpAny _ _ (if (((sIx items.size 0 lo:Nat):Int) == 0 && (1:Int) == 1 && (sIx items.size items.size hi - sIx items.size 0 lo) == items.size)=true then _ else _) _ _ s
  rw [if_neg hno,pick_gen]
  first
    | exact wpAny_bind (m:=Builtin.Tuple.tupleExact _) (wpAny_newObj_type (wpAny_pure ⟨_,rfl,wpAny_pure h⟩) htake)
    | exact wpAny_bind (m:=Builtin.Tuple.tupleExact _) (wpAny_newObj_type (wpAny_bind (wpAny_pure (wpAny_pure ⟨_,rfl,wpAny_pure h⟩))) htake)
    | exact wpAny_bind (wpAny_bind (m:=Builtin.Tuple.tupleExact _) (wpAny_newObj_type (wpAny_pure (wpAny_pure ⟨_,rfl,wpAny_pure h⟩)) htake))
    | exact wpAny_bind (wpAny_bind (m:=Builtin.Tuple.tupleExact _) (wpAny_newObj_type (wpAny_pure ⟨_,rfl,wpAny_pure h⟩) htake))
end
end HT
namespace L2
open PySem PySem.Spec PyProof.Rows
abbrev TO:=St→Hp→(Option Int→Hp→Prop)→Prop
def PO (X:Cx) (e:Option Expr) (t:TO):Prop:=
  ∀ (pins:List (Addr × Obj)) (s:Shared) (σ:St) (H:Hp) (Q:Option Int→Hp→Prop),Inv X pins σ H s→t σ H Q →
    wpAny (model X.prog X.w) X.A (evalPart e X.env) (fun u s'=>∃ o H',Inv X pins σ H' s'∧IsPart u o∧Q o H') X.xe s
def tNoPart:TO:=fun _ H Q=>Q none H
def tPart (t:TE):TO:=fun σ H Q=>t σ H fun x H1=>∃ i,x=.int i∧Q (some i) H1
section
variable {X:Cx} {e:Expr} {te:TE} {lo hi:Option Expr} {tl th:TO} {pos p2:Pos}
theorem po_none:PO X none tNoPart:=by
  intro pins s σ H Q I h
  rw [evalPart_none]
  exact wpAny_pure ⟨none,H,I,.none,h⟩
theorem po_some (h:PE X e te):PO X (some e) (tPart te):=by
  intro pins s σ H Q I hw
  rw [evalPart_some]
  refine thn (h pins s σ H _ I hw) fun u s1 ⟨x,H1,I1,r1,q1⟩=>?_
  obtain ⟨i,rfl,q⟩:=q1
  obtain ⟨t,rfl⟩:=r1
  exact ⟨some i,H1,I1,.int i t,q⟩
def SlR (X:Cx) (r:V→Option Int→Option Int→Hp→VK→Prop):Prop:=
  ∀ (pins:List (Addr × Obj)) (s:Shared) (σ:St) (H:Hp) (x:V) (v vl vu:Value) (lo hi:Option Int) (sl:Addr) (Q:VK),Inv X pins σ H s→RelV x v→s.heap.IsSliceOf sl vl vu .none→IsPart vl lo→IsPart vu hi→r x lo hi H Q →
    ∃ T id,typeLookup (.type T) "__getitem__" = pure (some (.builtin id))∧s.TypeIs v T∧wpAny (model X.prog X.w) X.A (getItem v (.ref sl)) (EP X pins σ Q) X.xe s
theorem SlR.or {r r':V→Option Int→Option Int→Hp→VK→Prop} (h:SlR X r) (h':SlR X r'):SlR X (fun x lo hi H Q=>r x lo hi H Q∨r' x lo hi H Q):=by
  intro pins s σ H x v vl vu lo hi sl Q I rx hs pl pu q
  rcases q with q | q
  · exact h pins s σ H x v vl vu lo hi sl Q I rx hs pl pu q
  · exact h' pins s σ H x v vl vu lo hi sl Q I rx hs pl pu q
def tSl (r:V→Option Int→Option Int→Hp→VK→Prop) (te:TE) (tl th:TO):TE:=fun σ H Q=>te σ H fun x H1=>tl σ H1 fun l H2=>th σ H2 fun u H3=>r x l u H3 Q
theorem pe_slice {r:V→Option Int→Option Int→Hp→VK→Prop} (hr:SlR X r) (he:PE X e te) (hl:PO X lo tl) (hu:PO X hi th):PE X (.Subscript e (.Slice lo hi none p2) pos) (tSl r te tl th):=by
  intro pins s σ H Q I h
  refine Subscript_ (thn (he pins s σ H _ I h) fun v s1 ⟨x,H1,I1,r1,q1⟩=>?_)
  refine wpAny_Slice (thn (hl pins s1 σ H1 _ I1 q1) fun vl s2 ⟨l,H2,I2,pl,q2⟩=>thn (hu pins s2 σ H2 _ I2 q2) fun vu s3 ⟨u,H3,I3,pu,q3⟩=>?_)
  rw [evalPart_none]
  refine wpAny_pure ?_
  have I4:Inv X pins σ H3 { s3 with heap:=s3.heap.push { cls:=.type "slice", data:=.fields #[vl,vu,.none] } }:=I3.kept (t':=s3.toks) fun b ob q=>Heap.get?_push_of_some _ q
  obtain ⟨T,id,hT,ht,hg⟩:=hr pins { s3 with heap:=s3.heap.push { cls:=.type "slice", data:=.fields #[vl,vu,.none] } } σ H3 x v vl vu l u s3.heap.objs.size Q I4 r1 (Heap.IsSliceOf.new ..) pl pu q3
  show wpAny (model X.prog X.w) X.A (subscriptTail e (.Slice lo hi none p2) v (.ref s3.heap.objs.size)) (EP X pins σ Q) X.xe { s3 with heap:=s3.heap.push { cls:=.type "slice", data:=.fields #[vl,vu,.none] } }
  exact tail_any (ops:=[.ref s3.heap.objs.size,v]) ht hT hg (by with_unfolding_all rfl)
def cutV (xs:List V) (lo hi:Option Int):List V:=(xs.drop (HT.sIx xs.length 0 lo)).take (HT.sIx xs.length xs.length hi - HT.sIx xs.length 0 lo)
theorem cutV_length (xs:List V) (lo hi:Option Int):(cutV xs lo hi).length≤xs.length:=by
  unfold cutV
  rw [List.length_take,List.length_drop]
  omega
def rSlT (K:PySem.W.Frag):V→Option Int→Option Int→Hp→VK→Prop:=fun x lo hi H Q=>∃ a xs,x=.ref a∧SqT K H a xs ∧
  ¬ (HT.sIx xs.length 0 lo=0∧HT.sIx xs.length xs.length hi=xs.length)∧∀ p,H p=none→Q (.ref p) (upd H p (.tup (cutV xs lo hi)))
theorem sl_tup:SlR X (rSlT X.K):=by
  intro pins s σ H x v vl vu lo hi sl Q I rx hs pl pu h
  obtain ⟨a,xs,rfl,hx,hw,q⟩:=h
  cases rx
  obtain ⟨its,r,ht,hz⟩:=I.tuple hx
  have hlen:its.toArray.size=xs.length:=by rw [List.size_toArray];exact r.length.symm
  refine ⟨"tuple", _,PyProof.Rows.slot_tuple_getitem.lookup,ht.typeIs,?_⟩
  refine HT.getItem_tuple_cut ht hs pl pu (by rw [hlen];exact hw) ?_ (by rw [hlen];exact hz)
  rw [hlen]
  refine ⟨.ref s.heap.objs.size,_,I.laid (t':=s.toks) (o:=.tup (cutV xs lo hi)) (fun b ob q=>Heap.get?_push_of_some _ q) (Nat.le_refl _) ?_,rfl,q _ (I.hok.fresh (Nat.le_refl _))⟩
  exact ⟨⟨Nat.le_trans (cutV_length xs lo hi) hz,_,Heap.get?_push_size _ rfl,rfl⟩,_,(r.drop (HT.sIx xs.length 0 lo)).take (HT.sIx xs.length xs.length hi - HT.sIx xs.length 0 lo),IsTup.new _ _⟩
def rCatT (K:PySem.W.Frag):R2:=fun x y H Q=>∃ a b xs ys,x=.ref a∧y=.ref b∧SqT K H a xs∧SqT K H b ys∧xs≠[]∧xs.length+ys.length≤sizeLine ∧
  (ys=[]→Q (.ref a) H)∧(ys≠[]→∀ p,H p=none→Q (.ref p) (upd H p (.tup (xs++ys))))
theorem Vals.nil_iff {xs:List V} {us:List Value} (r:Vals xs us):us=[] ↔ xs=[]:=by
  cases r with
  | nil=>simp
  | cons _ _=>simp
theorem op_catT:OpR X (binaryOp .Add) (rCatT X.K):=by
  intro pins s σ H x y v u Q I rx ry h
  obtain ⟨a,b,xs,ys,rfl,rfl,ha,hb,hx,hz,q1,q2⟩:=h
  cases rx
  cases ry
  obtain ⟨its,r1,p1,_⟩:=I.tuple ha
  obtain ⟨its2,r2,p2,_⟩:=I.tuple hb
  refine HT.cat_tup p1 p2 (fun z=>hx (r1.nil_iff.mp z)) (fun z=>⟨.ref a,H,I,rfl,q1 (r2.nil_iff.mp z)⟩) (fun z=>?_) (by rw [← r1.length,← r2.length];exact hz)
  refine ⟨.ref s.heap.objs.size,_,I.laid (t':=s.toks) (o:=.tup (xs++ys)) (fun b ob q=>Heap.get?_push_of_some _ q) (Nat.le_refl _) ?_,rfl,q2 (fun w=>z (r2.nil_iff.mpr w)) _ (I.hok.fresh (Nat.le_refl _))⟩
  exact ⟨⟨by rw [List.length_append];exact hz,_,Heap.get?_push_size _ rfl,rfl⟩,_,r1.append r2,IsTup.new _ _⟩
end
end L2
namespace L2
open PySem PySem.Spec PyProof.Rows
def ixN (n:Nat) (i:Int):Option Nat:=if 0≤i then (if i < n then some i.toNat else none) else if -(n:Int)≤i then some (i+n).toNat else none
def atI {α:Type} (xs:List α) (i:Int):Option α:=(ixN xs.length i).bind fun j=>xs[j]?
theorem ixN_seq {n:Nat} {i:Int} {j:Nat} (h:ixN n i=some j):seqIndex? i n=some j∧j < n∧-(n:Int)≤i∧i < n:=by
  unfold ixN at h
  by_cases h0:0≤i
  · rw [if_pos h0] at h
    by_cases h1:i < n
    · rw [if_pos h1] at h
      have e:i.toNat=j:=Option.some.inj h
      exact ⟨by rw [seqIndex_of h0 h1,e],by omega,by omega,h1⟩
    · rw [if_neg h1] at h;cases h
  · rw [if_neg h0] at h
    by_cases h1:-(n:Int)≤i
    · rw [if_pos h1] at h
      have e:(i+n).toNat=j:=Option.some.inj h
      exact ⟨by rw [seqIndex_neg (by omega) h1,e],by omega,h1,by omega⟩
    · rw [if_neg h1] at h;cases h
theorem atI_get {α:Type} {xs:List α} {i:Int} {v:α} (h:atI xs i=some v):∃ j,seqIndex? i xs.length=some j∧xs[j]?=some v∧j < xs.length∧-(xs.length:Int)≤i∧i < xs.length:=by
  unfold atI at h
  cases e:ixN xs.length i with
  | none=>rw [e] at h;cases h
  | some j=>
    rw [e] at h
    obtain ⟨h1,h2,h3,h4⟩:=ixN_seq e
    exact ⟨j,h1,h,h2,h3,h4⟩
theorem atI_nat {α:Type} {xs:List α} {j:Nat} {v:α} (h:xs[j]?=some v):atI xs (j:Int)=some v:=by
  have hj:j < xs.length:=(List.getElem?_eq_some_iff.mp h).1
  have e:ixN xs.length (j:Int)=some j:=by
    unfold ixN
    rw [if_pos (by omega),if_pos (by omega)];simp
  unfold atI;rw [e];exact h
def PlainIx (b:Expr):Prop:=∀ o i,subscripted b false o i=operate [o,i] (getItem o i)
def IxR (X:Cx) (r:R2):Prop:=
  ∀ (value slice:Expr) (pins:List (Addr × Obj)) (s:Shared) (σ:St) (H:Hp) (x y:V) (v u:Value) (Q:VK),Inv X pins σ H s→RelV x v→RelV y u→r x y H Q →
    subscripted slice false v u=operate [v,u] (getItem v u)→wpAny (model X.prog X.w) X.A (subscriptTail value slice v u) (EP X pins σ Q) X.xe s
def MtR (X:Cx) (id:String) (r:V→List V→Hp→VK→Prop):Prop:=
  ∀ (pins:List (Addr × Obj)) (s:Shared) (σ:St) (H:Hp) (x:V) (xs:List V) (v:Value) (us:List Value) (Q:VK),Inv X pins σ H s→RelV x v→Vals xs us→r x xs H Q →
    wpAny (model X.prog X.w) X.A (call (.builtin id) (v :: us)) (EP X pins σ Q) X.xe s
section
variable {X:Cx} {a b:Expr} {ta tb:TE} {pos:Pos}
theorem IxR.or {r r':R2} (h:IxR X r) (h':IxR X r'):IxR X (fun x y H Q=>r x y H Q∨r' x y H Q):=by
  intro value slice pins s σ H x y v u Q I rx ry q hs
  rcases q with q | q
  · exact h value slice pins s σ H x y v u Q I rx ry q hs
  · exact h' value slice pins s σ H x y v u Q I rx ry q hs
theorem MtR.or {id:String} {r r':V→List V→Hp→VK→Prop} (h:MtR X id r) (h':MtR X id r'):MtR X id (fun x xs H Q=>r x xs H Q∨r' x xs H Q):=by
  intro pins s σ H x xs v us Q I rx rs q
  rcases q with q | q
  · exact h pins s σ H x xs v us Q I rx rs q
  · exact h' pins s σ H x xs v us Q I rx rs q
theorem pe_ix {r:R2} (hr:IxR X r) (ha:PE X a ta) (hb:PE X b tb) (hs:PlainIx b):PE X (.Subscript a b pos) (tOp r ta tb):=by
  intro pins s σ H Q I h
  exact Subscript_ (binT ha hb I h fun v u s2 x y H2 I2 rx ry q=>hr a b pins s2 σ H2 x y v u Q I2 rx ry q (hs _ _))
def rIxL (K:PySem.W.Frag):R2:=fun x y H Q=>∃ p xs i v,x=.ref p∧y=.int i∧SqL K H p xs∧atI xs i=some v∧Q v H
def rIxT (K:PySem.W.Frag):R2:=fun x y H Q=>∃ p xs i v,x=.ref p∧y=.int i∧SqT K H p xs∧atI xs i=some v∧Q v H
def rIxS:R2:=fun x y H Q=>∃ z i c,x=.str z∧y=.int i∧z.length≤sizeLine∧atI z.cps.toList i=some c∧Q (.str ⟨#[c]⟩) H
theorem ix_list:IxR X (rIxL X.K):=by
  intro value slice pins s σ H x y v u Q I rx ry h hs
  obtain ⟨p,xs,i,z,rfl,rfl,hq,he,q⟩:=h
  cases rx
  obtain ⟨t,rfl⟩:=ry
  obtain ⟨its,r,pl,hz⟩:=I.list hq
  obtain ⟨j,h1,h2,h3,h4,h5⟩:=atI_get he
  obtain ⟨w,ew,rw'⟩:=r.get h2
  have hl:=r.length
  have hn:=line63
  have fin:EP X pins σ Q w s:=⟨z,H,I,rw',q⟩
  by_cases h0:0≤i
  · have hj:i.toNat=j:=by
      rw [seqIndex_of h0 h5] at h1
      exact Option.some.inj h1
    exact item_listR pl.isList h0 (by omega) (by rw [hj];simpa using ew) fin hs
  · have hj:(i+(its.toArray.size:Int)).toNat=j:=by
      rw [seqIndex_neg (by omega) h4] at h1
      rw [List.size_toArray,← hl]
      exact Option.some.inj h1
    exact subscriptTail_builtinR (x:=w) pl.isList.typeIs slot_list_getitem.lookup
      (wpAny_getItem_list_neg (Q:=fun r s'=>r=w∧EP X pins σ Q r s') pl.isList (by omega) (by rw [List.size_toArray] <;> omega) (by omega) (by rw [hj];simpa using ew) ⟨rfl,fin⟩) hs
theorem ix_tup:IxR X (rIxT X.K):=by
  intro value slice pins s σ H x y v u Q I rx ry h hs
  obtain ⟨p,xs,i,z,rfl,rfl,hq,he,q⟩:=h
  cases rx
  obtain ⟨t,rfl⟩:=ry
  obtain ⟨its,r,pl,hz⟩:=I.tuple hq
  obtain ⟨j,h1,h2,h3,h4,h5⟩:=atI_get he
  obtain ⟨w,ew,rw'⟩:=r.get h2
  have hl:=r.length
  have hn:=line63
  have fin:EP X pins σ Q w s:=⟨z,H,I,rw',q⟩
  exact subscriptTail_builtinR (x:=w) pl.typeIs slot_tuple_getitem.lookup
    (getItem_tuple (j:=j) (Q:=fun r s'=>r=w∧EP X pins σ Q r s') pl (by omega) (by omega) (by rw [List.size_toArray,← hl];exact h1) (by simpa using ew) ⟨rfl,fin⟩) hs
theorem ix_str:IxR X rIxS:=by
  intro value slice pins s σ H x y v u Q I rx ry h hs
  obtain ⟨z,i,c,rfl,rfl,hz,he,q⟩:=h
  obtain ⟨t,rfl⟩:=rx
  obtain ⟨t',rfl⟩:=ry
  obtain ⟨j,h1,h2,h3,h4,h5⟩:=atI_get he
  have hl:z.cps.toList.length=z.length:=by simp [Str.length]
  rw [hl] at h1 h4 h5
  have hn:=line63
  exact tail_any (typeIs_str s z t) slot_str_getitem.lookup (getItem_str (c:=c) (by
    have e1:decide (i < -(2 ^ 63:Int))=false:=decide_eq_false (by omega)
    have e2:decide (i ≥ 2 ^ 63)=false:=decide_eq_false (by omega)
    rw [e1,e2,Bool.or_false]) (by rw [h1];simpa using h2) ⟨.str ⟨#[c]⟩,H,I.tok _,⟨_,rfl⟩,q⟩) hs
theorem mapSeq_set (its:List Value) (n j:Nat) (u:Value):Obj.mapSeq (·.setIfInBounds j u) { cls:=.type "list", data:=.seq its.toArray n }={ cls:=.type "list", data:=.seq (its.set j u).toArray n }:=by
  simp [Obj.mapSeq]
theorem Inv.lst {pins:List (Addr × Obj)} {σ:St} {H:Hp} {s:Shared} {p:Addr} {xs:List V} (I:Inv X pins σ H s) (h:H p=some (.lst xs)) :
    ∃ (its:List Value) (n:Nat),Vals xs its∧s.heap.get? p=some { cls:=.type "list", data:=.seq its.toArray n }∧xs.length≤sizeLine:=by
  obtain ⟨z,its,n,r,e⟩:=I.hok p _ h
  exact ⟨its,n,r,e,z⟩
theorem Inv.lstUpd {pins:List (Addr × Obj)} {σ:St} {H:Hp} {s:Shared} {p:Addr} {xs ys:List V} {its its':List Value} {n n':Nat} {f:Obj→Obj} (I:Inv X pins σ H s) (h:H p=some (.lst xs))
    (ho:s.heap.get? p=some { cls:=.type "list", data:=.seq its.toArray n }) (hf:f { cls:=.type "list", data:=.seq its.toArray n }={ cls:=.type "list", data:=.seq its'.toArray n' }) (r:Vals ys its') (hz:ys.length≤sizeLine) (t:Nat) :
    Inv X pins σ (upd H p (.lst ys)) { s with heap:=s.heap.update p f,toks:=t }:=by
  have e:(s.heap.update p f).get? p=some { cls:=.type "list", data:=.seq its'.toArray n' }:=by
    rw [Heap.get?_update_self f ho (by rw [hf] <;> rfl),hf]
  refine I.write (x:=p) (e:=p) (by rw [h];trivial) (.inl rfl) (fun b u hb q=>(Heap.get?_update_other _ _ (Ne.symm hb)).trans q) ⟨_,e⟩ ?_
  exact ⟨hz,its',n',r,e⟩
def rSetL:V→V→V→Hp→(Hp→Prop)→Prop:=fun o i v H Q=>∃ p xs k j,o=.ref p∧i=.int k∧H p=some (.lst xs)∧ixN xs.length k=some j∧Q (upd H p (.lst (xs.set j v)))
theorem set_list:PSet X rSetL:=by
  intro pins s σ H o i v ov iv u Q I ro ri rv h
  obtain ⟨p,xs,k,j,rfl,rfl,hp,hj,q⟩:=h
  cases ro
  obtain ⟨t,rfl⟩:=ri
  obtain ⟨its,n,r,ho,hz⟩:=I.lst hp
  obtain ⟨h1,h2,h3,h4⟩:=ixN_seq hj
  have hl:=r.length
  have hn:=line63
  have I':Inv X pins σ (upd H p (.lst (xs.set j v))) { s with heap:=s.heap.update p (Obj.mapSeq (·.setIfInBounds j u)) }:=
    I.lstUpd hp ho (mapSeq_set its n j u) (r.set rv j) (by rw [List.length_set];exact hz) s.toks
  by_cases h0:0≤k
  · have hk:k.toNat=j:=by
      rw [seqIndex_of h0 h4] at h1
      exact Option.some.inj h1
    exact PySem.W.ki_setAt ho h0 (by omega) (by rw [List.size_toArray,← hl];exact h4) (by rw [hk];exact ⟨_,I',q⟩)
  · have hk:(k+(its.toArray.size:Int)).toNat=j:=by
      rw [seqIndex_neg (by omega) h3] at h1
      rw [List.size_toArray,← hl]
      exact Option.some.inj h1
    exact PySem.W.ki_setBack ho (by omega) (by rw [List.size_toArray,← hl];exact h3) (by omega) (by rw [hk];exact ⟨_,I',q⟩)
theorem slice_bounds (lo hi:Option Int) (n:Nat):(sliceBounds lo hi none n).1=((HT.sIx n 0 lo:Nat):Int)∧(sliceBounds lo hi none n).2.1=((HT.sIx n n hi:Nat):Int)∧(sliceBounds lo hi none n).2.2=1:=by
  refine ⟨?_,?_,rfl⟩
  · cases lo with
    | none=>simp [sliceBounds,HT.sIx]
    | some i=>
      simp only [sliceBounds,HT.sIx,Option.getD_none,show (1:Int) > 0 by decide,if_true]
      by_cases h:i < 0
      · simp only [h,if_true] <;> omega
      · simp only [h,if_false] <;> omega
  · cases hi with
    | none=>simp [sliceBounds,HT.sIx]
    | some i=>
      simp only [sliceBounds,HT.sIx,Option.getD_none,show (1:Int) > 0 by decide,if_true]
      by_cases h:i < 0
      · simp only [h,if_true] <;> omega
      · simp only [h,if_false] <;> omega
theorem slicePick_cut (its:List Value) (lo hi:Option Int):slicePick its.toArray lo hi none=((its.drop (HT.sIx its.length 0 lo)).take (HT.sIx its.length its.length hi - HT.sIx its.length 0 lo)).toArray:=by
  obtain ⟨h1,h2,h3⟩:=slice_bounds lo hi its.toArray.size
  unfold slicePick
  rw [h1,h2,h3]
  simp only [sliceRange_one,pick_run,List.size_toArray] <;> rfl
def rSlL (K:PySem.W.Frag):V→Option Int→Option Int→Hp→VK→Prop:=fun x lo hi H Q=>∃ a xs,x=.ref a∧SqL K H a xs∧∀ p,H p=none→Q (.ref p) (upd H p (.lst (cutV xs lo hi)))
theorem sl_list:SlR X (rSlL X.K):=by
  intro pins s σ H x v vl vu lo hi sl Q I rx hs pl pu h
  obtain ⟨a,xs,rfl,hx,q⟩:=h
  cases rx
  obtain ⟨its,r,ht,hz⟩:=I.list hx
  have hlen:=r.length
  refine ⟨"list", _,slot_list_getitem.lookup,ht.isList.typeIs,?_⟩
  refine wpAny_getItem_list_slice ht.isList hs pl pu .none (by simp) ?_ (by rw [List.size_toArray] <;> omega)
  rw [slicePick_cut,← hlen]
  refine ⟨.ref s.heap.objs.size,_,I.laid (t':=s.toks) (o:=.lst (cutV xs lo hi)) (fun b ob q=>Heap.get?_push_of_some _ q) (Nat.le_refl _) ?_,rfl,q _ (I.hok.fresh (Nat.le_refl _))⟩
  exact ⟨Nat.le_trans (cutV_length xs lo hi) hz,_,0,(r.drop (HT.sIx xs.length 0 lo)).take (HT.sIx xs.length xs.length hi - HT.sIx xs.length 0 lo),Heap.get?_push_size _ rfl⟩
def flatV:V→Bool
  | .non=>true
  | .bl _=>true
  | .int _=>true
  | .str _=>true
  | _=>false
def eqV:V→V→Bool
  | .non,.non=>true
  | .bl a,.bl b=>a == b
  | .bl a,.int b=>(if a then 1 else 0) == b
  | .int a,.bl b=>a == (if b then 1 else 0)
  | .int a,.int b=>a == b
  | .str a,.str b=>a == b
  | _,_=>false
theorem eqAt_V {A:Around} {s:Shared} {y x:V} {u v:Value} (ry:RelV y u) (rx:RelV x v) (fy:flatV y=true) (fx:flatV x=true):SeqAt.EqAt A s u v (eqV y x):=by
  cases y with
  | non=>
    cases ry
    cases x with
    | non=>cases rx;exact SeqAt.EqAt.same _
    | bl b=>cases rx;exact SeqAt.EqAt.none_bool b
    | int b=>obtain ⟨t,rfl⟩:=rx;exact SeqAt.EqAt.none_int b t
    | str b=>obtain ⟨t,rfl⟩:=rx;exact SeqAt.EqAt.none_str b t
    | _=>exact absurd (show false=true from fx) Bool.false_ne_true
  | bl a=>
    cases ry
    cases x with
    | non=>cases rx;exact SeqAt.EqAt.bool_none a
    | bl b=>cases rx;exact SeqAt.EqAt.bool_bool a b
    | int b=>obtain ⟨t,rfl⟩:=rx;exact SeqAt.EqAt.bool_int a b t
    | str b=>obtain ⟨t,rfl⟩:=rx;exact SeqAt.EqAt.bool_str a b t
    | _=>exact absurd (show false=true from fx) Bool.false_ne_true
  | int a=>
    obtain ⟨t',rfl⟩:=ry
    cases x with
    | non=>cases rx;exact SeqAt.EqAt.int_none a t'
    | bl b=>cases rx;exact SeqAt.EqAt.int_bool a t' b
    | int b=>obtain ⟨t,rfl⟩:=rx;exact SeqAt.EqAt.int_int a t' b t
    | str b=>obtain ⟨t,rfl⟩:=rx;exact SeqAt.EqAt.int_str a t' b t
    | _=>exact absurd (show false=true from fx) Bool.false_ne_true
  | str a=>
    obtain ⟨t',rfl⟩:=ry
    cases x with
    | non=>cases rx;exact SeqAt.EqAt.str_none a t'
    | bl b=>cases rx;exact SeqAt.EqAt.str_bool a t' b
    | int b=>obtain ⟨t,rfl⟩:=rx;exact SeqAt.EqAt.str_int a t' b t
    | str b=>obtain ⟨t,rfl⟩:=rx;exact SeqAt.EqAt.str_str a t' b t
    | _=>exact absurd (show false=true from fx) Bool.false_ne_true
  | _=>exact absurd (show false=true from fy) Bool.false_ne_true
def eqU (x:V) (u:Value):Bool:=match u with
  | .none=>eqV .non x
  | .bool b=>eqV (.bl b) x
  | .int i _=>eqV (.int i) x
  | .str z _=>eqV (.str z) x
  | _=>false
theorem eqU_of {x y:V} {u:Value} (r:RelV y u) (f:flatV y=true):eqU x u=eqV y x:=by
  cases y with
  | non=>cases r;rfl
  | bl b=>cases r;rfl
  | int i=>obtain ⟨t,rfl⟩:=r;rfl
  | str z=>obtain ⟨t,rfl⟩:=r;rfl
  | _=>exact absurd (show false=true from f) Bool.false_ne_true
theorem any_eqU {x:V}:∀ {xs:List V} {us:List Value},Vals xs us→xs.all flatV=true→us.any (eqU x)=xs.any fun y=>eqV y x
  | _,_,.nil,_=>rfl
  | y :: xs,u :: us,.cons r t,f=>by
    rw [List.all_cons,Bool.and_eq_true] at f
    rw [List.any_cons,List.any_cons,eqU_of r f.1,any_eqU t f.2]
theorem mem_eqAt {A:Around} {s:Shared} {x:V} {v:Value} (rx:RelV x v) (fx:flatV x=true):∀ {xs:List V} {us:List Value},Vals xs us→xs.all flatV=true→∀ u∈us,SeqAt.EqAt A s u v (eqU x u)
  | _,_,.nil,_=>fun u hu=>by cases hu
  | y :: xs,u :: us,.cons r t,f=>fun u' hu=>by
    rw [List.all_cons,Bool.and_eq_true] at f
    rcases List.mem_cons.mp hu with rfl | hu
    · rw [eqU_of r f.1];exact eqAt_V r rx f.1 fx
    · exact mem_eqAt rx fx t f.2 u' hu
def inV (x:V) (xs:List V):Bool:=xs.any fun y=>eqV y x
def rIn (K:PySem.W.Frag) (neg:Bool):R2:=fun x y H Q=>∃ p xs,y=.ref p∧(SqL K H p xs∨SqT K H p xs)∧flatV x=true∧xs.all flatV=true∧Q (.bl (if neg then !inV x xs else inV x xs)) H
theorem op_notIn_seq:OpR X (compareOp .NotIn) (rIn X.K true):=by
  intro pins s σ H x y v u Q I rx ry h
  obtain ⟨p,xs,rfl,hq,fx,fs,q⟩:=h
  cases ry
  rcases hq with hq | hq
  · obtain ⟨its,r,pl,hz⟩:=I.list hq
    refine SeqAt.notIn_listAt (eqU x) pl.isList (fun w hw=>mem_eqAt rx fx r fs w (by simpa using hw)) ⟨.bl _,H,I,rfl,?_⟩
    rw [show its.toArray.any (eqU x)=its.any (eqU x) by simp,any_eqU r fs]
    exact q
  · obtain ⟨its,r,pl,hz⟩:=I.tuple hq
    refine SeqAt.notIn_tupleAt (eqU x) pl (fun w hw=>mem_eqAt rx fx r fs w (by simpa using hw)) ⟨.bl _,H,I,rfl,?_⟩
    rw [show its.toArray.any (eqU x)=its.any (eqU x) by simp,any_eqU r fs]
    exact q
theorem call_len_seq:CallR X (.builtin "len") (fun xs H Q=>∃ p ys,xs=[.ref p]∧(SqL X.K H p ys∨SqT X.K H p ys)∧Q (.int ys.length) H):=by
  intro pins s σ H xs us Q I r h
  obtain ⟨p,ys,rfl,hq,q⟩:=h
  obtain ⟨u,rfl,rx⟩:=vals1 r
  cases rx
  have hn:=line63
  rcases hq with hq | hq
  · obtain ⟨its,r',pl,hz⟩:=I.list hq
    have hlen:=r'.length
    exact Calls.call_len_list pl.isList (by simp only [List.size_toArray] <;> omega) ⟨.int ys.length,H,I.tok _,⟨s.toks+1,by rw [List.size_toArray,hlen]⟩,q⟩
  · obtain ⟨its,r',pl,hz⟩:=I.tuple hq
    have hlen:=r'.length
    exact len_tuple pl (by simp only [List.size_toArray] <;> omega) ⟨.int ys.length,H,I.tok _,⟨s.toks+1,by rw [List.size_toArray,hlen]⟩,q⟩
theorem call_len_str:CallR X (.builtin "len") (fun xs H Q=>∃ z,xs=[.str z]∧z.length≤sizeLine∧Q (.int z.length) H):=by
  intro pins s σ H xs us Q I r h
  obtain ⟨z,rfl,hz,q⟩:=h
  obtain ⟨u,rfl,t,rfl⟩:=vals1 r
  have hn:=line63
  exact len_str (by omega) ⟨.int z.length,H,I.tok _,⟨_,rfl⟩,q⟩
theorem CallR.or {f:Value} {r r':List V→Hp→VK→Prop} (h:CallR X f r) (h':CallR X f r'):CallR X f (fun xs H Q=>r xs H Q∨r' xs H Q):=by
  intro pins s σ H xs us Q I rs q
  rcases q with q | q
  · exact h pins s σ H xs us Q I rs q
  · exact h' pins s σ H xs us Q I rs q
theorem call_list_of:CallR X (.type "list") (fun xs H Q=>∃ p ys,xs=[.ref p]∧(SqL X.K H p ys∨SqT X.K H p ys)∧∀ l,H l=none→Q (.ref l) (upd H l (.lst ys))):=by
  intro pins s σ H xs us Q I r h
  obtain ⟨p,ys,rfl,hq,q⟩:=h
  obtain ⟨u,rfl,rx⟩:=vals1 r
  cases rx
  have fin:∀ (its:List Value),Vals ys its→ys.length≤sizeLine→∀ (h':Heap) (c':Nat),(∀ b o',s.heap.get? b=some o'→h'.get? b=some o') →
      h'.get? s.heap.objs.size=some { cls:=.type "list", dict:=none,data:=.seq its.toArray c',slots:=#[] }→EP X pins σ Q (.ref s.heap.objs.size) { s with heap:=h' }:=fun its r' hz h' c' kp e=>
    ⟨.ref s.heap.objs.size,_,I.laid (t':=s.toks) kp (Nat.le_refl _) (show ObjOk X.prog X.w _ h' _ (.lst ys) from ⟨hz,its,c',r',e⟩),rfl,q _ (I.hok.fresh (Nat.le_refl _))⟩
  rcases hq with hq | hq
  · obtain ⟨its,r',pl,hz⟩:=I.list hq
    have hlen:=r'.length
    obtain ⟨o,ho,hc,n,hd⟩:=pl.isList
    exact call_list_seq p (.inl rfl) ho hc hd (fun h' c' kp e=>fin its r' hz h' c' kp e) (by simp only [List.size_toArray] <;> omega)
  · obtain ⟨its,r',pl,hz⟩:=I.tuple hq
    have hlen:=r'.length
    obtain ⟨o,ho,hc,n,hd⟩:=pl
    exact call_list_seq p (.inr rfl) ho hc hd (fun h' c' kp e=>fin its r' hz h' c' kp e) (by simp only [List.size_toArray] <;> omega)
theorem call_tuple_of:CallR X (.type "tuple") (fun xs H Q=>∃ p ys,xs=[.ref p]∧((SqL X.K H p ys∧∀ l,H l=none→Q (.ref l) (upd H l (.tup ys)))∨(SqT X.K H p ys∧Q (.ref p) H))):=by
  intro pins s σ H xs us Q I r h
  obtain ⟨p,ys,rfl,h⟩:=h
  obtain ⟨u,rfl,rx⟩:=vals1 r
  cases rx
  rcases h with ⟨hq,q⟩ | ⟨hq,q⟩
  · obtain ⟨its,r',pl,hz⟩:=I.list hq
    have hlen:=r'.length
    refine call_tuple_list pl.isList (fun h' kp=>?_) (by simp only [List.size_toArray] <;> omega)
    have I1:Inv X pins σ H { s with heap:=h' }:=I.kept (t':=s.toks) kp
    have I2:Inv X pins σ (upd H h'.objs.size (.tup ys)) { s with heap:=h'.push { cls:=.type "tuple", data:=.seq its.toArray } }:=
      I1.laid (t':=s.toks) (fun b o e=>Heap.get?_push_of_some _ e) (Nat.le_refl _) (show ObjOk X.prog X.w _ _ _ (.tup ys) from ⟨⟨hz,_,Heap.get?_push_size _ rfl,rfl⟩,its,r',IsTup.new _ _⟩)
    exact ⟨.ref h'.objs.size,_,I2,rfl,q _ (I1.hok.fresh (Nat.le_refl _))⟩
  · obtain ⟨its,r',pl,hz⟩:=I.tuple hq
    exact call_tuple_same pl ⟨.ref p,H,I,rfl,q⟩
def tyV (K:PySem.W.Frag) (T:String) (x:V) (H:Hp):Prop:=match x with
  | .str _=>T = "str"
  | .int _=>T = "int"
  | .ref p=>(T = "list" ∧ ∃ xs,SqL K H p xs)∨(T = "tuple" ∧ ∃ o,K.lookup p=some o∧o.cls=.type "tuple" ∧ o.dict=none) ∨
      (T = "dict" ∧ ((∃ kvs,H p=some (.dK kvs))∨∃ kvs,H p=some (.dT kvs)))∨(T = "set" ∧ ∃ S n,H p=some (.set S n))
  | _=>False
theorem tyV_is {pins:List (Addr × Obj)} {σ:St} {H:Hp} {s:Shared} {T:String} {x:V} {v:Value} (I:Inv X pins σ H s) (r:RelV x v) (ty:tyV X.K T x H) :
    s.TypeIs v T∧∀ a,v=.ref a→∃ ob,s.heap.get? a=some ob∧ob.dict=none:=by
  cases x with
  | str z=>
    obtain ⟨t,rfl⟩:=r
    cases (show T = "str" from ty)
    exact ⟨typeIs_str s z t,fun _ e=>nomatch e⟩
  | int i=>
    obtain ⟨t,rfl⟩:=r
    cases (show T = "int" from ty)
    exact ⟨typeIs_int s i t,fun _ e=>nomatch e⟩
  | ref p=>
    cases r
    rcases ty with ⟨rfl,xs,hq⟩ | ⟨rfl,o,hk,hc,hd⟩ | ⟨rfl,hk⟩ | ⟨rfl,S,n,hk⟩
    · obtain ⟨its,_,pl,_⟩:=I.list hq
      refine ⟨pl.isList.typeIs,fun a e=>?_⟩
      cases e
      obtain ⟨o,n,e,c,hd,_⟩:=pl
      exact ⟨o,e,hd⟩
    · refine ⟨⟨o,I.kIn p o hk,hc⟩,fun a e=>?_⟩
      cases e
      exact ⟨o,I.kIn _ o hk,hd⟩
    · have z:∃ o,s.heap.get? p=some o∧o.ExactDict:=by
        rcases hk with ⟨kvs,hk⟩ | ⟨kvs,hk⟩
        · obtain ⟨_,_,_,_,o,_,_,e,ex,_⟩:=I.hok p _ hk
          exact ⟨o,e,ex⟩
        · obtain ⟨_,_,_,_,o,_,_,e,ex,_⟩:=I.hok p _ hk
          exact ⟨o,e,ex⟩
      obtain ⟨o,e,ex⟩:=z
      refine ⟨⟨o,e,ex.1⟩,fun a e2=>?_⟩
      cases e2
      exact ⟨o,e,ex.2.1⟩
    · obtain ⟨o,_,_,_,e,ex,_⟩:=I.hok p _ hk
      refine ⟨⟨o,e,ex.1⟩,fun a e2=>?_⟩
      cases e2
      exact ⟨o,e,ex.2.1⟩
  | _=>exact False.elim ty
def tBM (K:PySem.W.Frag) (T:String) (r:V→List V→Hp→VK→Prop) (to:TE) (t:TA):TE:=fun σ H Q=>to σ H fun x H1=>tyV K T x H1∧t σ H1 fun xs H2=>r x xs H2 Q
variable {o e:Expr} {es:List Expr} {to:TE} {t:TA} {name:Str} {apos cpos:Pos} {T id:String} {r:V→List V→Hp→VK→Prop}
theorem pe_bm (pa:PlainAttrs T) (slot:Slot T name id) (hty:typeOf (.builtin id)=pure (.type "method_descriptor")) (hm:MtR X id r) (ho:PE X o to) (ha:PA X (e :: es) t)
    (hbase:attributeBase o name X.env (eval o X.env)=eval o X.env:=by rfl)
    (hfew:((backTo cpos (starEach (e :: es) X.env)).all (fun x=>!x.1) && (backToKw cpos (keywordEach [] X.env)).all (fun x=>x.1.isSome)
      && decide ((e :: es).length+([]:List Keyword).length+(if ([]:List Keyword).isEmpty then 0 else 1) < 30))=true:=by rfl)
    (hline:(apos.endLine == cpos.line)=true:=by rfl) (hs:starEach (e :: es) X.env=(false,eval e X.env) :: starEach es X.env:=by rfl) (hplain:(backTo cpos (starEach es X.env)).any (·.1)=false:=by rfl) :
    PE X (.Call (.Attribute o name apos) (e :: es) [] cpos) (tBM X.K T r to t):=by
  intro pins s σ H Q I h
  refine wpAny_Call_method_late hbase hfew hline rfl (thn (ho pins s σ H _ I h) fun v s1 ⟨x,H1,I1,r1,ty,q1⟩=>?_)
  obtain ⟨h1,h2⟩:=tyV_is I1 r1 ty
  refine ⟨T,id,pa,slot,hty,h1,h2,?_⟩
  have hA:=ha cpos pins s1 σ H1 _ I1 q1
  rw [hs] at hA ⊢
  refine Calls.callWith_builtin (by show (false || (backTo cpos (starEach es X.env)).any (·.1))=false;rw [hplain] <;> rfl) (Calls.evalArgs_plain ?_)
  exact thn hA fun us s2 ⟨vs,H2,I2,r2,q2⟩=>hm pins s2 σ H2 x vs v us Q I2 r1 r2 q2
/- xs.append(e),list.index on a module's tuple .. are MtR facts of 06m -/
end
end L2
namespace L2
open PySem PySem.Spec PyProof.Rows
def MtM (X:Cx) (id:String) (r:V→List V→Hp→VK→Prop):Prop:=
  ∀ (pins:List (Addr × Obj)) (s:Shared) (σ:St) (H:Hp) (x:V) (xs:List V) (v:Value) (us:List Value) (Q:VK),Inv X pins σ H s→RelV x v→Vals xs us→r x xs H Q →
    wpAny (model X.prog X.w) X.A (call (.builtin id) (v :: us)) (EP X pins σ Q) X.xe s
theorem Vals.one:∀ {x:V} {us:List Value},Vals [x] us→∃ u,us=[u]∧RelV x u
  | _,_,.cons r .nil=>⟨_,rfl,r⟩
theorem Vals.two:∀ {x y:V} {us:List Value},Vals [x,y] us→∃ u v,us=[u,v]∧RelV x u∧RelV y v
  | _,_,_,.cons r (.cons q .nil)=>⟨_,_,rfl,r,q⟩
theorem Vals.zero:∀ {us:List Value},Vals [] us→us=[]
  | _,.nil=>rfl
theorem Vals.reverse {xs:List V} {us:List Value} (h:Vals xs us):Vals xs.reverse us.reverse:=by
  induction h with
  | nil=>exact .nil
  | cons r t ih=>rw [List.reverse_cons,List.reverse_cons];exact Vals.append ih (.cons r .nil)
theorem Vals.rep {xs:List V} {us:List Value} (h:Vals xs us):∀ k:Nat,Vals (List.replicate k xs).flatten (List.replicate k us).flatten
  | 0=>.nil
  | k+1=>by
    rw [List.replicate_succ,List.replicate_succ,List.flatten_cons,List.flatten_cons]
    exact Vals.append h (Vals.rep h k)
theorem foldl_rep (its:List Value):∀ (k:Nat) (acc:List Value),
    List.foldl (fun x1 x2=>x1++x2) acc.toArray (List.replicate k its.toArray)=(acc++(List.replicate k its).flatten).toArray
  | 0,acc=>by simp
  | k+1,acc=>by
    have e:acc.toArray++its.toArray=(acc++its).toArray:=by simp
    have e2:(acc++its)++(List.replicate k its).flatten=acc++(List.replicate (k+1) its).flatten:=by
      rw [List.replicate_succ,List.flatten_cons,List.append_assoc]
    rw [← e2,← foldl_rep its k (acc++its),← e,List.replicate_succ,List.foldl_cons]
section
variable {X:Cx} {pins:List (Addr × Obj)} {σ:St} {H:Hp} {s:Shared} {l b:Addr} {xs ys zs:List V}
theorem Inv.lset {its its':List Value} {n:Nat} {f:Array Value→Array Value} {t':Nat} (I:Inv X pins σ H s) (hH:H l=some (.lst xs))
    (e:s.heap.get? l=some { cls:=.type "list", data:=.seq its.toArray n }) (hf:f its.toArray=its'.toArray) (hv:Vals ys its') (hz:ys.length≤sizeLine) :
    Inv X pins σ (upd H l (.lst ys)) { s with heap:=s.heap.update l (Obj.mapSeq f),toks:=t' }:=by
  have q:=PySem.IsL.update e f
  rw [hf] at q
  refine I.write (x:=l) (e:=l) (by rw [hH];exact trivial) (.inl rfl) (fun b' u hb hu=>(Heap.get?_update_other s.heap (Obj.mapSeq f) (Ne.symm hb)).trans hu) ⟨_,q⟩ ?_
  exact ⟨hz,its',_,hv,q⟩
theorem Inv.lnew {its:List Value} {t':Nat} (I:Inv X pins σ H s) (hv:Vals ys its) (hz:ys.length≤sizeLine) :
    Inv X pins σ (upd H s.heap.objs.size (.lst ys)) { s with heap:=s.heap.push { cls:=.type "list", data:=.seq its.toArray },toks:=t' }:=
  I.laid (fun _ _ q=>Heap.get?_push_of_some _ q) (Nat.le_refl _) ⟨hz,its,0,hv,Heap.get?_push_size _ rfl⟩
theorem Inv.fresh (I:Inv X pins σ H s):H s.heap.objs.size=none:=I.hok.fresh (Nat.le_refl _)
theorem Inv.lstM (I:Inv X pins σ H s) (hH:H l=some (.lst xs)):xs.length≤sizeLine∧∃ (its:List Value) (n:Nat),Vals xs its∧xs.length=its.length∧s.heap.get? l=some { cls:=.type "list", data:=.seq its.toArray n }:=by
  obtain ⟨z,its,n,r,e⟩:=I.hok l _ hH
  exact ⟨z,its,n,r,r.length,e⟩
theorem notLongL {n:Nat} (h:n≤sizeLine):Builtin.List.listTooLong n=false:=by
  unfold Builtin.List.listTooLong
  exact decide_eq_false (by omega)
end
section
variable {X:Cx}
def rAppend:V→List V→Hp→VK→Prop:=fun x vs H Q=>∃ l xs y,x=.ref l∧vs=[y]∧H l=some (.lst xs)∧xs.length < sizeLine∧Q .non (upd H l (.lst (xs++[y])))
theorem mt_append:MtM X "list.append" rAppend:=by
  intro pins s σ H x vs v us Q I rx rv h
  obtain ⟨l,xs,y,rfl,rfl,hH,hz,q⟩:=h
  cases rx
  obtain ⟨u,rfl,ru⟩:=rv.one
  obtain ⟨z,its,n,r,hl,e⟩:=I.lstM hH
  refine call_meets F.slot_list_append ⟨_,e,rfl⟩ F.entry_list_append (F.args_list_append_2 _ _) (PySem.list_append l its.toArray n u (by rw [List.size_toArray];omega)) ⟨e,?_⟩
  refine ⟨.non,_,I.lset (its':=its++[u]) hH e (by simp) (r.append (.cons ru .nil)) ?_,rfl,q⟩
  rw [List.length_append,List.length_singleton]
  omega
def rCat:R2:=fun x y H Q=>∃ l b xs zs,x=.ref l∧y=.ref b∧H l=some (.lst xs)∧H b=some (.lst zs)∧xs.length+zs.length≤sizeLine∧∀ p,H p=none→Q (.ref p) (upd H p (.lst (xs++zs)))
theorem op_cat:OpR X (binaryOp .Add) rCat:=by
  intro pins s σ H x y v u Q I rx ry h
  obtain ⟨l,b,xs,zs,rfl,rfl,hH,hB,hz,q⟩:=h
  cases rx
  cases ry
  obtain ⟨z,its,n,r,hl,e⟩:=I.lstM hH
  obtain ⟨z2,its2,n2,r2,hl2,e2⟩:=I.lstM hB
  refine PySem.P.add_list e e2 ?_ (by rw [List.size_toArray,List.size_toArray];omega)
  have ea:its.toArray++its2.toArray=(its++its2).toArray:=by simp
  rw [ea]
  exact ⟨.ref _,_,I.lnew (t':=s.toks) (r.append r2) (by rw [List.length_append];omega),rfl,q _ I.fresh⟩
def rRep:R2:=fun x y H Q=>∃ l k xs,x=.ref l∧y=.int k∧H l=some (.lst xs)∧-(2 ^ 63)≤k∧k < 2 ^ 63∧xs.length * k.toNat≤sizeLine ∧
  ∀ p,H p=none→Q (.ref p) (upd H p (.lst (List.replicate k.toNat xs).flatten))
theorem len_rep {α:Type} (xs:List α) (k:Nat):(List.replicate k xs).flatten.length=k * xs.length:=by
  induction k with
  | zero=>simp
  | succ k ih=>rw [List.replicate_succ,List.flatten_cons,List.length_append,ih,Nat.succ_mul,Nat.add_comm]
theorem op_rep:OpR X (binaryOp .Mult) rRep:=by
  intro pins s σ H x y v u Q I rx ry h
  obtain ⟨l,k,xs,rfl,rfl,hH,h1,h2,hz,q⟩:=h
  cases rx
  obtain ⟨t,rfl⟩:=ry
  obtain ⟨z,its,n,r,hl,e⟩:=I.lstM hH
  have hlen:its.toArray.size * k.toNat≤sizeLine:=by rw [List.size_toArray,← hl];exact hz
  have hcap:¬ its.toArray.size * k.toNat > (2 ^ 63 - 1) / 8:=by
    have:(sizeLine:Nat)≤(2 ^ 63 - 1) / 8:=by decide
    omega
  have hfit:¬ (!Builtin.List.listFitsIndex k)=true:=by
    rw [fitsIndex_both h1 h2]
    exact Bool.false_ne_true
  have hlong:¬ Builtin.List.listTooLong (its.toArray.size * k.toNat)=true:=by
    rw [notLongL hlen]
    exact Bool.false_ne_true
  have hnew:List.foldl (fun x1 x2=>x1++x2) #[] (List.replicate (if its.toArray.isEmpty=true then 0 else k.toNat) its.toArray)=(List.replicate k.toNat its).flatten.toArray:=by
    have f0:∀ m:Nat,List.foldl (fun x1 x2=>x1++x2) #[] (List.replicate m its.toArray)=(List.replicate m its).flatten.toArray:=fun m=>by
      have:=foldl_rep its m []
      rw [List.nil_append] at this
      exact this
    rw [f0]
    cases its with
    | nil=>simp
    | cons a r'=>rw [if_neg (by simp)]
  refine wpAny_binaryOp_repeat_ref (T := "list") (U := "int") (by decide) ⟨_,e,rfl⟩ (fun s'=>typeIs_int s' k t) noFill_list_mul F.fills_int_mul F.slot_int_rmul repeat_list F.slot_int_index.lookup
    (call_meets F.slot_int_rmul (typeIs_int s k t) F.entry_int_rmul (F.args_int_rmul_2 _ _) (int___rmul___int_list k t l its.toArray n)
      ⟨e,rfl,⟨_,e,rfl⟩,call_meets F.slot_list_mul ⟨_,e,rfl⟩ F.entry_list_mul (F.args_list_mul_2 _ _) (AutoListH.list___mul___list_int_3 l its.toArray n k t hfit hcap hlong) ⟨e,?_⟩⟩)
  rw [hnew]
  exact ⟨.ref _,_,I.lnew (t':=s.toks) (r.rep k.toNat) (by rw [len_rep,Nat.mul_comm];exact hz),rfl,q _ I.fresh⟩
end
section
variable {prog:Program} {w:World} {A:Around} {E:Value→Shared→Prop} {s:Shared}
end
section
variable {X:Cx}
end
end L2
namespace Att
open PySem PySem.W PySem.Calls PyProof.Rows
theorem ints_of_wellAll {P:Params} {h:Heap}:∀ (ns:List Int) (vs:List Value),WellAll P h vs (ns.map WData.int)→IntsAre vs ns:=by
  intro ns
  induction ns with
  | nil=>
    intro vs w
    rw [List.map_nil] at w
    cases w
    exact .nil
  | cons n ns ih=>
    intro vs w
    rw [List.map_cons] at w
    cases w with
    | cons a b=>
      cases a
      exact .cons _ _ (ih _ b)
theorem script_of {l:OpenLaw} {n:Nat} (hn:l.most=some n) {P:Params} {h:Heap} {args:List WData} {vals:List Value}
    (hpre:l.row.toRowW.claim.pre args=true) (hwl:WellAll P h vals args) :
    ∃ a vs ns,vals=[Value.ref a]∧args=[WData.list (ns.map WData.int)]∧h.get? a=some { cls:=.type "list", data:=.seq vs.toArray }∧IntsAre vs ns∧ns.length≤n:=by
  have hsh:WShape.hasAll [] args [.list .int]=true:=(pre_splitW hpre).1
  have hc:l.pre.holds [] { args:=args }=true:=(pre_splitW hpre).2
  obtain ⟨d,r,rfl,h1,h2⟩:=hasAllW_cons hsh
  obtain rfl:=hasAllW_nil h2
  obtain ⟨xs,rfl,h3⟩:=hasW_list h1
  obtain ⟨ns,rfl⟩:=items_int h3
  have hlen:ns.length≤n:=by
    unfold OpenLaw.pre at hc
    have h4:(WTm.not (.lt (.lit (.int (n:Int))) (.len (.arg 0)))).holds [] { args:=[.list (ns.map .int)] }=true:=by
      have h4:=(holds_andW hc).1
      rw [hn] at h4
      exact h4
    have h5:=condW_of h4 (w_not (w_lt w_lit (w_len_list (w_arg rfl))))
    rw [List.length_map] at h5
    refine Nat.le_of_not_lt fun q=>?_
    have q':(n:Int) < ((ns.length:Nat):Int):=by omega
    first
      | (rw [decide_eq_true q'] at h5;exact absurd h5 (by decide))
      | (simp at h5;omega)
  cases hwl with
  | cons w1 w2=>
    cases w2
    cases w1 with
    | list ho hall=>exact ⟨_,_,ns,rfl,rfl,ho,ints_of_wellAll ns _ hall,hlen⟩
theorem post_true (l:OpenLaw) (args:List WData):l.row.toRowW.claim.post args (.bool true) args=true:=
  postW_of (r:=l.row.toRowW) (X:=(true == true))
    (show WShape.has [] (.bool true) .bool=true by first | rfl | decide | simp [WShape.has,WShape.arms,WShape.armsAll])
    (show (WTm.eq .res (.lit (.bool true))).value [] { args:=args,res:=some (.bool true),after:=args }=some (.bool (true == true)) from w_eq_bool (w_res rfl) w_lit) rfl
theorem attach_call {l:OpenLaw} {n:Nat} {q:Program} {loose:List Str} {XP:(Str→Option Value)→Heap→Prop} {YP:World→Heap→Prop} {d:DefRec}
    (hn:l.most=some n) (hdf:d.params.defaults=[])
    (call:∀ (w:World) (s₀ s₁:Shared) (mg mb:Str→Option Value) (fa:Addr) (o:Obj) (pm cd doc:Value) (a:Addr) (vs:List Value) (ns:List Int),
      Ground q loose [] XP w s₀ mg mb s₁.heap→YP w s₁.heap →
      s₁.heap.get? fa=some o→o.data=.func (docDef d.name d.params d.body d.scope pm cd doc)→s₁.heap.CodeRec cd d.name→mg d.name=some (.ref fa) →
      s₁.heap.get? a=some { cls:=.type "list", data:=.seq vs.toArray }→IntsAre vs ns→ns.length≤n→s₁.gens=#[] →
      codeAny (model l.prog w) callerA (.call (.ref fa) ⟨[.ref a],[]⟩) (fun r s'=>r=.ok (.ret (.bool true))∧OldK s₁.heap s'.heap∧s'.os=s₁.os∧AllBare s'.gens) s₁) :
    WalkO q loose XP YP l.row.toRowW d [] (fun f vs=>PySem.call f vs):=by
  intro w s₀ s₁ mg mb G Y fa o pm cd doc dV kV ho hd hcd hD hmg hg args vals as hpre hlay hrd hwl hlo
  obtain rfl:dV=.none:=Dflts.none hD hdf
  obtain rfl:kV=.none:=Dflts.noKw hD
  obtain ⟨a,vs,ns,rfl,rfl,hobj,hints,hlen⟩:=script_of hn hpre hwl
  refine enter_call (codeAny_mono (call w s₀ s₁ mg mb fa o pm cd doc a vs ns G Y ho (fd_plain hd) hcd hmg hobj hints hlen hg) fun r s' hq=>?_)
  obtain ⟨rfl,h2,h3,h4⟩:=hq
  exact ⟨.inl ⟨.bool true,.bool true,[],rfl,fun _=>rfl,.bool true,post_true l _,fun _=>⟨List.Pairwise.nil,fun _ hm=>(nomatch hm)⟩⟩,h2,h3,h4⟩
section
variable {prog:Program} {w:World} {A:Around} {E:Value→Shared→Prop} {s:Shared} {K:Frag}
def ledger (h:Heap) (L d:Addr):List (Addr × Obj):=(List.range h.objs.size).filterMap fun a=>if a=L∨a=d then none else (h.get? a).map fun o=>(a,o)
end
end Att
namespace L2
open PySem PySem.Spec PyProof.Rows
theorem vals_ints:∀ {vs:List Value} {ns:List Int},IntsAre vs ns→Vals (ns.map V.int) vs
  | _,_,.nil=>.nil
  | _,_,.cons n t h=>.cons ⟨t,rfl⟩ (vals_ints h)
def Only (H:Hp):Prop:=∀ b,H b=none∨∃ o xs,H b=some (.frz o (.lst xs))
theorem law_call {P:Program} {w:World} {K:PySem.W.Frag} {mg mb:Str→Option Value} {CX:CXT} {k:Nat} {fa a:Addr} {fd:FuncData} {x:Str} {sp:Sp} {s₁:Shared} {vs:List Value} {ns:List Int}
    (KX:K.In s₁.heap) (hns:s₁.heap.Ns mainGlobals mg) (hb:s₁.heap.Ns builtinsNs mb) (hbb:∀ x:Str,x ≠ "__name__" → mb x=bootBuiltins x) (hlim:s₁.heap.NoLimit) (hg:s₁.gens=#[])
    (ha:s₁.heap.get? a=some { cls:=.type "list", data:=.seq vs.toArray }) (hi:IntsAre vs ns) (hl:ns.length≤sizeLine) (hr:Room k callerA)
    (F:∀ base:Heap,K.In base→base.Ns mainGlobals mg→FnOk P w K mg base CX k fa fd [x] sp) (hbind:∀ (s:Shared) (u:Value),BindsTo s fd ⟨[u],[]⟩ [(x,u)])
    (hsp:∀ H:Hp,Only H→SqL K H a (ns.map V.int)→sp [.ref a] H (fun v _=>v=.bl true) fun _ _ _=>False)
    (hCX:∀ H e s',CX [] H s₁ (fun _ _ _=>False) e s'→False) :
    codeAny (model P w) callerA (.call (.ref fa) ⟨[.ref a],[]⟩) (fun r s'=>r=.ok (.ret (.bool true))∧OldK s₁.heap s'.heap∧s'.os=s₁.os∧AllBare s'.gens) s₁:=by
  have rv:=vals_ints hi
  have lenV:=hi.length
  have core:∀ H:Hp,Only H→SqL K H a (ns.map V.int)→HOk P w H s₁.heap→(∀ b,H b≠none→b=a)→(H a≠none→K.lookup a=none) →
      codeAny (model P w) callerA (.call (.ref fa) ⟨[.ref a],[]⟩) (fun r s'=>r=.ok (.ret (.bool true))∧OldK s₁.heap s'.heap∧s'.os=s₁.os∧AllBare s'.gens) s₁:=by
    intro H hO hS hok hA hK
    have base_of:∀ {b:Addr} {o:Obj},s₁.heap.get? b=some o→H b=none→(hidT s₁.heap H).get? b=some o:=fun e n=>hidT_get e n
    have noA:∀ {b:Addr} {o:Obj} {es:Array DictEntry} {ep:Nat},s₁.heap.get? b=some o→o.data=.dict es ep→H b=none:=fun {b o es ep} e d=>by
      cases q:H b with
      | none=>rfl
      | some u=>
        have e':b=a:=hA b (by rw [q];simp)
        subst e'
        rw [ha] at e;cases e
        have d':Data.seq vs.toArray _=Data.dict es ep:=d
        cases d'
    have nsK:∀ {b:Addr} {m:Str→Option Value},s₁.heap.Ns b m→(hidT s₁.heap H).Ns b m:=fun {b m} ⟨o,es,ep,e,d,r⟩=>⟨o,es,ep,base_of e (noA e d),d,r⟩
    have hKb:K.In (hidT s₁.heap H):=fun b o e=>base_of (KX b o e) (by
      cases q:H b with
      | none=>rfl
      | some u=>
        have e':b=a:=hA b (by rw [q];simp)
        subst e'
        rw [hK (by rw [q];simp)] at e;cases e)
    have hM:Mod K mg (hidT s₁.heap H):=⟨hKb,nsK hns,⟨mb,nsK hb,hbb⟩,let ⟨mc,h1,h2⟩:=hlim;⟨mc,nsK h1,h2⟩⟩
    have e0:Env0 P w K mg (hidT s₁.heap H) callerA [] s₁ H:=⟨rfl,hM,fun b o e=>of_hidT e,Nat.le_of_eq (hidT_size _ _),trivial,fun b hb=>absurd (show b∈([]:List Addr) from hb) (by simp),hok,.of_eq hg⟩
    refine codeAny_mono ((F _ hKb (nsK hns)).run callerA [] s₁ H ⟨[.ref a],[]⟩ [.ref a] [.ref a] _ _ hr e0 (hbind s₁ (.ref a)) (.cons rfl .nil) (hsp H hO hS)) fun r s' h=>?_
    cases r with
    | error e=>exact (hCX H e s' h).elim
    | ok fl=>
      cases fl with
      | next=>exact False.elim h
      | brk=>exact False.elim h
      | cont=>exact False.elim h
      | ret u=>
        obtain ⟨v,H',os,bare,un,hok',r',q⟩:=h
        have q':v=.bl true:=q
        subst q'
        obtain rfl:u=Value.bool true:=r'
        refine ⟨rfl,OldK.of_keep fun b o e=>?_,os,bare⟩
        cases q:H b with
        | none=>exact un.keep b o e q (by intro z;exact absurd (show b∈([]:List Addr) from z) (by simp)) (by simp)
        | some u=>
          rcases hO b with z | ⟨ob,xs,z⟩
          · rw [q] at z;cases z
          · have z2:=un.frzs b ob _ z
            obtain ⟨e1,_⟩:=hok b _ z
            obtain ⟨e2,_⟩:=hok' b _ z2
            rw [e] at e1;cases e1
            exact e2
  cases hk:K.lookup a with
  | some o=>
    have e:=KX a o hk
    rw [ha] at e
    cases e
    refine core (fun _=>none) (fun _=>.inl rfl) (.inr ⟨_,vs.toArray,_,hk,rfl,rfl,rfl,by rw [List.size_toArray,lenV];exact hl,by simpa using rv⟩) (fun b u z=>by have z':(none:Option HO)=some u:=z;cases z') (fun b z=>absurd rfl z) fun z=>absurd rfl z
  | none=>
    refine core (fun b=>if b=a then some (.frz { cls:=.type "list", data:=.seq vs.toArray } (.lst (ns.map V.int))) else none) (fun b=>?_) (.inl (.inr ⟨{ cls:=.type "list", data:=.seq vs.toArray },if_pos rfl⟩)) (fun b u z=>?_) (fun b z=>?_) fun _=>hk
    · by_cases hb:b=a
      · exact .inr ⟨_,_,if_pos hb⟩
      · exact .inl (if_neg hb)
    · by_cases hb:b=a
      · have z':=(if_pos hb).symm.trans z
        cases z'
        subst hb
        exact ⟨ha,by rw [List.length_map];exact hl,vs,_,rv,ha⟩
      · have z':=(if_neg hb).symm.trans z
        cases z'
    · by_cases hb:b=a
      · exact hb
      · exact absurd (if_neg hb) z
end L2
namespace L2
open PySem PySem.Spec PyProof.Rows
abbrev KOf {K:PySem.W.Frag} {h:Heap} (_:K.In h):PySem.W.Frag:=K
theorem walk_of {l:PySem.W.OpenLaw} {n k:Nat} {q:Program} {loose:List Str} {XP:(Str→Option Value)→Heap→Prop} {YP:World→Heap→Prop} {d:DefRec} {K:Params→PySem.W.Frag} {CX:World→CXT} {sp:World→Sp} {x:Str}
    (hn:l.most=some n) (hn2:n≤sizeLine) (hdf:d.params.defaults=[]) (hr:Room k callerA)
    (hY:∀ (w:World) (h:Heap),YP w h→(K w.params).In h)
    (F:∀ (w:World) (mg:Str→Option Value) (fa:Addr) (h:Heap),(K w.params).In h→h.Ns mainGlobals mg→mg d.name=some (.ref fa) →
      ∃ fd:FuncData,(∀ (s:Shared) (u:Value),BindsTo s fd ⟨[u],[]⟩ [(x,u)]) ∧
        ∀ base:Heap,(K w.params).In base→base.Ns mainGlobals mg→FnOk l.prog w (K w.params) mg base (CX w) k fa fd [x] (sp w))
    (hsp:∀ (w:World) (H:Hp) (a:Addr) (ns:List Int),ns.length≤n→Only H→SqL (K w.params) H a (ns.map V.int)→sp w [.ref a] H (fun v _=>v=.bl true) fun _ _ _=>False)
    (hCX:∀ (w:World) (H:Hp) (s:Shared) (e:Value) (s':Shared),CX w [] H s (fun _ _ _=>False) e s'→False) :
    PySem.W.WalkO q loose XP YP l.row.toRowW d [] (fun f vs=>PySem.call f vs):=by
  refine Att.attach_call hn hdf fun w s₀ s₁ mg mb fa o pm cd doc a vs ns G Y ho hd hcd hmg hobj hints hlen hg=>?_
  have KX:=hY w _ Y
  obtain ⟨fd,hb,hF⟩:=F w mg fa _ KX G.T.g hmg
  exact law_call KX G.T.g G.T.b G.T.builtins G.T.nolimit hg hobj hints (Nat.le_trans hlen hn2) hr hF hb (fun H hO hS=>hsp w H a ns hlen hO hS) fun H e s'=>hCX w H s₁ e s'
theorem walk_ofK {l:PySem.W.OpenLaw} {n k:Nat} {q:Program} {loose:List Str} {XP:(Str→Option Value)→Heap→Prop} {YP:World→Heap→Prop} {d:DefRec} {K:Params→PySem.W.Frag} {CX:CXT} {sp:PySem.W.Frag→Sp} {x:Str}
    (hn:l.most=some n) (hn2:n≤sizeLine) (hdf:d.params.defaults=[]) (hr:Room k callerA)
    (hY:∀ (w:World) (h:Heap),YP w h→(K w.params).In h)
    (F:∀ (w:World) (mg:Str→Option Value) (fa:Addr) (h:Heap),(K w.params).In h→h.Ns mainGlobals mg→mg d.name=some (.ref fa) →
      ∃ fd:FuncData,(∀ (s:Shared) (u:Value),BindsTo s fd ⟨[u],[]⟩ [(x,u)]) ∧
        ∀ base:Heap,(K w.params).In base→base.Ns mainGlobals mg→FnOk l.prog w (K w.params) mg base CX k fa fd [x] (sp (K w.params)))
    (hsp:∀ (K:PySem.W.Frag) (H:Hp) (a:Addr) (ns:List Int),ns.length≤n→Only H→SqL K H a (ns.map V.int)→sp K [.ref a] H (fun v _=>v=.bl true) fun _ _ _=>False)
    (hCX:∀ (H:Hp) (s:Shared) (e:Value) (s':Shared),CX [] H s (fun _ _ _=>False) e s'→False) :
    PySem.W.WalkO q loose XP YP l.row.toRowW d [] (fun f vs=>PySem.call f vs):=
  walk_of (K:=K) (CX:=fun _=>CX) (sp:=fun w=>sp (K w.params)) hn hn2 hdf hr hY F (fun w H a ns h1 h2 h3=>hsp (K w.params) H a ns h1 h2 h3) fun _ H s e s'=>hCX H s e s'
end L2
namespace L2
open PySem PySem.Spec PyProof.Rows
def defArgs (s:Stmt):Arguments:=match s with
  | .FunctionDef _ a _ _ _ _ _ _ _ _=>a
  | _=>{ posonlyargs:=[],args:=[],vararg:=none,kwonlyargs:=[],kw_defaults:=[],kwarg:=none,defaults:=[] }
def defBody (s:Stmt):List Stmt:=match s with
  | .FunctionDef _ _ b _ _ _ _ _ _ _=>b
  | _=>[]
def defScope (s:Stmt):Scope:=match s with
  | .FunctionDef _ _ _ _ _ _ sc _ _ _=>sc
  | _=>{ kind:=.function,names:=[],isGenerator:=false,isCoroutine:=false }
abbrev CX0:CXT:=fun _ _ _ _ _ _=>False
abbrev E0:XK:=fun _ _ _=>False
theorem pass0 {X:Cx}:Passes CX0 X E0:=fun _ _ _ _ _ _ _ h=>h.elim
structure Fun (K:PySem.W.Frag) (x qual:Str) (st:Stmt) (f:Addr) (fd:FuncData):Prop where
  ex:∃ (oc:Value) (od:Option Addr) (kV doc pm:Value) (an:Option Addr) (cdv ct:Value) (osl:Array (Option Value)),
    fd=PySem.W.fnOf x qual (defArgs st) (defBody st) (defScope st) .none kV doc pm an cdv ct∧K.lookup f=some ⟨oc,od,.func fd,osl⟩∧PySem.W.codeIn K cdv qual=true
  kp:PySem.W.keepIn K (.ref f)=true
section
variable {P:Program} {w:World} {K:PySem.W.Frag} {mg:Str→Option Value} {base:Heap}
theorem Fun.ok {x qual:Str} {st:Stmt} {f:Addr} {fd:FuncData} {N ps:List Str} {k:Nat} {sp:Sp} (F:Fun K x qual st f fd) (S:FnScope N ps (defScope st)) (len:∀ vs H Q E,sp vs H Q E→vs.length=ps.length)
    (hbody:∀ (cdv:Value) (A:Around) (outer:List Env) (s:Shared) (H:Hp) (vs:List V) (Q:VK) (E:XK),Room k (A.deeper (envOfC qual (defScope st) s.heap.objs.size f cdv))→sp vs H Q E →
      ∃ t,PSs (cxOf CX0 P w K mg base N qual (defScope st) f cdv A outer s H E).nox (defBody st) t∧t { nx:=fun _ H'=>Q .non H',rt:=Q } (start N vs) H):FnOk P w K mg base CX0 (k+1) f fd ps sp:=by
  obtain ⟨oc,od,kV,doc,pm,an,cdv,ct,osl,rfl,lk,hcd⟩:=F.ex
  refine fn_of lk hcd S len fun A outer s H vs Q E hr hsp=>?_
  obtain ⟨t,h,q⟩:=hbody cdv A outer s H vs Q E hr hsp
  exact ⟨t,h.nox,q⟩
theorem Fun.binds {x qual:Str} {st:Stmt} {f:Addr} {fd:FuncData} {ps:List Str} (F:Fun K x qual st f fd)
    (h:∀ (kV doc pm:Value) (an:Option Addr) (cdv ct:Value) (us:List Value),us.length=ps.length→bindArgs (PySem.W.fnOf x qual (defArgs st) (defBody st) (defScope st) .none kV doc pm an cdv ct) ⟨us,[]⟩=pure (ps.zip us)):Binds K fd ps []:=by
  obtain ⟨oc,od,kV,doc,pm,an,cdv,ct,osl,rfl,lk,hcd⟩:=F.ex
  exact .all (h kV doc pm an cdv ct)
theorem fun_mk {x qual:Str} {st:Stmt} {f:Addr} {oc:Value} {od an:Option Addr} {osl:Array (Option Value)} {kV doc pm cdv ct:Value} (l:K.lookup f=some ⟨oc,od,.func (PySem.W.fnOf x qual (defArgs st) (defBody st) (defScope st) .none kV doc pm an cdv ct),osl⟩)
    (c:PySem.W.codeIn K cdv qual=true) (k:PySem.W.keepIn K (.ref f)=true):Fun K x qual st f (PySem.W.fnOf x qual (defArgs st) (defBody st) (defScope st) .none kV doc pm an cdv ct):=⟨⟨oc,od,kV,doc,pm,an,cdv,ct,osl,rfl,l,c⟩,k⟩
end
theorem small1000 {n:Nat} (h:n≤1000):n < sizeLine:=Nat.lt_of_le_of_lt h (by decide)
section
variable {X:Cx}
theorem pv (i:Nat) {x:Str} {pos:Pos} (hN:X.N[i]?=some x:=by rfl) (hv:Vis X.env.scope x:=by first | exact Or.inl rfl | exact Or.inr (Or.inl rfl) | exact Or.inr (Or.inr rfl)) (hd:(x == ("__debug__" : Str))=false:=by decide)
    (hcd:(x == ("__classdict__" : Str))=false:=by decide):PE X (.Name x pos) (tVar i):=pe_var hN hv hd hcd
end
theorem iteF {A B:Prop} (h:B):if false=true then A else B:=by
  rw [if_neg Bool.false_ne_true]
  exact h
theorem iteT {A B:Prop} (h:A):if true=true then A else B:=by
  rw [if_pos rfl]
  exact h
theorem ite2 {c A B:Prop} [Decidable c] (h1:c→A) (h2:¬ c→B):if c then A else B:=by
  by_cases h:c
  · rw [if_pos h]
    exact h1 h
  · rw [if_neg h]
    exact h2 h
def Same (H H':Hp):Prop:=∀ b o,H b=some o→H' b=some o
theorem Same.refl (H:Hp):Same H H:=fun _ _ h=>h
theorem Same.trans {H H1 H2:Hp} (a:Same H H1) (b:Same H1 H2):Same H H2:=fun c o h=>b c o (a c o h)
theorem Same.free {H H':Hp} (e:Same H H') {l:Addr} (h:H' l=Option.none):H l=Option.none:=by
  cases q:H l with
  | none=>rfl
  | some o=>
    rw [e l o q] at h
    cases h
theorem Same.seq {K:PySem.W.Frag} {H H':Hp} {a:Addr} {xs:List V} (e:Same H H') (h:SqL K H a xs):SqL K H' a xs:=by
  rcases h with (h | ⟨o,h⟩) | h
  · exact .inl (.inl (e _ _ h))
  · exact .inl (.inr ⟨o,e _ _ h⟩)
  · exact .inr h
end L2
set_option maxHeartbeats 16000000
namespace L2
open PySem PySem.Spec PyProof.Rows
theorem lookup_mem {α:Type}:∀ {cl:List (Str × α)} {x:Str} {c:α},cl.lookup x=some c→(x,c)∈cl
  | [],_,_,h=>by simp at h
  | (y,d) :: r,x,c,h=>by
    rw [List.lookup_cons] at h
    cases e:x == y with
    | true=>
      rw [e] at h
      have e':x=y:=eq_of_beq e
      cases h
      rw [e'];exact List.mem_cons_self
    | false=>
      rw [e] at h
      exact List.mem_cons_of_mem _ (lookup_mem h)
theorem lookup_of_mem {α:Type}:∀ {cl:List (Str × α)} {x:Str} {c:α},(x,c)∈cl→∃ c',cl.lookup x=some c'
  | [],_,_,h=>nomatch h
  | (y,d) :: r,x,c,h=>by
    rw [List.lookup_cons]
    cases e:x == y with
    | true=>exact ⟨d,rfl⟩
    | false=>
      rcases List.mem_cons.mp h with h | h
      · cases h
        simp at e
      · exact lookup_of_mem h
theorem closure_go {env:Env} {f:(Str × NameKind)→List (Str × Addr)→Sem (ForInStep (List (Str × Addr)))}
    (h1:∀ x k cs,k≠NameKind.free→f (x,k) cs=pure (.yield cs)) (h2:∀ x cs c,env.cells.lookup x=some c→f (x,NameKind.free) cs=pure (.yield ((x,c) :: cs))) :
    ∀ (names:List (Str × NameKind)) (acc:List (Str × Addr)),(∀ x,(x,NameKind.free)∈names→∃ c,env.cells.lookup x=some c) →
      ∃ cl,forIn names acc f=pure cl∧(∀ p∈cl,p∈acc∨env.cells.lookup p.1=some p.2)∧(∀ p∈acc,p∈cl)∧∀ x,(x,NameKind.free)∈names→∃ c,(x,c)∈cl
  | [],acc,_=>⟨acc,rfl,fun _ h=>.inl h,fun _ h=>h,fun _ h=>nomatch h⟩
  | (x,k) :: r,acc,h=>by
    by_cases hk:k=NameKind.free
    · subst hk
      obtain ⟨c,hc⟩:=h x List.mem_cons_self
      obtain ⟨cl,e,a,b,d⟩:=closure_go h1 h2 r ((x,c) :: acc) fun y hy=>h y (List.mem_cons_of_mem _ hy)
      refine ⟨cl,?_,fun p hp=>?_,fun p hp=>b p (List.mem_cons_of_mem _ hp),fun y hy=>?_⟩
      · rw [List.forIn_cons,h2 x acc c hc,pure_bind];exact e
      · rcases a p hp with q | q
        · rcases List.mem_cons.mp q with q | q
          · subst q;exact .inr hc
          · exact .inl q
        · exact .inr q
      · rcases List.mem_cons.mp hy with q | q
        · cases q;exact ⟨c,b _ List.mem_cons_self⟩
        · exact d y q
    · obtain ⟨cl,e,a,b,d⟩:=closure_go h1 h2 r acc fun y hy=>h y (List.mem_cons_of_mem _ hy)
      refine ⟨cl,?_,a,b,fun y hy=>?_⟩
      · rw [List.forIn_cons,h1 x k acc hk,pure_bind];exact e
      · rcases List.mem_cons.mp hy with q | q
        · cases q;exact absurd rfl hk
        · exact d y q
theorem closure_ok {scope:Scope} {env:Env} (h:∀ x,(x,NameKind.free)∈scope.names→∃ c,env.cells.lookup x=some c) :
    ∃ cl,closureFor scope env=pure cl∧(∀ x c,cl.lookup x=some c→env.cells.lookup x=some c)∧∀ x,(x,NameKind.free)∈scope.names→∃ c,cl.lookup x=some c:=by
  have go:=closure_go (env:=env) (f:=fun x cs=>match x with | (name,kind)=>if (kind == NameKind.free)=true then do let a ← cellOf env name;pure (.yield ((name,a) :: cs)) else pure (.yield cs))
    (fun x k cs hk=>by
      have:(k == NameKind.free)=false:=by simpa using hk
      simp only [this,Bool.false_eq_true,if_false])
    (fun x cs c hc=>by
      simp only [beq_self_eq_true,if_true]
      unfold cellOf
      rw [hc,pure_bind])
    scope.names [] h
  obtain ⟨cl,e,a,_,d⟩:=go
  refine ⟨cl,?_,fun x c hx=>?_,fun x hx=>?_⟩
  · unfold closureFor
    simp only [bind_pure]
    exact e
  · rcases a _ (lookup_mem hx) with q | q
    · exact nomatch q
    · exact q
  · obtain ⟨c,hc⟩:=d x hx
    exact lookup_of_mem hc
theorem relabel_lookup {env:Env} {x:Str} {k:NameKind}:∀ {names:List (Str × NameKind)},
    (names.map fun (n,k)=>if (k == NameKind.free && env.scope.kind == .function && env.kindOf n == some .cell) then (n,NameKind.cell) else (n,k)).lookup x=some k →
      names.lookup x=some k∨(k=.cell∧names.lookup x=some .free)
  | [],h=>by simp at h
  | (n,j) :: r,h=>by
    have ih:=@relabel_lookup env x k r
    rw [List.lookup_cons]
    change List.lookup x ((if (j == NameKind.free && env.scope.kind == .function && env.kindOf n == some .cell)=true then (n,NameKind.cell) else (n,j)) :: _)=_ at h
    by_cases hc:(j == NameKind.free && env.scope.kind == .function && env.kindOf n == some .cell)=true
    · rw [if_pos hc,List.lookup_cons] at h
      have hj:j=NameKind.free:=by
        simp only [Bool.and_eq_true] at hc
        exact eq_of_beq hc.1.1
      cases hx:x == n with
      | true=>rw [hx] at h;cases h;exact .inr ⟨rfl,by rw [hj]⟩
      | false=>rw [hx] at h;exact ih h
    · rw [if_neg hc,List.lookup_cons] at h
      cases hx:x == n with
      | true=>rw [hx] at h;exact .inl h
      | false=>rw [hx] at h;exact ih h
def cxComp (X:Cx) (scope:Scope) (NL:List Str) (ix:List Nat) (cl:List (Str × Addr)) (C:Addr) (s₃:Shared) (H₃:Hp) (fp:List Addr) (pins:List (Addr × Obj)):Cx where
  prog:=X.prog
  w:=X.w
  K:=X.K
  mg:=X.mg
  base:=X.base
  A:=X.A
  N:=NL++ix.map fun j=>X.N.getD j ""
  s₀:=s₃
  H₀:=H₃
  env:=compEnvC scope cl C X.env
  outer:=X.stack
  stack:=X.stack
  ex:=fp
  fn:=fun _=>false
  calm:=X.calm
  pn:=X.pn++pins
  xe:=fun _ _=>False
def comp0 (NL:List Str) (ix:List Nat) (σ:St):St:=NL.map (fun _=>none)++ix.map fun j=>σ.getD j none
def PIfs (X:Cx) (ifs:List Expr) (t:TT):Prop:=
  ∀ (pins:List (Addr × Obj)) (s:Shared) (σ:St) (H:Hp) (Q:Bool→Hp→Prop),Inv X pins σ H s→t σ H Q →
    wpAny (model X.prog X.w) X.A (forIn ifs true fun c r=>if r=true then do let ok ← isTrue c X.env (eval c X.env);pure (ForInStep.yield ok) else pure (ForInStep.yield r)) (TP X pins σ Q) X.xe s
def tYes:TT:=fun _ H Q=>Q true H
theorem pifs_nil {X:Cx}:PIfs X [] tYes:=fun _ _ _ H _ I h=>wpAny_tests_nil ⟨H,I,h⟩
theorem pifs_one {X:Cx} {c:Expr} {t:TT} (h:PT X c t):PIfs X [c] t:=fun pins s σ H Q I q=>wpAny_tests_one (h pins s σ H Q I q)
def tComp (NL:List Str) (ix:List Nat) (wi:TI) (g:TG) (tt:TT) (te:TE):TE:=fun σ H Q=>
  wi σ H fun J H1=>∀ acc,H1 acc=none→∃ W:Nat→Nat→List V→Hp→Prop,(∃ m,W 0 m [] (upd H1 acc (.lst []))) ∧
    ∀ i m ys H2,W i m ys H2→H2 acc=some (.lst ys)∧ys.length < sizeLine ∧
      ((J.stop i H2∧Q (.ref acc) H2)∨(J.go i H2∧∃ N:List V→Hp→Prop,(∀ ys' H',N ys' H'→∃ m',m' < m∧W (i+1) m' ys' H') ∧
        ∀ x H3,J.yld i H2 x H3→g x (comp0 NL ix σ) H3 fun σ' H4=>σ'.drop NL.length=ix.map (fun j=>σ.getD j none)∧tt σ' H4 fun b H5=>
          if b=true then te σ' H5 fun v H6=>H6 acc=some (.lst ys)∧N (ys++[v]) (upd H6 acc (.lst (ys++[v]))) else N ys H5))
section
variable {X:Cx} {pins:List (Addr × Obj)} {σ:St} {H:Hp} {s:Shared}
structure CompScope (X:Cx) (scope:Scope) (NL:List Str) (ix:List Nat):Prop where
  kind:scope.kind=.function
  cell:∀ y∈scope.names,y.2≠.cell
  names:∀ y∈scope.names,y.2=.local→scope.names.lookup y.1=some .local
  free:∀ y∈scope.names,y.2=.free→X.env.kindOf y.1=some .cell∨X.env.kindOf y.1=some .free
  cap:∀ j∈ix,∃ x,X.N[j]?=some x∧scope.names.lookup x=some .free
theorem comp_inv {scope:Scope} {NL:List Str} {ix:List Nat} {cl:List (Str × Addr)} {fp:List Addr} {tn:Nat→Heap→Prop} {s₃:Shared} {h₁:Heap} {m:Str→Option Value} {tk:Nat}
    (S:CompScope X scope NL ix) (I:Inv X pins σ H s₃) (c1:∀ x c,cl.lookup x=some c→X.env.cells.lookup x=some c) (c2:∀ x,(x,NameKind.free)∈scope.names→∃ c,cl.lookup x=some c)
    (hf:∀ b∈fp,FpOk X pins H b) (ho:∀ b∈fp,∃ o,s₃.heap.get? b=some o) (hn:h₁.Ns s₃.heap.objs.size m) (old:∀ b o,s₃.heap.get? b=some o→h₁.get? b=some o) :
    Inv (cxComp X scope NL ix cl s₃.heap.objs.size s₃ H fp pins) [] (comp0 NL ix σ) H { s₃ with heap:=h₁,toks:=tk }:=by
  have e0:=I.env0
  have lt:∀ b o,s₃.heap.get? b=some o→b≠s₃.heap.objs.size:=fun b o e=>Nat.ne_of_lt (Heap.lt_size e)
  have nst:∀ b,b≠X.env.locals→b ∉ X.fs→b ∉ frs X.stack:=fun b h1 h2 h3=>(List.mem_cons.mp (I.stkSub b h3)).elim h1 h2
  have ok:(cxComp X scope NL ix cl s₃.heap.objs.size s₃ H fp pins).Ok:=
    { mod:=I.ok.mod
      kind:=S.kind
      glob:=I.ok.glob
      blt:=I.ok.blt
      above:=Nat.le_refl _
      inj:=fun x y c h1 h2=>I.ok.inj x y c (c1 x c h1) (c1 y c h2)
      has:=fun x hx=>by
        have hfree:scope.names.lookup x=some .free:=by
          rcases hx with hx | hx
          · rcases relabel_lookup hx with q | ⟨_,q⟩
            · exact absurd rfl (S.cell _ (lookup_mem q))
            · exact q
          · rcases relabel_lookup hx with q | ⟨z,_⟩
            · exact q
            · cases z
        exact c2 x (lookup_mem hfree)
      cab:=fun _ _ z=>nomatch z
      hd:=I.ok.hd
      frames:=I.ok.frames
      stk:=.inl rfl
      exf:=fun b hb=>⟨let ⟨o,e⟩:=ho b hb;lt b o e,fun x c hx=>(hf b hb).2.2.2.2.1 x c (c1 x c hx)⟩
      bs:=I.bs
      bsz:=e0.bsz
      noex:=fun b o e hb=>by
        rcases (hf b hb).2.2.2.1 with z | z
        · exact I.ok.noex b o e z
        · exact absurd (Nat.lt_of_lt_of_le (Heap.lt_size e) (Nat.le_trans I.ok.bsz z)) (Nat.lt_irrefl _)
      exfs:=fun b hb=>nst b (hf b hb).2.1 (hf b hb).2.2.1
      funs:=e0.funs
      frf:=e0.frf }
  refine ⟨ok,rfl,I.bare,Un.kept old,⟨m,hn,fun i x v e1 e2 e3=>?_⟩,fun x c e=>?_,I.hok.fresh (Nat.le_refl _),fun x c e=>I.freeC x c (c1 x c e),fun p hp=>?_,I.hok.kept old,?_⟩
  · have hl:NL.length≤i:=by
      rcases Nat.lt_or_ge i NL.length with z | z
      · exfalso
        unfold comp0 at e2
        rw [List.getElem?_append_left (by simpa using z),List.getElem?_map] at e2
        cases q:NL[i]? with
        | none=>rw [q] at e2;cases e2
        | some y=>rw [q] at e2;cases e2
      · exact z
    unfold comp0 at e2
    rw [List.getElem?_append_right (by simpa using hl),List.length_map,List.getElem?_map] at e2
    change (NL++ix.map fun j=>X.N.getD j "")[i]?=some x at e1
    rw [List.getElem?_append_right hl,List.getElem?_map] at e1
    cases q:ix[i - NL.length]? with
    | none=>rw [q] at e1;cases e1
    | some j=>
      rw [q] at e1 e2
      have e1':X.N.getD j "" = x:=Option.some.inj e1
      have e2':σ.getD j none=some v:=Option.some.inj e2
      obtain ⟨x',hx',hfr⟩:=S.cap j (List.mem_of_getElem? q)
      have exx:x'=x:=by
        rw [← e1',List.getD_eq_getElem?_getD,hx'];rfl
      subst exx
      have hσ:σ[j]?=some (some v):=by
        rw [List.getD_eq_getElem?_getD] at e2'
        cases z:σ[j]? with
        | none=>rw [z] at e2';cases e2'
        | some o=>rw [z] at e2';exact congrArg some e2'
      have kd:=S.free _ (lookup_mem hfr) rfl
      have vis:Vis X.env.scope x':=by
        rcases kd with z | z
        · exact .inr (.inl z)
        · exact .inr (.inr z)
      obtain ⟨m',hn',hl'⟩:=I.loc
      obtain ⟨u,r,l⟩:=hl' j x' v hx' hσ vis
      refine ⟨u,r,.inr ?_⟩
      have hk':(compEnvC scope cl s₃.heap.objs.size X.env).kindOf x'=some .cell∨(compEnvC scope cl s₃.heap.objs.size X.env).kindOf x'=some .free:=by
        rcases e3 with z | z | z
        · rcases relabel_lookup z with w | ⟨w,_⟩
          · rw [hfr] at w;cases w
          · cases w
        · exact .inl z
        · exact .inr z
      refine ⟨hk',?_⟩
      obtain ⟨c,hc⟩:=c2 x' (lookup_mem hfr)
      rcases l with ⟨k,_⟩ | ⟨k,c',ec,o,ho',hd⟩
      · rcases kd with z | z
        · rw [k] at z;cases z
        · rw [k] at z;cases z
      · have:c'=c:=by
          have:=c1 x' c hc
          rw [ec] at this
          exact Option.some.inj this
        subst this
        exact ⟨c',hc,o,old _ _ ho',hd⟩
  · obtain ⟨v,o,ho',hd⟩:=I.cell x c (c1 x c e)
    exact ⟨v,o,old _ _ ho',hd⟩
  · have hp':p∈X.pn++pins:=by
      rcases List.mem_append.mp hp with z | z
      · exact z
      · exact nomatch z
    obtain ⟨e,n,ne,nf,d⟩:=I.pin p hp'
    exact ⟨old _ _ e,n,lt _ _ e,nst _ ne nf,d⟩
  · show (NL.map (fun _=>(none:Option V))++ix.map fun j=>σ.getD j none).length=(NL++ix.map fun j=>X.N.getD j "").length
    simp
theorem comp_run {scope:Scope} {NL:List Str} {ix:List Nat} {elt tg iter:Expr} {ifs:List Expr} {pos:Pos} {g:TG} {tt:TT} {te:TE} {cl:List (Str × Addr)} {fp:List Addr} {it:Addr} {tn:Nat→Heap→Prop} {J:It} {Q:VK}
    {E:Value→Shared→Prop} {RR:Value→Addr→Result→Shared→Prop}
    (hc:X.calm=true) (S:CompScope X scope NL ix) (c1:∀ x c,cl.lookup x=some c→X.env.cells.lookup x=some c) (c2:∀ x,(x,NameKind.free)∈scope.names→∃ c,cl.lookup x=some c)
    (hb:∀ (cl:List (Str × Addr)) (C:Addr) (s₃:Shared) (H₃:Hp) (fp:List Addr) (pins:List (Addr × Obj)),PG (cxComp X scope NL ix cl C s₃ H₃ fp pins) tg g∧PIfs (cxComp X scope NL ix cl C s₃ H₃ fp pins) ifs tt∧PE (cxComp X scope NL ix cl C s₃ H₃ fp pins) elt te)
    (I:Inv X pins σ H s) (T:Turn X.prog X.w X.K tg J fp it tn) (st:tn 0 s.heap) (hf:∀ b∈fp,FpOk X pins H b)
    (q:∀ acc,H acc=none→∃ W:Nat→Nat→List V→Hp→Prop,(∃ m,W 0 m [] (upd H acc (.lst []))) ∧
      ∀ i m ys H2,W i m ys H2→H2 acc=some (.lst ys)∧ys.length < sizeLine ∧
      ((J.stop i H2∧Q (.ref acc) H2)∨(J.go i H2∧∃ N:List V→Hp→Prop,(∀ ys' H',N ys' H'→∃ m',m' < m∧W (i+1) m' ys' H') ∧
        ∀ x H3,J.yld i H2 x H3→g x (comp0 NL ix σ) H3 fun σ' H4=>σ'.drop NL.length=ix.map (fun j=>σ.getD j none)∧tt σ' H4 fun b H5=>
          if b=true then te σ' H5 fun v H6=>H6 acc=some (.lst ys)∧N (ys++[v]) (upd H6 acc (.lst (ys++[v]))) else N ys H5)))
    (hRR:∀ (acc C:Addr) (H':Hp) (s':Shared) (m':Str→Option Value),Inv X pins σ H' s'→s'.heap.Ns C m'→FpOk X pins H' C→Q (.ref acc) H'→RR (.ref acc) C (.ok .next) s') :
    wpAny (model X.prog X.w) X.A (newList []) (fun acc s₃=>wpAny (model X.prog X.w) X.A (newFunctionEnv scope X.env.globals cl [] X.env.qual none .none (some X.env)) (fun cenv s₄=>
      codeAny (model X.prog X.w) X.A (.compStart (.ListComp elt [⟨tg,iter,ifs,0⟩] scope pos) 0 (.ref it) acc { cenv with scope:=relabel scope X.env }) (RR acc cenv.locals) s₄) E s₃) E s:=by
  refine wpAny_newObj_type (wpAny_newFunctionEnv S.cell (by intro y hy;simp at hy) (fun h₁ hns₁ hsb₁=>?_) S.kind)
  have I3:Inv X pins σ (upd H s.heap.objs.size (.lst [])) { s with heap:=s.heap.push { cls:=.type "list", data:=.seq ([]:List Value).toArray },toks:=s.toks }:=I.lnew (its:=[]) .nil (Nat.zero_le _)
  have hfr:H s.heap.objs.size=none:=I.hok.fresh (Nat.le_refl _)
  generalize hs3:({ s with heap:=s.heap.push { cls:=.type "list", data:=.seq ([]:List Value).toArray },toks:=s.toks }:Shared)=s₃ at I3
  have hsz:s₃.heap.objs.size=s.heap.objs.size+1:=by rw [← hs3];exact Heap.size_push ..
  have old1:∀ b o,s.heap.get? b=some o→s₃.heap.get? b=some o:=fun b o e=>by rw [← hs3];exact Heap.get?_push_of_some _ e
  have key:codeAny (model X.prog X.w) X.A (.compStart (.ListComp elt [⟨tg,iter,ifs,0⟩] scope pos) 0 (.ref it) (.ref s.heap.objs.size) (compEnvC scope cl s₃.heap.objs.size X.env))
      (RR (.ref s.heap.objs.size) s₃.heap.objs.size) { s₃ with heap:=h₁,toks:=s₃.toks+0 }:=by
    have hns:h₁.Ns s₃.heap.objs.size (fun _=>none):=by
      have:=hns₁
      rw [← hs3]
      exact this
    have hsb:Heap.SameBut s₃.heap.objs.size (s₃.heap.push { cls:=.type "dict", data:=.dict #[] }) h₁:=by
      have:=hsb₁
      rw [← hs3]
      exact this
    have old:∀ b o,s₃.heap.get? b=some o→h₁.get? b=some o:=fun b o e=>hsb.extBut b o (Nat.ne_of_lt (Heap.lt_size e)) (Heap.get?_push_of_some _ e)
    have hf3:∀ b∈fp,FpOk X pins (upd H s.heap.objs.size (.lst [])) b:=fun b hb'=>by
      obtain ⟨o,e,_⟩:=T.obj 0 _ st b hb'
      have ne:b≠s.heap.objs.size:=Nat.ne_of_lt (Heap.lt_size e)
      exact ⟨by rw [upd_ne ne];exact (hf b hb').1,(hf b hb').2⟩
    have ho3:∀ b∈fp,∃ o,s₃.heap.get? b=some o:=fun b hb'=>by
      obtain ⟨o,e,_⟩:=T.obj 0 _ st b hb'
      exact ⟨o,old1 b o e⟩
    have st1:tn 0 h₁:=T.keep 0 _ _ st fun b hb' o e=>old b o (old1 b o e)
    have I4:=comp_inv (tn:=tn) (tk:=s₃.toks+0) S I3 c1 c2 hf3 ho3 hns old
    obtain ⟨W,⟨m0,w0⟩,turn⟩:=q s.heap.objs.size hfr
    obtain ⟨hg,ht,he⟩:=hb cl s₃.heap.objs.size s₃ (upd H s.heap.objs.size (.lst [])) fp pins
    generalize hX':cxComp X scope NL ix cl s₃.heap.objs.size s₃ (upd H s.heap.objs.size (.lst [])) fp pins=X' at I4 hg ht he
    have p1:X'.prog=X.prog:=by rw [← hX'];rfl
    have p2:X'.w=X.w:=by rw [← hX'];rfl
    have p3:X'.K=X.K:=by rw [← hX'];rfl
    have p4:X'.A=X.A:=by rw [← hX'];rfl
    have p5:X'.env=compEnvC scope cl s₃.heap.objs.size X.env:=by rw [← hX'];rfl
    have p6:X'.calm=true:=by rw [← hX'];exact hc
    have p7:X'.xe=fun _ _=>False:=by rw [← hX'];rfl
    have stat:∀ {H':Hp},(∀ b∈fp,H' b=none)→∀ b∈fp,FpOk X' [] H' b:=fun {H'} hn b hb'=>by
      have z:=hf3 b hb'
      obtain ⟨o,eo⟩:=ho3 b hb'
      rw [← hX']
      refine ⟨hn b hb',Nat.ne_of_lt (Heap.lt_size eo),fun q=>(List.mem_cons.mp (I3.stkSub b q)).elim z.2.1 z.2.2.1,.inl hb',fun x c hx=>z.2.2.2.2.1 x c (c1 x c hx),fun p hp=>?_⟩
      rcases List.mem_append.mp hp with w | w
      · exact z.2.2.2.2.2 p w
      · exact nomatch w
    have fin:∀ i n ys H' s',Inv X' [] (comp0 NL ix σ) H' s'→W i n ys H'→Q (.ref s.heap.objs.size) H'→RR (.ref s.heap.objs.size) s₃.heap.objs.size (.ok .next) s':=fun i n ys H' s' I' w' q'=>by
      obtain ⟨m',hn',_⟩:=I'.loc
      have hos:s'.os=s₃.os:=by have:=I'.os;rw [← hX'] at this;exact this
      have hu:Un (frs X.stack) fp (upd H s.heap.objs.size (.lst [])) H' s₃.heap s'.heap:=by have:=I'.base;rw [← hX'] at this;exact this
      have hk:HOk X.prog X.w H' s'.heap:=by have:=I'.hok;rw [← hX'] at this;exact this
      have hfC:H' s₃.heap.objs.size=none:=by have:=I'.free;rw [← hX'] at this;exact this
      have hnC:s'.heap.Ns s₃.heap.objs.size m':=by rw [p5] at hn';exact hn'
      exact hRR _ _ H' s' m' (I3.call' hos hu hk I'.bare fun b hb'=>⟨(hf3 b hb').2.2.2.1,(hf3 b hb').2.1,(hf3 b hb').2.2.2.2.1,(hf3 b hb').2.2.2.2.2⟩) hnC (I3.fpOk (Nat.le_refl _) hfC) q'
    have loop:∀ s₄:Shared,Inv X' [] (comp0 NL ix σ) (upd H s.heap.objs.size (.lst [])) s₄→tn 0 s₄.heap→codeAny (model X.prog X.w) X.A (.compLoop (.ListComp elt [⟨tg,iter,ifs,0⟩] scope pos) 0 (.ref it) (.ref s.heap.objs.size) (compEnvC scope cl s₃.heap.objs.size X.env))
        (RR (.ref s.heap.objs.size) s₃.heap.objs.size) s₄:=fun s₄ I4 st1=>by
      refine codeAny_loop rfl (fun n s'=>∃ i ys H',Inv X' [] (comp0 NL ix σ) H' s'∧tn i s'.heap∧(∀ b∈fp,H' b=none)∧W i n ys H') (fun n s' hI=>?_) m0 ⟨0,[],_,I4,st1,fun b hb'=>(hf3 b hb').1,w0⟩
      obtain ⟨i,ys,H',I',st',fr',w'⟩:=hI
      show wpAny _ X.A ((compTurn (.ListComp elt [⟨tg,iter,ifs,0⟩] scope pos) 0 (.ref it) (.ref s.heap.objs.size) (compEnvC scope cl s₃.heap.objs.size X.env)).onRaise (fun x=>do noteFrame x (compEnvC scope cl s₃.heap.objs.size X.env);theTreesLotGoes x)) _ _ s'
      refine wpAny_noted ?_
      rw [compTurn_list]
      obtain ⟨hacc,hz8,alt⟩:=turn i n ys H' w'
      rcases alt with ⟨stop,qn⟩ | ⟨go,N,hN,step⟩
      · have d:=T.done X' p1 p2 p3 p6 i [] s' (comp0 NL ix σ) H' (notedBy (model X.prog X.w) X.A (compEnvC scope cl s₃.heap.objs.size X.env) fun e s'=>RR (.ref s.heap.objs.size) s₃.heap.objs.size (.error e) s') I' (stat fr') st' stop
        rw [p4] at d
        refine wpAny_bind (wpAny_standAt (wpAny_bind (thn d fun r s1 ⟨hr,I1⟩=>?_)))
        subst hr
        exact wpAny_pure (fin i n ys H' s1 I1 w' qn)
      · have d:=T.item X' p1 p2 p3 p6 i [] s' (comp0 NL ix σ) H' (notedBy (model X.prog X.w) X.A (compEnvC scope cl s₃.heap.objs.size X.env) fun e s'=>RR (.ref s.heap.objs.size) s₃.heap.objs.size (.error e) s') I' (stat fr') st' go
        rw [p4] at d
        refine wpAny_bind (wpAny_standAt (wpAny_bind (thn d fun r s1 ⟨u,hr,h4⟩=>?_)))
        subst hr
        refine wpAny_bind (thn h4 fun _ s5 ⟨x,H5,I5,r5,y5,st5,fr5⟩=>?_)
        have I5':=I5.pinned (stat fr5) (T.obj _ _ st5)
        have nofail:∀ {α:Type} {t:Sem α} {R:α→Shared→Prop} {sx:Shared},wpAny (model X'.prog X'.w) X'.A t R X'.xe sx→wpAny (model X.prog X.w) X.A t R (notedBy (model X.prog X.w) X.A (compEnvC scope cl s₃.heap.objs.size X.env) fun e s'=>RR (.ref s.heap.objs.size) s₃.heap.objs.size (.error e) s') sx:=fun {α t R sx} hh=>by
          rw [p1,p2,p4,p7] at hh
          exact wpAny_mono hh (fun _ _ z=>z) fun _ _ z=>z.elim
        have again:∀ {σ7:St} {H7:Hp} {s7:Shared} {ys':List V},σ7.drop NL.length=ix.map (fun j=>σ.getD j none)→Inv X' ([]++pinsAt fp s5.heap) σ7 H7 s7→(∃ m',m' < n∧W (i+1) m' ys' H7)→∃ m,m < n∧∃ i ys H',Inv X' [] (comp0 NL ix σ) H' s7∧tn i s7.heap∧(∀ b∈fp,H' b=none)∧W i m ys H':=fun {σ7 H7 s7 ys'} hσ I7 n7=>by
          obtain ⟨m',hm,w7⟩:=n7
          have Iw:Inv X' ([]++pinsAt fp s5.heap) (comp0 NL ix σ) H7 s7:=I7.weak (by rw [I7.len,I'.len]) fun j v hj=>by
            have hlj:NL.length≤j:=by
              rcases Nat.lt_or_ge j NL.length with z | z
              · exfalso
                unfold comp0 at hj
                rw [List.getElem?_append_left (by simpa using z),List.getElem?_map] at hj
                cases q:NL[j]? with
                | none=>rw [q] at hj;cases hj
                | some y=>rw [q] at hj;cases hj
              · exact z
            unfold comp0 at hj
            rw [List.getElem?_append_right (by simpa using hlj),List.length_map,← hσ,List.getElem?_drop] at hj
            rw [← hj]
            congr 1
            omega
          refine ⟨m',hm,i+1,ys',H7,Iw.unpinned,T.keep _ _ _ st5 fun b hb' o e=>(I7.pin (b,o) (List.mem_append_right _ (List.mem_append_right _ (mem_pinsAt hb' e)))).1,fun b hb'=>?_,w7⟩
          obtain ⟨o,e,d⟩:=T.obj _ _ st5 b hb'
          exact (I7.pin (b,o) (List.mem_append_right _ (List.mem_append_right _ (mem_pinsAt hb' e)))).2.1
        have hg':=nofail (hg _ s5 (comp0 NL ix σ) H5 x u _ I5' r5 (step x H5 y5))
        rw [p5] at hg'
        refine wpAny_bind (thn hg' fun _ s6 ⟨σ6,H6,I6,hσ6,q6⟩=>?_)
        have ht':=nofail (ht _ s6 σ6 H6 _ I6 q6)
        rw [p5] at ht'
        refine wpAny_bind (thn ht' fun ok s7 ⟨H7,I7,q7⟩=>?_)
        cases ok with
        | false=>
          have q7':N ys H7:=by simpa using q7
          exact wpAny_pure ⟨rfl,again hσ6 I7 (hN _ _ q7')⟩
        | true=>
          have q7':=(if_pos rfl).mp q7
          have he':=nofail (he _ s7 σ6 H7 _ I7 q7')
          rw [p5] at he'
          refine wpAny_bind (wpAny_bind (thn he' fun v s8 ⟨y,H8,I8,r8,ha8,q8⟩=>?_))
          have ap:=nofail (mt_append _ s8 σ6 H8 (.ref s.heap.objs.size) [y] (.ref s.heap.objs.size) [v] (fun _ H9=>H9=upd H8 s.heap.objs.size (.lst (ys++[y]))) I8 rfl (.cons r8 .nil) ⟨_,ys,y,rfl,rfl,ha8,hz8,rfl⟩)
          refine wpAny_bind (thn ap fun _ s9 ⟨z,H9,I9,r9,e9⟩=>wpAny_pure (wpAny_pure ⟨rfl,?_⟩))
          subst e9
          exact again hσ6 I9 (hN _ _ q8)
    exact codeAny_compStart_list (loop _ I4 st1) (T.self X.A 0 _ _ _ st1 (loop _ I4 st1))
  exact key
theorem pe_comp {scope:Scope} {NL:List Str} {ix:List Nat} {elt tg iter:Expr} {ifs:List Expr} {pos:Pos} {wi:TI} {g:TG} {tt:TT} {te:TE}
    (hc:X.calm=true) (hi:PI X tg iter wi) (S:CompScope X scope NL ix)
    (hb:∀ (cl:List (Str × Addr)) (C:Addr) (s₃:Shared) (H₃:Hp) (fp:List Addr) (pins:List (Addr × Obj)),PG (cxComp X scope NL ix cl C s₃ H₃ fp pins) tg g∧PIfs (cxComp X scope NL ix cl C s₃ H₃ fp pins) ifs tt∧PE (cxComp X scope NL ix cl C s₃ H₃ fp pins) elt te)
    (hs:∀ x,foldedSetIterable iter X.env x=pure x:=by intro _;rfl):PE X (.ListComp elt [⟨tg,iter,ifs,0⟩] scope pos) (tComp NL ix wi g tt te):=by
  intro pins s σ H Q I h
  obtain ⟨cl,hcl,c1,c2⟩:=closure_ok (scope:=scope) (env:=X.env) fun x hx=>by
    rcases S.free _ hx rfl with z | z
    · exact I.ok.has x (.inl z)
    · exact I.ok.has x (.inr z)
  rw [eval_ListComp]
  refine wpAny_comprehension_free (use:=none) rfl hs hcl S.kind S.names (thn (hi pins s σ H _ I h) fun xv s1 h1=>thn h1 fun itv s2 h2=>?_)
  obtain ⟨it,fp,tn,J,H2,rfl,I2,T,st2,f2,q⟩:=h2
  refine comp_run (RR:=fun acc C=>compPost (model X.prog X.w) X.A X.xe none (EP X pins σ Q) acc C) hc S c1 c2 hb I2 T st2 f2 q ?_
  intro acc C H' s' m' I' hn fC q'
  refine ⟨m',hn,fun h' sb=>⟨.ref acc,H',?_,rfl,q'⟩⟩
  exact I'.turned (t':=s'.toks) (fun b o hb e=>sb.extBut b o hb e) fC.1 fC.2.1 fC.2.2.2.1 fC.2.2.2.2.1 fC.2.2.2.2.2
theorem ps_comp {i:Nat} {y:Str} {py spos:Pos} {scope:Scope} {NL:List Str} {ix:List Nat} {elt tg iter:Expr} {ifs:List Expr} {pos:Pos} {wi:TI} {g:TG} {tt:TT} {te:TE}
    (hN:X.N.Nodup) (hiy:X.N[i]?=some y) (hy:Loc X.env.scope y)
    (hc:X.calm=true) (hi:PI X tg iter wi) (S:CompScope X scope NL ix)
    (hb:∀ (cl:List (Str × Addr)) (C:Addr) (s₃:Shared) (H₃:Hp) (fp:List Addr) (pins:List (Addr × Obj)),PG (cxComp X scope NL ix cl C s₃ H₃ fp pins) tg g∧PIfs (cxComp X scope NL ix cl C s₃ H₃ fp pins) ifs tt∧PE (cxComp X scope NL ix cl C s₃ H₃ fp pins) elt te)
    (hsw:swapsWith (.ListComp elt [⟨tg,iter,ifs,0⟩] scope pos) (some (.Name y py)) spos.line X.env=pure true:=by rfl)
    (hs:∀ x,foldedSetIterable iter X.env x=pure x:=by intro _;rfl)
    (hf:X.fn y=true∨X.env.scope.names.lookup y=some .local:=by first | exact .inl rfl | exact .inr rfl | assumption) :
    PS X (.Assign [.Name y py] (.ListComp elt [⟨tg,iter,ifs,0⟩] scope pos) spos) (tAsg (tComp NL ix wi g tt te) (gName i)):=by
  intro pins s σ H D I h
  obtain ⟨cl,hcl,c1,c2⟩:=closure_ok (scope:=scope) (env:=X.env) fun x hx=>by
    rcases S.free _ hx rfl with z | z
    · exact I.ok.has x (.inl z)
    · exact I.ok.has x (.inr z)
  rw [exec_Assign_Name_used _ _ _ _ hsw]
  refine wpAny_bind (wpAny_standAt (wpAny_bind ?_))
  show wpAny _ X.A (do let _ ← comprehension (.ListComp elt [⟨tg,iter,ifs,0⟩] scope pos) scope X.env _ (newList []) false (eval iter X.env) (some (assign (.Name y py) X.env))) _ _ s
  refine wpAny_bind (thn (wpAny_comprehension_free (use:=some (assign (.Name y py) X.env)) (Q:=fun _ s'=>SP X pins D .next s') rfl hs hcl S.kind S.names
    (thn (hi pins s σ H _ I h) fun xv s1 h1=>thn h1 fun itv s2 h2=>?_)) fun _ s' hq=>wpAny_pure (wpAny_pure hq))
  obtain ⟨it,fp,tn,J,H2,rfl,I2,T,st2,f2,q⟩:=h2
  refine comp_run (RR:=fun acc C=>compPost (model X.prog X.w) X.A X.xe (some (assign (.Name y py) X.env)) (fun _ s'=>SP X pins D .next s') acc C) (Q:=fun x H1=>gName i x σ H1 D.nx) hc S c1 c2 hb I2 T st2 f2 q ?_
  intro acc C H' s' m' I' hn fC q'
  show wpAny _ X.A (assign (.Name y py) X.env (.ref acc)) _ _ _
  refine wpAny_assign_Name (store_ok2 I' hN hiy hy (v:=.ref acc) rfl (fun s'' I'' hsb=>?_) hf)
  obtain ⟨a,sb,ha⟩:=hsb
  have hne:C≠a:=by
    rcases ha with z | z
    · rw [z];exact fC.2.1
    · exact fun w=>fC.2.2.2.2.1 y a z w.symm
  refine ⟨m',hn.sameBut sb hne,fun h' sb'=>⟨_,H',?_,q'⟩⟩
  exact I''.turned (t':=s''.toks) (fun b o hb e=>sb'.extBut b o hb e) fC.1 fC.2.1 fC.2.2.2.1 fC.2.2.2.2.1 fC.2.2.2.2.2
theorem comp_by {J:It} {NL:List Str} {ix:List Nat} {g:TG} {tt:TT} {te:TE} {σ:St} {H1:Hp} {Qs:Hp→Prop} {acc:Addr} (n:Nat) (hn:n < 1000) (Pv:Nat→List V→Hp→Prop)
    (hacc:∀ i ys H2,Pv i ys H2→H2 acc=some (.lst ys)∧ys.length≤i) (h0:Pv 0 [] (upd H1 acc (.lst []))) (hstop:∀ ys H2,Pv n ys H2→J.stop n H2∧Qs H2)
    (hturn:∀ i ys H2,i < n→Pv i ys H2→J.go i H2∧∀ x H3,J.yld i H2 x H3→g x (comp0 NL ix σ) H3 fun σ' H4=>σ'.drop NL.length=ix.map (fun j=>σ.getD j none)∧tt σ' H4 fun b H5=>
      if b=true then te σ' H5 fun v H6=>H6 acc=some (.lst ys)∧Pv (i+1) (ys++[v]) (upd H6 acc (.lst (ys++[v]))) else Pv (i+1) ys H5) :
    ∃ W:Nat→Nat→List V→Hp→Prop,(∃ m,W 0 m [] (upd H1 acc (.lst []))) ∧
    ∀ i m ys H2,W i m ys H2→H2 acc=some (.lst ys)∧ys.length < sizeLine ∧
      ((J.stop i H2∧Qs H2)∨(J.go i H2∧∃ N:List V→Hp→Prop,(∀ ys' H',N ys' H'→∃ m',m' < m∧W (i+1) m' ys' H') ∧
        ∀ x H3,J.yld i H2 x H3→g x (comp0 NL ix σ) H3 fun σ' H4=>σ'.drop NL.length=ix.map (fun j=>σ.getD j none)∧tt σ' H4 fun b H5=>
          if b=true then te σ' H5 fun v H6=>H6 acc=some (.lst ys)∧N (ys++[v]) (upd H6 acc (.lst (ys++[v]))) else N ys H5)):=by
  refine ⟨fun i m ys H2=>i≤n∧m=n - i∧Pv i ys H2,⟨n,Nat.zero_le _,rfl,h0⟩,fun i m ys H2 ⟨hi,hm,hp⟩=>?_⟩
  obtain ⟨a1,a2⟩:=hacc i ys H2 hp
  refine ⟨a1,small1000 (by omega),?_⟩
  rcases Nat.lt_or_ge i n with lt | ge
  · obtain ⟨go,tn⟩:=hturn i ys H2 lt hp
    exact .inr ⟨go,Pv (i+1),fun ys' H' hN=>⟨n - (i+1),by omega,by omega,rfl,hN⟩,tn⟩
  · have e:i=n:=by omega
    subst e
    exact .inl (hstop ys H2 hp)
end
end L2
namespace L2
open PySem PySem.Spec PyProof.Rows
section
variable {prog:Program} {w:World} {A:Around} {E:Value→Shared→Prop} {s:Shared}
end
inductive SK where
  | lst (a:Addr) | tup (a:Addr) | str (x:Str)
def SK.val:SK→V
  | .lst a=>.ref a
  | .tup a=>.ref a
  | .str x=>.str x
def signs (x:Str):List V:=x.cps.toList.map fun c=>.str ⟨#[c]⟩
def SK.has (H:Hp):SK→List V→Prop
  | .lst a,xs=>Rd H a (.lst xs)
  | .tup a,xs=>Rd H a (.tup xs)
  | .str x,xs=>xs=signs x
def SK.own (it:Addr) (k:Nat) (h:Heap):SK→Prop
  | .lst a=>h.IsListIter it a k
  | .tup a=>h.IsTupleIter it a k
  | .str x=>∃ t,h.IsStrIter it (strIterType x) x t k
theorem SK.own_at {it:Addr} {k:Nat} {h h':Heap} {κ:SK} (x:κ.own it k h) (e:∀ o,h.get? it=some o→h'.get? it=some o):κ.own it k h':=by
  cases κ with
  | lst a=>exact Heap.IsListIter.at x e
  | tup a=>exact Heap.IsTupleIter.at x e
  | str y=>obtain ⟨t,o,ho,r⟩:=x;exact ⟨t,o,e o ho,r⟩
theorem Rd.inj {H:Hp} {a:Addr} {u v:HO} (hu:∀ o w,u≠.frz o w) (hv:∀ o w,v≠.frz o w) (x:Rd H a u) (y:Rd H a v):u=v:=by
  rcases x with x | ⟨o,x⟩ <;> rcases y with y | ⟨p,y⟩ <;> rw [x] at y
  · exact Option.some.inj y
  · exact absurd (Option.some.inj y) (hu p v)
  · exact absurd (Option.some.inj y).symm (hv o u)
  · have:=Option.some.inj y
    injection this
theorem SK.inj {H:Hp} {κ:SK} {xs ys:List V} (x:κ.has H xs) (y:κ.has H ys):xs=ys:=by
  cases κ with
  | lst a=>have:=Rd.inj (u:=.lst xs) (v:=.lst ys) (fun _ _ z=>nomatch z) (fun _ _ z=>nomatch z) x y;injection this
  | tup a=>have:=Rd.inj (u:=.tup xs) (v:=.tup ys) (fun _ _ z=>nomatch z) (fun _ _ z=>nomatch z) x y;injection this
  | str z=>exact Eq.trans x (Eq.symm y)
section
variable {X:Cx} {pins:List (Addr × Obj)} {σ:St} {H:Hp} {s:Shared}
end
open AutoSeq1 (wpAny_loadPart') in
section
variable {X:Cx} {pins:List (Addr × Obj)} {σ:St} {H:Hp} {s:Shared}
end
structure ZA (z TI TO i1 i2:Addr) (fp1 fp2:List Addr):Prop where
  TIz:TI≠z
  TOz:TO≠z
  i1z:i1≠z
  i2z:i2≠z
  TITO:TI≠TO
  TIi1:TI≠i1
  TIi2:TI≠i2
  TOi1:TO≠i1
  TOi2:TO≠i2
  i12:i1≠i2
  z1:z ∉ fp1
  z2:z ∉ fp2
  o1:TO ∉ fp1
  o2:TO ∉ fp2
  a1:i2 ∉ fp1
  a2:i1 ∉ fp2
section
variable {prog:Program} {w:World} {A:Around} {E:Value→Shared→Prop} {s:Shared}
end
section
variable {X:Cx}
end
def cutS (z:Str) (lo hi:Option Int):Str:=⟨((z.cps.toList.drop (HT.sIx z.length 0 lo)).take (HT.sIx z.length z.length hi - HT.sIx z.length 0 lo)).toArray⟩
theorem clip_s (i:Int) (n d:Nat):max 0 (min (if i < 0 then i+(n:Int) else i) (n:Int))=((HT.sIx n d (some i):Nat):Int):=by
  simp only [HT.sIx]
  split
  · omega
  · omega
theorem range_cut (a b:Nat):sliceRange (a:Int) (b:Int) 1=(List.range (b - a)).map fun k=>a+k:=by
  unfold sliceRange
  simp only [show ((1:Int) > 0)=True from by simp,if_true]
  by_cases hlt:(a:Int) < b
  · have e3:(((b:Int) - a+1 - 1) / 1).toNat=b - a:=by
      rw [Int.ediv_one];omega
    simp only [hlt,if_true,e3]
    refine List.map_congr_left fun k _=>?_
    omega
  · have:b - a=0:=by omega
    simp [hlt,this]
theorem sliceIdx_cut (lo hi:Option Int) (n:Nat):Builtin.Str.strSliceIndices lo hi 1 n=(List.range (HT.sIx n n hi - HT.sIx n 0 lo)).map fun k=>HT.sIx n 0 lo+k:=by
  unfold Builtin.Str.strSliceIndices
  simp only [show ((1:Int) > 0)=True from by simp,if_true]
  cases lo with
  | none=>
    cases hi with
    | none=>exact range_cut 0 n
    | some j=>dsimp only;rw [clip_s j n n];exact range_cut 0 _
  | some i=>
    cases hi with
    | none=>dsimp only;rw [clip_s i n 0];exact range_cut _ n
    | some j=>dsimp only;rw [clip_s i n 0,clip_s j n n];exact range_cut _ _
theorem slice_text (z:Str) (t:Tok) (l u:Option (Int × Tok)):∀ (Q:Value→Shared→Prop) (s:Shared),z.length≤sizeLine→(∀ t' s',s'.heap=s.heap→s'.gens=s.gens→s'.drawn=s.drawn→s'.os=s.os→Q (.str (cutS z (l.map (·.1)) (u.map (·.1))) t') s')→(sliceMade z t l u none).post Q s:=by
  intro Q s hz h
  have hidx:=sliceIdx_cut (l.map (·.1)) (u.map (·.1)) z.length
  have hle:HT.sIx z.length z.length (u.map (·.1))≤z.length:=HT.sIx_le _ _ (Nat.le_refl _) _
  have hlo:HT.sIx z.length 0 (l.map (·.1))≤z.length:=HT.sIx_le _ _ (Nat.zero_le _) _
  have hzl:z.length=z.cps.toList.length:=by simp [Str.length]
  have cut:((slicePicked z l u none).filterMap (z.cps[·]?))=(z.cps.toList.drop (HT.sIx z.length 0 (l.map (·.1)))).take (HT.sIx z.length z.length (u.map (·.1)) - HT.sIx z.length 0 (l.map (·.1))):=by
    have p:=StrLaws.picks z.cps.toList (HT.sIx z.length z.length (u.map (·.1)) - HT.sIx z.length 0 (l.map (·.1))) (HT.sIx z.length 0 (l.map (·.1))) (by omega)
    rw [← p]
    unfold slicePicked
    simp only [Option.map_none,Option.getD_none]
    rw [hidx]
    congr 1
    funext k
    simp
  unfold sliceMade
  split
  · rename_i c
    have whole:cutS z (l.map (·.1)) (u.map (·.1))=z:=by
      unfold cutS
      have e:(slicePicked z l u none).length=z.length:=by
        simp only [Bool.and_eq_true,beq_iff_eq] at c
        exact c.2
      have e':HT.sIx z.length z.length (u.map (·.1)) - HT.sIx z.length 0 (l.map (·.1))=z.length:=by
        unfold slicePicked at e
        simp only [Option.map_none,Option.getD_none] at e
        rw [hidx] at e
        simpa using e
      have e0:HT.sIx z.length 0 (l.map (·.1))=0:=by omega
      rw [e',e0,List.drop_zero,hzl,List.take_length]
    have:=h t s rfl rfl rfl rfl
    rw [whole] at this
    exact this
  · rw [cut]
    have hl':(⟨((z.cps.toList.drop (HT.sIx z.length 0 (l.map (·.1)))).take (HT.sIx z.length z.length (u.map (·.1)) - HT.sIx z.length 0 (l.map (·.1)))).toArray⟩:Str).length≤sizeLine:=by
      have:(⟨((z.cps.toList.drop (HT.sIx z.length 0 (l.map (·.1)))).take (HT.sIx z.length z.length (u.map (·.1)) - HT.sIx z.length 0 (l.map (·.1)))).toArray⟩:Str).length≤z.length:=by
        simp only [Str.length,List.size_toArray,List.length_take,List.length_drop]
        have:z.cps.size=z.length:=rfl
        omega
      omega
    first
      | exact ⟨hl',h _ _ rfl rfl rfl rfl⟩
      | exact h _ _ rfl rfl rfl rfl
def rSlS:V→Option Int→Option Int→Hp→VK→Prop:=fun x lo hi H Q=>∃ z,x=.str z∧z.length≤sizeLine∧Q (.str (cutS z lo hi)) H
theorem sl_str {X:Cx}:SlR X rSlS:=by
  intro pins s σ H x v vl vu lo hi sl Q I rx hs pl pu h
  obtain ⟨z,rfl,hz,q⟩:=h
  obtain ⟨t,rfl⟩:=rx
  refine ⟨"str", _,F.slot_str_getitem.lookup,typeIs_str s z t,?_⟩
  have part:∀ {v:Value} {o:Option Int},IsPart v o→∃ p:Option (Int × Tok),v=partValue p∧p.map (·.1)=o:=fun {v o} p=>by
    cases p with
    | none=>exact ⟨none,rfl,rfl⟩
    | int i t=>exact ⟨some (i,t),rfl,rfl⟩
  obtain ⟨l,rfl,rfl⟩:=part pl
  obtain ⟨u,rfl,rfl⟩:=part pu
  refine wpAny_getItem_str_slice (l:=l) (u:=u) (st:=none) hs rfl (slice_text z t l u _ s hz fun t' s' e1 e2 e3 e4=>⟨.str _,H,?_,⟨t',rfl⟩,q⟩)
  obtain ⟨hp,g,d,tk,os⟩:=s'
  cases e1;cases e2;cases e3;cases e4
  exact I.tok tk
theorem call_isinst {X:Cx}:CallR X (.builtin "isinstance") (fun vs H Q=>∃ x t T b,vs=[x,.ty T]∧TyOf X.K H x t∧PySem.W.kitOne X.K t (.type T)=some b∧Q (.bl b) H):=by
  intro pins s σ H xs us Q I r h
  obtain ⟨x,t,T,b,rfl,ty,e,q⟩:=h
  obtain ⟨u,v,rfl,ru,rv⟩:=vals2 r
  cases (show v=Value.type T from rv)
  exact isinst_ok I ru ty e fun tk=>⟨.bl b,H,I.tok tk,rfl,q⟩
end L2
namespace L2
open PySem PySem.Spec PyProof.Rows
theorem csc {X:Cx} {scope:Scope} {NL:List Str} {ix:List Nat} (esc:Scope) (N:List Str) (h1:X.env.scope=esc:=by rfl) (h2:X.N=N:=by rfl) (c1:scope.kind=.function:=by rfl)
    (c2:∀ y∈scope.names,y.2≠.cell:=by decide +kernel) (c3:∀ y∈scope.names,y.2=.local→scope.names.lookup y.1=some .local:=by decide +kernel)
    (c4:∀ y∈scope.names,y.2=.free→esc.names.lookup y.1=some .cell∨esc.names.lookup y.1=some .free:=by decide +kernel)
    (c5:∀ j∈ix,(N[j]?).bind (fun x=>scope.names.lookup x)=some .free:=by decide +kernel):CompScope X scope NL ix where
  kind:=c1
  cell:=c2
  names:=c3
  free:=fun y hy hf=>by
    have:=c4 y hy hf
    rw [← h1] at this
    exact this
  cap:=fun j hj=>by
    have:=c5 j hj
    rw [h2]
    cases e:N[j]? with
    | none=>rw [e] at this;cases this
    | some x=>rw [e] at this;exact ⟨x,rfl,this⟩
def Has (P:Program) (w:World) (K:PySem.W.Frag) (mg:Str→Option Value) (base:Heap) (x:Str) (k:Nat) (ps:List Str) (sp:Sp):Prop:=
  ∃ f fd,FnOk P w K mg base CX0 k f fd ps sp∧Binds K fd ps []∧PySem.W.keepIn K (.ref f)=true∧mg x=some (.ref f)
section
variable {P:Program} {w:World} {K:PySem.W.Frag} {mg:Str→Option Value} {base:Heap}
theorem Has.mono {x:Str} {j k:Nat} {ps:List Str} {sp:Sp} (G:Has P w K mg base x j ps sp) (h:j≤k):Has P w K mg base x k ps sp:=
  let ⟨f,fd,F,r⟩:=G;⟨f,fd,F.mono h,r⟩
def Df (K:PySem.W.Frag) (mg:Str→Option Value) (x:Str) (st:Stmt):Prop:=∃ f fd,Fun K x x st f fd∧mg x=some (.ref f)
theorem Df.has {x:Str} {st:Stmt} {N ps:List Str} {k:Nat} {sp:Sp} (D:Df K mg x st) (S:FnScope N ps (defScope st))
    (hb:∀ (kV doc pm:Value) (an:Option Addr) (cdv ct:Value) (us:List Value),us.length=ps.length→bindArgs (PySem.W.fnOf x x (defArgs st) (defBody st) (defScope st) .none kV doc pm an cdv ct) ⟨us,[]⟩=pure (ps.zip us))
    (len:∀ vs H Q E,sp vs H Q E→vs.length=ps.length)
    (hbody:∀ (f:Addr) (cdv:Value) (A:Around) (outer:List Env) (s:Shared) (H:Hp) (vs:List V) (Q:VK) (E:XK),Room k (A.deeper (envOfC x (defScope st) s.heap.objs.size f cdv))→sp vs H Q E →
      ∃ t,PSs (cxOf CX0 P w K mg base N x (defScope st) f cdv A outer s H E).nox (defBody st) t∧t { nx:=fun _ H'=>Q .non H',rt:=Q } (start N vs) H):Has P w K mg base x (k+1) ps sp:=by
  obtain ⟨f,fd,F,m⟩:=D
  exact ⟨f,fd,F.ok S len fun cdv A outer s H vs Q E hr h=>hbody f cdv A outer s H vs Q E hr h,F.binds hb,F.kp,m⟩
end
theorem pe_callH {X:Cx} {x:Str} {k:Nat} {ps:List Str} {sp:Sp} {p pos:Pos} {e:Expr} {es:List Expr} {t:TA} (G:Has X.prog X.w X.K X.mg X.base x k ps sp) (hr:Room k X.A) (hg:Gl X x) (ha:PA X (e :: es) t)
    (hdb:(x == ("__debug__" : Str))=false:=by decide) (he:starEach (e :: es) X.env=(false,eval e X.env) :: starEach es X.env:=by rfl) (hpl:(backTo pos (starEach es X.env)).any (·.1)=false:=by rfl) :
    PE X (.Call (.Name x p) (e :: es) [] pos) (tCall sp [] E0 t):=by
  obtain ⟨f,fd,F,b,kp,m⟩:=G
  exact pe_call F hr hg m kp b .nil pass0 ha hdb he hpl
structure Blt (mg:Str→Option Value):Prop where
  len:mg "len" = none
  range:mg "range" = none
  zip:mg "zip" = none
  enumerate:mg "enumerate" = none
  max:mg "max" = none
  min:mg "min" = none
  int_:mg "int" = none
  str_:mg "str" = none
  bool_:mg "bool" = none
  list_:mg "list" = none
  tuple_:mg "tuple" = none
  isinstance:mg "isinstance" = none
abbrev Pool (H:Hp) (p:Addr):Prop:=∃ x y:Int,H p=some (.lst [.int x,.int y])
structure Kp (p:Addr) (H H':Hp):Prop where
  pool:Pool H' p
  keep:∀ b o,b≠p→H b=some o→H' b=some o
section
variable {p q:Addr} {H H1 H2:Hp} {o:HO}
theorem Kp.refl (h:Pool H p):Kp p H H:=⟨h,fun _ _ _ e=>e⟩
theorem Kp.trans (a:Kp p H H1) (b:Kp p H1 H2):Kp p H H2:=⟨b.pool,fun c u hc e=>b.keep c u hc (a.keep c u hc e)⟩
theorem Kp.new (a:Kp p H H1) (hq:H1 q=none):Kp p H (upd H1 q o):=by
  obtain ⟨⟨x,y,e⟩,k⟩:=a
  refine ⟨⟨x,y,by rw [upd_ne (ne_of_none e hq)];exact e⟩,fun c u hc h=>?_⟩
  have:=k c u hc h
  rw [upd_ne (ne_of_none this hq)];exact this
theorem Kp.write (a:Kp p H H1) (hq:H q=none) (hp:q≠p):Kp p H (upd H1 q o):=by
  obtain ⟨⟨x,y,e⟩,k⟩:=a
  refine ⟨⟨x,y,by rw [upd_ne (Ne.symm hp)];exact e⟩,fun c u hc h=>?_⟩
  rw [upd_ne (ne_of_none h hq)];exact k c u hc h
theorem Pool.ne (h:Pool H p) (hq:H q=none):q≠p:=by
  obtain ⟨x,y,e⟩:=h
  exact Ne.symm (ne_of_none e hq)
end
theorem bt_len:bootBuiltins "len" = some (.builtin "len"):=by decide +kernel
theorem bt_max:bootBuiltins "max" = some (.builtin "max"):=by decide +kernel
theorem bt_min:bootBuiltins "min" = some (.builtin "min"):=by decide +kernel
theorem bt_all:bootBuiltins "all" = some (.builtin "all"):=by decide +kernel
theorem bt_isinstance:bootBuiltins "isinstance" = some (.builtin "isinstance"):=by decide +kernel
theorem bt_int:bootBuiltins "int" = some (.type "int"):=by decide +kernel
theorem bt_str:bootBuiltins "str" = some (.type "str"):=by decide +kernel
theorem bt_bool:bootBuiltins "bool" = some (.type "bool"):=by decide +kernel
theorem bt_list:bootBuiltins "list" = some (.type "list"):=by decide +kernel
theorem bt_tuple:bootBuiltins "tuple" = some (.type "tuple"):=by decide +kernel
theorem Same.new {H0 H:Hp} {q:Addr} {o:HO} (h:Same H0 H) (hq:H q=none):Same H0 (upd H q o):=fun b u e=>by
  have:=h b u e
  rw [upd_ne (ne_of_none this hq)];exact this
theorem Same.write {H0 H:Hp} {q:Addr} {o:HO} (h:Same H0 H) (hq:H0 q=none):Same H0 (upd H q o):=fun b u e=>by
  rw [upd_ne (ne_of_none e hq)];exact h b u e
theorem app_list (a y:Str):(a++y).cps.toList=a.cps.toList++y.cps.toList:=by
  show (a.cps++y.cps).toList=_
  simp
end L2
namespace L2
open PySem PySem.Spec PyProof.Rows
section
variable {X:Cx}
def eqAtJ (xs ys:List V) (j:Nat):Bool:=match xs[j]?,ys[j]? with
  | some x,some y=>eqV x y
  | _,_=>false
def eqVs (xs ys:List V):Bool:=xs.length == ys.length && (List.range xs.length).all (eqAtJ xs ys)
theorem flat_ints (ns:List Int):(ns.map V.int).all flatV=true:=by
  rw [List.all_eq_true];intro x hx;obtain ⟨n,_,rfl⟩:=List.mem_map.mp hx;rfl
theorem eqAt_items {A:Around} {s:Shared} {xs ys:List V} {us ws:List Value} (r1:Vals xs us) (r2:Vals ys ws) (f1:xs.all flatV=true) (f2:ys.all flatV=true) (j:Nat) (h1:j < us.toArray.size) (h2:j < ws.toArray.size) :
    SeqAt.EqAt A s us.toArray[j] ws.toArray[j] (eqAtJ xs ys j):=by
  have g1:j < xs.length:=by rw [r1.length];simpa using h1
  have g2:j < ys.length:=by rw [r2.length];simpa using h2
  obtain ⟨u,e1,q1⟩:=r1.get (List.getElem?_eq_getElem g1)
  obtain ⟨v,e2,q2⟩:=r2.get (List.getElem?_eq_getElem g2)
  have d1:us.toArray[j]=u:=by
    rw [List.getElem?_eq_getElem (by simpa using h1)] at e1
    simpa using Option.some.inj e1
  have d2:ws.toArray[j]=v:=by
    rw [List.getElem?_eq_getElem (by simpa using h2)] at e2
    simpa using Option.some.inj e2
  rw [d1,d2]
  unfold eqAtJ
  rw [List.getElem?_eq_getElem g1,List.getElem?_eq_getElem g2]
  exact eqAt_V q1 q2 (List.all_eq_true.mp f1 _ (List.getElem_mem g1)) (List.all_eq_true.mp f2 _ (List.getElem_mem g2))
theorem op_eq_lst (hu:X.A.units < cLine):OpR X (compareOp .Eq) (fun x y H Q=>∃ a b xs ys,x=.ref a∧y=.ref b∧SqL X.K H a xs∧SqL X.K H b ys∧xs.all flatV=true∧ys.all flatV=true∧Q (.bl (eqVs xs ys)) H):=by
  intro pins s σ H x y v u Q I rx ry h
  obtain ⟨a,b,xs,ys,rfl,rfl,h1,h2,f1,f2,q⟩:=h
  cases (show v=Value.ref a from rx)
  cases (show u=Value.ref b from ry)
  obtain ⟨us,r1,l1,_⟩:=I.list h1
  obtain ⟨ws,r2,l2,_⟩:=I.list h2
  have e1:=r1.length
  have e2:=r2.length
  by_cases hl:xs.length=ys.length
  · refine SeqAt.eq_listAt (e:=eqAtJ xs ys) l1.isList l2.isList (by simp;omega) hu (fun j g1 g2=>eqAt_items r1 r2 f1 f2 j g1 g2) ⟨.bl _,H,I,rfl,?_⟩
    have:eqVs xs ys=(List.range us.toArray.size).all (eqAtJ xs ys):=by
      unfold eqVs
      rw [List.size_toArray,← e1,beq_iff_eq.mpr hl,Bool.true_and]
    rw [← this];exact q
  · refine SeqAt.eq_list_lengthsAt l1.isList l2.isList (by simp;omega) hu ⟨.bl _,H,I,rfl,?_⟩
    have:eqVs xs ys=false:=by
      unfold eqVs
      have:(xs.length == ys.length)=false:=by simpa using hl
      rw [this];rfl
    rw [this] at q;exact q
end
section
variable {NL:List Str} {ix:List Nat} {g:TG} {tt:TT} {te:TE} {σ:St} {H1:Hp} {Qs:Hp→Prop} {acc:Addr}
end
theorem kit_int_bool (K:PySem.W.Frag):PySem.W.kitOne K (.type "int") (.type "bool")=some false:=by rfl
theorem kit_same (K:PySem.W.Frag) (T:String):PySem.W.kitOne K (.type T) (.type T)=some true:=by
  unfold PySem.W.kitOne
  rw [if_pos (beq_self_eq_true _)]
abbrev Deck (H:Hp) (p:Addr) (c:Int):Prop:=∃ x y z:Int,H p=some (.lst [.int x,.int y,.int z])∧0≤z∧z≤c
structure Kd (p:Addr) (c:Int) (H H':Hp):Prop where
  deck:Deck H' p c
  keep:∀ b o,b≠p→H b=some o→H' b=some o
section
variable {p q:Addr} {H H1 H2:Hp} {o:HO} {c d:Int}
theorem Deck.mono (h:Deck H p c) (e:c≤d):Deck H p d:=let ⟨x,y,z,a,b,f⟩:=h;⟨x,y,z,a,b,Int.le_trans f e⟩
theorem Kd.mono (h:Kd p c H H1) (e:c≤d):Kd p d H H1:=⟨h.deck.mono e,h.keep⟩
theorem Kd.refl (h:Deck H p c):Kd p c H H:=⟨h,fun _ _ _ e=>e⟩
theorem Kd.trans (a:Kd p c H H1) (b:Kd p d H1 H2):Kd p d H H2:=⟨b.deck,fun k u hc e=>b.keep k u hc (a.keep k u hc e)⟩
theorem Kd.new (a:Kd p c H H1) (hq:H1 q=none):Kd p c H (upd H1 q o):=by
  obtain ⟨⟨x,y,z,e,r⟩,k⟩:=a
  refine ⟨⟨x,y,z,by rw [upd_ne (ne_of_none e hq)];exact e,r⟩,fun b u hc h=>?_⟩
  have:=k b u hc h
  rw [upd_ne (ne_of_none this hq)];exact this
theorem Kd.write (a:Kd p c H H1) (hq:H q=none) (hp:q≠p):Kd p c H (upd H1 q o):=by
  obtain ⟨⟨x,y,z,e,r⟩,k⟩:=a
  refine ⟨⟨x,y,z,by rw [upd_ne (Ne.symm hp)];exact e,r⟩,fun b u hc h=>?_⟩
  rw [upd_ne (ne_of_none h hq)];exact k b u hc h
theorem Deck.ne (h:Deck H p c) (hq:H q=none):q≠p:=by
  obtain ⟨x,y,z,e,_⟩:=h
  exact Ne.symm (ne_of_none e hq)
theorem Kd.same (a:Kd p c H H1) (s:Same H1 H2):Kd p c H H2:=by
  obtain ⟨⟨x,y,z,e,r⟩,k⟩:=a
  exact ⟨⟨x,y,z,s _ _ e,r⟩,fun b u hc h=>s _ _ (k b u hc h)⟩
theorem Kd.fresh (a:Kd p c H H1) (hq:H1 q=none):H q=none:=by
  cases e:H q with
  | none=>rfl
  | some u=>
    have:=a.keep q u (a.deck.ne hq) e
    rw [hq] at this;cases this
end
end L2
namespace L2
open PySem PySem.Spec PyProof.Rows
section
variable {X:Cx}
theorem op_ne_lst (hu:X.A.units < cLine):OpR X (compareOp .NotEq) (fun x y H Q=>∃ a b xs ys,x=.ref a∧y=.ref b∧SqL X.K H a xs∧SqL X.K H b ys∧xs.all flatV=true∧ys.all flatV=true∧Q (.bl (!eqVs xs ys)) H):=by
  intro pins s σ H x y v u Q I rx ry h
  obtain ⟨a,b,xs,ys,rfl,rfl,h1,h2,f1,f2,q⟩:=h
  cases (show v=Value.ref a from rx)
  cases (show u=Value.ref b from ry)
  obtain ⟨us,r1,l1,_⟩:=I.list h1
  obtain ⟨ws,r2,l2,_⟩:=I.list h2
  have e1:=r1.length
  have e2:=r2.length
  by_cases hl:xs.length=ys.length
  · refine SeqAt.RcNeAt.lists (e:=eqAtJ xs ys) l1.isList l2.isList (by simp;omega) hu (fun j g1 g2=>eqAt_items r1 r2 f1 f2 j g1 g2) _ _ _ _ ⟨.bl _,H,I,rfl,?_⟩
    have:eqVs xs ys=(List.range us.toArray.size).all (eqAtJ xs ys):=by
      unfold eqVs
      rw [List.size_toArray,← e1,beq_iff_eq.mpr hl,Bool.true_and]
    rw [← this];exact q
  · refine SeqAt.RcNeAt.lists_lengths l1.isList l2.isList (by simp;omega) hu _ _ _ _ ⟨.bl _,H,I,rfl,?_⟩
    have:eqVs xs ys=false:=by
      unfold eqVs
      have:(xs.length == ys.length)=false:=by simpa using hl
      rw [this];rfl
    rw [this] at q;exact q
end
end L2
namespace L2
open PySem PySem.Spec PyProof.Rows
section
variable {X:Cx}
theorem range_all (bs:List Bool):(List.range bs.length).all (fun i=>bs.getD i true)=bs.all id:=by
  rw [Bool.eq_iff_iff,List.all_eq_true,List.all_eq_true]
  constructor
  · intro h b hb
    obtain ⟨i,hi,rfl⟩:=List.getElem_of_mem hb
    have:=h i (List.mem_range.mpr hi)
    rw [List.getD_eq_getElem?_getD,List.getElem?_eq_getElem hi] at this
    exact this
  · intro h i hi
    have hi':=List.mem_range.mp hi
    rw [List.getD_eq_getElem?_getD,List.getElem?_eq_getElem hi']
    exact h _ (List.getElem_mem hi')
theorem call_all (hc:X.calm=true):CallR X (.builtin "all") (fun vs H Q=>∃ (a:Addr) (bs:List Bool),vs=[.ref a]∧SqL X.K H a (bs.map V.bl)∧Q (.bl (bs.all id)) H):=by
  intro pins s σ H xs us Q I r h
  obtain ⟨a,bs,rfl,hl,q⟩:=h
  obtain ⟨u,rfl,ru⟩:=vals1 r
  cases (show u=Value.ref a from ru)
  obtain ⟨its,rv,ht,hz⟩:=I.list hl
  have hlen:=rv.length
  rw [List.length_map] at hlen
  have hh:X.A.in1.handled=none:=I.ok.hd hc
  have hlt:a < s.heap.objs.size:=by obtain ⟨o,e,_⟩:=ht.isList;exact Heap.lt_size e
  refine call_all_walk (wpAny_pyIter_list ht.isList ⟨s.heap.objs.size,_,_,_,_,_,fun i=>bs.getD i true,rfl,Walks.list hh s.heap.objs.size a (Nat.ne_of_lt hlt) its.toArray,?_,?_,?_⟩)
  · exact ⟨⟨_,Heap.get?_push_size _ rfl,rfl,rfl⟩,Heap.IsList.push ht.isList _⟩
  · intro i v s' Q' E' hv hQ
    have hv':its[i]?=some v:=by simpa using hv
    have hi:i < (bs.map V.bl).length:=by rw [List.length_map,hlen];exact (List.getElem?_eq_some_iff.mp hv').1
    obtain ⟨u',e1,e2⟩:=rv.get (List.getElem?_eq_getElem hi)
    rw [hv'] at e1
    cases e1
    rw [List.getElem_map] at e2
    cases (show v=Value.bool _ from e2)
    refine wpAny_truthy_bool ?_
    have hb:bs.getD i true=bs[i]'(by simpa using hi):=by rw [List.getD_eq_getElem?_getD,List.getElem?_eq_getElem (by simpa using hi)];rfl
    rw [← hb]
    exact hQ
  · intro h' tk hk
    refine ⟨.bl (bs.all id),H,?_,?_,q⟩
    · exact I.kept (t':=tk) fun b o e=>hk b o (by simp;exact Nat.ne_of_lt (Heap.lt_size e)) (Heap.get?_push_of_some _ e)
    · show Value.bool _=Value.bool _
      rw [← range_all,hlen,List.size_toArray]
end
end L2
namespace L2
open PySem.W PyProof.Rows
section
variable {α β:Type} {n:Nat} {lt:Nat→Nat→Bool}
structure TotB (n:Nat) (lt:Nat→Nat→Bool):Prop where
  asym:∀ i j,lt i j=true→lt j i=false
  tr:∀ i j k,lt j i=false→lt k j=false→lt k i=false
  tot:∀ i j,i < n→j < n→lt i j=false→lt j i=false→i=j
def PermN (n:Nat) (p:Array Nat):Prop:=p.toList.Perm (List.range n)
theorem PermN.sz {p:Array Nat} (h:PermN n p):p.size=n:=by
  have:=List.Perm.length_eq h
  simpa using this
theorem PermN.below {p:Array Nat} (h:PermN n p) (h0:0 < n) (k:Nat):p.getD k 0 < n:=by
  rw [Array.getD_eq_getD_getElem?]
  cases e:p[k]? with
  | none=>exact h0
  | some x=>
    have:x∈p.toList:=by
      have:=Array.mem_of_getElem? e
      exact Array.mem_toList_iff.mpr this
    exact List.mem_range.mp ((List.Perm.mem_iff h).mp this)
theorem PermN.inj {p:Array Nat} (h:PermN n p) {i j:Nat} (hi:i < n) (hj:j < n) (e:p.getD i 0=p.getD j 0):i=j:=by
  have nd:p.toList.Nodup:=(List.Perm.nodup_iff h).mpr List.nodup_range
  have s:=h.sz
  have hi':i < p.toList.length:=by rw [Array.length_toList,s];exact hi
  have hj':j < p.toList.length:=by rw [Array.length_toList,s];exact hj
  rw [Array.getD_eq_getD_getElem?,Array.getD_eq_getD_getElem?,Array.getElem?_eq_getElem (by omega),Array.getElem?_eq_getElem (by omega)] at e
  have e':p.toList[i]=p.toList[j]:=by simpa using e
  exact (List.getElem_inj nd).mp e'
variable (o:TotB n lt)
include o
end
open PySem PySem.Spec
def shV:V→Nat
  | .int _=>1
  | .str _=>2
  | _=>0
def ltV:V→V→Bool
  | .int i,.int j=>decide (i < j)
  | .str a,.str b=>decide (a.cps.toList < b.cps.toList)
  | _,_=>false
def lexV:List V→List V→Bool
  | x :: xs,y :: ys=>if x=y then lexV xs ys else ltV x y
  | [],_ :: _=>true
  | _,_=>false
theorem str_eq {a b:Str} (h:a.cps.toList=b.cps.toList):a=b:=by
  obtain ⟨x⟩:=a;obtain ⟨y⟩:=b
  have:x=y:=Array.toList_inj.mp h
  rw [this]
theorem two_kinds {x y:V} (hs:shV x=shV y) (h0:shV x≠0):(∃ i j,x=.int i∧y=.int j)∨∃ a b,x=.str a∧y=.str b:=by
  cases x <;> cases y <;> simp [shV] at hs h0 ⊢
theorem ltV_asym {x y:V} (h:ltV x y=true):ltV y x=false:=by
  cases x <;> cases y <;> simp [ltV] at h ⊢
  · omega
  · exact List.not_lt.mp (List.lt_asymm h)
theorem ltV_tot {x y:V} (hs:shV x=shV y) (h0:shV x≠0) (h1:ltV x y=false) (h2:ltV y x=false):x=y:=by
  rcases two_kinds hs h0 with ⟨i,j,rfl,rfl⟩ | ⟨a,b,rfl,rfl⟩
  · have h1':¬ i < j:=of_decide_eq_false h1
    have h2':¬ j < i:=of_decide_eq_false h2
    rw [show i=j by omega]
  · have h1':¬ a.cps.toList < b.cps.toList:=of_decide_eq_false h1
    have h2':¬ b.cps.toList < a.cps.toList:=of_decide_eq_false h2
    rw [str_eq (List.le_antisymm (List.not_lt.mp h2') (List.not_lt.mp h1'))]
theorem ltV_tr {x y z:V} (hs:shV x=shV y) (ht:shV y=shV z) (h0:shV x≠0) (h1:ltV y x=false) (h2:ltV z y=false):ltV z x=false:=by
  rcases two_kinds hs h0 with ⟨i,j,rfl,rfl⟩ | ⟨a,b,rfl,rfl⟩
  · rcases two_kinds ht (by simp [shV]) with ⟨_,k,e,rfl⟩ | ⟨_,_,e,_⟩
    · have h1':¬ j < i:=of_decide_eq_false h1
      cases e
      have h2':¬ k < j:=of_decide_eq_false h2
      exact decide_eq_false (by omega)
    · cases e
  · rcases two_kinds ht (by simp [shV]) with ⟨_,_,e,_⟩ | ⟨_,c,e,rfl⟩
    · cases e
    · cases e
      have h1':¬ b.cps.toList < a.cps.toList:=of_decide_eq_false h1
      have h2':¬ c.cps.toList < b.cps.toList:=of_decide_eq_false h2
      exact decide_eq_false (List.not_lt.mpr (List.le_trans (List.not_lt.mp h1') (List.not_lt.mp h2')))
theorem lexV_asym:∀ (xs ys:List V),lexV xs ys=true→lexV ys xs=false
  | x :: xs,y :: ys,h=>by
    unfold lexV at h ⊢
    by_cases e:x=y
    · rw [if_pos e] at h;rw [if_pos e.symm];exact lexV_asym xs ys h
    · rw [if_neg e] at h;rw [if_neg (Ne.symm e)];exact ltV_asym h
  | [],_ :: _,_=>rfl
  | [],[],h=>by cases h
  | _ :: _,[],h=>by cases h
theorem lexV_tot:∀ (xs ys:List V),xs.map shV=ys.map shV→0 ∉ xs.map shV→lexV xs ys=false→lexV ys xs=false→xs=ys
  | x :: xs,y :: ys,hs,h0,h1,h2=>by
    simp only [List.map_cons,List.cons.injEq] at hs
    simp only [List.map_cons,List.mem_cons,not_or] at h0
    unfold lexV at h1 h2
    by_cases e:x=y
    · rw [if_pos e] at h1;rw [if_pos e.symm] at h2
      rw [e,lexV_tot xs ys hs.2 h0.2 h1 h2]
    · rw [if_neg e] at h1;rw [if_neg (Ne.symm e)] at h2
      exact absurd (ltV_tot hs.1 (Ne.symm h0.1) h1 h2) e
  | [],[],_,_,_,_=>rfl
  | [],_ :: _,hs,_,_,_=>by cases hs
  | _ :: _,[],hs,_,_,_=>by cases hs
theorem lexV_tr:∀ (xs ys zs:List V),xs.map shV=ys.map shV→ys.map shV=zs.map shV→0 ∉ xs.map shV→lexV ys xs=false→lexV zs ys=false→lexV zs xs=false
  | x :: xs,y :: ys,z :: zs,hs,ht,h0,h1,h2=>by
    simp only [List.map_cons,List.cons.injEq] at hs ht
    simp only [List.map_cons,List.mem_cons,not_or] at h0
    unfold lexV at h1 h2 ⊢
    by_cases e:y=x
    · rw [if_pos e] at h1
      by_cases f:z=y
      · rw [if_pos f] at h2;rw [if_pos (f.trans e)];exact lexV_tr xs ys zs hs.2 ht.2 h0.2 h1 h2
      · rw [if_neg f] at h2;rw [if_neg (fun q=>f (q.trans e.symm)),← e];exact h2
    · rw [if_neg e] at h1
      by_cases f:z=y
      · rw [if_pos f] at h2;rw [if_neg (fun q=>e (f.symm.trans q)),f];exact h1
      · rw [if_neg f] at h2
        by_cases g:z=x
        · exact absurd (ltV_tot hs.1.symm (by rw [← hs.1];exact Ne.symm h0.1) h1 (by rw [← g];exact h2)) e
        · rw [if_neg g];exact ltV_tr hs.1 ht.1 (Ne.symm h0.1) h1 h2
  | [],[],[],_,_,_,_,_=>rfl
  | [],_ :: _,_,hs,_,_,_,_=>by cases hs
  | _ :: _,[],_,hs,_,_,_,_=>by cases hs
  | [],[],_ :: _,_,ht,_,_,_=>by cases ht
  | _ :: _,_ :: _,[],_,ht,_,_,_=>by cases ht
structure Keys (n:Nat) (K:Nat→List V) (sh:List Nat):Prop where
  shp:∀ i,(K i).map shV=sh
  ne:sh≠[]
  z:0 ∉ sh
  inj:∀ i j,i < n→j < n→K i=K j→i=j
theorem Keys.tot {n:Nat} {K:Nat→List V} {sh:List Nat} (k:Keys n K sh):TotB n (fun i j=>lexV (K i) (K j)) where
  asym:=fun i j h=>lexV_asym _ _ h
  tr:=fun i j l h1 h2=>lexV_tr _ _ _ ((k.shp i).trans (k.shp j).symm) ((k.shp j).trans (k.shp l).symm) (by rw [k.shp];exact k.z) h1 h2
  tot:=fun i j hi hj h1 h2=>k.inj i j hi hj (lexV_tot _ _ ((k.shp i).trans (k.shp j).symm) (by rw [k.shp];exact k.z) h1 h2)
section
variable {prog:Program} {w:World} {A:Around} {E:Value→Shared→Prop} {s:Shared} {Q:Bool→Shared→Prop}
def KeysOn (h:Heap) (ks:List Value) (K:Nat→List V):Prop:=∀ (i:Nat) (v:Value),ks[i]?=some v→∃ a its,v=.ref a∧IsTup h a its.toArray∧Vals (K i) its
theorem KeysOn.keeps {h h':Heap} {ks:List Value} {K:Nat→List V} (x:KeysOn h ks K) (k:∀ b o,o.cls=.type "tuple" → h.get? b=some o→h'.get? b=some o):KeysOn h' ks K:=fun i v hv=>by
  obtain ⟨a,its,rfl,⟨o,ho,hc,r⟩,q⟩:=x i v hv
  exact ⟨a,its,rfl,⟨o,k _ _ hc ho,hc,r⟩,q⟩
variable {n:Nat} {K:Nat→List V} {sh:List Nat} {ks:List Value}
end
end L2
namespace L2
open PySem PySem.Spec PyProof.Rows PySem.W
def codeO (c:Addr) (qual:Str):HO:=.ext fun h=>h.CodeRec (.ref c) qual
def LamAt (P:Addr) (lp:Pos) (qual:Str) (H:Hp):Prop:=∃ ps,H P=some (.tbl ps)∧TriplesOk ps.toList∧(codeAmong lp ps.toList=none∨∃ c,codeAmong lp ps.toList=some (.ref c)∧H c=some (codeO c qual))
abbrev Lm:=Addr × Pos × Str
def Lams (ls:List Lm) (H:Hp):Prop:=∀ l∈ls,LamAt l.1 l.2.1 l.2.2 H
structure Kt (ls:List Lm) (H H':Hp):Prop where
  lam:Lams ls H'
  keep:∀ b o,(∀ ps,o≠.tbl ps)→H b=some o→H' b=some o
  here:∀ b,H' b=none→H b=none
section
variable {P q:Addr} {lp:Pos} {qual:Str} {H H1 H2:Hp} {o:HO} {ls:List Lm} {xs:List V}
theorem LamAt.same (a:LamAt P lp qual H) (s:Same H H1):LamAt P lp qual H1:=by
  obtain ⟨ps,a,b,c⟩:=a
  refine ⟨ps,s _ _ a,b,?_⟩
  rcases c with c | ⟨d,c,e⟩
  · exact .inl c
  · exact .inr ⟨d,c,s _ _ e⟩
theorem LamAt.start (h:H P=some (.tbl #[])):LamAt P lp qual H:=⟨#[],h,trivial,.inl rfl⟩
theorem Lams.same (a:Lams ls H) (s:Same H H1):Lams ls H1:=fun l hl=>(a l hl).same s
theorem LamAt.write (a:LamAt P lp qual H) (h:H q=some (.lst xs)):LamAt P lp qual (upd H q o):=by
  obtain ⟨ps,a,b,c⟩:=a
  refine ⟨ps,by rw [upd_ne (ne_of a h (by intro z;cases z))];exact a,b,?_⟩
  rcases c with c | ⟨d,c,e⟩
  · exact .inl c
  · exact .inr ⟨d,c,by rw [upd_ne (ne_of e h (by intro z;cases z))];exact e⟩
theorem Kt.refl (a:Lams ls H):Kt ls H H:=⟨a,fun _ _ _ e=>e,fun _ e=>e⟩
theorem Kt.trans (a:Kt ls H H1) (b:Kt ls H1 H2):Kt ls H H2:=⟨b.lam,fun c u hc e=>b.keep c u hc (a.keep c u hc e),fun c e=>a.here c (b.here c e)⟩
theorem Kt.same (a:Kt ls H H1) (s:Same H1 H2):Kt ls H H2:=⟨a.lam.same s,fun c u hc e=>s _ _ (a.keep c u hc e),fun c e=>a.here c (s.free e)⟩
theorem Kt.of (s:Same H H1) (a:Lams ls H):Kt ls H H1:=(Kt.refl a).same s
theorem Kt.write (a:Kt ls H H1) (hq:H q=none) (h:H1 q=some (.lst xs)):Kt ls H (upd H1 q o):=
  ⟨fun l hl=>(a.lam l hl).write h,fun b u hb e=>by rw [upd_ne (ne_of_none e hq)];exact a.keep b u hb e,fun b e=>by
    by_cases z:b=q
    · rw [z,upd_same] at e;cases e
    · rw [upd_ne z] at e;exact a.here b e⟩
theorem Kt.lst (a:Kt ls H H1) (h:H q=some (.lst xs)):H1 q=some (.lst xs):=a.keep _ _ (fun _ z=>by cases z) h
theorem Kt.tup (a:Kt ls H H1) (h:H q=some (.tup xs)):H1 q=some (.tup xs):=a.keep _ _ (fun _ z=>by cases z) h
theorem Kt.seq {K:PySem.W.Frag} (a:Kt ls H H1) (h:SqL K H q xs):SqL K H1 q xs:=by
  rcases h with (h | ⟨ob,h⟩) | h
  · exact .inl (.inl (a.lst h))
  · exact .inl (.inr ⟨ob,a.keep _ _ (fun _ z=>by cases z) h⟩)
  · exact .inr h
end
section
variable {X:Cx} {pins:List (Addr × Obj)} {σ:St} {H:Hp} {s:Shared}
end
end L2
namespace L2
open PySem PySem.Spec PyProof.Rows PySem.W
structure TabAt (base:Heap) (mg:Str→Option Value) (nm:Str) (T:Addr):Prop where
  fn:∃ a o fd c,mg nm=some (.ref a)∧base.get? a=some o∧o.data=.func fd∧fd.code=.ref c∧CodeHd base c T
  blt:base.BuiltinsAt mg T
inductive Two {α β:Type} (R:α→β→Prop):List α→List β→Prop
  | nil:Two R [] []
  | cons {a b xs ys}:R a b→Two R xs ys→Two R (a :: xs) (b :: ys)
end L2
namespace L2
open PySem PySem.Spec PyProof.Rows PySem.W
theorem call_isinstK {X:Cx} (K:PySem.W.Frag) (hK:X.K=K:=by rfl):CallR X (.builtin "isinstance") (fun vs H Q=>∃ x t T b,vs=[x,V.ty T]∧TyOf K H x t∧PySem.W.kitOne K t (Value.type T)=some b∧Q (V.bl b) H):=by
  subst hK;exact call_isinst
end L2
namespace L2
open PySem PySem.Spec PyProof.Rows PySem.W
theorem ints_showable {ns:List Int} (h:∀ n∈ns,n.natAbs < 10 ^ 12):PyData.showable (.list (ns.map .int))=true:=by
  simp only [PyData.showable]
  refine PyData.showableAll_ints ns fun n hn=>?_
  rcases Nat.eq_zero_or_pos n.natAbs with z | z
  · rw [z];decide
  · exact (Nat.log2_lt (by omega)).mpr (Nat.lt_of_lt_of_le (Nat.lt_trans (h n hn) (show 10 ^ 12 < 2 ^ 40 by decide)) (Nat.pow_le_pow_right (by decide) (by decide)))
section
variable {X:Cx} {k:Nat}
theorem bt_repr:bootBuiltins "repr" = some (.builtin "repr"):=by kernel_rfl
end
end L2
namespace L2
open PySem PySem.Spec PyProof.Rows PySem.W
theorem SqL.keepS {K:PySem.W.Frag} {H H1:Hp} {q:Addr} {xs:List V} (h:SqL K H q xs) (s:Same H H1):SqL K H1 q xs:=by
  rcases h with (h | ⟨ob,h⟩) | h
  · exact .inl (.inl (s _ _ h))
  · exact .inl (.inr ⟨ob,s _ _ h⟩)
  · exact .inr h
end L2
namespace L2
open PySem PySem.Spec PyProof.Rows PySem.W
theorem weight_ints:∀ ns:List Int,(∀ n∈ns,n.natAbs < 10 ^ 12)→PyData.weightAll (ns.map .int)≤42 * ns.length
  | [],_=>by simp [PyData.weightAll]
  | n :: r,h=>by
    have a:=weight_ints r fun m hm=>h m (List.mem_cons_of_mem _ hm)
    have b:PyData.weight (.int n)≤41:=by
      simp only [PyData.weight]
      split
      · omega
      · rename_i z
        have nz:n.natAbs≠0:=fun e=>z (by rw [Int.natAbs_eq_zero.mp e];rfl)
        have:=(Nat.log2_lt nz (k:=40)).mpr (Nat.lt_trans (h n List.mem_cons_self) (by decide))
        omega
    simp only [List.map_cons,PyData.weightAll,List.length_cons]
    omega
section
variable {X:Cx} {k:Nat}
end
end L2
namespace L2
open PySem PySem.Spec PyProof.Rows PySem.W
def keyOf (e:Int × Value):Str:=match e.2 with | .str x _=>x | _=>Str.empty
structure SetS (w:World) (led:Bool) (es:Array (Int × Value)) (t:SetTable) (S:List Str):Prop where
  ent:∀ e∈es.toList,∃ x tk,e=(hashStr w x,Value.str x tk)
  nd:(es.toList.map keyOf).Nodup
  mem:∀ x,x∈es.toList.map keyOf ↔ x∈S
  fit:t.fits es.size=true
  led:t.led=led
  pl:es.size=0∨t.plain=false
theorem keyOf_perm {a b:List (Int × Value)} (p:a.Perm b):(a.map keyOf).Perm (b.map keyOf):=p.map _
theorem SetS.grow {w:World} {led:Bool} {es es':Array (Int × Value)} {t t':SetTable} {S:List Str} {x:Str} {tk:Tok} (h:SetS w led es t S) (nx:x ∉ S) (p:es'.toList.Perm (es.push (hashStr w x,.str x tk)).toList) (f:t'.fits es'.size=true) (l:t'.led=led) (q:t'.plain=false):SetS w led es' t' (S++[x]) where
  ent:=fun e he=>by
    have:=p.mem_iff.mp he
    rw [Array.toList_push] at this
    rcases List.mem_append.mp this with z | z
    · exact h.ent e z
    · exact ⟨x,tk,List.mem_singleton.mp z⟩
  nd:=by
    rw [(keyOf_perm p).nodup_iff,Array.toList_push,List.map_append,List.nodup_append]
    refine ⟨h.nd,by simp,fun a ha b hb=>?_⟩
    have hb':b=x:=by simpa [keyOf] using hb
    subst hb'
    exact fun e=>nx (by rw [← e];exact (h.mem a).mp ha)
  mem:=fun y=>by
    rw [(keyOf_perm p).mem_iff,Array.toList_push,List.map_append,List.mem_append,List.mem_append,h.mem y]
    simp [keyOf]
  fit:=f
  led:=l
  pl:=.inr q
structure SetA (w:World) (led:Bool) (h:Heap) (a:Addr) (S:List Str) (n:Nat):Prop where
  ex:∃ es ep t,h.get? a=some { cls:=.type "set", data:=.set es ep t }∧SetS w led es t S∧es.size≤n
section
variable {prog:Program} {w:World} {A:Around} {E:Value→Shared→Prop} {s:Shared}
end
end L2
namespace L2
open PySem PySem.Spec PyProof.Rows PySem.W
section
variable {prog:Program} {w:World} {A:Around} {E:Value→Shared→Prop} {s:Shared}
theorem SetA.keeps {led:Bool} {h h':Heap} {a:Addr} {S:List Str} {n:Nat} (x:SetA w led h a S n) (k:∀ o,h.get? a=some o→h'.get? a=some o):SetA w led h' a S n:=by
  obtain ⟨es,ep,t,e,r⟩:=x
  exact ⟨es,ep,t,k _ e,r⟩
theorem SetA.start {h:Heap} {a:Addr} {led:Bool} (e:h.get? a=some { cls:=.type "set", data:=.set #[] 0 (SetTable.fresh 0 0 led) }):SetA w led h a [] 0:=
  ⟨#[],0,_,e,⟨fun x hx=>by simp at hx,by simp,fun x=>by simp,by rfl,rfl,.inl rfl⟩,Nat.le_refl _⟩
theorem SetA.typeIs {led:Bool} {a:Addr} {S:List Str} {n:Nat} (x:SetA w led s.heap a S n):s.TypeIs (.ref a) "set" := by
  obtain ⟨es,ep,t,e,r⟩:=x
  exact ⟨_,e,rfl⟩
end
end L2
namespace L2
open PySem PySem.Spec PyProof.Rows PySem.W
section
variable {prog:Program} {w:World} {A:Around} {E:Value→Shared→Prop} {s:Shared}
end
end L2
namespace L2
open PySem PySem.Spec PyProof.Rows PySem.W
section
variable {prog:Program} {w:World} {A:Around} {E:Value→Shared→Prop}
variable {s:Shared}
end
end L2
namespace L2
open PySem PySem.Spec PyProof.Rows PySem.W
section
variable {prog:Program} {w:World} {A:Around}
end
end L2
namespace L2
open PySem PySem.Spec PyProof.Rows PySem.W
section
variable {prog:Program} {w:World} {A:Around} {E:Value→Shared→Prop} {s:Shared}
end
end L2
namespace L2
open PySem PySem.Spec PyProof.Rows PySem.W
section
variable {prog:Program} {w:World} {A:Around} {E:Value→Shared→Prop} {s:Shared}
end
end L2
namespace L2
open PySem PySem.Spec PyProof.Rows PySem.W
theorem Inv.drawn {X:Cx} {pins:List (Addr × Obj)} {σ:St} {H:Hp} {s:Shared} (I:Inv X pins σ H s) (d:Drawn):Inv X pins σ H { s with drawn:=d }:=
  ⟨I.ok,I.os,I.bare,I.base,I.loc,I.cell,I.free,I.freeC,I.pin,I.hok,I.len⟩
section
variable {X:Cx} {a:Expr} {ta:TA} {p p2 pos pos2:Pos}
end
end L2
namespace L2
open PySem PySem.Spec PyProof.Rows
section
variable {κ:Type} [DecidableEq κ]
def valV (kvs:List (κ × V)) (k:κ):Option V:=(kvs.find? fun kv=>decide (kv.1=k)).map (·.2)
def putK (kvs:List (κ × V)) (k:κ) (v:V):List (κ × V):=
  if (kvs.any fun kv=>decide (kv.1=k))=true then kvs.map (fun kv=>if kv.1=k then (kv.1,v) else kv) else kvs++[(k,v)]
def dropK (kvs:List (κ × V)) (k:κ):List (κ × V):=kvs.filter fun kv=>decide (kv.1≠k)
theorem valV_pos {p:κ × V} {r:List (κ × V)} {k:κ} (e:p.1=k):valV (p :: r) k=some p.2:=by simp [valV,List.find?_cons,e]
theorem valV_neg {p:κ × V} {r:List (κ × V)} {k:κ} (e:¬ p.1=k):valV (p :: r) k=valV r k:=by simp [valV,List.find?_cons,e]
theorem valV_any (k:κ):∀ kvs:List (κ × V),(kvs.any fun kv=>decide (kv.1=k))=(valV kvs k).isSome
  | []=>rfl
  | p :: r=>by
    rw [List.any_cons]
    by_cases e:p.1=k
    · simp only [valV_pos e,decide_eq_true e,Bool.true_or,Option.isSome_some]
    · rw [valV_neg e,decide_eq_false e,Bool.false_or];exact valV_any k r
theorem RelO.isSome_eq {o:Option V} {u:Option Value} (r:RelO o u):o.isSome=u.isSome:=by
  cases o with
  | none=>cases u with
    | none=>rfl
    | some _=>exact (show False from r).elim
  | some _=>cases u with
    | none=>exact (show False from r).elim
    | some _=>rfl
theorem RelO.getD {o:Option V} {u:Option Value} {d:V} {d':Value} (r:RelO o u) (rd:RelV d d'):RelV (o.getD d) (u.getD d'):=by
  cases o with
  | none=>cases u with
    | none=>exact rd
    | some _=>exact (show False from r).elim
  | some _=>cases u with
    | none=>exact (show False from r).elim
    | some _=>exact r
theorem KV.val {kvs:List (κ × V)} {vs:List (κ × Value)} (r:KV kvs vs) (k:κ):RelO (valV kvs k) (valueAt vs k):=by
  unfold KV at r
  induction r with
  | nil=>exact True.intro
  | @cons p q ps qs h t ih=>
    obtain ⟨h1,h2⟩:=h
    by_cases e:p.1=k
    · have e':q.1=k:=h1.symm.trans e
      have b:valueAt (q :: qs) k=some q.2:=by simp [valueAt,List.find?_cons,e']
      rw [valV_pos e,b];exact h2
    · have e':¬ q.1=k:=fun z=>e (h1.trans z)
      have b:valueAt (q :: qs) k=valueAt qs k:=by simp [valueAt,List.find?_cons,e']
      rw [valV_neg e,b];exact ih
theorem KV.any {kvs:List (κ × V)} {vs:List (κ × Value)} (r:KV kvs vs) (k:κ):(kvs.any fun kv=>decide (kv.1=k))=vs.any fun kv=>decide (kv.1=k):=by
  unfold KV at r
  induction r with
  | nil=>rfl
  | cons h t ih=>rw [List.any_cons,List.any_cons,ih,h.1]
theorem KV.repl {kvs:List (κ × V)} {vs:List (κ × Value)} (r:KV kvs vs) (k:κ) {y:V} {u:Value} (ry:RelV y u) :
    KV (kvs.map fun kv=>if kv.1=k then (kv.1,y) else kv) (vs.map fun kv=>if kv.1=k then (kv.1,u) else kv):=by
  unfold KV at r ⊢
  induction r with
  | nil=>exact .nil
  | @cons p q ps qs h t ih=>
    rw [List.map_cons,List.map_cons]
    refine .cons ?_ ih
    obtain ⟨h1,h2⟩:=h
    by_cases e:p.1=k
    · rw [if_pos e,if_pos (h1.symm.trans e)];exact ⟨h1,ry⟩
    · rw [if_neg e,if_neg (fun z=>e (h1.trans z))];exact ⟨h1,h2⟩
theorem KV.put {kvs:List (κ × V)} {vs:List (κ × Value)} (r:KV kvs vs) (k:κ) {y:V} {u:Value} (ry:RelV y u):KV (putK kvs k y) (stored vs k u):=by
  unfold putK stored
  rw [r.any k]
  by_cases e:(vs.any fun kv=>decide (kv.1=k))=true
  · rw [if_pos e,if_pos e];exact r.repl k ry
  · rw [if_neg e,if_neg e];exact Paired.snoc r ⟨rfl,ry⟩
theorem KV.drop {kvs:List (κ × V)} {vs:List (κ × Value)} (r:KV kvs vs) (k:κ):KV (dropK kvs k) (without vs k):=by
  unfold KV at r ⊢
  unfold dropK without
  induction r with
  | nil=>exact .nil
  | @cons p q ps qs h t ih=>
    obtain ⟨h1,h2⟩:=h
    rw [List.filter_cons,List.filter_cons]
    by_cases e:p.1=k
    · have a:¬ decide (p.1≠k)=true:=by simp [e]
      have b:¬ decide (q.1≠k)=true:=by simp [h1.symm.trans e]
      rw [if_neg a,if_neg b];exact ih
    · have e':¬ q.1=k:=fun z=>e (h1.trans z)
      have a:decide (p.1≠k)=true:=by simp [e]
      have b:decide (q.1≠k)=true:=by simp [e']
      rw [if_pos a,if_pos b];exact .cons ⟨h1,h2⟩ ih
theorem KV.keys {kvs:List (κ × V)} {vs:List (κ × Value)} (r:KV kvs vs):kvs.map (·.1)=vs.map (·.1):=by
  unfold KV at r
  induction r with
  | nil=>rfl
  | cons h t ih=>rw [List.map_cons,List.map_cons,ih,h.1]
theorem KV.length {kvs:List (κ × V)} {vs:List (κ × Value)} (r:KV kvs vs):kvs.length=vs.length:=Paired.length r
end
abbrev KT (H:Hp):List (List Key × V)→List (List Key × Addr × Value)→Prop:=Paired fun p q=>p.1=q.1∧H q.2.1=some (.tup (p.1.map kV))∧RelV p.2 q.2.2
theorem KT.val {H:Hp} {kvs:List (List Key × V)} {xs:List (List Key × Addr × Value)} (r:KT H kvs xs) (k:List Key):RelO (valV kvs k) ((atKey xs k).map (·.2)):=by
  induction r with
  | nil=>exact True.intro
  | @cons p q ps qs h t ih=>
    obtain ⟨h1,_,h2⟩:=h
    by_cases e:p.1=k
    · have e':q.1=k:=h1.symm.trans e
      have b:atKey (q :: qs) k=some q.2:=by simp [atKey,List.find?_cons,e']
      rw [valV_pos e,b];exact h2
    · have e':¬ q.1=k:=fun z=>e (h1.trans z)
      have b:atKey (q :: qs) k=atKey qs k:=by simp [atKey,List.find?_cons,e']
      rw [valV_neg e,b];exact ih
theorem KT.repl {H:Hp} {kvs:List (List Key × V)} {xs:List (List Key × Addr × Value)} (r:KT H kvs xs) (k:List Key) {y:V} {u:Value} (ry:RelV y u) :
    KT H (kvs.map fun kv=>if kv.1=k then (kv.1,y) else kv) (xs.map (putAt k u)):=by
  induction r with
  | nil=>exact .nil
  | @cons p q ps qs h t ih=>
    rw [List.map_cons,List.map_cons]
    refine .cons ?_ ih
    obtain ⟨h1,h2,h3⟩:=h
    unfold putAt
    by_cases e:p.1=k
    · rw [if_pos e,if_pos (h1.symm.trans e)];exact ⟨h1,h2,ry⟩
    · rw [if_neg e,if_neg (fun z=>e (h1.trans z))];exact ⟨h1,h2,h3⟩
theorem KT.put {H:Hp} {kvs:List (List Key × V)} {xs:List (List Key × Addr × Value)} (r:KT H kvs xs) (k:List Key) {b:Addr} {y:V} {u:Value} (hb:H b=some (.tup (k.map kV))) (ry:RelV y u) :
    KT H (putK kvs k y) (storedH xs k b u):=by
  have e:(kvs.any fun kv=>decide (kv.1=k))=(atKey xs k).isSome:=by
    rw [valV_any,(r.val k).isSome_eq,Option.isSome_map]
  unfold putK storedH
  rw [e]
  by_cases q:(atKey xs k).isSome=true
  · rw [if_pos q,if_pos q];exact r.repl k ry
  · rw [if_neg q,if_neg q];exact Paired.snoc r ⟨rfl,hb,ry⟩
theorem KT.keeps {H H':Hp} {kvs:List (List Key × V)} {xs:List (List Key × Addr × Value)} (r:KT H kvs xs) (ht:∀ b ys,H b=some (.tup ys)→H' b=some (.tup ys)):KT H' kvs xs:=
  Paired.mapP r fun _ _ z=>⟨z.1,ht _ _ z.2.1,z.2.2⟩
section
variable {P:Program} {w:World} {H:Hp} {h:Heap} {a:Addr}
end
def DGet (H:Hp) (a:Addr) (y:V) (r:Option V):Prop:=
  (∃ kvs k,Rd H a (.dK kvs)∧y=kV k∧r=valV kvs k)∨∃ kvs k b,Rd H a (.dT kvs)∧y=.ref b∧H b=some (.tup (k.map kV))∧r=valV kvs k
def DPut (H:Hp) (a:Addr) (y v:V) (H':Hp):Prop:=
  (∃ kvs k,H a=some (.dK kvs)∧y=kV k∧kvs.length < sizeLine∧H'=upd H a (.dK (putK kvs k v))) ∨
  ∃ kvs k b,H a=some (.dT kvs)∧y=.ref b∧H b=some (.tup (k.map kV))∧kvs.length < sizeLine∧H'=upd H a (.dT (putK kvs k v))
theorem DGet.k {H:Hp} {a:Addr} {kvs:List (Key × V)} {k:Key} (e:H a=some (.dK kvs)):DGet H a (kV k) (valV kvs k):=.inl ⟨kvs,k,.inl e,rfl,rfl⟩
theorem DGet.t {H:Hp} {a b:Addr} {kvs:List (List Key × V)} {k:List Key} (e:H a=some (.dT kvs)) (eb:H b=some (.tup (k.map kV))):DGet H a (.ref b) (valV kvs k):=.inr ⟨kvs,k,b,.inl e,rfl,eb,rfl⟩
theorem DPut.k {H:Hp} {a:Addr} {kvs:List (Key × V)} {k:Key} {v:V} (e:H a=some (.dK kvs)) (hl:kvs.length < sizeLine):DPut H a (kV k) v (upd H a (.dK (putK kvs k v))):=.inl ⟨kvs,k,e,rfl,hl,rfl⟩
theorem DPut.t {H:Hp} {a b:Addr} {kvs:List (List Key × V)} {k:List Key} {v:V} (e:H a=some (.dT kvs)) (eb:H b=some (.tup (k.map kV))) (hl:kvs.length < sizeLine) :
    DPut H a (.ref b) v (upd H a (.dT (putK kvs k v))):=.inr ⟨kvs,k,b,e,rfl,eb,hl,rfl⟩
section
variable {X:Cx} {pins:List (Addr × Obj)} {σ:St} {H:Hp} {s:Shared} {a:Addr} {y v:V} {u r:Value} {o:Option V} {A:Around} {E:Value→Shared→Prop}
theorem Inv.big (I:Inv X pins σ H s):sysModules < s.heap.objs.size:=by
  have h:mainGlobals < s.heap.objs.size:=(I.mod.glob.keeps I.bk).lt
  exact Nat.lt_trans (by decide) h
end
section
variable {X:Cx} {pins:List (Addr × Obj)} {σ:St} {H:Hp} {s:Shared} {a:Addr} {kvs:List (Key × V)} {k:Key} {u:Value} {A:Around} {E:Value→Shared→Prop}
end
section
variable {X:Cx} {o i e value:Expr} {pos pos' tpos:Pos} {td ty tv:TE}
end
theorem dk_empty {P:Program} {w:World} {H:Hp} (h:Heap) (hb:sysModules < h.objs.size):ObjOk P w H (h.push { cls:=.type "dict", data:=.dict #[] }) h.objs.size (.dK []):=
  ⟨Nat.zero_le _,beq_eq_false_iff_ne.mpr (Ne.symm (Nat.ne_of_lt hb)),[],.nil,Heap.DictOf.new h⟩
def tDNewK:TE:=fun _ H Q=>∀ p,H p=none→Q (.ref p) (upd H p (.dK []))
section
variable {X:Cx} {pos:Pos}
theorem pe_dnewK:PE X (.Dict [] [] pos) tDNewK:=fun pins s σ H Q I h=>
  wpAny_Dict_empty ⟨.ref s.heap.objs.size,_,I.laid (a:=s.heap.objs.size) (o:=.dK []) (t':=s.toks) (fun _ _ q=>Heap.get?_push_of_some _ q) (Nat.le_refl _) (dk_empty s.heap I.big),rfl,h _ (I.hok.fresh (Nat.le_refl _))⟩
end
structure M1 (X:Cx) (o:Expr) (m:Str) (apos:Pos) (e:Expr) (cpos:Pos):Prop where
  base:attributeBase o m X.env (eval o X.env)=eval o X.env
  few:((backTo cpos (starEach [e] X.env)).all (fun x=>!x.1) && (backToKw cpos (keywordEach [] X.env)).all (fun x=>x.1.isSome)
    && decide (([e]:List Expr).length+([]:List Keyword).length+(if ([]:List Keyword).isEmpty then 0 else 1) < 30))=true
  line:(apos.endLine == cpos.line)=true
  trees:backTo cpos (starEach [e] X.env)=[(false,eval e X.env)]
structure M2 (X:Cx) (o:Expr) (m:Str) (apos:Pos) (e f:Expr) (cpos:Pos):Prop where
  base:attributeBase o m X.env (eval o X.env)=eval o X.env
  few:((backTo cpos (starEach [e,f] X.env)).all (fun x=>!x.1) && (backToKw cpos (keywordEach [] X.env)).all (fun x=>x.1.isSome)
    && decide (([e,f]:List Expr).length+([]:List Keyword).length+(if ([]:List Keyword).isEmpty then 0 else 1) < 30))=true
  line:(apos.endLine == cpos.line)=true
  trees:backTo cpos (starEach [e,f] X.env)=[(false,eval e X.env),(false,eval f X.env)]
section
variable {X:Cx} {pins:List (Addr × Obj)} {σ:St} {H:Hp} {s:Shared} {a:Addr} {y d:V} {u r:Value} {o:Option V} {A:Around} {E:Value→Shared→Prop}
end
section
variable {X:Cx} {o e f:Expr} {apos cpos:Pos} {td ty tx:TE}
end
section
variable {X:Cx} {pins:List (Addr × Obj)} {σ:St} {H:Hp} {s:Shared} {a:Addr} {kvs:List (Key × V)} {A:Around} {E:Value→Shared→Prop}
end
section
variable {X:Cx} {pins:List (Addr × Obj)} {σ:St} {H:Hp} {s:Shared} {a:Addr} {y:V} {u:Value} {A:Around} {E:Value→Shared→Prop}
end
end L2
namespace L2
open PySem PySem.Spec PyProof.Rows PySem.W
open MeetsSeq MeetsSeq2 MeetsSeq3 SeqRoads2 SeqAt
section
variable {X:Cx} {tg:Expr}
end
section
theorem small10000 {n:Nat} (h:n < 10000):n < sizeLine:=by
  rw [sizeLine_eq];omega
theorem comp_big {J:It} {NL:List Str} {ix:List Nat} {g:TG} {tt:TT} {te:TE} {σ:St} {H1:Hp} {Qs:Hp→Prop} {acc:Addr} (n:Nat) (hn:n < 10000) (Pv:Nat→List V→Hp→Prop)
    (hacc:∀ i ys H2,Pv i ys H2→H2 acc=some (.lst ys)∧ys.length≤i) (h0:Pv 0 [] (upd H1 acc (.lst []))) (hstop:∀ ys H2,Pv n ys H2→J.stop n H2∧Qs H2)
    (hturn:∀ i ys H2,i < n→Pv i ys H2→J.go i H2∧∀ x H3,J.yld i H2 x H3→g x (comp0 NL ix σ) H3 fun σ' H4=>σ'.drop NL.length=ix.map (fun j=>σ.getD j none)∧tt σ' H4 fun b H5=>
      if b=true then te σ' H5 fun v H6=>H6 acc=some (.lst ys)∧Pv (i+1) (ys++[v]) (upd H6 acc (.lst (ys++[v]))) else Pv (i+1) ys H5) :
    ∃ W:Nat→Nat→List V→Hp→Prop,(∃ m,W 0 m [] (upd H1 acc (.lst []))) ∧
    ∀ i m ys H2,W i m ys H2→H2 acc=some (.lst ys)∧ys.length < sizeLine ∧
      ((J.stop i H2∧Qs H2)∨(J.go i H2∧∃ N:List V→Hp→Prop,(∀ ys' H',N ys' H'→∃ m',m' < m∧W (i+1) m' ys' H') ∧
        ∀ x H3,J.yld i H2 x H3→g x (comp0 NL ix σ) H3 fun σ' H4=>σ'.drop NL.length=ix.map (fun j=>σ.getD j none)∧tt σ' H4 fun b H5=>
          if b=true then te σ' H5 fun v H6=>H6 acc=some (.lst ys)∧N (ys++[v]) (upd H6 acc (.lst (ys++[v]))) else N ys H5)):=by
  refine ⟨fun i m ys H2=>i≤n∧m=n - i∧Pv i ys H2,⟨n,Nat.zero_le _,rfl,h0⟩,fun i m ys H2 ⟨hi,hm,hp⟩=>?_⟩
  obtain ⟨a1,a2⟩:=hacc i ys H2 hp
  refine ⟨a1,small10000 (by omega),?_⟩
  rcases Nat.lt_or_ge i n with lt | ge
  · obtain ⟨go,tn⟩:=hturn i ys H2 lt hp
    exact .inr ⟨go,Pv (i+1),fun ys' H' hN=>⟨n - (i+1),by omega,by omega,rfl,hN⟩,tn⟩
  · have e:i=n:=by omega
    subst e
    exact .inl (hstop ys H2 hp)
end
section
variable {NL:List Str} {ix:List Nat} {g:TG} {tt:TT} {te:TE} {σ:St} {H1:Hp} {Qs:Hp→Prop} {acc:Addr}
end
section
variable {X:Cx}
end
end L2
namespace L2
open PySem PySem.Spec PyProof.Rows PySem.W
end L2
namespace L2
open PySem PySem.Spec PyProof.Rows PySem.W
end L2
namespace L2
open PySem PySem.Spec PyProof.Rows PySem.W
section
variable {prog:Program} {w:World} {A:Around} {E:Value→Shared→Prop}
def DPrs (h:Heap) (D:Addr) (items:Array Value) (ps:List (Key × Value)):Prop:=
  ps.length=items.size∧∀ (j:Nat) (k:Key) (v:Value),ps[j]?=some (k,v)→∃ (a:Addr) (ku:Value),items[j]?=some (Value.ref a)∧a≠D∧RelV (kV k) ku∧IsTup h a #[ku,v]
theorem DPrs.keeps {h h':Heap} {D I:Addr} {items:Array Value} {ps:List (Key × Value)} (p:DPrs h D items ps) (nI:∀ a:Addr,Value.ref a∈items→a≠I) (k:∀ b o,b≠I→b≠D→h.get? b=some o→h'.get? b=some o):DPrs h' D items ps:=by
  refine ⟨p.1,fun j kk v e=>?_⟩
  obtain ⟨a,ku,ha,hD,hk,o,e1,e2⟩:=p.2 j kk v e
  exact ⟨a,ku,ha,hD,hk,o,k a o (nI a (Array.mem_of_getElem? ha)) hD e1,e2⟩
end
end L2
namespace L2
open PySem PySem.Spec PyProof.Rows PySem.W
section
variable {prog:Program} {w:World} {A:Around} {E:Value→Shared→Prop} {s:Shared}
end
end L2
namespace L2
open PySem PySem.Spec PyProof.Rows PySem.W
section
variable {X:Cx}
end
end L2
namespace Tim
open PySem PyProof.Rows
abbrev setG (st:SortSt) (g:Nat):SortSt:=SortSt.mk' (kindOf st) (arrOf st) (pendingOf st) g (failedOf st)
end Tim
namespace Tim
open PySem PyProof.Rows
section
variable {prog:Program} {w:World} {A:Around} {E:Value→Shared→Prop} {s:Shared} {a₀:Array Keyed} {κ:SortKind} {O:KeyOrd} {key:Keyed→O.α}
def mrg (key:Keyed→O.α):List Keyed→List Keyed→List Keyed
  | [],ys=>ys
  | x :: xs,[]=>x :: xs
  | x :: xs,y :: ys=>if O.blt (key y) (key x)=true then y :: mrg key (x :: xs) ys else x :: mrg key xs (y :: ys)
termination_by xs ys=>xs.length+ys.length
abbrev Srt (key:Keyed→O.α) (l:List Keyed):Prop:=l.Pairwise fun x y=>O.blt (key y) (key x)=false
end
end Tim
namespace Tim
open PySem PyProof.Rows
section
variable {prog:Program} {w:World} {A:Around} {E:Value→Shared→Prop} {s:Shared} {a₀:Array Keyed} {κ:SortKind} {O:KeyOrd} {key:Keyed→O.α}
structure Two (key:Keyed→O.α) (a₀ a b:Array Keyed):Prop where
  ma:∀ x∈a,x∈a₀
  mb:∀ x∈b,x∈a₀
  na:1≤a.size
  nb:1≤b.size
  sa:Srt key a.toList
  sb:Srt key b.toList
  fst:∀ x∈a,∀ y,b[0]?=some y→O.blt (key y) (key x)=true
  lst:∀ y∈b,∀ x,a[a.size - 1]?=some x→O.blt (key y) (key x)=true
def LoI (key:Keyed→O.α) (a b o:Array Keyed) (p q:Nat):Prop:=o.toList++mrg key (a.toList.drop p) (b.toList.drop q)=mrg key a.toList b.toList
section
variable {a b o:Array Keyed} {p q k:Nat} {x y:Keyed}
end
abbrev LSt:=Option (Array Keyed) × Array Keyed × Nat × Nat × Nat × Nat × Nat
structure GoesOn (key:Keyed→O.α) (a b:Array Keyed) (st:SortSt) (m:Nat) (R:ForInStep LSt→SortSt→Prop):Prop where
  fin:∀ (out:Array Keyed) c g,out.toList=mrg key a.toList b.toList→R (.done (some out,c)) (setG st g)
  brk:∀ o p q g c d g',LoI key a b o p q→p+1 < a.size→q < b.size→m≤p+q→R (.done (none,o,p,q,g,c,d)) (setG st g')
  yld:∀ o p q g c d g',LoI key a b o p q→p+1 < a.size→q < b.size→m≤p+q→R (.yield (none,o,p,q,g,c,d)) (setG st g')
section
variable {a b o:Array Keyed} {p q k g c d m g':Nat} {x y:Keyed} {st:SortSt} {R:ForInStep LSt→SortSt→Prop}
end
end
end Tim
namespace Tim
open PySem PyProof.Rows
section
variable {prog:Program} {w:World} {A:Around} {E:Value→Shared→Prop} {s:Shared} {a₀:Array Keyed} {κ:SortKind} {O:KeyOrd} {key:Keyed→O.α}
def HiI (key:Keyed→O.α) (a b o:Array Keyed) (p q:Nat):Prop:=mrg key (a.toList.take p) (b.toList.take q)++o.toList.reverse=mrg key a.toList b.toList
section
variable {a b o:Array Keyed} {p q f:Nat} {x y:Keyed}
end
abbrev HSt:=Option (Array Keyed) × Nat × Nat × Array Keyed × Nat × Nat × Nat
structure GoesHi (key:Keyed→O.α) (a b:Array Keyed) (st:SortSt) (m:Nat) (R:ForInStep HSt→SortSt→Prop):Prop where
  fin:∀ (out:Array Keyed) c g,out.toList=mrg key a.toList b.toList→R (.done (some out,c)) (setG st g)
  brk:∀ o p q g c d g',HiI key a b o p q→0 < p→p≤a.size→1 < q→q≤b.size→p+q≤m→R (.done (none,p,q,o,g,c,d)) (setG st g')
  yld:∀ o p q g c d g',HiI key a b o p q→0 < p→p≤a.size→1 < q→q≤b.size→p+q≤m→R (.yield (none,p,q,o,g,c,d)) (setG st g')
section
variable {a b o:Array Keyed} {p q k g c d m g':Nat} {x y:Keyed} {st:SortSt} {R:ForInStep HSt→SortSt→Prop}
end
end
end Tim
namespace Tim
open PySem PyProof.Rows
section
variable {prog:Program} {w:World} {A:Around} {E:Value→Shared→Prop} {s:Shared} {a₀:Array Keyed} {κ:SortKind} {O:KeyOrd} {key:Keyed→O.α}
theorem three (L:List Keyed) {u v:Nat} (h:u≤v):L=L.take u++(L.drop u).take (v - u)++L.drop v:=by
  have e:L.drop v=(L.drop u).drop (v - u):=by rw [List.drop_drop];congr 1;omega
  rw [e,List.append_assoc,List.take_append_drop,List.take_append_drop]
end
end Tim
namespace Tim
open PySem PyProof.Rows
section
variable {prog:Program} {w:World} {A:Around} {E:Value→Shared→Prop} {s:Shared} {a₀:Array Keyed} {κ:SortKind} {O:KeyOrd} {key:Keyed→O.α}
def Dist (key:Keyed→O.α) (a₀:Array Keyed):Prop:=(a₀.toList.map key).Nodup
theorem Dist.inj (D:Dist key a₀) {xs:Array Keyed} (h:xs.Perm a₀) {i j:Nat} {x y:Keyed} (ex:xs[i]?=some x) (ey:xs[j]?=some y) (h1:O.blt (key x) (key y)=false) (h2:O.blt (key y) (key x)=false):i=j:=by
  have nd:(xs.toList.map key).Nodup:=(List.Perm.nodup_iff ((Array.perm_iff_toList_perm.mp h).map key)).mpr D
  obtain ⟨g1,rfl⟩:=Array.getElem?_eq_some_iff.mp ex
  obtain ⟨g2,rfl⟩:=Array.getElem?_eq_some_iff.mp ey
  refine (List.getElem_inj (h₀:=by simpa using g1) (h₁:=by simpa using g2) nd).mp ?_
  rw [List.getElem_map,List.getElem_map,Array.getElem_toList,Array.getElem_toList]
  exact O.total _ _ h1 h2
end
end Tim
namespace L2
open PySem PySem.Spec PyProof.Rows PySem.W
section
variable {X:Cx}
variable {e st:Expr} {te:TE} {ts:TO} {pos p2:Pos}
end
def Itx (x:Str):It:=⟨fun i _=>i < x.cps.size,fun i H v H'=>H'=H∧∃ c,x.cps[i]?=some c∧v=.str ⟨#[c]⟩,fun i _=>x.cps.size≤i⟩
theorem turn_str {P:Program} {w:World} {K:PySem.W.Frag} {tg:Expr} (x:Str) (t:Tok) (it:Addr):Turn P w K tg (Itx x) [it] it (fun i h=>h.IsStrIter it (strIterType x) x t i) where
  mem:=by simp
  obj:=fun i h st b hb=>by
    have e:b=it:=by simpa using hb
    subst e
    obtain ⟨o,e,c,d⟩:=st
    exact ⟨o,e,fun v z=>by rw [d] at z;cases z⟩
  keep:=fun i h h' st k=>by
    obtain ⟨o,e,c,d⟩:=st
    exact ⟨o,k it (by simp) o e,c,d⟩
  item:=by
    intro X hP hw hK hc i pins s σ H E I hf st hg
    subst hP hw hK
    have hg:i < x.cps.size:=hg
    obtain ⟨f0,f1,f2,f3,f4,f5⟩:=hf it (by simp)
    have hx:x.cps[i]?=some (x.cps[i]'hg):=Array.getElem?_eq_getElem hg
    have go:∀ (h':Heap),h'.IsStrIter it (strIterType x) x t (i+1)→Heap.SameBut it s.heap h'→∃ u,some (Value.str ⟨#[x.cps[i]'hg]⟩ s.toks)=some u ∧
        wpAny (model X.prog X.w) X.A (letOwnedTupleGo tg (.ref it) u) (fun _ s2=>∃ v H',Inv X pins σ H' s2∧RelV v u∧(Itx x).yld i H v H'∧s2.heap.IsStrIter it (strIterType x) x t (i+1)∧∀ b∈[it],H' b=none) E { s with heap:=h',toks:=s.toks+1 }:=fun h' st' sb=>by
      have I1:Inv X pins σ H { s with heap:=h',toks:=s.toks+1 }:=I.turned (t':=s.toks+1) (fun b o hb e=>(sb.2 b hb).trans e) f0 f1 f3 f4 f5
      obtain ⟨o,e,c,d⟩:=id st'
      refine ⟨_,rfl,go_of (s:={ s with heap:=h',toks:=s.toks+1 }) e c d ?_ ⟨.str ⟨#[x.cps[i]'hg]⟩,H,I1,⟨_,rfl⟩,⟨rfl,_,hx,rfl⟩,st',fun b hb=>(hf b hb).1⟩⟩
      unfold strIterType
      split <;> decide
    cases c:x.cps.all (· < 128) with
    | true=>
      have e:strIterType x = "str_ascii_iterator" := by unfold strIterType;rw [c];rfl
      rw [e] at st
      exact wpAny_pyNext_ascii_item st hx fun h' st' sb=>go h' (by rw [e];exact st') sb
    | false=>
      have e:strIterType x = "str_iterator" := by unfold strIterType;rw [c];rfl
      rw [e] at st
      exact wpAny_pyNext_wide_item st hx fun h' st' sb=>go h' (by rw [e];exact st') sb
  done:=by
    intro X hP hw hK hc i pins s σ H E I hf st hg
    subst hP hw hK
    have hg:x.cps.size≤i:=hg
    obtain ⟨f0,f1,f2,f3,f4,f5⟩:=hf it (by simp)
    have hx:x.cps[i]?=none:=Array.getElem?_eq_none hg
    cases c:x.cps.all (· < 128) with
    | true=>
      have e:strIterType x = "str_ascii_iterator" := by unfold strIterType;rw [c];rfl
      rw [e] at st
      exact wpAny_pyNext_ascii_end (I.ok.hd hc) st hx fun h' eb=>⟨rfl,I.turned (t':=s.toks) (fun b o hb e=>eb b o hb e) f0 f1 f3 f4 f5⟩
    | false=>
      have e:strIterType x = "str_iterator" := by unfold strIterType;rw [c];rfl
      rw [e] at st
      exact wpAny_pyNext_wide_end (I.ok.hd hc) st hx fun h' eb=>⟨rfl,I.turned (t':=s.toks) (fun b o hb e=>eb b o hb e) f0 f1 f3 f4 f5⟩
  self:=fun _ _ _ _ _ st h=>by
    cases c:x.cps.all (· < 128) with
    | true=>
      have e:strIterType x = "str_ascii_iterator" := by unfold strIterType;rw [c];rfl
      rw [e] at st
      exact wpAny_pyIter_striter_ascii st h
    | false=>
      have e:strIterType x = "str_iterator" := by unfold strIterType;rw [c];rfl
      rw [e] at st
      exact wpAny_pyIter_striter_wide st h
section
variable {X:Cx} {tg:Expr}
def iStr (tl:TE):TI:=fun σ H R=>tl σ H fun x H1=>∃ z,x=.str z∧R (Itx z) H1
theorem pi_str {l:Expr} {tl:TE} (hl:PE X l tl):PI X tg l (iStr tl):=by
  intro pins s σ H R I h
  refine thn (hl pins s σ H _ I h) fun v s1 ⟨x,H1,I1,r1,q1⟩=>?_
  obtain ⟨z,rfl,q⟩:=q1
  obtain ⟨t,rfl⟩:=r1
  refine wpAny_pyIter_strU ?_
  refine ⟨s1.heap.objs.size,[s1.heap.objs.size],_,_,H1,rfl,I1.kept (t':=s1.toks) fun b o e=>Heap.get?_push_of_some _ e,turn_str z t _,⟨_,Heap.get?_push_size _ rfl,rfl,rfl⟩,fun b hb=>?_,q⟩
  have e:b=s1.heap.objs.size:=by simpa using hb
  subst e
  exact I1.fpOk (Nat.le_refl _) (I1.hok.fresh (Nat.le_refl _))
end
section
variable {NL:List Str} {ix:List Nat} {g:TG} {tt:TT} {te:TE} {σ:St} {H1:Hp} {Qs:Hp→Prop} {acc:Addr}
theorem comp_str {z:Str} (hn:z.cps.size < 10000) (Pv:Nat→List V→Hp→Prop)
    (hacc:∀ i ys H2,Pv i ys H2→H2 acc=some (.lst ys)∧ys.length≤i) (h0:Pv 0 [] (upd H1 acc (.lst []))) (hstop:∀ ys H2,Pv z.cps.size ys H2→Qs H2)
    (hturn:∀ i c ys H2,z.cps[i]?=some c→Pv i ys H2→g (.str ⟨#[c]⟩) (comp0 NL ix σ) H2 fun σ' H4=>σ'.drop NL.length=ix.map (fun j=>σ.getD j none)∧tt σ' H4 fun b H5=>
      if b=true then te σ' H5 fun v H6=>H6 acc=some (.lst ys)∧Pv (i+1) (ys++[v]) (upd H6 acc (.lst (ys++[v]))) else Pv (i+1) ys H5) :
    ∃ W:Nat→Nat→List V→Hp→Prop,(∃ m,W 0 m [] (upd H1 acc (.lst []))) ∧
    ∀ i m ys H2,W i m ys H2→H2 acc=some (.lst ys)∧ys.length < sizeLine ∧
      (((Itx z).stop i H2∧Qs H2)∨((Itx z).go i H2∧∃ N:List V→Hp→Prop,(∀ ys' H',N ys' H'→∃ m',m' < m∧W (i+1) m' ys' H') ∧
        ∀ x H3,(Itx z).yld i H2 x H3→g x (comp0 NL ix σ) H3 fun σ' H4=>σ'.drop NL.length=ix.map (fun j=>σ.getD j none)∧tt σ' H4 fun b H5=>
          if b=true then te σ' H5 fun v H6=>H6 acc=some (.lst ys)∧N (ys++[v]) (upd H6 acc (.lst (ys++[v]))) else N ys H5)):=by
  refine comp_big z.cps.size hn Pv hacc h0 (fun ys H2 hp=>⟨Nat.le_refl _,hstop ys H2 hp⟩) fun i ys H2 hi hp=>⟨hi,?_⟩
  rintro x H3 ⟨rfl,c,hc,rfl⟩
  exact hturn i c ys H3 hc hp
end
section
variable {X:Cx}
end
end L2
namespace L2
open PySem PySem.Spec PyProof.Rows
section
variable {X:Cx}
def rCatA (K:PySem.W.Frag):R2:=fun x y H Q=>∃ a b xs ys,x=.ref a∧y=.ref b∧SqT K H a xs∧SqT K H b ys∧xs.length+ys.length≤sizeLine ∧
  (xs=[]→Q (.ref b) H)∧(xs≠[]→ys=[]→Q (.ref a) H)∧(xs≠[]→ys≠[]→∀ p,H p=none→Q (.ref p) (upd H p (.tup (xs++ys))))
theorem cat_tup0 {prog:Program} {w:World} {A:Around} {E:Value→Shared→Prop} {s:Shared} {t b:Addr} {vs ws:List Value} {Q:Value→Shared→Prop} (ht:IsTup s.heap t vs.toArray) (hb:IsTup s.heap b ws.toArray) (hv:vs=[])
    (h:Q (.ref b) s):wpAny (model prog w) A (binaryOp .Add (.ref t) (.ref b)) Q E s:=by
  obtain ⟨⟨cls,dd,data,sl⟩,ho,hc,n,hd⟩:=id ht
  obtain ⟨⟨cls2,dd2,data2,sl2⟩,ho2,hc2,n2,hd2⟩:=id hb
  simp only at hc hd hc2 hd2
  subst hc hd hc2 hd2
  exact concat_meets ⟨_,ho,rfl⟩ ⟨_,ho2,rfl⟩ noFill_tuple_add seq_tuple_add PySem.F.slot_tuple_add PySem.F.entry_tuple_add (PySem.F.args_tuple_add_2 _ _)
      (tuple_addW0 t b vs.toArray ws.toArray n n2 dd dd2 sl sl2 (by simp [hv])) ⟨ho,ho2,h⟩
theorem op_catA:OpR X (binaryOp .Add) (rCatA X.K):=by
  intro pins s σ H x y v u Q I rx ry h
  obtain ⟨a,b,xs,ys,rfl,rfl,ha,hb,hz,q0,q1,q2⟩:=h
  by_cases hx:xs=[]
  · cases rx
    cases ry
    obtain ⟨its,r1,p1,_⟩:=I.tuple ha
    obtain ⟨its2,r2,p2,_⟩:=I.tuple hb
    exact cat_tup0 p1 p2 (r1.nil_iff.mpr hx) ⟨.ref b,H,I,rfl,q0 hx⟩
  · exact op_catT pins s σ H _ _ v u Q I rx ry ⟨a,b,xs,ys,rfl,rfl,ha,hb,hx,hz,q1 hx,q2 hx⟩
end
end L2
namespace L2
open PySem PySem.Spec PyProof.Rows PySem.W
def DPrsT (P:Program) (w:World) (h:Heap) (D:Addr) (items:Array Value) (ps:List (List Key × Addr × Value)):Prop:=
  ps.length=items.size∧∀ (j:Nat) (k:List Key) (b:Addr) (v:Value),ps[j]?=some (k,b,v)→∃ a:Addr,items[j]?=some (Value.ref a)∧a≠D∧b≠D∧IsTup h a #[.ref b,v]∧(tupleKind (mixKind P w)).is h k b
theorem DPrsT.keeps {P:Program} {w:World} {h h':Heap} {D I:Addr} {items:Array Value} {ps:List (List Key × Addr × Value)} (p:DPrsT P w h D items ps) (nI:∀ a:Addr,Value.ref a∈items→a≠I) (nIb:∀ (j:Nat) k b v,ps[j]?=some (k,b,v)→b≠I)
    (k:∀ b o,b≠I→b≠D→h.get? b=some o→h'.get? b=some o):DPrsT P w h' D items ps:=by
  refine ⟨p.1,fun j kk b v e=>?_⟩
  obtain ⟨a,ha,hD,hbD,⟨o,e1,e2⟩,o2,its,n,e3,r⟩:=p.2 j kk b v e
  exact ⟨a,ha,hD,hbD,⟨o,k a o (nI a (Array.mem_of_getElem? ha)) hD e1,e2⟩,o2,its,n,k b o2 (nIb j kk b v e) hbD e3,r⟩
section
variable {prog:Program} {w:World} {A:Around} {E:Value→Shared→Prop}
end
section
variable {prog:Program} {w:World} {A:Around} {E:Value→Shared→Prop} {s:Shared}
end
section
variable {X:Cx}
end
end L2
namespace L2
open PySem PySem.Spec PyProof.Rows
theorem ObjOk.obj {P:Program} {w:World} {H:Hp} {h:Heap} {a:Addr} {o:HO} (x:ObjOk P w H h a o):∃ u,h.get? a=some u:=by
  cases o with
  | lst xs=>obtain ⟨_,_,_,_,e⟩:=x;exact ⟨_,e⟩
  | tup xs=>obtain ⟨⟨_,o,e,_⟩,_⟩:=x;exact ⟨_,e⟩
  | dK kvs=>obtain ⟨_,_,_,_,o,_,_,e,_⟩:=x;exact ⟨_,e⟩
  | dT kvs=>obtain ⟨_,_,_,_,o,_,_,e,_⟩:=x;exact ⟨_,e⟩
  | set S n=>obtain ⟨o,_,_,_,e,_⟩:=x;exact ⟨_,e⟩
  | ins C dx fs=>obtain ⟨_,_,_,e,_⟩:=x;exact ⟨_,e⟩
  | own y=>exact x
  | xd fs=>obtain ⟨_,⟨_,_,_,e,_⟩,_⟩:=x;exact ⟨_,e⟩
  | rng lo hi=>obtain ⟨_,_,_,e⟩:=x;exact ⟨_,e⟩
  | frz ob u=>exact ⟨_,x.1⟩
  | tbl ps=>exact ⟨_,x⟩
  | met f y=>exact ⟨_,x⟩
  | ext φ=>exact x.2.1
def FlyS (l:List Env) (H₀:Hp) (h₀:Heap) (H':Hp) (a C:Addr) (h:Heap):Prop:=
  ∃ B a0,Heap.FlyingW B l a (.ref C) a0 h∧(∀ b o,h₀.get? b=some o→b ∉ frs l→∃ o',B.get? b=some o'∧(H₀ b=none→o'=o))∧∀ b u,H' b=some u→∃ o,B.get? b=some o
def CXE (P:Program) (w:World):CXT:=fun outer H s E e s'=>∃ a C H',e=.ref a∧s'.os=s.os∧AllBare s'.gens∧Un (frs outer) [] H H' s.heap s'.heap∧HOk P w H' s'.heap∧FlyS outer H s.heap H' a C s'.heap∧H' a=none∧E e (some C) H'
section
variable {P:Program} {w:World} {K:PySem.W.Frag} {mg:Str→Option Value} {base:Heap} {N:List Str} {qual:Str} {scope:Scope} {f:Addr} {cd:Value} {A:Around} {outer:List Env} {s:Shared} {H:Hp} {E:XK}
end
end L2
namespace L2
open PySem PySem.Spec PyProof.Rows
def excO (a C:Addr):HO:=.ext fun h=>∃ o vs,h.get? a=some o∧o.cls=.ref C∧o.data=.fields vs
def Up (X:Cx) (pins:List (Addr × Obj)) (σ:St) (a C:Addr) (H2:Hp) (s:Shared):Prop:=
  ∃ H1 s1,Inv X pins σ H1 s1∧s.os=s1.os∧AllBare s.gens∧Un (frs X.stack) [] H1 H2 s1.heap s.heap∧HOk X.prog X.w H2 s.heap∧FlyS X.stack H1 s1.heap H2 a C s.heap∧H2 a=none
section
variable {X:Cx} {pins:List (Addr × Obj)} {σ:St} {a C:Addr} {H1 H2:Hp} {s s1:Shared} {B h h':Heap} {a0:Value}
theorem excO_ok (H:Hp) (e:∃ o vs,h.get? a=some o∧o.cls=.ref C∧o.data=.fields vs):ObjOk X.prog X.w H h a (excO a C):=by
  refine ⟨e,?_,fun h1 h2 ⟨o,vs,x1,x2,x3⟩ k=>⟨o,vs,k _ x1,x2,x3⟩⟩
  obtain ⟨o,_,e,_⟩:=e
  exact ⟨o,e⟩
theorem Up.inv (U:Up X pins σ a C H2 s):Inv X pins σ (upd H2 a (excO a C)) s:=by
  obtain ⟨H1,s1,I,os,bare,un,hok,⟨B,a0,fl,k0,tr⟩,ha⟩:=U
  obtain ⟨oe,vs,e1,e2,e3,_⟩:=fl.first
  have na:∀ b o,s1.heap.get? b=some o→b≠a:=fun b o e z=>by
    subst z
    by_cases hb:b∈frs X.stack
    · obtain ⟨_,o',e',nf⟩:=fl.2.2.1.mem hb
      rw [e1] at e';cases e'
      exact nf vs e3
    · obtain ⟨o',e',_⟩:=k0 b o e hb
      rw [fl.2.1] at e';cases e'
  have up:∀ b u,H2 b=some u→upd H2 a (excO a C) b=some u:=fun b u e=>by rw [upd_ne (ne_of_none e ha)];exact e
  refine I.call' (ch:=[]) os ⟨un.keep,un.slot,fun b o e n hx=>?_,un.there,fun b xs e=>up _ _ (un.tups b xs e),fun b o u e=>up _ _ (un.frzs b o u e),fun b ps e=>?_⟩ (fun b o e=>?_) bare (fun _ z=>nomatch z)
  · rw [upd_ne (na b o e)];exact un.free b o e n hx
  · obtain ⟨more,e2⟩:=un.tbls b ps e
    exact ⟨more,up _ _ e2⟩
  · by_cases hb:b=a
    · subst hb
      rw [upd_same] at e;cases e
      exact excO_ok _ ⟨oe,vs,e1,e2,e3⟩
    · rw [upd_ne hb] at e
      exact (hok b o e).stay (fun _ _ _ q=>q) (fun c q=>up _ _ q) fun c xs q=>up _ _ q
abbrev Cx.caught (X:Cx) (a:Addr):Cx:={ X with A:=X.A.mark (some (.ref a)),calm:=false,xe:=fun _ _=>False }
theorem Inv.caught {H:Hp} (I:Inv X pins σ H s) (a:Addr):Inv (X.caught a) pins σ H s:=
  ⟨⟨I.ok.mod,I.ok.kind,I.ok.glob,I.ok.blt,I.ok.above,I.ok.inj,I.ok.has,I.ok.cab,(fun z=>nomatch z),I.ok.frames,I.ok.stk,I.ok.exf,I.ok.bs,I.ok.bsz,I.ok.noex,I.ok.exfs,I.ok.funs,I.ok.frf⟩,I.os,I.bare,I.base,I.loc,I.cell,I.free,I.freeC,I.pin,I.hok,I.len⟩
end
section
variable {X:Cx} {x n:Str} {i:Nat} {np pos:Pos} {b₀:Stmt} {suite:List Stmt} {rest:List ExceptHandler} {Cl:Addr} {th:Addr→TS} {tr:Addr→Addr→TS}
end
def PassesAt (CX:CXT) (X:Cx) (E:XK) (σ:St):Prop:=∀ (pins:List (Addr × Obj)) (H:Hp) (s:Shared) (e:Value) (s':Shared),Inv X pins σ H s→CX X.stack H s E e s'→X.xe e s'
theorem Passes.at {CX:CXT} {X:Cx} {E:XK} {σ:St} (h:Passes CX X E):PassesAt CX X E σ:=fun pins H s e s' I q=>h pins σ H s e s' I q
end L2
namespace L2
open PySem PySem.Spec PyProof.Rows PySem.W PySem.Calls PySem.Builtin PySem.Builtin.ObjectAttr PySem.Builtin.Getset_descriptor
structure ExK (K:Frag) (C:Addr):Prop where
  ga:findIn K (.ref C) "__getattribute__" = some (some (.builtin "BaseException.__getattribute__"))
  gn:findIn K (.ref C) "__getattr__" = some none
  cl:findIn K (.ref C) "__class__" = some (some (.builtin "object.__class__"))
  gt:specialIn K (.builtin "object.__class__") "__get__" = some (some (.builtin "getset_descriptor.__get__"))
  tk:takesIn K (.builtin "object.__class__")=some true
  ob:mroIn K C (.type "object")=some true
  be:mroIn K C (.type "BaseException")=some true
  cd:(clsIn K C).isSome=true
section
variable {prog:Program} {w:World} {A:Around} {E:Value→Shared→Prop} {s:Shared} {K:Frag} {x C:Addr} {R:Result→Shared→Prop}
end
end L2
namespace L2
open PySem PySem.Spec PyProof.Rows PySem.W
section
variable {X:Cx}
end
def HasX (P:Program) (w:World) (K:Frag) (mg:Str→Option Value) (base:Heap) (x:Str) (k:Nat) (ps:List Str) (sp:Sp):Prop:=
  ∃ f fd,FnOk P w K mg base (CXE P w) k f fd ps sp∧Binds K fd ps []∧keepIn K (.ref f)=true∧mg x=some (.ref f)
section
variable {P:Program} {w:World} {K:Frag} {mg:Str→Option Value} {base:Heap}
theorem HasX.mono {x:Str} {j k:Nat} {ps:List Str} {sp:Sp} (G:HasX P w K mg base x j ps sp) (h:j≤k):HasX P w K mg base x k ps sp:=
  let ⟨f,fd,F,r⟩:=G;⟨f,fd,F.mono h,r⟩
end
section
variable {X:Cx} {x:Str} {k:Nat} {ps:List Str} {sp:Sp} {p pos:Pos} {e:Expr} {es:List Expr} {t:TA} {E:XK} {σ0:St}
end
end L2
namespace L2
open PySem PySem.Spec PyProof.Rows PySem.W
section
variable {X:Cx}
def rIndexI:V→List V→Hp→VK→Prop:=fun x vs H Q=>∃ (l:Addr) (ss:List Int) (y:Int),x=.ref l∧vs=[.int y]∧H l=some (.lst (ss.map V.int))∧y∈ss∧ss.length≤10000∧Q (.int ((ss.idxOf y:Nat):Int)) H
theorem mt_indexI:MtM X "list.index" rIndexI:=by
  intro pins s σ H x vs v us Q I rx rv h
  obtain ⟨l,ss,y,rfl,rfl,hH,hm,hl,q⟩:=h
  cases rx
  obtain ⟨u,rfl,ru⟩:=rv.one
  have ru0:=ru
  obtain ⟨ty,rfl⟩:=ru
  obtain ⟨z,its,n,r,hz,e⟩:=I.lstM hH
  have rl:=r.length
  rw [List.length_map] at rl
  have jl:ss.idxOf y < ss.length:=List.idxOf_lt_length_of_mem hm
  have key:∀ (j:Nat) (hj:j < its.toArray.size),eqU (V.int y) its.toArray[j]=(ss[j]'(by rw [rl];simpa using hj) == y):=fun j hj=>by
    have hj':j < ss.length:=by rw [rl];simpa using hj
    obtain ⟨w',e1,e2⟩:=r.get (i:=j) (x:=V.int (ss[j])) (by rw [List.getElem?_map,List.getElem?_eq_getElem hj'];rfl)
    obtain ⟨t',rfl⟩:=e2
    have:its.toArray[j]=Value.int ss[j] t':=by
      rw [List.getElem?_eq_getElem (by omega)] at e1
      simpa using Option.some.inj e1
    rw [this]
    rfl
  refine call_meets F.slot_list_index ⟨_,e,rfl⟩ F.entry_list_index (F.args_list_index_2 _ _) (SeqAt.list_indexAt l its.toArray n none #[] (.int y ty) (eqU (V.int y)) (ss.idxOf y) (by rw [List.size_toArray];omega) (by omega) ?_ ?_) ⟨e,fun u hu=>mem_eqAt (x:=V.int y) ru0 rfl r (flat_ints ss) u (by simpa using hu),?_⟩
  · rw [key _ (by rw [List.size_toArray];omega),List.getElem_idxOf jl];exact beq_self_eq_true y
  · intro m hm' hlt
    rw [key m hm']
    have:=List.not_of_lt_findIdx (p:=(· == y)) (xs:=ss) (i:=m) hlt
    simpa using this
  · exact ⟨.int _,H,I.tok _,⟨_,rfl⟩,q⟩
theorem pe_indexI (K:PySem.W.Frag) {o e:Expr} {to te:TE} {apos cpos:Pos} (ho:PE X o to) (he:PE X e te) (hK:X.K=K:=by rfl) (hbase:attributeBase o "index" X.env (eval o X.env)=eval o X.env:=by rfl)
    (h1:starEach [e] X.env=[(false,eval e X.env)]:=by rfl) (hl:(apos.endLine == cpos.line)=true:=by rfl) :
    PE X (.Call (.Attribute o "index" apos) [e] [] cpos) (tBM K "list" rIndexI to (tCons te tNil)):=by
  subst hK
  exact pe_bm PySem.F.plainAttrs_list PySem.F.slot_list_index PySem.F.type_list_index mt_indexI ho (pa_cons he pa_nil h1) hbase (by rw [h1];rfl) hl h1 (by rfl)
end
end L2
namespace L2
section
variable {NL:List PySem.Str} {ix:List Nat} {g:TG} {tt:TT} {te:TE} {σ:St} {H1:Hp} {Qs:Hp→Prop} {acc:PySem.Addr}
end
end L2
namespace L2
open PySem PySem.Spec PyProof.Rows PySem.W
section
variable {X:Cx}
theorem op_ne_nil (hu:X.A.units < cLine):OpR X (compareOp .NotEq) (fun x y H Q=>∃ a b xs,x=.ref a∧y=.ref b∧SqL X.K H a xs∧SqL X.K H b []∧Q (.bl (!xs.isEmpty)) H):=by
  intro pins s σ H x y v u Q I rx ry h
  obtain ⟨a,b,xs,rfl,rfl,h1,h2,q⟩:=h
  cases xs with
  | nil=>exact op_ne_lst hu pins s σ H _ _ v u Q I rx ry ⟨a,b,[],[],rfl,rfl,h1,h2,rfl,rfl,q⟩
  | cons z zs=>
    cases (show v=Value.ref a from rx)
    cases (show u=Value.ref b from ry)
    obtain ⟨us,r1,l1,_⟩:=I.list h1
    obtain ⟨ws,r2,l2,_⟩:=I.list h2
    have e1:=r1.length
    have e2:=r2.length
    rw [List.length_cons] at e1
    rw [List.length_nil] at e2
    exact SeqAt.RcNeAt.lists_lengths l1.isList l2.isList (by simp;omega) hu _ _ _ _ ⟨.bl _,H,I,rfl,q⟩
end
end L2
namespace L2
open PySem PySem.Spec PyProof.Rows PySem.W
abbrev IsZipB (h:Heap) (z TI TO p:Addr) (b:Bool):Prop:=h.get? z=some { cls:=.type "zip", data:=.fields #[rawInt (p:Int),.bool b,.bool false,.ref TI,.ref TO] }
section
variable {prog:Program} {w:World} {A:Around} {E:Value→Shared→Prop} {s:Shared}
end
def ZSt (κ1 κ2:SK) (z TI TO i1 i2:Addr) (k:Nat) (h:Heap):Prop:=
  ((IsZip h z TI TO .none)∨∃ p b,IsZipB h z TI TO p b∧(∃ o,h.get? p=some o))∧IsPair h TI (.ref i1) (.ref i2)∧(∃ a b,IsPair h TO a b)∧κ1.own i1 k h∧κ2.own i2 k h
theorem ZSt.keep {κ1 κ2:SK} {z TI TO i1 i2:Addr} {k:Nat} {h h':Heap} (x:ZSt κ1 κ2 z TI TO i1 i2 k h) (k1:∀ b∈[z,TI,TO,i1,i2],∀ o,h.get? b=some o→h'.get? b=some o) (k2:∀ b o,h.get? b=some o→∃ o',h'.get? b=some o'):ZSt κ1 κ2 z TI TO i1 i2 k h':=by
  obtain ⟨hz,hTI,⟨a,c,hTO⟩,h1,h2⟩:=x
  refine ⟨?_,k1 TI (by simp) _ hTI,⟨a,c,k1 TO (by simp) _ hTO⟩,SK.own_at h1 fun o q=>k1 i1 (by simp) o q,SK.own_at h2 fun o q=>k1 i2 (by simp) o q⟩
  rcases hz with hz | ⟨p,b,hz,o,hp⟩
  · exact .inl (k1 z (by simp) _ hz)
  · exact .inr ⟨p,b,k1 z (by simp) _ hz,k2 _ _ hp⟩
section
variable {X:Cx} {pins:List (Addr × Obj)} {σ:St} {H:Hp} {s:Shared} {A:Around} {E:Value→Shared→Prop} {κ1 κ2:SK} {z TI TO i1 i2:Addr}
end
def NewTups (H0 H:Hp) (as:List Addr) (xs ys:List V):Prop:=
  as.Nodup∧(∀ b,b ∉ as→H b=H0 b)∧∀ (i:Nat) (a:Addr),as[i]?=some a→H0 a=none∧∃ x y,xs[i]?=some x∧ys[i]?=some y∧H a=some (.tup [x,y])
theorem NewTups.nil {H:Hp} {xs ys:List V}:NewTups H H [] xs ys:=⟨List.nodup_nil,fun _ _=>rfl,fun i a e=>by simp at e⟩
theorem NewTups.same {H0 H:Hp} {as:List Addr} {xs ys:List V} (n:NewTups H0 H as xs ys):Same H0 H:=fun b u e=>by
  have nb:b ∉ as:=fun hb=>by
    obtain ⟨i,hi⟩:=List.getElem?_of_mem hb
    rw [(n.2.2 i b hi).1] at e;cases e
  exact (n.2.1 b nb).trans e
theorem NewTups.push {H0 H:Hp} {as:List Addr} {xs ys:List V} {p:Addr} {x y:V} (n:NewTups H0 H as xs ys) (hp:H p=none) (hx:xs[as.length]?=some x) (hy:ys[as.length]?=some y):NewTups H0 (upd H p (.tup [x,y])) (as++[p]) xs ys:=by
  have np:p ∉ as:=fun hm=>by
    obtain ⟨i,hi⟩:=List.getElem?_of_mem hm
    obtain ⟨_,x,y,_,_,e⟩:=n.2.2 i p hi
    rw [hp] at e;cases e
  refine ⟨List.nodup_append.mpr ⟨n.1,by simp,fun a ha b hb=>by simp at hb;subst hb;exact fun e=>np (e ▸ ha)⟩,fun b hb=>?_,fun i a e=>?_⟩
  · have h1:b ∉ as:=fun q=>hb (by simp [q])
    have h2:b≠p:=fun q=>hb (by simp [q])
    rw [upd_ne h2];exact n.2.1 b h1
  · rcases Nat.lt_or_ge i as.length with q | q
    · rw [List.getElem?_append_left q] at e
      obtain ⟨e1,x,y,e2,e3,e4⟩:=n.2.2 i a e
      exact ⟨e1,x,y,e2,e3,by rw [upd_ne (fun z=>np (by rw [← z];exact List.mem_of_getElem? e))];exact e4⟩
    · have q0:i=as.length:=by
        have:=(List.getElem?_eq_some_iff.mp e).1
        simp at this;omega
      subst q0
      have ea:p=a:=by simpa using e
      subst ea
      exact ⟨by rw [← n.2.1 p np];exact hp,x,y,hx,hy,upd_same⟩
section
variable {X:Cx} {pins:List (Addr × Obj)} {σ:St} {A:Around} {κ1 κ2:SK} {z TI TO i1 i2 S:Addr} {xs ys:List V} {H0:Hp} {res:Value} {R:Result→Shared→Prop} {g0:Array GenState} {d0:Drawn} {o0:OsState}
end
end L2
namespace L2
open PySem PySem.Spec PyProof.Rows PySem.W Tim
section
variable {prog:Program} {w:World} {A:Around} {E:Value→Shared→Prop} {s:Shared}
end
section
variable {X:Cx} {pins:List (Addr × Obj)} {σ:St} {H:Hp} {s:Shared} {A:Around} {E:Value→Shared→Prop} {κ1 κ2:SK} {z TI TO i1 i2:Addr} {xs ys:List V}
theorem ZSt.zip {k:Nat} {h:Heap} (x:ZSt κ1 κ2 z TI TO i1 i2 k h):∃ o,h.get? z=some o∧o.cls=.type "zip" := by
  rcases x.1 with e | ⟨_,_,e,_⟩
  · exact ⟨_,e,rfl⟩
  · exact ⟨_,e,rfl⟩
end
end L2
namespace L2
open PySem PySem.Spec PyProof.Rows PySem.W
def Best (kf:Nat→Int) (b j:Nat):Prop:=b < j∧∀ i,i < j→kf i≤kf b∧(i < b→kf i < kf b)
theorem Best.one (kf:Nat→Int):Best kf 0 1:=⟨by omega,fun i hi=>⟨by rw [show i=0 by omega];exact Int.le_refl _,fun h=>by omega⟩⟩
theorem Best.stay {kf:Nat→Int} {b j:Nat} (h:Best kf b j) (hn:¬ kf b < kf j):Best kf b (j+1):=⟨by have:=h.1;omega,fun i hi=>by
  rcases Nat.lt_or_ge i j with q | q
  · exact h.2 i q
  · have:i=j:=by omega
    subst this
    exact ⟨by omega,fun z=>by have:=h.1;omega⟩⟩
theorem Best.new {kf:Nat→Int} {b j:Nat} (h:Best kf b j) (hn:kf b < kf j):Best kf j (j+1):=⟨by omega,fun i hi=>by
  rcases Nat.lt_or_ge i j with q | q
  · have:=(h.2 i q).1
    exact ⟨by omega,fun _=>by omega⟩
  · have:i=j:=by omega
    subst this
    exact ⟨Int.le_refl _,fun z=>by omega⟩⟩
section
variable {X:Cx} {pins:List (Addr × Obj)} {σ:St}
variable {A:Around} {R:Result→Shared→Prop} {H0:Hp} {a fa S It:Addr} {xs:List V} {kf:Nat→Int}
end
section
variable {X:Cx}
end
end L2
namespace L2
open PySem PySem.Spec PyProof.Rows PySem.W
section
variable {prog:Program} {w:World} {A:Around} {E:Value→Shared→Prop} {s:Shared}
theorem SetA.empty {led:Bool} {h:Heap} {r:Addr} {n:Nat} (x:SetA w led h r [] n):∃ ep t,h.get? r=some { cls:=.type "set", data:=.set #[] ep t }∧SetS w led #[] t []:=by
  obtain ⟨es,ep,t,hg,hS,_⟩:=x
  have:es=#[]:=by
    have e:es.toList=[]:=by
      refine List.eq_nil_iff_forall_not_mem.mpr fun e he=>?_
      have:=(hS.mem (keyOf e)).mp (List.mem_map.mpr ⟨e,he,rfl⟩)
      cases this
    simpa using e
  subst this
  exact ⟨ep,t,hg,hS⟩
end
section
variable {X:Cx}
end
end L2
namespace L2
open PySem
theorem mid {t u:TS} {D:Ends} {σ:St} {H:Hp} (P:St→Hp→Prop) (h2:∀ σ' H',P σ' H'→u D σ' H') (h1:∀ E:Ends,(∀ σ' H',P σ' H'→E.nx σ' H')→t E σ H):tSeq t u D σ H:=h1 { D with nx:=u D } h2
end L2
namespace HT
open PySem PySem.Spec PyProof.Rows
section
variable {prog:Program} {w:World} {A:Around} {E:Value→Shared→Prop} {s:Shared}
theorem getItem_tuple_all {t sl:Addr} {items:Array Value} {vl vu:Value} {lo hi:Option Int} {Q:Value→Shared→Prop} (ht:IsTup s.heap t items) (hs:s.heap.IsSliceOf sl vl vu .none) (pl:IsPart vl lo) (pu:IsPart vu hi)
    (h1:sIx items.size 0 lo=0) (h2:sIx items.size items.size hi=items.size) (h:Q (.ref t) s):wpAny (model prog w) A (getItem (.ref t) (.ref sl)) Q E s:=by
  obtain ⟨os,hos,hcs,hds⟩:=id hs
  have hTs:s.TypeIs (.ref sl) "slice" := ⟨os,hos,hcs⟩
  unfold getItem
  try with_reducible refine wpAny_holding ?_
  first | refine wpAny_bind (wpAny_pure ?_) | skip
  refine wpAny_bind (wpAny_sequenceKey ht.typeIs (by decide) ?_)
  refine wpAny_bind (wpAny_callSpecial?_slot (name:=Str.ofString "__getitem__") ht.typeIs PyProof.Rows.slot_tuple_getitem
    (wpAny_call_entry PyProof.Rows.slot_tuple_getitem ht.typeIs entry_tuple_getitem ?_ (args_tuple_getitem _ _)))
  show wpAny _ _ (Builtin.Tuple.tupleItemsOf (.ref t) >>= _) _ _ s
  refine wpAny_bind (tupleItemsOf_ ht ?_)
  refine wpAny_bind (wpAny_typeOf hTs ?_)
  rw [if_pos (by decide)]
  refine wpAny_bind (sliceApplied_gen hs pl pu ?_)
  have hyes:((((sIx items.size 0 lo:Nat):Int) == 0 && (1:Int) == 1 && (sIx items.size items.size hi - sIx items.size 0 lo) == items.size)=true):=by
    rw [h1,h2];simp
  show wpAny _ _ (if (((sIx items.size 0 lo:Nat):Int) == 0 && (1:Int) == 1 && (sIx items.size items.size hi - sIx items.size 0 lo) == items.size)=true then _ else _) _ _ s
  rw [if_pos hyes]
  unfold Builtin.Tuple.tupleIsExact
  refine wpAny_bind (wpAny_bind (wpAny_typeOf ht.typeIs (wpAny_pure ?_)))
  rw [if_pos (by decide)]
  refine wpAny_bind (wpAny_rule ?_)
  first
    | exact wpAny_pure ⟨_,rfl,wpAny_pure h⟩
    | exact wpAny_bind (wpAny_pure (wpAny_pure ⟨_,rfl,wpAny_pure h⟩))
end
end HT
namespace L2
open PySem PySem.Spec PyProof.Rows
section
variable {X:Cx}
def rSlTA (K:PySem.W.Frag):V→Option Int→Option Int→Hp→VK→Prop:=fun x lo hi H Q=>∃ a xs,x=.ref a∧SqT K H a xs ∧
  ((HT.sIx xs.length 0 lo=0∧HT.sIx xs.length xs.length hi=xs.length)→Q (.ref a) H)∧(¬ (HT.sIx xs.length 0 lo=0∧HT.sIx xs.length xs.length hi=xs.length)→∀ p,H p=none→Q (.ref p) (upd H p (.tup (cutV xs lo hi))))
theorem sl_tupA:SlR X (rSlTA X.K):=by
  intro pins s σ H x v vl vu lo hi sl Q I rx hs pl pu h
  obtain ⟨a,xs,rfl,hx,q1,q2⟩:=h
  by_cases hw:HT.sIx xs.length 0 lo=0∧HT.sIx xs.length xs.length hi=xs.length
  · cases rx
    obtain ⟨its,r,ht,hz⟩:=I.tuple hx
    have hlen:its.toArray.size=xs.length:=by rw [List.size_toArray];exact r.length.symm
    refine ⟨"tuple", _,PyProof.Rows.slot_tuple_getitem.lookup,ht.typeIs,?_⟩
    exact HT.getItem_tuple_all ht hs pl pu (by rw [hlen];exact hw.1) (by rw [hlen];exact hw.2) ⟨.ref a,H,I,rfl,q1 hw⟩
  · exact sl_tup pins s σ H _ v vl vu lo hi sl Q I rx hs pl pu ⟨a,xs,rfl,hx,hw,q2 hw⟩
end
end L2
namespace L2
open PySem PySem.Spec PyProof.Rows PySem.W
mutual
inductive Td (H:Hp):V→PyData→Prop
  | non:Td H .non .none
  | bl (b:Bool):Td H (.bl b) (.bool b)
  | int (i:Int):Td H (.int i) (.int i)
  | str (z:Str):Td H (.str z) (.str z)
  | lst {a:Addr} {xs:List V} {ds:List PyData}:H a=some (.lst xs)→Tds H xs ds→Td H (.ref a) (.list ds)
  | tup {a:Addr} {xs:List V} {ds:List PyData}:H a=some (.tup xs)→Tds H xs ds→Td H (.ref a) (.tuple ds)
  | dct {a:Addr} {kvs:List (Key × V)} {ps:List (PyData × PyData)}:H a=some (.dK kvs)→Tds H (kvs.map fun p=>kV p.1) (ps.map (·.1))→Tds H (kvs.map (·.2)) (ps.map (·.2))→Td H (.ref a) (.dict ps)
inductive Tds (H:Hp):List V→List PyData→Prop
  | nil:Tds H [] []
  | cons {v:V} {d:PyData} {vs:List V} {ds:List PyData}:Td H v d→Tds H vs ds→Tds H (v :: vs) (d :: ds)
end
mutual
theorem Td.same {H H':Hp} (s:Same H H'):∀ {v:V} {d:PyData},Td H v d→Td H' v d
  | _,_,.non=>.non
  | _,_,.bl b=>.bl b
  | _,_,.int i=>.int i
  | _,_,.str z=>.str z
  | _,_,.lst e t=>.lst (s _ _ e) (t.same s)
  | _,_,.tup e t=>.tup (s _ _ e) (t.same s)
  | _,_,.dct e t u=>.dct (s _ _ e) (t.same s) (u.same s)
theorem Tds.same {H H':Hp} (s:Same H H'):∀ {vs:List V} {ds:List PyData},Tds H vs ds→Tds H' vs ds
  | _,_,.nil=>.nil
  | _,_,.cons t u=>.cons (t.same s) (u.same s)
end
mutual
def noList:PyData→Bool
  | .none | .bool _ | .int _ | .str _=>true
  | .list _=>false
  | .tuple xs=>noListAll xs
  | .dict kvs=>noListKv kvs
def noListAll:List PyData→Bool
  | []=>true
  | x :: xs=>noList x && noListAll xs
def noListKv:List (PyData × PyData)→Bool
  | []=>true
  | (k,v) :: r=>noList k && noList v && noListKv r
end
theorem noListKv_keys:∀ kvs:List (PyData × PyData),noListKv kvs=true→noListAll (kvs.map (·.1))=true∧noListAll (kvs.map (·.2))=true
  | [],_=>⟨by simp only [List.map_nil,noListAll],by simp only [List.map_nil,noListAll]⟩
  | (k,v) :: r,h=>by
    simp only [noListKv,Bool.and_eq_true] at h
    obtain ⟨a,b⟩:=noListKv_keys r h.2
    simp only [List.map_cons,noListAll,Bool.and_eq_true]
    exact ⟨⟨h.1.1,a⟩,⟨h.1.2,b⟩⟩
theorem pairs_vals {P:Program} {w:World} {es:List DictEntry} {vs:List (Key × Value)} (h:Pairs (mixKind P w) es vs):∀ {kvs:List (Key × V)},KV kvs vs→Vals (kvs.map fun p=>kV p.1) (es.map (·.key))∧Vals (kvs.map (·.2)) (es.map (·.val)):=by
  induction h with
  | nil=>intro kvs r;cases r;exact ⟨.nil,.nil⟩
  | cons hk hv _ ih=>
    intro kvs r
    cases r with
    | cons r1 r2=>
      obtain ⟨a,b⟩:=ih r2
      refine ⟨.cons ?_ a,.cons (by show RelV _ _;simp only [hv];exact r1.2) b⟩
      show RelV (kV _) _
      simp only [r1.1]
      rcases keyIs_shape hk with ⟨i,t,e,e'⟩ | ⟨x,t,e,e'⟩
      · rw [e,e'];exact ⟨t,rfl⟩
      · rw [e,e'];exact ⟨t,rfl⟩
section
variable {X:Cx} {pins:List (Addr × Obj)} {σ:St} {H:Hp} {s:Shared}
mutual
theorem reads_td (I:Inv X pins σ H s):∀ {v:V} {d:PyData},Td H v d→∀ {u:Value},RelV v u→∃ as,Reads s.heap u d as∧(noList d=true→sysModules ∉ as)
  | _,_,.non,_,r=>by cases r;exact ⟨[],.none,fun _ h=>by cases h⟩
  | _,_,.bl b,_,r=>by cases r;exact ⟨[],.bool b,fun _ h=>by cases h⟩
  | _,_,.int i,_,r=>by obtain ⟨t,rfl⟩:=r;exact ⟨[],.int i t,fun _ h=>by cases h⟩
  | _,_,.str z,_,r=>by obtain ⟨t,rfl⟩:=r;exact ⟨[],.str z t,fun _ h=>by cases h⟩
  | _,_,.lst e t,_,r=>by
    cases r
    obtain ⟨_,its,n,rv,g⟩:=I.hok _ _ e
    obtain ⟨as,ra,_⟩:=reads_tds I t rv
    exact ⟨_,.list g rfl rfl ra,fun h=>by simp only [noList] at h;cases h⟩
  | _,_,.tup e t,_,r=>by
    cases r
    obtain ⟨_,its,rv,o,g,c,n,dd⟩:=I.hok _ _ e
    obtain ⟨as,ra,na⟩:=reads_tds I t rv
    exact ⟨as,.tuple g c dd ra,fun h=>na (by simpa only [noList] using h)⟩
  | _,_,.dct e t u,_,r=>by
    cases r
    obtain ⟨_,hs,vs,kv,o,es,ep,g,ex,dd,_,pr,_⟩:=I.hok _ _ e
    obtain ⟨v1,v2⟩:=pairs_vals pr kv
    obtain ⟨as,ra,na⟩:=reads_tds I t v1
    obtain ⟨bs,rb,nb⟩:=reads_tds I u v2
    refine ⟨_,.dict g ex.1 dd ra rb,fun h=>?_⟩
    simp only [noList] at h
    obtain ⟨h1,h2⟩:=noListKv_keys _ h
    intro m
    rcases List.mem_append.mp m with m | m
    · rcases List.mem_cons.mp m with m | m
      · exact beq_eq_false_iff_ne.mp hs m.symm
      · exact na h1 m
    · exact nb h2 m
theorem reads_tds (I:Inv X pins σ H s):∀ {vs:List V} {ds:List PyData},Tds H vs ds→∀ {us:List Value},Vals vs us→∃ as,ReadsAll s.heap us ds as∧(noListAll ds=true→sysModules ∉ as)
  | _,_,.nil,_,r=>by cases r;exact ⟨[],.nil,fun _ h=>by cases h⟩
  | _,_,.cons t u,_,r=>by
    cases r with
    | cons r1 r2=>
      obtain ⟨as,ra,na⟩:=reads_td I t r1
      obtain ⟨bs,rb,nb⟩:=reads_tds I u r2
      refine ⟨as++bs,.cons ra rb,fun h=>?_⟩
      simp only [noListAll,Bool.and_eq_true] at h
      intro m
      rcases List.mem_append.mp m with m | m
      · exact na h.1 m
      · exact nb h.2 m
end
structure Fit (d:PyData):Prop where
  sh:d.showable=true
  lv:d.leavesShort 61=true
  wt:d.weight≤200000
  dp:d.depth≤20
  md:d.hasDict=false∨noList d=true
theorem Fit.sz {d:PyData} (f:Fit d):d.shown.length≤sizeLine:=by
  have h:=PyData.shown_le 61 (by decide) d f.lv
  have:=f.wt
  rw [sizeLine_eq]
  omega
variable {k:Nat}
theorem call_repr_any (hr:Room k X.A):CallR X (.builtin "repr") (fun xs H Q=>∃ v d,xs=[v]∧Td H v d∧Fit d∧Q (.str d.shown) H):=by
  intro pins s σ H xs us Q I r h
  obtain ⟨v,d,rfl,t,f,q⟩:=h
  obtain ⟨u,rfl,rx⟩:=vals1 r
  have fin:∀ (h':Heap) (u:Tok) (tk:Tok),(∀ b o,s.heap.get? b=some o→h'.get? b=some o)→EP X pins σ Q (.str d.shown u) { s with heap:=h',toks:=tk }:=fun h' u tk hk=>⟨.str d.shown,H,I.kept (t':=tk) hk,⟨u,rfl⟩,q⟩
  have sz:=f.sz
  have ref:∀ a:Addr,u=.ref a→wpAny (model X.prog X.w) X.A (call (.builtin "repr") [u]) (EP X pins σ Q) X.xe s:=fun a e=>by
    subst e
    obtain ⟨as,rd,na⟩:=reads_td I t rx
    have un:=hr.un
    have dp:=f.dp
    refine repr_of_reads' rd f.sh (fun z=>?_) hr.gd (by omega) (fun _ _ e=>e) (fun h' u tk hk=>fin h' u tk hk) sz
    rcases f.md with m | m
    · rw [m] at z;cases z
    · exact na m
  cases t with
  | non=>cases rx;exact P.repr_of_none (fin _ _ _ fun _ _ e=>e)
  | bl b=>cases rx;exact P.repr_of_bool (by cases b <;> exact fin _ _ _ fun _ _ e=>e)
  | int i=>obtain ⟨t,rfl⟩:=rx;exact P.repr_of_int (of_decide_eq_true f.sh) (fin _ _ _ fun _ _ e=>e)
  | str z=>obtain ⟨t,rfl⟩:=rx;exact P.repr_of_str (fin _ _ _ fun _ _ e=>e) sz
  | lst e t=>cases rx;exact ref _ rfl
  | tup e t=>cases rx;exact ref _ rfl
  | dct e t u=>cases rx;exact ref _ rfl
end
section
variable {H:Hp}
theorem Tds.len:∀ {vs:List V} {ds:List PyData},Tds H vs ds→vs.length=ds.length
  | _,_,.nil=>rfl
  | _,_,.cons _ u=>by rw [List.length_cons,List.length_cons,u.len]
theorem Tds.append:∀ {vs:List V} {ds:List PyData},Tds H vs ds→∀ {ws:List V} {es:List PyData},Tds H ws es→Tds H (vs++ws) (ds++es)
  | _,_,.nil,_,_,t=>t
  | _,_,.cons a u,_,_,t=>.cons a (u.append t)
theorem Tds.one {v:V} {d:PyData} (t:Td H v d):Tds H [v] [d]:=.cons t .nil
theorem Tds.take:∀ {vs:List V} {ds:List PyData} (n:Nat),Tds H vs ds→Tds H (vs.take n) (ds.take n)
  | _,_,0,_=>.nil
  | _,_,_+1,.nil=>.nil
  | _,_,n+1,.cons a u=>.cons a (u.take n)
theorem Tds.drop:∀ {vs:List V} {ds:List PyData} (n:Nat),Tds H vs ds→Tds H (vs.drop n) (ds.drop n)
  | _,_,0,t=>t
  | _,_,_+1,.nil=>.nil
  | _,_,n+1,.cons a u=>u.drop n
theorem Tds.reverse:∀ {vs:List V} {ds:List PyData},Tds H vs ds→Tds H vs.reverse ds.reverse
  | _,_,.nil=>.nil
  | _,_,.cons a u=>by rw [List.reverse_cons,List.reverse_cons];exact u.reverse.append (.one a)
theorem Tds.rep {v:V} {d:PyData} (t:Td H v d):∀ n:Nat,Tds H (List.replicate n v) (List.replicate n d)
  | 0=>.nil
  | n+1=>.cons t (Tds.rep t n)
theorem Tds.get:∀ {vs:List V} {ds:List PyData} {i:Nat} {v:V},Tds H vs ds→vs[i]?=some v→∃ d,ds[i]?=some d∧Td H v d
  | _,_,_,_,.nil,e=>by simp at e
  | _,_,0,_,.cons a u,e=>by simp at e;subst e;exact ⟨_,rfl,a⟩
  | _,_,i+1,_,.cons a u,e=>u.get (i:=i) (by simpa using e)
theorem Tds.ints (ns:List Int):Tds H (ns.map V.int) (ns.map PyData.int):=by
  induction ns with
  | nil=>exact .nil
  | cons n ns ih=>exact .cons (.int n) ih
end
structure Gd (hd hl:Bool) (c e:Nat) (d:PyData):Prop where
  sh:d.showable=true
  lv:d.leavesShort 61=true
  wt:d.weight≤c
  dp:d.depth≤e
  nd:hd=false→d.hasDict=false
  nl:hl=false→noList d=true
structure Gs (hd hl:Bool) (c e:Nat) (ds:List PyData):Prop where
  sh:PyData.showableAll ds=true
  lv:PyData.leavesShortAll 61 ds=true
  wt:PyData.weightAll ds≤c
  dp:PyData.depthAll ds≤e
  nd:hd=false→PyData.hasDictAll ds=false
  nl:hl=false→noListAll ds=true
section
variable {hd hl:Bool} {c c' e e':Nat} {d:PyData} {ds es:List PyData}
theorem Gd.fit (g:Gd hd hl c e d) (h:hd=false∨hl=false) (hc:c≤200000) (he:e≤20):Fit d:=
  ⟨g.sh,g.lv,Nat.le_trans g.wt hc,Nat.le_trans g.dp he,h.imp g.nd g.nl⟩
theorem Gd.mono (g:Gd hd hl c e d) (hc:c≤c') (he:e≤e'):Gd hd hl c' e' d:=⟨g.sh,g.lv,Nat.le_trans g.wt hc,Nat.le_trans g.dp he,g.nd,g.nl⟩
theorem Gd.up (g:Gd false false c e d):Gd hd hl c e d:=⟨g.sh,g.lv,g.wt,g.dp,fun _=>g.nd rfl,fun _=>g.nl rfl⟩
theorem Gs.up (g:Gs false false c e ds):Gs hd hl c e ds:=⟨g.sh,g.lv,g.wt,g.dp,fun _=>g.nd rfl,fun _=>g.nl rfl⟩
theorem Gs.mono (g:Gs hd hl c e ds) (hc:c≤c') (he:e≤e'):Gs hd hl c' e' ds:=⟨g.sh,g.lv,Nat.le_trans g.wt hc,Nat.le_trans g.dp he,g.nd,g.nl⟩
theorem Gs.nil:Gs hd hl 0 0 []:=⟨by simp only [PyData.showableAll],by simp only [PyData.leavesShortAll],by simp only [PyData.weightAll];omega,by simp only [PyData.depthAll];omega,fun _=>by simp only [PyData.hasDictAll],fun _=>by simp only [noListAll]⟩
theorem Gs.cons (g:Gd hd hl c e d) (h:Gs hd hl c' e ds):Gs hd hl (c+1+c') e (d :: ds):=by
  have:=g.wt;have:=h.wt;have:=g.dp;have:=h.dp
  refine ⟨?_,?_,?_,?_,fun z=>?_,fun z=>?_⟩
  · simp only [PyData.showableAll,g.sh,h.sh,Bool.and_self]
  · simp only [PyData.leavesShortAll,g.lv,h.lv,Bool.and_self]
  · simp only [PyData.weightAll];omega
  · simp only [PyData.depthAll];omega
  · simp only [PyData.hasDictAll,g.nd z,h.nd z,Bool.or_self]
  · simp only [noListAll,g.nl z,h.nl z,Bool.and_self]
theorem Gs.uncons (g:Gs hd hl c e (d :: ds)):∃ c1 c2,Gd hd hl c1 e d∧Gs hd hl c2 e ds∧c1+1+c2≤c:=by
  obtain ⟨s,l,w,p,n,m⟩:=g
  simp only [PyData.showableAll,Bool.and_eq_true] at s
  simp only [PyData.leavesShortAll,Bool.and_eq_true] at l
  simp only [PyData.weightAll] at w
  simp only [PyData.depthAll] at p
  refine ⟨d.weight,PyData.weightAll ds,⟨s.1,l.1,Nat.le_refl _,by omega,fun z=>?_,fun z=>?_⟩,⟨s.2,l.2,Nat.le_refl _,by omega,fun z=>?_,fun z=>?_⟩,w⟩
  · have:=n z;simp only [PyData.hasDictAll,Bool.or_eq_false_iff] at this;exact this.1
  · have:=m z;simp only [noListAll,Bool.and_eq_true] at this;exact this.1
  · have:=n z;simp only [PyData.hasDictAll,Bool.or_eq_false_iff] at this;exact this.2
  · have:=m z;simp only [noListAll,Bool.and_eq_true] at this;exact this.2
theorem Gs.append:∀ {ds:List PyData} {c:Nat},Gs hd hl c e ds→Gs hd hl c' e es→Gs hd hl (c+c') e (ds++es)
  | [],c,_,h=>h.mono (by omega) (Nat.le_refl _)
  | d :: ds,c,g,h=>by
    obtain ⟨c1,c2,g1,g2,l⟩:=g.uncons
    exact (Gs.cons g1 (g2.append h)).mono (by omega) (Nat.le_refl _)
theorem Gs.drop:∀ {ds:List PyData} {c:Nat} (n:Nat),Gs hd hl c e ds→Gs hd hl c e (ds.drop n)
  | _,_,0,g=>g
  | [],c,_+1,g=>g
  | d :: ds,c,n+1,g=>by
    obtain ⟨c1,c2,g1,g2,l⟩:=g.uncons
    exact (g2.drop n).mono (by omega) (Nat.le_refl _)
theorem Gs.take:∀ {ds:List PyData} {c:Nat} (n:Nat),Gs hd hl c e ds→Gs hd hl c e (ds.take n)
  | _,_,0,g=>Gs.nil.mono (Nat.zero_le _) (Nat.zero_le _)
  | [],c,_+1,g=>g
  | d :: ds,c,n+1,g=>by
    obtain ⟨c1,c2,g1,g2,l⟩:=g.uncons
    exact (Gs.cons g1 (g2.take n)).mono (by omega) (Nat.le_refl _)
theorem Gs.one (g:Gd hd hl c e d):Gs hd hl (c+1) e [d]:=(Gs.cons g (Gs.nil.mono (Nat.le_refl 0) (Nat.zero_le e))).mono (by omega) (Nat.le_refl _)
theorem Gs.reverse:∀ {ds:List PyData} {c:Nat},Gs hd hl c e ds→Gs hd hl c e ds.reverse
  | [],c,g=>g
  | d :: ds,c,g=>by
    obtain ⟨c1,c2,g1,g2,l⟩:=g.uncons
    rw [List.reverse_cons]
    exact (g2.reverse.append (Gs.one g1)).mono (by omega) (Nat.le_refl _)
theorem Gs.all:∀ {ds:List PyData},(∀ d∈ds,Gd hd hl c e d)→Gs hd hl ((c+1) * ds.length) e ds
  | [],_=>Gs.nil.mono (Nat.zero_le _) (Nat.zero_le _)
  | d :: ds,h=>by
    refine (Gs.cons (h d List.mem_cons_self) (Gs.all (ds:=ds) fun x hx=>h x (List.mem_cons_of_mem _ hx))).mono ?_ (Nat.le_refl _)
    rw [List.length_cons,Nat.mul_succ];omega
theorem Gd.tup (g:Gs hd hl c e ds):Gd hd hl c (e+1) (.tuple ds):=
  ⟨by simp only [PyData.showable];exact g.sh,by simp only [PyData.leavesShort];exact g.lv,by simp only [PyData.weight];exact g.wt,by simp only [PyData.depth];have:=g.dp;omega,fun z=>by simp only [PyData.hasDict];exact g.nd z,fun z=>by simp only [noList];exact g.nl z⟩
theorem Gd.lst (g:Gs hd true c e ds):Gd hd true c (e+1) (.list ds):=
  ⟨by simp only [PyData.showable];exact g.sh,by simp only [PyData.leavesShort];exact g.lv,by simp only [PyData.weight];exact g.wt,by simp only [PyData.depth];have:=g.dp;omega,fun z=>by simp only [PyData.hasDict];exact g.nd z,fun z=>by cases z⟩
theorem Gd.dct0:Gd true hl 0 1 (.dict []):=
  ⟨by simp only [PyData.showable,PyData.showableKv],by simp only [PyData.leavesShort,PyData.leavesShortKv],by simp only [PyData.weight,PyData.weightKv];omega,by simp only [PyData.depth,PyData.depthKv];omega,(fun z=>by cases z),fun z=>by simp only [noList,noListKv]⟩
theorem Gd.non:Gd hd hl 0 0 .none:=⟨by simp only [PyData.showable],by simp only [PyData.leavesShort],by simp only [PyData.weight];omega,by simp only [PyData.depth];omega,fun _=>by simp only [PyData.hasDict],fun _=>by simp only [noList]⟩
theorem Gd.bl (b:Bool):Gd hd hl 0 0 (.bool b):=⟨by simp only [PyData.showable],by simp only [PyData.leavesShort],by simp only [PyData.weight];omega,by simp only [PyData.depth];omega,fun _=>by simp only [PyData.hasDict],fun _=>by simp only [noList]⟩
theorem Gd.str {z:Str} (h:∀ c∈z.cps.toList,c < 1000):Gd hd hl z.cps.size 0 (.str z):=⟨by simp only [PyData.showable],by
    simp only [PyData.leavesShort,List.all_eq_true,decide_eq_true_eq]
    intro c hc
    have:=h c hc
    have e:16 ^ 8=4294967296:=by decide
    omega,by simp only [PyData.weight];omega,by simp only [PyData.depth];omega,fun _=>by simp only [PyData.hasDict],fun _=>by simp only [noList]⟩
end
end L2
namespace L2
open PySem PySem.Spec PyProof.Rows PySem.W
theorem iteB {c:Bool} {A B:Prop} (h:c=false) (q:B):if c=true then A else B:=by rw [h];exact iteF q
theorem iteA {c:Bool} {A B:Prop} (h:c=true) (q:A):if c=true then A else B:=by rw [h];exact iteT q
end L2
namespace W56
open PySem
def S:Nat→Nat
  | 0=>0
  | m+1=>5 * S m+1
def it (x:Nat):Nat→Nat
  | 0=>x
  | m+1=>5 * it x m+1
theorem it_eq (x:Nat):∀ m,it x m=x+S m * (4 * x+1)
  | 0=>by simp [it,S]
  | m+1=>by
    show 5 * it x m+1=x+(5 * S m+1) * (4 * x+1)
    rw [it_eq x m,Nat.add_mul,Nat.mul_assoc]
    generalize S m * (4 * x+1)=q
    omega
theorem it_add (x:Nat) (a:Nat):∀ b,it x (a+b)=it (it x a) b
  | 0=>rfl
  | b+1=>by show 5 * it x (a+b)+1=5 * it (it x a) b+1;rw [it_add x a b]
theorem S_two (n:Nat):S (2 * n)=2 * (S n * (2 * S n+1)):=by
  have h:=it_eq 0 (n+n)
  rw [it_add,it_eq (it 0 n) n,it_eq 0 n] at h
  simp only [Nat.mul_zero,Nat.zero_add,Nat.mul_one] at h
  rw [show 2 * n=n+n by omega,← h,Nat.mul_add,Nat.mul_one]
  generalize hq:S n * (4 * S n)=q
  have e1:S n * (2 * S n+1)=S n * (2 * S n)+S n:=by rw [Nat.mul_add,Nat.mul_one]
  have e2:S n * (4 * S n)=2 * (S n * (2 * S n)):=by rw [show 4 * S n=2 * (2 * S n) by omega,Nat.mul_left_comm]
  rw [e1]
  omega
theorem S_par:∀ m,S m % 2=m % 2
  | 0=>rfl
  | m+1=>by show (5 * S m+1) % 2=(m+1) % 2;have:=S_par m;omega
theorem cop (k c:Nat):Nat.Coprime (2 ^ k) (2 * c+1):=by
  apply Nat.Coprime.pow_left
  show Nat.gcd 2 (2 * c+1)=1
  rw [Nat.gcd_rec,show (2 * c+1) % 2=1 by omega]
  rfl
theorem S_dvd:∀ k m,2 ^ k ∣ S m→2 ^ k ∣ m
  | 0,m,_=>⟨m,by simp⟩
  | k+1,m,h=>by
    have h2:2 ∣ S m:=Nat.dvd_trans ⟨2 ^ k,by rw [Nat.pow_succ,Nat.mul_comm]⟩ h
    have pm:=S_par m
    obtain ⟨n,rfl⟩:∃ n,m=2 * n:=⟨m / 2,by have:=Nat.mod_eq_zero_of_dvd h2;omega⟩
    rw [S_two,Nat.pow_succ,Nat.mul_comm (2 ^ k) 2] at h
    have h3:2 ^ k ∣ S n * (2 * S n+1):=Nat.dvd_of_mul_dvd_mul_left (by decide) h
    have h4:=(cop k (S n)).dvd_of_dvd_mul_right h3
    have h5:=S_dvd k n h4
    rw [Nat.pow_succ,Nat.mul_comm (2 ^ k) 2]
    exact Nat.mul_dvd_mul_left 2 h5
theorem it_inj {k x a b:Nat} (hab:a < b) (hb:b < 2 ^ k):¬ it x a % 2 ^ k=it x b % 2 ^ k:=by
  intro h
  obtain ⟨d,rfl⟩:∃ d,b=a+d:=⟨b - a,by omega⟩
  rw [it_add,it_eq (it x a) d] at h
  generalize it x a=y at h
  have h1:2 ^ k ∣ S d * (4 * y+1):=by
    have:=Nat.sub_mod_eq_zero_of_mod_eq h.symm
    rw [Nat.add_sub_cancel_left] at this
    exact Nat.dvd_of_mod_eq_zero this
  rw [show 4 * y+1=2 * (2 * y)+1 by omega] at h1
  have h2:=S_dvd k d ((cop k (2 * y)).dvd_of_dvd_mul_right h1)
  have:=Nat.le_of_dvd (by omega) h2
  omega
theorem full {l:List Nat} {M:Nat} (nd:l.Nodup) (lt:∀ x∈l,x < M) (len:M≤l.length) {j:Nat} (hj:j < M):j∈l:=by
  by_cases h:j∈l
  · exact h
  · have n2:(j :: l).Nodup:=List.nodup_cons.mpr ⟨h,nd⟩
    have:=n2.length_le_of_subset (l₂:=List.range M) fun x hx=>by
      rcases List.mem_cons.mp hx with z | z
      · rw [z];exact List.mem_range.mpr hj
      · exact List.mem_range.mpr (lt x z)
    rw [List.length_cons,List.length_range] at this
    omega
theorem it_all (k x j:Nat) (hj:j < 2 ^ k):∃ m,m < 2 ^ k∧it x m % 2 ^ k=j:=by
  have nd:((List.range (2 ^ k)).map fun m=>it x m % 2 ^ k).Nodup:=by
    rw [List.nodup_iff_pairwise_ne,List.pairwise_map]
    refine List.Pairwise.imp_of_mem ?_ (List.pairwise_lt_range (n:=2 ^ k))
    intro a b ha hb ab
    exact it_inj ab (List.mem_range.mp hb)
  have:=full nd (M:=2 ^ k) (fun y hy=>by
    obtain ⟨m,_,rfl⟩:=List.mem_map.mp hy
    exact Nat.mod_lt _ (Nat.pow_pos (by decide))) (by simp) hj
  obtain ⟨m,hm,e⟩:=List.mem_map.mp this
  exact ⟨m,List.mem_range.mp hm,e⟩
def road (mask:Nat) (i p:Nat):Nat→Nat × Nat
  | 0=>(i,p)
  | m+1=>SetTable.leap mask (road mask i p m).1 (road mask i p m).2
theorem road_p (mask i p:Nat):∀ m,(road mask i p m).2=p / 32 ^ m
  | 0=>by simp [road]
  | m+1=>by
    show (road mask i p m).2 / 32=p / 32 ^ (m+1)
    rw [road_p mask i p m,Nat.div_div_eq_div_mul,Nat.pow_succ]
theorem road_it {mask i p k m:Nat} (hM:mask+1=2 ^ k) (h0:∀ n,m≤n→(road mask i p n).2=0):∀ n,(road mask i p (m+n)).1 % 2 ^ k=it (road mask i p m).1 n % 2 ^ k
  | 0=>rfl
  | n+1=>by
    have ih:=road_it hM h0 n
    show ((road mask i p (m+n)).1 * 5+1+(road mask i p (m+n)).2 / 32) % (mask+1) % 2 ^ k=(5 * it (road mask i p m).1 n+1) % 2 ^ k
    rw [h0 (m+n) (by omega),hM,Nat.mod_mod]
    simp only [Nat.zero_div,Nat.add_zero]
    rw [Nat.add_mod,Nat.mul_comm,Nat.mul_mod,ih,← Nat.mul_mod,← Nat.add_mod]
theorem road_lt {mask i p:Nat} (hi:i < mask+1):∀ m,(road mask i p m).1 < mask+1
  | 0=>hi
  | m+1=>Nat.mod_lt _ (by omega)
theorem road_all {mask i p k j:Nat} (hM:mask+1=2 ^ k) (hi:i < mask+1) (hp:p < 32 ^ 13) (hj:j < mask+1):∃ m,m < mask+15∧(road mask i p m).1=j:=by
  have h0:∀ n,13≤n→(road mask i p n).2=0:=fun n hn=>by
    rw [road_p]
    exact Nat.div_eq_of_lt (Nat.lt_of_lt_of_le hp (Nat.pow_le_pow_right (by decide) hn))
  obtain ⟨m,hm,e⟩:=it_all k (road mask i p 13).1 j (by omega)
  refine ⟨13+m,by omega,?_⟩
  have:=road_it hM h0 m
  rw [e,← hM,Nat.mod_eq_of_lt (road_lt hi _)] at this
  exact this
theorem bits_lt (h:Int):SetTable.bits h < 32 ^ 13:=by
  unfold SetTable.bits
  have h1:=Int.emod_lt_of_pos h (show (0:Int) < 2 ^ 64 by decide)
  have h2:=Int.emod_nonneg h (show (2 ^ 64:Int)≠0 by decide)
  have e:(32:Nat) ^ 13=36893488147419103232:=by decide
  have e2:(2 ^ 64:Int)=18446744073709551616:=by decide
  rw [e]
  rw [e2] at h1 h2 ⊢
  omega
theorem road_shift (mask i p:Nat):∀ m,road mask i p (m+1)=road mask (SetTable.leap mask i p).1 (SetTable.leap mask i p).2 m
  | 0=>rfl
  | m+1=>by
    show SetTable.leap mask (road mask i p (m+1)).1 (road mask i p (m+1)).2=SetTable.leap mask (road mask (SetTable.leap mask i p).1 (SetTable.leap mask i p).2 m).1 (road mask (SetTable.leap mask i p).1 (SetTable.leap mask i p).2 m).2
    rw [road_shift mask i p m]
theorem free_none {mask:Nat} {owner:Array (Option Nat)}:∀ fuel i p,SetTable.layClean.free mask owner fuel i p=none→∀ m,m < fuel→(owner.getD (road mask i p m).1 (some 0)).isNone=false
  | 0,_,_,_,m,hm=>absurd hm (Nat.not_lt_zero _)
  | fuel+1,i,p,h,m,hm=>by
    unfold SetTable.layClean.free at h
    cases e:(List.range (SetTable.runEnd mask i+1 - i)).find? (fun k=>(owner.getD (i+k) (some 0)).isNone) with
    | some k=>rw [e] at h;cases h
    | none=>
      rw [e] at h
      cases m with
      | zero=>
        have hr:i≤SetTable.runEnd mask i:=by unfold SetTable.runEnd;split <;> omega
        have:=List.find?_eq_none.mp e 0 (List.mem_range.mpr (by omega))
        rw [Nat.add_zero] at this
        exact Bool.eq_false_iff.mpr this
      | succ m=>
        rw [road_shift]
        exact free_none fuel _ _ h m (by omega)
theorem free_ok {mask:Nat} {owner:Array (Option Nat)}:∀ fuel i p j,SetTable.layClean.free mask owner fuel i p=some j→(owner.getD j (some 0)).isNone=true
  | 0,_,_,_,h=>by unfold SetTable.layClean.free at h;cases h
  | fuel+1,i,p,j,h=>by
    unfold SetTable.layClean.free at h
    cases e:(List.range (SetTable.runEnd mask i+1 - i)).find? (fun k=>(owner.getD (i+k) (some 0)).isNone) with
    | some k=>
      rw [e] at h
      cases h
      exact List.find?_some (p:=fun k=>(owner.getD (i+k) (some 0)).isNone) e
    | none=>
      rw [e] at h
      exact free_ok fuel _ _ j h
theorem free_some {mask k:Nat} {owner:Array (Option Nat)} (hM:mask+1=2 ^ k) {j:Nat} (hj:j < mask+1) (hn:(owner.getD j (some 0)).isNone=true) (h:Int) :
    ∃ j',SetTable.layClean.free mask owner (SetTable.turns mask) (SetTable.bits h % (mask+1)) (SetTable.bits h)=some j'∧(owner.getD j' (some 0)).isNone=true:=by
  cases e:SetTable.layClean.free mask owner (SetTable.turns mask) (SetTable.bits h % (mask+1)) (SetTable.bits h) with
  | some j'=>exact ⟨j',rfl,free_ok _ _ _ _ e⟩
  | none=>
    obtain ⟨m,hm,er⟩:=road_all hM (i:=SetTable.bits h % (mask+1)) (p:=SetTable.bits h) (Nat.mod_lt _ (by omega)) (bits_lt h) hj
    have:=free_none _ _ _ e m hm
    rw [er,hn] at this
    cases this
structure Own (mask:Nat) (owner:Array (Option Nat)) (js:List Nat):Prop where
  sz:owner.size=mask+1
  nd:js.Nodup
  lt:∀ j∈js,j < mask+1
  at_:∀ i j:Nat,js[i]?=some j→owner[j]?=some (some i)
  no:∀ j:Nat,j < mask+1→j ∉ js→owner[j]?=some none
theorem getD_none {owner:Array (Option Nat)} {j:Nat}:(owner.getD j (some 0)).isNone=true ↔ owner[j]?=some none:=by
  rw [Array.getD_eq_getD_getElem?]
  cases e:owner[j]? with
  | none=>simp
  | some v=>cases v <;> simp
theorem Own.step {mask k:Nat} {owner:Array (Option Nat)} {js:List Nat} (hM:mask+1=2 ^ k) (o:Own mask owner js) (hl:js.length < mask+1) (h:Int) :
    ∃ j,SetTable.layClean.free mask owner (SetTable.turns mask) (SetTable.bits h % (mask+1)) (SetTable.bits h)=some j∧Own mask (owner.setIfInBounds j (some js.length)) (js++[j]):=by
  obtain ⟨j0,hj0,hn0⟩:∃ j,j < mask+1∧j ∉ js:=by
    refine Classical.byContradiction fun hc=>?_
    have sub:∀ j∈List.range (mask+1),j∈js:=fun j hj=>Classical.byContradiction fun z=>hc ⟨j,List.mem_range.mp hj,z⟩
    have:=(List.nodup_range (n:=mask+1)).length_le_of_subset sub
    rw [List.length_range] at this
    omega
  obtain ⟨j,e,hn⟩:=free_some hM hj0 (getD_none.mpr (o.no j0 hj0 hn0)) h
  have hj:=getD_none.mp hn
  have jl:j < owner.size:=by
    obtain ⟨hh,_⟩:=Array.getElem?_eq_some_iff.mp hj
    exact hh
  have jn:j ∉ js:=fun z=>by
    obtain ⟨i,hi,ei⟩:=List.getElem_of_mem z
    have:=o.at_ i j (by rw [List.getElem?_eq_getElem hi,ei])
    rw [hj] at this
    cases this
  have sz:=o.sz
  refine ⟨j,e,⟨by rw [Array.size_setIfInBounds];exact sz,?_,?_,?_,?_⟩⟩
  · rw [List.nodup_append]
    exact ⟨o.nd,by simp,fun a ha b hb z=>jn (by rw [← List.mem_singleton.mp hb,← z];exact ha)⟩
  · intro i hi
    rcases List.mem_append.mp hi with z | z
    · exact o.lt i z
    · rw [List.mem_singleton.mp z];omega
  · intro i j' hi
    rcases Nat.lt_or_ge i js.length with z | z
    · rw [List.getElem?_append_left z] at hi
      have ne:j≠j':=fun y=>jn (by rw [y];exact List.mem_of_getElem? hi)
      rw [Array.getElem?_setIfInBounds_ne ne]
      exact o.at_ i j' hi
    · rw [List.getElem?_append_right z] at hi
      have e0:i - js.length=0:=by
        have:=(List.getElem?_eq_some_iff.mp hi).1
        simp at this;omega
      rw [e0] at hi
      obtain rfl:j=j':=by simpa using hi
      rw [Array.getElem?_setIfInBounds_self_of_lt jl,show i=js.length by omega]
  · intro j' h1 h2
    have ne:j≠j':=fun y=>h2 (by rw [y];simp)
    rw [Array.getElem?_setIfInBounds_ne ne]
    exact o.no j' h1 fun z=>h2 (List.mem_append_left _ z)
theorem Own.start (mask:Nat):Own mask (Array.replicate (mask+1) none) []:=
  ⟨by simp,List.nodup_nil,(fun j h=>by cases h),(fun i j h=>by cases h),fun j h _=>by rw [Array.getElem?_replicate,if_pos h]⟩
end W56
namespace W56
open PySem
theorem range_all {α:Type} (l:List α):(List.range l.length).filterMap (l[·]?)=l:=by
  induction l with
  | nil=>rfl
  | cons a l ih=>
    rw [List.length_cons,List.range_succ_eq_map,List.filterMap_cons]
    show a :: ((List.range l.length).map Nat.succ).filterMap ((a :: l)[·]?)=_
    rw [List.filterMap_map]
    congr 1
end W56
namespace L2
open PySem PySem.Spec PyProof.Rows PySem.W
section
variable {X:Cx}
end
theorem Gd.int {hd hl:Bool} {i:Int} (h:i.natAbs < 10 ^ 12):Gd hd hl 41 0 (.int i):=by
  have s1:=ints_showable (ns:=[i]) (fun n hn=>by rw [List.mem_singleton.mp hn];exact h)
  simp only [PyData.showable,List.map_cons,List.map_nil,PyData.showableAll,Bool.and_true] at s1
  refine ⟨by simp only [PyData.showable];exact s1,?_,?_,by simp only [PyData.depth];omega,fun _=>by simp only [PyData.hasDict],fun _=>by simp only [noList]⟩
  · simp only [PyData.leavesShort,decide_eq_true_eq]
    exact Nat.le_trans (PyData.shown_int_le h) (by decide)
  · have:=weight_ints [i] (fun n hn=>by rw [List.mem_singleton.mp hn];exact h)
    simp only [List.map_cons,List.map_nil,PyData.weightAll,List.length_singleton] at this
    omega
end L2
namespace L2
open PySem PySem.Spec PyProof.Rows PySem.W
def isTupD:PyData→Bool | .tuple _=>true | _=>false
def isStrD:PyData→Bool | .str _=>true | _=>false
def isIntD:PyData→Bool | .int _=>true | .bool _=>true | _=>false
def isBlD:PyData→Bool | .bool _=>true | _=>false
section
variable {K:PySem.W.Frag} {H:Hp} {v:V} {d:PyData}
theorem td_tup (h:Td H v d):∃ t,TyOf K H v t∧kitOne K t (.type "tuple")=some (isTupD d):=by
  cases h with
  | non=>exact ⟨_,.non,by rfl⟩
  | bl b=>exact ⟨_,.bl b,by rfl⟩
  | int i=>exact ⟨_,.int i,by rfl⟩
  | str z=>exact ⟨_,.str z,by rfl⟩
  | lst e _=>exact ⟨_,.lst e,by rfl⟩
  | tup e _=>exact ⟨_,.tup e,by rfl⟩
  | dct e _ _=>exact ⟨_,.dK e,by rfl⟩
theorem td_str (h:Td H v d):∃ t,TyOf K H v t∧kitOne K t (.type "str")=some (isStrD d):=by
  cases h with
  | non=>exact ⟨_,.non,by rfl⟩
  | bl b=>exact ⟨_,.bl b,by rfl⟩
  | int i=>exact ⟨_,.int i,by rfl⟩
  | str z=>exact ⟨_,.str z,by rfl⟩
  | lst e _=>exact ⟨_,.lst e,by rfl⟩
  | tup e _=>exact ⟨_,.tup e,by rfl⟩
  | dct e _ _=>exact ⟨_,.dK e,by rfl⟩
theorem td_int (h:Td H v d):∃ t,TyOf K H v t∧kitOne K t (.type "int")=some (isIntD d):=by
  cases h with
  | non=>exact ⟨_,.non,by rfl⟩
  | bl b=>exact ⟨_,.bl b,by rfl⟩
  | int i=>exact ⟨_,.int i,by rfl⟩
  | str z=>exact ⟨_,.str z,by rfl⟩
  | lst e _=>exact ⟨_,.lst e,by rfl⟩
  | tup e _=>exact ⟨_,.tup e,by rfl⟩
  | dct e _ _=>exact ⟨_,.dK e,by rfl⟩
theorem td_bl (h:Td H v d):∃ t,TyOf K H v t∧kitOne K t (.type "bool")=some (isBlD d):=by
  cases h with
  | non=>exact ⟨_,.non,by rfl⟩
  | bl b=>exact ⟨_,.bl b,by rfl⟩
  | int i=>exact ⟨_,.int i,by rfl⟩
  | str z=>exact ⟨_,.str z,by rfl⟩
  | lst e _=>exact ⟨_,.lst e,by rfl⟩
  | tup e _=>exact ⟨_,.tup e,by rfl⟩
  | dct e _ _=>exact ⟨_,.dK e,by rfl⟩
end
theorem isTup_ex {H:Hp} {v:V} {d:PyData} (h:Td H v d) (b:isTupD d=true):∃ a xs ds,v=.ref a∧d=.tuple ds∧H a=some (.tup xs)∧Tds H xs ds:=by
  cases h with
  | tup e t=>exact ⟨_,_,_,rfl,rfl,e,t⟩
  | _=>cases b
theorem isStr_ex {H:Hp} {v:V} {d:PyData} (h:Td H v d) (b:isStrD d=true):∃ z,v=.str z∧d=.str z:=by
  cases h with
  | str z=>exact ⟨_,rfl,rfl⟩
  | _=>cases b
def wholeD:PyData→Bool | .int _=>true | _=>false
theorem wholes_ints:∀ {H:Hp} {xs:List V} {ds:List PyData},Tds H xs ds→(∀ d∈ds,wholeD d=true)→∃ us:List Int,ds=us.map .int∧xs=us.map V.int
  | _,_,_,.nil,_=>⟨[],rfl,rfl⟩
  | _,_,_,.cons t u,h=>by
    obtain ⟨us,e1,e2⟩:=wholes_ints u fun d hd=>h d (List.mem_cons_of_mem _ hd)
    have w:=h _ List.mem_cons_self
    cases t with
    | int i=>exact ⟨i :: us,by rw [e1];rfl,by rw [e2];rfl⟩
    | _=>cases w
def dl (ps:List Addr) (H:Hp):Hp:=fun a=>if a∈ps then none else H a
theorem dl_same (ps:List Addr) (H:Hp):Same (dl ps H) H:=fun b o e=>by
  unfold dl at e
  split at e
  · cases e
  · exact e
theorem dl_at {ps:List Addr} {H:Hp} {a:Addr} {o:HO} (h:H a=some o) (n:a ∉ ps):dl ps H a=some o:=by unfold dl;rw [if_neg n];exact h
theorem dl_keep {ps:List Addr} {H H':Hp} (h:∀ b o,b ∉ ps→H b=some o→H' b=some o):Same (dl ps H) (dl ps H'):=fun b o e=>by
  unfold dl at e ⊢
  split at e
  · cases e
  · rename_i n
    rw [if_neg n];exact h b o n e
end L2
namespace W7
def wd (ups:List Int) (lab:List Nat):Nat→Nat→List Nat
  | 0,_=>[]
  | f+1,k=>lab.getD k 0 :: (if ups.getD k 0 < 0 then [] else wd ups lab f (ups.getD k 0).toNat)
structure TreeOk (ups:List Int) (lab:List Nat):Prop where
  len:ups.length=lab.length
  pos:0 < ups.length
  most:ups.length≤60
  root:ups.getD 0 0=-1
  up:∀ k,0 < k→k < ups.length→0≤ups.getD k 0∧ups.getD k 0 < (k:Int)
theorem TreeOk.lt {ups:List Int} {lab:List Nat} (t:TreeOk ups lab) {k:Nat} (h:k < ups.length) (h0:¬ ups.getD k 0 < 0):(ups.getD k 0).toNat < k:=by
  rcases Nat.eq_zero_or_pos k with e | e
  · subst e;have:=t.root;omega
  · have:=t.up k e h;omega
theorem TreeOk.neg {ups:List Int} {lab:List Nat} (t:TreeOk ups lab) {k:Nat} (h:k < ups.length):ups.getD k 0 < 0 ↔ ups.getD k 0=-1:=by
  rcases Nat.eq_zero_or_pos k with e | e
  · subst e;have:=t.root;omega
  · have:=t.up k e h;omega
def W (ups:List Int) (lab:List Nat) (k:Nat):List Nat:=wd ups lab (k+1) k
def R (ups:List Int) (lab:List Nat) (k:Int):List Nat:=if k < 0 then [] else W ups lab k.toNat
end W7
namespace S01
open PySem L2 W7
def top (i:Nat):Stmt:=PySem.Challenge.pw_upwords_k01_trees_told_apart.main.body.getD i (.Pass ⟨0,0,0,0⟩)
abbrev s_is_whole:Stmt:=top 2
abbrev N_is_whole:List Str:=["thing"]
theorem sc_is_whole:FnScope N_is_whole ["thing"] (defScope s_is_whole):=⟨rfl,rfl,rfl,by decide +kernel,rfl,by decide +kernel,by decide +kernel⟩
abbrev s_is_letters:Stmt:=top 3
abbrev N_is_letters:List Str:=["thing"]
theorem sc_is_letters:FnScope N_is_letters ["thing"] (defScope s_is_letters):=⟨rfl,rfl,rfl,by decide +kernel,rfl,by decide +kernel,by decide +kernel⟩
abbrev s_is_tree:Stmt:=top 6
abbrev N_is_tree:List Str:=["thing"]
theorem sc_is_tree:FnScope N_is_tree ["thing"] (defScope s_is_tree):=⟨rfl,rfl,rfl,by decide +kernel,rfl,by decide +kernel,by decide +kernel⟩
abbrev s_is_labels:Stmt:=top 7
abbrev N_is_labels:List Str:=["thing"]
theorem sc_is_labels:FnScope N_is_labels ["thing"] (defScope s_is_labels):=⟨rfl,rfl,rfl,by decide +kernel,rfl,by decide +kernel,by decide +kernel⟩
abbrev s_is_ups:Stmt:=top 8
abbrev N_is_ups:List Str:=["thing", "many", "place", "ahead"]
theorem sc_is_ups:FnScope N_is_ups ["thing", "many"] (defScope s_is_ups):=⟨rfl,rfl,rfl,by decide +kernel,rfl,by decide +kernel,by decide +kernel⟩
abbrev s_all_above:Stmt:=top 9
abbrev N_all_above:List Str:=["ups", "place", "found", "up"]
theorem sc_all_above:FnScope N_all_above ["ups", "place"] (defScope s_all_above):=⟨rfl,rfl,rfl,by decide +kernel,rfl,by decide +kernel,by decide +kernel⟩
abbrev s_law_prime:Stmt:=top 11
abbrev N_law_prime:List Str:=["at", "some"]
theorem sc_law_prime:FnScope N_law_prime ["at"] (defScope s_law_prime):=⟨rfl,rfl,rfl,by decide +kernel,rfl,by decide +kernel,by decide +kernel⟩
abbrev s_law_pool:Stmt:=top 12
abbrev N_law_pool:List Str:=["cell"]
theorem sc_law_pool:FnScope N_law_pool ["cell"] (defScope s_law_pool):=⟨rfl,rfl,rfl,by decide +kernel,rfl,by decide +kernel,by decide +kernel⟩
abbrev s_law_take:Stmt:=top 13
abbrev N_law_take:List Str:=["pool", "many", "found", "at", "one", "two"]
theorem sc_law_take:FnScope N_law_take ["pool", "many"] (defScope s_law_take):=⟨rfl,rfl,rfl,by decide +kernel,rfl,by decide +kernel,by decide +kernel⟩
abbrev s_law_letter:Stmt:=top 14
abbrev N_law_letter:List Str:=["pool", "base"]
theorem sc_law_letter:FnScope N_law_letter ["pool", "base"] (defScope s_law_letter):=⟨rfl,rfl,rfl,by decide +kernel,rfl,by decide +kernel,by decide +kernel⟩
abbrev s_law_tree:Stmt:=top 15
abbrev N_law_tree:List Str:=["pool", "most", "many", "base", "way", "kind", "odd", "period", "climbs", "signs", "other", "ups", "labels", "k", "some", "place", "step", "letters"]
theorem sc_law_tree:FnScope N_law_tree ["pool", "most"] (defScope s_law_tree):=⟨rfl,rfl,rfl,by decide +kernel,rfl,by decide +kernel,by decide +kernel⟩
abbrev s_law_cells:Stmt:=top 16
abbrev N_law_cells:List Str:=["script", "many"]
theorem sc_law_cells:FnScope N_law_cells ["script", "many"] (defScope s_law_cells):=⟨rfl,rfl,rfl,by decide +kernel,rfl,by decide +kernel,by decide +kernel⟩
abbrev s_law_is_right:Stmt:=top 17
abbrev N_law_is_right:List Str:=["thing", "ups", "labels", "chain", "k"]
theorem sc_law_is_right:FnScope N_law_is_right ["thing"] (defScope s_law_is_right):=⟨rfl,rfl,rfl,by decide +kernel,rfl,by decide +kernel,by decide +kernel⟩
abbrev s_law_ups_bent:Stmt:=top 18
abbrev N_law_ups_bent:List Str:=["pool", "ups", "way", "at", "to", "here", "far", "some"]
theorem sc_law_ups_bent:FnScope N_law_ups_bent ["pool", "ups"] (defScope s_law_ups_bent):=⟨rfl,rfl,rfl,by decide +kernel,rfl,by decide +kernel,by decide +kernel⟩
abbrev s_law_labels_bent:Stmt:=top 19
abbrev N_law_labels_bent:List Str:=["pool", "labels", "way", "at", "sign"]
theorem sc_law_labels_bent:FnScope N_law_labels_bent ["pool", "labels"] (defScope s_law_labels_bent):=⟨rfl,rfl,rfl,by decide +kernel,rfl,by decide +kernel,by decide +kernel⟩
abbrev s_law_bent:Stmt:=top 20
abbrev N_law_bent:List Str:=["pool", "tree", "way", "ups", "labels", "at", "some"]
theorem sc_law_bent:FnScope N_law_bent ["pool", "tree"] (defScope s_law_bent):=⟨rfl,rfl,rfl,by decide +kernel,rfl,by decide +kernel,by decide +kernel⟩
abbrev s_law:Stmt:=top 21
abbrev N_law:List Str:=["script", "cell", "pool", "tree", "things", "turn", "once", "thing", "kept", "found"]
theorem sc_law:FnScope N_law ["script"] (defScope s_law):=⟨rfl,rfl,rfl,by decide +kernel,rfl,by decide +kernel,by decide +kernel⟩
section
variable {P:Program} {w:World} {K:PySem.W.Frag} {mg:Str→Option Value} {base:Heap} {k:Nat}
def mk (l:List Nat):Str:=⟨l.toArray⟩
theorem mk_cps (l:List Nat):(mk l).cps.toList=l:=rfl
theorem mk_len (l:List Nat):(mk l).length=l.length:=by simp [mk,Str.length]
theorem str_ext {a b:Str} (h:a.cps.toList=b.cps.toList):a=b:=by
  obtain ⟨x⟩:=a;obtain ⟨y⟩:=b
  have:x=y:=Array.toList_inj.mp h
  rw [this]
def TreeAt (H:Hp) (t:Addr) (ups:List Int) (lab:Str):Prop:=∃ u,H t=some (.tup [.ref u,.str lab])∧H u=some (.tup (ups.map V.int))∧TreeOk ups lab.cps.toList
theorem TreeAt.same {H H':Hp} {t:Addr} {ups:List Int} {lab:Str} (h:TreeAt H t ups lab) (s:Same H H'):TreeAt H' t ups lab:=by
  obtain ⟨u,a,b,c⟩:=h
  exact ⟨u,s _ _ a,s _ _ b,c⟩
def oneV (cs:List Nat):List V:=cs.map fun c=>.str ⟨#[c]⟩
theorem oneV_len (cs:List Nat):(oneV cs).length=cs.length:=List.length_map _
theorem oneV_at {cs:List Nat} {i:Int} (h0:0≤i) (h1:i < (cs.length:Int)):∃ c,atI (oneV cs) i=some (.str ⟨#[c]⟩)∧c∈cs:=by
  have hk:i.toNat < cs.length:=by omega
  refine ⟨cs[i.toNat],?_,List.getElem_mem hk⟩
  have e:=atI_nat (xs:=oneV cs) (j:=i.toNat) (v:=.str ⟨#[cs[i.toNat]]⟩) (by unfold oneV;rw [List.getElem?_map,List.getElem?_eq_getElem hk];rfl)
  rw [show ((i.toNat:Nat):Int)=i by omega] at e
  exact e
theorem ints_at {us:List Int} {i:Int} (h0:0≤i) (h1:i < (us.length:Int)):atI (us.map V.int) i=some (.int (us.getD i.toNat 0)):=by
  have hk:i.toNat < us.length:=by omega
  have e:=atI_nat (xs:=us.map V.int) (j:=i.toNat) (v:=.int (us.getD i.toNat 0)) (by rw [List.getElem?_map,List.getElem?_eq_getElem hk,List.getD_eq_getElem?_getD,List.getElem?_eq_getElem hk];rfl)
  rw [show ((i.toNat:Nat):Int)=i by omega] at e
  exact e
abbrev Lw (c:Nat):Prop:=97≤c∧c < 123
theorem alph_at {i:Int} (h0:0≤i) (h1:i < 26):∃ c,atI (Str.ofString "abcdefghijklmnopqrstuvwxyz").cps.toList i=some c∧Lw c:=by
  have hl:(Str.ofString "abcdefghijklmnopqrstuvwxyz").cps.toList.length=26:=by decide +kernel
  have hk:i.toNat < (Str.ofString "abcdefghijklmnopqrstuvwxyz").cps.toList.length:=by omega
  have e:=atI_nat (xs:=(Str.ofString "abcdefghijklmnopqrstuvwxyz").cps.toList) (j:=i.toNat) (List.getElem?_eq_getElem hk)
  rw [show ((i.toNat:Nat):Int)=i by omega] at e
  have all:∀ c∈(Str.ofString "abcdefghijklmnopqrstuvwxyz").cps.toList,Lw c:=by decide +kernel
  exact ⟨_,e,all _ (List.getElem_mem hk)⟩
theorem menu {us:List Int} {n lo hi:Int} (h0:0≤n) (h1:n < (us.length:Int)) (hb:∀ v∈us,lo≤v∧v≤hi):∃ v:Int,atI (us.map V.int) n=some (.int v)∧lo≤v∧v≤hi:=by
  refine ⟨_,ints_at h0 h1,?_⟩
  have hk:n.toNat < us.length:=by omega
  rw [List.getD_eq_getElem?_getD,List.getElem?_eq_getElem hk]
  exact hb _ (List.getElem_mem hk)
def sp_prime:Sp:=fun vs H Q _=>∃ z:Int,vs=[.int z]∧∀ (n:Int) (H':Hp),0 < n→n < 2147483648→Same H H'→Q (.int n) H'
theorem has_prime (D:Df K mg "_law_prime" s_law_prime) (B:Blt mg):Has P w K mg base "_law_prime" (k+1) ["at"] sp_prime:=by
  refine D.has sc_law_prime (fun _ _ _ _ _ _ us hl=>match us,hl with | [_],_=>rfl) (fun vs H Q E h=>by obtain ⟨z,rfl,_⟩:=h;rfl) (fun f cdv A outer s H vs Q E hr h=>?_)
  obtain ⟨z,rfl,q⟩:=h
  refine ⟨_,(pss_cons (ps_set (i:=1) sc_law_prime.nd rfl (by first | exact Or.inl rfl | exact Or.inr rfl) (pe_lst (pa_cons pe_int (pa_cons pe_int (pa_cons pe_int (pa_cons pe_int (pa_cons pe_int (pa_cons pe_int (pa_cons pe_int pa_nil)))))))))
  (pss_one (ps_ret (pe_ix ix_list (pe_op op_cat (pv 1) (pe_lst (pa_cons pe_int (pa_cons pe_int (pa_cons pe_int (pa_cons pe_int pa_nil)))))) (pe_op op_mod (pv 0) pe_int) (fun _ _=>rfl))))),?_⟩
  refine ⟨(by show 7≤sizeLine;decide),fun r1 hr1=>?_⟩
  refine ⟨_,rfl,(by show 4≤sizeLine;decide),fun r2 hr2=>?_⟩
  have n12:r1≠r2:=ne_of_none upd_same hr2
  refine ⟨r1,r2,_,_,rfl,rfl,by rw [upd_ne n12];exact upd_same,upd_same,(by show 11≤sizeLine;decide),fun r3 hr3=>?_⟩
  refine ⟨_,rfl,_,_,rfl,rfl,(by decide:(0:Int) < 11),?_⟩
  obtain ⟨v,hv,v0,v1⟩:=menu (us:=[2147483647,2147483629,2147483587,2147483579,2147483563,2147483549,2147483543,2147483497,2147483489,2147483477,2147483423]) (n:=z % 11) (lo:=1) (hi:=2147483647) (Int.emod_nonneg _ (by decide)) (Int.emod_lt_of_pos _ (by decide)) (by decide)
  refine ⟨r3,_,_,_,rfl,rfl,SqL.of upd_same,hv,q v _ (by omega) (by omega) ?_⟩
  exact (((Same.refl H).new hr1).new hr2).new hr3
def sp_pool:Sp:=fun vs H Q _=>∃ cell:Int,vs=[.int cell]∧∀ (p:Addr) (x y:Int),H p=none→Q (.ref p) (upd H p (.lst [.int x,.int y,.int 0]))
theorem has_pool (D:Df K mg "_law_pool" s_law_pool) (B:Blt mg):Has P w K mg base "_law_pool" (k+1) ["cell"] sp_pool:=by
  refine D.has sc_law_pool (fun _ _ _ _ _ _ us hl=>match us,hl with | [_],_=>rfl) (fun vs H Q E h=>by obtain ⟨z,rfl,_⟩:=h;rfl) (fun f cdv A outer s H vs Q E hr h=>?_)
  obtain ⟨cell,rfl,q⟩:=h
  refine ⟨_,(pss_one (ps_ret (pe_lst (pa_cons (pe_callB (call_max2 rfl) rfl B.max bt_max (pa_cons pe_int (pa_cons (pe_op op_sub (pv 0) (pe_op op_pow pe_int pe_int)) pa_nil))) (pa_cons (pv 0) (pa_cons pe_int pa_nil)))))),?_⟩
  refine ⟨_,rfl,_,_,rfl,rfl,⟨by decide,by decide,by decide⟩,_,_,rfl,rfl,_,_,rfl,?_⟩
  exact ⟨_,rfl,(by show 3≤sizeLine;decide),fun p hp=>q p _ _ hp⟩
theorem pow_ok (u n z y:Int) (hn:0 < n) (hn2:n < 2147483648) (z0:0≤z) (z1:z < 1000000):(u % n * (u % n)+69621 * z+y % 65537+1).natAbs < 2 ^ 64:=by
  have o1:=Int.emod_nonneg u (show n≠0 by omega)
  have o2:=Int.emod_lt_of_pos u hn
  generalize u % n=one at o1 o2
  have oo:one * one≤2147483648 * 2147483648:=Int.mul_le_mul (by omega) (by omega) o1 (by decide)
  have oo0:0≤one * one:=Int.mul_nonneg o1 o1
  have w1:=Int.emod_nonneg y (by decide:(65537:Int)≠0)
  have w2:=Int.emod_lt_of_pos y (by decide:(0:Int) < 65537)
  generalize one * one=q1 at oo oo0
  omega
theorem mod_in (u n:Int) (hn:0 < n) (hn2:n < 2147483648):-(2 ^ 64) < u % n∧u % n < 2 ^ 64:=by
  have o1:=Int.emod_nonneg u (show n≠0 by omega)
  have o2:=Int.emod_lt_of_pos u hn
  omega
def sp_take:Sp:=fun vs H Q _=>∃ (p:Addr) (m c:Int),vs=[.ref p,.int m]∧Deck H p c∧c < 1000000∧0 < m∧m < 1073741824∧∀ (n:Int) (H':Hp),0≤n→n < m→Kd p (c+1) H H'→Q (.int n) H'
theorem has_take (D:Df K mg "_law_take" s_law_take) (B:Blt mg) (G_law_prime:Has P w K mg base "_law_prime" k ["at"] sp_prime):Has P w K mg base "_law_take" (k+1) ["pool", "many"] sp_take:=by
  refine D.has sc_law_take (fun _ _ _ _ _ _ us hl=>match us,hl with | [_,_],_=>rfl) (fun vs H Q E h=>by obtain ⟨p,m,c,rfl,_⟩:=h;rfl) (fun f cdv A outer s H vs Q E hr h=>?_)
  obtain ⟨p,m,c,rfl,⟨x,y,z,hp,z0,z1⟩,c6,m0,m1,q⟩:=h
  refine ⟨_,(pss_cons (ps_if (pt_cmpR op_gt (pe_ix ix_list (pv 0) pe_int (fun _ _=>rfl)) pe_int (nomark _))
  (pss_cons (ps_set (i:=2) sc_law_take.nd rfl (by first | exact Or.inl rfl | exact Or.inr rfl) (pe_op op_mod (pe_ix ix_list (pv 0) pe_int (fun _ _=>rfl)) (pv 1)))
  (pss_cons (ps_asg (pe_op op_fdiv (pe_ix ix_list (pv 0) pe_int (fun _ _=>rfl)) (pv 1)) (pg_sub (pv 0) pe_int set_list))
  (pss_one (ps_ret (pv 2)))))
  pss_nil)
  (pss_cons (ps_set (i:=3) sc_law_take.nd rfl (by first | exact Or.inl rfl | exact Or.inr rfl) (pe_ix ix_list (pv 0) pe_int (fun _ _=>rfl)))
  (pss_cons (ps_asg (pe_op op_add (pv 3) pe_int) (pg_sub (pv 0) pe_int set_list))
  (pss_cons (ps_set (i:=4) sc_law_take.nd rfl (by first | exact Or.inl rfl | exact Or.inr rfl) (pe_op op_mod (pe_op op_pow (pe_op op_add (pe_op op_add (pe_op op_mod (pe_ix ix_list (pv 0) pe_int (fun _ _=>rfl)) pe_int) (pe_op op_mul pe_int (pv 3))) pe_int) pe_int) (pe_callH G_law_prime hr rfl (pa_cons (pv 3) pa_nil))))
  (pss_cons (ps_set (i:=5) sc_law_take.nd rfl (by first | exact Or.inl rfl | exact Or.inr rfl) (pe_op op_mod (pe_op op_pow (pe_op op_add (pe_op op_add (pe_op op_add (pe_op op_mul (pv 4) (pv 4)) (pe_op op_mul pe_int (pv 3))) (pe_op op_mod (pe_ix ix_list (pv 0) pe_int (fun _ _=>rfl)) pe_int)) pe_int) pe_int) (pe_callH G_law_prime hr rfl (pa_cons (pe_op op_add (pv 3) pe_int) pa_nil))))
  (pss_one (ps_ret (pe_op op_mod (pe_op op_fdiv (pe_op op_mod (pe_op op_add (pe_op op_mul (pv 5) pe_int) (pv 4)) (pe_callH G_law_prime hr rfl (pa_cons (pe_op op_add (pv 3) pe_int) pa_nil))) pe_int) (pv 1))))))))),?_⟩
  refine ⟨_,rfl,p,_,_,_,rfl,rfl,SqL.of hp,rfl,_,_,rfl,rfl,_,rfl,ite2 (fun cnd=>?_) (fun cnd=>?_)⟩
  · refine ⟨_,rfl,p,_,_,_,rfl,rfl,SqL.of hp,rfl,_,rfl,_,_,rfl,rfl,m0,?_⟩
    refine ⟨_,rfl,p,_,_,_,rfl,rfl,SqL.of hp,rfl,_,rfl,_,_,rfl,rfl,⟨m0,m1⟩,?_⟩
    refine ⟨_,rfl,p,_,_,0,rfl,rfl,hp,rfl,_,rfl,?_⟩
    exact q _ _ (Int.emod_nonneg _ (by omega)) (Int.emod_lt_of_pos _ m0) ⟨⟨_,y,z,upd_same,z0,by omega⟩,fun b o hb e=>by rw [upd_ne hb];exact e⟩
  · refine ⟨_,rfl,p,_,_,_,rfl,rfl,SqL.of hp,rfl,_,rfl,_,_,rfl,rfl,?_⟩
    refine ⟨_,rfl,p,_,_,2,rfl,rfl,hp,rfl,?_⟩
    have hp':upd H p (.lst [.int x,.int y,.int (z+1)]) p=some (.lst [.int x,.int y,.int (z+1)]):=upd_same
    have kd:Kd p (c+1) H (upd H p (.lst [.int x,.int y,.int (z+1)])):=⟨⟨x,y,z+1,upd_same,by omega,by omega⟩,fun b o hb e=>by rw [upd_ne hb];exact e⟩
    have y1:=Int.emod_nonneg y (by decide:(2147483399:Int)≠0)
    have y2:=Int.emod_lt_of_pos y (by decide:(0:Int) < 2147483399)
    refine ⟨_,rfl,p,_,_,_,rfl,rfl,SqL.of hp',rfl,_,_,rfl,rfl,(by decide:(0:Int) < 2147483399),_,rfl,_,_,rfl,rfl,.inl ⟨by decide,by decide⟩,_,_,rfl,rfl,_,_,rfl,rfl,_,_,rfl,rfl,⟨by decide,by decide,by omega⟩,?_⟩
    refine ⟨_,rfl,z,rfl,fun n1 H1 a0 a1 s1=>⟨_,_,rfl,rfl,a0,?_⟩⟩
    have hp1:=s1 _ _ hp'
    refine ⟨_,rfl,_,rfl,_,_,rfl,rfl,.inl (mod_in _ _ a0 a1),_,rfl,_,_,rfl,rfl,.inl ⟨by decide,by decide⟩,_,_,rfl,rfl,_,rfl,p,_,_,_,rfl,rfl,SqL.of hp1,rfl,_,_,rfl,rfl,(by decide:(0:Int) < 65537),_,_,rfl,rfl,_,_,rfl,rfl,_,_,rfl,rfl,⟨by decide,by decide,pow_ok _ _ _ _ a0 a1 z0 (by omega)⟩,?_⟩
    refine ⟨_,rfl,_,_,rfl,rfl,z+4,rfl,fun n2 H2 b0 b1 s2=>⟨_,_,rfl,rfl,b0,?_⟩⟩
    refine ⟨_,rfl,_,_,rfl,rfl,.inr ⟨by decide,by decide⟩,_,rfl,_,_,rfl,rfl,_,rfl,_,_,rfl,rfl,z+7,rfl,fun n3 H3 d0 d1 s3=>⟨_,_,rfl,rfl,d0,?_⟩⟩
    refine ⟨_,_,rfl,rfl,⟨by decide,by decide⟩,_,rfl,_,_,rfl,rfl,m0,?_⟩
    exact q _ _ (Int.emod_nonneg _ (by omega)) (Int.emod_lt_of_pos _ m0) (((kd.same s1).same s2).same s3)
def sp_letter:Sp:=fun vs H Q _=>∃ (p b:Addr) (c b0 b1:Int),vs=[.ref p,.ref b]∧Deck H p c∧c < 1000000∧H b=some (.tup [.int b0,.int b1])∧0 < b1∧b1≤26∧∀ (ch:Nat) (H':Hp),Lw ch→Kd p (c+1) H H'→Q (.str ⟨#[ch]⟩) H'
theorem has_letter (D:Df K mg "_law_letter" s_law_letter) (B:Blt mg) (G_law_take:Has P w K mg base "_law_take" k ["pool", "many"] sp_take):Has P w K mg base "_law_letter" (k+1) ["pool", "base"] sp_letter:=by
  refine D.has sc_law_letter (fun _ _ _ _ _ _ us hl=>match us,hl with | [_,_],_=>rfl) (fun vs H Q E h=>by obtain ⟨p,b,c,b0,b1,rfl,_⟩:=h;rfl) (fun f cdv A outer s H vs Q E hr h=>?_)
  obtain ⟨p,b,c,b0,b1,rfl,hd,c6,hb,p0,p1,q⟩:=h
  refine ⟨_,(pss_one (ps_ret (pe_ix ix_str pe_str (pe_op op_mod (pe_op op_add (pe_ix ix_tup (pv 1) pe_int (fun _ _=>rfl)) (pe_op op_mul pe_int (pe_callH G_law_take hr rfl (pa_cons (pv 0) (pa_cons (pe_ix ix_tup (pv 1) pe_int (fun _ _=>rfl)) pa_nil))))) pe_int) (fun _ _=>rfl)))),?_⟩
  have hl:(Str.ofString "abcdefghijklmnopqrstuvwxyz").length=26:=by decide +kernel
  refine ⟨_,rfl,b,_,_,_,rfl,rfl,SqT.of hb,rfl,_,rfl,_,rfl,b,_,_,_,rfl,rfl,SqT.of hb,rfl,p,b1,c,rfl,hd,c6,p0,by omega,fun n H1 n0 n1 kd=>?_⟩
  obtain ⟨ch,hch,chl⟩:=alph_at (i:=(b0+5 * n) % 26) (Int.emod_nonneg _ (by decide)) (Int.emod_lt_of_pos _ (by decide))
  refine ⟨_,_,rfl,rfl,.inl ⟨by decide,by decide⟩,_,_,rfl,rfl,_,_,rfl,rfl,(by decide:(0:Int) < 26),_,_,_,rfl,rfl,by rw [hl];exact Nat.le_of_lt (small1000 (by decide)),hch,q ch H1 chl kd⟩
end
end S01
namespace S01
open PySem L2 W7
section
variable {P:Program} {w:World} {K:PySem.W.Frag} {mg:Str→Option Value} {base:Heap} {k:Nat}
def stepUp (us:List Int) (p:Int):Int:=if us.getD p.toNat 0 > 0 then us.getD p.toNat 0 else 0
def climb (us:List Int):Nat→Int→Int
  | 0,p=>p
  | n+1,p=>stepUp us (climb us n p)
structure GrOk (us:List Int):Prop where
  road:∀ k,0 < k→k < us.length→∃ n,climb us n ((k:Int) - 1)=us.getD k 0
  pos:0 < us.length
  root:us.getD 0 0=-1
  up:∀ k,0 < k→k < us.length→0≤us.getD k 0∧us.getD k 0 < (k:Int)
theorem getD_app {us vs:List Int} {j:Nat}:(us++vs).getD j 0=if j < us.length then us.getD j 0 else vs.getD (j - us.length) 0:=by
  simp only [List.getD_eq_getElem?_getD]
  split
  · rename_i h;rw [List.getElem?_append_left h]
  · rename_i h;rw [List.getElem?_append_right (by omega)]
theorem GrOk.climb {us:List Int} (g:GrOk us) (v:Int) {p:Int} (h0:0≤p) (h1:p < (us.length:Int)):∀ n,climb (us++[v]) n p=climb us n p∧0≤climb us n p∧climb us n p < (us.length:Int)
  | 0=>⟨rfl,h0,h1⟩
  | n+1=>by
    obtain ⟨a,b,c⟩:=g.climb v h0 h1 n
    have lt:(S01.climb us n p).toNat < us.length:=by omega
    have e:(us++[v]).getD (S01.climb us n p).toNat 0=us.getD (S01.climb us n p).toNat 0:=by rw [getD_app,if_pos lt]
    refine ⟨?_,?_⟩
    · show stepUp (us++[v]) (S01.climb (us++[v]) n p)=stepUp us (S01.climb us n p)
      rw [a];unfold stepUp;rw [e]
    · show 0≤stepUp us (S01.climb us n p)∧stepUp us (S01.climb us n p) < (us.length:Int)
      have pos:=g.pos
      unfold stepUp
      rcases Nat.eq_zero_or_pos (S01.climb us n p).toNat with z | z
      · rw [z,g.root];exact ⟨by decide,by show (0:Int) < _;omega⟩
      · have:=g.up _ z lt
        split <;> omega
theorem GrOk.snoc {us:List Int} (g:GrOk us) {v:Int} (h0:0≤v) (h1:v < (us.length:Int)) (hr:∃ n,S01.climb us n ((us.length:Int) - 1)=v):GrOk (us++[v]) where
  road:=fun j hj hl=>by
    rw [List.length_append,List.length_singleton] at hl
    rw [getD_app]
    have pos:=g.pos
    split
    · rename_i h
      obtain ⟨n,e⟩:=g.road j hj h
      exact ⟨n,((g.climb v (by omega) (by omega) n).1).trans e⟩
    · rename_i h
      have e:j=us.length:=by omega
      subst e
      obtain ⟨n,e⟩:=hr
      rw [Nat.sub_self]
      exact ⟨n,((g.climb v (by omega) (by omega) n).1).trans e⟩
  pos:=by rw [List.length_append];have:=g.pos;omega
  root:=by rw [getD_app,if_pos g.pos];exact g.root
  up:=fun j hj hl=>by
    rw [List.length_append,List.length_singleton] at hl
    rw [getD_app]
    split
    · rename_i h;exact g.up j hj h
    · rename_i h
      have e:j=us.length:=by omega
      subst e
      rw [Nat.sub_self]
      exact ⟨h0,h1⟩
theorem GrOk.one:GrOk [-1]:=⟨fun j h0 h1=>by
  have:j < 1:=h1
  omega,by decide,rfl,fun j h0 h1=>by
  have:j < 1:=h1
  omega⟩
theorem gr_tree {us:List Int} {ls:List Nat} (g:GrOk us) (hl:us.length=ls.length) (h60:us.length≤60):TreeOk us (mk ls).cps.toList:=⟨by rw [mk_cps];exact hl,g.pos,h60,g.root,g.up⟩
structure Fine (ups:List Int) (lab:Str):Prop where
  low:∀ c∈lab.cps.toList,Lw c
  road:∀ k,0 < k→k < ups.length→∃ n,climb ups n ((k:Int) - 1)=ups.getD k 0
def Gr0 (us:List Int):Prop:=us=[]∨GrOk us
theorem low_app {cs:List Nat} {c:Nat} (h:∀ x∈cs,Lw x) (hc:Lw c):∀ x∈cs++[c],Lw x:=fun x hx=>by
  rcases List.mem_append.mp hx with z | z
  · exact h x z
  · obtain rfl:=List.mem_singleton.mp z;exact hc
def sp_tree:Sp:=fun vs H Q _=>∃ (p:Addr) (most c:Int),vs=[.ref p,.int most]∧Deck H p c∧0≤c∧c < 900000∧1≤most∧most≤60∧∀ (t:Addr) (ups:List Int) (lab:Str) (H':Hp),Kd p (c+400) H H'→TreeAt H' t ups lab→Fine ups lab→Q (.ref t) H'
theorem has_tree (D:Df K mg "_law_tree" s_law_tree) (B:Blt mg) (G_law_take:Has P w K mg base "_law_take" k ["pool", "many"] sp_take) (G_law_letter:Has P w K mg base "_law_letter" k ["pool", "base"] sp_letter):Has P w K mg base "_law_tree" (k+1) ["pool", "most"] sp_tree:=by
  refine D.has sc_law_tree (fun _ _ _ _ _ _ us hl=>match us,hl with | [_,_],_=>rfl) (fun vs H Q E h=>by obtain ⟨p,m,c,rfl,_⟩:=h;rfl) (fun f cdv A outer s H vs Q E hr h=>?_)
  obtain ⟨p,most,c,rfl,hd,cc0,cc1,ms1,ms60,q⟩:=h
  refine ⟨_,(pss_cons (ps_set (i:=2) sc_law_tree.nd rfl (by first | exact Or.inl rfl | exact Or.inr rfl) (pe_ix ix_list (pe_lst (pa_cons (pe_op op_add pe_int (pe_callH G_law_take hr rfl (pa_cons (pv 0) (pa_cons (pv 1) pa_nil)))) (pa_cons (pv 1) (pa_cons (pe_op op_add pe_int (pe_callH G_law_take hr rfl (pa_cons (pv 0) (pa_cons (pe_callB (call_min2 rfl) rfl B.min bt_min (pa_cons (pv 1) (pa_cons pe_int pa_nil))) pa_nil)))) pa_nil)))) (pe_callH G_law_take hr rfl (pa_cons (pv 0) (pa_cons pe_int pa_nil))) (fun _ _=>rfl)))
  (pss_cons (ps_set (i:=3) sc_law_tree.nd rfl (by first | exact Or.inl rfl | exact Or.inr rfl) (pe_tup (pa_cons (pe_callH G_law_take hr rfl (pa_cons (pv 0) (pa_cons pe_int pa_nil))) (pa_cons (pe_ix ix_list (pe_lst (pa_cons pe_int (pa_cons pe_int (pa_cons pe_int (pa_cons pe_int pa_nil))))) (pe_callH G_law_take hr rfl (pa_cons (pv 0) (pa_cons pe_int pa_nil))) (fun _ _=>rfl)) pa_nil))))
  (pss_cons (ps_set (i:=4) sc_law_tree.nd rfl (by first | exact Or.inl rfl | exact Or.inr rfl) (pe_callH G_law_take hr rfl (pa_cons (pv 0) (pa_cons pe_int pa_nil))))
  (pss_cons (ps_set (i:=5) sc_law_tree.nd rfl (by first | exact Or.inl rfl | exact Or.inr rfl) (pe_callB (call_max2 rfl) rfl B.max bt_max (pa_cons (pe_callH G_law_take hr rfl (pa_cons (pv 0) (pa_cons pe_int pa_nil))) (pa_cons (pe_callTy call_int1 rfl B.int_ bt_int (pa_cons (pe_cmpR op_eq (pv 4) pe_int (nomark _)) pa_nil)) pa_nil))))
  (pss_cons (ps_set (i:=6) sc_law_tree.nd rfl (by first | exact Or.inl rfl | exact Or.inr rfl) (pe_callH G_law_take hr rfl (pa_cons (pv 0) (pa_cons (pv 2) pa_nil))))
  (pss_cons (ps_set (i:=7) sc_law_tree.nd rfl (by first | exact Or.inl rfl | exact Or.inr rfl) (pe_op op_add pe_int (pe_callH G_law_take hr rfl (pa_cons (pv 0) (pa_cons pe_int pa_nil)))))
  (pss_cons (ps_comp (i:=8) sc_law_tree.nd rfl (by first | exact Or.inl rfl | exact Or.inr rfl) rfl (pi_range1 rfl B.range (pa_cons (pv 7) pa_nil)) (NL:=["k"]) (ix:=[0]) (csc (defScope s_law_tree) N_law_tree) (fun cl C s₃ H₃ fp pins=>⟨(pg_name (i:=0) (show List.Nodup (["k", "pool"]:List Str) from by decide +kernel) rfl (by first | exact Or.inl rfl | exact Or.inr rfl)),pifs_nil,(pe_callH G_law_take hr rfl (pa_cons (pv 1) (pa_cons pe_int pa_nil)))⟩))
  (pss_cons (ps_comp (i:=9) sc_law_tree.nd rfl (by first | exact Or.inl rfl | exact Or.inr rfl) rfl (pi_range1 rfl B.range (pa_cons (pv 7) pa_nil)) (NL:=["k"]) (ix:=[0,3]) (csc (defScope s_law_tree) N_law_tree) (fun cl C s₃ H₃ fp pins=>⟨(pg_name (i:=0) (show List.Nodup (["k", "pool", "base"]:List Str) from by decide +kernel) rfl (by first | exact Or.inl rfl | exact Or.inr rfl)),pifs_nil,(pe_callH G_law_letter hr rfl (pa_cons (pv 1) (pa_cons (pv 2) pa_nil)))⟩))
  (pss_cons (ps_set (i:=10) sc_law_tree.nd rfl (by first | exact Or.inl rfl | exact Or.inr rfl) (pe_ix ix_str pe_str (pe_callH G_law_take hr rfl (pa_cons (pv 0) (pa_cons pe_int pa_nil))) (fun _ _=>rfl)))
  (pss_cons (ps_set (i:=11) sc_law_tree.nd rfl (by first | exact Or.inl rfl | exact Or.inr rfl) (pe_lst pa_nil))
  (pss_cons (ps_set (i:=12) sc_law_tree.nd rfl (by first | exact Or.inl rfl | exact Or.inr rfl) pe_str)
  (pss_cons (ps_for PassesOwn.never rfl (pi_range1 rfl B.range (pa_cons (pv 2) pa_nil)) (pg_name (i:=13) sc_law_tree.nd rfl (by first | exact Or.inl rfl | exact Or.inr rfl))
  (pss_cons (ps_set (i:=14) sc_law_tree.nd rfl (by first | exact Or.inl rfl | exact Or.inr rfl) (pe_lst (pa_cons pe_int (pa_cons pe_int (pa_cons (pe_op op_mod (pv 13) pe_int) (pa_cons (pe_callH G_law_take hr rfl (pa_cons (pv 0) (pa_cons pe_int pa_nil))) (pa_cons (pe_callH G_law_take hr rfl (pa_cons (pv 0) (pa_cons pe_int pa_nil))) (pa_cons (pe_ix ix_list (pv 8) (pe_op op_mod (pv 13) (pv 7)) (fun _ _=>rfl)) (pa_cons (pe_callH G_law_take hr rfl (pa_cons (pv 0) (pa_cons pe_int pa_nil))) pa_nil)))))))))
  (pss_cons (ps_set (i:=14) sc_law_tree.nd rfl (by first | exact Or.inl rfl | exact Or.inr rfl) (pe_op op_cat (pv 14) (pe_lst (pa_cons (pe_op op_mul pe_int (pe_callH G_law_take hr rfl (pa_cons (pv 0) (pa_cons pe_int pa_nil)))) (pa_cons (pe_callH G_law_take hr rfl (pa_cons (pv 0) (pa_cons pe_int pa_nil))) pa_nil)))))
  (pss_cons (ps_set (i:=15) sc_law_tree.nd rfl (by first | exact Or.inl rfl | exact Or.inr rfl) (pe_op op_sub (pv 13) pe_int))
  (pss_cons (ps_for PassesOwn.never rfl (pi_range1 rfl B.range (pa_cons (pe_op op_mul (pe_ix ix_list (pv 14) (pv 4) (fun _ _=>rfl)) (pe_callTy call_int1 rfl B.int_ bt_int (pa_cons (pe_cmpR op_gt (pv 13) pe_int (nomark _)) pa_nil))) pa_nil)) (pg_name (i:=16) sc_law_tree.nd rfl (by first | exact Or.inl rfl | exact Or.inr rfl))
  (pss_one (ps_set (i:=15) sc_law_tree.nd rfl (by first | exact Or.inl rfl | exact Or.inr rfl) (pe_callB (call_max2 rfl) rfl B.max bt_max (pa_cons pe_int (pa_cons (pe_ix ix_list (pv 11) (pv 15) (fun _ _=>rfl)) pa_nil))))))
  (pss_cons (ps_expr (pe_bm PySem.F.plainAttrs_list PySem.F.slot_list_append PySem.F.type_list_append mt_append (pv 11) (pa_cons (pv 15) pa_nil)))
  (pss_cons (ps_set (i:=17) sc_law_tree.nd rfl (by first | exact Or.inl rfl | exact Or.inr rfl) (pe_lst (pa_cons (pe_callH G_law_letter hr rfl (pa_cons (pv 0) (pa_cons (pv 3) pa_nil))) (pa_cons (pe_ix ix_list (pv 9) (pe_op op_mod (pv 13) (pv 7)) (fun _ _=>rfl)) (pa_cons (pe_ix ix_list (pe_lst (pa_cons (pe_ix ix_list (pv 9) pe_int (fun _ _=>rfl)) (pa_cons (pv 10) pa_nil))) (pe_callTy call_int1 rfl B.int_ bt_int (pa_cons (pe_cmpR op_eq (pv 13) (pv 6) (nomark _)) pa_nil)) (fun _ _=>rfl)) pa_nil)))))
  (pss_one (ps_set (i:=12) sc_law_tree.nd rfl (by first | exact Or.inl rfl | exact Or.inr rfl) (pe_op op_add_str (pv 12) (pe_ix ix_list (pv 17) (pv 5) (fun _ _=>rfl))))))))))))
  (pss_one (ps_ret (pe_tup (pa_cons (pe_callTy call_tuple_of rfl B.tuple_ bt_tuple (pa_cons (pv 11) pa_nil)) (pa_cons (pv 12) pa_nil))))))))))))))))),?_⟩
  refine ⟨_,rfl,_,rfl,p,most,c,rfl,hd,by omega,by omega,by omega,fun n1 H1 a0 a1 kd1=>?_⟩
  refine ⟨_,_,rfl,rfl,_,rfl,_,rfl,_,rfl,_,_,rfl,p,_,c+1,rfl,kd1.deck,by omega,?_,?_,fun n2 H2 b0 b1 kd2=>?_⟩
  · split <;> omega
  · split <;> omega
  have b2:n2 < 7∧n2 < most:=by
    revert b1;split <;> omega
  refine ⟨_,_,rfl,rfl,(by show 3≤sizeLine;decide),fun r1 hr1=>?_⟩
  have kq2:=((kd1.trans kd2).new (o:=.lst [.int (1+n1),.int most,.int (1+n2)]) hr1)
  refine ⟨_,rfl,p,3,_,rfl,kq2.deck,by omega,by decide,by decide,fun n3 H3 d0 d1 kd3=>?_⟩
  have ku3:=kq2.trans kd3
  obtain ⟨many,hmany,mn1,mn60⟩:∃ v:Int,atI [V.int (1+n1),.int most,.int (1+n2)] n3=some (.int v)∧1≤v∧v≤60:=by
    have:n3=0∨n3=1∨n3=2:=by omega
    rcases this with rfl | rfl | rfl
    · exact ⟨_,rfl,by omega,by omega⟩
    · exact ⟨_,rfl,by omega,by omega⟩
    · exact ⟨_,rfl,by omega,by omega⟩
  refine ⟨r1,_,_,_,rfl,rfl,SqL.of (kd3.keep _ _ (kd2.deck.ne hr1) upd_same),hmany,?_⟩
  refine ⟨_,rfl,p,26,_,rfl,ku3.deck,by omega,by decide,by decide,fun b0' H4 e0 e1 kd4=>?_⟩
  have ku4:=ku3.trans kd4
  refine ⟨(by show 4≤sizeLine;decide),fun r2 hr2=>?_⟩
  have kq4:=ku4.new (o:=.lst [.int 1,.int 2,.int 3,.int 26]) hr2
  refine ⟨_,rfl,p,4,_,rfl,kq4.deck,by omega,by decide,by decide,fun n5 H5 f0 f1 kd5=>?_⟩
  have ku5:=kq4.trans kd5
  obtain ⟨bb,hbb,bb1,bb26⟩:=menu (us:=[1,2,3,26]) (n:=n5) (lo:=1) (hi:=26) f0 f1 (by decide)
  refine ⟨r2,_,_,_,rfl,rfl,SqL.of (kd5.keep _ _ (ku4.deck.ne hr2) upd_same),hbb,(by show 2≤sizeLine;decide),fun bs hbs=>?_⟩
  have hHbs:H bs=none:=ku5.fresh hbs
  have bsp:bs≠p:=ku5.deck.ne hbs
  have kq5:=(ku5.new (o:=.tup [.int b0',.int bb]) hbs).mono (show _≤c+5 by omega)
  have hb5:upd H5 bs (.tup [.int b0',.int bb]) bs=some (.tup [.int b0',.int bb]):=upd_same
  generalize upd H5 bs (.tup [.int b0',.int bb])=Hb at kq5 hb5
  refine ⟨_,rfl,p,9,_,rfl,kq5.deck,by omega,by decide,by decide,fun way H6 g0 g1 kd6=>?_⟩
  have ku6:=kq5.trans kd6
  have hb6:=kd6.keep _ _ bsp hb5
  refine ⟨_,rfl,p,3,_,rfl,ku6.deck,by omega,by decide,by decide,fun n7 H7 i0 i1 kd7=>?_⟩
  have ku7:=ku6.trans kd7
  have hb7:=kd7.keep _ _ bsp hb6
  refine ⟨_,rfl,rfl,.inr ⟨_,rfl,_,_,rfl,?_⟩⟩
  have hkind:0≤(if (if decide (V.int way=V.int 5)=true then (1:Int) else 0) > n7 then (if decide (V.int way=V.int 5)=true then (1:Int) else 0) else n7)∧(if (if decide (V.int way=V.int 5)=true then (1:Int) else 0) > n7 then (if decide (V.int way=V.int 5)=true then (1:Int) else 0) else n7) < 3:=by
    split <;> (try split) <;> omega
  generalize (if (if decide (V.int way=V.int 5)=true then (1:Int) else 0) > n7 then (if decide (V.int way=V.int 5)=true then (1:Int) else 0) else n7)=kind at hkind
  refine ⟨_,rfl,_,rfl,p,many,_,rfl,ku7.deck,by omega,by omega,by omega,fun odd H8 j0 j1 kd8=>?_⟩
  have ku8:=ku7.trans kd8
  have hb8:=kd8.keep _ _ bsp hb7
  refine ⟨_,rfl,p,7,_,rfl,ku8.deck,by omega,by decide,by decide,fun n9 H9 k0 k1 kd9=>?_⟩
  have ku9:=(ku8.trans kd9).mono (show _≤c+9 by omega)
  have hb9:=kd9.keep _ _ bsp hb8
  refine ⟨_,_,rfl,rfl,?_⟩
  have per1:1≤(1+n9):=by omega
  have per7:(1+n9)≤7:=by omega
  refine ⟨_,rfl,_,rfl,by omega,by omega,fun cl0 hcl=>?_⟩
  have hHcl:H cl0=none:=ku9.fresh hcl
  have clp:cl0≠p:=ku9.deck.ne hcl
  have bcl:bs≠cl0:=ne_of_none hb9 hcl
  refine comp_by (1+n9).toNat (by omega) (fun j ys H'=>H' cl0=some (.lst ys)∧ys.length=j∧Kd p (c+9+j) H H'∧H' bs=some (.tup [.int b0',.int bb])∧∃ us:List Int,ys=us.map V.int∧∀ v∈us,0≤v∧v≤3)
    (fun j ys H' h=>⟨h.1,by omega⟩) ⟨upd_same,rfl,(ku9.new hcl).mono (by omega),by rw [upd_ne bcl];exact hb9,[],rfl,by simp⟩ ?_ ?_
  rotate_left
  · rintro j ys Ha hj ⟨x1,x2,x3,x4,us,rfl,x5⟩
    refine ⟨hj,?_⟩
    rintro x H4' ⟨rfl,rfl⟩
    refine ⟨rfl,?_⟩
    refine ⟨_,rfl,p,4,_,rfl,x3.deck,by omega,by decide,by decide,fun n Hc y0 y1 kd=>?_⟩
    refine ⟨kd.keep _ _ clp x1,upd_same,by rw [List.length_append,x2];rfl,((x3.trans kd).write hHcl clp).mono (by omega),by rw [upd_ne bcl];exact kd.keep _ _ bsp x4,us++[n],by rw [List.map_append];rfl,fun v hv=>?_⟩
    rcases List.mem_append.mp hv with hv | hv
    · exact x5 v hv
    · have:v=n:=by simpa using hv
      omega
  rintro ys Ha ⟨hc1,hc2,ku10,hb10,cls,rfl,hcls⟩
  refine ⟨Nat.le_refl _,?_⟩
  rw [List.length_map] at hc2
  refine ⟨_,rfl,_,rfl,by omega,by omega,fun sg0 hsg=>?_⟩
  have hHsg:H sg0=none:=ku10.fresh hsg
  have sgp:sg0≠p:=ku10.deck.ne hsg
  have bsg:bs≠sg0:=ne_of_none hb10 hsg
  have csg:cl0≠sg0:=ne_of_none hc1 hsg
  refine comp_by (1+n9).toNat (by omega) (fun j ys H'=>H' sg0=some (.lst ys)∧ys.length=j∧Kd p (c+9+(1+n9).toNat+j) H H'∧H' bs=some (.tup [.int b0',.int bb])∧H' cl0=some (.lst (cls.map V.int))∧∃ cs:List Nat,ys=oneV cs∧∀ c∈cs,Lw c)
    (fun j ys H' h=>⟨h.1,by omega⟩) ⟨upd_same,rfl,(ku10.new hsg).mono (by omega),by rw [upd_ne bsg];exact hb10,by rw [upd_ne csg];exact hc1,[],rfl,by simp⟩ ?_ ?_
  rotate_left
  · rintro j ys Hb' hj ⟨x1,x2,x3,x4,x5,cs,rfl,x6⟩
    refine ⟨hj,?_⟩
    rintro x H4' ⟨rfl,rfl⟩
    refine ⟨rfl,?_⟩
    refine ⟨_,rfl,_,rfl,p,bs,_,b0',bb,rfl,x3.deck,by omega,x4,by omega,by omega,fun ch Hc chl kd=>?_⟩
    refine ⟨kd.keep _ _ sgp x1,upd_same,by rw [List.length_append,x2];rfl,((x3.trans kd).write hHsg sgp).mono (by omega),by rw [upd_ne bsg];exact kd.keep _ _ bsp x4,by rw [upd_ne csg];exact kd.keep _ _ clp x5,cs++[ch],by unfold oneV;rw [List.map_append];rfl,low_app x6 chl⟩
  rintro ys Hb' ⟨hs1,hs2,ku11,hb11,hc11,cs,rfl,lowc⟩
  refine ⟨Nat.le_refl _,?_⟩
  rw [oneV_len] at hs2
  have ku11':=ku11.mono (show _≤c+23 by omega)
  have hal:(Str.ofString "abcdefghijklmnopqrstuvwxyz").length=26:=by decide +kernel
  refine ⟨_,rfl,p,26,_,rfl,ku11'.deck,by omega,by decide,by decide,fun n12 H12 l0 l1 kd12=>?_⟩
  obtain ⟨och,hoch,ochl⟩:=alph_at l0 l1
  refine ⟨_,_,_,rfl,rfl,by rw [hal];exact Nat.le_of_lt (small1000 (by decide)),hoch,?_⟩
  have ku12:=(ku11'.trans kd12).mono (show _≤c+24 by omega)
  have hb12:=kd12.keep _ _ bsp hb11
  have hc12:=kd12.keep _ _ clp hc11
  have hs12:=kd12.keep _ _ sgp hs1
  refine ⟨(by show 0≤sizeLine;decide),fun u hu0=>?_⟩
  have hup:u≠p:=ku12.deck.ne hu0
  have hHu:H u=none:=ku12.fresh hu0
  have ubs:bs≠u:=ne_of_none hb12 hu0
  have ucl:cl0≠u:=ne_of_none hc12 hu0
  have usg:sg0≠u:=ne_of_none hs12 hu0
  refine ⟨_,rfl,_,rfl,by omega,by omega,?_⟩
  refine for_range (lo:=0) (n:=many.toNat) (fun i σ H'=>∃ (us:List Int) (ls:List Nat) (tx:Str) (o13 o14 o15 o16 o17:Option V),
      σ=[some (.ref p),some (.int most),some (.int many),some (.ref bs),some (.int way),some (.int kind),some (.int odd),some (.int (1+n9)),some (.ref cl0),some (.ref sg0),some (.str ⟨#[och]⟩),some (.ref u),some (.str tx),o13,o14,o15,o16,o17]∧tx=mk ls ∧
      Kd p (c+24+6 * i) H H'∧H' bs=some (.tup [.int b0',.int bb])∧H' cl0=some (.lst (cls.map V.int))∧H' sg0=some (.lst (oneV cs))∧H' u=some (.lst (us.map V.int))∧us.length=i∧ls.length=i∧Gr0 us∧∀ c∈ls,Lw c)
    ⟨[],[],_,none,none,none,none,none,rfl,rfl,(ku12.new hu0).mono (by omega),by rw [upd_ne ubs];exact hb12,by rw [upd_ne ucl];exact hc12,by rw [upd_ne usg];exact hs12,upd_same,rfl,rfl,.inl rfl,by simp⟩ ?_ ?_
  · rintro i σ H' hi ⟨us,ls,tx,o13,o14,o15,o16,o17,rfl,rfl,kd,hb,hc,hs,hu,hlen,hls,gr,low⟩
    have hul:(us.map V.int).length=us.length:=List.length_map _
    have im:=Int.emod_nonneg (0+(i:Int)) (show (1+n9)≠0 by omega)
    have im2:=Int.emod_lt_of_pos (0+(i:Int)) (show 0 < (1+n9) by omega)
    have i2:=Int.emod_nonneg (0+(i:Int)) (by decide:(2:Int)≠0)
    have i22:=Int.emod_lt_of_pos (0+(i:Int)) (by decide:(0:Int) < 2)
    obtain ⟨cv,hcv,cv0,cv3⟩:=menu (us:=cls) (n:=(0+(i:Int)) % (1+n9)) (lo:=0) (hi:=3) im (by omega) hcls
    refine ⟨_,rfl,_,_,rfl,rfl,(by decide:(0:Int) < 2),_,rfl,p,2,_,rfl,kd.deck,by omega,by decide,by decide,fun m1 G1 p0 p1 e1=>?_⟩
    refine ⟨_,rfl,p,3,_,rfl,e1.deck,by omega,by decide,by decide,fun m2 G2 p2 p3 e2=>?_⟩
    have hc2:=e2.keep _ _ clp (e1.keep _ _ clp hc)
    refine ⟨_,rfl,_,rfl,_,rfl,_,_,rfl,rfl,by omega,cl0,_,_,_,rfl,rfl,SqL.of hc2,hcv,?_⟩
    refine ⟨_,rfl,p,5,_,rfl,e2.deck,by omega,by decide,by decide,fun m3 G3 p4 p5 e3=>?_⟩
    refine ⟨(by show 7≤sizeLine;decide),fun s1 hs1'=>?_⟩
    have kd3:=((((Kd.refl kd.deck).trans e1).trans e2).trans e3).new (o:=.lst [.int 0,.int 60,.int ((0+(i:Int)) % 2),.int m1,.int m2,.int cv,.int m3]) hs1'
    have hsp1:s1≠p:=e3.deck.ne hs1'
    have hss1:upd G3 s1 (.lst [.int 0,.int 60,.int ((0+(i:Int)) % 2),.int m1,.int m2,.int cv,.int m3]) s1=some (.lst [.int 0,.int 60,.int ((0+(i:Int)) % 2),.int m1,.int m2,.int cv,.int m3]):=upd_same
    generalize upd G3 s1 (.lst [.int 0,.int 60,.int ((0+(i:Int)) % 2),.int m1,.int m2,.int cv,.int m3])=G3' at kd3 hss1
    refine ⟨_,rfl,_,rfl,p,2,_,rfl,kd3.deck,by omega,by decide,by decide,fun m4 G4 p6 p7 e4=>?_⟩
    refine ⟨_,_,rfl,rfl,.inl ⟨by decide,by decide⟩,_,rfl,p,60,_,rfl,e4.deck,by omega,by decide,by decide,fun m5 G5 p8 p9 e5=>?_⟩
    refine ⟨(by show 2≤sizeLine;decide),fun s2 hs2'=>?_⟩
    have kd5:=((kd3.trans e4).trans e5).new (o:=.lst [.int (3 * m4),.int m5]) hs2'
    have hss2:upd G5 s2 (.lst [.int (3 * m4),.int m5]) s1=some (.lst [.int 0,.int 60,.int ((0+(i:Int)) % 2),.int m1,.int m2,.int cv,.int m3]):=by
      have z:=e5.keep _ _ hsp1 (e4.keep _ _ hsp1 hss1)
      rw [upd_ne (ne_of_none z hs2')];exact z
    refine ⟨s1,s2,_,_,rfl,rfl,hss2,upd_same,(by show 9≤sizeLine;decide),fun s3 hs3'=>?_⟩
    have kd6:=kd5.new (o:=.lst ([.int 0,.int 60,.int ((0+(i:Int)) % 2),.int m1,.int m2,.int cv,.int m3]++[.int (3 * m4),.int m5])) hs3'
    have hs3:upd (upd G5 s2 (.lst [.int (3 * m4),.int m5])) s3 (.lst ([.int 0,.int 60,.int ((0+(i:Int)) % 2),.int m1,.int m2,.int cv,.int m3]++[.int (3 * m4),.int m5])) s3=some (.lst (([0,60,(0+(i:Int)) % 2,m1,m2,cv,m3,3 * m4,m5]:List Int).map V.int)):=upd_same
    generalize upd (upd G5 s2 (.lst [.int (3 * m4),.int m5])) s3 (.lst ([.int 0,.int 60,.int ((0+(i:Int)) % 2),.int m1,.int m2,.int cv,.int m3]++[.int (3 * m4),.int m5]))=G6 at kd6 hs3
    have kk:Kd p (c+24+6 * i+5) H G6:=(kd.trans kd6).mono (by omega)
    have keep:∀ b o,b≠p→H' b=some o→G6 b=some o:=kd6.keep
    have hu6:=keep _ _ hup hu
    have hb6':=keep _ _ bsp hb
    have hs6:=keep _ _ sgp hs
    refine ⟨_,rfl,_,_,rfl,rfl,?_⟩
    obtain ⟨stp,hstp,st0,st60⟩:=menu (us:=[0,60,(0+(i:Int)) % 2,m1,m2,cv,m3,3 * m4,m5]) (n:=way) (lo:=0) (hi:=60) g0 (by show way < 9;exact g1) (by
      intro v hv
      simp only [List.mem_cons,List.not_mem_nil,or_false] at hv
      rcases hv with rfl | rfl | rfl | rfl | rfl | rfl | rfl | rfl | rfl <;> omega)
    refine ⟨_,rfl,_,rfl,s3,_,_,_,rfl,rfl,SqL.of hs3,hstp,_,rfl,_,_,rfl,rfl,.inr ⟨_,rfl,_,_,rfl,rfl,.inl ⟨by omega,by omega⟩,_,rfl,?_,?_,?_⟩⟩
    · split <;> omega
    · split <;> omega
    have hn:(stp * (if decide (0 < 0+(i:Int))=true then (1:Int) else 0)).toNat≤60∧(i=0→(stp * (if decide (0 < 0+(i:Int))=true then (1:Int) else 0)).toNat=0):=by
      constructor
      · split <;> omega
      · intro e
        rw [if_neg (by simp;omega)]
        simp
    generalize (stp * (if decide (0 < 0+(i:Int))=true then (1:Int) else 0)).toNat=nst at hn
    refine for_range (lo:=0) (n:=nst) (fun j σ H''=>∃ (pl:Int) (o16':Option V),
        σ=[some (.ref p),some (.int most),some (.int many),some (.ref bs),some (.int way),some (.int kind),some (.int odd),some (.int (1+n9)),some (.ref cl0),some (.ref sg0),some (.str ⟨#[och]⟩),some (.ref u),some (.str (mk ls)),some (.int (0+(i:Int))),some (.ref s3),some (.int pl),o16',o17]∧H''=G6 ∧
        (i=0→pl=-1)∧(0 < i→0≤pl∧pl < (i:Int))∧∃ n,climb us n (0+(i:Int) - 1)=pl)
      ⟨0+(i:Int) - 1,o16,rfl,rfl,fun e=>by omega,fun e=>by omega,0,rfl⟩ ?_ ?_
    · rintro j σ H'' hj ⟨pl,o16',rfl,rfl,pz,pp,n0,hn0⟩
      have ip:0 < i:=by
        rcases Nat.eq_zero_or_pos i with e | e
        · have:=hn.2 e;omega
        · exact e
      obtain ⟨pl0,pl1⟩:=pp ip
      have hat:=ints_at (us:=us) (i:=pl) pl0 (by omega)
      have gr':GrOk us:=by
        rcases gr with z | z
        · rw [z] at hlen;simp at hlen;omega
        · exact z
      have hv:us.getD pl.toNat 0 < pl∨(us.getD pl.toNat 0=-1∧pl=0):=by
        rcases Nat.eq_zero_or_pos pl.toNat with e | e
        · right;rw [e];exact ⟨gr'.root,by omega⟩
        · left;have:=gr'.up pl.toNat e (by omega);omega
      refine ⟨_,rfl,_,rfl,u,_,_,_,rfl,rfl,SqL.of hu6,hat,_,_,rfl,?_⟩
      refine ⟨_,_,rfl,rfl,fun e=>by omega,fun _=>?_,n0+1,?_⟩
      · split <;> omega
      · show stepUp us (climb us n0 _)=_
        rw [hn0];rfl
    rintro σ Gx ⟨pl,o16',rfl,rfl,pz,pp,n0,hn0⟩
    refine ⟨_,rfl,.inl ⟨rfl,_,SqL.of hu6⟩,_,rfl,u,_,_,rfl,rfl,hu6,by rw [hul];exact small1000 (by omega),?_⟩
    have kk7:Kd p (c+24+6 * i+5) H (upd Gx u (.lst (us.map V.int++[.int pl]))):=kk.write hHu hup
    have hu7:upd Gx u (.lst (us.map V.int++[.int pl])) u=some (.lst ((us++[pl]).map V.int)):=by rw [upd_same,List.map_append];rfl
    have hb7':upd Gx u (.lst (us.map V.int++[.int pl])) bs=some (.tup [.int b0',.int bb]):=by rw [upd_ne ubs];exact hb6'
    have hs7:upd Gx u (.lst (us.map V.int++[.int pl])) sg0=some (.lst (oneV cs)):=by rw [upd_ne usg];exact hs6
    have hc7:upd Gx u (.lst (us.map V.int++[.int pl])) cl0=some (.lst (cls.map V.int)):=by rw [upd_ne ucl];exact keep _ _ clp hc
    generalize upd Gx u (.lst (us.map V.int++[.int pl]))=G7 at kk7 hu7 hb7' hs7 hc7
    refine ⟨_,rfl,_,rfl,p,bs,_,b0',bb,rfl,kk7.deck,by omega,hb7',by omega,by omega,fun ch G8 chl e8=>?_⟩
    have hs8:=e8.keep _ _ sgp hs7
    have hb8':=e8.keep _ _ bsp hb7'
    have hc8:=e8.keep _ _ clp hc7
    have hu8:=e8.keep _ _ hup hu7
    have kk8:=(kk7.trans e8).mono (show _≤c+24+6 * (i:Int)+6 by omega)
    obtain ⟨sv,hsv,svm⟩:=oneV_at (cs:=cs) (i:=(0+(i:Int)) % (1+n9)) im (by omega)
    obtain ⟨s0v,hs0v,s0m⟩:=oneV_at (cs:=cs) (i:=0) (by decide) (by omega)
    refine ⟨_,rfl,_,rfl,_,rfl,_,_,rfl,rfl,by omega,sg0,_,_,_,rfl,rfl,SqL.of hs8,hsv,_,rfl,sg0,_,_,_,rfl,rfl,SqL.of hs8,hs0v,_,rfl,(by show 2≤sizeLine;decide),fun l1' hl1'=>?_⟩
    obtain ⟨ov,hov,ovl⟩:∃ ov:Nat,atI [V.str ⟨#[s0v]⟩,.str ⟨#[och]⟩] (if decide (V.int (0+(i:Int))=V.int odd)=true then 1 else 0)=some (.str ⟨#[ov]⟩)∧Lw ov:=by
      by_cases z:V.int (0+(i:Int))=V.int odd
      · rw [decide_eq_true z];exact ⟨och,rfl,ochl⟩
      · rw [decide_eq_false z];exact ⟨s0v,rfl,lowc _ s0m⟩
    refine ⟨_,rfl,_,rfl,rfl,.inr ⟨_,rfl,l1',_,_,_,rfl,rfl,SqL.of upd_same,hov,(by show 3≤sizeLine;decide),fun l2' hl2'=>?_⟩⟩
    have kk9:=(kk8.new (o:=.lst [V.str ⟨#[s0v]⟩,.str ⟨#[och]⟩]) hl1').new (o:=.lst [V.str ⟨#[ch]⟩,.str ⟨#[sv]⟩,.str ⟨#[ov]⟩]) hl2'
    have kp:∀ b o,G8 b=some o→upd (upd G8 l1' (.lst [V.str ⟨#[s0v]⟩,.str ⟨#[och]⟩])) l2' (.lst [V.str ⟨#[ch]⟩,.str ⟨#[sv]⟩,.str ⟨#[ov]⟩]) b=some o:=fun b o e=>((Same.refl G8).new hl1').new hl2' b o e
    have hl9:upd (upd G8 l1' (.lst [V.str ⟨#[s0v]⟩,.str ⟨#[och]⟩])) l2' (.lst [V.str ⟨#[ch]⟩,.str ⟨#[sv]⟩,.str ⟨#[ov]⟩]) l2'=some (.lst (oneV [ch,sv,ov])):=upd_same
    generalize upd (upd G8 l1' (.lst [V.str ⟨#[s0v]⟩,.str ⟨#[och]⟩])) l2' (.lst [V.str ⟨#[ch]⟩,.str ⟨#[sv]⟩,.str ⟨#[ov]⟩])=G9 at kk9 kp hl9
    obtain ⟨lc,hlc,lcm⟩:=oneV_at (cs:=[ch,sv,ov]) (i:=kind) hkind.1 (by show kind < 3;omega)
    have lcl:Lw lc:=by
      simp only [List.mem_cons,List.not_mem_nil,or_false] at lcm
      rcases lcm with rfl | rfl | rfl
      · exact chl
      · exact lowc _ svm
      · exact ovl
    have happ:mk ls++(⟨#[lc]⟩:Str)=mk (ls++[lc]):=by
      apply str_ext;rw [app_list];rfl
    refine ⟨_,rfl,_,rfl,_,rfl,l2',_,_,_,rfl,rfl,SqL.of hl9,hlc,_,_,rfl,rfl,?_,us++[pl],ls++[lc],_,_,_,_,_,_,rfl,happ,kk9.mono (by omega),kp _ _ hb8',kp _ _ hc8,kp _ _ hs8,kp _ _ hu8,by rw [List.length_append,hlen];rfl,by rw [List.length_append,hls];rfl,?_,low_app low lcl⟩
    · rw [mk_len]
      have:(⟨#[lc]⟩:Str).length=1:=rfl
      rw [this]
      exact Nat.le_of_lt (small1000 (by omega))
    · right
      rcases gr with z | z
      · subst z
        have i0:i=0:=by simpa using hlen.symm
        rw [pz i0]
        exact GrOk.one
      · have ip:0 < i:=by rw [← hlen];exact z.pos
        have:=pp ip
        exact z.snoc this.1 (by omega) ⟨n0,by rw [← hn0];congr 1;omega⟩
  · rintro σ H' ⟨us,ls,tx,o13,o14,o15,o16,o17,rfl,rfl,kd,hb,hc,hs,hu,hlen,hls,gr,low⟩
    have gr':GrOk us:=by
      rcases gr with z | z
      · rw [z] at hlen;simp at hlen;omega
      · exact z
    refine ⟨_,rfl,u,_,rfl,.inl ⟨SqL.of hu,fun r7 hr7=>?_⟩⟩
    refine ⟨_,rfl,(by show 2≤sizeLine;decide),fun t ht=>?_⟩
    refine q t us (mk ls) _ (((kd.new hr7).new ht).mono (by omega)) ⟨r7,upd_same,?_,gr_tree gr' (by omega) (by omega)⟩ ⟨low,gr'.road⟩
    rw [upd_ne (ne_of_none upd_same ht)];exact upd_same
end
end S01
namespace S01
open PySem L2 W7
structure Blt7 (mg:Str→Option Value):Prop extends Blt mg where
  repr:mg "repr" = none
  all:mg "all" = none
  most:∃ u,mg "MOST_PLACES" = some u∧RelV (.int 60) u
  letters:∃ u,mg "LETTERS" = some u∧RelV (.str "abcdefghijklmnopqrstuvwxyz") u
section
variable {P:Program} {w:World} {K:PySem.W.Frag} {mg:Str→Option Value} {base:Heap} {k:Nat}
def sp_cells (K:PySem.W.Frag):Sp:=fun vs H Q _=>∃ (a:Addr) (ns:List Int) (m:Nat),vs=[.ref a,.int (m:Int)]∧SqL K H a (ns.map V.int)∧ns.length≤63∧m≤63 ∧
  ∀ (cs:List Int) (r:Addr) (H':Hp),cs.length≤64→Same H H'→H r=none→H' r=some (.lst (cs.map V.int))→Q (.ref r) H'
theorem has_cells (D:Df K mg "_law_cells" s_law_cells) (B:Blt7 mg):Has P w K mg base "_law_cells" (k+1) ["script", "many"] (sp_cells K):=by
  refine D.has sc_law_cells (fun _ _ _ _ _ _ us hl=>match us,hl with | [_,_],_=>rfl) (fun vs H Q E h=>by obtain ⟨a,ns,m,rfl,_⟩:=h;rfl) (fun f cdv A outer s H vs Q E hr h=>?_)
  obtain ⟨a,ns,m,rfl,hS,h63,m63,q⟩:=h
  refine ⟨_,(pss_one (ps_ret (pe_op op_cat (pe_slice sl_list (pv 0) po_none (po_some (pv 1))) (pe_op op_rep (pe_lst (pa_cons pe_int pa_nil)) (pe_callTy call_int1 rfl B.int_ bt_int (pa_cons (pe_cmpR (op_eq_lst hr.units0) (pv 0) (pe_lst pa_nil) (nomark _)) pa_nil)))))),?_⟩
  refine ⟨_,rfl,_,rfl,_,rfl,a,_,rfl,hS,fun p hp=>?_⟩
  have s1:Same H (upd H p (.lst (cutV (ns.map V.int) none (some (m:Int))))):=(Same.refl H).new hp
  have h1:upd H p (.lst (cutV (ns.map V.int) none (some (m:Int)))) p=some (.lst (cutV (ns.map V.int) none (some (m:Int)))):=upd_same
  generalize upd H p (.lst (cutV (ns.map V.int) none (some (m:Int))))=H1 at s1 h1
  refine ⟨(by show 1≤sizeLine;decide),fun z hz=>?_⟩
  have s2:Same H1 (upd H1 z (.lst [.int 0])):=(Same.refl H1).new hz
  have h2:upd H1 z (.lst [.int 0]) z=some (.lst [.int 0]):=upd_same
  generalize upd H1 z (.lst [.int 0])=H2 at s2 h2
  refine ⟨_,rfl,(by show 0≤sizeLine;decide),fun e he=>?_⟩
  have s3:Same H2 (upd H2 e (.lst [])):=(Same.refl H2).new he
  have h3:upd H2 e (.lst []) e=some (.lst []):=upd_same
  generalize upd H2 e (.lst [])=H3 at s3 h3
  refine ⟨a,e,_,_,rfl,rfl,SqL.keepS hS ((s1.trans s2).trans s3),SqL.of h3,flat_ints _,rfl,?_⟩
  generalize eqVs (ns.map V.int) []=bb
  refine .inr ⟨bb,rfl,z,_,_,rfl,rfl,s3 _ _ h2,?_,?_,?_,fun r2 hr2=>?_⟩
  · cases bb <;> decide
  · cases bb <;> decide
  · cases bb <;> decide
  have s4:Same H3 (upd H3 r2 (.lst (List.replicate (if bb=true then (1:Int) else 0).toNat [V.int 0]).flatten)):=(Same.refl H3).new hr2
  have e0:(List.replicate (if bb=true then (1:Int) else 0).toNat [V.int 0]).flatten=(List.replicate (if bb=true then 1 else 0) (0:Int)).map V.int:=by cases bb <;> rfl
  rw [e0] at s4 ⊢
  have h4:upd H3 r2 (.lst ((List.replicate (if bb=true then 1 else 0) (0:Int)).map V.int)) r2=some (.lst ((List.replicate (if bb=true then 1 else 0) (0:Int)).map V.int)):=upd_same
  generalize upd H3 r2 (.lst ((List.replicate (if bb=true then 1 else 0) (0:Int)).map V.int))=H4 at s4 h4
  have ec:cutV (ns.map V.int) none (some (m:Int))=(ns.take (HT.sIx (ns.map V.int).length (ns.map V.int).length (some (m:Int)))).map V.int:=by
    unfold cutV
    rw [HT.sIx_none,List.drop_zero,Nat.sub_zero,List.map_take]
  have lb:(if bb=true then 1 else 0:Nat)≤1:=by cases bb <;> decide
  have lt1:(ns.take (HT.sIx (ns.map V.int).length (ns.map V.int).length (some (m:Int)))).length≤63:=by rw [List.length_take];omega
  refine ⟨p,r2,_,_,rfl,rfl,s4 _ _ (s3 _ _ (s2 _ _ h1)),h4,?_,fun r3 hr3=>q (ns.take (HT.sIx (ns.map V.int).length (ns.map V.int).length (some (m:Int)))++List.replicate (if bb=true then 1 else 0) 0) r3 _ ?_ ?_ ?_ ?_⟩
  · rw [ec]
    simp only [List.length_map,List.length_replicate] at lt1 ⊢
    exact Nat.le_of_lt (small1000 (by omega))
  · rw [List.length_append,List.length_replicate];omega
  · exact (((s1.trans s2).trans s3).trans s4).trans ((Same.refl H4).new hr3)
  · exact (((s1.trans s2).trans s3).trans s4).free hr3
  · rw [upd_same,ec,List.map_append]
end
end S01
namespace W7
def chf (ups:List Int):Nat→Nat→List Int
  | 0,_=>[]
  | f+1,k=>if ups.getD k 0 < 0 then [] else ups.getD k 0 :: chf ups f (ups.getD k 0).toNat
theorem chf_fuel {ups:List Int} {lab:List Nat} (t:TreeOk ups lab):∀ (f g k:Nat),k < ups.length→k < f→k < g→chf ups f k=chf ups g k
  | 0,_,_,_,h,_=>absurd h (Nat.not_lt_zero _)
  | _+1,0,_,_,_,h=>absurd h (Nat.not_lt_zero _)
  | f+1,g+1,k,hk,hf,hg=>by
    simp only [chf]
    split
    · rfl
    · rename_i h0
      have:=t.lt hk h0
      congr 1
      exact chf_fuel t f g _ (by omega) (by omega) (by omega)
def chn (ups:List Int) (k:Nat):List Int:=chf ups (k+1) k
theorem chn_eq {ups:List Int} {lab:List Nat} (t:TreeOk ups lab) {k:Nat} (hk:k < ups.length):chn ups k=if ups.getD k 0 < 0 then [] else ups.getD k 0 :: chn ups (ups.getD k 0).toNat:=by
  unfold chn
  rw [chf]
  split
  · rfl
  · rename_i h0
    have:=t.lt hk h0
    congr 1
    exact chf_fuel t _ _ _ (by omega) (by omega) (by omega)
def rst (ups:List Int) (k:Int):List Int:=if k < 0 then [] else k :: chn ups k.toNat
theorem chn_rst {ups:List Int} {lab:List Nat} (t:TreeOk ups lab) {k:Nat} (hk:k < ups.length):chn ups k=rst ups (ups.getD k 0):=by
  rw [chn_eq t hk];rfl
theorem rst_step {ups:List Int} {lab:List Nat} (t:TreeOk ups lab) {k:Int} (h0:0≤k) (hk:k < (ups.length:Int)):rst ups k=k :: rst ups (ups.getD k.toNat 0):=by
  have:=chn_rst t (k:=k.toNat) (by omega)
  unfold rst
  rw [if_neg (by omega),this]
  rfl
theorem chn_mem {ups:List Int} {lab:List Nat} (t:TreeOk ups lab):∀ (n k:Nat),k < n→k < ups.length→(chn ups k).length≤k∧∀ v∈chn ups k,0≤v∧v < (k:Int)
  | 0,_,h,_=>absurd h (Nat.not_lt_zero _)
  | n+1,k,hn,hk=>by
    rw [chn_eq t hk]
    split
    · exact ⟨Nat.zero_le _,fun v hv=>nomatch hv⟩
    · rename_i h0
      have lt:=t.lt hk h0
      obtain ⟨i1,i2⟩:=chn_mem t n (ups.getD k 0).toNat (by omega) (by omega)
      refine ⟨by rw [List.length_cons];omega,fun v hv=>?_⟩
      rcases List.mem_cons.mp hv with e | e
      · omega
      · have:=i2 v e;omega
end W7
namespace W03
structure Pre (n:Nat) (c:Nat→List Nat):Prop where
  root:c 0=[]
  step:∀ k,0 < k→k < n→c k=(k - 1) :: c (k - 1)∨∃ m,c k=(c (k - 1)).drop m
  ne:∀ k,0 < k→k < n→c k≠[]
  self:∀ k,k < n→∀ v r,c k=v :: r→v < k∧r=c v
section
variable {n:Nat} {c:Nat→List Nat} {l:Nat→Nat}
theorem mem_split (p:Pre n c):∀ (f j:Nat),j < f→j < n→∀ v∈c j,∃ q,c j=q++v :: c v
  | 0,j,h,_,_,_=>absurd h (Nat.not_lt_zero _)
  | f+1,j,h,hj,v,hv=>by
    cases e:c j with
    | nil=>rw [e] at hv;cases hv
    | cons u r=>
      obtain ⟨lt,rfl⟩:=p.self j hj u r e
      rw [e] at hv
      rcases List.mem_cons.mp hv with rfl | hv
      · exact ⟨[],rfl⟩
      · obtain ⟨q,eq⟩:=mem_split p f u (by omega) (by omega) v hv
        exact ⟨u :: q,by rw [eq];rfl⟩
theorem mem_lt (p:Pre n c):∀ (f j:Nat),j < f→j < n→∀ v∈c j,v < j
  | 0,j,h,_,_,_=>absurd h (Nat.not_lt_zero _)
  | f+1,j,h,hj,v,hv=>by
    cases e:c j with
    | nil=>rw [e] at hv;cases hv
    | cons u r=>
      obtain ⟨lt,rfl⟩:=p.self j hj u r e
      rw [e] at hv
      rcases List.mem_cons.mp hv with rfl | hv
      · exact lt
      · have:=mem_lt p f u (by omega) (by omega) v hv
        omega
theorem below (p:Pre n c) {e:Nat} (he:e < n):∀ j,e < j→j < n→(∀ i,e < i→i≤j→(c e).length < (c i).length)→∃ q,c j=q++e :: c e:=by
  intro j
  induction j with
  | zero=>intro h;omega
  | succ j ih=>
    intro h1 h2 h3
    have d1:=h3 (j+1) h1 (Nat.le_refl _)
    rcases Nat.lt_or_ge e j with g | g
    · obtain ⟨q,eq⟩:=ih g (by omega) fun i a b=>h3 i a (by omega)
      rcases p.step (j+1) (by omega) h2 with s | ⟨m,s⟩
      · rw [Nat.add_sub_cancel] at s
        exact ⟨j :: q,by rw [s,eq];rfl⟩
      · rw [Nat.add_sub_cancel,eq] at s
        rw [s,List.length_drop,List.length_append,List.length_cons] at d1
        refine ⟨q.drop m,?_⟩
        rw [s,List.drop_append_of_le_length (by omega)]
    · have:e=j:=by omega
      subst this
      rcases p.step (e+1) (by omega) h2 with s | ⟨m,s⟩
      · rw [Nat.add_sub_cancel] at s
        exact ⟨[],s⟩
      · rw [Nat.add_sub_cancel] at s
        rw [s,List.length_drop] at d1
        omega
theorem beyond (p:Pre n c) {k e:Nat} (hk:k < e) (he:e < n) (hd:(c e).length≤(c k).length):∀ j,e≤j→j < n→k ∉ c j:=by
  intro j
  induction j with
  | zero=>intro h;omega
  | succ j ih=>
    intro h1 h2 hm
    rcases Nat.lt_or_ge e (j+1) with g | g
    · have no:=ih (by omega) (by omega)
      rcases p.step (j+1) (by omega) h2 with s | ⟨m,s⟩
      · rw [Nat.add_sub_cancel] at s
        rw [s] at hm
        rcases List.mem_cons.mp hm with z | z
        · omega
        · exact no z
      · rw [Nat.add_sub_cancel] at s
        rw [s] at hm
        exact no (List.mem_of_mem_drop hm)
    · have:e=j+1:=by omega
      subst this
      obtain ⟨q,eq⟩:=mem_split p (j+2) (j+1) (by omega) h2 k hm
      rw [eq,List.length_append,List.length_cons] at hd
      omega
theorem fm_congr {f g:Nat→List Nat}:∀ l:List Nat,(∀ x∈l,f x=g x)→l.flatMap f=l.flatMap g
  | [],_=>rfl
  | x :: l,h=>by rw [List.flatMap_cons,List.flatMap_cons,h x List.mem_cons_self,fm_congr l fun y hy=>h y (List.mem_cons_of_mem _ hy)]
def up (c:Nat→List Nat) (j:Nat):Option Nat:=(c j).head?
def kidsF (n:Nat) (c:Nat→List Nat) (k j:Nat):List Nat:=(List.range' j (n - j)).filter fun i=>decide (up c i=some k)
theorem kids_no {k j e:Nat} (hje:j≤e) (he:e≤n) (h:∀ i,j≤i→i < e→up c i≠some k):kidsF n c k j=kidsF n c k e:=by
  unfold kidsF
  have ej:n - j=(e - j)+(n - e):=by omega
  rw [ej,← List.range'_append_1,List.filter_append,show j+(e - j)=e by omega]
  have:(List.range' j (e - j)).filter (fun i=>decide (up c i=some k))=[]:=by
    rw [List.filter_eq_nil_iff]
    intro i hi
    have:=List.mem_range'_1.mp hi
    simpa using h i this.1 (by omega)
  rw [this,List.nil_append]
theorem kids_one {k j:Nat} (hj:j < n) (h:up c j=some k):kidsF n c k j=j :: kidsF n c k (j+1):=by
  unfold kidsF
  rw [show n - j=(n - (j+1))+1 by omega,List.range'_succ,List.filter_cons,if_pos (decide_eq_true h)]
theorem kids_end (k:Nat):kidsF n c k n=[]:=by
  unfold kidsF;rw [Nat.sub_self];rfl
def wrap (u:List Nat):List Nat:=if u=[] then [] else 40 :: u++[41]
def F (n:Nat) (c:Nat→List Nat) (l:Nat→Nat):Nat→Nat→List Nat
  | 0,_=>[]
  | f+1,k=>l k :: wrap ((kidsF n c k (k+1)).flatMap (F n c l f))
theorem F_fuel:∀ (f g k:Nat),k < n→n - k≤f→n - k≤g→F n c l f k=F n c l g k
  | 0,g,k,h,h1,_=>by omega
  | f+1,0,k,h,_,h2=>by omega
  | f+1,g+1,k,h,h1,h2=>by
    show l k :: wrap _=l k :: wrap _
    congr 2
    have:∀ i∈kidsF n c k (k+1),F n c l f i=F n c l g i:=fun i hi=>by
      have:=List.mem_range'_1.mp (List.mem_filter.mp hi).1
      exact F_fuel f g i (by omega) (by omega) (by omega)
    exact fm_congr _ this
def Ft (n:Nat) (c:Nat→List Nat) (l:Nat→Nat) (k:Nat):List Nat:=F n c l (n - k) k
theorem Ft_eq {k:Nat} (hk:k < n):Ft n c l k=l k :: wrap ((kidsF n c k (k+1)).flatMap (Ft n c l)):=by
  unfold Ft
  rw [show n - k=(n - k - 1)+1 by omega]
  show l k :: wrap _=l k :: wrap _
  congr 2
  refine fm_congr _ fun i hi=>?_
  have:=List.mem_range'_1.mp (List.mem_filter.mp hi).1
  exact F_fuel _ _ i (by omega) (by omega) (by omega)
def br (a b:Nat):List Nat:=if b > a then [40] else List.replicate (a - b) 41
def S (n:Nat) (c:Nat→List Nat) (l:Nat→Nat):Nat→List Nat
  | 0=>[]
  | r+1=>l (n - (r+1)) :: (if 0 < r then br (c (n - (r+1))).length (c (n - r)).length++S n c l r else List.replicate (c (n - (r+1))).length 41)
def Sfx (n:Nat) (c:Nat→List Nat) (l:Nat→Nat) (k:Nat):List Nat:=S n c l (n - k)
theorem Sfx_eq {k:Nat} (hk:k < n):Sfx n c l k=l k :: (if k+1 < n then br (c k).length (c (k+1)).length++Sfx n c l (k+1) else List.replicate (c k).length 41):=by
  unfold Sfx
  have e:n - k=(n - (k+1))+1:=by omega
  rw [e]
  show l (n - (n - (k+1)+1)) :: _=_
  rw [← e,show n - (n - k)=k by omega,show n - (n - (k+1))=k+1 by omega]
  by_cases h:k+1 < n
  · rw [if_pos h,if_pos (by omega)]
  · rw [if_neg h,if_neg (by omega)]
def Rest (n:Nat) (c:Nat→List Nat) (l:Nat→Nat) (e x:Nat):List Nat:=if e < n then List.replicate (x - (c e).length) 41++Sfx n c l e else List.replicate x 41
theorem Ft_ne {k:Nat} (hk:k < n):Ft n c l k≠[]:=by rw [Ft_eq hk];simp
theorem up_lt (p:Pre n c) {i k:Nat} (hi:i < n) (h:up c i=some k):c i=k :: c k:=by
  unfold up at h
  cases e:c i with
  | nil=>rw [e] at h;cases h
  | cons u r=>
    rw [e] at h
    cases h
    rw [(p.self i hi _ r e).2]
theorem kidsL (p:Pre n c) {k:Nat} (hk:k < n) (ih:∀ j,k < j→j < n→∃ e,j < e∧e≤n∧(∀ i,j < i→i < e→(c j).length < (c i).length)∧(e=n∨(c e).length≤(c j).length)∧Sfx n c l j=Ft n c l j++Rest n c l e (c j).length) :
    ∀ (f j:Nat),n - j≤f→k < j→j < n→up c j=some k→∃ e,j < e∧e≤n∧(∀ i,j≤i→i < e→(c k).length < (c i).length)∧(e=n∨(c e).length≤(c k).length)∧Sfx n c l j=(kidsF n c k j).flatMap (Ft n c l)++41 :: Rest n c l e (c k).length
  | 0,j,h,_,hj,_=>by omega
  | f+1,j,h,hkj,hj,hu=>by
    obtain ⟨e1,a1,a2,a3,a4,a5⟩:=ih j hkj hj
    have cj:=up_lt p hj hu
    have dj:(c j).length=(c k).length+1:=by rw [cj];rfl
    have noK:∀ i,j+1≤i→i < e1→up c i≠some k:=fun i h1 h2 hk'=>by
      have ci:=up_lt p (by omega) hk'
      obtain ⟨q,eq⟩:=below p hj i (by omega) (by omega) fun i' b1 b2=>a3 i' b1 (by omega)
      rw [ci] at eq
      cases q with
      | nil=>injection eq with e' _;omega
      | cons u q=>
        injection eq with _ e'
        have:j∈c k:=by rw [e'];simp
        have:=mem_lt p (k+1) k (by omega) hk j this
        omega
    have kd:kidsF n c k j=j :: kidsF n c k e1:=by rw [kids_one hj hu,kids_no (by omega) a2 noK]
    rw [dj] at a5
    rcases Nat.lt_or_ge e1 n with g | g
    · have de:=a4.resolve_left (by omega)
      rcases Nat.lt_or_ge (c k).length (c e1).length with g2 | g2
      · have d1:(c e1).length=(c j).length:=by omega
        have ce:c e1=c j:=by
          obtain ⟨q,eq⟩:∃ q,c (e1 - 1)=q++c j:=by
            rcases Nat.lt_or_ge j (e1 - 1) with w | w
            · obtain ⟨q,eq⟩:=below p hj (e1 - 1) w (by omega) fun i b1 b2=>a3 i b1 (by omega)
              exact ⟨q++[j],by rw [eq];simp⟩
            · exact ⟨[],by rw [show e1 - 1=j by omega];rfl⟩
          rcases p.step e1 (by omega) g with s | ⟨m,s⟩
          · rw [s,List.length_cons,eq,List.length_append] at d1
            omega
          · rw [eq] at s
            have dl:=d1
            rw [s,List.length_drop,List.length_append] at dl
            rw [s,List.drop_append_of_le_length (by omega),List.drop_eq_nil_of_le (by omega),List.nil_append]
        have ue:up c e1=some k:=by unfold up;rw [ce];exact hu
        obtain ⟨e,b1,b2,b3,b4,b5⟩:=kidsL p hk ih f e1 (by omega) (by omega) g ue
        refine ⟨e,by omega,b2,fun i h1 h2=>?_,b4,?_⟩
        · rcases Nat.lt_or_ge i e1 with w | w
          · rcases Nat.lt_or_ge j i with w2 | w2
            · have:=a3 i w2 w;omega
            · have:i=j:=by omega
              subst this;omega
          · exact b3 i w h2
        · rw [a5,kd,List.flatMap_cons,List.append_assoc]
          congr 1
          unfold Rest
          rw [if_pos g,show (c k).length+1 - (c e1).length=0 by omega]
          show Sfx n c l e1=_
          rw [b5];rfl
      · refine ⟨e1,a1,a2,fun i h1 h2=>?_,.inr g2,?_⟩
        · rcases Nat.lt_or_ge j i with w2 | w2
          · have:=a3 i w2 h2;omega
          · have:i=j:=by omega
            subst this;omega
        · have no:kidsF n c k e1=[]:=by
            rw [kids_no (e:=n) a2 (Nat.le_refl _) fun i h1 h2 hk'=>beyond p (by omega) g g2 i h1 h2 (by rw [up_lt p h2 hk'];exact List.mem_cons_self),kids_end]
          rw [a5,kd,no,List.flatMap_cons,List.flatMap_nil,List.append_nil]
          congr 1
          unfold Rest
          rw [if_pos g,if_pos g,show (c k).length+1 - (c e1).length=((c k).length - (c e1).length)+1 by omega,List.replicate_succ]
          rfl
    · have:e1=n:=by omega
      subst this
      refine ⟨e1,a1,a2,fun i h1 h2=>?_,.inl rfl,?_⟩
      · rcases Nat.lt_or_ge j i with w2 | w2
        · have:=a3 i w2 h2;omega
        · have:i=j:=by omega
          subst this;omega
      · rw [a5,kd,kids_end,List.flatMap_cons,List.flatMap_nil,List.append_nil]
        congr 1
        unfold Rest
        rw [if_neg (Nat.lt_irrefl _),if_neg (Nat.lt_irrefl _),List.replicate_succ]
theorem main (p:Pre n c):∀ (f k:Nat),n - k≤f→k < n→∃ e,k < e∧e≤n∧(∀ i,k < i→i < e→(c k).length < (c i).length)∧(e=n∨(c e).length≤(c k).length)∧Sfx n c l k=Ft n c l k++Rest n c l e (c k).length
  | 0,k,h,hk=>by omega
  | f+1,k,h,hk=>by
    have ih:∀ j,k < j→j < n→_:=fun j h1 h2=>main p f j (by omega) h2
    rw [Sfx_eq hk]
    by_cases h1:k+1 < n
    · rw [if_pos h1]
      rcases Nat.lt_or_ge (c k).length (c (k+1)).length with g | g
      · have ck:c (k+1)=k :: c k:=by
          rcases p.step (k+1) (by omega) h1 with s | ⟨m,s⟩
          · rw [Nat.add_sub_cancel] at s;exact s
          · rw [Nat.add_sub_cancel] at s
            rw [s,List.length_drop] at g
            omega
        have uk:up c (k+1)=some k:=by unfold up;rw [ck];rfl
        obtain ⟨e,b1,b2,b3,b4,b5⟩:=kidsL p hk ih (n - (k+1)) (k+1) (Nat.le_refl _) (by omega) h1 uk
        refine ⟨e,by omega,b2,fun i x1 x2=>b3 i (by omega) x2,b4,?_⟩
        rw [Ft_eq hk]
        have ne:(kidsF n c k (k+1)).flatMap (Ft n c l)≠[]:=by
          rw [kids_one h1 uk,List.flatMap_cons]
          intro z
          exact Ft_ne h1 (List.append_eq_nil_iff.mp z).1
        unfold wrap br
        rw [if_neg ne,if_pos g,b5]
        simp
      · refine ⟨k+1,by omega,by omega,fun i x1 x2=>by omega,.inr g,?_⟩
        have no:kidsF n c k (k+1)=[]:=by
          rw [kids_no (e:=n) (by omega) (Nat.le_refl _) fun i x1 x2 hk'=>beyond p (by omega) h1 g i x1 x2 (by rw [up_lt p x2 hk'];exact List.mem_cons_self),kids_end]
        rw [Ft_eq hk,no,List.flatMap_nil]
        unfold wrap br Rest
        rw [if_pos rfl,if_neg (by omega),if_pos h1]
        rfl
    · rw [if_neg h1]
      refine ⟨n,hk,Nat.le_refl _,fun i x1 x2=>by omega,.inl rfl,?_⟩
      have no:kidsF n c k (k+1)=[]:=by rw [show k+1=n by omega,kids_end]
      rw [Ft_eq hk,no,List.flatMap_nil]
      unfold wrap Rest
      rw [if_pos rfl,if_neg (Nat.lt_irrefl _)]
      rfl
end
end W03
namespace L2
section
variable {NL:List PySem.Str} {ix:List Nat} {g:TG} {tt:TT} {te:TE} {σ:St} {H1:Hp} {Qs:Hp→Prop} {acc:PySem.Addr}
theorem comp_tupl {K:PySem.W.Frag} {a:PySem.Addr} {xs:List V} (hn:xs.length < 1000) (Pv:Nat→List V→Hp→Prop)
    (hl:∀ i ys H2,Pv i ys H2→SqT K H2 a xs) (hacc:∀ i ys H2,Pv i ys H2→H2 acc=some (.lst ys)∧ys.length≤i) (h0:Pv 0 [] (upd H1 acc (.lst []))) (hstop:∀ ys H2,Pv xs.length ys H2→Qs H2)
    (hturn:∀ i x ys H2,xs[i]?=some x→Pv i ys H2→g x (comp0 NL ix σ) H2 fun σ' H4=>σ'.drop NL.length=ix.map (fun j=>σ.getD j none)∧tt σ' H4 fun b H5=>
      if b=true then te σ' H5 fun v H6=>H6 acc=some (.lst ys)∧Pv (i+1) (ys++[v]) (upd H6 acc (.lst (ys++[v]))) else Pv (i+1) ys H5) :
    ∃ W:Nat→Nat→List V→Hp→Prop,(∃ m,W 0 m [] (upd H1 acc (.lst []))) ∧
    ∀ i m ys H2,W i m ys H2→H2 acc=some (.lst ys)∧ys.length < PySem.sizeLine ∧
      (((Itt K a).stop i H2∧Qs H2)∨((Itt K a).go i H2∧∃ N:List V→Hp→Prop,(∀ ys' H',N ys' H'→∃ m',m' < m∧W (i+1) m' ys' H') ∧
        ∀ x H3,(Itt K a).yld i H2 x H3→g x (comp0 NL ix σ) H3 fun σ' H4=>σ'.drop NL.length=ix.map (fun j=>σ.getD j none)∧tt σ' H4 fun b H5=>
          if b=true then te σ' H5 fun v H6=>H6 acc=some (.lst ys)∧N (ys++[v]) (upd H6 acc (.lst (ys++[v]))) else N ys H5)):=by
  refine comp_by xs.length hn Pv hacc h0 (fun ys H2 hp=>⟨⟨xs,hl _ _ _ hp,Nat.le_refl _⟩,hstop ys H2 hp⟩) fun i ys H2 hi hp=>?_
  have hs:=hl _ _ _ hp
  refine ⟨⟨xs,xs[i],hs,List.getElem?_eq_getElem hi⟩,?_⟩
  rintro x H3 ⟨rfl,hx⟩
  exact hturn i x ys H3 (hx xs hs) hp
end
end L2
namespace S01.R
open PySem L2 W7
abbrev natV (l:List Nat):List V:=l.map fun i:Nat=>V.int (i:Int)
theorem natV_ints (l:List Nat):natV l=(l.map fun i:Nat=>(i:Int)).map V.int:=by unfold natV;rw [List.map_map];rfl
theorem bt_all:bootBuiltins "all" = some (.builtin "all"):=by decide +kernel
theorem iteB {c:Bool} {A B:Prop} (h:c=true) (q:A):if c=true then A else B:=by rw [if_pos h];exact q
theorem iteN {c:Bool} {A B:Prop} (h:c=false) (q:B):if c=true then A else B:=by rw [h];exact iteF q
section
variable {P:Program} {w:World} {K:PySem.W.Frag} {mg:Str→Option Value} {base:Heap} {k:Nat}
def stepUp (us:List Int) (p:Int):Int:=if us.getD p.toNat 0 > 0 then us.getD p.toNat 0 else 0
def climb (us:List Int):Nat→Int→Int
  | 0,p=>p
  | n+1,p=>stepUp us (climb us n p)
structure GrOk (us:List Int):Prop where
  road:∀ k,0 < k→k < us.length→∃ n,climb us n ((k:Int) - 1)=us.getD k 0
  pos:0 < us.length
  root:us.getD 0 0=-1
  up:∀ k,0 < k→k < us.length→0≤us.getD k 0∧us.getD k 0 < (k:Int)
theorem getD_app {us vs:List Int} {j:Nat}:(us++vs).getD j 0=if j < us.length then us.getD j 0 else vs.getD (j - us.length) 0:=by
  simp only [List.getD_eq_getElem?_getD]
  split
  · rename_i h;rw [List.getElem?_append_left h]
  · rename_i h;rw [List.getElem?_append_right (by omega)]
theorem GrOk.climb {us:List Int} (g:GrOk us) (v:Int) {p:Int} (h0:0≤p) (h1:p < (us.length:Int)):∀ n,climb (us++[v]) n p=climb us n p∧0≤climb us n p∧climb us n p < (us.length:Int)
  | 0=>⟨rfl,h0,h1⟩
  | n+1=>by
    obtain ⟨a,b,c⟩:=g.climb v h0 h1 n
    have lt:(S01.R.climb us n p).toNat < us.length:=by omega
    have e:(us++[v]).getD (S01.R.climb us n p).toNat 0=us.getD (S01.R.climb us n p).toNat 0:=by rw [getD_app,if_pos lt]
    refine ⟨?_,?_⟩
    · show stepUp (us++[v]) (S01.R.climb (us++[v]) n p)=stepUp us (S01.R.climb us n p)
      rw [a];unfold stepUp;rw [e]
    · show 0≤stepUp us (S01.R.climb us n p)∧stepUp us (S01.R.climb us n p) < (us.length:Int)
      have pos:=g.pos
      unfold stepUp
      rcases Nat.eq_zero_or_pos (S01.R.climb us n p).toNat with z | z
      · rw [z,g.root];exact ⟨by decide,by show (0:Int) < _;omega⟩
      · have:=g.up _ z lt
        split <;> omega
theorem GrOk.snoc {us:List Int} (g:GrOk us) {v:Int} (h0:0≤v) (h1:v < (us.length:Int)) (hr:∃ n,S01.R.climb us n ((us.length:Int) - 1)=v):GrOk (us++[v]) where
  road:=fun j hj hl=>by
    rw [List.length_append,List.length_singleton] at hl
    rw [getD_app]
    have pos:=g.pos
    split
    · rename_i h
      obtain ⟨n,e⟩:=g.road j hj h
      exact ⟨n,((g.climb v (by omega) (by omega) n).1).trans e⟩
    · rename_i h
      have e:j=us.length:=by omega
      subst e
      obtain ⟨n,e⟩:=hr
      rw [Nat.sub_self]
      exact ⟨n,((g.climb v (by omega) (by omega) n).1).trans e⟩
  pos:=by rw [List.length_append];have:=g.pos;omega
  root:=by rw [getD_app,if_pos g.pos];exact g.root
  up:=fun j hj hl=>by
    rw [List.length_append,List.length_singleton] at hl
    rw [getD_app]
    split
    · rename_i h;exact g.up j hj h
    · rename_i h
      have e:j=us.length:=by omega
      subst e
      rw [Nat.sub_self]
      exact ⟨h0,h1⟩
theorem GrOk.one:GrOk [-1]:=⟨fun j h0 h1=>by
  have:j < 1:=h1
  omega,by decide,rfl,fun j h0 h1=>by
  have:j < 1:=h1
  omega⟩
theorem gr_tree {us:List Int} {ls:List Nat} (g:GrOk us) (hl:us.length=ls.length) (h60:us.length≤60):TreeOk us (mk ls).cps.toList:=⟨by rw [mk_cps];exact hl,g.pos,h60,g.root,g.up⟩
structure Fine (ups:List Int) (lab:Str):Prop where
  low:∀ c∈lab.cps.toList,Lw c
  road:∀ k,0 < k→k < ups.length→∃ n,climb ups n ((k:Int) - 1)=ups.getD k 0
def Gr0 (us:List Int):Prop:=us=[]∨GrOk us
theorem low_app {cs:List Nat} {c:Nat} (h:∀ x∈cs,Lw x) (hc:Lw c):∀ x∈cs++[c],Lw x:=fun x hx=>by
  rcases List.mem_append.mp hx with z | z
  · exact h x z
  · obtain rfl:=List.mem_singleton.mp z;exact hc
end
section
variable {ups:List Int} {lab:List Nat}
theorem chn_trans (t:TreeOk ups lab):∀ (n k:Nat),k < n→k < ups.length→∀ v∈chn ups k,∀ w∈chn ups v.toNat,w∈chn ups k
  | 0,_,h,_,_,_,_,_=>absurd h (Nat.not_lt_zero _)
  | n+1,k,hn,hk,v,hv,w,hw=>by
    rw [chn_eq t hk] at hv ⊢
    split at hv
    · cases hv
    · rename_i h0
      rw [if_neg h0]
      have lt:=t.lt hk h0
      rcases List.mem_cons.mp hv with e | e
      · rw [e] at hw;exact List.mem_cons_of_mem _ hw
      · exact List.mem_cons_of_mem _ (chn_trans t n _ (by omega) (by omega) v e w hw)
theorem road_mem (t:TreeOk ups lab) {k:Nat} (hk:k < ups.length):∀ n,climb ups n (k:Int)=(k:Int)∨climb ups n (k:Int)∈chn ups k
  | 0=>.inl rfl
  | n+1=>by
    have step:∀ c:Nat,c < ups.length→stepUp ups (c:Int)=(c:Int)∨stepUp ups (c:Int)∈chn ups c:=fun c hc=>by
      rcases Nat.eq_zero_or_pos c with z | z
      · left;subst z;unfold stepUp;show (if ups.getD 0 0 > 0 then ups.getD 0 0 else 0)=0;rw [t.root];rfl
      · right
        have u:=t.up c z hc
        rw [chn_eq t hc,if_neg (by omega)]
        have e:stepUp ups (c:Int)=ups.getD c 0:=by
          unfold stepUp;rw [Int.toNat_natCast];split <;> omega
        rw [e];exact List.mem_cons_self ..
    show stepUp ups (climb ups n (k:Int))=_∨stepUp ups (climb ups n (k:Int))∈_
    rcases road_mem t hk n with a | a
    · rw [a];exact step k hk
    · have b:=(chn_mem t (k+1) k (by omega) hk).2 _ a
      have e:climb ups n (k:Int)=((climb ups n (k:Int)).toNat:Int):=by omega
      rcases step (climb ups n (k:Int)).toNat (by omega) with s | s
      · rw [← e] at s;rw [s];exact .inr a
      · rw [← e] at s;exact .inr (chn_trans t (k+1) k (by omega) hk _ a _ s)
end
section
variable {P:Program} {w:World} {K:PySem.W.Frag} {mg:Str→Option Value} {base:Heap} {k:Nat}
def sp_all:Sp:=fun vs H Q _=>∃ (u:Addr) (ups more:List Int) (lab:List Nat) (i:Int),vs=[.ref u,.int i]∧H u=some (.tup ((ups++more).map V.int))∧TreeOk ups lab∧0≤i∧i < (ups.length:Int) ∧
  ∀ (r:Addr) (H':Hp),Same H H'→H' r=some (.lst ((chn ups i.toNat).map V.int))→Q (.ref r) H'
theorem ints_atM {us more:List Int} {i:Int} (h0:0≤i) (h1:i < (us.length:Int)):atI ((us++more).map V.int) i=some (.int (us.getD i.toNat 0)):=by
  have:=ints_at (us:=us++more) (i:=i) h0 (by rw [List.length_append];omega)
  rw [getD_app,if_pos (by omega)] at this
  exact this
theorem has_all (D:Df K mg "all_above" s_all_above) (B:Blt7 mg):Has P w K mg base "all_above" (k+1) ["ups", "place"] sp_all:=by
  refine D.has sc_all_above (fun _ _ _ _ _ _ us hl=>match us,hl with | [_,_],_=>rfl) (fun vs H Q E h=>by obtain ⟨u,ups,more,lab,i,rfl,_⟩:=h;rfl) (fun f cdv A outer s H vs Q E hr h=>?_)
  obtain ⟨u,ups,more,lab,i,rfl,hu,ok,i0,i1,q⟩:=h
  refine ⟨_,(pss_cons (ps_set (i:=2) sc_all_above.nd rfl (by first | exact Or.inl rfl | exact Or.inr rfl) (pe_lst pa_nil))
  (pss_cons (ps_set (i:=3) sc_all_above.nd rfl (by first | exact Or.inl rfl | exact Or.inr rfl) (pe_ix ix_tup (pv 0) (pv 1) (fun _ _=>rfl)))
  (pss_cons (ps_while PassesOwn.never (pt_cmpR op_ne (pv 3) (pe_un un_neg pe_int) (nomark _))
  (pss_cons (ps_expr (pe_bm PySem.F.plainAttrs_list PySem.F.slot_list_append PySem.F.type_list_append mt_append (pv 2) (pa_cons (pv 3) pa_nil)))
  (pss_one (ps_set (i:=3) sc_all_above.nd rfl (by first | exact Or.inl rfl | exact Or.inr rfl) (pe_ix ix_tup (pv 0) (pv 3) (fun _ _=>rfl))))))
  (pss_one (ps_ret (pv 2)))))),?_⟩
  have m60:=ok.most
  have hup:∀ j:Int,0≤j→j < (ups.length:Int)→ups.getD j.toNat 0 < j∧-1≤ups.getD j.toNat 0:=fun j h0 h1=>by
    rcases Nat.eq_zero_or_pos j.toNat with z | z
    · have:=ok.root
      rw [z];omega
    · have:=ok.up j.toNat z (by omega)
      omega
  refine ⟨(by show 0≤sizeLine;decide),fun r hr0=>?_⟩
  have ne:u≠r:=ne_of_none hu hr0
  have hu':∀ o,upd H r o u=some (.tup ((ups++more).map V.int)):=fun o=>by rw [upd_ne ne];exact hu
  refine ⟨_,rfl,_,rfl,u,_,_,_,rfl,rfl,SqT.of (hu' _),ints_atM i0 i1,?_⟩
  refine ⟨fun m σ H'=>∃ (l:List Int) (up:Int),σ=[some (.ref u),some (.int i),some (.ref r),some (.int up)]∧H'=upd H r (.lst (l.map V.int))∧l++rst ups up=chn ups i.toNat∧m=(up+1).toNat∧up < (ups.length:Int)∧-1≤up∧l.length+(up+1).toNat≤61,
    ⟨_,[],_,rfl,rfl,(by rw [List.nil_append];exact (chn_rst ok (by omega)).symm),rfl,by have:=hup i i0 i1;omega,(hup i i0 i1).2,by have:=hup i i0 i1;rw [List.length_nil];omega⟩,?_⟩
  rintro m σ H' ⟨l,up,rfl,rfl,hl,rfl,u1,u2,u3⟩
  refine ⟨_,rfl,_,rfl,rfl,_,rfl,?_⟩
  by_cases hc:V.int up=V.int (-1)
  · rw [decide_eq_true hc]
    refine iteF ?_
    have e:up=-1:=by injection hc
    subst e
    refine ⟨_,rfl,q r _ ((Same.refl H).new hr0) ?_⟩
    rw [upd_same,← hl]
    have:rst ups (-1)=[]:=by unfold rst;rw [if_pos (by decide)]
    rw [this,List.append_nil]
  · rw [decide_eq_false hc]
    refine iteT ?_
    have e:up≠-1:=fun z=>hc (by rw [z])
    have g:=hup up (by omega) u1
    refine ⟨_,fun σ' H3 h=>h,?_⟩
    refine ⟨_,rfl,.inl ⟨rfl,_,SqL.of upd_same⟩,_,rfl,r,_,_,rfl,rfl,upd_same,by rw [List.length_map];exact small1000 (by omega),?_⟩
    rw [upd_upd]
    refine ⟨_,rfl,_,rfl,u,_,_,_,rfl,rfl,SqT.of (hu' _),ints_atM (by omega) u1,?_⟩
    refine ⟨(ups.getD up.toNat 0+1).toNat,by omega,l++[up],ups.getD up.toNat 0,rfl,by rw [List.map_append];rfl,?_,rfl,by omega,g.2,by rw [List.length_append,List.length_singleton];omega⟩
    rw [List.append_assoc,← hl,rst_step ok (by omega) u1];rfl
end
theorem trues_all (n:Nat):((List.replicate n true).all id)=true:=by induction n with
  | zero=>rfl
  | succ n ih=>rw [List.replicate_succ,List.all_cons,ih];rfl
theorem trues_snoc (n:Nat):(List.replicate n true).map V.bl++[V.bl true]=(List.replicate (n+1) true).map V.bl:=by rw [List.replicate_succ',List.map_append];rfl
section
variable {P:Program} {w:World} {K:PySem.W.Frag} {mg:Str→Option Value} {base:Heap} {k:Nat}
def sp_whole:Sp:=fun vs H Q _=>∃ i:Int,vs=[.int i]∧Q (.bl true) H
theorem has_whole (D:Df K mg "is_whole" s_is_whole) (B:Blt7 mg):Has P w K mg base "is_whole" (k+1) ["thing"] sp_whole:=by
  refine D.has sc_is_whole (fun _ _ _ _ _ _ us hl=>match us,hl with | [_],_=>rfl) (fun vs H Q E h=>by obtain ⟨x,rfl,_⟩:=h;rfl) (fun f cdv A outer s H vs Q E hr h=>?_)
  obtain ⟨i,rfl,q⟩:=h
  refine ⟨_,(pss_one (ps_ret (pe_and (pe_callB call_isinst rfl B.isinstance bt_isinstance (pa_cons (pv 0) (pa_cons (pe_bltn (v:=.ty "int") rfl B.int_ bt_int rfl) pa_nil))) (pe_one (pe_not (pe_callB call_isinst rfl B.isinstance bt_isinstance (pa_cons (pv 0) (pa_cons (pe_bltn (v:=.ty "bool") rfl B.bool_ bt_bool rfl) pa_nil)))))))),?_⟩
  refine ⟨_,rfl,_,.type "int", "int", true,rfl,.int _,kit_same _ _,_,rfl,iteT ?_⟩
  exact ⟨_,rfl,_,.type "int", "bool", false,rfl,.int _,kit_int_bool _,_,rfl,q⟩
theorem climb_app {pre:List Int} (g:GrOk pre) (more:List Int) {p:Int} (h0:0≤p) (h1:p < (pre.length:Int)):∀ n,climb (pre++more) n p=climb pre n p∧0≤climb pre n p∧climb pre n p < (pre.length:Int)
  | 0=>⟨rfl,h0,h1⟩
  | n+1=>by
    obtain ⟨a,b,c⟩:=climb_app g more h0 h1 n
    have lt:(climb pre n p).toNat < pre.length:=by omega
    have e:(pre++more).getD (climb pre n p).toNat 0=pre.getD (climb pre n p).toNat 0:=by rw [getD_app,if_pos lt]
    refine ⟨?_,?_⟩
    · show stepUp (pre++more) (climb (pre++more) n p)=stepUp pre (climb pre n p)
      rw [a];unfold stepUp;rw [e]
    · exact (g.climb 0 h0 h1 (n+1)).2
theorem climb_in (us:List Int):∀ (n:Nat) (p:Int),climb us n (stepUp us p)=stepUp us (climb us n p)
  | 0,_=>rfl
  | n+1,p=>by show stepUp us (climb us n (stepUp us p))=_;rw [climb_in us n p];rfl
theorem chn_climb {ups:List Int} {lab:List Nat} (t:TreeOk ups lab):∀ (f j:Nat),j < f→j < ups.length→∀ v∈chn ups j,∃ n,climb ups n (j:Int)=v
  | 0,j,h,_,_,_=>absurd h (Nat.not_lt_zero _)
  | f+1,j,h,hj,v,hv=>by
    rw [chn_eq t hj] at hv
    split at hv
    · cases hv
    · rename_i h0
      have lt:=t.lt hj h0
      have st:stepUp ups (j:Int)=ups.getD j 0:=by unfold stepUp;rw [Int.toNat_natCast];split <;> omega
      rcases List.mem_cons.mp hv with e | e
      · exact ⟨1,by show stepUp ups (j:Int)=v;rw [st,e]⟩
      · obtain ⟨n,en⟩:=chn_climb t f _ (by omega) (by omega) v e
        refine ⟨n+1,?_⟩
        show stepUp ups (climb ups n (j:Int))=v
        rw [← climb_in,st,← en]
        congr 1
        omega
theorem gr_lab {us:List Int} (g:GrOk us) (h60:us.length≤60):TreeOk us (List.replicate us.length 97):=by
  have:=gr_tree (ls:=List.replicate us.length 97) g (by rw [List.length_replicate]) h60
  exact this
theorem gr_next {pre:List Int} {v:Int} (g:GrOk pre) (h60:pre.length≤60):(v=(pre.length:Int) - 1∨v∈chn pre (pre.length - 1)) ↔ GrOk (pre++[v]):=by
  have pos:=g.pos
  have t:=gr_lab g h60
  constructor
  · rintro (e | e)
    · exact g.snoc (by omega) (by omega) ⟨0,e.symm⟩
    · have m:=(chn_mem t (pre.length - 1+1) (pre.length - 1) (by omega) (by omega)).2 v e
      obtain ⟨n,en⟩:=chn_climb t (pre.length - 1+1) (pre.length - 1) (by omega) (by omega) v e
      exact g.snoc (by omega) (by omega) ⟨n,by rw [← en];congr 1;omega⟩
  · intro g2
    obtain ⟨n,en⟩:=g2.road pre.length pos (by rw [List.length_append];show _ < _+1;omega)
    rw [(climb_app g [v] (by omega) (by omega) n).1,getD_app,if_neg (by omega),Nat.sub_self] at en
    have en:climb pre n ((pre.length:Int) - 1)=v:=en
    rcases road_mem t (k:=pre.length - 1) (by omega) n with m | m
    · left
      rw [show (((pre.length - 1:Nat)):Int)=(pre.length:Int) - 1 by omega,en] at m
      exact m
    · right
      rw [show (((pre.length - 1:Nat)):Int)=(pre.length:Int) - 1 by omega,en] at m
      exact m
theorem gr_pre {pre more:List Int} {v:Int} (g:GrOk pre) (g2:GrOk (pre++v :: more)):GrOk (pre++[v]):=by
  have pos:=g.pos
  have lt:pre.length < (pre++v :: more).length:=by rw [List.length_append,List.length_cons];omega
  have u:=g2.up pre.length pos lt
  obtain ⟨n,en⟩:=g2.road pre.length pos lt
  rw [(climb_app g (v :: more) (by omega) (by omega) n).1,getD_app,if_neg (by omega),Nat.sub_self] at en
  rw [getD_app,if_neg (by omega),Nat.sub_self] at u
  exact g.snoc u.1 u.2 ⟨n,en⟩
end
theorem inV_int (v:Int) (l:List Int):inV (V.int v) (l.map V.int)=decide (v∈l):=by
  unfold inV
  rw [Bool.eq_iff_iff,List.any_eq_true,decide_eq_true_eq]
  constructor
  · rintro ⟨y,hy,e⟩
    obtain ⟨n,hn,rfl⟩:=List.mem_map.mp hy
    have:n=v:=by simpa [eqV] using e
    rw [← this];exact hn
  · intro h
    exact ⟨V.int v,List.mem_map.mpr ⟨v,h,rfl⟩,by simp [eqV]⟩
section
variable {P:Program} {w:World} {K:PySem.W.Frag} {mg:Str→Option Value} {base:Heap} {k:Nat}
end
end S01.R
namespace S01
open PySem L2 W7
open S01.R (natV natV_ints trues_all trues_snoc sp_whole sp_all)
def lwB (c:Nat):Bool:=decide (97≤c) && decide (c < 123)
theorem lwB_iff {c:Nat}:lwB c=true ↔ Lw c:=by unfold lwB Lw;rw [Bool.and_eq_true,decide_eq_true_eq,decide_eq_true_eq]
theorem in_abc {c:Nat} (h:c < 1000):(!(Builtin.Str.occurrences (Str.ofString "abcdefghijklmnopqrstuvwxyz") ⟨#[c]⟩ 0 (Str.ofString "abcdefghijklmnopqrstuvwxyz").length 1).isEmpty)=lwB c:=by
  have all:∀ c:Nat,c < 1000→(!(Builtin.Str.occurrences (Str.ofString "abcdefghijklmnopqrstuvwxyz") ⟨#[c]⟩ 0 (Str.ofString "abcdefghijklmnopqrstuvwxyz").length 1).isEmpty)=lwB c:=by decide +kernel
  exact all c h
def letD:PyData→Bool
  | .str z=>z.cps.toList.all lwB
  | _=>false
def labD:PyData→Bool
  | .str z=>z.cps.toList.all lwB && (decide (1≤z.length) && decide (z.length≤60))
  | _=>false
def Short (d:PyData):Prop:=∀ z,d=.str z→z.length≤900∧∀ c∈z.cps.toList,c < 1000
def UpsD (d:PyData) (m:Nat):Prop:=∃ us:List Int,d=.tuple (us.map .int)∧us.length=m∧R.GrOk us
def RightD (d:PyData):Prop:=∃ (us:List Int) (z:Str),d=.tuple [.tuple (us.map .int),.str z]∧us.length=z.length∧1≤z.length∧z.length≤60∧(∀ c∈z.cps.toList,Lw c)∧R.GrOk us
theorem bls_all (l:List Bool):(l.all id)=true ↔ ∀ b∈l,b=true:=by rw [List.all_eq_true];rfl
section
variable {P:Program} {w:World} {K:PySem.W.Frag} {mg:Str→Option Value} {base:Heap} {k:Nat}
def sp_wholeT:Sp:=fun vs H Q _=>∃ (v:V) (d:PyData),vs=[v]∧Td H v d∧Q (.bl (wholeD d)) H
theorem has_wholeT (D:Df K mg "is_whole" s_is_whole) (B:Blt7 mg):Has P w K mg base "is_whole" (k+1) ["thing"] sp_wholeT:=by
  refine D.has sc_is_whole (fun _ _ _ _ _ _ us hl=>match us,hl with | [_],_=>rfl) (fun vs H Q E h=>by obtain ⟨x,d,rfl,_⟩:=h;rfl) (fun f cdv A outer s H vs Q E hr h=>?_)
  obtain ⟨v,d,rfl,td,q⟩:=h
  refine ⟨_,(pss_one (ps_ret (pe_and (pe_callB call_isinst rfl B.isinstance bt_isinstance (pa_cons (pv 0) (pa_cons (pe_bltn (v:=.ty "int") rfl B.int_ bt_int rfl) pa_nil))) (pe_one (pe_not (pe_callB call_isinst rfl B.isinstance bt_isinstance (pa_cons (pv 0) (pa_cons (pe_bltn (v:=.ty "bool") rfl B.bool_ bt_bool rfl) pa_nil)))))))),?_⟩
  obtain ⟨t1,a1,a2⟩:=td_int (K:=K) td
  obtain ⟨t2,b1,b2⟩:=td_bl (K:=K) td
  refine ⟨_,rfl,_,t1, "int", _,rfl,a1,a2,_,rfl,ite2 (fun c=>?_) (fun c=>?_)⟩
  · refine ⟨_,rfl,_,t2, "bool", _,rfl,b1,b2,_,rfl,?_⟩
    have e:wholeD d=!isBlD d:=by cases d <;> first | rfl | cases c
    rw [← e];exact q
  · have e:wholeD d=false:=by cases d <;> first | rfl | (exact absurd rfl c)
    rw [e] at q;exact q
def sp_lettersT:Sp:=fun vs H Q _=>∃ (v:V) (d:PyData),vs=[v]∧Td H v d∧Short d∧∀ H',Same H H'→Q (.bl (letD d)) H'
theorem has_lettersT (D:Df K mg "is_letters" s_is_letters) (B:Blt7 mg):Has P w K mg base "is_letters" (k+1) ["thing"] sp_lettersT:=by
  refine D.has sc_is_letters (fun _ _ _ _ _ _ us hl=>match us,hl with | [_],_=>rfl) (fun vs H Q E h=>by obtain ⟨x,d,rfl,_⟩:=h;rfl) (fun f cdv A outer s H vs Q E hr h=>?_)
  obtain ⟨v,d,rfl,td,sh,q⟩:=h
  obtain ⟨u2,h_LETTERS,r_LETTERS⟩:=B.letters
  refine ⟨_,(pss_one (ps_ret (pe_and (pe_callB call_isinst rfl B.isinstance bt_isinstance (pa_cons (pv 0) (pa_cons (pe_bltn (v:=.ty "str") rfl B.str_ bt_str rfl) pa_nil))) (pe_one (pe_callB (call_all rfl) rfl B.all bt_all (pa_cons (pe_comp rfl (pi_str (pv 0)) (NL:=["sign"]) (ix:=[]) (csc (defScope s_is_letters) N_is_letters) (fun cl C s₃ H₃ fp pins=>⟨(pg_name (i:=0) (show List.Nodup (["sign"]:List Str) from by decide +kernel) rfl (by first | exact Or.inl rfl | exact Or.inr rfl)),pifs_nil,(pe_cmpR op_in_str (pv 0) (pe_glob (v:=.str "abcdefghijklmnopqrstuvwxyz") rfl h_LETTERS r_LETTERS) (by with_unfolding_all rfl))⟩)) pa_nil)))))),?_⟩
  obtain ⟨t1,a1,a2⟩:=td_str (K:=K) td
  refine ⟨_,rfl,_,t1, "str", _,rfl,a1,a2,_,rfl,ite2 (fun c=>?_) (fun c=>?_)⟩
  rotate_left
  · have e:letD d=false:=by cases d <;> first | rfl | (exact absurd rfl c)
    have:=q H (Same.refl H)
    rw [e] at this;exact this
  obtain ⟨z,rfl,rfl⟩:=isStr_ex td c
  obtain ⟨zl,zc⟩:=sh z rfl
  have zs:z.cps.size≤900:=zl
  refine ⟨_,rfl,_,rfl,fun a1 ha1=>?_⟩
  refine comp_str (by omega) (fun i ys HX=>HX a1=some (.lst ys)∧Same H HX∧ys=((z.cps.toList.take i).map lwB).map V.bl)
    (fun i ys HX h=>⟨h.1,by rw [h.2.2,List.length_map,List.length_map,List.length_take];exact Nat.min_le_left _ _⟩) ⟨upd_same,(Same.refl H).new ha1,rfl⟩ ?_ ?_
  rotate_left
  · rintro i ch ys HX hc ⟨g1,g2,rfl⟩
    have hc':z.cps.toList[i]?=some ch:=by rw [← Array.getElem?_toList] at hc;exact hc
    refine ⟨rfl,_,rfl,_,_,rfl,rfl,?_⟩
    rw [in_abc (zc ch (List.mem_of_getElem? hc'))]
    refine ⟨g1,upd_same,g2.write ha1,?_⟩
    rw [List.take_succ,hc',List.map_append,List.map_append];rfl
  rintro ys H1 ⟨g1,s1,rfl⟩
  refine ⟨a1,_,rfl,SqL.of g1,?_⟩
  have e:(((z.cps.toList.take z.cps.size).map lwB).all id)=letD (.str z):=by
    show _=z.cps.toList.all lwB
    rw [← Array.length_toList,List.take_length,List.all_map];rfl
  rw [e]
  exact q _ s1
def sp_labelsT:Sp:=fun vs H Q _=>∃ (v:V) (d:PyData),vs=[v]∧Td H v d∧Short d∧∀ H',Same H H'→Q (.bl (labD d)) H'
theorem has_labelsT (D:Df K mg "is_labels" s_is_labels) (B:Blt7 mg) (G_is_letters:Has P w K mg base "is_letters" k ["thing"] sp_lettersT):Has P w K mg base "is_labels" (k+1) ["thing"] sp_labelsT:=by
  refine D.has sc_is_labels (fun _ _ _ _ _ _ us hl=>match us,hl with | [_],_=>rfl) (fun vs H Q E h=>by obtain ⟨x,d,rfl,_⟩:=h;rfl) (fun f cdv A outer s H vs Q E hr h=>?_)
  obtain ⟨v,d,rfl,td,sh,q⟩:=h
  obtain ⟨u1,h_MOST_PLACES,r_MOST_PLACES⟩:=B.most
  refine ⟨_,(pss_one (ps_ret (pe_and (pe_callH G_is_letters hr rfl (pa_cons (pv 0) pa_nil)) (pe_one (pe_chain op_le op_le pe_int (pe_callB call_len_str rfl B.len bt_len (pa_cons (pv 0) pa_nil)) (pe_glob (v:=.int 60) rfl h_MOST_PLACES r_MOST_PLACES)))))),?_⟩
  refine ⟨_,rfl,v,d,rfl,td,sh,fun H1 s1=>⟨_,rfl,ite2 (fun c=>?_) (fun c=>?_)⟩⟩
  rotate_left
  · have e:labD d=false:=by
      cases d with
      | str z=>
        have c':z.cps.toList.all lwB=false:=Bool.eq_false_iff.mpr c
        show (z.cps.toList.all lwB && _)=false
        rw [c',Bool.false_and]
      | _=>rfl
    have:=q H1 s1
    rw [e] at this;exact this
  have hs:isStrD d=true:=by cases d <;> first | rfl | cases c
  obtain ⟨z,rfl,rfl⟩:=isStr_ex td hs
  obtain ⟨zl,zc⟩:=sh z rfl
  have q1:=q H1 s1
  have c':z.cps.toList.all lwB=true:=c
  have e:labD (.str z)=(decide (1≤z.length) && decide (z.length≤60)):=by show (z.cps.toList.all lwB && _)=_;rw [c',Bool.true_and]
  rw [e] at q1
  refine ⟨_,rfl,_,rfl,Nat.le_of_lt (small1000 (by omega)),_,_,rfl,rfl,_,rfl,?_⟩
  have d1:decide ((1:Int)≤(z.length:Int))=decide (1≤z.length):=by rw [Bool.eq_iff_iff,decide_eq_true_eq,decide_eq_true_eq];omega
  have d2:decide ((z.length:Int)≤60)=decide (z.length≤60):=by rw [Bool.eq_iff_iff,decide_eq_true_eq,decide_eq_true_eq];omega
  refine ite2 (fun x=>?_) (fun x=>?_)
  · have x':decide (1≤z.length)=true:=by rw [← d1];exact x
    rw [x',Bool.true_and,← d2] at q1
    exact ⟨_,_,rfl,rfl,q1⟩
  · have x':decide (1≤z.length)=false:=by rw [← d1];exact Bool.eq_false_iff.mpr x
    rw [x',Bool.false_and] at q1
    exact q1
def sp_upsT:Sp:=fun vs H Q _=>∃ (v:V) (d:PyData) (m:Nat),vs=[v,.int (m:Int)]∧Td H v d∧1≤m∧m≤60∧∀ (b:Bool) (H':Hp),Same H H'→(b=true ↔ UpsD d m)→Q (.bl b) H'
theorem has_upsT (D:Df K mg "is_ups" s_is_ups) (B:Blt7 mg) (G1:Has P w K mg base "is_whole" k ["thing"] sp_whole) (G2:Has P w K mg base "is_whole" k ["thing"] sp_wholeT) (G_all_above:Has P w K mg base "all_above" k ["ups", "place"] sp_all):Has P w K mg base "is_ups" (k+1) ["thing", "many"] sp_upsT:=by
  refine D.has sc_is_ups (fun _ _ _ _ _ _ us hl=>match us,hl with | [_,_],_=>rfl) (fun vs H Q E h=>by obtain ⟨x,d,m,rfl,_⟩:=h;rfl) (fun f cdv A outer s H vs Q E hr h=>?_)
  obtain ⟨v,d,m,rfl,td,m1,m60,q⟩:=h
  have no:∀ {b:Bool},b=false→¬ UpsD d m→(b=true ↔ UpsD d m):=fun {b} e n=>by rw [e];exact ⟨(fun z=>by cases z),fun z=>absurd z n⟩
  by_cases hi:∃ us:List Int,d=.tuple (us.map .int)∧us.length=m
  · obtain ⟨us,rfl,rfl⟩:=hi
    obtain ⟨u,xs,ds,rfl,ed,hu,tds⟩:=isTup_ex td rfl
    obtain rfl:us.map PyData.int=ds:=by injection ed
    obtain ⟨us',e1,rfl⟩:=wholes_ints tds (fun d hd=>by obtain ⟨i,_,rfl⟩:=List.mem_map.mp hd;rfl)
    have inj:∀ l l':List Int,l.map PyData.int=l'.map PyData.int→l=l':=fun l l' e=>(List.map_inj_right (fun a b h=>by injection h)).mp e
    obtain rfl:us=us':=inj _ _ e1
    have l1:=m1
    have l60:=m60
    have q:∀ (b:Bool) (H':Hp),Same H H'→(b=true ↔ R.GrOk us)→Q (.bl b) H':=fun b H' s g=>q b H' s (g.trans ⟨fun g=>⟨us,rfl,rfl,g⟩,fun ⟨us2,e,_,g⟩=>by
      have:us=us2:=inj _ _ (by injection e)
      rw [this];exact g⟩)
    have G_is_whole:=G1
    refine ⟨_,(pss_cons (ps_if (PW.pt (pw_or (pt_not (pt_val (pe_callB call_isinst rfl B.isinstance bt_isinstance (pa_cons (pv 0) (pa_cons (pe_bltn (v:=.ty "tuple") rfl B.tuple_ bt_tuple rfl) pa_nil))))) (pw_or1 (pt_cmpR op_ne (pe_callB call_len_seq rfl B.len bt_len (pa_cons (pv 0) pa_nil)) (pv 1) (nomark _)))))
  (pss_one (ps_ret pe_bl))
  pss_nil)
  (pss_cons (ps_if (PW.pt (pw_or (pt_not (pt_val (pe_callB (call_all rfl) rfl B.all bt_all (pa_cons (pe_comp rfl (pi_tup (pv 0)) (NL:=["up"]) (ix:=[]) (csc (defScope s_is_ups) N_is_ups) (fun cl C s₃ H₃ fp pins=>⟨(pg_name (i:=0) (show List.Nodup (["up"]:List Str) from by decide +kernel) rfl (by first | exact Or.inl rfl | exact Or.inr rfl)),pifs_nil,(pe_callH G_is_whole hr rfl (pa_cons (pv 0) pa_nil))⟩)) pa_nil)))) (pw_or1 (pt_cmpR op_ne (pe_ix ix_tup (pv 0) pe_int (fun _ _=>rfl)) (pe_un un_neg pe_int) (nomark _)))))
  (pss_one (ps_ret pe_bl))
  pss_nil)
  (pss_cons (ps_for PassesOwn.never rfl (pi_range2 rfl B.range (pa_cons pe_int (pa_cons (pv 1) pa_nil))) (pg_name (i:=2) sc_is_ups.nd rfl (by first | exact Or.inl rfl | exact Or.inr rfl))
  (pss_cons (ps_set (i:=3) sc_is_ups.nd rfl (by first | exact Or.inl rfl | exact Or.inr rfl) (pe_op op_sub (pv 2) pe_int))
  (pss_one (ps_if (PW.pt (pw_and (pt_cmpR op_ne (pe_ix ix_tup (pv 0) (pv 2) (fun _ _=>rfl)) (pv 3) (nomark _)) (pw_and1 (pt_cmpR op_notIn_seq (pe_ix ix_tup (pv 0) (pv 2) (fun _ _=>rfl)) (pe_callH G_all_above hr rfl (pa_cons (pv 0) (pa_cons (pv 3) pa_nil))) (by with_unfolding_all rfl)))))
  (pss_one (ps_ret pe_bl))
  pss_nil))))
  (pss_one (ps_ret pe_bl))))),?_⟩
    refine ⟨_,rfl,_,_,_,true,rfl,.tup hu,kit_same _ _,_,rfl,iteF ?_⟩
    refine ⟨_,rfl,u,_,rfl,.inr (SqT.of hu),_,rfl,rfl,_,rfl,R.iteN (by rw [List.length_map];simp) ?_⟩
    refine ⟨_,rfl,u,rfl,⟨_,SqT.of hu⟩,fun a1 ha1'=>?_⟩
    refine comp_tupl (K:=K) (a:=u) (xs:=us.map V.int) (by rw [List.length_map];omega) (fun i ys HX=>HX a1=some (.lst ys)∧Same H HX∧ys=(List.replicate i true).map V.bl)
      (fun i ys HX h=>SqT.of (h.2.1 _ _ hu)) (fun i ys HX h=>⟨h.1,by rw [h.2.2,List.length_map,List.length_replicate];exact Nat.le_refl _⟩) ⟨upd_same,(Same.refl H).new ha1',rfl⟩ ?_ ?_
    rotate_left
    · rintro i x ys HX hx ⟨g1,g2,rfl⟩
      obtain ⟨n,hn,rfl⟩:=List.mem_map.mp (List.mem_of_getElem? hx)
      exact ⟨rfl,_,rfl,n,rfl,g1,upd_same,g2.write ha1',trues_snoc i⟩
    rintro ys H2 ⟨g1,s2,rfl⟩
    refine ⟨a1,_,rfl,SqL.of g1,_,rfl,?_⟩
    rw [trues_all]
    refine iteF ?_
    have hu2:=s2 _ _ hu
    refine ⟨_,rfl,u,_,_,_,rfl,rfl,SqT.of hu2,ints_at (by decide) (by omega),_,rfl,rfl,_,rfl,?_⟩
    by_cases r0:us.getD 0 0=-1
    · refine R.iteN (by show (!decide (V.int (us.getD 0 0)=V.int (-1)))=false;rw [r0];simp) ?_
      refine ⟨_,rfl,_,_,rfl,⟨by decide,by decide,by omega,by omega⟩,?_⟩
      have en:(((us.length:Nat):Int) - 1).toNat=us.length - 1:=by omega
      rw [en]
      refine for_range (lo:=1) (n:=us.length - 1) (fun i σ H'=>∃ o2 o3:Option V,σ=[some (.ref u),some (.int (us.length:Int)),o2,o3]∧Same H2 H'∧R.GrOk (us.take (1+i))) ⟨none,none,rfl,Same.refl H2,?_⟩ ?_ ?_
      · have:us.take (1+0)=[-1]:=by
          cases us with
          | nil=>simp at l1
          | cons x r=>rw [show x=-1 from r0];simp
        rw [this];exact R.GrOk.one
      · rintro i σ H' hi ⟨o2,o3,rfl,sX,g⟩
        have huX:=sX _ _ hu2
        have pl:1+i < us.length:=by omega
        have tk:(us.take (1+i)).length=1+i:=by rw [List.length_take];omega
        have ex:us=us.take (1+i)++us.getD (1+i) 0 :: us.drop (1+i+1):=by
          conv=>lhs;rw [← List.take_append_drop (1+i) us]
          rw [List.drop_eq_getElem_cons pl,List.getD_eq_getElem?_getD,List.getElem?_eq_getElem pl];rfl
        have nx:us.take (1+(i+1))=us.take (1+i)++[us.getD (1+i) 0]:=by
          rw [show 1+(i+1)=(1+i)+1 by omega,List.take_succ,List.getElem?_eq_getElem pl,List.getD_eq_getElem?_getD,List.getElem?_eq_getElem pl];rfl
        have iff:=R.gr_next (v:=us.getD (1+i) 0) g (by omega)
        rw [tk] at iff
        have at1:=ints_at (us:=us) (i:=1+(i:Int)) (by omega) (by omega)
        rw [show (1+(i:Int)).toNat=1+i by omega] at at1
        refine ⟨_,rfl,_,_,rfl,rfl,?_⟩
        refine ⟨_,rfl,_,rfl,u,_,_,_,rfl,rfl,SqT.of huX,at1,_,rfl,rfl,_,rfl,?_⟩
        by_cases c1:us.getD (1+i) 0=1+(i:Int) - 1
        · refine R.iteN (by rw [decide_eq_true (by rw [c1])];rfl) ?_
          refine iteF ?_
          refine ⟨_,_,rfl,sX,?_⟩
          rw [nx]
          exact iff.mp (.inl (by omega))
        · refine R.iteB (by rw [decide_eq_false (fun e=>c1 (by injection e))];rfl) ?_
          refine ⟨_,rfl,_,rfl,u,_,_,_,rfl,rfl,SqT.of huX,at1,_,rfl,_,rfl,u,us.take (1+i),us.drop (1+i),List.replicate (us.take (1+i)).length 97,1+(i:Int) - 1,rfl,by rw [List.take_append_drop];exact huX,R.gr_lab g (by omega),by omega,by omega,fun r H3 s3 hr3=>?_⟩
          refine ⟨r,_,rfl,.inl (SqL.of hr3),rfl,flat_ints _,_,rfl,?_⟩
          rw [R.inV_int,show (1+(i:Int) - 1).toNat=1+i - 1 by omega]
          by_cases c2:us.getD (1+i) 0∈chn (us.take (1+i)) (1+i - 1)
          · rw [decide_eq_true c2]
            refine iteF ?_
            refine ⟨_,_,rfl,sX.trans s3,?_⟩
            rw [nx]
            exact iff.mp (.inr c2)
          · rw [decide_eq_false c2]
            refine iteT ?_
            refine q false _ ((s2.trans sX).trans s3) ⟨(fun e=>by cases e),fun gg=>?_⟩
            rw [ex] at gg
            rcases iff.mpr (R.gr_pre g gg) with z | z
            · exact absurd (by omega) c1
            · exact absurd z c2
      · rintro σ H' ⟨o2,o3,rfl,sX,g⟩
        have:us.take (1+(us.length - 1))=us:=List.take_of_length_le (by omega)
        rw [this] at g
        exact q true _ (s2.trans sX) ⟨fun _=>g,fun _=>rfl⟩
    · refine R.iteB (by show (!decide (V.int (us.getD 0 0)=V.int (-1)))=true;rw [decide_eq_false (fun e=>r0 (by injection e))];rfl) ?_
      exact q false _ s2 ⟨(fun e=>by cases e),fun g=>absurd g.root r0⟩
  · have nu:¬ UpsD d m:=fun ⟨us,e,l,_⟩=>hi ⟨us,e,l⟩
    have G_is_whole:=G2
    refine ⟨_,(pss_cons (ps_if (PW.pt (pw_or (pt_not (pt_val (pe_callB call_isinst rfl B.isinstance bt_isinstance (pa_cons (pv 0) (pa_cons (pe_bltn (v:=.ty "tuple") rfl B.tuple_ bt_tuple rfl) pa_nil))))) (pw_or1 (pt_cmpR op_ne (pe_callB call_len_seq rfl B.len bt_len (pa_cons (pv 0) pa_nil)) (pv 1) (nomark _)))))
  (pss_one (ps_ret pe_bl))
  pss_nil)
  (pss_cons (ps_if (PW.pt (pw_or (pt_not (pt_val (pe_callB (call_all rfl) rfl B.all bt_all (pa_cons (pe_comp rfl (pi_tup (pv 0)) (NL:=["up"]) (ix:=[]) (csc (defScope s_is_ups) N_is_ups) (fun cl C s₃ H₃ fp pins=>⟨(pg_name (i:=0) (show List.Nodup (["up"]:List Str) from by decide +kernel) rfl (by first | exact Or.inl rfl | exact Or.inr rfl)),pifs_nil,(pe_callH G_is_whole hr rfl (pa_cons (pv 0) pa_nil))⟩)) pa_nil)))) (pw_or1 (pt_cmpR op_ne (pe_ix ix_tup (pv 0) pe_int (fun _ _=>rfl)) (pe_un un_neg pe_int) (nomark _)))))
  (pss_one (ps_ret pe_bl))
  pss_nil)
  (pss_cons (ps_for PassesOwn.never rfl (pi_range2 rfl B.range (pa_cons pe_int (pa_cons (pv 1) pa_nil))) (pg_name (i:=2) sc_is_ups.nd rfl (by first | exact Or.inl rfl | exact Or.inr rfl))
  (pss_cons (ps_set (i:=3) sc_is_ups.nd rfl (by first | exact Or.inl rfl | exact Or.inr rfl) (pe_op op_sub (pv 2) pe_int))
  (pss_one (ps_if (PW.pt (pw_and (pt_cmpR op_ne (pe_ix ix_tup (pv 0) (pv 2) (fun _ _=>rfl)) (pv 3) (nomark _)) (pw_and1 (pt_cmpR op_notIn_seq (pe_ix ix_tup (pv 0) (pv 2) (fun _ _=>rfl)) (pe_callH G_all_above hr rfl (pa_cons (pv 0) (pa_cons (pv 3) pa_nil))) (by with_unfolding_all rfl)))))
  (pss_one (ps_ret pe_bl))
  pss_nil))))
  (pss_one (ps_ret pe_bl))))),?_⟩
    obtain ⟨t1,a1,a2⟩:=td_tup (K:=K) td
    refine ⟨_,rfl,_,t1, "tuple", _,rfl,a1,a2,_,rfl,?_⟩
    by_cases ct:isTupD d=true
    rotate_left
    · refine iteA (by rw [Bool.eq_false_iff.mpr ct];rfl) ?_
      exact q false H (Same.refl H) (no rfl nu)
    refine iteB (by rw [ct];rfl) ?_
    obtain ⟨u,xs,ds,rfl,rfl,hu,tds⟩:=isTup_ex td ct
    have xl:=tds.len
    refine ⟨_,rfl,u,_,rfl,.inr (SqT.of hu),_,rfl,rfl,_,rfl,?_⟩
    by_cases cl:xs.length=m
    rotate_left
    · refine iteA (by simp;omega) ?_
      exact q false H (Same.refl H) (no rfl nu)
    refine iteB (by rw [cl];simp) ?_
    refine ⟨_,rfl,u,rfl,⟨_,SqT.of hu⟩,fun a1 ha1'=>?_⟩
    refine L2.comp_tupl (K:=K) (a:=u) (xs:=xs) (by omega) (fun i ys HX=>HX a1=some (.lst ys)∧Same H HX∧ys=((ds.take i).map wholeD).map V.bl)
      (fun i ys HX h=>SqT.of (h.2.1 _ _ hu)) (fun i ys HX h=>⟨h.1,by rw [h.2.2,List.length_map,List.length_map,List.length_take];exact Nat.min_le_left _ _⟩) ⟨upd_same,(Same.refl H).new ha1',rfl⟩ ?_ ?_
    rotate_left
    · rintro i x ys HX hx ⟨g1,g2,rfl⟩
      obtain ⟨dx,ex,tx⟩:=tds.get hx
      refine ⟨rfl,_,rfl,x,dx,rfl,tx.same g2,g1,upd_same,g2.write ha1',?_⟩
      rw [List.take_succ,ex,List.map_append,List.map_append];rfl
    rintro ys H2 ⟨g1,s2,rfl⟩
    rw [xl,List.take_length] at g1
    refine ⟨a1,_,rfl,SqL.of g1,_,rfl,?_⟩
    have ea:((ds.map wholeD).all id)=false:=by
      refine Bool.eq_false_iff.mpr fun z=>hi ?_
      have al:∀ d∈ds,wholeD d=true:=fun d hd=>(bls_all _).mp z _ (List.mem_map.mpr ⟨d,hd,rfl⟩)
      obtain ⟨us,e1,e2⟩:=wholes_ints tds al
      exact ⟨us,by rw [e1],by rw [← cl,e2,List.length_map]⟩
    rw [ea]
    refine iteT ?_
    exact q false H2 s2 (no rfl nu)
def sp_istT:Sp:=fun vs H Q _=>∃ (v:V) (d:PyData),vs=[v]∧Td H v d∧(∀ x y,d=.tuple [x,y]→Short y)∧∀ (b:Bool) (H':Hp),Same H H'→(b=true ↔ RightD d)→Q (.bl b) H'
theorem has_istT (D:Df K mg "is_tree" s_is_tree) (B:Blt7 mg) (G_is_labels:Has P w K mg base "is_labels" k ["thing"] sp_labelsT) (G_is_ups:Has P w K mg base "is_ups" k ["thing", "many"] sp_upsT):Has P w K mg base "is_tree" (k+1) ["thing"] sp_istT:=by
  refine D.has sc_is_tree (fun _ _ _ _ _ _ us hl=>match us,hl with | [_],_=>rfl) (fun vs H Q E h=>by obtain ⟨x,d,rfl,_⟩:=h;rfl) (fun f cdv A outer s H vs Q E hr h=>?_)
  obtain ⟨v,d,rfl,td,sh,q⟩:=h
  refine ⟨_,(pss_cons (ps_if (PW.pt (pw_or (pt_not (pt_val (pe_callB call_isinst rfl B.isinstance bt_isinstance (pa_cons (pv 0) (pa_cons (pe_bltn (v:=.ty "tuple") rfl B.tuple_ bt_tuple rfl) pa_nil))))) (pw_or1 (pt_cmpR op_ne (pe_callB call_len_seq rfl B.len bt_len (pa_cons (pv 0) pa_nil)) pe_int (nomark _)))))
  (pss_one (ps_ret pe_bl))
  pss_nil)
  (pss_one (ps_ret (pe_and (pe_callH G_is_labels hr rfl (pa_cons (pe_ix ix_tup (pv 0) pe_int (fun _ _=>rfl)) pa_nil)) (pe_one (pe_callH G_is_ups hr rfl (pa_cons (pe_ix ix_tup (pv 0) pe_int (fun _ _=>rfl)) (pa_cons (pe_callB call_len_str rfl B.len bt_len (pa_cons (pe_ix ix_tup (pv 0) pe_int (fun _ _=>rfl)) pa_nil)) pa_nil)))))))),?_⟩
  have no:¬ RightD d→(false=true ↔ RightD d):=fun n=>⟨(fun z=>by cases z),fun z=>absurd z n⟩
  obtain ⟨t1,a1,a2⟩:=td_tup (K:=K) td
  refine ⟨_,rfl,_,t1, "tuple", _,rfl,a1,a2,_,rfl,?_⟩
  by_cases ct:isTupD d=true
  rotate_left
  · refine iteA (by rw [Bool.eq_false_iff.mpr ct];rfl) ?_
    exact q false H (Same.refl H) (no fun ⟨us,z,e,_⟩=>ct (by rw [e];rfl))
  refine iteB (by rw [ct];rfl) ?_
  obtain ⟨a,xs,ds,rfl,rfl,ha,tds⟩:=isTup_ex td ct
  have xl:=tds.len
  refine ⟨_,rfl,a,_,rfl,.inr (SqT.of ha),rfl,_,rfl,?_⟩
  by_cases cl:xs.length=2
  rotate_left
  · refine iteA (by simp;omega) ?_
    exact q false H (Same.refl H) (no fun ⟨us,z,e,_⟩=>cl (by rw [xl];injection e with e;rw [e];rfl))
  refine iteB (by rw [cl];simp) ?_
  obtain ⟨x,y,rfl⟩:∃ x y,xs=[x,y]:=by
    match xs,cl with
    | [x,y],_=>exact ⟨x,y,rfl⟩
  cases tds with
  | cons tx t2=>
    rename_i dx ds2
    cases t2 with
    | cons ty t3=>
      rename_i dy ds3
      cases t3
      have shy:=sh dx dy rfl
      refine ⟨_,rfl,a,_,_,_,rfl,rfl,SqT.of ha,rfl,y,dy,rfl,ty,shy,fun H1 s1=>⟨_,rfl,ite2 (fun c=>?_) (fun c=>?_)⟩⟩
      rotate_left
      · refine q false H1 s1 (no fun ⟨us,z,e,l1,l2,l3,lw,g⟩=>c ?_)
        have e2:dy=.str z:=by injection e with e;injection e with _ e;injection e
        rw [e2]
        show (z.cps.toList.all lwB && (decide (1≤z.length) && decide (z.length≤60)))=true
        rw [decide_eq_true l2,decide_eq_true l3,List.all_eq_true.mpr fun c hc=>lwB_iff.mpr (lw c hc)];rfl
      have hs:isStrD dy=true:=by cases dy <;> first | rfl | cases c
      obtain ⟨z,rfl,rfl⟩:=isStr_ex ty hs
      have c':(z.cps.toList.all lwB && (decide (1≤z.length) && decide (z.length≤60)))=true:=c
      rw [Bool.and_eq_true,Bool.and_eq_true,decide_eq_true_eq,decide_eq_true_eq] at c'
      obtain ⟨c1,c2,c3⟩:=c'
      have ha1:=s1 _ _ ha
      refine ⟨_,rfl,a,_,_,_,rfl,rfl,SqT.of ha1,rfl,_,rfl,a,_,_,_,rfl,rfl,SqT.of ha1,rfl,z,rfl,Nat.le_of_lt (small1000 (by omega)),x,dx,z.length,rfl,tx.same s1,c2,c3,fun b H2 s2 hb=>?_⟩
      refine q b H2 (s1.trans s2) (hb.trans ⟨fun ⟨us,e,l,g⟩=>⟨us,z,by rw [e],l,c2,c3,fun c hc=>lwB_iff.mp (List.all_eq_true.mp c1 c hc),g⟩,fun ⟨us,z',e,l1,_,_,_,g⟩=>?_⟩)
      injection e with e
      injection e with ea eb
      injection eb with eb _
      injection eb with eb
      exact ⟨us,ea,by rw [l1,eb],g⟩
end
end S01
namespace S01
open PySem L2 W7
open S01.R (natV natV_ints trues_all trues_snoc sp_whole sp_all)
def fc (us:List Int) (k:Nat):List Int:=(k:Int) :: chn us k
theorem fc_drop {us:List Int} {lab:List Nat} (t:TreeOk us lab):∀ (n k:Nat),k < n→k < us.length→∀ v∈fc us k,(fc us k).drop ((fc us k).idxOf v)=fc us v.toNat
  | 0,_,h,_,_,_=>absurd h (Nat.not_lt_zero _)
  | n+1,k,h,hk,v,hv=>by
    by_cases e:v=(k:Int)
    · subst e
      rw [fc,List.idxOf_cons_self,List.drop_zero,Int.toNat_natCast];rfl
    · have hv':v∈chn us k:=(List.mem_cons.mp hv).resolve_left e
      have ec:=chn_eq t hk
      rw [ec] at hv'
      split at hv'
      · cases hv'
      · rename_i h0
        have lt:=t.lt hk h0
        have ef:chn us k=fc us (us.getD k 0).toNat:=by rw [ec,if_neg h0,fc,show (((us.getD k 0).toNat:Nat):Int)=us.getD k 0 by omega]
        have ih:=fc_drop t n (us.getD k 0).toNat (by omega) (by omega) v (by rw [← ef,ec,if_neg h0];exact hv')
        have ei:(fc us k).idxOf v=(chn us k).idxOf v+1:=by
          rw [fc,List.idxOf_cons,show ((k:Int) == v)=false from beq_false_of_ne (Ne.symm e)];rfl
        rw [ei,fc,List.drop_succ_cons,ef]
        exact ih
theorem chn_app {pre more:List Int} {l1 l2:List Nat} (t1:TreeOk pre l1) (t2:TreeOk (pre++more) l2):∀ (n j:Nat),j < n→j < pre.length→chn (pre++more) j=chn pre j
  | 0,_,h,_=>absurd h (Nat.not_lt_zero _)
  | n+1,j,h,hj=>by
    rw [chn_eq t2 (by rw [List.length_append];omega),chn_eq t1 hj,R.getD_app,if_pos hj]
    split
    · rfl
    · rename_i h0
      have lt:=t1.lt hj h0
      rw [chn_app t1 t2 n _ (by omega) (by omega)]
theorem fc_next {pre:List Int} {v:Int} (g:R.GrOk pre) (h60:pre.length≤60) (g2:R.GrOk (pre++[v])) (h61:(pre++[v]).length≤60):fc (pre++[v]) pre.length=(pre.length:Int) :: fc pre v.toNat:=by
  have t1:=R.gr_lab g h60
  have t2:=R.gr_lab g2 h61
  have pl:=g.pos
  have up:=g2.up pre.length pl (by rw [List.length_append,List.length_singleton];omega)
  have ev:(pre++[v]).getD pre.length 0=v:=by rw [R.getD_app,if_neg (by omega),Nat.sub_self];rfl
  rw [ev] at up
  rw [fc,chn_eq t2 (by rw [List.length_append,List.length_singleton];omega),ev,if_neg (by omega),chn_app t1 t2 (v.toNat+1) v.toNat (by omega) (by omega),fc,show ((v.toNat:Nat):Int)=v by omega]
theorem fc_len {us:List Int} {lab:List Nat} (t:TreeOk us lab) {k:Nat} (hk:k < us.length):(fc us k).length≤k+1:=by
  have:=(chn_mem t (k+1) k (Nat.lt_succ_self _) hk).1
  rw [fc,List.length_cons];omega
theorem filt_nil {α:Type} {l:List α} {p:α→Bool}:(l.filter fun x=>!p x)=[] ↔ ∀ x∈l,p x=true:=by
  rw [List.filter_eq_nil_iff]
  constructor
  · intro h x hx
    have:=h x hx
    simpa using this
  · intro h x hx
    rw [h x hx];simp
section
variable {P:Program} {w:World} {K:PySem.W.Frag} {mg:Str→Option Value} {base:Heap} {k:Nat}
def sp_lright:Sp:=fun vs H Q _=>∃ (v:V) (d:PyData),vs=[v]∧Td H v d∧(∀ x y,d=.tuple [x,y]→Short y)∧∀ (b:Bool) (H':Hp),Same H H'→(b=true ↔ RightD d)→Q (.bl b) H'
theorem has_lright (D:Df K mg "_law_is_right" s_law_is_right) (B:Blt7 mg):Has P w K mg base "_law_is_right" (k+1) ["thing"] sp_lright:=by
  refine D.has sc_law_is_right (fun _ _ _ _ _ _ us hl=>match us,hl with | [_],_=>rfl) (fun vs H Q E h=>by obtain ⟨x,d,rfl,_⟩:=h;rfl) (fun f cdv A outer s H vs Q E hr h=>?_)
  obtain ⟨v,d,rfl,td,sh,q⟩:=h
  refine ⟨_,(pss_cons (ps_if (PW.pt (pw_or (pt_not (pt_val (pe_callB call_isinst rfl B.isinstance bt_isinstance (pa_cons (pv 0) (pa_cons (pe_bltn (v:=.ty "tuple") rfl B.tuple_ bt_tuple rfl) pa_nil))))) (pw_or (pt_cmpR op_ne (pe_callB call_len_seq rfl B.len bt_len (pa_cons (pv 0) pa_nil)) pe_int (nomark _)) (pw_or1 (pt_not (pt_val (pe_callB call_isinst rfl B.isinstance bt_isinstance (pa_cons (pe_ix ix_tup (pv 0) pe_int (fun _ _=>rfl)) (pa_cons (pe_bltn (v:=.ty "tuple") rfl B.tuple_ bt_tuple rfl) pa_nil)))))))))
  (pss_one (ps_ret pe_bl))
  pss_nil)
  (pss_cons (ps_asg (pv 0) (pg_tup rfl (pgs_cons (pg_name (i:=1) sc_law_is_right.nd rfl (by first | exact Or.inl rfl | exact Or.inr rfl)) (pgs_cons (pg_name (i:=2) sc_law_is_right.nd rfl (by first | exact Or.inl rfl | exact Or.inr rfl)) pgs_nil))))
  (pss_cons (ps_if (PW.pt (pw_or (pt_not (pt_val (pe_callB call_isinst rfl B.isinstance bt_isinstance (pa_cons (pv 2) (pa_cons (pe_bltn (v:=.ty "str") rfl B.str_ bt_str rfl) pa_nil))))) (pw_or (pt_cmpR op_ne (pe_callB call_len_seq rfl B.len bt_len (pa_cons (pv 1) pa_nil)) (pe_callB call_len_str rfl B.len bt_len (pa_cons (pv 2) pa_nil)) (nomark _)) (pw_or1 (pt_not (pt_chain op_le op_le pe_int (pe_callB call_len_seq rfl B.len bt_len (pa_cons (pv 1) pa_nil)) pe_int))))))
  (pss_one (ps_ret pe_bl))
  pss_nil)
  (pss_cons (ps_if (pt_cmpR (op_ne_nil hr.units0) (pe_comp rfl (pi_str (pv 2)) (NL:=["sign"]) (ix:=[]) (csc (defScope s_law_is_right) N_law_is_right) (fun cl C s₃ H₃ fp pins=>⟨(pg_name (i:=0) (show List.Nodup (["sign"]:List Str) from by decide +kernel) rfl (by first | exact Or.inl rfl | exact Or.inr rfl)),(pifs_one (pt_cmpR op_notin_str (pv 0) pe_str (by with_unfolding_all rfl))),(pv 0)⟩)) (pe_lst pa_nil) (nomark _))
  (pss_one (ps_ret pe_bl))
  pss_nil)
  (pss_cons (ps_if (PW.pt (pw_or (pt_cmpR (op_ne_nil hr.units0) (pe_comp rfl (pi_tup (pv 1)) (NL:=["up"]) (ix:=[]) (csc (defScope s_law_is_right) N_law_is_right) (fun cl C s₃ H₃ fp pins=>⟨(pg_name (i:=0) (show List.Nodup (["up"]:List Str) from by decide +kernel) rfl (by first | exact Or.inl rfl | exact Or.inr rfl)),(pifs_one (PW.pt (pw_or (pt_not (pt_val (pe_callB (call_isinstK K) rfl B.isinstance bt_isinstance (pa_cons (pv 0) (pa_cons (pe_bltn (v:=.ty "int") rfl B.int_ bt_int rfl) pa_nil))))) (pw_or1 (pt_val (pe_callB (call_isinstK K) rfl B.isinstance bt_isinstance (pa_cons (pv 0) (pa_cons (pe_bltn (v:=.ty "bool") rfl B.bool_ bt_bool rfl) pa_nil)))))))),(pv 0)⟩)) (pe_lst pa_nil) (nomark _)) (pw_or1 (pt_cmpR op_ne (pe_ix ix_tup (pv 1) pe_int (fun _ _=>rfl)) (pe_op op_sub pe_int pe_int) (nomark _)))))
  (pss_one (ps_ret pe_bl))
  pss_nil)
  (pss_cons (ps_set (i:=3) sc_law_is_right.nd rfl (by first | exact Or.inl rfl | exact Or.inr rfl) (pe_lst (pa_cons pe_int pa_nil)))
  (pss_cons (ps_for PassesOwn.never rfl (pi_range2 rfl B.range (pa_cons pe_int (pa_cons (pe_callB call_len_seq rfl B.len bt_len (pa_cons (pv 1) pa_nil)) pa_nil))) (pg_name (i:=4) sc_law_is_right.nd rfl (by first | exact Or.inl rfl | exact Or.inr rfl))
  (pss_cons (ps_if (pt_cmpR op_notIn_seq (pe_ix ix_tup (pv 1) (pv 4) (fun _ _=>rfl)) (pv 3) (by with_unfolding_all rfl))
  (pss_one (ps_ret pe_bl))
  pss_nil)
  (pss_one (ps_set (i:=3) sc_law_is_right.nd rfl (by first | exact Or.inl rfl | exact Or.inr rfl) (pe_op op_cat (pe_lst (pa_cons (pv 4) pa_nil)) (pe_slice sl_list (pv 3) (po_some (pe_indexI K (pv 3) (pe_ix ix_tup (pv 1) (pv 4) (fun _ _=>rfl)))) po_none))))))
  (pss_one (ps_ret pe_bl))))))))),?_⟩
  have no:¬ RightD d→(false=true ↔ RightD d):=fun n=>⟨(fun z=>by cases z),fun z=>absurd z n⟩
  obtain ⟨t1,a1,a2⟩:=td_tup (K:=K) td
  refine ⟨_,rfl,_,t1, "tuple", _,rfl,a1,a2,_,rfl,?_⟩
  by_cases ct:isTupD d=true
  rotate_left
  · refine iteA (by rw [Bool.eq_false_iff.mpr ct];rfl) ?_
    exact q false H (Same.refl H) (no fun ⟨us,z,e,_⟩=>ct (by rw [e];rfl))
  refine iteB (by rw [ct];rfl) ?_
  obtain ⟨a,xs,ds,rfl,rfl,ha,tds⟩:=isTup_ex td ct
  have xl:=tds.len
  refine ⟨_,rfl,a,_,rfl,.inr (SqT.of ha),rfl,_,rfl,?_⟩
  by_cases cl:xs.length=2
  rotate_left
  · refine iteA (by simp;omega) ?_
    exact q false H (Same.refl H) (no fun ⟨us,z,e,_⟩=>cl (by rw [xl];injection e with e;rw [e];rfl))
  refine iteB (by rw [cl];simp) ?_
  obtain ⟨x,y,rfl⟩:∃ x y,xs=[x,y]:=by
    match xs,cl with
    | [x,y],_=>exact ⟨x,y,rfl⟩
  obtain ⟨dx,ds2,rfl,tx,t2⟩:∃ dx ds2,ds=dx :: ds2∧Td H x dx∧Tds H [y] ds2:=by
    cases tds with
    | cons tx t2=>exact ⟨_,_,rfl,tx,t2⟩
  obtain ⟨dy,rfl,ty⟩:∃ dy,ds2=[dy]∧Td H y dy:=by
    cases t2 with
    | cons ty t3=>cases t3;exact ⟨_,rfl,ty⟩
  have shy:=sh dx dy rfl
  have inv:∀ {us:List Int} {z:Str},PyData.tuple [dx,dy]=.tuple [.tuple (us.map .int),.str z]→dx=.tuple (us.map .int)∧dy=.str z:=fun {us z} e=>by
    injection e with e
    injection e with ea eb
    injection eb with eb _
    exact ⟨ea,eb⟩
  obtain ⟨t2,b1,b2⟩:=td_tup (K:=K) tx
  refine ⟨_,rfl,a,_,_,_,rfl,rfl,SqT.of ha,rfl,_,t2, "tuple", _,rfl,b1,b2,_,rfl,?_⟩
  by_cases cu:isTupD dx=true
  rotate_left
  · refine iteA (by rw [Bool.eq_false_iff.mpr cu];rfl) ?_
    exact q false H (Same.refl H) (no fun ⟨us,z,e,_⟩=>cu (by rw [(inv e).1];rfl))
  refine iteB (by rw [cu];rfl) ?_
  obtain ⟨u,us0,dus,rfl,rfl,hu,tdu⟩:=isTup_ex tx cu
  have ul:=tdu.len
  refine ⟨_,rfl,a,_,rfl,SqT.of ha,rfl,_,_,rfl,_,_,rfl,rfl,?_⟩
  obtain ⟨t3,c1,c2⟩:=td_str (K:=K) ty
  refine ⟨_,rfl,_,t3, "str", _,rfl,c1,c2,_,rfl,?_⟩
  by_cases cs:isStrD dy=true
  rotate_left
  · refine iteA (by rw [Bool.eq_false_iff.mpr cs];rfl) ?_
    exact q false H (Same.refl H) (no fun ⟨us,z,e,_⟩=>cs (by rw [(inv e).2];rfl))
  refine iteB (by rw [cs];rfl) ?_
  obtain ⟨z,rfl,rfl⟩:=isStr_ex ty cs
  obtain ⟨zl,zc⟩:=shy z rfl
  have zb:z.length≤sizeLine:=Nat.le_of_lt (small1000 (by omega))
  refine ⟨_,rfl,u,_,rfl,.inr (SqT.of hu),_,rfl,z,rfl,zb,rfl,_,rfl,?_⟩
  by_cases cl2:us0.length=z.length
  rotate_left
  · refine iteA (by simp;omega) ?_
    refine q false H (Same.refl H) (no fun ⟨us,z',e,l,_⟩=>cl2 ?_)
    obtain ⟨e1,e2⟩:=inv e
    injection e1 with e1
    injection e2 with e2
    rw [ul,e1,List.length_map,l,e2]
  refine iteB (by rw [cl2];simp) ?_
  refine ⟨_,rfl,u,_,rfl,.inr (SqT.of hu),_,_,rfl,rfl,_,rfl,?_⟩
  by_cases c60:1≤us0.length∧us0.length≤60
  rotate_left
  · have bad:¬ RightD (.tuple [.tuple dus,.str z]):=fun ⟨us,z',e,l,l1,l6,_⟩=>c60 (by
      obtain ⟨e1,e2⟩:=inv e
      injection e2 with e2
      rw [cl2,e2];omega)
    by_cases c1':1≤us0.length
    · refine iteA (decide_eq_true (by omega)) ?_
      refine ⟨_,_,rfl,rfl,_,rfl,?_⟩
      refine iteA (by rw [decide_eq_false (by omega)];rfl) ?_
      exact q false H (Same.refl H) (no bad)
    · refine iteB (decide_eq_false (by omega)) ?_
      refine ⟨_,rfl,iteT ?_⟩
      exact q false H (Same.refl H) (no bad)
  obtain ⟨l1,l60⟩:=c60
  refine iteA (decide_eq_true (by omega)) ?_
  refine ⟨_,_,rfl,rfl,_,rfl,?_⟩
  refine iteB (by rw [decide_eq_true (by omega)];rfl) ?_
  have zs:z.cps.size≤900:=zl
  refine ⟨_,rfl,z,rfl,fun r1 hr1=>?_⟩
  refine comp_str (by omega) (fun i ys HX=>HX r1=some (.lst ys)∧Same H HX∧ys=((z.cps.toList.take i).filter fun c=>!lwB c).map fun c=>V.str ⟨#[c]⟩)
    (fun i ys HX h=>⟨h.1,by
      rw [h.2.2,List.length_map]
      have:=List.length_filter_le (fun c=>!lwB c) (z.cps.toList.take i)
      rw [List.length_take] at this;omega⟩) ⟨upd_same,(Same.refl H).new hr1,rfl⟩ ?_ ?_
  rotate_left
  · rintro i ch ys HX hc ⟨g1,g2,rfl⟩
    have hc':z.cps.toList[i]?=some ch:=by rw [← Array.getElem?_toList] at hc;exact hc
    have tk:z.cps.toList.take (i+1)=z.cps.toList.take i++[ch]:=by rw [List.take_succ,hc'];rfl
    refine ⟨rfl,_,rfl,_,_,rfl,rfl,_,rfl,?_⟩
    rw [in_abc (zc ch (List.mem_of_getElem? hc'))]
    refine ite2 (fun cc=>?_) (fun cc=>?_)
    · refine ⟨_,rfl,g1,upd_same,g2.write hr1,?_⟩
      rw [tk,List.filter_append,List.filter_cons_of_pos (p:=fun c=>!lwB c) cc,List.map_append];rfl
    · refine ⟨g1,g2,?_⟩
      rw [tk,List.filter_append,List.filter_cons_of_neg (p:=fun c=>!lwB c) cc];simp
  rintro ys H1 ⟨g1,s1,rfl⟩
  rw [← Array.length_toList,List.take_length] at g1
  refine ⟨(by show 0≤sizeLine;decide),fun v1 hv1=>?_⟩
  have ne1:r1≠v1:=ne_of_none g1 hv1
  have s2:Same H (upd H1 v1 (.lst [])):=s1.new hv1
  refine ⟨r1,v1,_,rfl,rfl,SqL.of (by rw [upd_ne ne1];exact g1),SqL.of upd_same,_,rfl,?_⟩
  show (fun HH=>_) (upd H1 v1 (.lst []))
  generalize upd H1 v1 (.lst [])=H2 at s2
  by_cases low:∀ c∈z.cps.toList,lwB c=true
  rotate_left
  · refine iteA ?_ ?_
    · rw [List.isEmpty_map]
      cases e:(z.cps.toList.filter fun c=>!lwB c) with
      | nil=>exact absurd (filt_nil.mp e) low
      | cons _ _=>rfl
    · refine q false H2 s2 (no fun ⟨us,z',e,_,_,_,lw,_⟩=>low fun c hc=>lwB_iff.mpr (lw c ?_))
      obtain ⟨_,e2⟩:=inv e
      injection e2 with e2
      rw [← e2];exact hc
  refine iteB (by rw [filt_nil.mpr low];rfl) ?_
  have hu2:=s2 _ _ hu
  refine ⟨_,rfl,u,rfl,⟨_,SqT.of hu2⟩,fun r3 hr3=>?_⟩
  refine L2.comp_tupl (K:=K) (a:=u) (xs:=us0) (by omega) (fun i ys HX=>HX r3=some (.lst ys)∧Same H2 HX∧(ys=[] ↔ ∀ d∈dus.take i,wholeD d=true)∧ys.length≤i)
    (fun i ys HX h=>SqT.of (h.2.1 _ _ hu2)) (fun i ys HX h=>⟨h.1,h.2.2.2⟩) ⟨upd_same,(Same.refl H2).new hr3,by simp,Nat.le_refl _⟩ ?_ ?_
  rotate_left
  · rintro i x ys HX hx ⟨g3,g4,g5,g6⟩
    obtain ⟨dx,ex,tx⟩:=tdu.get hx
    have txX:=(tx.same s2).same g4
    obtain ⟨t4,d1,d2⟩:=td_int (K:=K) txX
    obtain ⟨t5,e1,e2⟩:=td_bl (K:=K) txX
    have tk:dus.take (i+1)=dus.take i++[dx]:=by rw [List.take_succ,ex];rfl
    have all1:(∀ d∈dus.take (i+1),wholeD d=true) ↔ (∀ d∈dus.take i,wholeD d=true)∧wholeD dx=true:=by
      rw [tk]
      constructor
      · exact fun h=>⟨fun d hd=>h d (List.mem_append_left _ hd),h dx (by simp)⟩
      · rintro ⟨h1,h2⟩ d hd
        rcases List.mem_append.mp hd with m | m
        · exact h1 d m
        · rw [List.mem_singleton.mp m];exact h2
    have put:wholeD dx=false→HX r3=some (.lst ys)∧(upd HX r3 (.lst (ys++[x])) r3=some (.lst (ys++[x]))∧Same H2 (upd HX r3 (.lst (ys++[x])))∧(ys++[x]=[] ↔ ∀ d∈dus.take (i+1),wholeD d=true)∧(ys++[x]).length≤i+1):=fun wf=>by
      refine ⟨g3,upd_same,g4.write hr3,⟨fun h=>by simp at h,fun h=>?_⟩,by rw [List.length_append,List.length_singleton];omega⟩
      have:=(all1.mp h).2
      rw [wf] at this;cases this
    refine ⟨rfl,_,rfl,_,t4, "int", _,rfl,d1,d2,_,rfl,?_⟩
    by_cases ci:isIntD dx=true
    rotate_left
    · refine iteA (by rw [Bool.eq_false_iff.mpr ci];rfl) ?_
      exact ⟨_,rfl,put (by cases dx <;> first | rfl | exact absurd rfl ci)⟩
    refine iteB (by rw [ci];rfl) ?_
    refine ⟨_,rfl,_,t5, "bool", _,rfl,e1,e2,_,rfl,ite2 (fun cb=>?_) (fun cb=>?_)⟩
    · exact ⟨_,rfl,put (by cases dx <;> first | rfl | cases cb)⟩
    · have wt:wholeD dx=true:=by cases dx <;> first | rfl | exact absurd rfl cb | cases ci
      exact ⟨g3,g4,by rw [all1,g5];exact ⟨fun h=>⟨h,wt⟩,fun h=>h.1⟩,by omega⟩
  rintro ys H3 ⟨g3,s3,g5,_⟩
  rw [ul,List.take_length] at g5
  refine ⟨(by show 0≤sizeLine;decide),fun v2 hv2=>?_⟩
  have ne2:r3≠v2:=ne_of_none g3 hv2
  have s4:Same H2 (upd H3 v2 (.lst [])):=s3.new hv2
  refine ⟨r3,v2,_,rfl,rfl,SqL.of (by rw [upd_ne ne2];exact g3),SqL.of upd_same,_,rfl,?_⟩
  show (fun HH=>_) (upd H3 v2 (.lst []))
  generalize upd H3 v2 (.lst [])=H4 at s4
  have s04:=s2.trans s4
  by_cases wh:∀ d∈dus,wholeD d=true
  rotate_left
  · refine iteA ?_ ?_
    · cases ys with
      | nil=>exact absurd (g5.mp rfl) wh
      | cons _ _=>rfl
    · refine q false H4 s04 (no fun ⟨us,z',e,_⟩=>wh ?_)
      obtain ⟨e1,_⟩:=inv e
      injection e1 with e1
      rw [e1]
      intro d hd
      obtain ⟨i,_,rfl⟩:=List.mem_map.mp hd
      rfl
  refine iteB (by rw [g5.mpr wh];rfl) ?_
  obtain ⟨us,rfl,rfl⟩:=wholes_ints tdu wh
  rw [List.length_map] at l1 l60 cl2
  have inj:∀ l l':List Int,l.map PyData.int=l'.map PyData.int→l=l':=fun l l' e=>(List.map_inj_right (fun a b h=>by injection h)).mp e
  have good:RightD (.tuple [.tuple (us.map .int),.str z]) ↔ R.GrOk us:=by
    constructor
    · rintro ⟨us',z',e,_,_,_,_,g⟩
      obtain ⟨e1,_⟩:=inv e
      rw [inj us us' (by injection e1)];exact g
    · exact fun g=>⟨us,z,rfl,cl2,by omega,by omega,fun c hc=>lwB_iff.mp (low c hc),g⟩
  have hu4:=s4 _ _ hu2
  refine ⟨_,rfl,u,_,_,_,rfl,rfl,SqT.of hu4,ints_at (by decide) (by omega),_,_,rfl,rfl,rfl,_,rfl,?_⟩
  by_cases r0:us.getD 0 0=-1
  rotate_left
  · refine iteA (by show (!decide (V.int (us.getD 0 0)=V.int (0 - 1)))=true;rw [decide_eq_false (fun e=>r0 (by injection e))];rfl) ?_
    exact q false H4 s04 (no fun r=>r0 (good.mp r).root)
  refine iteB (by show (!decide (V.int (us.getD 0 0)=V.int (0 - 1)))=false;rw [r0];simp) ?_
  refine ⟨(by show 1≤sizeLine;decide),fun c0 hc0=>?_⟩
  have s5:Same H4 (upd H4 c0 (.lst [.int 0])):=(Same.refl H4).new hc0
  have h5:upd H4 c0 (.lst [.int 0]) c0=some (.lst [.int 0]):=upd_same
  show (fun HH=>_) (upd H4 c0 (.lst [.int 0]))
  generalize upd H4 c0 (.lst [.int 0])=H5 at s5 h5
  have hu5:=s5 _ _ hu4
  have lm:(us.map V.int).length=us.length:=List.length_map _
  refine ⟨_,rfl,u,_,rfl,.inr (SqT.of hu5),_,_,rfl,⟨by decide,by decide,by omega,by omega⟩,?_⟩
  rw [lm]
  have en:(((us.length:Nat):Int) - 1).toNat=us.length - 1:=by omega
  rw [en]
  have o1:us.take (1+0)=[-1]:=by
    cases us with
    | nil=>simp at l1
    | cons x r=>rw [show x=-1 from r0];simp
  refine for_range (lo:=1) (n:=us.length - 1) (fun i σ H'=>∃ (o4:Option V) (cr:Addr),σ=[some (.ref a),some (.ref u),some (.str z),some (.ref cr),o4]∧Same H5 H'∧R.GrOk (us.take (1+i))∧H' cr=some (.lst ((fc (us.take (1+i)) i).map V.int))) ⟨none,c0,rfl,Same.refl H5,by rw [o1];exact R.GrOk.one,by rw [o1];exact h5⟩ ?_ ?_
  · rintro i σ H' hi ⟨o4,cr,rfl,sX,g,hcr⟩
    have huX:=sX _ _ hu5
    have pl:1+i < us.length:=by omega
    have tk:(us.take (1+i)).length=1+i:=by rw [List.length_take];omega
    have ex:us=us.take (1+i)++us.getD (1+i) 0 :: us.drop (1+i+1):=by
      conv=>lhs;rw [← List.take_append_drop (1+i) us]
      rw [List.drop_eq_getElem_cons pl,List.getD_eq_getElem?_getD,List.getElem?_eq_getElem pl];rfl
    have nx:us.take (1+(i+1))=us.take (1+i)++[us.getD (1+i) 0]:=by
      rw [show 1+(i+1)=(1+i)+1 by omega,List.take_succ,List.getElem?_eq_getElem pl,List.getD_eq_getElem?_getD,List.getElem?_eq_getElem pl];rfl
    have iff:=R.gr_next (v:=us.getD (1+i) 0) g (by omega)
    rw [tk] at iff
    have at1:=ints_at (us:=us) (i:=1+(i:Int)) (by omega) (by omega)
    rw [show (1+(i:Int)).toNat=1+i by omega] at at1
    have mem:us.getD (1+i) 0∈fc (us.take (1+i)) i ↔ R.GrOk (us.take (1+i)++[us.getD (1+i) 0]):=by
      rw [← iff,fc,List.mem_cons,show 1+i - 1=i by omega]
      constructor
      · rintro (h | h)
        · exact .inl (by omega)
        · exact .inr h
      · rintro (h | h)
        · exact .inl (by omega)
        · exact .inr h
    refine ⟨_,rfl,_,rfl,u,_,_,_,rfl,rfl,SqT.of huX,at1,_,rfl,cr,_,rfl,.inl (SqL.of hcr),rfl,flat_ints _,?_⟩
    rw [R.inV_int]
    refine ⟨_,rfl,?_⟩
    by_cases cm:us.getD (1+i) 0∈fc (us.take (1+i)) i
    rotate_left
    · refine iteA (by rw [decide_eq_false cm];rfl) ?_
      refine q false _ (s04.trans (s5.trans sX)) (no fun r=>cm (mem.mpr ?_))
      have gg:=good.mp r
      rw [ex] at gg
      exact R.gr_pre g gg
    refine iteB (by rw [decide_eq_true cm];rfl) ?_
    have g2:=mem.mp cm
    have t1:=R.gr_lab g (by omega)
    have fl:=fc_len t1 (k:=i) (by omega)
    refine ⟨_,rfl,(by show 1≤sizeLine;decide),fun n1 hn1=>?_⟩
    have s6:Same H' (upd H' n1 (.lst [.int (1+(i:Int))])):=(Same.refl H').new hn1
    have h6:upd H' n1 (.lst [.int (1+(i:Int))]) n1=some (.lst [.int (1+(i:Int))]):=upd_same
    show (fun HH=>_) (upd H' n1 (.lst [.int (1+(i:Int))]))
    generalize upd H' n1 (.lst [.int (1+(i:Int))])=H6 at s6 h6
    have hcr6:=s6 _ _ hcr
    refine ⟨_,rfl,_,rfl,.inl ⟨rfl,_,SqL.of hcr6⟩,_,rfl,_,rfl,u,_,_,_,rfl,rfl,SqT.of (s6 _ _ huX),at1,cr,fc (us.take (1+i)) i,us.getD (1+i) 0,rfl,rfl,hcr6,cm,by omega,?_⟩
    refine ⟨_,rfl,cr,_,rfl,SqL.of hcr6,fun n2 hn2=>?_⟩
    have ecut:cutV ((fc (us.take (1+i)) i).map V.int) (some (((fc (us.take (1+i)) i).idxOf (us.getD (1+i) 0):Nat):Int)) none=(fc (us.take (1+i)) (us.getD (1+i) 0).toNat).map V.int:=by
      rw [← fc_drop t1 (i+1) i (Nat.lt_succ_self _) (by omega) _ cm]
      unfold cutV
      rw [HT.sIx_nat,HT.sIx_none,List.length_map,Nat.min_eq_left (Nat.le_of_lt (List.idxOf_lt_length_of_mem cm)),List.map_drop,List.take_of_length_le (by rw [List.length_drop,List.length_map];exact Nat.le_refl _)]
    rw [ecut]
    have gnext:=fc_next g (by omega) g2 (by rw [List.length_append,tk,List.length_singleton];omega)
    rw [tk] at gnext
    have fl2:(fc (us.take (1+i)) (us.getD (1+i) 0).toNat).length≤60:=by
      have up:=g2.up (1+i) (by omega) (by rw [List.length_append,tk,List.length_singleton];omega)
      have ev:(us.take (1+i)++[us.getD (1+i) 0]).getD (1+i) 0=us.getD (1+i) 0:=by rw [R.getD_app,if_neg (by omega),tk,Nat.sub_self];rfl
      rw [ev] at up
      have:=fc_len t1 (k:=(us.getD (1+i) 0).toNat) (by omega)
      omega
    have s7:Same H6 (upd H6 n2 (.lst ((fc (us.take (1+i)) (us.getD (1+i) 0).toNat).map V.int))):=(Same.refl H6).new hn2
    have h7:upd H6 n2 (.lst ((fc (us.take (1+i)) (us.getD (1+i) 0).toNat).map V.int)) n2=some (.lst ((fc (us.take (1+i)) (us.getD (1+i) 0).toNat).map V.int)):=upd_same
    show (fun HH=>_) (upd H6 n2 (.lst ((fc (us.take (1+i)) (us.getD (1+i) 0).toNat).map V.int)))
    generalize upd H6 n2 (.lst ((fc (us.take (1+i)) (us.getD (1+i) 0).toNat).map V.int))=H7 at s7 h7
    refine ⟨n1,n2,_,_,rfl,rfl,s7 _ _ h6,h7,Nat.le_of_lt (small1000 (by rw [List.length_map];simp only [List.length_cons,List.length_nil];omega)),fun n3 hn3=>?_⟩
    refine ⟨_,n3,rfl,((sX.trans s6).trans s7).new hn3,by rw [nx];exact g2,?_⟩
    rw [upd_same,nx,show (i+1)=1+i by omega,gnext,List.map_cons,show (((1+i:Nat)):Int)=1+(i:Int) by omega];rfl
  · rintro σ H' ⟨o4,cr,rfl,sX,g,_⟩
    have:us.take (1+(us.length - 1))=us:=List.take_of_length_le (by omega)
    rw [this] at g
    exact q true _ (s04.trans (s5.trans sX)) ⟨fun _=>good.mpr g,fun _=>rfl⟩
end
end S01
namespace L2
open PySem PySem.Spec PyProof.Rows PySem.W
theorem vals_by:∀ {xs:List V} {us:List Value},xs.length=us.length→(∀ (j:Nat) (x:V) (u:Value),xs[j]?=some x→us[j]?=some u→RelV x u)→Vals xs us
  | [],[],_,_=>.nil
  | [],_ :: _,h,_=>by cases h
  | _ :: _,[],h,_=>by cases h
  | x :: xs,u :: us,h,r=>.cons (r 0 x u rfl rfl) (vals_by (by simpa using h) fun j y v hy hv=>r (j+1) y v (by simpa using hy) (by simpa using hv))
section
variable {X:Cx}
def rSlU:V→Option Int→Option Int→Hp→VK→Prop:=fun x lo hi H Q=>∃ a xs,x=.ref a∧H a=some (.tup xs)∧∀ r H',Same H H'→H' r=some (.tup (cutV xs lo hi))→Q (.ref r) H'
theorem cut_whole {xs:List V} {lo hi:Option Int} (h:HT.sIx xs.length 0 lo=0∧HT.sIx xs.length xs.length hi=xs.length):cutV xs lo hi=xs:=by
  unfold cutV
  rw [h.1,h.2,List.drop_zero,Nat.sub_zero,List.take_length]
theorem sl_tupU:SlR X rSlU:=by
  intro pins s σ H x v vl vu lo hi sl Q I rx hs pl pu h
  obtain ⟨a,xs,rfl,hx,q⟩:=h
  refine sl_tupA pins s σ H _ v vl vu lo hi sl Q I rx hs pl pu ⟨a,xs,rfl,SqT.of hx,fun w=>?_,fun _ p hp=>?_⟩
  · exact q a H (Same.refl H) (by rw [cut_whole w];exact hx)
  · exact q p _ ((Same.refl H).new hp) upd_same
def rCatU:R2:=fun x y H Q=>∃ a b xs ys,x=.ref a∧y=.ref b∧H a=some (.tup xs)∧H b=some (.tup ys)∧xs.length+ys.length≤sizeLine∧∀ r H',Same H H'→H' r=some (.tup (xs++ys))→Q (.ref r) H'
theorem op_catU:OpR X (binaryOp .Add) rCatU:=by
  intro pins s σ H x y v u Q I rx ry h
  obtain ⟨a,b,xs,ys,rfl,rfl,ha,hb,hz,q⟩:=h
  refine op_catA pins s σ H _ _ v u Q I rx ry ⟨a,b,xs,ys,rfl,rfl,SqT.of ha,SqT.of hb,hz,fun e=>?_,fun _ e=>?_,fun _ _ p hp=>?_⟩
  · exact q b H (Same.refl H) (by rw [e,List.nil_append];exact hb)
  · exact q a H (Same.refl H) (by rw [e,List.append_nil];exact ha)
  · exact q p _ ((Same.refl H).new hp) upd_same
theorem call_list_txt (hc:X.calm=true):CallR X (.type "list") (fun xs H Q=>∃ z,xs=[.str z]∧z.length≤10000∧∀ l,H l=none→Q (.ref l) (upd H l (.lst (signs z)))):=by
  intro pins s σ H xs us Q I r h
  obtain ⟨z,rfl,zl,q⟩:=h
  obtain ⟨u,rfl,t,rfl⟩:=vals1 r
  have hz:z.cps.size≤10000:=zl
  have hs:10000≤sizeLine:=by rw [sizeLine_eq];decide
  refine call_list_str (I.ok.hd hc) z t (fun h' tk acc' c' kp e it=>?_) (by omega)
  have vals:Vals (signs z) acc'.toList:=by
    refine vals_by (by unfold signs;rw [List.length_map,Array.length_toList,Array.length_toList,it.1]) fun j x u hx hu=>?_
    obtain ⟨c,tk',hc',rfl⟩:=it.2 j u (by rw [← Array.getElem?_toList];exact hu)
    unfold signs at hx
    rw [List.getElem?_map,Array.getElem?_toList,hc'] at hx
    cases hx
    exact ⟨tk',rfl⟩
  exact ⟨.ref s.heap.objs.size,_,I.laid (t':=tk) kp (Nat.le_refl _) (show ObjOk X.prog X.w _ h' _ (.lst (signs z)) from ⟨by unfold signs;rw [List.length_map,Array.length_toList];omega,acc'.toList,c',vals,by simpa using e⟩),rfl,q _ (I.hok.fresh (Nat.le_refl _))⟩
end
theorem Gd.big {hd hl:Bool} {i:Int} (h:i.natAbs < 10 ^ 60):Gd hd hl 201 0 (.int i):=by
  have e:i.natAbs < 2 ^ 200:=Nat.lt_trans h (by decide)
  have lg:i.natAbs≠0→i.natAbs.log2 < 200:=fun n0=>(Nat.log2_lt n0).mpr e
  have l0:i.natAbs.log2 < 200:=by
    by_cases n0:i.natAbs=0
    · rw [n0];decide
    · exact lg n0
  refine ⟨?_,?_,?_,by simp only [PyData.depth];omega,fun _=>by simp only [PyData.hasDict],fun _=>by simp only [noList]⟩
  · simp only [PyData.showable,decide_eq_true_eq];omega
  · simp only [PyData.leavesShort,decide_eq_true_eq]
    have e:=int_text_length_le10 (k:=60) (by decide) h
    show (Str.ofString (toString i)).length≤61
    rw [PySem.ofString_length];exact e
  · simp only [PyData.weight]
    split <;> omega
end L2
namespace S01
open PySem L2 W7
theorem deck_neT {H:Hp} {p r:Addr} {c:Int} {xs:List V} (h:Deck H p c) (e:H r=some (.tup xs)):r≠p:=by
  rintro rfl
  obtain ⟨_,_,_,e2,_⟩:=h
  rw [e] at e2;cases e2
theorem dlp {H:Hp} {ps:List Addr} {r:Addr} {o:HO} (h:H r=some o) (n:r ∉ ps):dl ps H r=some o:=dl_at h n
theorem dlk {H H':Hp} {p:Addr} {ps:List Addr} {c:Int} (h:Kd p c H H') (m:p∈ps):Same (dl ps H) (dl ps H'):=dl_keep fun b o n e=>h.keep b o (fun z=>n (z ▸ m)) e
theorem dls {H H':Hp} {ps:List Addr} (h:Same H H'):Same (dl ps H) (dl ps H'):=dl_keep fun b o n e=>h b o e
structure Hid (p:Addr) (ps:List Addr) (H:Hp):Prop where
  mem:p∈ps
  lst:∀ q∈ps,∃ xs,H q=some (.lst xs)
theorem Hid.kd {p:Addr} {ps:List Addr} {H H':Hp} {c:Int} (h:Hid p ps H) (k:Kd p c H H'):Hid p ps H':=⟨h.mem,fun q hq=>by
  by_cases e:q=p
  · obtain ⟨_,_,_,e2,_⟩:=k.deck
    rw [e];exact ⟨_,e2⟩
  · obtain ⟨xs,hx⟩:=h.lst q hq
    exact ⟨xs,k.keep _ _ e hx⟩⟩
theorem Hid.neT {p r:Addr} {ps:List Addr} {H:Hp} {xs:List V} (h:Hid p ps H) (e:H r=some (.tup xs)):r ∉ ps:=fun m=>by
  obtain ⟨ys,e2⟩:=h.lst r m
  rw [e] at e2;cases e2
theorem Hid.new {p r:Addr} {ps:List Addr} {H:Hp} (h:Hid p ps H) (e:H r=none):r ∉ ps:=fun m=>by
  obtain ⟨ys,e2⟩:=h.lst r m
  rw [e] at e2;cases e2
def Sml (us:List Int):Prop:=∀ x∈us,-1≤x∧x≤60
theorem sml_gs {us:List Int} (h:Sml us) (l:us.length≤125) {hd hl:Bool} {e:Nat}:Gs hd hl 5300 e (us.map .int):=by
  refine (Gs.all (c:=41) (e:=e) fun d hm=>?_).mono (by rw [List.length_map];omega) (Nat.le_refl _)
  obtain ⟨x,hx,rfl⟩:=List.mem_map.mp hm
  have:=h x hx
  have e12:(10:Nat) ^ 12=1000000000000:=by decide
  exact (Gd.int (by omega)).mono (Nat.le_refl _) (Nat.zero_le _)
theorem cut_ints (us:List Int) (lo hi:Option Int):∃ vs:List Int,cutV (us.map V.int) lo hi=vs.map V.int∧(∀ x∈vs,x∈us)∧vs.length≤us.length:=by
  unfold cutV
  rw [← List.map_drop,← List.map_take]
  exact ⟨_,rfl,fun x h=>List.mem_of_mem_drop (List.mem_of_mem_take h),by rw [List.length_take,List.length_drop];omega⟩
theorem at_in {α:Type} {xs:List α} {i:Int} (h0:0≤i) (h1:i < (xs.length:Int)):∃ v,atI xs i=some v∧v∈xs:=by
  have hk:i.toNat < xs.length:=by omega
  have e:=atI_nat (xs:=xs) (j:=i.toNat) (List.getElem?_eq_getElem hk)
  rw [show ((i.toNat:Nat):Int)=i by omega] at e
  exact ⟨_,e,List.getElem_mem hk⟩
theorem num_txt {i:Int} (lo:-1≤i) (hi:i≤60):(∀ c∈(Str.ofString (toString i)).cps.toList,c < 1000)∧(Str.ofString (toString i)).cps.size≤2:=by
  have all:∀ j:Fin 62,(∀ c∈(Str.ofString (toString (((j:Nat):Int) - 1))).cps.toList,c < 1000)∧(Str.ofString (toString (((j:Nat):Int) - 1))).cps.size≤2:=by decide +kernel
  have a:=all ⟨(i+1).toNat,by omega⟩
  rw [show ((((⟨(i+1).toNat,by omega⟩:Fin 62):Nat):Int) - 1)=i by show (((i+1).toNat:Nat):Int) - 1=i;omega] at a
  exact a
def Tg (ps:List Addr) (H:Hp) (v:V) (c e:Nat) (S:PyData→Prop):Prop:=∃ d hd hl,Td (dl ps H) v d∧Gd hd hl c e d∧(hd=false∨hl=false)∧S d
abbrev Any:PyData→Prop:=fun _=>True
theorem Tg.mono {ps:List Addr} {H:Hp} {v:V} {c e c' e':Nat} {S:PyData→Prop} (h:Tg ps H v c e S) (hc:c≤c') (he:e≤e'):Tg ps H v c' e' S:=let ⟨d,hd,hl,t,g,o,s⟩:=h;⟨d,hd,hl,t,g.mono hc he,o,s⟩
theorem Tg.same {ps:List Addr} {H H':Hp} {v:V} {c e:Nat} {S:PyData→Prop} (h:Tg ps H v c e S) (k:Same (dl ps H) (dl ps H')):Tg ps H' v c e S:=let ⟨d,hd,hl,t,g,o,s⟩:=h;⟨d,hd,hl,t.same k,g,o,s⟩
theorem tg_int {ps:List Addr} {H:Hp} {i:Int} (h:i.natAbs < 10 ^ 60):Tg ps H (.int i) 250 0 Any:=⟨.int i,false,false,.int i,(Gd.big h).mono (by omega) (Nat.le_refl _),.inl rfl,trivial⟩
theorem tg_tup {ps:List Addr} {H:Hp} {r:Addr} {vs ws:List Int} {x:V} (h:H r=some (.tup (vs.map V.int++[x]++ws.map V.int))) (n:r ∉ ps) (sv:Sml vs) (sw:Sml ws) (lv:vs.length≤125) (lw:ws.length≤125) (t:Tg ps H x 250 2 Any):Tg ps H (.ref r) 11000 3 Any:=by
  obtain ⟨d,hd,hl,td,g,o,_⟩:=t
  refine ⟨.tuple (vs.map .int++[d]++ws.map .int),hd,hl,.tup (dlp h n) (((Tds.ints vs).append (.one td)).append (.ints ws)),?_,o,trivial⟩
  refine (Gd.tup (((sml_gs sv lv (e:=2)).append (Gs.one g)).append (sml_gs sw lw))).mono (by omega) (by omega)
theorem tg_ints {ps:List Addr} {H:Hp} {r:Addr} {vs:List Int} (h:H r=some (.tup (vs.map V.int))) (n:r ∉ ps) (sv:Sml vs) (lv:vs.length≤125):Tg ps H (.ref r) 11000 3 Any:=
  ⟨.tuple (vs.map .int),false,false,.tup (dlp h n) (Tds.ints vs),(Gd.tup (sml_gs sv lv (e:=2))).mono (by omega) (by omega),.inl rfl,trivial⟩
theorem tg_lst {ps:List Addr} {H:Hp} {r:Addr} {vs:List Int} (h:H r=some (.lst (vs.map V.int))) (n:r ∉ ps) (sv:Sml vs) (lv:vs.length≤125):Tg ps H (.ref r) 11000 3 Any:=
  ⟨.list (vs.map .int),false,true,.lst (dlp h n) (Tds.ints vs),(Gd.lst (sml_gs sv lv (e:=2))).mono (by omega) (by omega),.inl rfl,trivial⟩
theorem lg60 {i:Int} (lo:-1≤i) (hi:i≤60):i.natAbs.log2 < 1920:=by
  by_cases z:i.natAbs=0
  · rw [z];decide
  · have e6:(2:Nat) ^ 6=64:=by decide
    exact Nat.lt_trans ((Nat.log2_lt z).mpr (show i.natAbs < 2 ^ 6 by omega)) (by decide)
theorem one_line:1≤sizeLine:=by rw [sizeLine_eq];decide
theorem ixN_in {n:Nat} {i:Int} (h0:0≤i) (h1:i < (n:Int)):ixN n i=some i.toNat:=by unfold ixN;rw [if_pos h0,if_pos h1]
theorem ne_of_none' {H:Hp} {a b:Addr} {o:HO} (h:H b=some o) (e:H a=none):a≠b:=by rintro rfl;rw [h] at e;cases e
section
variable {P:Program} {w:World} {K:PySem.W.Frag} {mg:Str→Option Value} {base:Heap} {k:Nat}
def sp_ubent:Sp:=fun vs H Q _=>∃ (p u:Addr) (us:List Int) (c:Int) (ps:List Addr),vs=[.ref p,.ref u]∧Deck H p c∧Hid p ps H∧0≤c∧c < 900000∧H u=some (.tup (us.map V.int))∧Sml us∧1≤us.length∧us.length≤60∧∀ (v:V) (H':Hp),Kd p (c+3) H H'→Tg ps H' v 11000 3 Any→Q v H'
theorem has_ubent (D:Df K mg "_law_ups_bent" s_law_ups_bent) (B:Blt7 mg) (G_law_take:Has P w K mg base "_law_take" k ["pool", "many"] sp_take):Has P w K mg base "_law_ups_bent" (k+1) ["pool", "ups"] sp_ubent:=by
  refine D.has sc_law_ups_bent (fun _ _ _ _ _ _ us hl=>match us,hl with | [_,_],_=>rfl) (fun vs H Q E h=>by obtain ⟨p,u,us,c,ps,rfl,_⟩:=h;rfl) (fun f cdv A outer s H vs Q E hr h=>?_)
  obtain ⟨p,u,us,c,ps,rfl,dk,hid0,c0,c9,hu,sm,l1,l60,q⟩:=h
  refine ⟨_,(pss_cons (ps_set (i:=2) sc_law_ups_bent.nd rfl (by first | exact Or.inl rfl | exact Or.inr rfl) (pe_callH G_law_take hr rfl (pa_cons (pv 0) (pa_cons pe_int pa_nil))))
  (pss_cons (ps_set (i:=3) sc_law_ups_bent.nd rfl (by first | exact Or.inl rfl | exact Or.inr rfl) (pe_callH G_law_take hr rfl (pa_cons (pv 0) (pa_cons (pe_callB call_len_seq rfl B.len bt_len (pa_cons (pv 1) pa_nil)) pa_nil))))
  (pss_cons (ps_set (i:=4) sc_law_ups_bent.nd rfl (by first | exact Or.inl rfl | exact Or.inr rfl) (pe_callH G_law_take hr rfl (pa_cons (pv 0) (pa_cons (pe_callB call_len_seq rfl B.len bt_len (pa_cons (pv 1) pa_nil)) pa_nil))))
  (pss_cons (ps_set (i:=5) sc_law_ups_bent.nd rfl (by first | exact Or.inl rfl | exact Or.inr rfl) (pe_ix ix_tup (pv 1) (pv 3) (fun _ _=>rfl)))
  (pss_cons (ps_if (pt_cmpR op_lt (pv 2) pe_int (nomark _))
  (pss_cons (ps_set (i:=6) sc_law_ups_bent.nd rfl (by first | exact Or.inl rfl | exact Or.inr rfl) (pe_ix ix_list (pe_lst (pa_cons (pe_op op_add (pv 5) pe_int) (pa_cons (pe_op op_sub (pv 5) pe_int) (pa_cons (pv 4) (pa_cons (pe_op op_pow pe_int pe_int) (pa_cons pe_non (pa_cons (pe_callTy call_str_int rfl B.str_ bt_str (pa_cons (pv 5) pa_nil)) (pa_cons (pe_cmpR op_eq (pv 5) pe_int (nomark _)) (pa_cons (pe_lst (pa_cons (pv 5) pa_nil)) (pa_cons pe_dnewK (pa_cons (pe_tup (pa_cons (pv 5) pa_nil)) (pa_cons (pe_op op_sub (pv 4) pe_int) pa_nil)))))))))))) (pv 2) (fun _ _=>rfl)))
  (pss_one (ps_ret (pe_op op_catU (pe_op op_catU (pe_slice sl_tupU (pv 1) po_none (po_some (pv 3))) (pe_tup (pa_cons (pv 6) pa_nil))) (pe_slice sl_tupU (pv 1) (po_some (pe_op op_add (pv 3) pe_int)) po_none)))))
  pss_nil)
  (pss_cons (ps_if (pt_cmpR op_eq (pv 2) pe_int (nomark _))
  (pss_cons (ps_set (i:=7) sc_law_ups_bent.nd rfl (by first | exact Or.inl rfl | exact Or.inr rfl) (pe_callTy call_list_of rfl B.list_ bt_list (pa_cons (pv 1) pa_nil)))
  (pss_cons (ps_asg (pe_tup (pa_cons (pe_ix ix_tup (pv 1) (pv 4) (fun _ _=>rfl)) (pa_cons (pe_ix ix_tup (pv 1) (pv 3) (fun _ _=>rfl)) pa_nil))) (pg_tup rfl (pgs_cons (pg_sub (pv 7) (pv 3) set_list) (pgs_cons (pg_sub (pv 7) (pv 4) set_list) pgs_nil))))
  (pss_one (ps_ret (pe_callTy call_tuple_of rfl B.tuple_ bt_tuple (pa_cons (pv 7) pa_nil))))))
  pss_nil)
  (pss_one (ps_ret (pe_ix ix_list (pe_lst (pa_cons (pe_op op_catU (pe_slice sl_tupU (pv 1) po_none (po_some (pv 3))) (pe_slice sl_tupU (pv 1) (po_some (pe_op op_add (pv 3) pe_int)) po_none)) (pa_cons (pe_op op_catU (pe_op op_catU (pe_slice sl_tupU (pv 1) po_none (po_some (pv 3))) (pe_tup (pa_cons (pv 5) pa_nil))) (pe_slice sl_tupU (pv 1) (po_some (pv 3)) po_none)) (pa_cons (pe_callTy call_list_of rfl B.list_ bt_list (pa_cons (pv 1) pa_nil)) pa_nil)))) (pe_op op_sub (pv 2) pe_int) (fun _ _=>rfl)))))))))),?_⟩
  have up:u≠p:=deck_neT dk hu
  refine ⟨_,rfl,p,15,c,rfl,dk,by omega,by decide,by decide,fun way H1 w0 w1 k1=>?_⟩
  have hu1:=k1.keep _ _ up hu
  refine ⟨_,rfl,_,rfl,u,_,rfl,.inr (SqT.of hu1),p,_,_,rfl,k1.deck,by omega,by rw [List.length_map];omega,by rw [List.length_map];omega,fun at' H2 a0 a1 k2=>?_⟩
  have hu2:=k2.keep _ _ up hu1
  refine ⟨_,rfl,_,rfl,u,_,rfl,.inr (SqT.of hu2),p,_,_,rfl,k2.deck,by omega,by rw [List.length_map];omega,by rw [List.length_map];omega,fun to' H3 b0 b1 k3=>?_⟩
  have hu3:=k3.keep _ _ up hu2
  rw [List.length_map] at a1 b1
  have kd:Kd p (c+3) H H3:=((k1.trans k2).trans k3).mono (by omega)
  obtain ⟨here,e1,lo,hi⟩:=menu (us:=us) a0 a1 sm
  obtain ⟨there,e2,lo2,hi2⟩:=menu (us:=us) b0 b1 sm
  refine ⟨_,rfl,_,rfl,u,_,_,_,rfl,rfl,SqT.of hu3,e1,?_⟩
  clear k1 k2 k3 hu1 hu2
  have e60:(10:Nat) ^ 60 > 1000:=by decide
  refine ⟨_,rfl,_,_,rfl,rfl,_,rfl,?_⟩
  by_cases c11:way < 11
  · refine iteA (decide_eq_true c11) ?_
    refine ⟨_,rfl,_,_,rfl,rfl,_,rfl,_,_,rfl,rfl,_,rfl,_,_,rfl,rfl,⟨by decide,by decide,by decide⟩,_,rfl,here,rfl,lg60 lo hi,_,rfl,rfl,_,rfl,one_line,fun fl hfl=>?_⟩
    have flp:fl ∉ ps:=(hid0.kd kd).new hfl
    generalize hg1:upd H3 fl _=G1
    have u1:Same H3 G1:=by rw [← hg1];exact (Same.refl H3).new hfl
    have v1:G1 fl=some (.lst [.int here]):=by rw [← hg1,upd_same]
    clear hg1
    have kd1:=kd.same u1
    intro fd hfd
    have fdp:fd ∉ ps:=(hid0.kd kd1).new hfd
    generalize hg2:upd G1 fd _=G2
    have u2:Same G1 G2:=by rw [← hg2];exact (Same.refl G1).new hfd
    have v2:G2 fd=some (.dK []):=by rw [← hg2,upd_same]
    clear hg2
    have kd2:=kd1.same u2
    refine ⟨_,rfl,one_line,fun ft hft=>?_⟩
    have ftp:ft ∉ ps:=(hid0.kd kd2).new hft
    generalize hg3:upd G2 ft _=G3
    have u3:Same G2 G3:=by rw [← hg3];exact (Same.refl G2).new hft
    have v3:G3 ft=some (.tup [.int here]):=by rw [← hg3,upd_same]
    clear hg3
    have kd3:=kd2.same u3
    refine ⟨_,rfl,_,_,rfl,rfl,(by show 11≤sizeLine;rw [sizeLine_eq];decide),fun fw hfw=>?_⟩
    have fwp:fw ∉ ps:=(hid0.kd kd3).new hfw
    generalize hg4:upd G3 fw _=G4
    have u4:Same G3 G4:=by rw [← hg4];exact (Same.refl G3).new hfw
    have v4:G4 fw=some (.lst [.int (here+1),.int (here - 1),.int to',.int (10 ^ 29),.non,.str (Str.ofString (toString here)),.bl (decide (V.int here=V.int 0)),.ref fl,.ref fd,.ref ft,.int (to' - 1)]):=by rw [← hg4,upd_same];rfl
    clear hg4
    have kd4:=kd3.same u4
    have gd:∀ x∈[V.int (here+1),.int (here - 1),.int to',.int (10 ^ 29),.non,.str (Str.ofString (toString here)),.bl (decide (V.int here=V.int 0)),.ref fl,.ref fd,.ref ft,.int (to' - 1)],Tg ps G4 x 250 2 Any:=fun x hx=>by
      have one:Sml [here]:=fun y hy=>by rw [List.mem_singleton.mp hy];exact ⟨lo,hi⟩
      have w1:=u4 _ _ (u3 _ _ (u2 _ _ v1))
      have w2:=u4 _ _ (u3 _ _ v2)
      have w3:=u4 _ _ v3
      have g1:∀ {hd hl:Bool},Gs hd hl 42 1 [PyData.int here]:=fun {hd hl}=>by
        have e12:(10:Nat) ^ 12=1000000000000:=by decide
        exact Gs.one ((Gd.int (by omega)).mono (Nat.le_refl _) (Nat.zero_le _))
      simp only [List.mem_cons,List.not_mem_nil,or_false] at hx
      rcases hx with rfl | rfl | rfl | rfl | rfl | rfl | rfl | rfl | rfl | rfl | rfl
      · exact (tg_int (by omega)).mono (by omega) (by omega)
      · exact (tg_int (by omega)).mono (by omega) (by omega)
      · exact (tg_int (by omega)).mono (by omega) (by omega)
      · exact (tg_int (by decide +kernel)).mono (by omega) (by omega)
      · exact ⟨.none,false,false,.non,Gd.non.mono (by omega) (by omega),.inl rfl,trivial⟩
      · obtain ⟨z1,z2⟩:=num_txt lo hi
        exact ⟨_,false,false,.str _,(Gd.str z1).mono (by omega) (by omega),.inl rfl,trivial⟩
      · exact ⟨_,false,false,.bl _,(Gd.bl _).mono (by omega) (by omega),.inl rfl,trivial⟩
      · exact ⟨.list [.int here],false,true,.lst (dlp w1 flp) (.one (.int _)),(Gd.lst g1).mono (by omega) (by omega),.inl rfl,trivial⟩
      · exact ⟨.dict [],true,false,.dct (dlp w2 fdp) .nil .nil,Gd.dct0.mono (by omega) (by omega),.inr rfl,trivial⟩
      · exact ⟨.tuple [.int here],false,false,.tup (dlp w3 ftp) (.one (.int _)),(Gd.tup g1).mono (by omega) (by omega),.inl rfl,trivial⟩
      · exact (tg_int (by omega)).mono (by omega) (by omega)
    obtain ⟨far,ea,ma⟩:=at_in (xs:=[V.int (here+1),.int (here - 1),.int to',.int (10 ^ 29),.non,.str (Str.ofString (toString here)),.bl (decide (V.int here=V.int 0)),.ref fl,.ref fd,.ref ft,.int (to' - 1)]) (i:=way) w0 (by show way < 11;exact c11)
    have tf:=gd far ma
    refine ⟨_,rfl,fw,_,_,_,rfl,rfl,SqL.of v4,ea,?_⟩
    clear ea ma gd v4 v1 v2 v3
    have s4:Same H3 G4:=((u1.trans u2).trans u3).trans u4
    refine ⟨_,rfl,_,rfl,_,rfl,u,_,rfl,s4 _ _ hu3,fun r1 G5 t1 g1=>⟨_,rfl,one_line,fun r2 hr2=>?_⟩⟩
    obtain ⟨vs,ev,mv,lv⟩:=cut_ints us none (some at')
    have s5:=s4.trans t1
    have u6:Same G5 (upd G5 r2 (.tup [far])):=(Same.refl G5).new hr2
    refine ⟨r1,r2,_,_,rfl,rfl,u6 _ _ g1,upd_same,by rw [ev,List.length_map];exact Nat.le_of_lt (small1000 (show vs.length+1≤1000 by omega)),fun r3 G7 t7 g3=>?_⟩
    have s7:=s5.trans (u6.trans t7)
    refine ⟨_,rfl,_,rfl,_,_,rfl,rfl,_,rfl,u,_,rfl,s7 _ _ hu3,fun r4 G8 t8 g4=>?_⟩
    obtain ⟨ws,ew,mw,lw⟩:=cut_ints us (some (at'+1)) none
    refine ⟨r3,r4,_,_,rfl,rfl,t8 _ _ g3,g4,by rw [ev,ew,List.length_append,List.length_map,List.length_map];exact Nat.le_of_lt (small1000 (show vs.length+1+ws.length≤1000 by omega)),fun r5 G9 t9 g5=>?_⟩
    have s9:=(s7.trans t8).trans t9
    have kd9:=kd.same s9
    rw [ev,ew] at g5
    exact q _ _ kd9 (tg_tup g5 (Hid.neT (hid0.kd kd9) g5) (fun x hx=>sm x (mv x hx)) (fun x hx=>sm x (mw x hx)) (by omega) (by omega) (tf.same (dls ((t1.trans (u6.trans t7)).trans (t8.trans t9)))))
  refine L2.iteB (decide_eq_false c11) ?_
  refine ⟨_,rfl,rfl,_,rfl,?_⟩
  by_cases c11':way=11
  · refine iteA (by rw [c11'];rfl) ?_
    refine ⟨_,rfl,u,_,rfl,.inr (SqT.of hu3),fun l hl=>?_⟩
    have lp:l≠p:=kd.deck.ne hl
    have lu:l≠u:=ne_of_none' hu3 hl
    have kl:=kd.new (o:=.lst (us.map V.int)) hl
    generalize hg1:upd H3 l _=G1
    have u1:Same H3 G1:=by rw [← hg1];exact (Same.refl H3).new hl
    have v1:G1 l=some (.lst (us.map V.int)):=by rw [← hg1,upd_same]
    rw [hg1] at kl
    clear hg1
    refine ⟨_,rfl,_,rfl,u,_,_,_,rfl,rfl,SqT.of (u1 _ _ hu3),e2,_,rfl,_,rfl,u,_,_,_,rfl,rfl,SqT.of (u1 _ _ hu3),e1,(by show 2≤sizeLine;rw [sizeLine_eq];decide),fun tt htt=>?_⟩
    generalize hg2:upd G1 tt _=G2
    have u2:Same G1 G2:=by rw [← hg2];exact (Same.refl G1).new htt
    have v2:G2 tt=some (.tup [.int there,.int here]):=by rw [← hg2,upd_same]
    clear hg2
    have v1':=u2 _ _ v1
    refine ⟨tt,_,rfl,SqT.of v2,rfl,_,_,rfl,_,rfl,_,rfl,l,_,_,_,rfl,rfl,v1',by rw [List.length_map];exact ixN_in a0 a1,_,_,rfl,_,rfl,_,rfl,l,_,_,_,rfl,rfl,upd_same,by rw [List.length_set,List.length_map];exact ixN_in b0 b1,rfl,?_⟩
    refine ⟨_,rfl,l,_,rfl,.inl ⟨SqL.of upd_same,fun r hr3=>?_⟩⟩
    have es:((us.map V.int).set at'.toNat (V.int there)).set to'.toNat (V.int here)=((us.set at'.toNat there).set to'.toNat here).map V.int:=by rw [List.map_set,List.map_set]
    rw [es] at hr3 ⊢
    have k2:=((((kl.same u2).write (q:=l) (o:=.lst ((us.map V.int).set at'.toNat (V.int there))) (kd.fresh hl) lp).write (q:=l) (o:=.lst (((us.set at'.toNat there).set to'.toNat here).map V.int)) (kd.fresh hl) lp).new (o:=.tup (((us.set at'.toNat there).set to'.toNat here).map V.int)) hr3)
    refine q _ _ k2 (tg_ints upd_same (Hid.neT (hid0.kd k2) upd_same) (fun x hx=>?_) (by rw [List.length_set,List.length_set];omega))
    rcases List.mem_or_eq_of_mem_set hx with hx | rfl
    · rcases List.mem_or_eq_of_mem_set hx with hx | rfl
      · exact sm x hx
      · exact ⟨lo2,hi2⟩
    · exact ⟨lo,hi⟩
  refine L2.iteB (decide_eq_false fun e=>c11' (by injection e)) ?_
  obtain ⟨vs,ev,mv,lv⟩:=cut_ints us none (some at')
  obtain ⟨ws,ew,mw,lw⟩:=cut_ints us (some (at'+1)) none
  obtain ⟨xs,ex,mx,lx⟩:=cut_ints us (some at') none
  have ones:∀ {l:List Int},(∀ x∈l,x∈us)→Sml l:=fun {l} h x hx=>sm x (h x hx)
  refine ⟨_,rfl,_,rfl,_,rfl,u,_,rfl,hu3,fun r1 G1 t1 g1=>?_⟩
  refine ⟨_,rfl,_,rfl,_,_,rfl,rfl,_,rfl,u,_,rfl,t1 _ _ hu3,fun r2 G2 t2 g2=>?_⟩
  have s2:=t1.trans t2
  refine ⟨r1,r2,_,_,rfl,rfl,t2 _ _ g1,g2,by rw [ev,ew,List.length_map,List.length_map];exact Nat.le_of_lt (small1000 (show vs.length+ws.length≤1000 by omega)),fun r3 G3 t3 g3=>?_⟩
  rw [ev,ew,← List.map_append] at g3
  have s3:=s2.trans t3
  refine ⟨_,rfl,_,rfl,_,rfl,u,_,rfl,s3 _ _ hu3,fun r4 G4 t4 g4=>⟨_,rfl,one_line,fun r5 hr5=>?_⟩⟩
  have s4:=s3.trans t4
  have u5:Same G4 (upd G4 r5 (.tup [.int here])):=(Same.refl G4).new hr5
  refine ⟨r4,r5,_,_,rfl,rfl,u5 _ _ g4,upd_same,by rw [ev,List.length_map];exact Nat.le_of_lt (small1000 (show vs.length+1≤1000 by omega)),fun r6 G6 t6 g6=>?_⟩
  have s6:=s4.trans (u5.trans t6)
  refine ⟨_,rfl,_,rfl,_,rfl,u,_,rfl,s6 _ _ hu3,fun r7 G7 t7 g7=>?_⟩
  refine ⟨r6,r7,_,_,rfl,rfl,t7 _ _ g6,g7,by rw [ev,ex,List.length_append,List.length_map,List.length_map];exact Nat.le_of_lt (small1000 (show vs.length+1+xs.length≤1000 by omega)),fun r8 G8 t8 g8=>?_⟩
  have s8:=s6.trans (t7.trans t8)
  rw [ev,ex] at g8
  refine ⟨_,rfl,u,_,rfl,.inr (SqT.of (s8 _ _ hu3)),fun r9 hr9=>?_⟩
  have u9:Same G8 (upd G8 r9 (.lst (us.map V.int))):=(Same.refl G8).new hr9
  have v9:upd G8 r9 (.lst (us.map V.int)) r9=some (.lst (us.map V.int)):=upd_same
  have n9:r9 ∉ ps:=(hid0.kd (kd.same s8)).new hr9
  generalize upd G8 r9 _=G9 at u9 v9
  have s9:=s8.trans u9
  have kd9:=kd.same s9
  refine ⟨(by show 3≤sizeLine;rw [sizeLine_eq];decide),fun rl hrl=>?_⟩
  have ul:Same G9 (upd G9 rl (.lst [.ref r3,.ref r8,.ref r9])):=(Same.refl G9).new hrl
  have vl:upd G9 rl (.lst [.ref r3,.ref r8,.ref r9]) rl=some (.lst [.ref r3,.ref r8,.ref r9]):=upd_same
  show (fun HH=>_) (upd G9 rl (.lst [.ref r3,.ref r8,.ref r9]))
  generalize upd G9 rl _=GL at ul vl
  have kl:=kd9.same ul
  have h3:=ul _ _ (u9 _ _ (t8 _ _ (t7 _ _ (t6 _ _ (u5 _ _ (t4 _ _ g3))))))
  have h8:=ul _ _ (u9 _ _ g8)
  have h9:=ul _ _ v9
  have gd:∀ x∈[V.ref r3,.ref r8,.ref r9],Tg ps GL x 11000 3 Any:=fun x hx=>by
    simp only [List.mem_cons,List.not_mem_nil,or_false] at hx
    rcases hx with rfl | rfl | rfl
    · refine tg_ints h3 (Hid.neT (hid0.kd kl) h3) (fun x hx=>?_) ?_
      · rcases List.mem_append.mp hx with hx | hx
        · exact sm x (mv x hx)
        · exact sm x (mw x hx)
      · rw [List.length_append];omega
    · exact tg_tup h8 (Hid.neT (hid0.kd kl) h8) (ones mv) (ones mx) (by omega) (by omega) ((tg_int (by omega)).mono (by omega) (by omega))
    · exact tg_lst h9 n9 sm (by omega)
  obtain ⟨far,ea,ma⟩:=at_in (xs:=[V.ref r3,.ref r8,.ref r9]) (i:=way - 12) (by omega) (by show way - 12 < 3;omega)
  refine ⟨_,rfl,_,_,rfl,rfl,rl,_,_,_,rfl,rfl,SqL.of vl,ea,?_⟩
  exact q _ _ kl (gd far ma)
end
end S01
namespace L2
open PySem PySem.Spec PyProof.Rows PySem.W
structure PSw (X:Cx) (sts:List Stmt) (t:TS):Prop where
  h:PSs X sts t
structure Pw (X:Cx) (st:Stmt) (t:TS):Prop where
  h:PS X st t
structure PEw (X:Cx) (e:Expr) (t:TE):Prop where
  h:PE X e t
structure PAw (X:Cx) (es:List Expr) (t:TA):Prop where
  h:PA X es t
section
variable {X:Cx}
theorem exw {sts:List Stmt} {R:TS→Prop} (h:∃ t,PSw X sts t∧R t):∃ t,PSs X sts t∧R t:=let ⟨t,a,b⟩:=h;⟨t,a.h,b⟩
theorem w_cons {st:Stmt} {rest:List Stmt} {t u:TS} (h1:Pw X st t) (h2:PSw X rest u):PSw X (st :: rest) (tSeq t u):=⟨pss_cons h1.h h2.h⟩
theorem w_one {st:Stmt} {t:TS} (h:Pw X st t):PSw X [st] t:=⟨pss_one h.h⟩
theorem w_set {i:Nat} {x:Str} {e:Expr} {te:TE} {pos' pos:Pos} (hN:X.N.Nodup) (hi:X.N[i]?=some x) (hx:Loc X.env.scope x) (he:PEw X e te) (hs:swapsWith e (some (.Name x pos')) pos.line X.env=pure false:=by rfl) (hf:X.fn x=true∨X.env.scope.names.lookup x=some .local:=by first | exact .inl rfl | exact .inr rfl | assumption) :
    Pw X (.Assign [.Name x pos'] e pos) (tAsg te (gName i)):=⟨ps_set hN hi hx he.h hs hf⟩
theorem w_ret {e:Expr} {te:TE} {pos:Pos} (he:PEw X e te):Pw X (.Return (some e) pos) (tRet te):=⟨ps_ret he.h⟩
theorem w_ix {a b:Expr} {ta tb:TE} {pos:Pos} {r:R2} (hr:IxR X r) (ha:PEw X a ta) (hb:PEw X b tb) (hs:PlainIx b):PEw X (.Subscript a b pos) (tOp r ta tb):=⟨pe_ix hr ha.h hb.h hs⟩
theorem w_op {a b:Expr} {ta tb:TE} {pos:Pos} {op:Operator} {r:R2} (ho:OpR X (binaryOp op) r) (ha:PEw X a ta) (hb:PEw X b tb):PEw X (.BinOp a op b pos) (tOp r ta tb):=⟨pe_op ho ha.h hb.h⟩
theorem w_lst {es:List Expr} {t:TA} {pos:Pos} (h:PAw X es t):PEw X (.List es pos) (tLst t):=⟨pe_lst h.h⟩
theorem w_tup {es:List Expr} {t:TA} {pos:Pos} {x1} (h:PAw X es t):PEw X (.Tuple es x1 pos) (tTup t):=⟨pe_tup h.h⟩
theorem w_acons {e:Expr} {es:List Expr} {te:TE} {t:TA} (ha:PEw X e te) (hr:PAw X es t) (hs:starEach (e :: es) X.env=(false,eval e X.env) :: starEach es X.env:=by rfl):PAw X (e :: es) (tCons te t):=⟨pa_cons ha.h hr.h hs⟩
theorem w_anil:PAw X [] tNil:=⟨pa_nil⟩
theorem w_str {x:Str} {j} {pos:Pos}:PEw X (.Constant (.str x) j pos) (tC (.str x)):=⟨pe_str⟩
end
end L2
namespace S01
open PySem L2 W7
def Sh (n:Nat) (z:Str):Prop:=z.length≤n∧∀ c∈z.cps.toList,c < 1000
theorem sh_cut {n:Nat} {z:Str} (h:Sh n z) (lo hi:Option Int):Sh n (cutS z lo hi):=by
  refine ⟨Nat.le_trans ?_ h.1,fun c hc=>h.2 c ?_⟩
  · have e:(cutS z lo hi).length=((z.cps.toList.drop (HT.sIx z.length 0 lo)).take (HT.sIx z.length z.length hi - HT.sIx z.length 0 lo)).length:=by
      show ((z.cps.toList.drop (HT.sIx z.length 0 lo)).take (HT.sIx z.length z.length hi - HT.sIx z.length 0 lo)).toArray.size=_
      rw [List.size_toArray]
    rw [e,List.length_take,List.length_drop]
    have:z.cps.toList.length=z.length:=Array.length_toList
    omega
  · exact List.mem_of_mem_drop (List.mem_of_mem_take hc)
theorem sh_app {n m:Nat} {x y:Str} (h:Sh n x) (g:Sh m y):Sh (n+m) (x++y):=by
  have e:(x++y).cps=x.cps++y.cps:=rfl
  refine ⟨?_,fun c hc=>?_⟩
  · show (x++y).cps.size≤n+m
    rw [e,Array.size_append]
    have a1:x.cps.size≤n:=h.1
    have a2:y.cps.size≤m:=g.1
    omega
  · rw [e,Array.toList_append] at hc
    rcases List.mem_append.mp hc with hc | hc
    · exact h.2 c hc
    · exact g.2 c hc
theorem sh_line {n:Nat} {z:Str} (h:Sh n z) (l:n≤900):z.length≤sizeLine:=Nat.le_of_lt (small1000 (by have:=h.1;omega))
theorem sh_two {n m:Nat} {x y:Str} (h:Sh n x) (g:Sh m y) (l:n+m≤900):x.length+y.length≤sizeLine:=Nat.le_of_lt (small1000 (by have:=h.1;have:=g.1;omega))
theorem tg_txt {ps:List Addr} {H:Hp} {n:Nat} {z:Str} (h:Sh n z) (l:n≤900):Tg ps H (.str z) 11000 3 Short:=by
  have a1:z.cps.size≤n:=h.1
  exact ⟨.str z,false,false,.str z,(Gd.str h.2).mono (by omega) (by omega),.inl rfl,fun y e=>by cases e;exact ⟨by have:=h.1;omega,h.2⟩⟩
theorem tds_one (H:Hp):∀ l:List Nat,Tds H (l.map fun c=>V.str ⟨#[c]⟩) (l.map fun c=>PyData.str ⟨#[c]⟩)
  | []=>.nil
  | c :: l=>.cons (.str _) (tds_one H l)
theorem tg_signs {ps:List Addr} {r:Addr} {H:Hp} {z:Str} (h:Sh 60 z) (e:H r=some (.lst (signs z))) (n:r ∉ ps):Tg ps H (.ref r) 11000 3 Short:=by
  refine ⟨.list (z.cps.toList.map fun c=>PyData.str ⟨#[c]⟩),false,true,.lst (dlp e n) (tds_one _ _),(Gd.lst ((Gs.all (c:=1) (e:=2) fun d hd=>?_).mono (c':=11000) ?_ (Nat.le_refl _))).mono (Nat.le_refl _) (by omega),.inl rfl,fun y e=>by cases e⟩
  · obtain ⟨c,hc,rfl⟩:=List.mem_map.mp hd
    exact (Gd.str (z:=⟨#[c]⟩) fun x hx=>by
      have:x=c:=by simpa using hx
      rw [this];exact h.2 c hc).mono (Nat.le_refl _) (by omega)
  · have:z.cps.toList.length=z.length:=Array.length_toList
    rw [List.length_map,this]
    have:=h.1
    omega
section
variable {P:Program} {w:World} {K:PySem.W.Frag} {mg:Str→Option Value} {base:Heap} {k:Nat}
def sp_lbent:Sp:=fun vs H Q _=>∃ (p:Addr) (z:Str) (c:Int) (ps:List Addr),vs=[.ref p,.str z]∧Deck H p c∧Hid p ps H∧0≤c∧c < 900000∧Sh 60 z∧1≤z.length∧∀ (v:V) (H':Hp),Kd p (c+3) H H'→Tg ps H' v 11000 3 Short→Q v H'
theorem has_lbent (D:Df K mg "_law_labels_bent" s_law_labels_bent) (B:Blt7 mg) (G_law_take:Has P w K mg base "_law_take" k ["pool", "many"] sp_take):Has P w K mg base "_law_labels_bent" (k+1) ["pool", "labels"] sp_lbent:=by
  refine D.has sc_law_labels_bent (fun _ _ _ _ _ _ us hl=>match us,hl with | [_,_],_=>rfl) (fun vs H Q E h=>by obtain ⟨p,z,c,ps,rfl,_⟩:=h;rfl) (fun f cdv A outer s H vs Q E hr h=>?_)
  obtain ⟨p,z,c,ps,rfl,dk,hid0,c0,c9,sh,l1,q⟩:=h
  refine exw ?_
  refine ⟨_,(w_cons (Pw.mk (ps_set (i:=2) sc_law_labels_bent.nd rfl (by first | exact Or.inl rfl | exact Or.inr rfl) (pe_callH G_law_take hr rfl (pa_cons (pv 0) (pa_cons pe_int pa_nil)))))
  (w_cons (Pw.mk (ps_set (i:=3) sc_law_labels_bent.nd rfl (by first | exact Or.inl rfl | exact Or.inr rfl) (pe_callH G_law_take hr rfl (pa_cons (pv 0) (pa_cons (pe_callB call_len_str rfl B.len bt_len (pa_cons (pv 1) pa_nil)) pa_nil)))))
  (w_cons (w_set (i:=4) sc_law_labels_bent.nd rfl (by first | exact Or.inl rfl | exact Or.inr rfl) (w_ix ix_list (w_lst (w_acons w_str (w_acons w_str (w_acons w_str (w_acons w_str (w_acons w_str (w_acons w_str (w_acons w_str (w_acons w_str (w_acons w_str (w_acons w_str (w_acons w_str (w_acons w_str w_anil))))))))))))) (PEw.mk (pe_callH G_law_take hr rfl (pa_cons (pv 0) (pa_cons pe_int pa_nil)))) (fun _ _=>rfl)))
  (w_one (w_ret (w_ix ix_list (w_lst (w_acons (PEw.mk (pe_op op_add_str (pe_op op_add_str (pe_slice sl_str (pv 1) po_none (po_some (pv 3))) (pv 4)) (pe_slice sl_str (pv 1) (po_some (pe_op op_add (pv 3) pe_int)) po_none))) (w_acons (w_op op_add_str (PEw.mk (pv 1)) w_str) (w_acons (PEw.mk (pe_op op_add_str (pe_slice sl_str (pv 1) po_none (po_some (pv 3))) (pe_slice sl_str (pv 1) (po_some (pe_op op_add (pv 3) pe_int)) po_none))) (w_acons (PEw.mk (pe_callTy (call_list_txt rfl) rfl B.list_ bt_list (pa_cons (pv 1) pa_nil))) (w_acons (w_ix ix_list (w_lst (w_acons (PEw.mk pe_non) (w_acons w_str (w_acons (PEw.mk pe_int) w_anil)))) (PEw.mk (pe_op op_mod (pv 3) pe_int)) (fun _ _=>rfl)) w_anil)))))) (PEw.mk (pv 2)) (fun _ _=>rfl))))))),?_⟩
  have l60:=sh.1
  refine ⟨_,rfl,p,5,c,rfl,dk,by omega,by decide,by decide,fun way H1 w0 w1 k1=>?_⟩
  refine ⟨_,rfl,_,rfl,z,rfl,sh_line sh (by omega),p,_,_,rfl,k1.deck,by omega,by omega,by omega,fun at' H2 a0 a1 k2=>?_⟩
  refine ⟨(by show 12≤sizeLine;rw [sizeLine_eq];decide),fun l hl=>?_⟩
  have lp:l≠p:=k2.deck.ne hl
  generalize hg1:upd H2 l _=G1
  have u1:Same H2 G1:=by rw [← hg1];exact (Same.refl H2).new hl
  have v1:G1 l=some (.lst (["A", "0", " ", "", "-", "z", "{", "`", "~", "|", "}", "_"].map fun x:String=>V.str (Str.ofString x))):=by rw [← hg1,upd_same];rfl
  clear hg1
  have k2':=(k1.trans k2).same u1
  refine ⟨_,rfl,p,12,_,rfl,k2'.deck,by omega,by decide,by decide,fun o H3 o0 o1 k3=>?_⟩
  have v3:=k3.keep _ _ lp v1
  obtain ⟨sg,es,ms⟩:=at_in (xs:=["A", "0", " ", "", "-", "z", "{", "`", "~", "|", "}", "_"].map fun x:String=>V.str (Str.ofString x)) (i:=o) o0 (by show o < 12;exact o1)
  obtain ⟨sn,hsn,rfl⟩:=List.mem_map.mp ms
  have s1:Sh 1 (Str.ofString sn):=by
    have all:∀ x∈["A", "0", " ", "", "-", "z", "{", "`", "~", "|", "}", "_"],(Str.ofString x).length≤1∧∀ c∈(Str.ofString x).cps.toList,c < 1000:=by decide +kernel
    exact all sn hsn
  have sa:Sh 1 (Str.ofString "a"):=by unfold Sh;decide +kernel
  have s0:Sh 1 (Str.ofString ""):=by unfold Sh;decide +kernel
  have kd:Kd p (c+3) H H3:=(k2'.trans k3).mono (by omega)
  refine ⟨l,_,_,_,rfl,rfl,SqL.of v3,es,?_⟩
  clear k1 k2 k2' k3 v1 v3 es ms hsn u1
  generalize Str.ofString sn=sg at s1
  have hd1:=sh_cut sh none (some at')
  have hd2:=sh_cut sh (some (at'+1)) none
  have hb:=sh_line sh (by omega)
  refine ⟨_,rfl,_,rfl,_,rfl,z,rfl,hb,_,rfl,_,_,rfl,rfl,sh_two hd1 s1 (by omega),_,rfl,_,rfl,_,_,rfl,rfl,_,rfl,z,rfl,hb,_,_,rfl,rfl,sh_two (sh_app hd1 s1) hd2 (by omega),?_⟩
  refine ⟨_,rfl,_,_,rfl,rfl,sh_two sh sa (by omega),?_⟩
  refine ⟨_,rfl,_,rfl,_,rfl,z,rfl,hb,_,rfl,_,rfl,_,_,rfl,rfl,_,rfl,z,rfl,hb,_,_,rfl,rfl,sh_two hd1 hd2 (by omega),?_⟩
  refine ⟨_,rfl,z,rfl,by omega,fun l2 hl2=>?_⟩
  have l2p:l2 ∉ ps:=(hid0.kd kd).new hl2
  generalize hg2:upd H3 l2 _=G2
  have u2:Same H3 G2:=by rw [← hg2];exact (Same.refl H3).new hl2
  have v2:G2 l2=some (.lst (signs z)):=by rw [← hg2,upd_same]
  clear hg2
  refine ⟨(by show 3≤sizeLine;rw [sizeLine_eq];decide),fun l3 hl3=>?_⟩
  generalize hg3:upd G2 l3 _=G3
  have u3:Same G2 G3:=by rw [← hg3];exact (Same.refl G2).new hl3
  have v3:G3 l3=some (.lst [.non,.str (Str.ofString ""),.int 0]):=by rw [← hg3,upd_same]
  clear hg3
  obtain ⟨last,el,ml⟩:=at_in (xs:=[V.non,.str (Str.ofString ""),.int 0]) (i:=at' % 3) (by omega) (by show at' % 3 < 3;omega)
  refine ⟨_,rfl,_,_,rfl,rfl,(by show (0:Int) < 3;decide),l3,_,_,_,rfl,rfl,SqL.of v3,el,(by show 5≤sizeLine;rw [sizeLine_eq];decide),fun l4 hl4=>?_⟩
  generalize hg4:upd G3 l4 _=G4
  have u4:Same G3 G4:=by rw [← hg4];exact (Same.refl G3).new hl4
  have v4:G4 l4=some (.lst [.str (cutS z none (some at')++sg++cutS z (some (at'+1)) none),.str (z++Str.ofString "a"),.str (cutS z none (some at')++cutS z (some (at'+1)) none),.ref l2,last]):=by rw [← hg4,upd_same]
  clear hg4
  have kd4:Kd p (c+3) H G4:=kd.same ((u2.trans u3).trans u4)
  have gd:∀ x∈[V.str (cutS z none (some at')++sg++cutS z (some (at'+1)) none),.str (z++Str.ofString "a"),.str (cutS z none (some at')++cutS z (some (at'+1)) none),.ref l2,last],Tg ps G4 x 11000 3 Short:=fun x hx=>by
    simp only [List.mem_cons,List.not_mem_nil,or_false] at hx
    rcases hx with rfl | rfl | rfl | rfl | rfl
    · exact tg_txt (sh_app (sh_app hd1 s1) hd2) (by omega)
    · exact tg_txt (sh_app sh sa) (by omega)
    · exact tg_txt (sh_app hd1 hd2) (by omega)
    · exact tg_signs sh (u4 _ _ (u3 _ _ v2)) l2p
    · simp only [List.mem_cons,List.not_mem_nil,or_false] at ml
      rcases ml with rfl | rfl | rfl
      · exact ⟨.none,false,false,.non,Gd.non.mono (by omega) (by omega),.inl rfl,fun y e=>by cases e⟩
      · exact tg_txt s0 (by omega)
      · exact ⟨.int 0,false,false,.int 0,(Gd.int (by decide)).mono (by omega) (by omega),.inl rfl,fun y e=>by cases e⟩
  obtain ⟨far,ea,ma⟩:=at_in (xs:=[V.str (cutS z none (some at')++sg++cutS z (some (at'+1)) none),.str (z++Str.ofString "a"),.str (cutS z none (some at')++cutS z (some (at'+1)) none),.ref l2,last]) (i:=way) w0 (by show way < 5;exact w1)
  refine ⟨_,rfl,l4,_,_,_,rfl,rfl,SqL.of v4,ea,?_⟩
  exact q _ _ kd4 (gd far ma)
end
end S01
namespace S01
open PySem L2 W7
def Shy (d:PyData):Prop:=∀ x y,d=.tuple [x,y]→Short y
theorem sh_short {n:Nat} {z:Str} (h:Sh n z) (l:n≤900):Short (.str z):=fun y e=>by cases e;exact ⟨by have:=h.1;omega,h.2⟩
theorem gd_str {hd hl:Bool} {n:Nat} {z:Str} (h:Sh n z) (l:n≤900):Gd hd hl 900 0 (.str z):=by
  have a1:z.cps.size≤n:=h.1
  exact (Gd.str h.2).mono (by omega) (Nat.le_refl _)
theorem line_le {n:Nat} (h:n≤1000):n≤sizeLine:=Nat.le_of_lt (small1000 h)
theorem tg_pairL {ps:List Addr} {r:Addr} {H:Hp} {v:V} {z:Str} {S:PyData→Prop} (h:H r=some (.tup [v,.str z])) (n:r ∉ ps) (t:Tg ps H v 11000 3 S) (s:Sh 60 z):Tg ps H (.ref r) 23000 5 Shy:=by
  obtain ⟨d,hd,hl,td,g,o,_⟩:=t
  refine ⟨.tuple [d,.str z],hd,hl,.tup (dlp h n) (.cons td (.one (.str z))),(Gd.tup (Gs.cons g (Gs.one ((gd_str s (by omega)).mono (Nat.le_refl _) (Nat.zero_le _))))).mono (by omega) (by omega),o,fun x y e=>?_⟩
  cases e
  exact sh_short s (by omega)
theorem gd_ints {hd hl:Bool} {us:List Int} (sm:Sml us) (l:us.length≤125) {e:Nat}:Gd hd hl 5300 (e+1) (.tuple (us.map .int)):=Gd.tup (sml_gs sm l)
theorem tg_pairR {ps:List Addr} {r u:Addr} {H:Hp} {v:V} {us:List Int} (h:H r=some (.tup [.ref u,v])) (n:r ∉ ps) (hu:H u=some (.tup (us.map V.int))) (nu:u ∉ ps) (sm:Sml us) (l:us.length≤125) (t:Tg ps H v 11000 3 Short):Tg ps H (.ref r) 23000 5 Shy:=by
  obtain ⟨d,hd,hl,td,g,o,s⟩:=t
  refine ⟨.tuple [.tuple (us.map .int),d],hd,hl,.tup (dlp h n) (.cons (.tup (dlp hu nu) (Tds.ints us)) (.one td)),(Gd.tup (Gs.cons (gd_ints sm l (e:=2)) (Gs.one g))).mono (by omega) (by omega),o,fun x y e=>?_⟩
  cases e
  exact s
section
variable {P:Program} {w:World} {K:PySem.W.Frag} {mg:Str→Option Value} {base:Heap} {k:Nat}
def sp_bent:Sp:=fun vs H Q _=>∃ (p t u:Addr) (us:List Int) (z:Str) (c:Int) (ps:List Addr),vs=[.ref p,.ref t]∧Deck H p c∧Hid p ps H∧0≤c∧c < 800000∧H t=some (.tup [.ref u,.str z])∧H u=some (.tup (us.map V.int))∧Sml us∧us.length=z.length∧1≤us.length∧Sh 60 z∧∀ (v:V) (H':Hp),Kd p (c+4) H H'→Tg ps H' v 23000 5 Shy→Q v H'
theorem has_bent (D:Df K mg "_law_bent" s_law_bent) (B:Blt7 mg) (G_law_take:Has P w K mg base "_law_take" k ["pool", "many"] sp_take) (G_law_ups_bent:Has P w K mg base "_law_ups_bent" k ["pool", "ups"] sp_ubent) (G_law_labels_bent:Has P w K mg base "_law_labels_bent" k ["pool", "labels"] sp_lbent):Has P w K mg base "_law_bent" (k+1) ["pool", "tree"] sp_bent:=by
  refine D.has sc_law_bent (fun _ _ _ _ _ _ us hl=>match us,hl with | [_,_],_=>rfl) (fun vs H Q E h=>by obtain ⟨p,t,u,us,z,c,ps,rfl,_⟩:=h;rfl) (fun f cdv A outer s H vs Q E hr h=>?_)
  obtain ⟨p,t,u,us,z,c,ps,rfl,dk,hid0,c0,c8,ht,hu,sm,lz,l1,sh,q⟩:=h
  refine exw ?_
  refine ⟨_,(w_cons (Pw.mk (ps_set (i:=2) sc_law_bent.nd rfl (by first | exact Or.inl rfl | exact Or.inr rfl) (pe_callH G_law_take hr rfl (pa_cons (pv 0) (pa_cons pe_int pa_nil)))))
  (w_cons (Pw.mk (ps_asg (pv 1) (pg_tup rfl (pgs_cons (pg_name (i:=3) sc_law_bent.nd rfl (by first | exact Or.inl rfl | exact Or.inr rfl)) (pgs_cons (pg_name (i:=4) sc_law_bent.nd rfl (by first | exact Or.inl rfl | exact Or.inr rfl)) pgs_nil)))))
  (w_cons (Pw.mk (ps_if (pt_cmpR op_lt (pv 2) pe_int (nomark _))
  (pss_one (ps_ret (pe_tup (pa_cons (pe_callH G_law_ups_bent hr rfl (pa_cons (pv 0) (pa_cons (pv 3) pa_nil))) (pa_cons (pv 4) pa_nil)))))
  pss_nil))
  (w_cons (Pw.mk (ps_if (pt_cmpR op_lt (pv 2) pe_int (nomark _))
  (pss_one (ps_ret (pe_tup (pa_cons (pv 3) (pa_cons (pe_callH G_law_labels_bent hr rfl (pa_cons (pv 0) (pa_cons (pv 4) pa_nil))) pa_nil)))))
  pss_nil))
  (w_cons (Pw.mk (ps_if (pt_cmpR op_lt (pv 2) pe_int (nomark _))
  (pss_cons (ps_set (i:=5) sc_law_bent.nd rfl (by first | exact Or.inl rfl | exact Or.inr rfl) (pe_callH G_law_take hr rfl (pa_cons (pv 0) (pa_cons (pe_callB call_len_seq rfl B.len bt_len (pa_cons (pv 3) pa_nil)) pa_nil))))
  (pss_one (ps_ret (pe_tup (pa_cons (pe_op op_catU (pe_slice sl_tupU (pv 3) po_none (po_some (pv 5))) (pe_slice sl_tupU (pv 3) (po_some (pe_op op_add (pv 5) pe_int)) po_none)) (pa_cons (pe_op op_add_str (pe_slice sl_str (pv 4) po_none (po_some (pv 5))) (pe_slice sl_str (pv 4) (po_some (pe_op op_add (pv 5) pe_int)) po_none)) pa_nil))))))
  pss_nil))
  (w_cons (w_set (i:=6) sc_law_bent.nd rfl (by first | exact Or.inl rfl | exact Or.inr rfl) (w_lst (w_acons (PEw.mk (pe_tup (pa_cons (pv 4) (pa_cons (pv 3) pa_nil)))) (w_acons (PEw.mk (pe_lst (pa_cons (pv 3) (pa_cons (pv 4) pa_nil)))) (w_acons (PEw.mk (pe_tup (pa_cons (pv 3) pa_nil))) (w_acons (PEw.mk (pe_tup (pa_cons (pv 3) (pa_cons (pv 4) (pa_cons (pe_tup pa_nil) pa_nil))))) (w_acons (PEw.mk pe_non) (w_acons w_str w_anil))))))))
  (w_one (w_ret (w_ix ix_list (w_op op_cat (PEw.mk (pv 6)) (w_lst (w_acons (PEw.mk pe_int) (w_acons (PEw.mk pe_bl) (w_acons (PEw.mk (pe_tup pa_nil)) (w_acons (PEw.mk pe_dnewK) (w_acons (w_tup (w_acons (PEw.mk (pe_tup pa_nil)) (w_acons w_str w_anil))) (w_acons (w_tup (w_acons (PEw.mk (pe_tup (pa_cons pe_int pa_nil))) (w_acons w_str w_anil))) w_anil)))))))) (PEw.mk (pe_callH G_law_take hr rfl (pa_cons (pv 0) (pa_cons pe_int pa_nil)))) (fun _ _=>rfl)))))))))),?_⟩
  have l60:=sh.1
  have up:u≠p:=deck_neT dk hu
  have tp:t≠p:=deck_neT dk ht
  have un:u ∉ ps:=hid0.neT hu
  refine ⟨_,rfl,p,12,c,rfl,dk,by omega,by decide,by decide,fun way H1 w0 w1 k1=>?_⟩
  have hu1:=k1.keep _ _ up hu
  have ht1:=k1.keep _ _ tp ht
  refine ⟨_,rfl,t,_,rfl,SqT.of ht1,rfl,_,_,rfl,_,_,rfl,rfl,?_⟩
  refine ⟨_,rfl,_,_,rfl,rfl,_,rfl,?_⟩
  by_cases c5:way < 5
  · refine iteA (decide_eq_true c5) ?_
    refine ⟨_,rfl,_,rfl,p,u,us,_,ps,rfl,k1.deck,hid0.kd k1,by omega,by omega,hu1,sm,l1,by omega,fun v H2 k2 tg=>?_⟩
    refine ⟨_,rfl,line_le (show 2≤1000 by omega),fun r hr2=>?_⟩
    have nr:r ∉ ps:=(hid0.kd (k1.trans k2)).new hr2
    have u2:Same H2 (upd H2 r (.tup [v,.str z])):=(Same.refl H2).new hr2
    exact q _ _ (((k1.trans k2).same u2).mono (by omega)) (tg_pairL upd_same nr (tg.same (dls u2)) sh)
  refine L2.iteB (decide_eq_false c5) ?_
  refine ⟨_,rfl,_,_,rfl,rfl,_,rfl,?_⟩
  by_cases c8':way < 8
  · refine iteA (decide_eq_true c8') ?_
    refine ⟨_,rfl,_,rfl,_,rfl,p,z,_,ps,rfl,k1.deck,hid0.kd k1,by omega,by omega,sh,by omega,fun v H2 k2 tg=>?_⟩
    refine ⟨line_le (show 2≤1000 by omega),fun r hr2=>?_⟩
    have nr:r ∉ ps:=(hid0.kd (k1.trans k2)).new hr2
    have hu2:=k2.keep _ _ up hu1
    have u2:Same H2 (upd H2 r (.tup [.ref u,v])):=(Same.refl H2).new hr2
    exact q _ _ (((k1.trans k2).same u2).mono (by omega)) (tg_pairR upd_same nr (u2 _ _ hu2) un sm (by omega) (tg.same (dls u2)))
  refine L2.iteB (decide_eq_false c8') ?_
  refine ⟨_,rfl,_,_,rfl,rfl,_,rfl,?_⟩
  by_cases c10:way < 10
  · refine iteA (decide_eq_true c10) ?_
    refine ⟨_,rfl,_,rfl,u,_,rfl,.inr (SqT.of hu1),p,_,_,rfl,k1.deck,by omega,by rw [List.length_map];omega,by rw [List.length_map];omega,fun at' H2 a0 a1 k2=>?_⟩
    have hu2:=k2.keep _ _ up hu1
    have kd:Kd p (c+4) H H2:=(k1.trans k2).mono (by omega)
    obtain ⟨vs,ev,mv,lv⟩:=cut_ints us none (some at')
    obtain ⟨ws,ew,mw,lw⟩:=cut_ints us (some (at'+1)) none
    refine ⟨_,rfl,_,rfl,_,rfl,u,_,rfl,hu2,fun r1 G1 t1 g1=>?_⟩
    refine ⟨_,rfl,_,rfl,_,_,rfl,rfl,_,rfl,u,_,rfl,t1 _ _ hu2,fun r2 G2 t2 g2=>?_⟩
    refine ⟨r1,r2,_,_,rfl,rfl,t2 _ _ g1,g2,by rw [ev,ew,List.length_map,List.length_map];exact line_le (show vs.length+ws.length≤1000 by omega),fun r3 G3 t3 g3=>?_⟩
    rw [ev,ew,← List.map_append] at g3
    have s3:=(t1.trans t2).trans t3
    have hd1:=sh_cut sh none (some at')
    have hd2:=sh_cut sh (some (at'+1)) none
    have hb:=sh_line sh (by omega)
    refine ⟨_,rfl,_,rfl,_,rfl,z,rfl,hb,_,rfl,_,rfl,_,_,rfl,rfl,_,rfl,z,rfl,hb,_,_,rfl,rfl,sh_two hd1 hd2 (by omega),line_le (show 2≤1000 by omega),fun r hr2=>?_⟩
    have kd3:=kd.same s3
    have nr:r ∉ ps:=(hid0.kd kd3).new hr2
    have u4:Same G3 (upd G3 r (.tup [.ref r3,.str (cutS z none (some at')++cutS z (some (at'+1)) none)])):=(Same.refl G3).new hr2
    refine q _ _ (kd3.same u4) (tg_pairR upd_same nr (u4 _ _ g3) (Hid.neT (hid0.kd kd3) g3) (fun x hx=>?_) (by rw [List.length_append];omega) (tg_txt (sh_app hd1 hd2) (by omega)))
    rcases List.mem_append.mp hx with hx | hx
    · exact sm x (mv x hx)
    · exact sm x (mw x hx)
  refine L2.iteB (decide_eq_false c10) ?_
  refine ⟨_,rfl,_,rfl,line_le (show 2≤1000 by omega),fun a1 ha1=>?_⟩
  have na1:a1 ∉ ps:=(hid0.kd k1).new ha1
  generalize hg:upd H1 a1 _=G1
  have u1:Same H1 G1:=by rw [← hg];exact (Same.refl H1).new ha1
  have va1:G1 a1=some (.tup [.str z,.ref u]):=by rw [← hg,upd_same];first | done | rfl
  clear hg
  have hu2:=u1 _ _ hu1
  have kd1:=k1.same u1
  refine ⟨_,rfl,_,rfl,line_le (show 2≤1000 by omega),fun a2 ha2=>?_⟩
  have na2:a2 ∉ ps:=(hid0.kd kd1).new ha2
  generalize hg:upd G1 a2 _=G2
  have u2:Same G1 G2:=by rw [← hg];exact (Same.refl G1).new ha2
  have va2:G2 a2=some (.lst [.ref u,.str z]):=by rw [← hg,upd_same];first | done | rfl
  clear hg
  replace va1:=u2 _ _ va1
  have hu3:=u2 _ _ hu2
  have kd2:=kd1.same u2
  refine ⟨_,rfl,line_le (show 1≤1000 by omega),fun a3 ha3=>?_⟩
  have na3:a3 ∉ ps:=(hid0.kd kd2).new ha3
  generalize hg:upd G2 a3 _=G3
  have u3:Same G2 G3:=by rw [← hg];exact (Same.refl G2).new ha3
  have va3:G3 a3=some (.tup [.ref u]):=by rw [← hg,upd_same];first | done | rfl
  clear hg
  replace va1:=u3 _ _ va1
  replace va2:=u3 _ _ va2
  have hu4:=u3 _ _ hu3
  have kd3:=kd2.same u3
  refine ⟨_,rfl,_,rfl,line_le (show 0≤1000 by omega),fun a4 ha4=>?_⟩
  have na4:a4 ∉ ps:=(hid0.kd kd3).new ha4
  generalize hg:upd G3 a4 _=G4
  have u4:Same G3 G4:=by rw [← hg];exact (Same.refl G3).new ha4
  have va4:G4 a4=some (.tup []):=by rw [← hg,upd_same];first | done | rfl
  clear hg
  replace va1:=u4 _ _ va1
  replace va2:=u4 _ _ va2
  replace va3:=u4 _ _ va3
  have hu5:=u4 _ _ hu4
  have kd4:=kd3.same u4
  refine ⟨line_le (show 3≤1000 by omega),fun a5 ha5=>?_⟩
  have na5:a5 ∉ ps:=(hid0.kd kd4).new ha5
  generalize hg:upd G4 a5 _=G5
  have u5:Same G4 G5:=by rw [← hg];exact (Same.refl G4).new ha5
  have va5:G5 a5=some (.tup [.ref u,.str z,.ref a4]):=by rw [← hg,upd_same];first | done | rfl
  clear hg
  replace va1:=u5 _ _ va1
  replace va2:=u5 _ _ va2
  replace va3:=u5 _ _ va3
  replace va4:=u5 _ _ va4
  have hu6:=u5 _ _ hu5
  have kd5:=kd4.same u5
  refine ⟨line_le (show 6≤1000 by omega),fun a6 ha6=>?_⟩
  have na6:a6 ∉ ps:=(hid0.kd kd5).new ha6
  generalize hg:upd G5 a6 _=G6
  have u6:Same G5 G6:=by rw [← hg];exact (Same.refl G5).new ha6
  have va6:G6 a6=some (.lst [.ref a1,.ref a2,.ref a3,.ref a5,.non,.str (Str.ofString "a")]):=by rw [← hg,upd_same];first | done | rfl
  clear hg
  replace va1:=u6 _ _ va1
  replace va2:=u6 _ _ va2
  replace va3:=u6 _ _ va3
  replace va4:=u6 _ _ va4
  replace va5:=u6 _ _ va5
  have hu7:=u6 _ _ hu6
  have kd6:=kd5.same u6
  refine ⟨_,rfl,line_le (show 0≤1000 by omega),fun a7 ha7=>?_⟩
  have na7:a7 ∉ ps:=(hid0.kd kd6).new ha7
  generalize hg:upd G6 a7 _=G7
  have u7:Same G6 G7:=by rw [← hg];exact (Same.refl G6).new ha7
  have va7:G7 a7=some (.tup []):=by rw [← hg,upd_same];first | done | rfl
  clear hg
  replace va1:=u7 _ _ va1
  replace va2:=u7 _ _ va2
  replace va3:=u7 _ _ va3
  replace va4:=u7 _ _ va4
  replace va5:=u7 _ _ va5
  replace va6:=u7 _ _ va6
  have hu8:=u7 _ _ hu7
  have kd7:=kd6.same u7
  intro a8 ha8
  have na8:a8 ∉ ps:=(hid0.kd kd7).new ha8
  generalize hg:upd G7 a8 _=G8
  have u8:Same G7 G8:=by rw [← hg];exact (Same.refl G7).new ha8
  have va8:G8 a8=some (.dK []):=by rw [← hg,upd_same];first | done | rfl
  clear hg
  replace va1:=u8 _ _ va1
  replace va2:=u8 _ _ va2
  replace va3:=u8 _ _ va3
  replace va4:=u8 _ _ va4
  replace va5:=u8 _ _ va5
  replace va6:=u8 _ _ va6
  replace va7:=u8 _ _ va7
  have hu9:=u8 _ _ hu8
  have kd8:=kd7.same u8
  refine ⟨line_le (show 0≤1000 by omega),fun a9 ha9=>?_⟩
  have na9:a9 ∉ ps:=(hid0.kd kd8).new ha9
  generalize hg:upd G8 a9 _=G9
  have u9:Same G8 G9:=by rw [← hg];exact (Same.refl G8).new ha9
  have va9:G9 a9=some (.tup []):=by rw [← hg,upd_same];first | done | rfl
  clear hg
  replace va1:=u9 _ _ va1
  replace va2:=u9 _ _ va2
  replace va3:=u9 _ _ va3
  replace va4:=u9 _ _ va4
  replace va5:=u9 _ _ va5
  replace va6:=u9 _ _ va6
  replace va7:=u9 _ _ va7
  replace va8:=u9 _ _ va8
  have hu10:=u9 _ _ hu9
  have kd9:=kd8.same u9
  refine ⟨line_le (show 2≤1000 by omega),fun a10 ha10=>?_⟩
  have na10:a10 ∉ ps:=(hid0.kd kd9).new ha10
  generalize hg:upd G9 a10 _=G10
  have u10:Same G9 G10:=by rw [← hg];exact (Same.refl G9).new ha10
  have va10:G10 a10=some (.tup [.ref a9,.str (Str.ofString "")]):=by rw [← hg,upd_same];first | done | rfl
  clear hg
  replace va1:=u10 _ _ va1
  replace va2:=u10 _ _ va2
  replace va3:=u10 _ _ va3
  replace va4:=u10 _ _ va4
  replace va5:=u10 _ _ va5
  replace va6:=u10 _ _ va6
  replace va7:=u10 _ _ va7
  replace va8:=u10 _ _ va8
  replace va9:=u10 _ _ va9
  have hu11:=u10 _ _ hu10
  have kd10:=kd9.same u10
  refine ⟨line_le (show 1≤1000 by omega),fun a11 ha11=>?_⟩
  have na11:a11 ∉ ps:=(hid0.kd kd10).new ha11
  generalize hg:upd G10 a11 _=G11
  have u11:Same G10 G11:=by rw [← hg];exact (Same.refl G10).new ha11
  have va11:G11 a11=some (.tup [.int 0]):=by rw [← hg,upd_same];first | done | rfl
  clear hg
  replace va1:=u11 _ _ va1
  replace va2:=u11 _ _ va2
  replace va3:=u11 _ _ va3
  replace va4:=u11 _ _ va4
  replace va5:=u11 _ _ va5
  replace va6:=u11 _ _ va6
  replace va7:=u11 _ _ va7
  replace va8:=u11 _ _ va8
  replace va9:=u11 _ _ va9
  replace va10:=u11 _ _ va10
  have hu12:=u11 _ _ hu11
  have kd11:=kd10.same u11
  refine ⟨line_le (show 2≤1000 by omega),fun a12 ha12=>?_⟩
  have na12:a12 ∉ ps:=(hid0.kd kd11).new ha12
  generalize hg:upd G11 a12 _=G12
  have u12:Same G11 G12:=by rw [← hg];exact (Same.refl G11).new ha12
  have va12:G12 a12=some (.tup [.ref a11,.str (Str.ofString "a")]):=by rw [← hg,upd_same];first | done | rfl
  clear hg
  replace va1:=u12 _ _ va1
  replace va2:=u12 _ _ va2
  replace va3:=u12 _ _ va3
  replace va4:=u12 _ _ va4
  replace va5:=u12 _ _ va5
  replace va6:=u12 _ _ va6
  replace va7:=u12 _ _ va7
  replace va8:=u12 _ _ va8
  replace va9:=u12 _ _ va9
  replace va10:=u12 _ _ va10
  replace va11:=u12 _ _ va11
  have hu13:=u12 _ _ hu12
  have kd12:=kd11.same u12
  refine ⟨line_le (show 6≤1000 by omega),fun a13 ha13=>?_⟩
  have na13:a13 ∉ ps:=(hid0.kd kd12).new ha13
  generalize hg:upd G12 a13 _=G13
  have u13:Same G12 G13:=by rw [← hg];exact (Same.refl G12).new ha13
  have va13:G13 a13=some (.lst [.int 0,.bl true,.ref a7,.ref a8,.ref a10,.ref a12]):=by rw [← hg,upd_same];first | done | rfl
  clear hg
  replace va1:=u13 _ _ va1
  replace va2:=u13 _ _ va2
  replace va3:=u13 _ _ va3
  replace va4:=u13 _ _ va4
  replace va5:=u13 _ _ va5
  replace va6:=u13 _ _ va6
  replace va7:=u13 _ _ va7
  replace va8:=u13 _ _ va8
  replace va9:=u13 _ _ va9
  replace va10:=u13 _ _ va10
  replace va11:=u13 _ _ va11
  replace va12:=u13 _ _ va12
  have hu14:=u13 _ _ hu13
  have kd13:=kd12.same u13
  refine ⟨a6,a13,_,_,rfl,rfl,va6,va13,line_le (show 12≤1000 by omega),fun a14 ha14=>?_⟩
  have na14:a14 ∉ ps:=(hid0.kd kd13).new ha14
  generalize hg:upd G13 a14 _=G14
  have u14:Same G13 G14:=by rw [← hg];exact (Same.refl G13).new ha14
  have va14:G14 a14=some (.lst [V.ref a1,.ref a2,.ref a3,.ref a5,.non,.str (Str.ofString "a"),.int 0,.bl true,.ref a7,.ref a8,.ref a10,.ref a12]):=by rw [← hg,upd_same];first | done | rfl
  clear hg
  replace va1:=u14 _ _ va1
  replace va2:=u14 _ _ va2
  replace va3:=u14 _ _ va3
  replace va4:=u14 _ _ va4
  replace va5:=u14 _ _ va5
  replace va6:=u14 _ _ va6
  replace va7:=u14 _ _ va7
  replace va8:=u14 _ _ va8
  replace va9:=u14 _ _ va9
  replace va10:=u14 _ _ va10
  replace va11:=u14 _ _ va11
  replace va12:=u14 _ _ va12
  replace va13:=u14 _ _ va13
  have hu15:=u14 _ _ hu14
  have kd14:=kd13.same u14
  refine ⟨_,rfl,p,12,_,rfl,kd14.deck,by omega,by decide,by decide,fun o H2 o0 o1 k2=>?_⟩
  have vl:=k2.keep _ _ (kd13.deck.ne ha14) va14
  have sa:Sh 1 (Str.ofString "a"):=by unfold Sh;decide +kernel
  have s0:Sh 1 (Str.ofString ""):=by unfold Sh;decide +kernel
  have gd:∀ x∈[V.ref a1,.ref a2,.ref a3,.ref a5,.non,.str (Str.ofString "a"),.int 0,.bl true,.ref a7,.ref a8,.ref a10,.ref a12],Tg ps G14 x 23000 5 Shy:=fun x hx=>by
    have tu:Td (dl ps G14) (.ref u) (.tuple (us.map .int)):=.tup (dlp hu15 un) (Tds.ints us)
    have gu:∀ {hd hl:Bool},Gd hd hl 5300 3 (.tuple (us.map .int)):=fun {hd hl}=>gd_ints sm (by omega) (e:=2)
    have gz:∀ {hd hl:Bool},Gd hd hl 900 3 (.str z):=fun {hd hl}=>(gd_str sh (by omega)).mono (Nat.le_refl _) (by omega)
    have ga:∀ {hd hl:Bool},Gd hd hl 900 3 (.str (Str.ofString "a")):=fun {hd hl}=>(gd_str sa (by omega)).mono (Nat.le_refl _) (by omega)
    have g0:∀ {hd hl:Bool},Gd hd hl 900 3 (.str (Str.ofString "")):=fun {hd hl}=>(gd_str s0 (by omega)).mono (Nat.le_refl _) (by omega)
    have gn:∀ {hd hl:Bool},Gd hd hl 0 3 (.tuple []):=fun {hd hl}=>(Gd.tup Gs.nil).mono (by omega) (by omega)
    have gi:∀ {hd hl:Bool},Gs hd hl 42 2 [PyData.int 0]:=fun {hd hl}=>Gs.one ((Gd.int (by decide)).mono (Nat.le_refl _) (Nat.zero_le _))
    simp only [List.mem_cons,List.not_mem_nil,or_false] at hx
    rcases hx with rfl | rfl | rfl | rfl | rfl | rfl | rfl | rfl | rfl | rfl | rfl | rfl
    · exact ⟨.tuple [.str z,.tuple (us.map .int)],false,false,.tup (dlp va1 na1) (.cons (.str z) (.one tu)),(Gd.tup (Gs.cons gz (Gs.one gu))).mono (by omega) (by omega),.inl rfl,fun x y e=>by cases e;exact fun y e=>by cases e⟩
    · exact ⟨.list [.tuple (us.map .int),.str z],false,true,.lst (dlp va2 na2) (.cons tu (.one (.str z))),(Gd.lst (Gs.cons gu (Gs.one gz))).mono (by omega) (by omega),.inl rfl,fun x y e=>by cases e⟩
    · exact ⟨.tuple [.tuple (us.map .int)],false,false,.tup (dlp va3 na3) (.one tu),(Gd.tup (Gs.one gu)).mono (by omega) (by omega),.inl rfl,fun x y e=>by cases e⟩
    · exact ⟨.tuple [.tuple (us.map .int),.str z,.tuple []],false,false,.tup (dlp va5 na5) (.cons tu (.cons (.str z) (.one (.tup (dlp va4 na4) .nil)))),(Gd.tup (Gs.cons gu (Gs.cons gz (Gs.one gn)))).mono (by omega) (by omega),.inl rfl,fun x y e=>by cases e⟩
    · exact ⟨.none,false,false,.non,Gd.non.mono (by omega) (by omega),.inl rfl,fun x y e=>by cases e⟩
    · exact ⟨_,false,false,.str _,ga.mono (by omega) (by omega),.inl rfl,fun x y e=>by cases e⟩
    · exact ⟨.int 0,false,false,.int 0,(Gd.int (by decide)).mono (by omega) (by omega),.inl rfl,fun x y e=>by cases e⟩
    · exact ⟨.bool true,false,false,.bl true,(Gd.bl _).mono (by omega) (by omega),.inl rfl,fun x y e=>by cases e⟩
    · exact ⟨.tuple [],false,false,.tup (dlp va7 na7) .nil,gn.mono (by omega) (by omega),.inl rfl,fun x y e=>by cases e⟩
    · exact ⟨.dict [],true,false,.dct (dlp va8 na8) .nil .nil,Gd.dct0.mono (by omega) (by omega),.inr rfl,fun x y e=>by cases e⟩
    · exact ⟨.tuple [.tuple [],.str (Str.ofString "")],false,false,.tup (dlp va10 na10) (.cons (.tup (dlp va9 na9) .nil) (.one (.str _))),(Gd.tup (Gs.cons gn (Gs.one g0))).mono (by omega) (by omega),.inl rfl,fun x y e=>by cases e;exact sh_short s0 (by omega)⟩
    · exact ⟨.tuple [.tuple [.int 0],.str (Str.ofString "a")],false,false,.tup (dlp va12 na12) (.cons (.tup (dlp va11 na11) (.one (.int 0))) (.one (.str _))),(Gd.tup (Gs.cons (Gd.tup gi) (Gs.one ga))).mono (by omega) (by omega),.inl rfl,fun x y e=>by cases e;exact sh_short sa (by omega)⟩
  obtain ⟨far,ea,ma⟩:=at_in (xs:=[V.ref a1,.ref a2,.ref a3,.ref a5,.non,.str (Str.ofString "a"),.int 0,.bl true,.ref a7,.ref a8,.ref a10,.ref a12]) (i:=o) o0 (by show o < 12;exact o1)
  refine ⟨a14,_,_,_,rfl,rfl,SqL.of vl,ea,?_⟩
  exact q _ _ ((kd14.trans k2).mono (by omega)) ((gd far ma).same (dlk k2 hid0.mem))
end
end S01
namespace S01
open PySem L2 W7
theorem sml_up {us:List Int} (l:us.length≤60) (root:us.getD 0 0=-1) (up:∀ k,0 < k→k < us.length→0≤us.getD k 0∧us.getD k 0 < (k:Int)):Sml us:=fun x hx=>by
  obtain ⟨i,hi,e⟩:=List.getElem_of_mem hx
  have eg:us.getD i 0=x:=by rw [List.getD_eq_getElem?_getD,List.getElem?_eq_getElem hi];exact e
  rcases Nat.eq_zero_or_pos i with z | z
  · rw [z,root] at eg;omega
  · have:=up i z hi;omega
theorem lw_sh {z:Str} (l:z.length≤60) (h:∀ c∈z.cps.toList,Lw c):Sh 60 z:=⟨l,fun c hc=>by have:=h c hc;unfold Lw at this;omega⟩
theorem right_ex {H:Hp} {v:V} {d:PyData} (t:Td H v d) (r:RightD d):∃ (a u:Addr) (us:List Int) (z:Str),v=.ref a∧H a=some (.tup [.ref u,.str z])∧H u=some (.tup (us.map V.int))∧Sml us∧us.length=z.length∧1≤us.length∧Sh 60 z:=by
  obtain ⟨us,z,rfl,e1,l1,l6,lw,g⟩:=r
  cases t with
  | tup ha t1=>
    cases t1 with
    | cons tx t2=>
      cases t2 with
      | cons ty t3=>
        cases t3
        cases ty
        cases tx with
        | tup hu tu=>
          obtain ⟨us',f1,rfl⟩:=wholes_ints tu (fun d hd=>by obtain ⟨x,_,rfl⟩:=List.mem_map.mp hd;rfl)
          obtain rfl:us=us':=(List.map_inj_right (fun a b h=>by injection h)).mp f1
          exact ⟨_,_,us,z,rfl,ha,hu,sml_up (by omega) g.root g.up,e1,by omega,lw_sh l6 lw⟩
theorem dlu {ps:List Addr} {H:Hp} {q:Addr} {o:HO} (m:q∈ps):Same (dl ps H) (dl ps (upd H q o)):=dl_keep fun b u n e=>by
  have h:b≠q:=fun z=>n (by rw [z];exact m)
  rw [upd_ne h];exact e
section
variable {P:Program} {w:World} {K:PySem.W.Frag} {mg:Str→Option Value} {base:Heap} {k:Nat}
def sp_law:PySem.W.Frag→Sp:=fun K vs H Q _=>∃ (a:Addr) (ns:List Int),vs=[.ref a]∧SqL K H a (ns.map V.int)∧ns.length≤63∧∀ H',Q (.bl true) H'
theorem ok_law {f:Addr} {fd:FuncData} (F:Fun K "law" "law" s_law f fd) (B:Blt7 mg) (G_law_cells:Has P w K mg base "_law_cells" k ["script", "many"] (sp_cells K)) (G_law_pool:Has P w K mg base "_law_pool" k ["cell"] sp_pool) (G_law_tree:Has P w K mg base "_law_tree" k ["pool", "most"] sp_tree)
    (G_law_bent:Has P w K mg base "_law_bent" k ["pool", "tree"] sp_bent) (G_law_is_right:Has P w K mg base "_law_is_right" k ["thing"] sp_lright) (G_is_tree:Has P w K mg base "is_tree" k ["thing"] sp_istT) :
    FnOk P w K mg base CX0 (k+1) f fd ["script"] (sp_law K):=by
  refine F.ok sc_law (fun vs H Q E h=>by obtain ⟨a,ns,rfl,_⟩:=h;rfl) (fun cdv A outer s H vs Q E hr h=>?_)
  obtain ⟨a,ns,rfl,hS,h63,q⟩:=h
  refine ⟨_,(pss_cons (ps_for PassesOwn.never rfl (pi_list (pe_callH G_law_cells hr rfl (pa_cons (pv 0) (pa_cons pe_int pa_nil)))) (pg_name (i:=1) sc_law.nd rfl (by first | exact Or.inl rfl | exact Or.inr rfl))
  (pss_cons (ps_set (i:=2) sc_law.nd rfl (by first | exact Or.inl rfl | exact Or.inr rfl) (pe_callH G_law_pool hr rfl (pa_cons (pv 1) pa_nil)))
  (pss_cons (ps_set (i:=3) sc_law.nd rfl (by first | exact Or.inl rfl | exact Or.inr rfl) (pe_callH G_law_tree hr rfl (pa_cons (pv 2) (pa_cons pe_int pa_nil))))
  (pss_cons (ps_set (i:=4) sc_law.nd rfl (by first | exact Or.inl rfl | exact Or.inr rfl) (pe_lst (pa_cons (pv 3) (pa_cons (pe_tup (pa_cons (pe_tup (pa_cons (pe_op op_sub pe_int pe_int) pa_nil)) (pa_cons (pe_slice sl_str (pe_ix ix_tup (pv 3) pe_int (fun _ _=>rfl)) po_none (po_some pe_int)) pa_nil))) pa_nil))))
  (pss_cons (ps_for PassesOwn.never rfl (pi_range1 rfl B.range (pa_cons pe_int pa_nil)) (pg_name (i:=5) sc_law.nd rfl (by first | exact Or.inl rfl | exact Or.inr rfl))
  (pss_cons (ps_set (i:=6) sc_law.nd rfl (by first | exact Or.inl rfl | exact Or.inr rfl) (pe_callH G_law_bent hr rfl (pa_cons (pv 2) (pa_cons (pv 3) pa_nil))))
  (pss_cons (ps_expr (pe_bm PySem.F.plainAttrs_list PySem.F.slot_list_append PySem.F.type_list_append mt_append (pv 4) (pa_cons (pv 6) pa_nil)))
  (pss_one (ps_if (pt_val (pe_callH G_law_is_right hr rfl (pa_cons (pv 6) pa_nil)))
  (pss_one (ps_expr (pe_bm PySem.F.plainAttrs_list PySem.F.slot_list_append PySem.F.type_list_append mt_append (pv 4) (pa_cons (pe_callH G_law_bent hr rfl (pa_cons (pv 2) (pa_cons (pv 6) pa_nil))) pa_nil))))
  pss_nil)))))
  (pss_one (ps_for PassesOwn.never rfl (pi_list (pv 4)) (pg_name (i:=7) sc_law.nd rfl (by first | exact Or.inl rfl | exact Or.inr rfl))
  (pss_cons (ps_set (i:=8) sc_law.nd rfl (by first | exact Or.inl rfl | exact Or.inr rfl) (pe_callB (call_repr_any hr) rfl B.repr bt_repr (pa_cons (pv 7) pa_nil)))
  (pss_cons (ps_set (i:=9) sc_law.nd rfl (by first | exact Or.inl rfl | exact Or.inr rfl) (pe_callH G_is_tree hr rfl (pa_cons (pv 7) pa_nil)))
  (pss_one (ps_if (PW.pt (pw_or (pt_not (pt_val (pe_callB call_isinst rfl B.isinstance bt_isinstance (pa_cons (pv 9) (pa_cons (pe_bltn (v:=.ty "bool") rfl B.bool_ bt_bool rfl) pa_nil))))) (pw_or (pt_cmpR op_ne (pv 9) (pe_callH G_law_is_right hr rfl (pa_cons (pv 7) pa_nil)) (nomark _)) (pw_or1 (pt_cmpR op_ne (pe_callB (call_repr_any hr) rfl B.repr bt_repr (pa_cons (pv 7) pa_nil)) (pv 8) (nomark _))))))
  (pss_one (ps_ret pe_bl))
  pss_nil)))))))))))
  (pss_one (ps_ret pe_bl))),?_⟩
  refine ⟨_,rfl,a,ns,8,rfl,hS,h63,by decide,fun ms r H1 ml s1 hf1 hr1=>?_⟩
  refine ⟨r,rfl,⟨_,SqL.of hr1⟩,?_⟩
  refine for_list (xs:=ms.map V.int) (fun i σ H'=>∃ o1 o2 o3 o4 o5 o6 o7 o8 o9:Option V,σ=[some (.ref a),o1,o2,o3,o4,o5,o6,o7,o8,o9]∧Same H1 H') ⟨none,none,none,none,none,none,none,none,none,rfl,Same.refl H1⟩ (fun i σ H' _ h=>by obtain ⟨_,_,_,_,_,_,_,_,_,_,sX⟩:=h;exact SqL.of (sX _ _ hr1)) ?_ ?_
  rotate_left
  · rintro σ H' ⟨o1,o2,o3,o4,o5,o6,o7,o8,o9,rfl,sX⟩
    exact q H'
  rintro i x σ H' hx ⟨o1,o2,o3,o4,o5,o6,o7,o8,o9,rfl,sX⟩
  obtain ⟨cell,_,rfl⟩:=List.mem_map.mp (List.mem_of_getElem? hx)
  refine ⟨_,rfl,cell,rfl,fun p x y hp=>?_⟩
  have dk0:Deck (upd H' p (.lst [.int x,.int y,.int 0])) p 0:=⟨x,y,0,upd_same,by decide,by decide⟩
  refine ⟨_,rfl,p,60,0,rfl,dk0,by decide,by decide,by decide,by decide,fun t ups lab H2 kd tr fine=>?_⟩
  obtain ⟨u,ht,hu,ok⟩:=id tr
  have m60:=ok.most
  have ll:ups.length=lab.length:=ok.len
  have pos:=ok.pos
  have sm:Sml ups:=sml_up m60 ok.root ok.up
  have sh:Sh 60 lab:=lw_sh (by omega) fine.low
  have s2:Same H' H2:=fun b o e=>kd.keep b o (ne_of_none e hp) ((Same.refl H').new hp b o e)
  have dk2:Deck H2 p 400:=kd.deck
  clear kd dk0
  have tp:t≠p:=deck_neT dk2 ht
  have up:u≠p:=deck_neT dk2 hu
  refine ⟨_,rfl,_,_,rfl,rfl,line_le (show 1≤1000 by omega),fun b1 hb1=>?_⟩
  have nb1:b1≠p:=dk2.ne hb1
  generalize hg:upd H2 b1 _=G1
  have u1:Same H2 G1:=by rw [← hg];exact (Same.refl H2).new hb1
  have v1:G1 b1=some (.tup [.int (0 - 1)]):=by rw [← hg,upd_same]
  clear hg
  refine ⟨_,rfl,t,_,_,_,rfl,rfl,SqT.of (u1 _ _ ht),rfl,_,rfl,lab,rfl,sh_line sh (by omega),line_le (show 2≤1000 by omega),fun b2 hb2=>?_⟩
  have k1:Kd p 400 H2 G1:=(Kd.refl dk2).same u1
  have nb2:b2≠p:=k1.deck.ne hb2
  generalize hg:upd G1 b2 _=G2
  have u2:Same G1 G2:=by rw [← hg];exact (Same.refl G1).new hb2
  have v2:G2 b2=some (.tup [.ref b1,.str (cutS lab none (some 1))]):=by rw [← hg,upd_same]
  clear hg
  have k2:=k1.same u2
  replace v1:=u2 _ _ v1
  have ht2:=u2 _ _ (u1 _ _ ht)
  have hu2:=u2 _ _ (u1 _ _ hu)
  refine ⟨line_le (show 2≤1000 by omega),fun lt hlt=>?_⟩
  have nlt:lt≠p:=k2.deck.ne hlt
  have ntl:t≠lt:=ne_of_none ht2 hlt
  have nul:u≠lt:=ne_of_none hu2 hlt
  have n1l:b1≠lt:=ne_of_none v1 hlt
  have n2l:b2≠lt:=ne_of_none v2 hlt
  have two:∀ {q:Addr},q≠p→q≠lt→q ∉ [p,lt]:=fun {q} h1 h2 h=>by
    simp only [List.mem_cons,List.not_mem_nil,or_false] at h
    rcases h with h | h
    · exact h1 h
    · exact h2 h
  have mlt:lt∈[p,lt]:=by simp
  have k3:Kd p 400 G2 (upd G2 lt (.lst [.ref t,.ref b2])):=(Kd.refl k2.deck).new hlt
  have s3:Same G2 (upd G2 lt (.lst [.ref t,.ref b2])):=(Same.refl G2).new hlt
  have v3:upd G2 lt (.lst [.ref t,.ref b2]) lt=some (.lst [.ref t,.ref b2]):=upd_same
  have s02:Same H' G2:=s2.trans (u1.trans u2)
  show (fun HH=>_) (upd G2 lt (.lst [.ref t,.ref b2]))
  generalize upd G2 lt (.lst [.ref t,.ref b2])=G3 at k3 s3 v3
  have first:∀ x∈[V.ref t,.ref b2],Tg [p,lt] G3 x 23000 5 Shy:=fun x hx=>by
    simp only [List.mem_cons,List.not_mem_nil,or_false] at hx
    rcases hx with rfl | rfl
    · exact tg_pairR (s3 _ _ ht2) (two tp ntl) (s3 _ _ hu2) (two up nul) sm (by omega) (tg_txt sh (by omega))
    · exact tg_pairR (us:=[0 - 1]) (s3 _ _ v2) (two nb2 n2l) (s3 _ _ v1) (two nb1 n1l) (fun x hx=>by rw [List.mem_singleton.mp hx];decide) (by decide) (tg_txt (sh_cut sh _ _) (by omega))
  refine ⟨9,rfl,by decide,by decide,?_⟩
  refine for_range (lo:=0) (n:=9) (fun i σ HX=>∃ (o5 o6:Option V) (xs:List V),σ=[some (.ref a),some (.int cell),some (.ref p),some (.ref t),some (.ref lt),o5,o6,o7,o8,o9]∧Kd p (400+8 * i) G2 HX∧HX lt=some (.lst xs)∧xs.length≤2+2 * i∧∀ x∈xs,Tg [p,lt] HX x 23000 5 Shy)
    ⟨o5,o6,_,rfl,k3.mono (by omega),v3,Nat.le_refl 2,first⟩ ?_ ?_
  · rintro i σ HX hi ⟨o5,o6,xs,rfl,kX,hX,lX,gX⟩
    have hidX:Hid p [p,lt] HX:=⟨by simp,fun q hq=>by
      simp only [List.mem_cons,List.not_mem_nil,or_false] at hq
      rcases hq with rfl | rfl
      · obtain ⟨_,_,_,e,_⟩:=kX.deck;exact ⟨_,e⟩
      · exact ⟨_,hX⟩⟩
    refine ⟨_,rfl,_,rfl,p,t,u,ups,lab,_,[p,lt],rfl,kX.deck,hidX,by omega,by omega,kX.keep _ _ tp ht2,kX.keep _ _ up hu2,sm,ll,pos,sh,fun once HY kY tY=>?_⟩
    have hY:=kY.keep _ _ nlt hX
    have gY:∀ x∈xs++[once],Tg [p,lt] HY x 23000 5 Shy:=fun x hx=>by
      rcases List.mem_append.mp hx with hx | hx
      · exact (gX x hx).same (dlk kY hidX.mem)
      · rw [List.mem_singleton.mp hx];exact tY
    refine ⟨_,rfl,.inl ⟨rfl,_,SqL.of hY⟩,_,rfl,lt,xs,once,rfl,rfl,hY,Nat.lt_of_lt_of_le (show xs.length < 1000 by omega) (line_le (Nat.le_refl _)),?_⟩
    have kZ:Kd p (400+8 * i+4) G2 (upd HY lt (.lst (xs++[once]))):=(kX.trans kY).write hlt nlt
    have hZ:upd HY lt (.lst (xs++[once])) lt=some (.lst (xs++[once])):=upd_same
    have gZ:∀ x∈xs++[once],Tg [p,lt] (upd HY lt (.lst (xs++[once]))) x 23000 5 Shy:=fun x hx=>(gY x hx).same (dlu mlt)
    show (fun HH=>_) (upd HY lt (.lst (xs++[once])))
    generalize upd HY lt (.lst (xs++[once]))=HZ at kZ hZ gZ
    obtain ⟨d,hd,hl,td,g,o,shy⟩:=gZ once (by simp)
    refine ⟨_,rfl,once,d,rfl,td.same (dl_same _ _),shy,fun b HB sB hb=>⟨b,rfl,?_⟩⟩
    have kB:=kZ.same sB
    have hB:=sB _ _ hZ
    have gB:∀ x∈xs++[once],Tg [p,lt] HB x 23000 5 Shy:=fun x hx=>(gZ x hx).same (dls sB)
    have lB:(xs++[once]).length≤3+2 * i:=by rw [List.length_append];show xs.length+1≤_;omega
    by_cases cb:b=true
    rotate_left
    · refine L2.iteB (Bool.eq_false_iff.mpr cb) ?_
      exact ⟨_,_,_,rfl,kB.mono (by omega),hB,by omega,gB⟩
    refine iteA cb ?_
    obtain ⟨t',u',us',z',rfl,ht',hu',sm',ll',pos',sh'⟩:=right_ex (td.same (dls sB)) (hb.mp cb)
    have hidB:Hid p [p,lt] HB:=⟨by simp,fun q hq=>by
      simp only [List.mem_cons,List.not_mem_nil,or_false] at hq
      rcases hq with rfl | rfl
      · obtain ⟨_,_,_,e,_⟩:=kB.deck;exact ⟨_,e⟩
      · exact ⟨_,hB⟩⟩
    refine ⟨_,rfl,.inl ⟨rfl,_,SqL.of hB⟩,_,rfl,_,rfl,p,t',u',us',z',_,[p,lt],rfl,kB.deck,hidB,by omega,by omega,dl_same _ _ _ _ ht',dl_same _ _ _ _ hu',sm',ll',pos',sh',fun more HC kC tC'=>?_⟩
    have hC:=kC.keep _ _ nlt hB
    refine ⟨lt,_,more,rfl,rfl,hC,Nat.lt_of_lt_of_le (show (xs++[V.ref t']).length < 1000 by omega) (line_le (Nat.le_refl _)),?_⟩
    refine ⟨_,_,_,rfl,((kB.trans kC).write hlt nlt).mono (by omega),upd_same,by rw [List.length_append];show _+1≤_;omega,fun x hx=>Tg.same ?_ (dlu mlt)⟩
    rcases List.mem_append.mp hx with hx | hx
    · exact (gB x hx).same (dlk kC hidB.mem)
    · rw [List.mem_singleton.mp hx];exact tC'
  rintro σ HL ⟨o5,o6,xs,rfl,kL,hL,lL,gL⟩
  refine ⟨_,rfl,lt,rfl,⟨_,SqL.of hL⟩,?_⟩
  have s0L:Same H' HL:=fun b o e=>kL.keep b o (ne_of_none e hp) (s02 b o e)
  refine for_list (xs:=xs) (fun i σ HX=>∃ o7 o8 o9:Option V,σ=[some (.ref a),some (.int cell),some (.ref p),some (.ref t),some (.ref lt),o5,o6,o7,o8,o9]∧Same HL HX) ⟨o7,o8,o9,rfl,Same.refl HL⟩ (fun i σ HX _ h=>by obtain ⟨_,_,_,_,sX⟩:=h;exact SqL.of (sX _ _ hL)) ?_ ?_
  · rintro i v σ HX hv ⟨o7,o8,o9,rfl,sX'⟩
    obtain ⟨d,hd,hl,td,g,o,shy⟩:=gL v (List.mem_of_getElem? hv)
    have tdX:Td HX v d:=(td.same (dl_same _ _)).same sX'
    have fit:Fit d:=g.fit o (by omega) (by omega)
    refine ⟨_,rfl,v,d,rfl,tdX,fit,?_⟩
    refine ⟨_,rfl,v,d,rfl,tdX,shy,fun b HA sA hb=>?_⟩
    refine ⟨_,rfl,_,_,_,true,rfl,.bl b,kit_same _ _,_,rfl,iteF ?_⟩
    refine ⟨_,rfl,_,rfl,v,d,rfl,tdX.same sA,shy,fun b2 HB sB hb2=>?_⟩
    have eb:b=b2:=by
      rw [Bool.eq_iff_iff,hb,hb2]
    refine ⟨rfl,_,rfl,L2.iteB (by rw [eb];simp) ?_⟩
    refine ⟨_,rfl,v,d,rfl,(tdX.same sA).same sB,fit,_,rfl,rfl,_,rfl,L2.iteB (by simp) ?_⟩
    exact ⟨_,_,_,rfl,(sX'.trans sA).trans sB⟩
  · rintro σ HX ⟨o7,o8,o9,rfl,sX'⟩
    exact ⟨_,_,_,_,_,_,_,_,_,rfl,(sX.trans s0L).trans sX'⟩
end
end S01
namespace S01
open PySem L2 W7
theorem df_mk {K:PySem.W.Frag} {h:Heap} {mg:Str→Option Value} {x:Str} {st:Stmt} {f:Addr} {oc:Value} {od an:Option Addr} {osl:Array (Option Value)} {kV doc pm cdv ct:Value} (X:K.In h) (G:h.Ns mainGlobals mg)
    (a:PySem.W.nsIn K mainGlobals x=some (some (.ref f))) (l:K.lookup f=some ⟨oc,od,.func (PySem.W.fnOf x x (defArgs st) (defBody st) (defScope st) .none kV doc pm an cdv ct),osl⟩) (c:PySem.W.codeIn K cdv x=true) (kk:PySem.W.keepIn K (.ref f)=true):Df K mg x st:=
  ⟨f,_,fun_mk l c kk,PySem.W.mg_of X G a⟩
theorem blt_mk {K:PySem.W.Frag} {h:Heap} {mg:Str→Option Value} (X:K.In h) (G:h.Ns mainGlobals mg)
    (z1:PySem.W.nsIn K mainGlobals "len" = some none) (z2:PySem.W.nsIn K mainGlobals "range" = some none) (z3:PySem.W.nsIn K mainGlobals "zip" = some none) (z4:PySem.W.nsIn K mainGlobals "enumerate" = some none)
    (z5:PySem.W.nsIn K mainGlobals "max" = some none) (z6:PySem.W.nsIn K mainGlobals "min" = some none) (z7:PySem.W.nsIn K mainGlobals "int" = some none) (z8:PySem.W.nsIn K mainGlobals "str" = some none)
    (z9:PySem.W.nsIn K mainGlobals "bool" = some none) (z10:PySem.W.nsIn K mainGlobals "list" = some none) (z11:PySem.W.nsIn K mainGlobals "tuple" = some none) (z12:PySem.W.nsIn K mainGlobals "isinstance" = some none):Blt mg:=
  ⟨PySem.W.mg_none_of X G z1,PySem.W.mg_none_of X G z2,PySem.W.mg_none_of X G z3,PySem.W.mg_none_of X G z4,PySem.W.mg_none_of X G z5,PySem.W.mg_none_of X G z6,PySem.W.mg_none_of X G z7,PySem.W.mg_none_of X G z8,
    PySem.W.mg_none_of X G z9,PySem.W.mg_none_of X G z10,PySem.W.mg_none_of X G z11,PySem.W.mg_none_of X G z12⟩
theorem all_ok {P:Program} {w:World} {K:PySem.W.Frag} {mg:Str→Option Value} {fa:Addr} (hfa:mg "law" = some (.ref fa)) (B:Blt7 mg)
    (d1:Df K mg "is_whole" s_is_whole) (d2:Df K mg "is_letters" s_is_letters) (d3:Df K mg "is_tree" s_is_tree) (d4:Df K mg "is_labels" s_is_labels) (d5:Df K mg "is_ups" s_is_ups) (d6:Df K mg "all_above" s_all_above) (d7:Df K mg "_law_prime" s_law_prime) (d8:Df K mg "_law_pool" s_law_pool) (d9:Df K mg "_law_take" s_law_take) (d10:Df K mg "_law_letter" s_law_letter) (d11:Df K mg "_law_tree" s_law_tree) (d12:Df K mg "_law_cells" s_law_cells) (d13:Df K mg "_law_is_right" s_law_is_right) (d14:Df K mg "_law_ups_bent" s_law_ups_bent) (d15:Df K mg "_law_labels_bent" s_law_labels_bent) (d16:Df K mg "_law_bent" s_law_bent) (d17:Df K mg "law" s_law) :
    ∃ fd:FuncData,(∀ (s:Shared) (v:Value),BindsTo s fd ⟨[v],[]⟩ [("script", v)])∧∀ base:Heap,FnOk P w K mg base CX0 12 fa fd ["script"] (sp_law K):=by
  obtain ⟨f,fd,F,m⟩:=d17
  have e:=hfa.symm.trans m
  cases e
  refine ⟨fd,?_,fun base=>?_⟩
  · obtain ⟨oc,od,kV,doc,pm,an,cdv,ct,osl,rfl,_,_⟩:=F.ex
    exact fun s v=>.of_eq rfl
  have g_all:=R.has_all (P:=P) (w:=w) (base:=base) (k:=0) d6 B
  have g_whole:=R.has_whole (P:=P) (w:=w) (base:=base) (k:=0) d1 B
  have g_wholeT:=has_wholeT (P:=P) (w:=w) (base:=base) (k:=0) d1 B
  have g_lettersT:=has_lettersT (P:=P) (w:=w) (base:=base) (k:=0) d2 B
  have g_labelsT:=has_labelsT (k:=1) d4 B g_lettersT
  have g_upsT:=has_upsT (k:=1) d5 B g_whole g_wholeT g_all
  have g_istT:=has_istT (k:=2) d3 B g_labelsT g_upsT
  have g_lright:=has_lright (P:=P) (w:=w) (base:=base) (k:=0) d13 B
  have g_cells:=has_cells (P:=P) (w:=w) (base:=base) (k:=0) d12 B
  have g_prime:=has_prime (P:=P) (w:=w) (base:=base) (k:=0) d7 B.toBlt
  have g_pool:=has_pool (P:=P) (w:=w) (base:=base) (k:=0) d8 B.toBlt
  have g_take:=has_take (k:=1) d9 B.toBlt g_prime
  have g_letter:=has_letter (k:=2) d10 B.toBlt g_take
  have g_tree:=has_tree (k:=3) d11 B.toBlt (g_take.mono (by decide)) g_letter
  have g_ubent:=has_ubent (k:=2) d14 B g_take
  have g_lbent:=has_lbent (k:=2) d15 B g_take
  have g_bent:=has_bent (k:=3) d16 B (g_take.mono (by decide)) g_ubent g_lbent
  exact (ok_law (k:=4) F B (g_cells.mono (by decide)) (g_pool.mono (by decide)) g_tree g_bent (g_lright.mono (by decide)) (g_istT.mono (by decide))).mono (by decide)
end S01
open PySem PySem.W PyProof.Rows
set_option maxRecDepth 100000 in
set_option maxHeartbeats 0 in
theorem PySem.Challenge.cw_upwords_k01_trees_told_apart_holds : PySem.Challenge.rw_upwords_k01_trees_told_apart.Holds := by
  w_on; o_law; k_head; (case hw => w_witness2)
  k_fill
  refine L2.walk_ofK (l := PySem.Challenge.rw_upwords_k01_trees_told_apart) (n := 63) (k := 12) (x := "script") (CX := L2.CX0) (sp := S01.sp_law) rfl (by decide) rfl ⟨rfl, by decide, by decide, rfl⟩ (fun w h Y => PySem.W.kIn_of Y) ?F
    (fun K H a ns hl _ hS => ⟨a, ns, rfl, hS, hl, fun _ => rfl⟩) (fun _ _ _ _ z => z)
  case F =>
    intro w mg fa h KX G hmg
    have B : L2.Blt mg := by
      refine' S01.blt_mk KX G ?z1 ?z2 ?z3 ?z4 ?z5 ?z6 ?z7 ?z8 ?z9 ?z10 ?z11 ?z12
      (case z1 => k_is); (case z2 => k_is); (case z3 => k_is); (case z4 => k_is); (case z5 => k_is); (case z6 => k_is); (case z7 => k_is); (case z8 => k_is); (case z9 => k_is); (case z10 => k_is); (case z11 => k_is); (case z12 => k_is)
    have Bx0 : mg "repr" = none := by
      refine' PySem.W.mg_none_of KX G ?z
      (case z => k_is)
    have Bx1 : mg "all" = none := by
      refine' PySem.W.mg_none_of KX G ?z
      (case z => k_is)
    have Bx2 : ∃ u, mg "MOST_PLACES" = some u ∧ L2.RelV (.int 60) u := by
      refine' ⟨_, PySem.W.mg_of KX G ?z, ?r⟩
      (case z => k_is)
      (case r => exact ⟨_, rfl⟩)
    have Bx3 : ∃ u, mg "LETTERS" = some u ∧ L2.RelV (.str "abcdefghijklmnopqrstuvwxyz") u := by
      refine' ⟨_, PySem.W.mg_of KX G ?z, ?r⟩
      (case z => k_is)
      (case r => exact ⟨_, rfl⟩)
    have d1 : L2.Df (L2.KOf KX) mg "is_whole" S01.s_is_whole := by
      dsimp only [L2.KOf]; refine' S01.df_mk KX G ?a ?l ?c ?k
      (case a => k_is); (case l => k_is); (case c => k_is); (case k => k_is)
    have d2 : L2.Df (L2.KOf KX) mg "is_letters" S01.s_is_letters := by
      dsimp only [L2.KOf]; refine' S01.df_mk KX G ?a ?l ?c ?k
      (case a => k_is); (case l => k_is); (case c => k_is); (case k => k_is)
    have d3 : L2.Df (L2.KOf KX) mg "is_tree" S01.s_is_tree := by
      dsimp only [L2.KOf]; refine' S01.df_mk KX G ?a ?l ?c ?k
      (case a => k_is); (case l => k_is); (case c => k_is); (case k => k_is)
    have d4 : L2.Df (L2.KOf KX) mg "is_labels" S01.s_is_labels := by
      dsimp only [L2.KOf]; refine' S01.df_mk KX G ?a ?l ?c ?k
      (case a => k_is); (case l => k_is); (case c => k_is); (case k => k_is)
    have d5 : L2.Df (L2.KOf KX) mg "is_ups" S01.s_is_ups := by
      dsimp only [L2.KOf]; refine' S01.df_mk KX G ?a ?l ?c ?k
      (case a => k_is); (case l => k_is); (case c => k_is); (case k => k_is)
    have d6 : L2.Df (L2.KOf KX) mg "all_above" S01.s_all_above := by
      dsimp only [L2.KOf]; refine' S01.df_mk KX G ?a ?l ?c ?k
      (case a => k_is); (case l => k_is); (case c => k_is); (case k => k_is)
    have d7 : L2.Df (L2.KOf KX) mg "_law_prime" S01.s_law_prime := by
      dsimp only [L2.KOf]; refine' S01.df_mk KX G ?a ?l ?c ?k
      (case a => k_is); (case l => k_is); (case c => k_is); (case k => k_is)
    have d8 : L2.Df (L2.KOf KX) mg "_law_pool" S01.s_law_pool := by
      dsimp only [L2.KOf]; refine' S01.df_mk KX G ?a ?l ?c ?k
      (case a => k_is); (case l => k_is); (case c => k_is); (case k => k_is)
    have d9 : L2.Df (L2.KOf KX) mg "_law_take" S01.s_law_take := by
      dsimp only [L2.KOf]; refine' S01.df_mk KX G ?a ?l ?c ?k
      (case a => k_is); (case l => k_is); (case c => k_is); (case k => k_is)
    have d10 : L2.Df (L2.KOf KX) mg "_law_letter" S01.s_law_letter := by
      dsimp only [L2.KOf]; refine' S01.df_mk KX G ?a ?l ?c ?k
      (case a => k_is); (case l => k_is); (case c => k_is); (case k => k_is)
    have d11 : L2.Df (L2.KOf KX) mg "_law_tree" S01.s_law_tree := by
      dsimp only [L2.KOf]; refine' S01.df_mk KX G ?a ?l ?c ?k
      (case a => k_is); (case l => k_is); (case c => k_is); (case k => k_is)
    have d12 : L2.Df (L2.KOf KX) mg "_law_cells" S01.s_law_cells := by
      dsimp only [L2.KOf]; refine' S01.df_mk KX G ?a ?l ?c ?k
      (case a => k_is); (case l => k_is); (case c => k_is); (case k => k_is)
    have d13 : L2.Df (L2.KOf KX) mg "_law_is_right" S01.s_law_is_right := by
      dsimp only [L2.KOf]; refine' S01.df_mk KX G ?a ?l ?c ?k
      (case a => k_is); (case l => k_is); (case c => k_is); (case k => k_is)
    have d14 : L2.Df (L2.KOf KX) mg "_law_ups_bent" S01.s_law_ups_bent := by
      dsimp only [L2.KOf]; refine' S01.df_mk KX G ?a ?l ?c ?k
      (case a => k_is); (case l => k_is); (case c => k_is); (case k => k_is)
    have d15 : L2.Df (L2.KOf KX) mg "_law_labels_bent" S01.s_law_labels_bent := by
      dsimp only [L2.KOf]; refine' S01.df_mk KX G ?a ?l ?c ?k
      (case a => k_is); (case l => k_is); (case c => k_is); (case k => k_is)
    have d16 : L2.Df (L2.KOf KX) mg "_law_bent" S01.s_law_bent := by
      dsimp only [L2.KOf]; refine' S01.df_mk KX G ?a ?l ?c ?k
      (case a => k_is); (case l => k_is); (case c => k_is); (case k => k_is)
    have d17 : L2.Df (L2.KOf KX) mg "law" S01.s_law := by
      dsimp only [L2.KOf]; refine' S01.df_mk KX G ?a ?l ?c ?k
      (case a => k_is); (case l => k_is); (case c => k_is); (case k => k_is)
    obtain ⟨fd, h1, h2⟩ := S01.all_ok (P := PySem.Challenge.rw_upwords_k01_trees_told_apart.prog) (w := w) hmg ⟨B, Bx0, Bx1, Bx2, Bx3⟩ d1 d2 d3 d4 d5 d6 d7 d8 d9 d10 d11 d12 d13 d14 d15 d16 d17
    exact ⟨fd, h1, fun base _ _ => h2 base⟩
