import PyProof.Rows.All
import Wide.All
import OpenK.AllK
import Wide.FinOn
import Lean
import PyProof.EqAt
import PyProof.EqKinds
import PyProof.TupleCall
import PyProof.WalkInts
import PyProof.NeKinds
import KE.KSortTup
import KE.KDictOf
import PyProof.DictWalks
import PyProof.AttrMissSeq
import PyProof.Rows.TupAdd
import PyProof.Rows.RuleIs
import KE.KTryOn
import PyProof.NsDelKeeps
import PyProof.ExcAttrAll.ValueError
import KE.KMinKey
import PyProof.ListStr
import PySem.Challenge.RW_upwords_k53_what_is_a_trie
set_option Elab.async false
set_option linter.all false
set_option maxRecDepth 100000
namespace L2
open PySem PySem.Spec PyProof.Rows
abbrev Key:=Sum Int Str
def keyIs:Key→Value→Bool
  | .inl k,v=>Value.isInt k v
  | .inr x,v=>Value.isStrOf x v
def keyH (w:World):Key→Int
  | .inl k=>hashInt k
  | .inr x=>hashStr w x
theorem keyIs_shape:∀ {k:Key} {v:Value},keyIs k v=true→(∃ i t,k=Sum.inl i∧v=Value.int i t)∨(∃ x t,k=Sum.inr x∧v=Value.str x t)
  | .inl i,v,h=>by
    obtain ⟨t,e⟩:=Value.isInt_shape (k:=i) (v:=v) h
    exact .inl ⟨i,t,rfl,e⟩
  | .inr x,v,h=>by
    obtain ⟨t,e⟩:=Value.isStrOf_shape (x:=x) (v:=v) h
    exact .inr ⟨x,t,rfl,e⟩
theorem key_ll (a b:Int):decide ((Sum.inl a:Key)=Sum.inl b)=(a == b):=by
  by_cases e:a=b
  · subst e;simp
  · have h:¬ (Sum.inl a:Key)=Sum.inl b:=fun q=>e (Sum.inl.inj q)
    rw [decide_eq_false h]
    exact (beq_eq_false_iff_ne.mpr e).symm
theorem key_rr (a b:Str):decide ((Sum.inr a:Key)=Sum.inr b)=decide (a=b):=by
  by_cases e:a=b
  · subst e;simp
  · have h:¬ (Sum.inr a:Key)=Sum.inr b:=fun q=>e (Sum.inr.inj q)
    rw [decide_eq_false h,decide_eq_false e]
theorem key_lr (a:Int) (b:Str):decide ((Sum.inl a:Key)=Sum.inr b)=false:=decide_eq_false (fun q=>nomatch q)
theorem key_rl (a:Str) (b:Int):decide ((Sum.inr a:Key)=Sum.inl b)=false:=decide_eq_false (fun q=>nomatch q)
def mixKind (prog:Program) (w:World):PySem.KeyKind prog w Key where
  is:=keyIs
  hash:=keyH w
  inj:=fun v a b ha hb=>by
    rcases keyIs_shape ha with ⟨i,t,rfl,rfl⟩ | ⟨x,t,rfl,rfl⟩
    · rcases keyIs_shape hb with ⟨j,u,rfl,e⟩ | ⟨y,u,rfl,e⟩
      · injection e with e1 _;rw [e1]
      · exact nomatch e
    · rcases keyIs_shape hb with ⟨j,u,rfl,e⟩ | ⟨y,u,rfl,e⟩
      · exact nomatch e
      · injection e with e1 _;rw [e1]
  byValue:=fun k v h=>by
    rcases keyIs_shape h with ⟨i,t,rfl,rfl⟩ | ⟨x,t,rfl,rfl⟩ <;> rfl
  pyHash:=fun hv h=>by
    rcases keyIs_shape hv with ⟨i,t,rfl,rfl⟩ | ⟨x,t,rfl,rfl⟩
    · exact wpAny_pyHash_int h
    · exact wpAny_pyHash_str h
  eqBool:=fun hu hv h=>by
    rcases keyIs_shape hu with ⟨i,t,rfl,rfl⟩ | ⟨x,t,rfl,rfl⟩
    · rcases keyIs_shape hv with ⟨j,u,rfl,rfl⟩ | ⟨y,u,rfl,rfl⟩
      · rw [key_ll] at h;exact wpAny_eqBool_int h
      · rw [key_lr] at h;exact SeqAt.EqAt.int_str i t y u _ _ _ _ h
    · rcases keyIs_shape hv with ⟨j,u,rfl,rfl⟩ | ⟨y,u,rfl,rfl⟩
      · rw [key_rl] at h;exact SeqAt.EqAt.str_int x t j u _ _ _ _ h
      · rw [key_rr] at h;exact wpAny_eqBool_str h
  «strs»:=fun k x t v h=>by
    rcases keyIs_shape h with ⟨i,u,rfl,e⟩ | ⟨y,u,rfl,e⟩
    · exact nomatch e
    · injection e with e1 _
      subst e1
      cases v <;> rfl
end L2
namespace L2
open PySem PySem.Spec PyProof.Rows
inductive V where
  | non | bl (b:Bool) | int (i:Int) | str (x:Str) | byt (b:Array UInt8) | flt (b:UInt64) | ref (a:Addr) | ty (n:String)
  deriving DecidableEq
def RelV:V→Value→Prop
  | .non,u=>u=Value.none
  | .bl b,u=>u=Value.bool b
  | .int i,u=>∃ t,u=Value.int i t
  | .str x,u=>∃ t,u=Value.str x t
  | .byt b,u=>∃ t,u=Value.bytes b t
  | .flt b,u=>∃ t,u=Value.float b t
  | .ref a,u=>u=Value.ref a
  | .ty n,u=>u=Value.type n
abbrev Vals:List V→List Value→Prop:=Paired RelV
theorem Vals.length {xs:List V} {us:List Value} (r:Vals xs us):xs.length=us.length:=Paired.length r
theorem Vals.get:∀ {xs:List V} {us:List Value} {i:Nat} {x:V},Vals xs us→xs[i]?=some x→∃ u,us[i]?=some u∧RelV x u
  | _,_,_,_,.nil,e=>by simp at e
  | _,_,0,_,.cons r _,e=>by simp at e;subst e;exact ⟨_,rfl,r⟩
  | _,_,i+1,x,.cons _ t,e=>by
    obtain ⟨u,h1,h2⟩:=Vals.get (i:=i) (x:=x) t (by simpa using e)
    exact ⟨u,by simpa using h1,h2⟩
theorem Vals.set {x:V} {u:Value} (r:RelV x u):∀ {xs:List V} {us:List Value} (i:Nat),Vals xs us→Vals (xs.set i x) (us.set i u)
  | _,_,_,.nil=>.nil
  | _,_,0,.cons _ t=>.cons r t
  | _,_,i+1,.cons q t=>.cons q (Vals.set r i t)
theorem Vals.append:∀ {xs ys:List V} {us ws:List Value},Vals xs us→Vals ys ws→Vals (xs++ys) (us++ws)
  | _,_,_,_,.nil,s=>s
  | _,_,_,_,.cons r t,s=>.cons r (Vals.append t s)
theorem Vals.take:∀ {xs:List V} {us:List Value} (n:Nat),Vals xs us→Vals (xs.take n) (us.take n)
  | _,_,0,_=>.nil
  | _,_,_+1,.nil=>.nil
  | _,_,n+1,.cons r t=>.cons r (Vals.take n t)
theorem Vals.drop:∀ {xs:List V} {us:List Value} (n:Nat),Vals xs us→Vals (xs.drop n) (us.drop n)
  | _,_,0,r=>r
  | _,_,_+1,.nil=>.nil
  | _,_,n+1,.cons _ t=>Vals.drop n t
def RelO:Option V→Option Value→Prop
  | some v,some u=>RelV v u
  | none,none=>True
  | _,_=>False
def KV {κ:Type}:List (κ × V)→List (κ × Value)→Prop:=Paired fun (p:κ × V) (q:κ × Value)=>p.1=q.1∧RelV p.2 q.2
def kV:Key→V
  | .inl i=>.int i
  | .inr x=>.str x
inductive HO where
    | lst (xs:List V)
    | tup (xs:List V)
    | dK (kvs:List (Key × V)) | dT (kvs:List (List Key × V))
    | set (S:Int→Bool) (n:Nat)
    | ins (C dx:Addr) (fs:List (Str × V))
    | own (x:Addr)
    | xd (fs:List (Str × V))
    | met (f x:Addr)
    | rng (lo hi:Int)
    | frz (o:Obj) (u:HO)
    | tbl (ps:Array Value)
    | ext (φ:Heap→Prop)
abbrev Hp:=Addr→Option HO
def upd (H:Hp) (a:Addr) (o:HO):Hp:=fun b=>if b=a then some o else H b
theorem upd_same {H:Hp} {a:Addr} {o:HO}:upd H a o a=some o:=by unfold upd;rw [if_pos rfl]
theorem upd_ne {H:Hp} {a b:Addr} {o:HO} (h:b≠a):upd H a o b=H b:=by unfold upd;rw [if_neg h]
theorem upd_upd {H:Hp} {a:Addr} {o u:HO}:upd (upd H a o) a u=upd H a u:=by
  funext b;unfold upd;split <;> rfl
theorem ne_of {H:Hp} {a b:Addr} {o u:HO} (h:H a=some o) (h':H b=some u) (d:o≠u):a≠b:=by
  intro e;subst e;rw [h] at h';exact d (Option.some.inj h')
theorem ne_of_none {H:Hp} {a b:Addr} {o:HO} (h:H a=some o) (h':H b=none):a≠b:=by
  intro e;subst e;rw [h] at h';cases h'
section
variable (P:Program) (w:World)
def ObjOk (H:Hp) (h:Heap) (a:Addr):HO→Prop
  | .lst xs=>xs.length≤sizeLine∧∃ (its:List Value) (n:Nat),Vals xs its∧h.get? a=some { cls:=.type "list", data:=.seq its.toArray n }
  | .tup xs=>(xs.length≤sizeLine∧∃ o,h.get? a=some o∧o.dict=none)∧∃ its:List Value,Vals xs its∧IsTup h a its.toArray
  | .dK kvs=>kvs.length≤sizeLine∧(a == sysModules)=false∧∃ vs,KV kvs vs∧h.DictOf (mixKind P w) a vs
  | .dT kvs=>kvs.length≤sizeLine∧(a == sysModules)=false∧∃ xs:List (List Key × Addr × Value),
      Paired (fun (p:List Key × V) (q:List Key × Addr × Value)=>p.1=q.1∧H q.2.1=some (.tup (p.1.map kV))∧RelV p.2 q.2.2) kvs xs ∧
      ∃ o es ep,h.get? a=some o∧o.ExactDict∧o.data=.dict es ep∧es.toList=xs.map (entryOfKey (tupleKind (mixKind P w)))∧(xs.map (·.1)).Nodup
  | .set S n=>h.SetOf (intKind P w) a S n
  | .ins C dx fs=>H dx=some (.own a)∧fs.length≤1000∧dx≠a∧h.get? a=some (PySem.W.instObj C dx) ∧
      ∃ mA,h.Ns1 dx mA∧(∀ f,RelO (fs.lookup f) (mA f))∧PySem.Within mA (fs.map (·.1))
  | .own _=>∃ o,h.get? a=some o
  | .xd fs=>∃ mA,h.Ns1 a mA∧∀ f,RelO (fs.lookup f) (mA f)
  | .rng lo hi=>∃ t u v,h.get? a=some { cls:=.type "range", data:=.fields #[.int lo t,.int hi u,.int 1 v] }
  | .frz o u=>h.get? a=some o∧ObjOk H h a u
  | .tbl ps=>h.get? a=some { cls:=.none,data:=.fields ps }
  | .met f x=>h.get? a=some (PySem.W.methodObj (.ref f) (.ref x))
  | .ext φ=>φ h∧(∃ o,h.get? a=some o)∧∀ h1 h2:Heap,φ h1→(∀ o,h1.get? a=some o→h2.get? a=some o)→φ h2
def HOk (H:Hp) (h:Heap):Prop:=∀ a o,H a=some o→ObjOk P w H h a o
end
section
variable {P:Program} {w:World} {H H':Hp} {h h':Heap} {a:Addr} {o:HO}
theorem ObjOk.lt (x:ObjOk P w H h a o):a < h.objs.size:=by
  cases o with
  | lst xs=>obtain ⟨_,_,_,_,e⟩:=x;exact Heap.lt_size e
  | tup xs=>obtain ⟨_,_,_,p⟩:=x;exact p.lt
  | dK kvs=>obtain ⟨_,_,_,_,o,_,_,e,_⟩:=x;exact Heap.lt_size e
  | dT kvs=>obtain ⟨_,_,_,_,o,_,_,e,_⟩:=x;exact Heap.lt_size e
  | set S n=>obtain ⟨o,_,_,_,e,_⟩:=x;exact Heap.lt_size e
  | ins C dx fs=>obtain ⟨_,_,_,e,_⟩:=x;exact Heap.lt_size e
  | own y=>obtain ⟨_,e⟩:=x;exact Heap.lt_size e
  | xd fs=>obtain ⟨_,⟨_,_,_,e,_⟩,_⟩:=x;exact Heap.lt_size e
  | rng lo hi=>obtain ⟨_,_,_,e⟩:=x;exact Heap.lt_size e
  | frz ob u=>obtain ⟨e,_⟩:=x;exact Heap.lt_size e
  | tbl ps=>exact Heap.lt_size (show h.get? a=some _ from x)
  | met f y=>exact Heap.lt_size (show h.get? a=some _ from x)
  | ext φ=>obtain ⟨_,⟨_,e⟩,_⟩:=x;exact Heap.lt_size e
theorem Paired.mapP {α β:Type} {F G:α→β→Prop}:∀ {l₁:List α} {l₂:List β},Paired F l₁ l₂→(∀ a b,F a b→G a b)→Paired G l₁ l₂
  | _,_,.nil,_=>.nil
  | _,_,.cons r t,f=>.cons (f _ _ r) (Paired.mapP t f)
theorem ObjOk.stay (x:ObjOk P w H h a o) (k:∀ b u,(b=a∨H b=some (.own a))→h.get? b=some u→h'.get? b=some u)
    (ho:∀ b,H b=some (.own a)→H' b=some (.own a)) (ht:∀ b xs,H b=some (.tup xs)→H' b=some (.tup xs)):ObjOk P w H' h' a o:=by
  induction o with
  | lst xs=>obtain ⟨z,its,n,r,e⟩:=x;exact ⟨z,its,n,r,k _ _ (.inl rfl) e⟩
  | tup xs=>obtain ⟨⟨z,o1,e1,c1⟩,its,r,ob,e,c⟩:=x;exact ⟨⟨z,o1,k _ _ (.inl rfl) e1,c1⟩,its,r,ob,k _ _ (.inl rfl) e,c⟩
  | dK kvs=>obtain ⟨z,y,vs,r,ob,es,ep,e,c⟩:=x;exact ⟨z,y,vs,r,ob,es,ep,k _ _ (.inl rfl) e,c⟩
  | dT kvs=>
    obtain ⟨z,y,xs,r,ob,es,ep,e,c⟩:=x
    exact ⟨z,y,xs,Paired.mapP r fun p q z=>⟨z.1,ht _ _ z.2.1,z.2.2⟩,ob,es,ep,k _ _ (.inl rfl) e,c⟩
  | set S n=>obtain ⟨ob,es,ep,t,e,c⟩:=x;exact ⟨ob,es,ep,t,k _ _ (.inl rfl) e,c⟩
  | ins C dx fs=>
    obtain ⟨d,z,ne,e,mA,⟨od,es,ep,e2,c⟩,r⟩:=x
    exact ⟨ho _ d,z,ne,k _ _ (.inl rfl) e,mA,⟨od,es,ep,k _ _ (.inr d) e2,c⟩,r⟩
  | own y=>obtain ⟨ob,e⟩:=x;exact ⟨ob,k _ _ (.inl rfl) e⟩
  | xd fs=>obtain ⟨mA,⟨od,es,ep,e,c⟩,r⟩:=x;exact ⟨mA,⟨od,es,ep,k _ _ (.inl rfl) e,c⟩,r⟩
  | rng lo hi=>obtain ⟨t,u,v,e⟩:=x;exact ⟨t,u,v,k _ _ (.inl rfl) e⟩
  | frz ob u ih=>obtain ⟨e,q⟩:=x;exact ⟨k _ _ (.inl rfl) e,ih q⟩
  | tbl ps=>
    have e:h.get? a=some { cls:=.none,data:=.fields ps }:=x
    show h'.get? a=some { cls:=.none,data:=.fields ps }
    exact k a _ (.inl rfl) e
  | met f y=>
    have e:h.get? a=some (PySem.W.methodObj (.ref f) (.ref y)):=x
    show h'.get? a=some (PySem.W.methodObj (.ref f) (.ref y))
    exact k a _ (.inl rfl) e
  | ext φ=>obtain ⟨p,⟨o,e⟩,st⟩:=x;exact ⟨st _ _ p fun o q=>k _ _ (.inl rfl) q,⟨o,k _ _ (.inl rfl) e⟩,st⟩
theorem HOk.lt (x:HOk P w H h) (e:H a=some o):a < h.objs.size:=(x a o e).lt
theorem HOk.fresh (x:HOk P w H h) (e:h.objs.size≤a):H a=none:=by
  cases q:H a with
  | none=>rfl
  | some u=>exact absurd (Nat.lt_of_lt_of_le (x.lt q) e) (Nat.lt_irrefl _)
theorem HOk.kept (x:HOk P w H h) (k:∀ b u,h.get? b=some u→h'.get? b=some u):HOk P w H h':=fun a o e=>
  (x a o e).stay (fun b u _ q=>k b u q) (fun _ q=>q) fun _ _ q=>q
theorem HOk.laid (x:HOk P w H h) (k:∀ b u,h.get? b=some u→h'.get? b=some u) (hp:h.objs.size≤a) (new:ObjOk P w (upd H a o) h' a o):HOk P w (upd H a o) h':=fun b u e=>by
  have hn:=x.fresh hp
  by_cases hb:b=a
  · subst hb;rw [upd_same] at e;cases e;exact new
  · rw [upd_ne hb] at e
    exact (x b u e).stay (fun c v _ q=>k c v q) (fun c q=>by rw [upd_ne (ne_of_none q hn)];exact q) fun c xs q=>by rw [upd_ne (ne_of_none q hn)];exact q
end
def Rd (H:Hp) (a:Addr) (u:HO):Prop:=H a=some u∨∃ o,H a=some (.frz o u)
theorem Rd.of {H:Hp} {a:Addr} {u:HO} (h:H a=some u):Rd H a u:=.inl h
theorem Rd.ok {P:Program} {w:World} {H:Hp} {h:Heap} {a:Addr} {u:HO} (r:Rd H a u) (x:HOk P w H h):ObjOk P w H h a u:=by
  rcases r with r | ⟨o,r⟩
  · exact x a u r
  · obtain ⟨_,q⟩:=x a _ r
    exact q
def Mut:Option HO→Prop
  | some (.lst _)=>True
  | some (.dK _)=>True
  | some (.dT _)=>True
  | some (.set _ _)=>True
  | some (.ins _ _ _)=>True
  | some (.ext _)=>True
  | _=>False
section
variable {P:Program} {w:World} {H:Hp} {h h':Heap} {x e:Addr} {o':HO}
theorem HOk.write (ok:HOk P w H h) (mu:Mut (H x)) (he:e=x∨H e=some (.own x)) (k:∀ b u,b≠e→h.get? b=some u→h'.get? b=some u) (heo:∃ u,h'.get? e=some u)
    (new:ObjOk P w (upd H x o') h' x o'):HOk P w (upd H x o') h':=fun b u q=>by
  have nown:∀ c y,H c=some (.own y)→c≠x:=fun c y r z=>by subst z;rw [r] at mu;exact mu
  have ntup:∀ c xs,H c=some (.tup xs)→c≠x:=fun c xs r z=>by subst z;rw [r] at mu;exact mu
  by_cases hb:b=x
  · subst hb;rw [upd_same] at q;cases q;exact new
  · rw [upd_ne hb] at q
    by_cases hbe:b=e
    · have q':H b=some (.own x):=by
        rcases he with z | z
        · exact absurd (hbe.trans z) hb
        · rw [hbe];exact z
      rw [q] at q';cases q'
      obtain ⟨v,hv⟩:=heo
      exact ⟨v,by rw [hbe];exact hv⟩
    · refine (ok b u q).stay (fun c v hc r=>k c v ?_ r) (fun c r=>by rw [upd_ne (nown c b r)];exact r) fun c xs r=>by rw [upd_ne (ntup c xs r)];exact r
      rcases hc with rfl | hc
      · exact hbe
      · rintro rfl
        rcases he with z | z
        · exact nown c b hc z
        · rw [hc] at z;cases z;exact hb rfl
end
structure Un (fs ex:List Addr) (H H':Hp) (h h':Heap):Prop where
  keep:∀ b o,h.get? b=some o→H b=none→b ∉ fs→b ∉ ex→h'.get? b=some o
  slot:∀ b o,h.get? b=some o→H b=none→b∈fs→b ∉ ex→∃ sl,h'.get? b=some { o with slots:=sl }
  free:∀ b o,h.get? b=some o→H b=none→b ∉ ex→H' b=none
  there:∀ b o,h.get? b=some o→b ∉ ex→∃ o',h'.get? b=some o'
  tups:∀ b xs,H b=some (.tup xs)→H' b=some (.tup xs)
  frzs:∀ b o u,H b=some (.frz o u)→H' b=some (.frz o u)
  tbls:∀ b ps,H b=some (.tbl ps)→∃ more,H' b=some (.tbl (ps++more))
section
variable {fs fs' ex ex':List Addr} {H H1 H2:Hp} {h h1 h2 h':Heap} {a x e:Addr} {o:HO}
theorem Un.any (u:Un fs ex H H1 h h1) {b:Addr} {ob:Obj} (q:h.get? b=some ob) (n:H b=none) (hx:b ∉ ex):∃ sl,h1.get? b=some { ob with slots:=sl }:=by
  by_cases hb:b∈fs
  · exact u.slot b ob q n hb hx
  · exact ⟨ob.slots,u.keep b ob q n hb hx⟩
theorem Un.trans (a:Un fs ex H H1 h h1) (b:Un fs ex H1 H2 h1 h2):Un fs ex H H2 h h2 where
  keep:=fun c ob q n hc hx=>b.keep c ob (a.keep c ob q n hc hx) (a.free c ob q n hx) hc hx
  slot:=fun c ob q n hc hx=>by
    obtain ⟨sl,e1⟩:=a.slot c ob q n hc hx
    obtain ⟨sl',e2⟩:=b.slot c _ e1 (a.free c ob q n hx) hc hx
    exact ⟨sl',e2⟩
  free:=fun c ob q n hx=>by
    obtain ⟨o',e1⟩:=a.there c ob q hx
    exact b.free c o' e1 (a.free c ob q n hx) hx
  there:=fun c ob q hx=>by
    obtain ⟨o',e1⟩:=a.there c ob q hx
    exact b.there c o' e1 hx
  tups:=fun c xs q=>b.tups c xs (a.tups c xs q)
  frzs:=fun c ob xs q=>b.frzs c ob xs (a.frzs c ob xs q)
  tbls:=fun c ps q=>by
    obtain ⟨m1,e1⟩:=a.tbls c ps q
    obtain ⟨m2,e2⟩:=b.tbls c _ e1
    exact ⟨m1++m2,by rw [e2,Array.append_assoc]⟩
theorem Un.kept (k:∀ b u,h.get? b=some u→h'.get? b=some u):Un fs ex H H h h':=
  ⟨fun b ob q _ _ _=>k b ob q,fun b ob q _ _ _=>⟨ob.slots,k b ob q⟩,fun _ _ _ n _=>n,fun b ob q _=>⟨ob,k b ob q⟩,fun _ _ q=>q,fun _ _ _ q=>q,fun _ ps q=>⟨#[],by rw [q];simp⟩⟩
theorem Un.refl:Un fs ex H H h h:=Un.kept fun _ _ q=>q
theorem Un.laid (k:∀ b u,h.get? b=some u→h'.get? b=some u) (hp:h.objs.size≤a) (hn:H a=none):Un fs ex H (upd H a o) h h' where
  keep:=fun b u q _ _ _=>k b u q
  slot:=fun b u q _ _ _=>⟨u.slots,k b u q⟩
  free:=fun b u q n _=>by rw [upd_ne (Nat.ne_of_lt (Nat.lt_of_lt_of_le (Heap.lt_size q) hp))];exact n
  there:=fun b u q _=>⟨u,k b u q⟩
  tups:=fun b xs q=>by rw [upd_ne (ne_of_none q hn)];exact q
  frzs:=fun b u xs q=>by rw [upd_ne (ne_of_none q hn)];exact q
  tbls:=fun b ps q=>⟨#[],by rw [upd_ne (ne_of_none q hn),q];simp⟩
theorem Un.write (mu:Mut (H x)) (he:e=x∨H e=some (.own x)) (k:∀ b u,b≠e→h.get? b=some u→h'.get? b=some u) (heo:∃ u,h'.get? e=some u):Un fs ex H (upd H x o) h h':=by
  have hx:∀ b,H b=none→b≠x:=fun b n z=>by subst z;rw [n] at mu;exact mu
  have hb:∀ b,H b=none→b≠e:=fun b n z=>by
    subst z
    rcases he with r | r
    · exact hx b n r
    · rw [n] at r;cases r
  have hm:∀ b u,H b=some u→¬ Mut (some u)→b≠x:=fun b u q nm z=>by subst z;rw [q] at mu;exact nm mu
  refine ⟨fun b u q n _ _=>k b u (hb b n) q,fun b u q n _ _=>⟨u.slots,k b u (hb b n) q⟩,fun b u q n _=>by rw [upd_ne (hx b n)];exact n,fun b u q _=>?_,
    fun b xs q=>by rw [upd_ne (hm b _ q fun z=>z)];exact q,fun b u xs q=>by rw [upd_ne (hm b _ q fun z=>z)];exact q,fun b ps q=>⟨#[],by rw [upd_ne (hm b _ q fun z=>z),q];simp⟩⟩
  by_cases hbe:b=e
  · subst hbe;exact heo
  · exact ⟨u,k b u hbe q⟩
theorem Un.mono (u:Un fs ex H H1 h h1) (hs:∀ b∈fs,b∈fs') (hx:∀ b∈ex,b∈ex'):Un fs' ex' H H1 h h1:=
  ⟨fun b ob q n hb he=>u.keep b ob q n (fun z=>hb (hs b z)) fun z=>he (hx b z),fun _ _ q n _ he=>u.any q n fun z=>he (hx _ z),fun b ob q n he=>u.free b ob q n fun z=>he (hx b z),fun b ob q he=>u.there b ob q fun z=>he (hx b z),u.tups,u.frzs,u.tbls⟩
end
def trk (h:Heap) (H:Hp):List Addr:=(List.range h.objs.size).filter fun a=>(H a).isSome
def hidT (h:Heap) (H:Hp):Heap:=PySem.W.hideAll h (trk h H)
theorem hidT_size (h:Heap) (H:Hp):(hidT h H).objs.size=h.objs.size:=PySem.W.hideAll_size _ _
theorem hidT_get {h:Heap} {H:Hp} {b:Addr} {o:Obj} (e:h.get? b=some o) (n:H b=none):(hidT h H).get? b=some o:=
  PySem.W.hideAll_get _ e fun hm=>by
    have q:(H b).isSome=true:=(List.mem_filter.mp hm).2
    rw [n] at q;simp at q
theorem of_hidT {h:Heap} {H:Hp} {b:Addr} {o:Obj} (e:(hidT h H).get? b=some o):h.get? b=some o∧H b=none:=by
  have e':h.get? b=some o:=PySem.W.of_hideAll (trk h H) e
  refine ⟨e',?_⟩
  cases q:H b with
  | none=>rfl
  | some x=>
    have hm:b∈trk h H:=List.mem_filter.mpr ⟨List.mem_range.mpr (Heap.lt_size e'),by simp [q]⟩
    have z:(hidT h H).get? b=none:=PySem.W.hideAll_none (trk h H) hm
    rw [z] at e;cases e
def allNews (g h:Heap) (L:Addr):List (Addr × Obj):=(List.range h.objs.size).filterMap fun a=>if a=L∨(g.get? a).isSome=true then none else (h.get? a).map fun o=>(a,o)
def rest (g h:Heap) (L d:Addr):List (Addr × Obj):=(allNews g h L).filter fun p=>decide (p.1≠d)
end L2
namespace L2
open PySem PySem.Spec PyProof.Rows
structure Mod (K:PySem.W.Frag) (mg:Str→Option Value) (base:Heap):Prop where
  kin:K.In base
  glob:base.Ns mainGlobals mg
  blt:∃ mb,base.Ns builtinsNs mb∧∀ x:Str,x ≠ "__name__" → mb x=bootBuiltins x
  nolimit:base.NoLimit
structure Cx where
  prog:Program
  w:World
  K:PySem.W.Frag
  mg:Str→Option Value
  base:Heap
  A:Around
  N:List Str
  s₀:Shared
  H₀:Hp
  env:Env
  outer:List Env
  stack:List Env
  ex:List Addr
  fn:Str→Bool
  calm:Bool
  pn:List (Addr × Obj)
  xe:Value→Shared→Prop
def frs (l:List Env):List Addr:=l.filterMap (·.frame)
abbrev Cx.fs (X:Cx):List Addr:=frs X.outer
def Vis (sc:Scope) (x:Str):Prop:=sc.names.lookup x=some .local∨sc.names.lookup x=some .cell∨sc.names.lookup x=some .free
def Loc (sc:Scope) (x:Str):Prop:=sc.names.lookup x=some .local∨sc.names.lookup x=some .cell
def Look (env:Env) (h:Heap) (m:Str→Option Value) (x:Str) (u:Value):Prop:=
  (env.kindOf x=some .local∧m x=some u)∨((env.kindOf x=some .cell∨env.kindOf x=some .free)∧∃ c,env.cells.lookup x=some c∧h.IsCell c (some u))
structure Cx.Ok (X:Cx):Prop where
  mod:Mod X.K X.mg X.base
  kind:X.env.scope.kind=.function
  glob:X.env.globals=mainGlobals
  blt:X.env.builtins=builtinsNs
  above:X.s₀.heap.objs.size≤X.env.locals
  inj:∀ x y c,X.env.cells.lookup x=some c→X.env.cells.lookup y=some c→x=y
  has:∀ x,(X.env.kindOf x=some .cell∨X.env.kindOf x=some .free)→∃ c,X.env.cells.lookup x=some c
  cab:∀ x c,X.fn x=true→X.env.cells.lookup x=some c→X.s₀.heap.objs.size≤c
  hd:X.calm=true→X.A.handled=none
  frames:X.A.frames=some X.stack
  stk:X.stack=X.outer∨(X.stack=X.env :: X.outer∧X.env.frame=some X.env.locals)
  exf:∀ b∈X.ex,b≠X.env.locals∧∀ x c,X.env.cells.lookup x=some c→c≠b
  bs:∀ b o,X.base.get? b=some o→X.s₀.heap.get? b=some o∧X.H₀ b=none
  bsz:X.base.objs.size≤X.s₀.heap.objs.size
  noex:∀ b o,X.base.get? b=some o→b ∉ X.ex
  exfs:∀ b∈X.ex,b ∉ X.fs
  funs:X.s₀.heap.FunFrames X.base X.outer
  frf:∀ b∈X.fs,X.H₀ b=none
structure Inv (X:Cx) (pins:List (Addr × Obj)) (σ:List (Option V)) (H:Hp) (s:Shared):Prop where
  ok:X.Ok
  os:s.os=X.s₀.os
  bare:AllBare s.gens
  base:Un X.fs X.ex X.H₀ H X.s₀.heap s.heap
  loc:∃ m,s.heap.Ns X.env.locals m∧∀ (i:Nat) (x:Str) (v:V),X.N[i]?=some x→σ[i]?=some (some v)→Vis X.env.scope x→∃ u,RelV v u∧Look X.env s.heap m x u
  cell:∀ x c,X.env.cells.lookup x=some c→∃ v,s.heap.IsCell c v
  free:H X.env.locals=none
  freeC:∀ x c,X.env.cells.lookup x=some c→H c=none
  pin:∀ p∈X.pn++pins,s.heap.get? p.1=some p.2∧H p.1=none∧p.1≠X.env.locals∧p.1 ∉ X.fs∧∀ v,p.2.data≠.cell v
  hok:HOk X.prog X.w H s.heap
  len:σ.length=X.N.length
section
variable {X:Cx} {pins:List (Addr × Obj)} {σ:List (Option V)} {H H':Hp} {s:Shared} {h':Heap}
theorem Cx.Ok.nofr (ok:X.Ok) {b:Addr} {o:Obj} (e:X.base.get? b=some o):b ∉ X.fs:=fun hb=>by
  have:=(ok.funs.mem hb).1
  rw [e] at this;cases this
theorem Inv.bs (I:Inv X pins σ H s):∀ b o,X.base.get? b=some o→s.heap.get? b=some o∧H b=none:=fun b o e=>
  ⟨I.base.keep b o (I.ok.bs b o e).1 (I.ok.bs b o e).2 (I.ok.nofr e) (I.ok.noex b o e),I.base.free b o (I.ok.bs b o e).1 (I.ok.bs b o e).2 (I.ok.noex b o e)⟩
theorem Inv.bk (I:Inv X pins σ H s):∀ b o,X.base.get? b=some o→s.heap.get? b=some o:=fun b o e=>(I.bs b o e).1
theorem Inv.mod (I:Inv X pins σ H s):Mod X.K X.mg X.base:=I.ok.mod
theorem Inv.kIn (I:Inv X pins σ H s):X.K.In s.heap:=I.ok.mod.kin.keeps I.bk
theorem Inv.nolimit (I:Inv X pins σ H s):s.heap.NoLimit:=I.ok.mod.nolimit.keeps I.bk
theorem Inv.fr (I:Inv X pins σ H s):∃ m,Fr X.base X.env.locals s.heap m:=
  let ⟨m,hn,_⟩:=I.loc
  ⟨m,hn,I.bk,Nat.le_trans I.ok.bsz I.ok.above⟩
theorem Inv.lt (I:Inv X pins σ H s):X.env.locals < s.heap.objs.size:=let ⟨_,hn,_⟩:=I.loc;hn.lt
theorem Inv.sz (I:Inv X pins σ H s):X.s₀.heap.objs.size≤s.heap.objs.size:=Nat.le_trans I.ok.above (Nat.le_of_lt I.lt)
theorem Inv.nofs (I:Inv X pins σ H s) {a:Addr} (h:s.heap.objs.size≤a):a ∉ X.fs:=fun hb=>by
  obtain ⟨_,o,ho,_⟩:=I.ok.funs.mem hb
  exact absurd (Nat.lt_of_lt_of_le (Heap.lt_size ho) (Nat.le_trans I.sz h)) (Nat.lt_irrefl _)
theorem Inv.cne (I:Inv X pins σ H s):∀ x c,X.env.cells.lookup x=some c→c≠X.env.locals:=fun x c e z=>by
  obtain ⟨v,o,ho,hd⟩:=I.cell x c e
  obtain ⟨m,⟨o',es,ep,ho',hd',_⟩,_⟩:=I.loc
  rw [z,ho'] at ho;cases ho;rw [hd'] at hd;cases hd
theorem Inv.funs (I:Inv X pins σ H s):s.heap.FunFrames X.base X.outer:=by
  have all:∀ (l:List Env),(∀ b∈frs l,b∈X.fs)→X.s₀.heap.FunFrames X.base l→s.heap.FunFrames X.base l:=by
    intro l
    induction l with
    | nil=>intro _ _;trivial
    | cons env r ih=>
      intro hs hl
      obtain ⟨hk,⟨L,o,hf,hn,ho,hd⟩,hr⟩:=hl
      have hL:L∈X.fs:=hs L (by unfold frs;rw [List.filterMap_cons,hf];exact List.mem_cons_self)
      obtain ⟨sl,e⟩:=I.base.slot L o ho (I.ok.frf L hL) hL fun z=>I.ok.exfs L z hL
      exact ⟨hk,⟨L,_,hf,hn,e,hd⟩,ih (fun b hb=>hs b (by unfold frs;rw [List.filterMap_cons,hf];exact List.mem_cons_of_mem _ hb)) hr⟩
  exact all X.outer (fun _ hb=>hb) I.ok.funs
theorem Inv.stack (I:Inv X pins σ H s):s.heap.FunFrames X.base X.stack:=by
  rcases I.ok.stk with e | ⟨e,hf⟩
  · rw [e];exact I.funs
  · rw [e]
    obtain ⟨m,hn,_⟩:=I.loc
    refine .cons (by rw [I.ok.kind];decide) hf hn ?_ I.funs
    exact Heap.get?_none_of_le (Nat.le_trans I.ok.bsz I.ok.above)
theorem Inv.stkSub (I:Inv X pins σ H s):∀ b∈frs X.stack,b∈X.env.locals :: X.fs:=fun b hb=>by
  rcases I.ok.stk with e | ⟨e,hf⟩
  · rw [e] at hb;exact List.mem_cons_of_mem _ hb
  · rw [e] at hb
    unfold frs at hb
    rw [List.filterMap_cons,hf] at hb
    exact hb
theorem Inv.stkFree (I:Inv X pins σ H s):∀ b∈frs X.stack,H b=none:=fun b hb=>by
  rcases List.mem_cons.mp (I.stkSub b hb) with e | hb
  · rw [e];exact I.free
  · obtain ⟨_,o,ho,_⟩:=I.ok.funs.mem hb
    exact I.base.free b o ho (I.ok.frf b hb) fun z=>I.ok.exfs b z hb
theorem Inv.step {g':Array GenState} {t':Nat} {d':Drawn} {ch:List Addr} (I:Inv X pins σ H s)
    (hch:∀ b∈ch,(b∈X.ex∨X.s₀.heap.objs.size≤b)∧b≠X.env.locals∧(∀ x c,X.env.cells.lookup x=some c→c≠b)∧∀ p∈X.pn++pins,p.1≠b)
    (keep:∀ b o,b≠X.env.locals→b ∉ X.fs→b ∉ ch→s.heap.get? b=some o→H b=none→h'.get? b=some o)
    (slot:∀ b o,b≠X.env.locals→b∈X.fs→b ∉ ch→s.heap.get? b=some o→H b=none→∃ sl,h'.get? b=some { o with slots:=sl }) (free:∀ b o,b ∉ ch→s.heap.get? b=some o→H b=none→H' b=none)
    (there:∀ b o,b ∉ ch→s.heap.get? b=some o→∃ o',h'.get? b=some o')
    (tups:∀ b xs,H b=some (.tup xs)→H' b=some (.tup xs)) (frzs:∀ b o u,H b=some (.frz o u)→H' b=some (.frz o u)) (tbls:∀ b ps,H b=some (.tbl ps)→∃ more,H' b=some (.tbl (ps++more)))
    (ns:∀ m,s.heap.Ns X.env.locals m→h'.Ns X.env.locals m) (hok:HOk X.prog X.w H' h') (hg:AllBare g') :
    Inv X pins σ H' { s with heap:=h',gens:=g',drawn:=d',toks:=t' }:=by
  have neL:∀ b o,X.s₀.heap.get? b=some o→b≠X.env.locals:=fun b o e=>Nat.ne_of_lt (Nat.lt_of_lt_of_le (Heap.lt_size e) I.ok.above)
  have neC:∀ b o,X.s₀.heap.get? b=some o→b ∉ X.ex→b ∉ ch:=fun b o e hx hb=>by
    rcases (hch b hb).1 with z | z
    · exact hx z
    · exact absurd (Nat.lt_of_lt_of_le (Heap.lt_size e) z) (Nat.lt_irrefl _)
  have cellK:∀ x c,X.env.cells.lookup x=some c→∀ v,s.heap.IsCell c v→h'.IsCell c v:=fun x c e v ⟨o,ho,hd⟩=>by
    have nch:c ∉ ch:=fun z=>(hch c z).2.2.1 x c e rfl
    by_cases hc:c∈X.fs
    · obtain ⟨sl,q⟩:=slot c o (I.cne x c e) hc nch ho (I.freeC x c e)
      exact ⟨_,q,hd⟩
    · exact ⟨o,keep c o (I.cne x c e) hc nch ho (I.freeC x c e),hd⟩
  refine ⟨I.ok,I.os,hg,⟨fun b o e n hb hx=>?_,fun b o e n hb hx=>?_,fun b o e n hx=>?_,fun b o e hx=>?_,fun b xs e=>tups b xs (I.base.tups b xs e),fun b o xs e=>frzs b o xs (I.base.frzs b o xs e),fun b ps e=>?_⟩,?_,fun x c e=>?_,?_,fun x c e=>?_,fun p hp=>?_,hok,I.len⟩
  · exact keep b o (neL b o e) hb (neC b o e hx) (I.base.keep b o e n hb hx) (I.base.free b o e n hx)
  · obtain ⟨sl,e1⟩:=I.base.slot b o e n hb hx
    obtain ⟨sl',e2⟩:=slot b _ (neL b o e) hb (neC b o e hx) e1 (I.base.free b o e n hx)
    exact ⟨sl',e2⟩
  · obtain ⟨o',e1⟩:=I.base.there b o e hx
    exact free b o' (neC b o e hx) e1 (I.base.free b o e n hx)
  · obtain ⟨o',e1⟩:=I.base.there b o e hx
    exact there b o' (neC b o e hx) e1
  · obtain ⟨m1,e1⟩:=I.base.tbls b ps e
    obtain ⟨m2,e2⟩:=tbls b _ e1
    exact ⟨m1++m2,by rw [e2,Array.append_assoc]⟩
  · obtain ⟨m,hn,hl⟩:=I.loc
    refine ⟨m,ns m hn,fun i x v e1 e2 e3=>?_⟩
    obtain ⟨u,r,l⟩:=hl i x v e1 e2 e3
    refine ⟨u,r,?_⟩
    rcases l with l | ⟨k,c,e,z⟩
    · exact .inl l
    · exact .inr ⟨k,c,e,cellK x c e _ z⟩
  · obtain ⟨v,z⟩:=I.cell x c e
    exact ⟨v,cellK x c e v z⟩
  · obtain ⟨m,⟨o,_,_,ho,_⟩,_⟩:=I.loc
    exact free _ o (fun z=>(hch _ z).2.1 rfl) ho I.free
  · obtain ⟨v,o,ho,hd⟩:=I.cell x c e
    exact free c o (fun z=>(hch c z).2.2.1 x c e rfl) ho (I.freeC x c e)
  · obtain ⟨e,n,ne,nf,d⟩:=I.pin p hp
    have nch:p.1 ∉ ch:=fun z=>(hch p.1 z).2.2.2 p hp rfl
    exact ⟨keep p.1 p.2 ne nf nch e n,free p.1 p.2 nch e n,ne,nf,d⟩
theorem Inv.un {t':Nat} (I:Inv X pins σ H s) (u:Un X.fs [] H H' s.heap h') (hok:HOk X.prog X.w H' h'):Inv X pins σ H' { s with heap:=h',toks:=t' }:=by
  obtain ⟨m,⟨o,es,ep,ho,r⟩,_⟩:=id I.loc
  obtain ⟨sl,hL⟩:=u.any ho I.free (by simp)
  exact I.step (g':=s.gens) (d':=s.drawn) (ch:=[]) (fun _ z=>nomatch z) (fun b o _ hb _ e n=>u.keep b o e n hb (by simp)) (fun b o _ hb _ e n=>u.slot b o e n hb (by simp)) (fun b o _ e n=>u.free b o e n (by simp)) (fun b o _ e=>u.there b o e (by simp)) u.tups u.frzs u.tbls (fun m' hm=>by
    obtain ⟨o',es',ep',ho',r'⟩:=hm
    rw [ho] at ho';cases ho'
    exact ⟨_,es',ep',hL,r'⟩) hok I.bare
theorem Inv.call {g':Array GenState} {t':Nat} {d':Drawn} {ch:List Addr} (I:Inv X pins σ H s) (u:Un (frs X.stack) ch H H' s.heap h') (hok:HOk X.prog X.w H' h') (hg:AllBare g')
    (hch:∀ b∈ch,(b∈X.ex∨X.s₀.heap.objs.size≤b)∧b≠X.env.locals∧(∀ x c,X.env.cells.lookup x=some c→c≠b)∧∀ p∈X.pn++pins,p.1≠b) :
    Inv X pins σ H' { s with heap:=h',gens:=g',drawn:=d',toks:=t' }:=by
  obtain ⟨m,⟨o,es,ep,ho,r⟩,_⟩:=id I.loc
  obtain ⟨sl,hL⟩:=u.any ho I.free fun z=>(hch _ z).2.1 rfl
  exact I.step (ch:=ch) hch (fun b o hL hb hc e n=>u.keep b o e n (fun z=>(List.mem_cons.mp (I.stkSub b z)).elim hL hb) hc) (fun b o _ _ hc e n=>u.any e n hc) (fun b o hc e n=>u.free b o e n hc) (fun b o hc e=>u.there b o e hc) u.tups u.frzs u.tbls (fun m' hm=>by
    obtain ⟨o',es',ep',ho',r'⟩:=hm
    rw [ho] at ho';cases ho'
    exact ⟨_,es',ep',hL,r'⟩) hok hg
theorem Inv.turned {t':Nat} {it:Addr} (I:Inv X pins σ H s) (k:∀ b o,b≠it→s.heap.get? b=some o→h'.get? b=some o) (hn:H it=none) (hL:it≠X.env.locals)
    (h1:it∈X.ex∨X.s₀.heap.objs.size≤it) (h2:∀ x c,X.env.cells.lookup x=some c→c≠it) (h3:∀ p∈X.pn++pins,p.1≠it):Inv X pins σ H { s with heap:=h',toks:=t' }:=by
  have nit:∀ b u,H b=some u→b≠it:=fun b u e z=>by rw [z,hn] at e;cases e
  refine I.step (g':=s.gens) (d':=s.drawn) (ch:=[it]) (fun b hb=>?_) (fun b o _ _ hc e _=>k b o (fun z=>hc (by simp [z])) e) (fun b o _ _ hc e _=>⟨o.slots,k b o (fun z=>hc (by simp [z])) e⟩) (fun _ _ _ _ n=>n)
    (fun b o hc e=>⟨o,k b o (fun z=>hc (by simp [z])) e⟩) (fun _ _ e=>e) (fun _ _ _ e=>e) (fun b ps e=>⟨#[],by rw [e];simp⟩) (fun m hm=>?_) (fun b u e=>?_) I.bare
  · have e:b=it:=by simpa using hb
    subst e
    exact ⟨h1,hL,h2,h3⟩
  · obtain ⟨o,es,ep,ho,r⟩:=hm
    exact ⟨o,es,ep,k _ o (Ne.symm hL) ho,r⟩
  · refine (I.hok b u e).stay (fun c v hc q=>k c v ?_ q) (fun _ q=>q) fun _ _ q=>q
    rcases hc with z | z
    · rw [z];exact nit b u e
    · exact nit c _ z
theorem Inv.tok (I:Inv X pins σ H s) (t:Nat):Inv X pins σ H { s with toks:=t }:=I.un (h':=s.heap) (t':=t) Un.refl I.hok
theorem Inv.kept {t':Nat} (I:Inv X pins σ H s) (k:∀ b u,s.heap.get? b=some u→h'.get? b=some u):Inv X pins σ H { s with heap:=h',toks:=t' }:=I.un (Un.kept k) (I.hok.kept k)
theorem Inv.laid {a:Addr} {o:HO} {t':Nat} (I:Inv X pins σ H s) (k:∀ b u,s.heap.get? b=some u→h'.get? b=some u) (hp:s.heap.objs.size≤a) (new:ObjOk X.prog X.w (upd H a o) h' a o) :
    Inv X pins σ (upd H a o) { s with heap:=h',toks:=t' }:=I.un (Un.laid k hp (I.hok.fresh hp)) (I.hok.laid k hp new)
theorem Inv.write {x e:Addr} {o:HO} {t':Nat} (I:Inv X pins σ H s) (mu:Mut (H x)) (he:e=x∨H e=some (.own x)) (k:∀ b u,b≠e→s.heap.get? b=some u→h'.get? b=some u) (heo:∃ u,h'.get? e=some u)
    (new:ObjOk X.prog X.w (upd H x o) h' x o):Inv X pins σ (upd H x o) { s with heap:=h',toks:=t' }:=I.un (Un.write mu he k heo) (I.hok.write mu he k heo new)
theorem Inv.weak {σ':List (Option V)} (I:Inv X pins σ H s) (hl:σ'.length=σ.length) (w:∀ (i:Nat) v,σ'[i]?=some (some v)→σ[i]?=some (some v)):Inv X pins σ' H s:=
  ⟨I.ok,I.os,I.bare,I.base,let ⟨m,hn,hl'⟩:=I.loc;⟨m,hn,fun i x v e1 e2 e3=>hl' i x v e1 (w i v e2) e3⟩,I.cell,I.free,I.freeC,I.pin,I.hok,hl.trans I.len⟩
theorem Inv.pins_of {pins':List (Addr × Obj)} (I:Inv X pins σ H s) (h:∀ p∈pins',s.heap.get? p.1=some p.2∧H p.1=none∧p.1≠X.env.locals∧p.1 ∉ X.fs∧∀ v,p.2.data≠.cell v):Inv X pins' σ H s:=
  ⟨I.ok,I.os,I.bare,I.base,I.loc,I.cell,I.free,I.freeC,fun p hp=>(List.mem_append.mp hp).elim (fun z=>I.pin p (List.mem_append_left _ z)) (h p),I.hok,I.len⟩
theorem nodup_ix {N:List Str} (hN:N.Nodup) {i j:Nat} {x:Str} (a:N[i]?=some x) (b:N[j]?=some x):i=j:=by
  obtain ⟨h1,e1⟩:=List.getElem?_eq_some_iff.mp a
  obtain ⟨h2,e2⟩:=List.getElem?_eq_some_iff.mp b
  exact (List.getElem_inj hN).mp (e1.trans e2.symm)
theorem store_ok2 {M:Model} {A:Around} {E:Value→Shared→Prop} {i:Nat} {x:Str} {v:V} {u:Value} {Q:Unit→Shared→Prop} (I:Inv X pins σ H s) (hN:X.N.Nodup) (hi:X.N[i]?=some x) (hx:Loc X.env.scope x) (r:RelV v u)
    (h:∀ s',Inv X pins (σ.set i (some v)) H s'→(∃ a,Heap.SameBut a s.heap s'.heap∧(a=X.env.locals∨X.env.cells.lookup x=some a))→Q () s') (hf:X.fn x=true∨X.env.scope.names.lookup x=some .local:=by first | exact .inl rfl | exact .inr rfl | assumption):wpAny M A (storeName X.env x u) Q E s:=by
  obtain ⟨m,hn,hl⟩:=id I.loc
  have hcls:(X.env.scope.kind == .class || (X.env.scope.kind == .module && X.env.locals != X.env.globals))=false:=by rw [I.ok.kind];rfl
  have hiσ:i < σ.length:=by rw [I.len];exact (List.getElem?_eq_some_iff.mp hi).1
  have cne:=I.cne
  have tracked:∀ {a:Addr} {h':Heap},(∃ o,s.heap.get? a=some o∧H a=none)→Heap.SameBut a s.heap h'→HOk X.prog X.w H h':=fun {a h'} ha hs b ob e=>by
    obtain ⟨_,_,hfree⟩:=ha
    refine (I.hok b ob e).stay (fun c w' hc q=>(hs.2 c ?_).trans q) (fun _ q=>q) fun _ _ q=>q
    rintro rfl
    rcases hc with rfl | hc
    · rw [hfree] at e;cases e
    · rw [hfree] at hc;cases hc
  rcases hx with hk | hk
  · refine wpAny_storeName_local hk hn (fun h' hn' hs=>?_) hcls
    obtain ⟨oL,_,_,hoL,_⟩:=id hn
    refine h _ ⟨I.ok,I.os,I.bare,⟨fun b o e n hb hx=>?_,fun b o e n hb hx=>?_,I.base.free,fun b o e hx=>?_,I.base.tups,I.base.frzs,I.base.tbls⟩,⟨_,hn',fun j y v' e1 e2 e3=>?_⟩,fun y c e=>?_,I.free,I.freeC,fun p hp=>?_,tracked ⟨oL,hoL,I.free⟩ hs,by simpa using I.len⟩ ⟨_,hs,.inl rfl⟩
    · exact (hs.2 b (Nat.ne_of_lt (Nat.lt_of_lt_of_le (Heap.lt_size e) I.ok.above))).trans (I.base.keep b o e n hb hx)
    · obtain ⟨sl,e1⟩:=I.base.slot b o e n hb hx
      exact ⟨sl,(hs.2 b (Nat.ne_of_lt (Nat.lt_of_lt_of_le (Heap.lt_size e) I.ok.above))).trans e1⟩
    · obtain ⟨o',e1⟩:=I.base.there b o e hx
      exact ⟨o',(hs.2 b (Nat.ne_of_lt (Nat.lt_of_lt_of_le (Heap.lt_size e) I.ok.above))).trans e1⟩
    · by_cases hj:j=i
      · subst hj
        rw [hi] at e1;cases e1
        rw [List.getElem?_set_self hiσ] at e2
        cases e2
        exact ⟨u,r,.inl ⟨hk,by simp⟩⟩
      · rw [List.getElem?_set_ne (Ne.symm hj)] at e2
        obtain ⟨u',r',q⟩:=hl j y v' e1 e2 e3
        refine ⟨u',r',?_⟩
        rcases q with ⟨k,e⟩ | ⟨k,c,e,z⟩
        · refine .inl ⟨k,?_⟩
          have:y≠x:=fun e=>hj (nodup_ix hN e1 (e ▸ hi))
          simp [this,e]
        · exact .inr ⟨k,c,e,z.sameBut hs (cne y c e)⟩
    · obtain ⟨w',z⟩:=I.cell y c e
      exact ⟨w',z.sameBut hs (cne y c e)⟩
    · obtain ⟨e,n,ne,nf,d⟩:=I.pin p hp
      exact ⟨(hs.2 p.1 ne).trans e,n,ne,nf,d⟩
  · have hfn:X.fn x=true:=by
      rcases hf with z | z
      · exact z
      · rw [z] at hk;cases hk
    obtain ⟨c,hc⟩:=I.ok.has x (.inl hk)
    obtain ⟨w',z⟩:=I.cell x c hc
    refine wpAny_storeName_cell I.ok.kind hk hc z (fun h' hc' hs=>?_)
    obtain ⟨oc,hoc,hocd⟩:=id z
    refine h { s with heap:=h' } ⟨I.ok,I.os,I.bare,⟨fun b o e n hb hx=>?_,fun b o e n hb hx=>?_,I.base.free,fun b o e hx=>?_,I.base.tups,I.base.frzs,I.base.tbls⟩,⟨m,hn.sameBut hs (Ne.symm (cne x c hc)),fun j y v' e1 e2 e3=>?_⟩,fun y c' e=>?_,I.free,I.freeC,fun p hp=>?_,tracked ⟨oc,hoc,I.freeC x c hc⟩ hs,by simpa using I.len⟩ ⟨c,hs,.inr hc⟩
    · exact (hs.2 b (Nat.ne_of_lt (Nat.lt_of_lt_of_le (Heap.lt_size e) (I.ok.cab x c hfn hc)))).trans (I.base.keep b o e n hb hx)
    · obtain ⟨sl,e1⟩:=I.base.slot b o e n hb hx
      exact ⟨sl,(hs.2 b (Nat.ne_of_lt (Nat.lt_of_lt_of_le (Heap.lt_size e) (I.ok.cab x c hfn hc)))).trans e1⟩
    · obtain ⟨o',e1⟩:=I.base.there b o e hx
      exact ⟨o',(hs.2 b (Nat.ne_of_lt (Nat.lt_of_lt_of_le (Heap.lt_size e) (I.ok.cab x c hfn hc)))).trans e1⟩
    · by_cases hj:j=i
      · subst hj
        rw [hi] at e1;cases e1
        rw [List.getElem?_set_self hiσ] at e2
        cases e2
        exact ⟨u,r,.inr ⟨.inl hk,c,hc,hc'⟩⟩
      · rw [List.getElem?_set_ne (Ne.symm hj)] at e2
        obtain ⟨u',r',q⟩:=hl j y v' e1 e2 e3
        refine ⟨u',r',?_⟩
        rcases q with q | ⟨k,c',e,z'⟩
        · exact .inl q
        · refine .inr ⟨k,c',e,z'.sameBut hs ?_⟩
          rintro rfl
          exact hj (nodup_ix hN e1 (I.ok.inj _ _ _ e hc ▸ hi))
    · by_cases hcc:c'=c
      · subst hcc;exact ⟨_,hc'⟩
      · obtain ⟨w2,z2⟩:=I.cell y c' e
        exact ⟨w2,z2.sameBut hs hcc⟩
    · obtain ⟨e,n,ne,nf,d⟩:=I.pin p hp
      refine ⟨(hs.2 p.1 ?_).trans e,n,ne,nf,d⟩
      intro q
      rw [q,hoc] at e
      have q':oc=p.2:=Option.some.inj e
      exact d w' (by rw [← q'];exact hocd)
theorem store_ok {M:Model} {A:Around} {E:Value→Shared→Prop} {i:Nat} {x:Str} {v:V} {u:Value} {Q:Unit→Shared→Prop} (I:Inv X pins σ H s) (hN:X.N.Nodup) (hi:X.N[i]?=some x) (hx:Loc X.env.scope x) (r:RelV v u)
    (h:∀ s',Inv X pins (σ.set i (some v)) H s'→Q () s') (hf:X.fn x=true∨X.env.scope.names.lookup x=some .local:=by first | exact .inl rfl | exact .inr rfl | assumption):wpAny M A (storeName X.env x u) Q E s:=
  store_ok2 I hN hi hx r (fun s' I' _=>h s' I') hf
theorem Inv.call' {s':Shared} {ch:List Addr} (I:Inv X pins σ H s) (ho:s'.os=s.os) (u:Un (frs X.stack) ch H H' s.heap s'.heap) (hok:HOk X.prog X.w H' s'.heap) (hg:AllBare s'.gens)
    (hch:∀ b∈ch,(b∈X.ex∨X.s₀.heap.objs.size≤b)∧b≠X.env.locals∧(∀ x c,X.env.cells.lookup x=some c→c≠b)∧∀ p∈X.pn++pins,p.1≠b):Inv X pins σ H' s':=by
  obtain ⟨h',g',d',t',o'⟩:=s'
  have e:o'=s.os:=ho
  subst e
  exact I.call (g':=g') (t':=t') (d':=d') u hok hg hch
end
abbrev XK:=Value→Option Addr→Hp→Prop
abbrev St:=List (Option V)
abbrev VK:=V→Hp→Prop
abbrev TE:=St→Hp→VK→Prop
abbrev TT:=St→Hp→(Bool→Hp→Prop)→Prop
abbrev TA:=St→Hp→(List V→Hp→Prop)→Prop
structure Ends where
  nx:St→Hp→Prop
  rt:VK
  bk:St→Hp→Prop:=fun _ _=>False
  ct:St→Hp→Prop:=fun _ _=>False
abbrev TS:=Ends→St→Hp→Prop
def EP (X:Cx) (pins:List (Addr × Obj)) (σ:St) (Q:VK) (u:Value) (s':Shared):Prop:=∃ v H',Inv X pins σ H' s'∧RelV v u∧Q v H'
def TP (X:Cx) (pins:List (Addr × Obj)) (σ:St) (Q:Bool→Hp→Prop) (b:Bool) (s':Shared):Prop:=∃ H',Inv X pins σ H' s'∧Q b H'
def AP (X:Cx) (pins:List (Addr × Obj)) (σ:St) (Q:List V→Hp→Prop) (us:List Value) (s':Shared):Prop:=∃ vs H',Inv X pins σ H' s'∧Vals vs us∧Q vs H'
def SP (X:Cx) (pins:List (Addr × Obj)) (D:Ends) (f:Flow) (s':Shared):Prop:=
  match f with
  | .next=>∃ σ' H',Inv X pins σ' H' s'∧D.nx σ' H'
  | .brk=>∃ σ' H',Inv X pins σ' H' s'∧D.bk σ' H'
  | .cont=>∃ σ' H',Inv X pins σ' H' s'∧D.ct σ' H'
  | .ret u=>∃ v σ' H',Inv X pins σ' H' s'∧RelV v u∧D.rt v H'
def PE (X:Cx) (e:Expr) (t:TE):Prop:=
  ∀ (pins:List (Addr × Obj)) (s:Shared) (σ:St) (H:Hp) (Q:VK),Inv X pins σ H s→t σ H Q→wpAny (model X.prog X.w) X.A (eval e X.env) (EP X pins σ Q) X.xe s
def PT (X:Cx) (e:Expr) (t:TT):Prop:=
  ∀ (pins:List (Addr × Obj)) (s:Shared) (σ:St) (H:Hp) (Q:Bool→Hp→Prop),Inv X pins σ H s→t σ H Q→wpAny (model X.prog X.w) X.A (isTrue e X.env (eval e X.env)) (TP X pins σ Q) X.xe s
def PW (X:Cx) (e:Expr) (t:TT):Prop:=
  ∀ (whole:Sem Value) (pins:List (Addr × Obj)) (s:Shared) (σ:St) (H:Hp) (Q:Bool→Hp→Prop),Inv X pins σ H s→t σ H Q→wpAny (model X.prog X.w) X.A (isTrue e X.env whole) (TP X pins σ Q) X.xe s
theorem PW.pt {X:Cx} {e:Expr} {t:TT} (h:PW X e t):PT X e t:=h _
def PA (X:Cx) (es:List Expr) (t:TA):Prop:=
  ∀ (pos:Pos) (pins:List (Addr × Obj)) (s:Shared) (σ:St) (H:Hp) (Q:List V→Hp→Prop),Inv X pins σ H s→t σ H Q→wpAny (model X.prog X.w) X.A (spliced (backTo pos (starEach es X.env))) (AP X pins σ Q) X.xe s
def PS (X:Cx) (st:Stmt) (t:TS):Prop:=
  ∀ (pins:List (Addr × Obj)) (s:Shared) (σ:St) (H:Hp) (D:Ends),Inv X pins σ H s→t D σ H→wpAny (model X.prog X.w) X.A (exec st X.env) (SP X pins D) X.xe s
def PSs (X:Cx) (st:List Stmt) (t:TS):Prop:=
  ∀ (pins:List (Addr × Obj)) (s:Shared) (σ:St) (H:Hp) (D:Ends),Inv X pins σ H s→t D σ H→wpAny (model X.prog X.w) X.A (execs st X.env) (SP X pins D) X.xe s
theorem thn {α:Type} {t:Sem α} {Q Q':α→Shared→Prop} {M:Model} {A:Around} {E:Value→Shared→Prop} {s:Shared} (h:wpAny M A t Q E s) (hQ:∀ a s,Q a s→Q' a s):wpAny M A t Q' E s:=wpAny_mono h hQ fun _ _ x=>x
end L2
namespace L2
open PySem PySem.Spec PyProof.Rows
section
variable {X:Cx}
def tVar (i:Nat):TE:=fun σ H Q=>∃ v,σ[i]?=some (some v)∧Q v H
def tC (v:V):TE:=fun _ H Q=>Q v H
theorem pe_var {i:Nat} {x:Str} {pos:Pos} (hN:X.N[i]?=some x) (hv:Vis X.env.scope x) (hd:(x == ("__debug__" : Str))=false:=by decide) (hcd:(x == ("__classdict__" : Str))=false:=by decide):PE X (.Name x pos) (tVar i):=by
  intro pins s σ H Q I h
  obtain ⟨v,e,h⟩:=h
  obtain ⟨m,hn,hl⟩:=I.loc
  obtain ⟨u,r,l⟩:=hl i x v hN e hv
  have fin:EP X pins σ Q u s:=⟨v,H,I,r,h⟩
  rcases l with ⟨hk,hm⟩ | ⟨hk,c,hc,hcell⟩
  · exact wpAny_Name (wpAny_loadName_local I.ok.kind hk hn hm fin) hd
  · rcases hk with hk | hk
    · exact wpAny_Name (wpAny_loadName_cell I.ok.kind hk hc hcell fin) hd
    · exact wpAny_Name (wpAny_loadName_free I.ok.kind hk hc hcell fin hcd) hd
theorem pe_int {i j pos}:PE X (.Constant (.int i) j pos) (tC (.int i)):=fun _ _ _ H _ I h=>wpAny_Constant_int ⟨.int i,H,I.tok _,⟨_,rfl⟩,h⟩
theorem pe_bl {b j pos}:PE X (.Constant (.bool b) j pos) (tC (.bl b)):=fun _ _ _ H _ I h=>Constant_bool ⟨.bl b,H,I,rfl,h⟩
theorem pe_non {j pos}:PE X (.Constant .none j pos) (tC .non):=fun _ _ _ H _ I h=>Constant_none ⟨.non,H,I,rfl,h⟩
theorem pe_str {x j pos}:PE X (.Constant (.str x) j pos) (tC (.str x)):=fun _ _ _ H _ I h=>Calls.Constant_str ⟨.str x,H,I.tok _,⟨_,rfl⟩,h⟩
def Gl (X:Cx) (x:Str):Prop:=X.env.kindOf x=some .globalImplicit
theorem ld_glob {E:Value→Shared→Prop} {pins:List (Addr × Obj)} {s:Shared} {σ:St} {H:Hp} {x:Str} {u:Value} {pos:Pos} {Q:Value→Shared→Prop} (I:Inv X pins σ H s) (hg:Gl X x) (hm:X.mg x=some u) (h:Q u s)
    (hd:(x == ("__debug__" : Str))=false:=by decide):wpAny (model X.prog X.w) X.A (eval (.Name x pos) X.env) Q E s:=
  Calls.Name_function_global I.ok.kind hg (Calls.loadGlobal_global (by rw [I.ok.glob];exact I.mod.glob.keeps I.bk) hm h) hd
theorem ld_blt {E:Value→Shared→Prop} {pins:List (Addr × Obj)} {s:Shared} {σ:St} {H:Hp} {x:Str} {u:Value} {pos:Pos} {Q:Value→Shared→Prop} (I:Inv X pins σ H s) (hg:Gl X x) (hm:X.mg x=none) (hv:bootBuiltins x=some u) (h:Q u s)
    (hn:x ≠ "__name__" := by decide) (hd:(x == ("__debug__" : Str))=false:=by decide):wpAny (model X.prog X.w) X.A (eval (.Name x pos) X.env) Q E s:=by
  obtain ⟨mb,h1,h2⟩:=I.mod.blt
  exact Calls.Name_function_global I.ok.kind hg (Calls.loadGlobal_builtin (by rw [I.ok.glob];exact I.mod.glob.keeps I.bk) hm (by rw [I.ok.blt];exact h1.keeps I.bk) ((h2 x hn).trans hv) h) hd
theorem pe_glob {x:Str} {v:V} {u:Value} {pos:Pos} (hg:Gl X x) (hm:X.mg x=some u) (r:RelV v u) (hd:(x == ("__debug__" : Str))=false:=by decide):PE X (.Name x pos) (tC v):=
  fun _ _ _ H _ I h=>ld_glob I hg hm ⟨v,H,I,r,h⟩ hd
theorem pe_bltn {x:Str} {v:V} {u:Value} {pos:Pos} (hg:Gl X x) (hm:X.mg x=none) (hv:bootBuiltins x=some u) (r:RelV v u) (hn:x ≠ "__name__" := by decide) (hd:(x == ("__debug__" : Str))=false:=by decide):PE X (.Name x pos) (tC v):=
  fun _ _ _ H _ I h=>ld_blt I hg hm hv ⟨v,H,I,r,h⟩ hn hd
variable {a b:Expr} {ta tb:TE} {pos:Pos}
def tB (t:TE):TT:=fun σ H Q=>t σ H fun x H1=>∃ c,x=.bl c∧Q c H1
theorem pt_val {e:Expr} {t:TE} (h:PE X e t) (he:∀ whole,isTrue e X.env whole=(do let v ← whole;standAt e.pos;holding [v] (truthy v)):=by intro _;rfl):PT X e (tB t):=by
  intro pins s σ H Q I hw
  refine isTrue_plain (thn (h pins s σ H _ I hw) fun v s1 ⟨x,H1,I1,r1,q1⟩=>?_) (he _)
  obtain ⟨d,rfl,q⟩:=q1
  cases r1
  exact wpAny_truthy_bool ⟨H1,I1,q⟩
variable {tA tB':TT} {rest:List Expr}
def tAnd (t u:TT):TT:=fun σ H Q=>t σ H fun c H1=>if c=true then u σ H1 Q else Q false H1
def tOr (t u:TT):TT:=fun σ H Q=>t σ H fun c H1=>if c=true then Q true H1 else u σ H1 Q
def tNot (t:TT):TT:=fun σ H Q=>t σ H fun c H1=>Q (!c) H1
theorem pw_and1 (ha:PT X a tA):PW X (.BoolOp .And [a] pos) tA:=by
  intro wh pins s σ H Q I h
  refine isTrue_and (thn (ha pins s σ H Q I h) fun c s1 e=>?_)
  cases c with
  | true=>exact isTrue_and_nil e
  | false=>exact e
theorem pw_or1 (ha:PT X a tA):PW X (.BoolOp .Or [a] pos) tA:=by
  intro wh pins s σ H Q I h
  refine isTrue_or (thn (ha pins s σ H Q I h) fun c s1 e=>?_)
  cases c with
  | false=>exact isTrue_or_nil e
  | true=>exact e
theorem pw_and (ha:PT X a tA) (hb:PW X (.BoolOp .And (b :: rest) pos) tB'):PW X (.BoolOp .And (a :: b :: rest) pos) (tAnd tA tB'):=by
  intro wh pins s σ H Q I h
  refine isTrue_and (thn (ha pins s σ H _ I h) fun c s1 ⟨H1,I1,q1⟩=>?_)
  cases c with
  | true=>exact hb wh pins s1 σ H1 Q I1 q1
  | false=>exact ⟨H1,I1,q1⟩
theorem pw_or (ha:PT X a tA) (hb:PW X (.BoolOp .Or (b :: rest) pos) tB'):PW X (.BoolOp .Or (a :: b :: rest) pos) (tOr tA tB'):=by
  intro wh pins s σ H Q I h
  refine isTrue_or (thn (ha pins s σ H _ I h) fun c s1 ⟨H1,I1,q1⟩=>?_)
  cases c with
  | true=>exact ⟨H1,I1,q1⟩
  | false=>exact hb wh pins s1 σ H1 Q I1 q1
theorem pt_not (ha:PT X a tA):PT X (.UnaryOp .Not a pos) (tNot tA):=by
  intro pins s σ H Q I h
  exact isTrue_not (ha pins s σ H (fun c H1=>Q (!c) H1) I h)
def tAndV (ta tb:TE):TE:=fun σ H Q=>ta σ H fun x H1=>∃ c,x=.bl c∧if c=true then tb σ H1 Q else Q (.bl false) H1
def tNotV (ta:TE):TE:=fun σ H Q=>ta σ H fun x H1=>∃ c,x=.bl c∧Q (.bl (!c)) H1
theorem pe_one {op} {t:TE} (h:PE X a t):PE X (.BoolOp op [a] pos) t:=fun pins s σ H Q I hw=>BoolOp_one (h pins s σ H Q I hw)
theorem pe_and (ha:PE X a ta) (hb:PE X (.BoolOp .And (b :: rest) pos) tb):PE X (.BoolOp .And (a :: b :: rest) pos) (tAndV ta tb):=by
  intro pins s σ H Q I h
  refine BoolOp_and (thn (ha pins s σ H _ I h) fun v s1 ⟨x,H1,I1,r1,q1⟩=>?_)
  obtain ⟨c,rfl,q1⟩:=q1
  cases r1
  refine wpAny_truthy_bool ?_
  cases c with
  | true=>exact hb pins s1 σ H1 Q I1 q1
  | false=>exact ⟨.bl false,H1,I1,rfl,q1⟩
theorem pe_not (ha:PE X a ta):PE X (.UnaryOp .Not a pos) (tNotV ta):=by
  intro pins s σ H Q I h
  refine UnaryOp_ (thn (ha pins s σ H _ I h) fun v s1 ⟨x,H1,I1,r1,q1⟩=>?_)
  obtain ⟨c,rfl,q1⟩:=q1
  cases r1
  exact not_of (wpAny_truthy_bool ⟨.bl (!c),H1,I1,rfl,q1⟩)
end
end L2
namespace L2
open PySem PySem.Spec PyProof.Rows
def SqL (K:PySem.W.Frag) (H:Hp) (a:Addr) (xs:List V):Prop:=
  Rd H a (.lst xs) ∨
    ∃ (o:Obj) (its:Array Value) (n:Nat),K.lookup a=some o∧o.cls=.type "list" ∧ o.dict=none∧o.data=.seq its n∧its.size≤sizeLine∧Vals xs its.toList
def SqT (K:PySem.W.Frag) (H:Hp) (a:Addr) (xs:List V):Prop:=
  Rd H a (.tup xs) ∨
    ∃ (o:Obj) (its:Array Value) (n:Nat),K.lookup a=some o∧o.cls=.type "tuple" ∧ o.data=.seq its n∧its.size≤sizeLine∧Vals xs its.toList
def absV:Value→Option V
  | .none=>some .non
  | .bool b=>some (.bl b)
  | .int i _=>some (.int i)
  | .str x _=>some (.str x)
  | .bytes b _=>some (.byt b)
  | .float b _=>some (.flt b)
  | .ref a=>some (.ref a)
  | .type n=>some (.ty n)
  | _=>none
theorem RelV.abs {x:V} {u:Value} (r:RelV x u):absV u=some x:=by
  cases x with
  | non=>cases r;rfl
  | bl _=>cases r;rfl
  | int _=>obtain ⟨t,rfl⟩:=r;rfl
  | str _=>obtain ⟨t,rfl⟩:=r;rfl
  | byt _=>obtain ⟨t,rfl⟩:=r;rfl
  | flt _=>obtain ⟨t,rfl⟩:=r;rfl
  | ref _=>cases r;rfl
  | ty _=>cases r;rfl
theorem RelV.inj {x y:V} {u:Value} (r:RelV x u) (q:RelV y u):x=y:=Option.some.inj (r.abs.symm.trans q.abs)
theorem Vals.inj:∀ {xs ys:List V} {us:List Value},Vals xs us→Vals ys us→xs=ys
  | _,_,_,.nil,.nil=>rfl
  | _,_,_,.cons r t,.cons r' t'=>by rw [r.inj r',Vals.inj t t']
section
variable {X:Cx} {pins:List (Addr × Obj)} {σ:St} {H:Hp} {s:Shared} {a:Addr} {xs ys:List V}
theorem SqL.of {K:PySem.W.Frag} (h:H a=some (.lst xs)):SqL K H a xs:=.inl (.inl h)
theorem SqT.of {K:PySem.W.Frag} (h:H a=some (.tup xs)):SqT K H a xs:=.inl (.inl h)
theorem Inv.list (I:Inv X pins σ H s) (h:SqL X.K H a xs):∃ its:List Value,Vals xs its∧PlainL s.heap a its.toArray∧xs.length≤sizeLine:=by
  rcases h with h | ⟨o,its,n,hk,hc,hd,hs,hz,r⟩
  · obtain ⟨z,its,n,r,e⟩:=h.ok I.hok
    exact ⟨its,r,⟨_,n,e,rfl,rfl,rfl⟩,z⟩
  · refine ⟨its.toList,r,⟨o,n,I.kIn a o hk,hc,hd,by simpa using hs⟩,?_⟩
    have e:=r.length
    simp only [Array.length_toList] at e
    omega
theorem Inv.tuple (I:Inv X pins σ H s) (h:SqT X.K H a xs):∃ its:List Value,Vals xs its∧IsTup s.heap a its.toArray∧xs.length≤sizeLine:=by
  rcases h with h | ⟨o,its,n,hk,hc,hs,hz,r⟩
  · obtain ⟨z,its,r,p⟩:=h.ok I.hok
    exact ⟨its,r,p,z.1⟩
  · refine ⟨its.toList,r,⟨o,I.kIn a o hk,hc,n,by simpa using hs⟩,?_⟩
    have e:=r.length
    simp only [Array.length_toList] at e
    omega
theorem Inv.list_inj (I:Inv X pins σ H s) (h:SqL X.K H a xs) (h':SqL X.K H a ys):xs=ys:=by
  obtain ⟨its,r,⟨o,n,e,_,_,d⟩,_⟩:=I.list h
  obtain ⟨its',r',⟨o',n',e',_,_,d'⟩,_⟩:=I.list h'
  rw [e] at e';cases e'
  rw [d] at d'
  injection d' with d1 _
  have:its=its':=by simpa using congrArg Array.toList d1
  subst this
  exact r.inj r'
theorem Inv.tuple_inj (I:Inv X pins σ H s) (h:SqT X.K H a xs) (h':SqT X.K H a ys):xs=ys:=by
  obtain ⟨its,r,⟨o,e,_,n,d⟩,_⟩:=I.tuple h
  obtain ⟨its',r',⟨o',e',_,n',d'⟩,_⟩:=I.tuple h'
  rw [e] at e';cases e'
  rw [d] at d'
  injection d' with d1 _
  have:its=its':=by simpa using congrArg Array.toList d1
  subst this
  exact r.inj r'
end
abbrev Cx.wish (X:Cx) (E:Value→Shared→Prop):Cx:={ X with xe:=E }
abbrev Cx.nox (X:Cx):Cx:=X.wish fun _ _=>False
theorem Cx.Ok.wish {X:Cx} (ok:X.Ok) (E:Value→Shared→Prop):(X.wish E).Ok:=
  ⟨ok.mod,ok.kind,ok.glob,ok.blt,ok.above,ok.inj,ok.has,ok.cab,ok.hd,ok.frames,ok.stk,ok.exf,ok.bs,ok.bsz,ok.noex,ok.exfs,ok.funs,ok.frf⟩
theorem Cx.Ok.unwish {X:Cx} {E:Value→Shared→Prop} (ok:(X.wish E).Ok):X.Ok:=
  ⟨ok.mod,ok.kind,ok.glob,ok.blt,ok.above,ok.inj,ok.has,ok.cab,ok.hd,ok.frames,ok.stk,ok.exf,ok.bs,ok.bsz,ok.noex,ok.exfs,ok.funs,ok.frf⟩
section
variable {X:Cx} {pins:List (Addr × Obj)} {σ:St} {H:Hp} {s:Shared} {E:Value→Shared→Prop}
theorem Inv.wish (I:Inv X pins σ H s) (E:Value→Shared→Prop):Inv (X.wish E) pins σ H s:=⟨I.ok.wish E,I.os,I.bare,I.base,I.loc,I.cell,I.free,I.freeC,I.pin,I.hok,I.len⟩
theorem Inv.unwish (I:Inv (X.wish E) pins σ H s):Inv X pins σ H s:=⟨I.ok.unwish,I.os,I.bare,I.base,I.loc,I.cell,I.free,I.freeC,I.pin,I.hok,I.len⟩
theorem SP.unwish {D:Ends} {f:Flow} {s':Shared} (h:SP (X.wish E) pins D f s'):SP X pins D f s':=by
  cases f with
  | next=>obtain ⟨σ',H',I,q⟩:=h;exact ⟨σ',H',I.unwish,q⟩
  | brk=>obtain ⟨σ',H',I,q⟩:=h;exact ⟨σ',H',I.unwish,q⟩
  | cont=>obtain ⟨σ',H',I,q⟩:=h;exact ⟨σ',H',I.unwish,q⟩
  | ret u=>obtain ⟨v,σ',H',I,r,q⟩:=h;exact ⟨v,σ',H',I.unwish,r,q⟩
theorem PE.nox {e:Expr} {t:TE} (h:PE X.nox e t):PE X e t:=fun pins s σ H Q I hw=>
  wpAny_mono (h pins s σ H Q (I.wish _) hw) (fun _ _ ⟨v,H',I',r,q⟩=>⟨v,H',I'.unwish,r,q⟩) fun _ _ z=>False.elim z
theorem PT.nox {e:Expr} {t:TT} (h:PT X.nox e t):PT X e t:=fun pins s σ H Q I hw=>
  wpAny_mono (h pins s σ H Q (I.wish _) hw) (fun _ _ ⟨H',I',q⟩=>⟨H',I'.unwish,q⟩) fun _ _ z=>False.elim z
theorem PSs.nox {st:List Stmt} {t:TS} (h:PSs X.nox st t):PSs X st t:=fun pins s σ H D I hw=>
  wpAny_mono (h pins s σ H D (I.wish _) hw) (fun _ _ q=>q.unwish) fun _ _ z=>False.elim z
end
section
variable {X:Cx} {st:Stmt} {rest:List Stmt} {t u:TS} {e:Expr} {te:TE} {pos:Pos}
def tNext:TS:=fun D σ H=>D.nx σ H
def tSeq (t u:TS):TS:=fun D σ H=>t { D with nx:=u D } σ H
theorem pss_nil:PSs X [] tNext:=fun _ _ σ H _ I h=>wpAny_execs_nil ⟨σ,H,I,h⟩
theorem pss_cons (h1:PS X st t) (h2:PSs X rest u):PSs X (st :: rest) (tSeq t u):=by
  intro pins s σ H D I h
  refine wpAny_execs_cons (thn (h1 pins s σ H { D with nx:=u D } I h) fun f s1 q=>?_)
  cases f with
  | next=>
    obtain ⟨σ',H',I',q⟩:=q
    exact h2 pins s1 σ' H' D I' q
  | ret v=>exact q
  | brk=>exact q
  | cont=>exact q
theorem pss_one (h1:PS X st t):PSs X [st] t:=by
  intro pins s σ H D I h
  refine wpAny_execs_cons (thn (h1 pins s σ H D I h) fun f s1 q=>?_)
  cases f with
  | next=>exact wpAny_execs_nil q
  | ret v=>exact q
  | brk=>exact q
  | cont=>exact q
theorem Inv.quiet {pins:List (Addr × Obj)} {σ:St} {H:Hp} {s:Shared} (I:Inv X pins σ H s):interactive X.env=false:=by simp [interactive,I.ok.kind]
def tDrop (te:TE):TS:=fun D σ H=>te σ H fun _ H1=>D.nx σ H1
theorem ps_expr (he:PE X e te) (hs:swapsWith e none pos.line X.env=pure false:=by rfl):PS X (.Expr e pos) (tDrop te):=by
  intro pins s σ H D I h
  exact wpAny_Expr_any (thn (he pins s σ H _ I h) fun v s1 ⟨x,H1,I1,r1,q1⟩=>⟨σ,H1,I1,q1⟩) I.quiet hs
def tRet (te:TE):TS:=fun D σ H=>te σ H D.rt
theorem ps_ret (he:PE X e te):PS X (.Return (some e) pos) (tRet te):=by
  intro pins s σ H D I h
  exact wpAny_Return_some (thn (he pins s σ H _ I h) fun v s1 ⟨x,H1,I1,r1,q1⟩=>⟨x,σ,H1,I1,r1,q1⟩)
def tIfS (c:TT) (t u:TS):TS:=fun D σ H=>c σ H fun b H1=>if b=true then t D σ H1 else u D σ H1
theorem ps_if {c:Expr} {a b:List Stmt} {tc:TT} (hc:PT X c tc) (ha:PSs X a t) (hb:PSs X b u):PS X (.If c a b pos) (tIfS tc t u):=by
  intro pins s σ H D I h
  refine wpAny_If (thn (hc pins s σ H _ I h) fun d s1 ⟨H1,I1,q1⟩=>?_)
  cases d with
  | true=>exact ha pins s1 σ H1 D I1 q1
  | false=>exact hb pins s1 σ H1 D I1 q1
end
abbrev TG:=V→St→Hp→(St→Hp→Prop)→Prop
abbrev TGs:=List V→St→Hp→(St→Hp→Prop)→Prop
def PG (X:Cx) (target:Expr) (t:TG):Prop:=
  ∀ (pins:List (Addr × Obj)) (s:Shared) (σ:St) (H:Hp) (v:V) (u:Value) (Q:St→Hp→Prop),Inv X pins σ H s→RelV v u→t v σ H Q →
    wpAny (model X.prog X.w) X.A (assign target X.env u) (fun _ s'=>∃ σ' H',Inv X pins σ' H' s'∧Q σ' H') X.xe s
def PGs (X:Cx) (ts:List Expr) (t:TGs):Prop:=
  ∀ (pins:List (Addr × Obj)) (s:Shared) (σ:St) (H:Hp) (vs:List V) (us:List Value) (Q:St→Hp→Prop),Inv X pins σ H s→Vals vs us→t vs σ H Q →
    wpAny (model X.prog X.w) X.A (assignInOrder ((assignEach ts X.env).map (·.2)) us) (fun _ s'=>∃ σ' H',Inv X pins σ' H' s'∧Q σ' H') X.xe s
abbrev TSet:=V→V→V→Hp→(Hp→Prop)→Prop
def PSet (X:Cx) (t:TSet):Prop:=
  ∀ (pins:List (Addr × Obj)) (s:Shared) (σ:St) (H:Hp) (o i v:V) (ov iv u:Value) (Q:Hp→Prop),Inv X pins σ H s→RelV o ov→RelV i iv→RelV v u→t o i v H Q →
    wpAny (model X.prog X.w) X.A (setItem ov iv u) (fun _ s'=>∃ H',Inv X pins σ H' s'∧Q H') X.xe s
section
variable {X:Cx} {pos:Pos}
def gName (i:Nat):TG:=fun v σ H Q=>Q (σ.set i (some v)) H
theorem pg_name {i:Nat} {x:Str} (hN:X.N.Nodup) (hi:X.N[i]?=some x) (hx:Loc X.env.scope x) (hf:X.fn x=true∨X.env.scope.names.lookup x=some .local:=by first | exact .inl rfl | exact .inr rfl | assumption):PG X (.Name x pos) (gName i):=by
  intro pins s σ H v u Q I r h
  exact wpAny_assign_Name (store_ok I hN hi hx r (fun s' I'=>⟨_,H,I',h⟩) hf)
def gNil:TGs:=fun vs σ H Q=>vs=[]∧Q σ H
def gCons (t:TG) (u:TGs):TGs:=fun vs σ H Q=>∃ v r,vs=v :: r∧t v σ H fun σ' H'=>u r σ' H' Q
theorem pgs_nil:PGs X [] gNil:=by
  intro pins s σ H vs us Q I r h
  obtain ⟨e,h⟩:=h
  subst e
  cases r
  exact assignInOrder_nil ⟨σ,H,I,h⟩
theorem pgs_cons {e:Expr} {es:List Expr} {t:TG} {u:TGs} (h1:PG X e t) (h2:PGs X es u)
    (hs:(assignEach (e :: es) X.env).map (·.2)=assign e X.env :: (assignEach es X.env).map (·.2):=by rfl):PGs X (e :: es) (gCons t u):=by
  intro pins s σ H vs us Q I r h
  obtain ⟨v,vr,e1,h⟩:=h
  subst e1
  cases r with
  | cons r rr=>
    rw [hs]
    refine assignInOrder_cons (thn (h1 pins s σ H _ _ _ I r h) fun _ s1 ⟨σ1,H1,I1,q1⟩=>?_)
    exact h2 pins s1 σ1 H1 _ _ Q I1 rr q1
def gTup (K:PySem.W.Frag) (n:Nat) (t:TGs):TG:=fun v σ H Q=>∃ a xs,v=.ref a∧SqT K H a xs∧xs.length=n∧t xs σ H Q
theorem pg_tup {es:List Expr} {k:Nat} {t:TGs} {n:Nat} (hc:X.calm=true) (h:PGs X es t)
    (hn:(assignEach es X.env).length=n:=by rfl) (hst:(assignEach es X.env).findIdx? (·.1)=none:=by rfl):PG X (.Tuple es k pos) (gTup X.K n t):=by
  intro pins s σ H v u Q I r hw
  obtain ⟨a,xs,e1,hq,hl,hw⟩:=hw
  subst e1
  cases r
  obtain ⟨its,rv,ht,hz⟩:=I.tuple hq
  refine assign_Tuple_tuple (I.ok.hd hc) ht (by simp [hn,← hl,rv.length]) hst fun h' hx=>?_
  have I1:Inv X pins σ H { s with heap:=h' }:=I.kept (t':=s.toks) fun b o e=>hx b o (Nat.ne_of_lt (Heap.lt_size e)) e
  exact h pins _ σ H xs _ Q I1 (by simpa using rv) hw
def gSub (to ti:TE) (t:TSet):TG:=fun v σ H Q=>to σ H fun o H1=>ti σ H1 fun i H2=>t o i v H2 fun H3=>Q σ H3
theorem pg_sub {o i:Expr} {to ti:TE} {t:TSet} (ho:PE X o to) (hi:PE X i ti) (hs:PSet X t)
    (ha:∀ v,assign (.Subscript o i pos) X.env v=(do
      let ov ← holding [v] (eval o X.env)
      let iv ← holding [v,ov] (eval i X.env)
      standAt pos
      holding [v,ov,iv] (setItem ov iv v)
      release [v,ov,iv] []):=by intro _;rfl):PG X (.Subscript o i pos) (gSub to ti t):=by
  intro pins s σ H v u Q I r h
  rw [ha]
  refine wpAny_bind (wpAny_holding (thn (ho pins s σ H _ I h) fun ov s1 ⟨x,H1,I1,r1,q1⟩=>?_))
  refine wpAny_bind (wpAny_holding (thn (hi pins s1 σ H1 _ I1 q1) fun iv s2 ⟨y,H2,I2,r2,q2⟩=>?_))
  refine wpAny_bind (wpAny_standAt (wpAny_bind (wpAny_holding (thn (hs pins s2 σ H2 x y v ov iv u _ I2 r1 r2 r q2) fun _ s3 ⟨H3,I3,q3⟩=>?_))))
  exact wpAny_release ⟨σ,H3,I3,q3⟩
def tAsg (te:TE) (g:TG):TS:=fun D σ H=>te σ H fun x H1=>g x σ H1 D.nx
theorem ps_asg {tg e:Expr} {te:TE} {g:TG} (he:PE X e te) (hg:PG X tg g) (hs:swapsWithSole [tg] e pos.line X.env=pure false:=by rfl) (hw:swappedStores [tg] e X.env=pure none:=by rfl)
    (h1:(assignEach [tg] X.env).map (·.2)=[assign tg X.env]:=by rfl):PS X (.Assign [tg] e pos) (tAsg te g):=by
  intro pins s σ H D I h
  refine wpAny_Assign_stores (thn (he pins s σ H _ I h) fun v s1 ⟨x,H1,I1,r1,q1⟩=>?_) hs hw
  rw [h1]
  exact thn (hg pins s1 σ H1 x v _ I1 r1 q1) fun _ s2 q=>q
theorem ps_set {i:Nat} {x:Str} {e:Expr} {te:TE} {pos':Pos} (hN:X.N.Nodup) (hi:X.N[i]?=some x) (hx:Loc X.env.scope x) (he:PE X e te) (hs:swapsWith e (some (.Name x pos')) pos.line X.env=pure false:=by rfl) (hf:X.fn x=true∨X.env.scope.names.lookup x=some .local:=by first | exact .inl rfl | exact .inr rfl | assumption) :
    PS X (.Assign [.Name x pos'] e pos) (tAsg te (gName i)):=by
  intro pins s σ H D I h
  refine wpAny_Assign_Name (thn (he pins s σ H _ I h) fun v s1 ⟨y,H1,I1,r1,q1⟩=>?_) hs
  exact store_ok I1 hN hi hx r1 (fun s2 I2=>⟨_,H1,I2,q1⟩) hf
end
section
variable {X:Cx} {pos:Pos}
def tWhile (c:TT) (tb:TS):TS:=fun D σ H=>∃ W:Nat→St→Hp→Prop,(∃ m,W m σ H)∧∀ m σ H,W m σ H →
  c σ H fun b H1=>if b=true then ∃ N:St→Hp→Prop,(∀ σ' H',N σ' H'→∃ m',m' < m∧W m' σ' H')∧tb { D with nx:=N,ct:=N,bk:=D.nx } σ H1 else D.nx σ H1
theorem ps_while {c:Expr} {body:List Stmt} {tc:TT} {tb:TS} (hp:PassesOwn (model X.prog X.w) X.A X.env X.xe) (hc:PT X c tc) (hb:PSs X body tb):PS X (.While c body [] pos) (tWhile tc tb):=by
  intro pins s σ H D I h
  obtain ⟨W,⟨m0,w0⟩,turn⟩:=h
  refine wpAny_While (codeAny_whileLoop (fun n s'=>∃ σ' H',Inv X pins σ' H' s'∧W n σ' H') ?_ m0 ⟨σ,H,I,w0⟩)
  rintro n s1 ⟨σ1,H1,I1,w1⟩
  refine wpAny_passesOwn hp (thn (hc pins s1 σ1 H1 _ I1 (turn n σ1 H1 w1)) fun b s2 ⟨H2,I2,q2⟩=>?_)
  cases b with
  | true=>
    obtain ⟨N,hN,q2⟩:=q2
    rw [if_pos rfl]
    refine wpAny_passesOwn hp (thn (hb pins s2 σ1 H2 _ I2 q2) fun f s3 q3=>?_)
    cases f with
    | next=>
      obtain ⟨σ3,H3,I3,n3⟩:=q3
      obtain ⟨m',hm,w3⟩:=hN σ3 H3 n3
      exact ⟨m',hm,σ3,H3,I3,w3⟩
    | cont=>
      obtain ⟨σ3,H3,I3,n3⟩:=q3
      obtain ⟨m',hm,w3⟩:=hN σ3 H3 n3
      exact ⟨m',hm,σ3,H3,I3,w3⟩
    | brk=>exact q3
    | ret v=>exact q3
  | false=>
    rw [if_neg Bool.false_ne_true]
    exact wpAny_execs_nil ⟨σ1,H2,I2,q2⟩
end
structure It where
  go:Nat→Hp→Prop
  yld:Nat→Hp→V→Hp→Prop
  stop:Nat→Hp→Prop
def FpOk (X:Cx) (pins:List (Addr × Obj)) (H:Hp) (b:Addr):Prop:=
  H b=none∧b≠X.env.locals∧b ∉ X.fs∧(b∈X.ex∨X.s₀.heap.objs.size≤b)∧(∀ x c,X.env.cells.lookup x=some c→c≠b)∧∀ p∈X.pn++pins,p.1≠b
theorem Inv.fpOk {X:Cx} {pins:List (Addr × Obj)} {σ:St} {H H':Hp} {s:Shared} {b:Addr} (I:Inv X pins σ H s) (hb:s.heap.objs.size≤b) (hn:H' b=none):FpOk X pins H' b:=by
  refine ⟨hn,Nat.ne_of_gt (Nat.lt_of_lt_of_le I.lt hb),I.nofs hb,.inr (Nat.le_trans I.sz hb),fun x c e z=>?_,fun p hp z=>?_⟩
  · obtain ⟨v,q⟩:=I.cell x c e
    exact absurd (Nat.lt_of_lt_of_le q.lt (by rw [z];exact hb)) (Nat.lt_irrefl _)
  · exact absurd (Nat.lt_of_lt_of_le (Heap.lt_size (I.pin p hp).1) (by rw [z];exact hb)) (Nat.lt_irrefl _)
structure Turn (P:Program) (w:World) (K:PySem.W.Frag) (tg:Expr) (J:It) (fp:List Addr) (it:Addr) (tn:Nat→Heap→Prop):Prop where
  mem:it∈fp
  obj:∀ i h,tn i h→∀ b∈fp,∃ o,h.get? b=some o∧∀ v,o.data≠.cell v
  keep:∀ i h h',tn i h→(∀ b∈fp,∀ o,h.get? b=some o→h'.get? b=some o)→tn i h'
  item:∀ (X:Cx),X.prog=P→X.w=w→X.K=K→X.calm=true→∀ (i:Nat) (pins:List (Addr × Obj)) (s:Shared) (σ:St) (H:Hp) (E:Value→Shared→Prop),Inv X pins σ H s→(∀ b∈fp,FpOk X pins H b)→tn i s.heap→J.go i H →
    wpAny (model P w) X.A (pyNext (.ref it)) (fun r s1=>∃ u,r=some u ∧
      wpAny (model P w) X.A (letOwnedTupleGo tg (.ref it) u) (fun _ s2=>∃ x H',Inv X pins σ H' s2∧RelV x u∧J.yld i H x H'∧tn (i+1) s2.heap∧∀ b∈fp,H' b=none) E s1) E s
  done:∀ (X:Cx),X.prog=P→X.w=w→X.K=K→X.calm=true→∀ (i:Nat) (pins:List (Addr × Obj)) (s:Shared) (σ:St) (H:Hp) (E:Value→Shared→Prop),Inv X pins σ H s→(∀ b∈fp,FpOk X pins H b)→tn i s.heap→J.stop i H →
    wpAny (model P w) X.A (pyNext (.ref it)) (fun r s1=>r=none∧Inv X pins σ H s1) E s
  self:∀ (A:Around) (i:Nat) (s:Shared) (Q:Value→Shared→Prop) (E:Value→Shared→Prop),tn i s.heap→Q (.ref it) s→wpAny (model P w) A (pyIter (.ref it)) Q E s
abbrev TI:=St→Hp→(It→Hp→Prop)→Prop
def PIE (X:Cx) (pins:List (Addr × Obj)) (σ:St) (tg:Expr) (R:It→Hp→Prop) (itv:Value) (s2:Shared):Prop:=
  ∃ (it:Addr) (fp:List Addr) (tn:Nat→Heap→Prop) (J:It) (H':Hp),itv=.ref it∧Inv X pins σ H' s2∧Turn X.prog X.w X.K tg J fp it tn∧tn 0 s2.heap∧(∀ b∈fp,FpOk X pins H' b)∧R J H'
def PI (X:Cx) (tg iter:Expr) (wi:TI):Prop:=
  ∀ (pins:List (Addr × Obj)) (s:Shared) (σ:St) (H:Hp) (R:It→Hp→Prop),Inv X pins σ H s→wi σ H R →
    wpAny (model X.prog X.w) X.A (eval iter X.env) (fun v s1=>wpAny (model X.prog X.w) X.A (pyIter v) (PIE X pins σ tg R) X.xe s1) X.xe s
theorem go_of {M:Model} {A:Around} {E:Value→Shared→Prop} {s:Shared} {tg:Expr} {it:Addr} {u:Value} {o:Obj} {n:String} {vs:Array Value} {Q:Unit→Shared→Prop} (ho:s.heap.get? it=some o) (hc:o.cls=.type n) (hd:o.data=.fields vs)
    (hn:["enumerate", "zip", "dict_itemiterator", "dict_reverseitemiterator", "odict_iterator", "itertools.zip_longest", "itertools.pairwise"].contains n=false) (hQ:Q () s):wpAny M A (letOwnedTupleGo tg (.ref it) u) Q E s:=by
  unfold letOwnedTupleGo
  cases tg <;> first
    | exact wpAny_pure hQ
    | (cases u <;> first
        | exact wpAny_pure hQ
        | (refine wpAny_bind (wpAny_load ho ?_)
           rw [hc,hd]
           show wpAny M A (if (["enumerate", "zip", "dict_itemiterator", "dict_reverseitemiterator", "odict_iterator", "itertools.zip_longest", "itertools.pairwise"].contains n && vs[0]? == some (rawInt _))=true then _ else _) Q E s
           rw [if_neg (by intro h;rw [hn,Bool.false_and] at h;cases h)]
           exact wpAny_pure hQ))
def Itl (K:PySem.W.Frag) (a:Addr):It:=
  ⟨fun i H=>∃ xs x,SqL K H a xs∧xs[i]?=some x,fun i H x H'=>H'=H∧∀ xs,SqL K H a xs→xs[i]?=some x,fun i H=>∃ xs,SqL K H a xs∧xs.length≤i⟩
def Itt (K:PySem.W.Frag) (a:Addr):It:=
  ⟨fun i H=>∃ xs x,SqT K H a xs∧xs[i]?=some x,fun i H x H'=>H'=H∧∀ xs,SqT K H a xs→xs[i]?=some x,fun i H=>∃ xs,SqT K H a xs∧xs.length≤i⟩
def Itr (lo:Int) (n:Nat):It:=⟨fun i _=>i < n,fun i H x H'=>H'=H∧x=.int (lo+i),fun i _=>n≤i⟩
theorem turn_list {P:Program} {w:World} {K:PySem.W.Frag} {tg:Expr} (a it:Addr):Turn P w K tg (Itl K a) [it] it (fun i h=>h.IsListIter it a i) where
  mem:=by simp
  obj:=fun i h st b hb=>by
    have e:b=it:=by simpa using hb
    subst e
    obtain ⟨o,e,c,d⟩:=st
    exact ⟨o,e,fun v z=>by rw [d] at z;cases z⟩
  keep:=fun i h h' st k=>st.at fun o e=>k it (by simp) o e
  item:=by
    intro X hP hw hK hc i pins s σ H E I hf st hg
    subst hP hw hK
    obtain ⟨xs,x,hq,hx⟩:=hg
    obtain ⟨its,rv,p,hz⟩:=I.list hq
    obtain ⟨u,hu,ru⟩:=rv.get hx
    obtain ⟨f0,f1,f2,f3,f4,f5⟩:=hf it (by simp)
    refine wpAny_pyNext_list_item st p.isList (x:=u) (by simpa using hu) fun h' st' sb=>?_
    have I1:Inv X pins σ H { s with heap:=h' }:=I.turned (t':=s.toks) (fun b o hb e=>(sb.2 b hb).trans e) f0 f1 f3 f4 f5
    obtain ⟨o,e,c,d⟩:=id st'
    exact ⟨u,rfl,go_of (s:={ s with heap:=h' }) e c d (by decide) ⟨x,H,I1,ru,⟨rfl,fun ys hy=>by rw [I.list_inj hy hq];exact hx⟩,st',fun b hb=>(hf b hb).1⟩⟩
  done:=by
    intro X hP hw hK hc i pins s σ H E I hf st hg
    subst hP hw hK
    obtain ⟨xs,hq,hx⟩:=hg
    obtain ⟨its,rv,p,hz⟩:=I.list hq
    obtain ⟨f0,f1,f2,f3,f4,f5⟩:=hf it (by simp)
    have hl:=rv.length
    exact wpAny_pyNext_list_end (I.ok.hd hc) st p.isList (by simp;omega) fun h' eb=>⟨rfl,I.turned (t':=s.toks) (fun b o hb e=>eb b o hb e) f0 f1 f3 f4 f5⟩
  self:=fun _ _ _ _ _ st h=>wpAny_pyIter_listiter st h
theorem turn_tuple {P:Program} {w:World} {K:PySem.W.Frag} {tg:Expr} (a it:Addr):Turn P w K tg (Itt K a) [it] it (fun i h=>h.IsTupleIter it a i) where
  mem:=by simp
  obj:=fun i h st b hb=>by
    have e:b=it:=by simpa using hb
    subst e
    obtain ⟨o,e,c,d⟩:=st
    exact ⟨o,e,fun v z=>by rw [d] at z;cases z⟩
  keep:=fun i h h' st k=>st.at fun o e=>k it (by simp) o e
  item:=by
    intro X hP hw hK hc i pins s σ H E I hf st hg
    subst hP hw hK
    obtain ⟨xs,x,hq,hx⟩:=hg
    obtain ⟨its,rv,p,hz⟩:=I.tuple hq
    obtain ⟨u,hu,ru⟩:=rv.get hx
    obtain ⟨f0,f1,f2,f3,f4,f5⟩:=hf it (by simp)
    refine wpAny_pyNext_tuple_item st (show s.heap.IsTuple a its.toArray from p) (x:=u) (by simpa using hu) fun h' st' sb=>?_
    have I1:Inv X pins σ H { s with heap:=h' }:=I.turned (t':=s.toks) (fun b o hb e=>(sb.2 b hb).trans e) f0 f1 f3 f4 f5
    obtain ⟨o,e,c,d⟩:=id st'
    exact ⟨u,rfl,go_of (s:={ s with heap:=h' }) e c d (by decide) ⟨x,H,I1,ru,⟨rfl,fun ys hy=>by rw [I.tuple_inj hy hq];exact hx⟩,st',fun b hb=>(hf b hb).1⟩⟩
  done:=by
    intro X hP hw hK hc i pins s σ H E I hf st hg
    subst hP hw hK
    obtain ⟨xs,hq,hx⟩:=hg
    obtain ⟨its,rv,p,hz⟩:=I.tuple hq
    obtain ⟨f0,f1,f2,f3,f4,f5⟩:=hf it (by simp)
    have hl:=rv.length
    exact wpAny_pyNext_tuple_end (I.ok.hd hc) st (show s.heap.IsTuple a its.toArray from p) (by simp;omega) fun h' eb=>⟨rfl,I.turned (t':=s.toks) (fun b o hb e=>eb b o hb e) f0 f1 f3 f4 f5⟩
  self:=fun _ _ _ _ _ st h=>wpAny_pyIter_tupleiter st h
theorem turn_range {P:Program} {w:World} {K:PySem.W.Frag} {tg:Expr} (it:Addr) (lo:Int) (n:Nat):Turn P w K tg (Itr lo n) [it] it (fun i h=>IsRangeIter h it (lo+(i:Nat) * 1) ((n:Int) - (i:Nat)) 1) where
  mem:=by simp
  obj:=fun i h st b hb=>by
    have e:b=it:=by simpa using hb
    subst e
    exact ⟨_,st,fun v z=>by
      have z':Data.fields _=Data.cell v:=z
      cases z'⟩
  keep:=fun i h h' st k=>k it (by simp) _ st
  item:=by
    intro X hP hw hK hc i pins s σ H E I hf st hg
    subst hP hw hK
    obtain ⟨f0,f1,f2,f3,f4,f5⟩:=hf it (by simp)
    have W:=Walks.range (prog:=X.prog) (w:=X.w) (I.ok.hd hc) it lo 1 n
    refine W.item i s _ _ hg st fun v h' tk hv st' kk=>?_
    obtain ⟨t,rfl⟩:=hv
    have I1:Inv X pins σ H { s with heap:=h',toks:=tk }:=I.turned (fun b o hb e=>kk b o (by simpa using hb) e) f0 f1 f3 f4 f5
    refine ⟨_,rfl,go_of (s:={ s with heap:=h',toks:=tk }) (n := "range_iterator") st' rfl rfl (by decide) ⟨.int (lo+i),H,I1,⟨t,?_⟩,⟨rfl,rfl⟩,st',fun b hb=>(hf b hb).1⟩⟩
    rw [Int.mul_one]
  done:=by
    intro X hP hw hK hc i pins s σ H E I hf st hg
    subst hP hw hK
    obtain ⟨f0,f1,f2,f3,f4,f5⟩:=hf it (by simp)
    exact wpAny_pyNext_range_end (I.ok.hd hc) st (by have:n≤i:=hg;omega) fun h' eb=>⟨rfl,I.turned (t':=s.toks) (fun b o hb e=>eb b o hb e) f0 f1 f3 f4 f5⟩
  self:=fun _ _ _ _ _ st h=>wpAny_pyIter_rangeiter st h
end L2
namespace L2
open PySem PySem.Spec PyProof.Rows
section
variable {X:Cx} {tg:Expr}
def iList (K:PySem.W.Frag) (tl:TE):TI:=fun σ H R=>tl σ H fun x H1=>∃ a,x=.ref a∧(∃ xs,SqL K H1 a xs)∧R (Itl K a) H1
def iTup (K:PySem.W.Frag) (tl:TE):TI:=fun σ H R=>tl σ H fun x H1=>∃ a,x=.ref a∧(∃ xs,SqT K H1 a xs)∧R (Itt K a) H1
theorem pi_list {l:Expr} {tl:TE} (hl:PE X l tl):PI X tg l (iList X.K tl):=by
  intro pins s σ H R I h
  refine thn (hl pins s σ H _ I h) fun v s1 ⟨x,H1,I1,r1,q1⟩=>?_
  obtain ⟨a,e,⟨xs,hq⟩,q⟩:=q1
  subst e
  cases r1
  obtain ⟨its,rv,p,hz⟩:=I1.list hq
  refine wpAny_pyIter_list p.isList ?_
  refine ⟨s1.heap.objs.size,[s1.heap.objs.size],_,_,H1,rfl,I1.kept (t':=s1.toks) fun b o e=>Heap.get?_push_of_some _ e,turn_list a _,⟨_,Heap.get?_push_size _ rfl,rfl,rfl⟩,fun b hb=>?_,q⟩
  have e:b=s1.heap.objs.size:=by simpa using hb
  subst e
  exact I1.fpOk (Nat.le_refl _) (I1.hok.fresh (Nat.le_refl _))
theorem pi_tup {l:Expr} {tl:TE} (hl:PE X l tl):PI X tg l (iTup X.K tl):=by
  intro pins s σ H R I h
  refine thn (hl pins s σ H _ I h) fun v s1 ⟨x,H1,I1,r1,q1⟩=>?_
  obtain ⟨a,e,⟨xs,hq⟩,q⟩:=q1
  subst e
  cases r1
  obtain ⟨its,rv,p,hz⟩:=I1.tuple hq
  refine wpAny_pyIter_tuple (show s1.heap.IsTuple a its.toArray from p) ?_
  refine ⟨s1.heap.objs.size,[s1.heap.objs.size],_,_,H1,rfl,I1.kept (t':=s1.toks) fun b o e=>Heap.get?_push_of_some _ e,turn_tuple a _,⟨_,Heap.get?_push_size _ rfl,rfl,rfl⟩,fun b hb=>?_,q⟩
  have e:b=s1.heap.objs.size:=by simpa using hb
  subst e
  exact I1.fpOk (Nat.le_refl _) (I1.hok.fresh (Nat.le_refl _))
theorem range_it {pins:List (Addr × Obj)} {σ:St} {H:Hp} {s:Shared} {R:It→Hp→Prop} {E:Value→Shared→Prop} {lo hi:Int} {t u v:Tok} {tk:Nat} (I:Inv X pins σ H s) (h1:-(2 ^ 62)≤lo) (h2:lo < 2 ^ 62) (h3:-(2 ^ 62)≤hi) (h4:hi < 2 ^ 62)
    (q:R (Itr lo (hi - lo).toNat) H):wpAny (model X.prog X.w) X.A (pyIter (.ref s.heap.objs.size)) (PIE X pins σ tg R) E { s with heap:=s.heap.push { cls:=.type "range", data:=.fields #[.int lo t,.int hi u,.int 1 v] },toks:=tk }:=by
  refine wpAny_pyIter_range (IsRange.new ..) (small_one h1 h2 h3 h4) ?_
  have I1:Inv X pins σ H { s with heap:=s.heap.push { cls:=.type "range", data:=.fields #[.int lo t,.int hi u,.int 1 v] },toks:=tk }:=I.kept fun b o e=>Heap.get?_push_of_some _ e
  refine ⟨(s.heap.push { cls:=.type "range", data:=.fields #[.int lo t,.int hi u,.int 1 v] }).objs.size,[(s.heap.push { cls:=.type "range", data:=.fields #[.int lo t,.int hi u,.int 1 v] }).objs.size],_,_,H,rfl,
    I1.kept (t':=tk) fun b o e=>Heap.get?_push_of_some _ e,turn_range _ lo (hi - lo).toNat,?_,fun b hb=>?_,q⟩
  · have e1:lo+((0:Nat):Int) * 1=lo:=by simp
    have e2:(((hi - lo).toNat:Nat):Int) - ((0:Nat):Int)=Builtin.Range.rangeSize lo hi 1:=by rw [rangeSize_one];split <;> omega
    show IsRangeIter _ _ (lo+((0:Nat):Int) * 1) ((((hi - lo).toNat:Nat):Int) - ((0:Nat):Int)) 1
    rw [e1,e2]
    exact Heap.get?_push_size _ rfl
  · have e:b=(s.heap.push { cls:=.type "range", data:=.fields #[.int lo t,.int hi u,.int 1 v] }).objs.size:=by simpa using hb
    subst e
    exact I1.fpOk (Nat.le_refl _) (I1.hok.fresh (Nat.le_refl _))
def iRng1 (ta:TA):TI:=fun σ H R=>ta σ H fun vs H1=>∃ j:Int,vs=[.int j]∧-(2 ^ 62)≤j∧j < 2 ^ 62∧R (Itr 0 j.toNat) H1
def iRng2 (ta:TA):TI:=fun σ H R=>ta σ H fun vs H1=>∃ i j:Int,vs=[.int i,.int j]∧(-(2 ^ 62)≤i∧i < 2 ^ 62∧-(2 ^ 62)≤j∧j < 2 ^ 62)∧R (Itr i (j - i).toNat) H1
theorem pi_range1 {a:Expr} {ta:TA} {p pos:Pos} (hg:Gl X "range") (hm:X.mg "range" = none) (ha:PA X [a] ta) (hs:starEach [a] X.env=[(false,eval a X.env)]:=by rfl):PI X tg (.Call (.Name "range" p) [a] [] pos) (iRng1 ta):=by
  intro pins s σ H R I h
  refine Call_ (ld_blt I hg hm boot_range (PyProof.Rows.callWith_type1 (thn (ha pos pins s σ H _ I h) fun us s1 ⟨vs,H1,I1,r1,q1⟩=>?_) hs rfl))
  obtain ⟨j,e,q1,q2,q⟩:=q1
  subst e
  cases r1 with
  | cons r rr=>
    cases rr
    obtain ⟨t,rfl⟩:=r
    exact call_range_1 (range_it I1 (by omega) (by omega) q1 q2 (by simpa using q))
theorem pi_range2 {a b:Expr} {ta:TA} {p pos:Pos} (hg:Gl X "range") (hm:X.mg "range" = none) (ha:PA X [a,b] ta) (hs:starEach [a,b] X.env=[(false,eval a X.env),(false,eval b X.env)]:=by rfl) (hs2:starEach [b] X.env=[(false,eval b X.env)]:=by rfl) :
    PI X tg (.Call (.Name "range" p) [a,b] [] pos) (iRng2 ta):=by
  intro pins s σ H R I h
  refine Call_ (ld_blt I hg hm boot_range (PyProof.Rows.callWith_type1 (thn (ha pos pins s σ H _ I h) fun us s1 ⟨vs,H1,I1,r1,q1⟩=>?_) (by rw [hs,hs2]) (by rw [hs2];rfl)))
  obtain ⟨i,j,e,⟨q1,q2,q3,q4⟩,q⟩:=q1
  subst e
  cases r1 with
  | cons r rr=>
    cases rr with
    | cons r' rr=>
      cases rr
      obtain ⟨t,rfl⟩:=r
      obtain ⟨t',rfl⟩:=r'
      exact call_range_2 (range_it I1 q1 q2 q3 q4 q)
def tFor (wi:TI) (g:TG) (tb:TS):TS:=fun D σ H=>wi σ H fun J H1=>∃ W:Nat→Nat→St→Hp→Prop,(∃ m,W 0 m σ H1)∧∀ i m σ H,W i m σ H →
  (J.stop i H∧D.nx σ H)∨(J.go i H∧∃ N:St→Hp→Prop,(∀ σ' H',N σ' H'→∃ m',m' < m∧W (i+1) m' σ' H')∧∀ x H',J.yld i H x H'→g x σ H' fun σ2 H2=>tb { D with nx:=N,ct:=N,bk:=D.nx } σ2 H2)
def pinsAt (fp:List Addr) (h:Heap):List (Addr × Obj):=fp.filterMap fun b=>(h.get? b).map fun o=>(b,o)
theorem mem_pinsAt {fp:List Addr} {h:Heap} {b:Addr} {o:Obj} (hb:b∈fp) (e:h.get? b=some o):(b,o)∈pinsAt fp h:=List.mem_filterMap.mpr ⟨b,hb,by rw [e];rfl⟩
theorem of_pinsAt {fp:List Addr} {h:Heap} {p:Addr × Obj} (hp:p∈pinsAt fp h):p.1∈fp∧h.get? p.1=some p.2:=by
  obtain ⟨b,hb,e⟩:=List.mem_filterMap.mp hp
  cases q:h.get? b with
  | none=>rw [q] at e;cases e
  | some o=>
    rw [q] at e
    have e':(b,o)=p:=Option.some.inj e
    subst e'
    exact ⟨hb,q⟩
theorem Inv.pinned {pins:List (Addr × Obj)} {σ:St} {H:Hp} {s:Shared} {fp:List Addr} (I:Inv X pins σ H s) (hf:∀ b∈fp,FpOk X pins H b) (ho:∀ b∈fp,∃ o,s.heap.get? b=some o∧∀ v,o.data≠.cell v):Inv X (pins++pinsAt fp s.heap) σ H s:=
  I.pins_of fun p hp=>(List.mem_append.mp hp).elim (fun z=>I.pin p (List.mem_append_right _ z)) fun z=>by
    obtain ⟨hb,e⟩:=of_pinsAt z
    obtain ⟨f0,f1,f2,_⟩:=hf p.1 hb
    obtain ⟨o,e',d⟩:=ho p.1 hb
    rw [e] at e';cases e'
    exact ⟨e,f0,f1,f2,d⟩
theorem Inv.unpinned {pins pl:List (Addr × Obj)} {σ:St} {H:Hp} {s:Shared} (I:Inv X (pins++pl) σ H s):Inv X pins σ H s:=I.pins_of fun p hp=>I.pin p (List.mem_append_right _ (List.mem_append_left _ hp))
theorem ps_for {iter:Expr} {body:List Stmt} {wi:TI} {g:TG} {tb:TS} {pos:Pos} (hp:PassesOwn (model X.prog X.w) X.A X.env X.xe) (hc:X.calm=true) (hi:PI X tg iter wi) (hg:PG X tg g) (hb:PSs X body tb)
    (hs:∀ x,foldedSetIterable iter X.env x=pure x:=by intro _;rfl):PS X (.For tg iter body [] pos) (tFor wi g tb):=by
  intro pins s σ H D I h
  refine wpAny_For (thn (hi pins s σ H _ I h) fun v s1 h1=>thn h1 fun itv s2 h2=>?_) hs
  obtain ⟨it,fp,tn,J,H2,e,I2,T,st2,f2,W,⟨m0,w0⟩,turn⟩:=h2
  subst e
  have stat:∀ {H':Hp},(∀ b∈fp,H' b=none)→∀ b∈fp,FpOk X pins H' b:=fun hn b hb=>⟨hn b hb,(f2 b hb).2⟩
  refine codeAny_forLoop_any (fun n s'=>∃ i σ' H',Inv X pins σ' H' s'∧tn i s'.heap∧(∀ b∈fp,H' b=none)∧W i n σ' H') ?_ m0 ⟨0,σ,H2,I2,st2,fun b hb=>(f2 b hb).1,w0⟩
  rintro n s3 ⟨i,σ3,H3,I3,st3,fr3,w3⟩
  rcases turn i n σ3 H3 w3 with ⟨stop,qn⟩ | ⟨go,N,hN,step⟩
  · refine wpAny_passesOwn hp (thn (T.done X rfl rfl rfl hc i pins s3 σ3 H3 X.xe I3 (stat fr3) st3 stop) fun r s4 ⟨hr,I4⟩=>?_)
    subst hr
    exact wpAny_execs_nil ⟨σ3,H3,I4,qn⟩
  · refine wpAny_passesOwn hp (thn (T.item X rfl rfl rfl hc i pins s3 σ3 H3 X.xe I3 (stat fr3) st3 go) fun r s4 ⟨u,hr,h4⟩=>?_)
    subst hr
    refine wpAny_passesOwn hp (thn h4 fun _ s5 ⟨x,H5,I5,r5,y5,st5,fr5⟩=>?_)
    have I5':=I5.pinned (stat fr5) (T.obj _ _ st5)
    refine wpAny_passesOwn hp (thn (hg _ s5 σ3 H5 x u _ I5' r5 (step x H5 y5)) fun _ s6 ⟨σ6,H6,I6,q6⟩=>?_)
    refine wpAny_passesOwn hp (thn (hb _ s6 σ6 H6 _ I6 q6) fun f s7 q7=>?_)
    have again:∀ {σ7:St} {H7:Hp},Inv X (pins++pinsAt fp s5.heap) σ7 H7 s7→N σ7 H7→∃ m,m < n∧∃ i σ' H',Inv X pins σ' H' s7∧tn i s7.heap∧(∀ b∈fp,H' b=none)∧W i m σ' H':=fun {σ7 H7} I7 n7=>by
      obtain ⟨m',hm,w7⟩:=hN σ7 H7 n7
      refine ⟨m',hm,i+1,σ7,H7,I7.unpinned,T.keep _ _ _ st5 fun b hb o e=>(I7.pin (b,o) (List.mem_append_right _ (List.mem_append_right _ (mem_pinsAt hb e)))).1,fun b hb=>?_,w7⟩
      obtain ⟨o,e,d⟩:=T.obj _ _ st5 b hb
      exact (I7.pin (b,o) (List.mem_append_right _ (List.mem_append_right _ (mem_pinsAt hb e)))).2.1
    cases f with
    | next=>obtain ⟨σ7,H7,I7,n7⟩:=q7;exact again I7 n7
    | cont=>obtain ⟨σ7,H7,I7,n7⟩:=q7;exact again I7 n7
    | brk=>obtain ⟨σ7,H7,I7,q7⟩:=q7;exact ⟨σ7,H7,I7.unpinned,q7⟩
    | ret v=>obtain ⟨x7,σ7,H7,I7,r7,q7⟩:=q7;exact ⟨x7,σ7,H7,I7.unpinned,r7,q7⟩
end
theorem for_list {K:PySem.W.Frag} {a:Addr} {xs:List V} {g:TG} {tb:TS} {D:Ends} {σ:St} {H:Hp} (Pv:Nat→St→Hp→Prop) (h0:Pv 0 σ H) (hl:∀ i σ H,i≤xs.length→Pv i σ H→SqL K H a xs)
    (hs:∀ i x σ H,xs[i]?=some x→Pv i σ H→g x σ H fun σ2 H2=>tb { D with nx:=Pv (i+1),ct:=Pv (i+1),bk:=D.nx } σ2 H2) (hd:∀ σ H,Pv xs.length σ H→D.nx σ H) :
    ∃ W:Nat→Nat→St→Hp→Prop,(∃ m,W 0 m σ H)∧∀ i m σ H,W i m σ H →
      ((Itl K a).stop i H∧D.nx σ H)∨((Itl K a).go i H∧∃ N:St→Hp→Prop,(∀ σ' H',N σ' H'→∃ m',m' < m∧W (i+1) m' σ' H')∧∀ x H',(Itl K a).yld i H x H'→g x σ H' fun σ2 H2=>tb { D with nx:=N,ct:=N,bk:=D.nx } σ2 H2):=by
  refine ⟨fun i m σ H=>m=xs.length - i∧i≤xs.length∧Pv i σ H,⟨xs.length,by simp,Nat.zero_le _,h0⟩,?_⟩
  rintro i m σ H ⟨rfl,hi,p⟩
  have q:=hl i σ H hi p
  by_cases hlt:i < xs.length
  · refine .inr ⟨⟨xs,xs[i],q,by simp [hlt]⟩,Pv (i+1),fun σ' H' p'=>⟨xs.length - (i+1),by omega,rfl,hlt,p'⟩,fun x H' y=>?_⟩
    obtain ⟨e,y⟩:=y
    subst e
    exact hs i x σ _ (y xs q) p
  · have e:i=xs.length:=by omega
    subst e
    exact .inl ⟨⟨xs,q,Nat.le_refl _⟩,hd σ H p⟩
theorem for_range {lo:Int} {n:Nat} {g:TG} {tb:TS} {D:Ends} {σ:St} {H:Hp} (Pv:Nat→St→Hp→Prop) (h0:Pv 0 σ H)
    (hs:∀ i σ H,i < n→Pv i σ H→g (.int (lo+i)) σ H fun σ2 H2=>tb { D with nx:=Pv (i+1),ct:=Pv (i+1),bk:=D.nx } σ2 H2) (hd:∀ σ H,Pv n σ H→D.nx σ H) :
    ∃ W:Nat→Nat→St→Hp→Prop,(∃ m,W 0 m σ H)∧∀ i m σ H,W i m σ H →
      ((Itr lo n).stop i H∧D.nx σ H)∨((Itr lo n).go i H∧∃ N:St→Hp→Prop,(∀ σ' H',N σ' H'→∃ m',m' < m∧W (i+1) m' σ' H')∧∀ x H',(Itr lo n).yld i H x H'→g x σ H' fun σ2 H2=>tb { D with nx:=N,ct:=N,bk:=D.nx } σ2 H2):=by
  refine ⟨fun i m σ H=>m=n - i∧i≤n∧Pv i σ H,⟨n,by simp,Nat.zero_le _,h0⟩,?_⟩
  rintro i m σ H ⟨rfl,hi,p⟩
  by_cases hlt:i < n
  · refine .inr ⟨hlt,Pv (i+1),fun σ' H' p'=>⟨n - (i+1),by omega,rfl,hlt,p'⟩,fun x H' y=>?_⟩
    obtain ⟨e,y⟩:=y
    subst e y
    exact hs i σ _ hlt p
  · have e:i=n:=by omega
    subst e
    exact .inl ⟨Nat.le_refl _,hd σ H p⟩
end L2
namespace L2
open PySem PySem.Spec PyProof.Rows
abbrev R2:=V→V→Hp→VK→Prop
def OpR (X:Cx) (f:Value→Value→Sem Value) (r:R2):Prop:=
  ∀ (pins:List (Addr × Obj)) (s:Shared) (σ:St) (H:Hp) (x y:V) (v u:Value) (Q:VK),Inv X pins σ H s→RelV x v→RelV y u→r x y H Q →
    wpAny (model X.prog X.w) X.A (f v u) (EP X pins σ Q) X.xe s
def UnR (X:Cx) (f:Value→Sem Value) (r:V→Hp→VK→Prop):Prop:=
  ∀ (pins:List (Addr × Obj)) (s:Shared) (σ:St) (H:Hp) (x:V) (v:Value) (Q:VK),Inv X pins σ H s→RelV x v→r x H Q →
    wpAny (model X.prog X.w) X.A (f v) (EP X pins σ Q) X.xe s
def CallR (X:Cx) (f:Value) (r:List V→Hp→VK→Prop):Prop:=
  ∀ (pins:List (Addr × Obj)) (s:Shared) (σ:St) (H:Hp) (xs:List V) (us:List Value) (Q:VK),Inv X pins σ H s→Vals xs us→r xs H Q →
    wpAny (model X.prog X.w) X.A (call f us) (EP X pins σ Q) X.xe s
def tOp (r:R2) (ta tb:TE):TE:=fun σ H Q=>ta σ H fun x H1=>tb σ H1 fun y H2=>r x y H2 Q
def tUn (r:V→Hp→VK→Prop) (ta:TE):TE:=fun σ H Q=>ta σ H fun x H1=>r x H1 Q
def rI (C:Int→Int→Prop) (g:Int→Int→V):R2:=fun x y H Q=>∃ i j,x=.int i∧y=.int j∧C i j∧Q (g i j) H
def rI0 (g:Int→Int→V):R2:=fun x y H Q=>∃ i j,x=.int i∧y=.int j∧Q (g i j) H
def rU (g:Int→V):V→Hp→VK→Prop:=fun x H Q=>∃ i,x=.int i∧Q (g i) H
section
variable {X:Cx} {a b c:Expr} {ta tb tc:TE} {pos:Pos}
theorem binT (ha:PE X a ta) (hb:PE X b tb) {pins:List (Addr × Obj)} {s:Shared} {σ:St} {H:Hp} {R:V→V→Hp→Prop} (I:Inv X pins σ H s)
    (h:ta σ H fun x H1=>tb σ H1 fun y H2=>R x y H2) {Q:Value→Shared→Prop} {f:Value→Value→Sem Value}
    (hf:∀ v u s2 x y H2,Inv X pins σ H2 s2→RelV x v→RelV y u→R x y H2→wpAny (model X.prog X.w) X.A (f v u) Q X.xe s2) :
    wpAny (model X.prog X.w) X.A (eval a X.env) (fun v s₁=>wpAny (model X.prog X.w) X.A (eval b X.env) (fun u s₂=>wpAny (model X.prog X.w) X.A (f v u) Q X.xe s₂) X.xe s₁) X.xe s:=by
  refine thn (ha pins s σ H _ I h) fun v s1 ⟨x,H1,I1,r1,q1⟩=>?_
  refine thn (hb pins s1 σ H1 _ I1 q1) fun u s2 ⟨y,H2,I2,r2,q2⟩=>?_
  exact hf v u s2 x y H2 I2 r1 r2 q2
theorem pe_op {op:Operator} {r:R2} (ho:OpR X (binaryOp op) r) (ha:PE X a ta) (hb:PE X b tb):PE X (.BinOp a op b pos) (tOp r ta tb):=by
  intro pins s σ H Q I h
  exact wpAny_BinOp (binT ha hb I h fun v u s2 x y H2 I2 rx ry q=>ho pins s2 σ H2 x y v u Q I2 rx ry q)
theorem pe_un {op:UnaryOp} {r:V→Hp→VK→Prop} (ho:UnR X (unaryOp op) r) (ha:PE X a ta):PE X (.UnaryOp op a pos) (tUn r ta):=by
  intro pins s σ H Q I h
  exact UnaryOp_ (thn (ha pins s σ H _ I h) fun v s1 ⟨x,H1,I1,r1,q1⟩=>ho pins s1 σ H1 x v Q I1 r1 q1)
theorem opI {f:Value→Value→Sem Value} {C:Int→Int→Prop} {g:Int→Int→Int}
    (rule:∀ (i j:Int) (t u:Tok) (s:Shared) (Q:Value→Shared→Prop) (E:Value→Shared→Prop),C i j→Q (.int (g i j) s.toks) { s with toks:=s.toks+1 }→wpAny (model X.prog X.w) X.A (f (.int i t) (.int j u)) Q E s) :
    OpR X f (rI C fun i j=>.int (g i j)):=by
  intro pins s σ H x y v u Q I rx ry h
  obtain ⟨i,j,rfl,rfl,hc,q⟩:=h
  obtain ⟨t,rfl⟩:=rx
  obtain ⟨t',rfl⟩:=ry
  exact rule i j t t' s _ _ hc ⟨.int (g i j),H,I.tok _,⟨_,rfl⟩,q⟩
theorem opI0 {f:Value→Value→Sem Value} {g:Int→Int→Int}
    (rule:∀ (i j:Int) (t u:Tok) (s:Shared) (Q:Value→Shared→Prop) (E:Value→Shared→Prop),Q (.int (g i j) s.toks) { s with toks:=s.toks+1 }→wpAny (model X.prog X.w) X.A (f (.int i t) (.int j u)) Q E s) :
    OpR X f (rI0 fun i j=>.int (g i j)):=by
  intro pins s σ H x y v u Q I rx ry h
  obtain ⟨i,j,rfl,rfl,q⟩:=h
  obtain ⟨t,rfl⟩:=rx
  obtain ⟨t',rfl⟩:=ry
  exact rule i j t t' s _ _ ⟨.int (g i j),H,I.tok _,⟨_,rfl⟩,q⟩
theorem opB0 {f:Value→Value→Sem Value} {g:Int→Int→Bool}
    (rule:∀ (i j:Int) (t u:Tok) (s:Shared) (Q:Value→Shared→Prop) (E:Value→Shared→Prop),Q (.bool (g i j)) s→wpAny (model X.prog X.w) X.A (f (.int i t) (.int j u)) Q E s) :
    OpR X f (rI0 fun i j=>.bl (g i j)):=by
  intro pins s σ H x y v u Q I rx ry h
  obtain ⟨i,j,rfl,rfl,q⟩:=h
  obtain ⟨t,rfl⟩:=rx
  obtain ⟨t',rfl⟩:=ry
  exact rule i j t t' s _ _ ⟨.bl (g i j),H,I,rfl,q⟩
def CDiv (i j:Int):Prop:=0 < j∧j < 1073741824
def CPow (i j:Int):Prop:=0≤j∧j≤1000000∧i.natAbs < 2 ^ 64
def CMul (i j:Int):Prop:=(-(2 ^ 64) < i∧i < 2 ^ 64)∨(-(2 ^ 64) < j∧j < 2 ^ 64)
theorem CMul.ok {i j:Int} (h:CMul i j):IntMulOk i j:=by
  rcases h with ⟨h1,h2⟩ | ⟨h1,h2⟩
  · exact .of_left (intBits_le_64 h1 h2)
  · exact .of_right (intBits_le_64 h1 h2)
theorem op_add:OpR X (binaryOp .Add) (rI0 fun i j=>.int (i+j)):=opI0 fun _ _ _ _ _ _ _ q=>add_int q
theorem op_sub:OpR X (binaryOp .Sub) (rI0 fun i j=>.int (i - j)):=opI0 fun _ _ _ _ _ _ _ q=>sub_int q
theorem op_mul:OpR X (binaryOp .Mult) (rI CMul fun i j=>.int (i * j)):=opI fun _ _ _ _ _ _ _ hc q=>mul_int q hc.ok
theorem op_fdiv:OpR X (binaryOp .FloorDiv) (rI CDiv fun i j=>.int (i / j)):=opI fun i j _ _ _ _ _ hc q=>by
  have h1:(0:Int) < j:=hc.1
  have h2:j < 1073741824:=hc.2
  exact floordiv_int (by omega) (by rw [Int.fdiv_eq_ediv_of_nonneg i (by omega)];exact q) (.inl (PyProof.noPylong_small (by omega)))
theorem op_mod:OpR X (binaryOp .Mod) (rI (fun _ j=>0 < j) fun i j=>.int (i % j)):=opI fun i j _ _ _ _ _ hc q=>by
  have h1:(0:Int) < j:=hc
  exact mod_int' (by omega) (by rw [Int.fmod_eq_emod_of_nonneg i (by omega)];exact q)
theorem op_pow:OpR X (binaryOp .Pow) (rI CPow fun i j=>.int (i ^ j.toNat)):=opI fun _ _ _ _ _ _ _ hc q=>pow_int_small hc.1 hc.2.1 hc.2.2 q
theorem unI {f:Value→Sem Value} {g:Int→Int}
    (rule:∀ (i:Int) (t:Tok) (s:Shared) (Q:Value→Shared→Prop) (E:Value→Shared→Prop),Q (.int (g i) s.toks) { s with toks:=s.toks+1 }→wpAny (model X.prog X.w) X.A (f (.int i t)) Q E s) :
    UnR X f (rU fun i=>.int (g i)):=by
  intro pins s σ H x v Q I rx h
  obtain ⟨i,rfl,q⟩:=h
  obtain ⟨t,rfl⟩:=rx
  exact rule i t s _ _ ⟨.int (g i),H,I.tok _,⟨_,rfl⟩,q⟩
theorem un_neg:UnR X (unaryOp .USub) (rU fun i=>.int (-i)):=unI fun _ _ _ _ _ q=>neg_int q
end
def scal:V→V→Bool
  | .non,.non=>true | .non,.int _=>true | .int _,.non=>true | .non,.bl _=>true | .bl _,.non=>true | .non,.str _=>true | .str _,.non=>true
  | .int _,.int _=>true | .bl _,.bl _=>true | .str _,.str _=>true | .byt _,.byt _=>true
  | .int _,.str _=>true | .str _,.int _=>true | .bl _,.str _=>true | .str _,.bl _=>true
  | _,_=>false
def rEq:R2:=fun x y H Q=>scal x y=true∧Q (.bl (decide (x=y))) H
def rNe:R2:=fun x y H Q=>scal x y=true∧Q (.bl (!decide (x=y))) H
theorem dec_int {i j:Int}:decide (V.int i=V.int j)=(i == j):=by
  rw [Bool.eq_iff_iff]
  simp
theorem dec_bl {i j:Bool}:decide (V.bl i=V.bl j)=(i == j):=by
  rw [Bool.eq_iff_iff]
  simp
theorem dec_str {i j:Str}:decide (V.str i=V.str j)=(i == j):=by
  rw [Bool.eq_iff_iff]
  simp
theorem dec_byt {i j:Array UInt8}:decide (V.byt i=V.byt j)=(i.toList == j.toList):=by
  rw [Bool.eq_iff_iff]
  cases i
  cases j
  simp
section
variable {X:Cx} {a b c:Expr} {ta tb tc:TE} {pos:Pos}
theorem fin_bl {pins:List (Addr × Obj)} {σ:St} {H:Hp} {s:Shared} {Q:VK} {k k':Bool} (I:Inv X pins σ H s) (q:Q (.bl k) H) (e:k=k'):EP X pins σ Q (.bool k') s:=by
  subst e
  exact ⟨.bl k,H,I,rfl,q⟩
theorem op_eq:OpR X (compareOp .Eq) rEq:=by
  intro pins s σ H x y v u Q I rx ry h
  obtain ⟨hs,q⟩:=h
  cases x with
  | non=>
    cases rx
    cases y with
    | non=>cases ry;exact PySem.EqNone.eq_none_none (fin_bl I q (by simp))
    | bl j=>cases ry;exact PySem.EqNone.eq_none_bool (fin_bl I q (by simp))
    | int j=>obtain ⟨t',rfl⟩:=ry;exact PySem.EqNone.eq_none_int (fin_bl I q (by simp))
    | str j=>obtain ⟨t',rfl⟩:=ry;exact PySem.EqNone.eq_none_str (fin_bl I q (by simp))
    | _=>exact absurd (show false=true from hs) Bool.false_ne_true
  | bl i=>
    cases rx
    cases y with
    | non=>cases ry;exact PySem.EqNone.eq_bool_none (fin_bl I q (by simp))
    | bl j=>cases ry;exact eq_bool (fin_bl I q dec_bl)
    | str j=>obtain ⟨t',rfl⟩:=ry;exact PySem.EqMixed.eq_bool_str (fin_bl I q (by simp))
    | _=>exact absurd (show false=true from hs) Bool.false_ne_true
  | int i=>
    obtain ⟨t,rfl⟩:=rx
    cases y with
    | non=>cases ry;exact PySem.EqNone.eq_int_none (fin_bl I q (by simp))
    | int j=>obtain ⟨t',rfl⟩:=ry;exact eq_int (fin_bl I q dec_int)
    | str j=>obtain ⟨t',rfl⟩:=ry;exact PySem.EqMixed.eq_int_str (fin_bl I q (by simp))
    | _=>exact absurd (show false=true from hs) Bool.false_ne_true
  | str i=>
    obtain ⟨t,rfl⟩:=rx
    cases y with
    | non=>cases ry;exact PySem.EqNone.eq_str_none (fin_bl I q (by simp))
    | bl j=>cases ry;exact PySem.EqMixed.eq_str_bool (fin_bl I q (by simp))
    | int j=>obtain ⟨t',rfl⟩:=ry;exact PySem.EqMixed.eq_str_int (fin_bl I q (by simp))
    | str j=>obtain ⟨t',rfl⟩:=ry;exact eq_str (fin_bl I q dec_str)
    | _=>exact absurd (show false=true from hs) Bool.false_ne_true
  | byt i=>
    obtain ⟨t,rfl⟩:=rx
    cases y with
    | byt j=>obtain ⟨t',rfl⟩:=ry;exact PySem.W.eq_bytes (fin_bl I q dec_byt)
    | _=>exact absurd (show false=true from hs) Bool.false_ne_true
  | _=>cases y <;> exact absurd (show false=true from hs) Bool.false_ne_true
theorem op_ne:OpR X (compareOp .NotEq) rNe:=by
  intro pins s σ H x y v u Q I rx ry h
  obtain ⟨hs,q⟩:=h
  cases x with
  | non=>
    cases rx
    cases y with
    | non=>cases ry;exact PySem.EqNone.ne_none_none (fin_bl I q (by simp))
    | bl j=>cases ry;exact PySem.EqNone.ne_none_bool (fin_bl I q (by simp))
    | int j=>obtain ⟨t',rfl⟩:=ry;exact PySem.EqNone.ne_none_int (fin_bl I q (by simp))
    | str j=>obtain ⟨t',rfl⟩:=ry;exact PySem.EqNone.ne_none_str (fin_bl I q (by simp))
    | _=>exact absurd (show false=true from hs) Bool.false_ne_true
  | bl i=>
    cases rx
    cases y with
    | non=>cases ry;exact PySem.EqNone.ne_bool_none (fin_bl I q (by simp))
    | bl j=>cases ry;exact ne_bool (fin_bl I q (congrArg not dec_bl))
    | str j=>obtain ⟨t',rfl⟩:=ry;exact PySem.EqMixed.ne_bool_str (fin_bl I q (by simp))
    | _=>exact absurd (show false=true from hs) Bool.false_ne_true
  | int i=>
    obtain ⟨t,rfl⟩:=rx
    cases y with
    | non=>cases ry;exact PySem.EqNone.ne_int_none (fin_bl I q (by simp))
    | int j=>obtain ⟨t',rfl⟩:=ry;exact ne_int (fin_bl I q (congrArg not dec_int))
    | str j=>obtain ⟨t',rfl⟩:=ry;exact PySem.EqMixed.ne_int_str (fin_bl I q (by simp))
    | _=>exact absurd (show false=true from hs) Bool.false_ne_true
  | str i=>
    obtain ⟨t,rfl⟩:=rx
    cases y with
    | non=>cases ry;exact PySem.EqNone.ne_str_none (fin_bl I q (by simp))
    | bl j=>cases ry;exact PySem.EqMixed.ne_str_bool (fin_bl I q (by simp))
    | int j=>obtain ⟨t',rfl⟩:=ry;exact PySem.EqMixed.ne_str_int (fin_bl I q (by simp))
    | str j=>obtain ⟨t',rfl⟩:=ry;exact ne_str (fin_bl I q (congrArg not dec_str))
    | _=>exact absurd (show false=true from hs) Bool.false_ne_true
  | byt i=>
    obtain ⟨t,rfl⟩:=rx
    cases y with
    | byt j=>obtain ⟨t',rfl⟩:=ry;exact PySem.W.ne_bytes (fin_bl I q (congrArg not dec_byt))
    | _=>exact absurd (show false=true from hs) Bool.false_ne_true
  | _=>cases y <;> exact absurd (show false=true from hs) Bool.false_ne_true
theorem op_lt:OpR X (compareOp .Lt) (rI0 fun i j=>.bl (decide (i < j))):=opB0 fun _ _ _ _ _ _ _ q=>lt_int q
theorem op_le:OpR X (compareOp .LtE) (rI0 fun i j=>.bl (decide (i≤j))):=opB0 fun _ _ _ _ _ _ _ q=>le_int q
theorem op_gt:OpR X (compareOp .Gt) (rI0 fun i j=>.bl (decide (j < i))):=opB0 fun _ _ _ _ _ _ _ q=>gt_int q
theorem op_ge:OpR X (compareOp .GtE) (rI0 fun i j=>.bl (decide (j≤i))):=opB0 fun _ _ _ _ _ _ _ q=>ge_int q
theorem op_lt_str:OpR X (compareOp .Lt) (fun x y H Q=>∃ i j,x=.str i∧y=.str j∧Q (.bl (decide (i.cps.toList < j.cps.toList))) H):=by
  intro pins s σ H x y v u Q I rx ry h
  obtain ⟨i,j,rfl,rfl,q⟩:=h
  obtain ⟨t,rfl⟩:=rx
  obtain ⟨t',rfl⟩:=ry
  exact lt_str (fin_bl I q rfl)
theorem op_in_str:OpR X (compareOp .In) (fun x y H Q=>∃ i j,x=.str i∧y=.str j∧Q (.bl (!(Builtin.Str.occurrences j i 0 j.length 1).isEmpty)) H):=by
  intro pins s σ H x y v u Q I rx ry h
  obtain ⟨i,j,rfl,rfl,q⟩:=h
  obtain ⟨t,rfl⟩:=rx
  obtain ⟨t',rfl⟩:=ry
  exact in_str (fin_bl I q rfl)
theorem op_notin_str:OpR X (compareOp .NotIn) (fun x y H Q=>∃ i j,x=.str i∧y=.str j∧Q (.bl (!(!(Builtin.Str.occurrences j i 0 j.length 1).isEmpty))) H):=by
  intro pins s σ H x y v u Q I rx ry h
  obtain ⟨i,j,rfl,rfl,q⟩:=h
  obtain ⟨t,rfl⟩:=rx
  obtain ⟨t',rfl⟩:=ry
  exact notIn_str (fin_bl I q rfl)
theorem OpR.or {f:Value→Value→Sem Value} {r r':R2} (h:OpR X f r) (h':OpR X f r'):OpR X f (fun x y H Q=>r x y H Q∨r' x y H Q):=by
  intro pins s σ H x y v u Q I rx ry q
  rcases q with q | q
  · exact h pins s σ H x y v u Q I rx ry q
  · exact h' pins s σ H x y v u Q I rx ry q
theorem nomark (b:Expr) {op:CmpOp} (h:op≠.In:=by decide) (h2:op≠.NotIn:=by decide):behindInMarks op b=false:=by
  have e1:(op == CmpOp.In)=false:=by cases op <;> first | rfl | exact absurd rfl h
  have e2:(op == CmpOp.NotIn)=false:=by cases op <;> first | rfl | exact absurd rfl h2
  cases b <;> simp [behindInMarks,e1,e2]
theorem pe_cmpR {op:CmpOp} {r:R2} (ho:OpR X (compareOp op) r) (ha:PE X a ta) (hb:PE X b tb) (hm:behindInMarks op b=false):PE X (.Compare a [op] [b] pos) (tOp r ta tb):=by
  intro pins s σ H Q I h
  exact wpAny_Compare1 (binT ha hb I h fun v u s2 x y H2 I2 rx ry q=>ho pins s2 σ H2 x y v u Q I2 rx ry q) hm
def tTest (t:TE):TT:=fun σ H Q=>t σ H fun x H'=>∃ k,x=.bl k∧Q k H'
theorem pt_cmpR {op:CmpOp} {r:R2} (ho:OpR X (compareOp op) r) (ha:PE X a ta) (hb:PE X b tb) (hm:behindInMarks op b=false):PT X (.Compare a [op] [b] pos) (tTest (tOp r ta tb)):=by
  intro pins s σ H Q I h
  refine wpAny_isTrue_Compare1 (thn (ha pins s σ H _ I h) fun v s1 ⟨x,H1,I1,r1,q1⟩=>thn (hb pins s1 σ H1 _ I1 q1) fun u s2 ⟨y,H2,I2,r2,q2⟩=>
    thn (ho pins s2 σ H2 x y v u _ I2 r1 r2 q2) fun c s3 ⟨z,H3,I3,r3,k,e,q3⟩=>?_) hm
  subst e
  cases r3
  exact wpAny_truthy_bool ⟨H3,I3,q3⟩
def tChain (r r':R2) (ta tb tc:TE):TE:=fun σ H Q=>ta σ H fun x H1=>tb σ H1 fun y H2=>r x y H2 fun z H3=>∃ k,z=.bl k ∧
  (if k=true then tc σ H3 fun w' H4=>r' y w' H4 Q else Q (.bl false) H3)
theorem pe_chain {op op':CmpOp} {r r':R2} (ho:OpR X (compareOp op) r) (ho':OpR X (compareOp op') r') (ha:PE X a ta) (hb:PE X b tb) (hc:PE X c tc)
    (hm:lastMarks [op,op'] [b,c]=false:=by with_unfolding_all rfl):PE X (.Compare a [op,op'] [b,c] pos) (tChain r r' ta tb tc):=by
  intro pins s σ H Q I h
  refine Compare_chain (thn (ha pins s σ H _ I h) fun v s1 ⟨x,H1,I1,r1,q1⟩=>chain_link (thn (hb pins s1 σ H1 _ I1 q1) fun u s2 ⟨y,H2,I2,r2,q2⟩=>
    thn (ho pins s2 σ H2 x y v u _ I2 r1 r2 q2) fun d s3 ⟨z,H3,I3,r3,k,e,q3⟩=>?_)) hm
  subst e
  cases r3
  refine wpAny_truthy_bool ?_
  cases k with
  | false=>exact ite_ff ⟨.bl false,H3,I3,rfl,q3⟩
  | true=>exact ite_tt (chain_last (thn (hc pins s3 σ H3 _ I3 q3) fun w' s4 ⟨z',H4,I4,r4,q4⟩=>ho' pins s4 σ H4 y z' u w' Q I4 r2 r4 q4))
theorem pt_chain {op op':CmpOp} {r r':R2} (ho:OpR X (compareOp op) r) (ho':OpR X (compareOp op') r') (ha:PE X a ta) (hb:PE X b tb) (hc:PE X c tc)
    (hm:lastMarks [op,op'] [b,c]=false:=by with_unfolding_all rfl):PT X (.Compare a [op,op'] [b,c] pos) (tTest (tChain r r' ta tb tc)):=by
  intro pins s σ H Q I h
  refine isTrue_chain (thn (ha pins s σ H _ I h) fun v s1 ⟨x,H1,I1,r1,q1⟩=>test_link (thn (hb pins s1 σ H1 _ I1 q1) fun u s2 ⟨y,H2,I2,r2,q2⟩=>
    thn (ho pins s2 σ H2 x y v u _ I2 r1 r2 q2) fun d s3 ⟨z,H3,I3,r3,k,e,q3⟩=>?_)) hm
  subst e
  cases r3
  refine wpAny_truthy_bool ?_
  cases k with
  | false=>
    obtain ⟨k',e',q'⟩:=q3
    cases e'
    exact ite_ff ⟨H3,I3,q'⟩
  | true=>
    refine ite_tt (test_last (thn (hc pins s3 σ H3 _ I3 q3) fun w' s4 ⟨z',H4,I4,r4,q4⟩=>thn (ho' pins s4 σ H4 y z' u w' _ I4 r2 r4 q4) fun d' s5 ⟨z2,H5,I5,r5,k2,e2,q5⟩=>?_))
    subst e2
    cases r5
    exact wpAny_truthy_bool ⟨H5,I5,q5⟩
theorem line63:(sizeLine:Nat) < 2 ^ 63:=by rw [sizeLine_eq];decide
theorem op_add_str:OpR X (binaryOp .Add) (fun x y H Q=>∃ i j,x=.str i∧y=.str j∧i.length+j.length≤sizeLine∧Q (.str (i++j)) H):=by
  intro pins s σ H x y v u Q I rx ry h
  obtain ⟨i,j,rfl,rfl,hz,q⟩:=h
  obtain ⟨t,rfl⟩:=rx
  obtain ⟨t',rfl⟩:=ry
  exact add_str (fun t' tk=>⟨.str (i++j),H,I.tok _,⟨_,rfl⟩,q⟩) hz
theorem vals1 {x:V} {us:List Value} (r:Vals [x] us):∃ u,us=[u]∧RelV x u:=by
  cases r with
  | cons r1 r2=>cases r2;exact ⟨_,rfl,r1⟩
theorem vals2 {x y:V} {us:List Value} (r:Vals [x,y] us):∃ u w',us=[u,w']∧RelV x u∧RelV y w':=by
  cases r with
  | cons r1 r2=>
    cases r2 with
    | cons r3 r4=>cases r4;exact ⟨_,_,rfl,r1,r3⟩
theorem call_max2 (hc:X.calm=true):CallR X (.builtin "max") (fun xs H Q=>∃ i j,xs=[.int i,.int j]∧Q (.int (if j > i then j else i)) H):=by
  intro pins s σ H xs us Q I r h
  obtain ⟨i,j,rfl,q⟩:=h
  obtain ⟨u,w',rfl,⟨t,rfl⟩,⟨t',rfl⟩⟩:=vals2 r
  refine max_two_ints (I.ok.hd hc) fun h' tk k=>⟨_,H,I.kept k,?_,q⟩
  by_cases hj:j > i
  · rw [if_pos hj,if_pos hj];exact ⟨_,rfl⟩
  · rw [if_neg hj,if_neg hj];exact ⟨_,rfl⟩
theorem call_min2 (hc:X.calm=true):CallR X (.builtin "min") (fun xs H Q=>∃ i j,xs=[.int i,.int j]∧Q (.int (if j < i then j else i)) H):=by
  intro pins s σ H xs us Q I r h
  obtain ⟨i,j,rfl,q⟩:=h
  obtain ⟨u,w',rfl,⟨t,rfl⟩,⟨t',rfl⟩⟩:=vals2 r
  refine min_two_ints (I.ok.hd hc) fun h' tk k=>⟨_,H,I.kept k,?_,q⟩
  by_cases hj:j < i
  · rw [if_pos hj,if_pos hj];exact ⟨_,rfl⟩
  · rw [if_neg hj,if_neg hj];exact ⟨_,rfl⟩
theorem call_int1:CallR X (.type "int") (fun xs H Q=>(∃ i,xs=[.int i]∧Q (.int i) H)∨∃ k,xs=[.bl k]∧Q (.int (if k then 1 else 0)) H):=by
  intro pins s σ H xs us Q I r h
  rcases h with ⟨i,rfl,q⟩ | ⟨k,rfl,q⟩
  · obtain ⟨u,rfl,t,rfl⟩:=vals1 r
    exact call_int_int ⟨.int i,H,I,⟨_,rfl⟩,q⟩
  · obtain ⟨u,rfl,r1⟩:=vals1 r
    cases r1
    exact call_int_bool ⟨.int (if k then 1 else 0),H,I.tok _,⟨_,rfl⟩,q⟩
end
end L2
namespace L2
open PySem PySem.Spec PyProof.Rows
structure ObjM (h:Heap) (x dx C:Addr) (mA:Str→Option Value):Prop where
  obj:h.get? x=some (PySem.W.instObj C dx)
  ns:h.Ns1 dx mA
  ne:dx≠x
theorem lookIn_ns {h:Heap} {dx:Addr} {mA:Str→Option Value} (n:h.Ns1 dx mA):∃ od,h.get? dx=some od∧∀ name,PySem.W.lookIn name od=some (mA name):=by
  obtain ⟨o,es,ep,ho,hd,hk,_,hm⟩:=n
  refine ⟨o,ho,fun name=>?_⟩
  have e:=hm name
  unfold nsFind findBy at e
  rw [← Array.find?_toList] at e
  unfold PySem.W.lookIn
  rw [hd]
  dsimp only
  split
  · rename_i y q
    rw [q] at e
    exact congrArg some e
  · rename_i q
    rw [q] at e
    have a:es.toList.any (·.refKey)=false:=by
      rw [List.any_eq_false]
      intro y hy
      obtain ⟨z,t,hkey⟩:=hk y (Array.mem_toList_iff.mp hy)
      simp [DictEntry.refKey,hkey]
    have a':¬ es.toList.any (·.refKey)=true:=by rw [a];exact Bool.false_ne_true
    rw [if_neg a']
    exact congrArg some e
theorem ObjM.look {h:Heap} {x dx C:Addr} {mA:Str→Option Value} (I:ObjM h x dx C mA):∃ od,PySem.W.InstAt h x (PySem.W.instObj C dx) C (some od)∧∀ name,PySem.W.lookIn name od=some (mA name):=
  let ⟨od,ho,hl⟩:=lookIn_ns I.ns
  ⟨od,⟨I.obj,rfl,rfl,ho⟩,hl⟩
section
variable {prog:Program} {w:World} {A:Around} {E:Value→Shared→Prop} {s:Shared} {K:PySem.W.Frag} {x dx C f:Addr} {mA:Str→Option Value} {name:Str} {v:Value}
end
section
variable {P:Program} {w:World} {H H':Hp} {h h':Heap} {a C dx:Addr} {fs fs':List (Str × V)}
theorem ins_get (hok:HOk P w H h) (e:H a=some (.ins C dx fs)):∃ mA,ObjM h a dx C mA∧(∀ f,RelO (fs.lookup f) (mA f))∧PySem.Within mA (fs.map (·.1))∧fs.length≤1000∧H dx=some (.own a):=by
  obtain ⟨d,z,ne,ob,mA,n,r,q⟩:=(show ObjOk P w H h a (.ins C dx fs) from hok a _ e)
  exact ⟨mA,⟨ob,n,ne⟩,r,q,z,d⟩
end
structure Cls (K:PySem.W.Frag) (C:Addr):Prop where
  pg:PySem.W.plainGet K C Str.empty=true
  hd:PySem.W.hasDictIn K C=true
  po:PySem.W.plainOver K C=true
  sa:PySem.W.findIn K (.ref C) "__setattr__" = some (some (.builtin "object.__setattr__"))
theorem Cls.get {K:PySem.W.Frag} {C:Addr} (c:Cls K C) (f:Str):PySem.W.plainGet K C f=true:=c.pg
structure Con (K:PySem.W.Frag) (C:Addr) (f:Str) (v:V) (u:Value):Prop where
  at_:PySem.W.findIn K (.ref C) f=some (some u)
  rel:RelV v u
  get:PySem.W.specialIn K u "__get__" = some none
  cp:PySem.W.copiedNames.contains f=false
structure Meth (K:PySem.W.Frag) (C:Addr) (m:Str) (f:Addr):Prop where
  at_:PySem.W.findIn K (.ref C) m=some (some (.ref f))
  fn:PySem.W.isFn K (.ref f)=true
  kp:PySem.W.keepIn K (.ref f)=true
section
variable {X:Cx} {pins:List (Addr × Obj)} {σ:St} {H:Hp} {s:Shared} {a C dx:Addr} {fs:List (Str × V)} {f:Str} {v:V} {A:Around} {E:Value→Shared→Prop}
theorem Inv.made (I:Inv X pins σ H s):Inv X pins σ (upd (upd H s.heap.objs.size (.own (s.heap.objs.size+1))) (s.heap.objs.size+1) (.ins C s.heap.objs.size []))
    { s with heap:=(s.heap.push PySem.W.emptyDict).push (PySem.W.instObj C s.heap.objs.size) }:=by
  have e1:(s.heap.push PySem.W.emptyDict).get? s.heap.objs.size=some PySem.W.emptyDict:=Heap.get?_push_size s.heap rfl
  have e2:((s.heap.push PySem.W.emptyDict).push (PySem.W.instObj C s.heap.objs.size)).get? (s.heap.objs.size+1)=some (PySem.W.instObj C s.heap.objs.size):=by
    have:=Heap.get?_push_size (s.heap.push PySem.W.emptyDict) (o:=PySem.W.instObj C s.heap.objs.size) rfl
    rwa [Heap.size_push] at this
  have e3:(s.heap.push PySem.W.emptyDict).Ns s.heap.objs.size (fun _=>none):=⟨PySem.W.emptyDict,#[],_,e1,rfl,(fun e he=>absurd he (by simp)),fun _=>rfl⟩
  have I1:=I.laid (a:=s.heap.objs.size) (o:=.own (s.heap.objs.size+1)) (h':=s.heap.push PySem.W.emptyDict) (t':=s.toks) (fun b u q=>Heap.get?_push_of_some _ q) (Nat.le_refl _) ⟨_,e1⟩
  refine I1.laid (a:=s.heap.objs.size+1) (o:=.ins C s.heap.objs.size []) (t':=s.toks) (fun b u q=>Heap.get?_push_of_some _ q) (Nat.le_of_eq (Heap.size_push _ _)) ?_
  have ne:s.heap.objs.size≠s.heap.objs.size+1:=Nat.ne_of_lt (Nat.lt_succ_self _)
  refine ⟨by rw [upd_ne ne,upd_same],Nat.zero_le _,ne,e2,fun _=>none,(Heap.Ns1.of_empty e3).at fun o q=>Heap.get?_push_of_some _ q,fun _=>True.intro,fun y hy=>absurd rfl hy⟩
end
section
variable {X:Cx} {o e value:Expr} {f:Str} {pos pos' tpos:Pos} {ta tv:TE}
end
section
variable {X:Cx} {pins:List (Addr × Obj)} {σ:St} {H:Hp} {s:Shared} {A:Around} {E:Value→Shared→Prop} {Q:Value→Shared→Prop} {c:Value} {b:Bool}
inductive TyOf (K:PySem.W.Frag) (H:Hp):V→Value→Prop where
  | non:TyOf K H .non (.type "NoneType")
  | bl (x:Bool):TyOf K H (.bl x) (.type "bool")
  | int (i:Int):TyOf K H (.int i) (.type "int")
  | str (x:Str):TyOf K H (.str x) (.type "str")
  | flt (x:UInt64):TyOf K H (.flt x) (.type "float")
  | lst {a:Addr} {xs:List V} (e:H a=some (.lst xs)):TyOf K H (.ref a) (.type "list")
  | frz {a:Addr} {o:Obj} {xs:List V} (e:H a=some (.frz o (.lst xs))):TyOf K H (.ref a) (.type "list")
  | tup {a:Addr} {xs:List V} (e:H a=some (.tup xs)):TyOf K H (.ref a) (.type "tuple")
  | dK {a:Addr} {kvs:List (Key × V)} (e:H a=some (.dK kvs)):TyOf K H (.ref a) (.type "dict")
  | dT {a:Addr} {kvs:List (List Key × V)} (e:H a=some (.dT kvs)):TyOf K H (.ref a) (.type "dict")
  | ins {a C dx:Addr} {fs:List (Str × V)} (e:H a=some (.ins C dx fs)) (cl:Cls K C) (ha:PySem.W.findIn K (.ref C) "__class__" = some (some (.builtin "object.__class__")))
      (hn:PySem.W.specialIn K (.builtin "object.__class__") "__get__" = some (some (.builtin "getset_descriptor.__get__"))) (htk:PySem.W.takesIn K (.builtin "object.__class__")=some true)
      (hm:PySem.W.mroIn K C (.type "object")=some true):TyOf K H (.ref a) (.ref C)
theorem isinst_ok {x:V} {u t:Value} (I:Inv X pins σ H s) (rx:RelV x u) (ty:TyOf X.K H x t) (e:PySem.W.kitOne X.K t c=some b) (h:∀ tk,Q (.bool b) { s with toks:=tk }) :
    wpAny (model X.prog X.w) A (call (.builtin "isinstance") [u,c]) Q E s:=by
  cases ty with
  | non=>cases (show u=Value.none from rx);exact PySem.W.kia_one PySem.W.kitx_none I.kIn True.intro e (fun z=>nomatch z) h
  | bl y=>cases (show u=Value.bool y from rx);exact PySem.W.kia_one PySem.W.kitx_bool I.kIn True.intro e (fun z=>nomatch z) h
  | int i=>obtain ⟨t,q⟩:=(show ∃ t,u=Value.int i t from rx);cases q;exact PySem.W.kia_one PySem.W.kitx_int I.kIn True.intro e (fun z=>nomatch z) h
  | str y=>obtain ⟨t,q⟩:=(show ∃ t,u=Value.str y t from rx);cases q;exact PySem.W.kia_one PySem.W.kitx_str I.kIn True.intro e (fun z=>nomatch z) h
  | flt y=>obtain ⟨t,q⟩:=(show ∃ t,u=Value.float y t from rx);cases q;exact PySem.W.kia_one PySem.W.kitx_float I.kIn True.intro e (fun z=>nomatch z) h
  | @lst a xs ea=>
    cases (show u=Value.ref a from rx)
    obtain ⟨_,_,n,_,h1⟩:=(show ObjOk X.prog X.w H s.heap a (.lst xs) from I.hok a _ ea)
    exact PySem.W.kia_one PySem.W.kitx_list I.kIn ⟨_,h1,rfl⟩ e (fun z=>nomatch z) h
  | @frz a ob xs ea=>
    cases (show u=Value.ref a from rx)
    obtain ⟨_,_,_,n,_,h1⟩:=(show ObjOk X.prog X.w H s.heap a (.frz ob (.lst xs)) from I.hok a _ ea)
    exact PySem.W.kia_one PySem.W.kitx_list I.kIn ⟨_,h1,rfl⟩ e (fun z=>nomatch z) h
  | @tup a xs ea=>
    cases (show u=Value.ref a from rx)
    obtain ⟨_,_,_,p⟩:=(show ObjOk X.prog X.w H s.heap a (.tup xs) from I.hok a _ ea)
    obtain ⟨o,h1,h2,_⟩:=p
    exact PySem.W.kia_one PySem.W.kitx_tuple I.kIn ⟨o,h1,h2⟩ e (fun z=>nomatch z) h
  | @dK a kvs ea=>
    cases (show u=Value.ref a from rx)
    obtain ⟨_,_,vs,_,p⟩:=(show ObjOk X.prog X.w H s.heap a (.dK kvs) from I.hok a _ ea)
    obtain ⟨o,es,ep,h1,h2,_⟩:=p
    exact PySem.W.kia_one PySem.W.kitx_dict I.kIn ⟨o,h1,h2.1⟩ e (fun z=>nomatch z) h
  | @dT a kvs ea=>
    cases (show u=Value.ref a from rx)
    obtain ⟨_,_,xs,_,o,es,ep,h1,h2,_⟩:=(show ObjOk X.prog X.w H s.heap a (.dT kvs) from I.hok a _ ea)
    exact PySem.W.kia_one PySem.W.kitx_dict I.kIn ⟨o,h1,h2.1⟩ e (fun z=>nomatch z) h
  | @ins a C dx fs ea cl ha hn htk hm=>
    cases (show u=Value.ref a from rx)
    obtain ⟨mA,O,_⟩:=ins_get I.hok ea
    obtain ⟨od,J,_⟩:=O.look
    exact PySem.W.kia_one (PySem.W.kitx_own (cl.get _) cl.hd ha hn htk hm) I.kIn J e (fun z=>nomatch z) h
end
end L2
namespace L2
open PySem PySem.Spec PyProof.Rows
structure Room (k:Nat) (A:Around):Prop where
  hd:A.handled=none
  dp:A.depth+3 * k+5 < recursionLimit
  un:A.units+16 * k+200 < cLine
  gd:A.guards=some []
theorem Room.mono {j k:Nat} {A:Around} (r:Room k A) (h:j≤k):Room j A:=⟨r.hd,by have:=r.dp;omega,by have:=r.un;omega,by first | exact r.gd | (simpa [Around.under,Code.isGuard,guardIds] using r.gd)⟩
theorem Room.deeper {k:Nat} {A:Around} (r:Room (k+1) A) (env:Env):Room k (A.deeper env):=
  ⟨r.hd,by have:=r.dp;show A.depth+1+3 * k+5 < _;omega,by have:=r.un;show A.units+3+16 * k+200 < _;omega,by first | exact r.gd | (simpa [Around.under,Code.isGuard,guardIds] using r.gd)⟩
theorem Room.in1 {k:Nat} {A:Around} (r:Room (k+1) A):Room k A.in1:=
  ⟨r.hd,by have:=r.dp;show A.depth+3 * k+5 < _;omega,by have:=r.un;show A.units+1+16 * k+200 < _;omega,by first | exact r.gd | (simpa [Around.under,Code.isGuard,guardIds] using r.gd)⟩
theorem Room.depth {k:Nat} {A:Around} (r:Room k A):A.depth < recursionLimit:=by have:=r.dp;omega
theorem Room.units {k:Nat} {A:Around} (r:Room k A):A.units+64 < cLine:=by have:=r.un;omega
theorem Room.units0 {k:Nat} {A:Around} (r:Room k A):A.units < cLine:=by have:=r.un;omega
def tNil:TA:=fun _ H Q=>Q [] H
def tCons (ta:TE) (tr:TA):TA:=fun σ H Q=>ta σ H fun x H1=>tr σ H1 fun xs H2=>Q (x :: xs) H2
section
variable {X:Cx} {e:Expr} {es:List Expr} {te:TE} {t:TA} {pos:Pos}
theorem pa_nil:PA X [] tNil:=fun _ _ _ _ H Q I h=>Calls.spliced_nil ⟨[],H,I,.nil,h⟩
theorem pa_cons (ha:PE X e te) (hr:PA X es t) (hs:starEach (e :: es) X.env=(false,eval e X.env) :: starEach es X.env:=by rfl):PA X (e :: es) (tCons te t):=by
  intro pos pins s σ H Q I h
  rw [hs]
  show wpAny _ _ (spliced ((false,eval e X.env) :: backTo pos (starEach es X.env))) _ _ s
  refine Calls.spliced_cons (thn (ha pins s σ H _ I h) fun u s1 ⟨x,H1,I1,r1,q1⟩=>?_)
  exact thn (hr pos pins s1 σ H1 _ I1 q1) fun us s2 ⟨xs,H2,I2,r2,q2⟩=>⟨x :: xs,H2,I2,.cons r1 r2,q2⟩
def tTup (t:TA):TE:=fun σ H Q=>t σ H fun xs H1=>xs.length≤sizeLine∧∀ p,H1 p=none→Q (.ref p) (upd H1 p (.tup xs))
def tLst (t:TA):TE:=fun σ H Q=>t σ H fun xs H1=>xs.length≤sizeLine∧∀ p,H1 p=none→Q (.ref p) (upd H1 p (.lst xs))
theorem pe_tup {x1} (h:PA X es t):PE X (.Tuple es x1 pos) (tTup t):=by
  intro pins s σ H Q I hq
  refine wpAny_Tuple_spliced (thn (h pos pins s σ H _ I hq) fun us s1 ⟨xs,H1,I1,r,z,q⟩=>⟨by rw [← r.length];exact z,?_⟩)
  have hf:H1 s1.heap.objs.size=none:=I1.hok.fresh (Nat.le_refl _)
  refine ⟨.ref s1.heap.objs.size,upd H1 s1.heap.objs.size (.tup xs),I1.laid (t':=s1.toks) (fun b u e=>Heap.get?_push_of_some _ e) (Nat.le_refl _) ?_,rfl,q _ hf⟩
  exact ⟨⟨z,_,Heap.get?_push_size _ rfl,rfl⟩,us,r,⟨_,Heap.get?_push_size _ rfl,rfl,_,rfl⟩⟩
theorem pe_lst (h:PA X es t):PE X (.List es pos) (tLst t):=by
  intro pins s σ H Q I hq
  refine wpAny_List_spliced (thn (h pos pins s σ H _ I hq) fun us s1 ⟨xs,H1,I1,r,z,q⟩=>⟨by rw [← r.length];exact z,?_⟩)
  have hf:H1 s1.heap.objs.size=none:=I1.hok.fresh (Nat.le_refl _)
  refine ⟨.ref s1.heap.objs.size,upd H1 s1.heap.objs.size (.lst xs),I1.laid (t':=s1.toks) (fun b u e=>Heap.get?_push_of_some _ e) (Nat.le_refl _) ?_,rfl,q _ hf⟩
  exact ⟨z,us,0,r,Heap.get?_push_size _ rfl⟩
end
abbrev Sp:=List V→Hp→VK→XK→Prop
abbrev CXT:=List Env→Hp→Shared→XK→Value→Shared→Prop
structure Env0 (P:Program) (w:World) (K:PySem.W.Frag) (mg:Str→Option Value) (base:Heap) (A:Around) (outer:List Env) (s:Shared) (H:Hp):Prop where
  frames:A.frames=some outer
  mod:Mod K mg base
  bs:∀ b o,base.get? b=some o→s.heap.get? b=some o∧H b=none
  bsz:base.objs.size≤s.heap.objs.size
  funs:s.heap.FunFrames base outer
  frf:∀ b∈frs outer,H b=none
  hok:HOk P w H s.heap
  bare:AllBare s.gens
def CE (outer:List Env) (P:Program) (w:World) (H:Hp) (s:Shared) (Q:VK) (u:Value) (s':Shared):Prop:=
  ∃ v H',s'.os=s.os∧AllBare s'.gens∧Un (frs outer) [] H H' s.heap s'.heap∧HOk P w H' s'.heap∧RelV v u∧Q v H'
def CR (CX:CXT) (outer:List Env) (P:Program) (w:World) (H:Hp) (s:Shared) (Q:VK) (E:XK) (r:Result) (s':Shared):Prop:=
  match r with
  | .ok (.ret u)=>CE outer P w H s Q u s'
  | .ok _=>False
  | .error e=>CX outer H s E e s'
structure FnOk (P:Program) (w:World) (K:PySem.W.Frag) (mg:Str→Option Value) (base:Heap) (CX:CXT) (k:Nat) (f:Addr) (fd:FuncData) (ps:List Str) (sp:Sp):Prop where
  len:∀ vs H Q E,sp vs H Q E→vs.length=ps.length
  run:∀ (A:Around) (outer:List Env) (s:Shared) (H:Hp) (args:Args) (us:List Value) (vs:List V) (Q:VK) (E:XK),Room k A→Env0 P w K mg base A outer s H→BindsTo s fd args (ps.zip us)→Vals vs us→sp vs H Q E →
    codeAny (model P w) A (.call (.ref f) args) (CR CX outer P w H s Q E) s
theorem FnOk.mono {P:Program} {w:World} {K:PySem.W.Frag} {mg:Str→Option Value} {base:Heap} {CX:CXT} {j k:Nat} {f:Addr} {fd:FuncData} {ps:List Str} {sp:Sp} (F:FnOk P w K mg base CX j f fd ps sp) (h:j≤k) :
    FnOk P w K mg base CX k f fd ps sp:=⟨F.len,fun A outer s H args us vs Q E hr=>F.run A outer s H args us vs Q E (hr.mono h)⟩
theorem FnOk.imp {P:Program} {w:World} {K:PySem.W.Frag} {mg:Str→Option Value} {base:Heap} {CX:CXT} {k:Nat} {f:Addr} {fd:FuncData} {ps:List Str} {sp sp':Sp} (F:FnOk P w K mg base CX k f fd ps sp)
    (h:∀ vs H Q E,sp' vs H Q E→sp vs H Q E):FnOk P w K mg base CX k f fd ps sp':=
  ⟨fun vs H Q E q=>F.len vs H Q E (h _ _ _ _ q),fun A outer s H args us vs Q E hr he hb hv hs=>F.run A outer s H args us vs Q E hr he hb hv (h _ _ _ _ hs)⟩
theorem Env0.in1 {P:Program} {w:World} {K:PySem.W.Frag} {mg:Str→Option Value} {base:Heap} {A:Around} {outer:List Env} {s:Shared} {H:Hp} (e:Env0 P w K mg base A outer s H) :
    Env0 P w K mg base A.in1 outer s H:=⟨e.frames,e.mod,e.bs,e.bsz,e.funs,e.frf,e.hok,e.bare⟩
section
variable {X:Cx} {pins:List (Addr × Obj)} {σ:St} {H:Hp} {s s':Shared}
theorem Inv.env0 (I:Inv X pins σ H s):Env0 X.prog X.w X.K X.mg X.base X.A X.stack s H:=
  ⟨I.ok.frames,I.ok.mod,I.bs,Nat.le_trans I.ok.bsz I.sz,I.stack,I.stkFree,I.hok,I.bare⟩
theorem Inv.after {Q:VK} {u:Value} (I:Inv X pins σ H s) (h:CE X.stack X.prog X.w H s Q u s'):EP X pins σ Q u s':=by
  obtain ⟨v,H',os,bare,un,hok,r,q⟩:=h
  obtain ⟨hh,g,d,t,os'⟩:=s'
  obtain rfl:os'=s.os:=os
  exact ⟨v,H',I.call (h':=hh) (g':=g) (d':=d) (t':=t) (ch:=[]) un hok bare (fun b z=>absurd z (by simp)),r,q⟩
end
def tCall (sp:Sp) (dvs:List V) (E:XK) (t:TA):TE:=fun σ H Q=>t σ H fun vs H1=>sp (vs++dvs) H1 Q E
def Binds (K:PySem.W.Frag) (fd:FuncData) (ps:List Str) (ds:List Value):Prop:=
  ∀ (s:Shared) (us:List Value),K.In s.heap→(us++ds).length=ps.length→BindsTo s fd ⟨us,[]⟩ (ps.zip (us++ds))
theorem Binds.all {K:PySem.W.Frag} {fd:FuncData} {ps:List Str} (h:∀ us:List Value,us.length=ps.length→bindArgs fd ⟨us,[]⟩=pure (ps.zip us)):Binds K fd ps []:=fun s us _ hl=>by
  rw [List.append_nil] at hl ⊢
  exact .of_eq (h us hl)
def Passes (CX:CXT) (X:Cx) (E:XK):Prop:=∀ (pins:List (Addr × Obj)) (σ:St) (H:Hp) (s:Shared) (e:Value) (s':Shared),Inv X pins σ H s→CX X.stack H s E e s'→X.xe e s'
section
variable {X:Cx} {CX:CXT} {k:Nat} {f C:Addr} {fd:FuncData} {ps:List Str} {sp:Sp} {dvs:List V} {ds:List Value} {E:XK} {x m:Str} {p pos apos:Pos} {e o:Expr} {es:List Expr} {ta:TE} {t:TA}
theorem run_fn {pins:List (Addr × Obj)} {σ:St} {H:Hp} {s:Shared} {Q:VK} {us:List Value} {vs:List V} (F:FnOk X.prog X.w X.K X.mg X.base CX k f fd ps sp) (hr:Room k X.A) (hb:Binds X.K fd ps ds) (hd:Vals dvs ds) (hx:Passes CX X E)
    (I:Inv X pins σ H s) (r:Vals vs us) (h:sp (vs++dvs) H Q E):wpAny (model X.prog X.w) X.A (call (.ref f) us) (EP X pins σ Q) X.xe s:=by
  have r2:Vals (vs++dvs) (us++ds):=r.append hd
  have hl:(us++ds).length=ps.length:=by rw [← r2.length];exact F.len _ _ _ _ h
  refine wpAny_call (codeAny_mono (F.run X.A X.stack s H ⟨us,[]⟩ (us++ds) (vs++dvs) Q E hr I.env0 (hb s us I.kIn hl) r2 h) fun r s' hq=>?_)
  cases r with
  | error e=>exact hx pins σ H s e s' I hq
  | ok fl=>
    cases fl with
    | ret u=>exact I.after hq
    | next=>exact False.elim hq
    | brk=>exact False.elim hq
    | cont=>exact False.elim hq
theorem pe_call (F:FnOk X.prog X.w X.K X.mg X.base CX k f fd ps sp) (hr:Room k X.A) (hg:Gl X x) (hm:X.mg x=some (.ref f)) (hk:PySem.W.keepIn X.K (.ref f)=true) (hb:Binds X.K fd ps ds) (hd:Vals dvs ds) (hx:Passes CX X E)
    (ha:PA X (e :: es) t) (hdb:(x == ("__debug__" : Str))=false:=by decide) (he:starEach (e :: es) X.env=(false,eval e X.env) :: starEach es X.env:=by rfl) (hpl:(backTo pos (starEach es X.env)).any (·.1)=false:=by rfl) :
    PE X (.Call (.Name x p) (e :: es) [] pos) (tCall sp dvs E t):=by
  intro pins s σ H Q I h
  refine wpAny_Call_Name_kw (ld_glob I hg hm ?_ hdb)
  refine PySem.W.callWith_K (h₀:=X.base) I.ok.mod.kin hk (thn (ha pos pins s σ H _ I h) fun us s1 ⟨vs,H1,I1,r,q⟩=>⟨I1.kIn,?_⟩) he hpl
  exact run_fn F hr hb hd hx I1 r q
structure Mk (K:PySem.W.Frag) (C f:Addr):Prop where
  makes:PySem.W.makesIn K C=true
  init:PySem.W.findIn K (.ref C) "__init__" = some (some (.ref f))
  fn:PySem.W.isFn K (.ref f)=true
  kp:PySem.W.keepIn K (.ref C)=true
end
section
variable {X:Cx} {CX:CXT} {k:Nat} {f C:Addr} {fd:FuncData} {ps ks:List Str} {sp:Sp} {E:XK} {x m:Str} {p pos apos kpos:Pos} {e o:Expr} {es:List Expr} {kws:List Keyword} {te ta:TE} {t tk:TA} {nm:Option Str}
structure KBinds (K:PySem.W.Frag) (fd:FuncData) (ps ks:List Str) (g:List Value→List Value→List Value) (gV:List V→List V→List V):Prop where
  to:∀ (s:Shared) (us ws:List Value),K.In s.heap→(g us ws).length=ps.length→BindsTo s fd ⟨us,ks.zip ws⟩ (ps.zip (g us ws))
  rel:∀ {vs:List V} {us:List Value} {zs:List V} {ws:List Value},Vals vs us→Vals zs ws→Vals (gV vs zs) (g us ws)
variable {g:List Value→List Value→List Value} {gV:List V→List V→List V}
end
structure FnScope (N P:List Str) (sc:Scope):Prop where
  kind:sc.kind=.function
  co:sc.isCoroutine=false
  gen:sc.isGenerator=false
  nd:N.Nodup
  pre:N.take P.length=P
  par:∀ x∈P,sc.names.lookup x=some .local∨sc.names.lookup x=some .cell
  nofree:∀ y∈sc.names,y.2≠.free
theorem bindL_out {kindOf:Str→Option NameKind} {x:Str}:∀ {binds:List (Str × Value)} {m:Str→Option Value},(∀ v,(x,v) ∉ binds)→bindL kindOf binds m x=m x
  | [],_,_=>rfl
  | (n,v) :: r,m,h=>by
    unfold bindL
    rw [bindL_out fun w hw=>h w (List.mem_cons_of_mem _ hw)]
    split
    · have:x≠n:=by rintro rfl;exact h v List.mem_cons_self
      simp [this]
    · rfl
theorem bindC_out {kindOf:Str→Option NameKind} {x:Str}:∀ {binds:List (Str × Value)} {m:Str→Option Value},(∀ v,(x,v) ∉ binds)→bindC kindOf binds m x=m x
  | [],_,_=>rfl
  | (n,v) :: r,m,h=>by
    unfold bindC
    rw [bindC_out fun w hw=>h w (List.mem_cons_of_mem _ hw)]
    split
    · rfl
    · have:x≠n:=by rintro rfl;exact h v List.mem_cons_self
      simp [this]
theorem bindL_get {kindOf:Str→Option NameKind} {x:Str} {v:Value}:∀ {P:List Str} {vs:List Value} {i:Nat} {m:Str→Option Value},P.Nodup→P[i]?=some x→vs[i]?=some v→kindOf x=some .local →
    bindL kindOf (P.zip vs) m x=some v
  | [],_,_,_,_,h,_,_=>by simp at h
  | _ :: _,[],_,_,_,_,h,_=>by simp at h
  | p :: P,w :: vs,0,m,nd,h1,h2,hk=>by
    simp at h1 h2;subst h1;subst h2
    show bindL kindOf ((p,w) :: P.zip vs) m p=_
    unfold bindL
    rw [bindL_out fun v hv=>(List.nodup_cons.mp nd).1 (List.of_mem_zip hv).1,if_pos hk]
    simp
  | p :: P,w :: vs,i+1,m,nd,h1,h2,hk=>by
    show bindL kindOf ((p,w) :: P.zip vs) m x=_
    unfold bindL
    exact bindL_get (i:=i) (List.nodup_cons.mp nd).2 (by simpa using h1) (by simpa using h2) hk
theorem bindC_get {kindOf:Str→Option NameKind} {x:Str} {v:Value}:∀ {P:List Str} {vs:List Value} {i:Nat} {m:Str→Option Value},P.Nodup→P[i]?=some x→vs[i]?=some v→kindOf x≠some .local →
    bindC kindOf (P.zip vs) m x=some v
  | [],_,_,_,_,h,_,_=>by simp at h
  | _ :: _,[],_,_,_,_,h,_=>by simp at h
  | p :: P,w :: vs,0,m,nd,h1,h2,hk=>by
    simp at h1 h2;subst h1;subst h2
    show bindC kindOf ((p,w) :: P.zip vs) m p=_
    unfold bindC
    rw [bindC_out fun v hv=>(List.nodup_cons.mp nd).1 (List.of_mem_zip hv).1,if_neg hk]
    simp
  | p :: P,w :: vs,i+1,m,nd,h1,h2,hk=>by
    show bindC kindOf ((p,w) :: P.zip vs) m x=_
    unfold bindC
    exact bindC_get (i:=i) (List.nodup_cons.mp nd).2 (by simpa using h1) (by simpa using h2) hk
def start (N:List Str) (vs:List V):St:=vs.map some++List.replicate (N.length - vs.length) none
def cxOf (CX:CXT) (P:Program) (w:World) (K:PySem.W.Frag) (mg:Str→Option Value) (base:Heap) (N:List Str) (qual:Str) (scope:Scope) (f:Addr) (cd:Value) (A:Around) (outer:List Env) (s:Shared) (H:Hp) (E:XK):Cx where
  prog:=P
  w:=w
  K:=K
  mg:=mg
  base:=base
  A:=A.deeper (envOfC qual scope s.heap.objs.size f cd)
  N:=N
  s₀:=s
  H₀:=H
  env:=envOfC qual scope s.heap.objs.size f cd
  outer:=outer
  stack:=envOfC qual scope s.heap.objs.size f cd :: outer
  ex:=[]
  calm:=true
  fn:=fun _=>true
  pn:=[]
  xe:=fun e s'=>wpAny (model P w) (A.deeper (envOfC qual scope s.heap.objs.size f cd)) (leaving (envOfC qual scope s.heap.objs.size f cd) e) (fun _ s''=>CX outer H s E e s'') (fun e' s''=>CX outer H s E e' s'') s'
theorem cell_has {sc:Scope} {n:Nat} {x:Str} (h:sc.names.lookup x=some .cell):∃ c,(cellsFrom n sc.names []).lookup x=some c:=by
  have q:=PySem.W.cellsFrom_some sc.names n [] (.inl h)
  exact Option.isSome_iff_exists.mp q
theorem inv_start {CX:CXT} {P:Program} {w:World} {K:PySem.W.Frag} {mg:Str→Option Value} {base:Heap} {N ps:List Str} {qual:Str} {scope:Scope} {f:Addr} {cd:Value} {A:Around} {outer:List Env} {s s1:Shared} {H:Hp} {E:XK} {us:List Value} {vs:List V}
    (S:FnScope N ps scope) (hd:A.handled=none) (e0:Env0 P w K mg base A outer s H) (hl:vs.length=ps.length) (r:Vals vs us)
    (x:InCallC s s.heap.objs.size (bindL (envOfC qual scope s.heap.objs.size f cd).kindOf (ps.zip us) fun _=>none) (cellsFrom (s.heap.objs.size+1) scope.names []) (bindC (envOfC qual scope s.heap.objs.size f cd).kindOf (ps.zip us) fun _=>none) s1) :
    Inv (cxOf CX P w K mg base N qual scope f cd A outer s H E) [] (start N vs) H s1:=by
  have hpl:ps.length≤N.length:=by have:=congrArg List.length S.pre;rw [List.length_take] at this;omega
  obtain ⟨h1,tk,rfl,hk⟩:=x.done
  have noA:∀ b:Addr,b ∉ (cxOf CX P w K mg base N qual scope f cd A outer s H E).ex:=fun b z=>absurd (show b∈([]:List Addr) from z) (by simp)
  refine ⟨⟨e0.mod,S.kind,rfl,rfl,Nat.le_refl _,fun y z c h1 h2=>?_,fun y hy=>?_,fun y c _ h=>?_,fun _=>hd,Around.frames_deeper e0.frames,.inr ⟨rfl,rfl⟩,fun b z=>absurd z (noA b),e0.bs,e0.bsz,fun b _ _=>noA b,fun b z=>absurd z (noA b),e0.funs,e0.frf⟩,
    rfl,e0.bare,Un.kept hk,⟨_,x.toInCall.ns,fun i y v h1 h2 h3=>?_⟩,fun y c h=>⟨_,x.cell y c h⟩,e0.hok.fresh (Nat.le_refl _),fun y c h=>?_,fun p hp=>absurd (show p∈([]:List (Addr × Obj)) from hp) (by simp),e0.hok.kept hk,?_⟩
  · exact name_of_addr x.apart (PySem.mem_of_lookup h1) (PySem.mem_of_lookup h2)
  · have hy:scope.names.lookup y=some .cell∨scope.names.lookup y=some .free:=hy
    rcases hy with hy | hy
    · exact cell_has hy
    · exact absurd rfl (S.nofree _ (PySem.mem_of_lookup hy))
  · exact Nat.le_of_lt (x.above y c (PySem.mem_of_lookup h))
  · have hi:i < vs.length:=by
      unfold start at h2
      by_cases hi:i < vs.length
      · exact hi
      · rw [List.getElem?_append_right (by simpa using hi)] at h2
        rw [List.getElem?_replicate] at h2
        split at h2 <;> cases h2
    have ha:vs[i]?=some v:=by
      unfold start at h2
      rw [List.getElem?_append_left (by simpa using hi),List.getElem?_map] at h2
      cases e:vs[i]? with
      | none=>rw [e] at h2;cases h2
      | some a=>rw [e] at h2;cases h2;rfl
    obtain ⟨u,hu,rv⟩:=r.get ha
    have hp:ps[i]?=some y:=by
      rw [← S.pre,List.getElem?_take_of_lt (by omega)];exact h1
    have ndP:ps.Nodup:=by rw [← S.pre];exact S.nd.sublist (List.take_sublist _ _)
    refine ⟨u,rv,?_⟩
    rcases S.par y (List.mem_of_getElem? hp) with k | k
    · exact .inl ⟨k,bindL_get ndP hp hu k⟩
    · obtain ⟨c,e⟩:=cell_has (n:=s.heap.objs.size+1) k
      refine .inr ⟨.inl k,c,e,?_⟩
      have q:=x.cell y c e
      rw [bindC_get ndP hp hu (by show scope.names.lookup y≠_;rw [k];decide)] at q
      exact q
  · exact e0.hok.fresh (Nat.le_of_lt (x.above y c (PySem.mem_of_lookup h)))
  · unfold start
    show _=N.length
    rw [List.length_append,List.length_map,List.length_replicate]
    omega
theorem fn_of {CX:CXT} {P:Program} {w:World} {K:PySem.W.Frag} {mg:Str→Option Value} {base:Heap} {k:Nat} {f:Addr} {name qual:Str} {params:Arguments} {body:List Stmt} {scope:Scope} {dV kV doc pm cdv ct oc:Value} {an od:Option Addr}
    {osl:Array (Option Value)} {N ps:List Str} {sp:Sp} (lk:K.lookup f=some ⟨oc,od,.func (PySem.W.fnOf name qual params body scope dV kV doc pm an cdv ct),osl⟩) (hcd:PySem.W.codeIn K cdv qual=true) (S:FnScope N ps scope)
    (len:∀ vs H Q E,sp vs H Q E→vs.length=ps.length)
    (hbody:∀ (A:Around) (outer:List Env) (s:Shared) (H:Hp) (vs:List V) (Q:VK) (E:XK),Room k (A.deeper (envOfC qual scope s.heap.objs.size f cdv))→sp vs H Q E →
      ∃ t,PSs (cxOf CX P w K mg base N qual scope f cdv A outer s H E) body t∧t { nx:=fun _ H'=>Q .non H',rt:=Q } (start N vs) H) :
    FnOk P w K mg base CX (k+1) f (PySem.W.fnOf name qual params body scope dV kV doc pm an cdv ct) ps sp:=by
  refine ⟨len,fun A outer s H args us vs Q E hr e0 hb r hsp=>?_⟩
  have hl:=len _ _ _ _ hsp
  have KX:K.In s.heap:=e0.mod.kin.keeps fun b o e=>(e0.bs b o e).1
  have lim:s.heap.NoLimit:=e0.mod.nolimit.keeps fun b o e=>(e0.bs b o e).1
  have hkind:∀ y∈ps.zip us,scope.names.lookup y.1=some .local∨(scope.names.lookup y.1=some .cell∧((cellsFrom (s.heap.objs.size+1) scope.names []).lookup y.1).isSome=true):=fun ⟨n,v⟩ hy=>by
    rcases S.par n (List.of_mem_zip hy).1 with q | q
    · exact .inl q
    · exact .inr ⟨q,PySem.W.cellsFrom_some _ _ _ (.inl q)⟩
  refine codeAny_call_function hr.depth (KX _ _ lk) rfl S.co S.gen rfl (PySem.W.codeRec_of KX hcd) (hb _ _ _ _ ?_)
  refine wpAny_newFunctionEnv_cells S.kind hkind fun env he s1 x=>?_
  subst he
  refine ⟨lim.keeps x.toInCall.keep,codeAny_func ?_⟩
  obtain ⟨t,ht,hq⟩:=hbody A outer s H vs Q E (hr.deeper _) hsp
  have I:Inv (cxOf CX P w K mg base N qual scope f cdv A outer s H E) [] (start N vs) H s1:=inv_start S hr.hd e0 hl r x
  refine wpAny_mono (ht [] s1 (start N vs) H _ I hq) (fun fl s' hs=>?_) fun e s' hs=>hs
  have fin:∀ {σ':St} {H':Hp} {v:V} {u:Value},Inv (cxOf CX P w K mg base N qual scope f cdv A outer s H E) [] σ' H' s'→RelV v u→Q v H'→CE outer P w H s Q u s':=
    fun {σ' H' v u} J rv q=>⟨v,H',J.os,J.bare,J.base,J.hok,rv,q⟩
  cases fl with
  | ret u=>
    obtain ⟨v,σ',H',J,rv,q⟩:=hs
    exact fin J rv q
  | next=>
    obtain ⟨σ',H',J,q⟩:=hs
    exact fin (v:=V.non) (u:=Value.none) J rfl q
  | brk=>
    obtain ⟨_,_,_,q⟩:=hs
    exact False.elim q
  | cont=>
    obtain ⟨_,_,_,q⟩:=hs
    exact False.elim q
end L2
namespace L2
open PySem PySem.Spec PyProof.Rows
section
variable {X:Cx} {x:Str} {p pos:Pos} {e:Expr} {es:List Expr} {t:TA} {id T:String} {r:List V→Hp→VK→Prop}
def tCB (r:List V→Hp→VK→Prop) (t:TA):TE:=fun σ H Q=>t σ H fun vs H1=>r vs H1 Q
theorem pe_callB (hc:CallR X (.builtin id) r) (hg:Gl X x) (hm:X.mg x=none) (hv:bootBuiltins x=some (.builtin id)) (ha:PA X (e :: es) t) (hn:x ≠ "__name__" := by decide) (hdb:(x == ("__debug__" : Str))=false:=by decide)
    (he:starEach (e :: es) X.env=(false,eval e X.env) :: starEach es X.env:=by rfl) (hpl:(backTo pos (starEach es X.env)).any (·.1)=false:=by rfl):PE X (.Call (.Name x p) (e :: es) [] pos) (tCB r t):=by
  intro pins s σ H Q I h
  refine wpAny_Call_Name_kw (ld_blt I hg hm hv ?_ hn hdb)
  exact PyProof.Rows.callWith_builtin1 (thn (ha pos pins s σ H _ I h) fun us s1 ⟨vs,H1,I1,r1,q1⟩=>hc pins s1 σ H1 vs us Q I1 r1 q1) he hpl
theorem pe_callTy (hc:CallR X (.type T) r) (hg:Gl X x) (hm:X.mg x=none) (hv:bootBuiltins x=some (.type T)) (ha:PA X (e :: es) t) (hn:x ≠ "__name__" := by decide) (hdb:(x == ("__debug__" : Str))=false:=by decide)
    (he:starEach (e :: es) X.env=(false,eval e X.env) :: starEach es X.env:=by rfl) (hpl:(backTo pos (starEach es X.env)).any (·.1)=false:=by rfl):PE X (.Call (.Name x p) (e :: es) [] pos) (tCB r t):=by
  intro pins s σ H Q I h
  refine wpAny_Call_Name_kw (ld_blt I hg hm hv ?_ hn hdb)
  exact PyProof.Rows.callWith_type1 (thn (ha pos pins s σ H _ I h) fun us s1 ⟨vs,H1,I1,r1,q1⟩=>hc pins s1 σ H1 vs us Q I1 r1 q1) he hpl
end
end L2
namespace HT
open PySem PyProof.Rows
section
open PySem.SeqAt
open PySem.AutoSeq1 (wpAny_loadPart')
open PySem.MeetsSeq PySem.MeetsSeq2 PySem.MeetsSeq3
end
section
variable {prog:Program} {w:World} {A:Around} {E:Value→Shared→Prop} {s:Shared}
theorem cat_tup {t b:Addr} {vs ws:List Value} {Q:Value→Shared→Prop} (ht:IsTup s.heap t vs.toArray) (hb:IsTup s.heap b ws.toArray) (hv:vs≠[])
    (h1:ws=[]→Q (.ref t) s) (h2:ws≠[]→Q (.ref s.heap.objs.size) { s with heap:=s.heap.push { cls:=.type "tuple", data:=.seq (vs++ws).toArray } })
    (hsz:vs.length+ws.length≤sizeLine):wpAny (model prog w) A (binaryOp .Add (.ref t) (.ref b)) Q E s:=by
  obtain ⟨⟨cls,dd,data,sl⟩,ho,hc,n,hd⟩:=id ht
  obtain ⟨⟨cls2,dd2,data2,sl2⟩,ho2,hc2,n2,hd2⟩:=id hb
  simp only at hc hd hc2 hd2
  subst hc hd hc2 hd2
  have e:vs.toArray++ws.toArray=(vs++ws).toArray:=by simp
  by_cases hw:ws=[]
  · exact concat_meets ⟨_,ho,rfl⟩ ⟨_,ho2,rfl⟩ noFill_tuple_add seq_tuple_add PySem.F.slot_tuple_add PySem.F.entry_tuple_add (PySem.F.args_tuple_add_2 _ _)
      (tuple_addW1 t b vs.toArray ws.toArray n n2 dd dd2 sl sl2 (by simpa using hv) (by simp [hw])) ⟨ho,ho2,h1 hw⟩
  · refine concat_meets ⟨_,ho,rfl⟩ ⟨_,ho2,rfl⟩ noFill_tuple_add seq_tuple_add PySem.F.slot_tuple_add PySem.F.entry_tuple_add (PySem.F.args_tuple_add_2 _ _)
      (tuple_addW2 t b vs.toArray ws.toArray n n2 dd dd2 sl sl2 (by simpa using hv) (by simpa using hw) (by rw [List.size_toArray,List.size_toArray];exact hsz)) ⟨ho,ho2,?_⟩
    rw [e]
    exact h2 hw
def sIx (n d:Nat):Option Int→Nat
  | none=>d
  | some v=>if v < 0 then (v+(n:Int)).toNat else min v.toNat n
theorem sIx_none (n d:Nat):sIx n d none=d:=rfl
theorem sIx_nat (n d k:Nat):sIx n d (some (k:Int))=min k n:=by
  show (if (k:Int) < 0 then ((k:Int)+(n:Int)).toNat else min (k:Int).toNat n)=min k n
  rw [if_neg (by omega),Int.toNat_natCast]
theorem sIx_le (n d:Nat) (hd:d≤n) (o:Option Int):sIx n d o≤n:=by
  cases o with
  | none=>exact hd
  | some v=>
    show (if v < 0 then (v+(n:Int)).toNat else min v.toNat n)≤n
    by_cases hv:v < 0
    · rw [if_pos hv];omega
    · rw [if_neg hv];exact Nat.min_le_right _ _
theorem clip_eq (v:Int) (n d:Nat):(if v < 0 then max (v+(n:Int)) 0 else min v (n:Int))=((sIx n d (some v):Nat):Int):=by
  show (if v < 0 then max (v+(n:Int)) 0 else min v (n:Int))=(((if v < 0 then (v+(n:Int)).toNat else min v.toNat n):Nat):Int)
  by_cases hv:v < 0
  · simp only [if_pos hv];omega
  · simp only [if_neg hv];omega
theorem adjust_gen (lo hi:Option Int) (n:Nat):Builtin.Slice.sliceAdjust lo hi 1 (n:Int)=(((sIx n 0 lo:Nat):Int),((sIx n n hi:Nat):Int)):=by
  have h1:¬ ((1:Int) < 0):=by omega
  unfold Builtin.Slice.sliceAdjust
  simp only [h1,if_false]
  refine Prod.ext ?_ ?_
  · cases lo with
    | none=>rfl
    | some v=>exact clip_eq v n 0
  · cases hi with
    | none=>rfl
    | some v=>exact clip_eq v n n
theorem places_gen (i j:Nat):Builtin.Slice.slicePlaces (i:Int) (j:Int) 1=j - i:=by
  unfold Builtin.Slice.slicePlaces
  have h1:(1:Int) > 0:=by omega
  simp only [h1,if_true,Int.ediv_one]
  split <;> omega
theorem slicePart_ {v:Value} {o:Option Int} {Q:Option Int→Shared→Prop} (p:IsPart v o) (h:Q o s):wpAny (model prog w) A (Builtin.Slice.slicePartIndex v) Q E s:=by
  cases p with
  | none=>exact slicePart_none h
  | int i t=>exact slicePart_int h
theorem sliceApplied_gen {sl:Addr} {vl vu:Value} {lo hi:Option Int} {n:Nat} {Q:Int × Int × Nat→Shared→Prop} (hs:s.heap.IsSliceOf sl vl vu .none) (pl:IsPart vl lo) (pu:IsPart vu hi)
    (h:Q (((sIx n 0 lo:Nat):Int),1,sIx n n hi - sIx n 0 lo) s):wpAny (model prog w) A (Builtin.Slice.sliceApplied (.ref sl) (pure (n:Int))) Q E s:=by
  obtain ⟨os,hos,hcs,hds⟩:=id hs
  unfold Builtin.Slice.sliceApplied Builtin.Slice.sliceFields
  refine wpAny_bind (wpAny_bind (wpAny_field hos hds (x:=vl) rfl (wpAny_bind (wpAny_field hos hds (x:=vu) rfl (wpAny_bind (wpAny_field hos hds (x:=.none) rfl (wpAny_pure ?_)))))))
  refine wpAny_bind (slicePart_none ?_)
  show wpAny _ _ (if ((1:Int) == 0)=true then _ else _) _ _ s
  rw [if_neg (by decide)]
  refine wpAny_bind (slicePart_ pl (wpAny_bind (slicePart_ pu (wpAny_bind (wpAny_pure ?_)))))
  show wpAny _ _ (match Builtin.Slice.sliceAdjust lo hi 1 (n:Int) with | (lo,hi)=>pure (lo,(1:Int),Builtin.Slice.slicePlaces lo hi 1)) _ _ s
  rw [adjust_gen lo hi n]
  show wpAny _ _ (pure (((sIx n 0 lo:Nat):Int),(1:Int),Builtin.Slice.slicePlaces ((sIx n 0 lo:Nat):Int) ((sIx n n hi:Nat):Int) 1)) _ _ s
  rw [places_gen]
  exact wpAny_pure h
theorem pick_gen (xs:Array Value) (i k:Nat):((List.range k).filterMap fun (m:Nat)=>xs[((i:Int)+(m:Int) * 1).toNat]?).toArray=((xs.toList.drop i).take k).toArray:=by
  have e:(fun (m:Nat)=>xs[((i:Int)+(m:Int) * 1).toNat]?)=fun m=>xs[i+m]?:=by
    funext m
    have:((i:Int)+(m:Int) * 1).toNat=i+m:=by omega
    rw [this]
  rw [e]
  have:=pick_run xs i k
  rw [List.filterMap_map] at this
  have e2:((fun x=>xs[x]?) ∘ fun x=>i+x)=fun m=>xs[i+m]?:=rfl
  rw [e2] at this
  rw [this]
theorem getItem_tuple_cut {t sl:Addr} {items:Array Value} {vl vu:Value} {lo hi:Option Int} {Q:Value→Shared→Prop} (ht:IsTup s.heap t items) (hs:s.heap.IsSliceOf sl vl vu .none) (pl:IsPart vl lo) (pu:IsPart vu hi)
    (hw:¬ (sIx items.size 0 lo=0∧sIx items.size items.size hi=items.size))
    (h:Q (.ref s.heap.objs.size) { s with heap:=s.heap.push { cls:=.type "tuple", data:=.seq ((items.toList.drop (sIx items.size 0 lo)).take (sIx items.size items.size hi - sIx items.size 0 lo)).toArray } })
    (hsz:items.size≤sizeLine):wpAny (model prog w) A (getItem (.ref t) (.ref sl)) Q E s:=by
  have htake:sizeOk (.seq ((items.toList.drop (sIx items.size 0 lo)).take (sIx items.size items.size hi - sIx items.size 0 lo)).toArray):=by
    show ((items.toList.drop (sIx items.size 0 lo)).take (sIx items.size items.size hi - sIx items.size 0 lo)).toArray.size≤sizeLine
    rw [List.size_toArray,List.length_take,List.length_drop,Array.length_toList]
    omega
  have hj:sIx items.size items.size hi≤items.size:=sIx_le _ _ (Nat.le_refl _) hi
  obtain ⟨os,hos,hcs,hds⟩:=id hs
  have hTs:s.TypeIs (.ref sl) "slice" := ⟨os,hos,hcs⟩
  unfold getItem
  try with_reducible refine wpAny_holding ?_
  first | refine wpAny_bind (wpAny_pure ?_) | skip
  refine wpAny_bind (wpAny_sequenceKey ht.typeIs (by decide) ?_)
  refine wpAny_bind (wpAny_callSpecial?_slot (name:=Str.ofString "__getitem__") ht.typeIs PyProof.Rows.slot_tuple_getitem
    (wpAny_call_entry PyProof.Rows.slot_tuple_getitem ht.typeIs entry_tuple_getitem ?_ (args_tuple_getitem _ _)))
  show wpAny _ _ (Builtin.Tuple.tupleItemsOf (.ref t) >>= _) _ _ s
  refine wpAny_bind (tupleItemsOf_ ht ?_)
  refine wpAny_bind (wpAny_typeOf hTs ?_)
  rw [if_pos (by decide)]
  refine wpAny_bind (sliceApplied_gen hs pl pu ?_)
  have hno:¬ ((((sIx items.size 0 lo:Nat):Int) == 0 && (1:Int) == 1 && (sIx items.size items.size hi - sIx items.size 0 lo) == items.size)=true):=by
    intro q
    rw [Bool.and_eq_true,Bool.and_eq_true] at q
    have q1:((sIx items.size 0 lo:Nat):Int)=0:=eq_of_beq q.1.1
    have q2:sIx items.size items.size hi - sIx items.size 0 lo=items.size:=eq_of_beq q.2
    exact hw ⟨by omega,by omega⟩
  show wpAny _ _ (if (((sIx items.size 0 lo:Nat):Int) == 0 && (1:Int) == 1 && (sIx items.size items.size hi - sIx items.size 0 lo) == items.size)=true then _ else _) _ _ s
  rw [if_neg hno,pick_gen]
  first
    | exact wpAny_bind (m:=Builtin.Tuple.tupleExact _) (wpAny_newObj_type (wpAny_pure ⟨_,rfl,wpAny_pure h⟩) htake)
    | exact wpAny_bind (m:=Builtin.Tuple.tupleExact _) (wpAny_newObj_type (wpAny_bind (wpAny_pure (wpAny_pure ⟨_,rfl,wpAny_pure h⟩))) htake)
    | exact wpAny_bind (wpAny_bind (m:=Builtin.Tuple.tupleExact _) (wpAny_newObj_type (wpAny_pure (wpAny_pure ⟨_,rfl,wpAny_pure h⟩)) htake))
    | exact wpAny_bind (wpAny_bind (m:=Builtin.Tuple.tupleExact _) (wpAny_newObj_type (wpAny_pure ⟨_,rfl,wpAny_pure h⟩) htake))
end
end HT
namespace L2
open PySem PySem.Spec PyProof.Rows
abbrev TO:=St→Hp→(Option Int→Hp→Prop)→Prop
def PO (X:Cx) (e:Option Expr) (t:TO):Prop:=
  ∀ (pins:List (Addr × Obj)) (s:Shared) (σ:St) (H:Hp) (Q:Option Int→Hp→Prop),Inv X pins σ H s→t σ H Q →
    wpAny (model X.prog X.w) X.A (evalPart e X.env) (fun u s'=>∃ o H',Inv X pins σ H' s'∧IsPart u o∧Q o H') X.xe s
def tNoPart:TO:=fun _ H Q=>Q none H
def tPart (t:TE):TO:=fun σ H Q=>t σ H fun x H1=>∃ i,x=.int i∧Q (some i) H1
section
variable {X:Cx} {e:Expr} {te:TE} {lo hi:Option Expr} {tl th:TO} {pos p2:Pos}
theorem po_none:PO X none tNoPart:=by
  intro pins s σ H Q I h
  rw [evalPart_none]
  exact wpAny_pure ⟨none,H,I,.none,h⟩
theorem po_some (h:PE X e te):PO X (some e) (tPart te):=by
  intro pins s σ H Q I hw
  rw [evalPart_some]
  refine thn (h pins s σ H _ I hw) fun u s1 ⟨x,H1,I1,r1,q1⟩=>?_
  obtain ⟨i,rfl,q⟩:=q1
  obtain ⟨t,rfl⟩:=r1
  exact ⟨some i,H1,I1,.int i t,q⟩
def SlR (X:Cx) (r:V→Option Int→Option Int→Hp→VK→Prop):Prop:=
  ∀ (pins:List (Addr × Obj)) (s:Shared) (σ:St) (H:Hp) (x:V) (v vl vu:Value) (lo hi:Option Int) (sl:Addr) (Q:VK),Inv X pins σ H s→RelV x v→s.heap.IsSliceOf sl vl vu .none→IsPart vl lo→IsPart vu hi→r x lo hi H Q →
    ∃ T id,typeLookup (.type T) "__getitem__" = pure (some (.builtin id))∧s.TypeIs v T∧wpAny (model X.prog X.w) X.A (getItem v (.ref sl)) (EP X pins σ Q) X.xe s
theorem SlR.or {r r':V→Option Int→Option Int→Hp→VK→Prop} (h:SlR X r) (h':SlR X r'):SlR X (fun x lo hi H Q=>r x lo hi H Q∨r' x lo hi H Q):=by
  intro pins s σ H x v vl vu lo hi sl Q I rx hs pl pu q
  rcases q with q | q
  · exact h pins s σ H x v vl vu lo hi sl Q I rx hs pl pu q
  · exact h' pins s σ H x v vl vu lo hi sl Q I rx hs pl pu q
def tSl (r:V→Option Int→Option Int→Hp→VK→Prop) (te:TE) (tl th:TO):TE:=fun σ H Q=>te σ H fun x H1=>tl σ H1 fun l H2=>th σ H2 fun u H3=>r x l u H3 Q
theorem pe_slice {r:V→Option Int→Option Int→Hp→VK→Prop} (hr:SlR X r) (he:PE X e te) (hl:PO X lo tl) (hu:PO X hi th):PE X (.Subscript e (.Slice lo hi none p2) pos) (tSl r te tl th):=by
  intro pins s σ H Q I h
  refine Subscript_ (thn (he pins s σ H _ I h) fun v s1 ⟨x,H1,I1,r1,q1⟩=>?_)
  refine wpAny_Slice (thn (hl pins s1 σ H1 _ I1 q1) fun vl s2 ⟨l,H2,I2,pl,q2⟩=>thn (hu pins s2 σ H2 _ I2 q2) fun vu s3 ⟨u,H3,I3,pu,q3⟩=>?_)
  rw [evalPart_none]
  refine wpAny_pure ?_
  have I4:Inv X pins σ H3 { s3 with heap:=s3.heap.push { cls:=.type "slice", data:=.fields #[vl,vu,.none] } }:=I3.kept (t':=s3.toks) fun b ob q=>Heap.get?_push_of_some _ q
  obtain ⟨T,id,hT,ht,hg⟩:=hr pins { s3 with heap:=s3.heap.push { cls:=.type "slice", data:=.fields #[vl,vu,.none] } } σ H3 x v vl vu l u s3.heap.objs.size Q I4 r1 (Heap.IsSliceOf.new ..) pl pu q3
  show wpAny (model X.prog X.w) X.A (subscriptTail e (.Slice lo hi none p2) v (.ref s3.heap.objs.size)) (EP X pins σ Q) X.xe { s3 with heap:=s3.heap.push { cls:=.type "slice", data:=.fields #[vl,vu,.none] } }
  exact tail_any (ops:=[.ref s3.heap.objs.size,v]) ht hT hg (by with_unfolding_all rfl)
def cutV (xs:List V) (lo hi:Option Int):List V:=(xs.drop (HT.sIx xs.length 0 lo)).take (HT.sIx xs.length xs.length hi - HT.sIx xs.length 0 lo)
theorem cutV_length (xs:List V) (lo hi:Option Int):(cutV xs lo hi).length≤xs.length:=by
  unfold cutV
  rw [List.length_take,List.length_drop]
  omega
def rSlT (K:PySem.W.Frag):V→Option Int→Option Int→Hp→VK→Prop:=fun x lo hi H Q=>∃ a xs,x=.ref a∧SqT K H a xs ∧
  ¬ (HT.sIx xs.length 0 lo=0∧HT.sIx xs.length xs.length hi=xs.length)∧∀ p,H p=none→Q (.ref p) (upd H p (.tup (cutV xs lo hi)))
theorem sl_tup:SlR X (rSlT X.K):=by
  intro pins s σ H x v vl vu lo hi sl Q I rx hs pl pu h
  obtain ⟨a,xs,rfl,hx,hw,q⟩:=h
  cases rx
  obtain ⟨its,r,ht,hz⟩:=I.tuple hx
  have hlen:its.toArray.size=xs.length:=by rw [List.size_toArray];exact r.length.symm
  refine ⟨"tuple", _,PyProof.Rows.slot_tuple_getitem.lookup,ht.typeIs,?_⟩
  refine HT.getItem_tuple_cut ht hs pl pu (by rw [hlen];exact hw) ?_ (by rw [hlen];exact hz)
  rw [hlen]
  refine ⟨.ref s.heap.objs.size,_,I.laid (t':=s.toks) (o:=.tup (cutV xs lo hi)) (fun b ob q=>Heap.get?_push_of_some _ q) (Nat.le_refl _) ?_,rfl,q _ (I.hok.fresh (Nat.le_refl _))⟩
  exact ⟨⟨Nat.le_trans (cutV_length xs lo hi) hz,_,Heap.get?_push_size _ rfl,rfl⟩,_,(r.drop (HT.sIx xs.length 0 lo)).take (HT.sIx xs.length xs.length hi - HT.sIx xs.length 0 lo),IsTup.new _ _⟩
def rCatT (K:PySem.W.Frag):R2:=fun x y H Q=>∃ a b xs ys,x=.ref a∧y=.ref b∧SqT K H a xs∧SqT K H b ys∧xs≠[]∧xs.length+ys.length≤sizeLine ∧
  (ys=[]→Q (.ref a) H)∧(ys≠[]→∀ p,H p=none→Q (.ref p) (upd H p (.tup (xs++ys))))
theorem Vals.nil_iff {xs:List V} {us:List Value} (r:Vals xs us):us=[] ↔ xs=[]:=by
  cases r with
  | nil=>simp
  | cons _ _=>simp
theorem op_catT:OpR X (binaryOp .Add) (rCatT X.K):=by
  intro pins s σ H x y v u Q I rx ry h
  obtain ⟨a,b,xs,ys,rfl,rfl,ha,hb,hx,hz,q1,q2⟩:=h
  cases rx
  cases ry
  obtain ⟨its,r1,p1,_⟩:=I.tuple ha
  obtain ⟨its2,r2,p2,_⟩:=I.tuple hb
  refine HT.cat_tup p1 p2 (fun z=>hx (r1.nil_iff.mp z)) (fun z=>⟨.ref a,H,I,rfl,q1 (r2.nil_iff.mp z)⟩) (fun z=>?_) (by rw [← r1.length,← r2.length];exact hz)
  refine ⟨.ref s.heap.objs.size,_,I.laid (t':=s.toks) (o:=.tup (xs++ys)) (fun b ob q=>Heap.get?_push_of_some _ q) (Nat.le_refl _) ?_,rfl,q2 (fun w=>z (r2.nil_iff.mpr w)) _ (I.hok.fresh (Nat.le_refl _))⟩
  exact ⟨⟨by rw [List.length_append];exact hz,_,Heap.get?_push_size _ rfl,rfl⟩,_,r1.append r2,IsTup.new _ _⟩
end
end L2
namespace L2
open PySem PySem.Spec PyProof.Rows
def ixN (n:Nat) (i:Int):Option Nat:=if 0≤i then (if i < n then some i.toNat else none) else if -(n:Int)≤i then some (i+n).toNat else none
def atI {α:Type} (xs:List α) (i:Int):Option α:=(ixN xs.length i).bind fun j=>xs[j]?
theorem ixN_seq {n:Nat} {i:Int} {j:Nat} (h:ixN n i=some j):seqIndex? i n=some j∧j < n∧-(n:Int)≤i∧i < n:=by
  unfold ixN at h
  by_cases h0:0≤i
  · rw [if_pos h0] at h
    by_cases h1:i < n
    · rw [if_pos h1] at h
      have e:i.toNat=j:=Option.some.inj h
      exact ⟨by rw [seqIndex_of h0 h1,e],by omega,by omega,h1⟩
    · rw [if_neg h1] at h;cases h
  · rw [if_neg h0] at h
    by_cases h1:-(n:Int)≤i
    · rw [if_pos h1] at h
      have e:(i+n).toNat=j:=Option.some.inj h
      exact ⟨by rw [seqIndex_neg (by omega) h1,e],by omega,h1,by omega⟩
    · rw [if_neg h1] at h;cases h
theorem atI_get {α:Type} {xs:List α} {i:Int} {v:α} (h:atI xs i=some v):∃ j,seqIndex? i xs.length=some j∧xs[j]?=some v∧j < xs.length∧-(xs.length:Int)≤i∧i < xs.length:=by
  unfold atI at h
  cases e:ixN xs.length i with
  | none=>rw [e] at h;cases h
  | some j=>
    rw [e] at h
    obtain ⟨h1,h2,h3,h4⟩:=ixN_seq e
    exact ⟨j,h1,h,h2,h3,h4⟩
theorem atI_nat {α:Type} {xs:List α} {j:Nat} {v:α} (h:xs[j]?=some v):atI xs (j:Int)=some v:=by
  have hj:j < xs.length:=(List.getElem?_eq_some_iff.mp h).1
  have e:ixN xs.length (j:Int)=some j:=by
    unfold ixN
    rw [if_pos (by omega),if_pos (by omega)];simp
  unfold atI;rw [e];exact h
def PlainIx (b:Expr):Prop:=∀ o i,subscripted b false o i=operate [o,i] (getItem o i)
def IxR (X:Cx) (r:R2):Prop:=
  ∀ (value slice:Expr) (pins:List (Addr × Obj)) (s:Shared) (σ:St) (H:Hp) (x y:V) (v u:Value) (Q:VK),Inv X pins σ H s→RelV x v→RelV y u→r x y H Q →
    subscripted slice false v u=operate [v,u] (getItem v u)→wpAny (model X.prog X.w) X.A (subscriptTail value slice v u) (EP X pins σ Q) X.xe s
def MtR (X:Cx) (id:String) (r:V→List V→Hp→VK→Prop):Prop:=
  ∀ (pins:List (Addr × Obj)) (s:Shared) (σ:St) (H:Hp) (x:V) (xs:List V) (v:Value) (us:List Value) (Q:VK),Inv X pins σ H s→RelV x v→Vals xs us→r x xs H Q →
    wpAny (model X.prog X.w) X.A (call (.builtin id) (v :: us)) (EP X pins σ Q) X.xe s
section
variable {X:Cx} {a b:Expr} {ta tb:TE} {pos:Pos}
theorem IxR.or {r r':R2} (h:IxR X r) (h':IxR X r'):IxR X (fun x y H Q=>r x y H Q∨r' x y H Q):=by
  intro value slice pins s σ H x y v u Q I rx ry q hs
  rcases q with q | q
  · exact h value slice pins s σ H x y v u Q I rx ry q hs
  · exact h' value slice pins s σ H x y v u Q I rx ry q hs
theorem MtR.or {id:String} {r r':V→List V→Hp→VK→Prop} (h:MtR X id r) (h':MtR X id r'):MtR X id (fun x xs H Q=>r x xs H Q∨r' x xs H Q):=by
  intro pins s σ H x xs v us Q I rx rs q
  rcases q with q | q
  · exact h pins s σ H x xs v us Q I rx rs q
  · exact h' pins s σ H x xs v us Q I rx rs q
theorem pe_ix {r:R2} (hr:IxR X r) (ha:PE X a ta) (hb:PE X b tb) (hs:PlainIx b):PE X (.Subscript a b pos) (tOp r ta tb):=by
  intro pins s σ H Q I h
  exact Subscript_ (binT ha hb I h fun v u s2 x y H2 I2 rx ry q=>hr a b pins s2 σ H2 x y v u Q I2 rx ry q (hs _ _))
def rIxL (K:PySem.W.Frag):R2:=fun x y H Q=>∃ p xs i v,x=.ref p∧y=.int i∧SqL K H p xs∧atI xs i=some v∧Q v H
def rIxT (K:PySem.W.Frag):R2:=fun x y H Q=>∃ p xs i v,x=.ref p∧y=.int i∧SqT K H p xs∧atI xs i=some v∧Q v H
def rIxS:R2:=fun x y H Q=>∃ z i c,x=.str z∧y=.int i∧z.length≤sizeLine∧atI z.cps.toList i=some c∧Q (.str ⟨#[c]⟩) H
theorem ix_list:IxR X (rIxL X.K):=by
  intro value slice pins s σ H x y v u Q I rx ry h hs
  obtain ⟨p,xs,i,z,rfl,rfl,hq,he,q⟩:=h
  cases rx
  obtain ⟨t,rfl⟩:=ry
  obtain ⟨its,r,pl,hz⟩:=I.list hq
  obtain ⟨j,h1,h2,h3,h4,h5⟩:=atI_get he
  obtain ⟨w,ew,rw'⟩:=r.get h2
  have hl:=r.length
  have hn:=line63
  have fin:EP X pins σ Q w s:=⟨z,H,I,rw',q⟩
  by_cases h0:0≤i
  · have hj:i.toNat=j:=by
      rw [seqIndex_of h0 h5] at h1
      exact Option.some.inj h1
    exact item_listR pl.isList h0 (by omega) (by rw [hj];simpa using ew) fin hs
  · have hj:(i+(its.toArray.size:Int)).toNat=j:=by
      rw [seqIndex_neg (by omega) h4] at h1
      rw [List.size_toArray,← hl]
      exact Option.some.inj h1
    exact subscriptTail_builtinR (x:=w) pl.isList.typeIs slot_list_getitem.lookup
      (wpAny_getItem_list_neg (Q:=fun r s'=>r=w∧EP X pins σ Q r s') pl.isList (by omega) (by rw [List.size_toArray] <;> omega) (by omega) (by rw [hj];simpa using ew) ⟨rfl,fin⟩) hs
theorem ix_tup:IxR X (rIxT X.K):=by
  intro value slice pins s σ H x y v u Q I rx ry h hs
  obtain ⟨p,xs,i,z,rfl,rfl,hq,he,q⟩:=h
  cases rx
  obtain ⟨t,rfl⟩:=ry
  obtain ⟨its,r,pl,hz⟩:=I.tuple hq
  obtain ⟨j,h1,h2,h3,h4,h5⟩:=atI_get he
  obtain ⟨w,ew,rw'⟩:=r.get h2
  have hl:=r.length
  have hn:=line63
  have fin:EP X pins σ Q w s:=⟨z,H,I,rw',q⟩
  exact subscriptTail_builtinR (x:=w) pl.typeIs slot_tuple_getitem.lookup
    (getItem_tuple (j:=j) (Q:=fun r s'=>r=w∧EP X pins σ Q r s') pl (by omega) (by omega) (by rw [List.size_toArray,← hl];exact h1) (by simpa using ew) ⟨rfl,fin⟩) hs
theorem ix_str:IxR X rIxS:=by
  intro value slice pins s σ H x y v u Q I rx ry h hs
  obtain ⟨z,i,c,rfl,rfl,hz,he,q⟩:=h
  obtain ⟨t,rfl⟩:=rx
  obtain ⟨t',rfl⟩:=ry
  obtain ⟨j,h1,h2,h3,h4,h5⟩:=atI_get he
  have hl:z.cps.toList.length=z.length:=by simp [Str.length]
  rw [hl] at h1 h4 h5
  have hn:=line63
  exact tail_any (typeIs_str s z t) slot_str_getitem.lookup (getItem_str (c:=c) (by
    have e1:decide (i < -(2 ^ 63:Int))=false:=decide_eq_false (by omega)
    have e2:decide (i ≥ 2 ^ 63)=false:=decide_eq_false (by omega)
    rw [e1,e2,Bool.or_false]) (by rw [h1];simpa using h2) ⟨.str ⟨#[c]⟩,H,I.tok _,⟨_,rfl⟩,q⟩) hs
theorem mapSeq_set (its:List Value) (n j:Nat) (u:Value):Obj.mapSeq (·.setIfInBounds j u) { cls:=.type "list", data:=.seq its.toArray n }={ cls:=.type "list", data:=.seq (its.set j u).toArray n }:=by
  simp [Obj.mapSeq]
theorem Inv.lst {pins:List (Addr × Obj)} {σ:St} {H:Hp} {s:Shared} {p:Addr} {xs:List V} (I:Inv X pins σ H s) (h:H p=some (.lst xs)) :
    ∃ (its:List Value) (n:Nat),Vals xs its∧s.heap.get? p=some { cls:=.type "list", data:=.seq its.toArray n }∧xs.length≤sizeLine:=by
  obtain ⟨z,its,n,r,e⟩:=I.hok p _ h
  exact ⟨its,n,r,e,z⟩
theorem Inv.lstUpd {pins:List (Addr × Obj)} {σ:St} {H:Hp} {s:Shared} {p:Addr} {xs ys:List V} {its its':List Value} {n n':Nat} {f:Obj→Obj} (I:Inv X pins σ H s) (h:H p=some (.lst xs))
    (ho:s.heap.get? p=some { cls:=.type "list", data:=.seq its.toArray n }) (hf:f { cls:=.type "list", data:=.seq its.toArray n }={ cls:=.type "list", data:=.seq its'.toArray n' }) (r:Vals ys its') (hz:ys.length≤sizeLine) (t:Nat) :
    Inv X pins σ (upd H p (.lst ys)) { s with heap:=s.heap.update p f,toks:=t }:=by
  have e:(s.heap.update p f).get? p=some { cls:=.type "list", data:=.seq its'.toArray n' }:=by
    rw [Heap.get?_update_self f ho (by rw [hf] <;> rfl),hf]
  refine I.write (x:=p) (e:=p) (by rw [h];trivial) (.inl rfl) (fun b u hb q=>(Heap.get?_update_other _ _ (Ne.symm hb)).trans q) ⟨_,e⟩ ?_
  exact ⟨hz,its',n',r,e⟩
def rSetL:V→V→V→Hp→(Hp→Prop)→Prop:=fun o i v H Q=>∃ p xs k j,o=.ref p∧i=.int k∧H p=some (.lst xs)∧ixN xs.length k=some j∧Q (upd H p (.lst (xs.set j v)))
theorem set_list:PSet X rSetL:=by
  intro pins s σ H o i v ov iv u Q I ro ri rv h
  obtain ⟨p,xs,k,j,rfl,rfl,hp,hj,q⟩:=h
  cases ro
  obtain ⟨t,rfl⟩:=ri
  obtain ⟨its,n,r,ho,hz⟩:=I.lst hp
  obtain ⟨h1,h2,h3,h4⟩:=ixN_seq hj
  have hl:=r.length
  have hn:=line63
  have I':Inv X pins σ (upd H p (.lst (xs.set j v))) { s with heap:=s.heap.update p (Obj.mapSeq (·.setIfInBounds j u)) }:=
    I.lstUpd hp ho (mapSeq_set its n j u) (r.set rv j) (by rw [List.length_set];exact hz) s.toks
  by_cases h0:0≤k
  · have hk:k.toNat=j:=by
      rw [seqIndex_of h0 h4] at h1
      exact Option.some.inj h1
    exact PySem.W.ki_setAt ho h0 (by omega) (by rw [List.size_toArray,← hl];exact h4) (by rw [hk];exact ⟨_,I',q⟩)
  · have hk:(k+(its.toArray.size:Int)).toNat=j:=by
      rw [seqIndex_neg (by omega) h3] at h1
      rw [List.size_toArray,← hl]
      exact Option.some.inj h1
    exact PySem.W.ki_setBack ho (by omega) (by rw [List.size_toArray,← hl];exact h3) (by omega) (by rw [hk];exact ⟨_,I',q⟩)
theorem slice_bounds (lo hi:Option Int) (n:Nat):(sliceBounds lo hi none n).1=((HT.sIx n 0 lo:Nat):Int)∧(sliceBounds lo hi none n).2.1=((HT.sIx n n hi:Nat):Int)∧(sliceBounds lo hi none n).2.2=1:=by
  refine ⟨?_,?_,rfl⟩
  · cases lo with
    | none=>simp [sliceBounds,HT.sIx]
    | some i=>
      simp only [sliceBounds,HT.sIx,Option.getD_none,show (1:Int) > 0 by decide,if_true]
      by_cases h:i < 0
      · simp only [h,if_true] <;> omega
      · simp only [h,if_false] <;> omega
  · cases hi with
    | none=>simp [sliceBounds,HT.sIx]
    | some i=>
      simp only [sliceBounds,HT.sIx,Option.getD_none,show (1:Int) > 0 by decide,if_true]
      by_cases h:i < 0
      · simp only [h,if_true] <;> omega
      · simp only [h,if_false] <;> omega
theorem slicePick_cut (its:List Value) (lo hi:Option Int):slicePick its.toArray lo hi none=((its.drop (HT.sIx its.length 0 lo)).take (HT.sIx its.length its.length hi - HT.sIx its.length 0 lo)).toArray:=by
  obtain ⟨h1,h2,h3⟩:=slice_bounds lo hi its.toArray.size
  unfold slicePick
  rw [h1,h2,h3]
  simp only [sliceRange_one,pick_run,List.size_toArray] <;> rfl
def rSlL (K:PySem.W.Frag):V→Option Int→Option Int→Hp→VK→Prop:=fun x lo hi H Q=>∃ a xs,x=.ref a∧SqL K H a xs∧∀ p,H p=none→Q (.ref p) (upd H p (.lst (cutV xs lo hi)))
theorem sl_list:SlR X (rSlL X.K):=by
  intro pins s σ H x v vl vu lo hi sl Q I rx hs pl pu h
  obtain ⟨a,xs,rfl,hx,q⟩:=h
  cases rx
  obtain ⟨its,r,ht,hz⟩:=I.list hx
  have hlen:=r.length
  refine ⟨"list", _,slot_list_getitem.lookup,ht.isList.typeIs,?_⟩
  refine wpAny_getItem_list_slice ht.isList hs pl pu .none (by simp) ?_ (by rw [List.size_toArray] <;> omega)
  rw [slicePick_cut,← hlen]
  refine ⟨.ref s.heap.objs.size,_,I.laid (t':=s.toks) (o:=.lst (cutV xs lo hi)) (fun b ob q=>Heap.get?_push_of_some _ q) (Nat.le_refl _) ?_,rfl,q _ (I.hok.fresh (Nat.le_refl _))⟩
  exact ⟨Nat.le_trans (cutV_length xs lo hi) hz,_,0,(r.drop (HT.sIx xs.length 0 lo)).take (HT.sIx xs.length xs.length hi - HT.sIx xs.length 0 lo),Heap.get?_push_size _ rfl⟩
def flatV:V→Bool
  | .non=>true
  | .bl _=>true
  | .int _=>true
  | .str _=>true
  | _=>false
def eqV:V→V→Bool
  | .non,.non=>true
  | .bl a,.bl b=>a == b
  | .bl a,.int b=>(if a then 1 else 0) == b
  | .int a,.bl b=>a == (if b then 1 else 0)
  | .int a,.int b=>a == b
  | .str a,.str b=>a == b
  | _,_=>false
theorem eqAt_V {A:Around} {s:Shared} {y x:V} {u v:Value} (ry:RelV y u) (rx:RelV x v) (fy:flatV y=true) (fx:flatV x=true):SeqAt.EqAt A s u v (eqV y x):=by
  cases y with
  | non=>
    cases ry
    cases x with
    | non=>cases rx;exact SeqAt.EqAt.same _
    | bl b=>cases rx;exact SeqAt.EqAt.none_bool b
    | int b=>obtain ⟨t,rfl⟩:=rx;exact SeqAt.EqAt.none_int b t
    | str b=>obtain ⟨t,rfl⟩:=rx;exact SeqAt.EqAt.none_str b t
    | _=>exact absurd (show false=true from fx) Bool.false_ne_true
  | bl a=>
    cases ry
    cases x with
    | non=>cases rx;exact SeqAt.EqAt.bool_none a
    | bl b=>cases rx;exact SeqAt.EqAt.bool_bool a b
    | int b=>obtain ⟨t,rfl⟩:=rx;exact SeqAt.EqAt.bool_int a b t
    | str b=>obtain ⟨t,rfl⟩:=rx;exact SeqAt.EqAt.bool_str a b t
    | _=>exact absurd (show false=true from fx) Bool.false_ne_true
  | int a=>
    obtain ⟨t',rfl⟩:=ry
    cases x with
    | non=>cases rx;exact SeqAt.EqAt.int_none a t'
    | bl b=>cases rx;exact SeqAt.EqAt.int_bool a t' b
    | int b=>obtain ⟨t,rfl⟩:=rx;exact SeqAt.EqAt.int_int a t' b t
    | str b=>obtain ⟨t,rfl⟩:=rx;exact SeqAt.EqAt.int_str a t' b t
    | _=>exact absurd (show false=true from fx) Bool.false_ne_true
  | str a=>
    obtain ⟨t',rfl⟩:=ry
    cases x with
    | non=>cases rx;exact SeqAt.EqAt.str_none a t'
    | bl b=>cases rx;exact SeqAt.EqAt.str_bool a t' b
    | int b=>obtain ⟨t,rfl⟩:=rx;exact SeqAt.EqAt.str_int a t' b t
    | str b=>obtain ⟨t,rfl⟩:=rx;exact SeqAt.EqAt.str_str a t' b t
    | _=>exact absurd (show false=true from fx) Bool.false_ne_true
  | _=>exact absurd (show false=true from fy) Bool.false_ne_true
def eqU (x:V) (u:Value):Bool:=match u with
  | .none=>eqV .non x
  | .bool b=>eqV (.bl b) x
  | .int i _=>eqV (.int i) x
  | .str z _=>eqV (.str z) x
  | _=>false
theorem eqU_of {x y:V} {u:Value} (r:RelV y u) (f:flatV y=true):eqU x u=eqV y x:=by
  cases y with
  | non=>cases r;rfl
  | bl b=>cases r;rfl
  | int i=>obtain ⟨t,rfl⟩:=r;rfl
  | str z=>obtain ⟨t,rfl⟩:=r;rfl
  | _=>exact absurd (show false=true from f) Bool.false_ne_true
theorem any_eqU {x:V}:∀ {xs:List V} {us:List Value},Vals xs us→xs.all flatV=true→us.any (eqU x)=xs.any fun y=>eqV y x
  | _,_,.nil,_=>rfl
  | y :: xs,u :: us,.cons r t,f=>by
    rw [List.all_cons,Bool.and_eq_true] at f
    rw [List.any_cons,List.any_cons,eqU_of r f.1,any_eqU t f.2]
theorem mem_eqAt {A:Around} {s:Shared} {x:V} {v:Value} (rx:RelV x v) (fx:flatV x=true):∀ {xs:List V} {us:List Value},Vals xs us→xs.all flatV=true→∀ u∈us,SeqAt.EqAt A s u v (eqU x u)
  | _,_,.nil,_=>fun u hu=>by cases hu
  | y :: xs,u :: us,.cons r t,f=>fun u' hu=>by
    rw [List.all_cons,Bool.and_eq_true] at f
    rcases List.mem_cons.mp hu with rfl | hu
    · rw [eqU_of r f.1];exact eqAt_V r rx f.1 fx
    · exact mem_eqAt rx fx t f.2 u' hu
def inV (x:V) (xs:List V):Bool:=xs.any fun y=>eqV y x
def rIn (K:PySem.W.Frag) (neg:Bool):R2:=fun x y H Q=>∃ p xs,y=.ref p∧(SqL K H p xs∨SqT K H p xs)∧flatV x=true∧xs.all flatV=true∧Q (.bl (if neg then !inV x xs else inV x xs)) H
theorem op_notIn_seq:OpR X (compareOp .NotIn) (rIn X.K true):=by
  intro pins s σ H x y v u Q I rx ry h
  obtain ⟨p,xs,rfl,hq,fx,fs,q⟩:=h
  cases ry
  rcases hq with hq | hq
  · obtain ⟨its,r,pl,hz⟩:=I.list hq
    refine SeqAt.notIn_listAt (eqU x) pl.isList (fun w hw=>mem_eqAt rx fx r fs w (by simpa using hw)) ⟨.bl _,H,I,rfl,?_⟩
    rw [show its.toArray.any (eqU x)=its.any (eqU x) by simp,any_eqU r fs]
    exact q
  · obtain ⟨its,r,pl,hz⟩:=I.tuple hq
    refine SeqAt.notIn_tupleAt (eqU x) pl (fun w hw=>mem_eqAt rx fx r fs w (by simpa using hw)) ⟨.bl _,H,I,rfl,?_⟩
    rw [show its.toArray.any (eqU x)=its.any (eqU x) by simp,any_eqU r fs]
    exact q
theorem call_len_seq:CallR X (.builtin "len") (fun xs H Q=>∃ p ys,xs=[.ref p]∧(SqL X.K H p ys∨SqT X.K H p ys)∧Q (.int ys.length) H):=by
  intro pins s σ H xs us Q I r h
  obtain ⟨p,ys,rfl,hq,q⟩:=h
  obtain ⟨u,rfl,rx⟩:=vals1 r
  cases rx
  have hn:=line63
  rcases hq with hq | hq
  · obtain ⟨its,r',pl,hz⟩:=I.list hq
    have hlen:=r'.length
    exact Calls.call_len_list pl.isList (by simp only [List.size_toArray] <;> omega) ⟨.int ys.length,H,I.tok _,⟨s.toks+1,by rw [List.size_toArray,hlen]⟩,q⟩
  · obtain ⟨its,r',pl,hz⟩:=I.tuple hq
    have hlen:=r'.length
    exact len_tuple pl (by simp only [List.size_toArray] <;> omega) ⟨.int ys.length,H,I.tok _,⟨s.toks+1,by rw [List.size_toArray,hlen]⟩,q⟩
theorem call_len_str:CallR X (.builtin "len") (fun xs H Q=>∃ z,xs=[.str z]∧z.length≤sizeLine∧Q (.int z.length) H):=by
  intro pins s σ H xs us Q I r h
  obtain ⟨z,rfl,hz,q⟩:=h
  obtain ⟨u,rfl,t,rfl⟩:=vals1 r
  have hn:=line63
  exact len_str (by omega) ⟨.int z.length,H,I.tok _,⟨_,rfl⟩,q⟩
theorem CallR.or {f:Value} {r r':List V→Hp→VK→Prop} (h:CallR X f r) (h':CallR X f r'):CallR X f (fun xs H Q=>r xs H Q∨r' xs H Q):=by
  intro pins s σ H xs us Q I rs q
  rcases q with q | q
  · exact h pins s σ H xs us Q I rs q
  · exact h' pins s σ H xs us Q I rs q
theorem call_list_of:CallR X (.type "list") (fun xs H Q=>∃ p ys,xs=[.ref p]∧(SqL X.K H p ys∨SqT X.K H p ys)∧∀ l,H l=none→Q (.ref l) (upd H l (.lst ys))):=by
  intro pins s σ H xs us Q I r h
  obtain ⟨p,ys,rfl,hq,q⟩:=h
  obtain ⟨u,rfl,rx⟩:=vals1 r
  cases rx
  have fin:∀ (its:List Value),Vals ys its→ys.length≤sizeLine→∀ (h':Heap) (c':Nat),(∀ b o',s.heap.get? b=some o'→h'.get? b=some o') →
      h'.get? s.heap.objs.size=some { cls:=.type "list", dict:=none,data:=.seq its.toArray c',slots:=#[] }→EP X pins σ Q (.ref s.heap.objs.size) { s with heap:=h' }:=fun its r' hz h' c' kp e=>
    ⟨.ref s.heap.objs.size,_,I.laid (t':=s.toks) kp (Nat.le_refl _) (show ObjOk X.prog X.w _ h' _ (.lst ys) from ⟨hz,its,c',r',e⟩),rfl,q _ (I.hok.fresh (Nat.le_refl _))⟩
  rcases hq with hq | hq
  · obtain ⟨its,r',pl,hz⟩:=I.list hq
    have hlen:=r'.length
    obtain ⟨o,ho,hc,n,hd⟩:=pl.isList
    exact call_list_seq p (.inl rfl) ho hc hd (fun h' c' kp e=>fin its r' hz h' c' kp e) (by simp only [List.size_toArray] <;> omega)
  · obtain ⟨its,r',pl,hz⟩:=I.tuple hq
    have hlen:=r'.length
    obtain ⟨o,ho,hc,n,hd⟩:=pl
    exact call_list_seq p (.inr rfl) ho hc hd (fun h' c' kp e=>fin its r' hz h' c' kp e) (by simp only [List.size_toArray] <;> omega)
theorem call_tuple_of:CallR X (.type "tuple") (fun xs H Q=>∃ p ys,xs=[.ref p]∧((SqL X.K H p ys∧∀ l,H l=none→Q (.ref l) (upd H l (.tup ys)))∨(SqT X.K H p ys∧Q (.ref p) H))):=by
  intro pins s σ H xs us Q I r h
  obtain ⟨p,ys,rfl,h⟩:=h
  obtain ⟨u,rfl,rx⟩:=vals1 r
  cases rx
  rcases h with ⟨hq,q⟩ | ⟨hq,q⟩
  · obtain ⟨its,r',pl,hz⟩:=I.list hq
    have hlen:=r'.length
    refine call_tuple_list pl.isList (fun h' kp=>?_) (by simp only [List.size_toArray] <;> omega)
    have I1:Inv X pins σ H { s with heap:=h' }:=I.kept (t':=s.toks) kp
    have I2:Inv X pins σ (upd H h'.objs.size (.tup ys)) { s with heap:=h'.push { cls:=.type "tuple", data:=.seq its.toArray } }:=
      I1.laid (t':=s.toks) (fun b o e=>Heap.get?_push_of_some _ e) (Nat.le_refl _) (show ObjOk X.prog X.w _ _ _ (.tup ys) from ⟨⟨hz,_,Heap.get?_push_size _ rfl,rfl⟩,its,r',IsTup.new _ _⟩)
    exact ⟨.ref h'.objs.size,_,I2,rfl,q _ (I1.hok.fresh (Nat.le_refl _))⟩
  · obtain ⟨its,r',pl,hz⟩:=I.tuple hq
    exact call_tuple_same pl ⟨.ref p,H,I,rfl,q⟩
def tyV (K:PySem.W.Frag) (T:String) (x:V) (H:Hp):Prop:=match x with
  | .str _=>T = "str"
  | .int _=>T = "int"
  | .ref p=>(T = "list" ∧ ∃ xs,SqL K H p xs)∨(T = "tuple" ∧ ∃ o,K.lookup p=some o∧o.cls=.type "tuple" ∧ o.dict=none) ∨
      (T = "dict" ∧ ((∃ kvs,H p=some (.dK kvs))∨∃ kvs,H p=some (.dT kvs)))∨(T = "set" ∧ ∃ S n,H p=some (.set S n))
  | _=>False
theorem tyV_is {pins:List (Addr × Obj)} {σ:St} {H:Hp} {s:Shared} {T:String} {x:V} {v:Value} (I:Inv X pins σ H s) (r:RelV x v) (ty:tyV X.K T x H) :
    s.TypeIs v T∧∀ a,v=.ref a→∃ ob,s.heap.get? a=some ob∧ob.dict=none:=by
  cases x with
  | str z=>
    obtain ⟨t,rfl⟩:=r
    cases (show T = "str" from ty)
    exact ⟨typeIs_str s z t,fun _ e=>nomatch e⟩
  | int i=>
    obtain ⟨t,rfl⟩:=r
    cases (show T = "int" from ty)
    exact ⟨typeIs_int s i t,fun _ e=>nomatch e⟩
  | ref p=>
    cases r
    rcases ty with ⟨rfl,xs,hq⟩ | ⟨rfl,o,hk,hc,hd⟩ | ⟨rfl,hk⟩ | ⟨rfl,S,n,hk⟩
    · obtain ⟨its,_,pl,_⟩:=I.list hq
      refine ⟨pl.isList.typeIs,fun a e=>?_⟩
      cases e
      obtain ⟨o,n,e,c,hd,_⟩:=pl
      exact ⟨o,e,hd⟩
    · refine ⟨⟨o,I.kIn p o hk,hc⟩,fun a e=>?_⟩
      cases e
      exact ⟨o,I.kIn _ o hk,hd⟩
    · have z:∃ o,s.heap.get? p=some o∧o.ExactDict:=by
        rcases hk with ⟨kvs,hk⟩ | ⟨kvs,hk⟩
        · obtain ⟨_,_,_,_,o,_,_,e,ex,_⟩:=I.hok p _ hk
          exact ⟨o,e,ex⟩
        · obtain ⟨_,_,_,_,o,_,_,e,ex,_⟩:=I.hok p _ hk
          exact ⟨o,e,ex⟩
      obtain ⟨o,e,ex⟩:=z
      refine ⟨⟨o,e,ex.1⟩,fun a e2=>?_⟩
      cases e2
      exact ⟨o,e,ex.2.1⟩
    · obtain ⟨o,_,_,_,e,ex,_⟩:=I.hok p _ hk
      refine ⟨⟨o,e,ex.1⟩,fun a e2=>?_⟩
      cases e2
      exact ⟨o,e,ex.2.1⟩
  | _=>exact False.elim ty
def tBM (K:PySem.W.Frag) (T:String) (r:V→List V→Hp→VK→Prop) (to:TE) (t:TA):TE:=fun σ H Q=>to σ H fun x H1=>tyV K T x H1∧t σ H1 fun xs H2=>r x xs H2 Q
variable {o e:Expr} {es:List Expr} {to:TE} {t:TA} {name:Str} {apos cpos:Pos} {T id:String} {r:V→List V→Hp→VK→Prop}
theorem pe_bm (pa:PlainAttrs T) (slot:Slot T name id) (hty:typeOf (.builtin id)=pure (.type "method_descriptor")) (hm:MtR X id r) (ho:PE X o to) (ha:PA X (e :: es) t)
    (hbase:attributeBase o name X.env (eval o X.env)=eval o X.env:=by rfl)
    (hfew:((backTo cpos (starEach (e :: es) X.env)).all (fun x=>!x.1) && (backToKw cpos (keywordEach [] X.env)).all (fun x=>x.1.isSome)
      && decide ((e :: es).length+([]:List Keyword).length+(if ([]:List Keyword).isEmpty then 0 else 1) < 30))=true:=by rfl)
    (hline:(apos.endLine == cpos.line)=true:=by rfl) (hs:starEach (e :: es) X.env=(false,eval e X.env) :: starEach es X.env:=by rfl) (hplain:(backTo cpos (starEach es X.env)).any (·.1)=false:=by rfl) :
    PE X (.Call (.Attribute o name apos) (e :: es) [] cpos) (tBM X.K T r to t):=by
  intro pins s σ H Q I h
  refine wpAny_Call_method_late hbase hfew hline rfl (thn (ho pins s σ H _ I h) fun v s1 ⟨x,H1,I1,r1,ty,q1⟩=>?_)
  obtain ⟨h1,h2⟩:=tyV_is I1 r1 ty
  refine ⟨T,id,pa,slot,hty,h1,h2,?_⟩
  have hA:=ha cpos pins s1 σ H1 _ I1 q1
  rw [hs] at hA ⊢
  refine Calls.callWith_builtin (by show (false || (backTo cpos (starEach es X.env)).any (·.1))=false;rw [hplain] <;> rfl) (Calls.evalArgs_plain ?_)
  exact thn hA fun us s2 ⟨vs,H2,I2,r2,q2⟩=>hm pins s2 σ H2 x vs v us Q I2 r1 r2 q2
/- xs.append(e),list.index on a module's tuple .. are MtR facts of 06m -/
end
end L2
namespace L2
open PySem PySem.Spec PyProof.Rows
def MtM (X:Cx) (id:String) (r:V→List V→Hp→VK→Prop):Prop:=
  ∀ (pins:List (Addr × Obj)) (s:Shared) (σ:St) (H:Hp) (x:V) (xs:List V) (v:Value) (us:List Value) (Q:VK),Inv X pins σ H s→RelV x v→Vals xs us→r x xs H Q →
    wpAny (model X.prog X.w) X.A (call (.builtin id) (v :: us)) (EP X pins σ Q) X.xe s
theorem Vals.one:∀ {x:V} {us:List Value},Vals [x] us→∃ u,us=[u]∧RelV x u
  | _,_,.cons r .nil=>⟨_,rfl,r⟩
theorem Vals.two:∀ {x y:V} {us:List Value},Vals [x,y] us→∃ u v,us=[u,v]∧RelV x u∧RelV y v
  | _,_,_,.cons r (.cons q .nil)=>⟨_,_,rfl,r,q⟩
theorem Vals.zero:∀ {us:List Value},Vals [] us→us=[]
  | _,.nil=>rfl
theorem Vals.dropLast {xs:List V} {us:List Value} (h:Vals xs us):Vals xs.dropLast us.dropLast:=by
  induction h with
  | nil=>exact .nil
  | cons r t ih=>
    cases t with
    | nil=>exact .nil
    | cons q t'=>exact .cons r ih
theorem Vals.eraseIdx:∀ {xs:List V} {us:List Value} (i:Nat),Vals xs us→Vals (xs.eraseIdx i) (us.eraseIdx i)
  | _,_,_,.nil=>.nil
  | _,_,0,.cons _ t=>t
  | _,_,i+1,.cons r t=>.cons r (Vals.eraseIdx i t)
theorem Vals.reverse {xs:List V} {us:List Value} (h:Vals xs us):Vals xs.reverse us.reverse:=by
  induction h with
  | nil=>exact .nil
  | cons r t ih=>rw [List.reverse_cons,List.reverse_cons];exact Vals.append ih (.cons r .nil)
section
variable {X:Cx} {pins:List (Addr × Obj)} {σ:St} {H:Hp} {s:Shared} {l b:Addr} {xs ys zs:List V}
theorem Inv.lset {its its':List Value} {n:Nat} {f:Array Value→Array Value} {t':Nat} (I:Inv X pins σ H s) (hH:H l=some (.lst xs))
    (e:s.heap.get? l=some { cls:=.type "list", data:=.seq its.toArray n }) (hf:f its.toArray=its'.toArray) (hv:Vals ys its') (hz:ys.length≤sizeLine) :
    Inv X pins σ (upd H l (.lst ys)) { s with heap:=s.heap.update l (Obj.mapSeq f),toks:=t' }:=by
  have q:=PySem.IsL.update e f
  rw [hf] at q
  refine I.write (x:=l) (e:=l) (by rw [hH];exact trivial) (.inl rfl) (fun b' u hb hu=>(Heap.get?_update_other s.heap (Obj.mapSeq f) (Ne.symm hb)).trans hu) ⟨_,q⟩ ?_
  exact ⟨hz,its',_,hv,q⟩
theorem Inv.lnew {its:List Value} {t':Nat} (I:Inv X pins σ H s) (hv:Vals ys its) (hz:ys.length≤sizeLine) :
    Inv X pins σ (upd H s.heap.objs.size (.lst ys)) { s with heap:=s.heap.push { cls:=.type "list", data:=.seq its.toArray },toks:=t' }:=
  I.laid (fun _ _ q=>Heap.get?_push_of_some _ q) (Nat.le_refl _) ⟨hz,its,0,hv,Heap.get?_push_size _ rfl⟩
theorem Inv.fresh (I:Inv X pins σ H s):H s.heap.objs.size=none:=I.hok.fresh (Nat.le_refl _)
theorem Inv.lstM (I:Inv X pins σ H s) (hH:H l=some (.lst xs)):xs.length≤sizeLine∧∃ (its:List Value) (n:Nat),Vals xs its∧xs.length=its.length∧s.heap.get? l=some { cls:=.type "list", data:=.seq its.toArray n }:=by
  obtain ⟨z,its,n,r,e⟩:=I.hok l _ hH
  exact ⟨z,its,n,r,r.length,e⟩
theorem notLongL {n:Nat} (h:n≤sizeLine):Builtin.List.listTooLong n=false:=by
  unfold Builtin.List.listTooLong
  exact decide_eq_false (by omega)
end
section
variable {X:Cx}
def rAppend:V→List V→Hp→VK→Prop:=fun x vs H Q=>∃ l xs y,x=.ref l∧vs=[y]∧H l=some (.lst xs)∧xs.length < sizeLine∧Q .non (upd H l (.lst (xs++[y])))
theorem mt_append:MtM X "list.append" rAppend:=by
  intro pins s σ H x vs v us Q I rx rv h
  obtain ⟨l,xs,y,rfl,rfl,hH,hz,q⟩:=h
  cases rx
  obtain ⟨u,rfl,ru⟩:=rv.one
  obtain ⟨z,its,n,r,hl,e⟩:=I.lstM hH
  refine call_meets F.slot_list_append ⟨_,e,rfl⟩ F.entry_list_append (F.args_list_append_2 _ _) (PySem.list_append l its.toArray n u (by rw [List.size_toArray];omega)) ⟨e,?_⟩
  refine ⟨.non,_,I.lset (its':=its++[u]) hH e (by simp) (r.append (.cons ru .nil)) ?_,rfl,q⟩
  rw [List.length_append,List.length_singleton]
  omega
def rExtend:V→List V→Hp→VK→Prop:=fun x vs H Q=>∃ l b xs zs,x=.ref l∧vs=[.ref b]∧H l=some (.lst xs)∧H b=some (.lst zs)∧xs.length+zs.length≤sizeLine∧Q .non (upd H l (.lst (xs++zs)))
theorem mt_extend:MtM X "list.extend" rExtend:=by
  intro pins s σ H x vs v us Q I rx rv h
  obtain ⟨l,b,xs,zs,rfl,rfl,hH,hB,hz,q⟩:=h
  cases rx
  obtain ⟨u,rfl,ru⟩:=rv.one
  cases ru
  obtain ⟨z,its,n,r,hl,e⟩:=I.lstM hH
  obtain ⟨z2,its2,n2,r2,hl2,e2⟩:=I.lstM hB
  have hsz:its.toArray.size+its2.toArray.size≤sizeLine:=by rw [List.size_toArray,List.size_toArray];omega
  have hlong:¬ (!its.toArray.isEmpty && Builtin.List.listTooLong (its.toArray.size+its2.toArray.size))=true:=by
    rw [notLongL hsz,Bool.and_false]
    exact Bool.false_ne_true
  refine call_meets F.slot_list_extend ⟨_,e,rfl⟩ F.entry_list_extend (F.args_list_extend_2 _ _)
    (AutoSeq1.list_extend_list_list_0 l its.toArray n b its2.toArray n2 hlong (by rw [List.size_toArray];omega) (by omega)) ⟨e,e2,?_⟩
  refine ⟨.non,_,I.lset (its':=its++its2) hH e (by simp) (r.append r2) ?_,rfl,q⟩
  rw [List.length_append]
  omega
def rCat:R2:=fun x y H Q=>∃ l b xs zs,x=.ref l∧y=.ref b∧H l=some (.lst xs)∧H b=some (.lst zs)∧xs.length+zs.length≤sizeLine∧∀ p,H p=none→Q (.ref p) (upd H p (.lst (xs++zs)))
theorem op_cat:OpR X (binaryOp .Add) rCat:=by
  intro pins s σ H x y v u Q I rx ry h
  obtain ⟨l,b,xs,zs,rfl,rfl,hH,hB,hz,q⟩:=h
  cases rx
  cases ry
  obtain ⟨z,its,n,r,hl,e⟩:=I.lstM hH
  obtain ⟨z2,its2,n2,r2,hl2,e2⟩:=I.lstM hB
  refine PySem.P.add_list e e2 ?_ (by rw [List.size_toArray,List.size_toArray];omega)
  have ea:its.toArray++its2.toArray=(its++its2).toArray:=by simp
  rw [ea]
  exact ⟨.ref _,_,I.lnew (t':=s.toks) (r.append r2) (by rw [List.length_append];omega),rfl,q _ I.fresh⟩
end
section
variable {prog:Program} {w:World} {A:Around} {E:Value→Shared→Prop} {s:Shared}
end
section
variable {X:Cx}
end
end L2
namespace Att
open PySem PySem.W PySem.Calls PyProof.Rows
theorem ints_of_wellAll {P:Params} {h:Heap}:∀ (ns:List Int) (vs:List Value),WellAll P h vs (ns.map WData.int)→IntsAre vs ns:=by
  intro ns
  induction ns with
  | nil=>
    intro vs w
    rw [List.map_nil] at w
    cases w
    exact .nil
  | cons n ns ih=>
    intro vs w
    rw [List.map_cons] at w
    cases w with
    | cons a b=>
      cases a
      exact .cons _ _ (ih _ b)
theorem script_of {l:OpenLaw} {n:Nat} (hn:l.most=some n) {P:Params} {h:Heap} {args:List WData} {vals:List Value}
    (hpre:l.row.toRowW.claim.pre args=true) (hwl:WellAll P h vals args) :
    ∃ a vs ns,vals=[Value.ref a]∧args=[WData.list (ns.map WData.int)]∧h.get? a=some { cls:=.type "list", data:=.seq vs.toArray }∧IntsAre vs ns∧ns.length≤n:=by
  have hsh:WShape.hasAll [] args [.list .int]=true:=(pre_splitW hpre).1
  have hc:l.pre.holds [] { args:=args }=true:=(pre_splitW hpre).2
  obtain ⟨d,r,rfl,h1,h2⟩:=hasAllW_cons hsh
  obtain rfl:=hasAllW_nil h2
  obtain ⟨xs,rfl,h3⟩:=hasW_list h1
  obtain ⟨ns,rfl⟩:=items_int h3
  have hlen:ns.length≤n:=by
    unfold OpenLaw.pre at hc
    have h4:(WTm.not (.lt (.lit (.int (n:Int))) (.len (.arg 0)))).holds [] { args:=[.list (ns.map .int)] }=true:=by
      have h4:=(holds_andW hc).1
      rw [hn] at h4
      exact h4
    have h5:=condW_of h4 (w_not (w_lt w_lit (w_len_list (w_arg rfl))))
    rw [List.length_map] at h5
    refine Nat.le_of_not_lt fun q=>?_
    have q':(n:Int) < ((ns.length:Nat):Int):=by omega
    first
      | (rw [decide_eq_true q'] at h5;exact absurd h5 (by decide))
      | (simp at h5;omega)
  cases hwl with
  | cons w1 w2=>
    cases w2
    cases w1 with
    | list ho hall=>exact ⟨_,_,ns,rfl,rfl,ho,ints_of_wellAll ns _ hall,hlen⟩
theorem post_true (l:OpenLaw) (args:List WData):l.row.toRowW.claim.post args (.bool true) args=true:=
  postW_of (r:=l.row.toRowW) (X:=(true == true))
    (show WShape.has [] (.bool true) .bool=true by first | rfl | decide | simp [WShape.has,WShape.arms,WShape.armsAll])
    (show (WTm.eq .res (.lit (.bool true))).value [] { args:=args,res:=some (.bool true),after:=args }=some (.bool (true == true)) from w_eq_bool (w_res rfl) w_lit) rfl
theorem attach_call {l:OpenLaw} {n:Nat} {q:Program} {loose:List Str} {XP:(Str→Option Value)→Heap→Prop} {YP:World→Heap→Prop} {d:DefRec}
    (hn:l.most=some n) (hdf:d.params.defaults=[])
    (call:∀ (w:World) (s₀ s₁:Shared) (mg mb:Str→Option Value) (fa:Addr) (o:Obj) (pm cd doc:Value) (a:Addr) (vs:List Value) (ns:List Int),
      Ground q loose [] XP w s₀ mg mb s₁.heap→YP w s₁.heap →
      s₁.heap.get? fa=some o→o.data=.func (docDef d.name d.params d.body d.scope pm cd doc)→s₁.heap.CodeRec cd d.name→mg d.name=some (.ref fa) →
      s₁.heap.get? a=some { cls:=.type "list", data:=.seq vs.toArray }→IntsAre vs ns→ns.length≤n→s₁.gens=#[] →
      codeAny (model l.prog w) callerA (.call (.ref fa) ⟨[.ref a],[]⟩) (fun r s'=>r=.ok (.ret (.bool true))∧OldK s₁.heap s'.heap∧s'.os=s₁.os∧AllBare s'.gens) s₁) :
    WalkO q loose XP YP l.row.toRowW d [] (fun f vs=>PySem.call f vs):=by
  intro w s₀ s₁ mg mb G Y fa o pm cd doc dV kV ho hd hcd hD hmg hg args vals as hpre hlay hrd hwl hlo
  obtain rfl:dV=.none:=Dflts.none hD hdf
  obtain rfl:kV=.none:=Dflts.noKw hD
  obtain ⟨a,vs,ns,rfl,rfl,hobj,hints,hlen⟩:=script_of hn hpre hwl
  refine enter_call (codeAny_mono (call w s₀ s₁ mg mb fa o pm cd doc a vs ns G Y ho (fd_plain hd) hcd hmg hobj hints hlen hg) fun r s' hq=>?_)
  obtain ⟨rfl,h2,h3,h4⟩:=hq
  exact ⟨.inl ⟨.bool true,.bool true,[],rfl,fun _=>rfl,.bool true,post_true l _,fun _=>⟨List.Pairwise.nil,fun _ hm=>(nomatch hm)⟩⟩,h2,h3,h4⟩
section
variable {prog:Program} {w:World} {A:Around} {E:Value→Shared→Prop} {s:Shared} {K:Frag}
def ledger (h:Heap) (L d:Addr):List (Addr × Obj):=(List.range h.objs.size).filterMap fun a=>if a=L∨a=d then none else (h.get? a).map fun o=>(a,o)
end
end Att
namespace L2
open PySem PySem.Spec PyProof.Rows
theorem vals_ints:∀ {vs:List Value} {ns:List Int},IntsAre vs ns→Vals (ns.map V.int) vs
  | _,_,.nil=>.nil
  | _,_,.cons n t h=>.cons ⟨t,rfl⟩ (vals_ints h)
def Only (H:Hp):Prop:=∀ b,H b=none∨∃ o xs,H b=some (.frz o (.lst xs))
theorem law_call {P:Program} {w:World} {K:PySem.W.Frag} {mg mb:Str→Option Value} {CX:CXT} {k:Nat} {fa a:Addr} {fd:FuncData} {x:Str} {sp:Sp} {s₁:Shared} {vs:List Value} {ns:List Int}
    (KX:K.In s₁.heap) (hns:s₁.heap.Ns mainGlobals mg) (hb:s₁.heap.Ns builtinsNs mb) (hbb:∀ x:Str,x ≠ "__name__" → mb x=bootBuiltins x) (hlim:s₁.heap.NoLimit) (hg:s₁.gens=#[])
    (ha:s₁.heap.get? a=some { cls:=.type "list", data:=.seq vs.toArray }) (hi:IntsAre vs ns) (hl:ns.length≤sizeLine) (hr:Room k callerA)
    (F:∀ base:Heap,K.In base→base.Ns mainGlobals mg→FnOk P w K mg base CX k fa fd [x] sp) (hbind:∀ (s:Shared) (u:Value),BindsTo s fd ⟨[u],[]⟩ [(x,u)])
    (hsp:∀ H:Hp,Only H→SqL K H a (ns.map V.int)→sp [.ref a] H (fun v _=>v=.bl true) fun _ _ _=>False)
    (hCX:∀ H e s',CX [] H s₁ (fun _ _ _=>False) e s'→False) :
    codeAny (model P w) callerA (.call (.ref fa) ⟨[.ref a],[]⟩) (fun r s'=>r=.ok (.ret (.bool true))∧OldK s₁.heap s'.heap∧s'.os=s₁.os∧AllBare s'.gens) s₁:=by
  have rv:=vals_ints hi
  have lenV:=hi.length
  have core:∀ H:Hp,Only H→SqL K H a (ns.map V.int)→HOk P w H s₁.heap→(∀ b,H b≠none→b=a)→(H a≠none→K.lookup a=none) →
      codeAny (model P w) callerA (.call (.ref fa) ⟨[.ref a],[]⟩) (fun r s'=>r=.ok (.ret (.bool true))∧OldK s₁.heap s'.heap∧s'.os=s₁.os∧AllBare s'.gens) s₁:=by
    intro H hO hS hok hA hK
    have base_of:∀ {b:Addr} {o:Obj},s₁.heap.get? b=some o→H b=none→(hidT s₁.heap H).get? b=some o:=fun e n=>hidT_get e n
    have noA:∀ {b:Addr} {o:Obj} {es:Array DictEntry} {ep:Nat},s₁.heap.get? b=some o→o.data=.dict es ep→H b=none:=fun {b o es ep} e d=>by
      cases q:H b with
      | none=>rfl
      | some u=>
        have e':b=a:=hA b (by rw [q];simp)
        subst e'
        rw [ha] at e;cases e
        have d':Data.seq vs.toArray _=Data.dict es ep:=d
        cases d'
    have nsK:∀ {b:Addr} {m:Str→Option Value},s₁.heap.Ns b m→(hidT s₁.heap H).Ns b m:=fun {b m} ⟨o,es,ep,e,d,r⟩=>⟨o,es,ep,base_of e (noA e d),d,r⟩
    have hKb:K.In (hidT s₁.heap H):=fun b o e=>base_of (KX b o e) (by
      cases q:H b with
      | none=>rfl
      | some u=>
        have e':b=a:=hA b (by rw [q];simp)
        subst e'
        rw [hK (by rw [q];simp)] at e;cases e)
    have hM:Mod K mg (hidT s₁.heap H):=⟨hKb,nsK hns,⟨mb,nsK hb,hbb⟩,let ⟨mc,h1,h2⟩:=hlim;⟨mc,nsK h1,h2⟩⟩
    have e0:Env0 P w K mg (hidT s₁.heap H) callerA [] s₁ H:=⟨rfl,hM,fun b o e=>of_hidT e,Nat.le_of_eq (hidT_size _ _),trivial,fun b hb=>absurd (show b∈([]:List Addr) from hb) (by simp),hok,.of_eq hg⟩
    refine codeAny_mono ((F _ hKb (nsK hns)).run callerA [] s₁ H ⟨[.ref a],[]⟩ [.ref a] [.ref a] _ _ hr e0 (hbind s₁ (.ref a)) (.cons rfl .nil) (hsp H hO hS)) fun r s' h=>?_
    cases r with
    | error e=>exact (hCX H e s' h).elim
    | ok fl=>
      cases fl with
      | next=>exact False.elim h
      | brk=>exact False.elim h
      | cont=>exact False.elim h
      | ret u=>
        obtain ⟨v,H',os,bare,un,hok',r',q⟩:=h
        have q':v=.bl true:=q
        subst q'
        obtain rfl:u=Value.bool true:=r'
        refine ⟨rfl,OldK.of_keep fun b o e=>?_,os,bare⟩
        cases q:H b with
        | none=>exact un.keep b o e q (by intro z;exact absurd (show b∈([]:List Addr) from z) (by simp)) (by simp)
        | some u=>
          rcases hO b with z | ⟨ob,xs,z⟩
          · rw [q] at z;cases z
          · have z2:=un.frzs b ob _ z
            obtain ⟨e1,_⟩:=hok b _ z
            obtain ⟨e2,_⟩:=hok' b _ z2
            rw [e] at e1;cases e1
            exact e2
  cases hk:K.lookup a with
  | some o=>
    have e:=KX a o hk
    rw [ha] at e
    cases e
    refine core (fun _=>none) (fun _=>.inl rfl) (.inr ⟨_,vs.toArray,_,hk,rfl,rfl,rfl,by rw [List.size_toArray,lenV];exact hl,by simpa using rv⟩) (fun b u z=>by have z':(none:Option HO)=some u:=z;cases z') (fun b z=>absurd rfl z) fun z=>absurd rfl z
  | none=>
    refine core (fun b=>if b=a then some (.frz { cls:=.type "list", data:=.seq vs.toArray } (.lst (ns.map V.int))) else none) (fun b=>?_) (.inl (.inr ⟨{ cls:=.type "list", data:=.seq vs.toArray },if_pos rfl⟩)) (fun b u z=>?_) (fun b z=>?_) fun _=>hk
    · by_cases hb:b=a
      · exact .inr ⟨_,_,if_pos hb⟩
      · exact .inl (if_neg hb)
    · by_cases hb:b=a
      · have z':=(if_pos hb).symm.trans z
        cases z'
        subst hb
        exact ⟨ha,by rw [List.length_map];exact hl,vs,_,rv,ha⟩
      · have z':=(if_neg hb).symm.trans z
        cases z'
    · by_cases hb:b=a
      · exact hb
      · exact absurd (if_neg hb) z
end L2
namespace L2
open PySem PySem.Spec PyProof.Rows
abbrev KOf {K:PySem.W.Frag} {h:Heap} (_:K.In h):PySem.W.Frag:=K
theorem walk_of {l:PySem.W.OpenLaw} {n k:Nat} {q:Program} {loose:List Str} {XP:(Str→Option Value)→Heap→Prop} {YP:World→Heap→Prop} {d:DefRec} {K:Params→PySem.W.Frag} {CX:World→CXT} {sp:World→Sp} {x:Str}
    (hn:l.most=some n) (hn2:n≤sizeLine) (hdf:d.params.defaults=[]) (hr:Room k callerA)
    (hY:∀ (w:World) (h:Heap),YP w h→(K w.params).In h)
    (F:∀ (w:World) (mg:Str→Option Value) (fa:Addr) (h:Heap),(K w.params).In h→h.Ns mainGlobals mg→mg d.name=some (.ref fa) →
      ∃ fd:FuncData,(∀ (s:Shared) (u:Value),BindsTo s fd ⟨[u],[]⟩ [(x,u)]) ∧
        ∀ base:Heap,(K w.params).In base→base.Ns mainGlobals mg→FnOk l.prog w (K w.params) mg base (CX w) k fa fd [x] (sp w))
    (hsp:∀ (w:World) (H:Hp) (a:Addr) (ns:List Int),ns.length≤n→Only H→SqL (K w.params) H a (ns.map V.int)→sp w [.ref a] H (fun v _=>v=.bl true) fun _ _ _=>False)
    (hCX:∀ (w:World) (H:Hp) (s:Shared) (e:Value) (s':Shared),CX w [] H s (fun _ _ _=>False) e s'→False) :
    PySem.W.WalkO q loose XP YP l.row.toRowW d [] (fun f vs=>PySem.call f vs):=by
  refine Att.attach_call hn hdf fun w s₀ s₁ mg mb fa o pm cd doc a vs ns G Y ho hd hcd hmg hobj hints hlen hg=>?_
  have KX:=hY w _ Y
  obtain ⟨fd,hb,hF⟩:=F w mg fa _ KX G.T.g hmg
  exact law_call KX G.T.g G.T.b G.T.builtins G.T.nolimit hg hobj hints (Nat.le_trans hlen hn2) hr hF hb (fun H hO hS=>hsp w H a ns hlen hO hS) fun H e s'=>hCX w H s₁ e s'
theorem walk_ofK {l:PySem.W.OpenLaw} {n k:Nat} {q:Program} {loose:List Str} {XP:(Str→Option Value)→Heap→Prop} {YP:World→Heap→Prop} {d:DefRec} {K:Params→PySem.W.Frag} {CX:CXT} {sp:PySem.W.Frag→Sp} {x:Str}
    (hn:l.most=some n) (hn2:n≤sizeLine) (hdf:d.params.defaults=[]) (hr:Room k callerA)
    (hY:∀ (w:World) (h:Heap),YP w h→(K w.params).In h)
    (F:∀ (w:World) (mg:Str→Option Value) (fa:Addr) (h:Heap),(K w.params).In h→h.Ns mainGlobals mg→mg d.name=some (.ref fa) →
      ∃ fd:FuncData,(∀ (s:Shared) (u:Value),BindsTo s fd ⟨[u],[]⟩ [(x,u)]) ∧
        ∀ base:Heap,(K w.params).In base→base.Ns mainGlobals mg→FnOk l.prog w (K w.params) mg base CX k fa fd [x] (sp (K w.params)))
    (hsp:∀ (K:PySem.W.Frag) (H:Hp) (a:Addr) (ns:List Int),ns.length≤n→Only H→SqL K H a (ns.map V.int)→sp K [.ref a] H (fun v _=>v=.bl true) fun _ _ _=>False)
    (hCX:∀ (H:Hp) (s:Shared) (e:Value) (s':Shared),CX [] H s (fun _ _ _=>False) e s'→False) :
    PySem.W.WalkO q loose XP YP l.row.toRowW d [] (fun f vs=>PySem.call f vs):=
  walk_of (K:=K) (CX:=fun _=>CX) (sp:=fun w=>sp (K w.params)) hn hn2 hdf hr hY F (fun w H a ns h1 h2 h3=>hsp (K w.params) H a ns h1 h2 h3) fun _ H s e s'=>hCX H s e s'
end L2
namespace L2
open PySem PySem.Spec PyProof.Rows
def defArgs (s:Stmt):Arguments:=match s with
  | .FunctionDef _ a _ _ _ _ _ _ _ _=>a
  | _=>{ posonlyargs:=[],args:=[],vararg:=none,kwonlyargs:=[],kw_defaults:=[],kwarg:=none,defaults:=[] }
def defBody (s:Stmt):List Stmt:=match s with
  | .FunctionDef _ _ b _ _ _ _ _ _ _=>b
  | _=>[]
def defScope (s:Stmt):Scope:=match s with
  | .FunctionDef _ _ _ _ _ _ sc _ _ _=>sc
  | _=>{ kind:=.function,names:=[],isGenerator:=false,isCoroutine:=false }
abbrev CX0:CXT:=fun _ _ _ _ _ _=>False
abbrev E0:XK:=fun _ _ _=>False
theorem pass0 {X:Cx}:Passes CX0 X E0:=fun _ _ _ _ _ _ _ h=>h.elim
structure Fun (K:PySem.W.Frag) (x qual:Str) (st:Stmt) (f:Addr) (fd:FuncData):Prop where
  ex:∃ (oc:Value) (od:Option Addr) (kV doc pm:Value) (an:Option Addr) (cdv ct:Value) (osl:Array (Option Value)),
    fd=PySem.W.fnOf x qual (defArgs st) (defBody st) (defScope st) .none kV doc pm an cdv ct∧K.lookup f=some ⟨oc,od,.func fd,osl⟩∧PySem.W.codeIn K cdv qual=true
  kp:PySem.W.keepIn K (.ref f)=true
section
variable {P:Program} {w:World} {K:PySem.W.Frag} {mg:Str→Option Value} {base:Heap}
theorem Fun.ok {x qual:Str} {st:Stmt} {f:Addr} {fd:FuncData} {N ps:List Str} {k:Nat} {sp:Sp} (F:Fun K x qual st f fd) (S:FnScope N ps (defScope st)) (len:∀ vs H Q E,sp vs H Q E→vs.length=ps.length)
    (hbody:∀ (cdv:Value) (A:Around) (outer:List Env) (s:Shared) (H:Hp) (vs:List V) (Q:VK) (E:XK),Room k (A.deeper (envOfC qual (defScope st) s.heap.objs.size f cdv))→sp vs H Q E →
      ∃ t,PSs (cxOf CX0 P w K mg base N qual (defScope st) f cdv A outer s H E).nox (defBody st) t∧t { nx:=fun _ H'=>Q .non H',rt:=Q } (start N vs) H):FnOk P w K mg base CX0 (k+1) f fd ps sp:=by
  obtain ⟨oc,od,kV,doc,pm,an,cdv,ct,osl,rfl,lk,hcd⟩:=F.ex
  refine fn_of lk hcd S len fun A outer s H vs Q E hr hsp=>?_
  obtain ⟨t,h,q⟩:=hbody cdv A outer s H vs Q E hr hsp
  exact ⟨t,h.nox,q⟩
theorem Fun.binds {x qual:Str} {st:Stmt} {f:Addr} {fd:FuncData} {ps:List Str} (F:Fun K x qual st f fd)
    (h:∀ (kV doc pm:Value) (an:Option Addr) (cdv ct:Value) (us:List Value),us.length=ps.length→bindArgs (PySem.W.fnOf x qual (defArgs st) (defBody st) (defScope st) .none kV doc pm an cdv ct) ⟨us,[]⟩=pure (ps.zip us)):Binds K fd ps []:=by
  obtain ⟨oc,od,kV,doc,pm,an,cdv,ct,osl,rfl,lk,hcd⟩:=F.ex
  exact .all (h kV doc pm an cdv ct)
theorem fun_mk {x qual:Str} {st:Stmt} {f:Addr} {oc:Value} {od an:Option Addr} {osl:Array (Option Value)} {kV doc pm cdv ct:Value} (l:K.lookup f=some ⟨oc,od,.func (PySem.W.fnOf x qual (defArgs st) (defBody st) (defScope st) .none kV doc pm an cdv ct),osl⟩)
    (c:PySem.W.codeIn K cdv qual=true) (k:PySem.W.keepIn K (.ref f)=true):Fun K x qual st f (PySem.W.fnOf x qual (defArgs st) (defBody st) (defScope st) .none kV doc pm an cdv ct):=⟨⟨oc,od,kV,doc,pm,an,cdv,ct,osl,rfl,l,c⟩,k⟩
end
theorem small1000 {n:Nat} (h:n≤1000):n < sizeLine:=Nat.lt_of_le_of_lt h (by decide)
section
variable {X:Cx}
theorem pv (i:Nat) {x:Str} {pos:Pos} (hN:X.N[i]?=some x:=by rfl) (hv:Vis X.env.scope x:=by first | exact Or.inl rfl | exact Or.inr (Or.inl rfl) | exact Or.inr (Or.inr rfl)) (hd:(x == ("__debug__" : Str))=false:=by decide)
    (hcd:(x == ("__classdict__" : Str))=false:=by decide):PE X (.Name x pos) (tVar i):=pe_var hN hv hd hcd
end
theorem iteF {A B:Prop} (h:B):if false=true then A else B:=by
  rw [if_neg Bool.false_ne_true]
  exact h
theorem iteT {A B:Prop} (h:A):if true=true then A else B:=by
  rw [if_pos rfl]
  exact h
theorem ite2 {c A B:Prop} [Decidable c] (h1:c→A) (h2:¬ c→B):if c then A else B:=by
  by_cases h:c
  · rw [if_pos h]
    exact h1 h
  · rw [if_neg h]
    exact h2 h
def Same (H H':Hp):Prop:=∀ b o,H b=some o→H' b=some o
theorem Same.refl (H:Hp):Same H H:=fun _ _ h=>h
theorem Same.trans {H H1 H2:Hp} (a:Same H H1) (b:Same H1 H2):Same H H2:=fun c o h=>b c o (a c o h)
theorem Same.free {H H':Hp} (e:Same H H') {l:Addr} (h:H' l=Option.none):H l=Option.none:=by
  cases q:H l with
  | none=>rfl
  | some o=>
    rw [e l o q] at h
    cases h
theorem Same.seq {K:PySem.W.Frag} {H H':Hp} {a:Addr} {xs:List V} (e:Same H H') (h:SqL K H a xs):SqL K H' a xs:=by
  rcases h with (h | ⟨o,h⟩) | h
  · exact .inl (.inl (e _ _ h))
  · exact .inl (.inr ⟨o,e _ _ h⟩)
  · exact .inr h
end L2
set_option maxHeartbeats 16000000
namespace L2
open PySem PySem.Spec PyProof.Rows
theorem lookup_mem {α:Type}:∀ {cl:List (Str × α)} {x:Str} {c:α},cl.lookup x=some c→(x,c)∈cl
  | [],_,_,h=>by simp at h
  | (y,d) :: r,x,c,h=>by
    rw [List.lookup_cons] at h
    cases e:x == y with
    | true=>
      rw [e] at h
      have e':x=y:=eq_of_beq e
      cases h
      rw [e'];exact List.mem_cons_self
    | false=>
      rw [e] at h
      exact List.mem_cons_of_mem _ (lookup_mem h)
theorem lookup_of_mem {α:Type}:∀ {cl:List (Str × α)} {x:Str} {c:α},(x,c)∈cl→∃ c',cl.lookup x=some c'
  | [],_,_,h=>nomatch h
  | (y,d) :: r,x,c,h=>by
    rw [List.lookup_cons]
    cases e:x == y with
    | true=>exact ⟨d,rfl⟩
    | false=>
      rcases List.mem_cons.mp h with h | h
      · cases h
        simp at e
      · exact lookup_of_mem h
theorem closure_go {env:Env} {f:(Str × NameKind)→List (Str × Addr)→Sem (ForInStep (List (Str × Addr)))}
    (h1:∀ x k cs,k≠NameKind.free→f (x,k) cs=pure (.yield cs)) (h2:∀ x cs c,env.cells.lookup x=some c→f (x,NameKind.free) cs=pure (.yield ((x,c) :: cs))) :
    ∀ (names:List (Str × NameKind)) (acc:List (Str × Addr)),(∀ x,(x,NameKind.free)∈names→∃ c,env.cells.lookup x=some c) →
      ∃ cl,forIn names acc f=pure cl∧(∀ p∈cl,p∈acc∨env.cells.lookup p.1=some p.2)∧(∀ p∈acc,p∈cl)∧∀ x,(x,NameKind.free)∈names→∃ c,(x,c)∈cl
  | [],acc,_=>⟨acc,rfl,fun _ h=>.inl h,fun _ h=>h,fun _ h=>nomatch h⟩
  | (x,k) :: r,acc,h=>by
    by_cases hk:k=NameKind.free
    · subst hk
      obtain ⟨c,hc⟩:=h x List.mem_cons_self
      obtain ⟨cl,e,a,b,d⟩:=closure_go h1 h2 r ((x,c) :: acc) fun y hy=>h y (List.mem_cons_of_mem _ hy)
      refine ⟨cl,?_,fun p hp=>?_,fun p hp=>b p (List.mem_cons_of_mem _ hp),fun y hy=>?_⟩
      · rw [List.forIn_cons,h2 x acc c hc,pure_bind];exact e
      · rcases a p hp with q | q
        · rcases List.mem_cons.mp q with q | q
          · subst q;exact .inr hc
          · exact .inl q
        · exact .inr q
      · rcases List.mem_cons.mp hy with q | q
        · cases q;exact ⟨c,b _ List.mem_cons_self⟩
        · exact d y q
    · obtain ⟨cl,e,a,b,d⟩:=closure_go h1 h2 r acc fun y hy=>h y (List.mem_cons_of_mem _ hy)
      refine ⟨cl,?_,a,b,fun y hy=>?_⟩
      · rw [List.forIn_cons,h1 x k acc hk,pure_bind];exact e
      · rcases List.mem_cons.mp hy with q | q
        · cases q;exact absurd rfl hk
        · exact d y q
theorem closure_ok {scope:Scope} {env:Env} (h:∀ x,(x,NameKind.free)∈scope.names→∃ c,env.cells.lookup x=some c) :
    ∃ cl,closureFor scope env=pure cl∧(∀ x c,cl.lookup x=some c→env.cells.lookup x=some c)∧∀ x,(x,NameKind.free)∈scope.names→∃ c,cl.lookup x=some c:=by
  have go:=closure_go (env:=env) (f:=fun x cs=>match x with | (name,kind)=>if (kind == NameKind.free)=true then do let a ← cellOf env name;pure (.yield ((name,a) :: cs)) else pure (.yield cs))
    (fun x k cs hk=>by
      have:(k == NameKind.free)=false:=by simpa using hk
      simp only [this,Bool.false_eq_true,if_false])
    (fun x cs c hc=>by
      simp only [beq_self_eq_true,if_true]
      unfold cellOf
      rw [hc,pure_bind])
    scope.names [] h
  obtain ⟨cl,e,a,_,d⟩:=go
  refine ⟨cl,?_,fun x c hx=>?_,fun x hx=>?_⟩
  · unfold closureFor
    simp only [bind_pure]
    exact e
  · rcases a _ (lookup_mem hx) with q | q
    · exact nomatch q
    · exact q
  · obtain ⟨c,hc⟩:=d x hx
    exact lookup_of_mem hc
theorem relabel_lookup {env:Env} {x:Str} {k:NameKind}:∀ {names:List (Str × NameKind)},
    (names.map fun (n,k)=>if (k == NameKind.free && env.scope.kind == .function && env.kindOf n == some .cell) then (n,NameKind.cell) else (n,k)).lookup x=some k →
      names.lookup x=some k∨(k=.cell∧names.lookup x=some .free)
  | [],h=>by simp at h
  | (n,j) :: r,h=>by
    have ih:=@relabel_lookup env x k r
    rw [List.lookup_cons]
    change List.lookup x ((if (j == NameKind.free && env.scope.kind == .function && env.kindOf n == some .cell)=true then (n,NameKind.cell) else (n,j)) :: _)=_ at h
    by_cases hc:(j == NameKind.free && env.scope.kind == .function && env.kindOf n == some .cell)=true
    · rw [if_pos hc,List.lookup_cons] at h
      have hj:j=NameKind.free:=by
        simp only [Bool.and_eq_true] at hc
        exact eq_of_beq hc.1.1
      cases hx:x == n with
      | true=>rw [hx] at h;cases h;exact .inr ⟨rfl,by rw [hj]⟩
      | false=>rw [hx] at h;exact ih h
    · rw [if_neg hc,List.lookup_cons] at h
      cases hx:x == n with
      | true=>rw [hx] at h;exact .inl h
      | false=>rw [hx] at h;exact ih h
def cxComp (X:Cx) (scope:Scope) (NL:List Str) (ix:List Nat) (cl:List (Str × Addr)) (C:Addr) (s₃:Shared) (H₃:Hp) (fp:List Addr) (pins:List (Addr × Obj)):Cx where
  prog:=X.prog
  w:=X.w
  K:=X.K
  mg:=X.mg
  base:=X.base
  A:=X.A
  N:=NL++ix.map fun j=>X.N.getD j ""
  s₀:=s₃
  H₀:=H₃
  env:=compEnvC scope cl C X.env
  outer:=X.stack
  stack:=X.stack
  ex:=fp
  fn:=fun _=>false
  calm:=X.calm
  pn:=X.pn++pins
  xe:=fun _ _=>False
def comp0 (NL:List Str) (ix:List Nat) (σ:St):St:=NL.map (fun _=>none)++ix.map fun j=>σ.getD j none
def PIfs (X:Cx) (ifs:List Expr) (t:TT):Prop:=
  ∀ (pins:List (Addr × Obj)) (s:Shared) (σ:St) (H:Hp) (Q:Bool→Hp→Prop),Inv X pins σ H s→t σ H Q →
    wpAny (model X.prog X.w) X.A (forIn ifs true fun c r=>if r=true then do let ok ← isTrue c X.env (eval c X.env);pure (ForInStep.yield ok) else pure (ForInStep.yield r)) (TP X pins σ Q) X.xe s
def tYes:TT:=fun _ H Q=>Q true H
theorem pifs_nil {X:Cx}:PIfs X [] tYes:=fun _ _ _ H _ I h=>wpAny_tests_nil ⟨H,I,h⟩
theorem pifs_one {X:Cx} {c:Expr} {t:TT} (h:PT X c t):PIfs X [c] t:=fun pins s σ H Q I q=>wpAny_tests_one (h pins s σ H Q I q)
def tComp (NL:List Str) (ix:List Nat) (wi:TI) (g:TG) (tt:TT) (te:TE):TE:=fun σ H Q=>
  wi σ H fun J H1=>∀ acc,H1 acc=none→∃ W:Nat→Nat→List V→Hp→Prop,(∃ m,W 0 m [] (upd H1 acc (.lst []))) ∧
    ∀ i m ys H2,W i m ys H2→H2 acc=some (.lst ys)∧ys.length < sizeLine ∧
      ((J.stop i H2∧Q (.ref acc) H2)∨(J.go i H2∧∃ N:List V→Hp→Prop,(∀ ys' H',N ys' H'→∃ m',m' < m∧W (i+1) m' ys' H') ∧
        ∀ x H3,J.yld i H2 x H3→g x (comp0 NL ix σ) H3 fun σ' H4=>σ'.drop NL.length=ix.map (fun j=>σ.getD j none)∧tt σ' H4 fun b H5=>
          if b=true then te σ' H5 fun v H6=>H6 acc=some (.lst ys)∧N (ys++[v]) (upd H6 acc (.lst (ys++[v]))) else N ys H5))
section
variable {X:Cx} {pins:List (Addr × Obj)} {σ:St} {H:Hp} {s:Shared}
structure CompScope (X:Cx) (scope:Scope) (NL:List Str) (ix:List Nat):Prop where
  kind:scope.kind=.function
  cell:∀ y∈scope.names,y.2≠.cell
  names:∀ y∈scope.names,y.2=.local→scope.names.lookup y.1=some .local
  free:∀ y∈scope.names,y.2=.free→X.env.kindOf y.1=some .cell∨X.env.kindOf y.1=some .free
  cap:∀ j∈ix,∃ x,X.N[j]?=some x∧scope.names.lookup x=some .free
theorem comp_inv {scope:Scope} {NL:List Str} {ix:List Nat} {cl:List (Str × Addr)} {fp:List Addr} {tn:Nat→Heap→Prop} {s₃:Shared} {h₁:Heap} {m:Str→Option Value} {tk:Nat}
    (S:CompScope X scope NL ix) (I:Inv X pins σ H s₃) (c1:∀ x c,cl.lookup x=some c→X.env.cells.lookup x=some c) (c2:∀ x,(x,NameKind.free)∈scope.names→∃ c,cl.lookup x=some c)
    (hf:∀ b∈fp,FpOk X pins H b) (ho:∀ b∈fp,∃ o,s₃.heap.get? b=some o) (hn:h₁.Ns s₃.heap.objs.size m) (old:∀ b o,s₃.heap.get? b=some o→h₁.get? b=some o) :
    Inv (cxComp X scope NL ix cl s₃.heap.objs.size s₃ H fp pins) [] (comp0 NL ix σ) H { s₃ with heap:=h₁,toks:=tk }:=by
  have e0:=I.env0
  have lt:∀ b o,s₃.heap.get? b=some o→b≠s₃.heap.objs.size:=fun b o e=>Nat.ne_of_lt (Heap.lt_size e)
  have nst:∀ b,b≠X.env.locals→b ∉ X.fs→b ∉ frs X.stack:=fun b h1 h2 h3=>(List.mem_cons.mp (I.stkSub b h3)).elim h1 h2
  have ok:(cxComp X scope NL ix cl s₃.heap.objs.size s₃ H fp pins).Ok:=
    { mod:=I.ok.mod
      kind:=S.kind
      glob:=I.ok.glob
      blt:=I.ok.blt
      above:=Nat.le_refl _
      inj:=fun x y c h1 h2=>I.ok.inj x y c (c1 x c h1) (c1 y c h2)
      has:=fun x hx=>by
        have hfree:scope.names.lookup x=some .free:=by
          rcases hx with hx | hx
          · rcases relabel_lookup hx with q | ⟨_,q⟩
            · exact absurd rfl (S.cell _ (lookup_mem q))
            · exact q
          · rcases relabel_lookup hx with q | ⟨z,_⟩
            · exact q
            · cases z
        exact c2 x (lookup_mem hfree)
      cab:=fun _ _ z=>nomatch z
      hd:=I.ok.hd
      frames:=I.ok.frames
      stk:=.inl rfl
      exf:=fun b hb=>⟨let ⟨o,e⟩:=ho b hb;lt b o e,fun x c hx=>(hf b hb).2.2.2.2.1 x c (c1 x c hx)⟩
      bs:=I.bs
      bsz:=e0.bsz
      noex:=fun b o e hb=>by
        rcases (hf b hb).2.2.2.1 with z | z
        · exact I.ok.noex b o e z
        · exact absurd (Nat.lt_of_lt_of_le (Heap.lt_size e) (Nat.le_trans I.ok.bsz z)) (Nat.lt_irrefl _)
      exfs:=fun b hb=>nst b (hf b hb).2.1 (hf b hb).2.2.1
      funs:=e0.funs
      frf:=e0.frf }
  refine ⟨ok,rfl,I.bare,Un.kept old,⟨m,hn,fun i x v e1 e2 e3=>?_⟩,fun x c e=>?_,I.hok.fresh (Nat.le_refl _),fun x c e=>I.freeC x c (c1 x c e),fun p hp=>?_,I.hok.kept old,?_⟩
  · have hl:NL.length≤i:=by
      rcases Nat.lt_or_ge i NL.length with z | z
      · exfalso
        unfold comp0 at e2
        rw [List.getElem?_append_left (by simpa using z),List.getElem?_map] at e2
        cases q:NL[i]? with
        | none=>rw [q] at e2;cases e2
        | some y=>rw [q] at e2;cases e2
      · exact z
    unfold comp0 at e2
    rw [List.getElem?_append_right (by simpa using hl),List.length_map,List.getElem?_map] at e2
    change (NL++ix.map fun j=>X.N.getD j "")[i]?=some x at e1
    rw [List.getElem?_append_right hl,List.getElem?_map] at e1
    cases q:ix[i - NL.length]? with
    | none=>rw [q] at e1;cases e1
    | some j=>
      rw [q] at e1 e2
      have e1':X.N.getD j "" = x:=Option.some.inj e1
      have e2':σ.getD j none=some v:=Option.some.inj e2
      obtain ⟨x',hx',hfr⟩:=S.cap j (List.mem_of_getElem? q)
      have exx:x'=x:=by
        rw [← e1',List.getD_eq_getElem?_getD,hx'];rfl
      subst exx
      have hσ:σ[j]?=some (some v):=by
        rw [List.getD_eq_getElem?_getD] at e2'
        cases z:σ[j]? with
        | none=>rw [z] at e2';cases e2'
        | some o=>rw [z] at e2';exact congrArg some e2'
      have kd:=S.free _ (lookup_mem hfr) rfl
      have vis:Vis X.env.scope x':=by
        rcases kd with z | z
        · exact .inr (.inl z)
        · exact .inr (.inr z)
      obtain ⟨m',hn',hl'⟩:=I.loc
      obtain ⟨u,r,l⟩:=hl' j x' v hx' hσ vis
      refine ⟨u,r,.inr ?_⟩
      have hk':(compEnvC scope cl s₃.heap.objs.size X.env).kindOf x'=some .cell∨(compEnvC scope cl s₃.heap.objs.size X.env).kindOf x'=some .free:=by
        rcases e3 with z | z | z
        · rcases relabel_lookup z with w | ⟨w,_⟩
          · rw [hfr] at w;cases w
          · cases w
        · exact .inl z
        · exact .inr z
      refine ⟨hk',?_⟩
      obtain ⟨c,hc⟩:=c2 x' (lookup_mem hfr)
      rcases l with ⟨k,_⟩ | ⟨k,c',ec,o,ho',hd⟩
      · rcases kd with z | z
        · rw [k] at z;cases z
        · rw [k] at z;cases z
      · have:c'=c:=by
          have:=c1 x' c hc
          rw [ec] at this
          exact Option.some.inj this
        subst this
        exact ⟨c',hc,o,old _ _ ho',hd⟩
  · obtain ⟨v,o,ho',hd⟩:=I.cell x c (c1 x c e)
    exact ⟨v,o,old _ _ ho',hd⟩
  · have hp':p∈X.pn++pins:=by
      rcases List.mem_append.mp hp with z | z
      · exact z
      · exact nomatch z
    obtain ⟨e,n,ne,nf,d⟩:=I.pin p hp'
    exact ⟨old _ _ e,n,lt _ _ e,nst _ ne nf,d⟩
  · show (NL.map (fun _=>(none:Option V))++ix.map fun j=>σ.getD j none).length=(NL++ix.map fun j=>X.N.getD j "").length
    simp
theorem comp_run {scope:Scope} {NL:List Str} {ix:List Nat} {elt tg iter:Expr} {ifs:List Expr} {pos:Pos} {g:TG} {tt:TT} {te:TE} {cl:List (Str × Addr)} {fp:List Addr} {it:Addr} {tn:Nat→Heap→Prop} {J:It} {Q:VK}
    {E:Value→Shared→Prop} {RR:Value→Addr→Result→Shared→Prop}
    (hc:X.calm=true) (S:CompScope X scope NL ix) (c1:∀ x c,cl.lookup x=some c→X.env.cells.lookup x=some c) (c2:∀ x,(x,NameKind.free)∈scope.names→∃ c,cl.lookup x=some c)
    (hb:∀ (cl:List (Str × Addr)) (C:Addr) (s₃:Shared) (H₃:Hp) (fp:List Addr) (pins:List (Addr × Obj)),PG (cxComp X scope NL ix cl C s₃ H₃ fp pins) tg g∧PIfs (cxComp X scope NL ix cl C s₃ H₃ fp pins) ifs tt∧PE (cxComp X scope NL ix cl C s₃ H₃ fp pins) elt te)
    (I:Inv X pins σ H s) (T:Turn X.prog X.w X.K tg J fp it tn) (st:tn 0 s.heap) (hf:∀ b∈fp,FpOk X pins H b)
    (q:∀ acc,H acc=none→∃ W:Nat→Nat→List V→Hp→Prop,(∃ m,W 0 m [] (upd H acc (.lst []))) ∧
      ∀ i m ys H2,W i m ys H2→H2 acc=some (.lst ys)∧ys.length < sizeLine ∧
      ((J.stop i H2∧Q (.ref acc) H2)∨(J.go i H2∧∃ N:List V→Hp→Prop,(∀ ys' H',N ys' H'→∃ m',m' < m∧W (i+1) m' ys' H') ∧
        ∀ x H3,J.yld i H2 x H3→g x (comp0 NL ix σ) H3 fun σ' H4=>σ'.drop NL.length=ix.map (fun j=>σ.getD j none)∧tt σ' H4 fun b H5=>
          if b=true then te σ' H5 fun v H6=>H6 acc=some (.lst ys)∧N (ys++[v]) (upd H6 acc (.lst (ys++[v]))) else N ys H5)))
    (hRR:∀ (acc C:Addr) (H':Hp) (s':Shared) (m':Str→Option Value),Inv X pins σ H' s'→s'.heap.Ns C m'→FpOk X pins H' C→Q (.ref acc) H'→RR (.ref acc) C (.ok .next) s') :
    wpAny (model X.prog X.w) X.A (newList []) (fun acc s₃=>wpAny (model X.prog X.w) X.A (newFunctionEnv scope X.env.globals cl [] X.env.qual none .none (some X.env)) (fun cenv s₄=>
      codeAny (model X.prog X.w) X.A (.compStart (.ListComp elt [⟨tg,iter,ifs,0⟩] scope pos) 0 (.ref it) acc { cenv with scope:=relabel scope X.env }) (RR acc cenv.locals) s₄) E s₃) E s:=by
  refine wpAny_newObj_type (wpAny_newFunctionEnv S.cell (by intro y hy;simp at hy) (fun h₁ hns₁ hsb₁=>?_) S.kind)
  have I3:Inv X pins σ (upd H s.heap.objs.size (.lst [])) { s with heap:=s.heap.push { cls:=.type "list", data:=.seq ([]:List Value).toArray },toks:=s.toks }:=I.lnew (its:=[]) .nil (Nat.zero_le _)
  have hfr:H s.heap.objs.size=none:=I.hok.fresh (Nat.le_refl _)
  generalize hs3:({ s with heap:=s.heap.push { cls:=.type "list", data:=.seq ([]:List Value).toArray },toks:=s.toks }:Shared)=s₃ at I3
  have hsz:s₃.heap.objs.size=s.heap.objs.size+1:=by rw [← hs3];exact Heap.size_push ..
  have old1:∀ b o,s.heap.get? b=some o→s₃.heap.get? b=some o:=fun b o e=>by rw [← hs3];exact Heap.get?_push_of_some _ e
  have key:codeAny (model X.prog X.w) X.A (.compStart (.ListComp elt [⟨tg,iter,ifs,0⟩] scope pos) 0 (.ref it) (.ref s.heap.objs.size) (compEnvC scope cl s₃.heap.objs.size X.env))
      (RR (.ref s.heap.objs.size) s₃.heap.objs.size) { s₃ with heap:=h₁,toks:=s₃.toks+0 }:=by
    have hns:h₁.Ns s₃.heap.objs.size (fun _=>none):=by
      have:=hns₁
      rw [← hs3]
      exact this
    have hsb:Heap.SameBut s₃.heap.objs.size (s₃.heap.push { cls:=.type "dict", data:=.dict #[] }) h₁:=by
      have:=hsb₁
      rw [← hs3]
      exact this
    have old:∀ b o,s₃.heap.get? b=some o→h₁.get? b=some o:=fun b o e=>hsb.extBut b o (Nat.ne_of_lt (Heap.lt_size e)) (Heap.get?_push_of_some _ e)
    have hf3:∀ b∈fp,FpOk X pins (upd H s.heap.objs.size (.lst [])) b:=fun b hb'=>by
      obtain ⟨o,e,_⟩:=T.obj 0 _ st b hb'
      have ne:b≠s.heap.objs.size:=Nat.ne_of_lt (Heap.lt_size e)
      exact ⟨by rw [upd_ne ne];exact (hf b hb').1,(hf b hb').2⟩
    have ho3:∀ b∈fp,∃ o,s₃.heap.get? b=some o:=fun b hb'=>by
      obtain ⟨o,e,_⟩:=T.obj 0 _ st b hb'
      exact ⟨o,old1 b o e⟩
    have st1:tn 0 h₁:=T.keep 0 _ _ st fun b hb' o e=>old b o (old1 b o e)
    have I4:=comp_inv (tn:=tn) (tk:=s₃.toks+0) S I3 c1 c2 hf3 ho3 hns old
    obtain ⟨W,⟨m0,w0⟩,turn⟩:=q s.heap.objs.size hfr
    obtain ⟨hg,ht,he⟩:=hb cl s₃.heap.objs.size s₃ (upd H s.heap.objs.size (.lst [])) fp pins
    generalize hX':cxComp X scope NL ix cl s₃.heap.objs.size s₃ (upd H s.heap.objs.size (.lst [])) fp pins=X' at I4 hg ht he
    have p1:X'.prog=X.prog:=by rw [← hX'];rfl
    have p2:X'.w=X.w:=by rw [← hX'];rfl
    have p3:X'.K=X.K:=by rw [← hX'];rfl
    have p4:X'.A=X.A:=by rw [← hX'];rfl
    have p5:X'.env=compEnvC scope cl s₃.heap.objs.size X.env:=by rw [← hX'];rfl
    have p6:X'.calm=true:=by rw [← hX'];exact hc
    have p7:X'.xe=fun _ _=>False:=by rw [← hX'];rfl
    have stat:∀ {H':Hp},(∀ b∈fp,H' b=none)→∀ b∈fp,FpOk X' [] H' b:=fun {H'} hn b hb'=>by
      have z:=hf3 b hb'
      obtain ⟨o,eo⟩:=ho3 b hb'
      rw [← hX']
      refine ⟨hn b hb',Nat.ne_of_lt (Heap.lt_size eo),fun q=>(List.mem_cons.mp (I3.stkSub b q)).elim z.2.1 z.2.2.1,.inl hb',fun x c hx=>z.2.2.2.2.1 x c (c1 x c hx),fun p hp=>?_⟩
      rcases List.mem_append.mp hp with w | w
      · exact z.2.2.2.2.2 p w
      · exact nomatch w
    have fin:∀ i n ys H' s',Inv X' [] (comp0 NL ix σ) H' s'→W i n ys H'→Q (.ref s.heap.objs.size) H'→RR (.ref s.heap.objs.size) s₃.heap.objs.size (.ok .next) s':=fun i n ys H' s' I' w' q'=>by
      obtain ⟨m',hn',_⟩:=I'.loc
      have hos:s'.os=s₃.os:=by have:=I'.os;rw [← hX'] at this;exact this
      have hu:Un (frs X.stack) fp (upd H s.heap.objs.size (.lst [])) H' s₃.heap s'.heap:=by have:=I'.base;rw [← hX'] at this;exact this
      have hk:HOk X.prog X.w H' s'.heap:=by have:=I'.hok;rw [← hX'] at this;exact this
      have hfC:H' s₃.heap.objs.size=none:=by have:=I'.free;rw [← hX'] at this;exact this
      have hnC:s'.heap.Ns s₃.heap.objs.size m':=by rw [p5] at hn';exact hn'
      exact hRR _ _ H' s' m' (I3.call' hos hu hk I'.bare fun b hb'=>⟨(hf3 b hb').2.2.2.1,(hf3 b hb').2.1,(hf3 b hb').2.2.2.2.1,(hf3 b hb').2.2.2.2.2⟩) hnC (I3.fpOk (Nat.le_refl _) hfC) q'
    have loop:∀ s₄:Shared,Inv X' [] (comp0 NL ix σ) (upd H s.heap.objs.size (.lst [])) s₄→tn 0 s₄.heap→codeAny (model X.prog X.w) X.A (.compLoop (.ListComp elt [⟨tg,iter,ifs,0⟩] scope pos) 0 (.ref it) (.ref s.heap.objs.size) (compEnvC scope cl s₃.heap.objs.size X.env))
        (RR (.ref s.heap.objs.size) s₃.heap.objs.size) s₄:=fun s₄ I4 st1=>by
      refine codeAny_loop rfl (fun n s'=>∃ i ys H',Inv X' [] (comp0 NL ix σ) H' s'∧tn i s'.heap∧(∀ b∈fp,H' b=none)∧W i n ys H') (fun n s' hI=>?_) m0 ⟨0,[],_,I4,st1,fun b hb'=>(hf3 b hb').1,w0⟩
      obtain ⟨i,ys,H',I',st',fr',w'⟩:=hI
      show wpAny _ X.A ((compTurn (.ListComp elt [⟨tg,iter,ifs,0⟩] scope pos) 0 (.ref it) (.ref s.heap.objs.size) (compEnvC scope cl s₃.heap.objs.size X.env)).onRaise (fun x=>do noteFrame x (compEnvC scope cl s₃.heap.objs.size X.env);theTreesLotGoes x)) _ _ s'
      refine wpAny_noted ?_
      rw [compTurn_list]
      obtain ⟨hacc,hz8,alt⟩:=turn i n ys H' w'
      rcases alt with ⟨stop,qn⟩ | ⟨go,N,hN,step⟩
      · have d:=T.done X' p1 p2 p3 p6 i [] s' (comp0 NL ix σ) H' (notedBy (model X.prog X.w) X.A (compEnvC scope cl s₃.heap.objs.size X.env) fun e s'=>RR (.ref s.heap.objs.size) s₃.heap.objs.size (.error e) s') I' (stat fr') st' stop
        rw [p4] at d
        refine wpAny_bind (wpAny_standAt (wpAny_bind (thn d fun r s1 ⟨hr,I1⟩=>?_)))
        subst hr
        exact wpAny_pure (fin i n ys H' s1 I1 w' qn)
      · have d:=T.item X' p1 p2 p3 p6 i [] s' (comp0 NL ix σ) H' (notedBy (model X.prog X.w) X.A (compEnvC scope cl s₃.heap.objs.size X.env) fun e s'=>RR (.ref s.heap.objs.size) s₃.heap.objs.size (.error e) s') I' (stat fr') st' go
        rw [p4] at d
        refine wpAny_bind (wpAny_standAt (wpAny_bind (thn d fun r s1 ⟨u,hr,h4⟩=>?_)))
        subst hr
        refine wpAny_bind (thn h4 fun _ s5 ⟨x,H5,I5,r5,y5,st5,fr5⟩=>?_)
        have I5':=I5.pinned (stat fr5) (T.obj _ _ st5)
        have nofail:∀ {α:Type} {t:Sem α} {R:α→Shared→Prop} {sx:Shared},wpAny (model X'.prog X'.w) X'.A t R X'.xe sx→wpAny (model X.prog X.w) X.A t R (notedBy (model X.prog X.w) X.A (compEnvC scope cl s₃.heap.objs.size X.env) fun e s'=>RR (.ref s.heap.objs.size) s₃.heap.objs.size (.error e) s') sx:=fun {α t R sx} hh=>by
          rw [p1,p2,p4,p7] at hh
          exact wpAny_mono hh (fun _ _ z=>z) fun _ _ z=>z.elim
        have again:∀ {σ7:St} {H7:Hp} {s7:Shared} {ys':List V},σ7.drop NL.length=ix.map (fun j=>σ.getD j none)→Inv X' ([]++pinsAt fp s5.heap) σ7 H7 s7→(∃ m',m' < n∧W (i+1) m' ys' H7)→∃ m,m < n∧∃ i ys H',Inv X' [] (comp0 NL ix σ) H' s7∧tn i s7.heap∧(∀ b∈fp,H' b=none)∧W i m ys H':=fun {σ7 H7 s7 ys'} hσ I7 n7=>by
          obtain ⟨m',hm,w7⟩:=n7
          have Iw:Inv X' ([]++pinsAt fp s5.heap) (comp0 NL ix σ) H7 s7:=I7.weak (by rw [I7.len,I'.len]) fun j v hj=>by
            have hlj:NL.length≤j:=by
              rcases Nat.lt_or_ge j NL.length with z | z
              · exfalso
                unfold comp0 at hj
                rw [List.getElem?_append_left (by simpa using z),List.getElem?_map] at hj
                cases q:NL[j]? with
                | none=>rw [q] at hj;cases hj
                | some y=>rw [q] at hj;cases hj
              · exact z
            unfold comp0 at hj
            rw [List.getElem?_append_right (by simpa using hlj),List.length_map,← hσ,List.getElem?_drop] at hj
            rw [← hj]
            congr 1
            omega
          refine ⟨m',hm,i+1,ys',H7,Iw.unpinned,T.keep _ _ _ st5 fun b hb' o e=>(I7.pin (b,o) (List.mem_append_right _ (List.mem_append_right _ (mem_pinsAt hb' e)))).1,fun b hb'=>?_,w7⟩
          obtain ⟨o,e,d⟩:=T.obj _ _ st5 b hb'
          exact (I7.pin (b,o) (List.mem_append_right _ (List.mem_append_right _ (mem_pinsAt hb' e)))).2.1
        have hg':=nofail (hg _ s5 (comp0 NL ix σ) H5 x u _ I5' r5 (step x H5 y5))
        rw [p5] at hg'
        refine wpAny_bind (thn hg' fun _ s6 ⟨σ6,H6,I6,hσ6,q6⟩=>?_)
        have ht':=nofail (ht _ s6 σ6 H6 _ I6 q6)
        rw [p5] at ht'
        refine wpAny_bind (thn ht' fun ok s7 ⟨H7,I7,q7⟩=>?_)
        cases ok with
        | false=>
          have q7':N ys H7:=by simpa using q7
          exact wpAny_pure ⟨rfl,again hσ6 I7 (hN _ _ q7')⟩
        | true=>
          have q7':=(if_pos rfl).mp q7
          have he':=nofail (he _ s7 σ6 H7 _ I7 q7')
          rw [p5] at he'
          refine wpAny_bind (wpAny_bind (thn he' fun v s8 ⟨y,H8,I8,r8,ha8,q8⟩=>?_))
          have ap:=nofail (mt_append _ s8 σ6 H8 (.ref s.heap.objs.size) [y] (.ref s.heap.objs.size) [v] (fun _ H9=>H9=upd H8 s.heap.objs.size (.lst (ys++[y]))) I8 rfl (.cons r8 .nil) ⟨_,ys,y,rfl,rfl,ha8,hz8,rfl⟩)
          refine wpAny_bind (thn ap fun _ s9 ⟨z,H9,I9,r9,e9⟩=>wpAny_pure (wpAny_pure ⟨rfl,?_⟩))
          subst e9
          exact again hσ6 I9 (hN _ _ q8)
    exact codeAny_compStart_list (loop _ I4 st1) (T.self X.A 0 _ _ _ st1 (loop _ I4 st1))
  exact key
theorem pe_comp {scope:Scope} {NL:List Str} {ix:List Nat} {elt tg iter:Expr} {ifs:List Expr} {pos:Pos} {wi:TI} {g:TG} {tt:TT} {te:TE}
    (hc:X.calm=true) (hi:PI X tg iter wi) (S:CompScope X scope NL ix)
    (hb:∀ (cl:List (Str × Addr)) (C:Addr) (s₃:Shared) (H₃:Hp) (fp:List Addr) (pins:List (Addr × Obj)),PG (cxComp X scope NL ix cl C s₃ H₃ fp pins) tg g∧PIfs (cxComp X scope NL ix cl C s₃ H₃ fp pins) ifs tt∧PE (cxComp X scope NL ix cl C s₃ H₃ fp pins) elt te)
    (hs:∀ x,foldedSetIterable iter X.env x=pure x:=by intro _;rfl):PE X (.ListComp elt [⟨tg,iter,ifs,0⟩] scope pos) (tComp NL ix wi g tt te):=by
  intro pins s σ H Q I h
  obtain ⟨cl,hcl,c1,c2⟩:=closure_ok (scope:=scope) (env:=X.env) fun x hx=>by
    rcases S.free _ hx rfl with z | z
    · exact I.ok.has x (.inl z)
    · exact I.ok.has x (.inr z)
  rw [eval_ListComp]
  refine wpAny_comprehension_free (use:=none) rfl hs hcl S.kind S.names (thn (hi pins s σ H _ I h) fun xv s1 h1=>thn h1 fun itv s2 h2=>?_)
  obtain ⟨it,fp,tn,J,H2,rfl,I2,T,st2,f2,q⟩:=h2
  refine comp_run (RR:=fun acc C=>compPost (model X.prog X.w) X.A X.xe none (EP X pins σ Q) acc C) hc S c1 c2 hb I2 T st2 f2 q ?_
  intro acc C H' s' m' I' hn fC q'
  refine ⟨m',hn,fun h' sb=>⟨.ref acc,H',?_,rfl,q'⟩⟩
  exact I'.turned (t':=s'.toks) (fun b o hb e=>sb.extBut b o hb e) fC.1 fC.2.1 fC.2.2.2.1 fC.2.2.2.2.1 fC.2.2.2.2.2
theorem ps_comp {i:Nat} {y:Str} {py spos:Pos} {scope:Scope} {NL:List Str} {ix:List Nat} {elt tg iter:Expr} {ifs:List Expr} {pos:Pos} {wi:TI} {g:TG} {tt:TT} {te:TE}
    (hN:X.N.Nodup) (hiy:X.N[i]?=some y) (hy:Loc X.env.scope y)
    (hc:X.calm=true) (hi:PI X tg iter wi) (S:CompScope X scope NL ix)
    (hb:∀ (cl:List (Str × Addr)) (C:Addr) (s₃:Shared) (H₃:Hp) (fp:List Addr) (pins:List (Addr × Obj)),PG (cxComp X scope NL ix cl C s₃ H₃ fp pins) tg g∧PIfs (cxComp X scope NL ix cl C s₃ H₃ fp pins) ifs tt∧PE (cxComp X scope NL ix cl C s₃ H₃ fp pins) elt te)
    (hsw:swapsWith (.ListComp elt [⟨tg,iter,ifs,0⟩] scope pos) (some (.Name y py)) spos.line X.env=pure true:=by rfl)
    (hs:∀ x,foldedSetIterable iter X.env x=pure x:=by intro _;rfl)
    (hf:X.fn y=true∨X.env.scope.names.lookup y=some .local:=by first | exact .inl rfl | exact .inr rfl | assumption) :
    PS X (.Assign [.Name y py] (.ListComp elt [⟨tg,iter,ifs,0⟩] scope pos) spos) (tAsg (tComp NL ix wi g tt te) (gName i)):=by
  intro pins s σ H D I h
  obtain ⟨cl,hcl,c1,c2⟩:=closure_ok (scope:=scope) (env:=X.env) fun x hx=>by
    rcases S.free _ hx rfl with z | z
    · exact I.ok.has x (.inl z)
    · exact I.ok.has x (.inr z)
  rw [exec_Assign_Name_used _ _ _ _ hsw]
  refine wpAny_bind (wpAny_standAt (wpAny_bind ?_))
  show wpAny _ X.A (do let _ ← comprehension (.ListComp elt [⟨tg,iter,ifs,0⟩] scope pos) scope X.env _ (newList []) false (eval iter X.env) (some (assign (.Name y py) X.env))) _ _ s
  refine wpAny_bind (thn (wpAny_comprehension_free (use:=some (assign (.Name y py) X.env)) (Q:=fun _ s'=>SP X pins D .next s') rfl hs hcl S.kind S.names
    (thn (hi pins s σ H _ I h) fun xv s1 h1=>thn h1 fun itv s2 h2=>?_)) fun _ s' hq=>wpAny_pure (wpAny_pure hq))
  obtain ⟨it,fp,tn,J,H2,rfl,I2,T,st2,f2,q⟩:=h2
  refine comp_run (RR:=fun acc C=>compPost (model X.prog X.w) X.A X.xe (some (assign (.Name y py) X.env)) (fun _ s'=>SP X pins D .next s') acc C) (Q:=fun x H1=>gName i x σ H1 D.nx) hc S c1 c2 hb I2 T st2 f2 q ?_
  intro acc C H' s' m' I' hn fC q'
  show wpAny _ X.A (assign (.Name y py) X.env (.ref acc)) _ _ _
  refine wpAny_assign_Name (store_ok2 I' hN hiy hy (v:=.ref acc) rfl (fun s'' I'' hsb=>?_) hf)
  obtain ⟨a,sb,ha⟩:=hsb
  have hne:C≠a:=by
    rcases ha with z | z
    · rw [z];exact fC.2.1
    · exact fun w=>fC.2.2.2.2.1 y a z w.symm
  refine ⟨m',hn.sameBut sb hne,fun h' sb'=>⟨_,H',?_,q'⟩⟩
  exact I''.turned (t':=s''.toks) (fun b o hb e=>sb'.extBut b o hb e) fC.1 fC.2.1 fC.2.2.2.1 fC.2.2.2.2.1 fC.2.2.2.2.2
theorem comp_by {J:It} {NL:List Str} {ix:List Nat} {g:TG} {tt:TT} {te:TE} {σ:St} {H1:Hp} {Qs:Hp→Prop} {acc:Addr} (n:Nat) (hn:n < 1000) (Pv:Nat→List V→Hp→Prop)
    (hacc:∀ i ys H2,Pv i ys H2→H2 acc=some (.lst ys)∧ys.length≤i) (h0:Pv 0 [] (upd H1 acc (.lst []))) (hstop:∀ ys H2,Pv n ys H2→J.stop n H2∧Qs H2)
    (hturn:∀ i ys H2,i < n→Pv i ys H2→J.go i H2∧∀ x H3,J.yld i H2 x H3→g x (comp0 NL ix σ) H3 fun σ' H4=>σ'.drop NL.length=ix.map (fun j=>σ.getD j none)∧tt σ' H4 fun b H5=>
      if b=true then te σ' H5 fun v H6=>H6 acc=some (.lst ys)∧Pv (i+1) (ys++[v]) (upd H6 acc (.lst (ys++[v]))) else Pv (i+1) ys H5) :
    ∃ W:Nat→Nat→List V→Hp→Prop,(∃ m,W 0 m [] (upd H1 acc (.lst []))) ∧
    ∀ i m ys H2,W i m ys H2→H2 acc=some (.lst ys)∧ys.length < sizeLine ∧
      ((J.stop i H2∧Qs H2)∨(J.go i H2∧∃ N:List V→Hp→Prop,(∀ ys' H',N ys' H'→∃ m',m' < m∧W (i+1) m' ys' H') ∧
        ∀ x H3,J.yld i H2 x H3→g x (comp0 NL ix σ) H3 fun σ' H4=>σ'.drop NL.length=ix.map (fun j=>σ.getD j none)∧tt σ' H4 fun b H5=>
          if b=true then te σ' H5 fun v H6=>H6 acc=some (.lst ys)∧N (ys++[v]) (upd H6 acc (.lst (ys++[v]))) else N ys H5)):=by
  refine ⟨fun i m ys H2=>i≤n∧m=n - i∧Pv i ys H2,⟨n,Nat.zero_le _,rfl,h0⟩,fun i m ys H2 ⟨hi,hm,hp⟩=>?_⟩
  obtain ⟨a1,a2⟩:=hacc i ys H2 hp
  refine ⟨a1,small1000 (by omega),?_⟩
  rcases Nat.lt_or_ge i n with lt | ge
  · obtain ⟨go,tn⟩:=hturn i ys H2 lt hp
    exact .inr ⟨go,Pv (i+1),fun ys' H' hN=>⟨n - (i+1),by omega,by omega,rfl,hN⟩,tn⟩
  · have e:i=n:=by omega
    subst e
    exact .inl (hstop ys H2 hp)
end
end L2
namespace L2
open PySem PySem.Spec PyProof.Rows
section
variable {prog:Program} {w:World} {A:Around} {E:Value→Shared→Prop} {s:Shared}
theorem nextOf_tuple_item {it t:Addr} {i:Nat} {items:Array Value} {x:Value} {Q:Value→Shared→Prop} (hit:s.heap.IsTupleIter it t i)
    (ht:s.heap.IsTuple t items) (hx:items[i]?=some x)
    (hQ:∀ h',h'.IsTupleIter it t (i+1)→Heap.SameBut it s.heap h'→Q x { s with heap:=h' }) :
    wpAny (model prog w) A (Builtin.SmallTypes.nextOf (.ref it)) Q E s:=by
  obtain ⟨o,ho,hc,hd⟩:=id hit
  obtain ⟨ol,hol,_,nl,hdl⟩:=ht
  unfold Builtin.SmallTypes.nextOf
  refine wpAny_bind (wpAny_callSpecial?_slot (name:=Str.ofString "__next__") hit.typeIs F.slot_tuple_iterator_next
    (wpAny_call_entry F.slot_tuple_iterator_next hit.typeIs F.entry_tuple_iterator_next ?_ (F.args_tuple_iterator_next_1 _)))
  show wpAny _ _ (field (.ref it) 0 >>= _) _ _ s
  refine wpAny_bind (wpAny_field ho hd (x:=.ref t) rfl ?_)
  show wpAny _ _ (if (Value.ref t == Value.none)=true then _ else _) _ _ s
  rw [if_neg (show ¬ ((Value.ref t == Value.none)=true) from Bool.false_ne_true)]
  show wpAny _ _ (field (.ref it) 1 >>= _) _ _ s
  refine wpAny_bind (wpAny_field ho hd (x:=.int i 0) rfl ?_)
  show wpAny _ _ (seqItems? (.ref t) >>= _) _ _ s
  refine wpAny_bind (wpAny_seqItems hol hdl ?_)
  simp only [Int.toNat_natCast,hx]
  refine wpAny_bind (wpAny_setField ho hd (by simp) (wpAny_pure ⟨x,rfl,wpAny_pure (hQ _ ?_ (Heap.SameBut.update ..))⟩))
  exact ⟨_,Heap.get?_update_self _ ho (Obj.isFreed_of_fields (Obj.data_mapFields hd _)),(Obj.cls_mapFields ..).trans hc,by
    rw [Obj.data_mapFields hd];simp [rawInt]⟩
theorem nextOf_tuple_end {it t:Addr} {i:Nat} {items:Array Value} {Q:Value→Shared→Prop} (hh:A.handled=none)
    (hit:s.heap.IsTupleIter it t i) (ht:s.heap.IsTuple t items) (hx:items[i]?=none)
    (hE:∀ h' e,Heap.ExtBut it s.heap h'→(∃ o,h'.get? e=some o∧o.cls=.type "StopIteration")→E (.ref e) { s with heap:=h' }) :
    wpAny (model prog w) A (Builtin.SmallTypes.nextOf (.ref it)) Q E s:=by
  obtain ⟨o,ho,hc,hd⟩:=id hit
  obtain ⟨ol,hol,_,nl,hdl⟩:=ht
  unfold Builtin.SmallTypes.nextOf
  refine wpAny_bind (wpAny_callSpecial?_slot (name:=Str.ofString "__next__") hit.typeIs F.slot_tuple_iterator_next
    (wpAny_call_entry F.slot_tuple_iterator_next hit.typeIs F.entry_tuple_iterator_next ?_ (F.args_tuple_iterator_next_1 _)))
  show wpAny _ _ (field (.ref it) 0 >>= _) _ _ s
  refine wpAny_bind (wpAny_field ho hd (x:=.ref t) rfl ?_)
  show wpAny _ _ (if (Value.ref t == Value.none)=true then _ else _) _ _ s
  rw [if_neg (show ¬ ((Value.ref t == Value.none)=true) from Bool.false_ne_true)]
  show wpAny _ _ (field (.ref it) 1 >>= _) _ _ s
  refine wpAny_bind (wpAny_field ho hd (x:=.int i 0) rfl ?_)
  show wpAny _ _ (seqItems? (.ref t) >>= _) _ _ s
  refine wpAny_bind (wpAny_seqItems hol hdl ?_)
  simp only [Int.toNat_natCast,hx]
  refine wpAny_bind (wpAny_rule (wpAny_bind (wpAny_setField ho hd (by simp) ?_)))
  show wpAny _ _ (newExc (.type "StopIteration") [] >>= _) _ _ _
  refine wpAny_bind ?_
  simp only [newExc,newTuple]
  refine wpAny_bind (wpAny_newObj_type ?_ (by size_fits))
  refine wpAny_bind (m:=firstArgMember _ _) (wpAny_of_eq (a:=Value.none) (by first | rfl | (simp only [firstArgMember];rfl)) ?_)
  refine wpAny_newObj_type ?_ (by size_fits)
  simp only [raiseNew]
  refine wpAny_bind (wpAny_handled ?_)
  first | rw [show A.in1.handled=none from hh] | rw [hh]
  refine wpAny_bind (wpAny_pure (wpAny_throw ?_))
  exact hE _ _ (((Heap.SameBut.update ..).extBut.push _).push _) ⟨_,Heap.get?_push_size _ rfl,rfl⟩
end
theorem draws_tuple {prog:Program} {w:World} {A:Around} (hh:A.handled=none) (it l:Addr) (hne:l≠it) (items:Array Value) :
    Draws prog w A it [it,l] items.size (fun i v=>items[i]?=some v) (fun i h=>h.IsTupleIter it l i∧h.IsTuple l items) where
  live:=fun _ _ st=>let ⟨o,ho,_⟩:=st.1;⟨o,ho⟩
  frame:=fun _ _ _ st hk=>⟨st.1.at fun o e=>hk it (by simp) o e,let ⟨o,ho,r⟩:=st.2;⟨o,hk l (by simp) o ho,r⟩⟩
  item:=fun i s Q E hi st hQ=>by
    refine nextOf_tuple_item st.1 st.2 (x:=items[i]) (by simp [hi]) fun h' hit' hs'=>?_
    exact hQ _ h' s.toks (by simp [hi]) ⟨hit',st.2.extBut hs'.extBut hne⟩ hs'
  done:=fun s Q E st hE=>nextOf_tuple_end hh st.1 st.2 (by simp) hE
theorem draws_str {prog:Program} {w:World} {A:Around} (hh:A.handled=none) (it:Addr) (x:Str) (t:Tok) :
    Draws prog w A it [it] x.cps.size (fun i v=>∃ c u,x.cps[i]?=some c∧v=.str ⟨#[c]⟩ u) (fun i h=>h.IsStrIter it (strIterType x) x t i):=by
  unfold strIterType
  cases x.cps.all (· < 128) with
  | true=>exact Draws.strAscii hh it x t
  | false=>exact Draws.strWide hh it x t
inductive SK where
  | lst (a:Addr) | tup (a:Addr) | str (x:Str)
def SK.val:SK→V
  | .lst a=>.ref a
  | .tup a=>.ref a
  | .str x=>.str x
def signs (x:Str):List V:=x.cps.toList.map fun c=>.str ⟨#[c]⟩
def SK.has (H:Hp):SK→List V→Prop
  | .lst a,xs=>Rd H a (.lst xs)
  | .tup a,xs=>Rd H a (.tup xs)
  | .str x,xs=>xs=signs x
def SK.own (it:Addr) (k:Nat) (h:Heap):SK→Prop
  | .lst a=>h.IsListIter it a k
  | .tup a=>h.IsTupleIter it a k
  | .str x=>∃ t,h.IsStrIter it (strIterType x) x t k
theorem SK.own_at {it:Addr} {k:Nat} {h h':Heap} {κ:SK} (x:κ.own it k h) (e:∀ o,h.get? it=some o→h'.get? it=some o):κ.own it k h':=by
  cases κ with
  | lst a=>exact Heap.IsListIter.at x e
  | tup a=>exact Heap.IsTupleIter.at x e
  | str y=>obtain ⟨t,o,ho,r⟩:=x;exact ⟨t,o,e o ho,r⟩
theorem SK.own_obj {it:Addr} {k:Nat} {h:Heap} {κ:SK} (x:κ.own it k h):∃ o,h.get? it=some o∧(∀ v,o.data≠.cell v)∧o.cls≠.type "tuple" ∧ o.cls≠.type "zip" ∧ o.cls≠.type "enumerate" := by
  cases κ with
  | lst a=>obtain ⟨o,ho,c,d⟩:=x;exact ⟨o,ho,(fun v z=>by rw [d] at z;cases z),(fun z=>by rw [c] at z;simp at z),(fun z=>by rw [c] at z;simp at z),(fun z=>by rw [c] at z;simp at z)⟩
  | tup a=>obtain ⟨o,ho,c,d⟩:=x;exact ⟨o,ho,(fun v z=>by rw [d] at z;cases z),(fun z=>by rw [c] at z;simp at z),(fun z=>by rw [c] at z;simp at z),(fun z=>by rw [c] at z;simp at z)⟩
  | str y=>
    obtain ⟨t,o,ho,c,d⟩:=x
    refine ⟨o,ho,(fun v z=>by rw [d] at z;cases z),?_,?_,?_⟩ <;>
    · intro z
      rw [c] at z
      unfold strIterType at z
      split at z <;> simp at z
theorem Rd.inj {H:Hp} {a:Addr} {u v:HO} (hu:∀ o w,u≠.frz o w) (hv:∀ o w,v≠.frz o w) (x:Rd H a u) (y:Rd H a v):u=v:=by
  rcases x with x | ⟨o,x⟩ <;> rcases y with y | ⟨p,y⟩ <;> rw [x] at y
  · exact Option.some.inj y
  · exact absurd (Option.some.inj y) (hu p v)
  · exact absurd (Option.some.inj y).symm (hv o u)
  · have:=Option.some.inj y
    injection this
theorem SK.inj {H:Hp} {κ:SK} {xs ys:List V} (x:κ.has H xs) (y:κ.has H ys):xs=ys:=by
  cases κ with
  | lst a=>have:=Rd.inj (u:=.lst xs) (v:=.lst ys) (fun _ _ z=>nomatch z) (fun _ _ z=>nomatch z) x y;injection this
  | tup a=>have:=Rd.inj (u:=.tup xs) (v:=.tup ys) (fun _ _ z=>nomatch z) (fun _ _ z=>nomatch z) x y;injection this
  | str z=>exact Eq.trans x (Eq.symm y)
def SK.box:SK→List Addr
  | .lst a=>[a]
  | .tup a=>[a]
  | .str _=>[]
theorem SK.box_some {H:Hp} {κ:SK} {xs:List V} (x:κ.has H xs) {b:Addr} (hb:b∈κ.box):H b≠none:=by
  cases κ with
  | lst a => have e:b=a:=by simpa [SK.box] using hb
             subst e;intro z;rcases x with q | ⟨o,q⟩ <;> (rw [z] at q;cases q)
  | tup a => have e:b=a:=by simpa [SK.box] using hb
             subst e;intro z;rcases x with q | ⟨o,q⟩ <;> (rw [z] at q;cases q)
  | str z=>simp [SK.box] at hb
section
variable {X:Cx} {pins:List (Addr × Obj)} {σ:St} {H:Hp} {s:Shared}
theorem sk_draws {κ:SK} {it:Addr} {k:Nat} {xs:List V} {A:Around} (I:Inv X pins σ H s) (hv:κ.has H xs) (hit:κ.own it k s.heap) (hn:H it=none) (hh:A.handled=none) :
    ∃ (P:Nat→Value→Prop) (St:Nat→Heap→Prop),Draws X.prog X.w A it (it :: κ.box) xs.length P St∧St k s.heap∧(∀ i u,P i u→∃ x,xs[i]?=some x∧RelV x u)∧(∀ i h,St i h→κ.own it i h):=by
  have ne:∀ b∈κ.box,b≠it:=fun b hb z=>SK.box_some hv hb (by rw [z];exact hn)
  cases κ with
  | lst a=>
    obtain ⟨_,its,n,r,e⟩:=Rd.ok hv I.hok
    have hl:s.heap.IsList a its.toArray:=⟨_,e,rfl,n,rfl⟩
    have D:=Draws.list (prog:=X.prog) (w:=X.w) hh it a (ne a (by simp [SK.box])) its.toArray
    rw [List.size_toArray,← r.length] at D
    refine ⟨_,_,D,⟨hit,hl⟩,fun i u hu=>?_,fun i h st=>st.1⟩
    · have hu':its[i]?=some u:=by simpa using hu
      have hlt:i < xs.length:=by rw [r.length];exact (List.getElem?_eq_some_iff.mp hu').1
      obtain ⟨u',e1,e2⟩:=r.get (List.getElem?_eq_getElem hlt)
      rw [hu'] at e1;cases e1
      exact ⟨_,List.getElem?_eq_getElem hlt,e2⟩
  | tup a=>
    obtain ⟨_,its,r,ht⟩:=Rd.ok hv I.hok
    have hl:s.heap.IsTuple a its.toArray:=ht
    have D:=draws_tuple (prog:=X.prog) (w:=X.w) hh it a (ne a (by simp [SK.box])) its.toArray
    rw [List.size_toArray,← r.length] at D
    refine ⟨_,_,D,⟨hit,hl⟩,fun i u hu=>?_,fun i h st=>st.1⟩
    · have hu':its[i]?=some u:=by simpa using hu
      have hlt:i < xs.length:=by rw [r.length];exact (List.getElem?_eq_some_iff.mp hu').1
      obtain ⟨u',e1,e2⟩:=r.get (List.getElem?_eq_getElem hlt)
      rw [hu'] at e1;cases e1
      exact ⟨_,List.getElem?_eq_getElem hlt,e2⟩
  | str z=>
    obtain ⟨t,hit⟩:=hit
    have hv':xs=signs z:=hv
    subst hv'
    have D:=draws_str (prog:=X.prog) (w:=X.w) hh it z t
    have e:(signs z).length=z.cps.size:=by simp [signs]
    rw [← e] at D
    refine ⟨_,_,D,hit,fun i u hu=>?_,fun i h st=>⟨t,st⟩⟩
    · obtain ⟨c,u',hc,rfl⟩:=hu
      refine ⟨.str ⟨#[c]⟩,?_,⟨u',rfl⟩⟩
      simp only [signs,List.getElem?_map,Array.getElem?_toList,hc,Option.map_some]
theorem Inv.turnedNew {ch:List Addr} {p:Addr} {o:HO} {h':Heap} {tk:Nat} (I:Inv X pins σ H s)
    (hch:∀ b∈ch,FpOk X pins H b) (k:∀ b ob,b ∉ ch→s.heap.get? b=some ob→h'.get? b=some ob) (hp:s.heap.objs.size≤p) (new:ObjOk X.prog X.w (upd H p o) h' p o) :
    Inv X pins σ (upd H p o) { s with heap:=h',toks:=tk }:=by
  have hn:H p=none:=I.hok.fresh hp
  refine I.call (g':=s.gens) (d':=s.drawn) (ch:=ch) ⟨fun b u q _ _ hx=>k b u hx q,fun b u q _ _ hx=>⟨u.slots,k b u hx q⟩,fun b u q n _=>?_,fun b u q hx=>⟨u,k b u hx q⟩,fun b xs q=>?_,fun b u xs q=>?_,fun b ps q=>⟨#[],?_⟩⟩ (fun b u e=>?_) I.bare
    fun b hb=>⟨(hch b hb).2.2.2.1,(hch b hb).2.1,(hch b hb).2.2.2.2.1,(hch b hb).2.2.2.2.2⟩
  · rw [upd_ne (Nat.ne_of_lt (Nat.lt_of_lt_of_le (Heap.lt_size q) hp))];exact n
  · rw [upd_ne (ne_of_none q hn)];exact q
  · rw [upd_ne (ne_of_none q hn)];exact q
  · rw [upd_ne (ne_of_none q hn),q];simp
  · by_cases hb:b=p
    · subst hb;rw [upd_same] at e;cases e;exact new
    · rw [upd_ne hb] at e
      refine (I.hok b u e).stay (fun c v hc q=>k c v (fun hm=>?_) q) (fun c q=>by rw [upd_ne (ne_of_none q hn)];exact q) fun c xs q=>by rw [upd_ne (ne_of_none q hn)];exact q
      have z:=(hch c hm).1
      rcases hc with hc | hc
      · rw [hc,e] at z;cases z
      · rw [hc] at z;cases z
end
def Ite (κ:SK):It:=
  ⟨fun i H=>∃ xs x,κ.has H xs∧xs[i]?=some x,fun i H v H'=>∃ p x,v=.ref p∧H p=none∧H'=upd H p (.tup [.int i,x])∧∀ xs,κ.has H xs→xs[i]?=some x,fun i H=>∃ xs,κ.has H xs∧xs.length=i⟩
theorem turn_enum {P:Program} {w:World} {K:PySem.W.Frag} {elts:List Expr} {x1:Nat} {tpos:Pos} (κ:SK) (e it:Addr) (hei:e≠it) :
    Turn P w K (.Tuple elts x1 tpos) (Ite κ) [e,it] e (fun i h=>(∃ old,IsEnum h e it i old)∧κ.own it i h) where
  mem:=by simp
  obj:=fun i h st b hb=>by
    obtain ⟨⟨old,he⟩,ho⟩:=st
    simp only [List.mem_cons,List.not_mem_nil,or_false] at hb
    rcases hb with rfl | rfl
    · exact ⟨_,he,fun v z=>by
        have z':Data.fields _=Data.cell v:=z
        cases z'⟩
    · obtain ⟨o,h1,h2,_⟩:=SK.own_obj ho
      exact ⟨o,h1,h2⟩
  keep:=fun i h h' st k=>by
    obtain ⟨⟨old,he⟩,ho⟩:=st
    exact ⟨⟨old,k e (by simp) _ he⟩,SK.own_at ho fun o q=>k it (by simp) o q⟩
  item:=by
    intro X hP hw hK hc i pins s σ H E I hf st hg
    subst hP hw hK
    obtain ⟨⟨old,he⟩,ho⟩:=st
    obtain ⟨xs,x,hx,hxi⟩:=hg
    have hlt:i < xs.length:=(List.getElem?_eq_some_iff.mp hxi).1
    have hh:X.A.in1.handled=none:=I.ok.hd hc
    obtain ⟨Pp,St,D,hst,hrel,hown⟩:=sk_draws (A:=X.A.in1) I hx ho (hf it (by simp)).1 hh
    have hef:e ∉ it :: κ.box:=fun z=>by
      rcases List.mem_cons.mp z with z | z
      · exact hei z
      · exact SK.box_some hx z (hf e (by simp)).1
    refine wpAny_pyNext_enum_itemD D he hst hlt hei hef fun y h' tk hy ho' hst' hT hsz hk=>⟨_,rfl,?_⟩
    refine wpAny_letOwnedTupleGo_enum ho' fun h'' he'' hs''=>?_
    obtain ⟨x',hx',rx⟩:=hrel i y hy
    have exx:x'=x:=Option.some.inj (hx'.symm.trans hxi)
    subst exx
    have kk:∀ b ob,b ∉ [e,it]→s.heap.get? b=some ob→h''.get? b=some ob:=fun b ob hb q=>
      (hs''.2 b (fun z=>hb (by simp [z]))).trans (hk b ob (fun z=>hb (by simp [z])) (fun z=>hb (by simp [z])) q)
    have ne:s.heap.objs.size≠e:=Nat.ne_of_gt (Heap.lt_size he)
    have hT':h''.get? s.heap.objs.size=some { cls:=.type "tuple", data:=.seq #[.int i tk,y] }:=(hs''.2 _ ne).trans hT
    refine ⟨.ref s.heap.objs.size,upd H s.heap.objs.size (.tup [.int i,x']),I.turnedNew (tk:=tk+1) hf kk (Nat.le_refl _) ⟨⟨(by show 2≤sizeLine;decide),_,hT',rfl⟩,[.int i tk,y],.cons ⟨tk,rfl⟩ (.cons rx .nil),_,hT',rfl,0,rfl⟩,rfl,
      ⟨_,x',rfl,I.hok.fresh (Nat.le_refl _),rfl,fun ys hy'=>by rw [SK.inj hy' hx];exact hxi⟩,⟨⟨y,by simpa using he''⟩,SK.own_at (hown _ _ hst') fun o q=>(hs''.2 it (Ne.symm hei)).trans q⟩,fun b hb=>?_⟩
    obtain ⟨o,hob,_⟩:∃ o,s.heap.get? b=some o∧True:=by
      simp only [List.mem_cons,List.not_mem_nil,or_false] at hb
      rcases hb with rfl | rfl
      · exact ⟨_,he,trivial⟩
      · obtain ⟨o,h1,_⟩:=SK.own_obj ho;exact ⟨o,h1,trivial⟩
    rw [upd_ne (Nat.ne_of_lt (Heap.lt_size hob))]
    exact (hf b hb).1
  done:=by
    intro X hP hw hK hc i pins s σ H E I hf st hg
    subst hP hw hK
    obtain ⟨⟨old,he⟩,ho⟩:=st
    obtain ⟨xs,hx,hlen⟩:=hg
    have hh:X.A.in1.handled=none:=I.ok.hd hc
    obtain ⟨Pp,St,D,hst,hrel,hown⟩:=sk_draws (A:=X.A.in1) I hx ho (hf it (by simp)).1 hh
    have hst':St xs.length s.heap:=by rw [hlen];exact hst
    refine wpAny_pyNext_enum_endD D he hst' fun h' hx'=>⟨rfl,?_⟩
    have f:=hf it (by simp)
    exact I.turned (t':=s.toks) (fun b o hb q=>hx' b o hb q) f.1 f.2.1 f.2.2.2.1 f.2.2.2.2.1 f.2.2.2.2.2
  self:=fun _ _ _ _ _ st h=>let ⟨⟨_,he⟩,_⟩:=st;wpAny_pyIter_enum he h
open AutoSeq1 (wpAny_loadPart') in
set_option maxHeartbeats 4000000 in
theorem meets_enumerate_newT (l:Addr) (items:Array Value) (n:Nat) (dct:Option Addr) (sl:Array (Option Value)) :
    Meets (Builtin.«enumerate.__new__» ⟨[.type "enumerate", .ref l],[]⟩) (fun _ R s=>s.heap.get? l=some { cls:=.type "tuple", dict:=dct,data:=.seq items n,slots:=sl } ∧
      R (.ok (.ret (.ref (s.heap.push { cls:=.type "tuple_iterator", data:=.fields #[.ref l,.int 0 0] }).objs.size)))
        { s with heap:=(s.heap.push { cls:=.type "tuple_iterator", data:=.fields #[.ref l,.int 0 0] }).push { cls:=.type "enumerate", data:=.fields #[.none,.bool false,.ref s.heap.objs.size,rawInt 0,.none,.none] } }):=
  .of_wp fun prog w A R s h=>by
    obtain ⟨hp,g,d,tk,os⟩:=s;obtain ⟨hl,h⟩:=h
    have hsub:=sub_enumerate
    have hL:Heap.IsTuple (Shared.heap ⟨hp,g,d,tk,os⟩) l items:=⟨_,hl,rfl,n,rfl⟩
    wp_walk using wpAny_loadPart' hl
    refine wpAny_stack_any fun st=>wpAny_pure ?_
    split
    · rename_i c _ _ _ _ _
      cases (c == Value.type "enumerate")
      · wp_walk using wpAny_loadPart' hl,wpAny_pyIter_tuple hL
        exact ⟨_,rfl,h⟩
      · wp_walk using wpAny_loadPart' hl,wpAny_pyIter_tuple hL
        exact ⟨_,rfl,h⟩
    · wp_walk using wpAny_loadPart' hl,wpAny_pyIter_tuple hL
      exact ⟨_,rfl,h⟩
theorem call_enumerate_tuple {prog:Program} {w:World} {A:Around} {E:Value→Shared→Prop} {s:Shared} {l:Addr} {items:Array Value} {Q:Value→Shared→Prop} (hL:s.heap.IsTuple l items)
    (h:∀ h',IsEnum h' (s.heap.objs.size+1) s.heap.objs.size 0 .none→h'.IsTupleIter s.heap.objs.size l 0→h'.objs.size=s.heap.objs.size+2 →
      (∀ b o,s.heap.get? b=some o→h'.get? b=some o)→Q (.ref (s.heap.objs.size+1)) { s with heap:=h' }) :
    wpAny (model prog w) A (call (.type "enumerate") [.ref l]) Q E s:=by
  obtain ⟨⟨c,dct,dt,sl⟩,hl,hc,n,hd⟩:=hL
  replace hc:c=.type "tuple" := hc
  replace hd:dt=.seq items n:=hd
  subst hc hd
  refine callType_new F.called_enumerate (by decide) (F.typeCall_enumerate_1 _) (F.newCall_enumerate_1 _) (fun obj=>F.args_object_init_2 obj _) F.entry_enumerate_new
    (meets_enumerate_newT l items n dct sl) ⟨hl,?_⟩
  have hz:(s.heap.push { cls:=.type "tuple_iterator", data:=.fields #[.ref l,.int 0 0] }).objs.size=s.heap.objs.size+1:=Heap.size_push ..
  show _∧_
  rw [hz]
  have he:IsEnum ((s.heap.push { cls:=.type "tuple_iterator", data:=.fields #[.ref l,.int 0 0] }).push
      { cls:=.type "enumerate", data:=.fields #[.none,.bool false,.ref s.heap.objs.size,rawInt 0,.none,.none] }) (s.heap.objs.size+1) s.heap.objs.size 0 .none:=by
    have:=Heap.get?_push_size (s.heap.push { cls:=.type "tuple_iterator", data:=.fields #[.ref l,.int 0 0] })
      (o:={ cls:=.type "enumerate", data:=.fields #[.none,.bool false,.ref s.heap.objs.size,rawInt 0,.none,.none] }) rfl
    rw [hz] at this;exact this
  refine ⟨⟨_,he,rfl⟩,h _ he ⟨_,Heap.get?_push_of_some _ (Heap.get?_push_size _ rfl),rfl,rfl⟩ (by rw [Heap.size_push,hz]) fun b o x=>Heap.get?_push_of_some _ (Heap.get?_push_of_some _ x)⟩
section
variable {X:Cx} {pins:List (Addr × Obj)} {σ:St} {H:Hp} {s:Shared}
theorem call_enum {κ:SK} {xs:List V} {u:Value} {E:Value→Shared→Prop} {Q:Value→Shared→Prop} (I:Inv X pins σ H s) (hv:κ.has H xs) (r:RelV κ.val u)
    (h:∀ h',IsEnum h' (s.heap.objs.size+1) s.heap.objs.size 0 .none→κ.own s.heap.objs.size 0 h'→(∀ b o,s.heap.get? b=some o→h'.get? b=some o)→Q (.ref (s.heap.objs.size+1)) { s with heap:=h' }) :
    wpAny (model X.prog X.w) X.A (call (.type "enumerate") [u]) Q E s:=by
  cases κ with
  | lst a=>
    cases (show u=Value.ref a from r)
    obtain ⟨_,its,n,rr,e⟩:=Rd.ok hv I.hok
    exact call_enumerate_list ⟨_,e,rfl,n,rfl⟩ fun h' a1 a2 _ a4=>h h' a1 a2 a4
  | tup a=>
    cases (show u=Value.ref a from r)
    obtain ⟨_,its,rr,e⟩:=Rd.ok hv I.hok
    exact call_enumerate_tuple e fun h' a1 a2 _ a4=>h h' a1 a2 a4
  | str x=>
    obtain ⟨t,q⟩:=(show ∃ t,u=Value.str x t from r)
    subst q
    exact call_enumerate_str fun h' a1 a2 _ a4=>h h' a1 ⟨t,a2⟩ a4
def iEnum (ta:TA):TI:=fun σ H R=>ta σ H fun vs H1=>∃ κ:SK,vs=[κ.val]∧(∃ xs,κ.has H1 xs)∧R (Ite κ) H1
theorem pi_enum {a:Expr} {ta:TA} {p pos:Pos} {elts:List Expr} {x1:Nat} {tpos:Pos} (hg:Gl X "enumerate") (hm:X.mg "enumerate" = none) (ha:PA X [a] ta)
    (hs:starEach [a] X.env=[(false,eval a X.env)]:=by rfl):PI X (.Tuple elts x1 tpos) (.Call (.Name "enumerate" p) [a] [] pos) (iEnum ta):=by
  intro pins s σ H R I h
  refine Call_ (ld_blt I hg hm boot_enumerate (PyProof.Rows.callWith_type1 (thn (ha pos pins s σ H _ I h) fun us s1 ⟨vs,H1,I1,r1,q1⟩=>?_) hs rfl))
  obtain ⟨κ,e,⟨xs,hx⟩,q⟩:=q1
  subst e
  obtain ⟨u,rfl,ru⟩:=vals1 r1
  refine call_enum I1 hx ru fun h' he hi hk=>?_
  refine wpAny_pyIter_enum he ⟨s1.heap.objs.size+1,[s1.heap.objs.size+1,s1.heap.objs.size],_,_,H1,rfl,I1.kept (t':=s1.toks) hk,turn_enum κ _ _ (Nat.ne_of_gt (Nat.lt_succ_self _)),⟨⟨_,he⟩,hi⟩,fun b hb=>?_,q⟩
  have hge:s1.heap.objs.size≤b:=by
    simp only [List.mem_cons,List.not_mem_nil,or_false] at hb
    rcases hb with rfl | rfl
    · exact Nat.le_succ _
    · exact Nat.le_refl _
  exact I1.fpOk hge (I1.hok.fresh hge)
end
structure ZA (z TI TO i1 i2:Addr) (fp1 fp2:List Addr):Prop where
  TIz:TI≠z
  TOz:TO≠z
  i1z:i1≠z
  i2z:i2≠z
  TITO:TI≠TO
  TIi1:TI≠i1
  TIi2:TI≠i2
  TOi1:TO≠i1
  TOi2:TO≠i2
  i12:i1≠i2
  z1:z ∉ fp1
  z2:z ∉ fp2
  o1:TO ∉ fp1
  o2:TO ∉ fp2
  a1:i2 ∉ fp1
  a2:i1 ∉ fp2
section
variable {prog:Program} {w:World} {A:Around} {E:Value→Shared→Prop} {s:Shared}
end
section
variable {X:Cx}
end
theorem for_enum {κ:SK} {xs:List V} {g:TG} {tb:TS} {D:Ends} {σ:St} {H:Hp} (Pv:Nat→St→Hp→Prop) (h0:Pv 0 σ H) (hl:∀ i σ H,i≤xs.length→Pv i σ H→κ.has H xs)
    (hs:∀ (i:Nat) x σ H p,xs[i]?=some x→Pv i σ H→H p=none→g (.ref p) σ (upd H p (.tup [.int i,x])) fun σ2 H2=>tb { D with nx:=Pv (i+1),ct:=Pv (i+1),bk:=D.nx } σ2 H2) (hd:∀ σ H,Pv xs.length σ H→D.nx σ H) :
    ∃ W:Nat→Nat→St→Hp→Prop,(∃ m,W 0 m σ H)∧∀ i m σ H,W i m σ H →
      ((Ite κ).stop i H∧D.nx σ H)∨((Ite κ).go i H∧∃ N:St→Hp→Prop,(∀ σ' H',N σ' H'→∃ m',m' < m∧W (i+1) m' σ' H')∧∀ x H',(Ite κ).yld i H x H'→g x σ H' fun σ2 H2=>tb { D with nx:=N,ct:=N,bk:=D.nx } σ2 H2):=by
  refine ⟨fun i m σ H=>i≤xs.length∧m=xs.length - i∧Pv i σ H,⟨xs.length,Nat.zero_le _,rfl,h0⟩,fun i m σ H ⟨hi,hm,hp⟩=>?_⟩
  have a1:=hl i σ H hi hp
  rcases Nat.lt_or_ge i xs.length with lt | ge
  · refine .inr ⟨⟨xs,xs[i],a1,List.getElem?_eq_getElem lt⟩,Pv (i+1),fun σ' H' hn=>⟨xs.length - (i+1),by omega,by omega,rfl,hn⟩,fun x H' hy=>?_⟩
    obtain ⟨p,x',rfl,hpn,rfl,e1⟩:=hy
    exact hs i x' σ H p (e1 xs a1) hp hpn
  · have e:i=xs.length:=by omega
    subst e
    exact .inl ⟨⟨xs,a1,rfl⟩,hd σ H hp⟩
def cutS (z:Str) (lo hi:Option Int):Str:=⟨((z.cps.toList.drop (HT.sIx z.length 0 lo)).take (HT.sIx z.length z.length hi - HT.sIx z.length 0 lo)).toArray⟩
theorem clip_s (i:Int) (n d:Nat):max 0 (min (if i < 0 then i+(n:Int) else i) (n:Int))=((HT.sIx n d (some i):Nat):Int):=by
  simp only [HT.sIx]
  split
  · omega
  · omega
theorem range_cut (a b:Nat):sliceRange (a:Int) (b:Int) 1=(List.range (b - a)).map fun k=>a+k:=by
  unfold sliceRange
  simp only [show ((1:Int) > 0)=True from by simp,if_true]
  by_cases hlt:(a:Int) < b
  · have e3:(((b:Int) - a+1 - 1) / 1).toNat=b - a:=by
      rw [Int.ediv_one];omega
    simp only [hlt,if_true,e3]
    refine List.map_congr_left fun k _=>?_
    omega
  · have:b - a=0:=by omega
    simp [hlt,this]
theorem sliceIdx_cut (lo hi:Option Int) (n:Nat):Builtin.Str.strSliceIndices lo hi 1 n=(List.range (HT.sIx n n hi - HT.sIx n 0 lo)).map fun k=>HT.sIx n 0 lo+k:=by
  unfold Builtin.Str.strSliceIndices
  simp only [show ((1:Int) > 0)=True from by simp,if_true]
  cases lo with
  | none=>
    cases hi with
    | none=>exact range_cut 0 n
    | some j=>dsimp only;rw [clip_s j n n];exact range_cut 0 _
  | some i=>
    cases hi with
    | none=>dsimp only;rw [clip_s i n 0];exact range_cut _ n
    | some j=>dsimp only;rw [clip_s i n 0,clip_s j n n];exact range_cut _ _
theorem slice_text (z:Str) (t:Tok) (l u:Option (Int × Tok)):∀ (Q:Value→Shared→Prop) (s:Shared),z.length≤sizeLine→(∀ t' s',s'.heap=s.heap→s'.gens=s.gens→s'.drawn=s.drawn→s'.os=s.os→Q (.str (cutS z (l.map (·.1)) (u.map (·.1))) t') s')→(sliceMade z t l u none).post Q s:=by
  intro Q s hz h
  have hidx:=sliceIdx_cut (l.map (·.1)) (u.map (·.1)) z.length
  have hle:HT.sIx z.length z.length (u.map (·.1))≤z.length:=HT.sIx_le _ _ (Nat.le_refl _) _
  have hlo:HT.sIx z.length 0 (l.map (·.1))≤z.length:=HT.sIx_le _ _ (Nat.zero_le _) _
  have hzl:z.length=z.cps.toList.length:=by simp [Str.length]
  have cut:((slicePicked z l u none).filterMap (z.cps[·]?))=(z.cps.toList.drop (HT.sIx z.length 0 (l.map (·.1)))).take (HT.sIx z.length z.length (u.map (·.1)) - HT.sIx z.length 0 (l.map (·.1))):=by
    have p:=StrLaws.picks z.cps.toList (HT.sIx z.length z.length (u.map (·.1)) - HT.sIx z.length 0 (l.map (·.1))) (HT.sIx z.length 0 (l.map (·.1))) (by omega)
    rw [← p]
    unfold slicePicked
    simp only [Option.map_none,Option.getD_none]
    rw [hidx]
    congr 1
    funext k
    simp
  unfold sliceMade
  split
  · rename_i c
    have whole:cutS z (l.map (·.1)) (u.map (·.1))=z:=by
      unfold cutS
      have e:(slicePicked z l u none).length=z.length:=by
        simp only [Bool.and_eq_true,beq_iff_eq] at c
        exact c.2
      have e':HT.sIx z.length z.length (u.map (·.1)) - HT.sIx z.length 0 (l.map (·.1))=z.length:=by
        unfold slicePicked at e
        simp only [Option.map_none,Option.getD_none] at e
        rw [hidx] at e
        simpa using e
      have e0:HT.sIx z.length 0 (l.map (·.1))=0:=by omega
      rw [e',e0,List.drop_zero,hzl,List.take_length]
    have:=h t s rfl rfl rfl rfl
    rw [whole] at this
    exact this
  · rw [cut]
    have hl':(⟨((z.cps.toList.drop (HT.sIx z.length 0 (l.map (·.1)))).take (HT.sIx z.length z.length (u.map (·.1)) - HT.sIx z.length 0 (l.map (·.1)))).toArray⟩:Str).length≤sizeLine:=by
      have:(⟨((z.cps.toList.drop (HT.sIx z.length 0 (l.map (·.1)))).take (HT.sIx z.length z.length (u.map (·.1)) - HT.sIx z.length 0 (l.map (·.1)))).toArray⟩:Str).length≤z.length:=by
        simp only [Str.length,List.size_toArray,List.length_take,List.length_drop]
        have:z.cps.size=z.length:=rfl
        omega
      omega
    first
      | exact ⟨hl',h _ _ rfl rfl rfl rfl⟩
      | exact h _ _ rfl rfl rfl rfl
def rSlS:V→Option Int→Option Int→Hp→VK→Prop:=fun x lo hi H Q=>∃ z,x=.str z∧z.length≤sizeLine∧Q (.str (cutS z lo hi)) H
theorem sl_str {X:Cx}:SlR X rSlS:=by
  intro pins s σ H x v vl vu lo hi sl Q I rx hs pl pu h
  obtain ⟨z,rfl,hz,q⟩:=h
  obtain ⟨t,rfl⟩:=rx
  refine ⟨"str", _,F.slot_str_getitem.lookup,typeIs_str s z t,?_⟩
  have part:∀ {v:Value} {o:Option Int},IsPart v o→∃ p:Option (Int × Tok),v=partValue p∧p.map (·.1)=o:=fun {v o} p=>by
    cases p with
    | none=>exact ⟨none,rfl,rfl⟩
    | int i t=>exact ⟨some (i,t),rfl,rfl⟩
  obtain ⟨l,rfl,rfl⟩:=part pl
  obtain ⟨u,rfl,rfl⟩:=part pu
  refine wpAny_getItem_str_slice (l:=l) (u:=u) (st:=none) hs rfl (slice_text z t l u _ s hz fun t' s' e1 e2 e3 e4=>⟨.str _,H,?_,⟨t',rfl⟩,q⟩)
  obtain ⟨hp,g,d,tk,os⟩:=s'
  cases e1;cases e2;cases e3;cases e4
  exact I.tok tk
theorem call_isinst {X:Cx}:CallR X (.builtin "isinstance") (fun vs H Q=>∃ x t T b,vs=[x,.ty T]∧TyOf X.K H x t∧PySem.W.kitOne X.K t (.type T)=some b∧Q (.bl b) H):=by
  intro pins s σ H xs us Q I r h
  obtain ⟨x,t,T,b,rfl,ty,e,q⟩:=h
  obtain ⟨u,v,rfl,ru,rv⟩:=vals2 r
  cases (show v=Value.type T from rv)
  exact isinst_ok I ru ty e fun tk=>⟨.bl b,H,I.tok tk,rfl,q⟩
end L2
namespace L2
open PySem PySem.Spec PyProof.Rows
theorem csc {X:Cx} {scope:Scope} {NL:List Str} {ix:List Nat} (esc:Scope) (N:List Str) (h1:X.env.scope=esc:=by rfl) (h2:X.N=N:=by rfl) (c1:scope.kind=.function:=by rfl)
    (c2:∀ y∈scope.names,y.2≠.cell:=by decide +kernel) (c3:∀ y∈scope.names,y.2=.local→scope.names.lookup y.1=some .local:=by decide +kernel)
    (c4:∀ y∈scope.names,y.2=.free→esc.names.lookup y.1=some .cell∨esc.names.lookup y.1=some .free:=by decide +kernel)
    (c5:∀ j∈ix,(N[j]?).bind (fun x=>scope.names.lookup x)=some .free:=by decide +kernel):CompScope X scope NL ix where
  kind:=c1
  cell:=c2
  names:=c3
  free:=fun y hy hf=>by
    have:=c4 y hy hf
    rw [← h1] at this
    exact this
  cap:=fun j hj=>by
    have:=c5 j hj
    rw [h2]
    cases e:N[j]? with
    | none=>rw [e] at this;cases this
    | some x=>rw [e] at this;exact ⟨x,rfl,this⟩
def Has (P:Program) (w:World) (K:PySem.W.Frag) (mg:Str→Option Value) (base:Heap) (x:Str) (k:Nat) (ps:List Str) (sp:Sp):Prop:=
  ∃ f fd,FnOk P w K mg base CX0 k f fd ps sp∧Binds K fd ps []∧PySem.W.keepIn K (.ref f)=true∧mg x=some (.ref f)
section
variable {P:Program} {w:World} {K:PySem.W.Frag} {mg:Str→Option Value} {base:Heap}
theorem Has.mono {x:Str} {j k:Nat} {ps:List Str} {sp:Sp} (G:Has P w K mg base x j ps sp) (h:j≤k):Has P w K mg base x k ps sp:=
  let ⟨f,fd,F,r⟩:=G;⟨f,fd,F.mono h,r⟩
def Df (K:PySem.W.Frag) (mg:Str→Option Value) (x:Str) (st:Stmt):Prop:=∃ f fd,Fun K x x st f fd∧mg x=some (.ref f)
theorem Df.has {x:Str} {st:Stmt} {N ps:List Str} {k:Nat} {sp:Sp} (D:Df K mg x st) (S:FnScope N ps (defScope st))
    (hb:∀ (kV doc pm:Value) (an:Option Addr) (cdv ct:Value) (us:List Value),us.length=ps.length→bindArgs (PySem.W.fnOf x x (defArgs st) (defBody st) (defScope st) .none kV doc pm an cdv ct) ⟨us,[]⟩=pure (ps.zip us))
    (len:∀ vs H Q E,sp vs H Q E→vs.length=ps.length)
    (hbody:∀ (f:Addr) (cdv:Value) (A:Around) (outer:List Env) (s:Shared) (H:Hp) (vs:List V) (Q:VK) (E:XK),Room k (A.deeper (envOfC x (defScope st) s.heap.objs.size f cdv))→sp vs H Q E →
      ∃ t,PSs (cxOf CX0 P w K mg base N x (defScope st) f cdv A outer s H E).nox (defBody st) t∧t { nx:=fun _ H'=>Q .non H',rt:=Q } (start N vs) H):Has P w K mg base x (k+1) ps sp:=by
  obtain ⟨f,fd,F,m⟩:=D
  exact ⟨f,fd,F.ok S len fun cdv A outer s H vs Q E hr h=>hbody f cdv A outer s H vs Q E hr h,F.binds hb,F.kp,m⟩
end
theorem pe_callH {X:Cx} {x:Str} {k:Nat} {ps:List Str} {sp:Sp} {p pos:Pos} {e:Expr} {es:List Expr} {t:TA} (G:Has X.prog X.w X.K X.mg X.base x k ps sp) (hr:Room k X.A) (hg:Gl X x) (ha:PA X (e :: es) t)
    (hdb:(x == ("__debug__" : Str))=false:=by decide) (he:starEach (e :: es) X.env=(false,eval e X.env) :: starEach es X.env:=by rfl) (hpl:(backTo pos (starEach es X.env)).any (·.1)=false:=by rfl) :
    PE X (.Call (.Name x p) (e :: es) [] pos) (tCall sp [] E0 t):=by
  obtain ⟨f,fd,F,b,kp,m⟩:=G
  exact pe_call F hr hg m kp b .nil pass0 ha hdb he hpl
structure Blt (mg:Str→Option Value):Prop where
  len:mg "len" = none
  range:mg "range" = none
  zip:mg "zip" = none
  enumerate:mg "enumerate" = none
  max:mg "max" = none
  min:mg "min" = none
  int_:mg "int" = none
  str_:mg "str" = none
  bool_:mg "bool" = none
  list_:mg "list" = none
  tuple_:mg "tuple" = none
  isinstance:mg "isinstance" = none
abbrev Pool (H:Hp) (p:Addr):Prop:=∃ x y:Int,H p=some (.lst [.int x,.int y])
structure Kp (p:Addr) (H H':Hp):Prop where
  pool:Pool H' p
  keep:∀ b o,b≠p→H b=some o→H' b=some o
section
variable {p q:Addr} {H H1 H2:Hp} {o:HO}
theorem Kp.refl (h:Pool H p):Kp p H H:=⟨h,fun _ _ _ e=>e⟩
theorem Kp.trans (a:Kp p H H1) (b:Kp p H1 H2):Kp p H H2:=⟨b.pool,fun c u hc e=>b.keep c u hc (a.keep c u hc e)⟩
theorem Kp.new (a:Kp p H H1) (hq:H1 q=none):Kp p H (upd H1 q o):=by
  obtain ⟨⟨x,y,e⟩,k⟩:=a
  refine ⟨⟨x,y,by rw [upd_ne (ne_of_none e hq)];exact e⟩,fun c u hc h=>?_⟩
  have:=k c u hc h
  rw [upd_ne (ne_of_none this hq)];exact this
theorem Kp.write (a:Kp p H H1) (hq:H q=none) (hp:q≠p):Kp p H (upd H1 q o):=by
  obtain ⟨⟨x,y,e⟩,k⟩:=a
  refine ⟨⟨x,y,by rw [upd_ne (Ne.symm hp)];exact e⟩,fun c u hc h=>?_⟩
  rw [upd_ne (ne_of_none h hq)];exact k c u hc h
theorem Pool.ne (h:Pool H p) (hq:H q=none):q≠p:=by
  obtain ⟨x,y,e⟩:=h
  exact Ne.symm (ne_of_none e hq)
end
theorem bt_len:bootBuiltins "len" = some (.builtin "len"):=by decide +kernel
theorem bt_max:bootBuiltins "max" = some (.builtin "max"):=by decide +kernel
theorem bt_min:bootBuiltins "min" = some (.builtin "min"):=by decide +kernel
theorem bt_all:bootBuiltins "all" = some (.builtin "all"):=by decide +kernel
theorem bt_isinstance:bootBuiltins "isinstance" = some (.builtin "isinstance"):=by decide +kernel
theorem bt_int:bootBuiltins "int" = some (.type "int"):=by decide +kernel
theorem bt_str:bootBuiltins "str" = some (.type "str"):=by decide +kernel
theorem bt_bool:bootBuiltins "bool" = some (.type "bool"):=by decide +kernel
theorem bt_list:bootBuiltins "list" = some (.type "list"):=by decide +kernel
theorem bt_tuple:bootBuiltins "tuple" = some (.type "tuple"):=by decide +kernel
theorem Same.new {H0 H:Hp} {q:Addr} {o:HO} (h:Same H0 H) (hq:H q=none):Same H0 (upd H q o):=fun b u e=>by
  have:=h b u e
  rw [upd_ne (ne_of_none this hq)];exact this
theorem Same.write {H0 H:Hp} {q:Addr} {o:HO} (h:Same H0 H) (hq:H0 q=none):Same H0 (upd H q o):=fun b u e=>by
  rw [upd_ne (ne_of_none e hq)];exact h b u e
theorem app_list (a y:Str):(a++y).cps.toList=a.cps.toList++y.cps.toList:=by
  show (a.cps++y.cps).toList=_
  simp
end L2
namespace L2
open PySem PySem.Spec PyProof.Rows
section
variable {X:Cx}
theorem pg_tupK (K:PySem.W.Frag) {es:List Expr} {k:Nat} {t:TGs} {n:Nat} {pos:Pos} (hc:X.calm=true) (h:PGs X es t) (hK:X.K=K:=by rfl) (hn:(assignEach es X.env).length=n:=by rfl)
    (hst:(assignEach es X.env).findIdx? (·.1)=none:=by rfl):PG X (.Tuple es k pos) (gTup K n t):=by
  subst hK
  exact pg_tup hc h hn hst
theorem strsAre_of:∀ {ys:List Str} {us:List Value},Vals (ys.map V.str) us→StrsAre us ys
  | [],[],_=>.nil
  | [],_ :: _,h=>nomatch h
  | _ :: _,[],h=>nomatch h
  | y :: r,u :: us,h=>by
    cases h with
    | cons a b=>
      obtain ⟨t,rfl⟩:=a
      exact .cons y t (strsAre_of b)
theorem mt_join:MtR X "str.join" (fun x vs H Q=>∃ z a ys,x=.str z∧vs=[.ref a]∧SqL X.K H a (ys.map V.str)∧(ys.map (·.length)).sum+ys.length * z.length≤16777216∧Q (.str (Txt.join z ys)) H):=by
  intro pins s σ H x xs v us Q I rx rv h
  obtain ⟨z,a,ys,rfl,rfl,hl,hok,q⟩:=h
  obtain ⟨t,rfl⟩:=rx
  obtain ⟨u,rfl,ru⟩:=rv.one
  cases (show u=Value.ref a from ru)
  obtain ⟨its,r,ht,hz⟩:=I.list hl
  exact join_list ht.isList (strsAre_of (by simpa using r)) hok fun t' k=>⟨.str _,H,I.tok k,⟨t',rfl⟩,q⟩
def eqAtJ (xs ys:List V) (j:Nat):Bool:=match xs[j]?,ys[j]? with
  | some x,some y=>eqV x y
  | _,_=>false
def eqVs (xs ys:List V):Bool:=xs.length == ys.length && (List.range xs.length).all (eqAtJ xs ys)
theorem eqVs_strs (ns ms:List Str):eqVs (ns.map V.str) (ms.map V.str)=decide (ns=ms):=by
  rw [Bool.eq_iff_iff]
  unfold eqVs
  simp only [Bool.and_eq_true,beq_iff_eq,List.length_map,List.all_eq_true,List.mem_range,decide_eq_true_eq]
  constructor
  · rintro ⟨h1,h2⟩
    apply List.ext_getElem h1
    intro j a b
    have:=h2 j a
    unfold eqAtJ at this
    rw [List.getElem?_map,List.getElem?_map,List.getElem?_eq_getElem a,List.getElem?_eq_getElem b] at this
    simpa [eqV] using this
  · rintro rfl
    refine ⟨rfl,fun j hj=>?_⟩
    unfold eqAtJ
    rw [List.getElem?_map,List.getElem?_eq_getElem hj]
    simp [eqV]
theorem flat_ints (ns:List Int):(ns.map V.int).all flatV=true:=by
  rw [List.all_eq_true];intro x hx;obtain ⟨n,_,rfl⟩:=List.mem_map.mp hx;rfl
theorem flat_strs (ns:List Str):(ns.map V.str).all flatV=true:=by
  rw [List.all_eq_true];intro x hx;obtain ⟨n,_,rfl⟩:=List.mem_map.mp hx;rfl
theorem eqAt_items {A:Around} {s:Shared} {xs ys:List V} {us ws:List Value} (r1:Vals xs us) (r2:Vals ys ws) (f1:xs.all flatV=true) (f2:ys.all flatV=true) (j:Nat) (h1:j < us.toArray.size) (h2:j < ws.toArray.size) :
    SeqAt.EqAt A s us.toArray[j] ws.toArray[j] (eqAtJ xs ys j):=by
  have g1:j < xs.length:=by rw [r1.length];simpa using h1
  have g2:j < ys.length:=by rw [r2.length];simpa using h2
  obtain ⟨u,e1,q1⟩:=r1.get (List.getElem?_eq_getElem g1)
  obtain ⟨v,e2,q2⟩:=r2.get (List.getElem?_eq_getElem g2)
  have d1:us.toArray[j]=u:=by
    rw [List.getElem?_eq_getElem (by simpa using h1)] at e1
    simpa using Option.some.inj e1
  have d2:ws.toArray[j]=v:=by
    rw [List.getElem?_eq_getElem (by simpa using h2)] at e2
    simpa using Option.some.inj e2
  rw [d1,d2]
  unfold eqAtJ
  rw [List.getElem?_eq_getElem g1,List.getElem?_eq_getElem g2]
  exact eqAt_V q1 q2 (List.all_eq_true.mp f1 _ (List.getElem_mem g1)) (List.all_eq_true.mp f2 _ (List.getElem_mem g2))
theorem op_eq_lst (hu:X.A.units < cLine):OpR X (compareOp .Eq) (fun x y H Q=>∃ a b xs ys,x=.ref a∧y=.ref b∧SqL X.K H a xs∧SqL X.K H b ys∧xs.all flatV=true∧ys.all flatV=true∧Q (.bl (eqVs xs ys)) H):=by
  intro pins s σ H x y v u Q I rx ry h
  obtain ⟨a,b,xs,ys,rfl,rfl,h1,h2,f1,f2,q⟩:=h
  cases (show v=Value.ref a from rx)
  cases (show u=Value.ref b from ry)
  obtain ⟨us,r1,l1,_⟩:=I.list h1
  obtain ⟨ws,r2,l2,_⟩:=I.list h2
  have e1:=r1.length
  have e2:=r2.length
  by_cases hl:xs.length=ys.length
  · refine SeqAt.eq_listAt (e:=eqAtJ xs ys) l1.isList l2.isList (by simp;omega) hu (fun j g1 g2=>eqAt_items r1 r2 f1 f2 j g1 g2) ⟨.bl _,H,I,rfl,?_⟩
    have:eqVs xs ys=(List.range us.toArray.size).all (eqAtJ xs ys):=by
      unfold eqVs
      rw [List.size_toArray,← e1,beq_iff_eq.mpr hl,Bool.true_and]
    rw [← this];exact q
  · refine SeqAt.eq_list_lengthsAt l1.isList l2.isList (by simp;omega) hu ⟨.bl _,H,I,rfl,?_⟩
    have:eqVs xs ys=false:=by
      unfold eqVs
      have:(xs.length == ys.length)=false:=by simpa using hl
      rw [this];rfl
    rw [this] at q;exact q
end
section
variable {NL:List Str} {ix:List Nat} {g:TG} {tt:TT} {te:TE} {σ:St} {H1:Hp} {Qs:Hp→Prop} {acc:Addr}
theorem comp_lst {K:PySem.W.Frag} {a:Addr} {xs:List V} (hn:xs.length < 1000) (Pv:Nat→List V→Hp→Prop)
    (hl:∀ i ys H2,Pv i ys H2→SqL K H2 a xs) (hacc:∀ i ys H2,Pv i ys H2→H2 acc=some (.lst ys)∧ys.length≤i) (h0:Pv 0 [] (upd H1 acc (.lst []))) (hstop:∀ ys H2,Pv xs.length ys H2→Qs H2)
    (hturn:∀ i x ys H2,xs[i]?=some x→Pv i ys H2→g x (comp0 NL ix σ) H2 fun σ' H4=>σ'.drop NL.length=ix.map (fun j=>σ.getD j none)∧tt σ' H4 fun b H5=>
      if b=true then te σ' H5 fun v H6=>H6 acc=some (.lst ys)∧Pv (i+1) (ys++[v]) (upd H6 acc (.lst (ys++[v]))) else Pv (i+1) ys H5) :
    ∃ W:Nat→Nat→List V→Hp→Prop,(∃ m,W 0 m [] (upd H1 acc (.lst []))) ∧
    ∀ i m ys H2,W i m ys H2→H2 acc=some (.lst ys)∧ys.length < sizeLine ∧
      (((Itl K a).stop i H2∧Qs H2)∨((Itl K a).go i H2∧∃ N:List V→Hp→Prop,(∀ ys' H',N ys' H'→∃ m',m' < m∧W (i+1) m' ys' H') ∧
        ∀ x H3,(Itl K a).yld i H2 x H3→g x (comp0 NL ix σ) H3 fun σ' H4=>σ'.drop NL.length=ix.map (fun j=>σ.getD j none)∧tt σ' H4 fun b H5=>
          if b=true then te σ' H5 fun v H6=>H6 acc=some (.lst ys)∧N (ys++[v]) (upd H6 acc (.lst (ys++[v]))) else N ys H5)):=by
  refine comp_by xs.length hn Pv hacc h0 (fun ys H2 hp=>⟨⟨xs,hl _ _ _ hp,Nat.le_refl _⟩,hstop ys H2 hp⟩) fun i ys H2 hi hp=>?_
  have hs:=hl _ _ _ hp
  refine ⟨⟨xs,xs[i],hs,List.getElem?_eq_getElem hi⟩,?_⟩
  rintro x H3 ⟨rfl,hx⟩
  exact hturn i x ys H3 (hx xs hs) hp
theorem comp_enum {κ:SK} {xs:List V} (hn:xs.length < 1000) (Pv:Nat→List V→Hp→Prop)
    (hl:∀ i ys H2,Pv i ys H2→κ.has H2 xs) (hacc:∀ i ys H2,Pv i ys H2→H2 acc=some (.lst ys)∧ys.length≤i) (h0:Pv 0 [] (upd H1 acc (.lst []))) (hstop:∀ ys H2,Pv xs.length ys H2→Qs H2)
    (hturn:∀ (i:Nat) x ys H2 p,xs[i]?=some x→Pv i ys H2→H2 p=none→g (.ref p) (comp0 NL ix σ) (upd H2 p (.tup [.int i,x])) fun σ' H4=>σ'.drop NL.length=ix.map (fun j=>σ.getD j none)∧tt σ' H4 fun b H5=>
      if b=true then te σ' H5 fun v H6=>H6 acc=some (.lst ys)∧Pv (i+1) (ys++[v]) (upd H6 acc (.lst (ys++[v]))) else Pv (i+1) ys H5) :
    ∃ W:Nat→Nat→List V→Hp→Prop,(∃ m,W 0 m [] (upd H1 acc (.lst []))) ∧
    ∀ i m ys H2,W i m ys H2→H2 acc=some (.lst ys)∧ys.length < sizeLine ∧
      (((Ite κ).stop i H2∧Qs H2)∨((Ite κ).go i H2∧∃ N:List V→Hp→Prop,(∀ ys' H',N ys' H'→∃ m',m' < m∧W (i+1) m' ys' H') ∧
        ∀ x H3,(Ite κ).yld i H2 x H3→g x (comp0 NL ix σ) H3 fun σ' H4=>σ'.drop NL.length=ix.map (fun j=>σ.getD j none)∧tt σ' H4 fun b H5=>
          if b=true then te σ' H5 fun v H6=>H6 acc=some (.lst ys)∧N (ys++[v]) (upd H6 acc (.lst (ys++[v]))) else N ys H5)):=by
  refine comp_by xs.length hn Pv hacc h0 (fun ys H2 hp=>⟨⟨xs,hl _ _ _ hp,rfl⟩,hstop ys H2 hp⟩) fun i ys H2 hi hp=>?_
  have hs:=hl _ _ _ hp
  refine ⟨⟨xs,xs[i],hs,List.getElem?_eq_getElem hi⟩,?_⟩
  rintro x H3 ⟨p,x',rfl,hpn,rfl,hx⟩
  exact hturn i x' ys H2 p (hx xs hs) hp hpn
end
theorem kit_int_bool (K:PySem.W.Frag):PySem.W.kitOne K (.type "int") (.type "bool")=some false:=by rfl
theorem kit_same (K:PySem.W.Frag) (T:String):PySem.W.kitOne K (.type T) (.type T)=some true:=by
  unfold PySem.W.kitOne
  rw [if_pos (beq_self_eq_true _)]
abbrev Deck (H:Hp) (p:Addr) (c:Int):Prop:=∃ x y z:Int,H p=some (.lst [.int x,.int y,.int z])∧0≤z∧z≤c
structure Kd (p:Addr) (c:Int) (H H':Hp):Prop where
  deck:Deck H' p c
  keep:∀ b o,b≠p→H b=some o→H' b=some o
section
variable {p q:Addr} {H H1 H2:Hp} {o:HO} {c d:Int}
theorem Deck.mono (h:Deck H p c) (e:c≤d):Deck H p d:=let ⟨x,y,z,a,b,f⟩:=h;⟨x,y,z,a,b,Int.le_trans f e⟩
theorem Kd.mono (h:Kd p c H H1) (e:c≤d):Kd p d H H1:=⟨h.deck.mono e,h.keep⟩
theorem Kd.refl (h:Deck H p c):Kd p c H H:=⟨h,fun _ _ _ e=>e⟩
theorem Kd.trans (a:Kd p c H H1) (b:Kd p d H1 H2):Kd p d H H2:=⟨b.deck,fun k u hc e=>b.keep k u hc (a.keep k u hc e)⟩
theorem Kd.new (a:Kd p c H H1) (hq:H1 q=none):Kd p c H (upd H1 q o):=by
  obtain ⟨⟨x,y,z,e,r⟩,k⟩:=a
  refine ⟨⟨x,y,z,by rw [upd_ne (ne_of_none e hq)];exact e,r⟩,fun b u hc h=>?_⟩
  have:=k b u hc h
  rw [upd_ne (ne_of_none this hq)];exact this
theorem Kd.write (a:Kd p c H H1) (hq:H q=none) (hp:q≠p):Kd p c H (upd H1 q o):=by
  obtain ⟨⟨x,y,z,e,r⟩,k⟩:=a
  refine ⟨⟨x,y,z,by rw [upd_ne (Ne.symm hp)];exact e,r⟩,fun b u hc h=>?_⟩
  rw [upd_ne (ne_of_none h hq)];exact k b u hc h
theorem Deck.ne (h:Deck H p c) (hq:H q=none):q≠p:=by
  obtain ⟨x,y,z,e,_⟩:=h
  exact Ne.symm (ne_of_none e hq)
theorem Kd.same (a:Kd p c H H1) (s:Same H1 H2):Kd p c H H2:=by
  obtain ⟨⟨x,y,z,e,r⟩,k⟩:=a
  exact ⟨⟨x,y,z,s _ _ e,r⟩,fun b u hc h=>s _ _ (k b u hc h)⟩
theorem Kd.fresh (a:Kd p c H H1) (hq:H1 q=none):H q=none:=by
  cases e:H q with
  | none=>rfl
  | some u=>
    have:=a.keep q u (a.deck.ne hq) e
    rw [hq] at this;cases this
end
end L2
namespace L2
open PySem PySem.Spec PyProof.Rows
section
variable {X:Cx}
theorem op_ne_lst (hu:X.A.units < cLine):OpR X (compareOp .NotEq) (fun x y H Q=>∃ a b xs ys,x=.ref a∧y=.ref b∧SqL X.K H a xs∧SqL X.K H b ys∧xs.all flatV=true∧ys.all flatV=true∧Q (.bl (!eqVs xs ys)) H):=by
  intro pins s σ H x y v u Q I rx ry h
  obtain ⟨a,b,xs,ys,rfl,rfl,h1,h2,f1,f2,q⟩:=h
  cases (show v=Value.ref a from rx)
  cases (show u=Value.ref b from ry)
  obtain ⟨us,r1,l1,_⟩:=I.list h1
  obtain ⟨ws,r2,l2,_⟩:=I.list h2
  have e1:=r1.length
  have e2:=r2.length
  by_cases hl:xs.length=ys.length
  · refine SeqAt.RcNeAt.lists (e:=eqAtJ xs ys) l1.isList l2.isList (by simp;omega) hu (fun j g1 g2=>eqAt_items r1 r2 f1 f2 j g1 g2) _ _ _ _ ⟨.bl _,H,I,rfl,?_⟩
    have:eqVs xs ys=(List.range us.toArray.size).all (eqAtJ xs ys):=by
      unfold eqVs
      rw [List.size_toArray,← e1,beq_iff_eq.mpr hl,Bool.true_and]
    rw [← this];exact q
  · refine SeqAt.RcNeAt.lists_lengths l1.isList l2.isList (by simp;omega) hu _ _ _ _ ⟨.bl _,H,I,rfl,?_⟩
    have:eqVs xs ys=false:=by
      unfold eqVs
      have:(xs.length == ys.length)=false:=by simpa using hl
      rw [this];rfl
    rw [this] at q;exact q
end
end L2
namespace L2
open PySem PySem.Spec PyProof.Rows
section
variable {X:Cx}
theorem strsAre_get {vs:List Value} {ss:List Str} (h:StrsAre vs ss):Vals (ss.map V.str) vs:=by
  induction h with
  | nil=>exact .nil
  | cons y t _ ih=>exact .cons ⟨t,rfl⟩ ih
theorem range_all (bs:List Bool):(List.range bs.length).all (fun i=>bs.getD i true)=bs.all id:=by
  rw [Bool.eq_iff_iff,List.all_eq_true,List.all_eq_true]
  constructor
  · intro h b hb
    obtain ⟨i,hi,rfl⟩:=List.getElem_of_mem hb
    have:=h i (List.mem_range.mpr hi)
    rw [List.getD_eq_getElem?_getD,List.getElem?_eq_getElem hi] at this
    exact this
  · intro h i hi
    have hi':=List.mem_range.mp hi
    rw [List.getD_eq_getElem?_getD,List.getElem?_eq_getElem hi']
    exact h _ (List.getElem_mem hi')
theorem call_all (hc:X.calm=true):CallR X (.builtin "all") (fun vs H Q=>∃ (a:Addr) (bs:List Bool),vs=[.ref a]∧SqL X.K H a (bs.map V.bl)∧Q (.bl (bs.all id)) H):=by
  intro pins s σ H xs us Q I r h
  obtain ⟨a,bs,rfl,hl,q⟩:=h
  obtain ⟨u,rfl,ru⟩:=vals1 r
  cases (show u=Value.ref a from ru)
  obtain ⟨its,rv,ht,hz⟩:=I.list hl
  have hlen:=rv.length
  rw [List.length_map] at hlen
  have hh:X.A.in1.handled=none:=I.ok.hd hc
  have hlt:a < s.heap.objs.size:=by obtain ⟨o,e,_⟩:=ht.isList;exact Heap.lt_size e
  refine call_all_walk (wpAny_pyIter_list ht.isList ⟨s.heap.objs.size,_,_,_,_,_,fun i=>bs.getD i true,rfl,Walks.list hh s.heap.objs.size a (Nat.ne_of_lt hlt) its.toArray,?_,?_,?_⟩)
  · exact ⟨⟨_,Heap.get?_push_size _ rfl,rfl,rfl⟩,Heap.IsList.push ht.isList _⟩
  · intro i v s' Q' E' hv hQ
    have hv':its[i]?=some v:=by simpa using hv
    have hi:i < (bs.map V.bl).length:=by rw [List.length_map,hlen];exact (List.getElem?_eq_some_iff.mp hv').1
    obtain ⟨u',e1,e2⟩:=rv.get (List.getElem?_eq_getElem hi)
    rw [hv'] at e1
    cases e1
    rw [List.getElem_map] at e2
    cases (show v=Value.bool _ from e2)
    refine wpAny_truthy_bool ?_
    have hb:bs.getD i true=bs[i]'(by simpa using hi):=by rw [List.getD_eq_getElem?_getD,List.getElem?_eq_getElem (by simpa using hi)];rfl
    rw [← hb]
    exact hQ
  · intro h' tk hk
    refine ⟨.bl (bs.all id),H,?_,?_,q⟩
    · exact I.kept (t':=tk) fun b o e=>hk b o (by simp;exact Nat.ne_of_lt (Heap.lt_size e)) (Heap.get?_push_of_some _ e)
    · show Value.bool _=Value.bool _
      rw [← range_all,hlen,List.size_toArray]
end
end L2
namespace L2
open PySem.W PyProof.Rows
section
variable {α β:Type} {n:Nat} {lt:Nat→Nat→Bool}
structure TotB (n:Nat) (lt:Nat→Nat→Bool):Prop where
  asym:∀ i j,lt i j=true→lt j i=false
  tr:∀ i j k,lt j i=false→lt k j=false→lt k i=false
  tot:∀ i j,i < n→j < n→lt i j=false→lt j i=false→i=j
def PermN (n:Nat) (p:Array Nat):Prop:=p.toList.Perm (List.range n)
theorem PermN.sz {p:Array Nat} (h:PermN n p):p.size=n:=by
  have:=List.Perm.length_eq h
  simpa using this
theorem PermN.below {p:Array Nat} (h:PermN n p) (h0:0 < n) (k:Nat):p.getD k 0 < n:=by
  rw [Array.getD_eq_getD_getElem?]
  cases e:p[k]? with
  | none=>exact h0
  | some x=>
    have:x∈p.toList:=by
      have:=Array.mem_of_getElem? e
      exact Array.mem_toList_iff.mpr this
    exact List.mem_range.mp ((List.Perm.mem_iff h).mp this)
theorem PermN.inj {p:Array Nat} (h:PermN n p) {i j:Nat} (hi:i < n) (hj:j < n) (e:p.getD i 0=p.getD j 0):i=j:=by
  have nd:p.toList.Nodup:=(List.Perm.nodup_iff h).mpr List.nodup_range
  have s:=h.sz
  have hi':i < p.toList.length:=by rw [Array.length_toList,s];exact hi
  have hj':j < p.toList.length:=by rw [Array.length_toList,s];exact hj
  rw [Array.getD_eq_getD_getElem?,Array.getD_eq_getD_getElem?,Array.getElem?_eq_getElem (by omega),Array.getElem?_eq_getElem (by omega)] at e
  have e':p.toList[i]=p.toList[j]:=by simpa using e
  exact (List.getElem_inj nd).mp e'
variable (o:TotB n lt)
include o
end
open PySem PySem.Spec
def shV:V→Nat
  | .int _=>1
  | .str _=>2
  | _=>0
def ltV:V→V→Bool
  | .int i,.int j=>decide (i < j)
  | .str a,.str b=>decide (a.cps.toList < b.cps.toList)
  | _,_=>false
def lexV:List V→List V→Bool
  | x :: xs,y :: ys=>if x=y then lexV xs ys else ltV x y
  | [],_ :: _=>true
  | _,_=>false
theorem str_eq {a b:Str} (h:a.cps.toList=b.cps.toList):a=b:=by
  obtain ⟨x⟩:=a;obtain ⟨y⟩:=b
  have:x=y:=Array.toList_inj.mp h
  rw [this]
theorem two_kinds {x y:V} (hs:shV x=shV y) (h0:shV x≠0):(∃ i j,x=.int i∧y=.int j)∨∃ a b,x=.str a∧y=.str b:=by
  cases x <;> cases y <;> simp [shV] at hs h0 ⊢
theorem ltV_asym {x y:V} (h:ltV x y=true):ltV y x=false:=by
  cases x <;> cases y <;> simp [ltV] at h ⊢
  · omega
  · exact List.not_lt.mp (List.lt_asymm h)
theorem ltV_tot {x y:V} (hs:shV x=shV y) (h0:shV x≠0) (h1:ltV x y=false) (h2:ltV y x=false):x=y:=by
  rcases two_kinds hs h0 with ⟨i,j,rfl,rfl⟩ | ⟨a,b,rfl,rfl⟩
  · have h1':¬ i < j:=of_decide_eq_false h1
    have h2':¬ j < i:=of_decide_eq_false h2
    rw [show i=j by omega]
  · have h1':¬ a.cps.toList < b.cps.toList:=of_decide_eq_false h1
    have h2':¬ b.cps.toList < a.cps.toList:=of_decide_eq_false h2
    rw [str_eq (List.le_antisymm (List.not_lt.mp h2') (List.not_lt.mp h1'))]
theorem ltV_tr {x y z:V} (hs:shV x=shV y) (ht:shV y=shV z) (h0:shV x≠0) (h1:ltV y x=false) (h2:ltV z y=false):ltV z x=false:=by
  rcases two_kinds hs h0 with ⟨i,j,rfl,rfl⟩ | ⟨a,b,rfl,rfl⟩
  · rcases two_kinds ht (by simp [shV]) with ⟨_,k,e,rfl⟩ | ⟨_,_,e,_⟩
    · have h1':¬ j < i:=of_decide_eq_false h1
      cases e
      have h2':¬ k < j:=of_decide_eq_false h2
      exact decide_eq_false (by omega)
    · cases e
  · rcases two_kinds ht (by simp [shV]) with ⟨_,_,e,_⟩ | ⟨_,c,e,rfl⟩
    · cases e
    · cases e
      have h1':¬ b.cps.toList < a.cps.toList:=of_decide_eq_false h1
      have h2':¬ c.cps.toList < b.cps.toList:=of_decide_eq_false h2
      exact decide_eq_false (List.not_lt.mpr (List.le_trans (List.not_lt.mp h1') (List.not_lt.mp h2')))
theorem lexV_asym:∀ (xs ys:List V),lexV xs ys=true→lexV ys xs=false
  | x :: xs,y :: ys,h=>by
    unfold lexV at h ⊢
    by_cases e:x=y
    · rw [if_pos e] at h;rw [if_pos e.symm];exact lexV_asym xs ys h
    · rw [if_neg e] at h;rw [if_neg (Ne.symm e)];exact ltV_asym h
  | [],_ :: _,_=>rfl
  | [],[],h=>by cases h
  | _ :: _,[],h=>by cases h
theorem lexV_tot:∀ (xs ys:List V),xs.map shV=ys.map shV→0 ∉ xs.map shV→lexV xs ys=false→lexV ys xs=false→xs=ys
  | x :: xs,y :: ys,hs,h0,h1,h2=>by
    simp only [List.map_cons,List.cons.injEq] at hs
    simp only [List.map_cons,List.mem_cons,not_or] at h0
    unfold lexV at h1 h2
    by_cases e:x=y
    · rw [if_pos e] at h1;rw [if_pos e.symm] at h2
      rw [e,lexV_tot xs ys hs.2 h0.2 h1 h2]
    · rw [if_neg e] at h1;rw [if_neg (Ne.symm e)] at h2
      exact absurd (ltV_tot hs.1 (Ne.symm h0.1) h1 h2) e
  | [],[],_,_,_,_=>rfl
  | [],_ :: _,hs,_,_,_=>by cases hs
  | _ :: _,[],hs,_,_,_=>by cases hs
theorem lexV_tr:∀ (xs ys zs:List V),xs.map shV=ys.map shV→ys.map shV=zs.map shV→0 ∉ xs.map shV→lexV ys xs=false→lexV zs ys=false→lexV zs xs=false
  | x :: xs,y :: ys,z :: zs,hs,ht,h0,h1,h2=>by
    simp only [List.map_cons,List.cons.injEq] at hs ht
    simp only [List.map_cons,List.mem_cons,not_or] at h0
    unfold lexV at h1 h2 ⊢
    by_cases e:y=x
    · rw [if_pos e] at h1
      by_cases f:z=y
      · rw [if_pos f] at h2;rw [if_pos (f.trans e)];exact lexV_tr xs ys zs hs.2 ht.2 h0.2 h1 h2
      · rw [if_neg f] at h2;rw [if_neg (fun q=>f (q.trans e.symm)),← e];exact h2
    · rw [if_neg e] at h1
      by_cases f:z=y
      · rw [if_pos f] at h2;rw [if_neg (fun q=>e (f.symm.trans q)),f];exact h1
      · rw [if_neg f] at h2
        by_cases g:z=x
        · exact absurd (ltV_tot hs.1.symm (by rw [← hs.1];exact Ne.symm h0.1) h1 (by rw [← g];exact h2)) e
        · rw [if_neg g];exact ltV_tr hs.1 ht.1 (Ne.symm h0.1) h1 h2
  | [],[],[],_,_,_,_,_=>rfl
  | [],_ :: _,_,hs,_,_,_,_=>by cases hs
  | _ :: _,[],_,hs,_,_,_,_=>by cases hs
  | [],[],_ :: _,_,ht,_,_,_=>by cases ht
  | _ :: _,_ :: _,[],_,ht,_,_,_=>by cases ht
structure Keys (n:Nat) (K:Nat→List V) (sh:List Nat):Prop where
  shp:∀ i,(K i).map shV=sh
  ne:sh≠[]
  z:0 ∉ sh
  inj:∀ i j,i < n→j < n→K i=K j→i=j
theorem Keys.tot {n:Nat} {K:Nat→List V} {sh:List Nat} (k:Keys n K sh):TotB n (fun i j=>lexV (K i) (K j)) where
  asym:=fun i j h=>lexV_asym _ _ h
  tr:=fun i j l h1 h2=>lexV_tr _ _ _ ((k.shp i).trans (k.shp j).symm) ((k.shp j).trans (k.shp l).symm) (by rw [k.shp];exact k.z) h1 h2
  tot:=fun i j hi hj h1 h2=>k.inj i j hi hj (lexV_tot _ _ ((k.shp i).trans (k.shp j).symm) (by rw [k.shp];exact k.z) h1 h2)
section
variable {prog:Program} {w:World} {A:Around} {E:Value→Shared→Prop} {s:Shared} {Q:Bool→Shared→Prop}
def KeysOn (h:Heap) (ks:List Value) (K:Nat→List V):Prop:=∀ (i:Nat) (v:Value),ks[i]?=some v→∃ a its,v=.ref a∧IsTup h a its.toArray∧Vals (K i) its
theorem KeysOn.keeps {h h':Heap} {ks:List Value} {K:Nat→List V} (x:KeysOn h ks K) (k:∀ b o,o.cls=.type "tuple" → h.get? b=some o→h'.get? b=some o):KeysOn h' ks K:=fun i v hv=>by
  obtain ⟨a,its,rfl,⟨o,ho,hc,r⟩,q⟩:=x i v hv
  exact ⟨a,its,rfl,⟨o,k _ _ hc ho,hc,r⟩,q⟩
variable {n:Nat} {K:Nat→List V} {sh:List Nat} {ks:List Value}
end
end L2
namespace L2
open PySem PySem.Spec PyProof.Rows PySem.W
def codeO (c:Addr) (qual:Str):HO:=.ext fun h=>h.CodeRec (.ref c) qual
def LamAt (P:Addr) (lp:Pos) (qual:Str) (H:Hp):Prop:=∃ ps,H P=some (.tbl ps)∧TriplesOk ps.toList∧(codeAmong lp ps.toList=none∨∃ c,codeAmong lp ps.toList=some (.ref c)∧H c=some (codeO c qual))
abbrev Lm:=Addr × Pos × Str
def Lams (ls:List Lm) (H:Hp):Prop:=∀ l∈ls,LamAt l.1 l.2.1 l.2.2 H
structure Kt (ls:List Lm) (H H':Hp):Prop where
  lam:Lams ls H'
  keep:∀ b o,(∀ ps,o≠.tbl ps)→H b=some o→H' b=some o
  here:∀ b,H' b=none→H b=none
section
variable {P q:Addr} {lp:Pos} {qual:Str} {H H1 H2:Hp} {o:HO} {ls:List Lm} {xs:List V}
theorem LamAt.same (a:LamAt P lp qual H) (s:Same H H1):LamAt P lp qual H1:=by
  obtain ⟨ps,a,b,c⟩:=a
  refine ⟨ps,s _ _ a,b,?_⟩
  rcases c with c | ⟨d,c,e⟩
  · exact .inl c
  · exact .inr ⟨d,c,s _ _ e⟩
theorem LamAt.start (h:H P=some (.tbl #[])):LamAt P lp qual H:=⟨#[],h,trivial,.inl rfl⟩
theorem Lams.same (a:Lams ls H) (s:Same H H1):Lams ls H1:=fun l hl=>(a l hl).same s
theorem LamAt.write (a:LamAt P lp qual H) (h:H q=some (.lst xs)):LamAt P lp qual (upd H q o):=by
  obtain ⟨ps,a,b,c⟩:=a
  refine ⟨ps,by rw [upd_ne (ne_of a h (by intro z;cases z))];exact a,b,?_⟩
  rcases c with c | ⟨d,c,e⟩
  · exact .inl c
  · exact .inr ⟨d,c,by rw [upd_ne (ne_of e h (by intro z;cases z))];exact e⟩
theorem Kt.refl (a:Lams ls H):Kt ls H H:=⟨a,fun _ _ _ e=>e,fun _ e=>e⟩
theorem Kt.trans (a:Kt ls H H1) (b:Kt ls H1 H2):Kt ls H H2:=⟨b.lam,fun c u hc e=>b.keep c u hc (a.keep c u hc e),fun c e=>a.here c (b.here c e)⟩
theorem Kt.same (a:Kt ls H H1) (s:Same H1 H2):Kt ls H H2:=⟨a.lam.same s,fun c u hc e=>s _ _ (a.keep c u hc e),fun c e=>a.here c (s.free e)⟩
theorem Kt.of (s:Same H H1) (a:Lams ls H):Kt ls H H1:=(Kt.refl a).same s
theorem Kt.write (a:Kt ls H H1) (hq:H q=none) (h:H1 q=some (.lst xs)):Kt ls H (upd H1 q o):=
  ⟨fun l hl=>(a.lam l hl).write h,fun b u hb e=>by rw [upd_ne (ne_of_none e hq)];exact a.keep b u hb e,fun b e=>by
    by_cases z:b=q
    · rw [z,upd_same] at e;cases e
    · rw [upd_ne z] at e;exact a.here b e⟩
theorem Kt.lst (a:Kt ls H H1) (h:H q=some (.lst xs)):H1 q=some (.lst xs):=a.keep _ _ (fun _ z=>by cases z) h
theorem Kt.tup (a:Kt ls H H1) (h:H q=some (.tup xs)):H1 q=some (.tup xs):=a.keep _ _ (fun _ z=>by cases z) h
theorem Kt.seq {K:PySem.W.Frag} (a:Kt ls H H1) (h:SqL K H q xs):SqL K H1 q xs:=by
  rcases h with (h | ⟨ob,h⟩) | h
  · exact .inl (.inl (a.lst h))
  · exact .inl (.inr ⟨ob,a.keep _ _ (fun _ z=>by cases z) h⟩)
  · exact .inr h
end
section
variable {X:Cx} {pins:List (Addr × Obj)} {σ:St} {H:Hp} {s:Shared}
end
end L2
namespace L2
open PySem PySem.Spec PyProof.Rows PySem.W
structure TabAt (base:Heap) (mg:Str→Option Value) (nm:Str) (T:Addr):Prop where
  fn:∃ a o fd c,mg nm=some (.ref a)∧base.get? a=some o∧o.data=.func fd∧fd.code=.ref c∧CodeHd base c T
  blt:base.BuiltinsAt mg T
inductive Two {α β:Type} (R:α→β→Prop):List α→List β→Prop
  | nil:Two R [] []
  | cons {a b xs ys}:R a b→Two R xs ys→Two R (a :: xs) (b :: ys)
end L2
namespace L2
open PySem PySem.Spec PyProof.Rows PySem.W
theorem ix_listK {X:Cx} (K:PySem.W.Frag) (hK:X.K=K:=by rfl):IxR X (rIxL K):=by
  subst hK;exact ix_list
theorem call_isinstK {X:Cx} (K:PySem.W.Frag) (hK:X.K=K:=by rfl):CallR X (.builtin "isinstance") (fun vs H Q=>∃ x t T b,vs=[x,V.ty T]∧TyOf K H x t∧PySem.W.kitOne K t (Value.type T)=some b∧Q (V.bl b) H):=by
  subst hK;exact call_isinst
end L2
namespace L2
open PySem PySem.Spec PyProof.Rows PySem.W
theorem ints_showable {ns:List Int} (h:∀ n∈ns,n.natAbs < 10 ^ 12):PyData.showable (.list (ns.map .int))=true:=by
  simp only [PyData.showable]
  refine PyData.showableAll_ints ns fun n hn=>?_
  rcases Nat.eq_zero_or_pos n.natAbs with z | z
  · rw [z];decide
  · exact (Nat.log2_lt (by omega)).mpr (Nat.lt_of_lt_of_le (Nat.lt_trans (h n hn) (show 10 ^ 12 < 2 ^ 40 by decide)) (Nat.pow_le_pow_right (by decide) (by decide)))
section
variable {X:Cx} {k:Nat}
theorem bt_repr:bootBuiltins "repr" = some (.builtin "repr"):=by kernel_rfl
theorem ix_tupK (K:PySem.W.Frag) (hK:X.K=K:=by rfl):IxR X (rIxT K):=by
  subst hK;exact ix_tup
end
end L2
namespace L2
open PySem PySem.Spec PyProof.Rows PySem.W
end L2
namespace L2
open PySem PySem.Spec PyProof.Rows PySem.W
theorem weight_ints:∀ ns:List Int,(∀ n∈ns,n.natAbs < 10 ^ 12)→PyData.weightAll (ns.map .int)≤42 * ns.length
  | [],_=>by simp [PyData.weightAll]
  | n :: r,h=>by
    have a:=weight_ints r fun m hm=>h m (List.mem_cons_of_mem _ hm)
    have b:PyData.weight (.int n)≤41:=by
      simp only [PyData.weight]
      split
      · omega
      · rename_i z
        have nz:n.natAbs≠0:=fun e=>z (by rw [Int.natAbs_eq_zero.mp e];rfl)
        have:=(Nat.log2_lt nz (k:=40)).mpr (Nat.lt_trans (h n List.mem_cons_self) (by decide))
        omega
    simp only [List.map_cons,PyData.weightAll,List.length_cons]
    omega
section
variable {X:Cx} {k:Nat}
end
end L2
namespace L2
open PySem PySem.Spec PyProof.Rows PySem.W
section
variable {X:Cx} {e st:Expr} {te:TE} {ts:TO} {pos p2:Pos}
end
section
variable {X:Cx} {k:Nat}
end
section
variable {X:Cx} {k:Nat}
end
end L2
namespace L2
open PySem PySem.Spec PyProof.Rows PySem.W
def keyOf (e:Int × Value):Str:=match e.2 with | .str x _=>x | _=>Str.empty
structure SetS (w:World) (led:Bool) (es:Array (Int × Value)) (t:SetTable) (S:List Str):Prop where
  ent:∀ e∈es.toList,∃ x tk,e=(hashStr w x,Value.str x tk)
  nd:(es.toList.map keyOf).Nodup
  mem:∀ x,x∈es.toList.map keyOf ↔ x∈S
  fit:t.fits es.size=true
  led:t.led=led
  pl:es.size=0∨t.plain=false
theorem relay_led (t:SetTable) (es:Array (Int × Value)) (n:Nat):(relayAll t es n).2.1.led=t.led∧(t.plain=false→(relayAll t es n).2.1.plain=false):=by
  unfold relayAll
  cases e:t.relaid (es.map (·.1)) n with
  | none=>exact ⟨rfl,fun _=>rfl⟩
  | some p=>
    obtain ⟨t',order⟩:=p
    dsimp only
    have hl:t'.led=t.led∧t'.plain=t.plain:=by
      unfold SetTable.relaid SetTable.laid at e
      cases e2:SetTable.layClean (SetTable.sizeAbove n - 1) (es.map (·.1)) with
      | none=>rw [e2] at e;cases e
      | some o=>
        rw [e2] at e
        injection e with e
        injection e with e1 e3
        rw [← e1]
        exact ⟨rfl,rfl⟩
    split
    · exact ⟨hl.1,fun h=>by rw [hl.2];exact h⟩
    · exact ⟨rfl,fun _=>rfl⟩
theorem or_led (t:SetTable) (n:Nat):(t.orStandIn n).led=t.led:=by
  unfold SetTable.orStandIn
  split <;> rfl
theorem lay_led (t:SetTable) (es:Array (Int × Value)) (h:Int) (x:Value):(layNew t es h x).2.1.led=t.led:=by
  unfold layNew
  cases e:t.freeSlot h with
  | none=>rfl
  | some p=>
    obtain ⟨slot,wd⟩:=p
    exact or_led _ _
theorem keyOf_perm {a b:List (Int × Value)} (p:a.Perm b):(a.map keyOf).Perm (b.map keyOf):=p.map _
theorem SetS.grow {w:World} {led:Bool} {es es':Array (Int × Value)} {t t':SetTable} {S:List Str} {x:Str} {tk:Tok} (h:SetS w led es t S) (nx:x ∉ S) (p:es'.toList.Perm (es.push (hashStr w x,.str x tk)).toList) (f:t'.fits es'.size=true) (l:t'.led=led) (q:t'.plain=false):SetS w led es' t' (S++[x]) where
  ent:=fun e he=>by
    have:=p.mem_iff.mp he
    rw [Array.toList_push] at this
    rcases List.mem_append.mp this with z | z
    · exact h.ent e z
    · exact ⟨x,tk,List.mem_singleton.mp z⟩
  nd:=by
    rw [(keyOf_perm p).nodup_iff,Array.toList_push,List.map_append,List.nodup_append]
    refine ⟨h.nd,by simp,fun a ha b hb=>?_⟩
    have hb':b=x:=by simpa [keyOf] using hb
    subst hb'
    exact fun e=>nx (by rw [← e];exact (h.mem a).mp ha)
  mem:=fun y=>by
    rw [(keyOf_perm p).mem_iff,Array.toList_push,List.map_append,List.mem_append,List.mem_append,h.mem y]
    simp [keyOf]
  fit:=f
  led:=l
  pl:=.inr q
theorem SetS.relay {w:World} {led:Bool} {es:Array (Int × Value)} {t:SetTable} {S:List Str} (h:SetS w led es t S) (q:t.plain=false) (n:Nat):SetS w led (relayAll t es n).1 (relayAll t es n).2.1 S where
  ent:=fun e he=>h.ent e ((relayAll_perm t es n).mem_iff.mp he)
  nd:=by rw [(keyOf_perm (relayAll_perm t es n)).nodup_iff];exact h.nd
  mem:=fun y=>by rw [(keyOf_perm (relayAll_perm t es n)).mem_iff];exact h.mem y
  fit:=relayAll_fits t es n
  led:=(relay_led t es n).1.trans h.led
  pl:=.inr ((relay_led t es n).2 q)
structure SetA (w:World) (led:Bool) (h:Heap) (a:Addr) (S:List Str) (n:Nat):Prop where
  ex:∃ es ep t,h.get? a=some { cls:=.type "set", data:=.set es ep t }∧SetS w led es t S∧es.size≤n
section
variable {prog:Program} {w:World} {A:Around} {E:Value→Shared→Prop} {s:Shared}
theorem store_set {a:Addr} {es es':Array (Int × Value)} {ep:Nat} {t t':SetTable} {Q:Unit→Shared→Prop} (ha:s.heap.get? a=some { cls:=.type "set", data:=.set es ep t }) (hz:es'.size≤sizeLine)
    (h:∀ h',Heap.SameBut a s.heap h'→h'.get? a=some { cls:=.type "set", data:=.set es' (ep+1) t' }→Q () { s with heap:=h' }):wpAny (model prog w) A (storeSet a es' t') Q E s:=by
  unfold storeSet
  refine wpAny_bind (wpAny_load ha ?_)
  dsimp only
  rw [if_neg (by omega)]
  refine wpAny_update ha (h _ (Heap.SameBut.update ..) ?_)
  rw [Heap.get?_update_self _ ha rfl]
  rfl
theorem gave_ok {b:Bool} {Q:Unit→Shared→Prop} (h:Q () s):wpAny (model prog w) A (match b with | true=>rule "set.scan.the-table-gave-way" | false=>pure ()) Q E s:=by
  cases b with
  | true=>exact wpAny_rule h
  | false=>exact wpAny_pure h
theorem add_text {a:Addr} {S:List Str} {n:Nat} {led:Bool} {x:Str} {tk:Tok} {Q:Bool→Shared→Prop} (ha:SetA w led s.heap a S n) (hn:n+1 < scanBound)
    (h:∀ b h',Heap.SameBut a s.heap h'→SetA w led h' a (S++[x]) (n+1)→Q b { s with heap:=h',toks:=s.toks+1 }):wpAny (model prog w) A (setAdd a (.str x tk)) Q E s:=by
  obtain ⟨es,ep,t,hget,hS,hsz⟩:=ha
  have hsc:scanBound=4096:=rfl
  have is:(strKind prog w).is x (.str x tk)=true:=by show (x == x)=true;exact beq_self_eq_true x
  have elems:ElemsOf (strKind prog w) es.toList:=fun e he=>by
    obtain ⟨y,tk',rfl⟩:=hS.ent e he
    exact ⟨⟨y,by show (y == y)=true;exact beq_self_eq_true y,rfl⟩,rfl⟩
  unfold setAdd
  refine wpAny_holding (wpAny_bind ((strKind prog w).pyHash is ?_))
  unfold setAddHashed
  refine wpAny_holding ?_
  rw [setAddHashedIn.eq_def]
  show wpAny _ _ (setState a >>= _) _ _ _
  refine wpAny_bind (wpAny_setState_of (s:={ s with toks:=s.toks+1 }) hget rfl hS.fit ?_)
  have bs:byScan (.str x tk) es=true:=by
    unfold byScan
    have h1:(Value.str x tk).scannable=true:=rfl
    have h2:(es.all fun e=>e.2.scannable)=true:=by
      rw [Array.all_eq_true_iff_forall_mem]
      intro e he
      exact (elems e (Array.mem_toList_iff.mpr he)).2
    rw [h1,h2,decide_eq_true (by omega)];rfl
  dsimp only
  rw [if_pos bs]
  refine wpAny_bind ?_
  unfold setAddByScan
  refine wpAny_bind (wpAny_rule (wpAny_bind (wpAny_setScan_of (s:={ s with toks:=s.toks+1 }) is hget rfl hS.fit elems ?_)))
  cases ef:List.findIdx? (fun e=>(strKind prog w).is x e.2) es.toList with
  | some j=>
    dsimp only
    refine wpAny_pure (wpAny_pure ?_)
    have xin:x∈S:=by
      rw [← hS.mem x]
      obtain ⟨hj,hp,_⟩:=List.findIdx?_eq_some_iff_getElem.mp ef
      have hm:=List.getElem_mem hj
      obtain ⟨y,tk',e⟩:=hS.ent _ hm
      rw [e] at hp
      have:y=x:=eq_of_beq (show (y == x)=true from hp)
      subst this
      exact List.mem_map.mpr ⟨_,hm,by rw [e];rfl⟩
    refine h false s.heap (Heap.SameBut.refl ..) ⟨es,ep,t,hget,⟨hS.ent,hS.nd,fun y=>?_,hS.fit,hS.led,hS.pl⟩,by omega⟩
    rw [hS.mem y,List.mem_append]
    constructor
    · exact .inl
    · rintro (z | z)
      · exact z
      · rw [List.mem_singleton.mp z];exact xin
  | none=>
    dsimp only
    have xout:x ∉ S:=fun hin=>by
      rw [← hS.mem x] at hin
      obtain ⟨e,he,ek⟩:=List.mem_map.mp hin
      have:=List.findIdx?_eq_none_iff.mp ef e he
      obtain ⟨y,tk',rfl⟩:=hS.ent e he
      have ey:y=x:=ek
      subst ey
      exact absurd (show (strKind prog w).is y (.str y tk')=true from (by show (y == y)=true;exact beq_self_eq_true y)) (by rw [this];simp)
    have lp:=layNew_perm t es ((strKind prog w).hash x) (.str x tk)
    have lf:=layNew_fits t es ((strKind prog w).hash x) (.str x tk)
    have ll:=lay_led t es ((strKind prog w).hash x) (.str x tk)
    have lz:=lp.length_eq
    rw [Array.length_toList,Array.length_toList,Array.size_push] at lz
    generalize layNew t es ((strKind prog w).hash x) (.str x tk)=L at lp lf ll lz
    obtain ⟨es1,t1,wd,gv⟩:=L
    dsimp only at lp lf ll lz ⊢
    have zl:sizeLine=268435455∨4096≤sizeLine:=.inr (by rw [sizeLine_eq];decide)
    have zz:es1.size≤sizeLine:=by rcases zl with z | z <;> omega
    refine wpAny_bind (gave_ok ?_)
    have fin:∀ t2:SetTable,t2.fits es1.size=true→t2.led=led→t2.plain=false →
        wpAny (model prog w) A (do
          storeSet a es1 t2
          have __do_jp:Unit→Sem (Option Bool):=fun __r=>pure (some true)
          if (!wd && t2.tooFull)=true then
            match relayAll t2 es1 (SetTable.grown es1.size) with
            | (es,t,gave)=>do
              (match gave with | true=>rule "set.scan.the-table-gave-way" | false=>pure ())
              let __r ← storeSet a es t
              __do_jp __r
          else __do_jp ()) (fun r s'=>wpAny (model prog w) A (match r with | some added=>pure added | none=>setAddHashedIn a (.str x tk) ((strKind prog w).hash x) 99999) Q E s') E { s with toks:=s.toks+1 }:=fun t2 f2 l2 p2=>by
      have g:=hS.grow (es':=es1) (t':=t2) (tk:=tk) xout lp f2 l2 p2
      refine wpAny_bind (store_set (s:={ s with toks:=s.toks+1 }) hget zz fun h1 sb1 hg1=>?_)
      dsimp only
      split
      · have gr:=g.relay p2 (SetTable.grown es1.size)
        have rz:=(relayAll_perm t2 es1 (SetTable.grown es1.size)).length_eq
        rw [Array.length_toList,Array.length_toList] at rz
        generalize relayAll t2 es1 (SetTable.grown es1.size)=Rr at gr rz
        obtain ⟨es3,t3,gv3⟩:=Rr
        dsimp only at gr rz ⊢
        refine wpAny_bind (gave_ok ?_)
        refine wpAny_bind (store_set (s:={ s with heap:=h1,toks:=s.toks+1 }) hg1 (by omega) fun h2 sb2 hg2=>?_)
        refine wpAny_pure (wpAny_pure ?_)
        exact h true h2 (sb1.trans sb2) ⟨es3,_,t3,hg2,gr,by omega⟩
      · refine wpAny_pure (wpAny_pure ?_)
        exact h true h1 sb1 ⟨es1,_,t2,hg1,g,by omega⟩
    by_cases hp:t1.plain=true
    · rw [if_pos hp,hashByValue.eq_5]
      refine wpAny_bind (wpAny_pure ?_)
      have ff:=fin { mask:=t1.mask,place:=t1.place,dummies:=t1.dummies,finger:=t1.finger,led:=t1.led,moves:=t1.moves,plain:=false } lf (ll.trans hS.led) rfl
      exact ff
    · rw [if_neg hp]
      refine wpAny_bind (wpAny_pure ?_)
      have ff:=fin t1 lf (ll.trans hS.led) (by simpa using hp)
      exact ff
end
end L2
namespace L2
open PySem PySem.Spec PyProof.Rows PySem.W
def ledOf (w:World):Bool:=!w.params.followText "set-order"
section
variable {prog:Program} {w:World} {A:Around} {E:Value→Shared→Prop} {s:Shared}
theorem by_text {Q:Bool→Shared→Prop} (h:Q (w.params.followText "set-order") s):wpAny (model prog w) A setsByText Q E s:=by
  unfold setsByText
  exact wpAny_bind (wpAny_askSetting (wpAny_pure h))
theorem code_set_new_led (a:Value) {Q₁:Value→Shared→Prop} (h:Q₁ (.ref s.heap.objs.size) { s with heap:=s.heap.push { cls:=.type "set", data:=.set #[] 0 (SetTable.fresh 0 0 (ledOf w)) } }) :
    codeAny (model prog w) A (.call (.builtin "set.__new__") ⟨[.type "set", a],[]⟩) (wants Q₁ E) s:=by
  refine codeAny_call_builtin F.plain_set_new F.entry_set_new ?_
  rw [F.newCall_set_1]
  refine wpAny_pure ?_
  unfold Builtin.«set.__new__» Builtin.Frozenset.newClass
  dsimp only
  refine wpAny_bind (wpAny_bind ?_)
  show wpAny _ _ (pure true) _ _ _
  refine wpAny_pure ?_
  rw [if_neg (by decide)]
  refine wpAny_bind ?_
  rw [F.sub_set_set]
  refine wpAny_pure ?_
  rw [if_neg (by decide)]
  refine wpAny_pure ?_
  unfold newSet
  refine wpAny_bind (wpAny_bind (by_text ?_))
  dsimp only
  refine wpAny_newObj_type ?_
  exact wpAny_pure h
theorem SetA.keeps {led:Bool} {h h':Heap} {a:Addr} {S:List Str} {n:Nat} (x:SetA w led h a S n) (k:∀ o,h.get? a=some o→h'.get? a=some o):SetA w led h' a S n:=by
  obtain ⟨es,ep,t,e,r⟩:=x
  exact ⟨es,ep,t,k _ e,r⟩
theorem SetA.start {h:Heap} {a:Addr} {led:Bool} (e:h.get? a=some { cls:=.type "set", data:=.set #[] 0 (SetTable.fresh 0 0 led) }):SetA w led h a [] 0:=
  ⟨#[],0,_,e,⟨fun x hx=>by simp at hx,by simp,fun x=>by simp,by rfl,rfl,.inl rfl⟩,Nat.le_refl _⟩
theorem SetA.typeIs {led:Bool} {a:Addr} {S:List Str} {n:Nat} (x:SetA w led s.heap a S n):s.TypeIs (.ref a) "set" := by
  obtain ⟨es,ep,t,e,r⟩:=x
  exact ⟨_,e,rfl⟩
theorem set_loop {led:Bool} {l I S:Addr} {items:Array Value} {ss:List Str} {R:Result→Shared→Prop} (hv:StrsAre items.toList ss) (hh:A.handled=none) (lI:l≠I) (SI:S≠I) (Sl:S≠l) (hn:items.size+1 < scanBound) :
    ∀ (k i:Nat) (s:Shared),items.size - i=k→i≤items.size→s.heap.IsListIter I l i→s.heap.IsList l items→SetA w led s.heap S (ss.take i) i →
      (∀ h' tk,(∀ b o,b≠I→b≠S→s.heap.get? b=some o→h'.get? b=some o)→SetA w led h' S ss items.size→R (.ok (.ret .none)) { s with heap:=h',toks:=tk }) →
      codeAny (model prog w) A (.builtin "set.update.loop" ⟨[.ref S,.ref I],[]⟩) R s
  | 0,i,s,hk,hi,h1,h2,h3,h=>by
    have ei:i=items.size:=by omega
    subst ei
    refine codeAny_builtin F.entry_set_update_loop ?_
    rw [Around.under_plainId F.plain_set_update_loop _]
    show wpAny _ A.in1 (pyNext (.ref I) >>= _) _ _ s
    have Wk:=Walks.list (prog:=prog) (w:=w) (A:=A.in1) hh I l lI items
    have sl:ss.length=items.size:=by have:=hv.length;simpa using this.symm
    refine wpAny_bind (Wk.done s _ _ ⟨h1,h2⟩ fun h' tk kp=>wpAny_pure ?_)
    refine h h' tk (fun b o n1 _ e=>kp b o (by simpa using n1) e) ?_
    have:=h3.keeps (h':=h') fun o e=>kp S o (by simpa using SI) e
    rw [List.take_of_length_le (by omega)] at this
    exact this
  | k+1,i,s,hk,hi,h1,h2,h3,h=>by
    have il:i < items.size:=by omega
    refine codeAny_builtin F.entry_set_update_loop ?_
    rw [Around.under_plainId F.plain_set_update_loop _]
    show wpAny _ A.in1 (pyNext (.ref I) >>= _) _ _ s
    have Wk:=Walks.list (prog:=prog) (w:=w) (A:=A.in1) hh I l lI items
    have sl:ss.length=items.size:=by have:=hv.length;simpa using this.symm
    refine wpAny_bind (Wk.item i s _ _ il ⟨h1,h2⟩ fun v h' tk hP hSt kp=>?_)
    obtain ⟨x,tkx,rfl,hx⟩:∃ x tkx,v=.str x tkx∧ss[i]?=some x:=by
      have hx:ss[i]?=some (ss[i]'(by omega)):=List.getElem?_eq_getElem _
      obtain ⟨u,e1,e2⟩:=(strsAre_get hv).get (i:=i) (x:=V.str (ss[i]'(by omega))) (by rw [List.getElem?_map,hx];rfl)
      rw [Array.getElem?_toList,hP] at e1
      cases e1
      obtain ⟨tkx,e3⟩:=e2
      exact ⟨_,tkx,e3,hx⟩
    have h3':=h3.keeps (h':=h') fun o e=>kp S o (by simpa using SI) e
    dsimp only
    refine wpAny_bind (wpAny_holding (add_text (s:={ s with heap:=h',toks:=tk }) h3' (by omega) fun b h2' sb hA=>?_))
    refine wpAny_pure ⟨plainId_quiet F.plain_set_update_loop _,?_⟩
    have et:ss.take i++[x]=ss.take (i+1):=by rw [List.take_succ,hx];rfl
    rw [et] at hA
    refine set_loop hv hh lI SI Sl hn k (i+1) { s with heap:=h2',toks:=tk+1 } (by omega) (by omega) ?_ ?_ hA fun h4 tk4 k4 hA4=>?_
    · exact hSt.1.at fun o e=>sb.extBut _ _ (Ne.symm SI) e
    · obtain ⟨o,e,r⟩:=hSt.2
      exact ⟨o,sb.extBut _ _ (Ne.symm Sl) e,r⟩
    · exact h h4 tk4 (fun b o n1 n2 e=>k4 b o n1 n2 (sb.extBut _ _ n2 (kp b o (by simpa using n1) e))) hA4
end
end L2
namespace L2
open PySem PySem.Spec PyProof.Rows PySem.W
section
variable {prog:Program} {w:World} {A:Around} {E:Value→Shared→Prop} {s:Shared}
theorem name_set:typeNameCut 200 (Value.type "set")=pure "set" := by kernel_rfl
theorem set_init {D l:Addr} {items:Array Value} {ss:List Str} {Pf:PySem.Fin→Shared→Prop} (hget:s.heap.get? D=some { cls:=.type "set", data:=.set #[] 0 (SetTable.fresh 0 0 (ledOf w)) }) (hl:s.heap.IsList l items) (Dl:D≠l) (hv:StrsAre items.toList ss) (hh:A.handled=none) (hn:items.size+1 < scanBound)
    (h:∀ h' tk,(∀ b o,b≠D→s.heap.get? b=some o→h'.get? b=some o)→SetA w (ledOf w) h' D ss items.size→Pf (.done (.ret .none)) { s with heap:=h',toks:=tk }) :
    wpAny (model prog w) A (Builtin.«set.__init__» ⟨[.ref D,.ref l],[]⟩) Pf E s:=by
  have hT:s.TypeIs (.ref D) "set" := ⟨_,hget,rfl⟩
  have hTl:s.TypeIs (.ref l) "list" := by obtain ⟨o,e,r,_⟩:=hl;exact ⟨o,e,r⟩
  unfold Builtin.«set.__init__»
  refine wpAny_bind ?_
  unfold noKeywords
  show wpAny _ _ (pure ()) _ _ _
  refine wpAny_pure ?_
  dsimp only
  unfold typeNameOfCut shownTypeOf
  refine wpAny_bind (wpAny_bind (wpAny_bind (wpAny_typeOf hT ?_)))
  rw [if_neg (by decide)]
  refine wpAny_pure ?_
  rw [name_set]
  refine wpAny_pure ?_
  refine wpAny_bind ?_
  unfold checkCount
  show wpAny _ _ (pure ()) _ _ _
  refine wpAny_pure ?_
  refine wpAny_bind ?_
  show wpAny _ _ (pure D) _ _ _
  refine wpAny_pure ?_
  refine wpAny_bind ?_
  unfold setUsed
  refine wpAny_bind (wpAny_setState_of hget rfl rfl (wpAny_pure ?_))
  have hfill:(((#[],0,SetTable.fresh 0 0 (ledOf w)):Array (Int × Value) × Nat × SetTable).2.2.fill != 0)=false:=rfl
  rw [hfill,if_neg (by decide)]
  refine wpAny_bind ?_
  unfold Builtin.Frozenset.updateFrom
  refine wpAny_bind ?_
  unfold Builtin.Frozenset.isAnySet
  refine wpAny_bind (wpAny_isInstance hTl F.sub_list_set ?_)
  refine wpAny_isInstance hTl F.sub_list_frozenset ?_
  rw [if_neg (by decide)]
  refine wpAny_bind (wpAny_typeOf hTl ?_)
  rw [if_neg (by decide)]
  have lD:l < s.heap.objs.size:=by obtain ⟨o,e,_⟩:=hl;exact Heap.lt_size e
  have DD:D < s.heap.objs.size:=Heap.lt_size hget
  refine wpAny_bind (wpAny_pyIter_list hl ?_)
  refine wpAny_bind (wpAny_runValue ?_)
  refine set_loop (led:=ledOf w) (l:=l) hv (show A.handled=none from hh) (Nat.ne_of_lt lD) (Nat.ne_of_lt DD) Dl hn items.size 0 { s with heap:=s.heap.push { cls:=.type "list_iterator", data:=.fields #[.ref l,.int 0 0] } } (Nat.sub_zero _) (Nat.zero_le _) ⟨_,Heap.get?_push_size _ rfl,rfl,rfl⟩ (Heap.IsList.push hl _) (SetA.start (Heap.get?_push_of_some _ hget)) fun h' tk kp hA=>?_
  refine wpAny_pure (wpAny_pure ?_)
  exact h h' tk (fun b o n e=>kp b o (Nat.ne_of_lt (Heap.lt_size e)) n (Heap.get?_push_of_some _ e)) hA
theorem set_call {l:Addr} {items:Array Value} {ss:List Str} {Q:Value→Shared→Prop} (hl:s.heap.IsList l items) (hv:StrsAre items.toList ss) (hh:A.handled=none) (hn:items.size+1 < scanBound)
    (h:∀ h' tk,(∀ b o,s.heap.get? b=some o→h'.get? b=some o)→SetA w (ledOf w) h' s.heap.objs.size ss items.size→Q (.ref s.heap.objs.size) { s with heap:=h',toks:=tk }) :
    wpAny (model prog w) A (call (.type "set") [.ref l]) Q E s:=by
  have hlt:l < s.heap.objs.size:=by obtain ⟨o,e,_⟩:=hl;exact Heap.lt_size e
  obtain ⟨c,tl,hmro⟩:=F.called_set.mro
  refine wpAny_call (codeAny_of_tree ?_)
  show wpAny _ _ (pure (Fin.again (.builtin "type.__call__" ⟨[.type "set", .ref l],[]⟩))) _ _ _
  refine wpAny_pure ⟨Code.quiet_builtin _ (by decide +kernel),codeAny_builtin F.entry_type_call ?_⟩
  rw [Around.under_plain (weight_type_call_type "set" [.ref l] []) rfl]
  unfold Builtin.«type.__call__»
  dsimp only
  rw [if_neg (by decide),if_neg (by rw [F.called_set.canCreate];decide)]
  refine wpAny_bind ?_
  rw [F.typeCall_set_1]
  refine wpAny_pure ?_
  refine wpAny_bind ?_
  rw [hmro]
  refine wpAny_pure ?_
  rw [if_neg (by simp)]
  refine wpAny_bind ?_
  rw [F.called_set.made]
  refine wpAny_pure ?_
  dsimp only
  refine wpAny_bind (wpAny_pure ?_)
  refine wpAny_bind (wpAny_holding (wpAny_call ?_))
  refine code_set_new_led _ ?_
  have hget:(s.heap.push { cls:=.type "set", data:=.set #[] 0 (SetTable.fresh 0 0 (ledOf w)) }).get? s.heap.objs.size=some { cls:=.type "set", data:=.set #[] 0 (SetTable.fresh 0 0 (ledOf w)) }:=Heap.get?_push_size _ rfl
  have hT:({ s with heap:=s.heap.push { cls:=.type "set", data:=.set #[] 0 (SetTable.fresh 0 0 (ledOf w)) } }:Shared).TypeIs (.ref s.heap.objs.size) "set" := ⟨_,hget,rfl⟩
  refine wpAny_bind (wpAny_isInstance hT F.called_set.sub ?_)
  rw [if_neg (by decide)]
  refine wpAny_bind (wpAny_holding ?_)
  refine wpAny_callSpecial?_slot hT F.called_set.init (wpAny_call (codeAny_call_builtin F.called_set.init.plain F.entry_set_init (check_set_init_1 hT ?_)))
  refine set_init (s:={ s with heap:=s.heap.push { cls:=.type "set", data:=.set #[] 0 (SetTable.fresh 0 0 (ledOf w)) } }) hget (Heap.IsList.push hl _) (Ne.symm (Nat.ne_of_lt hlt)) hv hh hn fun h' tk kp hA=>?_
  dsimp only
  rw [if_neg (by decide)]
  refine wpAny_pure ?_
  exact h h' tk (fun b o e=>kp b o (Nat.ne_of_lt (Heap.lt_size e)) (Heap.get?_push_of_some _ e)) hA
end
end L2
namespace L2
open PySem PySem.Spec PyProof.Rows PySem.W
theorem slot_seti_next:Slot "set_iterator" (Str.ofString "__next__") "set_iterator.__next__" := Slot.of (owner := "set_iterator") (n := "__next__") (by kernel_rfl) (by kernel_rfl) (by kernel_rfl) (by kernel_rfl) (.inl (by kernel_rfl)) (by kernel_rfl)
theorem entry_seti_next:entryFor table "set_iterator.__next__" = some Builtin.«set_iterator.__next__»:=by kernel_rfl
theorem entry_set_iter:entryFor table "set.__iter__" = some Builtin.«frozenset.__iter__»:=by kernel_rfl
theorem own_seti:List.lookup (String.ofList ['r','o','t','a','r','e','t','i','_','t','e','s'].reverse) Manifest.owners=some Manifest.sig_set_iterator:=by kernel_rfl
theorem args_seti_next (a:Value):argsOk "set_iterator.__next__" { pos:=[a] }:=by
  show (match Manifest.signature? "set_iterator.__next__" with | some sig=>Bind.checkArgs "set_iterator.__next__" sig { pos:=[a] } | none=>pure ())=pure ()
  rw [signature?_of (id := "set_iterator.__next__") (n:=['_','_','t','x','e','n','_','_']) (o:=['r','o','t','a','r','e','t','i','_','t','e','s']) (by kernel_rfl) own_seti]
  kernel_rfl
theorem perm_pick {α:Type}:∀ {xs:List α} {i:Nat} {x:α},xs[i]?=some x→(x :: xs.eraseIdx i).Perm xs
  | [],i,x,h=>by simp at h
  | y :: ys,0,x,h=>by
    have:y=x:=by simpa using h
    subst this
    exact List.Perm.refl _
  | y :: ys,i+1,x,h=>by
    have ih:=perm_pick (xs:=ys) (i:=i) (x:=x) (by simpa using h)
    rw [List.eraseIdx_cons_succ]
    exact (List.Perm.swap y x _).trans (ih.cons y)
theorem pick_go {α:Type} (next:Nat→Nat):∀ (fuel k:Nat) (left:List α) (out:Array α),left.length=fuel→(pickOrder.go next fuel k left out).toList.Perm (out.toList++left)
  | 0,k,left,out,h=>by
    rw [pickOrder.go.eq_1]
    have:left=[]:=List.length_eq_zero_iff.mp h
    rw [this,List.append_nil]
  | fuel+1,k,left,out,h=>by
    have lt:next k % left.length < left.length:=Nat.mod_lt _ (by omega)
    have e:left[next k % left.length]?=some left[next k % left.length]:=List.getElem?_eq_getElem lt
    rw [pickOrder.go.eq_2,e]
    dsimp only
    refine (pick_go next fuel (k+1) _ _ (by rw [List.length_eraseIdx_of_lt lt];omega)).trans ?_
    rw [Array.toList_push,List.append_assoc]
    exact List.Perm.append_left _ (perm_pick e)
theorem pick_perm {α:Type} (next:Nat→Nat) (xs:Array α):(pickOrder next xs).toList.Perm xs.toList:=by
  unfold pickOrder
  have:=pick_go next xs.size 0 xs.toList #[] (by simp)
  simpa using this
section
variable {prog:Program} {w:World} {A:Around} {E:Value→Shared→Prop}
theorem choose_ok {s:Shared} {src:Source} {n:Nat} {Q:Nat→Shared→Prop} (hn:n≠0) (h:∀ i d,i < n→Q i { s with drawn:=d }):wpAny (model prog w) A (choose src n) Q E s:=by
  intro Γ p hΓ
  unfold choose
  rw [Sem.wp_choose]
  refine ⟨hn,?_⟩
  rw [Sem.wp_pure]
  exact h _ _ (Nat.mod_lt _ (by omega))
theorem draw_ok {α:Type}:∀ (n:Nat) (xs:List α) (s:Shared) (Q:List α→Shared→Prop),xs.length=n→(∀ ys d,ys.Perm xs→Q ys { s with drawn:=d })→wpAny (model prog w) A (drawOrder n xs) Q E s
  | 0,xs,s,Q,h,q=>by
    rw [drawOrder.eq_1]
    have:xs=[]:=List.length_eq_zero_iff.mp h
    subst this
    exact wpAny_pure (q [] s.drawn (List.Perm.refl _))
  | n+1,xs,s,Q,h,q=>by
    rw [drawOrder.eq_3 _ _ (fun e=>by rw [e] at h;cases h)]
    refine wpAny_bind (choose_ok (by omega) fun i d hi=>?_)
    have e:xs[i]?=some xs[i]:=List.getElem?_eq_getElem hi
    rw [e]
    dsimp only
    refine wpAny_bind (draw_ok n (xs.eraseIdx i) _ _ (by rw [List.length_eraseIdx_of_lt hi];omega) fun ys d' hp=>?_)
    exact wpAny_pure (q _ _ ((hp.cons _).trans (perm_pick e)))
theorem below_one (p:Nat):SetTable.below #[p] 0=0∧SetTable.below #[p] (p+1)=1:=by
  constructor
  · simp [SetTable.below,SetTable.below.go]
  · simp [SetTable.below,SetTable.below.go]
abbrev setIt (f:Value) (i:Nat) (D:Addr) (n ep:Nat):Obj:={ cls:=.type "set_iterator", data:=.fields #[f,rawInt (i:Int),.ref D,rawInt (n:Int),rawInt (ep:Int)] }
theorem seti_get {h:Heap} {I:Addr} {f g:Value} {i j:Nat} {D:Addr} {n ep:Nat} (e:h.get? I=some (setIt f i D n ep)):(h.update I (Obj.mapFields fun vs=>vs.setIfInBounds 1 (rawInt ((i:Int)+1)))).get? I=some (setIt f (i+1) D n ep):=by
  rw [Heap.get?_update_self _ e rfl]
  rfl
variable {s:Shared}
theorem seti_stop {I:Addr} {o:Obj} {vs:Array Value} {Pf:PySem.Fin→Shared→Prop} (hh:A.handled=none) (ho:s.heap.get? I=some o) (hd:o.data=.fields vs) (h2:2 < vs.size)
    (hE:∀ h' e,Heap.ExtBut I s.heap h'→(∃ o,h'.get? e=some o∧o.cls=.type "StopIteration")→E (.ref e) { s with heap:=h' }) :
    wpAny (model prog w) A (do setField (.ref I) 2 .none;let __do_lift ← newExc (.type "StopIteration") [];raiseNew __do_lift) Pf E s:=by
  refine wpAny_bind (wpAny_setField ho hd h2 ?_)
  refine wpAny_bind ?_
  simp only [newExc,newTuple]
  refine wpAny_bind (wpAny_newObj_type ?_ (by size_fits))
  refine wpAny_bind (m:=firstArgMember _ _) (wpAny_of_eq (a:=Value.none) (by first | rfl | (simp only [firstArgMember];rfl)) ?_)
  refine wpAny_newObj_type ?_ (by size_fits)
  simp only [raiseNew]
  refine wpAny_bind (wpAny_handled ?_)
  rw [hh]
  refine wpAny_bind (wpAny_pure (wpAny_throw ?_))
  exact hE _ _ (((Heap.SameBut.update ..).extBut.push _).push _) ⟨_,Heap.get?_push_size _ rfl,rfl⟩
theorem seti_pre {I D:Addr} {f:Value} {i ep:Nat} {es:Array (Int × Value)} {t:SetTable} {Pf:PySem.Fin→Shared→Prop} (hI:s.heap.get? I=some (setIt f i D es.size ep)) (hD:s.heap.get? D=some { cls:=.type "set", data:=.set es ep t }) (hf:t.fits es.size=true)
    (h:wpAny (model prog w) A (match f with
          | .int slot tok=>do
            let __do_lift ← setNext D slot.toNat i ep
            match __do_lift with
              | some (x,next)=>do
                setField (.ref I) 0 (rawInt next)
                setField (.ref I) 1 (rawInt ((i:Int)+1))
                ret x
              | none=>do
                setField (.ref I) 2 .none
                let __do_lift ← newExc (.type "StopIteration") []
                raiseNew __do_lift
          | x=>do
            let __x ← seqItems? f
            match __x with
              | some places=>
                match places[i]? with
                | some (.int place tok)=>do
                  let x ← setNextDrawn D place.toNat ep
                  setField (.ref I) 1 (rawInt ((i:Int)+1))
                  ret x
                | some val=>unsupported "internal:set_iterator"
                | none=>do
                  setField (.ref I) 0 (rawInt 0)
                  setField (.ref I) 2 .none
                  let __do_lift ← newExc (.type "StopIteration") []
                  raiseNew __do_lift
              | x=>unsupported "internal:set_iterator") Pf E s) :
    wpAny (model prog w) A (Builtin.«set_iterator.__next__» ⟨[.ref I],[]⟩) Pf E s:=by
  unfold Builtin.«set_iterator.__next__»
  refine wpAny_bind ?_
  show wpAny _ _ (pure (Value.ref I,[])) _ _ _
  refine wpAny_pure ?_
  dsimp only
  refine wpAny_bind (wpAny_fieldsOf hI rfl ?_)
  show wpAny _ _ (setEntries D >>= _) _ _ s
  unfold setEntries
  refine wpAny_bind (wpAny_bind (wpAny_setState_of hD rfl hf (wpAny_pure ?_)))
  dsimp only
  rw [if_neg (by simp)]
  simp only [Int.toNat_natCast]
  exact h
theorem setNext_text {D:Addr} {slot i ep:Nat} {es:Array (Int × Value)} {t:SetTable} {Q:Option (Value × Nat)→Shared→Prop} (bt:w.params.followText "set-order" = true) (hD:s.heap.get? D=some { cls:=.type "set", data:=.set es ep t }) (hf:t.fits es.size=true)
    (h:Q (((pickOrder (w.params.setOrder D ep) es)[i]?).map fun e=>(e.2,slot)) s):wpAny (model prog w) A (setNext D slot i ep) Q E s:=by
  unfold setNext
  refine wpAny_bind (wpAny_setState_of hD rfl hf ?_)
  dsimp only
  refine wpAny_bind (by_text ?_)
  rw [bt,if_pos rfl,if_neg (by simp)]
  unfold setWalk
  refine wpAny_bind (wpAny_bind (wpAny_setState_of hD rfl hf ?_))
  dsimp only
  refine wpAny_bind (by_text ?_)
  rw [bt,if_pos rfl]
  refine wpAny_bind (wpAny_askSetting (wpAny_pure (wpAny_pure h)))
theorem setNext_led {D:Addr} {slot i ep:Nat} {es:Array (Int × Value)} {t:SetTable} {Q:Option (Value × Nat)→Shared→Prop} (bt:w.params.followText "set-order" = false) (hD:s.heap.get? D=some { cls:=.type "set", data:=.set es ep t }) (hf:t.fits es.size=true) (hl:t.led=true) (hz:es.size≤1)
    (h:Q (match es[SetTable.below t.place slot]?,t.place[SetTable.below t.place slot]? with | some (_,x),some j=>some (x,j+1) | _,_=>none) s):wpAny (model prog w) A (setNext D slot i ep) Q E s:=by
  unfold setNext
  refine wpAny_bind (wpAny_setState_of hD rfl hf ?_)
  dsimp only
  refine wpAny_bind (by_text ?_)
  rw [bt,if_neg (by decide)]
  rw [if_neg (by
    show ¬ ((!t.plain && decide (es.size > 1))=true)
    rw [decide_eq_false (by omega)]
    simp)]
  refine wpAny_bind ?_
  show wpAny _ _ (if (!t.led && !es.isEmpty)=true then _ else pure ()) _ _ _
  rw [if_neg (by rw [hl];simp)]
  exact wpAny_pure (wpAny_pure h)
end
end L2
namespace L2
open PySem PySem.Spec PyProof.Rows PySem.W
theorem slot_seti_iter:Slot "set_iterator" (Str.ofString "__iter__") "set_iterator.__iter__" := Slot.of (owner := "set_iterator") (n := "__iter__") (by kernel_rfl) (by kernel_rfl) (by kernel_rfl) (by kernel_rfl) (.inl (by kernel_rfl)) (by kernel_rfl)
theorem entry_seti_iter:entryFor table "set_iterator.__iter__" = some Builtin.«dict_keyiterator.__iter__»:=by kernel_rfl
theorem args_seti_iter (a:Value):argsOk "set_iterator.__iter__" { pos:=[a] }:=by
  show (match Manifest.signature? "set_iterator.__iter__" with | some sig=>Bind.checkArgs "set_iterator.__iter__" sig { pos:=[a] } | none=>pure ())=pure ()
  rw [signature?_of (id := "set_iterator.__iter__") (n:=['_','_','r','e','t','i','_','_']) (o:=['r','o','t','a','r','e','t','i','_','t','e','s']) (by kernel_rfl) own_seti]
  kernel_rfl
section
variable {prog:Program} {w:World} {A:Around}
theorem seti_self {E:Value→Shared→Prop} {s:Shared} {I D:Addr} {f:Value} {i n ep:Nat} {Q:Value→Shared→Prop} (hI:s.heap.get? I=some (setIt f i D n ep)) (q:Q (.ref I) s):wpAny (model prog w) A (pyIter (.ref I)) Q E s:=by
  have hT:s.TypeIs (.ref I) "set_iterator" := ⟨_,hI,rfl⟩
  refine wpAny_pyIter_slot hT slot_seti_iter (wpAny_call_entry slot_seti_iter hT entry_seti_iter ?_ (args_seti_iter _))
  exact wpAny_pure ⟨.ref I,rfl, "set_iterator", _,hT,slot_seti_next.lookup,q⟩
theorem seti_next {E:Value→Shared→Prop} {s:Shared} {I D:Addr} {f:Value} {i n ep:Nat} {Q:Option Value→Shared→Prop} (hI:s.heap.get? I=some (setIt f i D n ep))
    (h:wpAny (model prog w) A.in1 (Builtin.«set_iterator.__next__» ⟨[.ref I],[]⟩) (fun fin s'=>∃ v,fin=Fin.done (Flow.ret v)∧Q (some v) s') (fun e s'=>(∃ o,s'.heap.get? (match e with | .ref a=>a | _=>0)=some o∧o.cls=.type "StopIteration")∧(∃ a,e=.ref a)∧Q none s') s) :
    wpAny (model prog w) A (pyNext (.ref I)) Q E s:=by
  have hT:s.TypeIs (.ref I) "set_iterator" := ⟨_,hI,rfl⟩
  unfold pyNext
  refine wpAny_bind (wpAny_attempt (wpAny_callSpecial?_slot (name:=Str.ofString "__next__") hT slot_seti_next (wpAny_call_entry slot_seti_next hT entry_seti_next ?_ (args_seti_next _))))
  refine wpAny_mono h (fun fin s' hf=>?_) (fun e s' he=>?_)
  · obtain ⟨v,e1,q⟩:=hf
    exact ⟨v,e1,wpAny_pure q⟩
  · obtain ⟨⟨o,ho,hc⟩,⟨a,rfl⟩,q⟩:=he
    refine wpAny_bind (wpAny_isInstance (T := "StopIteration") (b:=true) ⟨o,ho,hc⟩ isSubtype_stop ?_)
    exact wpAny_pure q
abbrev setAt (D:Addr) (es:Array (Int × Value)) (ep:Nat) (t:SetTable) (h:Heap):Prop:=h.get? D=some { cls:=.type "set", data:=.set es ep t }
theorem walks_text (bt:w.params.followText "set-order" = true) (hh:A.handled=none) {I D:Addr} (DI:D≠I) {es:Array (Int × Value)} {ep:Nat} {t:SetTable} (hf:t.fits es.size=true) :
    Walks prog w A I [I,D] [I] es.size (fun i v=>((pickOrder (w.params.setOrder D ep) es).toList.map (·.2))[i]?=some v) (fun i h=>h.get? I=some (setIt (rawInt 0) i D es.size ep)∧setAt D es ep t h) where
  sub:=fun b hb=>by simp at hb;simp [hb]
  frame:=fun i h h' st k=>⟨k I (by simp) _ st.1,k D (by simp) _ st.2⟩
  item:=fun i s Q E hi st hQ=>by
    have pz:(pickOrder (w.params.setOrder D ep) es).size=es.size:=by
      have:=(pick_perm (w.params.setOrder D ep) es).length_eq
      simpa using this
    have e:(pickOrder (w.params.setOrder D ep) es)[i]?=some ((pickOrder (w.params.setOrder D ep) es)[i]'(by omega)):=Array.getElem?_eq_getElem _
    refine seti_next st.1 (seti_pre st.1 st.2 hf ?_)
    show wpAny _ _ (setNext D 0 i ep >>= _) _ _ s
    refine wpAny_bind (setNext_text bt st.2 hf ?_)
    rw [e]
    dsimp only [Option.map_some]
    refine wpAny_bind (wpAny_setField st.1 rfl (by simp) ?_)
    have e1:(s.heap.update I (Obj.mapFields fun vs=>vs.setIfInBounds 0 (rawInt ((0:Nat):Int)))).get? I=some (setIt (rawInt 0) i D es.size ep):=by
      rw [Heap.get?_update_self _ st.1 rfl];rfl
    refine wpAny_bind (wpAny_setField (s:={ s with heap:=s.heap.update I (Obj.mapFields fun vs=>vs.setIfInBounds 0 (rawInt ((0:Nat):Int))) }) e1 rfl (by simp) (wpAny_pure ⟨_,rfl,?_⟩))
    refine hQ _ _ s.toks ?_ ⟨seti_get (g:=rawInt 0) (j:=0) e1,?_⟩ (fun b o hb eb=>?_)
    · rw [List.getElem?_map,Array.getElem?_toList,e];rfl
    · exact (Heap.get?_update_ne _ _ _ _ DI).trans ((Heap.get?_update_ne _ _ _ _ DI).trans st.2)
    · have nb:b≠I:=by simpa using hb
      rw [Heap.get?_update_ne _ _ _ _ nb,Heap.get?_update_ne _ _ _ _ nb];exact eb
  done:=fun s Q E st hQ=>by
    have pz:(pickOrder (w.params.setOrder D ep) es).size=es.size:=by
      have:=(pick_perm (w.params.setOrder D ep) es).length_eq
      simpa using this
    refine seti_next st.1 (seti_pre st.1 st.2 hf ?_)
    show wpAny _ _ (setNext D 0 es.size ep >>= _) _ _ s
    refine wpAny_bind (setNext_text bt st.2 hf ?_)
    rw [Array.getElem?_eq_none (by omega)]
    dsimp only [Option.map_none]
    refine seti_stop (show A.in1.handled=none from hh) st.1 rfl (by simp) fun h' e x ho=>⟨ho,⟨e,rfl⟩,hQ h' s.toks fun b o hb eb=>x b o (by simpa using hb) eb⟩
  self:=fun i s Q E st q=>seti_self st.1 q
theorem walks_led (bt:w.params.followText "set-order" = false) (hh:A.handled=none) {I D:Addr} (DI:D≠I) {es:Array (Int × Value)} {ep:Nat} {t:SetTable} (hf:t.fits es.size=true) (hl:t.led=true) (hz:es.size≤1) :
    Walks prog w A I [I,D] [I] es.size (fun i v=>(es.toList.map (·.2))[i]?=some v) (fun i h=>h.get? I=some (setIt (rawInt (if i=0 then 0 else ((t.place.getD 0 0:Nat):Int)+1)) i D es.size ep)∧setAt D es ep t h) where
  sub:=fun b hb=>by simp at hb;simp [hb]
  frame:=fun i h h' st k=>⟨k I (by simp) _ st.1,k D (by simp) _ st.2⟩
  item:=fun i s Q E hi st hQ=>by
    have i0:i=0:=by omega
    subst i0
    have pz:t.place.size=es.size:=by
      unfold SetTable.fits at hf
      simp only [Bool.and_eq_true,beq_iff_eq] at hf
      exact hf.1
    obtain ⟨p,hp⟩:∃ p,t.place=#[p]:=Array.size_eq_one_iff.mp (by omega)
    obtain ⟨en,hen⟩:∃ en,es=#[en]:=Array.size_eq_one_iff.mp (by omega)
    refine seti_next st.1 (seti_pre st.1 st.2 hf ?_)
    show wpAny _ _ (setNext D 0 0 ep >>= _) _ _ s
    refine wpAny_bind (setNext_led bt st.2 hf hl hz ?_)
    rw [hp,(below_one p).1,hen]
    show wpAny _ _ (do setField (.ref I) 0 (rawInt ((p+1:Nat):Int));setField (.ref I) 1 (rawInt (((0:Nat):Int)+1));ret en.2) _ _ s
    refine wpAny_bind (wpAny_setField st.1 rfl (by simp) ?_)
    have e1:(s.heap.update I (Obj.mapFields fun vs=>vs.setIfInBounds 0 (rawInt ((p+1:Nat):Int)))).get? I=some (setIt (rawInt ((p+1:Nat):Int)) 0 D es.size ep):=by
      rw [Heap.get?_update_self _ st.1 rfl];rfl
    refine wpAny_bind (wpAny_setField (s:={ s with heap:=s.heap.update I (Obj.mapFields fun vs=>vs.setIfInBounds 0 (rawInt ((p+1:Nat):Int))) }) e1 rfl (by simp) (wpAny_pure ⟨_,rfl,?_⟩))
    refine hQ _ _ s.toks ?_ ⟨?_,?_⟩ (fun b o hb eb=>?_)
    · rw [hen];rfl
    · have:=seti_get (g:=rawInt 0) (j:=0) e1
      rw [hp]
      exact this
    · exact (Heap.get?_update_ne _ _ _ _ DI).trans ((Heap.get?_update_ne _ _ _ _ DI).trans st.2)
    · have nb:b≠I:=by simpa using hb
      rw [Heap.get?_update_ne _ _ _ _ nb,Heap.get?_update_ne _ _ _ _ nb];exact eb
  done:=fun s Q E st hQ=>by
    have pz:t.place.size=es.size:=by
      unfold SetTable.fits at hf
      simp only [Bool.and_eq_true,beq_iff_eq] at hf
      exact hf.1
    refine seti_next st.1 (seti_pre st.1 st.2 hf ?_)
    have fin:wpAny (model prog w) A.in1 (do setField (.ref I) 2 .none;let __do_lift ← newExc (.type "StopIteration") [];raiseNew __do_lift) (fun fin s'=>∃ v,fin=Fin.done (Flow.ret v)∧Q (some v) s') (fun e s'=>(∃ o,s'.heap.get? (match e with | .ref a=>a | _=>0)=some o∧o.cls=.type "StopIteration")∧(∃ a,e=.ref a)∧Q none s') s:=
      seti_stop (show A.in1.handled=none from hh) st.1 rfl (by simp) fun h' e x ho=>⟨ho,⟨e,rfl⟩,hQ h' s.toks fun b o hb eb=>x b o (by simpa using hb) eb⟩
    rcases Nat.eq_zero_or_pos es.size with z | z
    · rw [if_pos z]
      show wpAny _ _ (setNext D 0 es.size ep >>= _) _ _ s
      refine wpAny_bind (setNext_led bt st.2 hf hl hz ?_)
      have:es=#[]:=Array.eq_empty_of_size_eq_zero z
      rw [this]
      exact fin
    · rw [if_neg (by omega)]
      obtain ⟨p,hp⟩:∃ p,t.place=#[p]:=Array.size_eq_one_iff.mp (by omega)
      obtain ⟨en,hen⟩:∃ en,es=#[en]:=Array.size_eq_one_iff.mp (by omega)
      have e0:((t.place.getD 0 0:Nat):Int)+1=((p+1:Nat):Int):=by rw [hp];rfl
      rw [e0]
      show wpAny _ _ (setNext D (p+1) es.size ep >>= _) _ _ s
      refine wpAny_bind (setNext_led bt st.2 hf hl hz ?_)
      rw [hp,(below_one p).2,hen]
      exact fin
  self:=fun i s Q E st q=>seti_self st.1 q
theorem walks_drawn (hh:A.handled=none) {I D T:Addr} (DI:D≠I) (TI:T≠I) {es:Array (Int × Value)} {ep:Nat} {t:SetTable} (hf:t.fits es.size=true) {ps:List Nat} (hp:ps.Perm (List.range es.size)) :
    Walks prog w A I [I,D,T] [I] es.size (fun i v=>(ps.map fun p=>(es.toList.getD p (0,.none)).2)[i]?=some v) (fun i h=>h.get? I=some (setIt (.ref T) i D es.size ep)∧setAt D es ep t h∧h.get? T=some { cls:=.type "tuple", data:=.seq (ps.map fun p:Nat=>rawInt (p:Int)).toArray }) where
  sub:=fun b hb=>by simp at hb;simp [hb]
  frame:=fun i h h' st k=>⟨k I (by simp) _ st.1,k D (by simp) _ st.2.1,k T (by simp) _ st.2.2⟩
  item:=fun i s Q E hi st hQ=>by
    have pl:ps.length=es.size:=by have:=hp.length_eq;simpa using this
    have ei:ps[i]?=some (ps[i]'(by omega)):=List.getElem?_eq_getElem _
    have pil:ps[i]'(by omega) < es.size:=List.mem_range.mp (hp.mem_iff.mp (List.getElem_mem _))
    refine seti_next st.1 (seti_pre st.1 st.2.1 hf ?_)
    show wpAny _ _ (seqItems? (.ref T) >>= _) _ _ s
    refine wpAny_bind (wpAny_seqItems st.2.2 rfl ?_)
    dsimp only
    have eg:(ps.map fun p:Nat=>rawInt (p:Int)).toArray[i]?=some (.int ((ps[i]'(by omega):Nat):Int) 0):=by
      rw [List.getElem?_toArray,List.getElem?_map,ei];rfl
    rw [eg]
    dsimp only
    unfold setNextDrawn
    refine wpAny_bind (wpAny_bind (wpAny_setState_of st.2.1 rfl hf ?_))
    dsimp only
    rw [if_neg (by simp),Int.toNat_natCast,Array.getElem?_eq_getElem pil]
    dsimp only
    refine wpAny_pure ?_
    refine wpAny_bind (wpAny_setField st.1 rfl (by simp) (wpAny_pure ⟨_,rfl,?_⟩))
    refine hQ _ _ s.toks ?_ ⟨seti_get (g:=rawInt 0) (j:=0) st.1,?_,?_⟩ (fun b o hb eb=>?_)
    · rw [List.getElem?_map,ei]
      show some ((es.toList.getD (ps[i]'(by omega)) (0,.none)).2)=_
      rw [List.getD_eq_getElem?_getD,Array.getElem?_toList,Array.getElem?_eq_getElem pil];rfl
    · exact (Heap.get?_update_ne _ _ _ _ DI).trans st.2.1
    · rw [Heap.get?_update_ne _ _ _ _ TI];exact st.2.2
    · have nb:b≠I:=by simpa using hb
      rw [Heap.get?_update_ne _ _ _ _ nb];exact eb
  done:=fun s Q E st hQ=>by
    have pl:ps.length=es.size:=by have:=hp.length_eq;simpa using this
    refine seti_next st.1 (seti_pre st.1 st.2.1 hf ?_)
    show wpAny _ _ (seqItems? (.ref T) >>= _) _ _ s
    refine wpAny_bind (wpAny_seqItems st.2.2 rfl ?_)
    dsimp only
    rw [show (ps.map fun p:Nat=>rawInt (p:Int)).toArray[es.size]?=none by rw [List.getElem?_toArray,List.getElem?_map,List.getElem?_eq_none (by omega)];rfl]
    dsimp only
    refine wpAny_bind (wpAny_setField st.1 rfl (by simp) ?_)
    have e1:(s.heap.update I (Obj.mapFields fun vs=>vs.setIfInBounds 0 (rawInt 0))).get? I=some (setIt (rawInt 0) es.size D es.size ep):=by
      rw [Heap.get?_update_self _ st.1 rfl];rfl
    refine seti_stop (s:={ s with heap:=s.heap.update I (Obj.mapFields fun vs=>vs.setIfInBounds 0 (rawInt 0)) }) (show A.in1.handled=none from hh) e1 rfl (by simp) fun h' e x ho=>⟨ho,⟨e,rfl⟩,hQ h' s.toks fun b o hb eb=>x b o (by simpa using hb) (by
      have nb:b≠I:=by simpa using hb
      rw [Heap.get?_update_ne _ _ _ _ nb];exact eb)⟩
  self:=fun i s Q E st q=>seti_self st.1 q
end
end L2
namespace L2
open PySem PySem.Spec PyProof.Rows PySem.W
section
variable {prog:Program} {w:World} {A:Around} {E:Value→Shared→Prop} {s:Shared}
theorem range_map_getD {α β:Type} (f:α→β) (l:List α) (d:α):((List.range l.length).map fun p=>f (l.getD p d))=l.map f:=by
  apply List.ext_getElem
  · simp
  · intro i h1 h2
    simp only [List.length_map] at h2
    rw [List.getElem_map,List.getElem_range,List.getElem_map,List.getD_eq_getElem?_getD,List.getElem?_eq_getElem h2];rfl
theorem set_iter {D:Addr} {es:Array (Int × Value)} {ep:Nat} {t:SetTable} {S:List Str} {Q:Value→Shared→Prop} (hD:setAt D es ep t s.heap) (hS:SetS w (ledOf w) es t S) (hz:es.size≤1000)
    (h:∀ (I:Addr) (fp:List Addr) (St:Nat→Heap→Prop) (vs:List Value) (h1:Heap) (d:Drawn),(∀ A':Around,A'.handled=none→Walks prog w A' I fp [I] es.size (fun i v=>vs[i]?=some v) St)→St 0 h1→s.heap.objs.size≤I→(∀ b∈fp,b < h1.objs.size)→(∀ b o,s.heap.get? b=some o→h1.get? b=some o)→vs.Perm (es.toList.map (·.2))→h1.get? I≠none→(∀ b∈fp,b=I∨b=D∨s.heap.objs.size≤b)→Q (.ref I) { s with heap:=h1,drawn:=d }) :
    wpAny (model prog w) A (pyIter (.ref D)) Q E s:=by
  have hT:s.TypeIs (.ref D) "set" := ⟨_,hD,rfl⟩
  have Dlt:D < s.heap.objs.size:=Heap.lt_size hD
  refine wpAny_pyIter_slot hT F.slot_set_iter (wpAny_call_entry F.slot_set_iter hT entry_set_iter ?_ (F.args_set_iter_1 _))
  unfold Builtin.«frozenset.__iter__» Builtin.Frozenset.slot0
  refine wpAny_bind (wpAny_bind ?_)
  show wpAny _ _ (pure (Value.ref D,[])) _ _ _
  refine wpAny_pure ?_
  show wpAny _ _ (pure D) _ _ _
  refine wpAny_pure ?_
  unfold Builtin.Frozenset.sizeOf setEntries
  refine wpAny_bind (wpAny_bind (wpAny_bind (wpAny_setState_of hD rfl hS.fit (wpAny_pure (wpAny_pure ?_)))))
  unfold setDrawn
  refine wpAny_bind (wpAny_bind (wpAny_setState_of hD rfl hS.fit ?_))
  dsimp only
  refine wpAny_bind (by_text (wpAny_pure ?_))
  have szp:∀ (g:Heap) (o:Obj),(g.push o).objs.size=g.objs.size+1:=fun g o=>Heap.size_push ..
  by_cases dr:(!w.params.followText "set-order" && (!t.plain && decide (es.size > 1)))=true
  · refine wpAny_ite_true ?_ ?_
    · exact decide_eq_true dr
    refine wpAny_bind (draw_ok es.size (List.range es.size) _ _ (by simp) fun ps d hp=>?_)
    have pl:ps.length=es.size:=by have:=hp.length_eq;simpa using this
    unfold newTuple
    refine wpAny_bind (wpAny_newObj_type ?_ (by
      show (ps.map fun i:Nat=>rawInt (i:Int)).toArray.size≤sizeLine
      rw [List.size_toArray,List.length_map,sizeLine_eq];omega))
    unfold setEpoch
    have hD1:setAt D es ep t (s.heap.push { cls:=.type "tuple", data:=.seq (ps.map fun i:Nat=>rawInt (i:Int)).toArray }):=Heap.get?_push_of_some _ hD
    refine wpAny_bind (wpAny_bind (wpAny_setState_of (s:={ s with heap:=s.heap.push { cls:=.type "tuple", data:=.seq (ps.map fun i:Nat=>rawInt (i:Int)).toArray },drawn:=d }) hD1 rfl hS.fit (wpAny_pure ?_)))
    dsimp only
    unfold newFields
    refine wpAny_bind (wpAny_newObj_type ?_)
    refine wpAny_pure ⟨_,rfl, "set_iterator", _,⟨_,Heap.get?_push_size _ rfl,rfl⟩,slot_seti_next.lookup,?_⟩
    have TI:s.heap.objs.size≠(s.heap.push { cls:=.type "tuple", data:=.seq (ps.map fun i:Nat=>rawInt (i:Int)).toArray }).objs.size:=by rw [szp];omega
    have DI:D≠(s.heap.push { cls:=.type "tuple", data:=.seq (ps.map fun i:Nat=>rawInt (i:Int)).toArray }).objs.size:=by rw [szp];exact Nat.ne_of_lt (Nat.lt_succ_of_lt Dlt)
    refine h _ _ _ _ _ d (fun A' hA'=>walks_drawn (T:=s.heap.objs.size) hA' DI TI hS.fit hp) ⟨Heap.get?_push_size _ rfl,Heap.get?_push_of_some _ hD1,Heap.get?_push_of_some _ (Heap.get?_push_size _ rfl)⟩ ?_ ?_ (fun b o e=>Heap.get?_push_of_some _ (Heap.get?_push_of_some _ e)) ?_ ?_ ?_
    · rw [szp];omega
    · intro b hb
      rw [szp,szp]
      simp only [List.mem_cons,List.not_mem_nil,or_false] at hb
      rcases hb with rfl | rfl | rfl
      · rw [szp];exact Nat.lt_succ_self _
      · exact Nat.lt_succ_of_lt (Nat.lt_succ_of_lt Dlt)
      · exact Nat.lt_succ_of_lt (Nat.lt_succ_self _)
    · have:=hp.map (fun p=>(es.toList.getD p (0,.none)).2)
      have e2:=range_map_getD (fun e:Int × Value=>e.2) es.toList (0,.none)
      rw [Array.length_toList] at e2
      rw [e2] at this
      exact this
    · rw [Heap.get?_push_size _ rfl];simp
    · intro b hb
      simp only [List.mem_cons,List.not_mem_nil,or_false] at hb
      rcases hb with rfl | rfl | rfl
      · exact .inl rfl
      · exact .inr (.inl rfl)
      · exact .inr (.inr (Nat.le_refl _))
  · refine wpAny_ite_false ?_ ?_
    · exact decide_eq_false dr
    refine wpAny_bind (wpAny_pure ?_)
    unfold setEpoch
    refine wpAny_bind (wpAny_bind (wpAny_setState_of hD rfl hS.fit (wpAny_pure ?_)))
    dsimp only
    unfold newFields
    refine wpAny_bind (wpAny_newObj_type ?_)
    refine wpAny_pure ⟨_,rfl, "set_iterator", _,⟨_,Heap.get?_push_size _ rfl,rfl⟩,slot_seti_next.lookup,?_⟩
    have DI:D≠s.heap.objs.size:=Nat.ne_of_lt Dlt
    have fpl:∀ b∈[s.heap.objs.size,D],b < (s.heap.push (setIt (rawInt 0) 0 D es.size ep)).objs.size:=fun b hb=>by
      rw [szp]
      simp only [List.mem_cons,List.not_mem_nil,or_false] at hb
      rcases hb with rfl | rfl
      · exact Nat.lt_succ_self _
      · exact Nat.lt_succ_of_lt Dlt
    have fpw:∀ b∈[s.heap.objs.size,D],b=s.heap.objs.size∨b=D∨s.heap.objs.size≤b:=fun b hb=>by
      simp only [List.mem_cons,List.not_mem_nil,or_false] at hb
      rcases hb with rfl | rfl
      · exact .inl rfl
      · exact .inr (.inl rfl)
    cases bt:w.params.followText "set-order" with
    | true=>
      refine h _ _ _ _ _ s.drawn (fun A' hA'=>walks_text bt hA' DI hS.fit) ⟨Heap.get?_push_size _ rfl,Heap.get?_push_of_some _ hD⟩ (Nat.le_refl _) fpl (fun b o e=>Heap.get?_push_of_some _ e) ((pick_perm _ es).map _) (by rw [Heap.get?_push_size _ rfl];simp) fpw
    | false=>
      have hl:t.led=true:=by rw [hS.led];unfold ledOf;rw [bt];rfl
      have z1:es.size≤1:=by
        rcases hS.pl with z | z
        · omega
        · rw [bt,z] at dr
          have:¬ es.size > 1:=fun c=>dr (by simp [c])
          omega
      refine h _ _ _ _ _ s.drawn (fun A' hA'=>walks_led bt hA' DI hS.fit hl z1) ⟨Heap.get?_push_size _ rfl,Heap.get?_push_of_some _ hD⟩ (Nat.le_refl _) fpl (fun b o e=>Heap.get?_push_of_some _ e) (List.Perm.refl _) (by rw [Heap.get?_push_size _ rfl];simp) fpw
theorem hint_set {r:Addr} {Q:Bool→Shared→Prop} (hT:s.TypeIs (.ref r) "set") (h:Q false s):wpAny (model prog w) A (Builtin.List.listLengthHint (.ref r)) Q E s:=by
  unfold Builtin.List.listLengthHint
  refine wpAny_bind (wpAny_specialOf hT F.slot_set_len.lookup ?_)
  dsimp only
  rw [show splitId "set.__len__" = some ("set", "__len__") by kernel_rfl]
  dsimp only
  refine wpAny_bind (wpAny_isInstance hT F.sub_set_set ?_)
  rw [if_neg (by decide)]
  refine wpAny_ite_true (by kernel_rfl) ?_
  refine wpAny_bind (wpAny_typeOf hT ?_)
  exact wpAny_pure h
end
end L2
namespace L2
open PySem PySem.Spec PyProof.Rows PySem.W
section
variable {prog:Program} {w:World} {A:Around} {E:Value→Shared→Prop} {s:Shared}
theorem set_collect {D:Addr} {es:Array (Int × Value)} {ep:Nat} {t:SetTable} {S:List Str} {Q:List Value→Shared→Prop} (hD:setAt D es ep t s.heap) (hS:SetS w (ledOf w) es t S) (hh:A.handled=none) (hz:es.size≤1000)
    (h:∀ h' tk d acc,(∀ b o,s.heap.get? b=some o→h'.get? b=some o)→s.heap.objs.size≤h'.objs.size→acc.Perm (es.toList.map (·.2))→Q acc { s with heap:=h',toks:=tk,drawn:=d }) :
    wpAny (model prog w) A (collect (.ref D)) Q E s:=by
  have Dlt:D < s.heap.objs.size:=Heap.lt_size hD
  unfold collect
  refine wpAny_bind (wpAny_runValue (codeAny_builtin F.entry_proto_collect ?_))
  rw [Around.under_plainId F.plain_proto_collect _]
  show wpAny _ A.in1 (newList [] >>= fun l=>again (.builtin "list.__iadd__" ⟨[l,.ref D],[]⟩)) _ _ s
  refine wpAny_bind (wpAny_newObj_type ?_)
  refine wpAny_pure ⟨plainId_quiet F.plain_list_iadd _,codeAny_builtin F.entry_list_iadd ?_⟩
  rw [Around.under_plainId F.plain_list_iadd _]
  show wpAny _ A.in1 (Builtin.List.listExtendWith (.ref s.heap.objs.size) (.ref D) (.ref s.heap.objs.size)) _ _ _
  have hS₁:(s.heap.push { cls:=.type "list", data:=.seq ([]:List Value).toArray }).get? s.heap.objs.size=some { cls:=.type "list", data:=.seq #[] 0 }:=Heap.get?_push_size _ rfl
  have hD1:setAt D es ep t (s.heap.push { cls:=.type "list", data:=.seq ([]:List Value).toArray }):=Heap.get?_push_of_some _ hD
  have szp:(s.heap.push { cls:=.type "list", data:=.seq ([]:List Value).toArray }).objs.size=s.heap.objs.size+1:=Heap.size_push ..
  have old1:∀ b o,s.heap.get? b=some o→(s.heap.push { cls:=.type "list", data:=.seq ([]:List Value).toArray }).get? b=some o:=fun b o e=>Heap.get?_push_of_some _ e
  generalize s.heap.push { cls:=.type "list", data:=.seq ([]:List Value).toArray }=g at hS₁ hD1 szp old1
  have hT:({ s with heap:=g }:Shared).TypeIs (.ref D) "set" := ⟨_,hD1,rfl⟩
  unfold Builtin.List.listExtendWith
  refine wpAny_bind (wpAny_typeOf hT ?_)
  rw [if_neg (by
    have:(s.heap.objs.size == D)=false:=by simpa using Nat.ne_of_gt Dlt
    show ¬ (((s.heap.objs.size == D) || _ || _)=true)
    rw [this];decide)]
  refine wpAny_bind (set_iter (s:={ s with heap:=g }) hD1 hS hz fun I fp St vs h1 d Wk st0 Ige fpl old2 vp hI fpw=>?_)
  have hT2:({ s with heap:=h1,drawn:=d }:Shared).TypeIs (.ref D) "set" := ⟨_,old2 _ _ hD1,rfl⟩
  refine wpAny_bind (wpAny_holding (hint_set hT2 ?_))
  dsimp only
  have Ige':s.heap.objs.size+1≤I:=by rw [← szp];exact Ige
  have vl:vs.length=es.size:=by have:=vp.length_eq;simpa using this
  have hS2:=old2 _ _ hS₁
  have nfp:s.heap.objs.size ∉ fp:=fun hm=>by
    rcases fpw _ hm with z | z | z
    · have z':s.heap.objs.size=I:=z
      rw [← z'] at Ige'
      exact Nat.not_succ_le_self _ Ige'
    · have z':s.heap.objs.size=D:=z
      rw [z'] at Dlt
      exact Nat.lt_irrefl _ Dlt
    · rw [szp] at z
      have z':s.heap.objs.size+1≤s.heap.objs.size:=z
      omega
  have fin:∀ (c0:Nat) (h2:Heap),h2.get? s.heap.objs.size=some { cls:=.type "list", data:=.seq #[] c0 }→(∀ b o,b≠s.heap.objs.size→h1.get? b=some o→h2.get? b=some o) →
      codeAny (model prog w) A (.builtin "list.extend.loop" ⟨[.ref s.heap.objs.size,.ref I,.ref s.heap.objs.size],[]⟩) (fun r s'=>match r with | .ok (.ret v)=>wpAny (model prog w) A (match v with | .ref a=>(do let __do_lift ← load a;match __do_lift.data with | .seq xs _=>pure xs.toList | _=>unsupported "internal:collect") | _=>unsupported "internal:collect") Q E s' | .ok _=>False | .error e=>E e s') { s with heap:=h2,drawn:=d }:=fun c0 h2 hg2 k2=>by
    refine codeAny_extend_loopS (Wk A.in1 hh).toS (by rw [sizeLine_eq];omega) s.heap.objs.size nfp (.ref s.heap.objs.size) es.size 0 _ #[] c0 (Nat.sub_zero _) (Nat.zero_le _) ((Wk A.in1 hh).frame 0 _ _ st0 fun b hb o e=>k2 b o (fun z=>nfp (by rw [← z];exact hb)) e) hg2 ⟨rfl,fun j v hj=>by simp at hj⟩ fun s' acc' c' mv hg3 it=>?_
    obtain ⟨hp',gn',dr',tk',os'⟩:=s'
    have e1:gn'=s.gens:=mv.gens
    have e2:dr'=d:=mv.drawn
    have e3:os'=s.os:=mv.os
    subst e1;subst e2;subst e3
    refine wpAny_bind (wpAny_load hg3 (wpAny_pure ?_))
    have ea:acc'.toList=vs:=by
      apply List.ext_getElem?
      intro i
      rcases Nat.lt_or_ge i es.size with c | c
      · have hi:i < acc'.size:=by rw [it.1];exact c
        have:=it.2 i acc'[i] (Array.getElem?_eq_getElem hi)
        rw [Array.getElem?_toList,Array.getElem?_eq_getElem hi,this]
      · rw [Array.getElem?_toList,Array.getElem?_eq_none (by rw [it.1];exact c),List.getElem?_eq_none (by omega)]
    rw [ea]
    refine h hp' tk' _ vs (fun b o e=>?_) ?_ vp
    · have bl:b≠s.heap.objs.size:=Nat.ne_of_lt (Heap.lt_size e)
      have bI:b≠I:=fun z=>by
        have h1:b < s.heap.objs.size:=Heap.lt_size e
        have h2:b=I:=z
        have h3:I < s.heap.objs.size:=by rw [← h2];exact h1
        exact absurd (Nat.lt_of_lt_of_le h3 (Nat.le_of_succ_le Ige')) (Nat.lt_irrefl _)
      exact mv.heap b o (by simp [bl,bI]) (k2 b o bl (old2 _ _ (old1 _ _ e)))
    · exact Nat.le_of_lt (Heap.lt_size hg3)
  rw [if_pos (by decide +kernel)]
  refine wpAny_bind (wpAny_rule (wpAny_bind ?_))
  unfold Builtin.List.listTouch
  refine wpAny_bind (listUpdate_at (a:=s.heap.objs.size) (s:={ s with heap:=h1,drawn:=d }) hS2 rfl ?_ (Nat.zero_le _) (by show 1≤sizeLine+1;omega))
  have g1:=get?_update_seq hS2 (fun x=>x.push Value.none)
  refine listUpdate_at (a:=s.heap.objs.size) (s:={ s with heap:=h1.update s.heap.objs.size (Obj.mapSeq fun x=>x.push Value.none),drawn:=d }) g1 rfl ?_ (by show 1≤sizeLine;rw [sizeLine_eq];decide) (Nat.zero_le _)
  have g2:=get?_update_seq g1 (fun x=>x.pop)
  refine wpAny_pure ⟨plainId_quiet (by kernel_rfl) _,?_⟩
  exact fin _ _ g2 fun b o n e=>(Heap.get?_update_ne _ _ _ _ n).trans ((Heap.get?_update_ne _ _ _ _ n).trans e)
theorem perm_strs:∀ {es:List (Int × Value)} {acc:List Value},(∀ e∈es,∃ x tk,e=(hashStr w x,Value.str x tk))→acc.Perm (es.map (·.2))→∃ ss,StrsAre acc ss∧ss.Perm (es.map keyOf):=fun {es acc} he hp=>by
  let f:Value→Str:=fun v=>match v with | .str x _=>x | _=>Str.empty
  have hall:∀ v∈acc,∃ x tk,v=Value.str x tk:=fun v hv=>by
    obtain ⟨e,hm,rfl⟩:=List.mem_map.mp (hp.mem_iff.mp hv)
    obtain ⟨x,tk,rfl⟩:=he e hm
    exact ⟨x,tk,rfl⟩
  have go:∀ (l:List Value),(∀ v∈l,∃ x tk,v=Value.str x tk)→StrsAre l (l.map f):=fun l=>by
    induction l with
    | nil=>intro _;exact .nil
    | cons v r ih=>
      intro hl
      obtain ⟨x,tk,rfl⟩:=hl v List.mem_cons_self
      exact .cons x tk (ih fun u hu=>hl u (List.mem_cons_of_mem _ hu))
  refine ⟨acc.map f,go acc hall,?_⟩
  have:=hp.map f
  rw [List.map_map] at this
  have e2:es.map (f ∘ fun e=>e.2)=es.map keyOf:=List.map_congr_left fun e _=>rfl
  rw [e2] at this
  exact this
theorem set_sorted {D:Addr} {S:List Str} {n:Nat} {Q:Value→Shared→Prop} (hA:SetA w (ledOf w) s.heap D S n) (hh:A.handled=none) (hn:n < 64)
    (h:∀ h' tk d l out ss' e,(∀ b o,s.heap.get? b=some o→h'.get? b=some o)→s.heap.objs.size≤l→h'.get? l=some (seqObj "list" out e)→StrsAre out.toList ss'→ss'.Nodup→(∀ x,x∈ss' ↔ x∈S)→sortedS ss'=true→ss'.length≤n→Q (.ref l) { s with heap:=h',toks:=tk,drawn:=d }) :
    wpAny (model prog w) A (call (.builtin "sorted") [.ref D]) Q E s:=by
  obtain ⟨es,ep,t,hD,hS,hsz⟩:=hA
  refine Calls.call_function_entry kind_sorted plain_sorted entry_sorted (args_sorted1 _) ?_
  unfold Builtin.«sorted»
  refine wpAny_bind (m:=checkCount "sorted" 1 1 _) (wpAny_pure ?_)
  refine wpAny_bind (set_collect (A:=A.in1) hD hS hh (by omega) fun h1 tk d acc old1 sz1 hp=>?_)
  obtain ⟨ss,hv,hpk⟩:=perm_strs hS.ent hp
  have al:acc.length=es.size:=by have:=hp.length_eq;simpa using this
  have fz:acc.length≤sizeLine:=by rw [sizeLine_eq];omega
  refine wpAny_bind (wpAny_newList ?_ fz)
  have hDL:(h1.push (seqObj "list" acc.toArray 0)).get? h1.objs.size=some (seqObj "list" acc.toArray 0):=Heap.get?_push_size _ rfl
  refine wpAny_bind (wpAny_holding (wpAny_call_entry slot_list_sort ⟨_,hDL,rfl⟩ entry_list_sort (list_sort_treeK (s:={ s with heap:=h1.push (seqObj "list" acc.toArray 0),toks:=tk,drawn:=d }) strKind_oneLt hDL (StrsAre.keysOf hv) (fun v₁ v₂ rest e=>keyKind_strs (by rw [← e];exact hv)) (by omega) fun st' a1 a2=>⟨_,rfl,?_⟩) (args_list_sort _)))
  obtain ⟨ss',b1,b2,b3⟩:=sorted_out_str hv a1 a2
  obtain ⟨e,he⟩:=sortedHeap_at hDL
  refine wpAny_pure ⟨_,rfl,h _ tk d h1.objs.size _ ss' e (fun b o eb=>?_) sz1 he b1 ?_ (fun x=>?_) b3 ?_⟩
  · have lt:=Heap.lt_size (old1 _ _ eb)
    rw [sortedHeap_old (Nat.ne_of_lt lt) (by rw [show (h1.push (seqObj "list" acc.toArray 0)).objs.size=h1.objs.size+1 from Heap.size_push ..];exact Nat.lt_succ_of_lt lt)]
    exact Heap.get?_push_of_some _ (old1 _ _ eb)
  · exact (b2.trans hpk).nodup_iff.mpr hS.nd
  · rw [(b2.trans hpk).mem_iff];exact hS.mem x
  · have t1:(es.toList.map keyOf).length=es.size:=by rw [List.length_map,Array.length_toList]
    have t2:=(b2.trans hpk).length_eq
    exact Nat.le_trans (Nat.le_of_eq (t2.trans t1)) hsz
end
end L2
namespace L2
open PySem PySem.Spec PyProof.Rows PySem.W
theorem Inv.drawn {X:Cx} {pins:List (Addr × Obj)} {σ:St} {H:Hp} {s:Shared} (I:Inv X pins σ H s) (d:Drawn):Inv X pins σ H { s with drawn:=d }:=
  ⟨I.ok,I.os,I.bare,I.base,I.loc,I.cell,I.free,I.freeC,I.pin,I.hok,I.len⟩
theorem bt_set:bootBuiltins "set" = some (.type "set"):=by kernel_rfl
theorem bt_sorted':bootBuiltins "sorted" = some (.builtin "sorted"):=by kernel_rfl
section
variable {X:Cx} {a:Expr} {ta:TA} {p p2 pos pos2:Pos}
def tSortSet (K:PySem.W.Frag) (ta:TA):TE:=fun σ H Q=>ta σ H fun vs H1=>∃ (l:Addr) (ss:List Str),vs=[.ref l]∧SqL K H1 l (ss.map V.str)∧ss.length < 64 ∧
  ∀ (ss':List Str) (r:Addr),ss'.Nodup→(∀ x,x∈ss' ↔ x∈ss)→sortedS ss'=true→ss'.length≤ss.length→H1 r=none→Q (.ref r) (upd H1 r (.lst (ss'.map V.str)))
theorem pe_sortset (K:PySem.W.Frag) (hc:X.calm=true) (hg1:Gl X "sorted") (hm1:X.mg "sorted" = none) (hg2:Gl X "set") (hm2:X.mg "set" = none) (ha:PA X [a] ta) (hK:X.K=K:=by rfl)
    (he:starEach [.Call (.Name "set" p2) [a] [] pos2] X.env=[(false,eval (.Call (.Name "set" p2) [a] [] pos2) X.env)]:=by rfl) (he2:starEach [a] X.env=[(false,eval a X.env)]:=by rfl) :
    PE X (.Call (.Name "sorted" p) [.Call (.Name "set" p2) [a] [] pos2] [] pos) (tSortSet K ta):=by
  subst hK
  intro pins s σ H Q I h
  refine wpAny_Call_Name_kw (ld_blt I hg1 hm1 bt_sorted' ?_ (by decide) (by decide))
  refine PyProof.Rows.callWith_builtin1 ?_ he rfl
  rw [he]
  show wpAny _ _ (spliced ((false,eval (.Call (.Name "set" p2) [a] [] pos2) X.env) :: backTo pos (starEach [] X.env))) _ _ _
  refine Calls.spliced_cons ?_
  refine wpAny_Call_Name_kw (ld_blt (I.tok _) hg2 hm2 bt_set ?_ (by decide) (by decide))
  refine PyProof.Rows.callWith_type1 (thn (ha pos2 pins _ σ H _ (I.tok _) h) fun us s1 ⟨vs,H1,I1,r1,q1⟩=>?_) he2 rfl
  obtain ⟨l,ss,rfl,hq,h64,q⟩:=q1
  obtain ⟨u,rfl,ru⟩:=vals1 r1
  cases (show u=Value.ref l from ru)
  obtain ⟨its,rv,ht,hz⟩:=I1.list hq
  have hlen:=rv.length
  rw [List.length_map] at hlen
  have hh:X.A.handled=none:=I1.ok.hd hc
  have hsz:its.toArray.size=its.length:=List.size_toArray ..
  refine set_call ht.isList (strsAre_of rv) hh (by show its.toArray.size+1 < 4096;omega) fun h2 tk2 old2 hA=>?_
  refine Calls.spliced_nil ?_
  have lt2:s1.heap.objs.size < h2.objs.size:=by
    obtain ⟨es,ep,t,e,_⟩:=id hA
    exact Heap.lt_size e
  refine set_sorted (s:={ s1 with heap:=h2,toks:=tk2 }) hA hh (by omega) fun h3 tk3 d l3 out ss' e old3 lge hg3 hv3 nd3 mem3 srt3 len3=>?_
  have lge':s1.heap.objs.size≤l3:=Nat.le_trans (Nat.le_of_lt lt2) lge
  have sl:ss'.length≤ss.length:=by omega
  have I3:=I1.laid (t':=tk3) (h':=h3) (a:=l3) (o:=.lst (ss'.map V.str)) (fun b o eb=>old3 b o (old2 b o eb)) lge' (show ObjOk X.prog X.w _ _ _ (.lst (ss'.map V.str)) from ⟨by rw [List.length_map];exact Nat.le_of_lt (small1000 (by omega)),out.toList,e,strsAre_get hv3,hg3⟩)
  exact ⟨.ref l3,_,I3.drawn d,rfl,q ss' l3 nd3 mem3 srt3 sl (I1.hok.fresh lge')⟩
end
end L2
namespace L2
open PySem PySem.Spec PyProof.Rows PySem.W
section
variable {X:Cx}
theorem mt_index:MtM X "list.index" (fun x vs H Q=>∃ (l:Addr) (ss:List Str) (y:Str),x=.ref l∧vs=[.str y]∧H l=some (.lst (ss.map V.str))∧y∈ss∧ss.length≤1000∧Q (.int ((ss.idxOf y:Nat):Int)) H):=by
  intro pins s σ H x vs v us Q I rx rv h
  obtain ⟨l,ss,y,rfl,rfl,hH,hm,hl,q⟩:=h
  cases rx
  obtain ⟨u,rfl,ru⟩:=rv.one
  have ru0:=ru
  obtain ⟨ty,rfl⟩:=ru
  obtain ⟨z,its,n,r,hz,e⟩:=I.lstM hH
  have rl:=r.length
  rw [List.length_map] at rl
  have jl:ss.idxOf y < ss.length:=List.idxOf_lt_length_of_mem hm
  have key:∀ (j:Nat) (hj:j < its.toArray.size),eqU (V.str y) its.toArray[j]=(ss[j]'(by rw [rl];simpa using hj) == y):=fun j hj=>by
    have hj':j < ss.length:=by rw [rl];simpa using hj
    obtain ⟨w',e1,e2⟩:=r.get (i:=j) (x:=V.str (ss[j])) (by rw [List.getElem?_map,List.getElem?_eq_getElem hj'];rfl)
    obtain ⟨t',rfl⟩:=e2
    have:its.toArray[j]=Value.str ss[j] t':=by
      rw [List.getElem?_eq_getElem (by omega)] at e1
      simpa using Option.some.inj e1
    rw [this]
    rfl
  refine call_meets F.slot_list_index ⟨_,e,rfl⟩ F.entry_list_index (F.args_list_index_2 _ _) (SeqAt.list_indexAt l its.toArray n none #[] (.str y ty) (eqU (V.str y)) (ss.idxOf y) (by rw [List.size_toArray];omega) (by omega) ?_ ?_) ⟨e,fun u hu=>mem_eqAt (x:=V.str y) ru0 rfl r (flat_strs ss) u (by simpa using hu),?_⟩
  · rw [key _ (by rw [List.size_toArray];omega),List.getElem_idxOf jl];exact beq_self_eq_true y
  · intro m hm' hlt
    rw [key m hm']
    have:=List.not_of_lt_findIdx (p:=(· == y)) (xs:=ss) (i:=m) hlt
    simpa using this
  · exact ⟨.int _,H,I.tok _,⟨_,rfl⟩,q⟩
end
end L2
namespace L2
open PySem PySem.Spec PyProof.Rows PySem.W
section
variable {X:Cx}
def rIndex:V→List V→Hp→VK→Prop:=fun x vs H Q=>∃ (l:Addr) (ss:List Str) (y:Str),x=.ref l∧vs=[.str y]∧H l=some (.lst (ss.map V.str))∧y∈ss∧ss.length≤1000∧Q (.int ((ss.idxOf y:Nat):Int)) H
theorem pe_indexK (K:PySem.W.Frag) {o e:Expr} {to te:TE} {apos cpos:Pos} (ho:PE X o to) (he:PE X e te) (hK:X.K=K:=by rfl) (hbase:attributeBase o "index" X.env (eval o X.env)=eval o X.env:=by rfl)
    (h1:starEach [e] X.env=[(false,eval e X.env)]:=by rfl) (hl:(apos.endLine == cpos.line)=true:=by rfl) :
    PE X (.Call (.Attribute o "index" apos) [e] [] cpos) (tBM K "list" rIndex to (tCons te tNil)):=by
  subst hK
  exact pe_bm PySem.F.plainAttrs_list PySem.F.slot_list_index PySem.F.type_list_index mt_index ho (pa_cons he pa_nil h1) hbase (by rw [h1];rfl) hl h1 (by rfl)
end
end L2
namespace L2
open PySem PySem.Spec PyProof.Rows
section
variable {κ:Type} [DecidableEq κ]
def valV (kvs:List (κ × V)) (k:κ):Option V:=(kvs.find? fun kv=>decide (kv.1=k)).map (·.2)
def putK (kvs:List (κ × V)) (k:κ) (v:V):List (κ × V):=
  if (kvs.any fun kv=>decide (kv.1=k))=true then kvs.map (fun kv=>if kv.1=k then (kv.1,v) else kv) else kvs++[(k,v)]
def dropK (kvs:List (κ × V)) (k:κ):List (κ × V):=kvs.filter fun kv=>decide (kv.1≠k)
theorem valV_pos {p:κ × V} {r:List (κ × V)} {k:κ} (e:p.1=k):valV (p :: r) k=some p.2:=by simp [valV,List.find?_cons,e]
theorem valV_neg {p:κ × V} {r:List (κ × V)} {k:κ} (e:¬ p.1=k):valV (p :: r) k=valV r k:=by simp [valV,List.find?_cons,e]
theorem valV_any (k:κ):∀ kvs:List (κ × V),(kvs.any fun kv=>decide (kv.1=k))=(valV kvs k).isSome
  | []=>rfl
  | p :: r=>by
    rw [List.any_cons]
    by_cases e:p.1=k
    · simp only [valV_pos e,decide_eq_true e,Bool.true_or,Option.isSome_some]
    · rw [valV_neg e,decide_eq_false e,Bool.false_or];exact valV_any k r
theorem RelO.isSome_eq {o:Option V} {u:Option Value} (r:RelO o u):o.isSome=u.isSome:=by
  cases o with
  | none=>cases u with
    | none=>rfl
    | some _=>exact (show False from r).elim
  | some _=>cases u with
    | none=>exact (show False from r).elim
    | some _=>rfl
theorem RelO.getD {o:Option V} {u:Option Value} {d:V} {d':Value} (r:RelO o u) (rd:RelV d d'):RelV (o.getD d) (u.getD d'):=by
  cases o with
  | none=>cases u with
    | none=>exact rd
    | some _=>exact (show False from r).elim
  | some _=>cases u with
    | none=>exact (show False from r).elim
    | some _=>exact r
theorem KV.val {kvs:List (κ × V)} {vs:List (κ × Value)} (r:KV kvs vs) (k:κ):RelO (valV kvs k) (valueAt vs k):=by
  unfold KV at r
  induction r with
  | nil=>exact True.intro
  | @cons p q ps qs h t ih=>
    obtain ⟨h1,h2⟩:=h
    by_cases e:p.1=k
    · have e':q.1=k:=h1.symm.trans e
      have b:valueAt (q :: qs) k=some q.2:=by simp [valueAt,List.find?_cons,e']
      rw [valV_pos e,b];exact h2
    · have e':¬ q.1=k:=fun z=>e (h1.trans z)
      have b:valueAt (q :: qs) k=valueAt qs k:=by simp [valueAt,List.find?_cons,e']
      rw [valV_neg e,b];exact ih
theorem KV.any {kvs:List (κ × V)} {vs:List (κ × Value)} (r:KV kvs vs) (k:κ):(kvs.any fun kv=>decide (kv.1=k))=vs.any fun kv=>decide (kv.1=k):=by
  unfold KV at r
  induction r with
  | nil=>rfl
  | cons h t ih=>rw [List.any_cons,List.any_cons,ih,h.1]
theorem KV.repl {kvs:List (κ × V)} {vs:List (κ × Value)} (r:KV kvs vs) (k:κ) {y:V} {u:Value} (ry:RelV y u) :
    KV (kvs.map fun kv=>if kv.1=k then (kv.1,y) else kv) (vs.map fun kv=>if kv.1=k then (kv.1,u) else kv):=by
  unfold KV at r ⊢
  induction r with
  | nil=>exact .nil
  | @cons p q ps qs h t ih=>
    rw [List.map_cons,List.map_cons]
    refine .cons ?_ ih
    obtain ⟨h1,h2⟩:=h
    by_cases e:p.1=k
    · rw [if_pos e,if_pos (h1.symm.trans e)];exact ⟨h1,ry⟩
    · rw [if_neg e,if_neg (fun z=>e (h1.trans z))];exact ⟨h1,h2⟩
theorem KV.put {kvs:List (κ × V)} {vs:List (κ × Value)} (r:KV kvs vs) (k:κ) {y:V} {u:Value} (ry:RelV y u):KV (putK kvs k y) (stored vs k u):=by
  unfold putK stored
  rw [r.any k]
  by_cases e:(vs.any fun kv=>decide (kv.1=k))=true
  · rw [if_pos e,if_pos e];exact r.repl k ry
  · rw [if_neg e,if_neg e];exact Paired.snoc r ⟨rfl,ry⟩
theorem KV.drop {kvs:List (κ × V)} {vs:List (κ × Value)} (r:KV kvs vs) (k:κ):KV (dropK kvs k) (without vs k):=by
  unfold KV at r ⊢
  unfold dropK without
  induction r with
  | nil=>exact .nil
  | @cons p q ps qs h t ih=>
    obtain ⟨h1,h2⟩:=h
    rw [List.filter_cons,List.filter_cons]
    by_cases e:p.1=k
    · have a:¬ decide (p.1≠k)=true:=by simp [e]
      have b:¬ decide (q.1≠k)=true:=by simp [h1.symm.trans e]
      rw [if_neg a,if_neg b];exact ih
    · have e':¬ q.1=k:=fun z=>e (h1.trans z)
      have a:decide (p.1≠k)=true:=by simp [e]
      have b:decide (q.1≠k)=true:=by simp [e']
      rw [if_pos a,if_pos b];exact .cons ⟨h1,h2⟩ ih
theorem KV.keys {kvs:List (κ × V)} {vs:List (κ × Value)} (r:KV kvs vs):kvs.map (·.1)=vs.map (·.1):=by
  unfold KV at r
  induction r with
  | nil=>rfl
  | cons h t ih=>rw [List.map_cons,List.map_cons,ih,h.1]
theorem KV.length {kvs:List (κ × V)} {vs:List (κ × Value)} (r:KV kvs vs):kvs.length=vs.length:=Paired.length r
end
abbrev KT (H:Hp):List (List Key × V)→List (List Key × Addr × Value)→Prop:=Paired fun p q=>p.1=q.1∧H q.2.1=some (.tup (p.1.map kV))∧RelV p.2 q.2.2
theorem KT.val {H:Hp} {kvs:List (List Key × V)} {xs:List (List Key × Addr × Value)} (r:KT H kvs xs) (k:List Key):RelO (valV kvs k) ((atKey xs k).map (·.2)):=by
  induction r with
  | nil=>exact True.intro
  | @cons p q ps qs h t ih=>
    obtain ⟨h1,_,h2⟩:=h
    by_cases e:p.1=k
    · have e':q.1=k:=h1.symm.trans e
      have b:atKey (q :: qs) k=some q.2:=by simp [atKey,List.find?_cons,e']
      rw [valV_pos e,b];exact h2
    · have e':¬ q.1=k:=fun z=>e (h1.trans z)
      have b:atKey (q :: qs) k=atKey qs k:=by simp [atKey,List.find?_cons,e']
      rw [valV_neg e,b];exact ih
theorem KT.repl {H:Hp} {kvs:List (List Key × V)} {xs:List (List Key × Addr × Value)} (r:KT H kvs xs) (k:List Key) {y:V} {u:Value} (ry:RelV y u) :
    KT H (kvs.map fun kv=>if kv.1=k then (kv.1,y) else kv) (xs.map (putAt k u)):=by
  induction r with
  | nil=>exact .nil
  | @cons p q ps qs h t ih=>
    rw [List.map_cons,List.map_cons]
    refine .cons ?_ ih
    obtain ⟨h1,h2,h3⟩:=h
    unfold putAt
    by_cases e:p.1=k
    · rw [if_pos e,if_pos (h1.symm.trans e)];exact ⟨h1,h2,ry⟩
    · rw [if_neg e,if_neg (fun z=>e (h1.trans z))];exact ⟨h1,h2,h3⟩
theorem KT.put {H:Hp} {kvs:List (List Key × V)} {xs:List (List Key × Addr × Value)} (r:KT H kvs xs) (k:List Key) {b:Addr} {y:V} {u:Value} (hb:H b=some (.tup (k.map kV))) (ry:RelV y u) :
    KT H (putK kvs k y) (storedH xs k b u):=by
  have e:(kvs.any fun kv=>decide (kv.1=k))=(atKey xs k).isSome:=by
    rw [valV_any,(r.val k).isSome_eq,Option.isSome_map]
  unfold putK storedH
  rw [e]
  by_cases q:(atKey xs k).isSome=true
  · rw [if_pos q,if_pos q];exact r.repl k ry
  · rw [if_neg q,if_neg q];exact Paired.snoc r ⟨rfl,hb,ry⟩
theorem KT.keeps {H H':Hp} {kvs:List (List Key × V)} {xs:List (List Key × Addr × Value)} (r:KT H kvs xs) (ht:∀ b ys,H b=some (.tup ys)→H' b=some (.tup ys)):KT H' kvs xs:=
  Paired.mapP r fun _ _ z=>⟨z.1,ht _ _ z.2.1,z.2.2⟩
section
variable {P:Program} {w:World} {H:Hp} {h:Heap} {a:Addr}
end
def DGet (H:Hp) (a:Addr) (y:V) (r:Option V):Prop:=
  (∃ kvs k,Rd H a (.dK kvs)∧y=kV k∧r=valV kvs k)∨∃ kvs k b,Rd H a (.dT kvs)∧y=.ref b∧H b=some (.tup (k.map kV))∧r=valV kvs k
def DPut (H:Hp) (a:Addr) (y v:V) (H':Hp):Prop:=
  (∃ kvs k,H a=some (.dK kvs)∧y=kV k∧kvs.length < sizeLine∧H'=upd H a (.dK (putK kvs k v))) ∨
  ∃ kvs k b,H a=some (.dT kvs)∧y=.ref b∧H b=some (.tup (k.map kV))∧kvs.length < sizeLine∧H'=upd H a (.dT (putK kvs k v))
theorem DGet.k {H:Hp} {a:Addr} {kvs:List (Key × V)} {k:Key} (e:H a=some (.dK kvs)):DGet H a (kV k) (valV kvs k):=.inl ⟨kvs,k,.inl e,rfl,rfl⟩
theorem DGet.t {H:Hp} {a b:Addr} {kvs:List (List Key × V)} {k:List Key} (e:H a=some (.dT kvs)) (eb:H b=some (.tup (k.map kV))):DGet H a (.ref b) (valV kvs k):=.inr ⟨kvs,k,b,.inl e,rfl,eb,rfl⟩
theorem DPut.k {H:Hp} {a:Addr} {kvs:List (Key × V)} {k:Key} {v:V} (e:H a=some (.dK kvs)) (hl:kvs.length < sizeLine):DPut H a (kV k) v (upd H a (.dK (putK kvs k v))):=.inl ⟨kvs,k,e,rfl,hl,rfl⟩
theorem DPut.t {H:Hp} {a b:Addr} {kvs:List (List Key × V)} {k:List Key} {v:V} (e:H a=some (.dT kvs)) (eb:H b=some (.tup (k.map kV))) (hl:kvs.length < sizeLine) :
    DPut H a (.ref b) v (upd H a (.dT (putK kvs k v))):=.inr ⟨kvs,k,b,e,rfl,eb,hl,rfl⟩
section
variable {X:Cx} {pins:List (Addr × Obj)} {σ:St} {H:Hp} {s:Shared} {a:Addr} {y v:V} {u r:Value} {o:Option V} {A:Around} {E:Value→Shared→Prop}
theorem Inv.big (I:Inv X pins σ H s):sysModules < s.heap.objs.size:=by
  have h:mainGlobals < s.heap.objs.size:=(I.mod.glob.keeps I.bk).lt
  exact Nat.lt_trans (by decide) h
end
section
variable {X:Cx} {pins:List (Addr × Obj)} {σ:St} {H:Hp} {s:Shared} {a:Addr} {kvs:List (Key × V)} {k:Key} {u:Value} {A:Around} {E:Value→Shared→Prop}
end
section
variable {X:Cx} {o i e value:Expr} {pos pos' tpos:Pos} {td ty tv:TE}
end
theorem dk_empty {P:Program} {w:World} {H:Hp} (h:Heap) (hb:sysModules < h.objs.size):ObjOk P w H (h.push { cls:=.type "dict", data:=.dict #[] }) h.objs.size (.dK []):=
  ⟨Nat.zero_le _,beq_eq_false_iff_ne.mpr (Ne.symm (Nat.ne_of_lt hb)),[],.nil,Heap.DictOf.new h⟩
def tDNewK:TE:=fun _ H Q=>∀ p,H p=none→Q (.ref p) (upd H p (.dK []))
section
variable {X:Cx} {pos:Pos}
theorem pe_dnewK:PE X (.Dict [] [] pos) tDNewK:=fun pins s σ H Q I h=>
  wpAny_Dict_empty ⟨.ref s.heap.objs.size,_,I.laid (a:=s.heap.objs.size) (o:=.dK []) (t':=s.toks) (fun _ _ q=>Heap.get?_push_of_some _ q) (Nat.le_refl _) (dk_empty s.heap I.big),rfl,h _ (I.hok.fresh (Nat.le_refl _))⟩
end
structure M1 (X:Cx) (o:Expr) (m:Str) (apos:Pos) (e:Expr) (cpos:Pos):Prop where
  base:attributeBase o m X.env (eval o X.env)=eval o X.env
  few:((backTo cpos (starEach [e] X.env)).all (fun x=>!x.1) && (backToKw cpos (keywordEach [] X.env)).all (fun x=>x.1.isSome)
    && decide (([e]:List Expr).length+([]:List Keyword).length+(if ([]:List Keyword).isEmpty then 0 else 1) < 30))=true
  line:(apos.endLine == cpos.line)=true
  trees:backTo cpos (starEach [e] X.env)=[(false,eval e X.env)]
structure M2 (X:Cx) (o:Expr) (m:Str) (apos:Pos) (e f:Expr) (cpos:Pos):Prop where
  base:attributeBase o m X.env (eval o X.env)=eval o X.env
  few:((backTo cpos (starEach [e,f] X.env)).all (fun x=>!x.1) && (backToKw cpos (keywordEach [] X.env)).all (fun x=>x.1.isSome)
    && decide (([e,f]:List Expr).length+([]:List Keyword).length+(if ([]:List Keyword).isEmpty then 0 else 1) < 30))=true
  line:(apos.endLine == cpos.line)=true
  trees:backTo cpos (starEach [e,f] X.env)=[(false,eval e X.env),(false,eval f X.env)]
section
variable {X:Cx} {pins:List (Addr × Obj)} {σ:St} {H:Hp} {s:Shared} {a:Addr} {y d:V} {u r:Value} {o:Option V} {A:Around} {E:Value→Shared→Prop}
end
section
variable {X:Cx} {o e f:Expr} {apos cpos:Pos} {td ty tx:TE}
end
section
variable {X:Cx} {pins:List (Addr × Obj)} {σ:St} {H:Hp} {s:Shared} {a:Addr} {kvs:List (Key × V)} {A:Around} {E:Value→Shared→Prop}
end
section
variable {X:Cx} {pins:List (Addr × Obj)} {σ:St} {H:Hp} {s:Shared} {a:Addr} {y:V} {u:Value} {A:Around} {E:Value→Shared→Prop}
end
end L2
namespace L2
open PySem PySem.Spec PyProof.Rows PySem.W
open MeetsSeq MeetsSeq2 MeetsSeq3 SeqRoads2 SeqAt
section
variable {X:Cx} {tg:Expr}
end
section
theorem small10000 {n:Nat} (h:n < 10000):n < sizeLine:=by
  rw [sizeLine_eq];omega
theorem comp_big {J:It} {NL:List Str} {ix:List Nat} {g:TG} {tt:TT} {te:TE} {σ:St} {H1:Hp} {Qs:Hp→Prop} {acc:Addr} (n:Nat) (hn:n < 10000) (Pv:Nat→List V→Hp→Prop)
    (hacc:∀ i ys H2,Pv i ys H2→H2 acc=some (.lst ys)∧ys.length≤i) (h0:Pv 0 [] (upd H1 acc (.lst []))) (hstop:∀ ys H2,Pv n ys H2→J.stop n H2∧Qs H2)
    (hturn:∀ i ys H2,i < n→Pv i ys H2→J.go i H2∧∀ x H3,J.yld i H2 x H3→g x (comp0 NL ix σ) H3 fun σ' H4=>σ'.drop NL.length=ix.map (fun j=>σ.getD j none)∧tt σ' H4 fun b H5=>
      if b=true then te σ' H5 fun v H6=>H6 acc=some (.lst ys)∧Pv (i+1) (ys++[v]) (upd H6 acc (.lst (ys++[v]))) else Pv (i+1) ys H5) :
    ∃ W:Nat→Nat→List V→Hp→Prop,(∃ m,W 0 m [] (upd H1 acc (.lst []))) ∧
    ∀ i m ys H2,W i m ys H2→H2 acc=some (.lst ys)∧ys.length < sizeLine ∧
      ((J.stop i H2∧Qs H2)∨(J.go i H2∧∃ N:List V→Hp→Prop,(∀ ys' H',N ys' H'→∃ m',m' < m∧W (i+1) m' ys' H') ∧
        ∀ x H3,J.yld i H2 x H3→g x (comp0 NL ix σ) H3 fun σ' H4=>σ'.drop NL.length=ix.map (fun j=>σ.getD j none)∧tt σ' H4 fun b H5=>
          if b=true then te σ' H5 fun v H6=>H6 acc=some (.lst ys)∧N (ys++[v]) (upd H6 acc (.lst (ys++[v]))) else N ys H5)):=by
  refine ⟨fun i m ys H2=>i≤n∧m=n - i∧Pv i ys H2,⟨n,Nat.zero_le _,rfl,h0⟩,fun i m ys H2 ⟨hi,hm,hp⟩=>?_⟩
  obtain ⟨a1,a2⟩:=hacc i ys H2 hp
  refine ⟨a1,small10000 (by omega),?_⟩
  rcases Nat.lt_or_ge i n with lt | ge
  · obtain ⟨go,tn⟩:=hturn i ys H2 lt hp
    exact .inr ⟨go,Pv (i+1),fun ys' H' hN=>⟨n - (i+1),by omega,by omega,rfl,hN⟩,tn⟩
  · have e:i=n:=by omega
    subst e
    exact .inl (hstop ys H2 hp)
end
section
variable {NL:List Str} {ix:List Nat} {g:TG} {tt:TT} {te:TE} {σ:St} {H1:Hp} {Qs:Hp→Prop} {acc:Addr}
end
section
variable {X:Cx}
end
end L2
namespace L2
open PySem PySem.Spec PyProof.Rows PySem.W
end L2
namespace L2
open PySem PySem.Spec PyProof.Rows PySem.W
end L2
namespace L2
open PySem PySem.Spec PyProof.Rows PySem.W
section
variable {prog:Program} {w:World} {A:Around} {E:Value→Shared→Prop}
def DPrs (h:Heap) (D:Addr) (items:Array Value) (ps:List (Key × Value)):Prop:=
  ps.length=items.size∧∀ (j:Nat) (k:Key) (v:Value),ps[j]?=some (k,v)→∃ (a:Addr) (ku:Value),items[j]?=some (Value.ref a)∧a≠D∧RelV (kV k) ku∧IsTup h a #[ku,v]
theorem DPrs.keeps {h h':Heap} {D I:Addr} {items:Array Value} {ps:List (Key × Value)} (p:DPrs h D items ps) (nI:∀ a:Addr,Value.ref a∈items→a≠I) (k:∀ b o,b≠I→b≠D→h.get? b=some o→h'.get? b=some o):DPrs h' D items ps:=by
  refine ⟨p.1,fun j kk v e=>?_⟩
  obtain ⟨a,ku,ha,hD,hk,o,e1,e2⟩:=p.2 j kk v e
  exact ⟨a,ku,ha,hD,hk,o,k a o (nI a (Array.mem_of_getElem? ha)) hD e1,e2⟩
end
end L2
namespace L2
open PySem PySem.Spec PyProof.Rows PySem.W
section
variable {prog:Program} {w:World} {A:Around} {E:Value→Shared→Prop} {s:Shared}
end
end L2
namespace L2
open PySem PySem.Spec PyProof.Rows PySem.W
section
variable {X:Cx}
end
end L2
namespace W7
def wd (ups:List Int) (lab:List Nat):Nat→Nat→List Nat
  | 0,_=>[]
  | f+1,k=>lab.getD k 0 :: (if ups.getD k 0 < 0 then [] else wd ups lab f (ups.getD k 0).toNat)
structure TreeOk (ups:List Int) (lab:List Nat):Prop where
  len:ups.length=lab.length
  pos:0 < ups.length
  most:ups.length≤60
  root:ups.getD 0 0=-1
  up:∀ k,0 < k→k < ups.length→0≤ups.getD k 0∧ups.getD k 0 < (k:Int)
theorem TreeOk.lt {ups:List Int} {lab:List Nat} (t:TreeOk ups lab) {k:Nat} (h:k < ups.length) (h0:¬ ups.getD k 0 < 0):(ups.getD k 0).toNat < k:=by
  rcases Nat.eq_zero_or_pos k with e | e
  · subst e;have:=t.root;omega
  · have:=t.up k e h;omega
theorem TreeOk.neg {ups:List Int} {lab:List Nat} (t:TreeOk ups lab) {k:Nat} (h:k < ups.length):ups.getD k 0 < 0 ↔ ups.getD k 0=-1:=by
  rcases Nat.eq_zero_or_pos k with e | e
  · subst e;have:=t.root;omega
  · have:=t.up k e h;omega
theorem wd_fuel {ups:List Int} {lab:List Nat} (t:TreeOk ups lab):∀ (f g k:Nat),k < ups.length→k < f→k < g→wd ups lab f k=wd ups lab g k
  | 0,_,_,_,h,_=>absurd h (Nat.not_lt_zero _)
  | _+1,0,_,_,_,h=>absurd h (Nat.not_lt_zero _)
  | f+1,g+1,k,hk,hf,hg=>by
    simp only [wd]
    congr 1
    split
    · rfl
    · rename_i h0
      have:=t.lt hk h0
      exact wd_fuel t f g _ (by omega) (by omega) (by omega)
def W (ups:List Int) (lab:List Nat) (k:Nat):List Nat:=wd ups lab (k+1) k
theorem W_eq {ups:List Int} {lab:List Nat} (t:TreeOk ups lab) {k:Nat} (hk:k < ups.length):W ups lab k=lab.getD k 0 :: (if ups.getD k 0 < 0 then [] else W ups lab (ups.getD k 0).toNat):=by
  unfold W
  rw [wd]
  congr 1
  split
  · rfl
  · rename_i h0
    have:=t.lt hk h0
    exact wd_fuel t _ _ _ (by omega) (by omega) (by omega)
theorem W_len {ups:List Int} {lab:List Nat} (t:TreeOk ups lab):∀ (n k:Nat),k < n→k < ups.length→(W ups lab k).length≤k+1
  | 0,_,h,_=>absurd h (Nat.not_lt_zero _)
  | n+1,k,hn,hk=>by
    rw [W_eq t hk]
    split
    · simp
    · rename_i h0
      have:=t.lt hk h0
      have ih:=W_len t n (ups.getD k 0).toNat (by omega) (by omega)
      simp only [List.length_cons]
      omega
def R (ups:List Int) (lab:List Nat) (k:Int):List Nat:=if k < 0 then [] else W ups lab k.toNat
end W7
namespace S53
open PySem L2 W7
def top (i:Nat):Stmt:=PySem.Challenge.pw_upwords_k53_what_is_a_trie.main.body.getD i (.Pass ⟨0,0,0,0⟩)
abbrev s_is_whole:Stmt:=top 2
abbrev N_is_whole:List Str:=["thing"]
theorem sc_is_whole:FnScope N_is_whole ["thing"] (defScope s_is_whole):=⟨rfl,rfl,rfl,by decide +kernel,rfl,by decide +kernel,by decide +kernel⟩
abbrev s_is_letters:Stmt:=top 3
abbrev N_is_letters:List Str:=["thing"]
theorem sc_is_letters:FnScope N_is_letters ["thing"] (defScope s_is_letters):=⟨rfl,rfl,rfl,by decide +kernel,rfl,by decide +kernel,by decide +kernel⟩
abbrev s_is_rising:Stmt:=top 4
abbrev N_is_rising:List Str:=["things"]
theorem sc_is_rising:FnScope N_is_rising ["things"] (defScope s_is_rising):=⟨rfl,rfl,rfl,by decide +kernel,rfl,by decide +kernel,by decide +kernel⟩
abbrev s_is_tree:Stmt:=top 7
abbrev N_is_tree:List Str:=["thing"]
theorem sc_is_tree:FnScope N_is_tree ["thing"] (defScope s_is_tree):=⟨rfl,rfl,rfl,by decide +kernel,rfl,by decide +kernel,by decide +kernel⟩
abbrev s_is_labels:Stmt:=top 8
abbrev N_is_labels:List Str:=["thing"]
theorem sc_is_labels:FnScope N_is_labels ["thing"] (defScope s_is_labels):=⟨rfl,rfl,rfl,by decide +kernel,rfl,by decide +kernel,by decide +kernel⟩
abbrev s_is_ups:Stmt:=top 9
abbrev N_is_ups:List Str:=["thing", "many", "place", "ahead"]
theorem sc_is_ups:FnScope N_is_ups ["thing", "many"] (defScope s_is_ups):=⟨rfl,rfl,rfl,by decide +kernel,rfl,by decide +kernel,by decide +kernel⟩
abbrev s_all_above:Stmt:=top 10
abbrev N_all_above:List Str:=["ups", "place", "found", "up"]
theorem sc_all_above:FnScope N_all_above ["ups", "place"] (defScope s_all_above):=⟨rfl,rfl,rfl,by decide +kernel,rfl,by decide +kernel,by decide +kernel⟩
abbrev s_beneath_of:Stmt:=top 11
abbrev N_beneath_of:List Str:=["tree", "place"]
theorem sc_beneath_of:FnScope N_beneath_of ["tree", "place"] (defScope s_beneath_of):=⟨rfl,rfl,rfl,by decide +kernel,rfl,by decide +kernel,by decide +kernel⟩
abbrev s_is_trie:Stmt:=top 13
abbrev N_is_trie:List Str:=["thing"]
theorem sc_is_trie:FnScope N_is_trie ["thing"] (defScope s_is_trie):=⟨rfl,rfl,rfl,by decide +kernel,rfl,by decide +kernel,by decide +kernel⟩
abbrev s_letters_beneath:Stmt:=top 14
abbrev N_letters_beneath:List Str:=["tree", "place"]
theorem sc_letters_beneath:FnScope N_letters_beneath ["tree", "place"] (defScope s_letters_beneath):=⟨rfl,rfl,rfl,by decide +kernel,rfl,by decide +kernel,by decide +kernel⟩
abbrev s_law_cell_at:Stmt:=top 16
abbrev N_law_cell_at:List Str:=["script", "k"]
theorem sc_law_cell_at:FnScope N_law_cell_at ["script", "k"] (defScope s_law_cell_at):=⟨rfl,rfl,rfl,by decide +kernel,rfl,by decide +kernel,by decide +kernel⟩
abbrev s_law_pool:Stmt:=top 17
abbrev N_law_pool:List Str:=["script", "at", "cell", "big", "turn", "one"]
theorem sc_law_pool:FnScope N_law_pool ["script", "at"] (defScope s_law_pool):=⟨rfl,rfl,rfl,by decide +kernel,rfl,by decide +kernel,by decide +kernel⟩
abbrev s_law_take:Stmt:=top 18
abbrev N_law_take:List Str:=["pool", "many", "at", "number"]
theorem sc_law_take:FnScope N_law_take ["pool", "many"] (defScope s_law_take):=⟨rfl,rfl,rfl,by decide +kernel,rfl,by decide +kernel,by decide +kernel⟩
abbrev s_law_letters:Stmt:=top 19
abbrev N_law_letters:List Str:=["pool", "many", "first", "by"]
theorem sc_law_letters:FnScope N_law_letters ["pool"] (defScope s_law_letters):=⟨rfl,rfl,rfl,by decide +kernel,rfl,by decide +kernel,by decide +kernel⟩
abbrev s_law_grown:Stmt:=top 20
abbrev N_law_grown:List Str:=["pool", "many", "kind", "letters", "ups", "line", "k", "deep", "low", "near", "comb", "cut", "way", "other", "labels", "at"]
theorem sc_law_grown:FnScope N_law_grown ["pool", "many", "kind", "letters"] (defScope s_law_grown):=⟨rfl,rfl,rfl,by decide +kernel,rfl,by decide +kernel,by decide +kernel⟩
abbrev s_law_copies:Stmt:=top 21
abbrev N_law_copies:List Str:=["pool", "most", "letters", "one", "chain", "ups", "labels", "turn", "here"]
theorem sc_law_copies:FnScope N_law_copies ["pool", "most", "letters"] (defScope s_law_copies):=⟨rfl,rfl,rfl,by decide +kernel,rfl,by decide +kernel,by decide +kernel⟩
abbrev s_law_tree:Stmt:=top 22
abbrev N_law_tree:List Str:=["pool", "most", "letters", "kind", "many"]
theorem sc_law_tree:FnScope N_law_tree ["pool", "most", "letters"] (defScope s_law_tree):=⟨rfl,rfl,rfl,by decide +kernel,rfl,by decide +kernel,by decide +kernel⟩
abbrev s_law_ways:Stmt:=top 23
abbrev N_law_ways:List Str:=["tree", "found", "place", "up", "ahead"]
theorem sc_law_ways:FnScope N_law_ways ["tree"] (defScope s_law_ways):=⟨rfl,rfl,rfl,by decide +kernel,rfl,by decide +kernel,by decide +kernel⟩
abbrev s_law_trie:Stmt:=top 24
abbrev N_law_trie:List Str:=["ways", "rows", "ups", "way", "up"]
theorem sc_law_trie:FnScope N_law_trie ["ways"] (defScope s_law_trie):=⟨rfl,rfl,rfl,by decide +kernel,rfl,by decide +kernel,by decide +kernel⟩
abbrev s_law_ups:Stmt:=top 25
abbrev N_law_ups:List Str:=["ups", "odd", "line", "k"]
theorem sc_law_ups:FnScope N_law_ups ["ups"] (defScope s_law_ups):=⟨rfl,rfl,rfl,by decide +kernel,rfl,by decide +kernel,by decide +kernel⟩
abbrev s_law_due:Stmt:=top 26
abbrev N_law_due:List Str:=["thing", "ups", "labels", "place", "some"]
theorem sc_law_due:FnScope N_law_due ["thing"] (defScope s_law_due):=⟨rfl,rfl,rfl,by decide +kernel,rfl,by decide +kernel,by decide +kernel⟩
abbrev s_law_bent:Stmt:=top 27
abbrev N_law_bent:List Str:=["pool", "tree", "way", "pick", "ups", "labels", "at", "letter", "sign", "odd", "bent", "turned", "signed", "some"]
theorem sc_law_bent:FnScope N_law_bent ["pool", "tree"] (defScope s_law_bent):=⟨rfl,rfl,rfl,by decide +kernel,rfl,by decide +kernel,by decide +kernel⟩
abbrev s_law_right:Stmt:=top 28
abbrev N_law_right:List Str:=["thing", "kept", "found"]
theorem sc_law_right:FnScope N_law_right ["thing"] (defScope s_law_right):=⟨rfl,rfl,rfl,by decide +kernel,rfl,by decide +kernel,by decide +kernel⟩
abbrev s_law:Stmt:=top 29
abbrev N_law:List Str:=["script", "at", "pool", "letters", "tree", "trie", "things", "odd"]
theorem sc_law:FnScope N_law ["script"] (defScope s_law):=⟨rfl,rfl,rfl,by decide +kernel,rfl,by decide +kernel,by decide +kernel⟩
section
variable {P:Program} {w:World} {K:PySem.W.Frag} {mg:Str→Option Value} {base:Heap} {k:Nat}
abbrev Lw (c:Nat):Prop:=97≤c∧c < 123
def Low (l:List Nat):Prop:=∀ c∈l,Lw c
theorem Low.app {a b:List Nat} (h:Low a) (g:Low b):Low (a++b):=fun c hc=>(List.mem_append.mp hc).elim (h c) (g c)
theorem Low.one {c:Nat} (h:Lw c):Low [c]:=fun d hd=>by rw [List.mem_singleton.mp hd];exact h
theorem Low.nil:Low []:=fun c hc=>nomatch hc
def mk (l:List Nat):Str:=⟨l.toArray⟩
theorem mk_cps (l:List Nat):(mk l).cps.toList=l:=rfl
theorem mk_len (l:List Nat):(mk l).length=l.length:=by simp [mk,Str.length]
theorem str_ext {a b:Str} (h:a.cps.toList=b.cps.toList):a=b:=by
  obtain ⟨x⟩:=a;obtain ⟨y⟩:=b
  have:x=y:=Array.toList_inj.mp h
  rw [this]
def TreeAt (H:Hp) (t:Addr) (ups:List Int) (lab:Str):Prop:=∃ u,H t=some (.tup [.ref u,.str lab])∧H u=some (.tup (ups.map V.int))∧TreeOk ups lab.cps.toList
theorem TreeAt.same {H H':Hp} {t:Addr} {ups:List Int} {lab:Str} (h:TreeAt H t ups lab) (s:Same H H'):TreeAt H' t ups lab:=by
  obtain ⟨u,a,b,c⟩:=h
  exact ⟨u,s _ _ a,s _ _ b,c⟩
def sp_cell:PySem.W.Frag→Sp:=fun K vs H Q _=>∃ (a:Addr) (ns:List Int) (i:Int),vs=[.ref a,.int i]∧SqL K H a (ns.map V.int)∧ns.length≤63∧0≤i∧∀ n:Int,Q (.int n) H
theorem has_cell (D:Df K mg "_law_cell_at" s_law_cell_at) (B:Blt mg):Has P w K mg base "_law_cell_at" (k+1) ["script", "k"] (sp_cell K):=by
  refine D.has sc_law_cell_at (fun _ _ _ _ _ _ us hl=>match us,hl with | [_,_],_=>rfl) (fun vs H Q E h=>by obtain ⟨a,ns,i,rfl,_⟩:=h;rfl) (fun f cdv A outer s H vs Q E hr h=>?_)
  obtain ⟨a,ns,i,rfl,hS,h63,h0,q⟩:=h
  refine ⟨_,(pss_cons (ps_if (pt_cmpR op_lt (pv 1) (pe_callB call_len_seq rfl B.len bt_len (pa_cons (pv 0) pa_nil)) (nomark _))
  (pss_one (ps_ret (pe_ix ix_list (pv 0) (pv 1) (fun _ _=>rfl))))
  pss_nil)
  (pss_one (ps_ret pe_int))),?_⟩
  have hl:(ns.map V.int).length=ns.length:=List.length_map _
  refine ⟨_,rfl,_,rfl,a,_,rfl,.inl hS,_,_,rfl,rfl,_,rfl,ite2 (fun c=>?_) (fun c=>?_)⟩
  · have c':i < (((ns.map V.int).length:Nat):Int):=of_decide_eq_true c
    rw [hl] at c'
    have hk:i.toNat < ns.length:=by omega
    have e:atI (ns.map V.int) ((i.toNat:Nat):Int)=some (.int ns[i.toNat]):=atI_nat (by rw [List.getElem?_map,List.getElem?_eq_getElem hk] <;> rfl)
    rw [show ((i.toNat:Nat):Int)=i by omega] at e
    exact ⟨_,rfl,_,rfl,a,_,_,_,rfl,rfl,hS,e,q _⟩
  · exact q 0
def sp_pool:PySem.W.Frag→Sp:=fun K vs H Q _=>∃ (a:Addr) (ns:List Int) (i:Int),vs=[.ref a,.int i]∧SqL K H a (ns.map V.int)∧ns.length≤63∧0≤i∧i≤63∧∀ (p:Addr) (x y:Int),H p=none→Q (.ref p) (upd H p (.lst [.int x,.int y]))
theorem has_pool (D:Df K mg "_law_pool" s_law_pool) (B:Blt mg) (G_law_cell_at:Has P w K mg base "_law_cell_at" k ["script", "k"] (sp_cell K)):Has P w K mg base "_law_pool" (k+1) ["script", "at"] (sp_pool K):=by
  refine D.has sc_law_pool (fun _ _ _ _ _ _ us hl=>match us,hl with | [_,_],_=>rfl) (fun vs H Q E h=>by obtain ⟨a,ns,i,rfl,_⟩:=h;rfl) (fun f cdv A outer s H vs Q E hr h=>?_)
  obtain ⟨a,ns,i,rfl,hS,h63,h0,h1,q⟩:=h
  refine ⟨_,(pss_cons (ps_set (i:=2) sc_law_pool.nd rfl (by first | exact Or.inl rfl | exact Or.inr rfl) (pe_callH G_law_cell_at hr rfl (pa_cons (pv 0) (pa_cons (pv 1) pa_nil))))
  (pss_cons (ps_set (i:=3) sc_law_pool.nd rfl (by first | exact Or.inl rfl | exact Or.inr rfl) pe_int)
  (pss_cons (ps_for PassesOwn.never rfl (pi_range1 rfl B.range (pa_cons pe_int pa_nil)) (pg_name (i:=4) sc_law_pool.nd rfl (by first | exact Or.inl rfl | exact Or.inr rfl))
  (pss_cons (ps_set (i:=5) sc_law_pool.nd rfl (by first | exact Or.inl rfl | exact Or.inr rfl) (pe_op op_mod (pe_op op_mul (pe_op op_add (pe_op op_add (pe_op op_add (pe_op op_mod (pv 2) pe_int) (pe_op op_mul (pe_op op_mul pe_int (pv 4)) (pv 4))) (pe_op op_mul pe_int (pv 1))) pe_int) pe_int) pe_int))
  (pss_cons (ps_set (i:=5) sc_law_pool.nd rfl (by first | exact Or.inl rfl | exact Or.inr rfl) (pe_op op_mod (pe_op op_mul (pv 5) (pv 5)) pe_int))
  (pss_cons (ps_set (i:=5) sc_law_pool.nd rfl (by first | exact Or.inl rfl | exact Or.inr rfl) (pe_op op_mod (pe_op op_mul (pe_op op_add (pv 5) (pe_op op_mul pe_int (pv 4))) pe_int) pe_int))
  (pss_one (ps_set (i:=3) sc_law_pool.nd rfl (by first | exact Or.inl rfl | exact Or.inr rfl) (pe_op op_add (pe_op op_mul (pv 3) pe_int) (pe_op op_mod (pe_op op_fdiv (pv 5) pe_int) pe_int))))))))
  (pss_one (ps_ret (pe_lst (pa_cons (pe_op op_mul (pv 2) (pe_callTy call_int1 rfl B.int_ bt_int (pa_cons (pe_cmpR op_ge (pv 2) (pe_op op_pow pe_int pe_int) (nomark _)) pa_nil))) (pa_cons (pv 3) pa_nil)))))))),?_⟩
  refine ⟨_,rfl,_,rfl,a,ns,i,rfl,hS,h63,h0,fun cell=>?_⟩
  refine ⟨99,rfl,by decide,by decide,for_range (n:=99) (fun _ σ H'=>∃ (big:Int) (o1 o2:Option V),σ=[some (.ref a),some (.int i),some (.int cell),some (.int big),o1,o2]∧H'=H) ⟨0,none,none,rfl,rfl⟩ ?_ ?_⟩
  · rintro j σ H' hj ⟨big,o1,o2,rfl,rfl⟩
    have hj':(j:Int) < 99:=by omega
    refine ⟨_,rfl,_,_,rfl,rfl,(by decide:(0:Int) < 998244353),_,rfl,_,_,rfl,rfl,.inl ⟨by decide,by decide⟩,_,rfl,_,_,rfl,rfl,.inl ⟨by omega,by omega⟩,_,_,rfl,rfl,_,rfl,_,_,rfl,rfl,.inl ⟨by decide,by decide⟩,_,_,rfl,rfl,_,_,rfl,rfl,_,_,rfl,rfl,.inr ⟨by decide,by decide⟩,_,_,rfl,rfl,(by decide:(0:Int) < 2147483647),?_⟩
    generalize hone:(cell % 998244353+89 * (0+(j:Int)) * (0+(j:Int))+7 * i+1) * 48271 % 2147483647=one
    have b1:0≤one∧one < 2147483647:=by rw [← hone];exact ⟨Int.emod_nonneg _ (by decide),Int.emod_lt_of_pos _ (by decide)⟩
    refine ⟨_,rfl,_,rfl,_,_,rfl,rfl,.inl ⟨by omega,by omega⟩,_,_,rfl,rfl,(by decide:(0:Int) < 1000000007),?_⟩
    refine ⟨_,rfl,_,rfl,_,_,rfl,rfl,.inl ⟨by decide,by decide⟩,_,_,rfl,rfl,_,_,rfl,rfl,.inr ⟨by decide,by decide⟩,_,_,rfl,rfl,(by decide:(0:Int) < 2147483587),?_⟩
    refine ⟨_,rfl,_,_,rfl,rfl,.inr ⟨by decide,by decide⟩,_,rfl,_,_,rfl,rfl,⟨by decide,by decide⟩,_,_,rfl,rfl,(by decide:(0:Int) < 1000003),_,_,rfl,rfl,?_⟩
    exact ⟨_,_,_,rfl,rfl⟩
  · rintro σ H' ⟨big,o1,o2,rfl,rfl⟩
    refine ⟨_,rfl,_,rfl,_,_,rfl,rfl,⟨by decide,by decide,by decide⟩,_,_,rfl,rfl,.inr ⟨_,rfl,?_⟩⟩
    refine ⟨_,_,rfl,rfl,.inr ⟨?_,?_⟩,_,rfl,(by show 2≤sizeLine;decide),fun p hp=>q p _ _ hp⟩
    · split <;> decide
    · split <;> decide
def sp_take:Sp:=fun vs H Q _=>∃ (p:Addr) (m:Int),vs=[.ref p,.int m]∧Pool H p∧0 < m∧m < 1073741824∧∀ (n:Int) (H':Hp),0≤n→n < m→Kp p H H'→Q (.int n) H'
theorem has_take (D:Df K mg "_law_take" s_law_take) (B:Blt mg):Has P w K mg base "_law_take" (k+1) ["pool", "many"] sp_take:=by
  refine D.has sc_law_take (fun _ _ _ _ _ _ us hl=>match us,hl with | [_,_],_=>rfl) (fun vs H Q E h=>by obtain ⟨p,m,rfl,_⟩:=h;rfl) (fun f cdv A outer s H vs Q E hr h=>?_)
  obtain ⟨p,m,rfl,⟨x,y,hp⟩,m0,m1,q⟩:=h
  refine ⟨_,(pss_cons (ps_set (i:=2) sc_law_take.nd rfl (by first | exact Or.inl rfl | exact Or.inr rfl) (pe_callTy call_int1 rfl B.int_ bt_int (pa_cons (pe_cmpR op_eq (pe_ix ix_list (pv 0) pe_int (fun _ _=>rfl)) pe_int (nomark _)) pa_nil)))
  (pss_cons (ps_set (i:=3) sc_law_take.nd rfl (by first | exact Or.inl rfl | exact Or.inr rfl) (pe_op op_mod (pe_ix ix_list (pv 0) (pv 2) (fun _ _=>rfl)) (pv 1)))
  (pss_cons (ps_asg (pe_op op_fdiv (pe_ix ix_list (pv 0) (pv 2) (fun _ _=>rfl)) (pv 1)) (pg_sub (pv 0) (pv 2) set_list))
  (pss_one (ps_ret (pv 3)))))),?_⟩
  have fin:∀ z x' y':Int,Q (.int (z % m)) (upd H p (.lst [.int x',.int y'])):=fun z x' y'=>
    q _ _ (Int.emod_nonneg _ (by omega)) (Int.emod_lt_of_pos _ m0) ⟨⟨x',y',upd_same⟩,fun b o hb e=>by rw [upd_ne hb];exact e⟩
  refine ⟨_,rfl,p,_,_,_,rfl,rfl,SqL.of hp,rfl,rfl,.inr ⟨_,rfl,?_⟩⟩
  generalize decide (V.int x=V.int 0)=b
  cases b
  · refine ⟨_,rfl,_,rfl,p,_,_,_,rfl,rfl,SqL.of hp,rfl,_,rfl,_,_,rfl,rfl,m0,?_⟩
    refine ⟨_,rfl,_,rfl,p,_,_,_,rfl,rfl,SqL.of hp,rfl,_,rfl,_,_,rfl,rfl,⟨m0,m1⟩,?_⟩
    refine ⟨_,rfl,_,rfl,p,_,_,0,rfl,rfl,hp,rfl,_,rfl,fin x _ y⟩
  · refine ⟨_,rfl,_,rfl,p,_,_,_,rfl,rfl,SqL.of hp,rfl,_,rfl,_,_,rfl,rfl,m0,?_⟩
    refine ⟨_,rfl,_,rfl,p,_,_,_,rfl,rfl,SqL.of hp,rfl,_,rfl,_,_,rfl,rfl,⟨m0,m1⟩,?_⟩
    refine ⟨_,rfl,_,rfl,p,_,_,1,rfl,rfl,hp,rfl,_,rfl,fin y x _⟩
end
end S53
namespace S53
open PySem L2 W7
section
variable {P:Program} {w:World} {K:PySem.W.Frag} {mg:Str→Option Value} {base:Heap} {k:Nat}
theorem ne_pool {H:Hp} {p q:Addr} {o:HO} (h:Pool H p) (e:H q=some o) (ho:∀ x y:Int,o≠.lst [.int x,.int y]):q≠p:=fun z=>by
  obtain ⟨x,y,hp⟩:=h
  subst z
  rw [hp] at e
  exact ho x y (Option.some.inj e).symm
theorem TreeAt.kp {H H':Hp} {p t:Addr} {ups:List Int} {lab:Str} (h:TreeAt H t ups lab) (hp:Pool H p) (s:Kp p H H'):TreeAt H' t ups lab:=by
  obtain ⟨u,a,b,c⟩:=h
  exact ⟨u,s.keep _ _ (ne_pool hp a (fun _ _ z=>nomatch z)) a,s.keep _ _ (ne_pool hp b (fun _ _ z=>nomatch z)) b,c⟩
theorem _root_.L2.Kp.free' {H H':Hp} {p a:Addr} (k:Kp p H H') (hp:Pool H p) (h:H' a=none):H a=none:=by
  have ap:a≠p:=k.pool.ne h
  cases e:H a with
  | none=>rfl
  | some o=>have:=k.keep a o ap e;rw [h] at this;cases this
def oneV (cs:List Nat):List V:=cs.map fun c=>.str ⟨#[c]⟩
theorem oneV_len (cs:List Nat):(oneV cs).length=cs.length:=List.length_map _
theorem oneV_at {cs:List Nat} {i:Int} (h0:0≤i) (h1:i < (cs.length:Int)):∃ c,atI (oneV cs) i=some (.str ⟨#[c]⟩)∧c∈cs:=by
  have hk:i.toNat < cs.length:=by omega
  refine ⟨cs[i.toNat],?_,List.getElem_mem hk⟩
  have e:=atI_nat (xs:=oneV cs) (j:=i.toNat) (v:=.str ⟨#[cs[i.toNat]]⟩) (by unfold oneV;rw [List.getElem?_map,List.getElem?_eq_getElem hk];rfl)
  rw [show ((i.toNat:Nat):Int)=i by omega] at e
  exact e
theorem oneV_ne {cs:List Nat} (h:0 < cs.length):∀ x y:Int,HO.lst (oneV cs)≠.lst [.int x,.int y]:=by
  intro x y z
  cases cs with
  | nil=>simp at h
  | cons c r=>
    injection z with z
    unfold oneV at z
    rw [List.map_cons] at z
    injection z with z1 z2
    cases z1
theorem ints_at {us:List Int} {i:Int} (h0:0≤i) (h1:i < (us.length:Int)):atI (us.map V.int) i=some (.int (us.getD i.toNat 0)):=by
  have hk:i.toNat < us.length:=by omega
  have e:=atI_nat (xs:=us.map V.int) (j:=i.toNat) (v:=.int (us.getD i.toNat 0)) (by rw [List.getElem?_map,List.getElem?_eq_getElem hk,List.getD_eq_getElem?_getD,List.getElem?_eq_getElem hk];rfl)
  rw [show ((i.toNat:Nat):Int)=i by omega] at e
  exact e
theorem cutV_to {xs:List V} {i:Int} (h0:0≤i) (h1:i≤(xs.length:Int)):cutV xs none (some i)=xs.take i.toNat:=by
  unfold cutV
  have e:HT.sIx xs.length xs.length (some i)=i.toNat:=by
    simp only [HT.sIx];rw [if_neg (by omega)];omega
  rw [e];simp [HT.sIx]
theorem cutV_from {xs:List V} {j:Nat} (h1:j≤xs.length):cutV xs (some (j:Int)) none=xs.drop j:=by
  unfold cutV
  rw [HT.sIx_nat,HT.sIx_none,Nat.min_eq_left h1]
  exact List.take_of_length_le (by rw [List.length_drop];omega)
def sp_letters:Sp:=fun vs H Q _=>∃ p:Addr,vs=[.ref p]∧Pool H p∧∀ (q:Addr) (cs:List Nat) (H':Hp),Kp p H H'→H' q=some (.lst (oneV cs))→0 < cs.length→cs.length≤26→Low cs→H q=none→Q (.ref q) H'
theorem menu6 {n:Int} (h0:0≤n) (h1:n < 6):∃ v:Int,atI [V.int 1,.int 2,.int 2,.int 3,.int 5,.int 26] n=some (.int v)∧1≤v∧v≤26:=by
  have:n=0∨n=1∨n=2∨n=3∨n=4∨n=5:=by omega
  rcases this with rfl | rfl | rfl | rfl | rfl | rfl <;> exact ⟨_,rfl,by decide,by decide⟩
theorem menu3 {n:Int} (h0:0≤n) (h1:n < 3):∃ v:Int,atI [V.int 1,.int 3,.int 25] n=some (.int v)∧1≤v∧v≤25:=by
  have:n=0∨n=1∨n=2:=by omega
  rcases this with rfl | rfl | rfl <;> exact ⟨_,rfl,by decide,by decide⟩
theorem alph_at {i:Int} (h0:0≤i) (h1:i < 26):∃ c,atI (Str.ofString "abcdefghijklmnopqrstuvwxyz").cps.toList i=some c∧Lw c:=by
  have hl:(Str.ofString "abcdefghijklmnopqrstuvwxyz").cps.toList.length=26:=by decide +kernel
  have hk:i.toNat < (Str.ofString "abcdefghijklmnopqrstuvwxyz").cps.toList.length:=by omega
  have e:=atI_nat (xs:=(Str.ofString "abcdefghijklmnopqrstuvwxyz").cps.toList) (j:=i.toNat) (List.getElem?_eq_getElem hk)
  rw [show ((i.toNat:Nat):Int)=i by omega] at e
  have al:∀ c∈(Str.ofString "abcdefghijklmnopqrstuvwxyz").cps.toList,Lw c:=by decide +kernel
  exact ⟨_,e,al _ (List.getElem_mem hk)⟩
theorem has_letters (D:Df K mg "_law_letters" s_law_letters) (B:Blt mg) (G_law_take:Has P w K mg base "_law_take" k ["pool", "many"] sp_take):Has P w K mg base "_law_letters" (k+1) ["pool"] sp_letters:=by
  refine D.has sc_law_letters (fun _ _ _ _ _ _ us hl=>match us,hl with | [_],_=>rfl) (fun vs H Q E h=>by obtain ⟨p,rfl,_⟩:=h;rfl) (fun f cdv A outer s H vs Q E hr h=>?_)
  obtain ⟨p,rfl,hp,q⟩:=h
  refine ⟨_,(pss_cons (ps_set (i:=1) sc_law_letters.nd rfl (by first | exact Or.inl rfl | exact Or.inr rfl) (pe_ix ix_list (pe_lst (pa_cons pe_int (pa_cons pe_int (pa_cons pe_int (pa_cons pe_int (pa_cons pe_int (pa_cons pe_int pa_nil))))))) (pe_callH G_law_take hr rfl (pa_cons (pv 0) (pa_cons pe_int pa_nil))) (fun _ _=>rfl)))
  (pss_cons (ps_set (i:=2) sc_law_letters.nd rfl (by first | exact Or.inl rfl | exact Or.inr rfl) (pe_callH G_law_take hr rfl (pa_cons (pv 0) (pa_cons pe_int pa_nil))))
  (pss_cons (ps_set (i:=3) sc_law_letters.nd rfl (by first | exact Or.inl rfl | exact Or.inr rfl) (pe_ix ix_list (pe_lst (pa_cons pe_int (pa_cons pe_int (pa_cons pe_int pa_nil)))) (pe_callH G_law_take hr rfl (pa_cons (pv 0) (pa_cons pe_int pa_nil))) (fun _ _=>rfl)))
  (pss_one (ps_ret (pe_comp rfl (pi_range1 rfl B.range (pa_cons (pv 1) pa_nil)) (NL:=["k"]) (ix:=[2,3]) (csc (defScope s_law_letters) N_law_letters) (fun cl C s₃ H₃ fp pins=>⟨(pg_name (i:=0) (show List.Nodup (["k", "first", "by"]:List Str) from by decide +kernel) rfl (by first | exact Or.inl rfl | exact Or.inr rfl)),pifs_nil,(pe_ix ix_str pe_str (pe_op op_mod (pe_op op_add (pv 1) (pe_op op_mul (pv 2) (pv 0))) pe_int) (fun _ _=>rfl))⟩))))))),?_⟩
  have k0:=Kp.refl hp
  refine ⟨(by show 6≤sizeLine;decide),fun r1 hr1=>?_⟩
  have k1:Kp p H (upd H r1 (.lst [.int 1,.int 2,.int 2,.int 3,.int 5,.int 26])):=k0.new hr1
  refine ⟨_,rfl,p,6,rfl,k1.pool,by decide,by decide,fun n1 H1 a0 a1 kp1=>?_⟩
  obtain ⟨many,hv,b0,b1⟩:=menu6 a0 a1
  refine ⟨r1,_,_,_,rfl,rfl,SqL.of (kp1.keep _ _ (hp.ne hr1) upd_same),hv,?_⟩
  refine ⟨_,rfl,p,26,rfl,kp1.pool,by decide,by decide,fun first H2 c0 c1 kp2=>?_⟩
  refine ⟨(by show 3≤sizeLine;decide),fun r2 hr2=>?_⟩
  have k3:Kp p H (upd H2 r2 (.lst [.int 1,.int 3,.int 25])):=((k1.trans kp1).trans kp2).new hr2
  refine ⟨_,rfl,p,3,rfl,k3.pool,by decide,by decide,fun n3 H3 d0 d1 kp3=>?_⟩
  obtain ⟨by',hv3,e0,e1⟩:=menu3 d0 d1
  refine ⟨r2,_,_,_,rfl,rfl,SqL.of (kp3.keep _ _ (kp2.pool.ne hr2) upd_same),hv3,?_⟩
  have k4:Kp p H H3:=k3.trans kp3
  refine ⟨_,rfl,many,rfl,by omega,by omega,fun acc hacc=>?_⟩
  refine comp_by many.toNat (by omega) (fun i ys H'=>H' acc=some (.lst ys)∧ys.length=i∧(∃ cs,ys=oneV cs∧Low cs)∧Kp p H H') (fun i ys H' h=>⟨h.1,by omega⟩) ⟨upd_same,rfl,⟨[],rfl,Low.nil⟩,k4.new hacc⟩ ?_ ?_
  · rintro ys H' ⟨h1,h2,⟨cs,rfl,lw⟩,h3⟩
    rw [oneV_len] at h2
    exact ⟨Nat.le_refl _,q acc cs H' h3 h1 (by omega) (by omega) lw (k4.free' hp hacc)⟩
  · rintro i ys H' hi ⟨h1,h2,⟨cs,rfl,lw⟩,h3⟩
    refine ⟨hi,?_⟩
    rintro x H'' ⟨rfl,rfl⟩
    refine ⟨rfl,?_⟩
    have hb:((first+by' * (0+(i:Int))) % 26:Int) < 26:=Int.emod_lt_of_pos _ (by decide)
    have hb0:0≤((first+by' * (0+(i:Int))) % 26:Int):=Int.emod_nonneg _ (by decide)
    obtain ⟨c,hc,hcl⟩:=alph_at hb0 hb
    refine ⟨_,rfl,_,rfl,_,rfl,_,_,rfl,rfl,.inl ⟨by omega,by omega⟩,_,_,rfl,rfl,_,_,rfl,rfl,(by decide:(0:Int) < 26),_,_,c,rfl,rfl,?_,hc,h1,?_⟩
    · show (Str.ofString "abcdefghijklmnopqrstuvwxyz").length≤sizeLine
      have:(Str.ofString "abcdefghijklmnopqrstuvwxyz").length=26:=by decide +kernel
      rw [this];decide
    · refine ⟨upd_same,by rw [List.length_append,h2];rfl,⟨cs++[c],by unfold oneV;rw [List.map_append];rfl,lw.app (Low.one hcl)⟩,?_⟩
      have hacc0:H acc=none∨True:=.inr trivial
      exact ⟨by obtain ⟨x,y,e⟩:=h3.pool;exact ⟨x,y,by rw [upd_ne (ne_of e h1 (Ne.symm (fun z=>by
          rcases cs with _ | ⟨c',r⟩
          · injection z with z;cases z
          · exact oneV_ne (cs:=c' :: r) (by simp) x y z)))];exact e⟩,
        fun b o hb e=>by
          have:=h3.keep b o hb e
          have ne:b≠acc:=fun z=>by
            subst z
            have q1:=k4.keep b o hb e
            rw [hacc] at q1;cases q1
          rw [upd_ne ne];exact this⟩
end
end S53
namespace S53
open PySem L2 W7
section
variable {P:Program} {w:World} {K:PySem.W.Frag} {mg:Str→Option Value} {base:Heap} {k:Nat}
structure GrOk (us:List Int):Prop where
  pos:0 < us.length
  root:us.getD 0 0=-1
  up:∀ k,0 < k→k < us.length→0≤us.getD k 0∧us.getD k 0 < (k:Int)
theorem getD_app {us vs:List Int} {j:Nat}:(us++vs).getD j 0=if j < us.length then us.getD j 0 else vs.getD (j - us.length) 0:=by
  simp only [List.getD_eq_getElem?_getD]
  split
  · rename_i h;rw [List.getElem?_append_left h]
  · rename_i h;rw [List.getElem?_append_right (by omega)]
theorem GrOk.snoc {us:List Int} (g:GrOk us) {v:Int} (h0:0≤v) (h1:v < (us.length:Int)):GrOk (us++[v]) where
  pos:=by rw [List.length_append];have:=g.pos;omega
  root:=by rw [getD_app,if_pos g.pos];exact g.root
  up:=fun j hj hl=>by
    rw [List.length_append,List.length_singleton] at hl
    rw [getD_app]
    split
    · rename_i h;exact g.up j hj h
    · rename_i h
      have e:j=us.length:=by omega
      subst e
      rw [Nat.sub_self]
      exact ⟨h0,h1⟩
theorem GrOk.one:GrOk [-1]:=⟨by decide,rfl,fun j h0 h1=>by
  have:j < 1:=h1
  omega⟩
theorem mem_getD {us:List Int} {j:Nat} (h:j < us.length):us.getD j 0∈us:=by
  rw [List.getD_eq_getElem?_getD,List.getElem?_eq_getElem h]
  exact List.getElem_mem h
def sp_grown:Sp:=fun vs H Q _=>∃ (p ℓ:Addr) (many kind:Int) (cs:List Nat),vs=[.ref p,.int many,.int kind,.ref ℓ]∧Pool H p∧1≤many∧many≤60∧0≤kind∧kind < 6∧H ℓ=some (.lst (oneV cs))∧0 < cs.length∧cs.length≤26∧Low cs ∧
  ∀ (t:Addr) (ups:List Int) (lab:Str) (H':Hp),Kp p H H'→TreeAt H' t ups lab→Low lab.cps.toList→Q (.ref t) H'
theorem has_grown (D:Df K mg "_law_grown" s_law_grown) (B:Blt mg) (G_law_take:Has P w K mg base "_law_take" k ["pool", "many"] sp_take):Has P w K mg base "_law_grown" (k+1) ["pool", "many", "kind", "letters"] sp_grown:=by
  refine D.has sc_law_grown (fun _ _ _ _ _ _ us hl=>match us,hl with | [_,_,_,_],_=>rfl) (fun vs H Q E h=>by obtain ⟨p,ℓ,many,kind,cs,rfl,_⟩:=h;rfl) (fun f cdv A outer s H vs Q E hr h=>?_)
  obtain ⟨p,ℓ,many,kind,cs,rfl,hp,m1,m60,kd0,kd6,hℓ,cs0,cs26,clw,q⟩:=h
  refine ⟨_,(pss_cons (ps_set (i:=4) sc_law_grown.nd rfl (by first | exact Or.inl rfl | exact Or.inr rfl) (pe_lst (pa_cons (pe_un un_neg pe_int) pa_nil)))
  (pss_cons (ps_set (i:=5) sc_law_grown.nd rfl (by first | exact Or.inl rfl | exact Or.inr rfl) (pe_lst (pa_cons pe_int pa_nil)))
  (pss_cons (ps_for PassesOwn.never rfl (pi_range2 rfl B.range (pa_cons pe_int (pa_cons (pv 1) pa_nil))) (pg_name (i:=6) sc_law_grown.nd rfl (by first | exact Or.inl rfl | exact Or.inr rfl))
  (pss_cons (ps_set (i:=7) sc_law_grown.nd rfl (by first | exact Or.inl rfl | exact Or.inr rfl) (pe_callB call_len_seq rfl B.len bt_len (pa_cons (pv 5) pa_nil)))
  (pss_cons (ps_set (i:=8) sc_law_grown.nd rfl (by first | exact Or.inl rfl | exact Or.inr rfl) (pe_ix ix_list (pe_lst (pa_cons (pv 7) (pa_cons (pe_op op_add pe_int (pe_callH G_law_take hr rfl (pa_cons (pv 0) (pa_cons pe_int pa_nil)))) pa_nil))) (pe_callTy call_int1 rfl B.int_ bt_int (pa_cons (pe_cmpR op_gt (pv 7) pe_int (nomark _)) pa_nil)) (fun _ _=>rfl)))
  (pss_cons (ps_set (i:=9) sc_law_grown.nd rfl (by first | exact Or.inl rfl | exact Or.inr rfl) (pe_callB (call_max2 rfl) rfl B.max bt_max (pa_cons pe_int (pa_cons (pe_op op_sub (pv 7) (pe_callH G_law_take hr rfl (pa_cons (pv 0) (pa_cons pe_int pa_nil)))) pa_nil))))
  (pss_cons (ps_set (i:=10) sc_law_grown.nd rfl (by first | exact Or.inl rfl | exact Or.inr rfl) (pe_callB (call_max2 rfl) rfl B.max bt_max (pa_cons pe_int (pa_cons (pe_op op_add (pe_op op_sub (pv 7) pe_int) (pe_op op_mod (pv 6) pe_int)) pa_nil))))
  (pss_cons (ps_set (i:=11) sc_law_grown.nd rfl (by first | exact Or.inl rfl | exact Or.inr rfl) (pe_ix ix_list (pe_lst (pa_cons (pv 7) (pa_cons pe_int (pa_cons (pe_op op_add pe_int (pe_callH G_law_take hr rfl (pa_cons (pv 0) (pa_cons (pv 7) pa_nil)))) (pa_cons (pv 9) (pa_cons (pv 10) (pa_cons (pv 8) pa_nil))))))) (pv 2) (fun _ _=>rfl)))
  (pss_cons (ps_expr (pe_bm PySem.F.plainAttrs_list PySem.F.slot_list_append PySem.F.type_list_append mt_append (pv 4) (pa_cons (pe_ix ix_list (pv 5) (pe_op op_sub (pv 11) pe_int) (fun _ _=>rfl)) pa_nil)))
  (pss_one (ps_set (i:=5) sc_law_grown.nd rfl (by first | exact Or.inl rfl | exact Or.inr rfl) (pe_op op_cat (pe_slice sl_list (pv 5) po_none (po_some (pv 11))) (pe_lst (pa_cons (pv 6) pa_nil))))))))))))
  (pss_cons (ps_set (i:=12) sc_law_grown.nd rfl (by first | exact Or.inl rfl | exact Or.inr rfl) (pe_callH G_law_take hr rfl (pa_cons (pv 0) (pa_cons pe_int pa_nil))))
  (pss_cons (ps_set (i:=13) sc_law_grown.nd rfl (by first | exact Or.inl rfl | exact Or.inr rfl) (pe_ix ix_list (pe_lst (pa_cons (pe_callH G_law_take hr rfl (pa_cons (pv 0) (pa_cons (pv 1) pa_nil))) (pa_cons pe_int pa_nil))) (pe_callH G_law_take hr rfl (pa_cons (pv 0) (pa_cons pe_int pa_nil))) (fun _ _=>rfl)))
  (pss_cons (ps_set (i:=14) sc_law_grown.nd rfl (by first | exact Or.inl rfl | exact Or.inr rfl) pe_str)
  (pss_cons (ps_for PassesOwn.never rfl (pi_range1 rfl B.range (pa_cons (pv 1) pa_nil)) (pg_name (i:=6) sc_law_grown.nd rfl (by first | exact Or.inl rfl | exact Or.inr rfl))
  (pss_cons (ps_set (i:=15) sc_law_grown.nd rfl (by first | exact Or.inl rfl | exact Or.inr rfl) (pe_callH G_law_take hr rfl (pa_cons (pv 0) (pa_cons (pe_callB call_len_seq rfl B.len bt_len (pa_cons (pv 3) pa_nil)) pa_nil))))
  (pss_cons (ps_if (pt_chain op_lt op_lt pe_int (pv 12) pe_int)
  (pss_one (ps_set (i:=15) sc_law_grown.nd rfl (by first | exact Or.inl rfl | exact Or.inr rfl) (pe_op op_mod (pe_op op_mod (pv 6) (pv 12)) (pe_callB call_len_seq rfl B.len bt_len (pa_cons (pv 3) pa_nil)))))
  pss_nil)
  (pss_cons (ps_if (pt_cmpR op_gt (pv 12) pe_int (nomark _))
  (pss_one (ps_set (i:=15) sc_law_grown.nd rfl (by first | exact Or.inl rfl | exact Or.inr rfl) (pe_op op_mod (pe_callTy call_int1 rfl B.int_ bt_int (pa_cons (pe_cmpR op_eq (pv 6) (pv 13) (nomark _)) pa_nil)) (pe_callB call_len_seq rfl B.len bt_len (pa_cons (pv 3) pa_nil)))))
  pss_nil)
  (pss_one (ps_set (i:=14) sc_law_grown.nd rfl (by first | exact Or.inl rfl | exact Or.inr rfl) (pe_op op_add_str (pv 14) (pe_ix ix_list (pv 3) (pv 15) (fun _ _=>rfl)))))))))
  (pss_one (ps_ret (pe_tup (pa_cons (pe_callTy call_tuple_of rfl B.tuple_ bt_tuple (pa_cons (pv 4) pa_nil)) (pa_cons (pv 14) pa_nil)))))))))))),?_⟩
  have hℓp:ℓ≠p:=ne_pool hp hℓ (oneV_ne cs0)
  have ocl:(oneV cs).length=cs.length:=oneV_len cs
  refine ⟨_,rfl,(by show 1≤sizeLine;decide),fun u hu0=>?_⟩
  have k1:Kp p H (upd H u (.lst [.int (-1)])):=(Kp.refl hp).new hu0
  refine ⟨(by show 1≤sizeLine;decide),fun l0 hl0=>?_⟩
  have k2:Kp p H (upd (upd H u (.lst [.int (-1)])) l0 (.lst [.int 0])):=k1.new hl0
  have hup:u≠p:=hp.ne hu0
  have ne0:u≠l0:=ne_of_none upd_same hl0
  refine ⟨_,rfl,1,many,rfl,⟨by decide,by decide,by omega,by omega⟩,?_⟩
  refine for_range (lo:=1) (n:=(many - 1).toNat) (fun i σ H'=>∃ (l:Addr) (us line:List Int) (o6 o7 o8 o9 o10 o11:Option V),
      σ=[some (.ref p),some (.int many),some (.int kind),some (.ref ℓ),some (.ref u),some (.ref l),o6,o7,o8,o9,o10,o11,none,none,none,none]∧Kp p H H'∧H' u=some (.lst (us.map V.int))∧H' l=some (.lst (line.map V.int))∧l≠u∧l≠p ∧
      us.length=i+1∧GrOk us∧1≤line.length∧line.length≤i+1∧∀ v∈line,0≤v∧v < (i:Int)+1)
    ⟨l0,[-1],[0],none,none,none,none,none,none,rfl,k2,by rw [upd_ne ne0];exact upd_same,upd_same,Ne.symm ne0,k1.pool.ne hl0,rfl,GrOk.one,by decide,by decide,by simp⟩ ?_ ?_
  · rintro i σ H' hi ⟨l,us,line,o6,o7,o8,o9,o10,o11,rfl,kp,hu,hl,lu,lp,hlen,gr,ln1,ln2,lmem⟩
    have hd:(line.map V.int).length=line.length:=List.length_map _
    have hul:(us.map V.int).length=us.length:=List.length_map _
    refine ⟨_,rfl,l,_,rfl,.inl (SqL.of hl),?_⟩
    generalize hD:(((line.map V.int).length:Nat):Int)=d
    have d1:1≤d:=by omega
    have d2:d≤60:=by omega
    have d3:d=(line.length:Int):=by omega
    refine ⟨_,rfl,_,rfl,p,4,rfl,kp.pool,by decide,by decide,fun n1 H1 a0 a1 kp1=>?_⟩
    refine ⟨_,_,rfl,rfl,(by show 2≤sizeLine;decide),fun r1 hr1=>?_⟩
    refine ⟨_,rfl,_,_,rfl,rfl,.inr ⟨_,rfl,?_⟩⟩
    have hlow:∃ v:Int,atI [V.int d,.int (1+n1)] (if decide (4 < d)=true then 1 else 0)=some (.int v)∧1≤v∧v≤d:=by
      by_cases c:4 < d
      · rw [decide_eq_true c];exact ⟨1+n1,rfl,by omega,by omega⟩
      · rw [decide_eq_false c];exact ⟨d,rfl,by omega,by omega⟩
    obtain ⟨low,hlow,l1,l2⟩:=hlow
    refine ⟨r1,_,_,_,rfl,rfl,SqL.of upd_same,hlow,?_⟩
    have kq1:=kp1.new (o:=.lst [.int d,.int (1+n1)]) hr1
    refine ⟨_,rfl,_,rfl,p,3,rfl,kq1.pool,by decide,by decide,fun n2 H2 b0 b1 kp2=>?_⟩
    refine ⟨_,_,rfl,rfl,_,_,rfl,?_⟩
    have hnear:1≤(if d - n2 > 1 then d - n2 else 1)∧(if d - n2 > 1 then d - n2 else 1)≤d:=by split <;> omega
    generalize (if d - n2 > 1 then d - n2 else 1)=near at hnear
    have kq2:=kq1.trans kp2
    refine ⟨_,rfl,_,_,rfl,rfl,_,rfl,_,_,rfl,rfl,(by decide:(0:Int) < 2),_,_,rfl,rfl,_,_,rfl,?_⟩
    have hcomb:1≤(if d - 1+(1+(i:Int)) % 2 > 1 then d - 1+(1+(i:Int)) % 2 else 1)∧(if d - 1+(1+(i:Int)) % 2 > 1 then d - 1+(1+(i:Int)) % 2 else 1)≤d:=by split <;> omega
    generalize (if d - 1+(1+(i:Int)) % 2 > 1 then d - 1+(1+(i:Int)) % 2 else 1)=comb at hcomb
    refine ⟨_,rfl,_,rfl,_,rfl,p,d,rfl,kq2.pool,by omega,by omega,fun n3 H3 c0 c1 kp3=>?_⟩
    refine ⟨_,_,rfl,rfl,_,rfl,_,rfl,_,rfl,(by show 6≤sizeLine;decide),fun r3 hr3=>?_⟩
    have hcut:∃ v:Int,atI [V.int d,.int 1,.int (1+n3),.int near,.int comb,.int low] kind=some (.int v)∧1≤v∧v≤d:=by
      have:kind=0∨kind=1∨kind=2∨kind=3∨kind=4∨kind=5:=by omega
      rcases this with rfl | rfl | rfl | rfl | rfl | rfl
      · exact ⟨_,rfl,by omega,by omega⟩
      · exact ⟨_,rfl,by omega,by omega⟩
      · exact ⟨_,rfl,by omega,by omega⟩
      · exact ⟨_,rfl,by omega,by omega⟩
      · exact ⟨_,rfl,by omega,by omega⟩
      · exact ⟨_,rfl,by omega,by omega⟩
    obtain ⟨cut,hcut,u1,u2⟩:=hcut
    refine ⟨_,rfl,r3,_,_,_,rfl,rfl,SqL.of upd_same,hcut,?_⟩
    have kq3:=(kq2.trans kp3).new (o:=.lst [V.int d,.int 1,.int (1+n3),.int near,.int comb,.int low]) hr3
    have hu3:=kq3.keep _ _ hup hu
    have hl3:=kq3.keep _ _ lp hl
    have hat:=ints_at (us:=line) (i:=cut - 1) (by omega) (by omega)
    have hvm:=lmem _ (mem_getD (us:=line) (j:=(cut - 1).toNat) (by omega))
    generalize line.getD (cut - 1).toNat 0=v at hat hvm
    refine ⟨_,rfl,.inl ⟨rfl,_,SqL.of hu3⟩,_,rfl,_,rfl,_,_,rfl,rfl,l,_,_,_,rfl,rfl,SqL.of hl3,hat,u,_,_,rfl,rfl,hu3,by rw [hul];exact small1000 (by omega),?_⟩
    have ku4:Kp p H (upd (upd H3 r3 (.lst [V.int d,.int 1,.int (1+n3),.int near,.int comb,.int low])) u (.lst (us.map V.int++[.int v]))):=(kp.trans kq3).write hu0 hup
    generalize hH4:upd (upd H3 r3 (.lst [V.int d,.int 1,.int (1+n3),.int near,.int comb,.int low])) u (.lst (us.map V.int++[.int v]))=H4 at ku4
    have hu4:H4 u=some (.lst (us.map V.int++[.int v])):=by rw [← hH4];exact upd_same
    have hl4:H4 l=some (.lst (line.map V.int)):=by rw [← hH4,upd_ne lu];exact hl3
    refine ⟨_,rfl,_,rfl,_,rfl,l,_,rfl,SqL.of hl4,fun r4 hr4=>?_⟩
    refine ⟨_,rfl,(by show 1≤sizeLine;decide),fun r5 hr5=>?_⟩
    have ec:cutV (line.map V.int) none (some cut)=(line.take cut.toNat).map V.int:=by rw [cutV_to (by omega) (by omega),List.map_take]
    rw [ec]
    rw [ec] at hr5
    have ne45:r4≠r5:=ne_of_none upd_same hr5
    refine ⟨r4,r5,_,_,rfl,rfl,by rw [upd_ne ne45];exact upd_same,upd_same,?_,fun r6 hr6=>?_⟩
    · rw [List.length_map,List.length_take]
      have:([V.int (1+(i:Int))]:List V).length=1:=rfl
      rw [this]
      exact Nat.le_of_lt (small1000 (by omega))
    have ku5:=((ku4.new (o:=.lst ((line.take cut.toNat).map V.int)) hr4).new (o:=.lst [V.int (1+(i:Int))]) hr5)
    have hu5:(upd (upd H4 r4 (.lst ((line.take cut.toNat).map V.int))) r5 (.lst [V.int (1+(i:Int))])) u=some (.lst (us.map V.int++[.int v])):=by
      have e4:upd H4 r4 (.lst ((line.take cut.toNat).map V.int)) u=some (.lst (us.map V.int++[.int v])):=by rw [upd_ne (ne_of_none hu4 hr4)];exact hu4
      rw [upd_ne (ne_of_none e4 hr5)];exact e4
    refine ⟨r6,us++[v],line.take cut.toNat++[1+(i:Int)],_,_,_,_,_,_,rfl,ku5.new hr6,?_,?_,Ne.symm (ne_of_none hu5 hr6),ku5.pool.ne hr6,?_,gr.snoc hvm.1 (by omega),?_,?_,?_⟩
    · rw [upd_ne (ne_of_none hu5 hr6),hu5,List.map_append];rfl
    · rw [upd_same,List.map_append];rfl
    · rw [List.length_append,hlen];rfl
    · rw [List.length_append,List.length_singleton];omega
    · rw [List.length_append,List.length_singleton,List.length_take];omega
    · intro x hx
      rcases List.mem_append.mp hx with hx | hx
      · have:=lmem x (List.mem_of_mem_take hx)
        omega
      · have:x=1+(i:Int):=by simpa using hx
        omega
  · rintro σ H' ⟨l,us,line,o6,o7,o8,o9,o10,o11,rfl,kp,hu,hl,lu,lp,hlen,gr,ln1,ln2,lmem⟩
    have hlen':(us.length:Int)=many:=by omega
    refine ⟨_,rfl,p,6,rfl,kp.pool,by decide,by decide,fun way H1 a0 a1 kp1=>?_⟩
    refine ⟨_,rfl,_,rfl,p,many,rfl,kp1.pool,by omega,by omega,fun n2 H2 b0 b1 kp2=>?_⟩
    refine ⟨(by show 2≤sizeLine;decide),fun r1 hr1=>?_⟩
    have kq2:=(kp1.trans kp2).new (o:=.lst [.int n2,.int 0]) hr1
    refine ⟨_,rfl,p,2,rfl,kq2.pool,by decide,by decide,fun n3 H3 c0 c1 kp3=>?_⟩
    have hother:∃ v:Int,atI [V.int n2,.int 0] n3=some (.int v):=by
      have:n3=0∨n3=1:=by omega
      rcases this with rfl | rfl
      · exact ⟨_,rfl⟩
      · exact ⟨_,rfl⟩
    obtain ⟨other,hother⟩:=hother
    refine ⟨r1,_,_,_,rfl,rfl,SqL.of (kp3.keep _ _ ((kp1.trans kp2).pool.ne hr1) upd_same),hother,?_⟩
    have kq3:=kq2.trans kp3
    have ku3:=kp.trans kq3
    have hu3:=kq3.keep _ _ hup hu
    refine ⟨_,rfl,many,rfl,by omega,by omega,?_⟩
    refine for_range (lo:=0) (n:=many.toNat) (fun i σ H'=>∃ (ls:List Nat) (tx:Str) (o6 o15:Option V),
      σ=[some (.ref p),some (.int many),some (.int kind),some (.ref ℓ),some (.ref u),some (.ref l),o6,o7,o8,o9,o10,o11,some (.int way),some (.int other),some (.str tx),o15]∧tx=mk ls∧Kp p H H'∧H' u=some (.lst (us.map V.int))∧ls.length=i∧Low ls)
      ⟨[],_,_,_,rfl,rfl,ku3,hu3,rfl,Low.nil⟩ ?_ ?_
    · rintro i σ H4 hi ⟨ls,tx,o6',o15,rfl,rfl,kp4,hu4,hls,llw⟩
      have hℓ4:=kp4.keep _ _ hℓp hℓ
      refine ⟨_,rfl,_,rfl,ℓ,_,rfl,.inl (SqL.of hℓ4),p,_,rfl,kp4.pool,by omega,by omega,fun at0 H5 d0 d1 kp5=>?_⟩
      have ku5:=kp4.trans kp5
      have hu5:=kp5.keep _ _ hup hu4
      have hℓ5:=ku5.keep _ _ hℓp hℓ
      have fin:∀ (a:Int),0≤a→a < (cs.length:Int)→∃ c,atI (oneV cs) a=some (.str ⟨#[c]⟩)∧c∈cs:=fun a h0 h1=>oneV_at h0 h1
      have hln:∀ c:Nat,(mk ls).length+(⟨#[c]⟩:Str).length≤sizeLine:=fun c=>by
        rw [mk_len]
        have:(⟨#[c]⟩:Str).length=1:=rfl
        rw [this]
        exact Nat.le_of_lt (small1000 (by omega))
      have happ:∀ c:Nat,mk ls++(⟨#[c]⟩:Str)=mk (ls++[c]):=fun c=>by
        apply str_ext;rw [app_list];rfl
      refine ⟨_,rfl,_,_,rfl,rfl,_,rfl,ite2 (fun c1=>?_) (fun c1=>?_)⟩
      · have c1':0 < way:=of_decide_eq_true c1
        refine ⟨_,_,rfl,rfl,_,rfl,ite2 (fun c2=>?_) (fun c2=>?_)⟩
        · have c2':way < 4:=of_decide_eq_true c2
          refine ⟨_,rfl,_,rfl,_,_,rfl,rfl,c1',_,rfl,ℓ,_,rfl,.inl (SqL.of hℓ5),_,_,rfl,rfl,by omega,?_⟩
          refine ⟨_,rfl,_,_,rfl,rfl,_,rfl,ite2 (fun c3=>?_) (fun c3=>?_)⟩
          · have c3':4 < way:=of_decide_eq_true c3
            omega
          · obtain ⟨c,hc,hcm⟩:=fin ((0+(i:Int)) % way % ((oneV cs).length:Int)) (Int.emod_nonneg _ (by omega)) (by have:=Int.emod_lt_of_pos ((0+(i:Int)) % way) (show (0:Int) < ((oneV cs).length:Int) by omega);omega)
            refine ⟨_,rfl,_,rfl,_,rfl,ℓ,_,_,_,rfl,rfl,SqL.of hℓ5,hc,_,_,rfl,rfl,hln c,⟨ls++[c],_,_,_,rfl,happ c,ku5,hu5,by rw [List.length_append,hls];rfl,llw.app (Low.one (clw c hcm))⟩⟩
        · refine ⟨_,rfl,_,_,rfl,rfl,_,rfl,ite2 (fun c3=>?_) (fun c3=>?_)⟩
          · obtain ⟨c,hc,hcm⟩:=fin ((if decide (V.int (0+(i:Int))=V.int other)=true then 1 else 0) % ((oneV cs).length:Int)) (Int.emod_nonneg _ (by omega)) (by have:=Int.emod_lt_of_pos (if decide (V.int (0+(i:Int))=V.int other)=true then 1 else 0) (show (0:Int) < ((oneV cs).length:Int) by omega);omega)
            refine ⟨_,rfl,_,rfl,rfl,.inr ⟨_,rfl,_,rfl,ℓ,_,rfl,.inl (SqL.of hℓ5),_,_,rfl,rfl,by omega,?_⟩⟩
            refine ⟨_,rfl,_,rfl,_,rfl,ℓ,_,_,_,rfl,rfl,SqL.of hℓ5,hc,_,_,rfl,rfl,hln c,⟨ls++[c],_,_,_,rfl,happ c,ku5,hu5,by rw [List.length_append,hls];rfl,llw.app (Low.one (clw c hcm))⟩⟩
          · obtain ⟨c,hc,hcm⟩:=fin at0 d0 (by omega)
            refine ⟨_,rfl,_,rfl,_,rfl,ℓ,_,_,_,rfl,rfl,SqL.of hℓ5,hc,_,_,rfl,rfl,hln c,⟨ls++[c],_,_,_,rfl,happ c,ku5,hu5,by rw [List.length_append,hls];rfl,llw.app (Low.one (clw c hcm))⟩⟩
      · refine ⟨_,rfl,?_⟩
        refine iteF ?_
        refine ⟨_,rfl,_,_,rfl,rfl,_,rfl,ite2 (fun c3=>?_) (fun c3=>?_)⟩
        · obtain ⟨c,hc,hcm⟩:=fin ((if decide (V.int (0+(i:Int))=V.int other)=true then 1 else 0) % ((oneV cs).length:Int)) (Int.emod_nonneg _ (by omega)) (by have:=Int.emod_lt_of_pos (if decide (V.int (0+(i:Int))=V.int other)=true then 1 else 0) (show (0:Int) < ((oneV cs).length:Int) by omega);omega)
          refine ⟨_,rfl,_,rfl,rfl,.inr ⟨_,rfl,_,rfl,ℓ,_,rfl,.inl (SqL.of hℓ5),_,_,rfl,rfl,by omega,?_⟩⟩
          refine ⟨_,rfl,_,rfl,_,rfl,ℓ,_,_,_,rfl,rfl,SqL.of hℓ5,hc,_,_,rfl,rfl,hln c,⟨ls++[c],_,_,_,rfl,happ c,ku5,hu5,by rw [List.length_append,hls];rfl,llw.app (Low.one (clw c hcm))⟩⟩
        · obtain ⟨c,hc,hcm⟩:=fin at0 d0 (by omega)
          refine ⟨_,rfl,_,rfl,_,rfl,ℓ,_,_,_,rfl,rfl,SqL.of hℓ5,hc,_,_,rfl,rfl,hln c,⟨ls++[c],_,_,_,rfl,happ c,ku5,hu5,by rw [List.length_append,hls];rfl,llw.app (Low.one (clw c hcm))⟩⟩
    · rintro σ H4 ⟨ls,tx,o6',o15,rfl,rfl,kp4,hu4,hls,llw⟩
      refine ⟨_,rfl,u,_,rfl,.inl ⟨SqL.of hu4,fun r7 hr7=>?_⟩⟩
      refine ⟨_,rfl,(by show 2≤sizeLine;decide),fun t ht=>?_⟩
      refine q t us (mk ls) _ ((kp4.new hr7).new ht) ⟨r7,upd_same,?_,?_⟩ (by rw [mk_cps];exact llw)
      · rw [upd_ne (ne_of_none upd_same ht)];exact upd_same
      · exact ⟨by rw [mk_cps];omega,gr.pos,by omega,gr.root,gr.up⟩
end
end S53
namespace S53
open PySem L2 W7
section
variable {P:Program} {w:World} {K:PySem.W.Frag} {mg:Str→Option Value} {base:Heap} {k:Nat}
theorem GrOk.app {us vs:List Int} (g:GrOk us) {v0:Int} (h0:0≤v0) (h1:v0 < (us.length:Int)) (hv:∀ j,j < vs.length→0≤vs.getD j 0∧vs.getD j 0≤(us.length:Int)+j):GrOk (us++v0 :: vs) where
  pos:=by rw [List.length_append];have:=g.pos;omega
  root:=by rw [getD_app,if_pos g.pos];exact g.root
  up := fun j hj hl=>by
    rw [List.length_append,List.length_cons] at hl
    rw [getD_app]
    split
    · rename_i h;exact g.up j hj h
    · rename_i h
      rcases Nat.eq_or_lt_of_le (Nat.le_of_not_lt h) with e | e
      · subst e
        rw [Nat.sub_self]
        exact ⟨h0,h1⟩
      · obtain ⟨m,hm⟩:∃ m,j - us.length=m+1:=⟨j - us.length - 1,by omega⟩
        rw [hm]
        have:=hv m (by omega)
        show 0≤vs.getD m 0∧vs.getD m 0 < (j:Int)
        omega
def sp_copies:Sp:=fun vs H Q _=>∃ (p ℓ:Addr) (cs:List Nat) (m0:Nat),vs=[.ref p,.int (m0:Int),.ref ℓ]∧m0≤60∧1≤m0∧Pool H p∧H ℓ=some (.lst (oneV cs))∧0 < cs.length∧cs.length≤26∧Low cs ∧
  ∀ (t:Addr) (ups:List Int) (lab:Str) (H':Hp),Kp p H H'→TreeAt H' t ups lab→Low lab.cps.toList→Q (.ref t) H'
theorem has_copies (D:Df K mg "_law_copies" s_law_copies) (B:Blt mg) (G_law_take:Has P w K mg base "_law_take" k ["pool", "many"] sp_take) (G_law_grown:Has P w K mg base "_law_grown" k ["pool", "many", "kind", "letters"] sp_grown) :
    Has P w K mg base "_law_copies" (k+1) ["pool", "most", "letters"] sp_copies:=by
  refine D.has sc_law_copies (fun _ _ _ _ _ _ us hl=>match us,hl with | [_,_,_],_=>rfl) (fun vs H Q E h=>by obtain ⟨p,ℓ,cs,m0,rfl,_⟩:=h;rfl) (fun f cdv A outer s H vs Q E hr h=>?_)
  obtain ⟨p,ℓ,cs,m0,rfl,m60,m1,hp,hℓ,cs0,cs26,clw,q⟩:=h
  refine ⟨_,(pss_cons (ps_set (i:=3) sc_law_copies.nd rfl (by first | exact Or.inl rfl | exact Or.inr rfl) (pe_callH G_law_grown hr rfl (pa_cons (pv 0) (pa_cons (pe_op op_add pe_int (pe_callH G_law_take hr rfl (pa_cons (pv 0) (pa_cons pe_int pa_nil)))) (pa_cons pe_int (pa_cons (pv 2) pa_nil))))))
  (pss_cons (ps_set (i:=4) sc_law_copies.nd rfl (by first | exact Or.inl rfl | exact Or.inr rfl) (pe_callH G_law_take hr rfl (pa_cons (pv 0) (pa_cons pe_int pa_nil))))
  (pss_cons (ps_set (i:=5) sc_law_copies.nd rfl (by first | exact Or.inl rfl | exact Or.inr rfl) (pe_lst (pa_cons (pe_un un_neg pe_int) pa_nil)))
  (pss_cons (ps_set (i:=6) sc_law_copies.nd rfl (by first | exact Or.inl rfl | exact Or.inr rfl) (pe_ix ix_list (pv 2) (pe_callH G_law_take hr rfl (pa_cons (pv 0) (pa_cons (pe_callB call_len_seq rfl B.len bt_len (pa_cons (pv 2) pa_nil)) pa_nil))) (fun _ _=>rfl)))
  (pss_cons (ps_for PassesOwn.never rfl (pi_range1 rfl B.range (pa_cons (pe_op op_add pe_int (pe_callH G_law_take hr rfl (pa_cons (pv 0) (pa_cons pe_int pa_nil)))) pa_nil)) (pg_name (i:=7) sc_law_copies.nd rfl (by first | exact Or.inl rfl | exact Or.inr rfl))
  (pss_one (ps_if (pt_cmpR op_le (pe_op op_add (pe_callB call_len_seq rfl B.len bt_len (pa_cons (pv 5) pa_nil)) (pe_callB call_len_seq rfl B.len bt_len (pa_cons (pe_ix ix_tup (pv 3) pe_int (fun _ _=>rfl)) pa_nil))) (pv 1) (nomark _))
  (pss_cons (ps_set (i:=8) sc_law_copies.nd rfl (by first | exact Or.inl rfl | exact Or.inr rfl) (pe_callB call_len_seq rfl B.len bt_len (pa_cons (pv 5) pa_nil)))
  (pss_cons (ps_expr (pe_bm PySem.F.plainAttrs_list PySem.F.slot_list_extend PySem.F.type_list_extend mt_extend (pv 5) (pa_cons (pe_op op_cat (pe_lst (pa_cons (pe_ix ix_list (pe_lst (pa_cons pe_int (pa_cons (pe_op op_sub (pv 8) pe_int) pa_nil))) (pv 4) (fun _ _=>rfl)) pa_nil)) (pe_comp rfl (pi_tup (pe_slice sl_tup (pe_ix ix_tup (pv 3) pe_int (fun _ _=>rfl)) (po_some pe_int) po_none)) (NL:=["up"]) (ix:=[8]) (csc (defScope s_law_copies) N_law_copies) (fun cl C s₃ H₃ fp pins=>⟨(pg_name (i:=0) (show List.Nodup (["up", "here"]:List Str) from by decide +kernel) rfl (by first | exact Or.inl rfl | exact Or.inr rfl)),pifs_nil,(pe_op op_add (pv 0) (pv 1))⟩))) pa_nil)))
  (pss_one (ps_set (i:=6) sc_law_copies.nd rfl (by first | exact Or.inl rfl | exact Or.inr rfl) (pe_op op_add_str (pv 6) (pe_ix ix_tup (pv 3) pe_int (fun _ _=>rfl)))))))
  pss_nil)))
  (pss_one (ps_ret (pe_tup (pa_cons (pe_callTy call_tuple_of rfl B.tuple_ bt_tuple (pa_cons (pv 5) pa_nil)) (pa_cons (pv 6) pa_nil)))))))))),?_⟩
  have hℓp:ℓ≠p:=ne_pool hp hℓ (oneV_ne cs0)
  have ocl:(oneV cs).length=cs.length:=oneV_len cs
  refine ⟨_,rfl,_,rfl,p,6,rfl,hp,by decide,by decide,fun n1 H1 a0 a1 kp1=>?_⟩
  refine ⟨_,_,rfl,rfl,_,rfl,p,ℓ,1+n1,2,cs,rfl,kp1.pool,by omega,by omega,by decide,by decide,kp1.keep _ _ hℓp hℓ,cs0,cs26,clw,fun t1 ups1 lab1 H2 kp2 tr2 lw1=>?_⟩
  have ku2:=kp1.trans kp2
  refine ⟨_,rfl,p,2,rfl,kp2.pool,by decide,by decide,fun ch H3 b0 b1 kp3=>?_⟩
  have ku3:=ku2.trans kp3
  have tr3:=tr2.kp kp2.pool kp3
  refine ⟨_,rfl,(by show 1≤sizeLine;decide),fun u hu0=>?_⟩
  have ku4:=ku3.new (o:=.lst [.int (-1)]) hu0
  have hup:u≠p:=kp3.pool.ne hu0
  have hH0:H u=none:=by
    cases e:H u with
    | none=>rfl
    | some o=>have:=ku3.keep u o hup e;rw [hu0] at this;cases this
  have tr4:TreeAt (upd H3 u (.lst [.int (-1)])) t1 ups1 lab1:=tr3.kp kp3.pool ((Kp.refl kp3.pool).new hu0)
  refine ⟨_,rfl,_,rfl,_,rfl,ℓ,_,rfl,.inl (SqL.of (ku4.keep _ _ hℓp hℓ)),p,_,rfl,ku4.pool,by omega,by omega,fun n5 H5 c0 c1 kp5=>?_⟩
  have ku5:=ku4.trans kp5
  obtain ⟨c5,hc5,hcm5⟩:=oneV_at (cs:=cs) (i:=n5) c0 (by omega)
  refine ⟨ℓ,_,_,_,rfl,rfl,SqL.of (ku5.keep _ _ hℓp hℓ),hc5,?_⟩
  have tr5:=tr4.kp ku4.pool kp5
  have hu5:H5 u=some (.lst [.int (-1)]):=kp5.keep _ _ hup upd_same
  refine ⟨_,rfl,p,12,rfl,kp5.pool,by decide,by decide,fun n6 H6 d0 d1 kp6=>?_⟩
  refine ⟨_,_,rfl,rfl,_,rfl,by omega,by omega,?_⟩
  obtain ⟨_,_,_,okk⟩:=id tr5
  have l60:=okk.most
  have lpos:=okk.pos
  refine for_range (lo:=0) (n:=(1+n6).toNat) (fun i σ H'=>∃ (us:List Int) (ls:List Nat) (tx:Str) (o7 o8:Option V),
      σ=[some (.ref p),some (.int (m0:Int)),some (.ref ℓ),some (.ref t1),some (.int ch),some (.ref u),some (.str tx),o7,o8]∧tx=mk ls∧Kp p H H'∧H' u=some (.lst (us.map V.int))∧TreeAt H' t1 ups1 lab1∧us.length=ls.length∧us.length≤60∧GrOk us∧Low ls)
    ⟨[-1],[c5],_,none,none,rfl,rfl,ku5.trans kp6,kp6.keep _ _ hup hu5,tr5.kp kp5.pool kp6,rfl,by decide,GrOk.one,Low.one (clw _ hcm5)⟩ ?_ ?_
  · rintro i σ H' hi ⟨us,ls,tx,o7,o8,rfl,rfl,kp,hu,⟨v1,ht1,hv1,ok⟩,hlen,h60,gr,llw⟩
    have hul:(us.map V.int).length=us.length:=List.length_map _
    have hul1:(ups1.map V.int).length=ups1.length:=List.length_map _
    refine ⟨_,rfl,u,_,rfl,.inl (SqL.of hu),_,rfl,t1,_,_,_,rfl,rfl,SqT.of ht1,rfl,v1,_,rfl,.inr (SqT.of hv1),_,_,rfl,rfl,_,rfl,_,_,rfl,rfl,_,rfl,ite2 (fun cnd=>?_) (fun cnd=>?_)⟩
    · have cnd':(((us.map V.int).length:Nat):Int)+(((ups1.map V.int).length:Nat):Int)≤(m0:Int):=of_decide_eq_true cnd
      refine ⟨_,rfl,u,_,rfl,.inl (SqL.of hu),?_⟩
      generalize hh:(((us.map V.int).length:Nat):Int)=here
      have gp:=gr.pos
      refine ⟨_,rfl,.inl ⟨rfl,_,SqL.of hu⟩,_,rfl,_,_,rfl,rfl,(by show 2≤sizeLine;decide),fun r1 hr1=>?_⟩
      have hch:∃ v:Int,atI [V.int 0,.int (here - 1)] ch=some (.int v)∧0≤v∧v < here:=by
        have:ch=0∨ch=1:=by omega
        rcases this with rfl | rfl
        · exact ⟨_,rfl,by omega,by omega⟩
        · exact ⟨_,rfl,by omega,by omega⟩
      obtain ⟨v0,hv0,e0,e1⟩:=hch
      refine ⟨_,rfl,r1,_,_,_,rfl,rfl,SqL.of upd_same,hv0,(by show 1≤sizeLine;decide),fun r2 hr2=>?_⟩
      have kq2:Kp p H (upd (upd H' r1 (.lst [.int 0,.int (here - 1)])) r2 (.lst [.int v0])):=(kp.new hr1).new hr2
      have s2:Same H' (upd (upd H' r1 (.lst [.int 0,.int (here - 1)])) r2 (.lst [.int v0])):=((Same.refl H').new hr1).new hr2
      have h2:(upd (upd H' r1 (.lst [.int 0,.int (here - 1)])) r2 (.lst [.int v0])) r2=some (.lst [.int v0]):=upd_same
      generalize hH2:upd (upd H' r1 (.lst [.int 0,.int (here - 1)])) r2 (.lst [.int v0])=HH2 at kq2 s2 h2
      refine ⟨_,rfl,t1,_,_,_,rfl,rfl,SqT.of (s2 _ _ ht1),rfl,_,rfl,v1,_,rfl,SqT.of (s2 _ _ hv1),?_,fun r3 hr3=>?_⟩
      · intro z
        have:=z.1
        rw [show (some (1:Int))=some ((1:Nat):Int) from rfl,HT.sIx_nat] at this
        omega
      have ecut:cutV (ups1.map V.int) (some 1) none=(ups1.drop 1).map V.int:=by
        rw [show (some (1:Int))=some ((1:Nat):Int) from rfl,cutV_from (by omega),List.map_drop]
      rw [ecut]
      have kq3:=kq2.new (o:=.tup ((ups1.drop 1).map V.int)) hr3
      have s3:Same H' (upd HH2 r3 (.tup ((ups1.drop 1).map V.int))):=s2.new hr3
      have h23:(upd HH2 r3 (.tup ((ups1.drop 1).map V.int))) r2=some (.lst [.int v0]):=by rw [upd_ne (ne_of_none h2 hr3)];exact h2
      have h33:(upd HH2 r3 (.tup ((ups1.drop 1).map V.int))) r3=some (.tup ((ups1.drop 1).map V.int)):=upd_same
      generalize hH3:upd HH2 r3 (.tup ((ups1.drop 1).map V.int))=HH3 at kq3 s3 h23 h33
      have hdl:((ups1.drop 1).map V.int).length=ups1.length - 1:=by rw [List.length_map,List.length_drop]
      refine ⟨r3,rfl,⟨_,SqT.of h33⟩,fun acc hacc=>?_⟩
      refine comp_by (ups1.length - 1) (by omega) (fun j ys HH=>HH acc=some (.lst ys)∧ys=((ups1.drop 1).take j).map (fun v=>V.int (v+here))∧Same HH3 HH) (fun j ys HH h=>⟨h.1,by rw [h.2.1,List.length_map,List.length_take];omega⟩)
        ⟨upd_same,by simp,(Same.refl HH3).new hacc⟩ ?_ ?_
      · rintro ys HH ⟨g1,rfl,g3⟩
        refine ⟨⟨_,SqT.of (g3 _ _ h33),by omega⟩,?_⟩
        have full:(ups1.drop 1).take (ups1.length - 1)=ups1.drop 1:=List.take_of_length_le (by rw [List.length_drop];omega)
        rw [full] at g1
        refine ⟨r2,acc,_,_,rfl,rfl,g3 _ _ h23,g1,?_,fun r4 hr4=>?_⟩
        · rw [List.length_map,List.length_drop]
          have:([V.int v0]:List V).length=1:=rfl
          rw [this]
          exact Nat.le_of_lt (small1000 (by omega))
        have s4:Same H' (upd HH r4 (.lst ([V.int v0]++(ups1.drop 1).map (fun v=>V.int (v+here))))):=((s3.trans g3).new hr4)
        have huu:=s4 _ _ hu
        refine ⟨u,r4,_,_,rfl,rfl,huu,upd_same,?_,?_⟩
        · have z:(us.map V.int).length+([V.int v0]++(ups1.drop 1).map (fun v=>V.int (v+here))).length=us.length+(1+(ups1.length - 1)):=by
            simp only [List.length_append,List.length_map,List.length_drop,List.length_singleton]
          rw [z]
          exact Nat.le_of_lt (small1000 (by omega))
        have eapp:us.map V.int++([V.int v0]++(ups1.drop 1).map (fun v=>V.int (v+here)))=(us++v0 :: (ups1.drop 1).map (·+here)).map V.int:=by
          rw [List.map_append,List.map_cons,List.map_map];rfl
        have kfin:Kp p H (upd (upd HH r4 (.lst ([V.int v0]++(ups1.drop 1).map (fun v=>V.int (v+here))))) u (.lst (us.map V.int++([V.int v0]++(ups1.drop 1).map (fun v=>V.int (v+here)))))):=by
          refine Kp.write ?_ hH0 hup
          refine ⟨?_,fun b o hb e=>s4 _ _ (kp.keep b o hb e)⟩
          obtain ⟨x,y,e⟩:=kp.pool
          exact ⟨x,y,s4 _ _ e⟩
        have tfin:TreeAt (upd (upd HH r4 (.lst ([V.int v0]++(ups1.drop 1).map (fun v=>V.int (v+here))))) u (.lst (us.map V.int++([V.int v0]++(ups1.drop 1).map (fun v=>V.int (v+here)))))) t1 ups1 lab1:=by
          refine ⟨v1,?_,?_,ok⟩
          · rw [upd_ne (ne_of (s4 _ _ ht1) huu (fun z=>nomatch z))];exact s4 _ _ ht1
          · rw [upd_ne (ne_of (s4 _ _ hv1) huu (fun z=>nomatch z))];exact s4 _ _ hv1
        obtain ⟨v1',ht1',hv1',_⟩:=id tfin
        have hlab:lab1.length=ups1.length:=by rw [ok.len];simp [Str.length]
        refine ⟨_,rfl,_,rfl,t1,_,_,_,rfl,rfl,SqT.of ht1',rfl,_,_,rfl,rfl,?_,?_⟩
        · rw [mk_len,hlab];exact Nat.le_of_lt (small1000 (by omega))
        refine ⟨us++v0 :: (ups1.drop 1).map (·+here),ls++lab1.cps.toList,_,_,_,rfl,?_,kfin,by rw [upd_same,eapp],tfin,?_,?_,?_,llw.app lw1⟩
        · have:mk ls++lab1=mk (ls++lab1.cps.toList):=by
            apply str_ext;rw [app_list];rfl
          exact this
        · rw [List.length_append,List.length_append,List.length_cons,List.length_map,List.length_drop,← ok.len];omega
        · rw [List.length_append,List.length_cons,List.length_map,List.length_drop];omega
        · refine gr.app e0 (by omega) fun j hj=>?_
          rw [List.length_map,List.length_drop] at hj
          have hj1:j+1 < ups1.length:=by omega
          have e:((ups1.drop 1).map (·+here)).getD j 0=ups1.getD (j+1) 0+here:=by
            rw [List.getD_eq_getElem?_getD,List.getElem?_map,List.getElem?_drop,List.getD_eq_getElem?_getD,Nat.add_comm 1 j,List.getElem?_eq_getElem hj1];rfl
          rw [e]
          have:=ok.up (j+1) (by omega) hj1
          omega
      · rintro j ys HH hj ⟨g1,rfl,g3⟩
        have h33':=g3 _ _ h33
        have hj1:j < (ups1.drop 1).length:=by rw [List.length_drop];omega
        have hget:((ups1.drop 1).map V.int)[j]?=some (.int (ups1.drop 1)[j]):=by rw [List.getElem?_map,List.getElem?_eq_getElem hj1];rfl
        refine ⟨⟨_,_,SqT.of h33',hget⟩,?_⟩
        rintro x H'' ⟨rfl,hx⟩
        have ex:x=.int (ups1.drop 1)[j]:=by
          have:=hx _ (SqT.of h33')
          rw [hget] at this
          exact (Option.some.inj this).symm
        subst ex
        refine ⟨rfl,?_⟩
        refine ⟨_,rfl,_,rfl,_,_,rfl,rfl,g1,upd_same,?_,?_⟩
        · rw [List.take_add_one,List.getElem?_eq_getElem hj1,List.map_append];rfl
        · exact (g3.write (by
            cases e:HH3 acc with
            | none=>rfl
            | some o=>rw [hacc] at e;cases e))
    · exact ⟨us,ls,_,_,_,rfl,rfl,kp,hu,⟨v1,ht1,hv1,ok⟩,hlen,h60,gr,llw⟩
  · rintro σ H' ⟨us,ls,tx,o7,o8,rfl,rfl,kp,hu,tr,hlen,h60,gr,llw⟩
    refine ⟨_,rfl,u,_,rfl,.inl ⟨SqL.of hu,fun r7 hr7=>?_⟩⟩
    refine ⟨_,rfl,(by show 2≤sizeLine;decide),fun t ht=>?_⟩
    refine q t us (mk ls) _ ((kp.new hr7).new ht) ⟨r7,upd_same,?_,?_⟩ (by rw [mk_cps];exact llw)
    · rw [upd_ne (ne_of_none upd_same ht)];exact upd_same
    · exact ⟨by rw [mk_cps];exact hlen,gr.pos,h60,gr.root,gr.up⟩
def sp_tree:Sp:=fun vs H Q _=>∃ (p ℓ:Addr) (cs:List Nat) (m0:Nat),vs=[.ref p,.int (m0:Int),.ref ℓ]∧m0≤60∧1≤m0∧Pool H p∧H ℓ=some (.lst (oneV cs))∧0 < cs.length∧cs.length≤26∧Low cs∧∀ (t:Addr) (ups:List Int) (lab:Str) (H':Hp),Kp p H H'→TreeAt H' t ups lab→Low lab.cps.toList→Q (.ref t) H'
theorem has_tree (D:Df K mg "_law_tree" s_law_tree) (B:Blt mg) (G_law_take:Has P w K mg base "_law_take" k ["pool", "many"] sp_take)
    (G_law_grown:Has P w K mg base "_law_grown" k ["pool", "many", "kind", "letters"] sp_grown) (G_law_copies:Has P w K mg base "_law_copies" k ["pool", "most", "letters"] sp_copies):Has P w K mg base "_law_tree" (k+1) ["pool", "most", "letters"] sp_tree:=by
  refine D.has sc_law_tree (fun _ _ _ _ _ _ us hl=>match us,hl with | [_,_,_],_=>rfl) (fun vs H Q E h=>by obtain ⟨p,ℓ,cs,m0,rfl,_⟩:=h;rfl) (fun f cdv A outer s H vs Q E hr h=>?_)
  obtain ⟨p,ℓ,cs,m0,rfl,m60,m1,hp,hℓ0,cs0,cs26,clw,q⟩:=h
  refine ⟨_,(pss_cons (ps_set (i:=3) sc_law_tree.nd rfl (by first | exact Or.inl rfl | exact Or.inr rfl) (pe_callH G_law_take hr rfl (pa_cons (pv 0) (pa_cons pe_int pa_nil))))
  (pss_cons (ps_set (i:=4) sc_law_tree.nd rfl (by first | exact Or.inl rfl | exact Or.inr rfl) (pe_ix ix_list (pe_lst (pa_cons (pe_op op_add pe_int (pe_callH G_law_take hr rfl (pa_cons (pv 0) (pa_cons pe_int pa_nil)))) (pa_cons (pe_op op_add pe_int (pe_callH G_law_take hr rfl (pa_cons (pv 0) (pa_cons (pv 1) pa_nil)))) (pa_cons (pv 1) pa_nil)))) (pe_callH G_law_take hr rfl (pa_cons (pv 0) (pa_cons pe_int pa_nil))) (fun _ _=>rfl)))
  (pss_cons (ps_if (pt_cmpR op_gt (pv 3) pe_int (nomark _))
  (pss_one (ps_ret (pe_callH G_law_copies hr rfl (pa_cons (pv 0) (pa_cons (pv 1) (pa_cons (pv 2) pa_nil))))))
  pss_nil)
  (pss_one (ps_ret (pe_callH G_law_grown hr rfl (pa_cons (pv 0) (pa_cons (pv 4) (pa_cons (pv 3) (pa_cons (pv 2) pa_nil)))))))))),?_⟩
  refine ⟨_,rfl,p,8,rfl,hp,by decide,by decide,fun kind H1 a0 a1 kp1=>?_⟩
  refine ⟨_,rfl,p,9,rfl,kp1.pool,by decide,by decide,fun n2 H2 b0 b1 kp2=>?_⟩
  refine ⟨_,_,rfl,rfl,_,rfl,_,rfl,p,(m0:Int),rfl,kp2.pool,by omega,by omega,fun n3 H3 c0 c1 kp3=>?_⟩
  refine ⟨_,_,rfl,rfl,_,rfl,(by show 3≤sizeLine;decide),fun r hr0=>?_⟩
  have ku:=((kp1.trans kp2).trans kp3).new (o:=.lst [.int (1+n2),.int (1+n3),.int (m0:Int)]) hr0
  refine ⟨_,rfl,p,3,rfl,ku.pool,by decide,by decide,fun n4 H4 d0 d1 kp4=>?_⟩
  have hm:∃ v:Int,atI [V.int (1+n2),.int (1+n3),.int (m0:Int)] n4=some (.int v)∧1≤v∧v≤60:=by
    have:n4=0∨n4=1∨n4=2:=by omega
    rcases this with rfl | rfl | rfl
    · exact ⟨_,rfl,by omega,by omega⟩
    · exact ⟨_,rfl,by omega,by omega⟩
    · exact ⟨_,rfl,by omega,by omega⟩
  obtain ⟨many,hm,e0,e1⟩:=hm
  refine ⟨r,_,_,_,rfl,rfl,SqL.of (kp4.keep _ _ (kp3.pool.ne hr0) upd_same),hm,?_⟩
  have ku4:=ku.trans kp4
  have hℓp:ℓ≠p:=ne_pool hp hℓ0 (oneV_ne cs0)
  have hℓ:=ku4.keep _ _ hℓp hℓ0
  refine ⟨_,rfl,_,_,rfl,rfl,_,rfl,ite2 (fun c=>?_) (fun c=>?_)⟩
  · exact ⟨_,rfl,_,rfl,_,rfl,p,ℓ,cs,m0,rfl,m60,m1,kp4.pool,hℓ,cs0,cs26,clw,fun t ups lab H6 kp6 tr lw=>q t ups lab H6 (ku4.trans kp6) tr lw⟩
  · have c':¬ 5 < kind:=of_decide_eq_false (Bool.eq_false_iff.mpr c)
    exact ⟨_,rfl,_,rfl,_,rfl,_,rfl,p,ℓ,many,kind,cs,rfl,kp4.pool,e0,e1,a0,by omega,hℓ,cs0,cs26,clw,fun t ups lab H6 kp6 tr lw=>q t ups lab H6 (ku4.trans kp6) tr lw⟩
end
end S53
namespace W55
open PySem L2 W7
def sm (l:List Nat):Str:=⟨l.toArray⟩
theorem s_ext {a b:Str} (h:a.cps.toList=b.cps.toList):a=b:=by
  obtain ⟨x⟩:=a;obtain ⟨y⟩:=b
  have:x=y:=Array.toList_inj.mp h
  rw [this]
def front (z:Str):Str:=sm z.cps.toList.dropLast
def trUp (us:List Str) (z:Str):Int:=if us.idxOf (front z) < us.length then ((us.idxOf (front z):Nat):Int) else -1
def trUps (us:List Str):List Int:=us.map (trUp us)
def trLab (us:List Str):List Nat:=us.map fun z=>z.cps.toList.getLastD 0
structure Cl (us:List Str):Prop where
  ne:∀ z∈us,z.cps.toList≠[]
  fr:∀ z∈us,1 < z.cps.toList.length→front z∈us
  hd:∃ c,∀ z∈us,z.cps.toList.head?=some c
theorem Cl.perm {us ws:List Str} (h:Cl ws) (m:∀ z,z∈us ↔ z∈ws):Cl us:=
  ⟨fun z hz=>h.ne z ((m z).mp hz),fun z hz l=>(m _).mpr (h.fr z ((m z).mp hz) l),let ⟨c,hc⟩:=h.hd;⟨c,fun z hz=>hc z ((m z).mp hz)⟩⟩
theorem app_lt:∀ (a:List Nat) (c:Nat),a < a++[c]
  | [],c=>List.nil_lt_cons _ _
  | x :: a,c=>by rw [List.cons_append,List.cons_lt_cons_iff];exact .inr ⟨rfl,app_lt a c⟩
theorem front_lt {z:Str} (h:z.cps.toList≠[]):(front z).cps.toList < z.cps.toList:=by
  have e:=List.dropLast_concat_getLast h
  have:=app_lt z.cps.toList.dropLast (z.cps.toList.getLast h)
  rw [e] at this
  exact this
theorem idx_get {us:List Str} {z:Str} (h:z∈us):∃ h':us.idxOf z < us.length,us[us.idxOf z]=z:=
  ⟨List.idxOf_lt_length_of_mem h,List.getElem_idxOf _⟩
theorem no_empty {us:List Str} (cl:Cl us) {z:Str} (h:z.cps.toList.length≤1):¬ us.idxOf (front z) < us.length:=fun i=>by
  have m:front z∈us:=List.idxOf_lt_length_iff.mp i
  refine cl.ne _ m ?_
  show z.cps.toList.dropLast=[]
  apply List.length_eq_zero_iff.mp
  rw [List.length_dropLast];omega
theorem tree_ok {us:List Str} (cl:Cl us) (srt:us.Pairwise (fun a b=>a.cps.toList < b.cps.toList)) (h0:us≠[]) (h60:us.length≤60):TreeOk (trUps us) (trLab us):=by
  have lp:0 < us.length:=List.length_pos_iff.mpr h0
  have at':∀ k,k < us.length→(trUps us).getD k 0=trUp us (us.getD k Str.empty):=fun k hk=>by
    unfold trUps
    rw [List.getD_eq_getElem?_getD,List.getElem?_map,List.getElem?_eq_getElem hk,List.getD_eq_getElem?_getD,List.getElem?_eq_getElem hk];rfl
  have gd:∀ k (hk:k < us.length),us.getD k Str.empty=us[k]:=fun k hk=>by rw [List.getD_eq_getElem?_getD,List.getElem?_eq_getElem hk];rfl
  have lt:∀ i j (hi:i < us.length) (hj:j < us.length),i < j→us[i].cps.toList < us[j].cps.toList:=fun i j hi hj h=>List.pairwise_iff_getElem.mp srt i j hi hj h
  have len0:(us[0]'lp).cps.toList.length=1:=by
    have ne:=cl.ne _ (List.getElem_mem lp)
    have l1:=List.length_pos_iff.mpr ne
    rcases Nat.lt_or_ge 1 (us[0]'lp).cps.toList.length with h | h
    · have m:=cl.fr _ (List.getElem_mem lp) h
      have fl:=front_lt ne
      obtain ⟨j,hj,e⟩:=List.getElem_of_mem m
      rcases Nat.eq_zero_or_pos j with z | z
      · subst z
        rw [← e] at fl
        exact absurd fl (List.lt_irrefl _)
      · have:=lt 0 j lp hj z
        rw [e] at this
        exact absurd (List.lt_trans this fl) (List.lt_irrefl _)
    · omega
  refine ⟨?_,?_,?_,?_,fun k k0 kl=>?_⟩
  · unfold trUps trLab;rw [List.length_map,List.length_map]
  · unfold trUps;rw [List.length_map];exact lp
  · unfold trUps;rw [List.length_map];exact h60
  · rw [at' 0 lp,gd 0 lp]
    unfold trUp
    rw [if_neg (no_empty cl (by omega))]
  · unfold trUps at kl
    rw [List.length_map] at kl
    rw [at' k kl,gd k kl]
    have lk:1 < (us[k]).cps.toList.length:=by
      have ne:=cl.ne _ (List.getElem_mem kl)
      have l1:=List.length_pos_iff.mpr ne
      rcases Nat.lt_or_ge 1 (us[k]).cps.toList.length with h | h
      · exact h
      · obtain ⟨c,hc⟩:=cl.hd
        have a0:=hc _ (List.getElem_mem lp)
        have ak:=hc _ (List.getElem_mem kl)
        have e1:(us[0]'lp).cps.toList=[c]:=by
          generalize (us[0]'lp).cps.toList=l at a0 len0
          match l,a0,len0 with
          | [x],a0,_=>cases a0;rfl
        have ek:(us[k]).cps.toList=[c]:=by
          have hk1:(us[k]).cps.toList.length=1:=by omega
          generalize (us[k]).cps.toList=l at ak hk1
          match l,ak,hk1 with
          | [x],ak,_=>cases ak;rfl
        have:=lt 0 k lp kl k0
        rw [e1,ek] at this
        exact absurd this (List.lt_irrefl _)
    have m:=cl.fr _ (List.getElem_mem kl) lk
    obtain ⟨hi,e⟩:=idx_get m
    have fl:=front_lt (cl.ne _ (List.getElem_mem kl))
    unfold trUp
    rw [if_pos hi]
    refine ⟨by omega,?_⟩
    rcases Nat.lt_or_ge (us.idxOf (front us[k])) k with h | h
    · omega
    · rcases Nat.eq_or_lt_of_le h with z | z
      · have:us[us.idxOf (front us[k])].cps.toList=us[k].cps.toList:=by
          congr 2;exact getElem_congr_idx z.symm
        rw [e] at this
        rw [this] at fl
        exact absurd fl (List.lt_irrefl _)
      · have:=lt k _ kl hi z
        rw [e] at this
        exact absurd (List.lt_trans this fl) (List.lt_irrefl _)
end W55
namespace S53
open PySem L2 W7 W55
structure Blt7 (mg:Str→Option Value):Prop extends Blt mg where
  sorted:mg "sorted" = none
  set_:mg "set" = none
  repr:mg "repr" = none
  dict_:mg "dict" = none
  all:mg "all" = none
  most:∃ u,mg "MOST_PLACES" = some u∧RelV (.int 60) u
  letters:∃ u,mg "LETTERS" = some u∧RelV (.str "abcdefghijklmnopqrstuvwxyz") u
section
variable {P:Program} {w:World} {K:PySem.W.Frag} {mg:Str→Option Value} {base:Heap} {k:Nat}
theorem lt_asymm':∀ x y:List Nat,¬ y < x→¬ x < y→x=y:=fun x y h1 h2=>List.le_antisymm (List.not_lt.mp h1) (List.not_lt.mp h2)
theorem rising_pair:∀ (l:List Str) (p:Str),PyProof.Rows.risingS p l=true→(p :: l).Pairwise (fun a b=>¬ b.cps.toList < a.cps.toList)
  | [],p,_=>List.pairwise_singleton _ _
  | x :: r,p,h=>by
    have h':(!PySem.Spec.ltCps x.cps.toList p.cps.toList && PyProof.Rows.risingS x r)=true:=h
    obtain ⟨h1,h2⟩:=(Bool.and_eq_true _ _).mp h'
    have ih:=rising_pair r x h2
    have px:¬ x.cps.toList < p.cps.toList:=by
      rw [PyProof.Rows.ltCps_eq] at h1
      simpa using h1
    refine List.pairwise_cons.mpr ⟨fun y hy=>?_,ih⟩
    rcases List.mem_cons.mp hy with rfl | hy
    · exact px
    · have xy:=List.rel_of_pairwise_cons ih hy
      exact List.not_lt.mpr (List.le_trans (List.not_lt.mp px) (List.not_lt.mp xy))
theorem sorted_pair:∀ ss:List Str,PyProof.Rows.sortedS ss=true→ss.Pairwise (fun a b=>¬ b.cps.toList < a.cps.toList)
  | [],_=>List.Pairwise.nil
  | x :: r,h=>rising_pair r x h
theorem sorted_one {a b:List Str} (h1:PyProof.Rows.sortedS a=true) (h2:PyProof.Rows.sortedS b=true) (p:a.Perm b):a=b:=
  p.eq_of_pairwise (fun x y _ _ l1 l2=>by
    have:=lt_asymm' x.cps.toList y.cps.toList l1 l2
    exact str_ext this) (sorted_pair a h1) (sorted_pair b h2)
structure Uq (us bs:List Str):Prop where
  nd:us.Nodup
  mem:∀ x,x∈us ↔ x∈bs
  srt:PyProof.Rows.sortedS us=true
theorem Uq.one {us us' bs:List Str} (h:Uq us bs) (h':Uq us' bs):us=us':=
  sorted_one h.srt h'.srt ((List.perm_ext_iff_of_nodup h.nd h'.nd).mpr fun x=>(h.mem x).trans (h'.mem x).symm)
theorem glue_cps:∀ (ss:List Str) (acc:Array Nat),(List.foldl (fun acc (p:Str)=>acc++(Str.ofString "").cps++p.cps) acc ss).toList=acc.toList++(ss.map fun z:Str=>z.cps.toList).flatten
  | [],acc=>by simp
  | x :: r,acc=>by
    rw [List.foldl_cons,glue_cps r,Array.toList_append,Array.toList_append]
    have e:(Str.ofString "").cps.toList=[]:=rfl
    rw [e,List.append_nil,List.map_cons,List.flatten_cons,List.append_assoc]
theorem join_cps (ss:List Str):(Txt.join (Str.ofString "") ss).cps.toList=(ss.map fun z:Str=>z.cps.toList).flatten:=by
  cases ss with
  | nil=>rfl
  | cons x r=>
    have:=glue_cps r x.cps
    rw [List.map_cons,List.flatten_cons]
    exact this
def waysN (ups:List Int) (lab:Str) (n:Nat):List Str:=(List.range n).map fun j=>mk (W ups lab.cps.toList j).reverse
theorem waysN_len (ups:List Int) (lab:Str) (n:Nat):(waysN ups lab n).length=n:=by simp [waysN]
theorem waysN_succ (ups:List Int) (lab:Str) (n:Nat):(waysN ups lab (n+1)).map V.str=(waysN ups lab n).map V.str++[.str (mk (W ups lab.cps.toList n).reverse)]:=by
  unfold waysN;rw [List.range_succ,List.map_append,List.map_append];rfl
theorem W_low {ups:List Int} {lab:List Nat} (ok:TreeOk ups lab) (lw:Low lab):∀ (n i:Nat),i < n→i < ups.length→Low (W ups lab i)
  | 0,i,h,_=>absurd h (Nat.not_lt_zero _)
  | n+1,i,h,hi=>by
    rw [W_eq ok hi]
    have hc:Lw (lab.getD i 0):=by
      rw [List.getD_eq_getElem?_getD,List.getElem?_eq_getElem (by have:=ok.len;omega)]
      exact lw _ (List.getElem_mem _)
    split
    · exact Low.one hc
    · rename_i hn
      have lt:=ok.lt hi hn
      exact Low.app (Low.one hc) (W_low ok lw n _ (by omega) (by omega))
def sp_ways:Sp:=fun vs H Q _=>∃ (t:Addr) (ups:List Int) (lab:Str),vs=[.ref t]∧TreeAt H t ups lab∧∀ (r:Addr) (H':Hp),Same H H'→H r=none→H' r=some (.lst ((waysN ups lab ups.length).map V.str))→Q (.ref r) H'
theorem cps_len (z:Str):z.cps.toList.length=z.length:=by simp [Str.length]
theorem cut_front (z:Str):cutS z none (some (-1))=front z:=by
  apply s_ext
  unfold cutS front
  have hl:z.length=z.cps.toList.length:=(cps_len z).symm
  show ((z.cps.toList.drop (HT.sIx z.length 0 none)).take (HT.sIx z.length z.length (some (-1)) - HT.sIx z.length 0 none))=z.cps.toList.dropLast
  have e:HT.sIx z.length z.length (some (-1))=z.cps.toList.length - 1:=by
    show (if (-1:Int) < 0 then ((-1:Int)+(z.length:Int)).toNat else min (-1:Int).toNat z.length)=_
    rw [if_pos (by decide),hl];omega
  rw [HT.sIx_none,e,List.drop_zero,Nat.sub_zero,List.dropLast_eq_take]
def lastS (z:Str):Str:=⟨#[z.cps.toList.getLastD 0]⟩
theorem last_at {z:Str} (h:z.cps.toList≠[]):atI z.cps.toList (-1)=some (z.cps.toList.getLastD 0):=by
  have lp:=List.length_pos_iff.mpr h
  unfold atI ixN
  rw [if_neg (by decide),if_pos (by omega)]
  show z.cps.toList[(-1+(z.cps.toList.length:Int)).toNat]?=_
  rw [show (-1+(z.cps.toList.length:Int)).toNat=z.cps.toList.length - 1 by omega,List.getElem?_eq_getElem (by omega),List.getLastD_eq_getLast?,List.getLast?_eq_some_getLast h,List.getLast_eq_getElem]
  rfl
def trS (us:List Str):Str:=Txt.join (Str.ofString "") (us.map lastS)
theorem trS_cps (us:List Str):(trS us).cps.toList=trLab us:=by
  unfold trS trLab
  rw [join_cps,List.map_map]
  induction us with
  | nil=>rfl
  | cons a r ih=>rw [List.map_cons,List.flatten_cons,ih];rfl
theorem ones_sum:∀ us:List Str,((us.map lastS).map (·.length)).sum=us.length
  | []=>rfl
  | a :: r=>by
    rw [List.map_cons,List.map_cons,List.sum_cons,ones_sum r,List.length_cons]
    show 1+_=_;omega
end
end S53
namespace S53
open PySem L2 W7 W55
section
variable {P:Program} {w:World} {K:PySem.W.Frag} {mg:Str→Option Value} {base:Heap} {k:Nat}
abbrev wyS (ups:List Int) (lab:Str):List Str:=waysN ups lab ups.length
theorem ways_ne {ups:List Int} {lab:Str} (ok:TreeOk ups lab.cps.toList):∀ z∈wyS ups lab,z.cps.toList≠[]∧z.length≤60:=fun z hz=>by
  obtain ⟨j,hj,rfl⟩:=List.mem_map.mp hz
  have hj':=List.mem_range.mp hj
  have wl:=W_len ok (j+1) j (by omega) hj'
  have m:=ok.most
  refine ⟨?_,by rw [mk_len,List.length_reverse];omega⟩
  rw [mk_cps,W_eq ok hj']
  simp
theorem nd_len {us ws:List Str} (uq:Uq us ws):us.length≤ws.length:=uq.nd.length_le_of_subset fun x hx=>(uq.mem x).mp hx
end
end S53
namespace S53
open PySem L2 W7 W55
section
variable {P:Program} {w:World} {K:PySem.W.Frag} {mg:Str→Option Value} {base:Heap} {k:Nat}
theorem way_eq {ups:List Int} {lab:Str} (ok:TreeOk ups lab.cps.toList) {j:Nat} (hj:j < ups.length) :
    (W ups lab.cps.toList j).reverse=(if ups.getD j 0 < 0 then [] else (W ups lab.cps.toList (ups.getD j 0).toNat).reverse)++[lab.cps.toList.getD j 0]:=by
  rw [W_eq ok hj,List.reverse_cons]
  split <;> rfl
def sp_lways:Sp:=sp_ways
theorem has_lways (D:Df K mg "_law_ways" s_law_ways) (B:Blt7 mg):Has P w K mg base "_law_ways" (k+1) ["tree"] sp_lways:=by
  refine D.has sc_law_ways (fun _ _ _ _ _ _ us hl=>match us,hl with | [_],_=>rfl) (fun vs H Q E h=>by obtain ⟨t,ups,lab,rfl,_⟩:=h;rfl) (fun f cdv A outer s H vs Q E hr h=>?_)
  obtain ⟨t,ups,lab,rfl,tr,q⟩:=h
  refine ⟨_,(pss_cons (ps_set (i:=1) sc_law_ways.nd rfl (by first | exact Or.inl rfl | exact Or.inr rfl) (pe_lst pa_nil))
  (pss_cons (ps_for PassesOwn.never rfl (pi_enum rfl B.enumerate (pa_cons (pe_ix ix_tup (pv 0) pe_int (fun _ _=>rfl)) pa_nil)) (pg_tup rfl (pgs_cons (pg_name (i:=2) sc_law_ways.nd rfl (by first | exact Or.inl rfl | exact Or.inr rfl)) (pgs_cons (pg_name (i:=3) sc_law_ways.nd rfl (by first | exact Or.inl rfl | exact Or.inr rfl)) pgs_nil)))
  (pss_cons (ps_set (i:=4) sc_law_ways.nd rfl (by first | exact Or.inl rfl | exact Or.inr rfl) pe_str)
  (pss_cons (ps_if (pt_cmpR op_ge (pv 3) pe_int (nomark _))
  (pss_one (ps_set (i:=4) sc_law_ways.nd rfl (by first | exact Or.inl rfl | exact Or.inr rfl) (pe_ix ix_list (pv 1) (pv 3) (fun _ _=>rfl))))
  pss_nil)
  (pss_one (ps_expr (pe_bm PySem.F.plainAttrs_list PySem.F.slot_list_append PySem.F.type_list_append mt_append (pv 1) (pa_cons (pe_op op_add_str (pv 4) (pe_ix ix_str (pe_ix ix_tup (pv 0) pe_int (fun _ _=>rfl)) (pv 2) (fun _ _=>rfl))) pa_nil)))))))
  (pss_one (ps_ret (pv 1))))),?_⟩
  obtain ⟨u,ht,hu,ok⟩:=id tr
  have m60:=ok.most
  have hlab:lab.length=ups.length:=by rw [ok.len];simp [Str.length]
  refine ⟨(by show 0≤sizeLine;decide),fun r hr0=>?_⟩
  have s0:Same H (upd H r (.lst [])):=(Same.refl H).new hr0
  have h0:upd H r (.lst []) r=some (.lst []):=upd_same
  generalize upd H r (.lst [])=H0 at s0 h0
  refine ⟨_,rfl,t,_,_,_,rfl,rfl,SqT.of (s0 _ _ ht),rfl,.tup u,rfl,⟨_,.inl (s0 _ _ hu)⟩,?_⟩
  refine for_enum (xs:=ups.map V.int) (fun i σ H'=>∃ o2 o3 o4:Option V,σ=[some (.ref t),some (.ref r),o2,o3,o4]∧Same H H'∧H' r=some (.lst ((waysN ups lab i).map V.str))) ⟨none,none,none,rfl,s0,h0⟩
    (fun i σ H' hi h=>by obtain ⟨_,_,_,_,s1,_⟩:=h;exact .inl (s1 _ _ hu)) ?_ ?_
  · rintro i x σ H' p hx ⟨o2,o3,o4,rfl,s1,hr1⟩ hp
    rw [List.getElem?_map] at hx
    cases e1:ups[i]? with
    | none=>rw [e1] at hx;cases hx
    | some v=>
      rw [e1] at hx
      cases hx
      have hi:i < ups.length:=(List.getElem?_eq_some_iff.mp e1).1
      have ev:ups.getD i 0=v:=by rw [List.getD_eq_getElem?_getD,e1];rfl
      have we:=way_eq ok hi
      rw [ev] at we
      have i2:i < lab.cps.toList.length:=by rw [← ok.len];exact hi
      have ac:atI lab.cps.toList (i:Int)=some (lab.cps.toList.getD i 0):=atI_nat (by rw [List.getD_eq_getElem?_getD,List.getElem?_eq_getElem i2];rfl)
      have sP:Same H' (upd H' p (.tup [.int (i:Int),.int v])):=(Same.refl H').new hp
      refine ⟨p,_,rfl,SqT.of upd_same,rfl,_,_,rfl,_,_,rfl,rfl,?_⟩
      generalize upd H' p (.tup [.int (i:Int),.int v])=HP at sP
      have hrP:=sP _ _ hr1
      have htP:=sP _ _ (s1 _ _ ht)
      have wlen:=waysN_len ups lab i
      have step:=waysN_succ ups lab i
      have fin:∀ al:List Nat,al.length≤60→al++[lab.cps.toList.getD i 0]=(W ups lab.cps.toList i).reverse→mk al++(⟨#[lab.cps.toList.getD i 0]⟩:Str)=mk (W ups lab.cps.toList i).reverse:=fun al _ e=>by
        apply str_ext;rw [app_list,mk_cps,mk_cps,← e]
      refine ⟨_,rfl,_,_,rfl,rfl,_,rfl,ite2 (fun cnd=>?_) (fun cnd=>?_)⟩
      · have c':(0:Int)≤v:=of_decide_eq_true cnd
        have lt:=ok.lt hi (by rw [ev];omega)
        rw [ev] at lt
        have hat:atI ((waysN ups lab i).map V.str) v=some (.str (mk (W ups lab.cps.toList v.toNat).reverse)):=by
          have e:=atI_nat (xs:=(waysN ups lab i).map V.str) (j:=v.toNat) (v:=.str (mk (W ups lab.cps.toList v.toNat).reverse)) (by unfold waysN;rw [List.getElem?_map,List.getElem?_map,List.getElem?_range lt];rfl)
          rw [show ((v.toNat:Nat):Int)=v by omega] at e
          exact e
        have wl:=W_len ok (v.toNat+1) v.toNat (by omega) (by omega)
        have e2:=fin (W ups lab.cps.toList v.toNat).reverse (by rw [List.length_reverse];omega) (by rw [we,if_neg (by omega)])
        refine ⟨_,rfl,_,rfl,r,_,_,_,rfl,rfl,SqL.of hrP,hat,?_⟩
        refine ⟨_,rfl,.inl ⟨rfl,_,SqL.of hrP⟩,_,rfl,_,rfl,t,_,_,_,rfl,rfl,SqT.of htP,rfl,_,rfl,lab,_,_,rfl,rfl,by rw [hlab];exact Nat.le_of_lt (small1000 (by omega)),ac,_,_,rfl,rfl,?_,r,_,_,rfl,rfl,hrP,by rw [List.length_map,wlen];exact small1000 (by omega),_,_,_,rfl,(s1.trans sP).write hr0,?_⟩
        · rw [mk_len,List.length_reverse]
          show _+1≤sizeLine
          exact Nat.le_of_lt (small1000 (by omega))
        · rw [upd_same,e2,step]
      · have c':¬ (0:Int)≤v:=of_decide_eq_false (Bool.eq_false_iff.mpr cnd)
        have e2:=fin [] (by simp) (by rw [we,if_pos (by omega)])
        refine ⟨_,rfl,.inl ⟨rfl,_,SqL.of hrP⟩,_,rfl,_,rfl,t,_,_,_,rfl,rfl,SqT.of htP,rfl,_,rfl,lab,_,_,rfl,rfl,by rw [hlab];exact Nat.le_of_lt (small1000 (by omega)),ac,_,_,rfl,rfl,?_,r,_,_,rfl,rfl,hrP,by rw [List.length_map,wlen];exact small1000 (by omega),_,_,_,rfl,(s1.trans sP).write hr0,?_⟩
        · show 0+1≤sizeLine;decide
        · rw [upd_same,step,← e2];rfl
  · rintro σ H' ⟨o2,o3,o4,rfl,s1,hr1⟩
    rw [List.length_map] at hr1
    exact ⟨_,rfl,q r H' s1 hr0 hr1⟩
end
end S53
namespace S53
open PySem L2 W7 W55
section
variable {P:Program} {w:World} {K:PySem.W.Frag} {mg:Str→Option Value} {base:Heap} {k:Nat}
theorem way_head {ups:List Int} {lab:Str} (ok:TreeOk ups lab.cps.toList):∀ (n j:Nat),j < n→j < ups.length→(W ups lab.cps.toList j).reverse.head?=some (lab.cps.toList.getD 0 0)
  | 0,j,h,_=>absurd h (Nat.not_lt_zero _)
  | n+1,j,h,hj=>by
    rw [way_eq ok hj]
    split
    · rename_i hn
      have:j=0:=by
        rcases Nat.eq_zero_or_pos j with z | z
        · exact z
        · have:=ok.up j z hj;omega
      subst this;rfl
    · rename_i hn
      have lt:=ok.lt hj hn
      have ih:=way_head ok n (ups.getD j 0).toNat (by omega) (by omega)
      rw [List.head?_append,ih];rfl
theorem cl_ways {ups:List Int} {lab:Str} (ok:TreeOk ups lab.cps.toList):Cl (wyS ups lab):=by
  refine ⟨fun z hz=>(ways_ne ok z hz).1,fun z hz l=>?_,lab.cps.toList.getD 0 0,fun z hz=>?_⟩
  · obtain ⟨j,hj,rfl⟩:=List.mem_map.mp hz
    have hj':=List.mem_range.mp hj
    have e:=way_eq ok hj'
    rw [mk_cps] at l
    have hn:¬ ups.getD j 0 < 0:=fun hn=>by
      rw [if_pos hn] at e
      rw [e] at l
      simp at l
    rw [if_neg hn] at e
    have lt:=ok.lt hj' hn
    refine List.mem_map.mpr ⟨(ups.getD j 0).toNat,List.mem_range.mpr (by omega),?_⟩
    apply str_ext
    show _=(W ups lab.cps.toList j).reverse.dropLast
    rw [e,List.dropLast_concat];rfl
  · obtain ⟨j,hj,rfl⟩:=List.mem_map.mp hz
    exact way_head ok (j+1) j (by omega) (List.mem_range.mp hj)
theorem strict {us:List Str} (srt:PyProof.Rows.sortedS us=true) (nd:us.Nodup):us.Pairwise (fun a b=>a.cps.toList < b.cps.toList):=by
  have h1:=sorted_pair us srt
  rw [List.pairwise_iff_getElem] at h1 ⊢
  intro i j hi hj hij
  have a:=h1 i j hi hj hij
  have b:=List.pairwise_iff_getElem.mp nd i j hi hj hij
  by_cases c:us[i].cps.toList < us[j].cps.toList
  · exact c
  · exact absurd (str_ext (lt_asymm' _ _ a c)) b
theorem trUp_one {us:List Str} (cl:Cl us) {z:Str} (h:z.cps.toList.length≤1):trUp us z=-1:=by
  unfold trUp;rw [if_neg (no_empty cl h)]
theorem trUp_in {us:List Str} {z:Str} (h:front z∈us):trUp us z=((us.idxOf (front z):Nat):Int):=by
  unfold trUp;rw [if_pos (List.idxOf_lt_length_of_mem h)]
def sp_ltrie:Sp:=fun vs H Q _=>∃ (l:Addr) (ws:List Str),vs=[.ref l]∧H l=some (.lst (ws.map V.str))∧ws.length≤60∧Cl ws∧(∀ z∈ws,z.length≤60) ∧
  ∀ (us:List Str) (t u:Addr) (H':Hp),Uq us ws→Same H H'→H t=none→H' t=some (.tup [.ref u,.str (trS us)])→H' u=some (.tup ((trUps us).map V.int))→Q (.ref t) H'
theorem has_ltrie (D:Df K mg "_law_trie" s_law_trie) (B:Blt7 mg):Has P w K mg base "_law_trie" (k+1) ["ways"] sp_ltrie:=by
  refine D.has sc_law_trie (fun _ _ _ _ _ _ us hl=>match us,hl with | [_],_=>rfl) (fun vs H Q E h=>by obtain ⟨l,ws,rfl,_⟩:=h;rfl) (fun f cdv A outer s H vs Q E hr h=>?_)
  obtain ⟨l,ws,rfl,hl,w60,cw,wle,q⟩:=h
  refine ⟨_,(pss_cons (ps_set (i:=1) sc_law_trie.nd rfl (by first | exact Or.inl rfl | exact Or.inr rfl) (pe_sortset K rfl rfl B.sorted rfl B.set_ (pa_cons (pv 0) pa_nil)))
  (pss_cons (ps_set (i:=2) sc_law_trie.nd rfl (by first | exact Or.inl rfl | exact Or.inr rfl) (pe_lst pa_nil))
  (pss_cons (ps_for PassesOwn.never rfl (pi_list (pv 1)) (pg_name (i:=3) sc_law_trie.nd rfl (by first | exact Or.inl rfl | exact Or.inr rfl))
  (pss_cons (ps_set (i:=4) sc_law_trie.nd rfl (by first | exact Or.inl rfl | exact Or.inr rfl) (pe_un un_neg pe_int))
  (pss_cons (ps_if (pt_cmpR op_gt (pe_callB call_len_str rfl B.len bt_len (pa_cons (pv 3) pa_nil)) pe_int (nomark _))
  (pss_one (ps_set (i:=4) sc_law_trie.nd rfl (by first | exact Or.inl rfl | exact Or.inr rfl) (pe_indexK K (pv 1) (pe_slice sl_str (pv 3) po_none (po_some (pe_un un_neg pe_int))))))
  pss_nil)
  (pss_one (ps_expr (pe_bm PySem.F.plainAttrs_list PySem.F.slot_list_append PySem.F.type_list_append mt_append (pv 2) (pa_cons (pv 4) pa_nil)))))))
  (pss_one (ps_ret (pe_tup (pa_cons (pe_callTy call_tuple_of rfl B.tuple_ bt_tuple (pa_cons (pv 2) pa_nil)) (pa_cons (pe_bm PySem.F.plainAttrs_str PySem.F.slot_str_join PySem.F.type_str_join mt_join pe_str (pa_cons (pe_comp rfl (pi_list (pv 1)) (NL:=["way"]) (ix:=[]) (csc (defScope s_law_trie) N_law_trie) (fun cl C s₃ H₃ fp pins=>⟨(pg_name (i:=0) (show List.Nodup (["way"]:List Str) from by decide +kernel) rfl (by first | exact Or.inl rfl | exact Or.inr rfl)),pifs_nil,(pe_ix ix_str (pv 0) (pe_un un_neg pe_int) (fun _ _=>rfl))⟩)) pa_nil)) pa_nil)))))))),?_⟩
  refine ⟨_,rfl,l,ws,rfl,SqL.of hl,by omega,fun us r2 nd mem srt len hr2=>?_⟩
  have uq:Uq us ws:=⟨nd,mem,srt⟩
  have ul:=nd_len uq
  have cl:=cw.perm mem
  have s2:Same H (upd H r2 (.lst (us.map V.str))):=(Same.refl H).new hr2
  have h2:upd H r2 (.lst (us.map V.str)) r2=some (.lst (us.map V.str)):=upd_same
  generalize upd H r2 (.lst (us.map V.str))=H2 at s2 h2
  refine ⟨(by show 0≤sizeLine;decide),fun r3 hr3=>?_⟩
  have s3:Same H2 (upd H2 r3 (.lst [])):=(Same.refl H2).new hr3
  have h3:upd H2 r3 (.lst []) r3=some (.lst []):=upd_same
  generalize upd H2 r3 (.lst [])=H3 at s3 h3
  have h23:=s3 _ _ h2
  have cvl:(us.map V.str).length=us.length:=List.length_map _
  refine ⟨_,rfl,r2,rfl,⟨_,SqL.of h23⟩,?_⟩
  refine for_list (xs:=us.map V.str) (fun i σ H'=>∃ o3 o4:Option V,σ=[some (.ref l),some (.ref r2),some (.ref r3),o3,o4]∧Same H2 H'∧H' r3=some (.lst (((us.take i).map (trUp us)).map V.int))) ⟨none,none,rfl,s3,h3⟩
    (fun i σ H' _ h=>by obtain ⟨_,_,_,sX,_⟩:=h;exact SqL.of (sX _ _ h2)) ?_ ?_
  · rintro i x σ H' hx ⟨o3,o4,rfl,sX,hX⟩
    rw [List.getElem?_map] at hx
    cases e1:us[i]? with
    | none=>rw [e1] at hx;cases hx
    | some z=>
      rw [e1] at hx
      cases hx
      have zm:=List.mem_of_getElem? e1
      have zl:=wle z ((mem z).mp zm)
      have sz:z.length≤sizeLine:=Nat.le_of_lt (small1000 (by omega))
      have hi:i < us.length:=(List.getElem?_eq_some_iff.mp e1).1
      have hl3:(((us.take i).map (trUp us)).map V.int).length < sizeLine:=by rw [List.length_map,List.length_map,List.length_take];exact small1000 (by omega)
      have st:((us.take (i+1)).map (trUp us)).map V.int=((us.take i).map (trUp us)).map V.int++[.int (trUp us z)]:=by rw [List.take_succ,e1,List.map_append,List.map_append];rfl
      have hX2:=sX _ _ h2
      refine ⟨_,rfl,_,rfl,z,rfl,sz,_,_,rfl,rfl,_,rfl,ite2 (fun cnd=>?_) (fun cnd=>?_)⟩
      · have c':(1:Int) < (z.length:Int):=of_decide_eq_true cnd
        have fm:=cl.fr z zm (by rw [cps_len];omega)
        refine ⟨_,rfl,.inl ⟨rfl,_,SqL.of hX2⟩,_,rfl,_,rfl,_,rfl,z,rfl,sz,?_⟩
        rw [cut_front]
        refine ⟨r2,us,_,rfl,rfl,hX2,fm,by omega,?_⟩
        refine ⟨_,rfl,.inl ⟨rfl,_,SqL.of hX⟩,_,rfl,r3,_,_,rfl,rfl,hX,hl3,_,_,rfl,sX.write hr3,?_⟩
        rw [upd_same,st,trUp_in fm]
      · have c':¬ (1:Int) < (z.length:Int):=of_decide_eq_false (Bool.eq_false_iff.mpr cnd)
        refine ⟨_,rfl,.inl ⟨rfl,_,SqL.of hX⟩,_,rfl,r3,_,_,rfl,rfl,hX,hl3,_,_,rfl,sX.write hr3,?_⟩
        rw [upd_same,st,trUp_one cl (by rw [cps_len];omega)]
  · rintro σ H4 ⟨o3,o4,rfl,s4,h4⟩
    rw [cvl,List.take_length] at h4
    refine ⟨_,rfl,r3,_,rfl,.inl ⟨SqL.of h4,fun u hu=>?_⟩⟩
    have s5:Same H4 (upd H4 u (.tup ((us.map (trUp us)).map V.int))):=(Same.refl H4).new hu
    have h5:upd H4 u (.tup ((us.map (trUp us)).map V.int)) u=some (.tup ((trUps us).map V.int)):=upd_same
    generalize upd H4 u (.tup ((us.map (trUp us)).map V.int))=H5 at s5 h5
    have hr5:=s5 _ _ (s4 _ _ h2)
    refine ⟨rfl,?_⟩
    refine ⟨_,rfl,r2,rfl,⟨_,SqL.of hr5⟩,fun ac2 hac2=>?_⟩
    refine comp_lst (xs:=us.map V.str) (by omega) (fun i ys H6=>H6 ac2=some (.lst ys)∧ys=((us.take i).map lastS).map V.str∧Same H5 H6)
      (fun i ys H6 h=>SqL.of (h.2.2 _ _ hr5)) (fun i ys H6 h=>⟨h.1,by rw [h.2.1,List.length_map,List.length_map,List.length_take];exact Nat.min_le_left _ _⟩) ⟨upd_same,rfl,(Same.refl H5).new hac2⟩ ?_ ?_
    rotate_left
    · rintro i x ys H6 hx ⟨g1,rfl,g3⟩
      rw [List.getElem?_map] at hx
      cases e1:us[i]? with
      | none=>rw [e1] at hx;cases hx
      | some z=>
        rw [e1] at hx
        cases hx
        have zm:=List.mem_of_getElem? e1
        have zl:=wle z ((mem z).mp zm)
        refine ⟨rfl,_,rfl,_,rfl,z,_,_,rfl,rfl,Nat.le_of_lt (small1000 (by omega)),last_at (cl.ne z zm),g1,upd_same,?_,g3.write hac2⟩
        rw [List.take_succ,e1,List.map_append,List.map_append];rfl
    rintro ys H6 ⟨g6,rfl,s6⟩
    rw [cvl,List.take_length] at g6
    refine ⟨_,ac2,_,rfl,rfl,SqL.of g6,?_,(by show 2≤sizeLine;decide),fun t ht=>?_⟩
    · have e0:(Str.ofString "").length=0:=rfl
      rw [ones_sum,e0];omega
    · have sA:=((s2.trans s4).trans s5).trans s6
      exact q us t u _ uq (sA.new ht) (sA.free ht) upd_same (((Same.refl H6).new ht) _ _ (s6 _ _ h5))
end
end S53
namespace Tim
open PySem PyProof.Rows
abbrev setG (st:SortSt) (g:Nat):SortSt:=SortSt.mk' (kindOf st) (arrOf st) (pendingOf st) g (failedOf st)
end Tim
namespace Tim
open PySem PyProof.Rows
section
variable {prog:Program} {w:World} {A:Around} {E:Value→Shared→Prop} {s:Shared} {a₀:Array Keyed} {κ:SortKind} {O:KeyOrd} {key:Keyed→O.α}
def mrg (key:Keyed→O.α):List Keyed→List Keyed→List Keyed
  | [],ys=>ys
  | x :: xs,[]=>x :: xs
  | x :: xs,y :: ys=>if O.blt (key y) (key x)=true then y :: mrg key (x :: xs) ys else x :: mrg key xs (y :: ys)
termination_by xs ys=>xs.length+ys.length
abbrev Srt (key:Keyed→O.α) (l:List Keyed):Prop:=l.Pairwise fun x y=>O.blt (key y) (key x)=false
end
end Tim
namespace Tim
open PySem PyProof.Rows
section
variable {prog:Program} {w:World} {A:Around} {E:Value→Shared→Prop} {s:Shared} {a₀:Array Keyed} {κ:SortKind} {O:KeyOrd} {key:Keyed→O.α}
structure Two (key:Keyed→O.α) (a₀ a b:Array Keyed):Prop where
  ma:∀ x∈a,x∈a₀
  mb:∀ x∈b,x∈a₀
  na:1≤a.size
  nb:1≤b.size
  sa:Srt key a.toList
  sb:Srt key b.toList
  fst:∀ x∈a,∀ y,b[0]?=some y→O.blt (key y) (key x)=true
  lst:∀ y∈b,∀ x,a[a.size - 1]?=some x→O.blt (key y) (key x)=true
def LoI (key:Keyed→O.α) (a b o:Array Keyed) (p q:Nat):Prop:=o.toList++mrg key (a.toList.drop p) (b.toList.drop q)=mrg key a.toList b.toList
section
variable {a b o:Array Keyed} {p q k:Nat} {x y:Keyed}
end
abbrev LSt:=Option (Array Keyed) × Array Keyed × Nat × Nat × Nat × Nat × Nat
structure GoesOn (key:Keyed→O.α) (a b:Array Keyed) (st:SortSt) (m:Nat) (R:ForInStep LSt→SortSt→Prop):Prop where
  fin:∀ (out:Array Keyed) c g,out.toList=mrg key a.toList b.toList→R (.done (some out,c)) (setG st g)
  brk:∀ o p q g c d g',LoI key a b o p q→p+1 < a.size→q < b.size→m≤p+q→R (.done (none,o,p,q,g,c,d)) (setG st g')
  yld:∀ o p q g c d g',LoI key a b o p q→p+1 < a.size→q < b.size→m≤p+q→R (.yield (none,o,p,q,g,c,d)) (setG st g')
section
variable {a b o:Array Keyed} {p q k g c d m g':Nat} {x y:Keyed} {st:SortSt} {R:ForInStep LSt→SortSt→Prop}
end
end
end Tim
namespace Tim
open PySem PyProof.Rows
section
variable {prog:Program} {w:World} {A:Around} {E:Value→Shared→Prop} {s:Shared} {a₀:Array Keyed} {κ:SortKind} {O:KeyOrd} {key:Keyed→O.α}
def HiI (key:Keyed→O.α) (a b o:Array Keyed) (p q:Nat):Prop:=mrg key (a.toList.take p) (b.toList.take q)++o.toList.reverse=mrg key a.toList b.toList
section
variable {a b o:Array Keyed} {p q f:Nat} {x y:Keyed}
end
abbrev HSt:=Option (Array Keyed) × Nat × Nat × Array Keyed × Nat × Nat × Nat
structure GoesHi (key:Keyed→O.α) (a b:Array Keyed) (st:SortSt) (m:Nat) (R:ForInStep HSt→SortSt→Prop):Prop where
  fin:∀ (out:Array Keyed) c g,out.toList=mrg key a.toList b.toList→R (.done (some out,c)) (setG st g)
  brk:∀ o p q g c d g',HiI key a b o p q→0 < p→p≤a.size→1 < q→q≤b.size→p+q≤m→R (.done (none,p,q,o,g,c,d)) (setG st g')
  yld:∀ o p q g c d g',HiI key a b o p q→0 < p→p≤a.size→1 < q→q≤b.size→p+q≤m→R (.yield (none,p,q,o,g,c,d)) (setG st g')
section
variable {a b o:Array Keyed} {p q k g c d m g':Nat} {x y:Keyed} {st:SortSt} {R:ForInStep HSt→SortSt→Prop}
end
end
end Tim
namespace Tim
open PySem PyProof.Rows
section
variable {prog:Program} {w:World} {A:Around} {E:Value→Shared→Prop} {s:Shared} {a₀:Array Keyed} {κ:SortKind} {O:KeyOrd} {key:Keyed→O.α}
theorem three (L:List Keyed) {u v:Nat} (h:u≤v):L=L.take u++(L.drop u).take (v - u)++L.drop v:=by
  have e:L.drop v=(L.drop u).drop (v - u):=by rw [List.drop_drop];congr 1;omega
  rw [e,List.append_assoc,List.take_append_drop,List.take_append_drop]
end
end Tim
namespace Tim
open PySem PyProof.Rows
section
variable {prog:Program} {w:World} {A:Around} {E:Value→Shared→Prop} {s:Shared} {a₀:Array Keyed} {κ:SortKind} {O:KeyOrd} {key:Keyed→O.α}
def Dist (key:Keyed→O.α) (a₀:Array Keyed):Prop:=(a₀.toList.map key).Nodup
theorem Dist.inj (D:Dist key a₀) {xs:Array Keyed} (h:xs.Perm a₀) {i j:Nat} {x y:Keyed} (ex:xs[i]?=some x) (ey:xs[j]?=some y) (h1:O.blt (key x) (key y)=false) (h2:O.blt (key y) (key x)=false):i=j:=by
  have nd:(xs.toList.map key).Nodup:=(List.Perm.nodup_iff ((Array.perm_iff_toList_perm.mp h).map key)).mpr D
  obtain ⟨g1,rfl⟩:=Array.getElem?_eq_some_iff.mp ex
  obtain ⟨g2,rfl⟩:=Array.getElem?_eq_some_iff.mp ey
  refine (List.getElem_inj (h₀:=by simpa using g1) (h₁:=by simpa using g2) nd).mp ?_
  rw [List.getElem_map,List.getElem_map,Array.getElem_toList,Array.getElem_toList]
  exact O.total _ _ h1 h2
end
end Tim
namespace L2
open PySem PySem.Spec PyProof.Rows PySem.W
section
variable {X:Cx}
variable {e st:Expr} {te:TE} {ts:TO} {pos p2:Pos}
end
def Itx (x:Str):It:=⟨fun i _=>i < x.cps.size,fun i H v H'=>H'=H∧∃ c,x.cps[i]?=some c∧v=.str ⟨#[c]⟩,fun i _=>x.cps.size≤i⟩
theorem turn_str {P:Program} {w:World} {K:PySem.W.Frag} {tg:Expr} (x:Str) (t:Tok) (it:Addr):Turn P w K tg (Itx x) [it] it (fun i h=>h.IsStrIter it (strIterType x) x t i) where
  mem:=by simp
  obj:=fun i h st b hb=>by
    have e:b=it:=by simpa using hb
    subst e
    obtain ⟨o,e,c,d⟩:=st
    exact ⟨o,e,fun v z=>by rw [d] at z;cases z⟩
  keep:=fun i h h' st k=>by
    obtain ⟨o,e,c,d⟩:=st
    exact ⟨o,k it (by simp) o e,c,d⟩
  item:=by
    intro X hP hw hK hc i pins s σ H E I hf st hg
    subst hP hw hK
    have hg:i < x.cps.size:=hg
    obtain ⟨f0,f1,f2,f3,f4,f5⟩:=hf it (by simp)
    have hx:x.cps[i]?=some (x.cps[i]'hg):=Array.getElem?_eq_getElem hg
    have go:∀ (h':Heap),h'.IsStrIter it (strIterType x) x t (i+1)→Heap.SameBut it s.heap h'→∃ u,some (Value.str ⟨#[x.cps[i]'hg]⟩ s.toks)=some u ∧
        wpAny (model X.prog X.w) X.A (letOwnedTupleGo tg (.ref it) u) (fun _ s2=>∃ v H',Inv X pins σ H' s2∧RelV v u∧(Itx x).yld i H v H'∧s2.heap.IsStrIter it (strIterType x) x t (i+1)∧∀ b∈[it],H' b=none) E { s with heap:=h',toks:=s.toks+1 }:=fun h' st' sb=>by
      have I1:Inv X pins σ H { s with heap:=h',toks:=s.toks+1 }:=I.turned (t':=s.toks+1) (fun b o hb e=>(sb.2 b hb).trans e) f0 f1 f3 f4 f5
      obtain ⟨o,e,c,d⟩:=id st'
      refine ⟨_,rfl,go_of (s:={ s with heap:=h',toks:=s.toks+1 }) e c d ?_ ⟨.str ⟨#[x.cps[i]'hg]⟩,H,I1,⟨_,rfl⟩,⟨rfl,_,hx,rfl⟩,st',fun b hb=>(hf b hb).1⟩⟩
      unfold strIterType
      split <;> decide
    cases c:x.cps.all (· < 128) with
    | true=>
      have e:strIterType x = "str_ascii_iterator" := by unfold strIterType;rw [c];rfl
      rw [e] at st
      exact wpAny_pyNext_ascii_item st hx fun h' st' sb=>go h' (by rw [e];exact st') sb
    | false=>
      have e:strIterType x = "str_iterator" := by unfold strIterType;rw [c];rfl
      rw [e] at st
      exact wpAny_pyNext_wide_item st hx fun h' st' sb=>go h' (by rw [e];exact st') sb
  done:=by
    intro X hP hw hK hc i pins s σ H E I hf st hg
    subst hP hw hK
    have hg:x.cps.size≤i:=hg
    obtain ⟨f0,f1,f2,f3,f4,f5⟩:=hf it (by simp)
    have hx:x.cps[i]?=none:=Array.getElem?_eq_none hg
    cases c:x.cps.all (· < 128) with
    | true=>
      have e:strIterType x = "str_ascii_iterator" := by unfold strIterType;rw [c];rfl
      rw [e] at st
      exact wpAny_pyNext_ascii_end (I.ok.hd hc) st hx fun h' eb=>⟨rfl,I.turned (t':=s.toks) (fun b o hb e=>eb b o hb e) f0 f1 f3 f4 f5⟩
    | false=>
      have e:strIterType x = "str_iterator" := by unfold strIterType;rw [c];rfl
      rw [e] at st
      exact wpAny_pyNext_wide_end (I.ok.hd hc) st hx fun h' eb=>⟨rfl,I.turned (t':=s.toks) (fun b o hb e=>eb b o hb e) f0 f1 f3 f4 f5⟩
  self:=fun _ _ _ _ _ st h=>by
    cases c:x.cps.all (· < 128) with
    | true=>
      have e:strIterType x = "str_ascii_iterator" := by unfold strIterType;rw [c];rfl
      rw [e] at st
      exact wpAny_pyIter_striter_ascii st h
    | false=>
      have e:strIterType x = "str_iterator" := by unfold strIterType;rw [c];rfl
      rw [e] at st
      exact wpAny_pyIter_striter_wide st h
section
variable {X:Cx} {tg:Expr}
def iStr (tl:TE):TI:=fun σ H R=>tl σ H fun x H1=>∃ z,x=.str z∧R (Itx z) H1
theorem pi_str {l:Expr} {tl:TE} (hl:PE X l tl):PI X tg l (iStr tl):=by
  intro pins s σ H R I h
  refine thn (hl pins s σ H _ I h) fun v s1 ⟨x,H1,I1,r1,q1⟩=>?_
  obtain ⟨z,rfl,q⟩:=q1
  obtain ⟨t,rfl⟩:=r1
  refine wpAny_pyIter_strU ?_
  refine ⟨s1.heap.objs.size,[s1.heap.objs.size],_,_,H1,rfl,I1.kept (t':=s1.toks) fun b o e=>Heap.get?_push_of_some _ e,turn_str z t _,⟨_,Heap.get?_push_size _ rfl,rfl,rfl⟩,fun b hb=>?_,q⟩
  have e:b=s1.heap.objs.size:=by simpa using hb
  subst e
  exact I1.fpOk (Nat.le_refl _) (I1.hok.fresh (Nat.le_refl _))
end
section
variable {NL:List Str} {ix:List Nat} {g:TG} {tt:TT} {te:TE} {σ:St} {H1:Hp} {Qs:Hp→Prop} {acc:Addr}
theorem comp_str {z:Str} (hn:z.cps.size < 10000) (Pv:Nat→List V→Hp→Prop)
    (hacc:∀ i ys H2,Pv i ys H2→H2 acc=some (.lst ys)∧ys.length≤i) (h0:Pv 0 [] (upd H1 acc (.lst []))) (hstop:∀ ys H2,Pv z.cps.size ys H2→Qs H2)
    (hturn:∀ i c ys H2,z.cps[i]?=some c→Pv i ys H2→g (.str ⟨#[c]⟩) (comp0 NL ix σ) H2 fun σ' H4=>σ'.drop NL.length=ix.map (fun j=>σ.getD j none)∧tt σ' H4 fun b H5=>
      if b=true then te σ' H5 fun v H6=>H6 acc=some (.lst ys)∧Pv (i+1) (ys++[v]) (upd H6 acc (.lst (ys++[v]))) else Pv (i+1) ys H5) :
    ∃ W:Nat→Nat→List V→Hp→Prop,(∃ m,W 0 m [] (upd H1 acc (.lst []))) ∧
    ∀ i m ys H2,W i m ys H2→H2 acc=some (.lst ys)∧ys.length < sizeLine ∧
      (((Itx z).stop i H2∧Qs H2)∨((Itx z).go i H2∧∃ N:List V→Hp→Prop,(∀ ys' H',N ys' H'→∃ m',m' < m∧W (i+1) m' ys' H') ∧
        ∀ x H3,(Itx z).yld i H2 x H3→g x (comp0 NL ix σ) H3 fun σ' H4=>σ'.drop NL.length=ix.map (fun j=>σ.getD j none)∧tt σ' H4 fun b H5=>
          if b=true then te σ' H5 fun v H6=>H6 acc=some (.lst ys)∧N (ys++[v]) (upd H6 acc (.lst (ys++[v]))) else N ys H5)):=by
  refine comp_big z.cps.size hn Pv hacc h0 (fun ys H2 hp=>⟨Nat.le_refl _,hstop ys H2 hp⟩) fun i ys H2 hi hp=>⟨hi,?_⟩
  rintro x H3 ⟨rfl,c,hc,rfl⟩
  exact hturn i c ys H3 hc hp
end
section
variable {X:Cx}
end
end L2
namespace L2
open PySem PySem.Spec PyProof.Rows
section
variable {X:Cx}
def rCatA (K:PySem.W.Frag):R2:=fun x y H Q=>∃ a b xs ys,x=.ref a∧y=.ref b∧SqT K H a xs∧SqT K H b ys∧xs.length+ys.length≤sizeLine ∧
  (xs=[]→Q (.ref b) H)∧(xs≠[]→ys=[]→Q (.ref a) H)∧(xs≠[]→ys≠[]→∀ p,H p=none→Q (.ref p) (upd H p (.tup (xs++ys))))
theorem cat_tup0 {prog:Program} {w:World} {A:Around} {E:Value→Shared→Prop} {s:Shared} {t b:Addr} {vs ws:List Value} {Q:Value→Shared→Prop} (ht:IsTup s.heap t vs.toArray) (hb:IsTup s.heap b ws.toArray) (hv:vs=[])
    (h:Q (.ref b) s):wpAny (model prog w) A (binaryOp .Add (.ref t) (.ref b)) Q E s:=by
  obtain ⟨⟨cls,dd,data,sl⟩,ho,hc,n,hd⟩:=id ht
  obtain ⟨⟨cls2,dd2,data2,sl2⟩,ho2,hc2,n2,hd2⟩:=id hb
  simp only at hc hd hc2 hd2
  subst hc hd hc2 hd2
  exact concat_meets ⟨_,ho,rfl⟩ ⟨_,ho2,rfl⟩ noFill_tuple_add seq_tuple_add PySem.F.slot_tuple_add PySem.F.entry_tuple_add (PySem.F.args_tuple_add_2 _ _)
      (tuple_addW0 t b vs.toArray ws.toArray n n2 dd dd2 sl sl2 (by simp [hv])) ⟨ho,ho2,h⟩
theorem op_catA:OpR X (binaryOp .Add) (rCatA X.K):=by
  intro pins s σ H x y v u Q I rx ry h
  obtain ⟨a,b,xs,ys,rfl,rfl,ha,hb,hz,q0,q1,q2⟩:=h
  by_cases hx:xs=[]
  · cases rx
    cases ry
    obtain ⟨its,r1,p1,_⟩:=I.tuple ha
    obtain ⟨its2,r2,p2,_⟩:=I.tuple hb
    exact cat_tup0 p1 p2 (r1.nil_iff.mpr hx) ⟨.ref b,H,I,rfl,q0 hx⟩
  · exact op_catT pins s σ H _ _ v u Q I rx ry ⟨a,b,xs,ys,rfl,rfl,ha,hb,hx,hz,q1 hx,q2 hx⟩
end
end L2
namespace L2
open PySem PySem.Spec PyProof.Rows PySem.W
def DPrsT (P:Program) (w:World) (h:Heap) (D:Addr) (items:Array Value) (ps:List (List Key × Addr × Value)):Prop:=
  ps.length=items.size∧∀ (j:Nat) (k:List Key) (b:Addr) (v:Value),ps[j]?=some (k,b,v)→∃ a:Addr,items[j]?=some (Value.ref a)∧a≠D∧b≠D∧IsTup h a #[.ref b,v]∧(tupleKind (mixKind P w)).is h k b
theorem DPrsT.keeps {P:Program} {w:World} {h h':Heap} {D I:Addr} {items:Array Value} {ps:List (List Key × Addr × Value)} (p:DPrsT P w h D items ps) (nI:∀ a:Addr,Value.ref a∈items→a≠I) (nIb:∀ (j:Nat) k b v,ps[j]?=some (k,b,v)→b≠I)
    (k:∀ b o,b≠I→b≠D→h.get? b=some o→h'.get? b=some o):DPrsT P w h' D items ps:=by
  refine ⟨p.1,fun j kk b v e=>?_⟩
  obtain ⟨a,ha,hD,hbD,⟨o,e1,e2⟩,o2,its,n,e3,r⟩:=p.2 j kk b v e
  exact ⟨a,ha,hD,hbD,⟨o,k a o (nI a (Array.mem_of_getElem? ha)) hD e1,e2⟩,o2,its,n,k b o2 (nIb j kk b v e) hbD e3,r⟩
section
variable {prog:Program} {w:World} {A:Around} {E:Value→Shared→Prop}
end
section
variable {prog:Program} {w:World} {A:Around} {E:Value→Shared→Prop} {s:Shared}
end
section
variable {X:Cx}
end
end L2
namespace L2
open PySem PySem.Spec PyProof.Rows
section
variable {X:Cx}
theorem op_isnotB:OpR X (compareOp .IsNot) (fun x y H Q=>∃ c d,x=.bl c∧y=.bl d∧Q (.bl (c != d)) H):=by
  intro pins s σ H x y v u Q I rx ry h
  obtain ⟨c,d,rfl,rfl,q⟩:=h
  cases rx
  cases ry
  exact isnot_bool (fin_bl I q rfl)
end
end L2
namespace L2
open PySem PySem.Spec PyProof.Rows
theorem ObjOk.obj {P:Program} {w:World} {H:Hp} {h:Heap} {a:Addr} {o:HO} (x:ObjOk P w H h a o):∃ u,h.get? a=some u:=by
  cases o with
  | lst xs=>obtain ⟨_,_,_,_,e⟩:=x;exact ⟨_,e⟩
  | tup xs=>obtain ⟨⟨_,o,e,_⟩,_⟩:=x;exact ⟨_,e⟩
  | dK kvs=>obtain ⟨_,_,_,_,o,_,_,e,_⟩:=x;exact ⟨_,e⟩
  | dT kvs=>obtain ⟨_,_,_,_,o,_,_,e,_⟩:=x;exact ⟨_,e⟩
  | set S n=>obtain ⟨o,_,_,_,e,_⟩:=x;exact ⟨_,e⟩
  | ins C dx fs=>obtain ⟨_,_,_,e,_⟩:=x;exact ⟨_,e⟩
  | own y=>exact x
  | xd fs=>obtain ⟨_,⟨_,_,_,e,_⟩,_⟩:=x;exact ⟨_,e⟩
  | rng lo hi=>obtain ⟨_,_,_,e⟩:=x;exact ⟨_,e⟩
  | frz ob u=>exact ⟨_,x.1⟩
  | tbl ps=>exact ⟨_,x⟩
  | met f y=>exact ⟨_,x⟩
  | ext φ=>exact x.2.1
def FlyS (l:List Env) (H₀:Hp) (h₀:Heap) (H':Hp) (a C:Addr) (h:Heap):Prop:=
  ∃ B a0,Heap.FlyingW B l a (.ref C) a0 h∧(∀ b o,h₀.get? b=some o→b ∉ frs l→∃ o',B.get? b=some o'∧(H₀ b=none→o'=o))∧∀ b u,H' b=some u→∃ o,B.get? b=some o
def CXE (P:Program) (w:World):CXT:=fun outer H s E e s'=>∃ a C H',e=.ref a∧s'.os=s.os∧AllBare s'.gens∧Un (frs outer) [] H H' s.heap s'.heap∧HOk P w H' s'.heap∧FlyS outer H s.heap H' a C s'.heap∧H' a=none∧E e (some C) H'
section
variable {P:Program} {w:World} {K:PySem.W.Frag} {mg:Str→Option Value} {base:Heap} {N:List Str} {qual:Str} {scope:Scope} {f:Addr} {cd:Value} {A:Around} {outer:List Env} {s:Shared} {H:Hp} {E:XK}
end
end L2
namespace L2
open PySem PySem.Spec PyProof.Rows
def excO (a C:Addr):HO:=.ext fun h=>∃ o vs,h.get? a=some o∧o.cls=.ref C∧o.data=.fields vs
def Up (X:Cx) (pins:List (Addr × Obj)) (σ:St) (a C:Addr) (H2:Hp) (s:Shared):Prop:=
  ∃ H1 s1,Inv X pins σ H1 s1∧s.os=s1.os∧AllBare s.gens∧Un (frs X.stack) [] H1 H2 s1.heap s.heap∧HOk X.prog X.w H2 s.heap∧FlyS X.stack H1 s1.heap H2 a C s.heap∧H2 a=none
section
variable {X:Cx} {pins:List (Addr × Obj)} {σ:St} {a C:Addr} {H1 H2:Hp} {s s1:Shared} {B h h':Heap} {a0:Value}
theorem excO_ok (H:Hp) (e:∃ o vs,h.get? a=some o∧o.cls=.ref C∧o.data=.fields vs):ObjOk X.prog X.w H h a (excO a C):=by
  refine ⟨e,?_,fun h1 h2 ⟨o,vs,x1,x2,x3⟩ k=>⟨o,vs,k _ x1,x2,x3⟩⟩
  obtain ⟨o,_,e,_⟩:=e
  exact ⟨o,e⟩
theorem Up.inv (U:Up X pins σ a C H2 s):Inv X pins σ (upd H2 a (excO a C)) s:=by
  obtain ⟨H1,s1,I,os,bare,un,hok,⟨B,a0,fl,k0,tr⟩,ha⟩:=U
  obtain ⟨oe,vs,e1,e2,e3,_⟩:=fl.first
  have na:∀ b o,s1.heap.get? b=some o→b≠a:=fun b o e z=>by
    subst z
    by_cases hb:b∈frs X.stack
    · obtain ⟨_,o',e',nf⟩:=fl.2.2.1.mem hb
      rw [e1] at e';cases e'
      exact nf vs e3
    · obtain ⟨o',e',_⟩:=k0 b o e hb
      rw [fl.2.1] at e';cases e'
  have up:∀ b u,H2 b=some u→upd H2 a (excO a C) b=some u:=fun b u e=>by rw [upd_ne (ne_of_none e ha)];exact e
  refine I.call' (ch:=[]) os ⟨un.keep,un.slot,fun b o e n hx=>?_,un.there,fun b xs e=>up _ _ (un.tups b xs e),fun b o u e=>up _ _ (un.frzs b o u e),fun b ps e=>?_⟩ (fun b o e=>?_) bare (fun _ z=>nomatch z)
  · rw [upd_ne (na b o e)];exact un.free b o e n hx
  · obtain ⟨more,e2⟩:=un.tbls b ps e
    exact ⟨more,up _ _ e2⟩
  · by_cases hb:b=a
    · subst hb
      rw [upd_same] at e;cases e
      exact excO_ok _ ⟨oe,vs,e1,e2,e3⟩
    · rw [upd_ne hb] at e
      exact (hok b o e).stay (fun _ _ _ q=>q) (fun c q=>up _ _ q) fun c xs q=>up _ _ q
abbrev Cx.caught (X:Cx) (a:Addr):Cx:={ X with A:=X.A.mark (some (.ref a)),calm:=false,xe:=fun _ _=>False }
theorem Inv.caught {H:Hp} (I:Inv X pins σ H s) (a:Addr):Inv (X.caught a) pins σ H s:=
  ⟨⟨I.ok.mod,I.ok.kind,I.ok.glob,I.ok.blt,I.ok.above,I.ok.inj,I.ok.has,I.ok.cab,(fun z=>nomatch z),I.ok.frames,I.ok.stk,I.ok.exf,I.ok.bs,I.ok.bsz,I.ok.noex,I.ok.exfs,I.ok.funs,I.ok.frf⟩,I.os,I.bare,I.base,I.loc,I.cell,I.free,I.freeC,I.pin,I.hok,I.len⟩
end
section
variable {X:Cx} {x n:Str} {i:Nat} {np pos:Pos} {b₀:Stmt} {suite:List Stmt} {rest:List ExceptHandler} {Cl:Addr} {th:Addr→TS} {tr:Addr→Addr→TS}
end
def PassesAt (CX:CXT) (X:Cx) (E:XK) (σ:St):Prop:=∀ (pins:List (Addr × Obj)) (H:Hp) (s:Shared) (e:Value) (s':Shared),Inv X pins σ H s→CX X.stack H s E e s'→X.xe e s'
theorem Passes.at {CX:CXT} {X:Cx} {E:XK} {σ:St} (h:Passes CX X E):PassesAt CX X E σ:=fun pins H s e s' I q=>h pins σ H s e s' I q
end L2
namespace L2
open PySem PySem.Spec PyProof.Rows PySem.W PySem.Calls PySem.Builtin PySem.Builtin.ObjectAttr PySem.Builtin.Getset_descriptor
structure ExK (K:Frag) (C:Addr):Prop where
  ga:findIn K (.ref C) "__getattribute__" = some (some (.builtin "BaseException.__getattribute__"))
  gn:findIn K (.ref C) "__getattr__" = some none
  cl:findIn K (.ref C) "__class__" = some (some (.builtin "object.__class__"))
  gt:specialIn K (.builtin "object.__class__") "__get__" = some (some (.builtin "getset_descriptor.__get__"))
  tk:takesIn K (.builtin "object.__class__")=some true
  ob:mroIn K C (.type "object")=some true
  be:mroIn K C (.type "BaseException")=some true
  cd:(clsIn K C).isSome=true
section
variable {prog:Program} {w:World} {A:Around} {E:Value→Shared→Prop} {s:Shared} {K:Frag} {x C:Addr} {R:Result→Shared→Prop}
end
end L2
namespace L2
open PySem PySem.Spec PyProof.Rows PySem.W
section
variable {X:Cx}
end
def HasX (P:Program) (w:World) (K:Frag) (mg:Str→Option Value) (base:Heap) (x:Str) (k:Nat) (ps:List Str) (sp:Sp):Prop:=
  ∃ f fd,FnOk P w K mg base (CXE P w) k f fd ps sp∧Binds K fd ps []∧keepIn K (.ref f)=true∧mg x=some (.ref f)
section
variable {P:Program} {w:World} {K:Frag} {mg:Str→Option Value} {base:Heap}
theorem HasX.mono {x:Str} {j k:Nat} {ps:List Str} {sp:Sp} (G:HasX P w K mg base x j ps sp) (h:j≤k):HasX P w K mg base x k ps sp:=
  let ⟨f,fd,F,r⟩:=G;⟨f,fd,F.mono h,r⟩
end
section
variable {X:Cx} {x:Str} {k:Nat} {ps:List Str} {sp:Sp} {p pos:Pos} {e:Expr} {es:List Expr} {t:TA} {E:XK} {σ0:St}
end
end L2
namespace L2
open PySem PySem.Spec PyProof.Rows PySem.W
section
variable {X:Cx}
def rIndexI:V→List V→Hp→VK→Prop:=fun x vs H Q=>∃ (l:Addr) (ss:List Int) (y:Int),x=.ref l∧vs=[.int y]∧H l=some (.lst (ss.map V.int))∧y∈ss∧ss.length≤10000∧Q (.int ((ss.idxOf y:Nat):Int)) H
theorem mt_indexI:MtM X "list.index" rIndexI:=by
  intro pins s σ H x vs v us Q I rx rv h
  obtain ⟨l,ss,y,rfl,rfl,hH,hm,hl,q⟩:=h
  cases rx
  obtain ⟨u,rfl,ru⟩:=rv.one
  have ru0:=ru
  obtain ⟨ty,rfl⟩:=ru
  obtain ⟨z,its,n,r,hz,e⟩:=I.lstM hH
  have rl:=r.length
  rw [List.length_map] at rl
  have jl:ss.idxOf y < ss.length:=List.idxOf_lt_length_of_mem hm
  have key:∀ (j:Nat) (hj:j < its.toArray.size),eqU (V.int y) its.toArray[j]=(ss[j]'(by rw [rl];simpa using hj) == y):=fun j hj=>by
    have hj':j < ss.length:=by rw [rl];simpa using hj
    obtain ⟨w',e1,e2⟩:=r.get (i:=j) (x:=V.int (ss[j])) (by rw [List.getElem?_map,List.getElem?_eq_getElem hj'];rfl)
    obtain ⟨t',rfl⟩:=e2
    have:its.toArray[j]=Value.int ss[j] t':=by
      rw [List.getElem?_eq_getElem (by omega)] at e1
      simpa using Option.some.inj e1
    rw [this]
    rfl
  refine call_meets F.slot_list_index ⟨_,e,rfl⟩ F.entry_list_index (F.args_list_index_2 _ _) (SeqAt.list_indexAt l its.toArray n none #[] (.int y ty) (eqU (V.int y)) (ss.idxOf y) (by rw [List.size_toArray];omega) (by omega) ?_ ?_) ⟨e,fun u hu=>mem_eqAt (x:=V.int y) ru0 rfl r (flat_ints ss) u (by simpa using hu),?_⟩
  · rw [key _ (by rw [List.size_toArray];omega),List.getElem_idxOf jl];exact beq_self_eq_true y
  · intro m hm' hlt
    rw [key m hm']
    have:=List.not_of_lt_findIdx (p:=(· == y)) (xs:=ss) (i:=m) hlt
    simpa using this
  · exact ⟨.int _,H,I.tok _,⟨_,rfl⟩,q⟩
theorem pe_indexI (K:PySem.W.Frag) {o e:Expr} {to te:TE} {apos cpos:Pos} (ho:PE X o to) (he:PE X e te) (hK:X.K=K:=by rfl) (hbase:attributeBase o "index" X.env (eval o X.env)=eval o X.env:=by rfl)
    (h1:starEach [e] X.env=[(false,eval e X.env)]:=by rfl) (hl:(apos.endLine == cpos.line)=true:=by rfl) :
    PE X (.Call (.Attribute o "index" apos) [e] [] cpos) (tBM K "list" rIndexI to (tCons te tNil)):=by
  subst hK
  exact pe_bm PySem.F.plainAttrs_list PySem.F.slot_list_index PySem.F.type_list_index mt_indexI ho (pa_cons he pa_nil h1) hbase (by rw [h1];rfl) hl h1 (by rfl)
end
end L2
namespace L2
section
variable {NL:List PySem.Str} {ix:List Nat} {g:TG} {tt:TT} {te:TE} {σ:St} {H1:Hp} {Qs:Hp→Prop} {acc:PySem.Addr}
end
end L2
namespace L2
open PySem PySem.Spec PyProof.Rows PySem.W
section
variable {X:Cx}
theorem op_eq_nil (hu:X.A.units < cLine):OpR X (compareOp .Eq) (fun x y H Q=>∃ a b xs,x=.ref a∧y=.ref b∧SqL X.K H a xs∧SqL X.K H b []∧Q (.bl xs.isEmpty) H):=by
  intro pins s σ H x y v u Q I rx ry h
  obtain ⟨a,b,xs,rfl,rfl,h1,h2,q⟩:=h
  cases xs with
  | nil=>exact op_eq_lst hu pins s σ H _ _ v u Q I rx ry ⟨a,b,[],[],rfl,rfl,h1,h2,rfl,rfl,q⟩
  | cons z zs=>
    cases (show v=Value.ref a from rx)
    cases (show u=Value.ref b from ry)
    obtain ⟨us,r1,l1,_⟩:=I.list h1
    obtain ⟨ws,r2,l2,_⟩:=I.list h2
    have e1:=r1.length
    have e2:=r2.length
    rw [List.length_cons] at e1
    rw [List.length_nil] at e2
    exact SeqAt.eq_list_lengthsAt l1.isList l2.isList (by simp;omega) hu ⟨.bl _,H,I,rfl,q⟩
theorem op_ne_nil (hu:X.A.units < cLine):OpR X (compareOp .NotEq) (fun x y H Q=>∃ a b xs,x=.ref a∧y=.ref b∧SqL X.K H a xs∧SqL X.K H b []∧Q (.bl (!xs.isEmpty)) H):=by
  intro pins s σ H x y v u Q I rx ry h
  obtain ⟨a,b,xs,rfl,rfl,h1,h2,q⟩:=h
  cases xs with
  | nil=>exact op_ne_lst hu pins s σ H _ _ v u Q I rx ry ⟨a,b,[],[],rfl,rfl,h1,h2,rfl,rfl,q⟩
  | cons z zs=>
    cases (show v=Value.ref a from rx)
    cases (show u=Value.ref b from ry)
    obtain ⟨us,r1,l1,_⟩:=I.list h1
    obtain ⟨ws,r2,l2,_⟩:=I.list h2
    have e1:=r1.length
    have e2:=r2.length
    rw [List.length_cons] at e1
    rw [List.length_nil] at e2
    exact SeqAt.RcNeAt.lists_lengths l1.isList l2.isList (by simp;omega) hu _ _ _ _ ⟨.bl _,H,I,rfl,q⟩
end
end L2
namespace L2
open PySem PySem.Spec PyProof.Rows PySem.W
abbrev IsZipB (h:Heap) (z TI TO p:Addr) (b:Bool):Prop:=h.get? z=some { cls:=.type "zip", data:=.fields #[rawInt (p:Int),.bool b,.bool false,.ref TI,.ref TO] }
section
variable {prog:Program} {w:World} {A:Around} {E:Value→Shared→Prop} {s:Shared}
end
def ZSt (κ1 κ2:SK) (z TI TO i1 i2:Addr) (k:Nat) (h:Heap):Prop:=
  ((IsZip h z TI TO .none)∨∃ p b,IsZipB h z TI TO p b∧(∃ o,h.get? p=some o))∧IsPair h TI (.ref i1) (.ref i2)∧(∃ a b,IsPair h TO a b)∧κ1.own i1 k h∧κ2.own i2 k h
theorem ZSt.keep {κ1 κ2:SK} {z TI TO i1 i2:Addr} {k:Nat} {h h':Heap} (x:ZSt κ1 κ2 z TI TO i1 i2 k h) (k1:∀ b∈[z,TI,TO,i1,i2],∀ o,h.get? b=some o→h'.get? b=some o) (k2:∀ b o,h.get? b=some o→∃ o',h'.get? b=some o'):ZSt κ1 κ2 z TI TO i1 i2 k h':=by
  obtain ⟨hz,hTI,⟨a,c,hTO⟩,h1,h2⟩:=x
  refine ⟨?_,k1 TI (by simp) _ hTI,⟨a,c,k1 TO (by simp) _ hTO⟩,SK.own_at h1 fun o q=>k1 i1 (by simp) o q,SK.own_at h2 fun o q=>k1 i2 (by simp) o q⟩
  rcases hz with hz | ⟨p,b,hz,o,hp⟩
  · exact .inl (k1 z (by simp) _ hz)
  · exact .inr ⟨p,b,k1 z (by simp) _ hz,k2 _ _ hp⟩
section
variable {X:Cx} {pins:List (Addr × Obj)} {σ:St} {H:Hp} {s:Shared} {A:Around} {E:Value→Shared→Prop} {κ1 κ2:SK} {z TI TO i1 i2:Addr}
end
def NewTups (H0 H:Hp) (as:List Addr) (xs ys:List V):Prop:=
  as.Nodup∧(∀ b,b ∉ as→H b=H0 b)∧∀ (i:Nat) (a:Addr),as[i]?=some a→H0 a=none∧∃ x y,xs[i]?=some x∧ys[i]?=some y∧H a=some (.tup [x,y])
theorem NewTups.nil {H:Hp} {xs ys:List V}:NewTups H H [] xs ys:=⟨List.nodup_nil,fun _ _=>rfl,fun i a e=>by simp at e⟩
theorem NewTups.same {H0 H:Hp} {as:List Addr} {xs ys:List V} (n:NewTups H0 H as xs ys):Same H0 H:=fun b u e=>by
  have nb:b ∉ as:=fun hb=>by
    obtain ⟨i,hi⟩:=List.getElem?_of_mem hb
    rw [(n.2.2 i b hi).1] at e;cases e
  exact (n.2.1 b nb).trans e
theorem NewTups.push {H0 H:Hp} {as:List Addr} {xs ys:List V} {p:Addr} {x y:V} (n:NewTups H0 H as xs ys) (hp:H p=none) (hx:xs[as.length]?=some x) (hy:ys[as.length]?=some y):NewTups H0 (upd H p (.tup [x,y])) (as++[p]) xs ys:=by
  have np:p ∉ as:=fun hm=>by
    obtain ⟨i,hi⟩:=List.getElem?_of_mem hm
    obtain ⟨_,x,y,_,_,e⟩:=n.2.2 i p hi
    rw [hp] at e;cases e
  refine ⟨List.nodup_append.mpr ⟨n.1,by simp,fun a ha b hb=>by simp at hb;subst hb;exact fun e=>np (e ▸ ha)⟩,fun b hb=>?_,fun i a e=>?_⟩
  · have h1:b ∉ as:=fun q=>hb (by simp [q])
    have h2:b≠p:=fun q=>hb (by simp [q])
    rw [upd_ne h2];exact n.2.1 b h1
  · rcases Nat.lt_or_ge i as.length with q | q
    · rw [List.getElem?_append_left q] at e
      obtain ⟨e1,x,y,e2,e3,e4⟩:=n.2.2 i a e
      exact ⟨e1,x,y,e2,e3,by rw [upd_ne (fun z=>np (by rw [← z];exact List.mem_of_getElem? e))];exact e4⟩
    · have q0:i=as.length:=by
        have:=(List.getElem?_eq_some_iff.mp e).1
        simp at this;omega
      subst q0
      have ea:p=a:=by simpa using e
      subst ea
      exact ⟨by rw [← n.2.1 p np];exact hp,x,y,hx,hy,upd_same⟩
section
variable {X:Cx} {pins:List (Addr × Obj)} {σ:St} {A:Around} {κ1 κ2:SK} {z TI TO i1 i2 S:Addr} {xs ys:List V} {H0:Hp} {res:Value} {R:Result→Shared→Prop} {g0:Array GenState} {d0:Drawn} {o0:OsState}
end
end L2
namespace L2
open PySem PySem.Spec PyProof.Rows PySem.W Tim
section
variable {prog:Program} {w:World} {A:Around} {E:Value→Shared→Prop} {s:Shared}
end
section
variable {X:Cx} {pins:List (Addr × Obj)} {σ:St} {H:Hp} {s:Shared} {A:Around} {E:Value→Shared→Prop} {κ1 κ2:SK} {z TI TO i1 i2:Addr} {xs ys:List V}
theorem ZSt.zip {k:Nat} {h:Heap} (x:ZSt κ1 κ2 z TI TO i1 i2 k h):∃ o,h.get? z=some o∧o.cls=.type "zip" := by
  rcases x.1 with e | ⟨_,_,e,_⟩
  · exact ⟨_,e,rfl⟩
  · exact ⟨_,e,rfl⟩
end
end L2
namespace L2
open PySem PySem.Spec PyProof.Rows PySem.W
def Best (kf:Nat→Int) (b j:Nat):Prop:=b < j∧∀ i,i < j→kf i≤kf b∧(i < b→kf i < kf b)
theorem Best.one (kf:Nat→Int):Best kf 0 1:=⟨by omega,fun i hi=>⟨by rw [show i=0 by omega];exact Int.le_refl _,fun h=>by omega⟩⟩
theorem Best.stay {kf:Nat→Int} {b j:Nat} (h:Best kf b j) (hn:¬ kf b < kf j):Best kf b (j+1):=⟨by have:=h.1;omega,fun i hi=>by
  rcases Nat.lt_or_ge i j with q | q
  · exact h.2 i q
  · have:i=j:=by omega
    subst this
    exact ⟨by omega,fun z=>by have:=h.1;omega⟩⟩
theorem Best.new {kf:Nat→Int} {b j:Nat} (h:Best kf b j) (hn:kf b < kf j):Best kf j (j+1):=⟨by omega,fun i hi=>by
  rcases Nat.lt_or_ge i j with q | q
  · have:=(h.2 i q).1
    exact ⟨by omega,fun _=>by omega⟩
  · have:i=j:=by omega
    subst this
    exact ⟨Int.le_refl _,fun z=>by omega⟩⟩
section
variable {X:Cx} {pins:List (Addr × Obj)} {σ:St}
variable {A:Around} {R:Result→Shared→Prop} {H0:Hp} {a fa S It:Addr} {xs:List V} {kf:Nat→Int}
end
section
variable {X:Cx}
end
end L2
namespace L2
open PySem PySem.Spec PyProof.Rows PySem.W
section
variable {prog:Program} {w:World} {A:Around} {E:Value→Shared→Prop} {s:Shared}
theorem SetA.empty {led:Bool} {h:Heap} {r:Addr} {n:Nat} (x:SetA w led h r [] n):∃ ep t,h.get? r=some { cls:=.type "set", data:=.set #[] ep t }∧SetS w led #[] t []:=by
  obtain ⟨es,ep,t,hg,hS,_⟩:=x
  have:es=#[]:=by
    have e:es.toList=[]:=by
      refine List.eq_nil_iff_forall_not_mem.mpr fun e he=>?_
      have:=(hS.mem (keyOf e)).mp (List.mem_map.mpr ⟨e,he,rfl⟩)
      cases this
    simpa using e
  subst this
  exact ⟨ep,t,hg,hS⟩
end
section
variable {X:Cx}
end
end L2
namespace W7
def chf (ups:List Int):Nat→Nat→List Int
  | 0,_=>[]
  | f+1,k=>if ups.getD k 0 < 0 then [] else ups.getD k 0 :: chf ups f (ups.getD k 0).toNat
theorem chf_fuel {ups:List Int} {lab:List Nat} (t:TreeOk ups lab):∀ (f g k:Nat),k < ups.length→k < f→k < g→chf ups f k=chf ups g k
  | 0,_,_,_,h,_=>absurd h (Nat.not_lt_zero _)
  | _+1,0,_,_,_,h=>absurd h (Nat.not_lt_zero _)
  | f+1,g+1,k,hk,hf,hg=>by
    simp only [chf]
    split
    · rfl
    · rename_i h0
      have:=t.lt hk h0
      congr 1
      exact chf_fuel t f g _ (by omega) (by omega) (by omega)
def chn (ups:List Int) (k:Nat):List Int:=chf ups (k+1) k
theorem chn_eq {ups:List Int} {lab:List Nat} (t:TreeOk ups lab) {k:Nat} (hk:k < ups.length):chn ups k=if ups.getD k 0 < 0 then [] else ups.getD k 0 :: chn ups (ups.getD k 0).toNat:=by
  unfold chn
  rw [chf]
  split
  · rfl
  · rename_i h0
    have:=t.lt hk h0
    congr 1
    exact chf_fuel t _ _ _ (by omega) (by omega) (by omega)
def rst (ups:List Int) (k:Int):List Int:=if k < 0 then [] else k :: chn ups k.toNat
theorem chn_rst {ups:List Int} {lab:List Nat} (t:TreeOk ups lab) {k:Nat} (hk:k < ups.length):chn ups k=rst ups (ups.getD k 0):=by
  rw [chn_eq t hk];rfl
theorem rst_step {ups:List Int} {lab:List Nat} (t:TreeOk ups lab) {k:Int} (h0:0≤k) (hk:k < (ups.length:Int)):rst ups k=k :: rst ups (ups.getD k.toNat 0):=by
  have:=chn_rst t (k:=k.toNat) (by omega)
  unfold rst
  rw [if_neg (by omega),this]
  rfl
theorem chn_mem {ups:List Int} {lab:List Nat} (t:TreeOk ups lab):∀ (n k:Nat),k < n→k < ups.length→(chn ups k).length≤k∧∀ v∈chn ups k,0≤v∧v < (k:Int)
  | 0,_,h,_=>absurd h (Nat.not_lt_zero _)
  | n+1,k,hn,hk=>by
    rw [chn_eq t hk]
    split
    · exact ⟨Nat.zero_le _,fun v hv=>nomatch hv⟩
    · rename_i h0
      have lt:=t.lt hk h0
      obtain ⟨i1,i2⟩:=chn_mem t n (ups.getD k 0).toNat (by omega) (by omega)
      refine ⟨by rw [List.length_cons];omega,fun v hv=>?_⟩
      rcases List.mem_cons.mp hv with e | e
      · omega
      · have:=i2 v e;omega
end W7
namespace W03
structure Pre (n:Nat) (c:Nat→List Nat):Prop where
  root:c 0=[]
  step:∀ k,0 < k→k < n→c k=(k - 1) :: c (k - 1)∨∃ m,c k=(c (k - 1)).drop m
  ne:∀ k,0 < k→k < n→c k≠[]
  self:∀ k,k < n→∀ v r,c k=v :: r→v < k∧r=c v
section
variable {n:Nat} {c:Nat→List Nat} {l:Nat→Nat}
theorem mem_split (p:Pre n c):∀ (f j:Nat),j < f→j < n→∀ v∈c j,∃ q,c j=q++v :: c v
  | 0,j,h,_,_,_=>absurd h (Nat.not_lt_zero _)
  | f+1,j,h,hj,v,hv=>by
    cases e:c j with
    | nil=>rw [e] at hv;cases hv
    | cons u r=>
      obtain ⟨lt,rfl⟩:=p.self j hj u r e
      rw [e] at hv
      rcases List.mem_cons.mp hv with rfl | hv
      · exact ⟨[],rfl⟩
      · obtain ⟨q,eq⟩:=mem_split p f u (by omega) (by omega) v hv
        exact ⟨u :: q,by rw [eq];rfl⟩
theorem mem_lt (p:Pre n c):∀ (f j:Nat),j < f→j < n→∀ v∈c j,v < j
  | 0,j,h,_,_,_=>absurd h (Nat.not_lt_zero _)
  | f+1,j,h,hj,v,hv=>by
    cases e:c j with
    | nil=>rw [e] at hv;cases hv
    | cons u r=>
      obtain ⟨lt,rfl⟩:=p.self j hj u r e
      rw [e] at hv
      rcases List.mem_cons.mp hv with rfl | hv
      · exact lt
      · have:=mem_lt p f u (by omega) (by omega) v hv
        omega
theorem below (p:Pre n c) {e:Nat} (he:e < n):∀ j,e < j→j < n→(∀ i,e < i→i≤j→(c e).length < (c i).length)→∃ q,c j=q++e :: c e:=by
  intro j
  induction j with
  | zero=>intro h;omega
  | succ j ih=>
    intro h1 h2 h3
    have d1:=h3 (j+1) h1 (Nat.le_refl _)
    rcases Nat.lt_or_ge e j with g | g
    · obtain ⟨q,eq⟩:=ih g (by omega) fun i a b=>h3 i a (by omega)
      rcases p.step (j+1) (by omega) h2 with s | ⟨m,s⟩
      · rw [Nat.add_sub_cancel] at s
        exact ⟨j :: q,by rw [s,eq];rfl⟩
      · rw [Nat.add_sub_cancel,eq] at s
        rw [s,List.length_drop,List.length_append,List.length_cons] at d1
        refine ⟨q.drop m,?_⟩
        rw [s,List.drop_append_of_le_length (by omega)]
    · have:e=j:=by omega
      subst this
      rcases p.step (e+1) (by omega) h2 with s | ⟨m,s⟩
      · rw [Nat.add_sub_cancel] at s
        exact ⟨[],s⟩
      · rw [Nat.add_sub_cancel] at s
        rw [s,List.length_drop] at d1
        omega
theorem beyond (p:Pre n c) {k e:Nat} (hk:k < e) (he:e < n) (hd:(c e).length≤(c k).length):∀ j,e≤j→j < n→k ∉ c j:=by
  intro j
  induction j with
  | zero=>intro h;omega
  | succ j ih=>
    intro h1 h2 hm
    rcases Nat.lt_or_ge e (j+1) with g | g
    · have no:=ih (by omega) (by omega)
      rcases p.step (j+1) (by omega) h2 with s | ⟨m,s⟩
      · rw [Nat.add_sub_cancel] at s
        rw [s] at hm
        rcases List.mem_cons.mp hm with z | z
        · omega
        · exact no z
      · rw [Nat.add_sub_cancel] at s
        rw [s] at hm
        exact no (List.mem_of_mem_drop hm)
    · have:e=j+1:=by omega
      subst this
      obtain ⟨q,eq⟩:=mem_split p (j+2) (j+1) (by omega) h2 k hm
      rw [eq,List.length_append,List.length_cons] at hd
      omega
theorem fm_congr {f g:Nat→List Nat}:∀ l:List Nat,(∀ x∈l,f x=g x)→l.flatMap f=l.flatMap g
  | [],_=>rfl
  | x :: l,h=>by rw [List.flatMap_cons,List.flatMap_cons,h x List.mem_cons_self,fm_congr l fun y hy=>h y (List.mem_cons_of_mem _ hy)]
def up (c:Nat→List Nat) (j:Nat):Option Nat:=(c j).head?
def kidsF (n:Nat) (c:Nat→List Nat) (k j:Nat):List Nat:=(List.range' j (n - j)).filter fun i=>decide (up c i=some k)
theorem kids_no {k j e:Nat} (hje:j≤e) (he:e≤n) (h:∀ i,j≤i→i < e→up c i≠some k):kidsF n c k j=kidsF n c k e:=by
  unfold kidsF
  have ej:n - j=(e - j)+(n - e):=by omega
  rw [ej,← List.range'_append_1,List.filter_append,show j+(e - j)=e by omega]
  have:(List.range' j (e - j)).filter (fun i=>decide (up c i=some k))=[]:=by
    rw [List.filter_eq_nil_iff]
    intro i hi
    have:=List.mem_range'_1.mp hi
    simpa using h i this.1 (by omega)
  rw [this,List.nil_append]
theorem kids_one {k j:Nat} (hj:j < n) (h:up c j=some k):kidsF n c k j=j :: kidsF n c k (j+1):=by
  unfold kidsF
  rw [show n - j=(n - (j+1))+1 by omega,List.range'_succ,List.filter_cons,if_pos (decide_eq_true h)]
theorem kids_end (k:Nat):kidsF n c k n=[]:=by
  unfold kidsF;rw [Nat.sub_self];rfl
def wrap (u:List Nat):List Nat:=if u=[] then [] else 40 :: u++[41]
def F (n:Nat) (c:Nat→List Nat) (l:Nat→Nat):Nat→Nat→List Nat
  | 0,_=>[]
  | f+1,k=>l k :: wrap ((kidsF n c k (k+1)).flatMap (F n c l f))
theorem F_fuel:∀ (f g k:Nat),k < n→n - k≤f→n - k≤g→F n c l f k=F n c l g k
  | 0,g,k,h,h1,_=>by omega
  | f+1,0,k,h,_,h2=>by omega
  | f+1,g+1,k,h,h1,h2=>by
    show l k :: wrap _=l k :: wrap _
    congr 2
    have:∀ i∈kidsF n c k (k+1),F n c l f i=F n c l g i:=fun i hi=>by
      have:=List.mem_range'_1.mp (List.mem_filter.mp hi).1
      exact F_fuel f g i (by omega) (by omega) (by omega)
    exact fm_congr _ this
def Ft (n:Nat) (c:Nat→List Nat) (l:Nat→Nat) (k:Nat):List Nat:=F n c l (n - k) k
theorem Ft_eq {k:Nat} (hk:k < n):Ft n c l k=l k :: wrap ((kidsF n c k (k+1)).flatMap (Ft n c l)):=by
  unfold Ft
  rw [show n - k=(n - k - 1)+1 by omega]
  show l k :: wrap _=l k :: wrap _
  congr 2
  refine fm_congr _ fun i hi=>?_
  have:=List.mem_range'_1.mp (List.mem_filter.mp hi).1
  exact F_fuel _ _ i (by omega) (by omega) (by omega)
def br (a b:Nat):List Nat:=if b > a then [40] else List.replicate (a - b) 41
def S (n:Nat) (c:Nat→List Nat) (l:Nat→Nat):Nat→List Nat
  | 0=>[]
  | r+1=>l (n - (r+1)) :: (if 0 < r then br (c (n - (r+1))).length (c (n - r)).length++S n c l r else List.replicate (c (n - (r+1))).length 41)
def Sfx (n:Nat) (c:Nat→List Nat) (l:Nat→Nat) (k:Nat):List Nat:=S n c l (n - k)
theorem Sfx_eq {k:Nat} (hk:k < n):Sfx n c l k=l k :: (if k+1 < n then br (c k).length (c (k+1)).length++Sfx n c l (k+1) else List.replicate (c k).length 41):=by
  unfold Sfx
  have e:n - k=(n - (k+1))+1:=by omega
  rw [e]
  show l (n - (n - (k+1)+1)) :: _=_
  rw [← e,show n - (n - k)=k by omega,show n - (n - (k+1))=k+1 by omega]
  by_cases h:k+1 < n
  · rw [if_pos h,if_pos (by omega)]
  · rw [if_neg h,if_neg (by omega)]
def Rest (n:Nat) (c:Nat→List Nat) (l:Nat→Nat) (e x:Nat):List Nat:=if e < n then List.replicate (x - (c e).length) 41++Sfx n c l e else List.replicate x 41
theorem Ft_ne {k:Nat} (hk:k < n):Ft n c l k≠[]:=by rw [Ft_eq hk];simp
theorem up_lt (p:Pre n c) {i k:Nat} (hi:i < n) (h:up c i=some k):c i=k :: c k:=by
  unfold up at h
  cases e:c i with
  | nil=>rw [e] at h;cases h
  | cons u r=>
    rw [e] at h
    cases h
    rw [(p.self i hi _ r e).2]
theorem kidsL (p:Pre n c) {k:Nat} (hk:k < n) (ih:∀ j,k < j→j < n→∃ e,j < e∧e≤n∧(∀ i,j < i→i < e→(c j).length < (c i).length)∧(e=n∨(c e).length≤(c j).length)∧Sfx n c l j=Ft n c l j++Rest n c l e (c j).length) :
    ∀ (f j:Nat),n - j≤f→k < j→j < n→up c j=some k→∃ e,j < e∧e≤n∧(∀ i,j≤i→i < e→(c k).length < (c i).length)∧(e=n∨(c e).length≤(c k).length)∧Sfx n c l j=(kidsF n c k j).flatMap (Ft n c l)++41 :: Rest n c l e (c k).length
  | 0,j,h,_,hj,_=>by omega
  | f+1,j,h,hkj,hj,hu=>by
    obtain ⟨e1,a1,a2,a3,a4,a5⟩:=ih j hkj hj
    have cj:=up_lt p hj hu
    have dj:(c j).length=(c k).length+1:=by rw [cj];rfl
    have noK:∀ i,j+1≤i→i < e1→up c i≠some k:=fun i h1 h2 hk'=>by
      have ci:=up_lt p (by omega) hk'
      obtain ⟨q,eq⟩:=below p hj i (by omega) (by omega) fun i' b1 b2=>a3 i' b1 (by omega)
      rw [ci] at eq
      cases q with
      | nil=>injection eq with e' _;omega
      | cons u q=>
        injection eq with _ e'
        have:j∈c k:=by rw [e'];simp
        have:=mem_lt p (k+1) k (by omega) hk j this
        omega
    have kd:kidsF n c k j=j :: kidsF n c k e1:=by rw [kids_one hj hu,kids_no (by omega) a2 noK]
    rw [dj] at a5
    rcases Nat.lt_or_ge e1 n with g | g
    · have de:=a4.resolve_left (by omega)
      rcases Nat.lt_or_ge (c k).length (c e1).length with g2 | g2
      · have d1:(c e1).length=(c j).length:=by omega
        have ce:c e1=c j:=by
          obtain ⟨q,eq⟩:∃ q,c (e1 - 1)=q++c j:=by
            rcases Nat.lt_or_ge j (e1 - 1) with w | w
            · obtain ⟨q,eq⟩:=below p hj (e1 - 1) w (by omega) fun i b1 b2=>a3 i b1 (by omega)
              exact ⟨q++[j],by rw [eq];simp⟩
            · exact ⟨[],by rw [show e1 - 1=j by omega];rfl⟩
          rcases p.step e1 (by omega) g with s | ⟨m,s⟩
          · rw [s,List.length_cons,eq,List.length_append] at d1
            omega
          · rw [eq] at s
            have dl:=d1
            rw [s,List.length_drop,List.length_append] at dl
            rw [s,List.drop_append_of_le_length (by omega),List.drop_eq_nil_of_le (by omega),List.nil_append]
        have ue:up c e1=some k:=by unfold up;rw [ce];exact hu
        obtain ⟨e,b1,b2,b3,b4,b5⟩:=kidsL p hk ih f e1 (by omega) (by omega) g ue
        refine ⟨e,by omega,b2,fun i h1 h2=>?_,b4,?_⟩
        · rcases Nat.lt_or_ge i e1 with w | w
          · rcases Nat.lt_or_ge j i with w2 | w2
            · have:=a3 i w2 w;omega
            · have:i=j:=by omega
              subst this;omega
          · exact b3 i w h2
        · rw [a5,kd,List.flatMap_cons,List.append_assoc]
          congr 1
          unfold Rest
          rw [if_pos g,show (c k).length+1 - (c e1).length=0 by omega]
          show Sfx n c l e1=_
          rw [b5];rfl
      · refine ⟨e1,a1,a2,fun i h1 h2=>?_,.inr g2,?_⟩
        · rcases Nat.lt_or_ge j i with w2 | w2
          · have:=a3 i w2 h2;omega
          · have:i=j:=by omega
            subst this;omega
        · have no:kidsF n c k e1=[]:=by
            rw [kids_no (e:=n) a2 (Nat.le_refl _) fun i h1 h2 hk'=>beyond p (by omega) g g2 i h1 h2 (by rw [up_lt p h2 hk'];exact List.mem_cons_self),kids_end]
          rw [a5,kd,no,List.flatMap_cons,List.flatMap_nil,List.append_nil]
          congr 1
          unfold Rest
          rw [if_pos g,if_pos g,show (c k).length+1 - (c e1).length=((c k).length - (c e1).length)+1 by omega,List.replicate_succ]
          rfl
    · have:e1=n:=by omega
      subst this
      refine ⟨e1,a1,a2,fun i h1 h2=>?_,.inl rfl,?_⟩
      · rcases Nat.lt_or_ge j i with w2 | w2
        · have:=a3 i w2 h2;omega
        · have:i=j:=by omega
          subst this;omega
      · rw [a5,kd,kids_end,List.flatMap_cons,List.flatMap_nil,List.append_nil]
        congr 1
        unfold Rest
        rw [if_neg (Nat.lt_irrefl _),if_neg (Nat.lt_irrefl _),List.replicate_succ]
theorem main (p:Pre n c):∀ (f k:Nat),n - k≤f→k < n→∃ e,k < e∧e≤n∧(∀ i,k < i→i < e→(c k).length < (c i).length)∧(e=n∨(c e).length≤(c k).length)∧Sfx n c l k=Ft n c l k++Rest n c l e (c k).length
  | 0,k,h,hk=>by omega
  | f+1,k,h,hk=>by
    have ih:∀ j,k < j→j < n→_:=fun j h1 h2=>main p f j (by omega) h2
    rw [Sfx_eq hk]
    by_cases h1:k+1 < n
    · rw [if_pos h1]
      rcases Nat.lt_or_ge (c k).length (c (k+1)).length with g | g
      · have ck:c (k+1)=k :: c k:=by
          rcases p.step (k+1) (by omega) h1 with s | ⟨m,s⟩
          · rw [Nat.add_sub_cancel] at s;exact s
          · rw [Nat.add_sub_cancel] at s
            rw [s,List.length_drop] at g
            omega
        have uk:up c (k+1)=some k:=by unfold up;rw [ck];rfl
        obtain ⟨e,b1,b2,b3,b4,b5⟩:=kidsL p hk ih (n - (k+1)) (k+1) (Nat.le_refl _) (by omega) h1 uk
        refine ⟨e,by omega,b2,fun i x1 x2=>b3 i (by omega) x2,b4,?_⟩
        rw [Ft_eq hk]
        have ne:(kidsF n c k (k+1)).flatMap (Ft n c l)≠[]:=by
          rw [kids_one h1 uk,List.flatMap_cons]
          intro z
          exact Ft_ne h1 (List.append_eq_nil_iff.mp z).1
        unfold wrap br
        rw [if_neg ne,if_pos g,b5]
        simp
      · refine ⟨k+1,by omega,by omega,fun i x1 x2=>by omega,.inr g,?_⟩
        have no:kidsF n c k (k+1)=[]:=by
          rw [kids_no (e:=n) (by omega) (Nat.le_refl _) fun i x1 x2 hk'=>beyond p (by omega) h1 g i x1 x2 (by rw [up_lt p x2 hk'];exact List.mem_cons_self),kids_end]
        rw [Ft_eq hk,no,List.flatMap_nil]
        unfold wrap br Rest
        rw [if_pos rfl,if_neg (by omega),if_pos h1]
        rfl
    · rw [if_neg h1]
      refine ⟨n,hk,Nat.le_refl _,fun i x1 x2=>by omega,.inl rfl,?_⟩
      have no:kidsF n c k (k+1)=[]:=by rw [show k+1=n by omega,kids_end]
      rw [Ft_eq hk,no,List.flatMap_nil]
      unfold wrap Rest
      rw [if_pos rfl,if_neg (Nat.lt_irrefl _)]
      rfl
end
end W03
namespace W57
open PySem L2 W7 W55
theorem btw:∀ (a x:List Nat) (c:Nat),a < x→x < a++[c]→∃ t,t≠[]∧x=a++t
  | [],x,c,h,_=>⟨x,fun e=>by rw [e] at h;exact absurd h (List.lt_irrefl _),rfl⟩
  | y :: a,[],c,h,_=>absurd h (List.not_lt_nil _)
  | y :: a,z :: x,c,h1,h2=>by
    rw [List.cons_lt_cons_iff] at h1
    rw [List.cons_append,List.cons_lt_cons_iff] at h2
    have e:y=z∧a < x∧x < a++[c]:=by
      rcases h1 with h1 | ⟨e,h1⟩
      · rcases h2 with h2 | ⟨e,_⟩ <;> omega
      · rcases h2 with h2 | ⟨_,h2⟩
        · omega
        · exact ⟨e,h1,h2⟩
    obtain ⟨rfl,e1,e2⟩:=e
    obtain ⟨t,t0,et⟩:=btw a x c e1 e2
    exact ⟨t,t0,by rw [et];rfl⟩
theorem last_lt:∀ (f:List Nat) (a b:Nat),f++[a] < f++[b]→a < b
  | [],a,b,h=>by
    rw [List.nil_append,List.nil_append,List.cons_lt_cons_iff] at h
    rcases h with h | ⟨_,h⟩
    · exact h
    · exact absurd h (List.lt_irrefl _)
  | x :: f,a,b,h=>by
    rw [List.cons_append,List.cons_append,List.cons_lt_cons_iff] at h
    rcases h with h | ⟨_,h⟩
    · omega
    · exact last_lt f a b h
section
variable {us:List Str}
theorem at_up (k:Nat) (hk:k < us.length):(trUps us).getD k 0=trUp us us[k]:=by
  unfold trUps
  rw [List.getD_eq_getElem?_getD,List.getElem?_map,List.getElem?_eq_getElem hk];rfl
theorem at_lab (k:Nat) (hk:k < us.length):(trLab us).getD k 0=us[k].cps.toList.getLastD 0:=by
  unfold trLab
  rw [List.getD_eq_getElem?_getD,List.getElem?_map,List.getElem?_eq_getElem hk];rfl
theorem ups_len:(trUps us).length=us.length:=List.length_map _
variable (cl:Cl us) (srt:us.Pairwise (fun a b=>a.cps.toList < b.cps.toList)) (h0:us≠[]) (h60:us.length≤60)
include cl srt h0 h60
theorem up_at {k:Nat} (k0:0 < k) (hk:k < us.length):∃ (j:Nat) (hj:j < us.length),j < k∧(trUps us).getD k 0=(j:Int)∧us[j]=front us[k]:=by
  have ok:=tree_ok cl srt h0 h60
  have u:=ok.up k k0 (by rw [ups_len];exact hk)
  rw [at_up k hk] at u ⊢
  unfold trUp at u ⊢
  by_cases c:us.idxOf (front us[k]) < us.length
  · rw [if_pos c] at u ⊢
    exact ⟨_,c,by omega,rfl,List.getElem_idxOf c⟩
  · rw [if_neg c] at u;omega
theorem one0:(us[0]'(List.length_pos_iff.mpr h0)).cps.toList.length=1:=by
  have lp:0 < us.length:=List.length_pos_iff.mpr h0
  have ok:=tree_ok cl srt h0 h60
  have r:=ok.root
  rw [at_up 0 lp] at r
  have ne:=List.length_pos_iff.mpr (cl.ne _ (List.getElem_mem lp))
  rcases Nat.lt_or_ge 1 (us[0]'lp).cps.toList.length with h | h
  · have m:=cl.fr _ (List.getElem_mem lp) h
    unfold trUp at r
    rw [if_pos (List.idxOf_lt_length_of_mem m)] at r
    omega
  · omega
theorem back (z:Str) (h:z.cps.toList≠[]):z.cps.toList=(front z).cps.toList++[z.cps.toList.getLastD 0]:=by
  have e:=(List.dropLast_concat_getLast h).symm
  have l:z.cps.toList.getLastD 0=z.cps.toList.getLast h:=by
    rw [List.getLastD_eq_getLast?,List.getLast?_eq_some_getLast h];rfl
  rw [l];exact e
theorem pre_chn:∀ (n j:Nat),j < n→∀ (hj:j < us.length) (p:Nat) (hp:p < us.length) (t:List Nat),t≠[]→us[j].cps.toList=us[p].cps.toList++t→(p:Int)∈chn (trUps us) j
  | 0,_,h,_,_,_,_,_,_=>absurd h (Nat.not_lt_zero _)
  | n+1,j,hn,hj,p,hp,t,t0,e=>by
    have ok:=tree_ok cl srt h0 h60
    have pne:=List.length_pos_iff.mpr (cl.ne _ (List.getElem_mem hp))
    have tl:=List.length_pos_iff.mpr t0
    have j0:0 < j:=by
      rcases Nat.eq_zero_or_pos j with z | z
      · subst z
        have:=one0 cl srt h0 h60
        rw [e,List.length_append] at this
        omega
      · exact z
    obtain ⟨i,hi,ij,eu,ei⟩:=up_at cl srt h0 h60 j0 hj
    rw [chn_eq ok (by rw [ups_len];exact hj),eu,if_neg (by omega),Int.toNat_natCast]
    have ef:us[i].cps.toList=us[p].cps.toList++t.dropLast:=by
      rw [ei]
      show us[j].cps.toList.dropLast=_
      rw [e,List.dropLast_append_of_ne_nil t0]
    by_cases td:t.dropLast=[]
    · have:i=p:=by
        rw [td,List.append_nil] at ef
        rcases Nat.lt_trichotomy i p with z | z | z
        · have:=List.pairwise_iff_getElem.mp srt i p hi hp z
          rw [ef] at this;exact absurd this (List.lt_irrefl _)
        · exact z
        · have:=List.pairwise_iff_getElem.mp srt p i hp hi z
          rw [ef] at this;exact absurd this (List.lt_irrefl _)
      rw [this];exact List.mem_cons_self
    · exact List.mem_cons_of_mem _ (pre_chn n i (by omega) hi p hp _ td ef)
theorem road {k:Nat} (k0:0 < k) (hk:k < us.length):(trUps us).getD k 0=((k - 1:Nat):Int)∨(trUps us).getD k 0∈chn (trUps us) (k - 1):=by
  obtain ⟨j,hj,jk,eu,ej⟩:=up_at cl srt h0 h60 k0 hk
  rw [eu]
  rcases Nat.eq_or_lt_of_le (show j≤k - 1 by omega) with z | z
  · left;rw [z]
  · right
    have l1:=List.pairwise_iff_getElem.mp srt j (k - 1) hj (by omega) z
    have l2:=List.pairwise_iff_getElem.mp srt (k - 1) k (by omega) hk (by omega)
    rw [back cl srt h0 h60 us[k] (cl.ne _ (List.getElem_mem hk)),← ej] at l2
    obtain ⟨t,t0,et⟩:=btw _ _ _ l1 l2
    exact pre_chn cl srt h0 h60 (k - 1+1) (k - 1) (Nat.lt_succ_self _) (by omega) j hj t t0 et
theorem ways:∀ (n j:Nat),j < n→∀ hj:j < us.length,(W (trUps us) (trLab us) j).reverse=us[j].cps.toList
  | 0,_,h,_=>absurd h (Nat.not_lt_zero _)
  | n+1,j,hn,hj=>by
    have ok:=tree_ok cl srt h0 h60
    rw [W_eq ok (by rw [ups_len];exact hj),List.reverse_cons,at_lab j hj]
    rcases Nat.eq_zero_or_pos j with z | z
    · subst z
      rw [ok.root,if_pos (by decide)]
      have l:=one0 cl srt h0 h60
      generalize (us[0]'hj).cps.toList=l0 at l
      match l0,l with
      | [x],_=>rfl
    · obtain ⟨i,hi,ij,eu,ei⟩:=up_at cl srt h0 h60 z hj
      rw [eu,if_neg (by omega),Int.toNat_natCast,ways n i (by omega) hi,ei]
      exact (back cl srt h0 h60 us[j] (cl.ne _ (List.getElem_mem hj))).symm
theorem rise {k k':Nat} (kk:k < k') (k0:0 < k) (hk:k' < us.length) (e:(trUps us).getD k 0=(trUps us).getD k' 0):(trLab us).getD k 0 < (trLab us).getD k' 0:=by
  obtain ⟨i,hi,_,eu,ei⟩:=up_at cl srt h0 h60 k0 (show k < us.length by omega)
  obtain ⟨i',hi',_,eu',ei'⟩:=up_at cl srt h0 h60 (show 0 < k' by omega) hk
  have ii:i=i':=by rw [eu,eu'] at e;omega
  subst ii
  have ef:front us[k]=front us[k']:=ei.symm.trans ei'
  have l:=List.pairwise_iff_getElem.mp srt k k' (by omega) hk kk
  rw [back cl srt h0 h60 us[k] (cl.ne _ (List.getElem_mem _)),back cl srt h0 h60 us[k'] (cl.ne _ (List.getElem_mem _)),ef] at l
  rw [at_lab k (by omega),at_lab k' hk]
  exact last_lt _ _ _ l
end
end W57
namespace L2
section
variable {NL:List PySem.Str} {ix:List Nat} {g:TG} {tt:TT} {te:TE} {σ:St} {H1:Hp} {Qs:Hp→Prop} {acc:PySem.Addr}
theorem comp_tupl {K:PySem.W.Frag} {a:PySem.Addr} {xs:List V} (hn:xs.length < 1000) (Pv:Nat→List V→Hp→Prop)
    (hl:∀ i ys H2,Pv i ys H2→SqT K H2 a xs) (hacc:∀ i ys H2,Pv i ys H2→H2 acc=some (.lst ys)∧ys.length≤i) (h0:Pv 0 [] (upd H1 acc (.lst []))) (hstop:∀ ys H2,Pv xs.length ys H2→Qs H2)
    (hturn:∀ i x ys H2,xs[i]?=some x→Pv i ys H2→g x (comp0 NL ix σ) H2 fun σ' H4=>σ'.drop NL.length=ix.map (fun j=>σ.getD j none)∧tt σ' H4 fun b H5=>
      if b=true then te σ' H5 fun v H6=>H6 acc=some (.lst ys)∧Pv (i+1) (ys++[v]) (upd H6 acc (.lst (ys++[v]))) else Pv (i+1) ys H5) :
    ∃ W:Nat→Nat→List V→Hp→Prop,(∃ m,W 0 m [] (upd H1 acc (.lst []))) ∧
    ∀ i m ys H2,W i m ys H2→H2 acc=some (.lst ys)∧ys.length < PySem.sizeLine ∧
      (((Itt K a).stop i H2∧Qs H2)∨((Itt K a).go i H2∧∃ N:List V→Hp→Prop,(∀ ys' H',N ys' H'→∃ m',m' < m∧W (i+1) m' ys' H') ∧
        ∀ x H3,(Itt K a).yld i H2 x H3→g x (comp0 NL ix σ) H3 fun σ' H4=>σ'.drop NL.length=ix.map (fun j=>σ.getD j none)∧tt σ' H4 fun b H5=>
          if b=true then te σ' H5 fun v H6=>H6 acc=some (.lst ys)∧N (ys++[v]) (upd H6 acc (.lst (ys++[v]))) else N ys H5)):=by
  refine comp_by xs.length hn Pv hacc h0 (fun ys H2 hp=>⟨⟨xs,hl _ _ _ hp,Nat.le_refl _⟩,hstop ys H2 hp⟩) fun i ys H2 hi hp=>?_
  have hs:=hl _ _ _ hp
  refine ⟨⟨xs,xs[i],hs,List.getElem?_eq_getElem hi⟩,?_⟩
  rintro x H3 ⟨rfl,hx⟩
  exact hturn i x ys H3 (hx xs hs) hp
end
end L2
namespace S53.R
open PySem L2 W7
abbrev natV (l:List Nat):List V:=l.map fun i:Nat=>V.int (i:Int)
theorem natV_ints (l:List Nat):natV l=(l.map fun i:Nat=>(i:Int)).map V.int:=by unfold natV;rw [List.map_map];rfl
theorem bt_all:bootBuiltins "all" = some (.builtin "all"):=by decide +kernel
theorem iteB {c:Bool} {A B:Prop} (h:c=true) (q:A):if c=true then A else B:=by rw [if_pos h];exact q
theorem in_letters {c:Nat} (h:Lw c):(!(Builtin.Str.occurrences (Str.ofString "abcdefghijklmnopqrstuvwxyz") (mk [c]) 0 (Str.ofString "abcdefghijklmnopqrstuvwxyz").length 1).isEmpty)=true:=by
  have all:∀ c:Nat,c < 123→97≤c→(!(Builtin.Str.occurrences (Str.ofString "abcdefghijklmnopqrstuvwxyz") (mk [c]) 0 (Str.ofString "abcdefghijklmnopqrstuvwxyz").length 1).isEmpty)=true:=by decide +kernel
  unfold Lw at h
  exact all c (by omega) (by omega)
theorem iteN {c:Bool} {A B:Prop} (h:c=false) (q:B):if c=true then A else B:=by rw [h];exact iteF q
section
variable {P:Program} {w:World} {K:PySem.W.Frag} {mg:Str→Option Value} {base:Heap} {k:Nat}
def stepUp (us:List Int) (p:Int):Int:=if us.getD p.toNat 0 > 0 then us.getD p.toNat 0 else 0
def climb (us:List Int):Nat→Int→Int
  | 0,p=>p
  | n+1,p=>stepUp us (climb us n p)
structure GrOk (us:List Int):Prop where
  road:∀ k,0 < k→k < us.length→∃ n,climb us n ((k:Int) - 1)=us.getD k 0
  pos:0 < us.length
  root:us.getD 0 0=-1
  up:∀ k,0 < k→k < us.length→0≤us.getD k 0∧us.getD k 0 < (k:Int)
theorem getD_app {us vs:List Int} {j:Nat}:(us++vs).getD j 0=if j < us.length then us.getD j 0 else vs.getD (j - us.length) 0:=by
  simp only [List.getD_eq_getElem?_getD]
  split
  · rename_i h;rw [List.getElem?_append_left h]
  · rename_i h;rw [List.getElem?_append_right (by omega)]
theorem GrOk.climb {us:List Int} (g:GrOk us) (v:Int) {p:Int} (h0:0≤p) (h1:p < (us.length:Int)):∀ n,climb (us++[v]) n p=climb us n p∧0≤climb us n p∧climb us n p < (us.length:Int)
  | 0=>⟨rfl,h0,h1⟩
  | n+1=>by
    obtain ⟨a,b,c⟩:=g.climb v h0 h1 n
    have lt:(S53.R.climb us n p).toNat < us.length:=by omega
    have e:(us++[v]).getD (S53.R.climb us n p).toNat 0=us.getD (S53.R.climb us n p).toNat 0:=by rw [getD_app,if_pos lt]
    refine ⟨?_,?_⟩
    · show stepUp (us++[v]) (S53.R.climb (us++[v]) n p)=stepUp us (S53.R.climb us n p)
      rw [a];unfold stepUp;rw [e]
    · show 0≤stepUp us (S53.R.climb us n p)∧stepUp us (S53.R.climb us n p) < (us.length:Int)
      have pos:=g.pos
      unfold stepUp
      rcases Nat.eq_zero_or_pos (S53.R.climb us n p).toNat with z | z
      · rw [z,g.root];exact ⟨by decide,by show (0:Int) < _;omega⟩
      · have:=g.up _ z lt
        split <;> omega
theorem GrOk.snoc {us:List Int} (g:GrOk us) {v:Int} (h0:0≤v) (h1:v < (us.length:Int)) (hr:∃ n,S53.R.climb us n ((us.length:Int) - 1)=v):GrOk (us++[v]) where
  road:=fun j hj hl=>by
    rw [List.length_append,List.length_singleton] at hl
    rw [getD_app]
    have pos:=g.pos
    split
    · rename_i h
      obtain ⟨n,e⟩:=g.road j hj h
      exact ⟨n,((g.climb v (by omega) (by omega) n).1).trans e⟩
    · rename_i h
      have e:j=us.length:=by omega
      subst e
      obtain ⟨n,e⟩:=hr
      rw [Nat.sub_self]
      exact ⟨n,((g.climb v (by omega) (by omega) n).1).trans e⟩
  pos:=by rw [List.length_append];have:=g.pos;omega
  root:=by rw [getD_app,if_pos g.pos];exact g.root
  up:=fun j hj hl=>by
    rw [List.length_append,List.length_singleton] at hl
    rw [getD_app]
    split
    · rename_i h;exact g.up j hj h
    · rename_i h
      have e:j=us.length:=by omega
      subst e
      rw [Nat.sub_self]
      exact ⟨h0,h1⟩
theorem GrOk.one:GrOk [-1]:=⟨fun j h0 h1=>by
  have:j < 1:=h1
  omega,by decide,rfl,fun j h0 h1=>by
  have:j < 1:=h1
  omega⟩
theorem mem_getD {us:List Int} {j:Nat} (h:j < us.length):us.getD j 0∈us:=by
  rw [List.getD_eq_getElem?_getD,List.getElem?_eq_getElem h]
  exact List.getElem_mem h
theorem gr_tree {us:List Int} {ls:List Nat} (g:GrOk us) (hl:us.length=ls.length) (h60:us.length≤60):TreeOk us (mk ls).cps.toList:=⟨by rw [mk_cps];exact hl,g.pos,h60,g.root,g.up⟩
structure Fine (ups:List Int) (lab:Str):Prop where
  low:∀ c∈lab.cps.toList,Lw c
  road:∀ k,0 < k→k < ups.length→∃ n,climb ups n ((k:Int) - 1)=ups.getD k 0
end
section
variable {ups:List Int} {lab:List Nat}
theorem chn_trans (t:TreeOk ups lab):∀ (n k:Nat),k < n→k < ups.length→∀ v∈chn ups k,∀ w∈chn ups v.toNat,w∈chn ups k
  | 0,_,h,_,_,_,_,_=>absurd h (Nat.not_lt_zero _)
  | n+1,k,hn,hk,v,hv,w,hw=>by
    rw [chn_eq t hk] at hv ⊢
    split at hv
    · cases hv
    · rename_i h0
      rw [if_neg h0]
      have lt:=t.lt hk h0
      rcases List.mem_cons.mp hv with e | e
      · rw [e] at hw;exact List.mem_cons_of_mem _ hw
      · exact List.mem_cons_of_mem _ (chn_trans t n _ (by omega) (by omega) v e w hw)
theorem road_mem (t:TreeOk ups lab) {k:Nat} (hk:k < ups.length):∀ n,climb ups n (k:Int)=(k:Int)∨climb ups n (k:Int)∈chn ups k
  | 0=>.inl rfl
  | n+1=>by
    have step:∀ c:Nat,c < ups.length→stepUp ups (c:Int)=(c:Int)∨stepUp ups (c:Int)∈chn ups c:=fun c hc=>by
      rcases Nat.eq_zero_or_pos c with z | z
      · left;subst z;unfold stepUp;show (if ups.getD 0 0 > 0 then ups.getD 0 0 else 0)=0;rw [t.root];rfl
      · right
        have u:=t.up c z hc
        rw [chn_eq t hc,if_neg (by omega)]
        have e:stepUp ups (c:Int)=ups.getD c 0:=by
          unfold stepUp;rw [Int.toNat_natCast];split <;> omega
        rw [e];exact List.mem_cons_self ..
    show stepUp ups (climb ups n (k:Int))=_∨stepUp ups (climb ups n (k:Int))∈_
    rcases road_mem t hk n with a | a
    · rw [a];exact step k hk
    · have b:=(chn_mem t (k+1) k (by omega) hk).2 _ a
      have e:climb ups n (k:Int)=((climb ups n (k:Int)).toNat:Int):=by omega
      rcases step (climb ups n (k:Int)).toNat (by omega) with s | s
      · rw [← e] at s;rw [s];exact .inr a
      · rw [← e] at s;exact .inr (chn_trans t (k+1) k (by omega) hk _ a _ s)
end
section
variable {P:Program} {w:World} {K:PySem.W.Frag} {mg:Str→Option Value} {base:Heap} {k:Nat}
def sp_all:Sp:=fun vs H Q _=>∃ (u:Addr) (ups more:List Int) (lab:List Nat) (i:Int),vs=[.ref u,.int i]∧H u=some (.tup ((ups++more).map V.int))∧TreeOk ups lab∧0≤i∧i < (ups.length:Int) ∧
  ∀ (r:Addr) (H':Hp),Same H H'→H' r=some (.lst ((chn ups i.toNat).map V.int))→Q (.ref r) H'
theorem ints_atM {us more:List Int} {i:Int} (h0:0≤i) (h1:i < (us.length:Int)):atI ((us++more).map V.int) i=some (.int (us.getD i.toNat 0)):=by
  have:=ints_at (us:=us++more) (i:=i) h0 (by rw [List.length_append];omega)
  rw [getD_app,if_pos (by omega)] at this
  exact this
theorem has_all (D:Df K mg "all_above" s_all_above) (B:Blt7 mg):Has P w K mg base "all_above" (k+1) ["ups", "place"] sp_all:=by
  refine D.has sc_all_above (fun _ _ _ _ _ _ us hl=>match us,hl with | [_,_],_=>rfl) (fun vs H Q E h=>by obtain ⟨u,ups,more,lab,i,rfl,_⟩:=h;rfl) (fun f cdv A outer s H vs Q E hr h=>?_)
  obtain ⟨u,ups,more,lab,i,rfl,hu,ok,i0,i1,q⟩:=h
  refine ⟨_,(pss_cons (ps_set (i:=2) sc_all_above.nd rfl (by first | exact Or.inl rfl | exact Or.inr rfl) (pe_lst pa_nil))
  (pss_cons (ps_set (i:=3) sc_all_above.nd rfl (by first | exact Or.inl rfl | exact Or.inr rfl) (pe_ix ix_tup (pv 0) (pv 1) (fun _ _=>rfl)))
  (pss_cons (ps_while PassesOwn.never (pt_cmpR op_ne (pv 3) (pe_un un_neg pe_int) (nomark _))
  (pss_cons (ps_expr (pe_bm PySem.F.plainAttrs_list PySem.F.slot_list_append PySem.F.type_list_append mt_append (pv 2) (pa_cons (pv 3) pa_nil)))
  (pss_one (ps_set (i:=3) sc_all_above.nd rfl (by first | exact Or.inl rfl | exact Or.inr rfl) (pe_ix ix_tup (pv 0) (pv 3) (fun _ _=>rfl))))))
  (pss_one (ps_ret (pv 2)))))),?_⟩
  have m60:=ok.most
  have hup:∀ j:Int,0≤j→j < (ups.length:Int)→ups.getD j.toNat 0 < j∧-1≤ups.getD j.toNat 0:=fun j h0 h1=>by
    rcases Nat.eq_zero_or_pos j.toNat with z | z
    · have:=ok.root
      rw [z];omega
    · have:=ok.up j.toNat z (by omega)
      omega
  refine ⟨(by show 0≤sizeLine;decide),fun r hr0=>?_⟩
  have ne:u≠r:=ne_of_none hu hr0
  have hu':∀ o,upd H r o u=some (.tup ((ups++more).map V.int)):=fun o=>by rw [upd_ne ne];exact hu
  refine ⟨_,rfl,_,rfl,u,_,_,_,rfl,rfl,SqT.of (hu' _),ints_atM i0 i1,?_⟩
  refine ⟨fun m σ H'=>∃ (l:List Int) (up:Int),σ=[some (.ref u),some (.int i),some (.ref r),some (.int up)]∧H'=upd H r (.lst (l.map V.int))∧l++rst ups up=chn ups i.toNat∧m=(up+1).toNat∧up < (ups.length:Int)∧-1≤up∧l.length+(up+1).toNat≤61,
    ⟨_,[],_,rfl,rfl,(by rw [List.nil_append];exact (chn_rst ok (by omega)).symm),rfl,by have:=hup i i0 i1;omega,(hup i i0 i1).2,by have:=hup i i0 i1;rw [List.length_nil];omega⟩,?_⟩
  rintro m σ H' ⟨l,up,rfl,rfl,hl,rfl,u1,u2,u3⟩
  refine ⟨_,rfl,_,rfl,rfl,_,rfl,?_⟩
  by_cases hc:V.int up=V.int (-1)
  · rw [decide_eq_true hc]
    refine iteF ?_
    have e:up=-1:=by injection hc
    subst e
    refine ⟨_,rfl,q r _ ((Same.refl H).new hr0) ?_⟩
    rw [upd_same,← hl]
    have:rst ups (-1)=[]:=by unfold rst;rw [if_pos (by decide)]
    rw [this,List.append_nil]
  · rw [decide_eq_false hc]
    refine iteT ?_
    have e:up≠-1:=fun z=>hc (by rw [z])
    have g:=hup up (by omega) u1
    refine ⟨_,fun σ' H3 h=>h,?_⟩
    refine ⟨_,rfl,.inl ⟨rfl,_,SqL.of upd_same⟩,_,rfl,r,_,_,rfl,rfl,upd_same,by rw [List.length_map];exact small1000 (by omega),?_⟩
    rw [upd_upd]
    refine ⟨_,rfl,_,rfl,u,_,_,_,rfl,rfl,SqT.of (hu' _),ints_atM (by omega) u1,?_⟩
    refine ⟨(ups.getD up.toNat 0+1).toNat,by omega,l++[up],ups.getD up.toNat 0,rfl,by rw [List.map_append];rfl,?_,rfl,by omega,g.2,by rw [List.length_append,List.length_singleton];omega⟩
    rw [List.append_assoc,← hl,rst_step ok (by omega) u1];rfl
end
theorem trues_all (n:Nat):((List.replicate n true).all id)=true:=by induction n with
  | zero=>rfl
  | succ n ih=>rw [List.replicate_succ,List.all_cons,ih];rfl
theorem trues_snoc (n:Nat):(List.replicate n true).map V.bl++[V.bl true]=(List.replicate (n+1) true).map V.bl:=by rw [List.replicate_succ',List.map_append];rfl
section
variable {P:Program} {w:World} {K:PySem.W.Frag} {mg:Str→Option Value} {base:Heap} {k:Nat}
def sp_whole:Sp:=fun vs H Q _=>∃ i:Int,vs=[.int i]∧Q (.bl true) H
theorem has_whole (D:Df K mg "is_whole" s_is_whole) (B:Blt7 mg):Has P w K mg base "is_whole" (k+1) ["thing"] sp_whole:=by
  refine D.has sc_is_whole (fun _ _ _ _ _ _ us hl=>match us,hl with | [_],_=>rfl) (fun vs H Q E h=>by obtain ⟨x,rfl,_⟩:=h;rfl) (fun f cdv A outer s H vs Q E hr h=>?_)
  obtain ⟨i,rfl,q⟩:=h
  refine ⟨_,(pss_one (ps_ret (pe_and (pe_callB call_isinst rfl B.isinstance bt_isinstance (pa_cons (pv 0) (pa_cons (pe_bltn (v:=.ty "int") rfl B.int_ bt_int rfl) pa_nil))) (pe_one (pe_not (pe_callB call_isinst rfl B.isinstance bt_isinstance (pa_cons (pv 0) (pa_cons (pe_bltn (v:=.ty "bool") rfl B.bool_ bt_bool rfl) pa_nil)))))))),?_⟩
  refine ⟨_,rfl,_,.type "int", "int", true,rfl,.int _,kit_same _ _,_,rfl,iteT ?_⟩
  exact ⟨_,rfl,_,.type "int", "bool", false,rfl,.int _,kit_int_bool _,_,rfl,q⟩
def sp_letters:Sp:=fun vs H Q _=>∃ z:Str,vs=[.str z]∧z.length≤60∧(∀ c∈z.cps.toList,Lw c)∧∀ H',Same H H'→Q (.bl true) H'
theorem has_letters (D:Df K mg "is_letters" s_is_letters) (B:Blt7 mg):Has P w K mg base "is_letters" (k+1) ["thing"] sp_letters:=by
  refine D.has sc_is_letters (fun _ _ _ _ _ _ us hl=>match us,hl with | [_],_=>rfl) (fun vs H Q E h=>by obtain ⟨x,rfl,_⟩:=h;rfl) (fun f cdv A outer s H vs Q E hr h=>?_)
  obtain ⟨z,rfl,zl,low,q⟩:=h
  obtain ⟨u2,h_LETTERS,r_LETTERS⟩:=B.letters
  refine ⟨_,(pss_one (ps_ret (pe_and (pe_callB call_isinst rfl B.isinstance bt_isinstance (pa_cons (pv 0) (pa_cons (pe_bltn (v:=.ty "str") rfl B.str_ bt_str rfl) pa_nil))) (pe_one (pe_callB (call_all rfl) rfl B.all bt_all (pa_cons (pe_comp rfl (pi_str (pv 0)) (NL:=["sign"]) (ix:=[]) (csc (defScope s_is_letters) N_is_letters) (fun cl C s₃ H₃ fp pins=>⟨(pg_name (i:=0) (show List.Nodup (["sign"]:List Str) from by decide +kernel) rfl (by first | exact Or.inl rfl | exact Or.inr rfl)),pifs_nil,(pe_cmpR op_in_str (pv 0) (pe_glob (v:=.str "abcdefghijklmnopqrstuvwxyz") rfl h_LETTERS r_LETTERS) (by with_unfolding_all rfl))⟩)) pa_nil)))))),?_⟩
  refine ⟨_,rfl,_,_,_,true,rfl,.str _,kit_same _ _,_,rfl,iteT ?_⟩
  have zs:z.cps.size≤60:=zl
  refine ⟨_,rfl,_,rfl,fun a1 ha1=>?_⟩
  refine comp_str (by omega) (fun i ys HX=>HX a1=some (.lst ys)∧Same H HX∧ys=(List.replicate i true).map V.bl)
    (fun i ys HX h=>⟨h.1,by rw [h.2.2,List.length_map,List.length_replicate];exact Nat.le_refl _⟩) ⟨upd_same,(Same.refl H).new ha1,rfl⟩ ?_ ?_
  rotate_left
  · rintro i c ys HX hc ⟨g1,g2,rfl⟩
    have hm:c∈z.cps.toList:=by rw [← Array.getElem?_toList] at hc;exact List.mem_of_getElem? hc
    refine ⟨rfl,_,rfl,_,_,rfl,rfl,?_⟩
    have e:(!(Builtin.Str.occurrences (Str.ofString "abcdefghijklmnopqrstuvwxyz") ⟨#[c]⟩ 0 (Str.ofString "abcdefghijklmnopqrstuvwxyz").length 1).isEmpty)=true:=in_letters (low c hm)
    rw [e]
    exact ⟨g1,upd_same,g2.write ha1,trues_snoc i⟩
  rintro ys H1 ⟨g1,s1,rfl⟩
  refine ⟨a1,_,rfl,SqL.of g1,?_⟩
  rw [trues_all]
  exact q _ s1
theorem climb_app {pre:List Int} (g:GrOk pre) (more:List Int) {p:Int} (h0:0≤p) (h1:p < (pre.length:Int)):∀ n,climb (pre++more) n p=climb pre n p∧0≤climb pre n p∧climb pre n p < (pre.length:Int)
  | 0=>⟨rfl,h0,h1⟩
  | n+1=>by
    obtain ⟨a,b,c⟩:=climb_app g more h0 h1 n
    have lt:(climb pre n p).toNat < pre.length:=by omega
    have e:(pre++more).getD (climb pre n p).toNat 0=pre.getD (climb pre n p).toNat 0:=by rw [getD_app,if_pos lt]
    refine ⟨?_,?_⟩
    · show stepUp (pre++more) (climb (pre++more) n p)=stepUp pre (climb pre n p)
      rw [a];unfold stepUp;rw [e]
    · exact (g.climb 0 h0 h1 (n+1)).2
theorem climb_in (us:List Int):∀ (n:Nat) (p:Int),climb us n (stepUp us p)=stepUp us (climb us n p)
  | 0,_=>rfl
  | n+1,p=>by show stepUp us (climb us n (stepUp us p))=_;rw [climb_in us n p];rfl
theorem chn_climb {ups:List Int} {lab:List Nat} (t:TreeOk ups lab):∀ (f j:Nat),j < f→j < ups.length→∀ v∈chn ups j,∃ n,climb ups n (j:Int)=v
  | 0,j,h,_,_,_=>absurd h (Nat.not_lt_zero _)
  | f+1,j,h,hj,v,hv=>by
    rw [chn_eq t hj] at hv
    split at hv
    · cases hv
    · rename_i h0
      have lt:=t.lt hj h0
      have st:stepUp ups (j:Int)=ups.getD j 0:=by unfold stepUp;rw [Int.toNat_natCast];split <;> omega
      rcases List.mem_cons.mp hv with e | e
      · exact ⟨1,by show stepUp ups (j:Int)=v;rw [st,e]⟩
      · obtain ⟨n,en⟩:=chn_climb t f _ (by omega) (by omega) v e
        refine ⟨n+1,?_⟩
        show stepUp ups (climb ups n (j:Int))=v
        rw [← climb_in,st,← en]
        congr 1
        omega
theorem gr_lab {us:List Int} (g:GrOk us) (h60:us.length≤60):TreeOk us (List.replicate us.length 97):=by
  have:=gr_tree (ls:=List.replicate us.length 97) g (by rw [List.length_replicate]) h60
  exact this
theorem gr_next {pre:List Int} {v:Int} (g:GrOk pre) (h60:pre.length≤60):(v=(pre.length:Int) - 1∨v∈chn pre (pre.length - 1)) ↔ GrOk (pre++[v]):=by
  have pos:=g.pos
  have t:=gr_lab g h60
  constructor
  · rintro (e | e)
    · exact g.snoc (by omega) (by omega) ⟨0,e.symm⟩
    · have m:=(chn_mem t (pre.length - 1+1) (pre.length - 1) (by omega) (by omega)).2 v e
      obtain ⟨n,en⟩:=chn_climb t (pre.length - 1+1) (pre.length - 1) (by omega) (by omega) v e
      exact g.snoc (by omega) (by omega) ⟨n,by rw [← en];congr 1;omega⟩
  · intro g2
    obtain ⟨n,en⟩:=g2.road pre.length pos (by rw [List.length_append];show _ < _+1;omega)
    rw [(climb_app g [v] (by omega) (by omega) n).1,getD_app,if_neg (by omega),Nat.sub_self] at en
    have en:climb pre n ((pre.length:Int) - 1)=v:=en
    rcases road_mem t (k:=pre.length - 1) (by omega) n with m | m
    · left
      rw [show (((pre.length - 1:Nat)):Int)=(pre.length:Int) - 1 by omega,en] at m
      exact m
    · right
      rw [show (((pre.length - 1:Nat)):Int)=(pre.length:Int) - 1 by omega,en] at m
      exact m
theorem gr_pre {pre more:List Int} {v:Int} (g:GrOk pre) (g2:GrOk (pre++v :: more)):GrOk (pre++[v]):=by
  have pos:=g.pos
  have lt:pre.length < (pre++v :: more).length:=by rw [List.length_append,List.length_cons];omega
  have u:=g2.up pre.length pos lt
  obtain ⟨n,en⟩:=g2.road pre.length pos lt
  rw [(climb_app g (v :: more) (by omega) (by omega) n).1,getD_app,if_neg (by omega),Nat.sub_self] at en
  rw [getD_app,if_neg (by omega),Nat.sub_self] at u
  exact g.snoc u.1 u.2 ⟨n,en⟩
end
theorem inV_int (v:Int) (l:List Int):inV (V.int v) (l.map V.int)=decide (v∈l):=by
  unfold inV
  rw [Bool.eq_iff_iff,List.any_eq_true,decide_eq_true_eq]
  constructor
  · rintro ⟨y,hy,e⟩
    obtain ⟨n,hn,rfl⟩:=List.mem_map.mp hy
    have:n=v:=by simpa [eqV] using e
    rw [← this];exact hn
  · intro h
    exact ⟨V.int v,List.mem_map.mpr ⟨v,h,rfl⟩,by simp [eqV]⟩
section
variable {P:Program} {w:World} {K:PySem.W.Frag} {mg:Str→Option Value} {base:Heap} {k:Nat}
end
end S53.R
namespace S53
open PySem L2 W7 W55
open S53.R (natV natV_ints trues_all trues_snoc)
section
variable {P:Program} {w:World} {K:PySem.W.Frag} {mg:Str→Option Value} {base:Heap} {k:Nat}
def ben (ups:List Int) (p:Int) (m:Nat):List Nat:=(List.range m).filter fun j=>decide (ups.getD j 0=p)
theorem ben_succ (ups:List Int) (p:Int) (m:Nat):ben ups p (m+1)=if ups.getD m 0=p then ben ups p m++[m] else ben ups p m:=by
  unfold ben
  rw [List.range_succ,List.filter_append]
  by_cases h:ups.getD m 0=p
  · rw [if_pos h,List.filter_cons_of_pos (by simpa using h)];rfl
  · rw [if_neg h,List.filter_cons_of_neg (by simpa using h)];simp
theorem ben_le (ups:List Int) (p:Int) (m:Nat):(ben ups p m).length≤m:=by
  have:=List.length_filter_le (fun j=>decide (ups.getD j 0=p)) (List.range m)
  simpa [ben] using this
def sp_beneath:Sp:=fun vs H Q _=>∃ (t:Addr) (ups:List Int) (lab:Str) (p:Int),vs=[.ref t,.int p]∧TreeAt H t ups lab ∧
  ∀ (r:Addr) (H':Hp),Same H H'→H r=none→H' r=some (.lst (natV (ben ups p ups.length)))→Q (.ref r) H'
theorem has_beneath (D:Df K mg "beneath_of" s_beneath_of) (B:Blt7 mg):Has P w K mg base "beneath_of" (k+1) ["tree", "place"] sp_beneath:=by
  refine D.has sc_beneath_of (fun _ _ _ _ _ _ us hl=>match us,hl with | [_,_],_=>rfl) (fun vs H Q E h=>by obtain ⟨t,ups,lab,p,rfl,_⟩:=h;rfl) (fun f cdv A outer s H vs Q E hr h=>?_)
  obtain ⟨t,ups,lab,p,rfl,tr,q⟩:=h
  refine ⟨_,(pss_one (ps_ret (pe_comp rfl (pi_enum rfl B.enumerate (pa_cons (pe_ix ix_tup (pv 0) pe_int (fun _ _=>rfl)) pa_nil)) (NL:=["other", "up"]) (ix:=[1]) (csc (defScope s_beneath_of) N_beneath_of) (fun cl C s₃ H₃ fp pins=>⟨(pg_tupK K (n:=2) rfl (pgs_cons (pg_name (i:=0) (show List.Nodup (["other", "up", "place"]:List Str) from by decide +kernel) rfl (by first | exact Or.inl rfl | exact Or.inr rfl)) (pgs_cons (pg_name (i:=1) (show List.Nodup (["other", "up", "place"]:List Str) from by decide +kernel) rfl (by first | exact Or.inl rfl | exact Or.inr rfl)) pgs_nil))),(pifs_one (pt_cmpR op_eq (pv 1) (pv 2) (nomark _))),(pv 0)⟩)))),?_⟩
  obtain ⟨u,ht,hu,ok⟩:=id tr
  have m60:=ok.most
  refine ⟨_,rfl,t,_,_,_,rfl,rfl,SqT.of ht,rfl,.tup u,rfl,⟨_,.inl hu⟩,fun acc hacc=>?_⟩
  refine comp_enum (xs:=ups.map V.int) (by rw [List.length_map];omega) (fun i ys H2=>H2 acc=some (.lst ys)∧ys=natV (ben ups p i)∧Same H H2)
    (fun i ys H2 h=>.inl (h.2.2 _ _ hu)) (fun i ys H2 h=>⟨h.1,by rw [h.2.1,natV,List.length_map];exact ben_le _ _ _⟩) ⟨upd_same,rfl,(Same.refl H).new hacc⟩ ?_ ?_
  · rintro ys H2 ⟨g1,rfl,g3⟩
    rw [List.length_map] at g1
    exact q acc H2 g3 hacc g1
  · rintro i x ys H2 pp hx ⟨g1,rfl,g3⟩ hpp
    rw [List.getElem?_map] at hx
    cases e1:ups[i]? with
    | none=>rw [e1] at hx;cases hx
    | some v=>
      rw [e1] at hx
      cases hx
      have ev:ups.getD i 0=v:=by rw [List.getD_eq_getElem?_getD,e1];rfl
      refine ⟨pp,_,rfl,SqT.of upd_same,rfl,_,_,rfl,_,_,rfl,rfl,?_⟩
      refine ⟨rfl,?_⟩
      have g1':upd H2 pp (.tup [.int (i:Int),.int v]) acc=some (.lst (natV (ben ups p i))):=by rw [upd_ne (ne_of_none g1 hpp)];exact g1
      refine ⟨_,rfl,_,rfl,rfl,_,rfl,ite2 (fun cnd=>?_) (fun cnd=>?_)⟩
      · have ec:v=p:=by
          have:=of_decide_eq_true cnd
          injection this
        exact ⟨_,rfl,g1',upd_same,by rw [ben_succ,if_pos (ev.trans ec),natV,natV,List.map_append];rfl,(g3.new hpp).write hacc⟩
      · have ec:v≠p:=fun z=>cnd (by rw [z];exact decide_eq_true rfl)
        exact ⟨g1',by rw [ben_succ,if_neg (by rw [ev];exact ec)],g3.new hpp⟩
def sp_below:Sp:=fun vs H Q _=>∃ (t:Addr) (ups:List Int) (lab:Str) (p:Int),vs=[.ref t,.int p]∧TreeAt H t ups lab ∧
  ∀ (r:Addr) (H':Hp),Same H H'→H r=none→H' r=some (.lst (oneV ((ben ups p ups.length).map fun j=>lab.cps.toList.getD j 0)))→Q (.ref r) H'
theorem has_below (D:Df K mg "letters_beneath" s_letters_beneath) (B:Blt7 mg) (G_beneath_of:Has P w K mg base "beneath_of" k ["tree", "place"] sp_beneath):Has P w K mg base "letters_beneath" (k+1) ["tree", "place"] sp_below:=by
  refine D.has sc_letters_beneath (fun _ _ _ _ _ _ us hl=>match us,hl with | [_,_],_=>rfl) (fun vs H Q E h=>by obtain ⟨t,ups,lab,p,rfl,_⟩:=h;rfl) (fun f cdv A outer s H vs Q E hr h=>?_)
  obtain ⟨t,ups,lab,p,rfl,tr,q⟩:=h
  refine ⟨_,(pss_one (ps_ret (pe_comp rfl (pi_list (pe_callH G_beneath_of hr rfl (pa_cons (pv 0) (pa_cons (pv 1) pa_nil)))) (NL:=["lower"]) (ix:=[0]) (csc (defScope s_letters_beneath) N_letters_beneath) (fun cl C s₃ H₃ fp pins=>⟨(pg_name (i:=0) (show List.Nodup (["lower", "tree"]:List Str) from by decide +kernel) rfl (by first | exact Or.inl rfl | exact Or.inr rfl)),pifs_nil,(pe_ix ix_str (pe_ix (ix_tupK K) (pv 1) pe_int (fun _ _=>rfl)) (pv 0) (fun _ _=>rfl))⟩)))),?_⟩
  obtain ⟨u,ht,hu,ok⟩:=id tr
  have m60:=ok.most
  have ll:lab.cps.toList.length=ups.length:=ok.len.symm
  have lz:lab.length≤sizeLine:=Nat.le_of_lt (small1000 (by simp only [Str.length];rw [← Array.length_toList,ll];omega))
  refine ⟨_,rfl,_,rfl,t,ups,lab,p,rfl,tr,fun r H1 s1 hf1 hr1=>?_⟩
  have bl:=ben_le ups p ups.length
  have bm:∀ j∈ben ups p ups.length,j < ups.length:=fun j hj=>List.mem_range.mp (List.mem_filter.mp hj).1
  generalize ben ups p ups.length=bs at hr1 bl bm q
  refine ⟨r,rfl,⟨_,SqL.of hr1⟩,fun acc hacc=>?_⟩
  refine comp_lst (K:=K) (xs:=natV bs) (by rw [natV,List.length_map];omega) (fun i ys HX=>HX acc=some (.lst ys)∧Same H1 HX∧ys=oneV ((bs.take i).map fun j=>lab.cps.toList.getD j 0))
    (fun i ys HX h=>SqL.of (h.2.1 _ _ hr1)) (fun i ys HX h=>⟨h.1,by rw [h.2.2];unfold oneV;rw [List.length_map,List.length_map,List.length_take];omega⟩) ⟨upd_same,(Same.refl H1).new hacc,rfl⟩ ?_ ?_
  · rintro ys H2 ⟨g1,g2,rfl⟩
    rw [natV,List.length_map,List.take_length] at g1
    exact q acc H2 (s1.trans g2) (s1.free hacc) g1
  · rintro i x ys HX hx ⟨g1,g2,rfl⟩
    rw [natV,List.getElem?_map] at hx
    cases ex:bs[i]? with
    | none=>rw [ex] at hx;cases hx
    | some j=>
      rw [ex] at hx
      cases hx
      have jl:=bm j (List.mem_of_getElem? ex)
      have hc:lab.cps.toList[j]?=some (lab.cps.toList.getD j 0):=by rw [List.getD_eq_getElem?_getD,List.getElem?_eq_getElem (by omega)];rfl
      refine ⟨rfl,_,rfl,t,_,_,_,rfl,rfl,SqT.of (g2 _ _ (s1 _ _ ht)),rfl,_,rfl,lab,_,_,rfl,rfl,lz,atI_nat hc,g1,upd_same,g2.write hacc,?_⟩
      rw [List.take_succ,ex,List.map_append]
      unfold oneV
      rw [List.map_append];rfl
theorem one_at {cs:List Nat} {i:Nat} (h:i < cs.length):atI (oneV cs) (i:Int)=some (.str ⟨#[cs.getD i 0]⟩):=atI_nat (by unfold oneV;rw [List.getElem?_map,List.getElem?_eq_getElem h,List.getD_eq_getElem?_getD,List.getElem?_eq_getElem h];rfl)
def Rises (ups:List Int) (lab:List Nat):Prop:=∀ k k',k < k'→0 < k→k' < ups.length→ups.getD k 0=ups.getD k' 0→lab.getD k 0 < lab.getD k' 0
theorem ben_rise {ups:List Int} {lab:List Nat} (ok:TreeOk ups lab) (r:Rises ups lab) (p:Nat):∀ i,i+1 < (ben ups (p:Int) ups.length).length→((ben ups (p:Int) ups.length).map fun j=>lab.getD j 0).getD i 0 < ((ben ups (p:Int) ups.length).map fun j=>lab.getD j 0).getD (i+1) 0:=fun i hi=>by
  have pw:(ben ups (p:Int) ups.length).Pairwise (· < ·):=List.Pairwise.sublist List.filter_sublist List.pairwise_lt_range
  have mem:∀ j∈ben ups (p:Int) ups.length,j < ups.length∧ups.getD j 0=(p:Int):=fun j hj=>by
    have:=List.mem_filter.mp hj
    exact ⟨List.mem_range.mp this.1,of_decide_eq_true this.2⟩
  generalize ben ups (p:Int) ups.length=bs at hi pw mem
  have l:=List.pairwise_iff_getElem.mp pw i (i+1) (by omega) hi (by omega)
  have m1:=mem _ (List.getElem_mem (show i < bs.length by omega))
  have m2:=mem _ (List.getElem_mem hi)
  have z:0 < bs[i]:=by
    rcases Nat.eq_zero_or_pos bs[i] with z | z
    · rw [z,ok.root] at m1;omega
    · exact z
  have:=r _ _ l z m2.1 (by rw [m1.2,m2.2])
  rw [List.getD_eq_getElem?_getD,List.getD_eq_getElem?_getD,List.getElem?_map,List.getElem?_map,List.getElem?_eq_getElem (by omega),List.getElem?_eq_getElem hi]
  exact this
end
end S53
namespace L2
open PySem
theorem mid {t u:TS} {D:Ends} {σ:St} {H:Hp} (P:St→Hp→Prop) (h2:∀ σ' H',P σ' H'→u D σ' H') (h1:∀ E:Ends,(∀ σ' H',P σ' H'→E.nx σ' H')→t E σ H):tSeq t u D σ H:=h1 { D with nx:=u D } h2
end L2
namespace HT
open PySem PySem.Spec PyProof.Rows
section
variable {prog:Program} {w:World} {A:Around} {E:Value→Shared→Prop} {s:Shared}
theorem getItem_tuple_all {t sl:Addr} {items:Array Value} {vl vu:Value} {lo hi:Option Int} {Q:Value→Shared→Prop} (ht:IsTup s.heap t items) (hs:s.heap.IsSliceOf sl vl vu .none) (pl:IsPart vl lo) (pu:IsPart vu hi)
    (h1:sIx items.size 0 lo=0) (h2:sIx items.size items.size hi=items.size) (h:Q (.ref t) s):wpAny (model prog w) A (getItem (.ref t) (.ref sl)) Q E s:=by
  obtain ⟨os,hos,hcs,hds⟩:=id hs
  have hTs:s.TypeIs (.ref sl) "slice" := ⟨os,hos,hcs⟩
  unfold getItem
  try with_reducible refine wpAny_holding ?_
  first | refine wpAny_bind (wpAny_pure ?_) | skip
  refine wpAny_bind (wpAny_sequenceKey ht.typeIs (by decide) ?_)
  refine wpAny_bind (wpAny_callSpecial?_slot (name:=Str.ofString "__getitem__") ht.typeIs PyProof.Rows.slot_tuple_getitem
    (wpAny_call_entry PyProof.Rows.slot_tuple_getitem ht.typeIs entry_tuple_getitem ?_ (args_tuple_getitem _ _)))
  show wpAny _ _ (Builtin.Tuple.tupleItemsOf (.ref t) >>= _) _ _ s
  refine wpAny_bind (tupleItemsOf_ ht ?_)
  refine wpAny_bind (wpAny_typeOf hTs ?_)
  rw [if_pos (by decide)]
  refine wpAny_bind (sliceApplied_gen hs pl pu ?_)
  have hyes:((((sIx items.size 0 lo:Nat):Int) == 0 && (1:Int) == 1 && (sIx items.size items.size hi - sIx items.size 0 lo) == items.size)=true):=by
    rw [h1,h2];simp
  show wpAny _ _ (if (((sIx items.size 0 lo:Nat):Int) == 0 && (1:Int) == 1 && (sIx items.size items.size hi - sIx items.size 0 lo) == items.size)=true then _ else _) _ _ s
  rw [if_pos hyes]
  unfold Builtin.Tuple.tupleIsExact
  refine wpAny_bind (wpAny_bind (wpAny_typeOf ht.typeIs (wpAny_pure ?_)))
  rw [if_pos (by decide)]
  refine wpAny_bind (wpAny_rule ?_)
  first
    | exact wpAny_pure ⟨_,rfl,wpAny_pure h⟩
    | exact wpAny_bind (wpAny_pure (wpAny_pure ⟨_,rfl,wpAny_pure h⟩))
end
end HT
namespace L2
open PySem PySem.Spec PyProof.Rows
section
variable {X:Cx}
def rSlTA (K:PySem.W.Frag):V→Option Int→Option Int→Hp→VK→Prop:=fun x lo hi H Q=>∃ a xs,x=.ref a∧SqT K H a xs ∧
  ((HT.sIx xs.length 0 lo=0∧HT.sIx xs.length xs.length hi=xs.length)→Q (.ref a) H)∧(¬ (HT.sIx xs.length 0 lo=0∧HT.sIx xs.length xs.length hi=xs.length)→∀ p,H p=none→Q (.ref p) (upd H p (.tup (cutV xs lo hi))))
theorem sl_tupA:SlR X (rSlTA X.K):=by
  intro pins s σ H x v vl vu lo hi sl Q I rx hs pl pu h
  obtain ⟨a,xs,rfl,hx,q1,q2⟩:=h
  by_cases hw:HT.sIx xs.length 0 lo=0∧HT.sIx xs.length xs.length hi=xs.length
  · cases rx
    obtain ⟨its,r,ht,hz⟩:=I.tuple hx
    have hlen:its.toArray.size=xs.length:=by rw [List.size_toArray];exact r.length.symm
    refine ⟨"tuple", _,PyProof.Rows.slot_tuple_getitem.lookup,ht.typeIs,?_⟩
    exact HT.getItem_tuple_all ht hs pl pu (by rw [hlen];exact hw.1) (by rw [hlen];exact hw.2) ⟨.ref a,H,I,rfl,q1 hw⟩
  · exact sl_tup pins s σ H _ v vl vu lo hi sl Q I rx hs pl pu ⟨a,xs,rfl,hx,hw,q2 hw⟩
end
end L2
namespace L2
open PySem PySem.Spec PyProof.Rows PySem.W
mutual
inductive Td (H:Hp):V→PyData→Prop
  | non:Td H .non .none
  | bl (b:Bool):Td H (.bl b) (.bool b)
  | int (i:Int):Td H (.int i) (.int i)
  | str (z:Str):Td H (.str z) (.str z)
  | lst {a:Addr} {xs:List V} {ds:List PyData}:H a=some (.lst xs)→Tds H xs ds→Td H (.ref a) (.list ds)
  | tup {a:Addr} {xs:List V} {ds:List PyData}:H a=some (.tup xs)→Tds H xs ds→Td H (.ref a) (.tuple ds)
  | dct {a:Addr} {kvs:List (Key × V)} {ps:List (PyData × PyData)}:H a=some (.dK kvs)→Tds H (kvs.map fun p=>kV p.1) (ps.map (·.1))→Tds H (kvs.map (·.2)) (ps.map (·.2))→Td H (.ref a) (.dict ps)
inductive Tds (H:Hp):List V→List PyData→Prop
  | nil:Tds H [] []
  | cons {v:V} {d:PyData} {vs:List V} {ds:List PyData}:Td H v d→Tds H vs ds→Tds H (v :: vs) (d :: ds)
end
mutual
theorem Td.same {H H':Hp} (s:Same H H'):∀ {v:V} {d:PyData},Td H v d→Td H' v d
  | _,_,.non=>.non
  | _,_,.bl b=>.bl b
  | _,_,.int i=>.int i
  | _,_,.str z=>.str z
  | _,_,.lst e t=>.lst (s _ _ e) (t.same s)
  | _,_,.tup e t=>.tup (s _ _ e) (t.same s)
  | _,_,.dct e t u=>.dct (s _ _ e) (t.same s) (u.same s)
theorem Tds.same {H H':Hp} (s:Same H H'):∀ {vs:List V} {ds:List PyData},Tds H vs ds→Tds H' vs ds
  | _,_,.nil=>.nil
  | _,_,.cons t u=>.cons (t.same s) (u.same s)
end
mutual
def noList:PyData→Bool
  | .none | .bool _ | .int _ | .str _=>true
  | .list _=>false
  | .tuple xs=>noListAll xs
  | .dict kvs=>noListKv kvs
def noListAll:List PyData→Bool
  | []=>true
  | x :: xs=>noList x && noListAll xs
def noListKv:List (PyData × PyData)→Bool
  | []=>true
  | (k,v) :: r=>noList k && noList v && noListKv r
end
theorem noListKv_keys:∀ kvs:List (PyData × PyData),noListKv kvs=true→noListAll (kvs.map (·.1))=true∧noListAll (kvs.map (·.2))=true
  | [],_=>⟨by simp only [List.map_nil,noListAll],by simp only [List.map_nil,noListAll]⟩
  | (k,v) :: r,h=>by
    simp only [noListKv,Bool.and_eq_true] at h
    obtain ⟨a,b⟩:=noListKv_keys r h.2
    simp only [List.map_cons,noListAll,Bool.and_eq_true]
    exact ⟨⟨h.1.1,a⟩,⟨h.1.2,b⟩⟩
theorem pairs_vals {P:Program} {w:World} {es:List DictEntry} {vs:List (Key × Value)} (h:Pairs (mixKind P w) es vs):∀ {kvs:List (Key × V)},KV kvs vs→Vals (kvs.map fun p=>kV p.1) (es.map (·.key))∧Vals (kvs.map (·.2)) (es.map (·.val)):=by
  induction h with
  | nil=>intro kvs r;cases r;exact ⟨.nil,.nil⟩
  | cons hk hv _ ih=>
    intro kvs r
    cases r with
    | cons r1 r2=>
      obtain ⟨a,b⟩:=ih r2
      refine ⟨.cons ?_ a,.cons (by show RelV _ _;simp only [hv];exact r1.2) b⟩
      show RelV (kV _) _
      simp only [r1.1]
      rcases keyIs_shape hk with ⟨i,t,e,e'⟩ | ⟨x,t,e,e'⟩
      · rw [e,e'];exact ⟨t,rfl⟩
      · rw [e,e'];exact ⟨t,rfl⟩
section
variable {X:Cx} {pins:List (Addr × Obj)} {σ:St} {H:Hp} {s:Shared}
mutual
theorem reads_td (I:Inv X pins σ H s):∀ {v:V} {d:PyData},Td H v d→∀ {u:Value},RelV v u→∃ as,Reads s.heap u d as∧(noList d=true→sysModules ∉ as)
  | _,_,.non,_,r=>by cases r;exact ⟨[],.none,fun _ h=>by cases h⟩
  | _,_,.bl b,_,r=>by cases r;exact ⟨[],.bool b,fun _ h=>by cases h⟩
  | _,_,.int i,_,r=>by obtain ⟨t,rfl⟩:=r;exact ⟨[],.int i t,fun _ h=>by cases h⟩
  | _,_,.str z,_,r=>by obtain ⟨t,rfl⟩:=r;exact ⟨[],.str z t,fun _ h=>by cases h⟩
  | _,_,.lst e t,_,r=>by
    cases r
    obtain ⟨_,its,n,rv,g⟩:=I.hok _ _ e
    obtain ⟨as,ra,_⟩:=reads_tds I t rv
    exact ⟨_,.list g rfl rfl ra,fun h=>by simp only [noList] at h;cases h⟩
  | _,_,.tup e t,_,r=>by
    cases r
    obtain ⟨_,its,rv,o,g,c,n,dd⟩:=I.hok _ _ e
    obtain ⟨as,ra,na⟩:=reads_tds I t rv
    exact ⟨as,.tuple g c dd ra,fun h=>na (by simpa only [noList] using h)⟩
  | _,_,.dct e t u,_,r=>by
    cases r
    obtain ⟨_,hs,vs,kv,o,es,ep,g,ex,dd,_,pr,_⟩:=I.hok _ _ e
    obtain ⟨v1,v2⟩:=pairs_vals pr kv
    obtain ⟨as,ra,na⟩:=reads_tds I t v1
    obtain ⟨bs,rb,nb⟩:=reads_tds I u v2
    refine ⟨_,.dict g ex.1 dd ra rb,fun h=>?_⟩
    simp only [noList] at h
    obtain ⟨h1,h2⟩:=noListKv_keys _ h
    intro m
    rcases List.mem_append.mp m with m | m
    · rcases List.mem_cons.mp m with m | m
      · exact beq_eq_false_iff_ne.mp hs m.symm
      · exact na h1 m
    · exact nb h2 m
theorem reads_tds (I:Inv X pins σ H s):∀ {vs:List V} {ds:List PyData},Tds H vs ds→∀ {us:List Value},Vals vs us→∃ as,ReadsAll s.heap us ds as∧(noListAll ds=true→sysModules ∉ as)
  | _,_,.nil,_,r=>by cases r;exact ⟨[],.nil,fun _ h=>by cases h⟩
  | _,_,.cons t u,_,r=>by
    cases r with
    | cons r1 r2=>
      obtain ⟨as,ra,na⟩:=reads_td I t r1
      obtain ⟨bs,rb,nb⟩:=reads_tds I u r2
      refine ⟨as++bs,.cons ra rb,fun h=>?_⟩
      simp only [noListAll,Bool.and_eq_true] at h
      intro m
      rcases List.mem_append.mp m with m | m
      · exact na h.1 m
      · exact nb h.2 m
end
structure Fit (d:PyData):Prop where
  sh:d.showable=true
  lv:d.leavesShort 61=true
  wt:d.weight≤200000
  dp:d.depth≤20
  md:d.hasDict=false∨noList d=true
theorem Fit.sz {d:PyData} (f:Fit d):d.shown.length≤sizeLine:=by
  have h:=PyData.shown_le 61 (by decide) d f.lv
  have:=f.wt
  rw [sizeLine_eq]
  omega
variable {k:Nat}
theorem call_repr_any (hr:Room k X.A):CallR X (.builtin "repr") (fun xs H Q=>∃ v d,xs=[v]∧Td H v d∧Fit d∧Q (.str d.shown) H):=by
  intro pins s σ H xs us Q I r h
  obtain ⟨v,d,rfl,t,f,q⟩:=h
  obtain ⟨u,rfl,rx⟩:=vals1 r
  have fin:∀ (h':Heap) (u:Tok) (tk:Tok),(∀ b o,s.heap.get? b=some o→h'.get? b=some o)→EP X pins σ Q (.str d.shown u) { s with heap:=h',toks:=tk }:=fun h' u tk hk=>⟨.str d.shown,H,I.kept (t':=tk) hk,⟨u,rfl⟩,q⟩
  have sz:=f.sz
  have ref:∀ a:Addr,u=.ref a→wpAny (model X.prog X.w) X.A (call (.builtin "repr") [u]) (EP X pins σ Q) X.xe s:=fun a e=>by
    subst e
    obtain ⟨as,rd,na⟩:=reads_td I t rx
    have un:=hr.un
    have dp:=f.dp
    refine repr_of_reads' rd f.sh (fun z=>?_) hr.gd (by omega) (fun _ _ e=>e) (fun h' u tk hk=>fin h' u tk hk) sz
    rcases f.md with m | m
    · rw [m] at z;cases z
    · exact na m
  cases t with
  | non=>cases rx;exact P.repr_of_none (fin _ _ _ fun _ _ e=>e)
  | bl b=>cases rx;exact P.repr_of_bool (by cases b <;> exact fin _ _ _ fun _ _ e=>e)
  | int i=>obtain ⟨t,rfl⟩:=rx;exact P.repr_of_int (of_decide_eq_true f.sh) (fin _ _ _ fun _ _ e=>e)
  | str z=>obtain ⟨t,rfl⟩:=rx;exact P.repr_of_str (fin _ _ _ fun _ _ e=>e) sz
  | lst e t=>cases rx;exact ref _ rfl
  | tup e t=>cases rx;exact ref _ rfl
  | dct e t u=>cases rx;exact ref _ rfl
end
section
variable {H:Hp}
theorem Tds.len:∀ {vs:List V} {ds:List PyData},Tds H vs ds→vs.length=ds.length
  | _,_,.nil=>rfl
  | _,_,.cons _ u=>by rw [List.length_cons,List.length_cons,u.len]
theorem Tds.append:∀ {vs:List V} {ds:List PyData},Tds H vs ds→∀ {ws:List V} {es:List PyData},Tds H ws es→Tds H (vs++ws) (ds++es)
  | _,_,.nil,_,_,t=>t
  | _,_,.cons a u,_,_,t=>.cons a (u.append t)
theorem Tds.one {v:V} {d:PyData} (t:Td H v d):Tds H [v] [d]:=.cons t .nil
theorem Tds.take:∀ {vs:List V} {ds:List PyData} (n:Nat),Tds H vs ds→Tds H (vs.take n) (ds.take n)
  | _,_,0,_=>.nil
  | _,_,_+1,.nil=>.nil
  | _,_,n+1,.cons a u=>.cons a (u.take n)
theorem Tds.drop:∀ {vs:List V} {ds:List PyData} (n:Nat),Tds H vs ds→Tds H (vs.drop n) (ds.drop n)
  | _,_,0,t=>t
  | _,_,_+1,.nil=>.nil
  | _,_,n+1,.cons a u=>u.drop n
theorem Tds.reverse:∀ {vs:List V} {ds:List PyData},Tds H vs ds→Tds H vs.reverse ds.reverse
  | _,_,.nil=>.nil
  | _,_,.cons a u=>by rw [List.reverse_cons,List.reverse_cons];exact u.reverse.append (.one a)
theorem Tds.get:∀ {vs:List V} {ds:List PyData} {i:Nat} {v:V},Tds H vs ds→vs[i]?=some v→∃ d,ds[i]?=some d∧Td H v d
  | _,_,_,_,.nil,e=>by simp at e
  | _,_,0,_,.cons a u,e=>by simp at e;subst e;exact ⟨_,rfl,a⟩
  | _,_,i+1,_,.cons a u,e=>u.get (i:=i) (by simpa using e)
theorem Tds.ints (ns:List Int):Tds H (ns.map V.int) (ns.map PyData.int):=by
  induction ns with
  | nil=>exact .nil
  | cons n ns ih=>exact .cons (.int n) ih
end
structure Gd (hd hl:Bool) (c e:Nat) (d:PyData):Prop where
  sh:d.showable=true
  lv:d.leavesShort 61=true
  wt:d.weight≤c
  dp:d.depth≤e
  nd:hd=false→d.hasDict=false
  nl:hl=false→noList d=true
structure Gs (hd hl:Bool) (c e:Nat) (ds:List PyData):Prop where
  sh:PyData.showableAll ds=true
  lv:PyData.leavesShortAll 61 ds=true
  wt:PyData.weightAll ds≤c
  dp:PyData.depthAll ds≤e
  nd:hd=false→PyData.hasDictAll ds=false
  nl:hl=false→noListAll ds=true
section
variable {hd hl:Bool} {c c' e e':Nat} {d:PyData} {ds es:List PyData}
theorem Gd.fit (g:Gd hd hl c e d) (h:hd=false∨hl=false) (hc:c≤200000) (he:e≤20):Fit d:=
  ⟨g.sh,g.lv,Nat.le_trans g.wt hc,Nat.le_trans g.dp he,h.imp g.nd g.nl⟩
theorem Gd.mono (g:Gd hd hl c e d) (hc:c≤c') (he:e≤e'):Gd hd hl c' e' d:=⟨g.sh,g.lv,Nat.le_trans g.wt hc,Nat.le_trans g.dp he,g.nd,g.nl⟩
theorem Gd.up (g:Gd false false c e d):Gd hd hl c e d:=⟨g.sh,g.lv,g.wt,g.dp,fun _=>g.nd rfl,fun _=>g.nl rfl⟩
theorem Gs.up (g:Gs false false c e ds):Gs hd hl c e ds:=⟨g.sh,g.lv,g.wt,g.dp,fun _=>g.nd rfl,fun _=>g.nl rfl⟩
theorem Gs.mono (g:Gs hd hl c e ds) (hc:c≤c') (he:e≤e'):Gs hd hl c' e' ds:=⟨g.sh,g.lv,Nat.le_trans g.wt hc,Nat.le_trans g.dp he,g.nd,g.nl⟩
theorem Gs.nil:Gs hd hl 0 0 []:=⟨by simp only [PyData.showableAll],by simp only [PyData.leavesShortAll],by simp only [PyData.weightAll];omega,by simp only [PyData.depthAll];omega,fun _=>by simp only [PyData.hasDictAll],fun _=>by simp only [noListAll]⟩
theorem Gs.cons (g:Gd hd hl c e d) (h:Gs hd hl c' e ds):Gs hd hl (c+1+c') e (d :: ds):=by
  have:=g.wt;have:=h.wt;have:=g.dp;have:=h.dp
  refine ⟨?_,?_,?_,?_,fun z=>?_,fun z=>?_⟩
  · simp only [PyData.showableAll,g.sh,h.sh,Bool.and_self]
  · simp only [PyData.leavesShortAll,g.lv,h.lv,Bool.and_self]
  · simp only [PyData.weightAll];omega
  · simp only [PyData.depthAll];omega
  · simp only [PyData.hasDictAll,g.nd z,h.nd z,Bool.or_self]
  · simp only [noListAll,g.nl z,h.nl z,Bool.and_self]
theorem Gs.uncons (g:Gs hd hl c e (d :: ds)):∃ c1 c2,Gd hd hl c1 e d∧Gs hd hl c2 e ds∧c1+1+c2≤c:=by
  obtain ⟨s,l,w,p,n,m⟩:=g
  simp only [PyData.showableAll,Bool.and_eq_true] at s
  simp only [PyData.leavesShortAll,Bool.and_eq_true] at l
  simp only [PyData.weightAll] at w
  simp only [PyData.depthAll] at p
  refine ⟨d.weight,PyData.weightAll ds,⟨s.1,l.1,Nat.le_refl _,by omega,fun z=>?_,fun z=>?_⟩,⟨s.2,l.2,Nat.le_refl _,by omega,fun z=>?_,fun z=>?_⟩,w⟩
  · have:=n z;simp only [PyData.hasDictAll,Bool.or_eq_false_iff] at this;exact this.1
  · have:=m z;simp only [noListAll,Bool.and_eq_true] at this;exact this.1
  · have:=n z;simp only [PyData.hasDictAll,Bool.or_eq_false_iff] at this;exact this.2
  · have:=m z;simp only [noListAll,Bool.and_eq_true] at this;exact this.2
theorem Gs.append:∀ {ds:List PyData} {c:Nat},Gs hd hl c e ds→Gs hd hl c' e es→Gs hd hl (c+c') e (ds++es)
  | [],c,_,h=>h.mono (by omega) (Nat.le_refl _)
  | d :: ds,c,g,h=>by
    obtain ⟨c1,c2,g1,g2,l⟩:=g.uncons
    exact (Gs.cons g1 (g2.append h)).mono (by omega) (Nat.le_refl _)
theorem Gs.drop:∀ {ds:List PyData} {c:Nat} (n:Nat),Gs hd hl c e ds→Gs hd hl c e (ds.drop n)
  | _,_,0,g=>g
  | [],c,_+1,g=>g
  | d :: ds,c,n+1,g=>by
    obtain ⟨c1,c2,g1,g2,l⟩:=g.uncons
    exact (g2.drop n).mono (by omega) (Nat.le_refl _)
theorem Gs.take:∀ {ds:List PyData} {c:Nat} (n:Nat),Gs hd hl c e ds→Gs hd hl c e (ds.take n)
  | _,_,0,g=>Gs.nil.mono (Nat.zero_le _) (Nat.zero_le _)
  | [],c,_+1,g=>g
  | d :: ds,c,n+1,g=>by
    obtain ⟨c1,c2,g1,g2,l⟩:=g.uncons
    exact (Gs.cons g1 (g2.take n)).mono (by omega) (Nat.le_refl _)
theorem Gs.one (g:Gd hd hl c e d):Gs hd hl (c+1) e [d]:=(Gs.cons g (Gs.nil.mono (Nat.le_refl 0) (Nat.zero_le e))).mono (by omega) (Nat.le_refl _)
theorem Gs.reverse:∀ {ds:List PyData} {c:Nat},Gs hd hl c e ds→Gs hd hl c e ds.reverse
  | [],c,g=>g
  | d :: ds,c,g=>by
    obtain ⟨c1,c2,g1,g2,l⟩:=g.uncons
    rw [List.reverse_cons]
    exact (g2.reverse.append (Gs.one g1)).mono (by omega) (Nat.le_refl _)
theorem Gs.all:∀ {ds:List PyData},(∀ d∈ds,Gd hd hl c e d)→Gs hd hl ((c+1) * ds.length) e ds
  | [],_=>Gs.nil.mono (Nat.zero_le _) (Nat.zero_le _)
  | d :: ds,h=>by
    refine (Gs.cons (h d List.mem_cons_self) (Gs.all (ds:=ds) fun x hx=>h x (List.mem_cons_of_mem _ hx))).mono ?_ (Nat.le_refl _)
    rw [List.length_cons,Nat.mul_succ];omega
theorem Gd.tup (g:Gs hd hl c e ds):Gd hd hl c (e+1) (.tuple ds):=
  ⟨by simp only [PyData.showable];exact g.sh,by simp only [PyData.leavesShort];exact g.lv,by simp only [PyData.weight];exact g.wt,by simp only [PyData.depth];have:=g.dp;omega,fun z=>by simp only [PyData.hasDict];exact g.nd z,fun z=>by simp only [noList];exact g.nl z⟩
theorem Gd.lst (g:Gs hd true c e ds):Gd hd true c (e+1) (.list ds):=
  ⟨by simp only [PyData.showable];exact g.sh,by simp only [PyData.leavesShort];exact g.lv,by simp only [PyData.weight];exact g.wt,by simp only [PyData.depth];have:=g.dp;omega,fun z=>by simp only [PyData.hasDict];exact g.nd z,fun z=>by cases z⟩
theorem Gd.dct0:Gd true hl 0 1 (.dict []):=
  ⟨by simp only [PyData.showable,PyData.showableKv],by simp only [PyData.leavesShort,PyData.leavesShortKv],by simp only [PyData.weight,PyData.weightKv];omega,by simp only [PyData.depth,PyData.depthKv];omega,(fun z=>by cases z),fun z=>by simp only [noList,noListKv]⟩
theorem Gd.non:Gd hd hl 0 0 .none:=⟨by simp only [PyData.showable],by simp only [PyData.leavesShort],by simp only [PyData.weight];omega,by simp only [PyData.depth];omega,fun _=>by simp only [PyData.hasDict],fun _=>by simp only [noList]⟩
theorem Gd.bl (b:Bool):Gd hd hl 0 0 (.bool b):=⟨by simp only [PyData.showable],by simp only [PyData.leavesShort],by simp only [PyData.weight];omega,by simp only [PyData.depth];omega,fun _=>by simp only [PyData.hasDict],fun _=>by simp only [noList]⟩
theorem Gd.str {z:Str} (h:∀ c∈z.cps.toList,c < 1000):Gd hd hl z.cps.size 0 (.str z):=⟨by simp only [PyData.showable],by
    simp only [PyData.leavesShort,List.all_eq_true,decide_eq_true_eq]
    intro c hc
    have:=h c hc
    have e:16 ^ 8=4294967296:=by decide
    omega,by simp only [PyData.weight];omega,by simp only [PyData.depth];omega,fun _=>by simp only [PyData.hasDict],fun _=>by simp only [noList]⟩
end
end L2
namespace L2
open PySem PySem.Spec PyProof.Rows PySem.W
theorem iteB {c:Bool} {A B:Prop} (h:c=false) (q:B):if c=true then A else B:=by rw [h];exact iteF q
theorem iteA {c:Bool} {A B:Prop} (h:c=true) (q:A):if c=true then A else B:=by rw [h];exact iteT q
end L2
namespace W56
open PySem
def S:Nat→Nat
  | 0=>0
  | m+1=>5 * S m+1
def it (x:Nat):Nat→Nat
  | 0=>x
  | m+1=>5 * it x m+1
theorem it_eq (x:Nat):∀ m,it x m=x+S m * (4 * x+1)
  | 0=>by simp [it,S]
  | m+1=>by
    show 5 * it x m+1=x+(5 * S m+1) * (4 * x+1)
    rw [it_eq x m,Nat.add_mul,Nat.mul_assoc]
    generalize S m * (4 * x+1)=q
    omega
theorem it_add (x:Nat) (a:Nat):∀ b,it x (a+b)=it (it x a) b
  | 0=>rfl
  | b+1=>by show 5 * it x (a+b)+1=5 * it (it x a) b+1;rw [it_add x a b]
theorem S_two (n:Nat):S (2 * n)=2 * (S n * (2 * S n+1)):=by
  have h:=it_eq 0 (n+n)
  rw [it_add,it_eq (it 0 n) n,it_eq 0 n] at h
  simp only [Nat.mul_zero,Nat.zero_add,Nat.mul_one] at h
  rw [show 2 * n=n+n by omega,← h,Nat.mul_add,Nat.mul_one]
  generalize hq:S n * (4 * S n)=q
  have e1:S n * (2 * S n+1)=S n * (2 * S n)+S n:=by rw [Nat.mul_add,Nat.mul_one]
  have e2:S n * (4 * S n)=2 * (S n * (2 * S n)):=by rw [show 4 * S n=2 * (2 * S n) by omega,Nat.mul_left_comm]
  rw [e1]
  omega
theorem S_par:∀ m,S m % 2=m % 2
  | 0=>rfl
  | m+1=>by show (5 * S m+1) % 2=(m+1) % 2;have:=S_par m;omega
theorem cop (k c:Nat):Nat.Coprime (2 ^ k) (2 * c+1):=by
  apply Nat.Coprime.pow_left
  show Nat.gcd 2 (2 * c+1)=1
  rw [Nat.gcd_rec,show (2 * c+1) % 2=1 by omega]
  rfl
theorem S_dvd:∀ k m,2 ^ k ∣ S m→2 ^ k ∣ m
  | 0,m,_=>⟨m,by simp⟩
  | k+1,m,h=>by
    have h2:2 ∣ S m:=Nat.dvd_trans ⟨2 ^ k,by rw [Nat.pow_succ,Nat.mul_comm]⟩ h
    have pm:=S_par m
    obtain ⟨n,rfl⟩:∃ n,m=2 * n:=⟨m / 2,by have:=Nat.mod_eq_zero_of_dvd h2;omega⟩
    rw [S_two,Nat.pow_succ,Nat.mul_comm (2 ^ k) 2] at h
    have h3:2 ^ k ∣ S n * (2 * S n+1):=Nat.dvd_of_mul_dvd_mul_left (by decide) h
    have h4:=(cop k (S n)).dvd_of_dvd_mul_right h3
    have h5:=S_dvd k n h4
    rw [Nat.pow_succ,Nat.mul_comm (2 ^ k) 2]
    exact Nat.mul_dvd_mul_left 2 h5
theorem it_inj {k x a b:Nat} (hab:a < b) (hb:b < 2 ^ k):¬ it x a % 2 ^ k=it x b % 2 ^ k:=by
  intro h
  obtain ⟨d,rfl⟩:∃ d,b=a+d:=⟨b - a,by omega⟩
  rw [it_add,it_eq (it x a) d] at h
  generalize it x a=y at h
  have h1:2 ^ k ∣ S d * (4 * y+1):=by
    have:=Nat.sub_mod_eq_zero_of_mod_eq h.symm
    rw [Nat.add_sub_cancel_left] at this
    exact Nat.dvd_of_mod_eq_zero this
  rw [show 4 * y+1=2 * (2 * y)+1 by omega] at h1
  have h2:=S_dvd k d ((cop k (2 * y)).dvd_of_dvd_mul_right h1)
  have:=Nat.le_of_dvd (by omega) h2
  omega
theorem full {l:List Nat} {M:Nat} (nd:l.Nodup) (lt:∀ x∈l,x < M) (len:M≤l.length) {j:Nat} (hj:j < M):j∈l:=by
  by_cases h:j∈l
  · exact h
  · have n2:(j :: l).Nodup:=List.nodup_cons.mpr ⟨h,nd⟩
    have:=n2.length_le_of_subset (l₂:=List.range M) fun x hx=>by
      rcases List.mem_cons.mp hx with z | z
      · rw [z];exact List.mem_range.mpr hj
      · exact List.mem_range.mpr (lt x z)
    rw [List.length_cons,List.length_range] at this
    omega
theorem it_all (k x j:Nat) (hj:j < 2 ^ k):∃ m,m < 2 ^ k∧it x m % 2 ^ k=j:=by
  have nd:((List.range (2 ^ k)).map fun m=>it x m % 2 ^ k).Nodup:=by
    rw [List.nodup_iff_pairwise_ne,List.pairwise_map]
    refine List.Pairwise.imp_of_mem ?_ (List.pairwise_lt_range (n:=2 ^ k))
    intro a b ha hb ab
    exact it_inj ab (List.mem_range.mp hb)
  have:=full nd (M:=2 ^ k) (fun y hy=>by
    obtain ⟨m,_,rfl⟩:=List.mem_map.mp hy
    exact Nat.mod_lt _ (Nat.pow_pos (by decide))) (by simp) hj
  obtain ⟨m,hm,e⟩:=List.mem_map.mp this
  exact ⟨m,List.mem_range.mp hm,e⟩
def road (mask:Nat) (i p:Nat):Nat→Nat × Nat
  | 0=>(i,p)
  | m+1=>SetTable.leap mask (road mask i p m).1 (road mask i p m).2
theorem road_p (mask i p:Nat):∀ m,(road mask i p m).2=p / 32 ^ m
  | 0=>by simp [road]
  | m+1=>by
    show (road mask i p m).2 / 32=p / 32 ^ (m+1)
    rw [road_p mask i p m,Nat.div_div_eq_div_mul,Nat.pow_succ]
theorem road_it {mask i p k m:Nat} (hM:mask+1=2 ^ k) (h0:∀ n,m≤n→(road mask i p n).2=0):∀ n,(road mask i p (m+n)).1 % 2 ^ k=it (road mask i p m).1 n % 2 ^ k
  | 0=>rfl
  | n+1=>by
    have ih:=road_it hM h0 n
    show ((road mask i p (m+n)).1 * 5+1+(road mask i p (m+n)).2 / 32) % (mask+1) % 2 ^ k=(5 * it (road mask i p m).1 n+1) % 2 ^ k
    rw [h0 (m+n) (by omega),hM,Nat.mod_mod]
    simp only [Nat.zero_div,Nat.add_zero]
    rw [Nat.add_mod,Nat.mul_comm,Nat.mul_mod,ih,← Nat.mul_mod,← Nat.add_mod]
theorem road_lt {mask i p:Nat} (hi:i < mask+1):∀ m,(road mask i p m).1 < mask+1
  | 0=>hi
  | m+1=>Nat.mod_lt _ (by omega)
theorem road_all {mask i p k j:Nat} (hM:mask+1=2 ^ k) (hi:i < mask+1) (hp:p < 32 ^ 13) (hj:j < mask+1):∃ m,m < mask+15∧(road mask i p m).1=j:=by
  have h0:∀ n,13≤n→(road mask i p n).2=0:=fun n hn=>by
    rw [road_p]
    exact Nat.div_eq_of_lt (Nat.lt_of_lt_of_le hp (Nat.pow_le_pow_right (by decide) hn))
  obtain ⟨m,hm,e⟩:=it_all k (road mask i p 13).1 j (by omega)
  refine ⟨13+m,by omega,?_⟩
  have:=road_it hM h0 m
  rw [e,← hM,Nat.mod_eq_of_lt (road_lt hi _)] at this
  exact this
theorem bits_lt (h:Int):SetTable.bits h < 32 ^ 13:=by
  unfold SetTable.bits
  have h1:=Int.emod_lt_of_pos h (show (0:Int) < 2 ^ 64 by decide)
  have h2:=Int.emod_nonneg h (show (2 ^ 64:Int)≠0 by decide)
  have e:(32:Nat) ^ 13=36893488147419103232:=by decide
  have e2:(2 ^ 64:Int)=18446744073709551616:=by decide
  rw [e]
  rw [e2] at h1 h2 ⊢
  omega
theorem road_shift (mask i p:Nat):∀ m,road mask i p (m+1)=road mask (SetTable.leap mask i p).1 (SetTable.leap mask i p).2 m
  | 0=>rfl
  | m+1=>by
    show SetTable.leap mask (road mask i p (m+1)).1 (road mask i p (m+1)).2=SetTable.leap mask (road mask (SetTable.leap mask i p).1 (SetTable.leap mask i p).2 m).1 (road mask (SetTable.leap mask i p).1 (SetTable.leap mask i p).2 m).2
    rw [road_shift mask i p m]
theorem free_none {mask:Nat} {owner:Array (Option Nat)}:∀ fuel i p,SetTable.layClean.free mask owner fuel i p=none→∀ m,m < fuel→(owner.getD (road mask i p m).1 (some 0)).isNone=false
  | 0,_,_,_,m,hm=>absurd hm (Nat.not_lt_zero _)
  | fuel+1,i,p,h,m,hm=>by
    unfold SetTable.layClean.free at h
    cases e:(List.range (SetTable.runEnd mask i+1 - i)).find? (fun k=>(owner.getD (i+k) (some 0)).isNone) with
    | some k=>rw [e] at h;cases h
    | none=>
      rw [e] at h
      cases m with
      | zero=>
        have hr:i≤SetTable.runEnd mask i:=by unfold SetTable.runEnd;split <;> omega
        have:=List.find?_eq_none.mp e 0 (List.mem_range.mpr (by omega))
        rw [Nat.add_zero] at this
        exact Bool.eq_false_iff.mpr this
      | succ m=>
        rw [road_shift]
        exact free_none fuel _ _ h m (by omega)
theorem free_ok {mask:Nat} {owner:Array (Option Nat)}:∀ fuel i p j,SetTable.layClean.free mask owner fuel i p=some j→(owner.getD j (some 0)).isNone=true
  | 0,_,_,_,h=>by unfold SetTable.layClean.free at h;cases h
  | fuel+1,i,p,j,h=>by
    unfold SetTable.layClean.free at h
    cases e:(List.range (SetTable.runEnd mask i+1 - i)).find? (fun k=>(owner.getD (i+k) (some 0)).isNone) with
    | some k=>
      rw [e] at h
      cases h
      exact List.find?_some (p:=fun k=>(owner.getD (i+k) (some 0)).isNone) e
    | none=>
      rw [e] at h
      exact free_ok fuel _ _ j h
theorem free_some {mask k:Nat} {owner:Array (Option Nat)} (hM:mask+1=2 ^ k) {j:Nat} (hj:j < mask+1) (hn:(owner.getD j (some 0)).isNone=true) (h:Int) :
    ∃ j',SetTable.layClean.free mask owner (SetTable.turns mask) (SetTable.bits h % (mask+1)) (SetTable.bits h)=some j'∧(owner.getD j' (some 0)).isNone=true:=by
  cases e:SetTable.layClean.free mask owner (SetTable.turns mask) (SetTable.bits h % (mask+1)) (SetTable.bits h) with
  | some j'=>exact ⟨j',rfl,free_ok _ _ _ _ e⟩
  | none=>
    obtain ⟨m,hm,er⟩:=road_all hM (i:=SetTable.bits h % (mask+1)) (p:=SetTable.bits h) (Nat.mod_lt _ (by omega)) (bits_lt h) hj
    have:=free_none _ _ _ e m hm
    rw [er,hn] at this
    cases this
structure Own (mask:Nat) (owner:Array (Option Nat)) (js:List Nat):Prop where
  sz:owner.size=mask+1
  nd:js.Nodup
  lt:∀ j∈js,j < mask+1
  at_:∀ i j:Nat,js[i]?=some j→owner[j]?=some (some i)
  no:∀ j:Nat,j < mask+1→j ∉ js→owner[j]?=some none
theorem getD_none {owner:Array (Option Nat)} {j:Nat}:(owner.getD j (some 0)).isNone=true ↔ owner[j]?=some none:=by
  rw [Array.getD_eq_getD_getElem?]
  cases e:owner[j]? with
  | none=>simp
  | some v=>cases v <;> simp
theorem Own.step {mask k:Nat} {owner:Array (Option Nat)} {js:List Nat} (hM:mask+1=2 ^ k) (o:Own mask owner js) (hl:js.length < mask+1) (h:Int) :
    ∃ j,SetTable.layClean.free mask owner (SetTable.turns mask) (SetTable.bits h % (mask+1)) (SetTable.bits h)=some j∧Own mask (owner.setIfInBounds j (some js.length)) (js++[j]):=by
  obtain ⟨j0,hj0,hn0⟩:∃ j,j < mask+1∧j ∉ js:=by
    refine Classical.byContradiction fun hc=>?_
    have sub:∀ j∈List.range (mask+1),j∈js:=fun j hj=>Classical.byContradiction fun z=>hc ⟨j,List.mem_range.mp hj,z⟩
    have:=(List.nodup_range (n:=mask+1)).length_le_of_subset sub
    rw [List.length_range] at this
    omega
  obtain ⟨j,e,hn⟩:=free_some hM hj0 (getD_none.mpr (o.no j0 hj0 hn0)) h
  have hj:=getD_none.mp hn
  have jl:j < owner.size:=by
    obtain ⟨hh,_⟩:=Array.getElem?_eq_some_iff.mp hj
    exact hh
  have jn:j ∉ js:=fun z=>by
    obtain ⟨i,hi,ei⟩:=List.getElem_of_mem z
    have:=o.at_ i j (by rw [List.getElem?_eq_getElem hi,ei])
    rw [hj] at this
    cases this
  have sz:=o.sz
  refine ⟨j,e,⟨by rw [Array.size_setIfInBounds];exact sz,?_,?_,?_,?_⟩⟩
  · rw [List.nodup_append]
    exact ⟨o.nd,by simp,fun a ha b hb z=>jn (by rw [← List.mem_singleton.mp hb,← z];exact ha)⟩
  · intro i hi
    rcases List.mem_append.mp hi with z | z
    · exact o.lt i z
    · rw [List.mem_singleton.mp z];omega
  · intro i j' hi
    rcases Nat.lt_or_ge i js.length with z | z
    · rw [List.getElem?_append_left z] at hi
      have ne:j≠j':=fun y=>jn (by rw [y];exact List.mem_of_getElem? hi)
      rw [Array.getElem?_setIfInBounds_ne ne]
      exact o.at_ i j' hi
    · rw [List.getElem?_append_right z] at hi
      have e0:i - js.length=0:=by
        have:=(List.getElem?_eq_some_iff.mp hi).1
        simp at this;omega
      rw [e0] at hi
      obtain rfl:j=j':=by simpa using hi
      rw [Array.getElem?_setIfInBounds_self_of_lt jl,show i=js.length by omega]
  · intro j' h1 h2
    have ne:j≠j':=fun y=>h2 (by rw [y];simp)
    rw [Array.getElem?_setIfInBounds_ne ne]
    exact o.no j' h1 fun z=>h2 (List.mem_append_left _ z)
theorem Own.start (mask:Nat):Own mask (Array.replicate (mask+1) none) []:=
  ⟨by simp,List.nodup_nil,(fun j h=>by cases h),(fun i j h=>by cases h),fun j h _=>by rw [Array.getElem?_replicate,if_pos h]⟩
end W56
namespace W56
open PySem
theorem range_all {α:Type} (l:List α):(List.range l.length).filterMap (l[·]?)=l:=by
  induction l with
  | nil=>rfl
  | cons a l ih=>
    rw [List.length_cons,List.range_succ_eq_map,List.filterMap_cons]
    show a :: ((List.range l.length).map Nat.succ).filterMap ((a :: l)[·]?)=_
    rw [List.filterMap_map]
    congr 1
end W56
namespace L2
open PySem PySem.Spec PyProof.Rows PySem.W
section
variable {prog:Program} {w:World} {A:Around} {E:Value→Shared→Prop} {s:Shared}
theorem SetS.perm {led:Bool} {es es':Array (Int × Value)} {t t':SetTable} {S:List Str} (h:SetS w led es t S) (p:es'.toList.Perm es.toList) (f:t'.fits es'.size=true) (l:t'.led=led) (q:es'.size=0∨t'.plain=false):SetS w led es' t' S where
  ent:=fun e he=>h.ent e (p.mem_iff.mp he)
  nd:=by rw [(keyOf_perm p).nodup_iff];exact h.nd
  mem:=fun y=>by rw [(keyOf_perm p).mem_iff];exact h.mem y
  fit:=f
  led:=l
  pl:=q
end
section
variable {X:Cx}
end
end L2
namespace L2
open PySem PySem.Spec PyProof.Rows PySem.W
section
variable {X:Cx}
end
theorem Gd.int {hd hl:Bool} {i:Int} (h:i.natAbs < 10 ^ 12):Gd hd hl 41 0 (.int i):=by
  have s1:=ints_showable (ns:=[i]) (fun n hn=>by rw [List.mem_singleton.mp hn];exact h)
  simp only [PyData.showable,List.map_cons,List.map_nil,PyData.showableAll,Bool.and_true] at s1
  refine ⟨by simp only [PyData.showable];exact s1,?_,?_,by simp only [PyData.depth];omega,fun _=>by simp only [PyData.hasDict],fun _=>by simp only [noList]⟩
  · simp only [PyData.leavesShort,decide_eq_true_eq]
    exact Nat.le_trans (PyData.shown_int_le h) (by decide)
  · have:=weight_ints [i] (fun n hn=>by rw [List.mem_singleton.mp hn];exact h)
    simp only [List.map_cons,List.map_nil,PyData.weightAll,List.length_singleton] at this
    omega
end L2
namespace L2
open PySem PySem.Spec PyProof.Rows PySem.W
def isTupD:PyData→Bool | .tuple _=>true | _=>false
def isStrD:PyData→Bool | .str _=>true | _=>false
def isIntD:PyData→Bool | .int _=>true | .bool _=>true | _=>false
def isBlD:PyData→Bool | .bool _=>true | _=>false
section
variable {K:PySem.W.Frag} {H:Hp} {v:V} {d:PyData}
theorem td_tup (h:Td H v d):∃ t,TyOf K H v t∧kitOne K t (.type "tuple")=some (isTupD d):=by
  cases h with
  | non=>exact ⟨_,.non,by rfl⟩
  | bl b=>exact ⟨_,.bl b,by rfl⟩
  | int i=>exact ⟨_,.int i,by rfl⟩
  | str z=>exact ⟨_,.str z,by rfl⟩
  | lst e _=>exact ⟨_,.lst e,by rfl⟩
  | tup e _=>exact ⟨_,.tup e,by rfl⟩
  | dct e _ _=>exact ⟨_,.dK e,by rfl⟩
theorem td_str (h:Td H v d):∃ t,TyOf K H v t∧kitOne K t (.type "str")=some (isStrD d):=by
  cases h with
  | non=>exact ⟨_,.non,by rfl⟩
  | bl b=>exact ⟨_,.bl b,by rfl⟩
  | int i=>exact ⟨_,.int i,by rfl⟩
  | str z=>exact ⟨_,.str z,by rfl⟩
  | lst e _=>exact ⟨_,.lst e,by rfl⟩
  | tup e _=>exact ⟨_,.tup e,by rfl⟩
  | dct e _ _=>exact ⟨_,.dK e,by rfl⟩
theorem td_int (h:Td H v d):∃ t,TyOf K H v t∧kitOne K t (.type "int")=some (isIntD d):=by
  cases h with
  | non=>exact ⟨_,.non,by rfl⟩
  | bl b=>exact ⟨_,.bl b,by rfl⟩
  | int i=>exact ⟨_,.int i,by rfl⟩
  | str z=>exact ⟨_,.str z,by rfl⟩
  | lst e _=>exact ⟨_,.lst e,by rfl⟩
  | tup e _=>exact ⟨_,.tup e,by rfl⟩
  | dct e _ _=>exact ⟨_,.dK e,by rfl⟩
theorem td_bl (h:Td H v d):∃ t,TyOf K H v t∧kitOne K t (.type "bool")=some (isBlD d):=by
  cases h with
  | non=>exact ⟨_,.non,by rfl⟩
  | bl b=>exact ⟨_,.bl b,by rfl⟩
  | int i=>exact ⟨_,.int i,by rfl⟩
  | str z=>exact ⟨_,.str z,by rfl⟩
  | lst e _=>exact ⟨_,.lst e,by rfl⟩
  | tup e _=>exact ⟨_,.tup e,by rfl⟩
  | dct e _ _=>exact ⟨_,.dK e,by rfl⟩
end
theorem isTup_ex {H:Hp} {v:V} {d:PyData} (h:Td H v d) (b:isTupD d=true):∃ a xs ds,v=.ref a∧d=.tuple ds∧H a=some (.tup xs)∧Tds H xs ds:=by
  cases h with
  | tup e t=>exact ⟨_,_,_,rfl,rfl,e,t⟩
  | _=>cases b
theorem isStr_ex {H:Hp} {v:V} {d:PyData} (h:Td H v d) (b:isStrD d=true):∃ z,v=.str z∧d=.str z:=by
  cases h with
  | str z=>exact ⟨_,rfl,rfl⟩
  | _=>cases b
def wholeD:PyData→Bool | .int _=>true | _=>false
theorem wholes_ints:∀ {H:Hp} {xs:List V} {ds:List PyData},Tds H xs ds→(∀ d∈ds,wholeD d=true)→∃ us:List Int,ds=us.map .int∧xs=us.map V.int
  | _,_,_,.nil,_=>⟨[],rfl,rfl⟩
  | _,_,_,.cons t u,h=>by
    obtain ⟨us,e1,e2⟩:=wholes_ints u fun d hd=>h d (List.mem_cons_of_mem _ hd)
    have w:=h _ List.mem_cons_self
    cases t with
    | int i=>exact ⟨i :: us,by rw [e1];rfl,by rw [e2];rfl⟩
    | _=>cases w
def dl (ps:List Addr) (H:Hp):Hp:=fun a=>if a∈ps then none else H a
theorem dl_same (ps:List Addr) (H:Hp):Same (dl ps H) H:=fun b o e=>by
  unfold dl at e
  split at e
  · cases e
  · exact e
theorem dl_at {ps:List Addr} {H:Hp} {a:Addr} {o:HO} (h:H a=some o) (n:a ∉ ps):dl ps H a=some o:=by unfold dl;rw [if_neg n];exact h
theorem dl_keep {ps:List Addr} {H H':Hp} (h:∀ b o,b ∉ ps→H b=some o→H' b=some o):Same (dl ps H) (dl ps H'):=fun b o e=>by
  unfold dl at e ⊢
  split at e
  · cases e
  · rename_i n
    rw [if_neg n];exact h b o n e
end L2
namespace L2
open PySem PySem.Spec PyProof.Rows PySem.W
theorem vals_by:∀ {xs:List V} {us:List Value},xs.length=us.length→(∀ (j:Nat) (x:V) (u:Value),xs[j]?=some x→us[j]?=some u→RelV x u)→Vals xs us
  | [],[],_,_=>.nil
  | [],_ :: _,h,_=>by cases h
  | _ :: _,[],h,_=>by cases h
  | x :: xs,u :: us,h,r=>.cons (r 0 x u rfl rfl) (vals_by (by simpa using h) fun j y v hy hv=>r (j+1) y v (by simpa using hy) (by simpa using hv))
section
variable {X:Cx}
def rSlU:V→Option Int→Option Int→Hp→VK→Prop:=fun x lo hi H Q=>∃ a xs,x=.ref a∧H a=some (.tup xs)∧∀ r H',Same H H'→H' r=some (.tup (cutV xs lo hi))→Q (.ref r) H'
theorem cut_whole {xs:List V} {lo hi:Option Int} (h:HT.sIx xs.length 0 lo=0∧HT.sIx xs.length xs.length hi=xs.length):cutV xs lo hi=xs:=by
  unfold cutV
  rw [h.1,h.2,List.drop_zero,Nat.sub_zero,List.take_length]
theorem sl_tupU:SlR X rSlU:=by
  intro pins s σ H x v vl vu lo hi sl Q I rx hs pl pu h
  obtain ⟨a,xs,rfl,hx,q⟩:=h
  refine sl_tupA pins s σ H _ v vl vu lo hi sl Q I rx hs pl pu ⟨a,xs,rfl,SqT.of hx,fun w=>?_,fun _ p hp=>?_⟩
  · exact q a H (Same.refl H) (by rw [cut_whole w];exact hx)
  · exact q p _ ((Same.refl H).new hp) upd_same
def rCatU:R2:=fun x y H Q=>∃ a b xs ys,x=.ref a∧y=.ref b∧H a=some (.tup xs)∧H b=some (.tup ys)∧xs.length+ys.length≤sizeLine∧∀ r H',Same H H'→H' r=some (.tup (xs++ys))→Q (.ref r) H'
theorem op_catU:OpR X (binaryOp .Add) rCatU:=by
  intro pins s σ H x y v u Q I rx ry h
  obtain ⟨a,b,xs,ys,rfl,rfl,ha,hb,hz,q⟩:=h
  refine op_catA pins s σ H _ _ v u Q I rx ry ⟨a,b,xs,ys,rfl,rfl,SqT.of ha,SqT.of hb,hz,fun e=>?_,fun _ e=>?_,fun _ _ p hp=>?_⟩
  · exact q b H (Same.refl H) (by rw [e,List.nil_append];exact hb)
  · exact q a H (Same.refl H) (by rw [e,List.append_nil];exact ha)
  · exact q p _ ((Same.refl H).new hp) upd_same
theorem call_list_txt (hc:X.calm=true):CallR X (.type "list") (fun xs H Q=>∃ z,xs=[.str z]∧z.length≤10000∧∀ l,H l=none→Q (.ref l) (upd H l (.lst (signs z)))):=by
  intro pins s σ H xs us Q I r h
  obtain ⟨z,rfl,zl,q⟩:=h
  obtain ⟨u,rfl,t,rfl⟩:=vals1 r
  have hz:z.cps.size≤10000:=zl
  have hs:10000≤sizeLine:=by rw [sizeLine_eq];decide
  refine call_list_str (I.ok.hd hc) z t (fun h' tk acc' c' kp e it=>?_) (by omega)
  have vals:Vals (signs z) acc'.toList:=by
    refine vals_by (by unfold signs;rw [List.length_map,Array.length_toList,Array.length_toList,it.1]) fun j x u hx hu=>?_
    obtain ⟨c,tk',hc',rfl⟩:=it.2 j u (by rw [← Array.getElem?_toList];exact hu)
    unfold signs at hx
    rw [List.getElem?_map,Array.getElem?_toList,hc'] at hx
    cases hx
    exact ⟨tk',rfl⟩
  exact ⟨.ref s.heap.objs.size,_,I.laid (t':=tk) kp (Nat.le_refl _) (show ObjOk X.prog X.w _ h' _ (.lst (signs z)) from ⟨by unfold signs;rw [List.length_map,Array.length_toList];omega,acc'.toList,c',vals,by simpa using e⟩),rfl,q _ (I.hok.fresh (Nat.le_refl _))⟩
end
theorem Gd.big {hd hl:Bool} {i:Int} (h:i.natAbs < 10 ^ 60):Gd hd hl 201 0 (.int i):=by
  have e:i.natAbs < 2 ^ 200:=Nat.lt_trans h (by decide)
  have lg:i.natAbs≠0→i.natAbs.log2 < 200:=fun n0=>(Nat.log2_lt n0).mpr e
  have l0:i.natAbs.log2 < 200:=by
    by_cases n0:i.natAbs=0
    · rw [n0];decide
    · exact lg n0
  refine ⟨?_,?_,?_,by simp only [PyData.depth];omega,fun _=>by simp only [PyData.hasDict],fun _=>by simp only [noList]⟩
  · simp only [PyData.showable,decide_eq_true_eq];omega
  · simp only [PyData.leavesShort,decide_eq_true_eq]
    have e:=int_text_length_le10 (k:=60) (by decide) h
    show (Str.ofString (toString i)).length≤61
    rw [PySem.ofString_length];exact e
  · simp only [PyData.weight]
    split <;> omega
end L2
namespace L2
open PySem PySem.Spec PyProof.Rows PySem.W
structure PSw (X:Cx) (sts:List Stmt) (t:TS):Prop where
  h:PSs X sts t
structure Pw (X:Cx) (st:Stmt) (t:TS):Prop where
  h:PS X st t
structure PEw (X:Cx) (e:Expr) (t:TE):Prop where
  h:PE X e t
structure PAw (X:Cx) (es:List Expr) (t:TA):Prop where
  h:PA X es t
section
variable {X:Cx}
theorem exw {sts:List Stmt} {R:TS→Prop} (h:∃ t,PSw X sts t∧R t):∃ t,PSs X sts t∧R t:=let ⟨t,a,b⟩:=h;⟨t,a.h,b⟩
theorem w_cons {st:Stmt} {rest:List Stmt} {t u:TS} (h1:Pw X st t) (h2:PSw X rest u):PSw X (st :: rest) (tSeq t u):=⟨pss_cons h1.h h2.h⟩
theorem w_one {st:Stmt} {t:TS} (h:Pw X st t):PSw X [st] t:=⟨pss_one h.h⟩
theorem w_set {i:Nat} {x:Str} {e:Expr} {te:TE} {pos' pos:Pos} (hN:X.N.Nodup) (hi:X.N[i]?=some x) (hx:Loc X.env.scope x) (he:PEw X e te) (hs:swapsWith e (some (.Name x pos')) pos.line X.env=pure false:=by rfl) (hf:X.fn x=true∨X.env.scope.names.lookup x=some .local:=by first | exact .inl rfl | exact .inr rfl | assumption) :
    Pw X (.Assign [.Name x pos'] e pos) (tAsg te (gName i)):=⟨ps_set hN hi hx he.h hs hf⟩
theorem w_op {a b:Expr} {ta tb:TE} {pos:Pos} {op:Operator} {r:R2} (ho:OpR X (binaryOp op) r) (ha:PEw X a ta) (hb:PEw X b tb):PEw X (.BinOp a op b pos) (tOp r ta tb):=⟨pe_op ho ha.h hb.h⟩
theorem w_lst {es:List Expr} {t:TA} {pos:Pos} (h:PAw X es t):PEw X (.List es pos) (tLst t):=⟨pe_lst h.h⟩
theorem w_tup {es:List Expr} {t:TA} {pos:Pos} {x1} (h:PAw X es t):PEw X (.Tuple es x1 pos) (tTup t):=⟨pe_tup h.h⟩
theorem w_acons {e:Expr} {es:List Expr} {te:TE} {t:TA} (ha:PEw X e te) (hr:PAw X es t) (hs:starEach (e :: es) X.env=(false,eval e X.env) :: starEach es X.env:=by rfl):PAw X (e :: es) (tCons te t):=⟨pa_cons ha.h hr.h hs⟩
theorem w_anil:PAw X [] tNil:=⟨pa_nil⟩
theorem w_str {x:Str} {j} {pos:Pos}:PEw X (.Constant (.str x) j pos) (tC (.str x)):=⟨pe_str⟩
theorem op_eq_tnil (hu:X.A.units < cLine):OpR X (compareOp .Eq) (fun x y H Q=>∃ a b xs,x=.ref a∧y=.ref b∧SqT X.K H a xs∧SqT X.K H b []∧Q (.bl xs.isEmpty) H):=by
  intro pins s σ H x y v u Q I rx ry h
  obtain ⟨a,b,xs,rfl,rfl,h1,h2,q⟩:=h
  cases (show v=Value.ref a from rx)
  cases (show u=Value.ref b from ry)
  obtain ⟨us,r1,l1,_⟩:=I.tuple h1
  obtain ⟨ws,r2,l2,_⟩:=I.tuple h2
  have e1:=r1.length
  cases r2
  refine SeqAt.eq_tupleAt (e:=fun _=>false) l1 l2 hu (fun j g1 g2=>absurd g2 (by simp)) ⟨.bl _,H,I,rfl,?_⟩
  have:xs.isEmpty=((List.range (min us.toArray.size ([]:List Value).toArray.size)).all (fun _=>false) && us.toArray.size == ([]:List Value).toArray.size):=by
    rw [List.size_toArray,← e1]
    cases xs <;> simp
  rw [← this];exact q
end
end L2
namespace S53
open PySem L2 W7
open S53.R (natV natV_ints trues_all trues_snoc sp_whole sp_all)
def lwB (c:Nat):Bool:=decide (97≤c) && decide (c < 123)
theorem lwB_iff {c:Nat}:lwB c=true ↔ Lw c:=by unfold lwB Lw;rw [Bool.and_eq_true,decide_eq_true_eq,decide_eq_true_eq]
theorem in_abc {c:Nat} (h:c < 1000):(!(Builtin.Str.occurrences (Str.ofString "abcdefghijklmnopqrstuvwxyz") ⟨#[c]⟩ 0 (Str.ofString "abcdefghijklmnopqrstuvwxyz").length 1).isEmpty)=lwB c:=by
  have all:∀ c:Nat,c < 1000→(!(Builtin.Str.occurrences (Str.ofString "abcdefghijklmnopqrstuvwxyz") ⟨#[c]⟩ 0 (Str.ofString "abcdefghijklmnopqrstuvwxyz").length 1).isEmpty)=lwB c:=by decide +kernel
  exact all c h
def letD:PyData→Bool
  | .str z=>z.cps.toList.all lwB
  | _=>false
def labD:PyData→Bool
  | .str z=>z.cps.toList.all lwB && (decide (1≤z.length) && decide (z.length≤60))
  | _=>false
def Short (d:PyData):Prop:=∀ z,d=.str z→z.length≤900∧∀ c∈z.cps.toList,c < 1000
def UpsD (d:PyData) (m:Nat):Prop:=∃ us:List Int,d=.tuple (us.map .int)∧us.length=m∧R.GrOk us
def RightD (d:PyData):Prop:=∃ (us:List Int) (z:Str),d=.tuple [.tuple (us.map .int),.str z]∧us.length=z.length∧1≤z.length∧z.length≤60∧(∀ c∈z.cps.toList,Lw c)∧R.GrOk us
theorem bls_all (l:List Bool):(l.all id)=true ↔ ∀ b∈l,b=true:=by rw [List.all_eq_true];rfl
section
variable {P:Program} {w:World} {K:PySem.W.Frag} {mg:Str→Option Value} {base:Heap} {k:Nat}
def sp_wholeT:Sp:=fun vs H Q _=>∃ (v:V) (d:PyData),vs=[v]∧Td H v d∧Q (.bl (wholeD d)) H
theorem has_wholeT (D:Df K mg "is_whole" s_is_whole) (B:Blt7 mg):Has P w K mg base "is_whole" (k+1) ["thing"] sp_wholeT:=by
  refine D.has sc_is_whole (fun _ _ _ _ _ _ us hl=>match us,hl with | [_],_=>rfl) (fun vs H Q E h=>by obtain ⟨x,d,rfl,_⟩:=h;rfl) (fun f cdv A outer s H vs Q E hr h=>?_)
  obtain ⟨v,d,rfl,td,q⟩:=h
  refine ⟨_,(pss_one (ps_ret (pe_and (pe_callB call_isinst rfl B.isinstance bt_isinstance (pa_cons (pv 0) (pa_cons (pe_bltn (v:=.ty "int") rfl B.int_ bt_int rfl) pa_nil))) (pe_one (pe_not (pe_callB call_isinst rfl B.isinstance bt_isinstance (pa_cons (pv 0) (pa_cons (pe_bltn (v:=.ty "bool") rfl B.bool_ bt_bool rfl) pa_nil)))))))),?_⟩
  obtain ⟨t1,a1,a2⟩:=td_int (K:=K) td
  obtain ⟨t2,b1,b2⟩:=td_bl (K:=K) td
  refine ⟨_,rfl,_,t1, "int", _,rfl,a1,a2,_,rfl,ite2 (fun c=>?_) (fun c=>?_)⟩
  · refine ⟨_,rfl,_,t2, "bool", _,rfl,b1,b2,_,rfl,?_⟩
    have e:wholeD d=!isBlD d:=by cases d <;> first | rfl | cases c
    rw [← e];exact q
  · have e:wholeD d=false:=by cases d <;> first | rfl | (exact absurd rfl c)
    rw [e] at q;exact q
def sp_lettersT:Sp:=fun vs H Q _=>∃ (v:V) (d:PyData),vs=[v]∧Td H v d∧Short d∧∀ H',Same H H'→Q (.bl (letD d)) H'
theorem has_lettersT (D:Df K mg "is_letters" s_is_letters) (B:Blt7 mg):Has P w K mg base "is_letters" (k+1) ["thing"] sp_lettersT:=by
  refine D.has sc_is_letters (fun _ _ _ _ _ _ us hl=>match us,hl with | [_],_=>rfl) (fun vs H Q E h=>by obtain ⟨x,d,rfl,_⟩:=h;rfl) (fun f cdv A outer s H vs Q E hr h=>?_)
  obtain ⟨v,d,rfl,td,sh,q⟩:=h
  obtain ⟨u2,h_LETTERS,r_LETTERS⟩:=B.letters
  refine ⟨_,(pss_one (ps_ret (pe_and (pe_callB call_isinst rfl B.isinstance bt_isinstance (pa_cons (pv 0) (pa_cons (pe_bltn (v:=.ty "str") rfl B.str_ bt_str rfl) pa_nil))) (pe_one (pe_callB (call_all rfl) rfl B.all bt_all (pa_cons (pe_comp rfl (pi_str (pv 0)) (NL:=["sign"]) (ix:=[]) (csc (defScope s_is_letters) N_is_letters) (fun cl C s₃ H₃ fp pins=>⟨(pg_name (i:=0) (show List.Nodup (["sign"]:List Str) from by decide +kernel) rfl (by first | exact Or.inl rfl | exact Or.inr rfl)),pifs_nil,(pe_cmpR op_in_str (pv 0) (pe_glob (v:=.str "abcdefghijklmnopqrstuvwxyz") rfl h_LETTERS r_LETTERS) (by with_unfolding_all rfl))⟩)) pa_nil)))))),?_⟩
  obtain ⟨t1,a1,a2⟩:=td_str (K:=K) td
  refine ⟨_,rfl,_,t1, "str", _,rfl,a1,a2,_,rfl,ite2 (fun c=>?_) (fun c=>?_)⟩
  rotate_left
  · have e:letD d=false:=by cases d <;> first | rfl | (exact absurd rfl c)
    have:=q H (Same.refl H)
    rw [e] at this;exact this
  obtain ⟨z,rfl,rfl⟩:=isStr_ex td c
  obtain ⟨zl,zc⟩:=sh z rfl
  have zs:z.cps.size≤900:=zl
  refine ⟨_,rfl,_,rfl,fun a1 ha1=>?_⟩
  refine comp_str (by omega) (fun i ys HX=>HX a1=some (.lst ys)∧Same H HX∧ys=((z.cps.toList.take i).map lwB).map V.bl)
    (fun i ys HX h=>⟨h.1,by rw [h.2.2,List.length_map,List.length_map,List.length_take];exact Nat.min_le_left _ _⟩) ⟨upd_same,(Same.refl H).new ha1,rfl⟩ ?_ ?_
  rotate_left
  · rintro i ch ys HX hc ⟨g1,g2,rfl⟩
    have hc':z.cps.toList[i]?=some ch:=by rw [← Array.getElem?_toList] at hc;exact hc
    refine ⟨rfl,_,rfl,_,_,rfl,rfl,?_⟩
    rw [in_abc (zc ch (List.mem_of_getElem? hc'))]
    refine ⟨g1,upd_same,g2.write ha1,?_⟩
    rw [List.take_succ,hc',List.map_append,List.map_append];rfl
  rintro ys H1 ⟨g1,s1,rfl⟩
  refine ⟨a1,_,rfl,SqL.of g1,?_⟩
  have e:(((z.cps.toList.take z.cps.size).map lwB).all id)=letD (.str z):=by
    show _=z.cps.toList.all lwB
    rw [← Array.length_toList,List.take_length,List.all_map];rfl
  rw [e]
  exact q _ s1
def sp_labelsT:Sp:=fun vs H Q _=>∃ (v:V) (d:PyData),vs=[v]∧Td H v d∧Short d∧∀ H',Same H H'→Q (.bl (labD d)) H'
theorem has_labelsT (D:Df K mg "is_labels" s_is_labels) (B:Blt7 mg) (G_is_letters:Has P w K mg base "is_letters" k ["thing"] sp_lettersT):Has P w K mg base "is_labels" (k+1) ["thing"] sp_labelsT:=by
  refine D.has sc_is_labels (fun _ _ _ _ _ _ us hl=>match us,hl with | [_],_=>rfl) (fun vs H Q E h=>by obtain ⟨x,d,rfl,_⟩:=h;rfl) (fun f cdv A outer s H vs Q E hr h=>?_)
  obtain ⟨v,d,rfl,td,sh,q⟩:=h
  obtain ⟨u1,h_MOST_PLACES,r_MOST_PLACES⟩:=B.most
  refine ⟨_,(pss_one (ps_ret (pe_and (pe_callH G_is_letters hr rfl (pa_cons (pv 0) pa_nil)) (pe_one (pe_chain op_le op_le pe_int (pe_callB call_len_str rfl B.len bt_len (pa_cons (pv 0) pa_nil)) (pe_glob (v:=.int 60) rfl h_MOST_PLACES r_MOST_PLACES)))))),?_⟩
  refine ⟨_,rfl,v,d,rfl,td,sh,fun H1 s1=>⟨_,rfl,ite2 (fun c=>?_) (fun c=>?_)⟩⟩
  rotate_left
  · have e:labD d=false:=by
      cases d with
      | str z=>
        have c':z.cps.toList.all lwB=false:=Bool.eq_false_iff.mpr c
        show (z.cps.toList.all lwB && _)=false
        rw [c',Bool.false_and]
      | _=>rfl
    have:=q H1 s1
    rw [e] at this;exact this
  have hs:isStrD d=true:=by cases d <;> first | rfl | cases c
  obtain ⟨z,rfl,rfl⟩:=isStr_ex td hs
  obtain ⟨zl,zc⟩:=sh z rfl
  have q1:=q H1 s1
  have c':z.cps.toList.all lwB=true:=c
  have e:labD (.str z)=(decide (1≤z.length) && decide (z.length≤60)):=by show (z.cps.toList.all lwB && _)=_;rw [c',Bool.true_and]
  rw [e] at q1
  refine ⟨_,rfl,_,rfl,Nat.le_of_lt (small1000 (by omega)),_,_,rfl,rfl,_,rfl,?_⟩
  have d1:decide ((1:Int)≤(z.length:Int))=decide (1≤z.length):=by rw [Bool.eq_iff_iff,decide_eq_true_eq,decide_eq_true_eq];omega
  have d2:decide ((z.length:Int)≤60)=decide (z.length≤60):=by rw [Bool.eq_iff_iff,decide_eq_true_eq,decide_eq_true_eq];omega
  refine ite2 (fun x=>?_) (fun x=>?_)
  · have x':decide (1≤z.length)=true:=by rw [← d1];exact x
    rw [x',Bool.true_and,← d2] at q1
    exact ⟨_,_,rfl,rfl,q1⟩
  · have x':decide (1≤z.length)=false:=by rw [← d1];exact Bool.eq_false_iff.mpr x
    rw [x',Bool.false_and] at q1
    exact q1
def sp_upsT:Sp:=fun vs H Q _=>∃ (v:V) (d:PyData) (m:Nat),vs=[v,.int (m:Int)]∧Td H v d∧1≤m∧m≤60∧∀ (b:Bool) (H':Hp),Same H H'→(b=true ↔ UpsD d m)→Q (.bl b) H'
theorem has_upsT (D:Df K mg "is_ups" s_is_ups) (B:Blt7 mg) (G1:Has P w K mg base "is_whole" k ["thing"] sp_whole) (G2:Has P w K mg base "is_whole" k ["thing"] sp_wholeT) (G_all_above:Has P w K mg base "all_above" k ["ups", "place"] sp_all):Has P w K mg base "is_ups" (k+1) ["thing", "many"] sp_upsT:=by
  refine D.has sc_is_ups (fun _ _ _ _ _ _ us hl=>match us,hl with | [_,_],_=>rfl) (fun vs H Q E h=>by obtain ⟨x,d,m,rfl,_⟩:=h;rfl) (fun f cdv A outer s H vs Q E hr h=>?_)
  obtain ⟨v,d,m,rfl,td,m1,m60,q⟩:=h
  have no:∀ {b:Bool},b=false→¬ UpsD d m→(b=true ↔ UpsD d m):=fun {b} e n=>by rw [e];exact ⟨(fun z=>by cases z),fun z=>absurd z n⟩
  by_cases hi:∃ us:List Int,d=.tuple (us.map .int)∧us.length=m
  · obtain ⟨us,rfl,rfl⟩:=hi
    obtain ⟨u,xs,ds,rfl,ed,hu,tds⟩:=isTup_ex td rfl
    obtain rfl:us.map PyData.int=ds:=by injection ed
    obtain ⟨us',e1,rfl⟩:=wholes_ints tds (fun d hd=>by obtain ⟨i,_,rfl⟩:=List.mem_map.mp hd;rfl)
    have inj:∀ l l':List Int,l.map PyData.int=l'.map PyData.int→l=l':=fun l l' e=>(List.map_inj_right (fun a b h=>by injection h)).mp e
    obtain rfl:us=us':=inj _ _ e1
    have l1:=m1
    have l60:=m60
    have q:∀ (b:Bool) (H':Hp),Same H H'→(b=true ↔ R.GrOk us)→Q (.bl b) H':=fun b H' s g=>q b H' s (g.trans ⟨fun g=>⟨us,rfl,rfl,g⟩,fun ⟨us2,e,_,g⟩=>by
      have:us=us2:=inj _ _ (by injection e)
      rw [this];exact g⟩)
    have G_is_whole:=G1
    refine ⟨_,(pss_cons (ps_if (PW.pt (pw_or (pt_not (pt_val (pe_callB call_isinst rfl B.isinstance bt_isinstance (pa_cons (pv 0) (pa_cons (pe_bltn (v:=.ty "tuple") rfl B.tuple_ bt_tuple rfl) pa_nil))))) (pw_or1 (pt_cmpR op_ne (pe_callB call_len_seq rfl B.len bt_len (pa_cons (pv 0) pa_nil)) (pv 1) (nomark _)))))
  (pss_one (ps_ret pe_bl))
  pss_nil)
  (pss_cons (ps_if (PW.pt (pw_or (pt_not (pt_val (pe_callB (call_all rfl) rfl B.all bt_all (pa_cons (pe_comp rfl (pi_tup (pv 0)) (NL:=["up"]) (ix:=[]) (csc (defScope s_is_ups) N_is_ups) (fun cl C s₃ H₃ fp pins=>⟨(pg_name (i:=0) (show List.Nodup (["up"]:List Str) from by decide +kernel) rfl (by first | exact Or.inl rfl | exact Or.inr rfl)),pifs_nil,(pe_callH G_is_whole hr rfl (pa_cons (pv 0) pa_nil))⟩)) pa_nil)))) (pw_or1 (pt_cmpR op_ne (pe_ix ix_tup (pv 0) pe_int (fun _ _=>rfl)) (pe_un un_neg pe_int) (nomark _)))))
  (pss_one (ps_ret pe_bl))
  pss_nil)
  (pss_cons (ps_for PassesOwn.never rfl (pi_range2 rfl B.range (pa_cons pe_int (pa_cons (pv 1) pa_nil))) (pg_name (i:=2) sc_is_ups.nd rfl (by first | exact Or.inl rfl | exact Or.inr rfl))
  (pss_cons (ps_set (i:=3) sc_is_ups.nd rfl (by first | exact Or.inl rfl | exact Or.inr rfl) (pe_op op_sub (pv 2) pe_int))
  (pss_one (ps_if (PW.pt (pw_and (pt_cmpR op_ne (pe_ix ix_tup (pv 0) (pv 2) (fun _ _=>rfl)) (pv 3) (nomark _)) (pw_and1 (pt_cmpR op_notIn_seq (pe_ix ix_tup (pv 0) (pv 2) (fun _ _=>rfl)) (pe_callH G_all_above hr rfl (pa_cons (pv 0) (pa_cons (pv 3) pa_nil))) (by with_unfolding_all rfl)))))
  (pss_one (ps_ret pe_bl))
  pss_nil))))
  (pss_one (ps_ret pe_bl))))),?_⟩
    refine ⟨_,rfl,_,_,_,true,rfl,.tup hu,kit_same _ _,_,rfl,iteF ?_⟩
    refine ⟨_,rfl,u,_,rfl,.inr (SqT.of hu),_,rfl,rfl,_,rfl,R.iteN (by rw [List.length_map];simp) ?_⟩
    refine ⟨_,rfl,u,rfl,⟨_,SqT.of hu⟩,fun a1 ha1'=>?_⟩
    refine comp_tupl (K:=K) (a:=u) (xs:=us.map V.int) (by rw [List.length_map];omega) (fun i ys HX=>HX a1=some (.lst ys)∧Same H HX∧ys=(List.replicate i true).map V.bl)
      (fun i ys HX h=>SqT.of (h.2.1 _ _ hu)) (fun i ys HX h=>⟨h.1,by rw [h.2.2,List.length_map,List.length_replicate];exact Nat.le_refl _⟩) ⟨upd_same,(Same.refl H).new ha1',rfl⟩ ?_ ?_
    rotate_left
    · rintro i x ys HX hx ⟨g1,g2,rfl⟩
      obtain ⟨n,hn,rfl⟩:=List.mem_map.mp (List.mem_of_getElem? hx)
      exact ⟨rfl,_,rfl,n,rfl,g1,upd_same,g2.write ha1',trues_snoc i⟩
    rintro ys H2 ⟨g1,s2,rfl⟩
    refine ⟨a1,_,rfl,SqL.of g1,_,rfl,?_⟩
    rw [trues_all]
    refine iteF ?_
    have hu2:=s2 _ _ hu
    refine ⟨_,rfl,u,_,_,_,rfl,rfl,SqT.of hu2,ints_at (by decide) (by omega),_,rfl,rfl,_,rfl,?_⟩
    by_cases r0:us.getD 0 0=-1
    · refine R.iteN (by show (!decide (V.int (us.getD 0 0)=V.int (-1)))=false;rw [r0];simp) ?_
      refine ⟨_,rfl,_,_,rfl,⟨by decide,by decide,by omega,by omega⟩,?_⟩
      have en:(((us.length:Nat):Int) - 1).toNat=us.length - 1:=by omega
      rw [en]
      refine for_range (lo:=1) (n:=us.length - 1) (fun i σ H'=>∃ o2 o3:Option V,σ=[some (.ref u),some (.int (us.length:Int)),o2,o3]∧Same H2 H'∧R.GrOk (us.take (1+i))) ⟨none,none,rfl,Same.refl H2,?_⟩ ?_ ?_
      · have:us.take (1+0)=[-1]:=by
          cases us with
          | nil=>simp at l1
          | cons x r=>rw [show x=-1 from r0];simp
        rw [this];exact R.GrOk.one
      · rintro i σ H' hi ⟨o2,o3,rfl,sX,g⟩
        have huX:=sX _ _ hu2
        have pl:1+i < us.length:=by omega
        have tk:(us.take (1+i)).length=1+i:=by rw [List.length_take];omega
        have ex:us=us.take (1+i)++us.getD (1+i) 0 :: us.drop (1+i+1):=by
          conv=>lhs;rw [← List.take_append_drop (1+i) us]
          rw [List.drop_eq_getElem_cons pl,List.getD_eq_getElem?_getD,List.getElem?_eq_getElem pl];rfl
        have nx:us.take (1+(i+1))=us.take (1+i)++[us.getD (1+i) 0]:=by
          rw [show 1+(i+1)=(1+i)+1 by omega,List.take_succ,List.getElem?_eq_getElem pl,List.getD_eq_getElem?_getD,List.getElem?_eq_getElem pl];rfl
        have iff:=R.gr_next (v:=us.getD (1+i) 0) g (by omega)
        rw [tk] at iff
        have at1:=ints_at (us:=us) (i:=1+(i:Int)) (by omega) (by omega)
        rw [show (1+(i:Int)).toNat=1+i by omega] at at1
        refine ⟨_,rfl,_,_,rfl,rfl,?_⟩
        refine ⟨_,rfl,_,rfl,u,_,_,_,rfl,rfl,SqT.of huX,at1,_,rfl,rfl,_,rfl,?_⟩
        by_cases c1:us.getD (1+i) 0=1+(i:Int) - 1
        · refine R.iteN (by rw [decide_eq_true (by rw [c1])];rfl) ?_
          refine iteF ?_
          refine ⟨_,_,rfl,sX,?_⟩
          rw [nx]
          exact iff.mp (.inl (by omega))
        · refine R.iteB (by rw [decide_eq_false (fun e=>c1 (by injection e))];rfl) ?_
          refine ⟨_,rfl,_,rfl,u,_,_,_,rfl,rfl,SqT.of huX,at1,_,rfl,_,rfl,u,us.take (1+i),us.drop (1+i),List.replicate (us.take (1+i)).length 97,1+(i:Int) - 1,rfl,by rw [List.take_append_drop];exact huX,R.gr_lab g (by omega),by omega,by omega,fun r H3 s3 hr3=>?_⟩
          refine ⟨r,_,rfl,.inl (SqL.of hr3),rfl,flat_ints _,_,rfl,?_⟩
          rw [R.inV_int,show (1+(i:Int) - 1).toNat=1+i - 1 by omega]
          by_cases c2:us.getD (1+i) 0∈chn (us.take (1+i)) (1+i - 1)
          · rw [decide_eq_true c2]
            refine iteF ?_
            refine ⟨_,_,rfl,sX.trans s3,?_⟩
            rw [nx]
            exact iff.mp (.inr c2)
          · rw [decide_eq_false c2]
            refine iteT ?_
            refine q false _ ((s2.trans sX).trans s3) ⟨(fun e=>by cases e),fun gg=>?_⟩
            rw [ex] at gg
            rcases iff.mpr (R.gr_pre g gg) with z | z
            · exact absurd (by omega) c1
            · exact absurd z c2
      · rintro σ H' ⟨o2,o3,rfl,sX,g⟩
        have:us.take (1+(us.length - 1))=us:=List.take_of_length_le (by omega)
        rw [this] at g
        exact q true _ (s2.trans sX) ⟨fun _=>g,fun _=>rfl⟩
    · refine R.iteB (by show (!decide (V.int (us.getD 0 0)=V.int (-1)))=true;rw [decide_eq_false (fun e=>r0 (by injection e))];rfl) ?_
      exact q false _ s2 ⟨(fun e=>by cases e),fun g=>absurd g.root r0⟩
  · have nu:¬ UpsD d m:=fun ⟨us,e,l,_⟩=>hi ⟨us,e,l⟩
    have G_is_whole:=G2
    refine ⟨_,(pss_cons (ps_if (PW.pt (pw_or (pt_not (pt_val (pe_callB call_isinst rfl B.isinstance bt_isinstance (pa_cons (pv 0) (pa_cons (pe_bltn (v:=.ty "tuple") rfl B.tuple_ bt_tuple rfl) pa_nil))))) (pw_or1 (pt_cmpR op_ne (pe_callB call_len_seq rfl B.len bt_len (pa_cons (pv 0) pa_nil)) (pv 1) (nomark _)))))
  (pss_one (ps_ret pe_bl))
  pss_nil)
  (pss_cons (ps_if (PW.pt (pw_or (pt_not (pt_val (pe_callB (call_all rfl) rfl B.all bt_all (pa_cons (pe_comp rfl (pi_tup (pv 0)) (NL:=["up"]) (ix:=[]) (csc (defScope s_is_ups) N_is_ups) (fun cl C s₃ H₃ fp pins=>⟨(pg_name (i:=0) (show List.Nodup (["up"]:List Str) from by decide +kernel) rfl (by first | exact Or.inl rfl | exact Or.inr rfl)),pifs_nil,(pe_callH G_is_whole hr rfl (pa_cons (pv 0) pa_nil))⟩)) pa_nil)))) (pw_or1 (pt_cmpR op_ne (pe_ix ix_tup (pv 0) pe_int (fun _ _=>rfl)) (pe_un un_neg pe_int) (nomark _)))))
  (pss_one (ps_ret pe_bl))
  pss_nil)
  (pss_cons (ps_for PassesOwn.never rfl (pi_range2 rfl B.range (pa_cons pe_int (pa_cons (pv 1) pa_nil))) (pg_name (i:=2) sc_is_ups.nd rfl (by first | exact Or.inl rfl | exact Or.inr rfl))
  (pss_cons (ps_set (i:=3) sc_is_ups.nd rfl (by first | exact Or.inl rfl | exact Or.inr rfl) (pe_op op_sub (pv 2) pe_int))
  (pss_one (ps_if (PW.pt (pw_and (pt_cmpR op_ne (pe_ix ix_tup (pv 0) (pv 2) (fun _ _=>rfl)) (pv 3) (nomark _)) (pw_and1 (pt_cmpR op_notIn_seq (pe_ix ix_tup (pv 0) (pv 2) (fun _ _=>rfl)) (pe_callH G_all_above hr rfl (pa_cons (pv 0) (pa_cons (pv 3) pa_nil))) (by with_unfolding_all rfl)))))
  (pss_one (ps_ret pe_bl))
  pss_nil))))
  (pss_one (ps_ret pe_bl))))),?_⟩
    obtain ⟨t1,a1,a2⟩:=td_tup (K:=K) td
    refine ⟨_,rfl,_,t1, "tuple", _,rfl,a1,a2,_,rfl,?_⟩
    by_cases ct:isTupD d=true
    rotate_left
    · refine iteA (by rw [Bool.eq_false_iff.mpr ct];rfl) ?_
      exact q false H (Same.refl H) (no rfl nu)
    refine iteB (by rw [ct];rfl) ?_
    obtain ⟨u,xs,ds,rfl,rfl,hu,tds⟩:=isTup_ex td ct
    have xl:=tds.len
    refine ⟨_,rfl,u,_,rfl,.inr (SqT.of hu),_,rfl,rfl,_,rfl,?_⟩
    by_cases cl:xs.length=m
    rotate_left
    · refine iteA (by simp;omega) ?_
      exact q false H (Same.refl H) (no rfl nu)
    refine iteB (by rw [cl];simp) ?_
    refine ⟨_,rfl,u,rfl,⟨_,SqT.of hu⟩,fun a1 ha1'=>?_⟩
    refine L2.comp_tupl (K:=K) (a:=u) (xs:=xs) (by omega) (fun i ys HX=>HX a1=some (.lst ys)∧Same H HX∧ys=((ds.take i).map wholeD).map V.bl)
      (fun i ys HX h=>SqT.of (h.2.1 _ _ hu)) (fun i ys HX h=>⟨h.1,by rw [h.2.2,List.length_map,List.length_map,List.length_take];exact Nat.min_le_left _ _⟩) ⟨upd_same,(Same.refl H).new ha1',rfl⟩ ?_ ?_
    rotate_left
    · rintro i x ys HX hx ⟨g1,g2,rfl⟩
      obtain ⟨dx,ex,tx⟩:=tds.get hx
      refine ⟨rfl,_,rfl,x,dx,rfl,tx.same g2,g1,upd_same,g2.write ha1',?_⟩
      rw [List.take_succ,ex,List.map_append,List.map_append];rfl
    rintro ys H2 ⟨g1,s2,rfl⟩
    rw [xl,List.take_length] at g1
    refine ⟨a1,_,rfl,SqL.of g1,_,rfl,?_⟩
    have ea:((ds.map wholeD).all id)=false:=by
      refine Bool.eq_false_iff.mpr fun z=>hi ?_
      have al:∀ d∈ds,wholeD d=true:=fun d hd=>(bls_all _).mp z _ (List.mem_map.mpr ⟨d,hd,rfl⟩)
      obtain ⟨us,e1,e2⟩:=wholes_ints tds al
      exact ⟨us,by rw [e1],by rw [← cl,e2,List.length_map]⟩
    rw [ea]
    refine iteT ?_
    exact q false H2 s2 (no rfl nu)
def sp_istT:Sp:=fun vs H Q _=>∃ (v:V) (d:PyData),vs=[v]∧Td H v d∧(∀ x y,d=.tuple [x,y]→Short y)∧∀ (b:Bool) (H':Hp),Same H H'→(b=true ↔ RightD d)→Q (.bl b) H'
theorem has_istT (D:Df K mg "is_tree" s_is_tree) (B:Blt7 mg) (G_is_labels:Has P w K mg base "is_labels" k ["thing"] sp_labelsT) (G_is_ups:Has P w K mg base "is_ups" k ["thing", "many"] sp_upsT):Has P w K mg base "is_tree" (k+1) ["thing"] sp_istT:=by
  refine D.has sc_is_tree (fun _ _ _ _ _ _ us hl=>match us,hl with | [_],_=>rfl) (fun vs H Q E h=>by obtain ⟨x,d,rfl,_⟩:=h;rfl) (fun f cdv A outer s H vs Q E hr h=>?_)
  obtain ⟨v,d,rfl,td,sh,q⟩:=h
  refine ⟨_,(pss_cons (ps_if (PW.pt (pw_or (pt_not (pt_val (pe_callB call_isinst rfl B.isinstance bt_isinstance (pa_cons (pv 0) (pa_cons (pe_bltn (v:=.ty "tuple") rfl B.tuple_ bt_tuple rfl) pa_nil))))) (pw_or1 (pt_cmpR op_ne (pe_callB call_len_seq rfl B.len bt_len (pa_cons (pv 0) pa_nil)) pe_int (nomark _)))))
  (pss_one (ps_ret pe_bl))
  pss_nil)
  (pss_one (ps_ret (pe_and (pe_callH G_is_labels hr rfl (pa_cons (pe_ix ix_tup (pv 0) pe_int (fun _ _=>rfl)) pa_nil)) (pe_one (pe_callH G_is_ups hr rfl (pa_cons (pe_ix ix_tup (pv 0) pe_int (fun _ _=>rfl)) (pa_cons (pe_callB call_len_str rfl B.len bt_len (pa_cons (pe_ix ix_tup (pv 0) pe_int (fun _ _=>rfl)) pa_nil)) pa_nil)))))))),?_⟩
  have no:¬ RightD d→(false=true ↔ RightD d):=fun n=>⟨(fun z=>by cases z),fun z=>absurd z n⟩
  obtain ⟨t1,a1,a2⟩:=td_tup (K:=K) td
  refine ⟨_,rfl,_,t1, "tuple", _,rfl,a1,a2,_,rfl,?_⟩
  by_cases ct:isTupD d=true
  rotate_left
  · refine iteA (by rw [Bool.eq_false_iff.mpr ct];rfl) ?_
    exact q false H (Same.refl H) (no fun ⟨us,z,e,_⟩=>ct (by rw [e];rfl))
  refine iteB (by rw [ct];rfl) ?_
  obtain ⟨a,xs,ds,rfl,rfl,ha,tds⟩:=isTup_ex td ct
  have xl:=tds.len
  refine ⟨_,rfl,a,_,rfl,.inr (SqT.of ha),rfl,_,rfl,?_⟩
  by_cases cl:xs.length=2
  rotate_left
  · refine iteA (by simp;omega) ?_
    exact q false H (Same.refl H) (no fun ⟨us,z,e,_⟩=>cl (by rw [xl];injection e with e;rw [e];rfl))
  refine iteB (by rw [cl];simp) ?_
  obtain ⟨x,y,rfl⟩:∃ x y,xs=[x,y]:=by
    match xs,cl with
    | [x,y],_=>exact ⟨x,y,rfl⟩
  cases tds with
  | cons tx t2=>
    rename_i dx ds2
    cases t2 with
    | cons ty t3=>
      rename_i dy ds3
      cases t3
      have shy:=sh dx dy rfl
      refine ⟨_,rfl,a,_,_,_,rfl,rfl,SqT.of ha,rfl,y,dy,rfl,ty,shy,fun H1 s1=>⟨_,rfl,ite2 (fun c=>?_) (fun c=>?_)⟩⟩
      rotate_left
      · refine q false H1 s1 (no fun ⟨us,z,e,l1,l2,l3,lw,g⟩=>c ?_)
        have e2:dy=.str z:=by injection e with e;injection e with _ e;injection e
        rw [e2]
        show (z.cps.toList.all lwB && (decide (1≤z.length) && decide (z.length≤60)))=true
        rw [decide_eq_true l2,decide_eq_true l3,List.all_eq_true.mpr fun c hc=>lwB_iff.mpr (lw c hc)];rfl
      have hs:isStrD dy=true:=by cases dy <;> first | rfl | cases c
      obtain ⟨z,rfl,rfl⟩:=isStr_ex ty hs
      have c':(z.cps.toList.all lwB && (decide (1≤z.length) && decide (z.length≤60)))=true:=c
      rw [Bool.and_eq_true,Bool.and_eq_true,decide_eq_true_eq,decide_eq_true_eq] at c'
      obtain ⟨c1,c2,c3⟩:=c'
      have ha1:=s1 _ _ ha
      refine ⟨_,rfl,a,_,_,_,rfl,rfl,SqT.of ha1,rfl,_,rfl,a,_,_,_,rfl,rfl,SqT.of ha1,rfl,z,rfl,Nat.le_of_lt (small1000 (by omega)),x,dx,z.length,rfl,tx.same s1,c2,c3,fun b H2 s2 hb=>?_⟩
      refine q b H2 (s1.trans s2) (hb.trans ⟨fun ⟨us,e,l,g⟩=>⟨us,z,by rw [e],l,c2,c3,fun c hc=>lwB_iff.mp (List.all_eq_true.mp c1 c hc),g⟩,fun ⟨us,z',e,l1,_,_,_,g⟩=>?_⟩)
      injection e with e
      injection e with ea eb
      injection eb with eb _
      injection eb with eb
      exact ⟨us,ea,by rw [l1,eb],g⟩
end
end S53
namespace S53
open PySem L2 W7
def Shy (d:PyData):Prop:=∀ x y,d=.tuple [x,y]→Short y
def riB (cs:List Nat) (i:Nat):Bool:=decide (cs.getD i 0 < cs.getD (i+1) 0)
def riseB (cs:List Nat):Bool:=(List.range (cs.length - 1)).all (riB cs)
def bel (us:List Int) (lab:List Nat) (p:Nat):List Nat:=(ben us (p:Int) us.length).map fun j=>lab.getD j 0
def TrieD (d:PyData):Prop:=∃ (us:List Int) (z:Str),d=.tuple [.tuple (us.map .int),.str z]∧us.length=z.length∧1≤z.length∧z.length≤60∧(∀ c∈z.cps.toList,Lw c)∧R.GrOk us∧∀ p,p < us.length→riseB (bel us z.cps.toList p)=true
theorem right_ex2 {H:Hp} {v:V} {d:PyData} (t:Td H v d) (r:RightD d):∃ (a u:Addr) (us:List Int) (z:Str),v=.ref a∧d=.tuple [.tuple (us.map .int),.str z]∧H a=some (.tup [.ref u,.str z])∧H u=some (.tup (us.map V.int))∧us.length=z.length∧1≤z.length∧z.length≤60∧(∀ c∈z.cps.toList,Lw c)∧R.GrOk us:=by
  obtain ⟨us,z,rfl,e1,l1,l6,lw,g⟩:=r
  cases t with
  | tup ha t1=>
    cases t1 with
    | cons tx t2=>
      cases t2 with
      | cons ty t3=>
        cases t3
        cases ty
        cases tx with
        | tup hu tu=>
          obtain ⟨us',f1,rfl⟩:=wholes_ints tu (fun d hd=>by obtain ⟨x,_,rfl⟩:=List.mem_map.mp hd;rfl)
          obtain rfl:us=us':=(List.map_inj_right (fun a b h=>by injection h)).mp f1
          exact ⟨_,_,us,z,rfl,rfl,ha,hu,e1,l1,l6,lw,g⟩
theorem us_one {us us':List Int} {z z':Str} (h:PyData.tuple [.tuple (us.map .int),.str z]=.tuple [.tuple (us'.map .int),.str z']):us=us'∧z=z':=by
  injection h with h
  injection h with h1 h2
  injection h2 with h2 _
  injection h1 with h1
  injection h2 with h2
  exact ⟨(List.map_inj_right (fun a b h=>by injection h)).mp h1,h2⟩
section
variable {P:Program} {w:World} {K:PySem.W.Frag} {mg:Str→Option Value} {base:Heap} {k:Nat}
def sp_risingT:Sp:=fun vs H Q _=>∃ (l:Addr) (cs:List Nat),vs=[.ref l]∧H l=some (.lst (oneV cs))∧cs.length≤60∧∀ H',Same H H'→Q (.bl (riseB cs)) H'
theorem has_risingT (D:Df K mg "is_rising" s_is_rising) (B:Blt7 mg):Has P w K mg base "is_rising" (k+1) ["things"] sp_risingT:=by
  refine D.has sc_is_rising (fun _ _ _ _ _ _ us hl=>match us,hl with | [_],_=>rfl) (fun vs H Q E h=>by obtain ⟨l,cs,rfl,_⟩:=h;rfl) (fun f cdv A outer s H vs Q E hr h=>?_)
  obtain ⟨l,cs,rfl,hl,c60,q⟩:=h
  refine ⟨_,(pss_one (ps_ret (pe_callB (call_all rfl) rfl B.all bt_all (pa_cons (pe_comp rfl (pi_range2 rfl B.range (pa_cons pe_int (pa_cons (pe_callB call_len_seq rfl B.len bt_len (pa_cons (pv 0) pa_nil)) pa_nil))) (NL:=["k"]) (ix:=[0]) (csc (defScope s_is_rising) N_is_rising) (fun cl C s₃ H₃ fp pins=>⟨(pg_name (i:=0) (show List.Nodup (["k", "things"]:List Str) from by decide +kernel) rfl (by first | exact Or.inl rfl | exact Or.inr rfl)),pifs_nil,(pe_cmpR op_lt_str (pe_ix (ix_listK K) (pv 1) (pe_op op_sub (pv 0) pe_int) (fun _ _=>rfl)) (pe_ix (ix_listK K) (pv 1) (pv 0) (fun _ _=>rfl)) (nomark _))⟩)) pa_nil)))),?_⟩
  have ol:(oneV cs).length=cs.length:=by unfold oneV;exact List.length_map _
  refine ⟨_,rfl,l,_,rfl,.inl (SqL.of hl),_,_,rfl,⟨by decide,by decide,by omega,by omega⟩,fun acc hacc=>?_⟩
  have eN:((((oneV cs).length:Nat):Int) - 1).toNat=cs.length - 1:=by omega
  refine comp_by ((((oneV cs).length:Nat):Int) - 1).toNat (by omega) (fun i ys HX=>HX acc=some (.lst ys)∧Same H HX∧ys=((List.range i).map (riB cs)).map V.bl)
    (fun i ys HX h=>⟨h.1,by rw [h.2.2,List.length_map,List.length_map,List.length_range];exact Nat.le_refl _⟩) ⟨upd_same,(Same.refl H).new hacc,rfl⟩ ?_ ?_
  rotate_left
  · rintro i ys HX hi ⟨g1,g2,rfl⟩
    refine ⟨hi,?_⟩
    rw [eN] at hi
    rintro x HX' ⟨rfl,rfl⟩
    have a1:atI (oneV cs) (1+(i:Int) - 1)=some (.str ⟨#[cs.getD i 0]⟩):=by rw [show (1+(i:Int) - 1)=(i:Int) by omega];exact one_at (by omega)
    have a2:atI (oneV cs) (1+(i:Int))=some (.str ⟨#[cs.getD (i+1) 0]⟩):=by rw [show (1+(i:Int))=((i+1:Nat):Int) by omega];exact one_at (by omega)
    refine ⟨rfl,_,rfl,_,rfl,_,_,rfl,rfl,l,_,_,_,rfl,rfl,SqL.of (g2 _ _ hl),a1,_,rfl,_,rfl,l,_,_,_,rfl,rfl,SqL.of (g2 _ _ hl),a2,_,_,rfl,rfl,g1,upd_same,g2.write hacc,?_⟩
    have e:decide ((⟨#[cs.getD i 0]⟩:Str).cps.toList < (⟨#[cs.getD (i+1) 0]⟩:Str).cps.toList)=riB cs i:=by
      unfold riB
      rw [Bool.eq_iff_iff,decide_eq_true_eq,decide_eq_true_eq]
      show [cs.getD i 0] < [cs.getD (i+1) 0] ↔ _
      rw [List.cons_lt_cons_iff];simp
    rw [e,List.range_succ,List.map_append,List.map_append];rfl
  rintro ys H1 ⟨g1,s1,rfl⟩
  refine ⟨Nat.le_refl _,acc,_,rfl,SqL.of g1,?_⟩
  have e:(((List.range ((((oneV cs).length:Nat):Int) - 1).toNat).map (riB cs)).all id)=riseB cs:=by
    unfold riseB
    rw [eN,List.all_map];rfl
  rw [e]
  exact q _ s1
def sp_itT:Sp:=fun vs H Q _=>∃ (v:V) (d:PyData),vs=[v]∧Td H v d∧Shy d∧∀ (b:Bool) (H':Hp),Same H H'→(b=true ↔ TrieD d)→Q (.bl b) H'
theorem has_itT (D:Df K mg "is_trie" s_is_trie) (B:Blt7 mg) (G_is_tree:Has P w K mg base "is_tree" k ["thing"] sp_istT) (G_is_rising:Has P w K mg base "is_rising" k ["things"] sp_risingT) (G_letters_beneath:Has P w K mg base "letters_beneath" k ["tree", "place"] sp_below):Has P w K mg base "is_trie" (k+1) ["thing"] sp_itT:=by
  refine D.has sc_is_trie (fun _ _ _ _ _ _ us hl=>match us,hl with | [_],_=>rfl) (fun vs H Q E h=>by obtain ⟨v,d,rfl,_⟩:=h;rfl) (fun f cdv A outer s H vs Q E hr h=>?_)
  obtain ⟨v,d,rfl,td,shy,q⟩:=h
  refine ⟨_,(pss_one (ps_ret (pe_and (pe_callH G_is_tree hr rfl (pa_cons (pv 0) pa_nil)) (pe_one (pe_callB (call_all rfl) rfl B.all bt_all (pa_cons (pe_comp rfl (pi_range1 rfl B.range (pa_cons (pe_callB call_len_str rfl B.len bt_len (pa_cons (pe_ix ix_tup (pv 0) pe_int (fun _ _=>rfl)) pa_nil)) pa_nil)) (NL:=["place"]) (ix:=[0]) (csc (defScope s_is_trie) N_is_trie) (fun cl C s₃ H₃ fp pins=>⟨(pg_name (i:=0) (show List.Nodup (["place", "thing"]:List Str) from by decide +kernel) rfl (by first | exact Or.inl rfl | exact Or.inr rfl)),pifs_nil,(pe_callH G_is_rising hr rfl (pa_cons (pe_callH G_letters_beneath hr rfl (pa_cons (pv 1) (pa_cons (pv 0) pa_nil))) pa_nil))⟩)) pa_nil)))))),?_⟩
  refine ⟨_,rfl,v,d,rfl,td,shy,fun b H1 s1 hb=>⟨b,rfl,?_⟩⟩
  by_cases cb:b=true
  rotate_left
  · refine L2.iteB (Bool.eq_false_iff.mpr cb) ?_
    refine q false H1 s1 ⟨(fun z=>by cases z),fun ⟨us,z,e,l,l1,l6,lw,g,_⟩=>absurd (hb.mpr ⟨us,z,e,l,l1,l6,lw,g⟩) cb⟩
  refine iteA cb ?_
  obtain ⟨t,u,ups,lab,rfl,rfl,ht,hu,e1,l1,l6,lw,g⟩:=right_ex2 td (hb.mp cb)
  have ll:lab.cps.toList.length=lab.length:=Array.length_toList
  have ok:TreeOk ups lab.cps.toList:=⟨by rw [ll];exact e1,g.pos,by omega,g.root,g.up⟩
  have tr:TreeAt H t ups lab:=⟨u,ht,hu,ok⟩
  refine ⟨_,rfl,t,_,_,_,rfl,rfl,SqT.of (s1 _ _ ht),rfl,lab,rfl,Nat.le_of_lt (small1000 (by omega)),_,rfl,by omega,by omega,fun acc hacc=>?_⟩
  have eN:(((lab.length:Nat):Int)).toNat=ups.length:=by omega
  refine comp_by (((lab.length:Nat):Int)).toNat (by omega) (fun i ys HX=>HX acc=some (.lst ys)∧Same H1 HX∧ys=((List.range i).map fun p=>riseB (bel ups lab.cps.toList p)).map V.bl)
    (fun i ys HX h=>⟨h.1,by rw [h.2.2,List.length_map,List.length_map,List.length_range];exact Nat.le_refl _⟩) ⟨upd_same,(Same.refl H1).new hacc,rfl⟩ ?_ ?_
  rotate_left
  · rintro i ys HX hi ⟨g1,g2,rfl⟩
    refine ⟨hi,?_⟩
    rintro x HX' ⟨rfl,rfl⟩
    refine ⟨rfl,_,rfl,_,rfl,t,ups,lab,_,rfl,(tr.same s1).same g2,fun r H2 s2 hf2 hr2=>?_⟩
    have e0:(0:Int)+(i:Int)=(i:Int):=Int.zero_add _
    rw [e0] at hr2
    refine ⟨r,_,rfl,hr2,?_,fun H3 s3=>?_⟩
    · rw [List.length_map];have:=ben_le ups (i:Int) ups.length;omega
    · have s23:=s2.trans s3
      refine ⟨s23 _ _ g1,upd_same,(g2.trans s23).write hacc,?_⟩
      rw [List.range_succ,List.map_append,List.map_append];rfl
  rintro ys H2 ⟨g1,s2,rfl⟩
  refine ⟨Nat.le_refl _,acc,_,rfl,SqL.of g1,?_⟩
  refine q _ _ (s1.trans s2) ?_
  rw [eN,bls_all]
  constructor
  · intro h
    exact ⟨ups,lab,rfl,e1,l1,l6,lw,g,fun p hp=>h _ (List.mem_map.mpr ⟨p,List.mem_range.mpr hp,rfl⟩)⟩
  · rintro ⟨us',z',e,_,_,_,_,_,h⟩
    obtain ⟨rfl,rfl⟩:=us_one e
    intro b hb
    obtain ⟨p,hp,rfl⟩:=List.mem_map.mp hb
    exact h p (List.mem_range.mp hp)
end
end S53
namespace S53
open PySem L2 W7
open S53.R (natV natV_ints trues_all trues_snoc sp_whole sp_all)
def fc (us:List Int) (k:Nat):List Int:=(k:Int) :: chn us k
theorem fc_drop {us:List Int} {lab:List Nat} (t:TreeOk us lab):∀ (n k:Nat),k < n→k < us.length→∀ v∈fc us k,(fc us k).drop ((fc us k).idxOf v)=fc us v.toNat
  | 0,_,h,_,_,_=>absurd h (Nat.not_lt_zero _)
  | n+1,k,h,hk,v,hv=>by
    by_cases e:v=(k:Int)
    · subst e
      rw [fc,List.idxOf_cons_self,List.drop_zero,Int.toNat_natCast];rfl
    · have hv':v∈chn us k:=(List.mem_cons.mp hv).resolve_left e
      have ec:=chn_eq t hk
      rw [ec] at hv'
      split at hv'
      · cases hv'
      · rename_i h0
        have lt:=t.lt hk h0
        have ef:chn us k=fc us (us.getD k 0).toNat:=by rw [ec,if_neg h0,fc,show (((us.getD k 0).toNat:Nat):Int)=us.getD k 0 by omega]
        have ih:=fc_drop t n (us.getD k 0).toNat (by omega) (by omega) v (by rw [← ef,ec,if_neg h0];exact hv')
        have ei:(fc us k).idxOf v=(chn us k).idxOf v+1:=by
          rw [fc,List.idxOf_cons,show ((k:Int) == v)=false from beq_false_of_ne (Ne.symm e)];rfl
        rw [ei,fc,List.drop_succ_cons,ef]
        exact ih
theorem chn_app {pre more:List Int} {l1 l2:List Nat} (t1:TreeOk pre l1) (t2:TreeOk (pre++more) l2):∀ (n j:Nat),j < n→j < pre.length→chn (pre++more) j=chn pre j
  | 0,_,h,_=>absurd h (Nat.not_lt_zero _)
  | n+1,j,h,hj=>by
    rw [chn_eq t2 (by rw [List.length_append];omega),chn_eq t1 hj,R.getD_app,if_pos hj]
    split
    · rfl
    · rename_i h0
      have lt:=t1.lt hj h0
      rw [chn_app t1 t2 n _ (by omega) (by omega)]
theorem fc_next {pre:List Int} {v:Int} (g:R.GrOk pre) (h60:pre.length≤60) (g2:R.GrOk (pre++[v])) (h61:(pre++[v]).length≤60):fc (pre++[v]) pre.length=(pre.length:Int) :: fc pre v.toNat:=by
  have t1:=R.gr_lab g h60
  have t2:=R.gr_lab g2 h61
  have pl:=g.pos
  have up:=g2.up pre.length pl (by rw [List.length_append,List.length_singleton];omega)
  have ev:(pre++[v]).getD pre.length 0=v:=by rw [R.getD_app,if_neg (by omega),Nat.sub_self];rfl
  rw [ev] at up
  rw [fc,chn_eq t2 (by rw [List.length_append,List.length_singleton];omega),ev,if_neg (by omega),chn_app t1 t2 (v.toNat+1) v.toNat (by omega) (by omega),fc,show ((v.toNat:Nat):Int)=v by omega]
theorem fc_len {us:List Int} {lab:List Nat} (t:TreeOk us lab) {k:Nat} (hk:k < us.length):(fc us k).length≤k+1:=by
  have:=(chn_mem t (k+1) k (Nat.lt_succ_self _) hk).1
  rw [fc,List.length_cons];omega
theorem filt_nil {α:Type} {l:List α} {p:α→Bool}:(l.filter fun x=>!p x)=[] ↔ ∀ x∈l,p x=true:=by
  rw [List.filter_eq_nil_iff]
  constructor
  · intro h x hx
    have:=h x hx
    simpa using this
  · intro h x hx
    rw [h x hx];simp
end S53
namespace S53
open PySem L2 W7
theorem rev_cut {L:List Int} (nd:L.Nodup) {v:Int} (h:v∈L):L.reverse.take (L.reverse.idxOf v+1)=(L.drop (L.idxOf v)).reverse:=by
  obtain ⟨a,b,rfl,na⟩:=List.eq_append_cons_of_mem h
  have nb:v ∉ b:=by
    have:=(List.nodup_append.mp nd).2.1
    exact (List.nodup_cons.mp this).1
  have e1:(a++v :: b).idxOf v=a.length:=by rw [List.idxOf_append,if_neg na,List.idxOf_cons_self,Nat.zero_add]
  have e2:(a++v :: b).reverse=b.reverse++v :: a.reverse:=by rw [List.reverse_append,List.reverse_cons,List.append_assoc];rfl
  have e3:(b.reverse++v :: a.reverse).idxOf v=b.length:=by rw [List.idxOf_append,if_neg (by rw [List.mem_reverse];exact nb),List.idxOf_cons_self,List.length_reverse,Nat.zero_add]
  have e4:b.reverse++v :: a.reverse=(b.reverse++[v])++a.reverse:=by rw [List.append_assoc];rfl
  rw [e1,e2,e3,List.drop_left,List.reverse_cons,e4]
  exact List.take_left' (by rw [List.length_append,List.length_reverse];rfl)
theorem fc_nodup {us:List Int} {lab:List Nat} (t:TreeOk us lab):∀ (n k:Nat),k < n→k < us.length→(fc us k).Nodup
  | 0,_,h,_=>absurd h (Nat.not_lt_zero _)
  | n+1,k,h,hk=>by
    rw [fc,List.nodup_cons]
    refine ⟨fun m=>?_,?_⟩
    · have:=((chn_mem t (k+1) k (Nat.lt_succ_self _) hk).2 _ m).2
      omega
    · rw [chn_eq t hk]
      split
      · exact List.nodup_nil
      · rename_i h0
        have lt:=t.lt hk h0
        have ih:=fc_nodup t n (us.getD k 0).toNat (by omega) (by omega)
        rw [fc,show (((us.getD k 0).toNat:Nat):Int)=us.getD k 0 by omega] at ih
        exact ih
section
variable {P:Program} {w:World} {K:PySem.W.Frag} {mg:Str→Option Value} {base:Heap} {k:Nat}
def UpsR (ds:List PyData):Prop:=∃ us:List Int,ds=us.map .int∧R.GrOk us
def sp_lups:Sp:=fun vs H Q _=>∃ (u:Addr) (xs:List V) (ds:List PyData),vs=[.ref u]∧H u=some (.tup xs)∧Tds H xs ds∧ds.length≤60∧∀ (b:Bool) (H':Hp),Same H H'→(b=true ↔ UpsR ds)→Q (.bl b) H'
theorem has_lups (D:Df K mg "_law_ups" s_law_ups) (B:Blt7 mg):Has P w K mg base "_law_ups" (k+1) ["ups"] sp_lups:=by
  refine D.has sc_law_ups (fun _ _ _ _ _ _ us hl=>match us,hl with | [_],_=>rfl) (fun vs H Q E h=>by obtain ⟨u,xs,ds,rfl,_⟩:=h;rfl) (fun f cdv A outer s H vs Q E hr h=>?_)
  obtain ⟨u,us0,dus,rfl,hu2,tdu,d60,q⟩:=h
  refine ⟨_,(pss_cons (ps_comp (i:=1) sc_law_ups.nd rfl (by first | exact Or.inl rfl | exact Or.inr rfl) rfl (pi_tup (pv 0)) (NL:=["up"]) (ix:=[]) (csc (defScope s_law_ups) N_law_ups) (fun cl C s₃ H₃ fp pins=>⟨(pg_name (i:=0) (show List.Nodup (["up"]:List Str) from by decide +kernel) rfl (by first | exact Or.inl rfl | exact Or.inr rfl)),(pifs_one (PW.pt (pw_or (pt_not (pt_val (pe_callB (call_isinstK K) rfl B.isinstance bt_isinstance (pa_cons (pv 0) (pa_cons (pe_bltn (v:=.ty "int") rfl B.int_ bt_int rfl) pa_nil))))) (pw_or1 (pt_val (pe_callB (call_isinstK K) rfl B.isinstance bt_isinstance (pa_cons (pv 0) (pa_cons (pe_bltn (v:=.ty "bool") rfl B.bool_ bt_bool rfl) pa_nil)))))))),(pv 0)⟩))
  (pss_cons (ps_if (PW.pt (pw_or (pt_cmpR (op_eq_tnil hr.units0) (pv 0) (pe_tup pa_nil) (nomark _)) (pw_or (pt_cmpR (op_ne_nil hr.units0) (pv 1) (pe_lst pa_nil) (nomark _)) (pw_or1 (pt_cmpR op_ne (pe_ix ix_tup (pv 0) pe_int (fun _ _=>rfl)) (pe_un un_neg pe_int) (nomark _))))))
  (pss_one (ps_ret pe_bl))
  pss_nil)
  (pss_cons (ps_set (i:=2) sc_law_ups.nd rfl (by first | exact Or.inl rfl | exact Or.inr rfl) (pe_lst (pa_cons pe_int pa_nil)))
  (pss_cons (ps_for PassesOwn.never rfl (pi_range2 rfl B.range (pa_cons pe_int (pa_cons (pe_callB call_len_seq rfl B.len bt_len (pa_cons (pv 0) pa_nil)) pa_nil))) (pg_name (i:=3) sc_law_ups.nd rfl (by first | exact Or.inl rfl | exact Or.inr rfl))
  (pss_cons (ps_if (pt_cmpR op_notIn_seq (pe_ix ix_tup (pv 0) (pv 3) (fun _ _=>rfl)) (pv 2) (by with_unfolding_all rfl))
  (pss_one (ps_ret pe_bl))
  pss_nil)
  (pss_one (ps_set (i:=2) sc_law_ups.nd rfl (by first | exact Or.inl rfl | exact Or.inr rfl) (pe_op op_cat (pe_slice sl_list (pv 2) po_none (po_some (pe_op op_add (pe_indexI K (pv 2) (pe_ix ix_tup (pv 0) (pv 3) (fun _ _=>rfl))) pe_int))) (pe_lst (pa_cons (pv 3) pa_nil)))))))
  (pss_one (ps_ret pe_bl)))))),?_⟩
  have ul:=tdu.len
  have no:¬ UpsR dus→(false=true ↔ UpsR dus):=fun n=>⟨(fun z=>by cases z),fun z=>absurd z n⟩
  refine ⟨_,rfl,u,rfl,⟨_,SqT.of hu2⟩,fun r3 hr3=>?_⟩
  refine L2.comp_tupl (K:=K) (a:=u) (xs:=us0) (by omega) (fun i ys HX=>HX r3=some (.lst ys)∧Same H HX∧(ys=[] ↔ ∀ d∈dus.take i,wholeD d=true)∧ys.length≤i)
    (fun i ys HX h=>SqT.of (h.2.1 _ _ hu2)) (fun i ys HX h=>⟨h.1,h.2.2.2⟩) ⟨upd_same,(Same.refl H).new hr3,by simp,Nat.le_refl _⟩ ?_ ?_
  rotate_left
  · rintro i x ys HX hx ⟨g3,g4,g5,g6⟩
    obtain ⟨dx,ex,tx⟩:=tdu.get hx
    have txX:=tx.same g4
    obtain ⟨t4,d1,d2⟩:=td_int (K:=K) txX
    obtain ⟨t5,e1,e2⟩:=td_bl (K:=K) txX
    have tk:dus.take (i+1)=dus.take i++[dx]:=by rw [List.take_succ,ex];rfl
    have all1:(∀ d∈dus.take (i+1),wholeD d=true) ↔ (∀ d∈dus.take i,wholeD d=true)∧wholeD dx=true:=by
      rw [tk]
      constructor
      · exact fun h=>⟨fun d hd=>h d (List.mem_append_left _ hd),h dx (by simp)⟩
      · rintro ⟨h1,h2⟩ d hd
        rcases List.mem_append.mp hd with m | m
        · exact h1 d m
        · rw [List.mem_singleton.mp m];exact h2
    have put:wholeD dx=false→HX r3=some (.lst ys)∧(upd HX r3 (.lst (ys++[x])) r3=some (.lst (ys++[x]))∧Same H (upd HX r3 (.lst (ys++[x])))∧(ys++[x]=[] ↔ ∀ d∈dus.take (i+1),wholeD d=true)∧(ys++[x]).length≤i+1):=fun wf=>by
      refine ⟨g3,upd_same,g4.write hr3,⟨fun h=>by simp at h,fun h=>?_⟩,by rw [List.length_append,List.length_singleton];omega⟩
      have:=(all1.mp h).2
      rw [wf] at this;cases this
    refine ⟨rfl,_,rfl,_,t4, "int", _,rfl,d1,d2,_,rfl,?_⟩
    by_cases ci:isIntD dx=true
    rotate_left
    · refine iteA (by rw [Bool.eq_false_iff.mpr ci];rfl) ?_
      exact ⟨_,rfl,put (by cases dx <;> first | rfl | exact absurd rfl ci)⟩
    refine L2.iteB (by rw [ci];rfl) ?_
    refine ⟨_,rfl,_,t5, "bool", _,rfl,e1,e2,_,rfl,ite2 (fun cb=>?_) (fun cb=>?_)⟩
    · exact ⟨_,rfl,put (by cases dx <;> first | rfl | cases cb)⟩
    · have wt:wholeD dx=true:=by cases dx <;> first | rfl | exact absurd rfl cb | cases ci
      exact ⟨g3,g4,by rw [all1,g5];exact ⟨fun h=>⟨h,wt⟩,fun h=>h.1⟩,by omega⟩
  rintro ys H3 ⟨g3,s3,g5,_⟩
  rw [ul,List.take_length] at g5
  refine ⟨_,rfl,(by show 0≤sizeLine;decide),fun e0 he0=>?_⟩
  have sE:Same H3 (upd H3 e0 (.tup [])):=(Same.refl H3).new he0
  have vE:upd H3 e0 (.tup []) e0=some (.tup []):=upd_same
  refine ⟨u,e0,us0,rfl,rfl,SqT.of (sE _ _ (s3 _ _ hu2)),SqT.of vE,_,rfl,?_⟩
  show (fun HH=>_) (upd H3 e0 (.tup []))
  generalize upd H3 e0 (.tup [])=HE at sE vE
  have s0E:=s3.trans sE
  by_cases em:us0=[]
  · refine iteA (by rw [em];rfl) ?_
    refine q false HE s0E (no ?_)
    rintro ⟨us,e,g⟩
    have:=g.pos
    have l0:dus.length=0:=by rw [← ul,em];rfl
    rw [e,List.length_map] at l0;omega
  refine L2.iteB (by cases us0 with | nil=>exact absurd rfl em | cons _ _=>rfl) ?_
  have l1:1≤us0.length:=by cases us0 with | nil=>exact absurd rfl em | cons _ _=>simp
  refine ⟨_,rfl,(by show 0≤sizeLine;decide),fun v2 hv2=>?_⟩
  have gE:=sE _ _ g3
  have ne2:r3≠v2:=ne_of_none gE hv2
  have s4:Same H (upd HE v2 (.lst [])):=s0E.new hv2
  refine ⟨r3,v2,_,rfl,rfl,SqL.of (by rw [upd_ne ne2];exact gE),SqL.of upd_same,_,rfl,?_⟩
  show (fun HH=>_) (upd HE v2 (.lst []))
  generalize upd HE v2 (.lst [])=H4 at s4
  by_cases wh:∀ d∈dus,wholeD d=true
  rotate_left
  · refine iteA ?_ ?_
    · cases ys with
      | nil=>exact absurd (g5.mp rfl) wh
      | cons _ _=>rfl
    · refine q false H4 s4 (no fun ⟨us,e,_⟩=>wh ?_)
      rw [e]
      intro d hd
      obtain ⟨i,_,rfl⟩:=List.mem_map.mp hd
      rfl
  refine L2.iteB (by rw [g5.mpr wh];rfl) ?_
  obtain ⟨us,rfl,rfl⟩:=wholes_ints tdu wh
  rw [List.length_map] at l1 d60
  have inj:∀ l l':List Int,l.map PyData.int=l'.map PyData.int→l=l':=fun l l' e=>(List.map_inj_right (fun a b h=>by injection h)).mp e
  have good:UpsR (us.map .int) ↔ R.GrOk us:=by
    constructor
    · rintro ⟨us',e,g⟩
      rw [inj us us' e];exact g
    · exact fun g=>⟨us,rfl,g⟩
  have hu4:=s4 _ _ hu2
  refine ⟨_,rfl,u,_,_,_,rfl,rfl,SqT.of hu4,ints_at (by decide) (by omega),_,rfl,rfl,_,rfl,?_⟩
  by_cases r0:us.getD 0 0=-1
  rotate_left
  · refine iteA (by show (!decide (V.int (us.getD 0 0)=V.int (-1)))=true;rw [decide_eq_false (fun e=>r0 (by injection e))];rfl) ?_
    exact q false H4 s4 (no fun r=>r0 (good.mp r).root)
  refine L2.iteB (by show (!decide (V.int (us.getD 0 0)=V.int (-1)))=false;rw [r0];simp) ?_
  refine ⟨(by show 1≤sizeLine;decide),fun c0 hc0=>?_⟩
  have s5:Same H4 (upd H4 c0 (.lst [.int 0])):=(Same.refl H4).new hc0
  have h5:upd H4 c0 (.lst [.int 0]) c0=some (.lst [.int 0]):=upd_same
  show (fun HH=>_) (upd H4 c0 (.lst [.int 0]))
  generalize upd H4 c0 (.lst [.int 0])=H5 at s5 h5
  have hu5:=s5 _ _ hu4
  have lm:(us.map V.int).length=us.length:=List.length_map _
  refine ⟨_,rfl,u,_,rfl,.inr (SqT.of hu5),_,_,rfl,⟨by decide,by decide,by omega,by omega⟩,?_⟩
  rw [lm]
  have en:(((us.length:Nat):Int) - 1).toNat=us.length - 1:=by omega
  rw [en]
  have o1:us.take (1+0)=[-1]:=by
    cases us with
    | nil=>simp at l1
    | cons x r=>rw [show x=-1 from r0];simp
  refine for_range (lo:=1) (n:=us.length - 1) (fun i σ H'=>∃ (o3:Option V) (cr:Addr),σ=[some (.ref u),some (.ref r3),some (.ref cr),o3]∧Same H5 H'∧R.GrOk (us.take (1+i))∧H' cr=some (.lst ((fc (us.take (1+i)) i).reverse.map V.int))) ⟨none,c0,rfl,Same.refl H5,by rw [o1];exact R.GrOk.one,by rw [o1];exact h5⟩ ?_ ?_
  · rintro i σ H' hi ⟨o3,cr,rfl,sX,g,hcr⟩
    have huX:=sX _ _ hu5
    have pl:1+i < us.length:=by omega
    have tk:(us.take (1+i)).length=1+i:=by rw [List.length_take];omega
    have ex:us=us.take (1+i)++us.getD (1+i) 0 :: us.drop (1+i+1):=by
      conv=>lhs;rw [← List.take_append_drop (1+i) us]
      rw [List.drop_eq_getElem_cons pl,List.getD_eq_getElem?_getD,List.getElem?_eq_getElem pl];rfl
    have nx:us.take (1+(i+1))=us.take (1+i)++[us.getD (1+i) 0]:=by
      rw [show 1+(i+1)=(1+i)+1 by omega,List.take_succ,List.getElem?_eq_getElem pl,List.getD_eq_getElem?_getD,List.getElem?_eq_getElem pl];rfl
    have iff:=R.gr_next (v:=us.getD (1+i) 0) g (by omega)
    rw [tk] at iff
    have at1:=ints_at (us:=us) (i:=1+(i:Int)) (by omega) (by omega)
    rw [show (1+(i:Int)).toNat=1+i by omega] at at1
    have mem:us.getD (1+i) 0∈fc (us.take (1+i)) i ↔ R.GrOk (us.take (1+i)++[us.getD (1+i) 0]):=by
      rw [← iff,fc,List.mem_cons,show 1+i - 1=i by omega]
      constructor
      · rintro (h | h)
        · exact .inl (by omega)
        · exact .inr h
      · rintro (h | h)
        · exact .inl (by omega)
        · exact .inr h
    refine ⟨_,rfl,_,rfl,u,_,_,_,rfl,rfl,SqT.of huX,at1,_,rfl,cr,_,rfl,.inl (SqL.of hcr),rfl,flat_ints _,?_⟩
    rw [R.inV_int]
    refine ⟨_,rfl,?_⟩
    by_cases cm:us.getD (1+i) 0∈fc (us.take (1+i)) i
    rotate_left
    · refine iteA (by rw [decide_eq_false (by rw [List.mem_reverse];exact cm)];rfl) ?_
      refine q false _ (s4.trans (s5.trans sX)) (no fun r=>cm (mem.mpr ?_))
      have gg:=good.mp r
      rw [ex] at gg
      exact R.gr_pre g gg
    have cmr:us.getD (1+i) 0∈(fc (us.take (1+i)) i).reverse:=List.mem_reverse.mpr cm
    refine L2.iteB (by rw [decide_eq_true cmr];rfl) ?_
    have g2:=mem.mp cm
    have t1:=R.gr_lab g (by omega)
    have fl:=fc_len t1 (k:=i) (by omega)
    have rl:(fc (us.take (1+i)) i).reverse.length=(fc (us.take (1+i)) i).length:=List.length_reverse
    refine ⟨_,rfl,_,rfl,.inl ⟨rfl,_,SqL.of hcr⟩,_,rfl,_,rfl,u,_,_,_,rfl,rfl,SqT.of huX,at1,cr,(fc (us.take (1+i)) i).reverse,us.getD (1+i) 0,rfl,rfl,hcr,cmr,by omega,?_⟩
    refine ⟨_,_,rfl,rfl,_,rfl,cr,_,rfl,SqL.of hcr,fun n2 hn2=>?_⟩
    have ecut:cutV ((fc (us.take (1+i)) i).reverse.map V.int) none (some ((((fc (us.take (1+i)) i).reverse.idxOf (us.getD (1+i) 0):Nat):Int)+1))=(fc (us.take (1+i)) (us.getD (1+i) 0).toNat).reverse.map V.int:=by
      rw [← fc_drop t1 (i+1) i (Nat.lt_succ_self _) (by omega) _ cm,← rev_cut (fc_nodup t1 (i+1) i (Nat.lt_succ_self _) (by omega)) cm]
      have il:=List.idxOf_lt_length_of_mem cmr
      unfold cutV
      rw [show ((((fc (us.take (1+i)) i).reverse.idxOf (us.getD (1+i) 0):Nat):Int)+1)=((((fc (us.take (1+i)) i).reverse.idxOf (us.getD (1+i) 0)+1:Nat)):Int) by omega,HT.sIx_nat,HT.sIx_none,List.length_map,Nat.min_eq_left (by omega),List.drop_zero,Nat.sub_zero,List.map_take]
    rw [ecut]
    have gnext:=fc_next g (by omega) g2 (by rw [List.length_append,tk,List.length_singleton];omega)
    rw [tk] at gnext
    have fl2:(fc (us.take (1+i)) (us.getD (1+i) 0).toNat).length≤60:=by
      have up:=g2.up (1+i) (by omega) (by rw [List.length_append,tk,List.length_singleton];omega)
      have ev:(us.take (1+i)++[us.getD (1+i) 0]).getD (1+i) 0=us.getD (1+i) 0:=by rw [R.getD_app,if_neg (by omega),tk,Nat.sub_self];rfl
      rw [ev] at up
      have:=fc_len t1 (k:=(us.getD (1+i) 0).toNat) (by omega)
      omega
    generalize hfx:(fc (us.take (1+i)) (us.getD (1+i) 0).toNat)=fx at gnext fl2
    have s7:Same H' (upd H' n2 (.lst (fx.reverse.map V.int))):=(Same.refl H').new hn2
    have h7:upd H' n2 (.lst (fx.reverse.map V.int)) n2=some (.lst (fx.reverse.map V.int)):=upd_same
    show (fun HH=>_) (upd H' n2 (.lst (fx.reverse.map V.int)))
    generalize upd H' n2 (.lst (fx.reverse.map V.int))=H7 at s7 h7
    refine ⟨_,rfl,(by show 1≤sizeLine;decide),fun n1 hn1=>?_⟩
    have s8:Same H7 (upd H7 n1 (.lst [.int (1+(i:Int))])):=(Same.refl H7).new hn1
    have h8:upd H7 n1 (.lst [.int (1+(i:Int))]) n1=some (.lst [.int (1+(i:Int))]):=upd_same
    show (fun HH=>_) (upd H7 n1 (.lst [.int (1+(i:Int))]))
    generalize upd H7 n1 (.lst [.int (1+(i:Int))])=H8 at s8 h8
    refine ⟨n2,n1,_,_,rfl,rfl,s8 _ _ h7,h8,Nat.le_of_lt (small1000 (by rw [List.length_map,List.length_reverse];simp only [List.length_cons,List.length_nil];omega)),fun n3 hn3=>?_⟩
    refine ⟨_,n3,rfl,((sX.trans s7).trans s8).new hn3,by rw [nx];exact g2,?_⟩
    rw [upd_same,nx,show (i+1)=1+i by omega,gnext,List.reverse_cons,List.map_append,show (((1+i:Nat)):Int)=1+(i:Int) by omega];rfl
  · rintro σ H' ⟨o3,cr,rfl,sX,g,_⟩
    have:us.take (1+(us.length - 1))=us:=List.take_of_length_le (by omega)
    rw [this] at g
    exact q true _ (s4.trans (s5.trans sX)) ⟨fun _=>good.mpr g,fun _=>rfl⟩
end
end S53
namespace S53
open PySem L2 W7
abbrev oneS (cs:List Nat):List Str:=cs.map fun c=>(⟨#[c]⟩:Str)
theorem oneS_V (cs:List Nat):(oneS cs).map V.str=oneV cs:=by unfold oneV;rw [List.map_map];rfl
theorem one_lt {c d:Nat}:(⟨#[c]⟩:Str).cps.toList < (⟨#[d]⟩:Str).cps.toList ↔ c < d:=by
  show [c] < [d] ↔ _
  rw [List.cons_lt_cons_iff];simp
theorem rise_pair {cs:List Nat} (h:riseB cs=true):cs.Pairwise (· < ·):=by
  have step:∀ i,i+1 < cs.length→cs.getD i 0 < cs.getD (i+1) 0:=fun i hi=>by
    have:=List.all_eq_true.mp h i (List.mem_range.mpr (by omega))
    exact of_decide_eq_true this
  have far:∀ j i,i < j→j < cs.length→cs.getD i 0 < cs.getD j 0:=fun j=>by
    induction j with
    | zero=>intro i h;omega
    | succ j ih=>
      intro i hi hj
      have s:=step j hj
      rcases Nat.lt_or_ge i j with l | l
      · exact Nat.lt_trans (ih i l (by omega)) s
      · have:i=j:=by omega
        rw [this];exact s
  rw [List.pairwise_iff_getElem]
  intro i j hi hj hij
  have:=far j i hij hj
  rw [List.getD_eq_getElem?_getD,List.getD_eq_getElem?_getD,List.getElem?_eq_getElem hi,List.getElem?_eq_getElem hj] at this
  exact this
theorem pair_rise {cs:List Nat} (h:cs.Pairwise (· < ·)):riseB cs=true:=by
  unfold riseB
  rw [List.all_eq_true]
  intro i hi
  have hi':=List.mem_range.mp hi
  refine decide_eq_true ?_
  have:=List.pairwise_iff_getElem.mp h i (i+1) (by omega) (by omega) (by omega)
  rw [List.getD_eq_getElem?_getD,List.getD_eq_getElem?_getD,List.getElem?_eq_getElem (show i < cs.length by omega),List.getElem?_eq_getElem (show i+1 < cs.length by omega)]
  exact this
theorem rise_uq {cs:List Nat} {us:List Str} (uq:Uq us (oneS cs)):oneS cs=us ↔ riseB cs=true:=by
  constructor
  · intro e
    have st:=strict uq.srt uq.nd
    rw [← e] at st
    refine pair_rise ?_
    rw [oneS,List.pairwise_map] at st
    exact st.imp one_lt.mp
  · intro h
    have pr:=rise_pair h
    have st:(oneS cs).Pairwise (fun a b=>a.cps.toList < b.cps.toList):=by
      rw [oneS,List.pairwise_map]
      exact pr.imp one_lt.mpr
    have nd:(oneS cs).Nodup:=st.imp fun {a b} l e=>by rw [e] at l;exact List.lt_irrefl _ l
    have p:(oneS cs).Perm us:=(List.perm_ext_iff_of_nodup nd uq.nd).mpr fun x=>(uq.mem x).symm
    exact p.eq_of_pairwise (fun x y _ _ l1 l2=>str_ext (lt_asymm' x.cps.toList y.cps.toList l1 l2)) (st.imp fun {a b} l l2=>List.lt_asymm l l2) (sorted_pair us uq.srt)
section
variable {P:Program} {w:World} {K:PySem.W.Frag} {mg:Str→Option Value} {base:Heap} {k:Nat}
def sp_due:Sp:=fun vs H Q _=>∃ (v:V) (d:PyData),vs=[v]∧Td H v d∧Shy d∧∀ (b:Bool) (H':Hp),Same H H'→(b=true ↔ TrieD d)→Q (.bl b) H'
theorem has_due (D:Df K mg "_law_due" s_law_due) (B:Blt7 mg) (G_law_ups:Has P w K mg base "_law_ups" k ["ups"] sp_lups):Has P w K mg base "_law_due" (k+1) ["thing"] sp_due:=by
  refine D.has sc_law_due (fun _ _ _ _ _ _ us hl=>match us,hl with | [_],_=>rfl) (fun vs H Q E h=>by obtain ⟨x,d,rfl,_⟩:=h;rfl) (fun f cdv A outer s H vs Q E hr h=>?_)
  obtain ⟨v,d,rfl,td,sh,q⟩:=h
  refine ⟨_,(pss_cons (ps_if (PW.pt (pw_or (pt_not (pt_val (pe_callB call_isinst rfl B.isinstance bt_isinstance (pa_cons (pv 0) (pa_cons (pe_bltn (v:=.ty "tuple") rfl B.tuple_ bt_tuple rfl) pa_nil))))) (pw_or (pt_cmpR op_ne (pe_callB call_len_seq rfl B.len bt_len (pa_cons (pv 0) pa_nil)) pe_int (nomark _)) (pw_or1 (pt_not (pt_val (pe_callB call_isinst rfl B.isinstance bt_isinstance (pa_cons (pe_ix ix_tup (pv 0) pe_int (fun _ _=>rfl)) (pa_cons (pe_bltn (v:=.ty "tuple") rfl B.tuple_ bt_tuple rfl) pa_nil)))))))))
  (pss_one (ps_ret pe_bl))
  pss_nil)
  (pss_cons (ps_asg (pv 0) (pg_tup rfl (pgs_cons (pg_name (i:=1) sc_law_due.nd rfl (by first | exact Or.inl rfl | exact Or.inr rfl)) (pgs_cons (pg_name (i:=2) sc_law_due.nd rfl (by first | exact Or.inl rfl | exact Or.inr rfl)) pgs_nil))))
  (pss_cons (ps_if (PW.pt (pw_or (pt_not (pt_val (pe_callB call_isinst rfl B.isinstance bt_isinstance (pa_cons (pv 2) (pa_cons (pe_bltn (v:=.ty "str") rfl B.str_ bt_str rfl) pa_nil))))) (pw_or (pt_cmpR op_ne (pe_callB call_len_str rfl B.len bt_len (pa_cons (pv 2) pa_nil)) (pe_callB call_len_seq rfl B.len bt_len (pa_cons (pv 1) pa_nil)) (nomark _)) (pw_or1 (pt_cmpR op_gt (pe_callB call_len_str rfl B.len bt_len (pa_cons (pv 2) pa_nil)) pe_int (nomark _))))))
  (pss_one (ps_ret pe_bl))
  pss_nil)
  (pss_cons (ps_if (pt_not (pt_val (pe_callH G_law_ups hr rfl (pa_cons (pv 1) pa_nil))))
  (pss_one (ps_ret pe_bl))
  pss_nil)
  (pss_cons (ps_if (pt_cmpR (op_ne_nil hr.units0) (pe_comp rfl (pi_str (pv 2)) (NL:=["sign"]) (ix:=[]) (csc (defScope s_law_due) N_law_due) (fun cl C s₃ H₃ fp pins=>⟨(pg_name (i:=0) (show List.Nodup (["sign"]:List Str) from by decide +kernel) rfl (by first | exact Or.inl rfl | exact Or.inr rfl)),(pifs_one (pt_cmpR op_notin_str (pv 0) pe_str (by with_unfolding_all rfl))),(pv 0)⟩)) (pe_lst pa_nil) (nomark _))
  (pss_one (ps_ret pe_bl))
  pss_nil)
  (pss_cons (ps_for PassesOwn.never rfl (pi_range1 rfl B.range (pa_cons (pe_callB call_len_seq rfl B.len bt_len (pa_cons (pv 1) pa_nil)) pa_nil)) (pg_name (i:=3) sc_law_due.nd rfl (by first | exact Or.inl rfl | exact Or.inr rfl))
  (pss_cons (ps_comp (i:=4) sc_law_due.nd rfl (by first | exact Or.inl rfl | exact Or.inr rfl) rfl (pi_enum rfl B.enumerate (pa_cons (pv 1) pa_nil)) (NL:=["k", "up"]) (ix:=[2,3]) (csc (defScope s_law_due) N_law_due) (fun cl C s₃ H₃ fp pins=>⟨(pg_tupK K (n:=2) rfl (pgs_cons (pg_name (i:=0) (show List.Nodup (["k", "up", "labels", "place"]:List Str) from by decide +kernel) rfl (by first | exact Or.inl rfl | exact Or.inr rfl)) (pgs_cons (pg_name (i:=1) (show List.Nodup (["k", "up", "labels", "place"]:List Str) from by decide +kernel) rfl (by first | exact Or.inl rfl | exact Or.inr rfl)) pgs_nil))),(pifs_one (pt_cmpR op_eq (pv 1) (pv 3) (nomark _))),(pe_ix ix_str (pv 2) (pv 0) (fun _ _=>rfl))⟩))
  (pss_one (ps_if (pt_cmpR (op_ne_lst hr.units0) (pv 4) (pe_sortset K rfl rfl B.sorted rfl B.set_ (pa_cons (pv 4) pa_nil)) (nomark _))
  (pss_one (ps_ret pe_bl))
  pss_nil))))
  (pss_one (ps_ret pe_bl)))))))),?_⟩
  have no:¬ TrieD d→(false=true ↔ TrieD d):=fun n=>⟨(fun z=>by cases z),fun z=>absurd z n⟩
  obtain ⟨t1,a1,a2⟩:=td_tup (K:=K) td
  refine ⟨_,rfl,_,t1, "tuple", _,rfl,a1,a2,_,rfl,?_⟩
  by_cases ct:isTupD d=true
  rotate_left
  · refine iteA (by rw [Bool.eq_false_iff.mpr ct];rfl) ?_
    exact q false H (Same.refl H) (no fun ⟨us,z,e,_⟩=>ct (by rw [e];rfl))
  refine L2.iteB (by rw [ct];rfl) ?_
  obtain ⟨a,xs,ds,rfl,rfl,ha,tds⟩:=isTup_ex td ct
  have xl:=tds.len
  refine ⟨_,rfl,a,_,rfl,.inr (SqT.of ha),rfl,_,rfl,?_⟩
  by_cases cl:xs.length=2
  rotate_left
  · refine iteA (by simp;omega) ?_
    exact q false H (Same.refl H) (no fun ⟨us,z,e,_⟩=>cl (by rw [xl];injection e with e;rw [e];rfl))
  refine L2.iteB (by rw [cl];simp) ?_
  obtain ⟨x,y,rfl⟩:∃ x y,xs=[x,y]:=by
    match xs,cl with
    | [x,y],_=>exact ⟨x,y,rfl⟩
  obtain ⟨dx,ds2,rfl,tx,t2⟩:∃ dx ds2,ds=dx :: ds2∧Td H x dx∧Tds H [y] ds2:=by
    cases tds with
    | cons tx t2=>exact ⟨_,_,rfl,tx,t2⟩
  obtain ⟨dy,rfl,ty⟩:∃ dy,ds2=[dy]∧Td H y dy:=by
    cases t2 with
    | cons ty t3=>cases t3;exact ⟨_,rfl,ty⟩
  have shy:=sh dx dy rfl
  have inv:∀ {us:List Int} {z:Str},PyData.tuple [dx,dy]=.tuple [.tuple (us.map .int),.str z]→dx=.tuple (us.map .int)∧dy=.str z:=fun {us z} e=>by
    injection e with e
    injection e with ea eb
    injection eb with eb _
    exact ⟨ea,eb⟩
  obtain ⟨t2,b1,b2⟩:=td_tup (K:=K) tx
  refine ⟨_,rfl,a,_,_,_,rfl,rfl,SqT.of ha,rfl,_,t2, "tuple", _,rfl,b1,b2,_,rfl,?_⟩
  by_cases cu:isTupD dx=true
  rotate_left
  · refine iteA (by rw [Bool.eq_false_iff.mpr cu];rfl) ?_
    exact q false H (Same.refl H) (no fun ⟨us,z,e,_⟩=>cu (by rw [(inv e).1];rfl))
  refine L2.iteB (by rw [cu];rfl) ?_
  obtain ⟨u,us0,dus,rfl,rfl,hu,tdu⟩:=isTup_ex tx cu
  have ul:=tdu.len
  refine ⟨_,rfl,a,_,rfl,SqT.of ha,rfl,_,_,rfl,_,_,rfl,rfl,?_⟩
  obtain ⟨t3,c1,c2⟩:=td_str (K:=K) ty
  refine ⟨_,rfl,_,t3, "str", _,rfl,c1,c2,_,rfl,?_⟩
  by_cases cs:isStrD dy=true
  rotate_left
  · refine iteA (by rw [Bool.eq_false_iff.mpr cs];rfl) ?_
    exact q false H (Same.refl H) (no fun ⟨us,z,e,_⟩=>cs (by rw [(inv e).2];rfl))
  refine L2.iteB (by rw [cs];rfl) ?_
  obtain ⟨z,rfl,rfl⟩:=isStr_ex ty cs
  obtain ⟨zl,zc⟩:=shy z rfl
  have zb:z.length≤sizeLine:=Nat.le_of_lt (small1000 (by omega))
  refine ⟨_,rfl,z,rfl,zb,_,rfl,u,_,rfl,.inr (SqT.of hu),rfl,_,rfl,?_⟩
  by_cases cl2:us0.length=z.length
  rotate_left
  · refine iteA (by simp;omega) ?_
    refine q false H (Same.refl H) (no fun ⟨us,z',e,l,_⟩=>cl2 ?_)
    obtain ⟨e1,e2⟩:=inv e
    injection e1 with e1
    injection e2 with e2
    rw [ul,e1,List.length_map,l,e2]
  refine L2.iteB (by rw [cl2];simp) ?_
  refine ⟨_,rfl,z,rfl,zb,_,_,rfl,rfl,_,rfl,?_⟩
  by_cases c60:z.length≤60
  rotate_left
  · refine iteA (decide_eq_true (by omega)) ?_
    refine q false H (Same.refl H) (no fun ⟨us,z',e,l,l1,l6,_⟩=>c60 ?_)
    obtain ⟨e1,e2⟩:=inv e
    injection e2 with e2
    rw [e2];exact l6
  refine L2.iteB (decide_eq_false (by omega)) ?_
  refine ⟨_,rfl,u,us0,dus,rfl,hu,tdu,by omega,fun b HU sU hb=>⟨b,rfl,?_⟩⟩
  by_cases cb:b=true
  rotate_left
  · refine iteA (by rw [Bool.eq_false_iff.mpr cb];rfl) ?_
    refine q false HU sU (no fun ⟨us,z',e,l,l1,l6,lw,g,_⟩=>cb (hb.mpr ⟨us,?_,g⟩))
    obtain ⟨e1,_⟩:=inv e
    injection e1
  refine L2.iteB (by rw [cb];rfl) ?_
  obtain ⟨us,rfl,g⟩:=hb.mp cb
  obtain ⟨us',f1,rfl⟩:=wholes_ints tdu (fun d hd=>by obtain ⟨x,_,rfl⟩:=List.mem_map.mp hd;rfl)
  obtain rfl:us=us':=(List.map_inj_right (fun a b h=>by injection h)).mp f1
  rw [List.length_map] at cl2
  have upos:=g.pos
  have zs:z.cps.size≤900:=zl
  refine ⟨_,rfl,z,rfl,fun r1 hr1=>?_⟩
  refine comp_str (by omega) (fun i ys HX=>HX r1=some (.lst ys)∧Same HU HX∧ys=((z.cps.toList.take i).filter fun c=>!lwB c).map fun c=>V.str ⟨#[c]⟩)
    (fun i ys HX h=>⟨h.1,by
      rw [h.2.2,List.length_map]
      have:=List.length_filter_le (fun c=>!lwB c) (z.cps.toList.take i)
      rw [List.length_take] at this;omega⟩) ⟨upd_same,(Same.refl HU).new hr1,rfl⟩ ?_ ?_
  rotate_left
  · rintro i ch ys HX hc ⟨g1,g2,rfl⟩
    have hc':z.cps.toList[i]?=some ch:=by rw [← Array.getElem?_toList] at hc;exact hc
    have tk:z.cps.toList.take (i+1)=z.cps.toList.take i++[ch]:=by rw [List.take_succ,hc'];rfl
    refine ⟨rfl,_,rfl,_,_,rfl,rfl,_,rfl,?_⟩
    rw [in_abc (zc ch (List.mem_of_getElem? hc'))]
    refine ite2 (fun cc=>?_) (fun cc=>?_)
    · refine ⟨_,rfl,g1,upd_same,g2.write hr1,?_⟩
      rw [tk,List.filter_append,List.filter_cons_of_pos (p:=fun c=>!lwB c) cc,List.map_append];rfl
    · refine ⟨g1,g2,?_⟩
      rw [tk,List.filter_append,List.filter_cons_of_neg (p:=fun c=>!lwB c) cc];simp
  rintro ys H1 ⟨g1,s1,rfl⟩
  rw [← Array.length_toList,List.take_length] at g1
  refine ⟨(by show 0≤sizeLine;decide),fun v1 hv1=>?_⟩
  have ne1:r1≠v1:=ne_of_none g1 hv1
  have s2:Same HU (upd H1 v1 (.lst [])):=s1.new hv1
  refine ⟨r1,v1,_,rfl,rfl,SqL.of (by rw [upd_ne ne1];exact g1),SqL.of upd_same,_,rfl,?_⟩
  show (fun HH=>_) (upd H1 v1 (.lst []))
  generalize upd H1 v1 (.lst [])=H2 at s2
  have s02:=sU.trans s2
  by_cases low:∀ c∈z.cps.toList,lwB c=true
  rotate_left
  · refine iteA ?_ ?_
    · rw [List.isEmpty_map]
      cases e:(z.cps.toList.filter fun c=>!lwB c) with
      | nil=>exact absurd (filt_nil.mp e) low
      | cons _ _=>rfl
    · refine q false H2 s02 (no fun ⟨us,z',e,_,_,_,lw,_⟩=>low fun c hc=>lwB_iff.mpr (lw c ?_))
      obtain ⟨_,e2⟩:=inv e
      injection e2 with e2
      rw [← e2];exact hc
  refine L2.iteB (by rw [filt_nil.mpr low];rfl) ?_
  have good:TrieD (.tuple [.tuple (us.map .int),.str z]) ↔ ∀ p,p < us.length→riseB (bel us z.cps.toList p)=true:=by
    constructor
    · rintro ⟨us',z',e,_,_,_,_,_,h⟩
      obtain ⟨rfl,rfl⟩:=us_one e
      exact h
    · exact fun h=>⟨us,z,rfl,cl2,by omega,c60,fun c hc=>lwB_iff.mp (low c hc),g,h⟩
  have hu2:=s02 _ _ hu
  have lm:(us.map V.int).length=us.length:=List.length_map _
  refine ⟨_,rfl,u,_,rfl,.inr (SqT.of hu2),_,rfl,by omega,by omega,?_⟩
  rw [lm]
  have en:(((us.length:Nat):Int)).toNat=us.length:=by omega
  rw [en]
  refine for_range (lo:=0) (n:=us.length) (fun i σ H'=>∃ (o3 o4:Option V),σ=[some (.ref a),some (.ref u),some (.str z),o3,o4]∧Same H2 H'∧∀ p,p < i→riseB (bel us z.cps.toList p)=true) ⟨none,none,rfl,Same.refl H2,fun p h=>by omega⟩ ?_ ?_
  · rintro i σ H' hi ⟨o3,o4,rfl,sX,hX⟩
    have huX:=sX _ _ hu2
    have ll:z.cps.toList.length=z.length:=Array.length_toList
    refine ⟨_,rfl,.tup u,rfl,⟨_,.inl huX⟩,fun acc hacc=>?_⟩
    refine comp_enum (xs:=us.map V.int) (by rw [List.length_map];omega) (fun j ys HY=>HY acc=some (.lst ys)∧ys=oneV ((ben us (i:Int) j).map fun m=>z.cps.toList.getD m 0)∧Same H' HY)
      (fun j ys HY h=>.inl (h.2.2 _ _ huX)) (fun j ys HY h=>⟨h.1,by rw [h.2.1,oneV_len,List.length_map];exact ben_le _ _ _⟩) ⟨upd_same,rfl,(Same.refl H').new hacc⟩ ?_ ?_
    rotate_left
    · rintro j x ys HY pp hx ⟨g1,rfl,g3⟩ hpp
      rw [List.getElem?_map] at hx
      cases e1:us[j]? with
      | none=>rw [e1] at hx;cases hx
      | some v=>
        rw [e1] at hx
        cases hx
        have jl:j < us.length:=(List.getElem?_eq_some_iff.mp e1).1
        have ev:us.getD j 0=v:=by rw [List.getD_eq_getElem?_getD,e1];rfl
        refine ⟨pp,_,rfl,SqT.of upd_same,rfl,_,_,rfl,_,_,rfl,rfl,?_⟩
        refine ⟨rfl,?_⟩
        have g1':upd HY pp (.tup [.int (j:Int),.int v]) acc=some (.lst (oneV ((ben us (i:Int) j).map fun m=>z.cps.toList.getD m 0))):=by rw [upd_ne (ne_of_none g1 hpp)];exact g1
        have zj:atI z.cps.toList (j:Int)=some (z.cps.toList.getD j 0):=atI_nat (by rw [List.getElem?_eq_getElem (by omega),List.getD_eq_getElem?_getD,List.getElem?_eq_getElem (by omega)];rfl)
        refine ⟨_,rfl,_,rfl,rfl,_,rfl,ite2 (fun cnd=>?_) (fun cnd=>?_)⟩
        · have ec:v=(i:Int):=by
            have:=of_decide_eq_true cnd
            injection this with this
            omega
          exact ⟨_,rfl,_,rfl,z,_,_,rfl,rfl,zb,zj,g1',upd_same,by rw [ben_succ,if_pos (ev.trans ec),List.map_append];unfold oneV;rw [List.map_append];rfl,(g3.new hpp).write hacc⟩
        · have ec:v≠(i:Int):=fun z=>cnd (by rw [z,Int.zero_add];exact decide_eq_true rfl)
          exact ⟨g1',by rw [ben_succ,if_neg (by rw [ev];exact ec)],g3.new hpp⟩
    rintro ys H3 ⟨g1,rfl,g3⟩
    rw [lm] at g1
    have bl:(bel us z.cps.toList i).length≤60:=by
      unfold bel;rw [List.length_map];have:=ben_le us (i:Int) us.length;omega
    have g1':H3 acc=some (.lst ((oneS (bel us z.cps.toList i)).map V.str)):=by rw [oneS_V];exact g1
    refine ⟨_,rfl,_,rfl,acc,oneS (bel us z.cps.toList i),rfl,SqL.of g1',by rw [List.length_map];omega,fun U r nd mem srt len hr3=>?_⟩
    have uq:Uq U (oneS (bel us z.cps.toList i)):=⟨nd,mem,srt⟩
    have s4:Same H3 (upd H3 r (.lst (U.map V.str))):=(Same.refl H3).new hr3
    refine ⟨acc,r,_,_,rfl,rfl,SqL.of (s4 _ _ g1'),SqL.of upd_same,flat_strs _,flat_strs _,_,rfl,?_⟩
    rw [eqVs_strs]
    by_cases rs:riseB (bel us z.cps.toList i)=true
    rotate_left
    · refine iteA (by rw [decide_eq_false (fun e=>rs ((rise_uq uq).mp e))];rfl) ?_
      exact q false _ (s02.trans ((sX.trans g3).trans s4)) (no fun t=>rs (good.mp t i hi))
    refine L2.iteB (by rw [decide_eq_true ((rise_uq uq).mpr rs)];rfl) ?_
    refine ⟨_,_,rfl,(sX.trans g3).trans s4,fun p hp=>?_⟩
    rcases Nat.lt_or_ge p i with l | l
    · exact hX p l
    · rw [show p=i by omega];exact rs
  · rintro σ H' ⟨o3,o4,rfl,sX,hX⟩
    exact q true _ (s02.trans sX) ⟨fun _=>good.mpr hX,fun _=>rfl⟩
end
end S53
namespace S53
open PySem L2 W7
theorem pool_neT {H:Hp} {p r:Addr} {xs:List V} (h:Pool H p) (e:H r=some (.tup xs)):r≠p:=by
  rintro rfl
  obtain ⟨_,_,e2⟩:=h
  rw [e] at e2;cases e2
theorem dlp {H:Hp} {ps:List Addr} {r:Addr} {o:HO} (h:H r=some o) (n:r ∉ ps):dl ps H r=some o:=dl_at h n
theorem dlk {H H':Hp} {p:Addr} {ps:List Addr} (h:Kp p H H') (m:p∈ps):Same (dl ps H) (dl ps H'):=dl_keep fun b o n e=>h.keep b o (fun z=>n (z ▸ m)) e
theorem dls {H H':Hp} {ps:List Addr} (h:Same H H'):Same (dl ps H) (dl ps H'):=dl_keep fun b o n e=>h b o e
structure Hid (p:Addr) (ps:List Addr) (H:Hp):Prop where
  mem:p∈ps
  lst:∀ q∈ps,∃ xs,H q=some (.lst xs)
theorem Hid.kp {p:Addr} {ps:List Addr} {H H':Hp} (h:Hid p ps H) (k:Kp p H H'):Hid p ps H':=⟨h.mem,fun q hq=>by
  by_cases e:q=p
  · obtain ⟨_,_,e2⟩:=k.pool
    rw [e];exact ⟨_,e2⟩
  · obtain ⟨xs,hx⟩:=h.lst q hq
    exact ⟨xs,k.keep _ _ e hx⟩⟩
theorem Hid.neT {p r:Addr} {ps:List Addr} {H:Hp} {xs:List V} (h:Hid p ps H) (e:H r=some (.tup xs)):r ∉ ps:=fun m=>by
  obtain ⟨ys,e2⟩:=h.lst r m
  rw [e] at e2;cases e2
theorem Hid.new {p r:Addr} {ps:List Addr} {H:Hp} (h:Hid p ps H) (e:H r=none):r ∉ ps:=fun m=>by
  obtain ⟨ys,e2⟩:=h.lst r m
  rw [e] at e2;cases e2
def Sml (us:List Int):Prop:=∀ x∈us,-1≤x∧x≤60
theorem sml_gs {us:List Int} (h:Sml us) (l:us.length≤125) {hd hl:Bool} {e:Nat}:Gs hd hl 5300 e (us.map .int):=by
  refine (Gs.all (c:=41) (e:=e) fun d hm=>?_).mono (by rw [List.length_map];omega) (Nat.le_refl _)
  obtain ⟨x,hx,rfl⟩:=List.mem_map.mp hm
  have:=h x hx
  have e12:(10:Nat) ^ 12=1000000000000:=by decide
  exact (Gd.int (by omega)).mono (Nat.le_refl _) (Nat.zero_le _)
theorem cut_ints (us:List Int) (lo hi:Option Int):∃ vs:List Int,cutV (us.map V.int) lo hi=vs.map V.int∧(∀ x∈vs,x∈us)∧vs.length≤us.length:=by
  unfold cutV
  rw [← List.map_drop,← List.map_take]
  exact ⟨_,rfl,fun x h=>List.mem_of_mem_drop (List.mem_of_mem_take h),by rw [List.length_take,List.length_drop];omega⟩
theorem at_in {α:Type} {xs:List α} {i:Int} (h0:0≤i) (h1:i < (xs.length:Int)):∃ v,atI xs i=some v∧v∈xs:=by
  have hk:i.toNat < xs.length:=by omega
  have e:=atI_nat (xs:=xs) (j:=i.toNat) (List.getElem?_eq_getElem hk)
  rw [show ((i.toNat:Nat):Int)=i by omega] at e
  exact ⟨_,e,List.getElem_mem hk⟩
def Tg (ps:List Addr) (H:Hp) (v:V) (c e:Nat) (S:PyData→Prop):Prop:=∃ d hd hl,Td (dl ps H) v d∧Gd hd hl c e d∧(hd=false∨hl=false)∧S d
abbrev Any:PyData→Prop:=fun _=>True
theorem Tg.mono {ps:List Addr} {H:Hp} {v:V} {c e c' e':Nat} {S:PyData→Prop} (h:Tg ps H v c e S) (hc:c≤c') (he:e≤e'):Tg ps H v c' e' S:=let ⟨d,hd,hl,t,g,o,s⟩:=h;⟨d,hd,hl,t,g.mono hc he,o,s⟩
theorem Tg.same {ps:List Addr} {H H':Hp} {v:V} {c e:Nat} {S:PyData→Prop} (h:Tg ps H v c e S) (k:Same (dl ps H) (dl ps H')):Tg ps H' v c e S:=let ⟨d,hd,hl,t,g,o,s⟩:=h;⟨d,hd,hl,t.same k,g,o,s⟩
theorem tg_int {ps:List Addr} {H:Hp} {i:Int} (h:i.natAbs < 10 ^ 60):Tg ps H (.int i) 250 0 Any:=⟨.int i,false,false,.int i,(Gd.big h).mono (by omega) (Nat.le_refl _),.inl rfl,trivial⟩
theorem tg_tup {ps:List Addr} {H:Hp} {r:Addr} {vs ws:List Int} {x:V} (h:H r=some (.tup (vs.map V.int++[x]++ws.map V.int))) (n:r ∉ ps) (sv:Sml vs) (sw:Sml ws) (lv:vs.length≤125) (lw:ws.length≤125) (t:Tg ps H x 250 2 Any):Tg ps H (.ref r) 11000 3 Any:=by
  obtain ⟨d,hd,hl,td,g,o,_⟩:=t
  refine ⟨.tuple (vs.map .int++[d]++ws.map .int),hd,hl,.tup (dlp h n) (((Tds.ints vs).append (.one td)).append (.ints ws)),?_,o,trivial⟩
  refine (Gd.tup (((sml_gs sv lv (e:=2)).append (Gs.one g)).append (sml_gs sw lw))).mono (by omega) (by omega)
theorem tg_lst {ps:List Addr} {H:Hp} {r:Addr} {vs:List Int} (h:H r=some (.lst (vs.map V.int))) (n:r ∉ ps) (sv:Sml vs) (lv:vs.length≤125):Tg ps H (.ref r) 11000 3 Any:=
  ⟨.list (vs.map .int),false,true,.lst (dlp h n) (Tds.ints vs),(Gd.lst (sml_gs sv lv (e:=2))).mono (by omega) (by omega),.inl rfl,trivial⟩
theorem one_line:1≤sizeLine:=by rw [sizeLine_eq];decide
theorem ne_of_none' {H:Hp} {a b:Addr} {o:HO} (h:H b=some o) (e:H a=none):a≠b:=by rintro rfl;rw [h] at e;cases e
def Sh (n:Nat) (z:Str):Prop:=z.length≤n∧∀ c∈z.cps.toList,c < 1000
theorem sh_cut {n:Nat} {z:Str} (h:Sh n z) (lo hi:Option Int):Sh n (cutS z lo hi):=by
  refine ⟨Nat.le_trans ?_ h.1,fun c hc=>h.2 c ?_⟩
  · have e:(cutS z lo hi).length=((z.cps.toList.drop (HT.sIx z.length 0 lo)).take (HT.sIx z.length z.length hi - HT.sIx z.length 0 lo)).length:=by
      show ((z.cps.toList.drop (HT.sIx z.length 0 lo)).take (HT.sIx z.length z.length hi - HT.sIx z.length 0 lo)).toArray.size=_
      rw [List.size_toArray]
    rw [e,List.length_take,List.length_drop]
    have:z.cps.toList.length=z.length:=Array.length_toList
    omega
  · exact List.mem_of_mem_drop (List.mem_of_mem_take hc)
theorem sh_app {n m:Nat} {x y:Str} (h:Sh n x) (g:Sh m y):Sh (n+m) (x++y):=by
  have e:(x++y).cps=x.cps++y.cps:=rfl
  refine ⟨?_,fun c hc=>?_⟩
  · show (x++y).cps.size≤n+m
    rw [e,Array.size_append]
    have a1:x.cps.size≤n:=h.1
    have a2:y.cps.size≤m:=g.1
    omega
  · rw [e,Array.toList_append] at hc
    rcases List.mem_append.mp hc with hc | hc
    · exact h.2 c hc
    · exact g.2 c hc
theorem sh_line {n:Nat} {z:Str} (h:Sh n z) (l:n≤900):z.length≤sizeLine:=Nat.le_of_lt (small1000 (by have:=h.1;omega))
theorem sh_two {n m:Nat} {x y:Str} (h:Sh n x) (g:Sh m y) (l:n+m≤900):x.length+y.length≤sizeLine:=Nat.le_of_lt (small1000 (by have:=h.1;have:=g.1;omega))
theorem tg_txt {ps:List Addr} {H:Hp} {n:Nat} {z:Str} (h:Sh n z) (l:n≤900):Tg ps H (.str z) 11000 3 Short:=by
  have a1:z.cps.size≤n:=h.1
  exact ⟨.str z,false,false,.str z,(Gd.str h.2).mono (by omega) (by omega),.inl rfl,fun y e=>by cases e;exact ⟨by have:=h.1;omega,h.2⟩⟩
theorem tds_one (H:Hp):∀ l:List Nat,Tds H (l.map fun c=>V.str ⟨#[c]⟩) (l.map fun c=>PyData.str ⟨#[c]⟩)
  | []=>.nil
  | c :: l=>.cons (.str _) (tds_one H l)
theorem tg_signs {ps:List Addr} {r:Addr} {H:Hp} {z:Str} (h:Sh 60 z) (e:H r=some (.lst (signs z))) (n:r ∉ ps):Tg ps H (.ref r) 11000 3 Short:=by
  refine ⟨.list (z.cps.toList.map fun c=>PyData.str ⟨#[c]⟩),false,true,.lst (dlp e n) (tds_one _ _),(Gd.lst ((Gs.all (c:=1) (e:=2) fun d hd=>?_).mono (c':=11000) ?_ (Nat.le_refl _))).mono (Nat.le_refl _) (by omega),.inl rfl,fun y e=>by cases e⟩
  · obtain ⟨c,hc,rfl⟩:=List.mem_map.mp hd
    exact (Gd.str (z:=⟨#[c]⟩) fun x hx=>by
      have:x=c:=by simpa using hx
      rw [this];exact h.2 c hc).mono (Nat.le_refl _) (by omega)
  · have:z.cps.toList.length=z.length:=Array.length_toList
    rw [List.length_map,this]
    have:=h.1
    omega
theorem sh_short {n:Nat} {z:Str} (h:Sh n z) (l:n≤900):Short (.str z):=fun y e=>by cases e;exact ⟨by have:=h.1;omega,h.2⟩
theorem gd_str {hd hl:Bool} {n:Nat} {z:Str} (h:Sh n z) (l:n≤900):Gd hd hl 900 0 (.str z):=by
  have a1:z.cps.size≤n:=h.1
  exact (Gd.str h.2).mono (by omega) (Nat.le_refl _)
theorem line_le {n:Nat} (h:n≤1000):n≤sizeLine:=Nat.le_of_lt (small1000 h)
theorem tg_pairL {ps:List Addr} {r:Addr} {H:Hp} {v:V} {z:Str} {S:PyData→Prop} (h:H r=some (.tup [v,.str z])) (n:r ∉ ps) (t:Tg ps H v 11000 3 S) (s:Sh 60 z):Tg ps H (.ref r) 23000 5 Shy:=by
  obtain ⟨d,hd,hl,td,g,o,_⟩:=t
  refine ⟨.tuple [d,.str z],hd,hl,.tup (dlp h n) (.cons td (.one (.str z))),(Gd.tup (Gs.cons g (Gs.one ((gd_str s (by omega)).mono (Nat.le_refl _) (Nat.zero_le _))))).mono (by omega) (by omega),o,fun x y e=>?_⟩
  cases e
  exact sh_short s (by omega)
theorem gd_ints {hd hl:Bool} {us:List Int} (sm:Sml us) (l:us.length≤125) {e:Nat}:Gd hd hl 5300 (e+1) (.tuple (us.map .int)):=Gd.tup (sml_gs sm l)
theorem tg_pairR {ps:List Addr} {r u:Addr} {H:Hp} {v:V} {us:List Int} (h:H r=some (.tup [.ref u,v])) (n:r ∉ ps) (hu:H u=some (.tup (us.map V.int))) (nu:u ∉ ps) (sm:Sml us) (l:us.length≤125) (t:Tg ps H v 11000 3 Short):Tg ps H (.ref r) 23000 5 Shy:=by
  obtain ⟨d,hd,hl,td,g,o,s⟩:=t
  refine ⟨.tuple [.tuple (us.map .int),d],hd,hl,.tup (dlp h n) (.cons (.tup (dlp hu nu) (Tds.ints us)) (.one td)),(Gd.tup (Gs.cons (gd_ints sm l (e:=2)) (Gs.one g))).mono (by omega) (by omega),o,fun x y e=>?_⟩
  cases e
  exact s
theorem Kp.same {p:Addr} {H H1 H2:Hp} (a:Kp p H H1) (s:Same H1 H2):Kp p H H2:=by
  obtain ⟨⟨x,y,e⟩,k⟩:=a
  exact ⟨⟨x,y,s _ _ e⟩,fun b u hc h=>s _ _ (k b u hc h)⟩
end S53
namespace S53
open PySem L2 W7
theorem dlu {ps:List Addr} {H:Hp} {q:Addr} {o:HO} (m:q∈ps):Same (dl ps H) (dl ps (upd H q o)):=dl_keep fun b u n e=>by
  have h:b≠q:=fun z=>n (by rw [z];exact m)
  rw [upd_ne h];exact e
theorem dl_more {ps:List Addr} {H:Hp} {q:Addr} {o:HO} (h:H q=none):Same (dl ps H) (dl (q :: ps) (upd H q o)):=fun b u e=>by
  have e2:=dl_same _ _ _ _ e
  have n:b ∉ ps:=fun m=>by unfold dl at e;rw [if_pos m] at e;cases e
  have nq:b≠q:=ne_of_none e2 h
  refine dl_at (by rw [upd_ne nq];exact e2) ?_
  rw [List.mem_cons]
  exact fun z=>z.elim nq n
theorem dl_less {ps:List Addr} {H:Hp} {q:Addr}:Same (dl (q :: ps) H) (dl ps H):=fun b u e=>by
  have e2:=dl_same _ _ _ _ e
  refine dl_at e2 fun m=>?_
  unfold dl at e
  rw [if_pos (List.mem_cons_of_mem _ m)] at e;cases e
theorem Hid.same {p:Addr} {ps:List Addr} {H H':Hp} (h:Hid p ps H) (s:Same H H'):Hid p ps H':=⟨h.mem,fun q m=>let ⟨xs,e⟩:=h.lst q m;⟨xs,s _ _ e⟩⟩
theorem _root_.L2.Kp.same {p:Addr} {H H1 H2:Hp} (a:Kp p H H1) (s:Same H1 H2):Kp p H H2:=by
  obtain ⟨⟨x,y,e⟩,k⟩:=a
  exact ⟨⟨x,y,s _ _ e⟩,fun b u hc h=>s _ _ (k b u hc h)⟩
structure Bag (p:Addr) (ps:List Addr) (H:Hp) (u lt:Addr) (us:List Int) (n:Nat) (G:Hp) (xs:List V):Prop where
  kp:Kp p H G
  hid:Hid p ps H
  fre:H lt=none
  ltp:lt≠p
  lst:G lt=some (.lst xs)
  len:xs.length=n
  all:∀ x∈xs,Tg (lt :: ps) G x 23000 5 Shy
  up:dl (lt :: ps) G u=some (.tup (us.map V.int))
theorem Bag.hid2 {p:Addr} {ps:List Addr} {H:Hp} {u lt:Addr} {us:List Int} {n:Nat} {G:Hp} {xs:List V} (b:Bag p ps H u lt us n G xs):Hid p (lt :: ps) G:=⟨List.mem_cons_of_mem _ b.hid.mem,fun q m=>by
  rcases List.mem_cons.mp m with rfl | m
  · exact ⟨_,b.lst⟩
  · exact (b.hid.kp b.kp).lst q m⟩
theorem Bag.same {p:Addr} {ps:List Addr} {H:Hp} {u lt:Addr} {us:List Int} {n:Nat} {G G':Hp} {xs:List V} (b:Bag p ps H u lt us n G xs) (s:Same G G'):Bag p ps H u lt us n G' xs:=
  ⟨b.kp.same s,b.hid,b.fre,b.ltp,s _ _ b.lst,b.len,fun x hx=>(b.all x hx).same (dls s),dls s _ _ b.up⟩
theorem Bag.ext {p:Addr} {ps:List Addr} {H:Hp} {u lt:Addr} {us:List Int} {n:Nat} {G:Hp} {xs:List V} (b:Bag p ps H u lt us n G xs) {m:Nat} (zs:List V) (l:zs.length=m) (h:∀ x∈zs,Tg (lt :: ps) G x 23000 5 Shy):Bag p ps H u lt us (n+m) (upd G lt (.lst (xs++zs))) (xs++zs):=
  ⟨b.kp.write b.fre b.ltp,b.hid,b.fre,b.ltp,upd_same,by rw [List.length_append,b.len,l],fun x hx=>by
    refine Tg.same ?_ (dlu List.mem_cons_self)
    rcases List.mem_append.mp hx with hx | hx
    · exact b.all x hx
    · exact h x hx,dlu List.mem_cons_self _ _ b.up⟩
theorem kp_fresh {p q:Addr} {H G:Hp} (k:Kp p H G) (n:q≠p) (h:G q=none):H q=none:=by
  cases e:H q with
  | none=>rfl
  | some o=>rw [k.keep _ _ n e] at h;cases h
theorem tg_more {ps:List Addr} {H:Hp} {q:Addr} {o:HO} {v:V} {c e:Nat} {S:PyData→Prop} (t:Tg ps H v c e S) (h:H q=none):Tg (q :: ps) (upd H q o) v c e S:=let ⟨d,hd,hl,td,g,o,s⟩:=t;⟨d,hd,hl,td.same (dl_more h),g,o,s⟩
theorem tg_less {ps:List Addr} {H:Hp} {q:Addr} {v:V} {c e:Nat} {S:PyData→Prop} (t:Tg (q :: ps) H v c e S):Tg ps H v c e S:=let ⟨d,hd,hl,td,g,o,s⟩:=t;⟨d,hd,hl,td.same dl_less,g,o,s⟩
theorem ups_in {us:List Int} (sm:Sml us) {x:Int} (h:-1≤x∧x≤60):Sml (us++[x]):=fun y hy=>by
  rcases List.mem_append.mp hy with hy | hy
  · exact sm y hy
  · rw [List.mem_singleton.mp hy];exact h
theorem tg_odd (ps:List Addr) {H:Hp} {a b:Addr} {x:V} {at':Int} (lo:0≤at') (hi:at' < 60) (n1:a ∉ ps) (n2:b ∉ ps) {d:Addr} (n3:d ∉ ps) (h1:H a=some (.tup [])) (h2:H b=some (.lst [])) (h3:H d=some (.dK []))
    (hx:x∈[V.non,.bl true,.bl false,.int (-1),.int (-2),.str (Str.ofString "0"),.ref a,.ref b,.ref d,.int (10 ^ 30),.int at',.int (at'+1)]):Tg ps H x 250 2 Any:=by
  have e60:(10:Nat) ^ 60 > 1000:=by decide
  simp only [List.mem_cons,List.not_mem_nil,or_false] at hx
  have s0:Sh 1 (Str.ofString "0"):=by unfold Sh;decide +kernel
  have s1:(Str.ofString "0").cps.size≤1:=s0.1
  rcases hx with rfl | rfl | rfl | rfl | rfl | rfl | rfl | rfl | rfl | rfl | rfl | rfl
  · exact ⟨.none,false,false,.non,Gd.non.mono (by omega) (by omega),.inl rfl,trivial⟩
  · exact ⟨_,false,false,.bl _,(Gd.bl _).mono (by omega) (by omega),.inl rfl,trivial⟩
  · exact ⟨_,false,false,.bl _,(Gd.bl _).mono (by omega) (by omega),.inl rfl,trivial⟩
  · exact (tg_int (by omega)).mono (by omega) (by omega)
  · exact (tg_int (by omega)).mono (by omega) (by omega)
  · exact ⟨_,false,false,.str _,(Gd.str s0.2).mono (by omega) (by omega),.inl rfl,trivial⟩
  · exact ⟨.tuple [],false,false,.tup (dlp h1 n1) .nil,(Gd.tup Gs.nil).mono (by omega) (by omega),.inl rfl,trivial⟩
  · exact ⟨.list [],false,true,.lst (dlp h2 n2) .nil,(Gd.lst Gs.nil).mono (by omega) (by omega),.inl rfl,trivial⟩
  · exact ⟨.dict [],true,false,.dct (dlp h3 n3) .nil .nil,Gd.dct0.mono (by omega) (by omega),.inr rfl,trivial⟩
  · exact (tg_int (by decide +kernel)).mono (by omega) (by omega)
  · exact (tg_int (by omega)).mono (by omega) (by omega)
  · exact (tg_int (by omega)).mono (by omega) (by omega)
section
variable {P:Program} {w:World} {K:PySem.W.Frag} {mg:Str→Option Value} {base:Heap} {k:Nat}
def sp_bent:Sp:=fun vs H Q _=>∃ (p t u:Addr) (us:List Int) (z:Str) (ps:List Addr),vs=[.ref p,.ref t]∧Pool H p∧Hid p ps H∧H t=some (.tup [.ref u,.str z])∧H u=some (.tup (us.map V.int))∧Sml us∧us.length=z.length∧1≤us.length∧Sh 60 z∧∀ (v:V) (H':Hp),Kp p H H'→Tg ps H' v 23000 5 Shy→Q v H'
theorem has_bent (D:Df K mg "_law_bent" s_law_bent) (B:Blt7 mg) (G_law_take:Has P w K mg base "_law_take" k ["pool", "many"] sp_take):Has P w K mg base "_law_bent" (k+1) ["pool", "tree"] sp_bent:=by
  refine D.has sc_law_bent (fun _ _ _ _ _ _ us hl=>match us,hl with | [_,_],_=>rfl) (fun vs H Q E h=>by obtain ⟨p,t,u,us,z,ps,rfl,_⟩:=h;rfl) (fun f cdv A outer s H vs Q E hr h=>?_)
  obtain ⟨p,t,u,us,z,ps,rfl,pl,hid0,ht,hu,sm,lz,l1,sh,q⟩:=h
  refine ⟨_,(pss_cons (ps_set (i:=2) sc_law_bent.nd rfl (by first | exact Or.inl rfl | exact Or.inr rfl) (pe_callH G_law_take hr rfl (pa_cons (pv 0) (pa_cons pe_int pa_nil))))
  (pss_cons (ps_set (i:=3) sc_law_bent.nd rfl (by first | exact Or.inl rfl | exact Or.inr rfl) (pe_callH G_law_take hr rfl (pa_cons (pv 0) (pa_cons pe_int pa_nil))))
  (pss_cons (ps_asg (pv 1) (pg_tup rfl (pgs_cons (pg_name (i:=4) sc_law_bent.nd rfl (by first | exact Or.inl rfl | exact Or.inr rfl)) (pgs_cons (pg_name (i:=5) sc_law_bent.nd rfl (by first | exact Or.inl rfl | exact Or.inr rfl)) pgs_nil))))
  (pss_cons (ps_set (i:=6) sc_law_bent.nd rfl (by first | exact Or.inl rfl | exact Or.inr rfl) (pe_callH G_law_take hr rfl (pa_cons (pv 0) (pa_cons (pe_callB call_len_str rfl B.len bt_len (pa_cons (pv 5) pa_nil)) pa_nil))))
  (pss_cons (ps_set (i:=7) sc_law_bent.nd rfl (by first | exact Or.inl rfl | exact Or.inr rfl) (pe_ix ix_str pe_str (pe_callH G_law_take hr rfl (pa_cons (pv 0) (pa_cons pe_int pa_nil))) (fun _ _=>rfl)))
  (pss_cons (ps_set (i:=8) sc_law_bent.nd rfl (by first | exact Or.inl rfl | exact Or.inr rfl) (pe_ix ix_str pe_str (pe_callH G_law_take hr rfl (pa_cons (pv 0) (pa_cons pe_int pa_nil))) (fun _ _=>rfl)))
  (pss_cons (ps_set (i:=9) sc_law_bent.nd rfl (by first | exact Or.inl rfl | exact Or.inr rfl) (pe_ix ix_list (pe_lst (pa_cons pe_non (pa_cons pe_bl (pa_cons pe_bl (pa_cons (pe_un un_neg pe_int) (pa_cons (pe_un un_neg pe_int) (pa_cons pe_str (pa_cons (pe_tup pa_nil) (pa_cons (pe_lst pa_nil) (pa_cons pe_dnewK (pa_cons (pe_op op_pow pe_int pe_int) (pa_cons (pv 6) (pa_cons (pe_op op_add (pv 6) pe_int) pa_nil))))))))))))) (pv 3) (fun _ _=>rfl)))
  (pss_cons (ps_set (i:=10) sc_law_bent.nd rfl (by first | exact Or.inl rfl | exact Or.inr rfl) (pe_op op_catU (pe_op op_catU (pe_slice sl_tupU (pv 4) po_none (po_some (pv 6))) (pe_tup (pa_cons (pv 9) pa_nil))) (pe_slice sl_tupU (pv 4) (po_some (pe_op op_add (pv 6) pe_int)) po_none)))
  (pss_cons (ps_set (i:=11) sc_law_bent.nd rfl (by first | exact Or.inl rfl | exact Or.inr rfl) (pe_op op_add_str (pe_op op_add_str (pe_slice sl_str (pv 5) po_none (po_some (pv 6))) (pv 7)) (pe_slice sl_str (pv 5) (po_some (pe_op op_add (pv 6) pe_int)) po_none)))
  (pss_cons (ps_set (i:=12) sc_law_bent.nd rfl (by first | exact Or.inl rfl | exact Or.inr rfl) (pe_op op_add_str (pe_op op_add_str (pe_slice sl_str (pv 5) po_none (po_some (pv 6))) (pv 8)) (pe_slice sl_str (pv 5) (po_some (pe_op op_add (pv 6) pe_int)) po_none)))
  (pss_cons (ps_set (i:=13) sc_law_bent.nd rfl (by first | exact Or.inl rfl | exact Or.inr rfl) (pe_lst (pa_cons (pe_tup (pa_cons (pv 4) (pa_cons (pv 11) pa_nil))) (pa_cons (pe_tup (pa_cons (pv 4) (pa_cons (pv 11) pa_nil))) (pa_cons (pe_tup (pa_cons (pv 10) (pa_cons (pv 5) pa_nil))) (pa_cons (pe_tup (pa_cons (pv 10) (pa_cons (pv 5) pa_nil))) pa_nil))))))
  (pss_cons (ps_expr (pe_bm PySem.F.plainAttrs_list PySem.F.slot_list_append PySem.F.type_list_append mt_append (pv 13) (pa_cons (pe_tup (pa_cons (pv 4) (pa_cons (pv 12) pa_nil))) pa_nil)))
  (pss_cons (ps_expr (pe_bm PySem.F.plainAttrs_list PySem.F.slot_list_append PySem.F.type_list_append mt_append (pv 13) (pa_cons (pe_tup (pa_cons (pe_op op_catU (pv 4) (pe_tup (pa_cons (pv 6) pa_nil))) (pa_cons (pe_op op_add_str (pv 5) (pv 7)) pa_nil))) pa_nil)))
  (pss_cons (ps_expr (pe_bm PySem.F.plainAttrs_list PySem.F.slot_list_append PySem.F.type_list_append mt_append (pv 13) (pa_cons (pe_tup (pa_cons (pe_op op_catU (pv 4) (pe_tup (pa_cons pe_int pa_nil))) (pa_cons (pe_op op_add_str (pv 5) (pv 7)) pa_nil))) pa_nil)))
  (pss_cons (ps_expr (pe_bm PySem.F.plainAttrs_list PySem.F.slot_list_append PySem.F.type_list_append mt_append (pv 13) (pa_cons (pe_tup (pa_cons (pe_op op_catU (pv 4) (pe_tup (pa_cons (pe_op op_sub (pe_callB call_len_seq rfl B.len bt_len (pa_cons (pv 4) pa_nil)) pe_int) pa_nil))) (pa_cons (pe_op op_add_str (pv 5) (pv 7)) pa_nil))) pa_nil)))
  (pss_cons (ps_expr (pe_bm PySem.F.plainAttrs_list PySem.F.slot_list_extend PySem.F.type_list_extend mt_extend (pv 13) (pa_cons (pe_lst (pa_cons (pe_tup (pa_cons (pe_slice sl_tupU (pv 4) po_none (po_some (pe_un un_neg pe_int))) (pa_cons (pe_slice sl_str (pv 5) po_none (po_some (pe_un un_neg pe_int))) pa_nil))) (pa_cons (pe_tup (pa_cons (pe_slice sl_tupU (pv 4) po_none (po_some (pe_un un_neg pe_int))) (pa_cons (pv 5) pa_nil))) (pa_cons (pe_tup (pa_cons (pv 4) (pa_cons (pe_slice sl_str (pv 5) po_none (po_some (pe_un un_neg pe_int))) pa_nil))) pa_nil)))) pa_nil)))
  (pss_cons (ps_expr (pe_bm PySem.F.plainAttrs_list PySem.F.slot_list_extend PySem.F.type_list_extend mt_extend (pv 13) (pa_cons (pe_lst (pa_cons (pe_tup (pa_cons (pe_callTy call_list_of rfl B.list_ bt_list (pa_cons (pv 4) pa_nil)) (pa_cons (pv 5) pa_nil))) (pa_cons (pe_tup (pa_cons (pv 4) (pa_cons (pe_callTy (call_list_txt rfl) rfl B.list_ bt_list (pa_cons (pv 5) pa_nil)) pa_nil))) (pa_cons (pe_lst (pa_cons (pv 4) (pa_cons (pv 5) pa_nil))) pa_nil)))) pa_nil)))
  (pss_cons (ps_expr (pe_bm PySem.F.plainAttrs_list PySem.F.slot_list_extend PySem.F.type_list_extend mt_extend (pv 13) (pa_cons (pe_lst (pa_cons (pe_tup (pa_cons (pv 4) (pa_cons (pv 5) (pa_cons (pe_tup pa_nil) pa_nil)))) (pa_cons (pe_tup (pa_cons (pv 4) pa_nil)) (pa_cons (pe_tup (pa_cons (pv 5) (pa_cons (pv 4) pa_nil))) (pa_cons (pe_tup (pa_cons (pv 4) (pa_cons pe_non pa_nil))) pa_nil))))) pa_nil)))
  (pss_cons (ps_expr (pe_bm PySem.F.plainAttrs_list PySem.F.slot_list_extend PySem.F.type_list_extend mt_extend (pv 13) (pa_cons (pe_lst (pa_cons (pe_tup (pa_cons (pv 4) (pa_cons (pe_op op_add_str (pv 5) (pv 8)) pa_nil))) (pa_cons (pe_tup (pa_cons (pe_tup pa_nil) (pa_cons pe_str pa_nil))) pa_nil))) pa_nil)))
  (pss_one (ps_ret (pe_ix ix_list (pv 13) (pv 2) (fun _ _=>rfl))))))))))))))))))))))),?_⟩
  have l60:=sh.1
  have up:u≠p:=pool_neT pl hu
  have tp:t≠p:=pool_neT pl ht
  have un:u ∉ ps:=hid0.neT hu
  refine ⟨_,rfl,p,20,rfl,pl,by decide,by decide,fun way H1 w0 w1 k1=>?_⟩
  refine ⟨_,rfl,p,12,rfl,k1.pool,by decide,by decide,fun pick H2 p0 p1 k2=>?_⟩
  have kd2:=k1.trans k2
  have ht1:=kd2.keep _ _ tp ht
  refine ⟨_,rfl,t,_,rfl,SqT.of ht1,rfl,_,_,rfl,_,_,rfl,rfl,?_⟩
  have hb:=sh_line sh (by omega)
  refine ⟨_,rfl,_,rfl,z,rfl,hb,p,_,rfl,k2.pool,by omega,by omega,fun at' H3 a0 a1 k3=>?_⟩
  have hl26:(Str.ofString "abcdefghijklmnopqrstuvwxyz").cps.toList.length=26:=by decide +kernel
  have hl12:(Str.ofString "ABZ 09{`_-~?").cps.toList.length=12:=by decide +kernel
  have hlo:∀ c∈(Str.ofString "abcdefghijklmnopqrstuvwxyz").cps.toList,c < 1000:=by decide +kernel
  have hlp:∀ c∈(Str.ofString "ABZ 09{`_-~?").cps.toList,c < 1000:=by decide +kernel
  refine ⟨_,rfl,p,26,rfl,k3.pool,by decide,by decide,fun n4 H4 b0 b1 k4=>?_⟩
  obtain ⟨c,hc,mc⟩:=at_in (xs:=(Str.ofString "abcdefghijklmnopqrstuvwxyz").cps.toList) (i:=n4) b0 (by rw [hl26];exact b1)
  refine ⟨_,_,_,rfl,rfl,line_le (by decide +kernel),hc,?_⟩
  have sc:Sh 1 (⟨#[c]⟩:Str):=⟨Nat.le_refl _,fun x hx=>by rw [show x=c by simpa using hx];exact hlo c mc⟩
  generalize (⟨#[c]⟩:Str)=letter at sc
  clear hc mc hlo hl26
  refine ⟨_,rfl,p,12,rfl,k4.pool,by decide,by decide,fun n5 H5 d0 d1 k5=>?_⟩
  obtain ⟨c,hc,mc⟩:=at_in (xs:=(Str.ofString "ABZ 09{`_-~?").cps.toList) (i:=n5) d0 (by rw [hl12];exact d1)
  refine ⟨_,_,_,rfl,rfl,line_le (by decide +kernel),hc,?_⟩
  have ss:Sh 1 (⟨#[c]⟩:Str):=⟨Nat.le_refl _,fun x hx=>by rw [show x=c by simpa using hx];exact hlp c mc⟩
  generalize (⟨#[c]⟩:Str)=sign at ss
  clear hc mc hlp hl12
  have kd:Kp p H H5:=((kd2.trans k3).trans k4).trans k5
  have hu5:=kd.keep _ _ up hu
  clear k1 k2 k3 k4 k5 kd2 ht1
  refine ⟨_,rfl,_,rfl,line_le (show 0≤1000 by omega),fun e1 he1=>?_⟩
  have ne1:e1 ∉ ps:=(hid0.kp kd).new he1
  have s1:Same H5 (upd H5 e1 (.tup [])):=(Same.refl H5).new he1
  have v1:upd H5 e1 (.tup []) e1=some (.tup []):=upd_same
  show (fun HH=>_) (upd H5 e1 (.tup []))
  generalize upd H5 e1 (.tup [])=G1 at s1 v1
  refine ⟨line_le (show 0≤1000 by omega),fun e2 he2=>?_⟩
  have ne2:e2 ∉ ps:=(hid0.kp (kd.same s1)).new he2
  have s2:Same G1 (upd G1 e2 (.lst [])):=(Same.refl G1).new he2
  have v2:upd G1 e2 (.lst []) e2=some (.lst []):=upd_same
  show (fun HH=>_) (upd G1 e2 (.lst []))
  generalize upd G1 e2 (.lst [])=G2 at s2 v2
  refine fun e3 he3=>?_
  have ne3:e3 ∉ ps:=(hid0.kp ((kd.same s1).same s2)).new he3
  have s3:Same G2 (upd G2 e3 (.dK [])):=(Same.refl G2).new he3
  have v3:upd G2 e3 (.dK []) e3=some (.dK []):=upd_same
  show (fun HH=>_) (upd G2 e3 (.dK []))
  generalize upd G2 e3 (.dK [])=G3 at s3 v3
  obtain ⟨far,ea,ma⟩:=at_in (xs:=[V.non,.bl true,.bl false,.int (-1),.int (-2),.str (Str.ofString "0"),.ref e1,.ref e2,.ref e3,.int (10 ^ 30),.int at',.int (at'+1)]) (i:=pick) p0 (by show pick < 12;exact p1)
  have kd3:Kp p H G3:=((kd.same s1).same s2).same s3
  have l60':(z.length:Int)≤60:=by omega
  have tgo:Tg ps G3 far 250 2 Any:=tg_odd ps a0 (by omega) ne1 ne2 ne3 (s3 _ _ (s2 _ _ v1)) (s3 _ _ v2) v3 ma
  have hu6:=s3 _ _ (s2 _ _ (s1 _ _ hu5))
  refine ⟨_,_,rfl,rfl,⟨by decide,by decide,by decide⟩,_,rfl,_,rfl,_,_,rfl,rfl,line_le (show 12≤1000 by omega),fun e4 he4=>?_⟩
  have s4:Same G3 (upd G3 e4 (.lst [V.non,.bl true,.bl false,.int (-1),.int (-2),.str (Str.ofString "0"),.ref e1,.ref e2,.ref e3,.int (10 ^ 30),.int at',.int (at'+1)])):=(Same.refl G3).new he4
  refine ⟨_,rfl,e4,_,_,_,rfl,rfl,SqL.of upd_same,ea,?_⟩
  have kd4:=kd3.same s4
  replace tgo:=tgo.same (dls s4)
  replace hu6:=s4 _ _ hu6
  show (fun HH=>_) (upd G3 e4 (.lst [V.non,.bl true,.bl false,.int (-1),.int (-2),.str (Str.ofString "0"),.ref e1,.ref e2,.ref e3,.int (10 ^ 30),.int at',.int (at'+1)]))
  generalize upd G3 e4 (.lst [V.non,.bl true,.bl false,.int (-1),.int (-2),.str (Str.ofString "0"),.ref e1,.ref e2,.ref e3,.int (10 ^ 30),.int at',.int (at'+1)])=G4 at kd4 tgo hu6
  clear ea ma s1 s2 s3 s4 v1 v2 v3 ne1 ne2 ne3 he1 he2 he3 he4 hu5 kd kd3
  obtain ⟨vs,ev,mv,lv⟩:=cut_ints us none (some at')
  obtain ⟨ws,ew,mw,lw⟩:=cut_ints us (some (at'+1)) none
  refine ⟨_,rfl,_,rfl,_,rfl,u,_,rfl,hu6,fun r1 G5 t1 g1=>⟨_,rfl,one_line,fun r2 hr2=>?_⟩⟩
  have u6:Same G5 (upd G5 r2 (.tup [far])):=(Same.refl G5).new hr2
  refine ⟨r1,r2,_,_,rfl,rfl,u6 _ _ g1,upd_same,by rw [ev,List.length_map];exact line_le (show vs.length+1≤1000 by omega),fun r3 G7 t7 g3=>?_⟩
  have s7:=t1.trans (u6.trans t7)
  refine ⟨_,rfl,_,rfl,_,_,rfl,rfl,_,rfl,u,_,rfl,s7 _ _ hu6,fun r4 G8 t8 g4=>?_⟩
  refine ⟨r3,r4,_,_,rfl,rfl,t8 _ _ g3,g4,by rw [ev,ew,List.length_append,List.length_map,List.length_map];exact line_le (show vs.length+1+ws.length≤1000 by omega),fun r5 G9 t9 g5=>?_⟩
  have s9:=(s7.trans t8).trans t9
  rw [ev,ew] at g5
  have kd9:=kd4.same s9
  have hu9:=s9 _ _ hu6
  have tgb:Tg ps G9 (.ref r5) 11000 3 Any:=tg_tup g5 (Hid.neT (hid0.kp kd9) g5) (fun x hx=>sm x (mv x hx)) (fun x hx=>sm x (mw x hx)) (by omega) (by omega) (tgo.same (dls s9))
  clear tgo g1 g3 g4 g5 t1 u6 t7 t8 t9 s7 s9 kd4 hu6 mv mw ev ew lv lw hr2
  have hd1:=sh_cut sh none (some at')
  have hd2:=sh_cut sh (some (at'+1)) none
  refine ⟨_,rfl,_,rfl,_,rfl,z,rfl,hb,_,rfl,_,_,rfl,rfl,sh_two hd1 sc (by omega),_,rfl,_,rfl,_,_,rfl,rfl,_,rfl,z,rfl,hb,_,_,rfl,rfl,sh_two (sh_app hd1 sc) hd2 (by omega),?_⟩
  refine ⟨_,rfl,_,rfl,_,rfl,z,rfl,hb,_,rfl,_,_,rfl,rfl,sh_two hd1 ss (by omega),_,rfl,_,rfl,_,_,rfl,rfl,_,rfl,z,rfl,hb,_,_,rfl,rfl,sh_two (sh_app hd1 ss) hd2 (by omega),?_⟩
  have st:Sh 121 (cutS z none (some at')++letter++cutS z (some (at'+1)) none):=sh_app (sh_app hd1 sc) hd2
  have sg:Sh 121 (cutS z none (some at')++sign++cutS z (some (at'+1)) none):=sh_app (sh_app hd1 ss) hd2
  generalize cutS z none (some at')++letter++cutS z (some (at'+1)) none=tx at st
  generalize cutS z none (some at')++sign++cutS z (some (at'+1)) none=sx at sg
  refine ⟨_,rfl,_,rfl,line_le (show 2≤1000 by omega),fun a1' h1'=>?_⟩
  have hidx:=hid0.kp kd9
  have n1':a1' ∉ ps:=hidx.new h1'
  have s1':Same G9 (upd G9 a1' (.tup [.ref u,.str tx])):=(Same.refl G9).new h1'
  have v1':upd G9 a1' (.tup [.ref u,.str tx]) a1'=some (.tup [.ref u,.str tx]):=upd_same
  show (fun HH=>_) (upd G9 a1' (.tup [.ref u,.str tx]))
  generalize upd G9 a1' (.tup [.ref u,.str tx])=J1 at s1' v1'
  replace hidx:=hidx.same s1'
  replace kd9:=kd9.same s1'
  replace hu9:=s1' _ _ hu9
  replace tgb:=tgb.same (dls s1')
  refine ⟨_,rfl,_,rfl,line_le (show 2≤1000 by omega),fun a2' h2'=>?_⟩
  have n2':a2' ∉ ps:=hidx.new h2'
  have s2':Same J1 (upd J1 a2' (.tup [.ref u,.str tx])):=(Same.refl J1).new h2'
  have v2':upd J1 a2' (.tup [.ref u,.str tx]) a2'=some (.tup [.ref u,.str tx]):=upd_same
  show (fun HH=>_) (upd J1 a2' (.tup [.ref u,.str tx]))
  generalize upd J1 a2' (.tup [.ref u,.str tx])=J2 at s2' v2'
  replace hidx:=hidx.same s2'
  replace kd9:=kd9.same s2'
  replace hu9:=s2' _ _ hu9
  replace tgb:=tgb.same (dls s2')
  replace v1':=s2' _ _ v1'
  refine ⟨_,rfl,_,rfl,line_le (show 2≤1000 by omega),fun a3' h3'=>?_⟩
  have n3':a3' ∉ ps:=hidx.new h3'
  have s3':Same J2 (upd J2 a3' (.tup [.ref r5,.str z])):=(Same.refl J2).new h3'
  have v3':upd J2 a3' (.tup [.ref r5,.str z]) a3'=some (.tup [.ref r5,.str z]):=upd_same
  show (fun HH=>_) (upd J2 a3' (.tup [.ref r5,.str z]))
  generalize upd J2 a3' (.tup [.ref r5,.str z])=J3 at s3' v3'
  replace hidx:=hidx.same s3'
  replace kd9:=kd9.same s3'
  replace hu9:=s3' _ _ hu9
  replace tgb:=tgb.same (dls s3')
  replace v1':=s3' _ _ v1'
  replace v2':=s3' _ _ v2'
  refine ⟨_,rfl,_,rfl,line_le (show 2≤1000 by omega),fun a4' h4'=>?_⟩
  have n4':a4' ∉ ps:=hidx.new h4'
  have s4':Same J3 (upd J3 a4' (.tup [.ref r5,.str z])):=(Same.refl J3).new h4'
  have v4':upd J3 a4' (.tup [.ref r5,.str z]) a4'=some (.tup [.ref r5,.str z]):=upd_same
  show (fun HH=>_) (upd J3 a4' (.tup [.ref r5,.str z]))
  generalize upd J3 a4' (.tup [.ref r5,.str z])=J4 at s4' v4'
  replace hidx:=hidx.same s4'
  replace kd9:=kd9.same s4'
  replace hu9:=s4' _ _ hu9
  replace tgb:=tgb.same (dls s4')
  replace v1':=s4' _ _ v1'
  replace v2':=s4' _ _ v2'
  replace v3':=s4' _ _ v3'
  refine ⟨line_le (show 4≤1000 by omega),fun lt hlt=>?_⟩
  have ltp:lt≠p:=kd9.pool.ne hlt
  have fre:H lt=none:=kp_fresh kd9 ltp hlt
  have bag0:Bag p ps H u lt us 4 (upd J4 lt (.lst [.ref a1',.ref a2',.ref a3',.ref a4'])) [.ref a1',.ref a2',.ref a3',.ref a4']:=by
    refine ⟨kd9.new hlt,hid0,fre,ltp,upd_same,rfl,fun x hx=>tg_more ?_ hlt,dl_more hlt _ _ (dlp hu9 un)⟩
    simp only [List.mem_cons,List.not_mem_nil,or_false] at hx
    rcases hx with rfl | rfl | rfl | rfl
    · exact tg_pairR v1' n1' hu9 un sm (by omega) (tg_txt st (by omega))
    · exact tg_pairR v2' n2' hu9 un sm (by omega) (tg_txt st (by omega))
    · exact tg_pairL v3' n3' tgb sh
    · exact tg_pairL v4' n4' tgb sh
  show (fun HH=>_) (upd J4 lt (.lst [.ref a1',.ref a2',.ref a3',.ref a4']))
  generalize upd J4 lt (.lst [.ref a1',.ref a2',.ref a3',.ref a4'])=Y at bag0
  generalize [V.ref a1',.ref a2',.ref a3',.ref a4']=xs0 at bag0
  dsimp only [gName]
  clear v1' v2' v3' v4' n1' n2' n3' n4' tgb hu9 hidx kd9 s1' s2' s3' s4' h1' h2' h3' h4' hlt
  clear hd1 hd2
  refine mid (fun σ' H'=>σ'=[some (.ref p),some (.ref t),some (.int way),some (.int pick),some (.ref u),some (.str z),some (.int at'),some (.str letter),some (.str sign),some far,some (.ref r5),some (.str tx),some (.str sx),some (.ref lt)]∧∃ xs,Bag p ps H u lt us 5 H' xs) (fun σ' Y5 hY=>?_) (fun EE nx=>?_)
  rotate_left
  · have bag:=bag0
    have hu:=dl_same _ _ _ _ bag.up
    have un':u ∉ lt :: ps:=bag.hid2.neT hu
    clear bag0 q
    generalize Y=Z0 at bag hu
    refine ⟨_,rfl,.inl ⟨rfl,_,SqL.of bag.lst⟩,_,rfl,_,rfl,line_le (show 2≤1000 by omega),fun x1 hx1=>?_⟩
    have nx1:x1 ∉ lt :: ps:=bag.hid2.new hx1
    have sx1:Same Z0 (upd Z0 x1 (.tup [.ref u,.str sx])):=(Same.refl Z0).new hx1
    have vx1:upd Z0 x1 (.tup [.ref u,.str sx]) x1=some (.tup [.ref u,.str sx]):=upd_same
    show (fun HH=>_) (upd Z0 x1 (.tup [.ref u,.str sx]))
    generalize upd Z0 x1 (.tup [.ref u,.str sx])=Z1 at sx1 vx1
    replace bag:=bag.same sx1
    replace hu:=sx1 _ _ hu
    refine ⟨lt,_,_,rfl,rfl,bag.lst,by rw [bag.len];exact Nat.lt_of_lt_of_le (show 4 < 1000 by omega) (line_le (Nat.le_refl _)),nx _ _ ⟨rfl,_,bag.ext [.ref x1] rfl fun x hx=>?_⟩⟩
    rw [List.mem_singleton.mp hx]
    exact tg_pairR vx1 nx1 hu un' sm (by omega) (tg_txt sg (by omega))
  clear bag0
  obtain ⟨rfl,xs5,bag0⟩:=hY
  refine mid (fun σ' H'=>σ'=[some (.ref p),some (.ref t),some (.int way),some (.int pick),some (.ref u),some (.str z),some (.int at'),some (.str letter),some (.str sign),some far,some (.ref r5),some (.str tx),some (.str sx),some (.ref lt)]∧∃ xs,Bag p ps H u lt us 6 H' xs) (fun σ' Y6 hY=>?_) (fun EE nx=>?_)
  rotate_left
  · have bag:=bag0
    have hu:=dl_same _ _ _ _ bag.up
    have un':u ∉ lt :: ps:=bag.hid2.neT hu
    clear bag0 q
    generalize Y5=Z0 at bag hu
    refine ⟨_,rfl,.inl ⟨rfl,_,SqL.of bag.lst⟩,_,rfl,_,rfl,line_le (show 1≤1000 by omega),fun x2 hx2=>?_⟩
    have nx2:x2 ∉ lt :: ps:=bag.hid2.new hx2
    have sx2:Same Z0 (upd Z0 x2 (.tup [.int at'])):=(Same.refl Z0).new hx2
    have vx2:upd Z0 x2 (.tup [.int at']) x2=some (.tup [.int at']):=upd_same
    show (fun HH=>_) (upd Z0 x2 (.tup [.int at']))
    generalize upd Z0 x2 (.tup [.int at'])=Z2 at sx2 vx2
    replace bag:=bag.same sx2
    replace hu:=sx2 _ _ hu
    refine ⟨u,x2,_,_,rfl,rfl,hu,vx2,by rw [List.length_map];exact line_le (show us.length+1≤1000 by omega),fun x3 Z3 sx3 vx3=>?_⟩
    replace bag:=bag.same sx3
    replace hu:=sx3 _ _ hu
    have nx3:x3 ∉ lt :: ps:=bag.hid2.neT vx3
    replace vx2:=sx3 _ _ vx2
    rw [show us.map V.int++[V.int at']=(us++[at']).map V.int by rw [List.map_append];rfl] at vx3
    refine ⟨_,rfl,_,rfl,_,_,rfl,rfl,sh_two sh sc (by omega),line_le (show 2≤1000 by omega),fun x4 hx4=>?_⟩
    have nx4:x4 ∉ lt :: ps:=bag.hid2.new hx4
    have sx4:Same Z3 (upd Z3 x4 (.tup [.ref x3,.str (z++letter)])):=(Same.refl Z3).new hx4
    have vx4:upd Z3 x4 (.tup [.ref x3,.str (z++letter)]) x4=some (.tup [.ref x3,.str (z++letter)]):=upd_same
    show (fun HH=>_) (upd Z3 x4 (.tup [.ref x3,.str (z++letter)]))
    generalize upd Z3 x4 (.tup [.ref x3,.str (z++letter)])=Z4 at sx4 vx4
    replace bag:=bag.same sx4
    replace hu:=sx4 _ _ hu
    replace vx2:=sx4 _ _ vx2
    replace vx3:=sx4 _ _ vx3
    refine ⟨lt,_,_,rfl,rfl,bag.lst,by rw [bag.len];exact Nat.lt_of_lt_of_le (show 5 < 1000 by omega) (line_le (Nat.le_refl _)),nx _ _ ⟨rfl,_,bag.ext [.ref x4] rfl fun x hx=>?_⟩⟩
    rw [List.mem_singleton.mp hx]
    exact tg_pairR vx4 nx4 vx3 nx3 (ups_in sm (⟨by omega,by omega⟩)) (by rw [List.length_append];show us.length+1≤125;omega) (tg_txt (sh_app sh sc) (by omega))
  clear bag0
  obtain ⟨rfl,xs6,bag0⟩:=hY
  refine mid (fun σ' H'=>σ'=[some (.ref p),some (.ref t),some (.int way),some (.int pick),some (.ref u),some (.str z),some (.int at'),some (.str letter),some (.str sign),some far,some (.ref r5),some (.str tx),some (.str sx),some (.ref lt)]∧∃ xs,Bag p ps H u lt us 7 H' xs) (fun σ' Y7 hY=>?_) (fun EE nx=>?_)
  rotate_left
  · have bag:=bag0
    have hu:=dl_same _ _ _ _ bag.up
    have un':u ∉ lt :: ps:=bag.hid2.neT hu
    clear bag0 q
    generalize Y6=Z0 at bag hu
    refine ⟨_,rfl,.inl ⟨rfl,_,SqL.of bag.lst⟩,_,rfl,line_le (show 1≤1000 by omega),fun x5 hx5=>?_⟩
    have nx5:x5 ∉ lt :: ps:=bag.hid2.new hx5
    have sx5:Same Z0 (upd Z0 x5 (.tup [.int 0])):=(Same.refl Z0).new hx5
    have vx5:upd Z0 x5 (.tup [.int 0]) x5=some (.tup [.int 0]):=upd_same
    show (fun HH=>_) (upd Z0 x5 (.tup [.int 0]))
    generalize upd Z0 x5 (.tup [.int 0])=Z5 at sx5 vx5
    replace bag:=bag.same sx5
    replace hu:=sx5 _ _ hu
    refine ⟨u,x5,_,_,rfl,rfl,hu,vx5,by rw [List.length_map];exact line_le (show us.length+1≤1000 by omega),fun x6 Z6 sx6 vx6=>?_⟩
    replace bag:=bag.same sx6
    replace hu:=sx6 _ _ hu
    have nx6:x6 ∉ lt :: ps:=bag.hid2.neT vx6
    replace vx5:=sx6 _ _ vx5
    rw [show us.map V.int++[V.int 0]=(us++[0]).map V.int by rw [List.map_append];rfl] at vx6
    refine ⟨_,rfl,_,rfl,_,_,rfl,rfl,sh_two sh sc (by omega),line_le (show 2≤1000 by omega),fun x7 hx7=>?_⟩
    have nx7:x7 ∉ lt :: ps:=bag.hid2.new hx7
    have sx7:Same Z6 (upd Z6 x7 (.tup [.ref x6,.str (z++letter)])):=(Same.refl Z6).new hx7
    have vx7:upd Z6 x7 (.tup [.ref x6,.str (z++letter)]) x7=some (.tup [.ref x6,.str (z++letter)]):=upd_same
    show (fun HH=>_) (upd Z6 x7 (.tup [.ref x6,.str (z++letter)]))
    generalize upd Z6 x7 (.tup [.ref x6,.str (z++letter)])=Z7 at sx7 vx7
    replace bag:=bag.same sx7
    replace hu:=sx7 _ _ hu
    replace vx5:=sx7 _ _ vx5
    replace vx6:=sx7 _ _ vx6
    refine ⟨lt,_,_,rfl,rfl,bag.lst,by rw [bag.len];exact Nat.lt_of_lt_of_le (show 6 < 1000 by omega) (line_le (Nat.le_refl _)),nx _ _ ⟨rfl,_,bag.ext [.ref x7] rfl fun x hx=>?_⟩⟩
    rw [List.mem_singleton.mp hx]
    exact tg_pairR vx7 nx7 vx6 nx6 (ups_in sm (by decide)) (by rw [List.length_append];show us.length+1≤125;omega) (tg_txt (sh_app sh sc) (by omega))
  clear bag0
  obtain ⟨rfl,xs7,bag0⟩:=hY
  refine mid (fun σ' H'=>σ'=[some (.ref p),some (.ref t),some (.int way),some (.int pick),some (.ref u),some (.str z),some (.int at'),some (.str letter),some (.str sign),some far,some (.ref r5),some (.str tx),some (.str sx),some (.ref lt)]∧∃ xs,Bag p ps H u lt us 8 H' xs) (fun σ' Y8 hY=>?_) (fun EE nx=>?_)
  rotate_left
  · have bag:=bag0
    have hu:=dl_same _ _ _ _ bag.up
    have un':u ∉ lt :: ps:=bag.hid2.neT hu
    clear bag0 q
    generalize Y7=Z0 at bag hu
    refine ⟨_,rfl,.inl ⟨rfl,_,SqL.of bag.lst⟩,_,rfl,_,rfl,u,_,rfl,.inr (SqT.of hu),_,_,rfl,rfl,line_le (show 1≤1000 by omega),fun x8 hx8=>?_⟩
    have nx8:x8 ∉ lt :: ps:=bag.hid2.new hx8
    have sx8:Same Z0 (upd Z0 x8 (.tup [.int (((us.map V.int).length:Nat) - 1:Int)])):=(Same.refl Z0).new hx8
    have vx8:upd Z0 x8 (.tup [.int (((us.map V.int).length:Nat) - 1:Int)]) x8=some (.tup [.int (((us.map V.int).length:Nat) - 1:Int)]):=upd_same
    show (fun HH=>_) (upd Z0 x8 (.tup [.int (((us.map V.int).length:Nat) - 1:Int)]))
    generalize upd Z0 x8 (.tup [.int (((us.map V.int).length:Nat) - 1:Int)])=Z8 at sx8 vx8
    replace bag:=bag.same sx8
    replace hu:=sx8 _ _ hu
    refine ⟨u,x8,_,_,rfl,rfl,hu,vx8,by rw [List.length_map];exact line_le (show us.length+1≤1000 by omega),fun x9 Z9 sx9 vx9=>?_⟩
    replace bag:=bag.same sx9
    replace hu:=sx9 _ _ hu
    have nx9:x9 ∉ lt :: ps:=bag.hid2.neT vx9
    replace vx8:=sx9 _ _ vx8
    rw [show us.map V.int++[V.int (((us.map V.int).length:Nat) - 1:Int)]=(us++[(((us.map V.int).length:Nat) - 1:Int)]).map V.int by rw [List.map_append];rfl] at vx9
    refine ⟨_,rfl,_,rfl,_,_,rfl,rfl,sh_two sh sc (by omega),line_le (show 2≤1000 by omega),fun x10 hx10=>?_⟩
    have nx10:x10 ∉ lt :: ps:=bag.hid2.new hx10
    have sx10:Same Z9 (upd Z9 x10 (.tup [.ref x9,.str (z++letter)])):=(Same.refl Z9).new hx10
    have vx10:upd Z9 x10 (.tup [.ref x9,.str (z++letter)]) x10=some (.tup [.ref x9,.str (z++letter)]):=upd_same
    show (fun HH=>_) (upd Z9 x10 (.tup [.ref x9,.str (z++letter)]))
    generalize upd Z9 x10 (.tup [.ref x9,.str (z++letter)])=Z10 at sx10 vx10
    replace bag:=bag.same sx10
    replace hu:=sx10 _ _ hu
    replace vx8:=sx10 _ _ vx8
    replace vx9:=sx10 _ _ vx9
    refine ⟨lt,_,_,rfl,rfl,bag.lst,by rw [bag.len];exact Nat.lt_of_lt_of_le (show 7 < 1000 by omega) (line_le (Nat.le_refl _)),nx _ _ ⟨rfl,_,bag.ext [.ref x10] rfl fun x hx=>?_⟩⟩
    rw [List.mem_singleton.mp hx]
    exact tg_pairR vx10 nx10 vx9 nx9 (ups_in sm (by rw [List.length_map];omega)) (by rw [List.length_append];show us.length+1≤125;omega) (tg_txt (sh_app sh sc) (by omega))
  clear bag0
  obtain ⟨rfl,xs8,bag0⟩:=hY
  refine mid (fun σ' H'=>σ'=[some (.ref p),some (.ref t),some (.int way),some (.int pick),some (.ref u),some (.str z),some (.int at'),some (.str letter),some (.str sign),some far,some (.ref r5),some (.str tx),some (.str sx),some (.ref lt)]∧∃ xs,Bag p ps H u lt us 11 H' xs) (fun σ' Y11 hY=>?_) (fun EE nx=>?_)
  rotate_left
  · have bag:=bag0
    have hu:=dl_same _ _ _ _ bag.up
    have un':u ∉ lt :: ps:=bag.hid2.neT hu
    clear bag0 q
    generalize Y8=Z0 at bag hu
    refine ⟨_,rfl,.inl ⟨rfl,_,SqL.of bag.lst⟩,_,rfl,_,rfl,_,rfl,u,_,rfl,hu,fun x11 Z11 sx11 vx11=>?_⟩
    replace bag:=bag.same sx11
    replace hu:=sx11 _ _ hu
    have nx11:x11 ∉ lt :: ps:=bag.hid2.neT vx11
    obtain ⟨qx11,ex11,mx11,lx11⟩:=cut_ints us none (some (-1))
    rw [ex11] at vx11
    refine ⟨_,rfl,_,rfl,_,rfl,z,rfl,hb,line_le (show 2≤1000 by omega),fun x12 hx12=>?_⟩
    have nx12:x12 ∉ lt :: ps:=bag.hid2.new hx12
    have sx12:Same Z11 (upd Z11 x12 (.tup [.ref x11,.str (cutS z none (some (-1)))])):=(Same.refl Z11).new hx12
    have vx12:upd Z11 x12 (.tup [.ref x11,.str (cutS z none (some (-1)))]) x12=some (.tup [.ref x11,.str (cutS z none (some (-1)))]):=upd_same
    show (fun HH=>_) (upd Z11 x12 (.tup [.ref x11,.str (cutS z none (some (-1)))]))
    generalize upd Z11 x12 (.tup [.ref x11,.str (cutS z none (some (-1)))])=Z12 at sx12 vx12
    replace bag:=bag.same sx12
    replace hu:=sx12 _ _ hu
    replace vx11:=sx12 _ _ vx11
    refine ⟨_,rfl,_,rfl,_,rfl,u,_,rfl,hu,fun x13 Z13 sx13 vx13=>?_⟩
    replace bag:=bag.same sx13
    replace hu:=sx13 _ _ hu
    have nx13:x13 ∉ lt :: ps:=bag.hid2.neT vx13
    replace vx11:=sx13 _ _ vx11
    replace vx12:=sx13 _ _ vx12
    obtain ⟨qx13,ex13,mx13,lx13⟩:=cut_ints us none (some (-1))
    rw [ex13] at vx13
    refine ⟨_,rfl,line_le (show 2≤1000 by omega),fun x14 hx14=>?_⟩
    have nx14:x14 ∉ lt :: ps:=bag.hid2.new hx14
    have sx14:Same Z13 (upd Z13 x14 (.tup [.ref x13,.str z])):=(Same.refl Z13).new hx14
    have vx14:upd Z13 x14 (.tup [.ref x13,.str z]) x14=some (.tup [.ref x13,.str z]):=upd_same
    show (fun HH=>_) (upd Z13 x14 (.tup [.ref x13,.str z]))
    generalize upd Z13 x14 (.tup [.ref x13,.str z])=Z14 at sx14 vx14
    replace bag:=bag.same sx14
    replace hu:=sx14 _ _ hu
    replace vx11:=sx14 _ _ vx11
    replace vx12:=sx14 _ _ vx12
    replace vx13:=sx14 _ _ vx13
    refine ⟨_,rfl,_,rfl,_,rfl,_,rfl,z,rfl,hb,line_le (show 2≤1000 by omega),fun x15 hx15=>?_⟩
    have nx15:x15 ∉ lt :: ps:=bag.hid2.new hx15
    have sx15:Same Z14 (upd Z14 x15 (.tup [.ref u,.str (cutS z none (some (-1)))])):=(Same.refl Z14).new hx15
    have vx15:upd Z14 x15 (.tup [.ref u,.str (cutS z none (some (-1)))]) x15=some (.tup [.ref u,.str (cutS z none (some (-1)))]):=upd_same
    show (fun HH=>_) (upd Z14 x15 (.tup [.ref u,.str (cutS z none (some (-1)))]))
    generalize upd Z14 x15 (.tup [.ref u,.str (cutS z none (some (-1)))])=Z15 at sx15 vx15
    replace bag:=bag.same sx15
    replace hu:=sx15 _ _ hu
    replace vx11:=sx15 _ _ vx11
    replace vx12:=sx15 _ _ vx12
    replace vx13:=sx15 _ _ vx13
    replace vx14:=sx15 _ _ vx14
    refine ⟨line_le (show 3≤1000 by omega),fun x16 hx16=>?_⟩
    have nx16:x16 ∉ lt :: ps:=bag.hid2.new hx16
    have sx16:Same Z15 (upd Z15 x16 (.lst [.ref x12,.ref x14,.ref x15])):=(Same.refl Z15).new hx16
    have vx16:upd Z15 x16 (.lst [.ref x12,.ref x14,.ref x15]) x16=some (.lst [.ref x12,.ref x14,.ref x15]):=upd_same
    show (fun HH=>_) (upd Z15 x16 (.lst [.ref x12,.ref x14,.ref x15]))
    generalize upd Z15 x16 (.lst [.ref x12,.ref x14,.ref x15])=Z16 at sx16 vx16
    replace bag:=bag.same sx16
    replace hu:=sx16 _ _ hu
    replace vx11:=sx16 _ _ vx11
    replace vx12:=sx16 _ _ vx12
    replace vx13:=sx16 _ _ vx13
    replace vx14:=sx16 _ _ vx14
    replace vx15:=sx16 _ _ vx15
    refine ⟨lt,x16,_,_,rfl,rfl,bag.lst,vx16,by rw [bag.len];exact line_le (show 8+3≤1000 by omega),nx _ _ ⟨rfl,_,bag.ext [.ref x12,.ref x14,.ref x15] rfl fun x hx=>?_⟩⟩
    simp only [List.mem_cons,List.not_mem_nil,or_false] at hx
    rcases hx with rfl | rfl | rfl
    · exact tg_pairR vx12 nx12 vx11 nx11 (fun x hx=>sm x (mx11 x hx)) (by omega) (tg_txt (sh_cut sh none (some (-1))) (by omega))
    · exact tg_pairR vx14 nx14 vx13 nx13 (fun x hx=>sm x (mx13 x hx)) (by omega) (tg_txt sh (by omega))
    · exact tg_pairR vx15 nx15 hu un' sm (by omega) (tg_txt (sh_cut sh none (some (-1))) (by omega))
  clear bag0
  obtain ⟨rfl,xs11,bag0⟩:=hY
  refine mid (fun σ' H'=>σ'=[some (.ref p),some (.ref t),some (.int way),some (.int pick),some (.ref u),some (.str z),some (.int at'),some (.str letter),some (.str sign),some far,some (.ref r5),some (.str tx),some (.str sx),some (.ref lt)]∧∃ xs,Bag p ps H u lt us 14 H' xs) (fun σ' Y14 hY=>?_) (fun EE nx=>?_)
  rotate_left
  · have bag:=bag0
    have hu:=dl_same _ _ _ _ bag.up
    have un':u ∉ lt :: ps:=bag.hid2.neT hu
    clear bag0 q
    generalize Y11=Z0 at bag hu
    refine ⟨_,rfl,.inl ⟨rfl,_,SqL.of bag.lst⟩,_,rfl,u,_,rfl,.inr (SqT.of hu),fun x17 hx17=>?_⟩
    have nx17:x17 ∉ lt :: ps:=bag.hid2.new hx17
    have sx17:Same Z0 (upd Z0 x17 (.lst (us.map V.int))):=(Same.refl Z0).new hx17
    have vx17:upd Z0 x17 (.lst (us.map V.int)) x17=some (.lst (us.map V.int)):=upd_same
    show (fun HH=>_) (upd Z0 x17 (.lst (us.map V.int)))
    generalize upd Z0 x17 (.lst (us.map V.int))=Z17 at sx17 vx17
    replace bag:=bag.same sx17
    replace hu:=sx17 _ _ hu
    refine ⟨_,rfl,line_le (show 2≤1000 by omega),fun x18 hx18=>?_⟩
    have nx18:x18 ∉ lt :: ps:=bag.hid2.new hx18
    have sx18:Same Z17 (upd Z17 x18 (.tup [.ref x17,.str z])):=(Same.refl Z17).new hx18
    have vx18:upd Z17 x18 (.tup [.ref x17,.str z]) x18=some (.tup [.ref x17,.str z]):=upd_same
    show (fun HH=>_) (upd Z17 x18 (.tup [.ref x17,.str z]))
    generalize upd Z17 x18 (.tup [.ref x17,.str z])=Z18 at sx18 vx18
    replace bag:=bag.same sx18
    replace hu:=sx18 _ _ hu
    replace vx17:=sx18 _ _ vx17
    refine ⟨_,rfl,_,rfl,z,rfl,by omega,fun x19 hx19=>?_⟩
    have nx19:x19 ∉ lt :: ps:=bag.hid2.new hx19
    have sx19:Same Z18 (upd Z18 x19 (.lst (signs z))):=(Same.refl Z18).new hx19
    have vx19:upd Z18 x19 (.lst (signs z)) x19=some (.lst (signs z)):=upd_same
    show (fun HH=>_) (upd Z18 x19 (.lst (signs z)))
    generalize upd Z18 x19 (.lst (signs z))=Z19 at sx19 vx19
    replace bag:=bag.same sx19
    replace hu:=sx19 _ _ hu
    replace vx17:=sx19 _ _ vx17
    replace vx18:=sx19 _ _ vx18
    refine ⟨line_le (show 2≤1000 by omega),fun x20 hx20=>?_⟩
    have nx20:x20 ∉ lt :: ps:=bag.hid2.new hx20
    have sx20:Same Z19 (upd Z19 x20 (.tup [.ref u,.ref x19])):=(Same.refl Z19).new hx20
    have vx20:upd Z19 x20 (.tup [.ref u,.ref x19]) x20=some (.tup [.ref u,.ref x19]):=upd_same
    show (fun HH=>_) (upd Z19 x20 (.tup [.ref u,.ref x19]))
    generalize upd Z19 x20 (.tup [.ref u,.ref x19])=Z20 at sx20 vx20
    replace bag:=bag.same sx20
    replace hu:=sx20 _ _ hu
    replace vx17:=sx20 _ _ vx17
    replace vx18:=sx20 _ _ vx18
    replace vx19:=sx20 _ _ vx19
    refine ⟨_,rfl,_,rfl,line_le (show 2≤1000 by omega),fun x21 hx21=>?_⟩
    have nx21:x21 ∉ lt :: ps:=bag.hid2.new hx21
    have sx21:Same Z20 (upd Z20 x21 (.lst [.ref u,.str z])):=(Same.refl Z20).new hx21
    have vx21:upd Z20 x21 (.lst [.ref u,.str z]) x21=some (.lst [.ref u,.str z]):=upd_same
    show (fun HH=>_) (upd Z20 x21 (.lst [.ref u,.str z]))
    generalize upd Z20 x21 (.lst [.ref u,.str z])=Z21 at sx21 vx21
    replace bag:=bag.same sx21
    replace hu:=sx21 _ _ hu
    replace vx17:=sx21 _ _ vx17
    replace vx18:=sx21 _ _ vx18
    replace vx19:=sx21 _ _ vx19
    replace vx20:=sx21 _ _ vx20
    refine ⟨line_le (show 3≤1000 by omega),fun x22 hx22=>?_⟩
    have nx22:x22 ∉ lt :: ps:=bag.hid2.new hx22
    have sx22:Same Z21 (upd Z21 x22 (.lst [.ref x18,.ref x20,.ref x21])):=(Same.refl Z21).new hx22
    have vx22:upd Z21 x22 (.lst [.ref x18,.ref x20,.ref x21]) x22=some (.lst [.ref x18,.ref x20,.ref x21]):=upd_same
    show (fun HH=>_) (upd Z21 x22 (.lst [.ref x18,.ref x20,.ref x21]))
    generalize upd Z21 x22 (.lst [.ref x18,.ref x20,.ref x21])=Z22 at sx22 vx22
    replace bag:=bag.same sx22
    replace hu:=sx22 _ _ hu
    replace vx17:=sx22 _ _ vx17
    replace vx18:=sx22 _ _ vx18
    replace vx19:=sx22 _ _ vx19
    replace vx20:=sx22 _ _ vx20
    replace vx21:=sx22 _ _ vx21
    refine ⟨lt,x22,_,_,rfl,rfl,bag.lst,vx22,by rw [bag.len];exact line_le (show 11+3≤1000 by omega),nx _ _ ⟨rfl,_,bag.ext [.ref x18,.ref x20,.ref x21] rfl fun x hx=>?_⟩⟩
    simp only [List.mem_cons,List.not_mem_nil,or_false] at hx
    rcases hx with rfl | rfl | rfl
    · exact tg_pairL vx18 nx18 (tg_lst vx17 nx17 sm (by omega)) sh
    · exact tg_pairR vx20 nx20 hu un' sm (by omega) (tg_signs sh vx19 nx19)
    · exact ⟨.list [.tuple (us.map .int),.str z],false,true,.lst (dlp vx21 nx21) (.cons (.tup (dlp hu un') (Tds.ints us)) (.one (.str z))),(Gd.lst (Gs.cons (gd_ints sm (by omega) (e:=2)) (Gs.one ((gd_str sh (by omega)).mono (Nat.le_refl _) (by omega))))).mono (by omega) (by omega),.inl rfl,fun x y e=>by cases e⟩
  clear bag0
  obtain ⟨rfl,xs14,bag0⟩:=hY
  refine mid (fun σ' H'=>σ'=[some (.ref p),some (.ref t),some (.int way),some (.int pick),some (.ref u),some (.str z),some (.int at'),some (.str letter),some (.str sign),some far,some (.ref r5),some (.str tx),some (.str sx),some (.ref lt)]∧∃ xs,Bag p ps H u lt us 18 H' xs) (fun σ' Y18 hY=>?_) (fun EE nx=>?_)
  rotate_left
  · have bag:=bag0
    have hu:=dl_same _ _ _ _ bag.up
    have un':u ∉ lt :: ps:=bag.hid2.neT hu
    clear bag0 q
    generalize Y14=Z0 at bag hu
    refine ⟨_,rfl,.inl ⟨rfl,_,SqL.of bag.lst⟩,_,rfl,_,rfl,line_le (show 0≤1000 by omega),fun x23 hx23=>?_⟩
    have nx23:x23 ∉ lt :: ps:=bag.hid2.new hx23
    have sx23:Same Z0 (upd Z0 x23 (.tup [])):=(Same.refl Z0).new hx23
    have vx23:upd Z0 x23 (.tup []) x23=some (.tup []):=upd_same
    show (fun HH=>_) (upd Z0 x23 (.tup []))
    generalize upd Z0 x23 (.tup [])=Z23 at sx23 vx23
    replace bag:=bag.same sx23
    replace hu:=sx23 _ _ hu
    refine ⟨line_le (show 3≤1000 by omega),fun x24 hx24=>?_⟩
    have nx24:x24 ∉ lt :: ps:=bag.hid2.new hx24
    have sx24:Same Z23 (upd Z23 x24 (.tup [.ref u,.str z,.ref x23])):=(Same.refl Z23).new hx24
    have vx24:upd Z23 x24 (.tup [.ref u,.str z,.ref x23]) x24=some (.tup [.ref u,.str z,.ref x23]):=upd_same
    show (fun HH=>_) (upd Z23 x24 (.tup [.ref u,.str z,.ref x23]))
    generalize upd Z23 x24 (.tup [.ref u,.str z,.ref x23])=Z24 at sx24 vx24
    replace bag:=bag.same sx24
    replace hu:=sx24 _ _ hu
    replace vx23:=sx24 _ _ vx23
    refine ⟨_,rfl,line_le (show 1≤1000 by omega),fun x25 hx25=>?_⟩
    have nx25:x25 ∉ lt :: ps:=bag.hid2.new hx25
    have sx25:Same Z24 (upd Z24 x25 (.tup [.ref u])):=(Same.refl Z24).new hx25
    have vx25:upd Z24 x25 (.tup [.ref u]) x25=some (.tup [.ref u]):=upd_same
    show (fun HH=>_) (upd Z24 x25 (.tup [.ref u]))
    generalize upd Z24 x25 (.tup [.ref u])=Z25 at sx25 vx25
    replace bag:=bag.same sx25
    replace hu:=sx25 _ _ hu
    replace vx23:=sx25 _ _ vx23
    replace vx24:=sx25 _ _ vx24
    refine ⟨_,rfl,_,rfl,line_le (show 2≤1000 by omega),fun x26 hx26=>?_⟩
    have nx26:x26 ∉ lt :: ps:=bag.hid2.new hx26
    have sx26:Same Z25 (upd Z25 x26 (.tup [.str z,.ref u])):=(Same.refl Z25).new hx26
    have vx26:upd Z25 x26 (.tup [.str z,.ref u]) x26=some (.tup [.str z,.ref u]):=upd_same
    show (fun HH=>_) (upd Z25 x26 (.tup [.str z,.ref u]))
    generalize upd Z25 x26 (.tup [.str z,.ref u])=Z26 at sx26 vx26
    replace bag:=bag.same sx26
    replace hu:=sx26 _ _ hu
    replace vx23:=sx26 _ _ vx23
    replace vx24:=sx26 _ _ vx24
    replace vx25:=sx26 _ _ vx25
    refine ⟨_,rfl,line_le (show 2≤1000 by omega),fun x27 hx27=>?_⟩
    have nx27:x27 ∉ lt :: ps:=bag.hid2.new hx27
    have sx27:Same Z26 (upd Z26 x27 (.tup [.ref u,.non])):=(Same.refl Z26).new hx27
    have vx27:upd Z26 x27 (.tup [.ref u,.non]) x27=some (.tup [.ref u,.non]):=upd_same
    show (fun HH=>_) (upd Z26 x27 (.tup [.ref u,.non]))
    generalize upd Z26 x27 (.tup [.ref u,.non])=Z27 at sx27 vx27
    replace bag:=bag.same sx27
    replace hu:=sx27 _ _ hu
    replace vx23:=sx27 _ _ vx23
    replace vx24:=sx27 _ _ vx24
    replace vx25:=sx27 _ _ vx25
    replace vx26:=sx27 _ _ vx26
    refine ⟨line_le (show 4≤1000 by omega),fun x28 hx28=>?_⟩
    have nx28:x28 ∉ lt :: ps:=bag.hid2.new hx28
    have sx28:Same Z27 (upd Z27 x28 (.lst [.ref x24,.ref x25,.ref x26,.ref x27])):=(Same.refl Z27).new hx28
    have vx28:upd Z27 x28 (.lst [.ref x24,.ref x25,.ref x26,.ref x27]) x28=some (.lst [.ref x24,.ref x25,.ref x26,.ref x27]):=upd_same
    show (fun HH=>_) (upd Z27 x28 (.lst [.ref x24,.ref x25,.ref x26,.ref x27]))
    generalize upd Z27 x28 (.lst [.ref x24,.ref x25,.ref x26,.ref x27])=Z28 at sx28 vx28
    replace bag:=bag.same sx28
    replace hu:=sx28 _ _ hu
    replace vx23:=sx28 _ _ vx23
    replace vx24:=sx28 _ _ vx24
    replace vx25:=sx28 _ _ vx25
    replace vx26:=sx28 _ _ vx26
    replace vx27:=sx28 _ _ vx27
    refine ⟨lt,x28,_,_,rfl,rfl,bag.lst,vx28,by rw [bag.len];exact line_le (show 14+4≤1000 by omega),nx _ _ ⟨rfl,_,bag.ext [.ref x24,.ref x25,.ref x26,.ref x27] rfl fun x hx=>?_⟩⟩
    simp only [List.mem_cons,List.not_mem_nil,or_false] at hx
    rcases hx with rfl | rfl | rfl | rfl
    · exact ⟨.tuple [.tuple (us.map .int),.str z,.tuple []],false,false,.tup (dlp vx24 nx24) (.cons (.tup (dlp hu un') (Tds.ints us)) (.cons (.str z) (.one (.tup (dlp vx23 nx23) .nil)))),(Gd.tup (Gs.cons (gd_ints sm (by omega) (e:=2)) (Gs.cons ((gd_str sh (by omega)).mono (Nat.le_refl _) (by omega)) (Gs.one ((Gd.tup Gs.nil).mono (by omega) (by omega)))))).mono (c:=5300+1+(900+1+(0+1))) (by omega) (by omega),.inl rfl,fun x y e=>by cases e⟩
    · exact ⟨.tuple [.tuple (us.map .int)],false,false,.tup (dlp vx25 nx25) (.one (.tup (dlp hu un') (Tds.ints us))),(Gd.tup (Gs.one (gd_ints sm (by omega) (e:=2)))).mono (by omega) (by omega),.inl rfl,fun x y e=>by cases e⟩
    · exact ⟨.tuple [.str z,.tuple (us.map .int)],false,false,.tup (dlp vx26 nx26) (.cons (.str z) (.one (.tup (dlp hu un') (Tds.ints us)))),(Gd.tup (Gs.cons ((gd_str sh (by omega)).mono (Nat.le_refl _) (by omega)) (Gs.one (gd_ints sm (by omega) (e:=2))))).mono (by omega) (by omega),.inl rfl,fun x y e=>by cases e;exact fun y e=>by cases e⟩
    · exact tg_pairR vx27 nx27 hu un' sm (by omega) ⟨.none,false,false,.non,Gd.non.mono (by omega) (by omega),.inl rfl,fun y e=>by cases e⟩
  clear bag0
  obtain ⟨rfl,xs18,bag0⟩:=hY
  refine mid (fun σ' H'=>σ'=[some (.ref p),some (.ref t),some (.int way),some (.int pick),some (.ref u),some (.str z),some (.int at'),some (.str letter),some (.str sign),some far,some (.ref r5),some (.str tx),some (.str sx),some (.ref lt)]∧∃ xs,Bag p ps H u lt us 20 H' xs) (fun σ' Y20 hY=>?_) (fun EE nx=>?_)
  rotate_left
  · have bag:=bag0
    have hu:=dl_same _ _ _ _ bag.up
    have un':u ∉ lt :: ps:=bag.hid2.neT hu
    clear bag0 q
    generalize Y18=Z0 at bag hu
    refine ⟨_,rfl,.inl ⟨rfl,_,SqL.of bag.lst⟩,_,rfl,_,rfl,_,rfl,_,_,rfl,rfl,sh_two sh ss (by omega),line_le (show 2≤1000 by omega),fun x29 hx29=>?_⟩
    have nx29:x29 ∉ lt :: ps:=bag.hid2.new hx29
    have sx29:Same Z0 (upd Z0 x29 (.tup [.ref u,.str (z++sign)])):=(Same.refl Z0).new hx29
    have vx29:upd Z0 x29 (.tup [.ref u,.str (z++sign)]) x29=some (.tup [.ref u,.str (z++sign)]):=upd_same
    show (fun HH=>_) (upd Z0 x29 (.tup [.ref u,.str (z++sign)]))
    generalize upd Z0 x29 (.tup [.ref u,.str (z++sign)])=Z29 at sx29 vx29
    replace bag:=bag.same sx29
    replace hu:=sx29 _ _ hu
    refine ⟨line_le (show 0≤1000 by omega),fun x30 hx30=>?_⟩
    have nx30:x30 ∉ lt :: ps:=bag.hid2.new hx30
    have sx30:Same Z29 (upd Z29 x30 (.tup [])):=(Same.refl Z29).new hx30
    have vx30:upd Z29 x30 (.tup []) x30=some (.tup []):=upd_same
    show (fun HH=>_) (upd Z29 x30 (.tup []))
    generalize upd Z29 x30 (.tup [])=Z30 at sx30 vx30
    replace bag:=bag.same sx30
    replace hu:=sx30 _ _ hu
    replace vx29:=sx30 _ _ vx29
    refine ⟨line_le (show 2≤1000 by omega),fun x31 hx31=>?_⟩
    have nx31:x31 ∉ lt :: ps:=bag.hid2.new hx31
    have sx31:Same Z30 (upd Z30 x31 (.tup [.ref x30,.str (Str.ofString "")])):=(Same.refl Z30).new hx31
    have vx31:upd Z30 x31 (.tup [.ref x30,.str (Str.ofString "")]) x31=some (.tup [.ref x30,.str (Str.ofString "")]):=upd_same
    show (fun HH=>_) (upd Z30 x31 (.tup [.ref x30,.str (Str.ofString "")]))
    generalize upd Z30 x31 (.tup [.ref x30,.str (Str.ofString "")])=Z31 at sx31 vx31
    replace bag:=bag.same sx31
    replace hu:=sx31 _ _ hu
    replace vx29:=sx31 _ _ vx29
    replace vx30:=sx31 _ _ vx30
    refine ⟨line_le (show 2≤1000 by omega),fun x32 hx32=>?_⟩
    have nx32:x32 ∉ lt :: ps:=bag.hid2.new hx32
    have sx32:Same Z31 (upd Z31 x32 (.lst [.ref x29,.ref x31])):=(Same.refl Z31).new hx32
    have vx32:upd Z31 x32 (.lst [.ref x29,.ref x31]) x32=some (.lst [.ref x29,.ref x31]):=upd_same
    show (fun HH=>_) (upd Z31 x32 (.lst [.ref x29,.ref x31]))
    generalize upd Z31 x32 (.lst [.ref x29,.ref x31])=Z32 at sx32 vx32
    replace bag:=bag.same sx32
    replace hu:=sx32 _ _ hu
    replace vx29:=sx32 _ _ vx29
    replace vx30:=sx32 _ _ vx30
    replace vx31:=sx32 _ _ vx31
    refine ⟨lt,x32,_,_,rfl,rfl,bag.lst,vx32,by rw [bag.len];exact line_le (show 18+2≤1000 by omega),nx _ _ ⟨rfl,_,bag.ext [.ref x29,.ref x31] rfl fun x hx=>?_⟩⟩
    simp only [List.mem_cons,List.not_mem_nil,or_false] at hx
    rcases hx with rfl | rfl
    · exact tg_pairR vx29 nx29 hu un' sm (by omega) (tg_txt (sh_app sh ss) (by omega))
    · exact tg_pairR (us:=[]) vx31 nx31 vx30 nx30 (fun x hx=>nomatch hx) (by decide) (tg_txt (n:=1) (by unfold Sh;decide +kernel) (by omega))
  clear bag0
  obtain ⟨rfl,xs20,bag0⟩:=hY
  obtain ⟨res,ea,ma⟩:=at_in (xs:=xs20) (i:=way) w0 (by rw [bag0.len];exact w1)
  refine ⟨_,rfl,_,rfl,lt,_,_,_,rfl,rfl,SqL.of bag0.lst,ea,?_⟩
  exact q _ _ bag0.kp (tg_less (bag0.all res ma))
end
end S53
namespace S53
open PySem L2 W7 W55
theorem ways_trie {us ws:List Str} (cw:Cl ws) (w60:ws.length≤60) (low:∀ z∈ws,Low z.cps.toList) (wne:ws≠[]) (uq:Uq us ws):TrieD (.tuple [.tuple ((trUps us).map .int),.str (trS us)])∧(trUps us).length=(trS us).length∧1≤(trUps us).length∧(trUps us).length≤60∧R.GrOk (trUps us)∧∀ c∈(trS us).cps.toList,Lw c:=by
  have cl:=cw.perm uq.mem
  have srt:=strict uq.srt uq.nd
  have ul:=nd_len uq
  have une:us≠[]:=fun e=>by
    cases ws with
    | nil=>exact wne rfl
    | cons z r=>
      have:=(uq.mem z).mpr List.mem_cons_self
      rw [e] at this;cases this
  have le:us.length≤60:=by omega
  have ok:TreeOk (trUps us) (trS us).cps.toList:=by rw [trS_cps];exact tree_ok cl srt une le
  have gr:R.GrOk (trUps us):=by
    refine ⟨fun k k0 kl=>?_,ok.pos,ok.root,ok.up⟩
    have kl':k < us.length:=by rw [← W57.ups_len (us:=us)];exact kl
    rcases W57.road cl srt une le k0 kl' with z | z
    · exact ⟨0,by show (k:Int) - 1=_;rw [z];omega⟩
    · obtain ⟨n,e⟩:=R.chn_climb ok (k - 1+1) (k - 1) (Nat.lt_succ_self _) (by omega) _ z
      exact ⟨n,by rw [← e];congr 1;omega⟩
  have ri:Rises (trUps us) (trS us).cps.toList:=fun k k' kk k0 kl e=>by
    rw [trS_cps]
    exact W57.rise cl srt une le kk k0 (by rw [← W57.ups_len (us:=us)];exact kl) e
  have lw:∀ c∈(trS us).cps.toList,Lw c:=fun c hc=>by
    rw [trS_cps] at hc
    obtain ⟨z,hz,rfl⟩:=List.mem_map.mp hc
    have ne:=cl.ne z hz
    have l:z.cps.toList.getLastD 0=z.cps.toList.getLast ne:=by
      rw [List.getLastD_eq_getLast?,List.getLast?_eq_some_getLast ne];rfl
    rw [l]
    exact low z ((uq.mem z).mp hz) _ (List.getLast_mem ne)
  have len:(trUps us).length=(trS us).length:=by
    have:=ok.len
    rw [this];exact Array.length_toList
  have pos:=ok.pos
  have m60:=ok.most
  refine ⟨⟨trUps us,trS us,rfl,len,by omega,by omega,lw,gr,fun p hp=>?_⟩,len,pos,m60,gr,lw⟩
  unfold riseB
  rw [List.all_eq_true]
  intro i hi
  refine decide_eq_true ?_
  have hi':=List.mem_range.mp hi
  unfold bel at hi' ⊢
  rw [List.length_map] at hi'
  exact ben_rise ok ri p i (by omega)
theorem ways_low {ups:List Int} {lab:Str} (ok:TreeOk ups lab.cps.toList) (lw:Low lab.cps.toList):∀ z∈waysN ups lab ups.length,Low z.cps.toList:=fun z hz=>by
  obtain ⟨j,hj,rfl⟩:=List.mem_map.mp hz
  rw [mk_cps]
  exact fun c hc=>W_low ok lw (j+1) j (Nat.lt_succ_self _) (List.mem_range.mp hj) c (List.mem_reverse.mp hc)
theorem sml_up {us:List Int} (l:us.length≤60) (root:us.getD 0 0=-1) (up:∀ k,0 < k→k < us.length→0≤us.getD k 0∧us.getD k 0 < (k:Int)):Sml us:=fun x hx=>by
  obtain ⟨i,hi,e⟩:=List.getElem_of_mem hx
  have eg:us.getD i 0=x:=by rw [List.getD_eq_getElem?_getD,List.getElem?_eq_getElem hi];exact e
  rcases Nat.eq_zero_or_pos i with z | z
  · rw [z,root] at eg;omega
  · have:=up i z hi;omega
theorem lw_sh {z:Str} (l:z.length≤60) (h:∀ c∈z.cps.toList,Lw c):Sh 60 z:=⟨l,fun c hc=>by have:=h c hc;unfold Lw at this;omega⟩
section
variable {P:Program} {w:World} {K:PySem.W.Frag} {mg:Str→Option Value} {base:Heap} {k:Nat}
def sp_right:Sp:=fun vs H Q _=>∃ (v:V) (d:PyData),vs=[v]∧Td H v d∧Shy d∧Fit d∧∀ (H':Hp),Same H H'→Q (.bl true) H'
theorem has_right (D:Df K mg "_law_right" s_law_right) (B:Blt7 mg) (G_is_trie:Has P w K mg base "is_trie" k ["thing"] sp_itT) (G_law_due:Has P w K mg base "_law_due" k ["thing"] sp_due):Has P w K mg base "_law_right" (k+1) ["thing"] sp_right:=by
  refine D.has sc_law_right (fun _ _ _ _ _ _ us hl=>match us,hl with | [_],_=>rfl) (fun vs H Q E h=>by obtain ⟨v,d,rfl,_⟩:=h;rfl) (fun f cdv A outer s H vs Q E hr h=>?_)
  obtain ⟨v,d,rfl,td,shy,fit,q⟩:=h
  refine ⟨_,(pss_cons (ps_set (i:=1) sc_law_right.nd rfl (by first | exact Or.inl rfl | exact Or.inr rfl) (pe_callB (call_repr_any hr) rfl B.repr bt_repr (pa_cons (pv 0) pa_nil)))
  (pss_cons (ps_set (i:=2) sc_law_right.nd rfl (by first | exact Or.inl rfl | exact Or.inr rfl) (pe_callH G_is_trie hr rfl (pa_cons (pv 0) pa_nil)))
  (pss_one (ps_ret (pe_and (pe_callB call_isinst rfl B.isinstance bt_isinstance (pa_cons (pv 2) (pa_cons (pe_bltn (v:=.ty "bool") rfl B.bool_ bt_bool rfl) pa_nil))) (pe_and (pe_cmpR op_eq (pv 2) (pe_callH G_law_due hr rfl (pa_cons (pv 0) pa_nil)) (nomark _)) (pe_one (pe_cmpR op_eq (pe_callB (call_repr_any hr) rfl B.repr bt_repr (pa_cons (pv 0) pa_nil)) (pv 1) (nomark _))))))))),?_⟩
  refine ⟨_,rfl,v,d,rfl,td,fit,?_⟩
  refine ⟨_,rfl,v,d,rfl,td,shy,fun b H1 s1 hb=>?_⟩
  refine ⟨_,rfl,_,_,_,true,rfl,.bl b,kit_same _ _,_,rfl,iteT ?_⟩
  refine ⟨_,rfl,_,rfl,v,d,rfl,td.same s1,shy,fun b2 H2 s2 hb2=>?_⟩
  have eb:b=b2:=by rw [Bool.eq_iff_iff,hb,hb2]
  refine ⟨rfl,_,rfl,?_⟩
  rw [eb,decide_eq_true (rfl:V.bl b2=V.bl b2)]
  refine iteT ?_
  refine ⟨_,rfl,v,d,rfl,(td.same s1).same s2,fit,_,rfl,rfl,?_⟩
  rw [decide_eq_true (rfl)]
  exact q _ (s1.trans s2)
def sp_law:PySem.W.Frag→Sp:=fun K vs H Q _=>∃ (a:Addr) (ns:List Int),vs=[.ref a]∧SqL K H a (ns.map V.int)∧ns.length≤63∧∀ H',Q (.bl true) H'
theorem ok_law {f:Addr} {fd:FuncData} (F:Fun K "law" "law" s_law f fd) (B:Blt7 mg) (G_law_pool:Has P w K mg base "_law_pool" k ["script", "at"] (sp_pool K)) (G_law_letters:Has P w K mg base "_law_letters" k ["pool"] sp_letters) (G_law_tree:Has P w K mg base "_law_tree" k ["pool", "most", "letters"] sp_tree)
    (G_law_right:Has P w K mg base "_law_right" k ["thing"] sp_right) (G_law_ways:Has P w K mg base "_law_ways" k ["tree"] sp_lways) (G_law_trie:Has P w K mg base "_law_trie" k ["ways"] sp_ltrie) (G_law_bent:Has P w K mg base "_law_bent" k ["pool", "tree"] sp_bent) (G_is_trie:Has P w K mg base "is_trie" k ["thing"] sp_itT) :
    FnOk P w K mg base CX0 (k+1) f fd ["script"] (sp_law K):=by
  refine F.ok sc_law (fun vs H Q E h=>by obtain ⟨a,ns,rfl,_⟩:=h;rfl) (fun cdv A outer s H vs Q E hr h=>?_)
  obtain ⟨a,ns,rfl,hS,h63,q⟩:=h
  refine exw ?_
  refine ⟨_,(w_cons (Pw.mk (ps_for PassesOwn.never rfl (pi_range1 rfl B.range (pa_cons (pe_callB (call_max2 rfl) rfl B.max bt_max (pa_cons pe_int (pa_cons (pe_callB (call_min2 rfl) rfl B.min bt_min (pa_cons pe_int (pa_cons (pe_callB call_len_seq rfl B.len bt_len (pa_cons (pv 0) pa_nil)) pa_nil))) pa_nil))) pa_nil)) (pg_name (i:=1) sc_law.nd rfl (by first | exact Or.inl rfl | exact Or.inr rfl))
  (pss_cons (ps_set (i:=2) sc_law.nd rfl (by first | exact Or.inl rfl | exact Or.inr rfl) (pe_callH G_law_pool hr rfl (pa_cons (pv 0) (pa_cons (pv 1) pa_nil))))
  (pss_cons (ps_set (i:=3) sc_law.nd rfl (by first | exact Or.inl rfl | exact Or.inr rfl) (pe_callH G_law_letters hr rfl (pa_cons (pv 2) pa_nil)))
  (pss_cons (ps_set (i:=4) sc_law.nd rfl (by first | exact Or.inl rfl | exact Or.inr rfl) (pe_callH G_law_tree hr rfl (pa_cons (pv 2) (pa_cons pe_int (pa_cons (pv 3) pa_nil)))))
  (pss_cons (ps_set (i:=5) sc_law.nd rfl (by first | exact Or.inl rfl | exact Or.inr rfl) (pe_callH G_law_trie hr rfl (pa_cons (pe_callH G_law_ways hr rfl (pa_cons (pv 4) pa_nil)) pa_nil)))
  (pss_cons (ps_set (i:=6) sc_law.nd rfl (by first | exact Or.inl rfl | exact Or.inr rfl) (pe_lst (pa_cons (pv 4) (pa_cons (pv 5) (pa_cons (pe_callH G_law_bent hr rfl (pa_cons (pv 2) (pa_cons (pv 4) pa_nil))) pa_nil)))))
  (pss_cons (ps_expr (pe_bm PySem.F.plainAttrs_list PySem.F.slot_list_extend PySem.F.type_list_extend mt_extend (pv 6) (pa_cons (pe_comp rfl (pi_range1 rfl B.range (pa_cons pe_int pa_nil)) (NL:=["turn"]) (ix:=[2,5]) (csc (defScope s_law) N_law) (fun cl C s₃ H₃ fp pins=>⟨(pg_name (i:=0) (show List.Nodup (["turn", "pool", "trie"]:List Str) from by decide +kernel) rfl (by first | exact Or.inl rfl | exact Or.inr rfl)),pifs_nil,(pe_callH G_law_bent hr rfl (pa_cons (pv 1) (pa_cons (pv 2) pa_nil)))⟩)) pa_nil)))
  (pss_cons (ps_if (pt_cmpR op_isnotB (pe_callH G_is_trie hr rfl (pa_cons (pv 5) pa_nil)) pe_bl (nomark _))
  (pss_one (ps_ret pe_bl))
  pss_nil)
  (pss_one (ps_if (pt_cmpR (op_ne_nil hr.units0) (pe_comp rfl (pi_list (pv 6)) (NL:=["thing"]) (ix:=[]) (csc (defScope s_law) N_law) (fun cl C s₃ H₃ fp pins=>⟨(pg_name (i:=0) (show List.Nodup (["thing"]:List Str) from by decide +kernel) rfl (by first | exact Or.inl rfl | exact Or.inr rfl)),(pifs_one (pt_not (pt_val (pe_callH G_law_right hr rfl (pa_cons (pv 0) pa_nil))))),(pv 0)⟩)) (pe_lst pa_nil) (nomark _))
  (pss_one (ps_ret pe_bl))
  pss_nil)))))))))))
  (w_cons (w_set (i:=7) sc_law.nd rfl (by first | exact Or.inl rfl | exact Or.inr rfl) (w_lst (w_acons (PEw.mk pe_non) (w_acons (PEw.mk pe_int) (w_acons (PEw.mk pe_bl) (w_acons w_str (w_acons w_str (w_acons (PEw.mk (pe_tup pa_nil)) (w_acons (PEw.mk (pe_lst pa_nil)) (w_acons (PEw.mk pe_dnewK) (w_acons (w_tup (w_acons (PEw.mk (pe_tup pa_nil)) (w_acons w_str w_anil))) (w_acons (w_tup (w_acons (PEw.mk (pe_tup (pa_cons (pe_un un_neg pe_int) pa_nil))) (w_acons w_str w_anil))) (w_acons (w_tup (w_acons (PEw.mk (pe_tup (pa_cons (pe_un un_neg pe_int) pa_nil))) (w_acons w_str w_anil))) (w_acons (w_tup (w_acons (PEw.mk (pe_tup (pa_cons (pe_un un_neg pe_int) (pa_cons pe_int pa_nil)))) (w_acons w_str w_anil))) (w_acons (w_tup (w_acons (PEw.mk (pe_tup (pa_cons pe_int pa_nil))) (w_acons w_str w_anil))) w_anil)))))))))))))))
  (w_cons (w_set (i:=7) sc_law.nd rfl (by first | exact Or.inl rfl | exact Or.inr rfl) (w_op op_cat (PEw.mk (pv 7)) (w_lst (w_acons (w_tup (w_acons (PEw.mk (pe_tup (pa_cons (pe_un un_neg pe_int) pa_nil))) (w_acons w_str w_anil))) (w_acons (w_tup (w_acons (PEw.mk (pe_tup (pa_cons pe_bl pa_nil))) (w_acons w_str w_anil))) (w_acons (w_tup (w_acons (PEw.mk (pe_tup (pa_cons (pe_tup (pa_cons (pe_un un_neg pe_int) pa_nil)) pa_nil))) (w_acons w_str w_anil))) w_anil))))))
  (w_one (Pw.mk (ps_ret (pe_cmpR (op_eq_nil hr.units0) (pe_comp rfl (pi_list (pv 7)) (NL:=["thing"]) (ix:=[]) (csc (defScope s_law) N_law) (fun cl C s₃ H₃ fp pins=>⟨(pg_name (i:=0) (show List.Nodup (["thing"]:List Str) from by decide +kernel) rfl (by first | exact Or.inl rfl | exact Or.inr rfl)),(pifs_one (pt_not (pt_val (pe_callH G_law_right hr rfl (pa_cons (pv 0) pa_nil))))),(pv 0)⟩)) (pe_lst pa_nil) (nomark _)))))))),?_⟩
  have hl:(ns.map V.int).length=ns.length:=List.length_map _
  refine mid (fun σ H'=>∃ o1 o2 o3 o4 o5 o6 o7:Option V,σ=[some (.ref a),o1,o2,o3,o4,o5,o6,o7]∧Same H H') ?_ fun E2 nx=>?_
  rotate_left
  · refine ⟨_,rfl,a,_,rfl,.inl hS,_,_,rfl,_,_,rfl,_,rfl,?_,?_,?_⟩
    · split <;> (try split) <;> omega
    · split <;> (try split) <;> omega
    have hbound:(if (if (((ns.map V.int).length:Nat):Int) < 8 then (((ns.map V.int).length:Nat):Int) else 8) > 1 then (if (((ns.map V.int).length:Nat):Int) < 8 then (((ns.map V.int).length:Nat):Int) else 8) else 1:Int).toNat≤8:=by
      split <;> (try split) <;> omega
    generalize (if (if (((ns.map V.int).length:Nat):Int) < 8 then (((ns.map V.int).length:Nat):Int) else 8) > 1 then (if (((ns.map V.int).length:Nat):Int) < 8 then (((ns.map V.int).length:Nat):Int) else 8) else 1:Int).toNat=n at hbound
    refine for_range (lo:=0) (n:=n) (fun i σ H'=>∃ o1 o2 o3 o4 o5 o6 o7:Option V,σ=[some (.ref a),o1,o2,o3,o4,o5,o6,o7]∧Same H H') ⟨none,none,none,none,none,none,none,rfl,Same.refl H⟩ ?_ (fun σ H' h=>nx _ _ h)
    rintro i σ H' hi ⟨o1,o2,o3,o4,o5,o6,o7,rfl,s1⟩
    refine ⟨_,rfl,_,rfl,a,ns,0+(i:Int),rfl,s1.seq hS,h63,by omega,by omega,fun p x y hp=>?_⟩
    have hpool:Pool (upd H' p (.lst [.int x,.int y])) p:=⟨x,y,upd_same⟩
    refine ⟨_,rfl,p,rfl,hpool,fun ℓ cs H1 kp1 hℓ cs0 cs26 clw hf=>?_⟩
    refine ⟨_,rfl,_,rfl,p,ℓ,cs,60,rfl,by decide,by decide,kp1.pool,hℓ,cs0,cs26,clw,fun t ups lab H2 kp2 tr lw=>?_⟩
    have kp:=kp1.trans kp2
    have s2:Same H H2:=fun b o e=>by
      have e1:=s1 b o e
      have ne:b≠p:=ne_of_none e1 hp
      exact kp.keep b o ne (by rw [upd_ne ne];exact e1)
    obtain ⟨u,ht,hu,ok⟩:=id tr
    have m60:=ok.most
    have lpos:=ok.pos
    have wl:(waysN ups lab ups.length).length=ups.length:=waysN_len _ _ _
    have wne:=ways_ne ok
    have pl2:=kp2.pool
    have hxp:∀ b o,H b=some o→b≠p:=fun b o e=>ne_of_none (s1 b o e) hp
    clear kp kp1 kp2 hℓ hpool
    refine ⟨_,rfl,t,ups,lab,rfl,tr,fun r H4 s4 hf4 hr4=>?_⟩
    refine ⟨r,_,rfl,hr4,by omega,cl_ways ok,fun z hz=>(wne z hz).2,fun us t' u' H5 uq s5 hf5 ht5 hu5=>?_⟩
    have s45:=s4.trans s5
    have wnn:waysN ups lab ups.length≠[]:=fun e=>by rw [e] at wl;simp at wl;omega
    obtain ⟨trd,tlen,tpos,t60,tgr,tlw⟩:=ways_trie (ws:=waysN ups lab ups.length) (cl_ways ok) (by omega) (fun z hz=>ways_low ok lw z hz) wnn uq
    generalize trUps us=tu at hu5 trd tlen tpos t60 tgr
    generalize trS us=tz at ht5 trd tlen tlw
    have ht3:=s45 _ _ ht
    have hu3:=s45 _ _ hu
    have sm:Sml ups:=sml_up m60 ok.root ok.up
    have ll:ups.length=lab.length:=by rw [ok.len];exact Array.length_toList
    have sh:Sh 60 lab:=lw_sh (by omega) lw
    have sm2:Sml tu:=sml_up t60 tgr.root tgr.up
    have sh2:Sh 60 tz:=lw_sh (by omega) tlw
    have pl3:Pool H5 p:=by obtain ⟨x,y,e⟩:=pl2;exact ⟨x,y,s45 _ _ e⟩
    have s05:=s2.trans s45
    have tp:=pool_neT pl3 ht3
    have up:=pool_neT pl3 hu3
    have tp':=pool_neT pl3 ht5
    have up':=pool_neT pl3 hu5
    refine ⟨_,rfl,_,rfl,_,rfl,_,rfl,p,t,u,ups,lab,[p],rfl,pl3,⟨by simp,fun q hq=>by obtain ⟨x,y,e⟩:=pl3;rw [List.mem_singleton.mp hq];exact ⟨_,e⟩⟩,ht3,hu3,sm,ll,lpos,sh,fun v1 H6 k6 g6=>?_⟩
    refine ⟨line_le (show 3≤1000 by omega),fun lt hlt=>?_⟩
    have ltp:lt≠p:=k6.pool.ne hlt
    have Hlt:H5 lt=none:=kp_fresh k6 ltp hlt
    have ht6:=k6.keep _ _ tp ht3
    have hu6:=k6.keep _ _ up hu3
    have ht6':=k6.keep _ _ tp' ht5
    have hu6':=k6.keep _ _ up' hu5
    have one:∀ {q:Addr} {o:HO},q≠p→q ∉ [p]:=fun h m=>h (List.mem_singleton.mp m)
    have b0:∀ v∈[V.ref t,.ref t',v1],Tg [lt,p] (upd H6 lt (.lst [.ref t,.ref t',v1])) v 23000 5 Shy:=fun v hv=>by
      refine tg_more ?_ hlt
      simp only [List.mem_cons,List.not_mem_nil,or_false] at hv
      rcases hv with rfl | rfl | rfl
      · exact tg_pairR ht6 (one (o:=.lst []) tp) hu6 (one (o:=.lst []) up) sm (by omega) (tg_txt sh (by omega))
      · exact tg_pairR ht6' (one (o:=.lst []) tp') hu6' (one (o:=.lst []) up') sm2 (by omega) (tg_txt sh2 (by omega))
      · exact g6
    have k7:Kp p H5 (upd H6 lt (.lst [.ref t,.ref t',v1])):=k6.new hlt
    have v7:upd H6 lt (.lst [.ref t,.ref t',v1]) lt=some (.lst [.ref t,.ref t',v1]):=upd_same
    show (fun HH=>_) (upd H6 lt (.lst [.ref t,.ref t',v1]))
    generalize upd H6 lt (.lst [.ref t,.ref t',v1])=H7 at k7 v7 b0
    have nt:t≠lt:=ne_of_none ht3 Hlt
    have nu:u≠lt:=ne_of_none hu3 Hlt
    have nt':t'≠lt:=ne_of_none ht5 Hlt
    have nu':u'≠lt:=ne_of_none hu5 Hlt
    clear g6 ht6 hu6 ht6' hu6' k6
    refine ⟨_,rfl,.inl ⟨rfl,_,SqL.of v7⟩,9,rfl,by decide,by decide,fun acc hacc=>?_⟩
    have accp:acc≠p:=k7.pool.ne hacc
    have accl:acc≠lt:=ne_of_none' v7 hacc
    have Hacc:H5 acc=none:=kp_fresh k7 accp hacc
    have b1:∀ v∈[V.ref t,.ref t',v1],Tg [acc,lt,p] (upd H7 acc (.lst [])) v 23000 5 Shy:=fun v hv=>tg_more (b0 v hv) hacc
    refine comp_by 9 (by decide) (fun j ys HX=>HX acc=some (.lst ys)∧ys.length=j∧Kp p H5 HX∧HX lt=some (.lst [.ref t,.ref t',v1])∧(∀ v∈[V.ref t,.ref t',v1],Tg [acc,lt,p] HX v 23000 5 Shy)∧∀ v∈ys,Tg [acc,lt,p] HX v 23000 5 Shy)
      (fun j ys HX h=>⟨h.1,by rw [h.2.1];exact Nat.le_refl _⟩) ⟨upd_same,rfl,k7.new hacc,by rw [upd_ne (Ne.symm accl)];exact v7,b1,fun v hv=>nomatch hv⟩ ?_ ?_
    rotate_left
    · rintro j ys HX hj ⟨g1,g2,g3,g4,g5,g6⟩
      refine ⟨hj,?_⟩
      rintro x HX' ⟨rfl,rfl⟩
      have hid:Hid p [acc,lt,p] HX':=⟨by simp,fun q hq=>by
        simp only [List.mem_cons,List.not_mem_nil,or_false] at hq
        rcases hq with rfl | rfl | rfl
        · exact ⟨_,g1⟩
        · exact ⟨_,g4⟩
        · obtain ⟨x,y,e⟩:=g3.pool;exact ⟨_,e⟩⟩
      refine ⟨rfl,_,rfl,_,rfl,p,t',u',tu,tz,[acc,lt,p],rfl,g3.pool,hid,g3.keep _ _ tp' ht5,g3.keep _ _ up' hu5,sm2,tlen,tpos,sh2,fun v HY kY tY=>?_⟩
      have gs:Same (dl [acc,lt,p] HX') (dl [acc,lt,p] HY):=dlk kY hid.mem
      refine ⟨kY.keep _ _ accp g1,upd_same,by rw [List.length_append,g2];rfl,(g3.trans kY).write Hacc accp,by rw [upd_ne (Ne.symm accl)];exact kY.keep _ _ ltp g4,fun v hv=>((g5 v hv).same gs).same (dlu (by simp)),fun v' hv=>Tg.same ?_ (dlu (by simp))⟩
      rcases List.mem_append.mp hv with hv | hv
      · exact (g6 v' hv).same gs
      · rw [List.mem_singleton.mp hv];exact tY
    rintro ys H8 ⟨g1,g2,g3,g4,g5,g6⟩
    refine ⟨Nat.le_refl _,lt,acc,_,_,rfl,rfl,g4,g1,by rw [g2];exact line_le (show 3+9≤1000 by omega),?_⟩
    have al:∀ v∈[V.ref t,.ref t',v1]++ys,Tg [acc,lt,p] (upd H8 lt (.lst ([V.ref t,.ref t',v1]++ys))) v 23000 5 Shy:=fun v hv=>Tg.same ((List.mem_append.mp hv).elim (g5 v) (g6 v)) (dlu (by simp))
    have k9:Kp p H5 (upd H8 lt (.lst ([V.ref t,.ref t',v1]++ys))):=g3.write Hlt ltp
    have v9:upd H8 lt (.lst ([V.ref t,.ref t',v1]++ys)) lt=some (.lst ([V.ref t,.ref t',v1]++ys)):=upd_same
    have l9:([V.ref t,.ref t',v1]++ys).length=12:=by rw [List.length_append,g2];rfl
    show (fun HH=>_) (upd H8 lt (.lst ([V.ref t,.ref t',v1]++ys)))
    generalize upd H8 lt (.lst ([V.ref t,.ref t',v1]++ys))=H9 at al k9 v9
    generalize [V.ref t,.ref t',v1]++ys=vs at al v9 l9
    clear g1 g2 g3 g4 g5 g6 b0 b1 v7 k7
    have s09:Same H H9:=fun b o e=>k9.keep b o (hxp b o e) (s05 b o e)
    have td:Td H9 (.ref t') (.tuple [.tuple (tu.map .int),.str tz]):=.tup (k9.keep _ _ tp' ht5) (.cons (.tup (k9.keep _ _ up' hu5) (Tds.ints tu)) (.one (.str tz)))
    refine ⟨_,rfl,.ref t',_,rfl,td,(fun x y e=>by cases e;exact sh_short sh2 (by omega)),fun b HA sA hb=>?_⟩
    rw [hb.mpr trd]
    refine ⟨_,_,rfl,rfl,_,rfl,L2.iteB (by rfl) ?_⟩
    have hA:=sA _ _ v9
    have alA:∀ v∈vs,Tg [acc,lt,p] HA v 23000 5 Shy:=fun v hv=>(al v hv).same (dls sA)
    refine ⟨_,rfl,lt,rfl,⟨_,SqL.of hA⟩,fun ac2 hac2=>?_⟩
    refine comp_lst (K:=K) (a:=lt) (xs:=vs) (by omega) (fun j ys HX=>HX ac2=some (.lst ys)∧ys=[]∧Same HA HX)
      (fun j ys HX h=>SqL.of (h.2.2 _ _ hA)) (fun j ys HX h=>⟨h.1,by rw [h.2.1];exact Nat.zero_le _⟩) ⟨upd_same,rfl,(Same.refl HA).new hac2⟩ ?_ ?_
    rotate_left
    · rintro j v ys HX hv ⟨g1,rfl,g3⟩
      obtain ⟨d,hd,hl',td',g,o',shy⟩:=alA v (List.mem_of_getElem? hv)
      refine ⟨rfl,_,rfl,v,d,rfl,(td'.same (dl_same _ _)).same g3,shy,g.fit o' (by omega) (by omega),fun HY sY=>⟨_,rfl,iteF ?_⟩⟩
      exact ⟨sY _ _ g1,rfl,g3.trans sY⟩
    rintro ys HB ⟨g1,rfl,g3⟩
    refine ⟨line_le (show 0≤1000 by omega),fun e0 he0=>?_⟩
    refine ⟨ac2,e0,_,rfl,rfl,SqL.of (by rw [upd_ne (ne_of_none g1 he0)];exact g1),SqL.of upd_same,_,rfl,L2.iteB (by rfl) ?_⟩
    exact ⟨_,_,_,_,_,_,_,rfl,(s09.trans sA).trans (g3.new he0)⟩
  rintro σ HZ ⟨o1,o2,o3,o4,o5,o6,o7,rfl,sZ⟩
  refine ⟨line_le (show 0≤1000 by omega),fun e1 he1=>?_⟩
  have se1:Same HZ (upd HZ e1 (.tup [])):=(Same.refl HZ).new he1
  have ve1:upd HZ e1 (.tup []) e1=some (.tup []):=upd_same
  show (fun HH=>_) (upd HZ e1 (.tup []))
  generalize upd HZ e1 (.tup [])=Q1 at se1 ve1
  refine ⟨line_le (show 0≤1000 by omega),fun e2 he2=>?_⟩
  have se2:Same Q1 (upd Q1 e2 (.lst [])):=(Same.refl Q1).new he2
  have ve2:upd Q1 e2 (.lst []) e2=some (.lst []):=upd_same
  show (fun HH=>_) (upd Q1 e2 (.lst []))
  generalize upd Q1 e2 (.lst [])=Q2 at se2 ve2
  replace ve1:=se2 _ _ ve1
  refine fun e3 he3=>?_
  have se3:Same Q2 (upd Q2 e3 (.dK [])):=(Same.refl Q2).new he3
  have ve3:upd Q2 e3 (.dK []) e3=some (.dK []):=upd_same
  show (fun HH=>_) (upd Q2 e3 (.dK []))
  generalize upd Q2 e3 (.dK [])=Q3 at se3 ve3
  replace ve1:=se3 _ _ ve1
  replace ve2:=se3 _ _ ve2
  refine ⟨line_le (show 0≤1000 by omega),fun e4 he4=>?_⟩
  have se4:Same Q3 (upd Q3 e4 (.tup [])):=(Same.refl Q3).new he4
  have ve4:upd Q3 e4 (.tup []) e4=some (.tup []):=upd_same
  show (fun HH=>_) (upd Q3 e4 (.tup []))
  generalize upd Q3 e4 (.tup [])=Q4 at se4 ve4
  replace ve1:=se4 _ _ ve1
  replace ve2:=se4 _ _ ve2
  replace ve3:=se4 _ _ ve3
  refine ⟨line_le (show 2≤1000 by omega),fun e5 he5=>?_⟩
  have se5:Same Q4 (upd Q4 e5 (.tup [.ref e4,.str (Str.ofString "")])):=(Same.refl Q4).new he5
  have ve5:upd Q4 e5 (.tup [.ref e4,.str (Str.ofString "")]) e5=some (.tup [.ref e4,.str (Str.ofString "")]):=upd_same
  show (fun HH=>_) (upd Q4 e5 (.tup [.ref e4,.str (Str.ofString "")]))
  generalize upd Q4 e5 (.tup [.ref e4,.str (Str.ofString "")])=Q5 at se5 ve5
  replace ve1:=se5 _ _ ve1
  replace ve2:=se5 _ _ ve2
  replace ve3:=se5 _ _ ve3
  replace ve4:=se5 _ _ ve4
  refine ⟨_,rfl,line_le (show 1≤1000 by omega),fun e6 he6=>?_⟩
  have se6:Same Q5 (upd Q5 e6 (.tup [.int (-1)])):=(Same.refl Q5).new he6
  have ve6:upd Q5 e6 (.tup [.int (-1)]) e6=some (.tup [.int (-1)]):=upd_same
  show (fun HH=>_) (upd Q5 e6 (.tup [.int (-1)]))
  generalize upd Q5 e6 (.tup [.int (-1)])=Q6 at se6 ve6
  replace ve1:=se6 _ _ ve1
  replace ve2:=se6 _ _ ve2
  replace ve3:=se6 _ _ ve3
  replace ve4:=se6 _ _ ve4
  replace ve5:=se6 _ _ ve5
  refine ⟨line_le (show 2≤1000 by omega),fun e7 he7=>?_⟩
  have se7:Same Q6 (upd Q6 e7 (.tup [.ref e6,.str (Str.ofString "a")])):=(Same.refl Q6).new he7
  have ve7:upd Q6 e7 (.tup [.ref e6,.str (Str.ofString "a")]) e7=some (.tup [.ref e6,.str (Str.ofString "a")]):=upd_same
  show (fun HH=>_) (upd Q6 e7 (.tup [.ref e6,.str (Str.ofString "a")]))
  generalize upd Q6 e7 (.tup [.ref e6,.str (Str.ofString "a")])=Q7 at se7 ve7
  replace ve1:=se7 _ _ ve1
  replace ve2:=se7 _ _ ve2
  replace ve3:=se7 _ _ ve3
  replace ve4:=se7 _ _ ve4
  replace ve5:=se7 _ _ ve5
  replace ve6:=se7 _ _ ve6
  refine ⟨_,rfl,line_le (show 1≤1000 by omega),fun e8 he8=>?_⟩
  have se8:Same Q7 (upd Q7 e8 (.tup [.int (-1)])):=(Same.refl Q7).new he8
  have ve8:upd Q7 e8 (.tup [.int (-1)]) e8=some (.tup [.int (-1)]):=upd_same
  show (fun HH=>_) (upd Q7 e8 (.tup [.int (-1)]))
  generalize upd Q7 e8 (.tup [.int (-1)])=Q8 at se8 ve8
  replace ve1:=se8 _ _ ve1
  replace ve2:=se8 _ _ ve2
  replace ve3:=se8 _ _ ve3
  replace ve4:=se8 _ _ ve4
  replace ve5:=se8 _ _ ve5
  replace ve6:=se8 _ _ ve6
  replace ve7:=se8 _ _ ve7
  refine ⟨line_le (show 2≤1000 by omega),fun e9 he9=>?_⟩
  have se9:Same Q8 (upd Q8 e9 (.tup [.ref e8,.str (Str.ofString "ab")])):=(Same.refl Q8).new he9
  have ve9:upd Q8 e9 (.tup [.ref e8,.str (Str.ofString "ab")]) e9=some (.tup [.ref e8,.str (Str.ofString "ab")]):=upd_same
  show (fun HH=>_) (upd Q8 e9 (.tup [.ref e8,.str (Str.ofString "ab")]))
  generalize upd Q8 e9 (.tup [.ref e8,.str (Str.ofString "ab")])=Q9 at se9 ve9
  replace ve1:=se9 _ _ ve1
  replace ve2:=se9 _ _ ve2
  replace ve3:=se9 _ _ ve3
  replace ve4:=se9 _ _ ve4
  replace ve5:=se9 _ _ ve5
  replace ve6:=se9 _ _ ve6
  replace ve7:=se9 _ _ ve7
  replace ve8:=se9 _ _ ve8
  refine ⟨_,rfl,line_le (show 2≤1000 by omega),fun e10 he10=>?_⟩
  have se10:Same Q9 (upd Q9 e10 (.tup [.int (-1),.int 0])):=(Same.refl Q9).new he10
  have ve10:upd Q9 e10 (.tup [.int (-1),.int 0]) e10=some (.tup [.int (-1),.int 0]):=upd_same
  show (fun HH=>_) (upd Q9 e10 (.tup [.int (-1),.int 0]))
  generalize upd Q9 e10 (.tup [.int (-1),.int 0])=Q10 at se10 ve10
  replace ve1:=se10 _ _ ve1
  replace ve2:=se10 _ _ ve2
  replace ve3:=se10 _ _ ve3
  replace ve4:=se10 _ _ ve4
  replace ve5:=se10 _ _ ve5
  replace ve6:=se10 _ _ ve6
  replace ve7:=se10 _ _ ve7
  replace ve8:=se10 _ _ ve8
  replace ve9:=se10 _ _ ve9
  refine ⟨line_le (show 2≤1000 by omega),fun e11 he11=>?_⟩
  have se11:Same Q10 (upd Q10 e11 (.tup [.ref e10,.str (Str.ofString "aa")])):=(Same.refl Q10).new he11
  have ve11:upd Q10 e11 (.tup [.ref e10,.str (Str.ofString "aa")]) e11=some (.tup [.ref e10,.str (Str.ofString "aa")]):=upd_same
  show (fun HH=>_) (upd Q10 e11 (.tup [.ref e10,.str (Str.ofString "aa")]))
  generalize upd Q10 e11 (.tup [.ref e10,.str (Str.ofString "aa")])=Q11 at se11 ve11
  replace ve1:=se11 _ _ ve1
  replace ve2:=se11 _ _ ve2
  replace ve3:=se11 _ _ ve3
  replace ve4:=se11 _ _ ve4
  replace ve5:=se11 _ _ ve5
  replace ve6:=se11 _ _ ve6
  replace ve7:=se11 _ _ ve7
  replace ve8:=se11 _ _ ve8
  replace ve9:=se11 _ _ ve9
  replace ve10:=se11 _ _ ve10
  refine ⟨line_le (show 1≤1000 by omega),fun e12 he12=>?_⟩
  have se12:Same Q11 (upd Q11 e12 (.tup [.int 0])):=(Same.refl Q11).new he12
  have ve12:upd Q11 e12 (.tup [.int 0]) e12=some (.tup [.int 0]):=upd_same
  show (fun HH=>_) (upd Q11 e12 (.tup [.int 0]))
  generalize upd Q11 e12 (.tup [.int 0])=Q12 at se12 ve12
  replace ve1:=se12 _ _ ve1
  replace ve2:=se12 _ _ ve2
  replace ve3:=se12 _ _ ve3
  replace ve4:=se12 _ _ ve4
  replace ve5:=se12 _ _ ve5
  replace ve6:=se12 _ _ ve6
  replace ve7:=se12 _ _ ve7
  replace ve8:=se12 _ _ ve8
  replace ve9:=se12 _ _ ve9
  replace ve10:=se12 _ _ ve10
  replace ve11:=se12 _ _ ve11
  refine ⟨line_le (show 2≤1000 by omega),fun e13 he13=>?_⟩
  have se13:Same Q12 (upd Q12 e13 (.tup [.ref e12,.str (Str.ofString "a")])):=(Same.refl Q12).new he13
  have ve13:upd Q12 e13 (.tup [.ref e12,.str (Str.ofString "a")]) e13=some (.tup [.ref e12,.str (Str.ofString "a")]):=upd_same
  show (fun HH=>_) (upd Q12 e13 (.tup [.ref e12,.str (Str.ofString "a")]))
  generalize upd Q12 e13 (.tup [.ref e12,.str (Str.ofString "a")])=Q13 at se13 ve13
  replace ve1:=se13 _ _ ve1
  replace ve2:=se13 _ _ ve2
  replace ve3:=se13 _ _ ve3
  replace ve4:=se13 _ _ ve4
  replace ve5:=se13 _ _ ve5
  replace ve6:=se13 _ _ ve6
  replace ve7:=se13 _ _ ve7
  replace ve8:=se13 _ _ ve8
  replace ve9:=se13 _ _ ve9
  replace ve10:=se13 _ _ ve10
  replace ve11:=se13 _ _ ve11
  replace ve12:=se13 _ _ ve12
  refine ⟨line_le (show 13≤1000 by omega),fun e14 he14=>?_⟩
  have se14:Same Q13 (upd Q13 e14 (.lst [.non,.int 0,.bl true,.str (Str.ofString ""),.str (Str.ofString "a"),.ref e1,.ref e2,.ref e3,.ref e5,.ref e7,.ref e9,.ref e11,.ref e13])):=(Same.refl Q13).new he14
  have ve14:upd Q13 e14 (.lst [.non,.int 0,.bl true,.str (Str.ofString ""),.str (Str.ofString "a"),.ref e1,.ref e2,.ref e3,.ref e5,.ref e7,.ref e9,.ref e11,.ref e13]) e14=some (.lst [.non,.int 0,.bl true,.str (Str.ofString ""),.str (Str.ofString "a"),.ref e1,.ref e2,.ref e3,.ref e5,.ref e7,.ref e9,.ref e11,.ref e13]):=upd_same
  show (fun HH=>_) (upd Q13 e14 (.lst [.non,.int 0,.bl true,.str (Str.ofString ""),.str (Str.ofString "a"),.ref e1,.ref e2,.ref e3,.ref e5,.ref e7,.ref e9,.ref e11,.ref e13]))
  generalize upd Q13 e14 (.lst [.non,.int 0,.bl true,.str (Str.ofString ""),.str (Str.ofString "a"),.ref e1,.ref e2,.ref e3,.ref e5,.ref e7,.ref e9,.ref e11,.ref e13])=Q14 at se14 ve14
  replace ve1:=se14 _ _ ve1
  replace ve2:=se14 _ _ ve2
  replace ve3:=se14 _ _ ve3
  replace ve4:=se14 _ _ ve4
  replace ve5:=se14 _ _ ve5
  replace ve6:=se14 _ _ ve6
  replace ve7:=se14 _ _ ve7
  replace ve8:=se14 _ _ ve8
  replace ve9:=se14 _ _ ve9
  replace ve10:=se14 _ _ ve10
  replace ve11:=se14 _ _ ve11
  replace ve12:=se14 _ _ ve12
  replace ve13:=se14 _ _ ve13
  refine ⟨_,rfl,?_⟩
  refine ⟨_,rfl,line_le (show 1≤1000 by omega),fun e15 he15=>?_⟩
  have se15:Same Q14 (upd Q14 e15 (.tup [.int (-1)])):=(Same.refl Q14).new he15
  have ve15:upd Q14 e15 (.tup [.int (-1)]) e15=some (.tup [.int (-1)]):=upd_same
  show (fun HH=>_) (upd Q14 e15 (.tup [.int (-1)]))
  generalize upd Q14 e15 (.tup [.int (-1)])=Q15 at se15 ve15
  replace ve1:=se15 _ _ ve1
  replace ve2:=se15 _ _ ve2
  replace ve3:=se15 _ _ ve3
  replace ve4:=se15 _ _ ve4
  replace ve5:=se15 _ _ ve5
  replace ve6:=se15 _ _ ve6
  replace ve7:=se15 _ _ ve7
  replace ve8:=se15 _ _ ve8
  replace ve9:=se15 _ _ ve9
  replace ve10:=se15 _ _ ve10
  replace ve11:=se15 _ _ ve11
  replace ve12:=se15 _ _ ve12
  replace ve13:=se15 _ _ ve13
  replace ve14:=se15 _ _ ve14
  refine ⟨line_le (show 2≤1000 by omega),fun e16 he16=>?_⟩
  have se16:Same Q15 (upd Q15 e16 (.tup [.ref e15,.str (Str.ofString "")])):=(Same.refl Q15).new he16
  have ve16:upd Q15 e16 (.tup [.ref e15,.str (Str.ofString "")]) e16=some (.tup [.ref e15,.str (Str.ofString "")]):=upd_same
  show (fun HH=>_) (upd Q15 e16 (.tup [.ref e15,.str (Str.ofString "")]))
  generalize upd Q15 e16 (.tup [.ref e15,.str (Str.ofString "")])=Q16 at se16 ve16
  replace ve1:=se16 _ _ ve1
  replace ve2:=se16 _ _ ve2
  replace ve3:=se16 _ _ ve3
  replace ve4:=se16 _ _ ve4
  replace ve5:=se16 _ _ ve5
  replace ve6:=se16 _ _ ve6
  replace ve7:=se16 _ _ ve7
  replace ve8:=se16 _ _ ve8
  replace ve9:=se16 _ _ ve9
  replace ve10:=se16 _ _ ve10
  replace ve11:=se16 _ _ ve11
  replace ve12:=se16 _ _ ve12
  replace ve13:=se16 _ _ ve13
  replace ve14:=se16 _ _ ve14
  replace ve15:=se16 _ _ ve15
  refine ⟨line_le (show 1≤1000 by omega),fun e17 he17=>?_⟩
  have se17:Same Q16 (upd Q16 e17 (.tup [.bl true])):=(Same.refl Q16).new he17
  have ve17:upd Q16 e17 (.tup [.bl true]) e17=some (.tup [.bl true]):=upd_same
  show (fun HH=>_) (upd Q16 e17 (.tup [.bl true]))
  generalize upd Q16 e17 (.tup [.bl true])=Q17 at se17 ve17
  replace ve1:=se17 _ _ ve1
  replace ve2:=se17 _ _ ve2
  replace ve3:=se17 _ _ ve3
  replace ve4:=se17 _ _ ve4
  replace ve5:=se17 _ _ ve5
  replace ve6:=se17 _ _ ve6
  replace ve7:=se17 _ _ ve7
  replace ve8:=se17 _ _ ve8
  replace ve9:=se17 _ _ ve9
  replace ve10:=se17 _ _ ve10
  replace ve11:=se17 _ _ ve11
  replace ve12:=se17 _ _ ve12
  replace ve13:=se17 _ _ ve13
  replace ve14:=se17 _ _ ve14
  replace ve15:=se17 _ _ ve15
  replace ve16:=se17 _ _ ve16
  refine ⟨line_le (show 2≤1000 by omega),fun e18 he18=>?_⟩
  have se18:Same Q17 (upd Q17 e18 (.tup [.ref e17,.str (Str.ofString "a")])):=(Same.refl Q17).new he18
  have ve18:upd Q17 e18 (.tup [.ref e17,.str (Str.ofString "a")]) e18=some (.tup [.ref e17,.str (Str.ofString "a")]):=upd_same
  show (fun HH=>_) (upd Q17 e18 (.tup [.ref e17,.str (Str.ofString "a")]))
  generalize upd Q17 e18 (.tup [.ref e17,.str (Str.ofString "a")])=Q18 at se18 ve18
  replace ve1:=se18 _ _ ve1
  replace ve2:=se18 _ _ ve2
  replace ve3:=se18 _ _ ve3
  replace ve4:=se18 _ _ ve4
  replace ve5:=se18 _ _ ve5
  replace ve6:=se18 _ _ ve6
  replace ve7:=se18 _ _ ve7
  replace ve8:=se18 _ _ ve8
  replace ve9:=se18 _ _ ve9
  replace ve10:=se18 _ _ ve10
  replace ve11:=se18 _ _ ve11
  replace ve12:=se18 _ _ ve12
  replace ve13:=se18 _ _ ve13
  replace ve14:=se18 _ _ ve14
  replace ve15:=se18 _ _ ve15
  replace ve16:=se18 _ _ ve16
  replace ve17:=se18 _ _ ve17
  refine ⟨_,rfl,line_le (show 1≤1000 by omega),fun e19 he19=>?_⟩
  have se19:Same Q18 (upd Q18 e19 (.tup [.int (-1)])):=(Same.refl Q18).new he19
  have ve19:upd Q18 e19 (.tup [.int (-1)]) e19=some (.tup [.int (-1)]):=upd_same
  show (fun HH=>_) (upd Q18 e19 (.tup [.int (-1)]))
  generalize upd Q18 e19 (.tup [.int (-1)])=Q19 at se19 ve19
  replace ve1:=se19 _ _ ve1
  replace ve2:=se19 _ _ ve2
  replace ve3:=se19 _ _ ve3
  replace ve4:=se19 _ _ ve4
  replace ve5:=se19 _ _ ve5
  replace ve6:=se19 _ _ ve6
  replace ve7:=se19 _ _ ve7
  replace ve8:=se19 _ _ ve8
  replace ve9:=se19 _ _ ve9
  replace ve10:=se19 _ _ ve10
  replace ve11:=se19 _ _ ve11
  replace ve12:=se19 _ _ ve12
  replace ve13:=se19 _ _ ve13
  replace ve14:=se19 _ _ ve14
  replace ve15:=se19 _ _ ve15
  replace ve16:=se19 _ _ ve16
  replace ve17:=se19 _ _ ve17
  replace ve18:=se19 _ _ ve18
  refine ⟨line_le (show 1≤1000 by omega),fun e20 he20=>?_⟩
  have se20:Same Q19 (upd Q19 e20 (.tup [.ref e19])):=(Same.refl Q19).new he20
  have ve20:upd Q19 e20 (.tup [.ref e19]) e20=some (.tup [.ref e19]):=upd_same
  show (fun HH=>_) (upd Q19 e20 (.tup [.ref e19]))
  generalize upd Q19 e20 (.tup [.ref e19])=Q20 at se20 ve20
  replace ve1:=se20 _ _ ve1
  replace ve2:=se20 _ _ ve2
  replace ve3:=se20 _ _ ve3
  replace ve4:=se20 _ _ ve4
  replace ve5:=se20 _ _ ve5
  replace ve6:=se20 _ _ ve6
  replace ve7:=se20 _ _ ve7
  replace ve8:=se20 _ _ ve8
  replace ve9:=se20 _ _ ve9
  replace ve10:=se20 _ _ ve10
  replace ve11:=se20 _ _ ve11
  replace ve12:=se20 _ _ ve12
  replace ve13:=se20 _ _ ve13
  replace ve14:=se20 _ _ ve14
  replace ve15:=se20 _ _ ve15
  replace ve16:=se20 _ _ ve16
  replace ve17:=se20 _ _ ve17
  replace ve18:=se20 _ _ ve18
  replace ve19:=se20 _ _ ve19
  refine ⟨line_le (show 2≤1000 by omega),fun e21 he21=>?_⟩
  have se21:Same Q20 (upd Q20 e21 (.tup [.ref e20,.str (Str.ofString "a")])):=(Same.refl Q20).new he21
  have ve21:upd Q20 e21 (.tup [.ref e20,.str (Str.ofString "a")]) e21=some (.tup [.ref e20,.str (Str.ofString "a")]):=upd_same
  show (fun HH=>_) (upd Q20 e21 (.tup [.ref e20,.str (Str.ofString "a")]))
  generalize upd Q20 e21 (.tup [.ref e20,.str (Str.ofString "a")])=Q21 at se21 ve21
  replace ve1:=se21 _ _ ve1
  replace ve2:=se21 _ _ ve2
  replace ve3:=se21 _ _ ve3
  replace ve4:=se21 _ _ ve4
  replace ve5:=se21 _ _ ve5
  replace ve6:=se21 _ _ ve6
  replace ve7:=se21 _ _ ve7
  replace ve8:=se21 _ _ ve8
  replace ve9:=se21 _ _ ve9
  replace ve10:=se21 _ _ ve10
  replace ve11:=se21 _ _ ve11
  replace ve12:=se21 _ _ ve12
  replace ve13:=se21 _ _ ve13
  replace ve14:=se21 _ _ ve14
  replace ve15:=se21 _ _ ve15
  replace ve16:=se21 _ _ ve16
  replace ve17:=se21 _ _ ve17
  replace ve18:=se21 _ _ ve18
  replace ve19:=se21 _ _ ve19
  replace ve20:=se21 _ _ ve20
  refine ⟨line_le (show 3≤1000 by omega),fun e22 he22=>?_⟩
  have se22:Same Q21 (upd Q21 e22 (.lst [.ref e16,.ref e18,.ref e21])):=(Same.refl Q21).new he22
  have ve22:upd Q21 e22 (.lst [.ref e16,.ref e18,.ref e21]) e22=some (.lst [.ref e16,.ref e18,.ref e21]):=upd_same
  show (fun HH=>_) (upd Q21 e22 (.lst [.ref e16,.ref e18,.ref e21]))
  generalize upd Q21 e22 (.lst [.ref e16,.ref e18,.ref e21])=Q22 at se22 ve22
  replace ve1:=se22 _ _ ve1
  replace ve2:=se22 _ _ ve2
  replace ve3:=se22 _ _ ve3
  replace ve4:=se22 _ _ ve4
  replace ve5:=se22 _ _ ve5
  replace ve6:=se22 _ _ ve6
  replace ve7:=se22 _ _ ve7
  replace ve8:=se22 _ _ ve8
  replace ve9:=se22 _ _ ve9
  replace ve10:=se22 _ _ ve10
  replace ve11:=se22 _ _ ve11
  replace ve12:=se22 _ _ ve12
  replace ve13:=se22 _ _ ve13
  replace ve14:=se22 _ _ ve14
  replace ve15:=se22 _ _ ve15
  replace ve16:=se22 _ _ ve16
  replace ve17:=se22 _ _ ve17
  replace ve18:=se22 _ _ ve18
  replace ve19:=se22 _ _ ve19
  replace ve20:=se22 _ _ ve20
  replace ve21:=se22 _ _ ve21
  refine ⟨e14,e22,_,_,rfl,rfl,ve14,ve22,line_le (show 16≤1000 by omega),fun e23 he23=>?_⟩
  have se23:Same Q22 (upd Q22 e23 (.lst [.non,.int 0,.bl true,.str (Str.ofString ""),.str (Str.ofString "a"),.ref e1,.ref e2,.ref e3,.ref e5,.ref e7,.ref e9,.ref e11,.ref e13,.ref e16,.ref e18,.ref e21])):=(Same.refl Q22).new he23
  have ve23:upd Q22 e23 (.lst [.non,.int 0,.bl true,.str (Str.ofString ""),.str (Str.ofString "a"),.ref e1,.ref e2,.ref e3,.ref e5,.ref e7,.ref e9,.ref e11,.ref e13,.ref e16,.ref e18,.ref e21]) e23=some (.lst [.non,.int 0,.bl true,.str (Str.ofString ""),.str (Str.ofString "a"),.ref e1,.ref e2,.ref e3,.ref e5,.ref e7,.ref e9,.ref e11,.ref e13,.ref e16,.ref e18,.ref e21]):=upd_same
  show (fun HH=>_) (upd Q22 e23 (.lst [.non,.int 0,.bl true,.str (Str.ofString ""),.str (Str.ofString "a"),.ref e1,.ref e2,.ref e3,.ref e5,.ref e7,.ref e9,.ref e11,.ref e13,.ref e16,.ref e18,.ref e21]))
  generalize upd Q22 e23 (.lst [.non,.int 0,.bl true,.str (Str.ofString ""),.str (Str.ofString "a"),.ref e1,.ref e2,.ref e3,.ref e5,.ref e7,.ref e9,.ref e11,.ref e13,.ref e16,.ref e18,.ref e21])=Q23 at se23 ve23
  replace ve1:=se23 _ _ ve1
  replace ve2:=se23 _ _ ve2
  replace ve3:=se23 _ _ ve3
  replace ve4:=se23 _ _ ve4
  replace ve5:=se23 _ _ ve5
  replace ve6:=se23 _ _ ve6
  replace ve7:=se23 _ _ ve7
  replace ve8:=se23 _ _ ve8
  replace ve9:=se23 _ _ ve9
  replace ve10:=se23 _ _ ve10
  replace ve11:=se23 _ _ ve11
  replace ve12:=se23 _ _ ve12
  replace ve13:=se23 _ _ ve13
  replace ve14:=se23 _ _ ve14
  replace ve15:=se23 _ _ ve15
  replace ve16:=se23 _ _ ve16
  replace ve17:=se23 _ _ ve17
  replace ve18:=se23 _ _ ve18
  replace ve19:=se23 _ _ ve19
  replace ve20:=se23 _ _ ve20
  replace ve21:=se23 _ _ ve21
  replace ve22:=se23 _ _ ve22
  have s0:Sh 2 (Str.ofString ""):=by unfold Sh;decide +kernel
  have sa:Sh 2 (Str.ofString "a"):=by unfold Sh;decide +kernel
  have sb:Sh 2 (Str.ofString "ab"):=by unfold Sh;decide +kernel
  have sc:Sh 2 (Str.ofString "aa"):=by unfold Sh;decide +kernel
  have gz:∀ {hd hl:Bool} {z:Str},Sh 2 z→Gd hd hl 900 3 (.str z):=fun {hd hl z} h=>(gd_str h (by omega)).mono (Nat.le_refl _) (by omega)
  have gi:∀ {hd hl:Bool} {x:Int},x.natAbs≤1→Gd hd hl 41 1 (.int x):=fun {hd hl x} h=>by
    have e12:(10:Nat) ^ 12=1000000000000:=by decide
    exact (Gd.int (by omega)).mono (Nat.le_refl _) (Nat.zero_le _)
  have gn:∀ {hd hl:Bool},Gd hd hl 0 3 (.tuple []):=fun {hd hl}=>(Gd.tup Gs.nil).mono (by omega) (by omega)
  have g1:∀ {hd hl:Bool} {x:Int},x.natAbs≤1→Gd hd hl 100 3 (.tuple [.int x]):=fun {hd hl x} h=>(Gd.tup (Gs.one (gi h))).mono (by omega) (by omega)
  have g2:∀ {hd hl:Bool} {x y:Int},x.natAbs≤1→y.natAbs≤1→Gd hd hl 100 3 (.tuple [.int x,.int y]):=fun {hd hl x y} h h'=>(Gd.tup (Gs.cons (gi h) (Gs.one (gi h')))).mono (by omega) (by omega)
  have pr:∀ {d:PyData} {z:Str},Gd false false 200 4 d→Sh 2 z→Gd false false 23000 5 (.tuple [d,.str z]):=fun {d z} h hz=>(Gd.tup (Gs.cons h (Gs.one ((gz hz).mono (Nat.le_refl _) (by omega))))).mono (by omega) (by omega)
  have shy2:∀ {d:PyData} {z:Str},Sh 2 z→Shy (.tuple [d,.str z]):=fun {d z} hz x y e=>by cases e;exact sh_short hz (by omega)
  have al:∀ v∈[V.non,.int 0,.bl true,.str (Str.ofString ""),.str (Str.ofString "a"),.ref e1,.ref e2,.ref e3,.ref e5,.ref e7,.ref e9,.ref e11,.ref e13,.ref e16,.ref e18,.ref e21],∃ d hd hl,Td Q23 v d∧Gd hd hl 23000 5 d∧(hd=false∨hl=false)∧Shy d:=fun v hv=>by
    simp only [List.mem_cons,List.not_mem_nil,or_false] at hv
    rcases hv with rfl | rfl | rfl | rfl | rfl | rfl | rfl | rfl | rfl | rfl | rfl | rfl | rfl | rfl | rfl | rfl
    · exact ⟨.none,false,false,.non,Gd.non.mono (by omega) (by omega),.inl rfl,(fun x y e=>by cases e)⟩
    · exact ⟨.int 0,false,false,.int 0,(gi (by decide)).mono (by omega) (by omega),.inl rfl,(fun x y e=>by cases e)⟩
    · exact ⟨.bool true,false,false,.bl true,(Gd.bl _).mono (by omega) (by omega),.inl rfl,(fun x y e=>by cases e)⟩
    · exact ⟨_,false,false,.str _,(gz s0).mono (by omega) (by omega),.inl rfl,(fun x y e=>by cases e)⟩
    · exact ⟨_,false,false,.str _,(gz sa).mono (by omega) (by omega),.inl rfl,(fun x y e=>by cases e)⟩
    · exact ⟨.tuple [],false,false,.tup ve1 .nil,gn.mono (by omega) (by omega),.inl rfl,(fun x y e=>by cases e)⟩
    · exact ⟨.list [],false,true,.lst ve2 .nil,(Gd.lst Gs.nil).mono (by omega) (by omega),.inl rfl,(fun x y e=>by cases e)⟩
    · exact ⟨.dict [],true,false,.dct ve3 .nil .nil,Gd.dct0.mono (by omega) (by omega),.inr rfl,(fun x y e=>by cases e)⟩
    · exact ⟨.tuple [.tuple [],.str _],false,false,.tup ve5 (.cons (.tup ve4 .nil) (.one (.str _))),pr (gn.mono (by omega) (by omega)) s0,.inl rfl,shy2 s0⟩
    · exact ⟨.tuple [.tuple [.int (-1)],.str _],false,false,.tup ve7 (.cons (.tup ve6 (.cons (.int _) .nil)) (.one (.str _))),pr ((g1 (by decide)).mono (by omega) (by omega)) sa,.inl rfl,shy2 sa⟩
    · exact ⟨.tuple [.tuple [.int (-1)],.str _],false,false,.tup ve9 (.cons (.tup ve8 (.cons (.int _) .nil)) (.one (.str _))),pr ((g1 (by decide)).mono (by omega) (by omega)) sb,.inl rfl,shy2 sb⟩
    · exact ⟨.tuple [.tuple [.int (-1),.int (0)],.str _],false,false,.tup ve11 (.cons (.tup ve10 (.cons (.int _) (.cons (.int _) .nil))) (.one (.str _))),pr ((g2 (by decide) (by decide)).mono (by omega) (by omega)) sc,.inl rfl,shy2 sc⟩
    · exact ⟨.tuple [.tuple [.int (0)],.str _],false,false,.tup ve13 (.cons (.tup ve12 (.cons (.int _) .nil)) (.one (.str _))),pr ((g1 (by decide)).mono (by omega) (by omega)) sa,.inl rfl,shy2 sa⟩
    · exact ⟨.tuple [.tuple [.int (-1)],.str _],false,false,.tup ve16 (.cons (.tup ve15 (.cons (.int _) .nil)) (.one (.str _))),pr ((g1 (by decide)).mono (by omega) (by omega)) s0,.inl rfl,shy2 s0⟩
    · exact ⟨.tuple [.tuple [.bool true],.str _],false,false,.tup ve18 (.cons (.tup ve17 (.one (.bl true))) (.one (.str _))),pr ((Gd.tup (Gs.one ((Gd.bl _).mono (c':=50) (e':=1) (by omega) (by omega)))).mono (by omega) (by omega)) sa,.inl rfl,shy2 sa⟩
    · exact ⟨.tuple [.tuple [.tuple [.int (-1)]],.str _],false,false,.tup ve21 (.cons (.tup ve20 (.one (.tup ve19 (.cons (.int _) .nil)))) (.one (.str _))),pr ((Gd.tup (Gs.one (g1 (by decide)))).mono (by omega) (by omega)) sa,.inl rfl,shy2 sa⟩
  have ln:[V.non,.int 0,.bl true,.str (Str.ofString ""),.str (Str.ofString "a"),.ref e1,.ref e2,.ref e3,.ref e5,.ref e7,.ref e9,.ref e11,.ref e13,.ref e16,.ref e18,.ref e21].length=16:=rfl
  generalize [V.non,.int 0,.bl true,.str (Str.ofString ""),.str (Str.ofString "a"),.ref e1,.ref e2,.ref e3,.ref e5,.ref e7,.ref e9,.ref e11,.ref e13,.ref e16,.ref e18,.ref e21]=vs at al ve23 ln
  refine ⟨_,rfl,e23,rfl,⟨_,SqL.of ve23⟩,fun ac2 hac2=>?_⟩
  refine comp_lst (K:=K) (a:=e23) (xs:=vs) (by omega) (fun j ys HX=>HX ac2=some (.lst ys)∧ys=[]∧Same Q23 HX)
    (fun j ys HX h=>SqL.of (h.2.2 _ _ ve23)) (fun j ys HX h=>⟨h.1,by rw [h.2.1];exact Nat.zero_le _⟩) ⟨upd_same,rfl,(Same.refl Q23).new hac2⟩ ?_ ?_
  rotate_left
  · rintro j v ys HX hv ⟨g1',rfl,g3⟩
    obtain ⟨d,hd,hl',td',gg,o',shy⟩:=al v (List.mem_of_getElem? hv)
    refine ⟨rfl,_,rfl,v,d,rfl,td'.same g3,shy,gg.fit o' (by omega) (by omega),fun HY sY=>⟨_,rfl,iteF ?_⟩⟩
    exact ⟨sY _ _ g1',rfl,g3.trans sY⟩
  rintro ys HB ⟨g1',rfl,g3⟩
  refine ⟨line_le (show 0≤1000 by omega),fun z0 hz0=>?_⟩
  refine ⟨ac2,z0,_,rfl,rfl,SqL.of (by rw [upd_ne (ne_of_none g1' hz0)];exact g1'),SqL.of upd_same,?_⟩
  exact q _
end
end S53
namespace S53
open PySem L2 W7
theorem df_mk {K:PySem.W.Frag} {h:Heap} {mg:Str→Option Value} {x:Str} {st:Stmt} {f:Addr} {oc:Value} {od an:Option Addr} {osl:Array (Option Value)} {kV doc pm cdv ct:Value} (X:K.In h) (G:h.Ns mainGlobals mg)
    (a:PySem.W.nsIn K mainGlobals x=some (some (.ref f))) (l:K.lookup f=some ⟨oc,od,.func (PySem.W.fnOf x x (defArgs st) (defBody st) (defScope st) .none kV doc pm an cdv ct),osl⟩) (c:PySem.W.codeIn K cdv x=true) (kk:PySem.W.keepIn K (.ref f)=true):Df K mg x st:=
  ⟨f,_,fun_mk l c kk,PySem.W.mg_of X G a⟩
theorem blt_mk {K:PySem.W.Frag} {h:Heap} {mg:Str→Option Value} (X:K.In h) (G:h.Ns mainGlobals mg)
    (z1:PySem.W.nsIn K mainGlobals "len" = some none) (z2:PySem.W.nsIn K mainGlobals "range" = some none) (z3:PySem.W.nsIn K mainGlobals "zip" = some none) (z4:PySem.W.nsIn K mainGlobals "enumerate" = some none)
    (z5:PySem.W.nsIn K mainGlobals "max" = some none) (z6:PySem.W.nsIn K mainGlobals "min" = some none) (z7:PySem.W.nsIn K mainGlobals "int" = some none) (z8:PySem.W.nsIn K mainGlobals "str" = some none)
    (z9:PySem.W.nsIn K mainGlobals "bool" = some none) (z10:PySem.W.nsIn K mainGlobals "list" = some none) (z11:PySem.W.nsIn K mainGlobals "tuple" = some none) (z12:PySem.W.nsIn K mainGlobals "isinstance" = some none):Blt mg:=
  ⟨PySem.W.mg_none_of X G z1,PySem.W.mg_none_of X G z2,PySem.W.mg_none_of X G z3,PySem.W.mg_none_of X G z4,PySem.W.mg_none_of X G z5,PySem.W.mg_none_of X G z6,PySem.W.mg_none_of X G z7,PySem.W.mg_none_of X G z8,
    PySem.W.mg_none_of X G z9,PySem.W.mg_none_of X G z10,PySem.W.mg_none_of X G z11,PySem.W.mg_none_of X G z12⟩
theorem all_ok {P:Program} {w:World} {K:PySem.W.Frag} {mg:Str→Option Value} {fa:Addr} (hfa:mg "law" = some (.ref fa)) (B:Blt7 mg)
    (d1:Df K mg "is_whole" s_is_whole) (d2:Df K mg "is_letters" s_is_letters) (d3:Df K mg "is_rising" s_is_rising) (d4:Df K mg "is_tree" s_is_tree) (d5:Df K mg "is_labels" s_is_labels) (d6:Df K mg "is_ups" s_is_ups) (d7:Df K mg "all_above" s_all_above) (d8:Df K mg "beneath_of" s_beneath_of) (d9:Df K mg "is_trie" s_is_trie) (d10:Df K mg "letters_beneath" s_letters_beneath) (d11:Df K mg "_law_cell_at" s_law_cell_at) (d12:Df K mg "_law_pool" s_law_pool) (d13:Df K mg "_law_take" s_law_take) (d14:Df K mg "_law_letters" s_law_letters) (d15:Df K mg "_law_grown" s_law_grown) (d16:Df K mg "_law_copies" s_law_copies) (d17:Df K mg "_law_tree" s_law_tree) (d18:Df K mg "_law_ways" s_law_ways) (d19:Df K mg "_law_trie" s_law_trie) (d20:Df K mg "_law_ups" s_law_ups) (d21:Df K mg "_law_due" s_law_due) (d22:Df K mg "_law_bent" s_law_bent) (d23:Df K mg "_law_right" s_law_right) (d24:Df K mg "law" s_law) :
    ∃ fd:FuncData,(∀ (s:Shared) (v:Value),BindsTo s fd ⟨[v],[]⟩ [("script", v)])∧∀ base:Heap,FnOk P w K mg base CX0 12 fa fd ["script"] (sp_law K):=by
  obtain ⟨f,fd,F,m⟩:=d24
  have e:=hfa.symm.trans m
  cases e
  refine ⟨fd,?_,fun base=>?_⟩
  · obtain ⟨oc,od,kV,doc,pm,an,cdv,ct,osl,rfl,_,_⟩:=F.ex
    exact fun s v=>.of_eq rfl
  have g_cell:=has_cell (P:=P) (w:=w) (base:=base) (k:=0) d11 B.toBlt
  have g_pool:=has_pool (k:=1) d12 B.toBlt g_cell
  have g_take:=has_take (P:=P) (w:=w) (base:=base) (k:=0) d13 B.toBlt
  have g_letters:=has_letters (k:=1) d14 B.toBlt g_take
  have g_grown:=has_grown (k:=1) d15 B.toBlt g_take
  have g_copies:=has_copies (k:=2) d16 B.toBlt (g_take.mono (by decide)) g_grown
  have g_tree:=has_tree (k:=3) d17 B.toBlt (g_take.mono (by decide)) (g_grown.mono (by decide)) g_copies
  have g_lways:=has_lways (P:=P) (w:=w) (base:=base) (k:=0) d18 B
  have g_ltrie:=has_ltrie (P:=P) (w:=w) (base:=base) (k:=0) d19 B
  have g_all:=R.has_all (P:=P) (w:=w) (base:=base) (k:=0) d7 B
  have g_whole:=R.has_whole (P:=P) (w:=w) (base:=base) (k:=0) d1 B
  have g_wholeT:=has_wholeT (P:=P) (w:=w) (base:=base) (k:=0) d1 B
  have g_lettersT:=has_lettersT (P:=P) (w:=w) (base:=base) (k:=0) d2 B
  have g_labelsT:=has_labelsT (k:=1) d5 B g_lettersT
  have g_upsT:=has_upsT (k:=1) d6 B g_whole g_wholeT g_all
  have g_istT:=has_istT (k:=2) d4 B g_labelsT g_upsT
  have g_ben:=has_beneath (P:=P) (w:=w) (base:=base) (k:=0) d8 B
  have g_below:=has_below (k:=1) d10 B g_ben
  have g_risingT:=has_risingT (P:=P) (w:=w) (base:=base) (k:=0) d3 B
  have g_itT:=has_itT (k:=3) d9 B g_istT (g_risingT.mono (by decide)) (g_below.mono (by decide))
  have g_lups:=has_lups (P:=P) (w:=w) (base:=base) (k:=0) d20 B
  have g_due:=has_due (k:=1) d21 B g_lups
  have g_bent:=has_bent (k:=1) d22 B g_take
  have g_right:=has_right (k:=4) d23 B g_itT (g_due.mono (by decide))
  exact (ok_law (k:=5) F B (g_pool.mono (by decide)) (g_letters.mono (by decide)) (g_tree.mono (by decide)) g_right (g_lways.mono (by decide)) (g_ltrie.mono (by decide)) (g_bent.mono (by decide)) (g_itT.mono (by decide))).mono (by decide)
end S53
open PySem PySem.W PyProof.Rows
set_option maxRecDepth 100000 in
set_option maxHeartbeats 0 in
theorem PySem.Challenge.cw_upwords_k53_what_is_a_trie_holds : PySem.Challenge.rw_upwords_k53_what_is_a_trie.Holds := by
  w_on; o_law; k_head; (case hw => w_witness2)
  k_fill
  refine L2.walk_ofK (l := PySem.Challenge.rw_upwords_k53_what_is_a_trie) (n := 63) (k := 12) (x := "script") (CX := L2.CX0) (sp := S53.sp_law) rfl (by decide) rfl ⟨rfl, by decide, by decide, rfl⟩ (fun w h Y => PySem.W.kIn_of Y) ?F
    (fun K H a ns hl _ hS => ⟨a, ns, rfl, hS, hl, fun _ => rfl⟩) (fun _ _ _ _ z => z)
  case F =>
    intro w mg fa h KX G hmg
    have B : L2.Blt mg := by
      refine' S53.blt_mk KX G ?z1 ?z2 ?z3 ?z4 ?z5 ?z6 ?z7 ?z8 ?z9 ?z10 ?z11 ?z12
      (case z1 => k_is); (case z2 => k_is); (case z3 => k_is); (case z4 => k_is); (case z5 => k_is); (case z6 => k_is); (case z7 => k_is); (case z8 => k_is); (case z9 => k_is); (case z10 => k_is); (case z11 => k_is); (case z12 => k_is)
    have Bx0 : mg "sorted" = none := by
      refine' PySem.W.mg_none_of KX G ?z
      (case z => k_is)
    have Bx1 : mg "set" = none := by
      refine' PySem.W.mg_none_of KX G ?z
      (case z => k_is)
    have Bx2 : mg "repr" = none := by
      refine' PySem.W.mg_none_of KX G ?z
      (case z => k_is)
    have Bx3 : mg "dict" = none := by
      refine' PySem.W.mg_none_of KX G ?z
      (case z => k_is)
    have Bx4 : mg "all" = none := by
      refine' PySem.W.mg_none_of KX G ?z
      (case z => k_is)
    have Bx5 : ∃ u, mg "MOST_PLACES" = some u ∧ L2.RelV (.int 60) u := by
      refine' ⟨_, PySem.W.mg_of KX G ?z, ?r⟩
      (case z => k_is)
      (case r => exact ⟨_, rfl⟩)
    have Bx6 : ∃ u, mg "LETTERS" = some u ∧ L2.RelV (.str "abcdefghijklmnopqrstuvwxyz") u := by
      refine' ⟨_, PySem.W.mg_of KX G ?z, ?r⟩
      (case z => k_is)
      (case r => exact ⟨_, rfl⟩)
    have d1 : L2.Df (L2.KOf KX) mg "is_whole" S53.s_is_whole := by
      dsimp only [L2.KOf]; refine' S53.df_mk KX G ?a ?l ?c ?k
      (case a => k_is); (case l => k_is); (case c => k_is); (case k => k_is)
    have d2 : L2.Df (L2.KOf KX) mg "is_letters" S53.s_is_letters := by
      dsimp only [L2.KOf]; refine' S53.df_mk KX G ?a ?l ?c ?k
      (case a => k_is); (case l => k_is); (case c => k_is); (case k => k_is)
    have d3 : L2.Df (L2.KOf KX) mg "is_rising" S53.s_is_rising := by
      dsimp only [L2.KOf]; refine' S53.df_mk KX G ?a ?l ?c ?k
      (case a => k_is); (case l => k_is); (case c => k_is); (case k => k_is)
    have d4 : L2.Df (L2.KOf KX) mg "is_tree" S53.s_is_tree := by
      dsimp only [L2.KOf]; refine' S53.df_mk KX G ?a ?l ?c ?k
      (case a => k_is); (case l => k_is); (case c => k_is); (case k => k_is)
    have d5 : L2.Df (L2.KOf KX) mg "is_labels" S53.s_is_labels := by
      dsimp only [L2.KOf]; refine' S53.df_mk KX G ?a ?l ?c ?k
      (case a => k_is); (case l => k_is); (case c => k_is); (case k => k_is)
    have d6 : L2.Df (L2.KOf KX) mg "is_ups" S53.s_is_ups := by
      dsimp only [L2.KOf]; refine' S53.df_mk KX G ?a ?l ?c ?k
      (case a => k_is); (case l => k_is); (case c => k_is); (case k => k_is)
    have d7 : L2.Df (L2.KOf KX) mg "all_above" S53.s_all_above := by
      dsimp only [L2.KOf]; refine' S53.df_mk KX G ?a ?l ?c ?k
      (case a => k_is); (case l => k_is); (case c => k_is); (case k => k_is)
    have d8 : L2.Df (L2.KOf KX) mg "beneath_of" S53.s_beneath_of := by
      dsimp only [L2.KOf]; refine' S53.df_mk KX G ?a ?l ?c ?k
      (case a => k_is); (case l => k_is); (case c => k_is); (case k => k_is)
    have d9 : L2.Df (L2.KOf KX) mg "is_trie" S53.s_is_trie := by
      dsimp only [L2.KOf]; refine' S53.df_mk KX G ?a ?l ?c ?k
      (case a => k_is); (case l => k_is); (case c => k_is); (case k => k_is)
    have d10 : L2.Df (L2.KOf KX) mg "letters_beneath" S53.s_letters_beneath := by
      dsimp only [L2.KOf]; refine' S53.df_mk KX G ?a ?l ?c ?k
      (case a => k_is); (case l => k_is); (case c => k_is); (case k => k_is)
    have d11 : L2.Df (L2.KOf KX) mg "_law_cell_at" S53.s_law_cell_at := by
      dsimp only [L2.KOf]; refine' S53.df_mk KX G ?a ?l ?c ?k
      (case a => k_is); (case l => k_is); (case c => k_is); (case k => k_is)
    have d12 : L2.Df (L2.KOf KX) mg "_law_pool" S53.s_law_pool := by
      dsimp only [L2.KOf]; refine' S53.df_mk KX G ?a ?l ?c ?k
      (case a => k_is); (case l => k_is); (case c => k_is); (case k => k_is)
    have d13 : L2.Df (L2.KOf KX) mg "_law_take" S53.s_law_take := by
      dsimp only [L2.KOf]; refine' S53.df_mk KX G ?a ?l ?c ?k
      (case a => k_is); (case l => k_is); (case c => k_is); (case k => k_is)
    have d14 : L2.Df (L2.KOf KX) mg "_law_letters" S53.s_law_letters := by
      dsimp only [L2.KOf]; refine' S53.df_mk KX G ?a ?l ?c ?k
      (case a => k_is); (case l => k_is); (case c => k_is); (case k => k_is)
    have d15 : L2.Df (L2.KOf KX) mg "_law_grown" S53.s_law_grown := by
      dsimp only [L2.KOf]; refine' S53.df_mk KX G ?a ?l ?c ?k
      (case a => k_is); (case l => k_is); (case c => k_is); (case k => k_is)
    have d16 : L2.Df (L2.KOf KX) mg "_law_copies" S53.s_law_copies := by
      dsimp only [L2.KOf]; refine' S53.df_mk KX G ?a ?l ?c ?k
      (case a => k_is); (case l => k_is); (case c => k_is); (case k => k_is)
    have d17 : L2.Df (L2.KOf KX) mg "_law_tree" S53.s_law_tree := by
      dsimp only [L2.KOf]; refine' S53.df_mk KX G ?a ?l ?c ?k
      (case a => k_is); (case l => k_is); (case c => k_is); (case k => k_is)
    have d18 : L2.Df (L2.KOf KX) mg "_law_ways" S53.s_law_ways := by
      dsimp only [L2.KOf]; refine' S53.df_mk KX G ?a ?l ?c ?k
      (case a => k_is); (case l => k_is); (case c => k_is); (case k => k_is)
    have d19 : L2.Df (L2.KOf KX) mg "_law_trie" S53.s_law_trie := by
      dsimp only [L2.KOf]; refine' S53.df_mk KX G ?a ?l ?c ?k
      (case a => k_is); (case l => k_is); (case c => k_is); (case k => k_is)
    have d20 : L2.Df (L2.KOf KX) mg "_law_ups" S53.s_law_ups := by
      dsimp only [L2.KOf]; refine' S53.df_mk KX G ?a ?l ?c ?k
      (case a => k_is); (case l => k_is); (case c => k_is); (case k => k_is)
    have d21 : L2.Df (L2.KOf KX) mg "_law_due" S53.s_law_due := by
      dsimp only [L2.KOf]; refine' S53.df_mk KX G ?a ?l ?c ?k
      (case a => k_is); (case l => k_is); (case c => k_is); (case k => k_is)
    have d22 : L2.Df (L2.KOf KX) mg "_law_bent" S53.s_law_bent := by
      dsimp only [L2.KOf]; refine' S53.df_mk KX G ?a ?l ?c ?k
      (case a => k_is); (case l => k_is); (case c => k_is); (case k => k_is)
    have d23 : L2.Df (L2.KOf KX) mg "_law_right" S53.s_law_right := by
      dsimp only [L2.KOf]; refine' S53.df_mk KX G ?a ?l ?c ?k
      (case a => k_is); (case l => k_is); (case c => k_is); (case k => k_is)
    have d24 : L2.Df (L2.KOf KX) mg "law" S53.s_law := by
      dsimp only [L2.KOf]; refine' S53.df_mk KX G ?a ?l ?c ?k
      (case a => k_is); (case l => k_is); (case c => k_is); (case k => k_is)
    obtain ⟨fd, h1, h2⟩ := S53.all_ok (P := PySem.Challenge.rw_upwords_k53_what_is_a_trie.prog) (w := w) hmg ⟨B, Bx0, Bx1, Bx2, Bx3, Bx4, Bx5, Bx6⟩ d1 d2 d3 d4 d5 d6 d7 d8 d9 d10 d11 d12 d13 d14 d15 d16 d17 d18 d19 d20 d21 d22 d23 d24
    exact ⟨fd, h1, fun base _ _ => h2 base⟩
