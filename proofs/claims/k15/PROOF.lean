import PyProof.Rows.All
import Wide.All
import OpenK.AllK
import Wide.FinOn
import Lean
import PyProof.EqAt
import PyProof.EqKinds
import PyProof.TupleCall
import PyProof.WalkInts
import PyProof.NeKinds
import KE.KSortTup
import KE.KLam
import PyProof.ListRange
import KE.KDictOf
import PyProof.AttrMissSeq
import KE.KTryOn
import PyProof.NsDelKeeps
import PyProof.ExcAttrAll.ValueError
import KE.KMinKey
import PyProof.StrBlock
import PyProof.StrLaws
import PyProof.Rows.Range3
import PySem.Challenge.RW_upwords_k15_places_by_rank
set_option Elab.async false
set_option linter.all false
set_option maxRecDepth 100000
namespace L2
open PySem PySem.Spec PyProof.Rows
abbrev Key:=Sum Int Str
def keyIs:Key→Value→Bool
  | .inl k,v=>Value.isInt k v
  | .inr x,v=>Value.isStrOf x v
def keyH (w:World):Key→Int
  | .inl k=>hashInt k
  | .inr x=>hashStr w x
theorem keyIs_shape:∀ {k:Key} {v:Value},keyIs k v=true→(∃ i t,k=Sum.inl i∧v=Value.int i t)∨(∃ x t,k=Sum.inr x∧v=Value.str x t)
  | .inl i,v,h=>by
    obtain ⟨t,e⟩:=Value.isInt_shape (k:=i) (v:=v) h
    exact .inl ⟨i,t,rfl,e⟩
  | .inr x,v,h=>by
    obtain ⟨t,e⟩:=Value.isStrOf_shape (x:=x) (v:=v) h
    exact .inr ⟨x,t,rfl,e⟩
theorem key_ll (a b:Int):decide ((Sum.inl a:Key)=Sum.inl b)=(a == b):=by
  by_cases e:a=b
  · subst e;simp
  · have h:¬ (Sum.inl a:Key)=Sum.inl b:=fun q=>e (Sum.inl.inj q)
    rw [decide_eq_false h]
    exact (beq_eq_false_iff_ne.mpr e).symm
theorem key_rr (a b:Str):decide ((Sum.inr a:Key)=Sum.inr b)=decide (a=b):=by
  by_cases e:a=b
  · subst e;simp
  · have h:¬ (Sum.inr a:Key)=Sum.inr b:=fun q=>e (Sum.inr.inj q)
    rw [decide_eq_false h,decide_eq_false e]
theorem key_lr (a:Int) (b:Str):decide ((Sum.inl a:Key)=Sum.inr b)=false:=decide_eq_false (fun q=>nomatch q)
theorem key_rl (a:Str) (b:Int):decide ((Sum.inr a:Key)=Sum.inl b)=false:=decide_eq_false (fun q=>nomatch q)
def mixKind (prog:Program) (w:World):PySem.KeyKind prog w Key where
  is:=keyIs
  hash:=keyH w
  inj:=fun v a b ha hb=>by
    rcases keyIs_shape ha with ⟨i,t,rfl,rfl⟩ | ⟨x,t,rfl,rfl⟩
    · rcases keyIs_shape hb with ⟨j,u,rfl,e⟩ | ⟨y,u,rfl,e⟩
      · injection e with e1 _;rw [e1]
      · exact nomatch e
    · rcases keyIs_shape hb with ⟨j,u,rfl,e⟩ | ⟨y,u,rfl,e⟩
      · exact nomatch e
      · injection e with e1 _;rw [e1]
  byValue:=fun k v h=>by
    rcases keyIs_shape h with ⟨i,t,rfl,rfl⟩ | ⟨x,t,rfl,rfl⟩ <;> rfl
  pyHash:=fun hv h=>by
    rcases keyIs_shape hv with ⟨i,t,rfl,rfl⟩ | ⟨x,t,rfl,rfl⟩
    · exact wpAny_pyHash_int h
    · exact wpAny_pyHash_str h
  eqBool:=fun hu hv h=>by
    rcases keyIs_shape hu with ⟨i,t,rfl,rfl⟩ | ⟨x,t,rfl,rfl⟩
    · rcases keyIs_shape hv with ⟨j,u,rfl,rfl⟩ | ⟨y,u,rfl,rfl⟩
      · rw [key_ll] at h;exact wpAny_eqBool_int h
      · rw [key_lr] at h;exact SeqAt.EqAt.int_str i t y u _ _ _ _ h
    · rcases keyIs_shape hv with ⟨j,u,rfl,rfl⟩ | ⟨y,u,rfl,rfl⟩
      · rw [key_rl] at h;exact SeqAt.EqAt.str_int x t j u _ _ _ _ h
      · rw [key_rr] at h;exact wpAny_eqBool_str h
  «strs»:=fun k x t v h=>by
    rcases keyIs_shape h with ⟨i,u,rfl,e⟩ | ⟨y,u,rfl,e⟩
    · exact nomatch e
    · injection e with e1 _
      subst e1
      cases v <;> rfl
end L2
namespace L2
open PySem PySem.Spec PyProof.Rows
inductive V where
  | non | bl (b:Bool) | int (i:Int) | str (x:Str) | byt (b:Array UInt8) | flt (b:UInt64) | ref (a:Addr) | ty (n:String)
  deriving DecidableEq
def RelV:V→Value→Prop
  | .non,u=>u=Value.none
  | .bl b,u=>u=Value.bool b
  | .int i,u=>∃ t,u=Value.int i t
  | .str x,u=>∃ t,u=Value.str x t
  | .byt b,u=>∃ t,u=Value.bytes b t
  | .flt b,u=>∃ t,u=Value.float b t
  | .ref a,u=>u=Value.ref a
  | .ty n,u=>u=Value.type n
abbrev Vals:List V→List Value→Prop:=Paired RelV
theorem Vals.length {xs:List V} {us:List Value} (r:Vals xs us):xs.length=us.length:=Paired.length r
theorem Vals.get:∀ {xs:List V} {us:List Value} {i:Nat} {x:V},Vals xs us→xs[i]?=some x→∃ u,us[i]?=some u∧RelV x u
  | _,_,_,_,.nil,e=>by simp at e
  | _,_,0,_,.cons r _,e=>by simp at e;subst e;exact ⟨_,rfl,r⟩
  | _,_,i+1,x,.cons _ t,e=>by
    obtain ⟨u,h1,h2⟩:=Vals.get (i:=i) (x:=x) t (by simpa using e)
    exact ⟨u,by simpa using h1,h2⟩
theorem Vals.set {x:V} {u:Value} (r:RelV x u):∀ {xs:List V} {us:List Value} (i:Nat),Vals xs us→Vals (xs.set i x) (us.set i u)
  | _,_,_,.nil=>.nil
  | _,_,0,.cons _ t=>.cons r t
  | _,_,i+1,.cons q t=>.cons q (Vals.set r i t)
theorem Vals.append:∀ {xs ys:List V} {us ws:List Value},Vals xs us→Vals ys ws→Vals (xs++ys) (us++ws)
  | _,_,_,_,.nil,s=>s
  | _,_,_,_,.cons r t,s=>.cons r (Vals.append t s)
theorem Vals.take:∀ {xs:List V} {us:List Value} (n:Nat),Vals xs us→Vals (xs.take n) (us.take n)
  | _,_,0,_=>.nil
  | _,_,_+1,.nil=>.nil
  | _,_,n+1,.cons r t=>.cons r (Vals.take n t)
theorem Vals.drop:∀ {xs:List V} {us:List Value} (n:Nat),Vals xs us→Vals (xs.drop n) (us.drop n)
  | _,_,0,r=>r
  | _,_,_+1,.nil=>.nil
  | _,_,n+1,.cons _ t=>Vals.drop n t
def RelO:Option V→Option Value→Prop
  | some v,some u=>RelV v u
  | none,none=>True
  | _,_=>False
def KV {κ:Type}:List (κ × V)→List (κ × Value)→Prop:=Paired fun (p:κ × V) (q:κ × Value)=>p.1=q.1∧RelV p.2 q.2
def kV:Key→V
  | .inl i=>.int i
  | .inr x=>.str x
inductive HO where
    | lst (xs:List V)
    | tup (xs:List V)
    | dK (kvs:List (Key × V)) | dT (kvs:List (List Key × V))
    | set (S:Int→Bool) (n:Nat)
    | ins (C dx:Addr) (fs:List (Str × V))
    | own (x:Addr)
    | xd (fs:List (Str × V))
    | met (f x:Addr)
    | rng (lo hi:Int)
    | frz (o:Obj) (u:HO)
    | tbl (ps:Array Value)
    | ext (φ:Heap→Prop)
abbrev Hp:=Addr→Option HO
def upd (H:Hp) (a:Addr) (o:HO):Hp:=fun b=>if b=a then some o else H b
theorem upd_same {H:Hp} {a:Addr} {o:HO}:upd H a o a=some o:=by unfold upd;rw [if_pos rfl]
theorem upd_ne {H:Hp} {a b:Addr} {o:HO} (h:b≠a):upd H a o b=H b:=by unfold upd;rw [if_neg h]
theorem upd_upd {H:Hp} {a:Addr} {o u:HO}:upd (upd H a o) a u=upd H a u:=by
  funext b;unfold upd;split <;> rfl
theorem ne_of {H:Hp} {a b:Addr} {o u:HO} (h:H a=some o) (h':H b=some u) (d:o≠u):a≠b:=by
  intro e;subst e;rw [h] at h';exact d (Option.some.inj h')
theorem ne_of_none {H:Hp} {a b:Addr} {o:HO} (h:H a=some o) (h':H b=none):a≠b:=by
  intro e;subst e;rw [h] at h';cases h'
section
variable (P:Program) (w:World)
def ObjOk (H:Hp) (h:Heap) (a:Addr):HO→Prop
  | .lst xs=>xs.length≤sizeLine∧∃ (its:List Value) (n:Nat),Vals xs its∧h.get? a=some { cls:=.type "list", data:=.seq its.toArray n }
  | .tup xs=>(xs.length≤sizeLine∧∃ o,h.get? a=some o∧o.dict=none)∧∃ its:List Value,Vals xs its∧IsTup h a its.toArray
  | .dK kvs=>kvs.length≤sizeLine∧(a == sysModules)=false∧∃ vs,KV kvs vs∧h.DictOf (mixKind P w) a vs
  | .dT kvs=>kvs.length≤sizeLine∧(a == sysModules)=false∧∃ xs:List (List Key × Addr × Value),
      Paired (fun (p:List Key × V) (q:List Key × Addr × Value)=>p.1=q.1∧H q.2.1=some (.tup (p.1.map kV))∧RelV p.2 q.2.2) kvs xs ∧
      ∃ o es ep,h.get? a=some o∧o.ExactDict∧o.data=.dict es ep∧es.toList=xs.map (entryOfKey (tupleKind (mixKind P w)))∧(xs.map (·.1)).Nodup
  | .set S n=>h.SetOf (intKind P w) a S n
  | .ins C dx fs=>H dx=some (.own a)∧fs.length≤1000∧dx≠a∧h.get? a=some (PySem.W.instObj C dx) ∧
      ∃ mA,h.Ns1 dx mA∧(∀ f,RelO (fs.lookup f) (mA f))∧PySem.Within mA (fs.map (·.1))
  | .own _=>∃ o,h.get? a=some o
  | .xd fs=>∃ mA,h.Ns1 a mA∧∀ f,RelO (fs.lookup f) (mA f)
  | .rng lo hi=>∃ t u v,h.get? a=some { cls:=.type "range", data:=.fields #[.int lo t,.int hi u,.int 1 v] }
  | .frz o u=>h.get? a=some o∧ObjOk H h a u
  | .tbl ps=>h.get? a=some { cls:=.none,data:=.fields ps }
  | .met f x=>h.get? a=some (PySem.W.methodObj (.ref f) (.ref x))
  | .ext φ=>φ h∧(∃ o,h.get? a=some o)∧∀ h1 h2:Heap,φ h1→(∀ o,h1.get? a=some o→h2.get? a=some o)→φ h2
def HOk (H:Hp) (h:Heap):Prop:=∀ a o,H a=some o→ObjOk P w H h a o
end
section
variable {P:Program} {w:World} {H H':Hp} {h h':Heap} {a:Addr} {o:HO}
theorem ObjOk.lt (x:ObjOk P w H h a o):a < h.objs.size:=by
  cases o with
  | lst xs=>obtain ⟨_,_,_,_,e⟩:=x;exact Heap.lt_size e
  | tup xs=>obtain ⟨_,_,_,p⟩:=x;exact p.lt
  | dK kvs=>obtain ⟨_,_,_,_,o,_,_,e,_⟩:=x;exact Heap.lt_size e
  | dT kvs=>obtain ⟨_,_,_,_,o,_,_,e,_⟩:=x;exact Heap.lt_size e
  | set S n=>obtain ⟨o,_,_,_,e,_⟩:=x;exact Heap.lt_size e
  | ins C dx fs=>obtain ⟨_,_,_,e,_⟩:=x;exact Heap.lt_size e
  | own y=>obtain ⟨_,e⟩:=x;exact Heap.lt_size e
  | xd fs=>obtain ⟨_,⟨_,_,_,e,_⟩,_⟩:=x;exact Heap.lt_size e
  | rng lo hi=>obtain ⟨_,_,_,e⟩:=x;exact Heap.lt_size e
  | frz ob u=>obtain ⟨e,_⟩:=x;exact Heap.lt_size e
  | tbl ps=>exact Heap.lt_size (show h.get? a=some _ from x)
  | met f y=>exact Heap.lt_size (show h.get? a=some _ from x)
  | ext φ=>obtain ⟨_,⟨_,e⟩,_⟩:=x;exact Heap.lt_size e
theorem Paired.mapP {α β:Type} {F G:α→β→Prop}:∀ {l₁:List α} {l₂:List β},Paired F l₁ l₂→(∀ a b,F a b→G a b)→Paired G l₁ l₂
  | _,_,.nil,_=>.nil
  | _,_,.cons r t,f=>.cons (f _ _ r) (Paired.mapP t f)
theorem ObjOk.stay (x:ObjOk P w H h a o) (k:∀ b u,(b=a∨H b=some (.own a))→h.get? b=some u→h'.get? b=some u)
    (ho:∀ b,H b=some (.own a)→H' b=some (.own a)) (ht:∀ b xs,H b=some (.tup xs)→H' b=some (.tup xs)):ObjOk P w H' h' a o:=by
  induction o with
  | lst xs=>obtain ⟨z,its,n,r,e⟩:=x;exact ⟨z,its,n,r,k _ _ (.inl rfl) e⟩
  | tup xs=>obtain ⟨⟨z,o1,e1,c1⟩,its,r,ob,e,c⟩:=x;exact ⟨⟨z,o1,k _ _ (.inl rfl) e1,c1⟩,its,r,ob,k _ _ (.inl rfl) e,c⟩
  | dK kvs=>obtain ⟨z,y,vs,r,ob,es,ep,e,c⟩:=x;exact ⟨z,y,vs,r,ob,es,ep,k _ _ (.inl rfl) e,c⟩
  | dT kvs=>
    obtain ⟨z,y,xs,r,ob,es,ep,e,c⟩:=x
    exact ⟨z,y,xs,Paired.mapP r fun p q z=>⟨z.1,ht _ _ z.2.1,z.2.2⟩,ob,es,ep,k _ _ (.inl rfl) e,c⟩
  | set S n=>obtain ⟨ob,es,ep,t,e,c⟩:=x;exact ⟨ob,es,ep,t,k _ _ (.inl rfl) e,c⟩
  | ins C dx fs=>
    obtain ⟨d,z,ne,e,mA,⟨od,es,ep,e2,c⟩,r⟩:=x
    exact ⟨ho _ d,z,ne,k _ _ (.inl rfl) e,mA,⟨od,es,ep,k _ _ (.inr d) e2,c⟩,r⟩
  | own y=>obtain ⟨ob,e⟩:=x;exact ⟨ob,k _ _ (.inl rfl) e⟩
  | xd fs=>obtain ⟨mA,⟨od,es,ep,e,c⟩,r⟩:=x;exact ⟨mA,⟨od,es,ep,k _ _ (.inl rfl) e,c⟩,r⟩
  | rng lo hi=>obtain ⟨t,u,v,e⟩:=x;exact ⟨t,u,v,k _ _ (.inl rfl) e⟩
  | frz ob u ih=>obtain ⟨e,q⟩:=x;exact ⟨k _ _ (.inl rfl) e,ih q⟩
  | tbl ps=>
    have e:h.get? a=some { cls:=.none,data:=.fields ps }:=x
    show h'.get? a=some { cls:=.none,data:=.fields ps }
    exact k a _ (.inl rfl) e
  | met f y=>
    have e:h.get? a=some (PySem.W.methodObj (.ref f) (.ref y)):=x
    show h'.get? a=some (PySem.W.methodObj (.ref f) (.ref y))
    exact k a _ (.inl rfl) e
  | ext φ=>obtain ⟨p,⟨o,e⟩,st⟩:=x;exact ⟨st _ _ p fun o q=>k _ _ (.inl rfl) q,⟨o,k _ _ (.inl rfl) e⟩,st⟩
theorem HOk.lt (x:HOk P w H h) (e:H a=some o):a < h.objs.size:=(x a o e).lt
theorem HOk.fresh (x:HOk P w H h) (e:h.objs.size≤a):H a=none:=by
  cases q:H a with
  | none=>rfl
  | some u=>exact absurd (Nat.lt_of_lt_of_le (x.lt q) e) (Nat.lt_irrefl _)
theorem HOk.kept (x:HOk P w H h) (k:∀ b u,h.get? b=some u→h'.get? b=some u):HOk P w H h':=fun a o e=>
  (x a o e).stay (fun b u _ q=>k b u q) (fun _ q=>q) fun _ _ q=>q
theorem HOk.laid (x:HOk P w H h) (k:∀ b u,h.get? b=some u→h'.get? b=some u) (hp:h.objs.size≤a) (new:ObjOk P w (upd H a o) h' a o):HOk P w (upd H a o) h':=fun b u e=>by
  have hn:=x.fresh hp
  by_cases hb:b=a
  · subst hb;rw [upd_same] at e;cases e;exact new
  · rw [upd_ne hb] at e
    exact (x b u e).stay (fun c v _ q=>k c v q) (fun c q=>by rw [upd_ne (ne_of_none q hn)];exact q) fun c xs q=>by rw [upd_ne (ne_of_none q hn)];exact q
end
def Rd (H:Hp) (a:Addr) (u:HO):Prop:=H a=some u∨∃ o,H a=some (.frz o u)
theorem Rd.of {H:Hp} {a:Addr} {u:HO} (h:H a=some u):Rd H a u:=.inl h
theorem Rd.ok {P:Program} {w:World} {H:Hp} {h:Heap} {a:Addr} {u:HO} (r:Rd H a u) (x:HOk P w H h):ObjOk P w H h a u:=by
  rcases r with r | ⟨o,r⟩
  · exact x a u r
  · obtain ⟨_,q⟩:=x a _ r
    exact q
def Mut:Option HO→Prop
  | some (.lst _)=>True
  | some (.dK _)=>True
  | some (.dT _)=>True
  | some (.set _ _)=>True
  | some (.ins _ _ _)=>True
  | some (.ext _)=>True
  | _=>False
section
variable {P:Program} {w:World} {H:Hp} {h h':Heap} {x e:Addr} {o':HO}
theorem HOk.write (ok:HOk P w H h) (mu:Mut (H x)) (he:e=x∨H e=some (.own x)) (k:∀ b u,b≠e→h.get? b=some u→h'.get? b=some u) (heo:∃ u,h'.get? e=some u)
    (new:ObjOk P w (upd H x o') h' x o'):HOk P w (upd H x o') h':=fun b u q=>by
  have nown:∀ c y,H c=some (.own y)→c≠x:=fun c y r z=>by subst z;rw [r] at mu;exact mu
  have ntup:∀ c xs,H c=some (.tup xs)→c≠x:=fun c xs r z=>by subst z;rw [r] at mu;exact mu
  by_cases hb:b=x
  · subst hb;rw [upd_same] at q;cases q;exact new
  · rw [upd_ne hb] at q
    by_cases hbe:b=e
    · have q':H b=some (.own x):=by
        rcases he with z | z
        · exact absurd (hbe.trans z) hb
        · rw [hbe];exact z
      rw [q] at q';cases q'
      obtain ⟨v,hv⟩:=heo
      exact ⟨v,by rw [hbe];exact hv⟩
    · refine (ok b u q).stay (fun c v hc r=>k c v ?_ r) (fun c r=>by rw [upd_ne (nown c b r)];exact r) fun c xs r=>by rw [upd_ne (ntup c xs r)];exact r
      rcases hc with rfl | hc
      · exact hbe
      · rintro rfl
        rcases he with z | z
        · exact nown c b hc z
        · rw [hc] at z;cases z;exact hb rfl
end
structure Un (fs ex:List Addr) (H H':Hp) (h h':Heap):Prop where
  keep:∀ b o,h.get? b=some o→H b=none→b ∉ fs→b ∉ ex→h'.get? b=some o
  slot:∀ b o,h.get? b=some o→H b=none→b∈fs→b ∉ ex→∃ sl,h'.get? b=some { o with slots:=sl }
  free:∀ b o,h.get? b=some o→H b=none→b ∉ ex→H' b=none
  there:∀ b o,h.get? b=some o→b ∉ ex→∃ o',h'.get? b=some o'
  tups:∀ b xs,H b=some (.tup xs)→H' b=some (.tup xs)
  frzs:∀ b o u,H b=some (.frz o u)→H' b=some (.frz o u)
  tbls:∀ b ps,H b=some (.tbl ps)→∃ more,H' b=some (.tbl (ps++more))
section
variable {fs fs' ex ex':List Addr} {H H1 H2:Hp} {h h1 h2 h':Heap} {a x e:Addr} {o:HO}
theorem Un.any (u:Un fs ex H H1 h h1) {b:Addr} {ob:Obj} (q:h.get? b=some ob) (n:H b=none) (hx:b ∉ ex):∃ sl,h1.get? b=some { ob with slots:=sl }:=by
  by_cases hb:b∈fs
  · exact u.slot b ob q n hb hx
  · exact ⟨ob.slots,u.keep b ob q n hb hx⟩
theorem Un.trans (a:Un fs ex H H1 h h1) (b:Un fs ex H1 H2 h1 h2):Un fs ex H H2 h h2 where
  keep:=fun c ob q n hc hx=>b.keep c ob (a.keep c ob q n hc hx) (a.free c ob q n hx) hc hx
  slot:=fun c ob q n hc hx=>by
    obtain ⟨sl,e1⟩:=a.slot c ob q n hc hx
    obtain ⟨sl',e2⟩:=b.slot c _ e1 (a.free c ob q n hx) hc hx
    exact ⟨sl',e2⟩
  free:=fun c ob q n hx=>by
    obtain ⟨o',e1⟩:=a.there c ob q hx
    exact b.free c o' e1 (a.free c ob q n hx) hx
  there:=fun c ob q hx=>by
    obtain ⟨o',e1⟩:=a.there c ob q hx
    exact b.there c o' e1 hx
  tups:=fun c xs q=>b.tups c xs (a.tups c xs q)
  frzs:=fun c ob xs q=>b.frzs c ob xs (a.frzs c ob xs q)
  tbls:=fun c ps q=>by
    obtain ⟨m1,e1⟩:=a.tbls c ps q
    obtain ⟨m2,e2⟩:=b.tbls c _ e1
    exact ⟨m1++m2,by rw [e2,Array.append_assoc]⟩
theorem Un.kept (k:∀ b u,h.get? b=some u→h'.get? b=some u):Un fs ex H H h h':=
  ⟨fun b ob q _ _ _=>k b ob q,fun b ob q _ _ _=>⟨ob.slots,k b ob q⟩,fun _ _ _ n _=>n,fun b ob q _=>⟨ob,k b ob q⟩,fun _ _ q=>q,fun _ _ _ q=>q,fun _ ps q=>⟨#[],by rw [q];simp⟩⟩
theorem Un.refl:Un fs ex H H h h:=Un.kept fun _ _ q=>q
theorem Un.laid (k:∀ b u,h.get? b=some u→h'.get? b=some u) (hp:h.objs.size≤a) (hn:H a=none):Un fs ex H (upd H a o) h h' where
  keep:=fun b u q _ _ _=>k b u q
  slot:=fun b u q _ _ _=>⟨u.slots,k b u q⟩
  free:=fun b u q n _=>by rw [upd_ne (Nat.ne_of_lt (Nat.lt_of_lt_of_le (Heap.lt_size q) hp))];exact n
  there:=fun b u q _=>⟨u,k b u q⟩
  tups:=fun b xs q=>by rw [upd_ne (ne_of_none q hn)];exact q
  frzs:=fun b u xs q=>by rw [upd_ne (ne_of_none q hn)];exact q
  tbls:=fun b ps q=>⟨#[],by rw [upd_ne (ne_of_none q hn),q];simp⟩
theorem Un.write (mu:Mut (H x)) (he:e=x∨H e=some (.own x)) (k:∀ b u,b≠e→h.get? b=some u→h'.get? b=some u) (heo:∃ u,h'.get? e=some u):Un fs ex H (upd H x o) h h':=by
  have hx:∀ b,H b=none→b≠x:=fun b n z=>by subst z;rw [n] at mu;exact mu
  have hb:∀ b,H b=none→b≠e:=fun b n z=>by
    subst z
    rcases he with r | r
    · exact hx b n r
    · rw [n] at r;cases r
  have hm:∀ b u,H b=some u→¬ Mut (some u)→b≠x:=fun b u q nm z=>by subst z;rw [q] at mu;exact nm mu
  refine ⟨fun b u q n _ _=>k b u (hb b n) q,fun b u q n _ _=>⟨u.slots,k b u (hb b n) q⟩,fun b u q n _=>by rw [upd_ne (hx b n)];exact n,fun b u q _=>?_,
    fun b xs q=>by rw [upd_ne (hm b _ q fun z=>z)];exact q,fun b u xs q=>by rw [upd_ne (hm b _ q fun z=>z)];exact q,fun b ps q=>⟨#[],by rw [upd_ne (hm b _ q fun z=>z),q];simp⟩⟩
  by_cases hbe:b=e
  · subst hbe;exact heo
  · exact ⟨u,k b u hbe q⟩
theorem Un.mono (u:Un fs ex H H1 h h1) (hs:∀ b∈fs,b∈fs') (hx:∀ b∈ex,b∈ex'):Un fs' ex' H H1 h h1:=
  ⟨fun b ob q n hb he=>u.keep b ob q n (fun z=>hb (hs b z)) fun z=>he (hx b z),fun _ _ q n _ he=>u.any q n fun z=>he (hx _ z),fun b ob q n he=>u.free b ob q n fun z=>he (hx b z),fun b ob q he=>u.there b ob q fun z=>he (hx b z),u.tups,u.frzs,u.tbls⟩
end
def trk (h:Heap) (H:Hp):List Addr:=(List.range h.objs.size).filter fun a=>(H a).isSome
def hidT (h:Heap) (H:Hp):Heap:=PySem.W.hideAll h (trk h H)
theorem hidT_size (h:Heap) (H:Hp):(hidT h H).objs.size=h.objs.size:=PySem.W.hideAll_size _ _
theorem hidT_get {h:Heap} {H:Hp} {b:Addr} {o:Obj} (e:h.get? b=some o) (n:H b=none):(hidT h H).get? b=some o:=
  PySem.W.hideAll_get _ e fun hm=>by
    have q:(H b).isSome=true:=(List.mem_filter.mp hm).2
    rw [n] at q;simp at q
theorem of_hidT {h:Heap} {H:Hp} {b:Addr} {o:Obj} (e:(hidT h H).get? b=some o):h.get? b=some o∧H b=none:=by
  have e':h.get? b=some o:=PySem.W.of_hideAll (trk h H) e
  refine ⟨e',?_⟩
  cases q:H b with
  | none=>rfl
  | some x=>
    have hm:b∈trk h H:=List.mem_filter.mpr ⟨List.mem_range.mpr (Heap.lt_size e'),by simp [q]⟩
    have z:(hidT h H).get? b=none:=PySem.W.hideAll_none (trk h H) hm
    rw [z] at e;cases e
def allNews (g h:Heap) (L:Addr):List (Addr × Obj):=(List.range h.objs.size).filterMap fun a=>if a=L∨(g.get? a).isSome=true then none else (h.get? a).map fun o=>(a,o)
def rest (g h:Heap) (L d:Addr):List (Addr × Obj):=(allNews g h L).filter fun p=>decide (p.1≠d)
end L2
namespace L2
open PySem PySem.Spec PyProof.Rows
structure Mod (K:PySem.W.Frag) (mg:Str→Option Value) (base:Heap):Prop where
  kin:K.In base
  glob:base.Ns mainGlobals mg
  blt:∃ mb,base.Ns builtinsNs mb∧∀ x:Str,x ≠ "__name__" → mb x=bootBuiltins x
  nolimit:base.NoLimit
structure Cx where
  prog:Program
  w:World
  K:PySem.W.Frag
  mg:Str→Option Value
  base:Heap
  A:Around
  N:List Str
  s₀:Shared
  H₀:Hp
  env:Env
  outer:List Env
  stack:List Env
  ex:List Addr
  fn:Str→Bool
  calm:Bool
  pn:List (Addr × Obj)
  xe:Value→Shared→Prop
def frs (l:List Env):List Addr:=l.filterMap (·.frame)
abbrev Cx.fs (X:Cx):List Addr:=frs X.outer
def Vis (sc:Scope) (x:Str):Prop:=sc.names.lookup x=some .local∨sc.names.lookup x=some .cell∨sc.names.lookup x=some .free
def Loc (sc:Scope) (x:Str):Prop:=sc.names.lookup x=some .local∨sc.names.lookup x=some .cell
def Look (env:Env) (h:Heap) (m:Str→Option Value) (x:Str) (u:Value):Prop:=
  (env.kindOf x=some .local∧m x=some u)∨((env.kindOf x=some .cell∨env.kindOf x=some .free)∧∃ c,env.cells.lookup x=some c∧h.IsCell c (some u))
structure Cx.Ok (X:Cx):Prop where
  mod:Mod X.K X.mg X.base
  kind:X.env.scope.kind=.function
  glob:X.env.globals=mainGlobals
  blt:X.env.builtins=builtinsNs
  above:X.s₀.heap.objs.size≤X.env.locals
  inj:∀ x y c,X.env.cells.lookup x=some c→X.env.cells.lookup y=some c→x=y
  has:∀ x,(X.env.kindOf x=some .cell∨X.env.kindOf x=some .free)→∃ c,X.env.cells.lookup x=some c
  cab:∀ x c,X.fn x=true→X.env.cells.lookup x=some c→X.s₀.heap.objs.size≤c
  hd:X.calm=true→X.A.handled=none
  frames:X.A.frames=some X.stack
  stk:X.stack=X.outer∨(X.stack=X.env :: X.outer∧X.env.frame=some X.env.locals)
  exf:∀ b∈X.ex,b≠X.env.locals∧∀ x c,X.env.cells.lookup x=some c→c≠b
  bs:∀ b o,X.base.get? b=some o→X.s₀.heap.get? b=some o∧X.H₀ b=none
  bsz:X.base.objs.size≤X.s₀.heap.objs.size
  noex:∀ b o,X.base.get? b=some o→b ∉ X.ex
  exfs:∀ b∈X.ex,b ∉ X.fs
  funs:X.s₀.heap.FunFrames X.base X.outer
  frf:∀ b∈X.fs,X.H₀ b=none
structure Inv (X:Cx) (pins:List (Addr × Obj)) (σ:List (Option V)) (H:Hp) (s:Shared):Prop where
  ok:X.Ok
  os:s.os=X.s₀.os
  bare:AllBare s.gens
  base:Un X.fs X.ex X.H₀ H X.s₀.heap s.heap
  loc:∃ m,s.heap.Ns X.env.locals m∧∀ (i:Nat) (x:Str) (v:V),X.N[i]?=some x→σ[i]?=some (some v)→Vis X.env.scope x→∃ u,RelV v u∧Look X.env s.heap m x u
  cell:∀ x c,X.env.cells.lookup x=some c→∃ v,s.heap.IsCell c v
  free:H X.env.locals=none
  freeC:∀ x c,X.env.cells.lookup x=some c→H c=none
  pin:∀ p∈X.pn++pins,s.heap.get? p.1=some p.2∧H p.1=none∧p.1≠X.env.locals∧p.1 ∉ X.fs∧∀ v,p.2.data≠.cell v
  hok:HOk X.prog X.w H s.heap
  len:σ.length=X.N.length
section
variable {X:Cx} {pins:List (Addr × Obj)} {σ:List (Option V)} {H H':Hp} {s:Shared} {h':Heap}
theorem Cx.Ok.nofr (ok:X.Ok) {b:Addr} {o:Obj} (e:X.base.get? b=some o):b ∉ X.fs:=fun hb=>by
  have:=(ok.funs.mem hb).1
  rw [e] at this;cases this
theorem Inv.bs (I:Inv X pins σ H s):∀ b o,X.base.get? b=some o→s.heap.get? b=some o∧H b=none:=fun b o e=>
  ⟨I.base.keep b o (I.ok.bs b o e).1 (I.ok.bs b o e).2 (I.ok.nofr e) (I.ok.noex b o e),I.base.free b o (I.ok.bs b o e).1 (I.ok.bs b o e).2 (I.ok.noex b o e)⟩
theorem Inv.bk (I:Inv X pins σ H s):∀ b o,X.base.get? b=some o→s.heap.get? b=some o:=fun b o e=>(I.bs b o e).1
theorem Inv.mod (I:Inv X pins σ H s):Mod X.K X.mg X.base:=I.ok.mod
theorem Inv.kIn (I:Inv X pins σ H s):X.K.In s.heap:=I.ok.mod.kin.keeps I.bk
theorem Inv.nolimit (I:Inv X pins σ H s):s.heap.NoLimit:=I.ok.mod.nolimit.keeps I.bk
theorem Inv.fr (I:Inv X pins σ H s):∃ m,Fr X.base X.env.locals s.heap m:=
  let ⟨m,hn,_⟩:=I.loc
  ⟨m,hn,I.bk,Nat.le_trans I.ok.bsz I.ok.above⟩
theorem Inv.lt (I:Inv X pins σ H s):X.env.locals < s.heap.objs.size:=let ⟨_,hn,_⟩:=I.loc;hn.lt
theorem Inv.sz (I:Inv X pins σ H s):X.s₀.heap.objs.size≤s.heap.objs.size:=Nat.le_trans I.ok.above (Nat.le_of_lt I.lt)
theorem Inv.nofs (I:Inv X pins σ H s) {a:Addr} (h:s.heap.objs.size≤a):a ∉ X.fs:=fun hb=>by
  obtain ⟨_,o,ho,_⟩:=I.ok.funs.mem hb
  exact absurd (Nat.lt_of_lt_of_le (Heap.lt_size ho) (Nat.le_trans I.sz h)) (Nat.lt_irrefl _)
theorem Inv.cne (I:Inv X pins σ H s):∀ x c,X.env.cells.lookup x=some c→c≠X.env.locals:=fun x c e z=>by
  obtain ⟨v,o,ho,hd⟩:=I.cell x c e
  obtain ⟨m,⟨o',es,ep,ho',hd',_⟩,_⟩:=I.loc
  rw [z,ho'] at ho;cases ho;rw [hd'] at hd;cases hd
theorem Inv.funs (I:Inv X pins σ H s):s.heap.FunFrames X.base X.outer:=by
  have all:∀ (l:List Env),(∀ b∈frs l,b∈X.fs)→X.s₀.heap.FunFrames X.base l→s.heap.FunFrames X.base l:=by
    intro l
    induction l with
    | nil=>intro _ _;trivial
    | cons env r ih=>
      intro hs hl
      obtain ⟨hk,⟨L,o,hf,hn,ho,hd⟩,hr⟩:=hl
      have hL:L∈X.fs:=hs L (by unfold frs;rw [List.filterMap_cons,hf];exact List.mem_cons_self)
      obtain ⟨sl,e⟩:=I.base.slot L o ho (I.ok.frf L hL) hL fun z=>I.ok.exfs L z hL
      exact ⟨hk,⟨L,_,hf,hn,e,hd⟩,ih (fun b hb=>hs b (by unfold frs;rw [List.filterMap_cons,hf];exact List.mem_cons_of_mem _ hb)) hr⟩
  exact all X.outer (fun _ hb=>hb) I.ok.funs
theorem Inv.stack (I:Inv X pins σ H s):s.heap.FunFrames X.base X.stack:=by
  rcases I.ok.stk with e | ⟨e,hf⟩
  · rw [e];exact I.funs
  · rw [e]
    obtain ⟨m,hn,_⟩:=I.loc
    refine .cons (by rw [I.ok.kind];decide) hf hn ?_ I.funs
    exact Heap.get?_none_of_le (Nat.le_trans I.ok.bsz I.ok.above)
theorem Inv.stkSub (I:Inv X pins σ H s):∀ b∈frs X.stack,b∈X.env.locals :: X.fs:=fun b hb=>by
  rcases I.ok.stk with e | ⟨e,hf⟩
  · rw [e] at hb;exact List.mem_cons_of_mem _ hb
  · rw [e] at hb
    unfold frs at hb
    rw [List.filterMap_cons,hf] at hb
    exact hb
theorem Inv.stkFree (I:Inv X pins σ H s):∀ b∈frs X.stack,H b=none:=fun b hb=>by
  rcases List.mem_cons.mp (I.stkSub b hb) with e | hb
  · rw [e];exact I.free
  · obtain ⟨_,o,ho,_⟩:=I.ok.funs.mem hb
    exact I.base.free b o ho (I.ok.frf b hb) fun z=>I.ok.exfs b z hb
theorem Inv.step {g':Array GenState} {t':Nat} {d':Drawn} {ch:List Addr} (I:Inv X pins σ H s)
    (hch:∀ b∈ch,(b∈X.ex∨X.s₀.heap.objs.size≤b)∧b≠X.env.locals∧(∀ x c,X.env.cells.lookup x=some c→c≠b)∧∀ p∈X.pn++pins,p.1≠b)
    (keep:∀ b o,b≠X.env.locals→b ∉ X.fs→b ∉ ch→s.heap.get? b=some o→H b=none→h'.get? b=some o)
    (slot:∀ b o,b≠X.env.locals→b∈X.fs→b ∉ ch→s.heap.get? b=some o→H b=none→∃ sl,h'.get? b=some { o with slots:=sl }) (free:∀ b o,b ∉ ch→s.heap.get? b=some o→H b=none→H' b=none)
    (there:∀ b o,b ∉ ch→s.heap.get? b=some o→∃ o',h'.get? b=some o')
    (tups:∀ b xs,H b=some (.tup xs)→H' b=some (.tup xs)) (frzs:∀ b o u,H b=some (.frz o u)→H' b=some (.frz o u)) (tbls:∀ b ps,H b=some (.tbl ps)→∃ more,H' b=some (.tbl (ps++more)))
    (ns:∀ m,s.heap.Ns X.env.locals m→h'.Ns X.env.locals m) (hok:HOk X.prog X.w H' h') (hg:AllBare g') :
    Inv X pins σ H' { s with heap:=h',gens:=g',drawn:=d',toks:=t' }:=by
  have neL:∀ b o,X.s₀.heap.get? b=some o→b≠X.env.locals:=fun b o e=>Nat.ne_of_lt (Nat.lt_of_lt_of_le (Heap.lt_size e) I.ok.above)
  have neC:∀ b o,X.s₀.heap.get? b=some o→b ∉ X.ex→b ∉ ch:=fun b o e hx hb=>by
    rcases (hch b hb).1 with z | z
    · exact hx z
    · exact absurd (Nat.lt_of_lt_of_le (Heap.lt_size e) z) (Nat.lt_irrefl _)
  have cellK:∀ x c,X.env.cells.lookup x=some c→∀ v,s.heap.IsCell c v→h'.IsCell c v:=fun x c e v ⟨o,ho,hd⟩=>by
    have nch:c ∉ ch:=fun z=>(hch c z).2.2.1 x c e rfl
    by_cases hc:c∈X.fs
    · obtain ⟨sl,q⟩:=slot c o (I.cne x c e) hc nch ho (I.freeC x c e)
      exact ⟨_,q,hd⟩
    · exact ⟨o,keep c o (I.cne x c e) hc nch ho (I.freeC x c e),hd⟩
  refine ⟨I.ok,I.os,hg,⟨fun b o e n hb hx=>?_,fun b o e n hb hx=>?_,fun b o e n hx=>?_,fun b o e hx=>?_,fun b xs e=>tups b xs (I.base.tups b xs e),fun b o xs e=>frzs b o xs (I.base.frzs b o xs e),fun b ps e=>?_⟩,?_,fun x c e=>?_,?_,fun x c e=>?_,fun p hp=>?_,hok,I.len⟩
  · exact keep b o (neL b o e) hb (neC b o e hx) (I.base.keep b o e n hb hx) (I.base.free b o e n hx)
  · obtain ⟨sl,e1⟩:=I.base.slot b o e n hb hx
    obtain ⟨sl',e2⟩:=slot b _ (neL b o e) hb (neC b o e hx) e1 (I.base.free b o e n hx)
    exact ⟨sl',e2⟩
  · obtain ⟨o',e1⟩:=I.base.there b o e hx
    exact free b o' (neC b o e hx) e1 (I.base.free b o e n hx)
  · obtain ⟨o',e1⟩:=I.base.there b o e hx
    exact there b o' (neC b o e hx) e1
  · obtain ⟨m1,e1⟩:=I.base.tbls b ps e
    obtain ⟨m2,e2⟩:=tbls b _ e1
    exact ⟨m1++m2,by rw [e2,Array.append_assoc]⟩
  · obtain ⟨m,hn,hl⟩:=I.loc
    refine ⟨m,ns m hn,fun i x v e1 e2 e3=>?_⟩
    obtain ⟨u,r,l⟩:=hl i x v e1 e2 e3
    refine ⟨u,r,?_⟩
    rcases l with l | ⟨k,c,e,z⟩
    · exact .inl l
    · exact .inr ⟨k,c,e,cellK x c e _ z⟩
  · obtain ⟨v,z⟩:=I.cell x c e
    exact ⟨v,cellK x c e v z⟩
  · obtain ⟨m,⟨o,_,_,ho,_⟩,_⟩:=I.loc
    exact free _ o (fun z=>(hch _ z).2.1 rfl) ho I.free
  · obtain ⟨v,o,ho,hd⟩:=I.cell x c e
    exact free c o (fun z=>(hch c z).2.2.1 x c e rfl) ho (I.freeC x c e)
  · obtain ⟨e,n,ne,nf,d⟩:=I.pin p hp
    have nch:p.1 ∉ ch:=fun z=>(hch p.1 z).2.2.2 p hp rfl
    exact ⟨keep p.1 p.2 ne nf nch e n,free p.1 p.2 nch e n,ne,nf,d⟩
theorem Inv.un {t':Nat} (I:Inv X pins σ H s) (u:Un X.fs [] H H' s.heap h') (hok:HOk X.prog X.w H' h'):Inv X pins σ H' { s with heap:=h',toks:=t' }:=by
  obtain ⟨m,⟨o,es,ep,ho,r⟩,_⟩:=id I.loc
  obtain ⟨sl,hL⟩:=u.any ho I.free (by simp)
  exact I.step (g':=s.gens) (d':=s.drawn) (ch:=[]) (fun _ z=>nomatch z) (fun b o _ hb _ e n=>u.keep b o e n hb (by simp)) (fun b o _ hb _ e n=>u.slot b o e n hb (by simp)) (fun b o _ e n=>u.free b o e n (by simp)) (fun b o _ e=>u.there b o e (by simp)) u.tups u.frzs u.tbls (fun m' hm=>by
    obtain ⟨o',es',ep',ho',r'⟩:=hm
    rw [ho] at ho';cases ho'
    exact ⟨_,es',ep',hL,r'⟩) hok I.bare
theorem Inv.call {g':Array GenState} {t':Nat} {d':Drawn} {ch:List Addr} (I:Inv X pins σ H s) (u:Un (frs X.stack) ch H H' s.heap h') (hok:HOk X.prog X.w H' h') (hg:AllBare g')
    (hch:∀ b∈ch,(b∈X.ex∨X.s₀.heap.objs.size≤b)∧b≠X.env.locals∧(∀ x c,X.env.cells.lookup x=some c→c≠b)∧∀ p∈X.pn++pins,p.1≠b) :
    Inv X pins σ H' { s with heap:=h',gens:=g',drawn:=d',toks:=t' }:=by
  obtain ⟨m,⟨o,es,ep,ho,r⟩,_⟩:=id I.loc
  obtain ⟨sl,hL⟩:=u.any ho I.free fun z=>(hch _ z).2.1 rfl
  exact I.step (ch:=ch) hch (fun b o hL hb hc e n=>u.keep b o e n (fun z=>(List.mem_cons.mp (I.stkSub b z)).elim hL hb) hc) (fun b o _ _ hc e n=>u.any e n hc) (fun b o hc e n=>u.free b o e n hc) (fun b o hc e=>u.there b o e hc) u.tups u.frzs u.tbls (fun m' hm=>by
    obtain ⟨o',es',ep',ho',r'⟩:=hm
    rw [ho] at ho';cases ho'
    exact ⟨_,es',ep',hL,r'⟩) hok hg
theorem Inv.turned {t':Nat} {it:Addr} (I:Inv X pins σ H s) (k:∀ b o,b≠it→s.heap.get? b=some o→h'.get? b=some o) (hn:H it=none) (hL:it≠X.env.locals)
    (h1:it∈X.ex∨X.s₀.heap.objs.size≤it) (h2:∀ x c,X.env.cells.lookup x=some c→c≠it) (h3:∀ p∈X.pn++pins,p.1≠it):Inv X pins σ H { s with heap:=h',toks:=t' }:=by
  have nit:∀ b u,H b=some u→b≠it:=fun b u e z=>by rw [z,hn] at e;cases e
  refine I.step (g':=s.gens) (d':=s.drawn) (ch:=[it]) (fun b hb=>?_) (fun b o _ _ hc e _=>k b o (fun z=>hc (by simp [z])) e) (fun b o _ _ hc e _=>⟨o.slots,k b o (fun z=>hc (by simp [z])) e⟩) (fun _ _ _ _ n=>n)
    (fun b o hc e=>⟨o,k b o (fun z=>hc (by simp [z])) e⟩) (fun _ _ e=>e) (fun _ _ _ e=>e) (fun b ps e=>⟨#[],by rw [e];simp⟩) (fun m hm=>?_) (fun b u e=>?_) I.bare
  · have e:b=it:=by simpa using hb
    subst e
    exact ⟨h1,hL,h2,h3⟩
  · obtain ⟨o,es,ep,ho,r⟩:=hm
    exact ⟨o,es,ep,k _ o (Ne.symm hL) ho,r⟩
  · refine (I.hok b u e).stay (fun c v hc q=>k c v ?_ q) (fun _ q=>q) fun _ _ q=>q
    rcases hc with z | z
    · rw [z];exact nit b u e
    · exact nit c _ z
theorem Inv.tok (I:Inv X pins σ H s) (t:Nat):Inv X pins σ H { s with toks:=t }:=I.un (h':=s.heap) (t':=t) Un.refl I.hok
theorem Inv.kept {t':Nat} (I:Inv X pins σ H s) (k:∀ b u,s.heap.get? b=some u→h'.get? b=some u):Inv X pins σ H { s with heap:=h',toks:=t' }:=I.un (Un.kept k) (I.hok.kept k)
theorem Inv.laid {a:Addr} {o:HO} {t':Nat} (I:Inv X pins σ H s) (k:∀ b u,s.heap.get? b=some u→h'.get? b=some u) (hp:s.heap.objs.size≤a) (new:ObjOk X.prog X.w (upd H a o) h' a o) :
    Inv X pins σ (upd H a o) { s with heap:=h',toks:=t' }:=I.un (Un.laid k hp (I.hok.fresh hp)) (I.hok.laid k hp new)
theorem Inv.write {x e:Addr} {o:HO} {t':Nat} (I:Inv X pins σ H s) (mu:Mut (H x)) (he:e=x∨H e=some (.own x)) (k:∀ b u,b≠e→s.heap.get? b=some u→h'.get? b=some u) (heo:∃ u,h'.get? e=some u)
    (new:ObjOk X.prog X.w (upd H x o) h' x o):Inv X pins σ (upd H x o) { s with heap:=h',toks:=t' }:=I.un (Un.write mu he k heo) (I.hok.write mu he k heo new)
theorem Inv.weak {σ':List (Option V)} (I:Inv X pins σ H s) (hl:σ'.length=σ.length) (w:∀ (i:Nat) v,σ'[i]?=some (some v)→σ[i]?=some (some v)):Inv X pins σ' H s:=
  ⟨I.ok,I.os,I.bare,I.base,let ⟨m,hn,hl'⟩:=I.loc;⟨m,hn,fun i x v e1 e2 e3=>hl' i x v e1 (w i v e2) e3⟩,I.cell,I.free,I.freeC,I.pin,I.hok,hl.trans I.len⟩
theorem Inv.pins_of {pins':List (Addr × Obj)} (I:Inv X pins σ H s) (h:∀ p∈pins',s.heap.get? p.1=some p.2∧H p.1=none∧p.1≠X.env.locals∧p.1 ∉ X.fs∧∀ v,p.2.data≠.cell v):Inv X pins' σ H s:=
  ⟨I.ok,I.os,I.bare,I.base,I.loc,I.cell,I.free,I.freeC,fun p hp=>(List.mem_append.mp hp).elim (fun z=>I.pin p (List.mem_append_left _ z)) (h p),I.hok,I.len⟩
theorem nodup_ix {N:List Str} (hN:N.Nodup) {i j:Nat} {x:Str} (a:N[i]?=some x) (b:N[j]?=some x):i=j:=by
  obtain ⟨h1,e1⟩:=List.getElem?_eq_some_iff.mp a
  obtain ⟨h2,e2⟩:=List.getElem?_eq_some_iff.mp b
  exact (List.getElem_inj hN).mp (e1.trans e2.symm)
theorem store_ok2 {M:Model} {A:Around} {E:Value→Shared→Prop} {i:Nat} {x:Str} {v:V} {u:Value} {Q:Unit→Shared→Prop} (I:Inv X pins σ H s) (hN:X.N.Nodup) (hi:X.N[i]?=some x) (hx:Loc X.env.scope x) (r:RelV v u)
    (h:∀ s',Inv X pins (σ.set i (some v)) H s'→(∃ a,Heap.SameBut a s.heap s'.heap∧(a=X.env.locals∨X.env.cells.lookup x=some a))→Q () s') (hf:X.fn x=true∨X.env.scope.names.lookup x=some .local:=by first | exact .inl rfl | exact .inr rfl | assumption):wpAny M A (storeName X.env x u) Q E s:=by
  obtain ⟨m,hn,hl⟩:=id I.loc
  have hcls:(X.env.scope.kind == .class || (X.env.scope.kind == .module && X.env.locals != X.env.globals))=false:=by rw [I.ok.kind];rfl
  have hiσ:i < σ.length:=by rw [I.len];exact (List.getElem?_eq_some_iff.mp hi).1
  have cne:=I.cne
  have tracked:∀ {a:Addr} {h':Heap},(∃ o,s.heap.get? a=some o∧H a=none)→Heap.SameBut a s.heap h'→HOk X.prog X.w H h':=fun {a h'} ha hs b ob e=>by
    obtain ⟨_,_,hfree⟩:=ha
    refine (I.hok b ob e).stay (fun c w' hc q=>(hs.2 c ?_).trans q) (fun _ q=>q) fun _ _ q=>q
    rintro rfl
    rcases hc with rfl | hc
    · rw [hfree] at e;cases e
    · rw [hfree] at hc;cases hc
  rcases hx with hk | hk
  · refine wpAny_storeName_local hk hn (fun h' hn' hs=>?_) hcls
    obtain ⟨oL,_,_,hoL,_⟩:=id hn
    refine h _ ⟨I.ok,I.os,I.bare,⟨fun b o e n hb hx=>?_,fun b o e n hb hx=>?_,I.base.free,fun b o e hx=>?_,I.base.tups,I.base.frzs,I.base.tbls⟩,⟨_,hn',fun j y v' e1 e2 e3=>?_⟩,fun y c e=>?_,I.free,I.freeC,fun p hp=>?_,tracked ⟨oL,hoL,I.free⟩ hs,by simpa using I.len⟩ ⟨_,hs,.inl rfl⟩
    · exact (hs.2 b (Nat.ne_of_lt (Nat.lt_of_lt_of_le (Heap.lt_size e) I.ok.above))).trans (I.base.keep b o e n hb hx)
    · obtain ⟨sl,e1⟩:=I.base.slot b o e n hb hx
      exact ⟨sl,(hs.2 b (Nat.ne_of_lt (Nat.lt_of_lt_of_le (Heap.lt_size e) I.ok.above))).trans e1⟩
    · obtain ⟨o',e1⟩:=I.base.there b o e hx
      exact ⟨o',(hs.2 b (Nat.ne_of_lt (Nat.lt_of_lt_of_le (Heap.lt_size e) I.ok.above))).trans e1⟩
    · by_cases hj:j=i
      · subst hj
        rw [hi] at e1;cases e1
        rw [List.getElem?_set_self hiσ] at e2
        cases e2
        exact ⟨u,r,.inl ⟨hk,by simp⟩⟩
      · rw [List.getElem?_set_ne (Ne.symm hj)] at e2
        obtain ⟨u',r',q⟩:=hl j y v' e1 e2 e3
        refine ⟨u',r',?_⟩
        rcases q with ⟨k,e⟩ | ⟨k,c,e,z⟩
        · refine .inl ⟨k,?_⟩
          have:y≠x:=fun e=>hj (nodup_ix hN e1 (e ▸ hi))
          simp [this,e]
        · exact .inr ⟨k,c,e,z.sameBut hs (cne y c e)⟩
    · obtain ⟨w',z⟩:=I.cell y c e
      exact ⟨w',z.sameBut hs (cne y c e)⟩
    · obtain ⟨e,n,ne,nf,d⟩:=I.pin p hp
      exact ⟨(hs.2 p.1 ne).trans e,n,ne,nf,d⟩
  · have hfn:X.fn x=true:=by
      rcases hf with z | z
      · exact z
      · rw [z] at hk;cases hk
    obtain ⟨c,hc⟩:=I.ok.has x (.inl hk)
    obtain ⟨w',z⟩:=I.cell x c hc
    refine wpAny_storeName_cell I.ok.kind hk hc z (fun h' hc' hs=>?_)
    obtain ⟨oc,hoc,hocd⟩:=id z
    refine h { s with heap:=h' } ⟨I.ok,I.os,I.bare,⟨fun b o e n hb hx=>?_,fun b o e n hb hx=>?_,I.base.free,fun b o e hx=>?_,I.base.tups,I.base.frzs,I.base.tbls⟩,⟨m,hn.sameBut hs (Ne.symm (cne x c hc)),fun j y v' e1 e2 e3=>?_⟩,fun y c' e=>?_,I.free,I.freeC,fun p hp=>?_,tracked ⟨oc,hoc,I.freeC x c hc⟩ hs,by simpa using I.len⟩ ⟨c,hs,.inr hc⟩
    · exact (hs.2 b (Nat.ne_of_lt (Nat.lt_of_lt_of_le (Heap.lt_size e) (I.ok.cab x c hfn hc)))).trans (I.base.keep b o e n hb hx)
    · obtain ⟨sl,e1⟩:=I.base.slot b o e n hb hx
      exact ⟨sl,(hs.2 b (Nat.ne_of_lt (Nat.lt_of_lt_of_le (Heap.lt_size e) (I.ok.cab x c hfn hc)))).trans e1⟩
    · obtain ⟨o',e1⟩:=I.base.there b o e hx
      exact ⟨o',(hs.2 b (Nat.ne_of_lt (Nat.lt_of_lt_of_le (Heap.lt_size e) (I.ok.cab x c hfn hc)))).trans e1⟩
    · by_cases hj:j=i
      · subst hj
        rw [hi] at e1;cases e1
        rw [List.getElem?_set_self hiσ] at e2
        cases e2
        exact ⟨u,r,.inr ⟨.inl hk,c,hc,hc'⟩⟩
      · rw [List.getElem?_set_ne (Ne.symm hj)] at e2
        obtain ⟨u',r',q⟩:=hl j y v' e1 e2 e3
        refine ⟨u',r',?_⟩
        rcases q with q | ⟨k,c',e,z'⟩
        · exact .inl q
        · refine .inr ⟨k,c',e,z'.sameBut hs ?_⟩
          rintro rfl
          exact hj (nodup_ix hN e1 (I.ok.inj _ _ _ e hc ▸ hi))
    · by_cases hcc:c'=c
      · subst hcc;exact ⟨_,hc'⟩
      · obtain ⟨w2,z2⟩:=I.cell y c' e
        exact ⟨w2,z2.sameBut hs hcc⟩
    · obtain ⟨e,n,ne,nf,d⟩:=I.pin p hp
      refine ⟨(hs.2 p.1 ?_).trans e,n,ne,nf,d⟩
      intro q
      rw [q,hoc] at e
      have q':oc=p.2:=Option.some.inj e
      exact d w' (by rw [← q'];exact hocd)
theorem store_ok {M:Model} {A:Around} {E:Value→Shared→Prop} {i:Nat} {x:Str} {v:V} {u:Value} {Q:Unit→Shared→Prop} (I:Inv X pins σ H s) (hN:X.N.Nodup) (hi:X.N[i]?=some x) (hx:Loc X.env.scope x) (r:RelV v u)
    (h:∀ s',Inv X pins (σ.set i (some v)) H s'→Q () s') (hf:X.fn x=true∨X.env.scope.names.lookup x=some .local:=by first | exact .inl rfl | exact .inr rfl | assumption):wpAny M A (storeName X.env x u) Q E s:=
  store_ok2 I hN hi hx r (fun s' I' _=>h s' I') hf
theorem Inv.call' {s':Shared} {ch:List Addr} (I:Inv X pins σ H s) (ho:s'.os=s.os) (u:Un (frs X.stack) ch H H' s.heap s'.heap) (hok:HOk X.prog X.w H' s'.heap) (hg:AllBare s'.gens)
    (hch:∀ b∈ch,(b∈X.ex∨X.s₀.heap.objs.size≤b)∧b≠X.env.locals∧(∀ x c,X.env.cells.lookup x=some c→c≠b)∧∀ p∈X.pn++pins,p.1≠b):Inv X pins σ H' s':=by
  obtain ⟨h',g',d',t',o'⟩:=s'
  have e:o'=s.os:=ho
  subst e
  exact I.call (g':=g') (t':=t') (d':=d') u hok hg hch
end
abbrev XK:=Value→Option Addr→Hp→Prop
abbrev St:=List (Option V)
abbrev VK:=V→Hp→Prop
abbrev TE:=St→Hp→VK→Prop
abbrev TT:=St→Hp→(Bool→Hp→Prop)→Prop
abbrev TA:=St→Hp→(List V→Hp→Prop)→Prop
structure Ends where
  nx:St→Hp→Prop
  rt:VK
  bk:St→Hp→Prop:=fun _ _=>False
  ct:St→Hp→Prop:=fun _ _=>False
abbrev TS:=Ends→St→Hp→Prop
def EP (X:Cx) (pins:List (Addr × Obj)) (σ:St) (Q:VK) (u:Value) (s':Shared):Prop:=∃ v H',Inv X pins σ H' s'∧RelV v u∧Q v H'
def TP (X:Cx) (pins:List (Addr × Obj)) (σ:St) (Q:Bool→Hp→Prop) (b:Bool) (s':Shared):Prop:=∃ H',Inv X pins σ H' s'∧Q b H'
def AP (X:Cx) (pins:List (Addr × Obj)) (σ:St) (Q:List V→Hp→Prop) (us:List Value) (s':Shared):Prop:=∃ vs H',Inv X pins σ H' s'∧Vals vs us∧Q vs H'
def SP (X:Cx) (pins:List (Addr × Obj)) (D:Ends) (f:Flow) (s':Shared):Prop:=
  match f with
  | .next=>∃ σ' H',Inv X pins σ' H' s'∧D.nx σ' H'
  | .brk=>∃ σ' H',Inv X pins σ' H' s'∧D.bk σ' H'
  | .cont=>∃ σ' H',Inv X pins σ' H' s'∧D.ct σ' H'
  | .ret u=>∃ v σ' H',Inv X pins σ' H' s'∧RelV v u∧D.rt v H'
def PE (X:Cx) (e:Expr) (t:TE):Prop:=
  ∀ (pins:List (Addr × Obj)) (s:Shared) (σ:St) (H:Hp) (Q:VK),Inv X pins σ H s→t σ H Q→wpAny (model X.prog X.w) X.A (eval e X.env) (EP X pins σ Q) X.xe s
def PT (X:Cx) (e:Expr) (t:TT):Prop:=
  ∀ (pins:List (Addr × Obj)) (s:Shared) (σ:St) (H:Hp) (Q:Bool→Hp→Prop),Inv X pins σ H s→t σ H Q→wpAny (model X.prog X.w) X.A (isTrue e X.env (eval e X.env)) (TP X pins σ Q) X.xe s
def PW (X:Cx) (e:Expr) (t:TT):Prop:=
  ∀ (whole:Sem Value) (pins:List (Addr × Obj)) (s:Shared) (σ:St) (H:Hp) (Q:Bool→Hp→Prop),Inv X pins σ H s→t σ H Q→wpAny (model X.prog X.w) X.A (isTrue e X.env whole) (TP X pins σ Q) X.xe s
theorem PW.pt {X:Cx} {e:Expr} {t:TT} (h:PW X e t):PT X e t:=h _
def PA (X:Cx) (es:List Expr) (t:TA):Prop:=
  ∀ (pos:Pos) (pins:List (Addr × Obj)) (s:Shared) (σ:St) (H:Hp) (Q:List V→Hp→Prop),Inv X pins σ H s→t σ H Q→wpAny (model X.prog X.w) X.A (spliced (backTo pos (starEach es X.env))) (AP X pins σ Q) X.xe s
def PS (X:Cx) (st:Stmt) (t:TS):Prop:=
  ∀ (pins:List (Addr × Obj)) (s:Shared) (σ:St) (H:Hp) (D:Ends),Inv X pins σ H s→t D σ H→wpAny (model X.prog X.w) X.A (exec st X.env) (SP X pins D) X.xe s
def PSs (X:Cx) (st:List Stmt) (t:TS):Prop:=
  ∀ (pins:List (Addr × Obj)) (s:Shared) (σ:St) (H:Hp) (D:Ends),Inv X pins σ H s→t D σ H→wpAny (model X.prog X.w) X.A (execs st X.env) (SP X pins D) X.xe s
theorem thn {α:Type} {t:Sem α} {Q Q':α→Shared→Prop} {M:Model} {A:Around} {E:Value→Shared→Prop} {s:Shared} (h:wpAny M A t Q E s) (hQ:∀ a s,Q a s→Q' a s):wpAny M A t Q' E s:=wpAny_mono h hQ fun _ _ x=>x
end L2
namespace L2
open PySem PySem.Spec PyProof.Rows
section
variable {X:Cx}
def tVar (i:Nat):TE:=fun σ H Q=>∃ v,σ[i]?=some (some v)∧Q v H
def tC (v:V):TE:=fun _ H Q=>Q v H
theorem pe_var {i:Nat} {x:Str} {pos:Pos} (hN:X.N[i]?=some x) (hv:Vis X.env.scope x) (hd:(x == ("__debug__" : Str))=false:=by decide) (hcd:(x == ("__classdict__" : Str))=false:=by decide):PE X (.Name x pos) (tVar i):=by
  intro pins s σ H Q I h
  obtain ⟨v,e,h⟩:=h
  obtain ⟨m,hn,hl⟩:=I.loc
  obtain ⟨u,r,l⟩:=hl i x v hN e hv
  have fin:EP X pins σ Q u s:=⟨v,H,I,r,h⟩
  rcases l with ⟨hk,hm⟩ | ⟨hk,c,hc,hcell⟩
  · exact wpAny_Name (wpAny_loadName_local I.ok.kind hk hn hm fin) hd
  · rcases hk with hk | hk
    · exact wpAny_Name (wpAny_loadName_cell I.ok.kind hk hc hcell fin) hd
    · exact wpAny_Name (wpAny_loadName_free I.ok.kind hk hc hcell fin hcd) hd
theorem pe_int {i j pos}:PE X (.Constant (.int i) j pos) (tC (.int i)):=fun _ _ _ H _ I h=>wpAny_Constant_int ⟨.int i,H,I.tok _,⟨_,rfl⟩,h⟩
theorem pe_bl {b j pos}:PE X (.Constant (.bool b) j pos) (tC (.bl b)):=fun _ _ _ H _ I h=>Constant_bool ⟨.bl b,H,I,rfl,h⟩
theorem pe_non {j pos}:PE X (.Constant .none j pos) (tC .non):=fun _ _ _ H _ I h=>Constant_none ⟨.non,H,I,rfl,h⟩
theorem pe_str {x j pos}:PE X (.Constant (.str x) j pos) (tC (.str x)):=fun _ _ _ H _ I h=>Calls.Constant_str ⟨.str x,H,I.tok _,⟨_,rfl⟩,h⟩
def Gl (X:Cx) (x:Str):Prop:=X.env.kindOf x=some .globalImplicit
theorem ld_glob {E:Value→Shared→Prop} {pins:List (Addr × Obj)} {s:Shared} {σ:St} {H:Hp} {x:Str} {u:Value} {pos:Pos} {Q:Value→Shared→Prop} (I:Inv X pins σ H s) (hg:Gl X x) (hm:X.mg x=some u) (h:Q u s)
    (hd:(x == ("__debug__" : Str))=false:=by decide):wpAny (model X.prog X.w) X.A (eval (.Name x pos) X.env) Q E s:=
  Calls.Name_function_global I.ok.kind hg (Calls.loadGlobal_global (by rw [I.ok.glob];exact I.mod.glob.keeps I.bk) hm h) hd
theorem ld_blt {E:Value→Shared→Prop} {pins:List (Addr × Obj)} {s:Shared} {σ:St} {H:Hp} {x:Str} {u:Value} {pos:Pos} {Q:Value→Shared→Prop} (I:Inv X pins σ H s) (hg:Gl X x) (hm:X.mg x=none) (hv:bootBuiltins x=some u) (h:Q u s)
    (hn:x ≠ "__name__" := by decide) (hd:(x == ("__debug__" : Str))=false:=by decide):wpAny (model X.prog X.w) X.A (eval (.Name x pos) X.env) Q E s:=by
  obtain ⟨mb,h1,h2⟩:=I.mod.blt
  exact Calls.Name_function_global I.ok.kind hg (Calls.loadGlobal_builtin (by rw [I.ok.glob];exact I.mod.glob.keeps I.bk) hm (by rw [I.ok.blt];exact h1.keeps I.bk) ((h2 x hn).trans hv) h) hd
theorem pe_glob {x:Str} {v:V} {u:Value} {pos:Pos} (hg:Gl X x) (hm:X.mg x=some u) (r:RelV v u) (hd:(x == ("__debug__" : Str))=false:=by decide):PE X (.Name x pos) (tC v):=
  fun _ _ _ H _ I h=>ld_glob I hg hm ⟨v,H,I,r,h⟩ hd
theorem pe_bltn {x:Str} {v:V} {u:Value} {pos:Pos} (hg:Gl X x) (hm:X.mg x=none) (hv:bootBuiltins x=some u) (r:RelV v u) (hn:x ≠ "__name__" := by decide) (hd:(x == ("__debug__" : Str))=false:=by decide):PE X (.Name x pos) (tC v):=
  fun _ _ _ H _ I h=>ld_blt I hg hm hv ⟨v,H,I,r,h⟩ hn hd
variable {a b:Expr} {ta tb:TE} {pos:Pos}
def tB (t:TE):TT:=fun σ H Q=>t σ H fun x H1=>∃ c,x=.bl c∧Q c H1
theorem pt_val {e:Expr} {t:TE} (h:PE X e t) (he:∀ whole,isTrue e X.env whole=(do let v ← whole;standAt e.pos;holding [v] (truthy v)):=by intro _;rfl):PT X e (tB t):=by
  intro pins s σ H Q I hw
  refine isTrue_plain (thn (h pins s σ H _ I hw) fun v s1 ⟨x,H1,I1,r1,q1⟩=>?_) (he _)
  obtain ⟨d,rfl,q⟩:=q1
  cases r1
  exact wpAny_truthy_bool ⟨H1,I1,q⟩
variable {tA tB':TT} {rest:List Expr}
def tAnd (t u:TT):TT:=fun σ H Q=>t σ H fun c H1=>if c=true then u σ H1 Q else Q false H1
def tOr (t u:TT):TT:=fun σ H Q=>t σ H fun c H1=>if c=true then Q true H1 else u σ H1 Q
def tNot (t:TT):TT:=fun σ H Q=>t σ H fun c H1=>Q (!c) H1
theorem pw_and1 (ha:PT X a tA):PW X (.BoolOp .And [a] pos) tA:=by
  intro wh pins s σ H Q I h
  refine isTrue_and (thn (ha pins s σ H Q I h) fun c s1 e=>?_)
  cases c with
  | true=>exact isTrue_and_nil e
  | false=>exact e
theorem pw_or1 (ha:PT X a tA):PW X (.BoolOp .Or [a] pos) tA:=by
  intro wh pins s σ H Q I h
  refine isTrue_or (thn (ha pins s σ H Q I h) fun c s1 e=>?_)
  cases c with
  | false=>exact isTrue_or_nil e
  | true=>exact e
theorem pw_and (ha:PT X a tA) (hb:PW X (.BoolOp .And (b :: rest) pos) tB'):PW X (.BoolOp .And (a :: b :: rest) pos) (tAnd tA tB'):=by
  intro wh pins s σ H Q I h
  refine isTrue_and (thn (ha pins s σ H _ I h) fun c s1 ⟨H1,I1,q1⟩=>?_)
  cases c with
  | true=>exact hb wh pins s1 σ H1 Q I1 q1
  | false=>exact ⟨H1,I1,q1⟩
theorem pw_or (ha:PT X a tA) (hb:PW X (.BoolOp .Or (b :: rest) pos) tB'):PW X (.BoolOp .Or (a :: b :: rest) pos) (tOr tA tB'):=by
  intro wh pins s σ H Q I h
  refine isTrue_or (thn (ha pins s σ H _ I h) fun c s1 ⟨H1,I1,q1⟩=>?_)
  cases c with
  | true=>exact ⟨H1,I1,q1⟩
  | false=>exact hb wh pins s1 σ H1 Q I1 q1
theorem pt_not (ha:PT X a tA):PT X (.UnaryOp .Not a pos) (tNot tA):=by
  intro pins s σ H Q I h
  exact isTrue_not (ha pins s σ H (fun c H1=>Q (!c) H1) I h)
def tAndV (ta tb:TE):TE:=fun σ H Q=>ta σ H fun x H1=>∃ c,x=.bl c∧if c=true then tb σ H1 Q else Q (.bl false) H1
def tNotV (ta:TE):TE:=fun σ H Q=>ta σ H fun x H1=>∃ c,x=.bl c∧Q (.bl (!c)) H1
theorem pe_one {op} {t:TE} (h:PE X a t):PE X (.BoolOp op [a] pos) t:=fun pins s σ H Q I hw=>BoolOp_one (h pins s σ H Q I hw)
theorem pe_and (ha:PE X a ta) (hb:PE X (.BoolOp .And (b :: rest) pos) tb):PE X (.BoolOp .And (a :: b :: rest) pos) (tAndV ta tb):=by
  intro pins s σ H Q I h
  refine BoolOp_and (thn (ha pins s σ H _ I h) fun v s1 ⟨x,H1,I1,r1,q1⟩=>?_)
  obtain ⟨c,rfl,q1⟩:=q1
  cases r1
  refine wpAny_truthy_bool ?_
  cases c with
  | true=>exact hb pins s1 σ H1 Q I1 q1
  | false=>exact ⟨.bl false,H1,I1,rfl,q1⟩
theorem pe_not (ha:PE X a ta):PE X (.UnaryOp .Not a pos) (tNotV ta):=by
  intro pins s σ H Q I h
  refine UnaryOp_ (thn (ha pins s σ H _ I h) fun v s1 ⟨x,H1,I1,r1,q1⟩=>?_)
  obtain ⟨c,rfl,q1⟩:=q1
  cases r1
  exact not_of (wpAny_truthy_bool ⟨.bl (!c),H1,I1,rfl,q1⟩)
def tIf (t:TT) (ta tb:TE):TE:=fun σ H Q=>t σ H fun c H1=>if c=true then ta σ H1 Q else tb σ H1 Q
theorem pe_ifExp {c:Expr} (hc:PT X c tA) (ha:PE X a ta) (hb:PE X b tb):PE X (.IfExp c a b pos) (tIf tA ta tb):=by
  intro pins s σ H Q I h
  refine wpAny_IfExp (thn (hc pins s σ H _ I h) fun d s1 ⟨H1,I1,q1⟩=>?_)
  cases d with
  | true=>exact ha pins s1 σ H1 Q I1 q1
  | false=>exact hb pins s1 σ H1 Q I1 q1
end
end L2
namespace L2
open PySem PySem.Spec PyProof.Rows
def SqL (K:PySem.W.Frag) (H:Hp) (a:Addr) (xs:List V):Prop:=
  Rd H a (.lst xs) ∨
    ∃ (o:Obj) (its:Array Value) (n:Nat),K.lookup a=some o∧o.cls=.type "list" ∧ o.dict=none∧o.data=.seq its n∧its.size≤sizeLine∧Vals xs its.toList
def SqT (K:PySem.W.Frag) (H:Hp) (a:Addr) (xs:List V):Prop:=
  Rd H a (.tup xs) ∨
    ∃ (o:Obj) (its:Array Value) (n:Nat),K.lookup a=some o∧o.cls=.type "tuple" ∧ o.data=.seq its n∧its.size≤sizeLine∧Vals xs its.toList
def absV:Value→Option V
  | .none=>some .non
  | .bool b=>some (.bl b)
  | .int i _=>some (.int i)
  | .str x _=>some (.str x)
  | .bytes b _=>some (.byt b)
  | .float b _=>some (.flt b)
  | .ref a=>some (.ref a)
  | .type n=>some (.ty n)
  | _=>none
theorem RelV.abs {x:V} {u:Value} (r:RelV x u):absV u=some x:=by
  cases x with
  | non=>cases r;rfl
  | bl _=>cases r;rfl
  | int _=>obtain ⟨t,rfl⟩:=r;rfl
  | str _=>obtain ⟨t,rfl⟩:=r;rfl
  | byt _=>obtain ⟨t,rfl⟩:=r;rfl
  | flt _=>obtain ⟨t,rfl⟩:=r;rfl
  | ref _=>cases r;rfl
  | ty _=>cases r;rfl
theorem RelV.inj {x y:V} {u:Value} (r:RelV x u) (q:RelV y u):x=y:=Option.some.inj (r.abs.symm.trans q.abs)
theorem Vals.inj:∀ {xs ys:List V} {us:List Value},Vals xs us→Vals ys us→xs=ys
  | _,_,_,.nil,.nil=>rfl
  | _,_,_,.cons r t,.cons r' t'=>by rw [r.inj r',Vals.inj t t']
section
variable {X:Cx} {pins:List (Addr × Obj)} {σ:St} {H:Hp} {s:Shared} {a:Addr} {xs ys:List V}
theorem SqL.of {K:PySem.W.Frag} (h:H a=some (.lst xs)):SqL K H a xs:=.inl (.inl h)
theorem SqT.of {K:PySem.W.Frag} (h:H a=some (.tup xs)):SqT K H a xs:=.inl (.inl h)
theorem Inv.list (I:Inv X pins σ H s) (h:SqL X.K H a xs):∃ its:List Value,Vals xs its∧PlainL s.heap a its.toArray∧xs.length≤sizeLine:=by
  rcases h with h | ⟨o,its,n,hk,hc,hd,hs,hz,r⟩
  · obtain ⟨z,its,n,r,e⟩:=h.ok I.hok
    exact ⟨its,r,⟨_,n,e,rfl,rfl,rfl⟩,z⟩
  · refine ⟨its.toList,r,⟨o,n,I.kIn a o hk,hc,hd,by simpa using hs⟩,?_⟩
    have e:=r.length
    simp only [Array.length_toList] at e
    omega
theorem Inv.tuple (I:Inv X pins σ H s) (h:SqT X.K H a xs):∃ its:List Value,Vals xs its∧IsTup s.heap a its.toArray∧xs.length≤sizeLine:=by
  rcases h with h | ⟨o,its,n,hk,hc,hs,hz,r⟩
  · obtain ⟨z,its,r,p⟩:=h.ok I.hok
    exact ⟨its,r,p,z.1⟩
  · refine ⟨its.toList,r,⟨o,I.kIn a o hk,hc,n,by simpa using hs⟩,?_⟩
    have e:=r.length
    simp only [Array.length_toList] at e
    omega
theorem Inv.list_inj (I:Inv X pins σ H s) (h:SqL X.K H a xs) (h':SqL X.K H a ys):xs=ys:=by
  obtain ⟨its,r,⟨o,n,e,_,_,d⟩,_⟩:=I.list h
  obtain ⟨its',r',⟨o',n',e',_,_,d'⟩,_⟩:=I.list h'
  rw [e] at e';cases e'
  rw [d] at d'
  injection d' with d1 _
  have:its=its':=by simpa using congrArg Array.toList d1
  subst this
  exact r.inj r'
end
abbrev Cx.wish (X:Cx) (E:Value→Shared→Prop):Cx:={ X with xe:=E }
abbrev Cx.nox (X:Cx):Cx:=X.wish fun _ _=>False
theorem Cx.Ok.wish {X:Cx} (ok:X.Ok) (E:Value→Shared→Prop):(X.wish E).Ok:=
  ⟨ok.mod,ok.kind,ok.glob,ok.blt,ok.above,ok.inj,ok.has,ok.cab,ok.hd,ok.frames,ok.stk,ok.exf,ok.bs,ok.bsz,ok.noex,ok.exfs,ok.funs,ok.frf⟩
theorem Cx.Ok.unwish {X:Cx} {E:Value→Shared→Prop} (ok:(X.wish E).Ok):X.Ok:=
  ⟨ok.mod,ok.kind,ok.glob,ok.blt,ok.above,ok.inj,ok.has,ok.cab,ok.hd,ok.frames,ok.stk,ok.exf,ok.bs,ok.bsz,ok.noex,ok.exfs,ok.funs,ok.frf⟩
section
variable {X:Cx} {pins:List (Addr × Obj)} {σ:St} {H:Hp} {s:Shared} {E:Value→Shared→Prop}
theorem Inv.wish (I:Inv X pins σ H s) (E:Value→Shared→Prop):Inv (X.wish E) pins σ H s:=⟨I.ok.wish E,I.os,I.bare,I.base,I.loc,I.cell,I.free,I.freeC,I.pin,I.hok,I.len⟩
theorem Inv.unwish (I:Inv (X.wish E) pins σ H s):Inv X pins σ H s:=⟨I.ok.unwish,I.os,I.bare,I.base,I.loc,I.cell,I.free,I.freeC,I.pin,I.hok,I.len⟩
theorem SP.unwish {D:Ends} {f:Flow} {s':Shared} (h:SP (X.wish E) pins D f s'):SP X pins D f s':=by
  cases f with
  | next=>obtain ⟨σ',H',I,q⟩:=h;exact ⟨σ',H',I.unwish,q⟩
  | brk=>obtain ⟨σ',H',I,q⟩:=h;exact ⟨σ',H',I.unwish,q⟩
  | cont=>obtain ⟨σ',H',I,q⟩:=h;exact ⟨σ',H',I.unwish,q⟩
  | ret u=>obtain ⟨v,σ',H',I,r,q⟩:=h;exact ⟨v,σ',H',I.unwish,r,q⟩
theorem PE.nox {e:Expr} {t:TE} (h:PE X.nox e t):PE X e t:=fun pins s σ H Q I hw=>
  wpAny_mono (h pins s σ H Q (I.wish _) hw) (fun _ _ ⟨v,H',I',r,q⟩=>⟨v,H',I'.unwish,r,q⟩) fun _ _ z=>False.elim z
theorem PT.nox {e:Expr} {t:TT} (h:PT X.nox e t):PT X e t:=fun pins s σ H Q I hw=>
  wpAny_mono (h pins s σ H Q (I.wish _) hw) (fun _ _ ⟨H',I',q⟩=>⟨H',I'.unwish,q⟩) fun _ _ z=>False.elim z
theorem PSs.nox {st:List Stmt} {t:TS} (h:PSs X.nox st t):PSs X st t:=fun pins s σ H D I hw=>
  wpAny_mono (h pins s σ H D (I.wish _) hw) (fun _ _ q=>q.unwish) fun _ _ z=>False.elim z
end
section
variable {X:Cx} {st:Stmt} {rest:List Stmt} {t u:TS} {e:Expr} {te:TE} {pos:Pos}
def tNext:TS:=fun D σ H=>D.nx σ H
def tSeq (t u:TS):TS:=fun D σ H=>t { D with nx:=u D } σ H
theorem pss_nil:PSs X [] tNext:=fun _ _ σ H _ I h=>wpAny_execs_nil ⟨σ,H,I,h⟩
theorem pss_cons (h1:PS X st t) (h2:PSs X rest u):PSs X (st :: rest) (tSeq t u):=by
  intro pins s σ H D I h
  refine wpAny_execs_cons (thn (h1 pins s σ H { D with nx:=u D } I h) fun f s1 q=>?_)
  cases f with
  | next=>
    obtain ⟨σ',H',I',q⟩:=q
    exact h2 pins s1 σ' H' D I' q
  | ret v=>exact q
  | brk=>exact q
  | cont=>exact q
theorem pss_one (h1:PS X st t):PSs X [st] t:=by
  intro pins s σ H D I h
  refine wpAny_execs_cons (thn (h1 pins s σ H D I h) fun f s1 q=>?_)
  cases f with
  | next=>exact wpAny_execs_nil q
  | ret v=>exact q
  | brk=>exact q
  | cont=>exact q
theorem Inv.quiet {pins:List (Addr × Obj)} {σ:St} {H:Hp} {s:Shared} (I:Inv X pins σ H s):interactive X.env=false:=by simp [interactive,I.ok.kind]
def tDrop (te:TE):TS:=fun D σ H=>te σ H fun _ H1=>D.nx σ H1
theorem ps_expr (he:PE X e te) (hs:swapsWith e none pos.line X.env=pure false:=by rfl):PS X (.Expr e pos) (tDrop te):=by
  intro pins s σ H D I h
  exact wpAny_Expr_any (thn (he pins s σ H _ I h) fun v s1 ⟨x,H1,I1,r1,q1⟩=>⟨σ,H1,I1,q1⟩) I.quiet hs
def tRet (te:TE):TS:=fun D σ H=>te σ H D.rt
theorem ps_ret (he:PE X e te):PS X (.Return (some e) pos) (tRet te):=by
  intro pins s σ H D I h
  exact wpAny_Return_some (thn (he pins s σ H _ I h) fun v s1 ⟨x,H1,I1,r1,q1⟩=>⟨x,σ,H1,I1,r1,q1⟩)
def tIfS (c:TT) (t u:TS):TS:=fun D σ H=>c σ H fun b H1=>if b=true then t D σ H1 else u D σ H1
theorem ps_if {c:Expr} {a b:List Stmt} {tc:TT} (hc:PT X c tc) (ha:PSs X a t) (hb:PSs X b u):PS X (.If c a b pos) (tIfS tc t u):=by
  intro pins s σ H D I h
  refine wpAny_If (thn (hc pins s σ H _ I h) fun d s1 ⟨H1,I1,q1⟩=>?_)
  cases d with
  | true=>exact ha pins s1 σ H1 D I1 q1
  | false=>exact hb pins s1 σ H1 D I1 q1
end
abbrev TG:=V→St→Hp→(St→Hp→Prop)→Prop
abbrev TGs:=List V→St→Hp→(St→Hp→Prop)→Prop
def PG (X:Cx) (target:Expr) (t:TG):Prop:=
  ∀ (pins:List (Addr × Obj)) (s:Shared) (σ:St) (H:Hp) (v:V) (u:Value) (Q:St→Hp→Prop),Inv X pins σ H s→RelV v u→t v σ H Q →
    wpAny (model X.prog X.w) X.A (assign target X.env u) (fun _ s'=>∃ σ' H',Inv X pins σ' H' s'∧Q σ' H') X.xe s
def PGs (X:Cx) (ts:List Expr) (t:TGs):Prop:=
  ∀ (pins:List (Addr × Obj)) (s:Shared) (σ:St) (H:Hp) (vs:List V) (us:List Value) (Q:St→Hp→Prop),Inv X pins σ H s→Vals vs us→t vs σ H Q →
    wpAny (model X.prog X.w) X.A (assignInOrder ((assignEach ts X.env).map (·.2)) us) (fun _ s'=>∃ σ' H',Inv X pins σ' H' s'∧Q σ' H') X.xe s
abbrev TSet:=V→V→V→Hp→(Hp→Prop)→Prop
def PSet (X:Cx) (t:TSet):Prop:=
  ∀ (pins:List (Addr × Obj)) (s:Shared) (σ:St) (H:Hp) (o i v:V) (ov iv u:Value) (Q:Hp→Prop),Inv X pins σ H s→RelV o ov→RelV i iv→RelV v u→t o i v H Q →
    wpAny (model X.prog X.w) X.A (setItem ov iv u) (fun _ s'=>∃ H',Inv X pins σ H' s'∧Q H') X.xe s
section
variable {X:Cx} {pos:Pos}
def gName (i:Nat):TG:=fun v σ H Q=>Q (σ.set i (some v)) H
theorem pg_name {i:Nat} {x:Str} (hN:X.N.Nodup) (hi:X.N[i]?=some x) (hx:Loc X.env.scope x) (hf:X.fn x=true∨X.env.scope.names.lookup x=some .local:=by first | exact .inl rfl | exact .inr rfl | assumption):PG X (.Name x pos) (gName i):=by
  intro pins s σ H v u Q I r h
  exact wpAny_assign_Name (store_ok I hN hi hx r (fun s' I'=>⟨_,H,I',h⟩) hf)
def gNil:TGs:=fun vs σ H Q=>vs=[]∧Q σ H
def gCons (t:TG) (u:TGs):TGs:=fun vs σ H Q=>∃ v r,vs=v :: r∧t v σ H fun σ' H'=>u r σ' H' Q
theorem pgs_nil:PGs X [] gNil:=by
  intro pins s σ H vs us Q I r h
  obtain ⟨e,h⟩:=h
  subst e
  cases r
  exact assignInOrder_nil ⟨σ,H,I,h⟩
theorem pgs_cons {e:Expr} {es:List Expr} {t:TG} {u:TGs} (h1:PG X e t) (h2:PGs X es u)
    (hs:(assignEach (e :: es) X.env).map (·.2)=assign e X.env :: (assignEach es X.env).map (·.2):=by rfl):PGs X (e :: es) (gCons t u):=by
  intro pins s σ H vs us Q I r h
  obtain ⟨v,vr,e1,h⟩:=h
  subst e1
  cases r with
  | cons r rr=>
    rw [hs]
    refine assignInOrder_cons (thn (h1 pins s σ H _ _ _ I r h) fun _ s1 ⟨σ1,H1,I1,q1⟩=>?_)
    exact h2 pins s1 σ1 H1 _ _ Q I1 rr q1
def gTup (K:PySem.W.Frag) (n:Nat) (t:TGs):TG:=fun v σ H Q=>∃ a xs,v=.ref a∧SqT K H a xs∧xs.length=n∧t xs σ H Q
theorem pg_tup {es:List Expr} {k:Nat} {t:TGs} {n:Nat} (hc:X.calm=true) (h:PGs X es t)
    (hn:(assignEach es X.env).length=n:=by rfl) (hst:(assignEach es X.env).findIdx? (·.1)=none:=by rfl):PG X (.Tuple es k pos) (gTup X.K n t):=by
  intro pins s σ H v u Q I r hw
  obtain ⟨a,xs,e1,hq,hl,hw⟩:=hw
  subst e1
  cases r
  obtain ⟨its,rv,ht,hz⟩:=I.tuple hq
  refine assign_Tuple_tuple (I.ok.hd hc) ht (by simp [hn,← hl,rv.length]) hst fun h' hx=>?_
  have I1:Inv X pins σ H { s with heap:=h' }:=I.kept (t':=s.toks) fun b o e=>hx b o (Nat.ne_of_lt (Heap.lt_size e)) e
  exact h pins _ σ H xs _ Q I1 (by simpa using rv) hw
def gSub (to ti:TE) (t:TSet):TG:=fun v σ H Q=>to σ H fun o H1=>ti σ H1 fun i H2=>t o i v H2 fun H3=>Q σ H3
theorem pg_sub {o i:Expr} {to ti:TE} {t:TSet} (ho:PE X o to) (hi:PE X i ti) (hs:PSet X t)
    (ha:∀ v,assign (.Subscript o i pos) X.env v=(do
      let ov ← holding [v] (eval o X.env)
      let iv ← holding [v,ov] (eval i X.env)
      standAt pos
      holding [v,ov,iv] (setItem ov iv v)
      release [v,ov,iv] []):=by intro _;rfl):PG X (.Subscript o i pos) (gSub to ti t):=by
  intro pins s σ H v u Q I r h
  rw [ha]
  refine wpAny_bind (wpAny_holding (thn (ho pins s σ H _ I h) fun ov s1 ⟨x,H1,I1,r1,q1⟩=>?_))
  refine wpAny_bind (wpAny_holding (thn (hi pins s1 σ H1 _ I1 q1) fun iv s2 ⟨y,H2,I2,r2,q2⟩=>?_))
  refine wpAny_bind (wpAny_standAt (wpAny_bind (wpAny_holding (thn (hs pins s2 σ H2 x y v ov iv u _ I2 r1 r2 r q2) fun _ s3 ⟨H3,I3,q3⟩=>?_))))
  exact wpAny_release ⟨σ,H3,I3,q3⟩
def tAsg (te:TE) (g:TG):TS:=fun D σ H=>te σ H fun x H1=>g x σ H1 D.nx
theorem ps_asg {tg e:Expr} {te:TE} {g:TG} (he:PE X e te) (hg:PG X tg g) (hs:swapsWithSole [tg] e pos.line X.env=pure false:=by rfl) (hw:swappedStores [tg] e X.env=pure none:=by rfl)
    (h1:(assignEach [tg] X.env).map (·.2)=[assign tg X.env]:=by rfl):PS X (.Assign [tg] e pos) (tAsg te g):=by
  intro pins s σ H D I h
  refine wpAny_Assign_stores (thn (he pins s σ H _ I h) fun v s1 ⟨x,H1,I1,r1,q1⟩=>?_) hs hw
  rw [h1]
  exact thn (hg pins s1 σ H1 x v _ I1 r1 q1) fun _ s2 q=>q
theorem ps_set {i:Nat} {x:Str} {e:Expr} {te:TE} {pos':Pos} (hN:X.N.Nodup) (hi:X.N[i]?=some x) (hx:Loc X.env.scope x) (he:PE X e te) (hs:swapsWith e (some (.Name x pos')) pos.line X.env=pure false:=by rfl) (hf:X.fn x=true∨X.env.scope.names.lookup x=some .local:=by first | exact .inl rfl | exact .inr rfl | assumption) :
    PS X (.Assign [.Name x pos'] e pos) (tAsg te (gName i)):=by
  intro pins s σ H D I h
  refine wpAny_Assign_Name (thn (he pins s σ H _ I h) fun v s1 ⟨y,H1,I1,r1,q1⟩=>?_) hs
  exact store_ok I1 hN hi hx r1 (fun s2 I2=>⟨_,H1,I2,q1⟩) hf
end
section
variable {X:Cx} {pos:Pos}
def tWhile (c:TT) (tb:TS):TS:=fun D σ H=>∃ W:Nat→St→Hp→Prop,(∃ m,W m σ H)∧∀ m σ H,W m σ H →
  c σ H fun b H1=>if b=true then ∃ N:St→Hp→Prop,(∀ σ' H',N σ' H'→∃ m',m' < m∧W m' σ' H')∧tb { D with nx:=N,ct:=N,bk:=D.nx } σ H1 else D.nx σ H1
theorem ps_while {c:Expr} {body:List Stmt} {tc:TT} {tb:TS} (hp:PassesOwn (model X.prog X.w) X.A X.env X.xe) (hc:PT X c tc) (hb:PSs X body tb):PS X (.While c body [] pos) (tWhile tc tb):=by
  intro pins s σ H D I h
  obtain ⟨W,⟨m0,w0⟩,turn⟩:=h
  refine wpAny_While (codeAny_whileLoop (fun n s'=>∃ σ' H',Inv X pins σ' H' s'∧W n σ' H') ?_ m0 ⟨σ,H,I,w0⟩)
  rintro n s1 ⟨σ1,H1,I1,w1⟩
  refine wpAny_passesOwn hp (thn (hc pins s1 σ1 H1 _ I1 (turn n σ1 H1 w1)) fun b s2 ⟨H2,I2,q2⟩=>?_)
  cases b with
  | true=>
    obtain ⟨N,hN,q2⟩:=q2
    rw [if_pos rfl]
    refine wpAny_passesOwn hp (thn (hb pins s2 σ1 H2 _ I2 q2) fun f s3 q3=>?_)
    cases f with
    | next=>
      obtain ⟨σ3,H3,I3,n3⟩:=q3
      obtain ⟨m',hm,w3⟩:=hN σ3 H3 n3
      exact ⟨m',hm,σ3,H3,I3,w3⟩
    | cont=>
      obtain ⟨σ3,H3,I3,n3⟩:=q3
      obtain ⟨m',hm,w3⟩:=hN σ3 H3 n3
      exact ⟨m',hm,σ3,H3,I3,w3⟩
    | brk=>exact q3
    | ret v=>exact q3
  | false=>
    rw [if_neg Bool.false_ne_true]
    exact wpAny_execs_nil ⟨σ1,H2,I2,q2⟩
end
structure It where
  go:Nat→Hp→Prop
  yld:Nat→Hp→V→Hp→Prop
  stop:Nat→Hp→Prop
def FpOk (X:Cx) (pins:List (Addr × Obj)) (H:Hp) (b:Addr):Prop:=
  H b=none∧b≠X.env.locals∧b ∉ X.fs∧(b∈X.ex∨X.s₀.heap.objs.size≤b)∧(∀ x c,X.env.cells.lookup x=some c→c≠b)∧∀ p∈X.pn++pins,p.1≠b
theorem Inv.fpOk {X:Cx} {pins:List (Addr × Obj)} {σ:St} {H H':Hp} {s:Shared} {b:Addr} (I:Inv X pins σ H s) (hb:s.heap.objs.size≤b) (hn:H' b=none):FpOk X pins H' b:=by
  refine ⟨hn,Nat.ne_of_gt (Nat.lt_of_lt_of_le I.lt hb),I.nofs hb,.inr (Nat.le_trans I.sz hb),fun x c e z=>?_,fun p hp z=>?_⟩
  · obtain ⟨v,q⟩:=I.cell x c e
    exact absurd (Nat.lt_of_lt_of_le q.lt (by rw [z];exact hb)) (Nat.lt_irrefl _)
  · exact absurd (Nat.lt_of_lt_of_le (Heap.lt_size (I.pin p hp).1) (by rw [z];exact hb)) (Nat.lt_irrefl _)
structure Turn (P:Program) (w:World) (K:PySem.W.Frag) (tg:Expr) (J:It) (fp:List Addr) (it:Addr) (tn:Nat→Heap→Prop):Prop where
  mem:it∈fp
  obj:∀ i h,tn i h→∀ b∈fp,∃ o,h.get? b=some o∧∀ v,o.data≠.cell v
  keep:∀ i h h',tn i h→(∀ b∈fp,∀ o,h.get? b=some o→h'.get? b=some o)→tn i h'
  item:∀ (X:Cx),X.prog=P→X.w=w→X.K=K→X.calm=true→∀ (i:Nat) (pins:List (Addr × Obj)) (s:Shared) (σ:St) (H:Hp) (E:Value→Shared→Prop),Inv X pins σ H s→(∀ b∈fp,FpOk X pins H b)→tn i s.heap→J.go i H →
    wpAny (model P w) X.A (pyNext (.ref it)) (fun r s1=>∃ u,r=some u ∧
      wpAny (model P w) X.A (letOwnedTupleGo tg (.ref it) u) (fun _ s2=>∃ x H',Inv X pins σ H' s2∧RelV x u∧J.yld i H x H'∧tn (i+1) s2.heap∧∀ b∈fp,H' b=none) E s1) E s
  done:∀ (X:Cx),X.prog=P→X.w=w→X.K=K→X.calm=true→∀ (i:Nat) (pins:List (Addr × Obj)) (s:Shared) (σ:St) (H:Hp) (E:Value→Shared→Prop),Inv X pins σ H s→(∀ b∈fp,FpOk X pins H b)→tn i s.heap→J.stop i H →
    wpAny (model P w) X.A (pyNext (.ref it)) (fun r s1=>r=none∧Inv X pins σ H s1) E s
  self:∀ (A:Around) (i:Nat) (s:Shared) (Q:Value→Shared→Prop) (E:Value→Shared→Prop),tn i s.heap→Q (.ref it) s→wpAny (model P w) A (pyIter (.ref it)) Q E s
abbrev TI:=St→Hp→(It→Hp→Prop)→Prop
def PIE (X:Cx) (pins:List (Addr × Obj)) (σ:St) (tg:Expr) (R:It→Hp→Prop) (itv:Value) (s2:Shared):Prop:=
  ∃ (it:Addr) (fp:List Addr) (tn:Nat→Heap→Prop) (J:It) (H':Hp),itv=.ref it∧Inv X pins σ H' s2∧Turn X.prog X.w X.K tg J fp it tn∧tn 0 s2.heap∧(∀ b∈fp,FpOk X pins H' b)∧R J H'
def PI (X:Cx) (tg iter:Expr) (wi:TI):Prop:=
  ∀ (pins:List (Addr × Obj)) (s:Shared) (σ:St) (H:Hp) (R:It→Hp→Prop),Inv X pins σ H s→wi σ H R →
    wpAny (model X.prog X.w) X.A (eval iter X.env) (fun v s1=>wpAny (model X.prog X.w) X.A (pyIter v) (PIE X pins σ tg R) X.xe s1) X.xe s
theorem go_of {M:Model} {A:Around} {E:Value→Shared→Prop} {s:Shared} {tg:Expr} {it:Addr} {u:Value} {o:Obj} {n:String} {vs:Array Value} {Q:Unit→Shared→Prop} (ho:s.heap.get? it=some o) (hc:o.cls=.type n) (hd:o.data=.fields vs)
    (hn:["enumerate", "zip", "dict_itemiterator", "dict_reverseitemiterator", "odict_iterator", "itertools.zip_longest", "itertools.pairwise"].contains n=false) (hQ:Q () s):wpAny M A (letOwnedTupleGo tg (.ref it) u) Q E s:=by
  unfold letOwnedTupleGo
  cases tg <;> first
    | exact wpAny_pure hQ
    | (cases u <;> first
        | exact wpAny_pure hQ
        | (refine wpAny_bind (wpAny_load ho ?_)
           rw [hc,hd]
           show wpAny M A (if (["enumerate", "zip", "dict_itemiterator", "dict_reverseitemiterator", "odict_iterator", "itertools.zip_longest", "itertools.pairwise"].contains n && vs[0]? == some (rawInt _))=true then _ else _) Q E s
           rw [if_neg (by intro h;rw [hn,Bool.false_and] at h;cases h)]
           exact wpAny_pure hQ))
def Itl (K:PySem.W.Frag) (a:Addr):It:=
  ⟨fun i H=>∃ xs x,SqL K H a xs∧xs[i]?=some x,fun i H x H'=>H'=H∧∀ xs,SqL K H a xs→xs[i]?=some x,fun i H=>∃ xs,SqL K H a xs∧xs.length≤i⟩
def Itr (lo:Int) (n:Nat):It:=⟨fun i _=>i < n,fun i H x H'=>H'=H∧x=.int (lo+i),fun i _=>n≤i⟩
theorem turn_list {P:Program} {w:World} {K:PySem.W.Frag} {tg:Expr} (a it:Addr):Turn P w K tg (Itl K a) [it] it (fun i h=>h.IsListIter it a i) where
  mem:=by simp
  obj:=fun i h st b hb=>by
    have e:b=it:=by simpa using hb
    subst e
    obtain ⟨o,e,c,d⟩:=st
    exact ⟨o,e,fun v z=>by rw [d] at z;cases z⟩
  keep:=fun i h h' st k=>st.at fun o e=>k it (by simp) o e
  item:=by
    intro X hP hw hK hc i pins s σ H E I hf st hg
    subst hP hw hK
    obtain ⟨xs,x,hq,hx⟩:=hg
    obtain ⟨its,rv,p,hz⟩:=I.list hq
    obtain ⟨u,hu,ru⟩:=rv.get hx
    obtain ⟨f0,f1,f2,f3,f4,f5⟩:=hf it (by simp)
    refine wpAny_pyNext_list_item st p.isList (x:=u) (by simpa using hu) fun h' st' sb=>?_
    have I1:Inv X pins σ H { s with heap:=h' }:=I.turned (t':=s.toks) (fun b o hb e=>(sb.2 b hb).trans e) f0 f1 f3 f4 f5
    obtain ⟨o,e,c,d⟩:=id st'
    exact ⟨u,rfl,go_of (s:={ s with heap:=h' }) e c d (by decide) ⟨x,H,I1,ru,⟨rfl,fun ys hy=>by rw [I.list_inj hy hq];exact hx⟩,st',fun b hb=>(hf b hb).1⟩⟩
  done:=by
    intro X hP hw hK hc i pins s σ H E I hf st hg
    subst hP hw hK
    obtain ⟨xs,hq,hx⟩:=hg
    obtain ⟨its,rv,p,hz⟩:=I.list hq
    obtain ⟨f0,f1,f2,f3,f4,f5⟩:=hf it (by simp)
    have hl:=rv.length
    exact wpAny_pyNext_list_end (I.ok.hd hc) st p.isList (by simp;omega) fun h' eb=>⟨rfl,I.turned (t':=s.toks) (fun b o hb e=>eb b o hb e) f0 f1 f3 f4 f5⟩
  self:=fun _ _ _ _ _ st h=>wpAny_pyIter_listiter st h
theorem turn_range {P:Program} {w:World} {K:PySem.W.Frag} {tg:Expr} (it:Addr) (lo:Int) (n:Nat):Turn P w K tg (Itr lo n) [it] it (fun i h=>IsRangeIter h it (lo+(i:Nat) * 1) ((n:Int) - (i:Nat)) 1) where
  mem:=by simp
  obj:=fun i h st b hb=>by
    have e:b=it:=by simpa using hb
    subst e
    exact ⟨_,st,fun v z=>by
      have z':Data.fields _=Data.cell v:=z
      cases z'⟩
  keep:=fun i h h' st k=>k it (by simp) _ st
  item:=by
    intro X hP hw hK hc i pins s σ H E I hf st hg
    subst hP hw hK
    obtain ⟨f0,f1,f2,f3,f4,f5⟩:=hf it (by simp)
    have W:=Walks.range (prog:=X.prog) (w:=X.w) (I.ok.hd hc) it lo 1 n
    refine W.item i s _ _ hg st fun v h' tk hv st' kk=>?_
    obtain ⟨t,rfl⟩:=hv
    have I1:Inv X pins σ H { s with heap:=h',toks:=tk }:=I.turned (fun b o hb e=>kk b o (by simpa using hb) e) f0 f1 f3 f4 f5
    refine ⟨_,rfl,go_of (s:={ s with heap:=h',toks:=tk }) (n := "range_iterator") st' rfl rfl (by decide) ⟨.int (lo+i),H,I1,⟨t,?_⟩,⟨rfl,rfl⟩,st',fun b hb=>(hf b hb).1⟩⟩
    rw [Int.mul_one]
  done:=by
    intro X hP hw hK hc i pins s σ H E I hf st hg
    subst hP hw hK
    obtain ⟨f0,f1,f2,f3,f4,f5⟩:=hf it (by simp)
    exact wpAny_pyNext_range_end (I.ok.hd hc) st (by have:n≤i:=hg;omega) fun h' eb=>⟨rfl,I.turned (t':=s.toks) (fun b o hb e=>eb b o hb e) f0 f1 f3 f4 f5⟩
  self:=fun _ _ _ _ _ st h=>wpAny_pyIter_rangeiter st h
end L2
namespace L2
open PySem PySem.Spec PyProof.Rows
section
variable {X:Cx} {tg:Expr}
def iList (K:PySem.W.Frag) (tl:TE):TI:=fun σ H R=>tl σ H fun x H1=>∃ a,x=.ref a∧(∃ xs,SqL K H1 a xs)∧R (Itl K a) H1
theorem pi_list {l:Expr} {tl:TE} (hl:PE X l tl):PI X tg l (iList X.K tl):=by
  intro pins s σ H R I h
  refine thn (hl pins s σ H _ I h) fun v s1 ⟨x,H1,I1,r1,q1⟩=>?_
  obtain ⟨a,e,⟨xs,hq⟩,q⟩:=q1
  subst e
  cases r1
  obtain ⟨its,rv,p,hz⟩:=I1.list hq
  refine wpAny_pyIter_list p.isList ?_
  refine ⟨s1.heap.objs.size,[s1.heap.objs.size],_,_,H1,rfl,I1.kept (t':=s1.toks) fun b o e=>Heap.get?_push_of_some _ e,turn_list a _,⟨_,Heap.get?_push_size _ rfl,rfl,rfl⟩,fun b hb=>?_,q⟩
  have e:b=s1.heap.objs.size:=by simpa using hb
  subst e
  exact I1.fpOk (Nat.le_refl _) (I1.hok.fresh (Nat.le_refl _))
theorem range_it {pins:List (Addr × Obj)} {σ:St} {H:Hp} {s:Shared} {R:It→Hp→Prop} {E:Value→Shared→Prop} {lo hi:Int} {t u v:Tok} {tk:Nat} (I:Inv X pins σ H s) (h1:-(2 ^ 62)≤lo) (h2:lo < 2 ^ 62) (h3:-(2 ^ 62)≤hi) (h4:hi < 2 ^ 62)
    (q:R (Itr lo (hi - lo).toNat) H):wpAny (model X.prog X.w) X.A (pyIter (.ref s.heap.objs.size)) (PIE X pins σ tg R) E { s with heap:=s.heap.push { cls:=.type "range", data:=.fields #[.int lo t,.int hi u,.int 1 v] },toks:=tk }:=by
  refine wpAny_pyIter_range (IsRange.new ..) (small_one h1 h2 h3 h4) ?_
  have I1:Inv X pins σ H { s with heap:=s.heap.push { cls:=.type "range", data:=.fields #[.int lo t,.int hi u,.int 1 v] },toks:=tk }:=I.kept fun b o e=>Heap.get?_push_of_some _ e
  refine ⟨(s.heap.push { cls:=.type "range", data:=.fields #[.int lo t,.int hi u,.int 1 v] }).objs.size,[(s.heap.push { cls:=.type "range", data:=.fields #[.int lo t,.int hi u,.int 1 v] }).objs.size],_,_,H,rfl,
    I1.kept (t':=tk) fun b o e=>Heap.get?_push_of_some _ e,turn_range _ lo (hi - lo).toNat,?_,fun b hb=>?_,q⟩
  · have e1:lo+((0:Nat):Int) * 1=lo:=by simp
    have e2:(((hi - lo).toNat:Nat):Int) - ((0:Nat):Int)=Builtin.Range.rangeSize lo hi 1:=by rw [rangeSize_one];split <;> omega
    show IsRangeIter _ _ (lo+((0:Nat):Int) * 1) ((((hi - lo).toNat:Nat):Int) - ((0:Nat):Int)) 1
    rw [e1,e2]
    exact Heap.get?_push_size _ rfl
  · have e:b=(s.heap.push { cls:=.type "range", data:=.fields #[.int lo t,.int hi u,.int 1 v] }).objs.size:=by simpa using hb
    subst e
    exact I1.fpOk (Nat.le_refl _) (I1.hok.fresh (Nat.le_refl _))
def iRng1 (ta:TA):TI:=fun σ H R=>ta σ H fun vs H1=>∃ j:Int,vs=[.int j]∧-(2 ^ 62)≤j∧j < 2 ^ 62∧R (Itr 0 j.toNat) H1
def iRng2 (ta:TA):TI:=fun σ H R=>ta σ H fun vs H1=>∃ i j:Int,vs=[.int i,.int j]∧(-(2 ^ 62)≤i∧i < 2 ^ 62∧-(2 ^ 62)≤j∧j < 2 ^ 62)∧R (Itr i (j - i).toNat) H1
theorem pi_range1 {a:Expr} {ta:TA} {p pos:Pos} (hg:Gl X "range") (hm:X.mg "range" = none) (ha:PA X [a] ta) (hs:starEach [a] X.env=[(false,eval a X.env)]:=by rfl):PI X tg (.Call (.Name "range" p) [a] [] pos) (iRng1 ta):=by
  intro pins s σ H R I h
  refine Call_ (ld_blt I hg hm boot_range (PyProof.Rows.callWith_type1 (thn (ha pos pins s σ H _ I h) fun us s1 ⟨vs,H1,I1,r1,q1⟩=>?_) hs rfl))
  obtain ⟨j,e,q1,q2,q⟩:=q1
  subst e
  cases r1 with
  | cons r rr=>
    cases rr
    obtain ⟨t,rfl⟩:=r
    exact call_range_1 (range_it I1 (by omega) (by omega) q1 q2 (by simpa using q))
theorem pi_range2 {a b:Expr} {ta:TA} {p pos:Pos} (hg:Gl X "range") (hm:X.mg "range" = none) (ha:PA X [a,b] ta) (hs:starEach [a,b] X.env=[(false,eval a X.env),(false,eval b X.env)]:=by rfl) (hs2:starEach [b] X.env=[(false,eval b X.env)]:=by rfl) :
    PI X tg (.Call (.Name "range" p) [a,b] [] pos) (iRng2 ta):=by
  intro pins s σ H R I h
  refine Call_ (ld_blt I hg hm boot_range (PyProof.Rows.callWith_type1 (thn (ha pos pins s σ H _ I h) fun us s1 ⟨vs,H1,I1,r1,q1⟩=>?_) (by rw [hs,hs2]) (by rw [hs2];rfl)))
  obtain ⟨i,j,e,⟨q1,q2,q3,q4⟩,q⟩:=q1
  subst e
  cases r1 with
  | cons r rr=>
    cases rr with
    | cons r' rr=>
      cases rr
      obtain ⟨t,rfl⟩:=r
      obtain ⟨t',rfl⟩:=r'
      exact call_range_2 (range_it I1 q1 q2 q3 q4 q)
def tFor (wi:TI) (g:TG) (tb:TS):TS:=fun D σ H=>wi σ H fun J H1=>∃ W:Nat→Nat→St→Hp→Prop,(∃ m,W 0 m σ H1)∧∀ i m σ H,W i m σ H →
  (J.stop i H∧D.nx σ H)∨(J.go i H∧∃ N:St→Hp→Prop,(∀ σ' H',N σ' H'→∃ m',m' < m∧W (i+1) m' σ' H')∧∀ x H',J.yld i H x H'→g x σ H' fun σ2 H2=>tb { D with nx:=N,ct:=N,bk:=D.nx } σ2 H2)
def pinsAt (fp:List Addr) (h:Heap):List (Addr × Obj):=fp.filterMap fun b=>(h.get? b).map fun o=>(b,o)
theorem mem_pinsAt {fp:List Addr} {h:Heap} {b:Addr} {o:Obj} (hb:b∈fp) (e:h.get? b=some o):(b,o)∈pinsAt fp h:=List.mem_filterMap.mpr ⟨b,hb,by rw [e];rfl⟩
theorem of_pinsAt {fp:List Addr} {h:Heap} {p:Addr × Obj} (hp:p∈pinsAt fp h):p.1∈fp∧h.get? p.1=some p.2:=by
  obtain ⟨b,hb,e⟩:=List.mem_filterMap.mp hp
  cases q:h.get? b with
  | none=>rw [q] at e;cases e
  | some o=>
    rw [q] at e
    have e':(b,o)=p:=Option.some.inj e
    subst e'
    exact ⟨hb,q⟩
theorem Inv.pinned {pins:List (Addr × Obj)} {σ:St} {H:Hp} {s:Shared} {fp:List Addr} (I:Inv X pins σ H s) (hf:∀ b∈fp,FpOk X pins H b) (ho:∀ b∈fp,∃ o,s.heap.get? b=some o∧∀ v,o.data≠.cell v):Inv X (pins++pinsAt fp s.heap) σ H s:=
  I.pins_of fun p hp=>(List.mem_append.mp hp).elim (fun z=>I.pin p (List.mem_append_right _ z)) fun z=>by
    obtain ⟨hb,e⟩:=of_pinsAt z
    obtain ⟨f0,f1,f2,_⟩:=hf p.1 hb
    obtain ⟨o,e',d⟩:=ho p.1 hb
    rw [e] at e';cases e'
    exact ⟨e,f0,f1,f2,d⟩
theorem Inv.unpinned {pins pl:List (Addr × Obj)} {σ:St} {H:Hp} {s:Shared} (I:Inv X (pins++pl) σ H s):Inv X pins σ H s:=I.pins_of fun p hp=>I.pin p (List.mem_append_right _ (List.mem_append_left _ hp))
theorem ps_for {iter:Expr} {body:List Stmt} {wi:TI} {g:TG} {tb:TS} {pos:Pos} (hp:PassesOwn (model X.prog X.w) X.A X.env X.xe) (hc:X.calm=true) (hi:PI X tg iter wi) (hg:PG X tg g) (hb:PSs X body tb)
    (hs:∀ x,foldedSetIterable iter X.env x=pure x:=by intro _;rfl):PS X (.For tg iter body [] pos) (tFor wi g tb):=by
  intro pins s σ H D I h
  refine wpAny_For (thn (hi pins s σ H _ I h) fun v s1 h1=>thn h1 fun itv s2 h2=>?_) hs
  obtain ⟨it,fp,tn,J,H2,e,I2,T,st2,f2,W,⟨m0,w0⟩,turn⟩:=h2
  subst e
  have stat:∀ {H':Hp},(∀ b∈fp,H' b=none)→∀ b∈fp,FpOk X pins H' b:=fun hn b hb=>⟨hn b hb,(f2 b hb).2⟩
  refine codeAny_forLoop_any (fun n s'=>∃ i σ' H',Inv X pins σ' H' s'∧tn i s'.heap∧(∀ b∈fp,H' b=none)∧W i n σ' H') ?_ m0 ⟨0,σ,H2,I2,st2,fun b hb=>(f2 b hb).1,w0⟩
  rintro n s3 ⟨i,σ3,H3,I3,st3,fr3,w3⟩
  rcases turn i n σ3 H3 w3 with ⟨stop,qn⟩ | ⟨go,N,hN,step⟩
  · refine wpAny_passesOwn hp (thn (T.done X rfl rfl rfl hc i pins s3 σ3 H3 X.xe I3 (stat fr3) st3 stop) fun r s4 ⟨hr,I4⟩=>?_)
    subst hr
    exact wpAny_execs_nil ⟨σ3,H3,I4,qn⟩
  · refine wpAny_passesOwn hp (thn (T.item X rfl rfl rfl hc i pins s3 σ3 H3 X.xe I3 (stat fr3) st3 go) fun r s4 ⟨u,hr,h4⟩=>?_)
    subst hr
    refine wpAny_passesOwn hp (thn h4 fun _ s5 ⟨x,H5,I5,r5,y5,st5,fr5⟩=>?_)
    have I5':=I5.pinned (stat fr5) (T.obj _ _ st5)
    refine wpAny_passesOwn hp (thn (hg _ s5 σ3 H5 x u _ I5' r5 (step x H5 y5)) fun _ s6 ⟨σ6,H6,I6,q6⟩=>?_)
    refine wpAny_passesOwn hp (thn (hb _ s6 σ6 H6 _ I6 q6) fun f s7 q7=>?_)
    have again:∀ {σ7:St} {H7:Hp},Inv X (pins++pinsAt fp s5.heap) σ7 H7 s7→N σ7 H7→∃ m,m < n∧∃ i σ' H',Inv X pins σ' H' s7∧tn i s7.heap∧(∀ b∈fp,H' b=none)∧W i m σ' H':=fun {σ7 H7} I7 n7=>by
      obtain ⟨m',hm,w7⟩:=hN σ7 H7 n7
      refine ⟨m',hm,i+1,σ7,H7,I7.unpinned,T.keep _ _ _ st5 fun b hb o e=>(I7.pin (b,o) (List.mem_append_right _ (List.mem_append_right _ (mem_pinsAt hb e)))).1,fun b hb=>?_,w7⟩
      obtain ⟨o,e,d⟩:=T.obj _ _ st5 b hb
      exact (I7.pin (b,o) (List.mem_append_right _ (List.mem_append_right _ (mem_pinsAt hb e)))).2.1
    cases f with
    | next=>obtain ⟨σ7,H7,I7,n7⟩:=q7;exact again I7 n7
    | cont=>obtain ⟨σ7,H7,I7,n7⟩:=q7;exact again I7 n7
    | brk=>obtain ⟨σ7,H7,I7,q7⟩:=q7;exact ⟨σ7,H7,I7.unpinned,q7⟩
    | ret v=>obtain ⟨x7,σ7,H7,I7,r7,q7⟩:=q7;exact ⟨x7,σ7,H7,I7.unpinned,r7,q7⟩
end
theorem for_list {K:PySem.W.Frag} {a:Addr} {xs:List V} {g:TG} {tb:TS} {D:Ends} {σ:St} {H:Hp} (Pv:Nat→St→Hp→Prop) (h0:Pv 0 σ H) (hl:∀ i σ H,i≤xs.length→Pv i σ H→SqL K H a xs)
    (hs:∀ i x σ H,xs[i]?=some x→Pv i σ H→g x σ H fun σ2 H2=>tb { D with nx:=Pv (i+1),ct:=Pv (i+1),bk:=D.nx } σ2 H2) (hd:∀ σ H,Pv xs.length σ H→D.nx σ H) :
    ∃ W:Nat→Nat→St→Hp→Prop,(∃ m,W 0 m σ H)∧∀ i m σ H,W i m σ H →
      ((Itl K a).stop i H∧D.nx σ H)∨((Itl K a).go i H∧∃ N:St→Hp→Prop,(∀ σ' H',N σ' H'→∃ m',m' < m∧W (i+1) m' σ' H')∧∀ x H',(Itl K a).yld i H x H'→g x σ H' fun σ2 H2=>tb { D with nx:=N,ct:=N,bk:=D.nx } σ2 H2):=by
  refine ⟨fun i m σ H=>m=xs.length - i∧i≤xs.length∧Pv i σ H,⟨xs.length,by simp,Nat.zero_le _,h0⟩,?_⟩
  rintro i m σ H ⟨rfl,hi,p⟩
  have q:=hl i σ H hi p
  by_cases hlt:i < xs.length
  · refine .inr ⟨⟨xs,xs[i],q,by simp [hlt]⟩,Pv (i+1),fun σ' H' p'=>⟨xs.length - (i+1),by omega,rfl,hlt,p'⟩,fun x H' y=>?_⟩
    obtain ⟨e,y⟩:=y
    subst e
    exact hs i x σ _ (y xs q) p
  · have e:i=xs.length:=by omega
    subst e
    exact .inl ⟨⟨xs,q,Nat.le_refl _⟩,hd σ H p⟩
theorem for_range {lo:Int} {n:Nat} {g:TG} {tb:TS} {D:Ends} {σ:St} {H:Hp} (Pv:Nat→St→Hp→Prop) (h0:Pv 0 σ H)
    (hs:∀ i σ H,i < n→Pv i σ H→g (.int (lo+i)) σ H fun σ2 H2=>tb { D with nx:=Pv (i+1),ct:=Pv (i+1),bk:=D.nx } σ2 H2) (hd:∀ σ H,Pv n σ H→D.nx σ H) :
    ∃ W:Nat→Nat→St→Hp→Prop,(∃ m,W 0 m σ H)∧∀ i m σ H,W i m σ H →
      ((Itr lo n).stop i H∧D.nx σ H)∨((Itr lo n).go i H∧∃ N:St→Hp→Prop,(∀ σ' H',N σ' H'→∃ m',m' < m∧W (i+1) m' σ' H')∧∀ x H',(Itr lo n).yld i H x H'→g x σ H' fun σ2 H2=>tb { D with nx:=N,ct:=N,bk:=D.nx } σ2 H2):=by
  refine ⟨fun i m σ H=>m=n - i∧i≤n∧Pv i σ H,⟨n,by simp,Nat.zero_le _,h0⟩,?_⟩
  rintro i m σ H ⟨rfl,hi,p⟩
  by_cases hlt:i < n
  · refine .inr ⟨hlt,Pv (i+1),fun σ' H' p'=>⟨n - (i+1),by omega,rfl,hlt,p'⟩,fun x H' y=>?_⟩
    obtain ⟨e,y⟩:=y
    subst e y
    exact hs i σ _ hlt p
  · have e:i=n:=by omega
    subst e
    exact .inl ⟨Nat.le_refl _,hd σ H p⟩
end L2
namespace L2
open PySem PySem.Spec PyProof.Rows
abbrev R2:=V→V→Hp→VK→Prop
def OpR (X:Cx) (f:Value→Value→Sem Value) (r:R2):Prop:=
  ∀ (pins:List (Addr × Obj)) (s:Shared) (σ:St) (H:Hp) (x y:V) (v u:Value) (Q:VK),Inv X pins σ H s→RelV x v→RelV y u→r x y H Q →
    wpAny (model X.prog X.w) X.A (f v u) (EP X pins σ Q) X.xe s
def UnR (X:Cx) (f:Value→Sem Value) (r:V→Hp→VK→Prop):Prop:=
  ∀ (pins:List (Addr × Obj)) (s:Shared) (σ:St) (H:Hp) (x:V) (v:Value) (Q:VK),Inv X pins σ H s→RelV x v→r x H Q →
    wpAny (model X.prog X.w) X.A (f v) (EP X pins σ Q) X.xe s
def CallR (X:Cx) (f:Value) (r:List V→Hp→VK→Prop):Prop:=
  ∀ (pins:List (Addr × Obj)) (s:Shared) (σ:St) (H:Hp) (xs:List V) (us:List Value) (Q:VK),Inv X pins σ H s→Vals xs us→r xs H Q →
    wpAny (model X.prog X.w) X.A (call f us) (EP X pins σ Q) X.xe s
def tOp (r:R2) (ta tb:TE):TE:=fun σ H Q=>ta σ H fun x H1=>tb σ H1 fun y H2=>r x y H2 Q
def tUn (r:V→Hp→VK→Prop) (ta:TE):TE:=fun σ H Q=>ta σ H fun x H1=>r x H1 Q
def rI (C:Int→Int→Prop) (g:Int→Int→V):R2:=fun x y H Q=>∃ i j,x=.int i∧y=.int j∧C i j∧Q (g i j) H
def rI0 (g:Int→Int→V):R2:=fun x y H Q=>∃ i j,x=.int i∧y=.int j∧Q (g i j) H
def rU (g:Int→V):V→Hp→VK→Prop:=fun x H Q=>∃ i,x=.int i∧Q (g i) H
section
variable {X:Cx} {a b c:Expr} {ta tb tc:TE} {pos:Pos}
theorem binT (ha:PE X a ta) (hb:PE X b tb) {pins:List (Addr × Obj)} {s:Shared} {σ:St} {H:Hp} {R:V→V→Hp→Prop} (I:Inv X pins σ H s)
    (h:ta σ H fun x H1=>tb σ H1 fun y H2=>R x y H2) {Q:Value→Shared→Prop} {f:Value→Value→Sem Value}
    (hf:∀ v u s2 x y H2,Inv X pins σ H2 s2→RelV x v→RelV y u→R x y H2→wpAny (model X.prog X.w) X.A (f v u) Q X.xe s2) :
    wpAny (model X.prog X.w) X.A (eval a X.env) (fun v s₁=>wpAny (model X.prog X.w) X.A (eval b X.env) (fun u s₂=>wpAny (model X.prog X.w) X.A (f v u) Q X.xe s₂) X.xe s₁) X.xe s:=by
  refine thn (ha pins s σ H _ I h) fun v s1 ⟨x,H1,I1,r1,q1⟩=>?_
  refine thn (hb pins s1 σ H1 _ I1 q1) fun u s2 ⟨y,H2,I2,r2,q2⟩=>?_
  exact hf v u s2 x y H2 I2 r1 r2 q2
theorem pe_op {op:Operator} {r:R2} (ho:OpR X (binaryOp op) r) (ha:PE X a ta) (hb:PE X b tb):PE X (.BinOp a op b pos) (tOp r ta tb):=by
  intro pins s σ H Q I h
  exact wpAny_BinOp (binT ha hb I h fun v u s2 x y H2 I2 rx ry q=>ho pins s2 σ H2 x y v u Q I2 rx ry q)
theorem pe_un {op:UnaryOp} {r:V→Hp→VK→Prop} (ho:UnR X (unaryOp op) r) (ha:PE X a ta):PE X (.UnaryOp op a pos) (tUn r ta):=by
  intro pins s σ H Q I h
  exact UnaryOp_ (thn (ha pins s σ H _ I h) fun v s1 ⟨x,H1,I1,r1,q1⟩=>ho pins s1 σ H1 x v Q I1 r1 q1)
theorem opI {f:Value→Value→Sem Value} {C:Int→Int→Prop} {g:Int→Int→Int}
    (rule:∀ (i j:Int) (t u:Tok) (s:Shared) (Q:Value→Shared→Prop) (E:Value→Shared→Prop),C i j→Q (.int (g i j) s.toks) { s with toks:=s.toks+1 }→wpAny (model X.prog X.w) X.A (f (.int i t) (.int j u)) Q E s) :
    OpR X f (rI C fun i j=>.int (g i j)):=by
  intro pins s σ H x y v u Q I rx ry h
  obtain ⟨i,j,rfl,rfl,hc,q⟩:=h
  obtain ⟨t,rfl⟩:=rx
  obtain ⟨t',rfl⟩:=ry
  exact rule i j t t' s _ _ hc ⟨.int (g i j),H,I.tok _,⟨_,rfl⟩,q⟩
theorem opI0 {f:Value→Value→Sem Value} {g:Int→Int→Int}
    (rule:∀ (i j:Int) (t u:Tok) (s:Shared) (Q:Value→Shared→Prop) (E:Value→Shared→Prop),Q (.int (g i j) s.toks) { s with toks:=s.toks+1 }→wpAny (model X.prog X.w) X.A (f (.int i t) (.int j u)) Q E s) :
    OpR X f (rI0 fun i j=>.int (g i j)):=by
  intro pins s σ H x y v u Q I rx ry h
  obtain ⟨i,j,rfl,rfl,q⟩:=h
  obtain ⟨t,rfl⟩:=rx
  obtain ⟨t',rfl⟩:=ry
  exact rule i j t t' s _ _ ⟨.int (g i j),H,I.tok _,⟨_,rfl⟩,q⟩
theorem opB0 {f:Value→Value→Sem Value} {g:Int→Int→Bool}
    (rule:∀ (i j:Int) (t u:Tok) (s:Shared) (Q:Value→Shared→Prop) (E:Value→Shared→Prop),Q (.bool (g i j)) s→wpAny (model X.prog X.w) X.A (f (.int i t) (.int j u)) Q E s) :
    OpR X f (rI0 fun i j=>.bl (g i j)):=by
  intro pins s σ H x y v u Q I rx ry h
  obtain ⟨i,j,rfl,rfl,q⟩:=h
  obtain ⟨t,rfl⟩:=rx
  obtain ⟨t',rfl⟩:=ry
  exact rule i j t t' s _ _ ⟨.bl (g i j),H,I,rfl,q⟩
def CDiv (i j:Int):Prop:=0 < j∧j < 1073741824
def CPow (i j:Int):Prop:=0≤j∧j≤1000000∧i.natAbs < 2 ^ 64
def CMul (i j:Int):Prop:=(-(2 ^ 64) < i∧i < 2 ^ 64)∨(-(2 ^ 64) < j∧j < 2 ^ 64)
theorem CMul.ok {i j:Int} (h:CMul i j):IntMulOk i j:=by
  rcases h with ⟨h1,h2⟩ | ⟨h1,h2⟩
  · exact .of_left (intBits_le_64 h1 h2)
  · exact .of_right (intBits_le_64 h1 h2)
theorem op_add:OpR X (binaryOp .Add) (rI0 fun i j=>.int (i+j)):=opI0 fun _ _ _ _ _ _ _ q=>add_int q
theorem op_sub:OpR X (binaryOp .Sub) (rI0 fun i j=>.int (i - j)):=opI0 fun _ _ _ _ _ _ _ q=>sub_int q
theorem op_mul:OpR X (binaryOp .Mult) (rI CMul fun i j=>.int (i * j)):=opI fun _ _ _ _ _ _ _ hc q=>mul_int q hc.ok
theorem op_fdiv:OpR X (binaryOp .FloorDiv) (rI CDiv fun i j=>.int (i / j)):=opI fun i j _ _ _ _ _ hc q=>by
  have h1:(0:Int) < j:=hc.1
  have h2:j < 1073741824:=hc.2
  exact floordiv_int (by omega) (by rw [Int.fdiv_eq_ediv_of_nonneg i (by omega)];exact q) (.inl (PyProof.noPylong_small (by omega)))
theorem op_mod:OpR X (binaryOp .Mod) (rI (fun _ j=>0 < j) fun i j=>.int (i % j)):=opI fun i j _ _ _ _ _ hc q=>by
  have h1:(0:Int) < j:=hc
  exact mod_int' (by omega) (by rw [Int.fmod_eq_emod_of_nonneg i (by omega)];exact q)
theorem op_pow:OpR X (binaryOp .Pow) (rI CPow fun i j=>.int (i ^ j.toNat)):=opI fun _ _ _ _ _ _ _ hc q=>pow_int_small hc.1 hc.2.1 hc.2.2 q
theorem unI {f:Value→Sem Value} {g:Int→Int}
    (rule:∀ (i:Int) (t:Tok) (s:Shared) (Q:Value→Shared→Prop) (E:Value→Shared→Prop),Q (.int (g i) s.toks) { s with toks:=s.toks+1 }→wpAny (model X.prog X.w) X.A (f (.int i t)) Q E s) :
    UnR X f (rU fun i=>.int (g i)):=by
  intro pins s σ H x v Q I rx h
  obtain ⟨i,rfl,q⟩:=h
  obtain ⟨t,rfl⟩:=rx
  exact rule i t s _ _ ⟨.int (g i),H,I.tok _,⟨_,rfl⟩,q⟩
theorem un_neg:UnR X (unaryOp .USub) (rU fun i=>.int (-i)):=unI fun _ _ _ _ _ q=>neg_int q
end
def scal:V→V→Bool
  | .non,.non=>true | .non,.int _=>true | .int _,.non=>true | .non,.bl _=>true | .bl _,.non=>true | .non,.str _=>true | .str _,.non=>true
  | .int _,.int _=>true | .bl _,.bl _=>true | .str _,.str _=>true | .byt _,.byt _=>true
  | .int _,.str _=>true | .str _,.int _=>true | .bl _,.str _=>true | .str _,.bl _=>true
  | _,_=>false
def rEq:R2:=fun x y H Q=>scal x y=true∧Q (.bl (decide (x=y))) H
def rNe:R2:=fun x y H Q=>scal x y=true∧Q (.bl (!decide (x=y))) H
theorem dec_int {i j:Int}:decide (V.int i=V.int j)=(i == j):=by
  rw [Bool.eq_iff_iff]
  simp
theorem dec_bl {i j:Bool}:decide (V.bl i=V.bl j)=(i == j):=by
  rw [Bool.eq_iff_iff]
  simp
theorem dec_str {i j:Str}:decide (V.str i=V.str j)=(i == j):=by
  rw [Bool.eq_iff_iff]
  simp
theorem dec_byt {i j:Array UInt8}:decide (V.byt i=V.byt j)=(i.toList == j.toList):=by
  rw [Bool.eq_iff_iff]
  cases i
  cases j
  simp
section
variable {X:Cx} {a b c:Expr} {ta tb tc:TE} {pos:Pos}
theorem fin_bl {pins:List (Addr × Obj)} {σ:St} {H:Hp} {s:Shared} {Q:VK} {k k':Bool} (I:Inv X pins σ H s) (q:Q (.bl k) H) (e:k=k'):EP X pins σ Q (.bool k') s:=by
  subst e
  exact ⟨.bl k,H,I,rfl,q⟩
theorem op_eq:OpR X (compareOp .Eq) rEq:=by
  intro pins s σ H x y v u Q I rx ry h
  obtain ⟨hs,q⟩:=h
  cases x with
  | non=>
    cases rx
    cases y with
    | non=>cases ry;exact PySem.EqNone.eq_none_none (fin_bl I q (by simp))
    | bl j=>cases ry;exact PySem.EqNone.eq_none_bool (fin_bl I q (by simp))
    | int j=>obtain ⟨t',rfl⟩:=ry;exact PySem.EqNone.eq_none_int (fin_bl I q (by simp))
    | str j=>obtain ⟨t',rfl⟩:=ry;exact PySem.EqNone.eq_none_str (fin_bl I q (by simp))
    | _=>exact absurd (show false=true from hs) Bool.false_ne_true
  | bl i=>
    cases rx
    cases y with
    | non=>cases ry;exact PySem.EqNone.eq_bool_none (fin_bl I q (by simp))
    | bl j=>cases ry;exact eq_bool (fin_bl I q dec_bl)
    | str j=>obtain ⟨t',rfl⟩:=ry;exact PySem.EqMixed.eq_bool_str (fin_bl I q (by simp))
    | _=>exact absurd (show false=true from hs) Bool.false_ne_true
  | int i=>
    obtain ⟨t,rfl⟩:=rx
    cases y with
    | non=>cases ry;exact PySem.EqNone.eq_int_none (fin_bl I q (by simp))
    | int j=>obtain ⟨t',rfl⟩:=ry;exact eq_int (fin_bl I q dec_int)
    | str j=>obtain ⟨t',rfl⟩:=ry;exact PySem.EqMixed.eq_int_str (fin_bl I q (by simp))
    | _=>exact absurd (show false=true from hs) Bool.false_ne_true
  | str i=>
    obtain ⟨t,rfl⟩:=rx
    cases y with
    | non=>cases ry;exact PySem.EqNone.eq_str_none (fin_bl I q (by simp))
    | bl j=>cases ry;exact PySem.EqMixed.eq_str_bool (fin_bl I q (by simp))
    | int j=>obtain ⟨t',rfl⟩:=ry;exact PySem.EqMixed.eq_str_int (fin_bl I q (by simp))
    | str j=>obtain ⟨t',rfl⟩:=ry;exact eq_str (fin_bl I q dec_str)
    | _=>exact absurd (show false=true from hs) Bool.false_ne_true
  | byt i=>
    obtain ⟨t,rfl⟩:=rx
    cases y with
    | byt j=>obtain ⟨t',rfl⟩:=ry;exact PySem.W.eq_bytes (fin_bl I q dec_byt)
    | _=>exact absurd (show false=true from hs) Bool.false_ne_true
  | _=>cases y <;> exact absurd (show false=true from hs) Bool.false_ne_true
theorem op_ne:OpR X (compareOp .NotEq) rNe:=by
  intro pins s σ H x y v u Q I rx ry h
  obtain ⟨hs,q⟩:=h
  cases x with
  | non=>
    cases rx
    cases y with
    | non=>cases ry;exact PySem.EqNone.ne_none_none (fin_bl I q (by simp))
    | bl j=>cases ry;exact PySem.EqNone.ne_none_bool (fin_bl I q (by simp))
    | int j=>obtain ⟨t',rfl⟩:=ry;exact PySem.EqNone.ne_none_int (fin_bl I q (by simp))
    | str j=>obtain ⟨t',rfl⟩:=ry;exact PySem.EqNone.ne_none_str (fin_bl I q (by simp))
    | _=>exact absurd (show false=true from hs) Bool.false_ne_true
  | bl i=>
    cases rx
    cases y with
    | non=>cases ry;exact PySem.EqNone.ne_bool_none (fin_bl I q (by simp))
    | bl j=>cases ry;exact ne_bool (fin_bl I q (congrArg not dec_bl))
    | str j=>obtain ⟨t',rfl⟩:=ry;exact PySem.EqMixed.ne_bool_str (fin_bl I q (by simp))
    | _=>exact absurd (show false=true from hs) Bool.false_ne_true
  | int i=>
    obtain ⟨t,rfl⟩:=rx
    cases y with
    | non=>cases ry;exact PySem.EqNone.ne_int_none (fin_bl I q (by simp))
    | int j=>obtain ⟨t',rfl⟩:=ry;exact ne_int (fin_bl I q (congrArg not dec_int))
    | str j=>obtain ⟨t',rfl⟩:=ry;exact PySem.EqMixed.ne_int_str (fin_bl I q (by simp))
    | _=>exact absurd (show false=true from hs) Bool.false_ne_true
  | str i=>
    obtain ⟨t,rfl⟩:=rx
    cases y with
    | non=>cases ry;exact PySem.EqNone.ne_str_none (fin_bl I q (by simp))
    | bl j=>cases ry;exact PySem.EqMixed.ne_str_bool (fin_bl I q (by simp))
    | int j=>obtain ⟨t',rfl⟩:=ry;exact PySem.EqMixed.ne_str_int (fin_bl I q (by simp))
    | str j=>obtain ⟨t',rfl⟩:=ry;exact ne_str (fin_bl I q (congrArg not dec_str))
    | _=>exact absurd (show false=true from hs) Bool.false_ne_true
  | byt i=>
    obtain ⟨t,rfl⟩:=rx
    cases y with
    | byt j=>obtain ⟨t',rfl⟩:=ry;exact PySem.W.ne_bytes (fin_bl I q (congrArg not dec_byt))
    | _=>exact absurd (show false=true from hs) Bool.false_ne_true
  | _=>cases y <;> exact absurd (show false=true from hs) Bool.false_ne_true
theorem op_lt:OpR X (compareOp .Lt) (rI0 fun i j=>.bl (decide (i < j))):=opB0 fun _ _ _ _ _ _ _ q=>lt_int q
theorem op_le:OpR X (compareOp .LtE) (rI0 fun i j=>.bl (decide (i≤j))):=opB0 fun _ _ _ _ _ _ _ q=>le_int q
theorem op_gt:OpR X (compareOp .Gt) (rI0 fun i j=>.bl (decide (j < i))):=opB0 fun _ _ _ _ _ _ _ q=>gt_int q
theorem op_ge:OpR X (compareOp .GtE) (rI0 fun i j=>.bl (decide (j≤i))):=opB0 fun _ _ _ _ _ _ _ q=>ge_int q
theorem op_lt_str:OpR X (compareOp .Lt) (fun x y H Q=>∃ i j,x=.str i∧y=.str j∧Q (.bl (decide (i.cps.toList < j.cps.toList))) H):=by
  intro pins s σ H x y v u Q I rx ry h
  obtain ⟨i,j,rfl,rfl,q⟩:=h
  obtain ⟨t,rfl⟩:=rx
  obtain ⟨t',rfl⟩:=ry
  exact lt_str (fin_bl I q rfl)
theorem OpR.or {f:Value→Value→Sem Value} {r r':R2} (h:OpR X f r) (h':OpR X f r'):OpR X f (fun x y H Q=>r x y H Q∨r' x y H Q):=by
  intro pins s σ H x y v u Q I rx ry q
  rcases q with q | q
  · exact h pins s σ H x y v u Q I rx ry q
  · exact h' pins s σ H x y v u Q I rx ry q
theorem nomark (b:Expr) {op:CmpOp} (h:op≠.In:=by decide) (h2:op≠.NotIn:=by decide):behindInMarks op b=false:=by
  have e1:(op == CmpOp.In)=false:=by cases op <;> first | rfl | exact absurd rfl h
  have e2:(op == CmpOp.NotIn)=false:=by cases op <;> first | rfl | exact absurd rfl h2
  cases b <;> simp [behindInMarks,e1,e2]
theorem pe_cmpR {op:CmpOp} {r:R2} (ho:OpR X (compareOp op) r) (ha:PE X a ta) (hb:PE X b tb) (hm:behindInMarks op b=false):PE X (.Compare a [op] [b] pos) (tOp r ta tb):=by
  intro pins s σ H Q I h
  exact wpAny_Compare1 (binT ha hb I h fun v u s2 x y H2 I2 rx ry q=>ho pins s2 σ H2 x y v u Q I2 rx ry q) hm
def tTest (t:TE):TT:=fun σ H Q=>t σ H fun x H'=>∃ k,x=.bl k∧Q k H'
theorem pt_cmpR {op:CmpOp} {r:R2} (ho:OpR X (compareOp op) r) (ha:PE X a ta) (hb:PE X b tb) (hm:behindInMarks op b=false):PT X (.Compare a [op] [b] pos) (tTest (tOp r ta tb)):=by
  intro pins s σ H Q I h
  refine wpAny_isTrue_Compare1 (thn (ha pins s σ H _ I h) fun v s1 ⟨x,H1,I1,r1,q1⟩=>thn (hb pins s1 σ H1 _ I1 q1) fun u s2 ⟨y,H2,I2,r2,q2⟩=>
    thn (ho pins s2 σ H2 x y v u _ I2 r1 r2 q2) fun c s3 ⟨z,H3,I3,r3,k,e,q3⟩=>?_) hm
  subst e
  cases r3
  exact wpAny_truthy_bool ⟨H3,I3,q3⟩
def tChain (r r':R2) (ta tb tc:TE):TE:=fun σ H Q=>ta σ H fun x H1=>tb σ H1 fun y H2=>r x y H2 fun z H3=>∃ k,z=.bl k ∧
  (if k=true then tc σ H3 fun w' H4=>r' y w' H4 Q else Q (.bl false) H3)
theorem pe_chain {op op':CmpOp} {r r':R2} (ho:OpR X (compareOp op) r) (ho':OpR X (compareOp op') r') (ha:PE X a ta) (hb:PE X b tb) (hc:PE X c tc)
    (hm:lastMarks [op,op'] [b,c]=false:=by with_unfolding_all rfl):PE X (.Compare a [op,op'] [b,c] pos) (tChain r r' ta tb tc):=by
  intro pins s σ H Q I h
  refine Compare_chain (thn (ha pins s σ H _ I h) fun v s1 ⟨x,H1,I1,r1,q1⟩=>chain_link (thn (hb pins s1 σ H1 _ I1 q1) fun u s2 ⟨y,H2,I2,r2,q2⟩=>
    thn (ho pins s2 σ H2 x y v u _ I2 r1 r2 q2) fun d s3 ⟨z,H3,I3,r3,k,e,q3⟩=>?_)) hm
  subst e
  cases r3
  refine wpAny_truthy_bool ?_
  cases k with
  | false=>exact ite_ff ⟨.bl false,H3,I3,rfl,q3⟩
  | true=>exact ite_tt (chain_last (thn (hc pins s3 σ H3 _ I3 q3) fun w' s4 ⟨z',H4,I4,r4,q4⟩=>ho' pins s4 σ H4 y z' u w' Q I4 r2 r4 q4))
theorem line63:(sizeLine:Nat) < 2 ^ 63:=by rw [sizeLine_eq];decide
theorem op_add_str:OpR X (binaryOp .Add) (fun x y H Q=>∃ i j,x=.str i∧y=.str j∧i.length+j.length≤sizeLine∧Q (.str (i++j)) H):=by
  intro pins s σ H x y v u Q I rx ry h
  obtain ⟨i,j,rfl,rfl,hz,q⟩:=h
  obtain ⟨t,rfl⟩:=rx
  obtain ⟨t',rfl⟩:=ry
  exact add_str (fun t' tk=>⟨.str (i++j),H,I.tok _,⟨_,rfl⟩,q⟩) hz
theorem vals1 {x:V} {us:List Value} (r:Vals [x] us):∃ u,us=[u]∧RelV x u:=by
  cases r with
  | cons r1 r2=>cases r2;exact ⟨_,rfl,r1⟩
theorem vals2 {x y:V} {us:List Value} (r:Vals [x,y] us):∃ u w',us=[u,w']∧RelV x u∧RelV y w':=by
  cases r with
  | cons r1 r2=>
    cases r2 with
    | cons r3 r4=>cases r4;exact ⟨_,_,rfl,r1,r3⟩
theorem call_max2 (hc:X.calm=true):CallR X (.builtin "max") (fun xs H Q=>∃ i j,xs=[.int i,.int j]∧Q (.int (if j > i then j else i)) H):=by
  intro pins s σ H xs us Q I r h
  obtain ⟨i,j,rfl,q⟩:=h
  obtain ⟨u,w',rfl,⟨t,rfl⟩,⟨t',rfl⟩⟩:=vals2 r
  refine max_two_ints (I.ok.hd hc) fun h' tk k=>⟨_,H,I.kept k,?_,q⟩
  by_cases hj:j > i
  · rw [if_pos hj,if_pos hj];exact ⟨_,rfl⟩
  · rw [if_neg hj,if_neg hj];exact ⟨_,rfl⟩
theorem call_min2 (hc:X.calm=true):CallR X (.builtin "min") (fun xs H Q=>∃ i j,xs=[.int i,.int j]∧Q (.int (if j < i then j else i)) H):=by
  intro pins s σ H xs us Q I r h
  obtain ⟨i,j,rfl,q⟩:=h
  obtain ⟨u,w',rfl,⟨t,rfl⟩,⟨t',rfl⟩⟩:=vals2 r
  refine min_two_ints (I.ok.hd hc) fun h' tk k=>⟨_,H,I.kept k,?_,q⟩
  by_cases hj:j < i
  · rw [if_pos hj,if_pos hj];exact ⟨_,rfl⟩
  · rw [if_neg hj,if_neg hj];exact ⟨_,rfl⟩
theorem call_int1:CallR X (.type "int") (fun xs H Q=>(∃ i,xs=[.int i]∧Q (.int i) H)∨∃ k,xs=[.bl k]∧Q (.int (if k then 1 else 0)) H):=by
  intro pins s σ H xs us Q I r h
  rcases h with ⟨i,rfl,q⟩ | ⟨k,rfl,q⟩
  · obtain ⟨u,rfl,t,rfl⟩:=vals1 r
    exact call_int_int ⟨.int i,H,I,⟨_,rfl⟩,q⟩
  · obtain ⟨u,rfl,r1⟩:=vals1 r
    cases r1
    exact call_int_bool ⟨.int (if k then 1 else 0),H,I.tok _,⟨_,rfl⟩,q⟩
def LenV (K:PySem.W.Frag) (x:V) (H:Hp) (n:Nat):Prop:=
  match x with
  | .str y=>y.length≤sizeLine∧n=y.length
  | .byt y=>y.size≤sizeLine∧n=y.size
  | .ref p=>(∃ xs,SqL K H p xs∧n=xs.length)∨∃ xs,SqT K H p xs∧n=xs.length
  | _=>False
theorem call_len:CallR X (.builtin "len") (fun xs H Q=>∃ x n,xs=[x]∧LenV X.K x H n∧Q (.int n) H):=by
  intro pins s σ H xs us Q I r h
  obtain ⟨x,n,rfl,e,q⟩:=h
  obtain ⟨u,rfl,rx⟩:=vals1 r
  have hl:=line63
  have hs:sizeLine=16777216:=sizeLine_eq
  cases x with
  | str y=>
    obtain ⟨t,rfl⟩:=rx
    obtain ⟨hy,e'⟩:y.length≤sizeLine∧n=y.length:=e
    subst e'
    exact len_str (by omega) ⟨.int _,H,I.tok _,⟨_,rfl⟩,q⟩
  | byt y=>
    obtain ⟨t,rfl⟩:=rx
    obtain ⟨hy,e'⟩:y.size≤sizeLine∧n=y.size:=e
    subst e'
    exact PySem.W.len_bytes (by omega) ⟨.int _,H,I.tok _,⟨_,rfl⟩,q⟩
  | ref p=>
    cases rx
    have e':(∃ xs,SqL X.K H p xs∧n=xs.length)∨∃ xs,SqT X.K H p xs∧n=xs.length:=e
    rcases e' with ⟨xs,hx,e'⟩ | ⟨xs,hx,e'⟩
    · subst e'
      obtain ⟨its,r',pl,hz⟩:=I.list hx
      have hlen:=r'.length
      exact Calls.call_len_list pl.isList (by simp only [List.size_toArray];omega) ⟨.int xs.length,H,I.tok _,⟨_,by simp only [List.size_toArray];rw [hlen]⟩,q⟩
    · subst e'
      obtain ⟨its,r',pl,hz⟩:=I.tuple hx
      have hlen:=r'.length
      exact len_tuple pl (by simp only [List.size_toArray];omega) ⟨.int xs.length,H,I.tok _,⟨_,by simp only [List.size_toArray];rw [hlen]⟩,q⟩
  | _=>exact (show False from e).elim
end
end L2
namespace L2
open PySem PySem.Spec PyProof.Rows
structure ObjM (h:Heap) (x dx C:Addr) (mA:Str→Option Value):Prop where
  obj:h.get? x=some (PySem.W.instObj C dx)
  ns:h.Ns1 dx mA
  ne:dx≠x
theorem lookIn_ns {h:Heap} {dx:Addr} {mA:Str→Option Value} (n:h.Ns1 dx mA):∃ od,h.get? dx=some od∧∀ name,PySem.W.lookIn name od=some (mA name):=by
  obtain ⟨o,es,ep,ho,hd,hk,_,hm⟩:=n
  refine ⟨o,ho,fun name=>?_⟩
  have e:=hm name
  unfold nsFind findBy at e
  rw [← Array.find?_toList] at e
  unfold PySem.W.lookIn
  rw [hd]
  dsimp only
  split
  · rename_i y q
    rw [q] at e
    exact congrArg some e
  · rename_i q
    rw [q] at e
    have a:es.toList.any (·.refKey)=false:=by
      rw [List.any_eq_false]
      intro y hy
      obtain ⟨z,t,hkey⟩:=hk y (Array.mem_toList_iff.mp hy)
      simp [DictEntry.refKey,hkey]
    have a':¬ es.toList.any (·.refKey)=true:=by rw [a];exact Bool.false_ne_true
    rw [if_neg a']
    exact congrArg some e
theorem ObjM.look {h:Heap} {x dx C:Addr} {mA:Str→Option Value} (I:ObjM h x dx C mA):∃ od,PySem.W.InstAt h x (PySem.W.instObj C dx) C (some od)∧∀ name,PySem.W.lookIn name od=some (mA name):=
  let ⟨od,ho,hl⟩:=lookIn_ns I.ns
  ⟨od,⟨I.obj,rfl,rfl,ho⟩,hl⟩
section
variable {prog:Program} {w:World} {A:Around} {E:Value→Shared→Prop} {s:Shared} {K:PySem.W.Frag} {x dx C f:Addr} {mA:Str→Option Value} {name:Str} {v:Value}
end
section
variable {P:Program} {w:World} {H H':Hp} {h h':Heap} {a C dx:Addr} {fs fs':List (Str × V)}
theorem ins_get (hok:HOk P w H h) (e:H a=some (.ins C dx fs)):∃ mA,ObjM h a dx C mA∧(∀ f,RelO (fs.lookup f) (mA f))∧PySem.Within mA (fs.map (·.1))∧fs.length≤1000∧H dx=some (.own a):=by
  obtain ⟨d,z,ne,ob,mA,n,r,q⟩:=(show ObjOk P w H h a (.ins C dx fs) from hok a _ e)
  exact ⟨mA,⟨ob,n,ne⟩,r,q,z,d⟩
end
structure Cls (K:PySem.W.Frag) (C:Addr):Prop where
  pg:PySem.W.plainGet K C Str.empty=true
  hd:PySem.W.hasDictIn K C=true
  po:PySem.W.plainOver K C=true
  sa:PySem.W.findIn K (.ref C) "__setattr__" = some (some (.builtin "object.__setattr__"))
theorem Cls.get {K:PySem.W.Frag} {C:Addr} (c:Cls K C) (f:Str):PySem.W.plainGet K C f=true:=c.pg
structure Con (K:PySem.W.Frag) (C:Addr) (f:Str) (v:V) (u:Value):Prop where
  at_:PySem.W.findIn K (.ref C) f=some (some u)
  rel:RelV v u
  get:PySem.W.specialIn K u "__get__" = some none
  cp:PySem.W.copiedNames.contains f=false
structure Meth (K:PySem.W.Frag) (C:Addr) (m:Str) (f:Addr):Prop where
  at_:PySem.W.findIn K (.ref C) m=some (some (.ref f))
  fn:PySem.W.isFn K (.ref f)=true
  kp:PySem.W.keepIn K (.ref f)=true
section
variable {X:Cx} {pins:List (Addr × Obj)} {σ:St} {H:Hp} {s:Shared} {a C dx:Addr} {fs:List (Str × V)} {f:Str} {v:V} {A:Around} {E:Value→Shared→Prop}
theorem Inv.made (I:Inv X pins σ H s):Inv X pins σ (upd (upd H s.heap.objs.size (.own (s.heap.objs.size+1))) (s.heap.objs.size+1) (.ins C s.heap.objs.size []))
    { s with heap:=(s.heap.push PySem.W.emptyDict).push (PySem.W.instObj C s.heap.objs.size) }:=by
  have e1:(s.heap.push PySem.W.emptyDict).get? s.heap.objs.size=some PySem.W.emptyDict:=Heap.get?_push_size s.heap rfl
  have e2:((s.heap.push PySem.W.emptyDict).push (PySem.W.instObj C s.heap.objs.size)).get? (s.heap.objs.size+1)=some (PySem.W.instObj C s.heap.objs.size):=by
    have:=Heap.get?_push_size (s.heap.push PySem.W.emptyDict) (o:=PySem.W.instObj C s.heap.objs.size) rfl
    rwa [Heap.size_push] at this
  have e3:(s.heap.push PySem.W.emptyDict).Ns s.heap.objs.size (fun _=>none):=⟨PySem.W.emptyDict,#[],_,e1,rfl,(fun e he=>absurd he (by simp)),fun _=>rfl⟩
  have I1:=I.laid (a:=s.heap.objs.size) (o:=.own (s.heap.objs.size+1)) (h':=s.heap.push PySem.W.emptyDict) (t':=s.toks) (fun b u q=>Heap.get?_push_of_some _ q) (Nat.le_refl _) ⟨_,e1⟩
  refine I1.laid (a:=s.heap.objs.size+1) (o:=.ins C s.heap.objs.size []) (t':=s.toks) (fun b u q=>Heap.get?_push_of_some _ q) (Nat.le_of_eq (Heap.size_push _ _)) ?_
  have ne:s.heap.objs.size≠s.heap.objs.size+1:=Nat.ne_of_lt (Nat.lt_succ_self _)
  refine ⟨by rw [upd_ne ne,upd_same],Nat.zero_le _,ne,e2,fun _=>none,(Heap.Ns1.of_empty e3).at fun o q=>Heap.get?_push_of_some _ q,fun _=>True.intro,fun y hy=>absurd rfl hy⟩
end
section
variable {X:Cx} {o e value:Expr} {f:Str} {pos pos' tpos:Pos} {ta tv:TE}
end
section
variable {X:Cx} {pins:List (Addr × Obj)} {σ:St} {H:Hp} {s:Shared} {A:Around} {E:Value→Shared→Prop} {Q:Value→Shared→Prop} {c:Value} {b:Bool}
inductive TyOf (K:PySem.W.Frag) (H:Hp):V→Value→Prop where
  | non:TyOf K H .non (.type "NoneType")
  | bl (x:Bool):TyOf K H (.bl x) (.type "bool")
  | int (i:Int):TyOf K H (.int i) (.type "int")
  | str (x:Str):TyOf K H (.str x) (.type "str")
  | flt (x:UInt64):TyOf K H (.flt x) (.type "float")
  | lst {a:Addr} {xs:List V} (e:H a=some (.lst xs)):TyOf K H (.ref a) (.type "list")
  | frz {a:Addr} {o:Obj} {xs:List V} (e:H a=some (.frz o (.lst xs))):TyOf K H (.ref a) (.type "list")
  | tup {a:Addr} {xs:List V} (e:H a=some (.tup xs)):TyOf K H (.ref a) (.type "tuple")
  | dK {a:Addr} {kvs:List (Key × V)} (e:H a=some (.dK kvs)):TyOf K H (.ref a) (.type "dict")
  | dT {a:Addr} {kvs:List (List Key × V)} (e:H a=some (.dT kvs)):TyOf K H (.ref a) (.type "dict")
  | ins {a C dx:Addr} {fs:List (Str × V)} (e:H a=some (.ins C dx fs)) (cl:Cls K C) (ha:PySem.W.findIn K (.ref C) "__class__" = some (some (.builtin "object.__class__")))
      (hn:PySem.W.specialIn K (.builtin "object.__class__") "__get__" = some (some (.builtin "getset_descriptor.__get__"))) (htk:PySem.W.takesIn K (.builtin "object.__class__")=some true)
      (hm:PySem.W.mroIn K C (.type "object")=some true):TyOf K H (.ref a) (.ref C)
theorem isinst_ok {x:V} {u t:Value} (I:Inv X pins σ H s) (rx:RelV x u) (ty:TyOf X.K H x t) (e:PySem.W.kitOne X.K t c=some b) (h:∀ tk,Q (.bool b) { s with toks:=tk }) :
    wpAny (model X.prog X.w) A (call (.builtin "isinstance") [u,c]) Q E s:=by
  cases ty with
  | non=>cases (show u=Value.none from rx);exact PySem.W.kia_one PySem.W.kitx_none I.kIn True.intro e (fun z=>nomatch z) h
  | bl y=>cases (show u=Value.bool y from rx);exact PySem.W.kia_one PySem.W.kitx_bool I.kIn True.intro e (fun z=>nomatch z) h
  | int i=>obtain ⟨t,q⟩:=(show ∃ t,u=Value.int i t from rx);cases q;exact PySem.W.kia_one PySem.W.kitx_int I.kIn True.intro e (fun z=>nomatch z) h
  | str y=>obtain ⟨t,q⟩:=(show ∃ t,u=Value.str y t from rx);cases q;exact PySem.W.kia_one PySem.W.kitx_str I.kIn True.intro e (fun z=>nomatch z) h
  | flt y=>obtain ⟨t,q⟩:=(show ∃ t,u=Value.float y t from rx);cases q;exact PySem.W.kia_one PySem.W.kitx_float I.kIn True.intro e (fun z=>nomatch z) h
  | @lst a xs ea=>
    cases (show u=Value.ref a from rx)
    obtain ⟨_,_,n,_,h1⟩:=(show ObjOk X.prog X.w H s.heap a (.lst xs) from I.hok a _ ea)
    exact PySem.W.kia_one PySem.W.kitx_list I.kIn ⟨_,h1,rfl⟩ e (fun z=>nomatch z) h
  | @frz a ob xs ea=>
    cases (show u=Value.ref a from rx)
    obtain ⟨_,_,_,n,_,h1⟩:=(show ObjOk X.prog X.w H s.heap a (.frz ob (.lst xs)) from I.hok a _ ea)
    exact PySem.W.kia_one PySem.W.kitx_list I.kIn ⟨_,h1,rfl⟩ e (fun z=>nomatch z) h
  | @tup a xs ea=>
    cases (show u=Value.ref a from rx)
    obtain ⟨_,_,_,p⟩:=(show ObjOk X.prog X.w H s.heap a (.tup xs) from I.hok a _ ea)
    obtain ⟨o,h1,h2,_⟩:=p
    exact PySem.W.kia_one PySem.W.kitx_tuple I.kIn ⟨o,h1,h2⟩ e (fun z=>nomatch z) h
  | @dK a kvs ea=>
    cases (show u=Value.ref a from rx)
    obtain ⟨_,_,vs,_,p⟩:=(show ObjOk X.prog X.w H s.heap a (.dK kvs) from I.hok a _ ea)
    obtain ⟨o,es,ep,h1,h2,_⟩:=p
    exact PySem.W.kia_one PySem.W.kitx_dict I.kIn ⟨o,h1,h2.1⟩ e (fun z=>nomatch z) h
  | @dT a kvs ea=>
    cases (show u=Value.ref a from rx)
    obtain ⟨_,_,xs,_,o,es,ep,h1,h2,_⟩:=(show ObjOk X.prog X.w H s.heap a (.dT kvs) from I.hok a _ ea)
    exact PySem.W.kia_one PySem.W.kitx_dict I.kIn ⟨o,h1,h2.1⟩ e (fun z=>nomatch z) h
  | @ins a C dx fs ea cl ha hn htk hm=>
    cases (show u=Value.ref a from rx)
    obtain ⟨mA,O,_⟩:=ins_get I.hok ea
    obtain ⟨od,J,_⟩:=O.look
    exact PySem.W.kia_one (PySem.W.kitx_own (cl.get _) cl.hd ha hn htk hm) I.kIn J e (fun z=>nomatch z) h
end
end L2
namespace L2
open PySem PySem.Spec PyProof.Rows
structure Room (k:Nat) (A:Around):Prop where
  hd:A.handled=none
  dp:A.depth+3 * k+5 < recursionLimit
  un:A.units+16 * k+200 < cLine
  gd:A.guards=some []
theorem Room.mono {j k:Nat} {A:Around} (r:Room k A) (h:j≤k):Room j A:=⟨r.hd,by have:=r.dp;omega,by have:=r.un;omega,by first | exact r.gd | (simpa [Around.under,Code.isGuard,guardIds] using r.gd)⟩
theorem Room.deeper {k:Nat} {A:Around} (r:Room (k+1) A) (env:Env):Room k (A.deeper env):=
  ⟨r.hd,by have:=r.dp;show A.depth+1+3 * k+5 < _;omega,by have:=r.un;show A.units+3+16 * k+200 < _;omega,by first | exact r.gd | (simpa [Around.under,Code.isGuard,guardIds] using r.gd)⟩
theorem Room.in1 {k:Nat} {A:Around} (r:Room (k+1) A):Room k A.in1:=
  ⟨r.hd,by have:=r.dp;show A.depth+3 * k+5 < _;omega,by have:=r.un;show A.units+1+16 * k+200 < _;omega,by first | exact r.gd | (simpa [Around.under,Code.isGuard,guardIds] using r.gd)⟩
theorem Room.depth {k:Nat} {A:Around} (r:Room k A):A.depth < recursionLimit:=by have:=r.dp;omega
theorem Room.units {k:Nat} {A:Around} (r:Room k A):A.units+64 < cLine:=by have:=r.un;omega
theorem Room.units0 {k:Nat} {A:Around} (r:Room k A):A.units < cLine:=by have:=r.un;omega
def tNil:TA:=fun _ H Q=>Q [] H
def tCons (ta:TE) (tr:TA):TA:=fun σ H Q=>ta σ H fun x H1=>tr σ H1 fun xs H2=>Q (x :: xs) H2
section
variable {X:Cx} {e:Expr} {es:List Expr} {te:TE} {t:TA} {pos:Pos}
theorem pa_nil:PA X [] tNil:=fun _ _ _ _ H Q I h=>Calls.spliced_nil ⟨[],H,I,.nil,h⟩
theorem pa_cons (ha:PE X e te) (hr:PA X es t) (hs:starEach (e :: es) X.env=(false,eval e X.env) :: starEach es X.env:=by rfl):PA X (e :: es) (tCons te t):=by
  intro pos pins s σ H Q I h
  rw [hs]
  show wpAny _ _ (spliced ((false,eval e X.env) :: backTo pos (starEach es X.env))) _ _ s
  refine Calls.spliced_cons (thn (ha pins s σ H _ I h) fun u s1 ⟨x,H1,I1,r1,q1⟩=>?_)
  exact thn (hr pos pins s1 σ H1 _ I1 q1) fun us s2 ⟨xs,H2,I2,r2,q2⟩=>⟨x :: xs,H2,I2,.cons r1 r2,q2⟩
def tTup (t:TA):TE:=fun σ H Q=>t σ H fun xs H1=>xs.length≤sizeLine∧∀ p,H1 p=none→Q (.ref p) (upd H1 p (.tup xs))
def tLst (t:TA):TE:=fun σ H Q=>t σ H fun xs H1=>xs.length≤sizeLine∧∀ p,H1 p=none→Q (.ref p) (upd H1 p (.lst xs))
theorem pe_tup {x1} (h:PA X es t):PE X (.Tuple es x1 pos) (tTup t):=by
  intro pins s σ H Q I hq
  refine wpAny_Tuple_spliced (thn (h pos pins s σ H _ I hq) fun us s1 ⟨xs,H1,I1,r,z,q⟩=>⟨by rw [← r.length];exact z,?_⟩)
  have hf:H1 s1.heap.objs.size=none:=I1.hok.fresh (Nat.le_refl _)
  refine ⟨.ref s1.heap.objs.size,upd H1 s1.heap.objs.size (.tup xs),I1.laid (t':=s1.toks) (fun b u e=>Heap.get?_push_of_some _ e) (Nat.le_refl _) ?_,rfl,q _ hf⟩
  exact ⟨⟨z,_,Heap.get?_push_size _ rfl,rfl⟩,us,r,⟨_,Heap.get?_push_size _ rfl,rfl,_,rfl⟩⟩
theorem pe_lst (h:PA X es t):PE X (.List es pos) (tLst t):=by
  intro pins s σ H Q I hq
  refine wpAny_List_spliced (thn (h pos pins s σ H _ I hq) fun us s1 ⟨xs,H1,I1,r,z,q⟩=>⟨by rw [← r.length];exact z,?_⟩)
  have hf:H1 s1.heap.objs.size=none:=I1.hok.fresh (Nat.le_refl _)
  refine ⟨.ref s1.heap.objs.size,upd H1 s1.heap.objs.size (.lst xs),I1.laid (t':=s1.toks) (fun b u e=>Heap.get?_push_of_some _ e) (Nat.le_refl _) ?_,rfl,q _ hf⟩
  exact ⟨z,us,0,r,Heap.get?_push_size _ rfl⟩
end
abbrev Sp:=List V→Hp→VK→XK→Prop
abbrev CXT:=List Env→Hp→Shared→XK→Value→Shared→Prop
structure Env0 (P:Program) (w:World) (K:PySem.W.Frag) (mg:Str→Option Value) (base:Heap) (A:Around) (outer:List Env) (s:Shared) (H:Hp):Prop where
  frames:A.frames=some outer
  mod:Mod K mg base
  bs:∀ b o,base.get? b=some o→s.heap.get? b=some o∧H b=none
  bsz:base.objs.size≤s.heap.objs.size
  funs:s.heap.FunFrames base outer
  frf:∀ b∈frs outer,H b=none
  hok:HOk P w H s.heap
  bare:AllBare s.gens
def CE (outer:List Env) (P:Program) (w:World) (H:Hp) (s:Shared) (Q:VK) (u:Value) (s':Shared):Prop:=
  ∃ v H',s'.os=s.os∧AllBare s'.gens∧Un (frs outer) [] H H' s.heap s'.heap∧HOk P w H' s'.heap∧RelV v u∧Q v H'
def CR (CX:CXT) (outer:List Env) (P:Program) (w:World) (H:Hp) (s:Shared) (Q:VK) (E:XK) (r:Result) (s':Shared):Prop:=
  match r with
  | .ok (.ret u)=>CE outer P w H s Q u s'
  | .ok _=>False
  | .error e=>CX outer H s E e s'
structure FnOk (P:Program) (w:World) (K:PySem.W.Frag) (mg:Str→Option Value) (base:Heap) (CX:CXT) (k:Nat) (f:Addr) (fd:FuncData) (ps:List Str) (sp:Sp):Prop where
  len:∀ vs H Q E,sp vs H Q E→vs.length=ps.length
  run:∀ (A:Around) (outer:List Env) (s:Shared) (H:Hp) (args:Args) (us:List Value) (vs:List V) (Q:VK) (E:XK),Room k A→Env0 P w K mg base A outer s H→BindsTo s fd args (ps.zip us)→Vals vs us→sp vs H Q E →
    codeAny (model P w) A (.call (.ref f) args) (CR CX outer P w H s Q E) s
theorem FnOk.mono {P:Program} {w:World} {K:PySem.W.Frag} {mg:Str→Option Value} {base:Heap} {CX:CXT} {j k:Nat} {f:Addr} {fd:FuncData} {ps:List Str} {sp:Sp} (F:FnOk P w K mg base CX j f fd ps sp) (h:j≤k) :
    FnOk P w K mg base CX k f fd ps sp:=⟨F.len,fun A outer s H args us vs Q E hr=>F.run A outer s H args us vs Q E (hr.mono h)⟩
theorem FnOk.imp {P:Program} {w:World} {K:PySem.W.Frag} {mg:Str→Option Value} {base:Heap} {CX:CXT} {k:Nat} {f:Addr} {fd:FuncData} {ps:List Str} {sp sp':Sp} (F:FnOk P w K mg base CX k f fd ps sp)
    (h:∀ vs H Q E,sp' vs H Q E→sp vs H Q E):FnOk P w K mg base CX k f fd ps sp':=
  ⟨fun vs H Q E q=>F.len vs H Q E (h _ _ _ _ q),fun A outer s H args us vs Q E hr he hb hv hs=>F.run A outer s H args us vs Q E hr he hb hv (h _ _ _ _ hs)⟩
theorem Env0.in1 {P:Program} {w:World} {K:PySem.W.Frag} {mg:Str→Option Value} {base:Heap} {A:Around} {outer:List Env} {s:Shared} {H:Hp} (e:Env0 P w K mg base A outer s H) :
    Env0 P w K mg base A.in1 outer s H:=⟨e.frames,e.mod,e.bs,e.bsz,e.funs,e.frf,e.hok,e.bare⟩
section
variable {X:Cx} {pins:List (Addr × Obj)} {σ:St} {H:Hp} {s s':Shared}
theorem Inv.env0 (I:Inv X pins σ H s):Env0 X.prog X.w X.K X.mg X.base X.A X.stack s H:=
  ⟨I.ok.frames,I.ok.mod,I.bs,Nat.le_trans I.ok.bsz I.sz,I.stack,I.stkFree,I.hok,I.bare⟩
theorem Inv.after {Q:VK} {u:Value} (I:Inv X pins σ H s) (h:CE X.stack X.prog X.w H s Q u s'):EP X pins σ Q u s':=by
  obtain ⟨v,H',os,bare,un,hok,r,q⟩:=h
  obtain ⟨hh,g,d,t,os'⟩:=s'
  obtain rfl:os'=s.os:=os
  exact ⟨v,H',I.call (h':=hh) (g':=g) (d':=d) (t':=t) (ch:=[]) un hok bare (fun b z=>absurd z (by simp)),r,q⟩
end
def tCall (sp:Sp) (dvs:List V) (E:XK) (t:TA):TE:=fun σ H Q=>t σ H fun vs H1=>sp (vs++dvs) H1 Q E
def Binds (K:PySem.W.Frag) (fd:FuncData) (ps:List Str) (ds:List Value):Prop:=
  ∀ (s:Shared) (us:List Value),K.In s.heap→(us++ds).length=ps.length→BindsTo s fd ⟨us,[]⟩ (ps.zip (us++ds))
theorem Binds.all {K:PySem.W.Frag} {fd:FuncData} {ps:List Str} (h:∀ us:List Value,us.length=ps.length→bindArgs fd ⟨us,[]⟩=pure (ps.zip us)):Binds K fd ps []:=fun s us _ hl=>by
  rw [List.append_nil] at hl ⊢
  exact .of_eq (h us hl)
def Passes (CX:CXT) (X:Cx) (E:XK):Prop:=∀ (pins:List (Addr × Obj)) (σ:St) (H:Hp) (s:Shared) (e:Value) (s':Shared),Inv X pins σ H s→CX X.stack H s E e s'→X.xe e s'
section
variable {X:Cx} {CX:CXT} {k:Nat} {f C:Addr} {fd:FuncData} {ps:List Str} {sp:Sp} {dvs:List V} {ds:List Value} {E:XK} {x m:Str} {p pos apos:Pos} {e o:Expr} {es:List Expr} {ta:TE} {t:TA}
theorem run_fn {pins:List (Addr × Obj)} {σ:St} {H:Hp} {s:Shared} {Q:VK} {us:List Value} {vs:List V} (F:FnOk X.prog X.w X.K X.mg X.base CX k f fd ps sp) (hr:Room k X.A) (hb:Binds X.K fd ps ds) (hd:Vals dvs ds) (hx:Passes CX X E)
    (I:Inv X pins σ H s) (r:Vals vs us) (h:sp (vs++dvs) H Q E):wpAny (model X.prog X.w) X.A (call (.ref f) us) (EP X pins σ Q) X.xe s:=by
  have r2:Vals (vs++dvs) (us++ds):=r.append hd
  have hl:(us++ds).length=ps.length:=by rw [← r2.length];exact F.len _ _ _ _ h
  refine wpAny_call (codeAny_mono (F.run X.A X.stack s H ⟨us,[]⟩ (us++ds) (vs++dvs) Q E hr I.env0 (hb s us I.kIn hl) r2 h) fun r s' hq=>?_)
  cases r with
  | error e=>exact hx pins σ H s e s' I hq
  | ok fl=>
    cases fl with
    | ret u=>exact I.after hq
    | next=>exact False.elim hq
    | brk=>exact False.elim hq
    | cont=>exact False.elim hq
theorem pe_call (F:FnOk X.prog X.w X.K X.mg X.base CX k f fd ps sp) (hr:Room k X.A) (hg:Gl X x) (hm:X.mg x=some (.ref f)) (hk:PySem.W.keepIn X.K (.ref f)=true) (hb:Binds X.K fd ps ds) (hd:Vals dvs ds) (hx:Passes CX X E)
    (ha:PA X (e :: es) t) (hdb:(x == ("__debug__" : Str))=false:=by decide) (he:starEach (e :: es) X.env=(false,eval e X.env) :: starEach es X.env:=by rfl) (hpl:(backTo pos (starEach es X.env)).any (·.1)=false:=by rfl) :
    PE X (.Call (.Name x p) (e :: es) [] pos) (tCall sp dvs E t):=by
  intro pins s σ H Q I h
  refine wpAny_Call_Name_kw (ld_glob I hg hm ?_ hdb)
  refine PySem.W.callWith_K (h₀:=X.base) I.ok.mod.kin hk (thn (ha pos pins s σ H _ I h) fun us s1 ⟨vs,H1,I1,r,q⟩=>⟨I1.kIn,?_⟩) he hpl
  exact run_fn F hr hb hd hx I1 r q
structure Mk (K:PySem.W.Frag) (C f:Addr):Prop where
  makes:PySem.W.makesIn K C=true
  init:PySem.W.findIn K (.ref C) "__init__" = some (some (.ref f))
  fn:PySem.W.isFn K (.ref f)=true
  kp:PySem.W.keepIn K (.ref C)=true
end
section
variable {X:Cx} {CX:CXT} {k:Nat} {f C:Addr} {fd:FuncData} {ps ks:List Str} {sp:Sp} {E:XK} {x m:Str} {p pos apos kpos:Pos} {e o:Expr} {es:List Expr} {kws:List Keyword} {te ta:TE} {t tk:TA} {nm:Option Str}
structure KBinds (K:PySem.W.Frag) (fd:FuncData) (ps ks:List Str) (g:List Value→List Value→List Value) (gV:List V→List V→List V):Prop where
  to:∀ (s:Shared) (us ws:List Value),K.In s.heap→(g us ws).length=ps.length→BindsTo s fd ⟨us,ks.zip ws⟩ (ps.zip (g us ws))
  rel:∀ {vs:List V} {us:List Value} {zs:List V} {ws:List Value},Vals vs us→Vals zs ws→Vals (gV vs zs) (g us ws)
variable {g:List Value→List Value→List Value} {gV:List V→List V→List V}
end
structure FnScope (N P:List Str) (sc:Scope):Prop where
  kind:sc.kind=.function
  co:sc.isCoroutine=false
  gen:sc.isGenerator=false
  nd:N.Nodup
  pre:N.take P.length=P
  par:∀ x∈P,sc.names.lookup x=some .local∨sc.names.lookup x=some .cell
  nofree:∀ y∈sc.names,y.2≠.free
theorem bindL_out {kindOf:Str→Option NameKind} {x:Str}:∀ {binds:List (Str × Value)} {m:Str→Option Value},(∀ v,(x,v) ∉ binds)→bindL kindOf binds m x=m x
  | [],_,_=>rfl
  | (n,v) :: r,m,h=>by
    unfold bindL
    rw [bindL_out fun w hw=>h w (List.mem_cons_of_mem _ hw)]
    split
    · have:x≠n:=by rintro rfl;exact h v List.mem_cons_self
      simp [this]
    · rfl
theorem bindC_out {kindOf:Str→Option NameKind} {x:Str}:∀ {binds:List (Str × Value)} {m:Str→Option Value},(∀ v,(x,v) ∉ binds)→bindC kindOf binds m x=m x
  | [],_,_=>rfl
  | (n,v) :: r,m,h=>by
    unfold bindC
    rw [bindC_out fun w hw=>h w (List.mem_cons_of_mem _ hw)]
    split
    · rfl
    · have:x≠n:=by rintro rfl;exact h v List.mem_cons_self
      simp [this]
theorem bindL_get {kindOf:Str→Option NameKind} {x:Str} {v:Value}:∀ {P:List Str} {vs:List Value} {i:Nat} {m:Str→Option Value},P.Nodup→P[i]?=some x→vs[i]?=some v→kindOf x=some .local →
    bindL kindOf (P.zip vs) m x=some v
  | [],_,_,_,_,h,_,_=>by simp at h
  | _ :: _,[],_,_,_,_,h,_=>by simp at h
  | p :: P,w :: vs,0,m,nd,h1,h2,hk=>by
    simp at h1 h2;subst h1;subst h2
    show bindL kindOf ((p,w) :: P.zip vs) m p=_
    unfold bindL
    rw [bindL_out fun v hv=>(List.nodup_cons.mp nd).1 (List.of_mem_zip hv).1,if_pos hk]
    simp
  | p :: P,w :: vs,i+1,m,nd,h1,h2,hk=>by
    show bindL kindOf ((p,w) :: P.zip vs) m x=_
    unfold bindL
    exact bindL_get (i:=i) (List.nodup_cons.mp nd).2 (by simpa using h1) (by simpa using h2) hk
theorem bindC_get {kindOf:Str→Option NameKind} {x:Str} {v:Value}:∀ {P:List Str} {vs:List Value} {i:Nat} {m:Str→Option Value},P.Nodup→P[i]?=some x→vs[i]?=some v→kindOf x≠some .local →
    bindC kindOf (P.zip vs) m x=some v
  | [],_,_,_,_,h,_,_=>by simp at h
  | _ :: _,[],_,_,_,_,h,_=>by simp at h
  | p :: P,w :: vs,0,m,nd,h1,h2,hk=>by
    simp at h1 h2;subst h1;subst h2
    show bindC kindOf ((p,w) :: P.zip vs) m p=_
    unfold bindC
    rw [bindC_out fun v hv=>(List.nodup_cons.mp nd).1 (List.of_mem_zip hv).1,if_neg hk]
    simp
  | p :: P,w :: vs,i+1,m,nd,h1,h2,hk=>by
    show bindC kindOf ((p,w) :: P.zip vs) m x=_
    unfold bindC
    exact bindC_get (i:=i) (List.nodup_cons.mp nd).2 (by simpa using h1) (by simpa using h2) hk
def start (N:List Str) (vs:List V):St:=vs.map some++List.replicate (N.length - vs.length) none
def cxOf (CX:CXT) (P:Program) (w:World) (K:PySem.W.Frag) (mg:Str→Option Value) (base:Heap) (N:List Str) (qual:Str) (scope:Scope) (f:Addr) (cd:Value) (A:Around) (outer:List Env) (s:Shared) (H:Hp) (E:XK):Cx where
  prog:=P
  w:=w
  K:=K
  mg:=mg
  base:=base
  A:=A.deeper (envOfC qual scope s.heap.objs.size f cd)
  N:=N
  s₀:=s
  H₀:=H
  env:=envOfC qual scope s.heap.objs.size f cd
  outer:=outer
  stack:=envOfC qual scope s.heap.objs.size f cd :: outer
  ex:=[]
  calm:=true
  fn:=fun _=>true
  pn:=[]
  xe:=fun e s'=>wpAny (model P w) (A.deeper (envOfC qual scope s.heap.objs.size f cd)) (leaving (envOfC qual scope s.heap.objs.size f cd) e) (fun _ s''=>CX outer H s E e s'') (fun e' s''=>CX outer H s E e' s'') s'
theorem cell_has {sc:Scope} {n:Nat} {x:Str} (h:sc.names.lookup x=some .cell):∃ c,(cellsFrom n sc.names []).lookup x=some c:=by
  have q:=PySem.W.cellsFrom_some sc.names n [] (.inl h)
  exact Option.isSome_iff_exists.mp q
theorem inv_start {CX:CXT} {P:Program} {w:World} {K:PySem.W.Frag} {mg:Str→Option Value} {base:Heap} {N ps:List Str} {qual:Str} {scope:Scope} {f:Addr} {cd:Value} {A:Around} {outer:List Env} {s s1:Shared} {H:Hp} {E:XK} {us:List Value} {vs:List V}
    (S:FnScope N ps scope) (hd:A.handled=none) (e0:Env0 P w K mg base A outer s H) (hl:vs.length=ps.length) (r:Vals vs us)
    (x:InCallC s s.heap.objs.size (bindL (envOfC qual scope s.heap.objs.size f cd).kindOf (ps.zip us) fun _=>none) (cellsFrom (s.heap.objs.size+1) scope.names []) (bindC (envOfC qual scope s.heap.objs.size f cd).kindOf (ps.zip us) fun _=>none) s1) :
    Inv (cxOf CX P w K mg base N qual scope f cd A outer s H E) [] (start N vs) H s1:=by
  have hpl:ps.length≤N.length:=by have:=congrArg List.length S.pre;rw [List.length_take] at this;omega
  obtain ⟨h1,tk,rfl,hk⟩:=x.done
  have noA:∀ b:Addr,b ∉ (cxOf CX P w K mg base N qual scope f cd A outer s H E).ex:=fun b z=>absurd (show b∈([]:List Addr) from z) (by simp)
  refine ⟨⟨e0.mod,S.kind,rfl,rfl,Nat.le_refl _,fun y z c h1 h2=>?_,fun y hy=>?_,fun y c _ h=>?_,fun _=>hd,Around.frames_deeper e0.frames,.inr ⟨rfl,rfl⟩,fun b z=>absurd z (noA b),e0.bs,e0.bsz,fun b _ _=>noA b,fun b z=>absurd z (noA b),e0.funs,e0.frf⟩,
    rfl,e0.bare,Un.kept hk,⟨_,x.toInCall.ns,fun i y v h1 h2 h3=>?_⟩,fun y c h=>⟨_,x.cell y c h⟩,e0.hok.fresh (Nat.le_refl _),fun y c h=>?_,fun p hp=>absurd (show p∈([]:List (Addr × Obj)) from hp) (by simp),e0.hok.kept hk,?_⟩
  · exact name_of_addr x.apart (PySem.mem_of_lookup h1) (PySem.mem_of_lookup h2)
  · have hy:scope.names.lookup y=some .cell∨scope.names.lookup y=some .free:=hy
    rcases hy with hy | hy
    · exact cell_has hy
    · exact absurd rfl (S.nofree _ (PySem.mem_of_lookup hy))
  · exact Nat.le_of_lt (x.above y c (PySem.mem_of_lookup h))
  · have hi:i < vs.length:=by
      unfold start at h2
      by_cases hi:i < vs.length
      · exact hi
      · rw [List.getElem?_append_right (by simpa using hi)] at h2
        rw [List.getElem?_replicate] at h2
        split at h2 <;> cases h2
    have ha:vs[i]?=some v:=by
      unfold start at h2
      rw [List.getElem?_append_left (by simpa using hi),List.getElem?_map] at h2
      cases e:vs[i]? with
      | none=>rw [e] at h2;cases h2
      | some a=>rw [e] at h2;cases h2;rfl
    obtain ⟨u,hu,rv⟩:=r.get ha
    have hp:ps[i]?=some y:=by
      rw [← S.pre,List.getElem?_take_of_lt (by omega)];exact h1
    have ndP:ps.Nodup:=by rw [← S.pre];exact S.nd.sublist (List.take_sublist _ _)
    refine ⟨u,rv,?_⟩
    rcases S.par y (List.mem_of_getElem? hp) with k | k
    · exact .inl ⟨k,bindL_get ndP hp hu k⟩
    · obtain ⟨c,e⟩:=cell_has (n:=s.heap.objs.size+1) k
      refine .inr ⟨.inl k,c,e,?_⟩
      have q:=x.cell y c e
      rw [bindC_get ndP hp hu (by show scope.names.lookup y≠_;rw [k];decide)] at q
      exact q
  · exact e0.hok.fresh (Nat.le_of_lt (x.above y c (PySem.mem_of_lookup h)))
  · unfold start
    show _=N.length
    rw [List.length_append,List.length_map,List.length_replicate]
    omega
theorem fn_of {CX:CXT} {P:Program} {w:World} {K:PySem.W.Frag} {mg:Str→Option Value} {base:Heap} {k:Nat} {f:Addr} {name qual:Str} {params:Arguments} {body:List Stmt} {scope:Scope} {dV kV doc pm cdv ct oc:Value} {an od:Option Addr}
    {osl:Array (Option Value)} {N ps:List Str} {sp:Sp} (lk:K.lookup f=some ⟨oc,od,.func (PySem.W.fnOf name qual params body scope dV kV doc pm an cdv ct),osl⟩) (hcd:PySem.W.codeIn K cdv qual=true) (S:FnScope N ps scope)
    (len:∀ vs H Q E,sp vs H Q E→vs.length=ps.length)
    (hbody:∀ (A:Around) (outer:List Env) (s:Shared) (H:Hp) (vs:List V) (Q:VK) (E:XK),Room k (A.deeper (envOfC qual scope s.heap.objs.size f cdv))→sp vs H Q E →
      ∃ t,PSs (cxOf CX P w K mg base N qual scope f cdv A outer s H E) body t∧t { nx:=fun _ H'=>Q .non H',rt:=Q } (start N vs) H) :
    FnOk P w K mg base CX (k+1) f (PySem.W.fnOf name qual params body scope dV kV doc pm an cdv ct) ps sp:=by
  refine ⟨len,fun A outer s H args us vs Q E hr e0 hb r hsp=>?_⟩
  have hl:=len _ _ _ _ hsp
  have KX:K.In s.heap:=e0.mod.kin.keeps fun b o e=>(e0.bs b o e).1
  have lim:s.heap.NoLimit:=e0.mod.nolimit.keeps fun b o e=>(e0.bs b o e).1
  have hkind:∀ y∈ps.zip us,scope.names.lookup y.1=some .local∨(scope.names.lookup y.1=some .cell∧((cellsFrom (s.heap.objs.size+1) scope.names []).lookup y.1).isSome=true):=fun ⟨n,v⟩ hy=>by
    rcases S.par n (List.of_mem_zip hy).1 with q | q
    · exact .inl q
    · exact .inr ⟨q,PySem.W.cellsFrom_some _ _ _ (.inl q)⟩
  refine codeAny_call_function hr.depth (KX _ _ lk) rfl S.co S.gen rfl (PySem.W.codeRec_of KX hcd) (hb _ _ _ _ ?_)
  refine wpAny_newFunctionEnv_cells S.kind hkind fun env he s1 x=>?_
  subst he
  refine ⟨lim.keeps x.toInCall.keep,codeAny_func ?_⟩
  obtain ⟨t,ht,hq⟩:=hbody A outer s H vs Q E (hr.deeper _) hsp
  have I:Inv (cxOf CX P w K mg base N qual scope f cdv A outer s H E) [] (start N vs) H s1:=inv_start S hr.hd e0 hl r x
  refine wpAny_mono (ht [] s1 (start N vs) H _ I hq) (fun fl s' hs=>?_) fun e s' hs=>hs
  have fin:∀ {σ':St} {H':Hp} {v:V} {u:Value},Inv (cxOf CX P w K mg base N qual scope f cdv A outer s H E) [] σ' H' s'→RelV v u→Q v H'→CE outer P w H s Q u s':=
    fun {σ' H' v u} J rv q=>⟨v,H',J.os,J.bare,J.base,J.hok,rv,q⟩
  cases fl with
  | ret u=>
    obtain ⟨v,σ',H',J,rv,q⟩:=hs
    exact fin J rv q
  | next=>
    obtain ⟨σ',H',J,q⟩:=hs
    exact fin (v:=V.non) (u:=Value.none) J rfl q
  | brk=>
    obtain ⟨_,_,_,q⟩:=hs
    exact False.elim q
  | cont=>
    obtain ⟨_,_,_,q⟩:=hs
    exact False.elim q
end L2
namespace L2
open PySem PySem.Spec PyProof.Rows
section
variable {X:Cx} {x:Str} {p pos:Pos} {e:Expr} {es:List Expr} {t:TA} {id T:String} {r:List V→Hp→VK→Prop}
def tCB (r:List V→Hp→VK→Prop) (t:TA):TE:=fun σ H Q=>t σ H fun vs H1=>r vs H1 Q
theorem pe_callB (hc:CallR X (.builtin id) r) (hg:Gl X x) (hm:X.mg x=none) (hv:bootBuiltins x=some (.builtin id)) (ha:PA X (e :: es) t) (hn:x ≠ "__name__" := by decide) (hdb:(x == ("__debug__" : Str))=false:=by decide)
    (he:starEach (e :: es) X.env=(false,eval e X.env) :: starEach es X.env:=by rfl) (hpl:(backTo pos (starEach es X.env)).any (·.1)=false:=by rfl):PE X (.Call (.Name x p) (e :: es) [] pos) (tCB r t):=by
  intro pins s σ H Q I h
  refine wpAny_Call_Name_kw (ld_blt I hg hm hv ?_ hn hdb)
  exact PyProof.Rows.callWith_builtin1 (thn (ha pos pins s σ H _ I h) fun us s1 ⟨vs,H1,I1,r1,q1⟩=>hc pins s1 σ H1 vs us Q I1 r1 q1) he hpl
theorem pe_callTy (hc:CallR X (.type T) r) (hg:Gl X x) (hm:X.mg x=none) (hv:bootBuiltins x=some (.type T)) (ha:PA X (e :: es) t) (hn:x ≠ "__name__" := by decide) (hdb:(x == ("__debug__" : Str))=false:=by decide)
    (he:starEach (e :: es) X.env=(false,eval e X.env) :: starEach es X.env:=by rfl) (hpl:(backTo pos (starEach es X.env)).any (·.1)=false:=by rfl):PE X (.Call (.Name x p) (e :: es) [] pos) (tCB r t):=by
  intro pins s σ H Q I h
  refine wpAny_Call_Name_kw (ld_blt I hg hm hv ?_ hn hdb)
  exact PyProof.Rows.callWith_type1 (thn (ha pos pins s σ H _ I h) fun us s1 ⟨vs,H1,I1,r1,q1⟩=>hc pins s1 σ H1 vs us Q I1 r1 q1) he hpl
end
end L2
namespace HT
open PySem PyProof.Rows
section
open PySem.SeqAt
open PySem.AutoSeq1 (wpAny_loadPart')
open PySem.MeetsSeq PySem.MeetsSeq2 PySem.MeetsSeq3
end
section
variable {prog:Program} {w:World} {A:Around} {E:Value→Shared→Prop} {s:Shared}
def sIx (n d:Nat):Option Int→Nat
  | none=>d
  | some v=>if v < 0 then (v+(n:Int)).toNat else min v.toNat n
theorem sIx_nat (n d k:Nat):sIx n d (some (k:Int))=min k n:=by
  show (if (k:Int) < 0 then ((k:Int)+(n:Int)).toNat else min (k:Int).toNat n)=min k n
  rw [if_neg (by omega),Int.toNat_natCast]
theorem sIx_le (n d:Nat) (hd:d≤n) (o:Option Int):sIx n d o≤n:=by
  cases o with
  | none=>exact hd
  | some v=>
    show (if v < 0 then (v+(n:Int)).toNat else min v.toNat n)≤n
    by_cases hv:v < 0
    · rw [if_pos hv];omega
    · rw [if_neg hv];exact Nat.min_le_right _ _
end
end HT
namespace L2
open PySem PySem.Spec PyProof.Rows
abbrev TO:=St→Hp→(Option Int→Hp→Prop)→Prop
def PO (X:Cx) (e:Option Expr) (t:TO):Prop:=
  ∀ (pins:List (Addr × Obj)) (s:Shared) (σ:St) (H:Hp) (Q:Option Int→Hp→Prop),Inv X pins σ H s→t σ H Q →
    wpAny (model X.prog X.w) X.A (evalPart e X.env) (fun u s'=>∃ o H',Inv X pins σ H' s'∧IsPart u o∧Q o H') X.xe s
def tNoPart:TO:=fun _ H Q=>Q none H
def tPart (t:TE):TO:=fun σ H Q=>t σ H fun x H1=>∃ i,x=.int i∧Q (some i) H1
section
variable {X:Cx} {e:Expr} {te:TE} {lo hi:Option Expr} {tl th:TO} {pos p2:Pos}
theorem po_none:PO X none tNoPart:=by
  intro pins s σ H Q I h
  rw [evalPart_none]
  exact wpAny_pure ⟨none,H,I,.none,h⟩
theorem po_some (h:PE X e te):PO X (some e) (tPart te):=by
  intro pins s σ H Q I hw
  rw [evalPart_some]
  refine thn (h pins s σ H _ I hw) fun u s1 ⟨x,H1,I1,r1,q1⟩=>?_
  obtain ⟨i,rfl,q⟩:=q1
  obtain ⟨t,rfl⟩:=r1
  exact ⟨some i,H1,I1,.int i t,q⟩
def SlR (X:Cx) (r:V→Option Int→Option Int→Hp→VK→Prop):Prop:=
  ∀ (pins:List (Addr × Obj)) (s:Shared) (σ:St) (H:Hp) (x:V) (v vl vu:Value) (lo hi:Option Int) (sl:Addr) (Q:VK),Inv X pins σ H s→RelV x v→s.heap.IsSliceOf sl vl vu .none→IsPart vl lo→IsPart vu hi→r x lo hi H Q →
    ∃ T id,typeLookup (.type T) "__getitem__" = pure (some (.builtin id))∧s.TypeIs v T∧wpAny (model X.prog X.w) X.A (getItem v (.ref sl)) (EP X pins σ Q) X.xe s
theorem SlR.or {r r':V→Option Int→Option Int→Hp→VK→Prop} (h:SlR X r) (h':SlR X r'):SlR X (fun x lo hi H Q=>r x lo hi H Q∨r' x lo hi H Q):=by
  intro pins s σ H x v vl vu lo hi sl Q I rx hs pl pu q
  rcases q with q | q
  · exact h pins s σ H x v vl vu lo hi sl Q I rx hs pl pu q
  · exact h' pins s σ H x v vl vu lo hi sl Q I rx hs pl pu q
def tSl (r:V→Option Int→Option Int→Hp→VK→Prop) (te:TE) (tl th:TO):TE:=fun σ H Q=>te σ H fun x H1=>tl σ H1 fun l H2=>th σ H2 fun u H3=>r x l u H3 Q
theorem pe_slice {r:V→Option Int→Option Int→Hp→VK→Prop} (hr:SlR X r) (he:PE X e te) (hl:PO X lo tl) (hu:PO X hi th):PE X (.Subscript e (.Slice lo hi none p2) pos) (tSl r te tl th):=by
  intro pins s σ H Q I h
  refine Subscript_ (thn (he pins s σ H _ I h) fun v s1 ⟨x,H1,I1,r1,q1⟩=>?_)
  refine wpAny_Slice (thn (hl pins s1 σ H1 _ I1 q1) fun vl s2 ⟨l,H2,I2,pl,q2⟩=>thn (hu pins s2 σ H2 _ I2 q2) fun vu s3 ⟨u,H3,I3,pu,q3⟩=>?_)
  rw [evalPart_none]
  refine wpAny_pure ?_
  have I4:Inv X pins σ H3 { s3 with heap:=s3.heap.push { cls:=.type "slice", data:=.fields #[vl,vu,.none] } }:=I3.kept (t':=s3.toks) fun b ob q=>Heap.get?_push_of_some _ q
  obtain ⟨T,id,hT,ht,hg⟩:=hr pins { s3 with heap:=s3.heap.push { cls:=.type "slice", data:=.fields #[vl,vu,.none] } } σ H3 x v vl vu l u s3.heap.objs.size Q I4 r1 (Heap.IsSliceOf.new ..) pl pu q3
  show wpAny (model X.prog X.w) X.A (subscriptTail e (.Slice lo hi none p2) v (.ref s3.heap.objs.size)) (EP X pins σ Q) X.xe { s3 with heap:=s3.heap.push { cls:=.type "slice", data:=.fields #[vl,vu,.none] } }
  exact tail_any (ops:=[.ref s3.heap.objs.size,v]) ht hT hg (by with_unfolding_all rfl)
def cutV (xs:List V) (lo hi:Option Int):List V:=(xs.drop (HT.sIx xs.length 0 lo)).take (HT.sIx xs.length xs.length hi - HT.sIx xs.length 0 lo)
theorem cutV_length (xs:List V) (lo hi:Option Int):(cutV xs lo hi).length≤xs.length:=by
  unfold cutV
  rw [List.length_take,List.length_drop]
  omega
end
end L2
namespace L2
open PySem PySem.Spec PyProof.Rows
def ixN (n:Nat) (i:Int):Option Nat:=if 0≤i then (if i < n then some i.toNat else none) else if -(n:Int)≤i then some (i+n).toNat else none
def atI {α:Type} (xs:List α) (i:Int):Option α:=(ixN xs.length i).bind fun j=>xs[j]?
theorem ixN_seq {n:Nat} {i:Int} {j:Nat} (h:ixN n i=some j):seqIndex? i n=some j∧j < n∧-(n:Int)≤i∧i < n:=by
  unfold ixN at h
  by_cases h0:0≤i
  · rw [if_pos h0] at h
    by_cases h1:i < n
    · rw [if_pos h1] at h
      have e:i.toNat=j:=Option.some.inj h
      exact ⟨by rw [seqIndex_of h0 h1,e],by omega,by omega,h1⟩
    · rw [if_neg h1] at h;cases h
  · rw [if_neg h0] at h
    by_cases h1:-(n:Int)≤i
    · rw [if_pos h1] at h
      have e:(i+n).toNat=j:=Option.some.inj h
      exact ⟨by rw [seqIndex_neg (by omega) h1,e],by omega,h1,by omega⟩
    · rw [if_neg h1] at h;cases h
theorem atI_get {α:Type} {xs:List α} {i:Int} {v:α} (h:atI xs i=some v):∃ j,seqIndex? i xs.length=some j∧xs[j]?=some v∧j < xs.length∧-(xs.length:Int)≤i∧i < xs.length:=by
  unfold atI at h
  cases e:ixN xs.length i with
  | none=>rw [e] at h;cases h
  | some j=>
    rw [e] at h
    obtain ⟨h1,h2,h3,h4⟩:=ixN_seq e
    exact ⟨j,h1,h,h2,h3,h4⟩
theorem atI_nat {α:Type} {xs:List α} {j:Nat} {v:α} (h:xs[j]?=some v):atI xs (j:Int)=some v:=by
  have hj:j < xs.length:=(List.getElem?_eq_some_iff.mp h).1
  have e:ixN xs.length (j:Int)=some j:=by
    unfold ixN
    rw [if_pos (by omega),if_pos (by omega)];simp
  unfold atI;rw [e];exact h
theorem atI_last {α:Type} (xs:List α) (v:α):atI (xs++[v]) (-1)=some v:=by
  have hl:(xs++[v]).length=xs.length+1:=by simp
  have e:ixN (xs++[v]).length (-1)=some xs.length:=by
    unfold ixN
    rw [hl,if_neg (by decide),if_pos (by omega)]
    congr 1
    omega
  unfold atI
  rw [e]
  show (xs++[v])[xs.length]?=some v
  simp
def PlainIx (b:Expr):Prop:=∀ o i,subscripted b false o i=operate [o,i] (getItem o i)
def IxR (X:Cx) (r:R2):Prop:=
  ∀ (value slice:Expr) (pins:List (Addr × Obj)) (s:Shared) (σ:St) (H:Hp) (x y:V) (v u:Value) (Q:VK),Inv X pins σ H s→RelV x v→RelV y u→r x y H Q →
    subscripted slice false v u=operate [v,u] (getItem v u)→wpAny (model X.prog X.w) X.A (subscriptTail value slice v u) (EP X pins σ Q) X.xe s
def MtR (X:Cx) (id:String) (r:V→List V→Hp→VK→Prop):Prop:=
  ∀ (pins:List (Addr × Obj)) (s:Shared) (σ:St) (H:Hp) (x:V) (xs:List V) (v:Value) (us:List Value) (Q:VK),Inv X pins σ H s→RelV x v→Vals xs us→r x xs H Q →
    wpAny (model X.prog X.w) X.A (call (.builtin id) (v :: us)) (EP X pins σ Q) X.xe s
section
variable {X:Cx} {a b:Expr} {ta tb:TE} {pos:Pos}
theorem IxR.or {r r':R2} (h:IxR X r) (h':IxR X r'):IxR X (fun x y H Q=>r x y H Q∨r' x y H Q):=by
  intro value slice pins s σ H x y v u Q I rx ry q hs
  rcases q with q | q
  · exact h value slice pins s σ H x y v u Q I rx ry q hs
  · exact h' value slice pins s σ H x y v u Q I rx ry q hs
theorem MtR.or {id:String} {r r':V→List V→Hp→VK→Prop} (h:MtR X id r) (h':MtR X id r'):MtR X id (fun x xs H Q=>r x xs H Q∨r' x xs H Q):=by
  intro pins s σ H x xs v us Q I rx rs q
  rcases q with q | q
  · exact h pins s σ H x xs v us Q I rx rs q
  · exact h' pins s σ H x xs v us Q I rx rs q
theorem pe_ix {r:R2} (hr:IxR X r) (ha:PE X a ta) (hb:PE X b tb) (hs:PlainIx b):PE X (.Subscript a b pos) (tOp r ta tb):=by
  intro pins s σ H Q I h
  exact Subscript_ (binT ha hb I h fun v u s2 x y H2 I2 rx ry q=>hr a b pins s2 σ H2 x y v u Q I2 rx ry q (hs _ _))
def rIxL (K:PySem.W.Frag):R2:=fun x y H Q=>∃ p xs i v,x=.ref p∧y=.int i∧SqL K H p xs∧atI xs i=some v∧Q v H
def rIxT (K:PySem.W.Frag):R2:=fun x y H Q=>∃ p xs i v,x=.ref p∧y=.int i∧SqT K H p xs∧atI xs i=some v∧Q v H
def rIxS:R2:=fun x y H Q=>∃ z i c,x=.str z∧y=.int i∧z.length≤sizeLine∧atI z.cps.toList i=some c∧Q (.str ⟨#[c]⟩) H
theorem ix_list:IxR X (rIxL X.K):=by
  intro value slice pins s σ H x y v u Q I rx ry h hs
  obtain ⟨p,xs,i,z,rfl,rfl,hq,he,q⟩:=h
  cases rx
  obtain ⟨t,rfl⟩:=ry
  obtain ⟨its,r,pl,hz⟩:=I.list hq
  obtain ⟨j,h1,h2,h3,h4,h5⟩:=atI_get he
  obtain ⟨w,ew,rw'⟩:=r.get h2
  have hl:=r.length
  have hn:=line63
  have fin:EP X pins σ Q w s:=⟨z,H,I,rw',q⟩
  by_cases h0:0≤i
  · have hj:i.toNat=j:=by
      rw [seqIndex_of h0 h5] at h1
      exact Option.some.inj h1
    exact item_listR pl.isList h0 (by omega) (by rw [hj];simpa using ew) fin hs
  · have hj:(i+(its.toArray.size:Int)).toNat=j:=by
      rw [seqIndex_neg (by omega) h4] at h1
      rw [List.size_toArray,← hl]
      exact Option.some.inj h1
    exact subscriptTail_builtinR (x:=w) pl.isList.typeIs slot_list_getitem.lookup
      (wpAny_getItem_list_neg (Q:=fun r s'=>r=w∧EP X pins σ Q r s') pl.isList (by omega) (by rw [List.size_toArray] <;> omega) (by omega) (by rw [hj];simpa using ew) ⟨rfl,fin⟩) hs
theorem ix_tup:IxR X (rIxT X.K):=by
  intro value slice pins s σ H x y v u Q I rx ry h hs
  obtain ⟨p,xs,i,z,rfl,rfl,hq,he,q⟩:=h
  cases rx
  obtain ⟨t,rfl⟩:=ry
  obtain ⟨its,r,pl,hz⟩:=I.tuple hq
  obtain ⟨j,h1,h2,h3,h4,h5⟩:=atI_get he
  obtain ⟨w,ew,rw'⟩:=r.get h2
  have hl:=r.length
  have hn:=line63
  have fin:EP X pins σ Q w s:=⟨z,H,I,rw',q⟩
  exact subscriptTail_builtinR (x:=w) pl.typeIs slot_tuple_getitem.lookup
    (getItem_tuple (j:=j) (Q:=fun r s'=>r=w∧EP X pins σ Q r s') pl (by omega) (by omega) (by rw [List.size_toArray,← hl];exact h1) (by simpa using ew) ⟨rfl,fin⟩) hs
theorem ix_str:IxR X rIxS:=by
  intro value slice pins s σ H x y v u Q I rx ry h hs
  obtain ⟨z,i,c,rfl,rfl,hz,he,q⟩:=h
  obtain ⟨t,rfl⟩:=rx
  obtain ⟨t',rfl⟩:=ry
  obtain ⟨j,h1,h2,h3,h4,h5⟩:=atI_get he
  have hl:z.cps.toList.length=z.length:=by simp [Str.length]
  rw [hl] at h1 h4 h5
  have hn:=line63
  exact tail_any (typeIs_str s z t) slot_str_getitem.lookup (getItem_str (c:=c) (by
    have e1:decide (i < -(2 ^ 63:Int))=false:=decide_eq_false (by omega)
    have e2:decide (i ≥ 2 ^ 63)=false:=decide_eq_false (by omega)
    rw [e1,e2,Bool.or_false]) (by rw [h1];simpa using h2) ⟨.str ⟨#[c]⟩,H,I.tok _,⟨_,rfl⟩,q⟩) hs
def rIx (K:PySem.W.Frag):R2:=fun x y H Q=>rIxL K x y H Q∨rIxT K x y H Q∨rIxS x y H Q
theorem ix_seq:IxR X (rIx X.K):=ix_list.or (ix_tup.or ix_str)
theorem mapSeq_set (its:List Value) (n j:Nat) (u:Value):Obj.mapSeq (·.setIfInBounds j u) { cls:=.type "list", data:=.seq its.toArray n }={ cls:=.type "list", data:=.seq (its.set j u).toArray n }:=by
  simp [Obj.mapSeq]
theorem Inv.lst {pins:List (Addr × Obj)} {σ:St} {H:Hp} {s:Shared} {p:Addr} {xs:List V} (I:Inv X pins σ H s) (h:H p=some (.lst xs)) :
    ∃ (its:List Value) (n:Nat),Vals xs its∧s.heap.get? p=some { cls:=.type "list", data:=.seq its.toArray n }∧xs.length≤sizeLine:=by
  obtain ⟨z,its,n,r,e⟩:=I.hok p _ h
  exact ⟨its,n,r,e,z⟩
theorem Inv.lstUpd {pins:List (Addr × Obj)} {σ:St} {H:Hp} {s:Shared} {p:Addr} {xs ys:List V} {its its':List Value} {n n':Nat} {f:Obj→Obj} (I:Inv X pins σ H s) (h:H p=some (.lst xs))
    (ho:s.heap.get? p=some { cls:=.type "list", data:=.seq its.toArray n }) (hf:f { cls:=.type "list", data:=.seq its.toArray n }={ cls:=.type "list", data:=.seq its'.toArray n' }) (r:Vals ys its') (hz:ys.length≤sizeLine) (t:Nat) :
    Inv X pins σ (upd H p (.lst ys)) { s with heap:=s.heap.update p f,toks:=t }:=by
  have e:(s.heap.update p f).get? p=some { cls:=.type "list", data:=.seq its'.toArray n' }:=by
    rw [Heap.get?_update_self f ho (by rw [hf] <;> rfl),hf]
  refine I.write (x:=p) (e:=p) (by rw [h];trivial) (.inl rfl) (fun b u hb q=>(Heap.get?_update_other _ _ (Ne.symm hb)).trans q) ⟨_,e⟩ ?_
  exact ⟨hz,its',n',r,e⟩
def rSetL:V→V→V→Hp→(Hp→Prop)→Prop:=fun o i v H Q=>∃ p xs k j,o=.ref p∧i=.int k∧H p=some (.lst xs)∧ixN xs.length k=some j∧Q (upd H p (.lst (xs.set j v)))
theorem set_list:PSet X rSetL:=by
  intro pins s σ H o i v ov iv u Q I ro ri rv h
  obtain ⟨p,xs,k,j,rfl,rfl,hp,hj,q⟩:=h
  cases ro
  obtain ⟨t,rfl⟩:=ri
  obtain ⟨its,n,r,ho,hz⟩:=I.lst hp
  obtain ⟨h1,h2,h3,h4⟩:=ixN_seq hj
  have hl:=r.length
  have hn:=line63
  have I':Inv X pins σ (upd H p (.lst (xs.set j v))) { s with heap:=s.heap.update p (Obj.mapSeq (·.setIfInBounds j u)) }:=
    I.lstUpd hp ho (mapSeq_set its n j u) (r.set rv j) (by rw [List.length_set];exact hz) s.toks
  by_cases h0:0≤k
  · have hk:k.toNat=j:=by
      rw [seqIndex_of h0 h4] at h1
      exact Option.some.inj h1
    exact PySem.W.ki_setAt ho h0 (by omega) (by rw [List.size_toArray,← hl];exact h4) (by rw [hk];exact ⟨_,I',q⟩)
  · have hk:(k+(its.toArray.size:Int)).toNat=j:=by
      rw [seqIndex_neg (by omega) h3] at h1
      rw [List.size_toArray,← hl]
      exact Option.some.inj h1
    exact PySem.W.ki_setBack ho (by omega) (by rw [List.size_toArray,← hl];exact h3) (by omega) (by rw [hk];exact ⟨_,I',q⟩)
theorem slice_bounds (lo hi:Option Int) (n:Nat):(sliceBounds lo hi none n).1=((HT.sIx n 0 lo:Nat):Int)∧(sliceBounds lo hi none n).2.1=((HT.sIx n n hi:Nat):Int)∧(sliceBounds lo hi none n).2.2=1:=by
  refine ⟨?_,?_,rfl⟩
  · cases lo with
    | none=>simp [sliceBounds,HT.sIx]
    | some i=>
      simp only [sliceBounds,HT.sIx,Option.getD_none,show (1:Int) > 0 by decide,if_true]
      by_cases h:i < 0
      · simp only [h,if_true] <;> omega
      · simp only [h,if_false] <;> omega
  · cases hi with
    | none=>simp [sliceBounds,HT.sIx]
    | some i=>
      simp only [sliceBounds,HT.sIx,Option.getD_none,show (1:Int) > 0 by decide,if_true]
      by_cases h:i < 0
      · simp only [h,if_true] <;> omega
      · simp only [h,if_false] <;> omega
theorem slicePick_cut (its:List Value) (lo hi:Option Int):slicePick its.toArray lo hi none=((its.drop (HT.sIx its.length 0 lo)).take (HT.sIx its.length its.length hi - HT.sIx its.length 0 lo)).toArray:=by
  obtain ⟨h1,h2,h3⟩:=slice_bounds lo hi its.toArray.size
  unfold slicePick
  rw [h1,h2,h3]
  simp only [sliceRange_one,pick_run,List.size_toArray] <;> rfl
def rSlL (K:PySem.W.Frag):V→Option Int→Option Int→Hp→VK→Prop:=fun x lo hi H Q=>∃ a xs,x=.ref a∧SqL K H a xs∧∀ p,H p=none→Q (.ref p) (upd H p (.lst (cutV xs lo hi)))
theorem sl_list:SlR X (rSlL X.K):=by
  intro pins s σ H x v vl vu lo hi sl Q I rx hs pl pu h
  obtain ⟨a,xs,rfl,hx,q⟩:=h
  cases rx
  obtain ⟨its,r,ht,hz⟩:=I.list hx
  have hlen:=r.length
  refine ⟨"list", _,slot_list_getitem.lookup,ht.isList.typeIs,?_⟩
  refine wpAny_getItem_list_slice ht.isList hs pl pu .none (by simp) ?_ (by rw [List.size_toArray] <;> omega)
  rw [slicePick_cut,← hlen]
  refine ⟨.ref s.heap.objs.size,_,I.laid (t':=s.toks) (o:=.lst (cutV xs lo hi)) (fun b ob q=>Heap.get?_push_of_some _ q) (Nat.le_refl _) ?_,rfl,q _ (I.hok.fresh (Nat.le_refl _))⟩
  exact ⟨Nat.le_trans (cutV_length xs lo hi) hz,_,0,(r.drop (HT.sIx xs.length 0 lo)).take (HT.sIx xs.length xs.length hi - HT.sIx xs.length 0 lo),Heap.get?_push_size _ rfl⟩
def flatV:V→Bool
  | .non=>true
  | .bl _=>true
  | .int _=>true
  | .str _=>true
  | _=>false
def eqV:V→V→Bool
  | .non,.non=>true
  | .bl a,.bl b=>a == b
  | .bl a,.int b=>(if a then 1 else 0) == b
  | .int a,.bl b=>a == (if b then 1 else 0)
  | .int a,.int b=>a == b
  | .str a,.str b=>a == b
  | _,_=>false
theorem eqAt_V {A:Around} {s:Shared} {y x:V} {u v:Value} (ry:RelV y u) (rx:RelV x v) (fy:flatV y=true) (fx:flatV x=true):SeqAt.EqAt A s u v (eqV y x):=by
  cases y with
  | non=>
    cases ry
    cases x with
    | non=>cases rx;exact SeqAt.EqAt.same _
    | bl b=>cases rx;exact SeqAt.EqAt.none_bool b
    | int b=>obtain ⟨t,rfl⟩:=rx;exact SeqAt.EqAt.none_int b t
    | str b=>obtain ⟨t,rfl⟩:=rx;exact SeqAt.EqAt.none_str b t
    | _=>exact absurd (show false=true from fx) Bool.false_ne_true
  | bl a=>
    cases ry
    cases x with
    | non=>cases rx;exact SeqAt.EqAt.bool_none a
    | bl b=>cases rx;exact SeqAt.EqAt.bool_bool a b
    | int b=>obtain ⟨t,rfl⟩:=rx;exact SeqAt.EqAt.bool_int a b t
    | str b=>obtain ⟨t,rfl⟩:=rx;exact SeqAt.EqAt.bool_str a b t
    | _=>exact absurd (show false=true from fx) Bool.false_ne_true
  | int a=>
    obtain ⟨t',rfl⟩:=ry
    cases x with
    | non=>cases rx;exact SeqAt.EqAt.int_none a t'
    | bl b=>cases rx;exact SeqAt.EqAt.int_bool a t' b
    | int b=>obtain ⟨t,rfl⟩:=rx;exact SeqAt.EqAt.int_int a t' b t
    | str b=>obtain ⟨t,rfl⟩:=rx;exact SeqAt.EqAt.int_str a t' b t
    | _=>exact absurd (show false=true from fx) Bool.false_ne_true
  | str a=>
    obtain ⟨t',rfl⟩:=ry
    cases x with
    | non=>cases rx;exact SeqAt.EqAt.str_none a t'
    | bl b=>cases rx;exact SeqAt.EqAt.str_bool a t' b
    | int b=>obtain ⟨t,rfl⟩:=rx;exact SeqAt.EqAt.str_int a t' b t
    | str b=>obtain ⟨t,rfl⟩:=rx;exact SeqAt.EqAt.str_str a t' b t
    | _=>exact absurd (show false=true from fx) Bool.false_ne_true
  | _=>exact absurd (show false=true from fy) Bool.false_ne_true
def eqU (x:V) (u:Value):Bool:=match u with
  | .none=>eqV .non x
  | .bool b=>eqV (.bl b) x
  | .int i _=>eqV (.int i) x
  | .str z _=>eqV (.str z) x
  | _=>false
theorem eqU_of {x y:V} {u:Value} (r:RelV y u) (f:flatV y=true):eqU x u=eqV y x:=by
  cases y with
  | non=>cases r;rfl
  | bl b=>cases r;rfl
  | int i=>obtain ⟨t,rfl⟩:=r;rfl
  | str z=>obtain ⟨t,rfl⟩:=r;rfl
  | _=>exact absurd (show false=true from f) Bool.false_ne_true
theorem mem_eqAt {A:Around} {s:Shared} {x:V} {v:Value} (rx:RelV x v) (fx:flatV x=true):∀ {xs:List V} {us:List Value},Vals xs us→xs.all flatV=true→∀ u∈us,SeqAt.EqAt A s u v (eqU x u)
  | _,_,.nil,_=>fun u hu=>by cases hu
  | y :: xs,u :: us,.cons r t,f=>fun u' hu=>by
    rw [List.all_cons,Bool.and_eq_true] at f
    rcases List.mem_cons.mp hu with rfl | hu
    · rw [eqU_of r f.1];exact eqAt_V r rx f.1 fx
    · exact mem_eqAt rx fx t f.2 u' hu
theorem call_len_seq:CallR X (.builtin "len") (fun xs H Q=>∃ p ys,xs=[.ref p]∧(SqL X.K H p ys∨SqT X.K H p ys)∧Q (.int ys.length) H):=by
  intro pins s σ H xs us Q I r h
  obtain ⟨p,ys,rfl,hq,q⟩:=h
  obtain ⟨u,rfl,rx⟩:=vals1 r
  cases rx
  have hn:=line63
  rcases hq with hq | hq
  · obtain ⟨its,r',pl,hz⟩:=I.list hq
    have hlen:=r'.length
    exact Calls.call_len_list pl.isList (by simp only [List.size_toArray] <;> omega) ⟨.int ys.length,H,I.tok _,⟨s.toks+1,by rw [List.size_toArray,hlen]⟩,q⟩
  · obtain ⟨its,r',pl,hz⟩:=I.tuple hq
    have hlen:=r'.length
    exact len_tuple pl (by simp only [List.size_toArray] <;> omega) ⟨.int ys.length,H,I.tok _,⟨s.toks+1,by rw [List.size_toArray,hlen]⟩,q⟩
theorem call_len_str:CallR X (.builtin "len") (fun xs H Q=>∃ z,xs=[.str z]∧z.length≤sizeLine∧Q (.int z.length) H):=by
  intro pins s σ H xs us Q I r h
  obtain ⟨z,rfl,hz,q⟩:=h
  obtain ⟨u,rfl,t,rfl⟩:=vals1 r
  have hn:=line63
  exact len_str (by omega) ⟨.int z.length,H,I.tok _,⟨_,rfl⟩,q⟩
theorem CallR.or {f:Value} {r r':List V→Hp→VK→Prop} (h:CallR X f r) (h':CallR X f r'):CallR X f (fun xs H Q=>r xs H Q∨r' xs H Q):=by
  intro pins s σ H xs us Q I rs q
  rcases q with q | q
  · exact h pins s σ H xs us Q I rs q
  · exact h' pins s σ H xs us Q I rs q
theorem call_tuple_of:CallR X (.type "tuple") (fun xs H Q=>∃ p ys,xs=[.ref p]∧((SqL X.K H p ys∧∀ l,H l=none→Q (.ref l) (upd H l (.tup ys)))∨(SqT X.K H p ys∧Q (.ref p) H))):=by
  intro pins s σ H xs us Q I r h
  obtain ⟨p,ys,rfl,h⟩:=h
  obtain ⟨u,rfl,rx⟩:=vals1 r
  cases rx
  rcases h with ⟨hq,q⟩ | ⟨hq,q⟩
  · obtain ⟨its,r',pl,hz⟩:=I.list hq
    have hlen:=r'.length
    refine call_tuple_list pl.isList (fun h' kp=>?_) (by simp only [List.size_toArray] <;> omega)
    have I1:Inv X pins σ H { s with heap:=h' }:=I.kept (t':=s.toks) kp
    have I2:Inv X pins σ (upd H h'.objs.size (.tup ys)) { s with heap:=h'.push { cls:=.type "tuple", data:=.seq its.toArray } }:=
      I1.laid (t':=s.toks) (fun b o e=>Heap.get?_push_of_some _ e) (Nat.le_refl _) (show ObjOk X.prog X.w _ _ _ (.tup ys) from ⟨⟨hz,_,Heap.get?_push_size _ rfl,rfl⟩,its,r',IsTup.new _ _⟩)
    exact ⟨.ref h'.objs.size,_,I2,rfl,q _ (I1.hok.fresh (Nat.le_refl _))⟩
  · obtain ⟨its,r',pl,hz⟩:=I.tuple hq
    exact call_tuple_same pl ⟨.ref p,H,I,rfl,q⟩
def tyV (K:PySem.W.Frag) (T:String) (x:V) (H:Hp):Prop:=match x with
  | .str _=>T = "str"
  | .int _=>T = "int"
  | .ref p=>(T = "list" ∧ ∃ xs,SqL K H p xs)∨(T = "tuple" ∧ ∃ o,K.lookup p=some o∧o.cls=.type "tuple" ∧ o.dict=none) ∨
      (T = "dict" ∧ ((∃ kvs,H p=some (.dK kvs))∨∃ kvs,H p=some (.dT kvs)))∨(T = "set" ∧ ∃ S n,H p=some (.set S n))
  | _=>False
theorem tyV_is {pins:List (Addr × Obj)} {σ:St} {H:Hp} {s:Shared} {T:String} {x:V} {v:Value} (I:Inv X pins σ H s) (r:RelV x v) (ty:tyV X.K T x H) :
    s.TypeIs v T∧∀ a,v=.ref a→∃ ob,s.heap.get? a=some ob∧ob.dict=none:=by
  cases x with
  | str z=>
    obtain ⟨t,rfl⟩:=r
    cases (show T = "str" from ty)
    exact ⟨typeIs_str s z t,fun _ e=>nomatch e⟩
  | int i=>
    obtain ⟨t,rfl⟩:=r
    cases (show T = "int" from ty)
    exact ⟨typeIs_int s i t,fun _ e=>nomatch e⟩
  | ref p=>
    cases r
    rcases ty with ⟨rfl,xs,hq⟩ | ⟨rfl,o,hk,hc,hd⟩ | ⟨rfl,hk⟩ | ⟨rfl,S,n,hk⟩
    · obtain ⟨its,_,pl,_⟩:=I.list hq
      refine ⟨pl.isList.typeIs,fun a e=>?_⟩
      cases e
      obtain ⟨o,n,e,c,hd,_⟩:=pl
      exact ⟨o,e,hd⟩
    · refine ⟨⟨o,I.kIn p o hk,hc⟩,fun a e=>?_⟩
      cases e
      exact ⟨o,I.kIn _ o hk,hd⟩
    · have z:∃ o,s.heap.get? p=some o∧o.ExactDict:=by
        rcases hk with ⟨kvs,hk⟩ | ⟨kvs,hk⟩
        · obtain ⟨_,_,_,_,o,_,_,e,ex,_⟩:=I.hok p _ hk
          exact ⟨o,e,ex⟩
        · obtain ⟨_,_,_,_,o,_,_,e,ex,_⟩:=I.hok p _ hk
          exact ⟨o,e,ex⟩
      obtain ⟨o,e,ex⟩:=z
      refine ⟨⟨o,e,ex.1⟩,fun a e2=>?_⟩
      cases e2
      exact ⟨o,e,ex.2.1⟩
    · obtain ⟨o,_,_,_,e,ex,_⟩:=I.hok p _ hk
      refine ⟨⟨o,e,ex.1⟩,fun a e2=>?_⟩
      cases e2
      exact ⟨o,e,ex.2.1⟩
  | _=>exact False.elim ty
def tBM (K:PySem.W.Frag) (T:String) (r:V→List V→Hp→VK→Prop) (to:TE) (t:TA):TE:=fun σ H Q=>to σ H fun x H1=>tyV K T x H1∧t σ H1 fun xs H2=>r x xs H2 Q
variable {o e:Expr} {es:List Expr} {to:TE} {t:TA} {name:Str} {apos cpos:Pos} {T id:String} {r:V→List V→Hp→VK→Prop}
theorem pe_bm (pa:PlainAttrs T) (slot:Slot T name id) (hty:typeOf (.builtin id)=pure (.type "method_descriptor")) (hm:MtR X id r) (ho:PE X o to) (ha:PA X (e :: es) t)
    (hbase:attributeBase o name X.env (eval o X.env)=eval o X.env:=by rfl)
    (hfew:((backTo cpos (starEach (e :: es) X.env)).all (fun x=>!x.1) && (backToKw cpos (keywordEach [] X.env)).all (fun x=>x.1.isSome)
      && decide ((e :: es).length+([]:List Keyword).length+(if ([]:List Keyword).isEmpty then 0 else 1) < 30))=true:=by rfl)
    (hline:(apos.endLine == cpos.line)=true:=by rfl) (hs:starEach (e :: es) X.env=(false,eval e X.env) :: starEach es X.env:=by rfl) (hplain:(backTo cpos (starEach es X.env)).any (·.1)=false:=by rfl) :
    PE X (.Call (.Attribute o name apos) (e :: es) [] cpos) (tBM X.K T r to t):=by
  intro pins s σ H Q I h
  refine wpAny_Call_method_late hbase hfew hline rfl (thn (ho pins s σ H _ I h) fun v s1 ⟨x,H1,I1,r1,ty,q1⟩=>?_)
  obtain ⟨h1,h2⟩:=tyV_is I1 r1 ty
  refine ⟨T,id,pa,slot,hty,h1,h2,?_⟩
  have hA:=ha cpos pins s1 σ H1 _ I1 q1
  rw [hs] at hA ⊢
  refine Calls.callWith_builtin (by show (false || (backTo cpos (starEach es X.env)).any (·.1))=false;rw [hplain] <;> rfl) (Calls.evalArgs_plain ?_)
  exact thn hA fun us s2 ⟨vs,H2,I2,r2,q2⟩=>hm pins s2 σ H2 x vs v us Q I2 r1 r2 q2
/- xs.append(e),list.index on a module's tuple .. are MtR facts of 06m -/
end
end L2
namespace L2
open PySem PySem.Spec PyProof.Rows
def MtM (X:Cx) (id:String) (r:V→List V→Hp→VK→Prop):Prop:=
  ∀ (pins:List (Addr × Obj)) (s:Shared) (σ:St) (H:Hp) (x:V) (xs:List V) (v:Value) (us:List Value) (Q:VK),Inv X pins σ H s→RelV x v→Vals xs us→r x xs H Q →
    wpAny (model X.prog X.w) X.A (call (.builtin id) (v :: us)) (EP X pins σ Q) X.xe s
theorem Vals.one:∀ {x:V} {us:List Value},Vals [x] us→∃ u,us=[u]∧RelV x u
  | _,_,.cons r .nil=>⟨_,rfl,r⟩
theorem Vals.two:∀ {x y:V} {us:List Value},Vals [x,y] us→∃ u v,us=[u,v]∧RelV x u∧RelV y v
  | _,_,_,.cons r (.cons q .nil)=>⟨_,_,rfl,r,q⟩
theorem Vals.zero:∀ {us:List Value},Vals [] us→us=[]
  | _,.nil=>rfl
theorem Vals.dropLast {xs:List V} {us:List Value} (h:Vals xs us):Vals xs.dropLast us.dropLast:=by
  induction h with
  | nil=>exact .nil
  | cons r t ih=>
    cases t with
    | nil=>exact .nil
    | cons q t'=>exact .cons r ih
theorem Vals.reverse {xs:List V} {us:List Value} (h:Vals xs us):Vals xs.reverse us.reverse:=by
  induction h with
  | nil=>exact .nil
  | cons r t ih=>rw [List.reverse_cons,List.reverse_cons];exact Vals.append ih (.cons r .nil)
section
variable {X:Cx} {pins:List (Addr × Obj)} {σ:St} {H:Hp} {s:Shared} {l b:Addr} {xs ys zs:List V}
theorem Inv.lset {its its':List Value} {n:Nat} {f:Array Value→Array Value} {t':Nat} (I:Inv X pins σ H s) (hH:H l=some (.lst xs))
    (e:s.heap.get? l=some { cls:=.type "list", data:=.seq its.toArray n }) (hf:f its.toArray=its'.toArray) (hv:Vals ys its') (hz:ys.length≤sizeLine) :
    Inv X pins σ (upd H l (.lst ys)) { s with heap:=s.heap.update l (Obj.mapSeq f),toks:=t' }:=by
  have q:=PySem.IsL.update e f
  rw [hf] at q
  refine I.write (x:=l) (e:=l) (by rw [hH];exact trivial) (.inl rfl) (fun b' u hb hu=>(Heap.get?_update_other s.heap (Obj.mapSeq f) (Ne.symm hb)).trans hu) ⟨_,q⟩ ?_
  exact ⟨hz,its',_,hv,q⟩
theorem Inv.lnew {its:List Value} {t':Nat} (I:Inv X pins σ H s) (hv:Vals ys its) (hz:ys.length≤sizeLine) :
    Inv X pins σ (upd H s.heap.objs.size (.lst ys)) { s with heap:=s.heap.push { cls:=.type "list", data:=.seq its.toArray },toks:=t' }:=
  I.laid (fun _ _ q=>Heap.get?_push_of_some _ q) (Nat.le_refl _) ⟨hz,its,0,hv,Heap.get?_push_size _ rfl⟩
theorem Inv.fresh (I:Inv X pins σ H s):H s.heap.objs.size=none:=I.hok.fresh (Nat.le_refl _)
theorem Inv.lstM (I:Inv X pins σ H s) (hH:H l=some (.lst xs)):xs.length≤sizeLine∧∃ (its:List Value) (n:Nat),Vals xs its∧xs.length=its.length∧s.heap.get? l=some { cls:=.type "list", data:=.seq its.toArray n }:=by
  obtain ⟨z,its,n,r,e⟩:=I.hok l _ hH
  exact ⟨z,its,n,r,r.length,e⟩
end
section
variable {X:Cx}
def rAppend:V→List V→Hp→VK→Prop:=fun x vs H Q=>∃ l xs y,x=.ref l∧vs=[y]∧H l=some (.lst xs)∧xs.length < sizeLine∧Q .non (upd H l (.lst (xs++[y])))
theorem mt_append:MtM X "list.append" rAppend:=by
  intro pins s σ H x vs v us Q I rx rv h
  obtain ⟨l,xs,y,rfl,rfl,hH,hz,q⟩:=h
  cases rx
  obtain ⟨u,rfl,ru⟩:=rv.one
  obtain ⟨z,its,n,r,hl,e⟩:=I.lstM hH
  refine call_meets F.slot_list_append ⟨_,e,rfl⟩ F.entry_list_append (F.args_list_append_2 _ _) (PySem.list_append l its.toArray n u (by rw [List.size_toArray];omega)) ⟨e,?_⟩
  refine ⟨.non,_,I.lset (its':=its++[u]) hH e (by simp) (r.append (.cons ru .nil)) ?_,rfl,q⟩
  rw [List.length_append,List.length_singleton]
  omega
def rCat:R2:=fun x y H Q=>∃ l b xs zs,x=.ref l∧y=.ref b∧H l=some (.lst xs)∧H b=some (.lst zs)∧xs.length+zs.length≤sizeLine∧∀ p,H p=none→Q (.ref p) (upd H p (.lst (xs++zs)))
theorem op_cat:OpR X (binaryOp .Add) rCat:=by
  intro pins s σ H x y v u Q I rx ry h
  obtain ⟨l,b,xs,zs,rfl,rfl,hH,hB,hz,q⟩:=h
  cases rx
  cases ry
  obtain ⟨z,its,n,r,hl,e⟩:=I.lstM hH
  obtain ⟨z2,its2,n2,r2,hl2,e2⟩:=I.lstM hB
  refine PySem.P.add_list e e2 ?_ (by rw [List.size_toArray,List.size_toArray];omega)
  have ea:its.toArray++its2.toArray=(its++its2).toArray:=by simp
  rw [ea]
  exact ⟨.ref _,_,I.lnew (t':=s.toks) (r.append r2) (by rw [List.length_append];omega),rfl,q _ I.fresh⟩
end
section
variable {prog:Program} {w:World} {A:Around} {E:Value→Shared→Prop} {s:Shared}
end
section
variable {X:Cx}
end
end L2
namespace Att
open PySem PySem.W PySem.Calls PyProof.Rows
theorem ints_of_wellAll {P:Params} {h:Heap}:∀ (ns:List Int) (vs:List Value),WellAll P h vs (ns.map WData.int)→IntsAre vs ns:=by
  intro ns
  induction ns with
  | nil=>
    intro vs w
    rw [List.map_nil] at w
    cases w
    exact .nil
  | cons n ns ih=>
    intro vs w
    rw [List.map_cons] at w
    cases w with
    | cons a b=>
      cases a
      exact .cons _ _ (ih _ b)
theorem script_of {l:OpenLaw} {n:Nat} (hn:l.most=some n) {P:Params} {h:Heap} {args:List WData} {vals:List Value}
    (hpre:l.row.toRowW.claim.pre args=true) (hwl:WellAll P h vals args) :
    ∃ a vs ns,vals=[Value.ref a]∧args=[WData.list (ns.map WData.int)]∧h.get? a=some { cls:=.type "list", data:=.seq vs.toArray }∧IntsAre vs ns∧ns.length≤n:=by
  have hsh:WShape.hasAll [] args [.list .int]=true:=(pre_splitW hpre).1
  have hc:l.pre.holds [] { args:=args }=true:=(pre_splitW hpre).2
  obtain ⟨d,r,rfl,h1,h2⟩:=hasAllW_cons hsh
  obtain rfl:=hasAllW_nil h2
  obtain ⟨xs,rfl,h3⟩:=hasW_list h1
  obtain ⟨ns,rfl⟩:=items_int h3
  have hlen:ns.length≤n:=by
    unfold OpenLaw.pre at hc
    have h4:(WTm.not (.lt (.lit (.int (n:Int))) (.len (.arg 0)))).holds [] { args:=[.list (ns.map .int)] }=true:=by
      have h4:=(holds_andW hc).1
      rw [hn] at h4
      exact h4
    have h5:=condW_of h4 (w_not (w_lt w_lit (w_len_list (w_arg rfl))))
    rw [List.length_map] at h5
    refine Nat.le_of_not_lt fun q=>?_
    have q':(n:Int) < ((ns.length:Nat):Int):=by omega
    first
      | (rw [decide_eq_true q'] at h5;exact absurd h5 (by decide))
      | (simp at h5;omega)
  cases hwl with
  | cons w1 w2=>
    cases w2
    cases w1 with
    | list ho hall=>exact ⟨_,_,ns,rfl,rfl,ho,ints_of_wellAll ns _ hall,hlen⟩
theorem post_true (l:OpenLaw) (args:List WData):l.row.toRowW.claim.post args (.bool true) args=true:=
  postW_of (r:=l.row.toRowW) (X:=(true == true))
    (show WShape.has [] (.bool true) .bool=true by first | rfl | decide | simp [WShape.has,WShape.arms,WShape.armsAll])
    (show (WTm.eq .res (.lit (.bool true))).value [] { args:=args,res:=some (.bool true),after:=args }=some (.bool (true == true)) from w_eq_bool (w_res rfl) w_lit) rfl
theorem attach_call {l:OpenLaw} {n:Nat} {q:Program} {loose:List Str} {XP:(Str→Option Value)→Heap→Prop} {YP:World→Heap→Prop} {d:DefRec}
    (hn:l.most=some n) (hdf:d.params.defaults=[])
    (call:∀ (w:World) (s₀ s₁:Shared) (mg mb:Str→Option Value) (fa:Addr) (o:Obj) (pm cd doc:Value) (a:Addr) (vs:List Value) (ns:List Int),
      Ground q loose [] XP w s₀ mg mb s₁.heap→YP w s₁.heap →
      s₁.heap.get? fa=some o→o.data=.func (docDef d.name d.params d.body d.scope pm cd doc)→s₁.heap.CodeRec cd d.name→mg d.name=some (.ref fa) →
      s₁.heap.get? a=some { cls:=.type "list", data:=.seq vs.toArray }→IntsAre vs ns→ns.length≤n→s₁.gens=#[] →
      codeAny (model l.prog w) callerA (.call (.ref fa) ⟨[.ref a],[]⟩) (fun r s'=>r=.ok (.ret (.bool true))∧OldK s₁.heap s'.heap∧s'.os=s₁.os∧AllBare s'.gens) s₁) :
    WalkO q loose XP YP l.row.toRowW d [] (fun f vs=>PySem.call f vs):=by
  intro w s₀ s₁ mg mb G Y fa o pm cd doc dV kV ho hd hcd hD hmg hg args vals as hpre hlay hrd hwl hlo
  obtain rfl:dV=.none:=Dflts.none hD hdf
  obtain rfl:kV=.none:=Dflts.noKw hD
  obtain ⟨a,vs,ns,rfl,rfl,hobj,hints,hlen⟩:=script_of hn hpre hwl
  refine enter_call (codeAny_mono (call w s₀ s₁ mg mb fa o pm cd doc a vs ns G Y ho (fd_plain hd) hcd hmg hobj hints hlen hg) fun r s' hq=>?_)
  obtain ⟨rfl,h2,h3,h4⟩:=hq
  exact ⟨.inl ⟨.bool true,.bool true,[],rfl,fun _=>rfl,.bool true,post_true l _,fun _=>⟨List.Pairwise.nil,fun _ hm=>(nomatch hm)⟩⟩,h2,h3,h4⟩
section
variable {prog:Program} {w:World} {A:Around} {E:Value→Shared→Prop} {s:Shared} {K:Frag}
def ledger (h:Heap) (L d:Addr):List (Addr × Obj):=(List.range h.objs.size).filterMap fun a=>if a=L∨a=d then none else (h.get? a).map fun o=>(a,o)
end
end Att
namespace L2
open PySem PySem.Spec PyProof.Rows
theorem vals_ints:∀ {vs:List Value} {ns:List Int},IntsAre vs ns→Vals (ns.map V.int) vs
  | _,_,.nil=>.nil
  | _,_,.cons n t h=>.cons ⟨t,rfl⟩ (vals_ints h)
end L2
namespace L2
open PySem PySem.Spec PyProof.Rows
abbrev KOf {K:PySem.W.Frag} {h:Heap} (_:K.In h):PySem.W.Frag:=K
end L2
namespace L2
open PySem PySem.Spec PyProof.Rows
def defArgs (s:Stmt):Arguments:=match s with
  | .FunctionDef _ a _ _ _ _ _ _ _ _=>a
  | _=>{ posonlyargs:=[],args:=[],vararg:=none,kwonlyargs:=[],kw_defaults:=[],kwarg:=none,defaults:=[] }
def defBody (s:Stmt):List Stmt:=match s with
  | .FunctionDef _ _ b _ _ _ _ _ _ _=>b
  | _=>[]
def defScope (s:Stmt):Scope:=match s with
  | .FunctionDef _ _ _ _ _ _ sc _ _ _=>sc
  | _=>{ kind:=.function,names:=[],isGenerator:=false,isCoroutine:=false }
abbrev CX0:CXT:=fun _ _ _ _ _ _=>False
abbrev E0:XK:=fun _ _ _=>False
theorem pass0 {X:Cx}:Passes CX0 X E0:=fun _ _ _ _ _ _ _ h=>h.elim
structure Fun (K:PySem.W.Frag) (x qual:Str) (st:Stmt) (f:Addr) (fd:FuncData):Prop where
  ex:∃ (oc:Value) (od:Option Addr) (kV doc pm:Value) (an:Option Addr) (cdv ct:Value) (osl:Array (Option Value)),
    fd=PySem.W.fnOf x qual (defArgs st) (defBody st) (defScope st) .none kV doc pm an cdv ct∧K.lookup f=some ⟨oc,od,.func fd,osl⟩∧PySem.W.codeIn K cdv qual=true
  kp:PySem.W.keepIn K (.ref f)=true
section
variable {P:Program} {w:World} {K:PySem.W.Frag} {mg:Str→Option Value} {base:Heap}
theorem Fun.ok {x qual:Str} {st:Stmt} {f:Addr} {fd:FuncData} {N ps:List Str} {k:Nat} {sp:Sp} (F:Fun K x qual st f fd) (S:FnScope N ps (defScope st)) (len:∀ vs H Q E,sp vs H Q E→vs.length=ps.length)
    (hbody:∀ (cdv:Value) (A:Around) (outer:List Env) (s:Shared) (H:Hp) (vs:List V) (Q:VK) (E:XK),Room k (A.deeper (envOfC qual (defScope st) s.heap.objs.size f cdv))→sp vs H Q E →
      ∃ t,PSs (cxOf CX0 P w K mg base N qual (defScope st) f cdv A outer s H E).nox (defBody st) t∧t { nx:=fun _ H'=>Q .non H',rt:=Q } (start N vs) H):FnOk P w K mg base CX0 (k+1) f fd ps sp:=by
  obtain ⟨oc,od,kV,doc,pm,an,cdv,ct,osl,rfl,lk,hcd⟩:=F.ex
  refine fn_of lk hcd S len fun A outer s H vs Q E hr hsp=>?_
  obtain ⟨t,h,q⟩:=hbody cdv A outer s H vs Q E hr hsp
  exact ⟨t,h.nox,q⟩
theorem Fun.binds {x qual:Str} {st:Stmt} {f:Addr} {fd:FuncData} {ps:List Str} (F:Fun K x qual st f fd)
    (h:∀ (kV doc pm:Value) (an:Option Addr) (cdv ct:Value) (us:List Value),us.length=ps.length→bindArgs (PySem.W.fnOf x qual (defArgs st) (defBody st) (defScope st) .none kV doc pm an cdv ct) ⟨us,[]⟩=pure (ps.zip us)):Binds K fd ps []:=by
  obtain ⟨oc,od,kV,doc,pm,an,cdv,ct,osl,rfl,lk,hcd⟩:=F.ex
  exact .all (h kV doc pm an cdv ct)
theorem fun_mk {x qual:Str} {st:Stmt} {f:Addr} {oc:Value} {od an:Option Addr} {osl:Array (Option Value)} {kV doc pm cdv ct:Value} (l:K.lookup f=some ⟨oc,od,.func (PySem.W.fnOf x qual (defArgs st) (defBody st) (defScope st) .none kV doc pm an cdv ct),osl⟩)
    (c:PySem.W.codeIn K cdv qual=true) (k:PySem.W.keepIn K (.ref f)=true):Fun K x qual st f (PySem.W.fnOf x qual (defArgs st) (defBody st) (defScope st) .none kV doc pm an cdv ct):=⟨⟨oc,od,kV,doc,pm,an,cdv,ct,osl,rfl,l,c⟩,k⟩
end
theorem small1000 {n:Nat} (h:n≤1000):n < sizeLine:=Nat.lt_of_le_of_lt h (by decide)
section
variable {X:Cx}
theorem pv (i:Nat) {x:Str} {pos:Pos} (hN:X.N[i]?=some x:=by rfl) (hv:Vis X.env.scope x:=by first | exact Or.inl rfl | exact Or.inr (Or.inl rfl) | exact Or.inr (Or.inr rfl)) (hd:(x == ("__debug__" : Str))=false:=by decide)
    (hcd:(x == ("__classdict__" : Str))=false:=by decide):PE X (.Name x pos) (tVar i):=pe_var hN hv hd hcd
end
theorem iteF {A B:Prop} (h:B):if false=true then A else B:=by
  rw [if_neg Bool.false_ne_true]
  exact h
theorem iteT {A B:Prop} (h:A):if true=true then A else B:=by
  rw [if_pos rfl]
  exact h
theorem ite2 {c A B:Prop} [Decidable c] (h1:c→A) (h2:¬ c→B):if c then A else B:=by
  by_cases h:c
  · rw [if_pos h]
    exact h1 h
  · rw [if_neg h]
    exact h2 h
def Same (H H':Hp):Prop:=∀ b o,H b=some o→H' b=some o
theorem Same.refl (H:Hp):Same H H:=fun _ _ h=>h
theorem Same.trans {H H1 H2:Hp} (a:Same H H1) (b:Same H1 H2):Same H H2:=fun c o h=>b c o (a c o h)
theorem Same.free {H H':Hp} (e:Same H H') {l:Addr} (h:H' l=Option.none):H l=Option.none:=by
  cases q:H l with
  | none=>rfl
  | some o=>
    rw [e l o q] at h
    cases h
theorem Same.seq {K:PySem.W.Frag} {H H':Hp} {a:Addr} {xs:List V} (e:Same H H') (h:SqL K H a xs):SqL K H' a xs:=by
  rcases h with (h | ⟨o,h⟩) | h
  · exact .inl (.inl (e _ _ h))
  · exact .inl (.inr ⟨o,e _ _ h⟩)
  · exact .inr h
end L2
set_option maxHeartbeats 16000000
namespace L2
open PySem PySem.Spec PyProof.Rows
theorem lookup_mem {α:Type}:∀ {cl:List (Str × α)} {x:Str} {c:α},cl.lookup x=some c→(x,c)∈cl
  | [],_,_,h=>by simp at h
  | (y,d) :: r,x,c,h=>by
    rw [List.lookup_cons] at h
    cases e:x == y with
    | true=>
      rw [e] at h
      have e':x=y:=eq_of_beq e
      cases h
      rw [e'];exact List.mem_cons_self
    | false=>
      rw [e] at h
      exact List.mem_cons_of_mem _ (lookup_mem h)
theorem lookup_of_mem {α:Type}:∀ {cl:List (Str × α)} {x:Str} {c:α},(x,c)∈cl→∃ c',cl.lookup x=some c'
  | [],_,_,h=>nomatch h
  | (y,d) :: r,x,c,h=>by
    rw [List.lookup_cons]
    cases e:x == y with
    | true=>exact ⟨d,rfl⟩
    | false=>
      rcases List.mem_cons.mp h with h | h
      · cases h
        simp at e
      · exact lookup_of_mem h
theorem closure_go {env:Env} {f:(Str × NameKind)→List (Str × Addr)→Sem (ForInStep (List (Str × Addr)))}
    (h1:∀ x k cs,k≠NameKind.free→f (x,k) cs=pure (.yield cs)) (h2:∀ x cs c,env.cells.lookup x=some c→f (x,NameKind.free) cs=pure (.yield ((x,c) :: cs))) :
    ∀ (names:List (Str × NameKind)) (acc:List (Str × Addr)),(∀ x,(x,NameKind.free)∈names→∃ c,env.cells.lookup x=some c) →
      ∃ cl,forIn names acc f=pure cl∧(∀ p∈cl,p∈acc∨env.cells.lookup p.1=some p.2)∧(∀ p∈acc,p∈cl)∧∀ x,(x,NameKind.free)∈names→∃ c,(x,c)∈cl
  | [],acc,_=>⟨acc,rfl,fun _ h=>.inl h,fun _ h=>h,fun _ h=>nomatch h⟩
  | (x,k) :: r,acc,h=>by
    by_cases hk:k=NameKind.free
    · subst hk
      obtain ⟨c,hc⟩:=h x List.mem_cons_self
      obtain ⟨cl,e,a,b,d⟩:=closure_go h1 h2 r ((x,c) :: acc) fun y hy=>h y (List.mem_cons_of_mem _ hy)
      refine ⟨cl,?_,fun p hp=>?_,fun p hp=>b p (List.mem_cons_of_mem _ hp),fun y hy=>?_⟩
      · rw [List.forIn_cons,h2 x acc c hc,pure_bind];exact e
      · rcases a p hp with q | q
        · rcases List.mem_cons.mp q with q | q
          · subst q;exact .inr hc
          · exact .inl q
        · exact .inr q
      · rcases List.mem_cons.mp hy with q | q
        · cases q;exact ⟨c,b _ List.mem_cons_self⟩
        · exact d y q
    · obtain ⟨cl,e,a,b,d⟩:=closure_go h1 h2 r acc fun y hy=>h y (List.mem_cons_of_mem _ hy)
      refine ⟨cl,?_,a,b,fun y hy=>?_⟩
      · rw [List.forIn_cons,h1 x k acc hk,pure_bind];exact e
      · rcases List.mem_cons.mp hy with q | q
        · cases q;exact absurd rfl hk
        · exact d y q
theorem closure_ok {scope:Scope} {env:Env} (h:∀ x,(x,NameKind.free)∈scope.names→∃ c,env.cells.lookup x=some c) :
    ∃ cl,closureFor scope env=pure cl∧(∀ x c,cl.lookup x=some c→env.cells.lookup x=some c)∧∀ x,(x,NameKind.free)∈scope.names→∃ c,cl.lookup x=some c:=by
  have go:=closure_go (env:=env) (f:=fun x cs=>match x with | (name,kind)=>if (kind == NameKind.free)=true then do let a ← cellOf env name;pure (.yield ((name,a) :: cs)) else pure (.yield cs))
    (fun x k cs hk=>by
      have:(k == NameKind.free)=false:=by simpa using hk
      simp only [this,Bool.false_eq_true,if_false])
    (fun x cs c hc=>by
      simp only [beq_self_eq_true,if_true]
      unfold cellOf
      rw [hc,pure_bind])
    scope.names [] h
  obtain ⟨cl,e,a,_,d⟩:=go
  refine ⟨cl,?_,fun x c hx=>?_,fun x hx=>?_⟩
  · unfold closureFor
    simp only [bind_pure]
    exact e
  · rcases a _ (lookup_mem hx) with q | q
    · exact nomatch q
    · exact q
  · obtain ⟨c,hc⟩:=d x hx
    exact lookup_of_mem hc
theorem relabel_lookup {env:Env} {x:Str} {k:NameKind}:∀ {names:List (Str × NameKind)},
    (names.map fun (n,k)=>if (k == NameKind.free && env.scope.kind == .function && env.kindOf n == some .cell) then (n,NameKind.cell) else (n,k)).lookup x=some k →
      names.lookup x=some k∨(k=.cell∧names.lookup x=some .free)
  | [],h=>by simp at h
  | (n,j) :: r,h=>by
    have ih:=@relabel_lookup env x k r
    rw [List.lookup_cons]
    change List.lookup x ((if (j == NameKind.free && env.scope.kind == .function && env.kindOf n == some .cell)=true then (n,NameKind.cell) else (n,j)) :: _)=_ at h
    by_cases hc:(j == NameKind.free && env.scope.kind == .function && env.kindOf n == some .cell)=true
    · rw [if_pos hc,List.lookup_cons] at h
      have hj:j=NameKind.free:=by
        simp only [Bool.and_eq_true] at hc
        exact eq_of_beq hc.1.1
      cases hx:x == n with
      | true=>rw [hx] at h;cases h;exact .inr ⟨rfl,by rw [hj]⟩
      | false=>rw [hx] at h;exact ih h
    · rw [if_neg hc,List.lookup_cons] at h
      cases hx:x == n with
      | true=>rw [hx] at h;exact .inl h
      | false=>rw [hx] at h;exact ih h
def cxComp (X:Cx) (scope:Scope) (NL:List Str) (ix:List Nat) (cl:List (Str × Addr)) (C:Addr) (s₃:Shared) (H₃:Hp) (fp:List Addr) (pins:List (Addr × Obj)):Cx where
  prog:=X.prog
  w:=X.w
  K:=X.K
  mg:=X.mg
  base:=X.base
  A:=X.A
  N:=NL++ix.map fun j=>X.N.getD j ""
  s₀:=s₃
  H₀:=H₃
  env:=compEnvC scope cl C X.env
  outer:=X.stack
  stack:=X.stack
  ex:=fp
  fn:=fun _=>false
  calm:=X.calm
  pn:=X.pn++pins
  xe:=fun _ _=>False
def comp0 (NL:List Str) (ix:List Nat) (σ:St):St:=NL.map (fun _=>none)++ix.map fun j=>σ.getD j none
def PIfs (X:Cx) (ifs:List Expr) (t:TT):Prop:=
  ∀ (pins:List (Addr × Obj)) (s:Shared) (σ:St) (H:Hp) (Q:Bool→Hp→Prop),Inv X pins σ H s→t σ H Q →
    wpAny (model X.prog X.w) X.A (forIn ifs true fun c r=>if r=true then do let ok ← isTrue c X.env (eval c X.env);pure (ForInStep.yield ok) else pure (ForInStep.yield r)) (TP X pins σ Q) X.xe s
def tYes:TT:=fun _ H Q=>Q true H
theorem pifs_nil {X:Cx}:PIfs X [] tYes:=fun _ _ _ H _ I h=>wpAny_tests_nil ⟨H,I,h⟩
theorem pifs_one {X:Cx} {c:Expr} {t:TT} (h:PT X c t):PIfs X [c] t:=fun pins s σ H Q I q=>wpAny_tests_one (h pins s σ H Q I q)
def tComp (NL:List Str) (ix:List Nat) (wi:TI) (g:TG) (tt:TT) (te:TE):TE:=fun σ H Q=>
  wi σ H fun J H1=>∀ acc,H1 acc=none→∃ W:Nat→Nat→List V→Hp→Prop,(∃ m,W 0 m [] (upd H1 acc (.lst []))) ∧
    ∀ i m ys H2,W i m ys H2→H2 acc=some (.lst ys)∧ys.length < sizeLine ∧
      ((J.stop i H2∧Q (.ref acc) H2)∨(J.go i H2∧∃ N:List V→Hp→Prop,(∀ ys' H',N ys' H'→∃ m',m' < m∧W (i+1) m' ys' H') ∧
        ∀ x H3,J.yld i H2 x H3→g x (comp0 NL ix σ) H3 fun σ' H4=>σ'.drop NL.length=ix.map (fun j=>σ.getD j none)∧tt σ' H4 fun b H5=>
          if b=true then te σ' H5 fun v H6=>H6 acc=some (.lst ys)∧N (ys++[v]) (upd H6 acc (.lst (ys++[v]))) else N ys H5))
section
variable {X:Cx} {pins:List (Addr × Obj)} {σ:St} {H:Hp} {s:Shared}
structure CompScope (X:Cx) (scope:Scope) (NL:List Str) (ix:List Nat):Prop where
  kind:scope.kind=.function
  cell:∀ y∈scope.names,y.2≠.cell
  names:∀ y∈scope.names,y.2=.local→scope.names.lookup y.1=some .local
  free:∀ y∈scope.names,y.2=.free→X.env.kindOf y.1=some .cell∨X.env.kindOf y.1=some .free
  cap:∀ j∈ix,∃ x,X.N[j]?=some x∧scope.names.lookup x=some .free
theorem comp_inv {scope:Scope} {NL:List Str} {ix:List Nat} {cl:List (Str × Addr)} {fp:List Addr} {tn:Nat→Heap→Prop} {s₃:Shared} {h₁:Heap} {m:Str→Option Value} {tk:Nat}
    (S:CompScope X scope NL ix) (I:Inv X pins σ H s₃) (c1:∀ x c,cl.lookup x=some c→X.env.cells.lookup x=some c) (c2:∀ x,(x,NameKind.free)∈scope.names→∃ c,cl.lookup x=some c)
    (hf:∀ b∈fp,FpOk X pins H b) (ho:∀ b∈fp,∃ o,s₃.heap.get? b=some o) (hn:h₁.Ns s₃.heap.objs.size m) (old:∀ b o,s₃.heap.get? b=some o→h₁.get? b=some o) :
    Inv (cxComp X scope NL ix cl s₃.heap.objs.size s₃ H fp pins) [] (comp0 NL ix σ) H { s₃ with heap:=h₁,toks:=tk }:=by
  have e0:=I.env0
  have lt:∀ b o,s₃.heap.get? b=some o→b≠s₃.heap.objs.size:=fun b o e=>Nat.ne_of_lt (Heap.lt_size e)
  have nst:∀ b,b≠X.env.locals→b ∉ X.fs→b ∉ frs X.stack:=fun b h1 h2 h3=>(List.mem_cons.mp (I.stkSub b h3)).elim h1 h2
  have ok:(cxComp X scope NL ix cl s₃.heap.objs.size s₃ H fp pins).Ok:=
    { mod:=I.ok.mod
      kind:=S.kind
      glob:=I.ok.glob
      blt:=I.ok.blt
      above:=Nat.le_refl _
      inj:=fun x y c h1 h2=>I.ok.inj x y c (c1 x c h1) (c1 y c h2)
      has:=fun x hx=>by
        have hfree:scope.names.lookup x=some .free:=by
          rcases hx with hx | hx
          · rcases relabel_lookup hx with q | ⟨_,q⟩
            · exact absurd rfl (S.cell _ (lookup_mem q))
            · exact q
          · rcases relabel_lookup hx with q | ⟨z,_⟩
            · exact q
            · cases z
        exact c2 x (lookup_mem hfree)
      cab:=fun _ _ z=>nomatch z
      hd:=I.ok.hd
      frames:=I.ok.frames
      stk:=.inl rfl
      exf:=fun b hb=>⟨let ⟨o,e⟩:=ho b hb;lt b o e,fun x c hx=>(hf b hb).2.2.2.2.1 x c (c1 x c hx)⟩
      bs:=I.bs
      bsz:=e0.bsz
      noex:=fun b o e hb=>by
        rcases (hf b hb).2.2.2.1 with z | z
        · exact I.ok.noex b o e z
        · exact absurd (Nat.lt_of_lt_of_le (Heap.lt_size e) (Nat.le_trans I.ok.bsz z)) (Nat.lt_irrefl _)
      exfs:=fun b hb=>nst b (hf b hb).2.1 (hf b hb).2.2.1
      funs:=e0.funs
      frf:=e0.frf }
  refine ⟨ok,rfl,I.bare,Un.kept old,⟨m,hn,fun i x v e1 e2 e3=>?_⟩,fun x c e=>?_,I.hok.fresh (Nat.le_refl _),fun x c e=>I.freeC x c (c1 x c e),fun p hp=>?_,I.hok.kept old,?_⟩
  · have hl:NL.length≤i:=by
      rcases Nat.lt_or_ge i NL.length with z | z
      · exfalso
        unfold comp0 at e2
        rw [List.getElem?_append_left (by simpa using z),List.getElem?_map] at e2
        cases q:NL[i]? with
        | none=>rw [q] at e2;cases e2
        | some y=>rw [q] at e2;cases e2
      · exact z
    unfold comp0 at e2
    rw [List.getElem?_append_right (by simpa using hl),List.length_map,List.getElem?_map] at e2
    change (NL++ix.map fun j=>X.N.getD j "")[i]?=some x at e1
    rw [List.getElem?_append_right hl,List.getElem?_map] at e1
    cases q:ix[i - NL.length]? with
    | none=>rw [q] at e1;cases e1
    | some j=>
      rw [q] at e1 e2
      have e1':X.N.getD j "" = x:=Option.some.inj e1
      have e2':σ.getD j none=some v:=Option.some.inj e2
      obtain ⟨x',hx',hfr⟩:=S.cap j (List.mem_of_getElem? q)
      have exx:x'=x:=by
        rw [← e1',List.getD_eq_getElem?_getD,hx'];rfl
      subst exx
      have hσ:σ[j]?=some (some v):=by
        rw [List.getD_eq_getElem?_getD] at e2'
        cases z:σ[j]? with
        | none=>rw [z] at e2';cases e2'
        | some o=>rw [z] at e2';exact congrArg some e2'
      have kd:=S.free _ (lookup_mem hfr) rfl
      have vis:Vis X.env.scope x':=by
        rcases kd with z | z
        · exact .inr (.inl z)
        · exact .inr (.inr z)
      obtain ⟨m',hn',hl'⟩:=I.loc
      obtain ⟨u,r,l⟩:=hl' j x' v hx' hσ vis
      refine ⟨u,r,.inr ?_⟩
      have hk':(compEnvC scope cl s₃.heap.objs.size X.env).kindOf x'=some .cell∨(compEnvC scope cl s₃.heap.objs.size X.env).kindOf x'=some .free:=by
        rcases e3 with z | z | z
        · rcases relabel_lookup z with w | ⟨w,_⟩
          · rw [hfr] at w;cases w
          · cases w
        · exact .inl z
        · exact .inr z
      refine ⟨hk',?_⟩
      obtain ⟨c,hc⟩:=c2 x' (lookup_mem hfr)
      rcases l with ⟨k,_⟩ | ⟨k,c',ec,o,ho',hd⟩
      · rcases kd with z | z
        · rw [k] at z;cases z
        · rw [k] at z;cases z
      · have:c'=c:=by
          have:=c1 x' c hc
          rw [ec] at this
          exact Option.some.inj this
        subst this
        exact ⟨c',hc,o,old _ _ ho',hd⟩
  · obtain ⟨v,o,ho',hd⟩:=I.cell x c (c1 x c e)
    exact ⟨v,o,old _ _ ho',hd⟩
  · have hp':p∈X.pn++pins:=by
      rcases List.mem_append.mp hp with z | z
      · exact z
      · exact nomatch z
    obtain ⟨e,n,ne,nf,d⟩:=I.pin p hp'
    exact ⟨old _ _ e,n,lt _ _ e,nst _ ne nf,d⟩
  · show (NL.map (fun _=>(none:Option V))++ix.map fun j=>σ.getD j none).length=(NL++ix.map fun j=>X.N.getD j "").length
    simp
theorem comp_run {scope:Scope} {NL:List Str} {ix:List Nat} {elt tg iter:Expr} {ifs:List Expr} {pos:Pos} {g:TG} {tt:TT} {te:TE} {cl:List (Str × Addr)} {fp:List Addr} {it:Addr} {tn:Nat→Heap→Prop} {J:It} {Q:VK}
    {E:Value→Shared→Prop} {RR:Value→Addr→Result→Shared→Prop}
    (hc:X.calm=true) (S:CompScope X scope NL ix) (c1:∀ x c,cl.lookup x=some c→X.env.cells.lookup x=some c) (c2:∀ x,(x,NameKind.free)∈scope.names→∃ c,cl.lookup x=some c)
    (hb:∀ (cl:List (Str × Addr)) (C:Addr) (s₃:Shared) (H₃:Hp) (fp:List Addr) (pins:List (Addr × Obj)),PG (cxComp X scope NL ix cl C s₃ H₃ fp pins) tg g∧PIfs (cxComp X scope NL ix cl C s₃ H₃ fp pins) ifs tt∧PE (cxComp X scope NL ix cl C s₃ H₃ fp pins) elt te)
    (I:Inv X pins σ H s) (T:Turn X.prog X.w X.K tg J fp it tn) (st:tn 0 s.heap) (hf:∀ b∈fp,FpOk X pins H b)
    (q:∀ acc,H acc=none→∃ W:Nat→Nat→List V→Hp→Prop,(∃ m,W 0 m [] (upd H acc (.lst []))) ∧
      ∀ i m ys H2,W i m ys H2→H2 acc=some (.lst ys)∧ys.length < sizeLine ∧
      ((J.stop i H2∧Q (.ref acc) H2)∨(J.go i H2∧∃ N:List V→Hp→Prop,(∀ ys' H',N ys' H'→∃ m',m' < m∧W (i+1) m' ys' H') ∧
        ∀ x H3,J.yld i H2 x H3→g x (comp0 NL ix σ) H3 fun σ' H4=>σ'.drop NL.length=ix.map (fun j=>σ.getD j none)∧tt σ' H4 fun b H5=>
          if b=true then te σ' H5 fun v H6=>H6 acc=some (.lst ys)∧N (ys++[v]) (upd H6 acc (.lst (ys++[v]))) else N ys H5)))
    (hRR:∀ (acc C:Addr) (H':Hp) (s':Shared) (m':Str→Option Value),Inv X pins σ H' s'→s'.heap.Ns C m'→FpOk X pins H' C→Q (.ref acc) H'→RR (.ref acc) C (.ok .next) s') :
    wpAny (model X.prog X.w) X.A (newList []) (fun acc s₃=>wpAny (model X.prog X.w) X.A (newFunctionEnv scope X.env.globals cl [] X.env.qual none .none (some X.env)) (fun cenv s₄=>
      codeAny (model X.prog X.w) X.A (.compStart (.ListComp elt [⟨tg,iter,ifs,0⟩] scope pos) 0 (.ref it) acc { cenv with scope:=relabel scope X.env }) (RR acc cenv.locals) s₄) E s₃) E s:=by
  refine wpAny_newObj_type (wpAny_newFunctionEnv S.cell (by intro y hy;simp at hy) (fun h₁ hns₁ hsb₁=>?_) S.kind)
  have I3:Inv X pins σ (upd H s.heap.objs.size (.lst [])) { s with heap:=s.heap.push { cls:=.type "list", data:=.seq ([]:List Value).toArray },toks:=s.toks }:=I.lnew (its:=[]) .nil (Nat.zero_le _)
  have hfr:H s.heap.objs.size=none:=I.hok.fresh (Nat.le_refl _)
  generalize hs3:({ s with heap:=s.heap.push { cls:=.type "list", data:=.seq ([]:List Value).toArray },toks:=s.toks }:Shared)=s₃ at I3
  have hsz:s₃.heap.objs.size=s.heap.objs.size+1:=by rw [← hs3];exact Heap.size_push ..
  have old1:∀ b o,s.heap.get? b=some o→s₃.heap.get? b=some o:=fun b o e=>by rw [← hs3];exact Heap.get?_push_of_some _ e
  have key:codeAny (model X.prog X.w) X.A (.compStart (.ListComp elt [⟨tg,iter,ifs,0⟩] scope pos) 0 (.ref it) (.ref s.heap.objs.size) (compEnvC scope cl s₃.heap.objs.size X.env))
      (RR (.ref s.heap.objs.size) s₃.heap.objs.size) { s₃ with heap:=h₁,toks:=s₃.toks+0 }:=by
    have hns:h₁.Ns s₃.heap.objs.size (fun _=>none):=by
      have:=hns₁
      rw [← hs3]
      exact this
    have hsb:Heap.SameBut s₃.heap.objs.size (s₃.heap.push { cls:=.type "dict", data:=.dict #[] }) h₁:=by
      have:=hsb₁
      rw [← hs3]
      exact this
    have old:∀ b o,s₃.heap.get? b=some o→h₁.get? b=some o:=fun b o e=>hsb.extBut b o (Nat.ne_of_lt (Heap.lt_size e)) (Heap.get?_push_of_some _ e)
    have hf3:∀ b∈fp,FpOk X pins (upd H s.heap.objs.size (.lst [])) b:=fun b hb'=>by
      obtain ⟨o,e,_⟩:=T.obj 0 _ st b hb'
      have ne:b≠s.heap.objs.size:=Nat.ne_of_lt (Heap.lt_size e)
      exact ⟨by rw [upd_ne ne];exact (hf b hb').1,(hf b hb').2⟩
    have ho3:∀ b∈fp,∃ o,s₃.heap.get? b=some o:=fun b hb'=>by
      obtain ⟨o,e,_⟩:=T.obj 0 _ st b hb'
      exact ⟨o,old1 b o e⟩
    have st1:tn 0 h₁:=T.keep 0 _ _ st fun b hb' o e=>old b o (old1 b o e)
    have I4:=comp_inv (tn:=tn) (tk:=s₃.toks+0) S I3 c1 c2 hf3 ho3 hns old
    obtain ⟨W,⟨m0,w0⟩,turn⟩:=q s.heap.objs.size hfr
    obtain ⟨hg,ht,he⟩:=hb cl s₃.heap.objs.size s₃ (upd H s.heap.objs.size (.lst [])) fp pins
    generalize hX':cxComp X scope NL ix cl s₃.heap.objs.size s₃ (upd H s.heap.objs.size (.lst [])) fp pins=X' at I4 hg ht he
    have p1:X'.prog=X.prog:=by rw [← hX'];rfl
    have p2:X'.w=X.w:=by rw [← hX'];rfl
    have p3:X'.K=X.K:=by rw [← hX'];rfl
    have p4:X'.A=X.A:=by rw [← hX'];rfl
    have p5:X'.env=compEnvC scope cl s₃.heap.objs.size X.env:=by rw [← hX'];rfl
    have p6:X'.calm=true:=by rw [← hX'];exact hc
    have p7:X'.xe=fun _ _=>False:=by rw [← hX'];rfl
    have stat:∀ {H':Hp},(∀ b∈fp,H' b=none)→∀ b∈fp,FpOk X' [] H' b:=fun {H'} hn b hb'=>by
      have z:=hf3 b hb'
      obtain ⟨o,eo⟩:=ho3 b hb'
      rw [← hX']
      refine ⟨hn b hb',Nat.ne_of_lt (Heap.lt_size eo),fun q=>(List.mem_cons.mp (I3.stkSub b q)).elim z.2.1 z.2.2.1,.inl hb',fun x c hx=>z.2.2.2.2.1 x c (c1 x c hx),fun p hp=>?_⟩
      rcases List.mem_append.mp hp with w | w
      · exact z.2.2.2.2.2 p w
      · exact nomatch w
    have fin:∀ i n ys H' s',Inv X' [] (comp0 NL ix σ) H' s'→W i n ys H'→Q (.ref s.heap.objs.size) H'→RR (.ref s.heap.objs.size) s₃.heap.objs.size (.ok .next) s':=fun i n ys H' s' I' w' q'=>by
      obtain ⟨m',hn',_⟩:=I'.loc
      have hos:s'.os=s₃.os:=by have:=I'.os;rw [← hX'] at this;exact this
      have hu:Un (frs X.stack) fp (upd H s.heap.objs.size (.lst [])) H' s₃.heap s'.heap:=by have:=I'.base;rw [← hX'] at this;exact this
      have hk:HOk X.prog X.w H' s'.heap:=by have:=I'.hok;rw [← hX'] at this;exact this
      have hfC:H' s₃.heap.objs.size=none:=by have:=I'.free;rw [← hX'] at this;exact this
      have hnC:s'.heap.Ns s₃.heap.objs.size m':=by rw [p5] at hn';exact hn'
      exact hRR _ _ H' s' m' (I3.call' hos hu hk I'.bare fun b hb'=>⟨(hf3 b hb').2.2.2.1,(hf3 b hb').2.1,(hf3 b hb').2.2.2.2.1,(hf3 b hb').2.2.2.2.2⟩) hnC (I3.fpOk (Nat.le_refl _) hfC) q'
    have loop:∀ s₄:Shared,Inv X' [] (comp0 NL ix σ) (upd H s.heap.objs.size (.lst [])) s₄→tn 0 s₄.heap→codeAny (model X.prog X.w) X.A (.compLoop (.ListComp elt [⟨tg,iter,ifs,0⟩] scope pos) 0 (.ref it) (.ref s.heap.objs.size) (compEnvC scope cl s₃.heap.objs.size X.env))
        (RR (.ref s.heap.objs.size) s₃.heap.objs.size) s₄:=fun s₄ I4 st1=>by
      refine codeAny_loop rfl (fun n s'=>∃ i ys H',Inv X' [] (comp0 NL ix σ) H' s'∧tn i s'.heap∧(∀ b∈fp,H' b=none)∧W i n ys H') (fun n s' hI=>?_) m0 ⟨0,[],_,I4,st1,fun b hb'=>(hf3 b hb').1,w0⟩
      obtain ⟨i,ys,H',I',st',fr',w'⟩:=hI
      show wpAny _ X.A ((compTurn (.ListComp elt [⟨tg,iter,ifs,0⟩] scope pos) 0 (.ref it) (.ref s.heap.objs.size) (compEnvC scope cl s₃.heap.objs.size X.env)).onRaise (fun x=>do noteFrame x (compEnvC scope cl s₃.heap.objs.size X.env);theTreesLotGoes x)) _ _ s'
      refine wpAny_noted ?_
      rw [compTurn_list]
      obtain ⟨hacc,hz8,alt⟩:=turn i n ys H' w'
      rcases alt with ⟨stop,qn⟩ | ⟨go,N,hN,step⟩
      · have d:=T.done X' p1 p2 p3 p6 i [] s' (comp0 NL ix σ) H' (notedBy (model X.prog X.w) X.A (compEnvC scope cl s₃.heap.objs.size X.env) fun e s'=>RR (.ref s.heap.objs.size) s₃.heap.objs.size (.error e) s') I' (stat fr') st' stop
        rw [p4] at d
        refine wpAny_bind (wpAny_standAt (wpAny_bind (thn d fun r s1 ⟨hr,I1⟩=>?_)))
        subst hr
        exact wpAny_pure (fin i n ys H' s1 I1 w' qn)
      · have d:=T.item X' p1 p2 p3 p6 i [] s' (comp0 NL ix σ) H' (notedBy (model X.prog X.w) X.A (compEnvC scope cl s₃.heap.objs.size X.env) fun e s'=>RR (.ref s.heap.objs.size) s₃.heap.objs.size (.error e) s') I' (stat fr') st' go
        rw [p4] at d
        refine wpAny_bind (wpAny_standAt (wpAny_bind (thn d fun r s1 ⟨u,hr,h4⟩=>?_)))
        subst hr
        refine wpAny_bind (thn h4 fun _ s5 ⟨x,H5,I5,r5,y5,st5,fr5⟩=>?_)
        have I5':=I5.pinned (stat fr5) (T.obj _ _ st5)
        have nofail:∀ {α:Type} {t:Sem α} {R:α→Shared→Prop} {sx:Shared},wpAny (model X'.prog X'.w) X'.A t R X'.xe sx→wpAny (model X.prog X.w) X.A t R (notedBy (model X.prog X.w) X.A (compEnvC scope cl s₃.heap.objs.size X.env) fun e s'=>RR (.ref s.heap.objs.size) s₃.heap.objs.size (.error e) s') sx:=fun {α t R sx} hh=>by
          rw [p1,p2,p4,p7] at hh
          exact wpAny_mono hh (fun _ _ z=>z) fun _ _ z=>z.elim
        have again:∀ {σ7:St} {H7:Hp} {s7:Shared} {ys':List V},σ7.drop NL.length=ix.map (fun j=>σ.getD j none)→Inv X' ([]++pinsAt fp s5.heap) σ7 H7 s7→(∃ m',m' < n∧W (i+1) m' ys' H7)→∃ m,m < n∧∃ i ys H',Inv X' [] (comp0 NL ix σ) H' s7∧tn i s7.heap∧(∀ b∈fp,H' b=none)∧W i m ys H':=fun {σ7 H7 s7 ys'} hσ I7 n7=>by
          obtain ⟨m',hm,w7⟩:=n7
          have Iw:Inv X' ([]++pinsAt fp s5.heap) (comp0 NL ix σ) H7 s7:=I7.weak (by rw [I7.len,I'.len]) fun j v hj=>by
            have hlj:NL.length≤j:=by
              rcases Nat.lt_or_ge j NL.length with z | z
              · exfalso
                unfold comp0 at hj
                rw [List.getElem?_append_left (by simpa using z),List.getElem?_map] at hj
                cases q:NL[j]? with
                | none=>rw [q] at hj;cases hj
                | some y=>rw [q] at hj;cases hj
              · exact z
            unfold comp0 at hj
            rw [List.getElem?_append_right (by simpa using hlj),List.length_map,← hσ,List.getElem?_drop] at hj
            rw [← hj]
            congr 1
            omega
          refine ⟨m',hm,i+1,ys',H7,Iw.unpinned,T.keep _ _ _ st5 fun b hb' o e=>(I7.pin (b,o) (List.mem_append_right _ (List.mem_append_right _ (mem_pinsAt hb' e)))).1,fun b hb'=>?_,w7⟩
          obtain ⟨o,e,d⟩:=T.obj _ _ st5 b hb'
          exact (I7.pin (b,o) (List.mem_append_right _ (List.mem_append_right _ (mem_pinsAt hb' e)))).2.1
        have hg':=nofail (hg _ s5 (comp0 NL ix σ) H5 x u _ I5' r5 (step x H5 y5))
        rw [p5] at hg'
        refine wpAny_bind (thn hg' fun _ s6 ⟨σ6,H6,I6,hσ6,q6⟩=>?_)
        have ht':=nofail (ht _ s6 σ6 H6 _ I6 q6)
        rw [p5] at ht'
        refine wpAny_bind (thn ht' fun ok s7 ⟨H7,I7,q7⟩=>?_)
        cases ok with
        | false=>
          have q7':N ys H7:=by simpa using q7
          exact wpAny_pure ⟨rfl,again hσ6 I7 (hN _ _ q7')⟩
        | true=>
          have q7':=(if_pos rfl).mp q7
          have he':=nofail (he _ s7 σ6 H7 _ I7 q7')
          rw [p5] at he'
          refine wpAny_bind (wpAny_bind (thn he' fun v s8 ⟨y,H8,I8,r8,ha8,q8⟩=>?_))
          have ap:=nofail (mt_append _ s8 σ6 H8 (.ref s.heap.objs.size) [y] (.ref s.heap.objs.size) [v] (fun _ H9=>H9=upd H8 s.heap.objs.size (.lst (ys++[y]))) I8 rfl (.cons r8 .nil) ⟨_,ys,y,rfl,rfl,ha8,hz8,rfl⟩)
          refine wpAny_bind (thn ap fun _ s9 ⟨z,H9,I9,r9,e9⟩=>wpAny_pure (wpAny_pure ⟨rfl,?_⟩))
          subst e9
          exact again hσ6 I9 (hN _ _ q8)
    exact codeAny_compStart_list (loop _ I4 st1) (T.self X.A 0 _ _ _ st1 (loop _ I4 st1))
  exact key
theorem pe_comp {scope:Scope} {NL:List Str} {ix:List Nat} {elt tg iter:Expr} {ifs:List Expr} {pos:Pos} {wi:TI} {g:TG} {tt:TT} {te:TE}
    (hc:X.calm=true) (hi:PI X tg iter wi) (S:CompScope X scope NL ix)
    (hb:∀ (cl:List (Str × Addr)) (C:Addr) (s₃:Shared) (H₃:Hp) (fp:List Addr) (pins:List (Addr × Obj)),PG (cxComp X scope NL ix cl C s₃ H₃ fp pins) tg g∧PIfs (cxComp X scope NL ix cl C s₃ H₃ fp pins) ifs tt∧PE (cxComp X scope NL ix cl C s₃ H₃ fp pins) elt te)
    (hs:∀ x,foldedSetIterable iter X.env x=pure x:=by intro _;rfl):PE X (.ListComp elt [⟨tg,iter,ifs,0⟩] scope pos) (tComp NL ix wi g tt te):=by
  intro pins s σ H Q I h
  obtain ⟨cl,hcl,c1,c2⟩:=closure_ok (scope:=scope) (env:=X.env) fun x hx=>by
    rcases S.free _ hx rfl with z | z
    · exact I.ok.has x (.inl z)
    · exact I.ok.has x (.inr z)
  rw [eval_ListComp]
  refine wpAny_comprehension_free (use:=none) rfl hs hcl S.kind S.names (thn (hi pins s σ H _ I h) fun xv s1 h1=>thn h1 fun itv s2 h2=>?_)
  obtain ⟨it,fp,tn,J,H2,rfl,I2,T,st2,f2,q⟩:=h2
  refine comp_run (RR:=fun acc C=>compPost (model X.prog X.w) X.A X.xe none (EP X pins σ Q) acc C) hc S c1 c2 hb I2 T st2 f2 q ?_
  intro acc C H' s' m' I' hn fC q'
  refine ⟨m',hn,fun h' sb=>⟨.ref acc,H',?_,rfl,q'⟩⟩
  exact I'.turned (t':=s'.toks) (fun b o hb e=>sb.extBut b o hb e) fC.1 fC.2.1 fC.2.2.2.1 fC.2.2.2.2.1 fC.2.2.2.2.2
theorem comp_by {J:It} {NL:List Str} {ix:List Nat} {g:TG} {tt:TT} {te:TE} {σ:St} {H1:Hp} {Qs:Hp→Prop} {acc:Addr} (n:Nat) (hn:n < 1000) (Pv:Nat→List V→Hp→Prop)
    (hacc:∀ i ys H2,Pv i ys H2→H2 acc=some (.lst ys)∧ys.length≤i) (h0:Pv 0 [] (upd H1 acc (.lst []))) (hstop:∀ ys H2,Pv n ys H2→J.stop n H2∧Qs H2)
    (hturn:∀ i ys H2,i < n→Pv i ys H2→J.go i H2∧∀ x H3,J.yld i H2 x H3→g x (comp0 NL ix σ) H3 fun σ' H4=>σ'.drop NL.length=ix.map (fun j=>σ.getD j none)∧tt σ' H4 fun b H5=>
      if b=true then te σ' H5 fun v H6=>H6 acc=some (.lst ys)∧Pv (i+1) (ys++[v]) (upd H6 acc (.lst (ys++[v]))) else Pv (i+1) ys H5) :
    ∃ W:Nat→Nat→List V→Hp→Prop,(∃ m,W 0 m [] (upd H1 acc (.lst []))) ∧
    ∀ i m ys H2,W i m ys H2→H2 acc=some (.lst ys)∧ys.length < sizeLine ∧
      ((J.stop i H2∧Qs H2)∨(J.go i H2∧∃ N:List V→Hp→Prop,(∀ ys' H',N ys' H'→∃ m',m' < m∧W (i+1) m' ys' H') ∧
        ∀ x H3,J.yld i H2 x H3→g x (comp0 NL ix σ) H3 fun σ' H4=>σ'.drop NL.length=ix.map (fun j=>σ.getD j none)∧tt σ' H4 fun b H5=>
          if b=true then te σ' H5 fun v H6=>H6 acc=some (.lst ys)∧N (ys++[v]) (upd H6 acc (.lst (ys++[v]))) else N ys H5)):=by
  refine ⟨fun i m ys H2=>i≤n∧m=n - i∧Pv i ys H2,⟨n,Nat.zero_le _,rfl,h0⟩,fun i m ys H2 ⟨hi,hm,hp⟩=>?_⟩
  obtain ⟨a1,a2⟩:=hacc i ys H2 hp
  refine ⟨a1,small1000 (by omega),?_⟩
  rcases Nat.lt_or_ge i n with lt | ge
  · obtain ⟨go,tn⟩:=hturn i ys H2 lt hp
    exact .inr ⟨go,Pv (i+1),fun ys' H' hN=>⟨n - (i+1),by omega,by omega,rfl,hN⟩,tn⟩
  · have e:i=n:=by omega
    subst e
    exact .inl (hstop ys H2 hp)
end
end L2
namespace L2
open PySem PySem.Spec PyProof.Rows
section
variable {prog:Program} {w:World} {A:Around} {E:Value→Shared→Prop} {s:Shared}
theorem nextOf_tuple_item {it t:Addr} {i:Nat} {items:Array Value} {x:Value} {Q:Value→Shared→Prop} (hit:s.heap.IsTupleIter it t i)
    (ht:s.heap.IsTuple t items) (hx:items[i]?=some x)
    (hQ:∀ h',h'.IsTupleIter it t (i+1)→Heap.SameBut it s.heap h'→Q x { s with heap:=h' }) :
    wpAny (model prog w) A (Builtin.SmallTypes.nextOf (.ref it)) Q E s:=by
  obtain ⟨o,ho,hc,hd⟩:=id hit
  obtain ⟨ol,hol,_,nl,hdl⟩:=ht
  unfold Builtin.SmallTypes.nextOf
  refine wpAny_bind (wpAny_callSpecial?_slot (name:=Str.ofString "__next__") hit.typeIs F.slot_tuple_iterator_next
    (wpAny_call_entry F.slot_tuple_iterator_next hit.typeIs F.entry_tuple_iterator_next ?_ (F.args_tuple_iterator_next_1 _)))
  show wpAny _ _ (field (.ref it) 0 >>= _) _ _ s
  refine wpAny_bind (wpAny_field ho hd (x:=.ref t) rfl ?_)
  show wpAny _ _ (if (Value.ref t == Value.none)=true then _ else _) _ _ s
  rw [if_neg (show ¬ ((Value.ref t == Value.none)=true) from Bool.false_ne_true)]
  show wpAny _ _ (field (.ref it) 1 >>= _) _ _ s
  refine wpAny_bind (wpAny_field ho hd (x:=.int i 0) rfl ?_)
  show wpAny _ _ (seqItems? (.ref t) >>= _) _ _ s
  refine wpAny_bind (wpAny_seqItems hol hdl ?_)
  simp only [Int.toNat_natCast,hx]
  refine wpAny_bind (wpAny_setField ho hd (by simp) (wpAny_pure ⟨x,rfl,wpAny_pure (hQ _ ?_ (Heap.SameBut.update ..))⟩))
  exact ⟨_,Heap.get?_update_self _ ho (Obj.isFreed_of_fields (Obj.data_mapFields hd _)),(Obj.cls_mapFields ..).trans hc,by
    rw [Obj.data_mapFields hd];simp [rawInt]⟩
theorem nextOf_tuple_end {it t:Addr} {i:Nat} {items:Array Value} {Q:Value→Shared→Prop} (hh:A.handled=none)
    (hit:s.heap.IsTupleIter it t i) (ht:s.heap.IsTuple t items) (hx:items[i]?=none)
    (hE:∀ h' e,Heap.ExtBut it s.heap h'→(∃ o,h'.get? e=some o∧o.cls=.type "StopIteration")→E (.ref e) { s with heap:=h' }) :
    wpAny (model prog w) A (Builtin.SmallTypes.nextOf (.ref it)) Q E s:=by
  obtain ⟨o,ho,hc,hd⟩:=id hit
  obtain ⟨ol,hol,_,nl,hdl⟩:=ht
  unfold Builtin.SmallTypes.nextOf
  refine wpAny_bind (wpAny_callSpecial?_slot (name:=Str.ofString "__next__") hit.typeIs F.slot_tuple_iterator_next
    (wpAny_call_entry F.slot_tuple_iterator_next hit.typeIs F.entry_tuple_iterator_next ?_ (F.args_tuple_iterator_next_1 _)))
  show wpAny _ _ (field (.ref it) 0 >>= _) _ _ s
  refine wpAny_bind (wpAny_field ho hd (x:=.ref t) rfl ?_)
  show wpAny _ _ (if (Value.ref t == Value.none)=true then _ else _) _ _ s
  rw [if_neg (show ¬ ((Value.ref t == Value.none)=true) from Bool.false_ne_true)]
  show wpAny _ _ (field (.ref it) 1 >>= _) _ _ s
  refine wpAny_bind (wpAny_field ho hd (x:=.int i 0) rfl ?_)
  show wpAny _ _ (seqItems? (.ref t) >>= _) _ _ s
  refine wpAny_bind (wpAny_seqItems hol hdl ?_)
  simp only [Int.toNat_natCast,hx]
  refine wpAny_bind (wpAny_rule (wpAny_bind (wpAny_setField ho hd (by simp) ?_)))
  show wpAny _ _ (newExc (.type "StopIteration") [] >>= _) _ _ _
  refine wpAny_bind ?_
  simp only [newExc,newTuple]
  refine wpAny_bind (wpAny_newObj_type ?_ (by size_fits))
  refine wpAny_bind (m:=firstArgMember _ _) (wpAny_of_eq (a:=Value.none) (by first | rfl | (simp only [firstArgMember];rfl)) ?_)
  refine wpAny_newObj_type ?_ (by size_fits)
  simp only [raiseNew]
  refine wpAny_bind (wpAny_handled ?_)
  first | rw [show A.in1.handled=none from hh] | rw [hh]
  refine wpAny_bind (wpAny_pure (wpAny_throw ?_))
  exact hE _ _ (((Heap.SameBut.update ..).extBut.push _).push _) ⟨_,Heap.get?_push_size _ rfl,rfl⟩
end
theorem draws_tuple {prog:Program} {w:World} {A:Around} (hh:A.handled=none) (it l:Addr) (hne:l≠it) (items:Array Value) :
    Draws prog w A it [it,l] items.size (fun i v=>items[i]?=some v) (fun i h=>h.IsTupleIter it l i∧h.IsTuple l items) where
  live:=fun _ _ st=>let ⟨o,ho,_⟩:=st.1;⟨o,ho⟩
  frame:=fun _ _ _ st hk=>⟨st.1.at fun o e=>hk it (by simp) o e,let ⟨o,ho,r⟩:=st.2;⟨o,hk l (by simp) o ho,r⟩⟩
  item:=fun i s Q E hi st hQ=>by
    refine nextOf_tuple_item st.1 st.2 (x:=items[i]) (by simp [hi]) fun h' hit' hs'=>?_
    exact hQ _ h' s.toks (by simp [hi]) ⟨hit',st.2.extBut hs'.extBut hne⟩ hs'
  done:=fun s Q E st hE=>nextOf_tuple_end hh st.1 st.2 (by simp) hE
theorem draws_str {prog:Program} {w:World} {A:Around} (hh:A.handled=none) (it:Addr) (x:Str) (t:Tok) :
    Draws prog w A it [it] x.cps.size (fun i v=>∃ c u,x.cps[i]?=some c∧v=.str ⟨#[c]⟩ u) (fun i h=>h.IsStrIter it (strIterType x) x t i):=by
  unfold strIterType
  cases x.cps.all (· < 128) with
  | true=>exact Draws.strAscii hh it x t
  | false=>exact Draws.strWide hh it x t
inductive SK where
  | lst (a:Addr) | tup (a:Addr) | str (x:Str)
def SK.val:SK→V
  | .lst a=>.ref a
  | .tup a=>.ref a
  | .str x=>.str x
def signs (x:Str):List V:=x.cps.toList.map fun c=>.str ⟨#[c]⟩
def SK.has (H:Hp):SK→List V→Prop
  | .lst a,xs=>Rd H a (.lst xs)
  | .tup a,xs=>Rd H a (.tup xs)
  | .str x,xs=>xs=signs x
def SK.own (it:Addr) (k:Nat) (h:Heap):SK→Prop
  | .lst a=>h.IsListIter it a k
  | .tup a=>h.IsTupleIter it a k
  | .str x=>∃ t,h.IsStrIter it (strIterType x) x t k
theorem SK.own_at {it:Addr} {k:Nat} {h h':Heap} {κ:SK} (x:κ.own it k h) (e:∀ o,h.get? it=some o→h'.get? it=some o):κ.own it k h':=by
  cases κ with
  | lst a=>exact Heap.IsListIter.at x e
  | tup a=>exact Heap.IsTupleIter.at x e
  | str y=>obtain ⟨t,o,ho,r⟩:=x;exact ⟨t,o,e o ho,r⟩
theorem SK.own_obj {it:Addr} {k:Nat} {h:Heap} {κ:SK} (x:κ.own it k h):∃ o,h.get? it=some o∧(∀ v,o.data≠.cell v)∧o.cls≠.type "tuple" ∧ o.cls≠.type "zip" ∧ o.cls≠.type "enumerate" := by
  cases κ with
  | lst a=>obtain ⟨o,ho,c,d⟩:=x;exact ⟨o,ho,(fun v z=>by rw [d] at z;cases z),(fun z=>by rw [c] at z;simp at z),(fun z=>by rw [c] at z;simp at z),(fun z=>by rw [c] at z;simp at z)⟩
  | tup a=>obtain ⟨o,ho,c,d⟩:=x;exact ⟨o,ho,(fun v z=>by rw [d] at z;cases z),(fun z=>by rw [c] at z;simp at z),(fun z=>by rw [c] at z;simp at z),(fun z=>by rw [c] at z;simp at z)⟩
  | str y=>
    obtain ⟨t,o,ho,c,d⟩:=x
    refine ⟨o,ho,(fun v z=>by rw [d] at z;cases z),?_,?_,?_⟩ <;>
    · intro z
      rw [c] at z
      unfold strIterType at z
      split at z <;> simp at z
theorem Rd.inj {H:Hp} {a:Addr} {u v:HO} (hu:∀ o w,u≠.frz o w) (hv:∀ o w,v≠.frz o w) (x:Rd H a u) (y:Rd H a v):u=v:=by
  rcases x with x | ⟨o,x⟩ <;> rcases y with y | ⟨p,y⟩ <;> rw [x] at y
  · exact Option.some.inj y
  · exact absurd (Option.some.inj y) (hu p v)
  · exact absurd (Option.some.inj y).symm (hv o u)
  · have:=Option.some.inj y
    injection this
theorem SK.inj {H:Hp} {κ:SK} {xs ys:List V} (x:κ.has H xs) (y:κ.has H ys):xs=ys:=by
  cases κ with
  | lst a=>have:=Rd.inj (u:=.lst xs) (v:=.lst ys) (fun _ _ z=>nomatch z) (fun _ _ z=>nomatch z) x y;injection this
  | tup a=>have:=Rd.inj (u:=.tup xs) (v:=.tup ys) (fun _ _ z=>nomatch z) (fun _ _ z=>nomatch z) x y;injection this
  | str z=>exact Eq.trans x (Eq.symm y)
def SK.box:SK→List Addr
  | .lst a=>[a]
  | .tup a=>[a]
  | .str _=>[]
theorem SK.box_some {H:Hp} {κ:SK} {xs:List V} (x:κ.has H xs) {b:Addr} (hb:b∈κ.box):H b≠none:=by
  cases κ with
  | lst a => have e:b=a:=by simpa [SK.box] using hb
             subst e;intro z;rcases x with q | ⟨o,q⟩ <;> (rw [z] at q;cases q)
  | tup a => have e:b=a:=by simpa [SK.box] using hb
             subst e;intro z;rcases x with q | ⟨o,q⟩ <;> (rw [z] at q;cases q)
  | str z=>simp [SK.box] at hb
section
variable {X:Cx} {pins:List (Addr × Obj)} {σ:St} {H:Hp} {s:Shared}
theorem sk_draws {κ:SK} {it:Addr} {k:Nat} {xs:List V} {A:Around} (I:Inv X pins σ H s) (hv:κ.has H xs) (hit:κ.own it k s.heap) (hn:H it=none) (hh:A.handled=none) :
    ∃ (P:Nat→Value→Prop) (St:Nat→Heap→Prop),Draws X.prog X.w A it (it :: κ.box) xs.length P St∧St k s.heap∧(∀ i u,P i u→∃ x,xs[i]?=some x∧RelV x u)∧(∀ i h,St i h→κ.own it i h):=by
  have ne:∀ b∈κ.box,b≠it:=fun b hb z=>SK.box_some hv hb (by rw [z];exact hn)
  cases κ with
  | lst a=>
    obtain ⟨_,its,n,r,e⟩:=Rd.ok hv I.hok
    have hl:s.heap.IsList a its.toArray:=⟨_,e,rfl,n,rfl⟩
    have D:=Draws.list (prog:=X.prog) (w:=X.w) hh it a (ne a (by simp [SK.box])) its.toArray
    rw [List.size_toArray,← r.length] at D
    refine ⟨_,_,D,⟨hit,hl⟩,fun i u hu=>?_,fun i h st=>st.1⟩
    · have hu':its[i]?=some u:=by simpa using hu
      have hlt:i < xs.length:=by rw [r.length];exact (List.getElem?_eq_some_iff.mp hu').1
      obtain ⟨u',e1,e2⟩:=r.get (List.getElem?_eq_getElem hlt)
      rw [hu'] at e1;cases e1
      exact ⟨_,List.getElem?_eq_getElem hlt,e2⟩
  | tup a=>
    obtain ⟨_,its,r,ht⟩:=Rd.ok hv I.hok
    have hl:s.heap.IsTuple a its.toArray:=ht
    have D:=draws_tuple (prog:=X.prog) (w:=X.w) hh it a (ne a (by simp [SK.box])) its.toArray
    rw [List.size_toArray,← r.length] at D
    refine ⟨_,_,D,⟨hit,hl⟩,fun i u hu=>?_,fun i h st=>st.1⟩
    · have hu':its[i]?=some u:=by simpa using hu
      have hlt:i < xs.length:=by rw [r.length];exact (List.getElem?_eq_some_iff.mp hu').1
      obtain ⟨u',e1,e2⟩:=r.get (List.getElem?_eq_getElem hlt)
      rw [hu'] at e1;cases e1
      exact ⟨_,List.getElem?_eq_getElem hlt,e2⟩
  | str z=>
    obtain ⟨t,hit⟩:=hit
    have hv':xs=signs z:=hv
    subst hv'
    have D:=draws_str (prog:=X.prog) (w:=X.w) hh it z t
    have e:(signs z).length=z.cps.size:=by simp [signs]
    rw [← e] at D
    refine ⟨_,_,D,hit,fun i u hu=>?_,fun i h st=>⟨t,st⟩⟩
    · obtain ⟨c,u',hc,rfl⟩:=hu
      refine ⟨.str ⟨#[c]⟩,?_,⟨u',rfl⟩⟩
      simp only [signs,List.getElem?_map,Array.getElem?_toList,hc,Option.map_some]
theorem Inv.turnedNew {ch:List Addr} {p:Addr} {o:HO} {h':Heap} {tk:Nat} (I:Inv X pins σ H s)
    (hch:∀ b∈ch,FpOk X pins H b) (k:∀ b ob,b ∉ ch→s.heap.get? b=some ob→h'.get? b=some ob) (hp:s.heap.objs.size≤p) (new:ObjOk X.prog X.w (upd H p o) h' p o) :
    Inv X pins σ (upd H p o) { s with heap:=h',toks:=tk }:=by
  have hn:H p=none:=I.hok.fresh hp
  refine I.call (g':=s.gens) (d':=s.drawn) (ch:=ch) ⟨fun b u q _ _ hx=>k b u hx q,fun b u q _ _ hx=>⟨u.slots,k b u hx q⟩,fun b u q n _=>?_,fun b u q hx=>⟨u,k b u hx q⟩,fun b xs q=>?_,fun b u xs q=>?_,fun b ps q=>⟨#[],?_⟩⟩ (fun b u e=>?_) I.bare
    fun b hb=>⟨(hch b hb).2.2.2.1,(hch b hb).2.1,(hch b hb).2.2.2.2.1,(hch b hb).2.2.2.2.2⟩
  · rw [upd_ne (Nat.ne_of_lt (Nat.lt_of_lt_of_le (Heap.lt_size q) hp))];exact n
  · rw [upd_ne (ne_of_none q hn)];exact q
  · rw [upd_ne (ne_of_none q hn)];exact q
  · rw [upd_ne (ne_of_none q hn),q];simp
  · by_cases hb:b=p
    · subst hb;rw [upd_same] at e;cases e;exact new
    · rw [upd_ne hb] at e
      refine (I.hok b u e).stay (fun c v hc q=>k c v (fun hm=>?_) q) (fun c q=>by rw [upd_ne (ne_of_none q hn)];exact q) fun c xs q=>by rw [upd_ne (ne_of_none q hn)];exact q
      have z:=(hch c hm).1
      rcases hc with hc | hc
      · rw [hc,e] at z;cases z
      · rw [hc] at z;cases z
theorem Inv.turnedMany {ch:List Addr} {h':Heap} {tk:Nat} (I:Inv X pins σ H s)
    (hch:∀ b∈ch,FpOk X pins H b) (k:∀ b ob,b ∉ ch→s.heap.get? b=some ob→h'.get? b=some ob):Inv X pins σ H { s with heap:=h',toks:=tk }:=by
  refine I.call (g':=s.gens) (d':=s.drawn) (ch:=ch) ⟨fun b u q _ _ hx=>k b u hx q,fun b u q _ _ hx=>⟨u.slots,k b u hx q⟩,fun b u q n _=>n,fun b u q hx=>⟨u,k b u hx q⟩,fun b xs q=>q,fun b u xs q=>q,fun b ps q=>⟨#[],by rw [q];simp⟩⟩ (fun b u e=>?_) I.bare
    fun b hb=>⟨(hch b hb).2.2.2.1,(hch b hb).2.1,(hch b hb).2.2.2.2.1,(hch b hb).2.2.2.2.2⟩
  refine (I.hok b u e).stay (fun c v hc q=>k c v (fun hm=>?_) q) (fun _ q=>q) fun _ _ q=>q
  have z:=(hch c hm).1
  rcases hc with hc | hc
  · rw [hc,e] at z;cases z
  · rw [hc] at z;cases z
end
def Ite (κ:SK):It:=
  ⟨fun i H=>∃ xs x,κ.has H xs∧xs[i]?=some x,fun i H v H'=>∃ p x,v=.ref p∧H p=none∧H'=upd H p (.tup [.int i,x])∧∀ xs,κ.has H xs→xs[i]?=some x,fun i H=>∃ xs,κ.has H xs∧xs.length=i⟩
theorem turn_enum {P:Program} {w:World} {K:PySem.W.Frag} {elts:List Expr} {x1:Nat} {tpos:Pos} (κ:SK) (e it:Addr) (hei:e≠it) :
    Turn P w K (.Tuple elts x1 tpos) (Ite κ) [e,it] e (fun i h=>(∃ old,IsEnum h e it i old)∧κ.own it i h) where
  mem:=by simp
  obj:=fun i h st b hb=>by
    obtain ⟨⟨old,he⟩,ho⟩:=st
    simp only [List.mem_cons,List.not_mem_nil,or_false] at hb
    rcases hb with rfl | rfl
    · exact ⟨_,he,fun v z=>by
        have z':Data.fields _=Data.cell v:=z
        cases z'⟩
    · obtain ⟨o,h1,h2,_⟩:=SK.own_obj ho
      exact ⟨o,h1,h2⟩
  keep:=fun i h h' st k=>by
    obtain ⟨⟨old,he⟩,ho⟩:=st
    exact ⟨⟨old,k e (by simp) _ he⟩,SK.own_at ho fun o q=>k it (by simp) o q⟩
  item:=by
    intro X hP hw hK hc i pins s σ H E I hf st hg
    subst hP hw hK
    obtain ⟨⟨old,he⟩,ho⟩:=st
    obtain ⟨xs,x,hx,hxi⟩:=hg
    have hlt:i < xs.length:=(List.getElem?_eq_some_iff.mp hxi).1
    have hh:X.A.in1.handled=none:=I.ok.hd hc
    obtain ⟨Pp,St,D,hst,hrel,hown⟩:=sk_draws (A:=X.A.in1) I hx ho (hf it (by simp)).1 hh
    have hef:e ∉ it :: κ.box:=fun z=>by
      rcases List.mem_cons.mp z with z | z
      · exact hei z
      · exact SK.box_some hx z (hf e (by simp)).1
    refine wpAny_pyNext_enum_itemD D he hst hlt hei hef fun y h' tk hy ho' hst' hT hsz hk=>⟨_,rfl,?_⟩
    refine wpAny_letOwnedTupleGo_enum ho' fun h'' he'' hs''=>?_
    obtain ⟨x',hx',rx⟩:=hrel i y hy
    have exx:x'=x:=Option.some.inj (hx'.symm.trans hxi)
    subst exx
    have kk:∀ b ob,b ∉ [e,it]→s.heap.get? b=some ob→h''.get? b=some ob:=fun b ob hb q=>
      (hs''.2 b (fun z=>hb (by simp [z]))).trans (hk b ob (fun z=>hb (by simp [z])) (fun z=>hb (by simp [z])) q)
    have ne:s.heap.objs.size≠e:=Nat.ne_of_gt (Heap.lt_size he)
    have hT':h''.get? s.heap.objs.size=some { cls:=.type "tuple", data:=.seq #[.int i tk,y] }:=(hs''.2 _ ne).trans hT
    refine ⟨.ref s.heap.objs.size,upd H s.heap.objs.size (.tup [.int i,x']),I.turnedNew (tk:=tk+1) hf kk (Nat.le_refl _) ⟨⟨(by show 2≤sizeLine;decide),_,hT',rfl⟩,[.int i tk,y],.cons ⟨tk,rfl⟩ (.cons rx .nil),_,hT',rfl,0,rfl⟩,rfl,
      ⟨_,x',rfl,I.hok.fresh (Nat.le_refl _),rfl,fun ys hy'=>by rw [SK.inj hy' hx];exact hxi⟩,⟨⟨y,by simpa using he''⟩,SK.own_at (hown _ _ hst') fun o q=>(hs''.2 it (Ne.symm hei)).trans q⟩,fun b hb=>?_⟩
    obtain ⟨o,hob,_⟩:∃ o,s.heap.get? b=some o∧True:=by
      simp only [List.mem_cons,List.not_mem_nil,or_false] at hb
      rcases hb with rfl | rfl
      · exact ⟨_,he,trivial⟩
      · obtain ⟨o,h1,_⟩:=SK.own_obj ho;exact ⟨o,h1,trivial⟩
    rw [upd_ne (Nat.ne_of_lt (Heap.lt_size hob))]
    exact (hf b hb).1
  done:=by
    intro X hP hw hK hc i pins s σ H E I hf st hg
    subst hP hw hK
    obtain ⟨⟨old,he⟩,ho⟩:=st
    obtain ⟨xs,hx,hlen⟩:=hg
    have hh:X.A.in1.handled=none:=I.ok.hd hc
    obtain ⟨Pp,St,D,hst,hrel,hown⟩:=sk_draws (A:=X.A.in1) I hx ho (hf it (by simp)).1 hh
    have hst':St xs.length s.heap:=by rw [hlen];exact hst
    refine wpAny_pyNext_enum_endD D he hst' fun h' hx'=>⟨rfl,?_⟩
    have f:=hf it (by simp)
    exact I.turned (t':=s.toks) (fun b o hb q=>hx' b o hb q) f.1 f.2.1 f.2.2.2.1 f.2.2.2.2.1 f.2.2.2.2.2
  self:=fun _ _ _ _ _ st h=>let ⟨⟨_,he⟩,_⟩:=st;wpAny_pyIter_enum he h
open AutoSeq1 (wpAny_loadPart') in
set_option maxHeartbeats 4000000 in
theorem meets_enumerate_newT (l:Addr) (items:Array Value) (n:Nat) (dct:Option Addr) (sl:Array (Option Value)) :
    Meets (Builtin.«enumerate.__new__» ⟨[.type "enumerate", .ref l],[]⟩) (fun _ R s=>s.heap.get? l=some { cls:=.type "tuple", dict:=dct,data:=.seq items n,slots:=sl } ∧
      R (.ok (.ret (.ref (s.heap.push { cls:=.type "tuple_iterator", data:=.fields #[.ref l,.int 0 0] }).objs.size)))
        { s with heap:=(s.heap.push { cls:=.type "tuple_iterator", data:=.fields #[.ref l,.int 0 0] }).push { cls:=.type "enumerate", data:=.fields #[.none,.bool false,.ref s.heap.objs.size,rawInt 0,.none,.none] } }):=
  .of_wp fun prog w A R s h=>by
    obtain ⟨hp,g,d,tk,os⟩:=s;obtain ⟨hl,h⟩:=h
    have hsub:=sub_enumerate
    have hL:Heap.IsTuple (Shared.heap ⟨hp,g,d,tk,os⟩) l items:=⟨_,hl,rfl,n,rfl⟩
    wp_walk using wpAny_loadPart' hl
    refine wpAny_stack_any fun st=>wpAny_pure ?_
    split
    · rename_i c _ _ _ _ _
      cases (c == Value.type "enumerate")
      · wp_walk using wpAny_loadPart' hl,wpAny_pyIter_tuple hL
        exact ⟨_,rfl,h⟩
      · wp_walk using wpAny_loadPart' hl,wpAny_pyIter_tuple hL
        exact ⟨_,rfl,h⟩
    · wp_walk using wpAny_loadPart' hl,wpAny_pyIter_tuple hL
      exact ⟨_,rfl,h⟩
theorem call_enumerate_tuple {prog:Program} {w:World} {A:Around} {E:Value→Shared→Prop} {s:Shared} {l:Addr} {items:Array Value} {Q:Value→Shared→Prop} (hL:s.heap.IsTuple l items)
    (h:∀ h',IsEnum h' (s.heap.objs.size+1) s.heap.objs.size 0 .none→h'.IsTupleIter s.heap.objs.size l 0→h'.objs.size=s.heap.objs.size+2 →
      (∀ b o,s.heap.get? b=some o→h'.get? b=some o)→Q (.ref (s.heap.objs.size+1)) { s with heap:=h' }) :
    wpAny (model prog w) A (call (.type "enumerate") [.ref l]) Q E s:=by
  obtain ⟨⟨c,dct,dt,sl⟩,hl,hc,n,hd⟩:=hL
  replace hc:c=.type "tuple" := hc
  replace hd:dt=.seq items n:=hd
  subst hc hd
  refine callType_new F.called_enumerate (by decide) (F.typeCall_enumerate_1 _) (F.newCall_enumerate_1 _) (fun obj=>F.args_object_init_2 obj _) F.entry_enumerate_new
    (meets_enumerate_newT l items n dct sl) ⟨hl,?_⟩
  have hz:(s.heap.push { cls:=.type "tuple_iterator", data:=.fields #[.ref l,.int 0 0] }).objs.size=s.heap.objs.size+1:=Heap.size_push ..
  show _∧_
  rw [hz]
  have he:IsEnum ((s.heap.push { cls:=.type "tuple_iterator", data:=.fields #[.ref l,.int 0 0] }).push
      { cls:=.type "enumerate", data:=.fields #[.none,.bool false,.ref s.heap.objs.size,rawInt 0,.none,.none] }) (s.heap.objs.size+1) s.heap.objs.size 0 .none:=by
    have:=Heap.get?_push_size (s.heap.push { cls:=.type "tuple_iterator", data:=.fields #[.ref l,.int 0 0] })
      (o:={ cls:=.type "enumerate", data:=.fields #[.none,.bool false,.ref s.heap.objs.size,rawInt 0,.none,.none] }) rfl
    rw [hz] at this;exact this
  refine ⟨⟨_,he,rfl⟩,h _ he ⟨_,Heap.get?_push_of_some _ (Heap.get?_push_size _ rfl),rfl,rfl⟩ (by rw [Heap.size_push,hz]) fun b o x=>Heap.get?_push_of_some _ (Heap.get?_push_of_some _ x)⟩
section
variable {X:Cx} {pins:List (Addr × Obj)} {σ:St} {H:Hp} {s:Shared}
theorem call_enum {κ:SK} {xs:List V} {u:Value} {E:Value→Shared→Prop} {Q:Value→Shared→Prop} (I:Inv X pins σ H s) (hv:κ.has H xs) (r:RelV κ.val u)
    (h:∀ h',IsEnum h' (s.heap.objs.size+1) s.heap.objs.size 0 .none→κ.own s.heap.objs.size 0 h'→(∀ b o,s.heap.get? b=some o→h'.get? b=some o)→Q (.ref (s.heap.objs.size+1)) { s with heap:=h' }) :
    wpAny (model X.prog X.w) X.A (call (.type "enumerate") [u]) Q E s:=by
  cases κ with
  | lst a=>
    cases (show u=Value.ref a from r)
    obtain ⟨_,its,n,rr,e⟩:=Rd.ok hv I.hok
    exact call_enumerate_list ⟨_,e,rfl,n,rfl⟩ fun h' a1 a2 _ a4=>h h' a1 a2 a4
  | tup a=>
    cases (show u=Value.ref a from r)
    obtain ⟨_,its,rr,e⟩:=Rd.ok hv I.hok
    exact call_enumerate_tuple e fun h' a1 a2 _ a4=>h h' a1 a2 a4
  | str x=>
    obtain ⟨t,q⟩:=(show ∃ t,u=Value.str x t from r)
    subst q
    exact call_enumerate_str fun h' a1 a2 _ a4=>h h' a1 ⟨t,a2⟩ a4
def iEnum (ta:TA):TI:=fun σ H R=>ta σ H fun vs H1=>∃ κ:SK,vs=[κ.val]∧(∃ xs,κ.has H1 xs)∧R (Ite κ) H1
theorem pi_enum {a:Expr} {ta:TA} {p pos:Pos} {elts:List Expr} {x1:Nat} {tpos:Pos} (hg:Gl X "enumerate") (hm:X.mg "enumerate" = none) (ha:PA X [a] ta)
    (hs:starEach [a] X.env=[(false,eval a X.env)]:=by rfl):PI X (.Tuple elts x1 tpos) (.Call (.Name "enumerate" p) [a] [] pos) (iEnum ta):=by
  intro pins s σ H R I h
  refine Call_ (ld_blt I hg hm boot_enumerate (PyProof.Rows.callWith_type1 (thn (ha pos pins s σ H _ I h) fun us s1 ⟨vs,H1,I1,r1,q1⟩=>?_) hs rfl))
  obtain ⟨κ,e,⟨xs,hx⟩,q⟩:=q1
  subst e
  obtain ⟨u,rfl,ru⟩:=vals1 r1
  refine call_enum I1 hx ru fun h' he hi hk=>?_
  refine wpAny_pyIter_enum he ⟨s1.heap.objs.size+1,[s1.heap.objs.size+1,s1.heap.objs.size],_,_,H1,rfl,I1.kept (t':=s1.toks) hk,turn_enum κ _ _ (Nat.ne_of_gt (Nat.lt_succ_self _)),⟨⟨_,he⟩,hi⟩,fun b hb=>?_,q⟩
  have hge:s1.heap.objs.size≤b:=by
    simp only [List.mem_cons,List.not_mem_nil,or_false] at hb
    rcases hb with rfl | rfl
    · exact Nat.le_succ _
    · exact Nat.le_refl _
  exact I1.fpOk hge (I1.hok.fresh hge)
end
structure ZA (z TI TO i1 i2:Addr) (fp1 fp2:List Addr):Prop where
  TIz:TI≠z
  TOz:TO≠z
  i1z:i1≠z
  i2z:i2≠z
  TITO:TI≠TO
  TIi1:TI≠i1
  TIi2:TI≠i2
  TOi1:TO≠i1
  TOi2:TO≠i2
  i12:i1≠i2
  z1:z ∉ fp1
  z2:z ∉ fp2
  o1:TO ∉ fp1
  o2:TO ∉ fp2
  a1:i2 ∉ fp1
  a2:i1 ∉ fp2
section
variable {prog:Program} {w:World} {A:Around} {E:Value→Shared→Prop} {s:Shared}
theorem zip_next_itemD {z TI TO i1 i2:Addr} {fp1 fp2:List Addr} {n1 n2 k:Nat} {P1 P2:Nat→Value→Prop} {S1 S2:Nat→Heap→Prop} {a b:Value} {Q:Value→Shared→Prop} (Z:ZA z TI TO i1 i2 fp1 fp2)
    (D1:Draws prog w A i1 fp1 n1 P1 S1) (D2:Draws prog w A i2 fp2 n2 P2 S2)
    (hz:IsZip s.heap z TI TO .none) (hTI:IsPair s.heap TI (.ref i1) (.ref i2)) (hTO:IsPair s.heap TO a b) (h1:S1 k s.heap) (h2:S2 k s.heap) (l1:k < n1) (l2:k < n2)
    (hQ:∀ x y h' tk,P1 k x→P2 k y→IsZip h' z TI TO (rawInt s.heap.objs.size)→IsPair h' TO x y→S1 (k+1) h'→S2 (k+1) h'→IsPair h' s.heap.objs.size x y→h'.objs.size=s.heap.objs.size+1 →
      (∀ c o,c≠z→c≠TO→c≠i1→c≠i2→s.heap.get? c=some o→h'.get? c=some o)→Q (.ref s.heap.objs.size) { s with heap:=h',toks:=tk }) :
    wpAny (model prog w) A (Builtin.«zip.__next__» ⟨[.ref z],[]⟩) (fun fin s'=>∃ v,fin=.done (.ret v)∧Q v s') E s:=by
  obtain ⟨hp,g,d,tk₀,os⟩:=s
  show wpAny _ _ (field (.ref z) 2 >>= _) _ _ _
  refine wpAny_bind (wpAny_field hz rfl (x:=.bool false) rfl ?_)
  show wpAny _ _ (field (.ref z) 3 >>= _) _ _ _
  refine wpAny_bind (wpAny_field hz rfl (x:=.ref TI) rfl ?_)
  refine wpAny_bind (wpAny_seqItems hTI rfl ?_)
  show wpAny _ _ (Builtin.SmallTypes.ownedTupleIsFree (.ref z) >>= _) _ _ _
  refine wpAny_bind ?_
  unfold Builtin.SmallTypes.ownedTupleIsFree
  refine wpAny_bind (wpAny_field hz rfl (x:=.none) rfl (wpAny_pure ?_))
  simp only [if_true]
  refine wpAny_bind (wpAny_rule ?_)
  refine wpAny_bind (wpAny_field hz rfl (x:=.ref TO) rfl ?_)
  refine wpAny_bind (wpAny_setField_rec hz (by simp) fun h₁ hz₁ hs₁=>?_)
  replace hz₁:IsZip h₁ z TI TO .ellipsis:=hz₁
  replace hs₁:Heap.SameBut z hp h₁:=hs₁
  refine wpAny_bind ?_
  simp only [List.zipIdx_cons,List.zipIdx_nil,List.forIn_cons,List.forIn_nil]
  refine wpAny_bind (wpAny_bind (wpAny_onRaise ?_))
  show wpAny _ _ (Builtin.SmallTypes.nextOf (.ref i1) >>= _) _ _ _
  have h1₁:S1 k h₁:=D1.frame _ _ _ h1 fun c hc o e=>hs₁.extBut _ _ (fun q=>Z.z1 (q ▸ hc)) e
  refine wpAny_bind (D1.item k _ _ _ l1 h1₁ fun x h₂ tk₂ hx h1₂ hs₂=>wpAny_pure ?_)
  replace hs₂:Heap.SameBut i1 h₁ h₂:=hs₂
  have hTO₂:IsPair h₂ TO a b:=hs₂.extBut _ _ Z.TOi1 (hs₁.extBut _ _ Z.TOz hTO)
  refine wpAny_bind (wpAny_seqItems (s:=⟨h₂,g,d,tk₂,os⟩) hTO₂ rfl ?_)
  refine wpAny_bind (wpAny_updateSeq_pair (s:=⟨h₂,g,d,tk₂,os⟩) hTO₂ fun h₃ hTO₃ hs₃=>?_)
  replace hTO₃:IsPair h₃ TO x b:=hTO₃
  replace hs₃:Heap.SameBut TO h₂ h₃:=hs₃
  refine wpAny_bind (wpAny_letGo (wpAny_pure ?_))
  refine wpAny_bind (wpAny_bind (wpAny_onRaise ?_))
  show wpAny _ _ (Builtin.SmallTypes.nextOf (.ref i2) >>= _) _ _ _
  have h2₃:S2 k h₃:=D2.frame _ _ _ h2 fun c hc o e=>hs₃.extBut _ _ (fun q=>Z.o2 (q ▸ hc)) (hs₂.extBut _ _ (fun q=>Z.a2 (q ▸ hc)) (hs₁.extBut _ _ (fun q=>Z.z2 (q ▸ hc)) e))
  refine wpAny_bind (D2.item k _ _ _ l2 h2₃ fun y h₄ tk₄ hy h2₄ hs₄=>wpAny_pure ?_)
  replace hs₄:Heap.SameBut i2 h₃ h₄:=hs₄
  have hTO₄:IsPair h₄ TO x b:=hs₄.extBut _ _ Z.TOi2 hTO₃
  refine wpAny_bind (wpAny_seqItems (s:=⟨h₄,g,d,tk₄,os⟩) hTO₄ rfl ?_)
  refine wpAny_bind (wpAny_updateSeq_pair (s:=⟨h₄,g,d,tk₄,os⟩) hTO₄ fun h₅ hTO₅ hs₅=>?_)
  replace hTO₅:IsPair h₅ TO x y:=hTO₅
  replace hs₅:Heap.SameBut TO h₄ h₅:=hs₅
  refine wpAny_bind (wpAny_letGo (wpAny_pure (wpAny_pure ?_)))
  refine wpAny_bind (wpAny_seqItems (s:=⟨h₅,g,d,tk₄,os⟩) hTO₅ rfl ?_)
  refine wpAny_bind (wpAny_newTuple ?_)
  have hsz:h₅.objs.size=hp.objs.size:=by rw [hs₅.1,hs₄.1,hs₃.1,hs₂.1,hs₁.1]
  have hz₅:IsZip h₅ z TI TO .ellipsis:=hs₅.extBut _ _ Z.TOz.symm (hs₄.extBut _ _ Z.i2z.symm (hs₃.extBut _ _ Z.TOz.symm (hs₂.extBut _ _ Z.i1z.symm hz₁)))
  have hk₅:∀ c o,c≠z→c≠TO→c≠i1→c≠i2→hp.get? c=some o→h₅.get? c=some o:=fun c o c1 c2 c3 c4 e=>
    hs₅.extBut _ _ c2 (hs₄.extBut _ _ c4 (hs₃.extBut _ _ c2 (hs₂.extBut _ _ c3 (hs₁.extBut _ _ c1 e))))
  have h1₅:S1 (k+1) h₅:=D1.frame _ _ _ h1₂ fun c hc o e=>hs₅.extBut _ _ (fun q=>Z.o1 (q ▸ hc)) (hs₄.extBut _ _ (fun q=>Z.a1 (q ▸ hc)) (hs₃.extBut _ _ (fun q=>Z.o1 (q ▸ hc)) e))
  have h2₅:S2 (k+1) h₅:=D2.frame _ _ _ h2₄ fun c hc o e=>hs₅.extBut _ _ (fun q=>Z.o2 (q ▸ hc)) e
  have hzlt:z < h₅.objs.size:=Heap.lt_size hz₅
  show wpAny _ _ (Builtin.SmallTypes.ownedTupleHandOut (.ref z) (.ref h₅.objs.size) >>= _) _ _ _
  refine wpAny_bind ?_
  unfold Builtin.SmallTypes.ownedTupleHandOut
  have hz₆:IsZip (h₅.push { cls:=.type "tuple", data:=.seq #[x,y] }) z TI TO .ellipsis:=Heap.get?_push_of_some _ hz₅
  refine wpAny_bind (wpAny_setField_rec hz₆ (by simp) fun h₇ hz₇ hs₇=>?_)
  replace hz₇:IsZip h₇ z TI TO (rawInt h₅.objs.size):=hz₇
  replace hs₇:Heap.SameBut z (h₅.push { cls:=.type "tuple", data:=.seq #[x,y] }) h₇:=hs₇
  refine wpAny_setField_rec hz₇ (by simp) fun h₈ hz₈ hs₈=>?_
  replace hz₈:IsZip h₈ z TI TO (rawInt h₅.objs.size):=hz₈
  replace hs₈:Heap.SameBut z h₇ h₈:=hs₈
  have up:∀ c o,c≠z→h₅.get? c=some o→h₈.get? c=some o:=fun c o c1 e=>hs₈.extBut _ _ c1 (hs₇.extBut _ _ c1 (Heap.get?_push_of_some _ e))
  have hT₈:IsPair h₈ h₅.objs.size x y:=hs₈.extBut _ _ (Nat.ne_of_gt hzlt) (hs₇.extBut _ _ (Nat.ne_of_gt hzlt) (Heap.get?_push_size _ rfl))
  have hz8:h₈.objs.size=h₅.objs.size+1:=by rw [hs₈.1,hs₇.1,Heap.size_push]
  rw [hsz] at hz₈ hT₈ hz8
  refine wpAny_pure ⟨_,rfl,?_⟩
  show Q (.ref h₅.objs.size) _
  rw [hsz]
  exact hQ x y h₈ tk₄ hx hy hz₈ (up _ _ Z.TOz hTO₅) (D1.frame _ _ _ h1₅ fun c hc o e=>up c o (fun q=>Z.z1 (q ▸ hc)) e) (D2.frame _ _ _ h2₅ fun c hc o e=>up c o (fun q=>Z.z2 (q ▸ hc)) e) hT₈ hz8 fun c o c1 c2 c3 c4 e=>up c o c1 (hk₅ c o c1 c2 c3 c4 e)
theorem zip_next_endD {z TI TO i1 i2:Addr} {fp1 fp2:List Addr} {n1 n2 k:Nat} {P1 P2:Nat→Value→Prop} {S1 S2:Nat→Heap→Prop} {a b:Value} {Q:Fin→Shared→Prop} (Z:ZA z TI TO i1 i2 fp1 fp2)
    (D1:Draws prog w A i1 fp1 n1 P1 S1) (D2:Draws prog w A i2 fp2 n2 P2 S2)
    (hz:IsZip s.heap z TI TO .none) (hTI:IsPair s.heap TI (.ref i1) (.ref i2)) (hTO:IsPair s.heap TO a b) (h1:S1 k s.heap) (h2:S2 k s.heap) (hend:n1=k∨(k < n1∧n2=k))
    (hE:∀ h' e tk,(∀ c o,c≠z→c≠TO→c≠i1→c≠i2→s.heap.get? c=some o→h'.get? c=some o)→(∃ o,h'.get? e=some o∧o.cls=.type "StopIteration")→E (.ref e) { s with heap:=h',toks:=tk }) :
    wpAny (model prog w) A (Builtin.«zip.__next__» ⟨[.ref z],[]⟩) Q E s:=by
  obtain ⟨hp,g,d,tk₀,os⟩:=s
  show wpAny _ _ (field (.ref z) 2 >>= _) _ _ _
  refine wpAny_bind (wpAny_field hz rfl (x:=.bool false) rfl ?_)
  show wpAny _ _ (field (.ref z) 3 >>= _) _ _ _
  refine wpAny_bind (wpAny_field hz rfl (x:=.ref TI) rfl ?_)
  refine wpAny_bind (wpAny_seqItems hTI rfl ?_)
  show wpAny _ _ (Builtin.SmallTypes.ownedTupleIsFree (.ref z) >>= _) _ _ _
  refine wpAny_bind ?_
  unfold Builtin.SmallTypes.ownedTupleIsFree
  refine wpAny_bind (wpAny_field hz rfl (x:=.none) rfl (wpAny_pure ?_))
  simp only [if_true]
  refine wpAny_bind (wpAny_rule ?_)
  refine wpAny_bind (wpAny_field hz rfl (x:=.ref TO) rfl ?_)
  refine wpAny_bind (wpAny_setField_rec hz (by simp) fun h₁ hz₁ hs₁=>?_)
  replace hz₁:IsZip h₁ z TI TO .ellipsis:=hz₁
  replace hs₁:Heap.SameBut z hp h₁:=hs₁
  refine wpAny_bind ?_
  simp only [List.zipIdx_cons,List.zipIdx_nil,List.forIn_cons,List.forIn_nil]
  refine wpAny_bind (wpAny_bind (wpAny_onRaise ?_))
  show wpAny _ _ (Builtin.SmallTypes.nextOf (.ref i1) >>= _) _ _ _
  have h1₁:S1 k h₁:=D1.frame _ _ _ h1 fun c hc o e=>hs₁.extBut _ _ (fun q=>Z.z1 (q ▸ hc)) e
  rcases hend with hn | ⟨l1,hn⟩
  · subst hn
    refine wpAny_bind (D1.done _ _ _ h1₁ fun h₂ e hs₂ he=>?_)
    obtain ⟨oe,hoe,hce⟩:=he
    replace hs₂:Heap.ExtBut i1 h₁ h₂:=hs₂
    have hz₂:IsZip h₂ z TI TO .ellipsis:=hs₂ _ _ Z.i1z.symm hz₁
    have hez:e≠z:=fun x=>by subst x;rw [hz₂] at hoe;cases hoe;simp at hce
    exact wpAny_setField_rec hz₂ (by simp) fun h₃ _ hs₃=>hE h₃ e _ (fun c o c1 _ c3 _ x=>hs₃.extBut _ _ c1 (hs₂ _ _ c3 (hs₁.extBut _ _ c1 x))) ⟨oe,hs₃.extBut _ _ hez hoe,hce⟩
  · subst hn
    refine wpAny_bind (D1.item _ _ _ _ l1 h1₁ fun x h₂ tk₂ hx h1₂ hs₂=>wpAny_pure ?_)
    replace hs₂:Heap.SameBut i1 h₁ h₂:=hs₂
    have hTO₂:IsPair h₂ TO a b:=hs₂.extBut _ _ Z.TOi1 (hs₁.extBut _ _ Z.TOz hTO)
    refine wpAny_bind (wpAny_seqItems (s:=⟨h₂,g,d,tk₂,os⟩) hTO₂ rfl ?_)
    refine wpAny_bind (wpAny_updateSeq_pair (s:=⟨h₂,g,d,tk₂,os⟩) hTO₂ fun h₃ hTO₃ hs₃=>?_)
    replace hs₃:Heap.SameBut TO h₂ h₃:=hs₃
    refine wpAny_bind (wpAny_letGo (wpAny_pure ?_))
    refine wpAny_bind (wpAny_bind (wpAny_onRaise ?_))
    show wpAny _ _ (Builtin.SmallTypes.nextOf (.ref i2) >>= _) _ _ _
    have h2₃:=D2.frame _ _ h₃ h2 fun c hc o e=>hs₃.extBut _ _ (fun q=>Z.o2 (q ▸ hc)) (hs₂.extBut _ _ (fun q=>Z.a2 (q ▸ hc)) (hs₁.extBut _ _ (fun q=>Z.z2 (q ▸ hc)) e))
    refine wpAny_bind (D2.done _ _ _ h2₃ fun h₄ e hs₄ he=>?_)
    obtain ⟨oe,hoe,hce⟩:=he
    replace hs₄:Heap.ExtBut i2 h₃ h₄:=hs₄
    have hz₄:IsZip h₄ z TI TO .ellipsis:=hs₄ _ _ Z.i2z.symm (hs₃.extBut _ _ Z.TOz.symm (hs₂.extBut _ _ Z.i1z.symm hz₁))
    have hez:e≠z:=fun x=>by subst x;rw [hz₄] at hoe;cases hoe;simp at hce
    exact wpAny_setField_rec hz₄ (by simp) fun h₅ _ hs₅=>hE h₅ e _ (fun c o c1 c2 c3 c4 x=>hs₅.extBut _ _ c1 (hs₄ _ _ c4 (hs₃.extBut _ _ c2 (hs₂.extBut _ _ c3 (hs₁.extBut _ _ c1 x))))) ⟨oe,hs₅.extBut _ _ hez hoe,hce⟩
end
def Itz (κ1 κ2:SK):It:=
  ⟨fun i H=>∃ xs ys x y,κ1.has H xs∧κ2.has H ys∧xs[i]?=some x∧ys[i]?=some y,
   fun i H v H'=>∃ p x y,v=.ref p∧H p=none∧H'=upd H p (.tup [x,y])∧(∀ xs,κ1.has H xs→xs[i]?=some x)∧∀ ys,κ2.has H ys→ys[i]?=some y,
   fun i H=>∃ xs ys,κ1.has H xs∧κ2.has H ys∧(xs.length=i∨(i < xs.length∧ys.length=i))⟩
theorem turn_zip {P:Program} {w:World} {K:PySem.W.Frag} {elts:List Expr} {x1:Nat} {tpos:Pos} (κ1 κ2:SK) (z TI TO i1 i2:Addr) (hnd:[z,TI,TO,i1,i2].Nodup) :
    Turn P w K (.Tuple elts x1 tpos) (Itz κ1 κ2) [z,TI,TO,i1,i2] z (fun i h=>IsZip h z TI TO .none∧IsPair h TI (.ref i1) (.ref i2)∧(∃ a b,IsPair h TO a b)∧κ1.own i1 i h∧κ2.own i2 i h) where
  mem:=by simp
  obj:=fun i h st b hb=>by
    obtain ⟨hz,hTI,⟨a,c,hTO⟩,h1,h2⟩:=st
    simp only [List.mem_cons,List.not_mem_nil,or_false] at hb
    rcases hb with rfl | rfl | rfl | rfl | rfl
    · exact ⟨_,hz,fun v y=>by have y':Data.fields _=Data.cell v:=y;cases y'⟩
    · exact ⟨_,hTI,fun v y=>by have y':Data.seq _ _=Data.cell v:=y;cases y'⟩
    · exact ⟨_,hTO,fun v y=>by have y':Data.seq _ _=Data.cell v:=y;cases y'⟩
    · obtain ⟨o,e1,e2,_⟩:=SK.own_obj h1;exact ⟨o,e1,e2⟩
    · obtain ⟨o,e1,e2,_⟩:=SK.own_obj h2;exact ⟨o,e1,e2⟩
  keep:=fun i h h' st k=>by
    obtain ⟨hz,hTI,⟨a,c,hTO⟩,h1,h2⟩:=st
    exact ⟨k z (by simp) _ hz,k TI (by simp) _ hTI,⟨a,c,k TO (by simp) _ hTO⟩,SK.own_at h1 fun o q=>k i1 (by simp) o q,SK.own_at h2 fun o q=>k i2 (by simp) o q⟩
  item:=by
    intro X hP hw hK hc i pins s σ H E I hf st hg
    subst hP hw hK
    obtain ⟨hz,hTI,⟨a,c,hTO⟩,h1,h2⟩:=st
    obtain ⟨xs,ys,x,y,hx,hy,hxi,hyi⟩:=hg
    have l1:i < xs.length:=(List.getElem?_eq_some_iff.mp hxi).1
    have l2:i < ys.length:=(List.getElem?_eq_some_iff.mp hyi).1
    have hh:X.A.in1.handled=none:=I.ok.hd hc
    obtain ⟨P1,S1,D1,s1,r1,w1⟩:=sk_draws (A:=X.A.in1) I hx h1 (hf i1 (by simp)).1 hh
    obtain ⟨P2,S2,D2,s2,r2,w2⟩:=sk_draws (A:=X.A.in1) I hy h2 (hf i2 (by simp)).1 hh
    simp only [List.nodup_cons,List.mem_cons,List.not_mem_nil,or_false,not_or] at hnd
    obtain ⟨⟨n1,n2,n3,n4⟩,⟨n5,n6,n7⟩,⟨n8,n9⟩,n10,_⟩:=hnd
    have nb:∀ {κ:SK} {zs:List V} {b it:Addr},κ.has H zs→H b=none→b≠it→b ∉ it :: κ.box:=fun {κ zs b it} hκ hb hne q=>by
      rcases List.mem_cons.mp q with q | q
      · exact hne q
      · exact SK.box_some hκ q hb
    have Z:ZA z TI TO i1 i2 (i1 :: κ1.box) (i2 :: κ2.box):=
      { TIz:=Ne.symm n1,TOz:=Ne.symm n2,i1z:=Ne.symm n3,i2z:=Ne.symm n4,TITO:=n5,TIi1:=n6,TIi2:=n7,TOi1:=n8,TOi2:=n9,i12:=n10
        z1:=nb hx (hf z (by simp)).1 n3,z2:=nb hy (hf z (by simp)).1 n4,o1:=nb hx (hf TO (by simp)).1 n8,o2:=nb hy (hf TO (by simp)).1 n9,a1:=nb hx (hf i2 (by simp)).1 (Ne.symm n10),a2:=nb hy (hf i1 (by simp)).1 n10 }
    have hT:s.TypeIs (.ref z) "zip" := ⟨_,hz,rfl⟩
    unfold pyNext
    refine wpAny_bind (wpAny_attempt (wpAny_callSpecial?_slot (name:=Str.ofString "__next__") hT F.slot_zip_next
      (wpAny_call_entry F.slot_zip_next hT F.entry_zip_next
        (zip_next_itemD Z D1 D2 hz hTI hTO s1 s2 l1 l2 fun u v h' tk hu hv hz' hTO' s1' s2' hT' hsz hk=>wpAny_pure ⟨_,rfl,?_⟩) (F.args_zip_next_1 _))))
    refine wpAny_letOwnedTupleGo_zip hz' fun h'' hz'' hs''=>?_
    obtain ⟨x',hx',rx⟩:=r1 i u hu
    obtain ⟨y',hy',ry⟩:=r2 i v hv
    have ex:x'=x:=Option.some.inj (hx'.symm.trans hxi)
    have ey:y'=y:=Option.some.inj (hy'.symm.trans hyi)
    subst ex ey
    have kk:∀ b ob,b ∉ [z,TI,TO,i1,i2]→s.heap.get? b=some ob→h''.get? b=some ob:=fun b ob hb q=>
      (hs''.2 b (fun e=>hb (by simp [e]))).trans (hk b ob (fun e=>hb (by simp [e])) (fun e=>hb (by simp [e])) (fun e=>hb (by simp [e])) (fun e=>hb (by simp [e])) q)
    have ne:s.heap.objs.size≠z:=Nat.ne_of_gt (Heap.lt_size hz)
    have hT'':h''.get? s.heap.objs.size=some { cls:=.type "tuple", data:=.seq #[u,v] }:=(hs''.2 _ ne).trans hT'
    refine ⟨.ref s.heap.objs.size,upd H s.heap.objs.size (.tup [x',y']),I.turnedNew (tk:=tk) hf kk (Nat.le_refl _) ⟨⟨(by show 2≤sizeLine;decide),_,hT'',rfl⟩,[u,v],.cons rx (.cons ry .nil),_,hT'',rfl,0,rfl⟩,rfl,
      ⟨_,x',y',rfl,I.hok.fresh (Nat.le_refl _),rfl,fun zs hzs=>by rw [SK.inj hzs hx];exact hxi,fun zs hzs=>by rw [SK.inj hzs hy];exact hyi⟩,
      ⟨hz'',hs''.extBut _ _ (Ne.symm n1) (hk _ _ (Ne.symm n1) n5 n6 n7 hTI),⟨_,_,hs''.extBut _ _ (Ne.symm n2) hTO'⟩,SK.own_at (w1 _ _ s1') fun o q=>(hs''.2 i1 (Ne.symm n3)).trans q,SK.own_at (w2 _ _ s2') fun o q=>(hs''.2 i2 (Ne.symm n4)).trans q⟩,fun b hb=>?_⟩
    have hob:∃ o,s.heap.get? b=some o:=by
      simp only [List.mem_cons,List.not_mem_nil,or_false] at hb
      rcases hb with rfl | rfl | rfl | rfl | rfl
      · exact ⟨_,hz⟩
      · exact ⟨_,hTI⟩
      · exact ⟨_,hTO⟩
      · obtain ⟨o,e1,_⟩:=SK.own_obj h1;exact ⟨o,e1⟩
      · obtain ⟨o,e1,_⟩:=SK.own_obj h2;exact ⟨o,e1⟩
    obtain ⟨o,hob⟩:=hob
    rw [upd_ne (Nat.ne_of_lt (Heap.lt_size hob))]
    exact (hf b hb).1
  done:=by
    intro X hP hw hK hc i pins s σ H E I hf st hg
    subst hP hw hK
    obtain ⟨hz,hTI,⟨a,c,hTO⟩,h1,h2⟩:=st
    obtain ⟨xs,ys,hx,hy,hend⟩:=hg
    have hh:X.A.in1.handled=none:=I.ok.hd hc
    obtain ⟨P1,S1,D1,s1,r1,w1⟩:=sk_draws (A:=X.A.in1) I hx h1 (hf i1 (by simp)).1 hh
    obtain ⟨P2,S2,D2,s2,r2,w2⟩:=sk_draws (A:=X.A.in1) I hy h2 (hf i2 (by simp)).1 hh
    simp only [List.nodup_cons,List.mem_cons,List.not_mem_nil,or_false,not_or] at hnd
    obtain ⟨⟨n1,n2,n3,n4⟩,⟨n5,n6,n7⟩,⟨n8,n9⟩,n10,_⟩:=hnd
    have nb:∀ {κ:SK} {zs:List V} {b it:Addr},κ.has H zs→H b=none→b≠it→b ∉ it :: κ.box:=fun {κ zs b it} hκ hb hne q=>by
      rcases List.mem_cons.mp q with q | q
      · exact hne q
      · exact SK.box_some hκ q hb
    have Z:ZA z TI TO i1 i2 (i1 :: κ1.box) (i2 :: κ2.box):=
      { TIz:=Ne.symm n1,TOz:=Ne.symm n2,i1z:=Ne.symm n3,i2z:=Ne.symm n4,TITO:=n5,TIi1:=n6,TIi2:=n7,TOi1:=n8,TOi2:=n9,i12:=n10
        z1:=nb hx (hf z (by simp)).1 n3,z2:=nb hy (hf z (by simp)).1 n4,o1:=nb hx (hf TO (by simp)).1 n8,o2:=nb hy (hf TO (by simp)).1 n9,a1:=nb hx (hf i2 (by simp)).1 (Ne.symm n10),a2:=nb hy (hf i1 (by simp)).1 n10 }
    have hT:s.TypeIs (.ref z) "zip" := ⟨_,hz,rfl⟩
    unfold pyNext
    refine wpAny_bind (wpAny_attempt (wpAny_callSpecial?_slot (name:=Str.ofString "__next__") hT F.slot_zip_next
      (wpAny_call_entry F.slot_zip_next hT F.entry_zip_next (zip_next_endD Z D1 D2 hz hTI hTO s1 s2 hend fun h' e tk hk he=>?_) (F.args_zip_next_1 _))))
    obtain ⟨o,ho,hcl⟩:=he
    refine wpAny_bind (wpAny_isInstance (T := "StopIteration") (b:=true) ⟨o,ho,hcl⟩ isSubtype_stop ?_)
    exact wpAny_pure ⟨rfl,I.turnedMany hf fun b ob hb q=>hk b ob (fun e=>hb (by simp [e])) (fun e=>hb (by simp [e])) (fun e=>hb (by simp [e])) (fun e=>hb (by simp [e])) q⟩
  self:=fun _ _ _ _ _ st h=>wpAny_pyIter_zip st.1 h
def itObj (v:Value):SK→Obj
  | .lst _=>{ cls:=.type "list_iterator", data:=.fields #[v,.int 0 0] }
  | .tup _=>{ cls:=.type "tuple_iterator", data:=.fields #[v,.int 0 0] }
  | .str x=>{ cls:=.type (strIterType x),data:=.fields #[v,.int 0 0] }
theorem itObj_live (v:Value) (κ:SK):(itObj v κ).isFreed=false:=by cases κ <;> rfl
def Iters (h:Heap) (v:Value) (o:Obj):Prop:=∀ (prog:Program) (w:World) (A:Around) (E:Value→Shared→Prop) (s:Shared) (Q:Value→Shared→Prop),(∀ b ob,h.get? b=some ob→s.heap.get? b=some ob)→Q (.ref s.heap.objs.size) { s with heap:=s.heap.push o }→wpAny (model prog w) A (pyIter v) Q E s
theorem sk_iters {X:Cx} {pins:List (Addr × Obj)} {σ:St} {H:Hp} {s:Shared} {κ:SK} {xs:List V} {u:Value} (I:Inv X pins σ H s) (hv:κ.has H xs) (r:RelV κ.val u):Iters s.heap u (itObj u κ):=by
  intro prog w A E s' Q k h
  cases κ with
  | lst a=>
    cases (show u=Value.ref a from r)
    obtain ⟨_,its,n,rr,e⟩:=Rd.ok hv I.hok
    exact wpAny_pyIter_list (items:=its.toArray) ⟨_,k _ _ e,rfl,n,rfl⟩ h
  | tup a=>
    cases (show u=Value.ref a from r)
    obtain ⟨_,its,rr,o,e,c⟩:=Rd.ok hv I.hok
    exact wpAny_pyIter_tuple (items:=its.toArray) ⟨o,k _ _ e,c⟩ h
  | str x=>
    obtain ⟨t,q⟩:=(show ∃ t,u=Value.str x t from r)
    subst q
    exact wpAny_pyIter_strU h
theorem sk_own0 {κ:SK} {u:Value} {h h':Heap} {it:Addr} (r:RelV κ.val u) (e:h.get? it=some (itObj u κ)):κ.own it 0 h:=by
  cases κ with
  | lst a=>cases (show u=Value.ref a from r);exact ⟨_,e,rfl,rfl⟩
  | tup a=>cases (show u=Value.ref a from r);exact ⟨_,e,rfl,rfl⟩
  | str x=>obtain ⟨t,q⟩:=(show ∃ t,u=Value.str x t from r);subst q;exact ⟨t,_,e,rfl,rfl⟩
abbrev zH1 (h:Heap) (o1:Obj):Heap:=h.push o1
abbrev zH2 (h:Heap) (o1 o2:Obj):Heap:=(zH1 h o1).push o2
abbrev zH3 (h:Heap) (o1 o2:Obj):Heap:=(zH2 h o1 o2).push { cls:=.type "tuple", data:=.seq #[.ref h.objs.size,.ref (zH1 h o1).objs.size] }
abbrev zH4 (h:Heap) (o1 o2:Obj):Heap:=(zH3 h o1 o2).push { cls:=.type "tuple", data:=.seq #[.none,.none] }
abbrev zH5 (h:Heap) (o1 o2:Obj):Heap:=(zH4 h o1 o2).push { cls:=.type "zip", data:=.fields #[.none,.bool false,.bool false,.ref (zH2 h o1 o2).objs.size,.ref (zH3 h o1 o2).objs.size] }
set_option maxHeartbeats 4000000 in
theorem meets_zipG (v1 v2:Value) (o1 o2:Obj) :
    Meets (Builtin.«zip.__new__» ⟨[.type "zip", v1,v2],[]⟩) (fun _ R s=>Iters s.heap v1 o1∧Iters s.heap v2 o2 ∧
      R (.ok (.ret (.ref (zH4 s.heap o1 o2).objs.size))) { s with heap:=zH5 s.heap o1 o2 }):=
  .of_wp fun prog w A R s h=>by
    obtain ⟨hp,g,d,tk,os⟩:=s;obtain ⟨hl1,hl2,h⟩:=h
    have hsub:=sub_zip
    have g1:∀ (A:Around) (E:Value→Shared→Prop) (Q:Value→Shared→Prop),Q (.ref hp.objs.size) ⟨hp.push o1,g,d,tk,os⟩→wpAny (model prog w) A (pyIter v1) Q E ⟨hp,g,d,tk,os⟩:=fun A E Q q=>hl1 prog w A E ⟨hp,g,d,tk,os⟩ Q (fun _ _ e=>e) q
    have g2:∀ (A:Around) (E:Value→Shared→Prop) (Q:Value→Shared→Prop),Q (.ref (hp.push o1).objs.size) ⟨(hp.push o1).push o2,g,d,tk,os⟩→wpAny (model prog w) A (pyIter v2) Q E ⟨hp.push o1,g,d,tk,os⟩:=fun A E Q q=>hl2 prog w A E ⟨hp.push o1,g,d,tk,os⟩ Q (fun _ _ e=>Heap.get?_push_of_some _ e) q
    wp_walk using g1 _ _ _,g2 _ _ _
    exact ⟨_,rfl,h⟩
theorem call_zipG {prog:Program} {w:World} {A:Around} {E:Value→Shared→Prop} {s:Shared} {v1 v2:Value} {o1 o2:Obj} {Q:Value→Shared→Prop} (f1:o1.isFreed=false) (f2:o2.isFreed=false) (hl1:Iters s.heap v1 o1) (hl2:Iters s.heap v2 o2)
    (h:∀ h',IsZip h' (s.heap.objs.size+4) (s.heap.objs.size+2) (s.heap.objs.size+3) .none→IsPair h' (s.heap.objs.size+2) (.ref s.heap.objs.size) (.ref (s.heap.objs.size+1)) →
      IsPair h' (s.heap.objs.size+3) .none .none→h'.get? s.heap.objs.size=some o1→h'.get? (s.heap.objs.size+1)=some o2 →
      (∀ c o,s.heap.get? c=some o→h'.get? c=some o)→Q (.ref (s.heap.objs.size+4)) { s with heap:=h' }) :
    wpAny (model prog w) A (call (.type "zip") [v1,v2]) Q E s:=by
  refine callType_new F.called_zip (by decide) (F.typeCall_zip_2 _ _) (F.newCall_zip_2 _ _) (fun obj=>F.args_object_init_3 obj _ _) F.entry_zip_new
    (meets_zipG v1 v2 o1 o2) ⟨hl1,hl2,?_⟩
  have z1:(zH1 s.heap o1).objs.size=s.heap.objs.size+1:=Heap.size_push ..
  have z2:(zH2 s.heap o1 o2).objs.size=s.heap.objs.size+2:=by rw [Heap.size_push,z1]
  have z3:(zH3 s.heap o1 o2).objs.size=s.heap.objs.size+3:=by rw [Heap.size_push,z2]
  have z4:(zH4 s.heap o1 o2).objs.size=s.heap.objs.size+4:=by rw [Heap.size_push,z3]
  have g5:(zH5 s.heap o1 o2).get? (zH4 s.heap o1 o2).objs.size=some _:=Heap.get?_push_size _ rfl
  have g4:(zH5 s.heap o1 o2).get? (zH3 s.heap o1 o2).objs.size=some _:=Heap.get?_push_of_some _ (Heap.get?_push_size _ rfl)
  have g3:(zH5 s.heap o1 o2).get? (zH2 s.heap o1 o2).objs.size=some _:=Heap.get?_push_of_some _ (Heap.get?_push_of_some _ (Heap.get?_push_size _ rfl))
  have g2:(zH5 s.heap o1 o2).get? (zH1 s.heap o1).objs.size=some _:=Heap.get?_push_of_some _ (Heap.get?_push_of_some _ (Heap.get?_push_of_some _ (Heap.get?_push_size _ f2)))
  have g1:(zH5 s.heap o1 o2).get? s.heap.objs.size=some _:=Heap.get?_push_of_some _ (Heap.get?_push_of_some _ (Heap.get?_push_of_some _ (Heap.get?_push_of_some _ (Heap.get?_push_size _ f1))))
  show _∧_
  rw [z2,z3,z4] at g5
  rw [z1,z2] at g3
  rw [z3] at g4
  rw [z1] at g2
  rw [z4]
  exact ⟨⟨_,g5,rfl⟩,h _ g5 g3 g4 g1 g2 fun c o x=>
    Heap.get?_push_of_some _ (Heap.get?_push_of_some _ (Heap.get?_push_of_some _ (Heap.get?_push_of_some _ (Heap.get?_push_of_some _ x))))⟩
section
variable {X:Cx}
def iZip (ta:TA):TI:=fun σ H R=>ta σ H fun vs H1=>∃ κ1 κ2:SK,vs=[κ1.val,κ2.val]∧(∃ xs,κ1.has H1 xs)∧(∃ ys,κ2.has H1 ys)∧R (Itz κ1 κ2) H1
theorem pi_zip {a b:Expr} {ta:TA} {p pos:Pos} {elts:List Expr} {x1:Nat} {tpos:Pos} (hg:Gl X "zip") (hm:X.mg "zip" = none) (ha:PA X [a,b] ta)
    (hs:starEach [a,b] X.env=[(false,eval a X.env),(false,eval b X.env)]:=by rfl) (hs2:starEach [b] X.env=[(false,eval b X.env)]:=by rfl):PI X (.Tuple elts x1 tpos) (.Call (.Name "zip" p) [a,b] [] pos) (iZip ta):=by
  intro pins s σ H R I h
  refine Call_ (ld_blt I hg hm boot_zip (PyProof.Rows.callWith_type1 (thn (ha pos pins s σ H _ I h) fun us s1 ⟨vs,H1,I1,r1,q1⟩=>?_) (by rw [hs,hs2]) (by rw [hs2];rfl)))
  obtain ⟨κ1,κ2,e,⟨xs,hx⟩,⟨ys,hy⟩,q⟩:=q1
  subst e
  obtain ⟨u,v,rfl,ru,rv⟩:=vals2 r1
  refine call_zipG (itObj_live u κ1) (itObj_live v κ2) (sk_iters I1 hx ru) (sk_iters I1 hy rv) fun h' hz hTI hTO h1 h2 hk=>?_
  refine wpAny_pyIter_zip hz ⟨s1.heap.objs.size+4,[s1.heap.objs.size+4,s1.heap.objs.size+2,s1.heap.objs.size+3,s1.heap.objs.size,s1.heap.objs.size+1],_,_,H1,rfl,I1.kept (t':=s1.toks) hk,
    turn_zip κ1 κ2 _ _ _ _ _ (by simp),⟨hz,hTI,⟨_,_,hTO⟩,sk_own0 (h':=h') ru h1,sk_own0 (h':=h') rv h2⟩,fun b hb=>?_,q⟩
  have hge:s1.heap.objs.size≤b:=by
    simp only [List.mem_cons,List.not_mem_nil,or_false] at hb
    rcases hb with rfl | rfl | rfl | rfl | rfl <;> first | exact Nat.le_add_right _ _ | exact Nat.le_refl _
  exact I1.fpOk hge (I1.hok.fresh hge)
end
theorem for_zip {κ1 κ2:SK} {xs ys:List V} {g:TG} {tb:TS} {D:Ends} {σ:St} {H:Hp} (Pv:Nat→St→Hp→Prop) (h0:Pv 0 σ H) (hlen:xs.length=ys.length) (hl:∀ i σ H,i≤xs.length→Pv i σ H→κ1.has H xs∧κ2.has H ys)
    (hs:∀ i x y σ H p,xs[i]?=some x→ys[i]?=some y→Pv i σ H→H p=none→g (.ref p) σ (upd H p (.tup [x,y])) fun σ2 H2=>tb { D with nx:=Pv (i+1),ct:=Pv (i+1),bk:=D.nx } σ2 H2) (hd:∀ σ H,Pv xs.length σ H→D.nx σ H) :
    ∃ W:Nat→Nat→St→Hp→Prop,(∃ m,W 0 m σ H)∧∀ i m σ H,W i m σ H →
      ((Itz κ1 κ2).stop i H∧D.nx σ H)∨((Itz κ1 κ2).go i H∧∃ N:St→Hp→Prop,(∀ σ' H',N σ' H'→∃ m',m' < m∧W (i+1) m' σ' H')∧∀ x H',(Itz κ1 κ2).yld i H x H'→g x σ H' fun σ2 H2=>tb { D with nx:=N,ct:=N,bk:=D.nx } σ2 H2):=by
  refine ⟨fun i m σ H=>i≤xs.length∧m=xs.length - i∧Pv i σ H,⟨xs.length,Nat.zero_le _,rfl,h0⟩,fun i m σ H ⟨hi,hm,hp⟩=>?_⟩
  obtain ⟨a1,a2⟩:=hl i σ H hi hp
  rcases Nat.lt_or_ge i xs.length with lt | ge
  · have lt2:i < ys.length:=by omega
    refine .inr ⟨⟨xs,ys,xs[i],ys[i],a1,a2,List.getElem?_eq_getElem lt,List.getElem?_eq_getElem lt2⟩,Pv (i+1),fun σ' H' hn=>⟨xs.length - (i+1),by omega,by omega,rfl,hn⟩,fun x H' hy=>?_⟩
    obtain ⟨p,x',y',rfl,hpn,rfl,e1,e2⟩:=hy
    exact hs i x' y' σ H p (e1 xs a1) (e2 ys a2) hp hpn
  · have e:i=xs.length:=by omega
    subst e
    exact .inl ⟨⟨xs,ys,a1,a2,.inl rfl⟩,hd σ H hp⟩
theorem for_enum {κ:SK} {xs:List V} {g:TG} {tb:TS} {D:Ends} {σ:St} {H:Hp} (Pv:Nat→St→Hp→Prop) (h0:Pv 0 σ H) (hl:∀ i σ H,i≤xs.length→Pv i σ H→κ.has H xs)
    (hs:∀ (i:Nat) x σ H p,xs[i]?=some x→Pv i σ H→H p=none→g (.ref p) σ (upd H p (.tup [.int i,x])) fun σ2 H2=>tb { D with nx:=Pv (i+1),ct:=Pv (i+1),bk:=D.nx } σ2 H2) (hd:∀ σ H,Pv xs.length σ H→D.nx σ H) :
    ∃ W:Nat→Nat→St→Hp→Prop,(∃ m,W 0 m σ H)∧∀ i m σ H,W i m σ H →
      ((Ite κ).stop i H∧D.nx σ H)∨((Ite κ).go i H∧∃ N:St→Hp→Prop,(∀ σ' H',N σ' H'→∃ m',m' < m∧W (i+1) m' σ' H')∧∀ x H',(Ite κ).yld i H x H'→g x σ H' fun σ2 H2=>tb { D with nx:=N,ct:=N,bk:=D.nx } σ2 H2):=by
  refine ⟨fun i m σ H=>i≤xs.length∧m=xs.length - i∧Pv i σ H,⟨xs.length,Nat.zero_le _,rfl,h0⟩,fun i m σ H ⟨hi,hm,hp⟩=>?_⟩
  have a1:=hl i σ H hi hp
  rcases Nat.lt_or_ge i xs.length with lt | ge
  · refine .inr ⟨⟨xs,xs[i],a1,List.getElem?_eq_getElem lt⟩,Pv (i+1),fun σ' H' hn=>⟨xs.length - (i+1),by omega,by omega,rfl,hn⟩,fun x H' hy=>?_⟩
    obtain ⟨p,x',rfl,hpn,rfl,e1⟩:=hy
    exact hs i x' σ H p (e1 xs a1) hp hpn
  · have e:i=xs.length:=by omega
    subst e
    exact .inl ⟨⟨xs,a1,rfl⟩,hd σ H hp⟩
def cutS (z:Str) (lo hi:Option Int):Str:=⟨((z.cps.toList.drop (HT.sIx z.length 0 lo)).take (HT.sIx z.length z.length hi - HT.sIx z.length 0 lo)).toArray⟩
theorem clip_s (i:Int) (n d:Nat):max 0 (min (if i < 0 then i+(n:Int) else i) (n:Int))=((HT.sIx n d (some i):Nat):Int):=by
  simp only [HT.sIx]
  split
  · omega
  · omega
theorem range_cut (a b:Nat):sliceRange (a:Int) (b:Int) 1=(List.range (b - a)).map fun k=>a+k:=by
  unfold sliceRange
  simp only [show ((1:Int) > 0)=True from by simp,if_true]
  by_cases hlt:(a:Int) < b
  · have e3:(((b:Int) - a+1 - 1) / 1).toNat=b - a:=by
      rw [Int.ediv_one];omega
    simp only [hlt,if_true,e3]
    refine List.map_congr_left fun k _=>?_
    omega
  · have:b - a=0:=by omega
    simp [hlt,this]
theorem sliceIdx_cut (lo hi:Option Int) (n:Nat):Builtin.Str.strSliceIndices lo hi 1 n=(List.range (HT.sIx n n hi - HT.sIx n 0 lo)).map fun k=>HT.sIx n 0 lo+k:=by
  unfold Builtin.Str.strSliceIndices
  simp only [show ((1:Int) > 0)=True from by simp,if_true]
  cases lo with
  | none=>
    cases hi with
    | none=>exact range_cut 0 n
    | some j=>dsimp only;rw [clip_s j n n];exact range_cut 0 _
  | some i=>
    cases hi with
    | none=>dsimp only;rw [clip_s i n 0];exact range_cut _ n
    | some j=>dsimp only;rw [clip_s i n 0,clip_s j n n];exact range_cut _ _
theorem slice_text (z:Str) (t:Tok) (l u:Option (Int × Tok)):∀ (Q:Value→Shared→Prop) (s:Shared),z.length≤sizeLine→(∀ t' s',s'.heap=s.heap→s'.gens=s.gens→s'.drawn=s.drawn→s'.os=s.os→Q (.str (cutS z (l.map (·.1)) (u.map (·.1))) t') s')→(sliceMade z t l u none).post Q s:=by
  intro Q s hz h
  have hidx:=sliceIdx_cut (l.map (·.1)) (u.map (·.1)) z.length
  have hle:HT.sIx z.length z.length (u.map (·.1))≤z.length:=HT.sIx_le _ _ (Nat.le_refl _) _
  have hlo:HT.sIx z.length 0 (l.map (·.1))≤z.length:=HT.sIx_le _ _ (Nat.zero_le _) _
  have hzl:z.length=z.cps.toList.length:=by simp [Str.length]
  have cut:((slicePicked z l u none).filterMap (z.cps[·]?))=(z.cps.toList.drop (HT.sIx z.length 0 (l.map (·.1)))).take (HT.sIx z.length z.length (u.map (·.1)) - HT.sIx z.length 0 (l.map (·.1))):=by
    have p:=StrLaws.picks z.cps.toList (HT.sIx z.length z.length (u.map (·.1)) - HT.sIx z.length 0 (l.map (·.1))) (HT.sIx z.length 0 (l.map (·.1))) (by omega)
    rw [← p]
    unfold slicePicked
    simp only [Option.map_none,Option.getD_none]
    rw [hidx]
    congr 1
    funext k
    simp
  unfold sliceMade
  split
  · rename_i c
    have whole:cutS z (l.map (·.1)) (u.map (·.1))=z:=by
      unfold cutS
      have e:(slicePicked z l u none).length=z.length:=by
        simp only [Bool.and_eq_true,beq_iff_eq] at c
        exact c.2
      have e':HT.sIx z.length z.length (u.map (·.1)) - HT.sIx z.length 0 (l.map (·.1))=z.length:=by
        unfold slicePicked at e
        simp only [Option.map_none,Option.getD_none] at e
        rw [hidx] at e
        simpa using e
      have e0:HT.sIx z.length 0 (l.map (·.1))=0:=by omega
      rw [e',e0,List.drop_zero,hzl,List.take_length]
    have:=h t s rfl rfl rfl rfl
    rw [whole] at this
    exact this
  · rw [cut]
    have hl':(⟨((z.cps.toList.drop (HT.sIx z.length 0 (l.map (·.1)))).take (HT.sIx z.length z.length (u.map (·.1)) - HT.sIx z.length 0 (l.map (·.1)))).toArray⟩:Str).length≤sizeLine:=by
      have:(⟨((z.cps.toList.drop (HT.sIx z.length 0 (l.map (·.1)))).take (HT.sIx z.length z.length (u.map (·.1)) - HT.sIx z.length 0 (l.map (·.1)))).toArray⟩:Str).length≤z.length:=by
        simp only [Str.length,List.size_toArray,List.length_take,List.length_drop]
        have:z.cps.size=z.length:=rfl
        omega
      omega
    first
      | exact ⟨hl',h _ _ rfl rfl rfl rfl⟩
      | exact h _ _ rfl rfl rfl rfl
def rSlS:V→Option Int→Option Int→Hp→VK→Prop:=fun x lo hi H Q=>∃ z,x=.str z∧z.length≤sizeLine∧Q (.str (cutS z lo hi)) H
theorem sl_str {X:Cx}:SlR X rSlS:=by
  intro pins s σ H x v vl vu lo hi sl Q I rx hs pl pu h
  obtain ⟨z,rfl,hz,q⟩:=h
  obtain ⟨t,rfl⟩:=rx
  refine ⟨"str", _,F.slot_str_getitem.lookup,typeIs_str s z t,?_⟩
  have part:∀ {v:Value} {o:Option Int},IsPart v o→∃ p:Option (Int × Tok),v=partValue p∧p.map (·.1)=o:=fun {v o} p=>by
    cases p with
    | none=>exact ⟨none,rfl,rfl⟩
    | int i t=>exact ⟨some (i,t),rfl,rfl⟩
  obtain ⟨l,rfl,rfl⟩:=part pl
  obtain ⟨u,rfl,rfl⟩:=part pu
  refine wpAny_getItem_str_slice (l:=l) (u:=u) (st:=none) hs rfl (slice_text z t l u _ s hz fun t' s' e1 e2 e3 e4=>⟨.str _,H,?_,⟨t',rfl⟩,q⟩)
  obtain ⟨hp,g,d,tk,os⟩:=s'
  cases e1;cases e2;cases e3;cases e4
  exact I.tok tk
theorem call_isinst {X:Cx}:CallR X (.builtin "isinstance") (fun vs H Q=>∃ x t T b,vs=[x,.ty T]∧TyOf X.K H x t∧PySem.W.kitOne X.K t (.type T)=some b∧Q (.bl b) H):=by
  intro pins s σ H xs us Q I r h
  obtain ⟨x,t,T,b,rfl,ty,e,q⟩:=h
  obtain ⟨u,v,rfl,ru,rv⟩:=vals2 r
  cases (show v=Value.type T from rv)
  exact isinst_ok I ru ty e fun tk=>⟨.bl b,H,I.tok tk,rfl,q⟩
end L2
namespace L2
open PySem PySem.Spec PyProof.Rows
theorem csc {X:Cx} {scope:Scope} {NL:List Str} {ix:List Nat} (esc:Scope) (N:List Str) (h1:X.env.scope=esc:=by rfl) (h2:X.N=N:=by rfl) (c1:scope.kind=.function:=by rfl)
    (c2:∀ y∈scope.names,y.2≠.cell:=by decide +kernel) (c3:∀ y∈scope.names,y.2=.local→scope.names.lookup y.1=some .local:=by decide +kernel)
    (c4:∀ y∈scope.names,y.2=.free→esc.names.lookup y.1=some .cell∨esc.names.lookup y.1=some .free:=by decide +kernel)
    (c5:∀ j∈ix,(N[j]?).bind (fun x=>scope.names.lookup x)=some .free:=by decide +kernel):CompScope X scope NL ix where
  kind:=c1
  cell:=c2
  names:=c3
  free:=fun y hy hf=>by
    have:=c4 y hy hf
    rw [← h1] at this
    exact this
  cap:=fun j hj=>by
    have:=c5 j hj
    rw [h2]
    cases e:N[j]? with
    | none=>rw [e] at this;cases this
    | some x=>rw [e] at this;exact ⟨x,rfl,this⟩
def Has (P:Program) (w:World) (K:PySem.W.Frag) (mg:Str→Option Value) (base:Heap) (x:Str) (k:Nat) (ps:List Str) (sp:Sp):Prop:=
  ∃ f fd,FnOk P w K mg base CX0 k f fd ps sp∧Binds K fd ps []∧PySem.W.keepIn K (.ref f)=true∧mg x=some (.ref f)
section
variable {P:Program} {w:World} {K:PySem.W.Frag} {mg:Str→Option Value} {base:Heap}
theorem Has.mono {x:Str} {j k:Nat} {ps:List Str} {sp:Sp} (G:Has P w K mg base x j ps sp) (h:j≤k):Has P w K mg base x k ps sp:=
  let ⟨f,fd,F,r⟩:=G;⟨f,fd,F.mono h,r⟩
def Df (K:PySem.W.Frag) (mg:Str→Option Value) (x:Str) (st:Stmt):Prop:=∃ f fd,Fun K x x st f fd∧mg x=some (.ref f)
theorem Df.has {x:Str} {st:Stmt} {N ps:List Str} {k:Nat} {sp:Sp} (D:Df K mg x st) (S:FnScope N ps (defScope st))
    (hb:∀ (kV doc pm:Value) (an:Option Addr) (cdv ct:Value) (us:List Value),us.length=ps.length→bindArgs (PySem.W.fnOf x x (defArgs st) (defBody st) (defScope st) .none kV doc pm an cdv ct) ⟨us,[]⟩=pure (ps.zip us))
    (len:∀ vs H Q E,sp vs H Q E→vs.length=ps.length)
    (hbody:∀ (f:Addr) (cdv:Value) (A:Around) (outer:List Env) (s:Shared) (H:Hp) (vs:List V) (Q:VK) (E:XK),Room k (A.deeper (envOfC x (defScope st) s.heap.objs.size f cdv))→sp vs H Q E →
      ∃ t,PSs (cxOf CX0 P w K mg base N x (defScope st) f cdv A outer s H E).nox (defBody st) t∧t { nx:=fun _ H'=>Q .non H',rt:=Q } (start N vs) H):Has P w K mg base x (k+1) ps sp:=by
  obtain ⟨f,fd,F,m⟩:=D
  exact ⟨f,fd,F.ok S len fun cdv A outer s H vs Q E hr h=>hbody f cdv A outer s H vs Q E hr h,F.binds hb,F.kp,m⟩
end
theorem pe_callH {X:Cx} {x:Str} {k:Nat} {ps:List Str} {sp:Sp} {p pos:Pos} {e:Expr} {es:List Expr} {t:TA} (G:Has X.prog X.w X.K X.mg X.base x k ps sp) (hr:Room k X.A) (hg:Gl X x) (ha:PA X (e :: es) t)
    (hdb:(x == ("__debug__" : Str))=false:=by decide) (he:starEach (e :: es) X.env=(false,eval e X.env) :: starEach es X.env:=by rfl) (hpl:(backTo pos (starEach es X.env)).any (·.1)=false:=by rfl) :
    PE X (.Call (.Name x p) (e :: es) [] pos) (tCall sp [] E0 t):=by
  obtain ⟨f,fd,F,b,kp,m⟩:=G
  exact pe_call F hr hg m kp b .nil pass0 ha hdb he hpl
structure Blt (mg:Str→Option Value):Prop where
  len:mg "len" = none
  range:mg "range" = none
  zip:mg "zip" = none
  enumerate:mg "enumerate" = none
  max:mg "max" = none
  min:mg "min" = none
  int_:mg "int" = none
  str_:mg "str" = none
  bool_:mg "bool" = none
  list_:mg "list" = none
  tuple_:mg "tuple" = none
  isinstance:mg "isinstance" = none
abbrev Pool (H:Hp) (p:Addr):Prop:=∃ x y:Int,H p=some (.lst [.int x,.int y])
structure Kp (p:Addr) (H H':Hp):Prop where
  pool:Pool H' p
  keep:∀ b o,b≠p→H b=some o→H' b=some o
section
variable {p q:Addr} {H H1 H2:Hp} {o:HO}
theorem Kp.refl (h:Pool H p):Kp p H H:=⟨h,fun _ _ _ e=>e⟩
theorem Kp.trans (a:Kp p H H1) (b:Kp p H1 H2):Kp p H H2:=⟨b.pool,fun c u hc e=>b.keep c u hc (a.keep c u hc e)⟩
theorem Kp.new (a:Kp p H H1) (hq:H1 q=none):Kp p H (upd H1 q o):=by
  obtain ⟨⟨x,y,e⟩,k⟩:=a
  refine ⟨⟨x,y,by rw [upd_ne (ne_of_none e hq)];exact e⟩,fun c u hc h=>?_⟩
  have:=k c u hc h
  rw [upd_ne (ne_of_none this hq)];exact this
theorem Kp.write (a:Kp p H H1) (hq:H q=none) (hp:q≠p):Kp p H (upd H1 q o):=by
  obtain ⟨⟨x,y,e⟩,k⟩:=a
  refine ⟨⟨x,y,by rw [upd_ne (Ne.symm hp)];exact e⟩,fun c u hc h=>?_⟩
  rw [upd_ne (ne_of_none h hq)];exact k c u hc h
theorem Pool.ne (h:Pool H p) (hq:H q=none):q≠p:=by
  obtain ⟨x,y,e⟩:=h
  exact Ne.symm (ne_of_none e hq)
end
theorem bt_len:bootBuiltins "len" = some (.builtin "len"):=by decide +kernel
theorem bt_max:bootBuiltins "max" = some (.builtin "max"):=by decide +kernel
theorem bt_min:bootBuiltins "min" = some (.builtin "min"):=by decide +kernel
theorem bt_sorted:bootBuiltins "sorted" = some (.builtin "sorted"):=by decide +kernel
theorem bt_isinstance:bootBuiltins "isinstance" = some (.builtin "isinstance"):=by decide +kernel
theorem bt_int:bootBuiltins "int" = some (.type "int"):=by decide +kernel
theorem bt_bool:bootBuiltins "bool" = some (.type "bool"):=by decide +kernel
theorem bt_list:bootBuiltins "list" = some (.type "list"):=by decide +kernel
theorem bt_tuple:bootBuiltins "tuple" = some (.type "tuple"):=by decide +kernel
theorem Same.new {H0 H:Hp} {q:Addr} {o:HO} (h:Same H0 H) (hq:H q=none):Same H0 (upd H q o):=fun b u e=>by
  have:=h b u e
  rw [upd_ne (ne_of_none this hq)];exact this
theorem Same.write {H0 H:Hp} {q:Addr} {o:HO} (h:Same H0 H) (hq:H0 q=none):Same H0 (upd H q o):=fun b u e=>by
  rw [upd_ne (ne_of_none e hq)];exact h b u e
theorem app_list (a y:Str):(a++y).cps.toList=a.cps.toList++y.cps.toList:=by
  show (a.cps++y.cps).toList=_
  simp
end L2
namespace L2
open PySem PySem.Spec PyProof.Rows
section
variable {X:Cx}
theorem mt_startswith:MtR X "str.startswith" (fun x vs H Q=>∃ z p,x=.str z∧vs=[.str p]∧Q (.bl (Txt.startswith z p)) H):=by
  intro pins s σ H x xs v us Q I rx rv h
  obtain ⟨z,p,rfl,rfl,q⟩:=h
  obtain ⟨t,rfl⟩:=rx
  obtain ⟨u,rfl,t',rfl⟩:=rv.one
  exact SC.startswith ⟨.bl _,H,I,rfl,q⟩
theorem pe_starts {o e:Expr} {to te:TE} {apos cpos:Pos} (ho:PE X o to) (he:PE X e te) (hbase:attributeBase o "startswith" X.env (eval o X.env)=eval o X.env:=by rfl)
    (h1:starEach [e] X.env=[(false,eval e X.env)]:=by rfl) (hl:(apos.endLine == cpos.line)=true:=by rfl) :
    PE X (.Call (.Attribute o "startswith" apos) [e] [] cpos) (tBM X.K "str" (fun x vs H Q=>∃ z p,x=.str z∧vs=[.str p]∧Q (.bl (Txt.startswith z p)) H) to (tCons te tNil)):=
  pe_bm PySem.F.plainAttrs_str PySem.F.slot_str_startswith PySem.F.type_str_startswith mt_startswith ho (pa_cons he pa_nil h1) hbase (by rw [h1];rfl) hl h1 (by rfl)
theorem pifs_startsK (K:PySem.W.Frag) {o e:Expr} {to te:TE} {apos cpos:Pos} (ho:PE X o to) (he:PE X e te) (hK:X.K=K:=by rfl) (hbase:attributeBase o "startswith" X.env (eval o X.env)=eval o X.env:=by rfl)
    (h1:starEach [e] X.env=[(false,eval e X.env)]:=by rfl) (hl:(apos.endLine == cpos.line)=true:=by rfl) :
    PIfs X [.Call (.Attribute o "startswith" apos) [e] [] cpos] (tB (tBM K "str" (fun x vs H Q=>∃ z p,x=.str z∧vs=[.str p]∧Q (.bl (Txt.startswith z p)) H) to (tCons te tNil))):=by
  subst hK
  exact pifs_one (pt_val (pe_starts ho he hbase h1 hl))
theorem pg_tupK (K:PySem.W.Frag) {es:List Expr} {k:Nat} {t:TGs} {n:Nat} {pos:Pos} (hc:X.calm=true) (h:PGs X es t) (hK:X.K=K:=by rfl) (hn:(assignEach es X.env).length=n:=by rfl)
    (hst:(assignEach es X.env).findIdx? (·.1)=none:=by rfl):PG X (.Tuple es k pos) (gTup K n t):=by
  subst hK
  exact pg_tup hc h hn hst
theorem strsAre_of:∀ {ys:List Str} {us:List Value},Vals (ys.map V.str) us→StrsAre us ys
  | [],[],_=>.nil
  | [],_ :: _,h=>nomatch h
  | _ :: _,[],h=>nomatch h
  | y :: r,u :: us,h=>by
    cases h with
    | cons a b=>
      obtain ⟨t,rfl⟩:=a
      exact .cons y t (strsAre_of b)
theorem mt_join:MtR X "str.join" (fun x vs H Q=>∃ z a ys,x=.str z∧vs=[.ref a]∧SqL X.K H a (ys.map V.str)∧(ys.map (·.length)).sum+ys.length * z.length≤16777216∧Q (.str (Txt.join z ys)) H):=by
  intro pins s σ H x xs v us Q I rx rv h
  obtain ⟨z,a,ys,rfl,rfl,hl,hok,q⟩:=h
  obtain ⟨t,rfl⟩:=rx
  obtain ⟨u,rfl,ru⟩:=rv.one
  cases (show u=Value.ref a from ru)
  obtain ⟨its,r,ht,hz⟩:=I.list hl
  exact join_list ht.isList (strsAre_of (by simpa using r)) hok fun t' k=>⟨.str _,H,I.tok k,⟨t',rfl⟩,q⟩
theorem op_mul_str:OpR X (binaryOp .Mult) (fun x y H Q=>∃ z n,x=.str z∧y=.int n∧MulOk z n∧Q (.str (Txt.mul z n)) H):=by
  intro pins s σ H x y v u Q I rx ry h
  obtain ⟨z,n,rfl,rfl,hok,q⟩:=h
  obtain ⟨t,rfl⟩:=rx
  obtain ⟨t',rfl⟩:=ry
  exact SB.mul hok fun t' k=>⟨.str _,H,I.tok k,⟨t',rfl⟩,q⟩
def eqAtJ (xs ys:List V) (j:Nat):Bool:=match xs[j]?,ys[j]? with
  | some x,some y=>eqV x y
  | _,_=>false
def eqVs (xs ys:List V):Bool:=xs.length == ys.length && (List.range xs.length).all (eqAtJ xs ys)
theorem eqAt_items {A:Around} {s:Shared} {xs ys:List V} {us ws:List Value} (r1:Vals xs us) (r2:Vals ys ws) (f1:xs.all flatV=true) (f2:ys.all flatV=true) (j:Nat) (h1:j < us.toArray.size) (h2:j < ws.toArray.size) :
    SeqAt.EqAt A s us.toArray[j] ws.toArray[j] (eqAtJ xs ys j):=by
  have g1:j < xs.length:=by rw [r1.length];simpa using h1
  have g2:j < ys.length:=by rw [r2.length];simpa using h2
  obtain ⟨u,e1,q1⟩:=r1.get (List.getElem?_eq_getElem g1)
  obtain ⟨v,e2,q2⟩:=r2.get (List.getElem?_eq_getElem g2)
  have d1:us.toArray[j]=u:=by
    rw [List.getElem?_eq_getElem (by simpa using h1)] at e1
    simpa using Option.some.inj e1
  have d2:ws.toArray[j]=v:=by
    rw [List.getElem?_eq_getElem (by simpa using h2)] at e2
    simpa using Option.some.inj e2
  rw [d1,d2]
  unfold eqAtJ
  rw [List.getElem?_eq_getElem g1,List.getElem?_eq_getElem g2]
  exact eqAt_V q1 q2 (List.all_eq_true.mp f1 _ (List.getElem_mem g1)) (List.all_eq_true.mp f2 _ (List.getElem_mem g2))
end
section
variable {NL:List Str} {ix:List Nat} {g:TG} {tt:TT} {te:TE} {σ:St} {H1:Hp} {Qs:Hp→Prop} {acc:Addr}
theorem comp_lst {K:PySem.W.Frag} {a:Addr} {xs:List V} (hn:xs.length < 1000) (Pv:Nat→List V→Hp→Prop)
    (hl:∀ i ys H2,Pv i ys H2→SqL K H2 a xs) (hacc:∀ i ys H2,Pv i ys H2→H2 acc=some (.lst ys)∧ys.length≤i) (h0:Pv 0 [] (upd H1 acc (.lst []))) (hstop:∀ ys H2,Pv xs.length ys H2→Qs H2)
    (hturn:∀ i x ys H2,xs[i]?=some x→Pv i ys H2→g x (comp0 NL ix σ) H2 fun σ' H4=>σ'.drop NL.length=ix.map (fun j=>σ.getD j none)∧tt σ' H4 fun b H5=>
      if b=true then te σ' H5 fun v H6=>H6 acc=some (.lst ys)∧Pv (i+1) (ys++[v]) (upd H6 acc (.lst (ys++[v]))) else Pv (i+1) ys H5) :
    ∃ W:Nat→Nat→List V→Hp→Prop,(∃ m,W 0 m [] (upd H1 acc (.lst []))) ∧
    ∀ i m ys H2,W i m ys H2→H2 acc=some (.lst ys)∧ys.length < sizeLine ∧
      (((Itl K a).stop i H2∧Qs H2)∨((Itl K a).go i H2∧∃ N:List V→Hp→Prop,(∀ ys' H',N ys' H'→∃ m',m' < m∧W (i+1) m' ys' H') ∧
        ∀ x H3,(Itl K a).yld i H2 x H3→g x (comp0 NL ix σ) H3 fun σ' H4=>σ'.drop NL.length=ix.map (fun j=>σ.getD j none)∧tt σ' H4 fun b H5=>
          if b=true then te σ' H5 fun v H6=>H6 acc=some (.lst ys)∧N (ys++[v]) (upd H6 acc (.lst (ys++[v]))) else N ys H5)):=by
  refine comp_by xs.length hn Pv hacc h0 (fun ys H2 hp=>⟨⟨xs,hl _ _ _ hp,Nat.le_refl _⟩,hstop ys H2 hp⟩) fun i ys H2 hi hp=>?_
  have hs:=hl _ _ _ hp
  refine ⟨⟨xs,xs[i],hs,List.getElem?_eq_getElem hi⟩,?_⟩
  rintro x H3 ⟨rfl,hx⟩
  exact hturn i x ys H3 (hx xs hs) hp
theorem comp_enum {κ:SK} {xs:List V} (hn:xs.length < 1000) (Pv:Nat→List V→Hp→Prop)
    (hl:∀ i ys H2,Pv i ys H2→κ.has H2 xs) (hacc:∀ i ys H2,Pv i ys H2→H2 acc=some (.lst ys)∧ys.length≤i) (h0:Pv 0 [] (upd H1 acc (.lst []))) (hstop:∀ ys H2,Pv xs.length ys H2→Qs H2)
    (hturn:∀ (i:Nat) x ys H2 p,xs[i]?=some x→Pv i ys H2→H2 p=none→g (.ref p) (comp0 NL ix σ) (upd H2 p (.tup [.int i,x])) fun σ' H4=>σ'.drop NL.length=ix.map (fun j=>σ.getD j none)∧tt σ' H4 fun b H5=>
      if b=true then te σ' H5 fun v H6=>H6 acc=some (.lst ys)∧Pv (i+1) (ys++[v]) (upd H6 acc (.lst (ys++[v]))) else Pv (i+1) ys H5) :
    ∃ W:Nat→Nat→List V→Hp→Prop,(∃ m,W 0 m [] (upd H1 acc (.lst []))) ∧
    ∀ i m ys H2,W i m ys H2→H2 acc=some (.lst ys)∧ys.length < sizeLine ∧
      (((Ite κ).stop i H2∧Qs H2)∨((Ite κ).go i H2∧∃ N:List V→Hp→Prop,(∀ ys' H',N ys' H'→∃ m',m' < m∧W (i+1) m' ys' H') ∧
        ∀ x H3,(Ite κ).yld i H2 x H3→g x (comp0 NL ix σ) H3 fun σ' H4=>σ'.drop NL.length=ix.map (fun j=>σ.getD j none)∧tt σ' H4 fun b H5=>
          if b=true then te σ' H5 fun v H6=>H6 acc=some (.lst ys)∧N (ys++[v]) (upd H6 acc (.lst (ys++[v]))) else N ys H5)):=by
  refine comp_by xs.length hn Pv hacc h0 (fun ys H2 hp=>⟨⟨xs,hl _ _ _ hp,rfl⟩,hstop ys H2 hp⟩) fun i ys H2 hi hp=>?_
  have hs:=hl _ _ _ hp
  refine ⟨⟨xs,xs[i],hs,List.getElem?_eq_getElem hi⟩,?_⟩
  rintro x H3 ⟨p,x',rfl,hpn,rfl,hx⟩
  exact hturn i x' ys H2 p (hx xs hs) hp hpn
end
theorem kit_int_bool (K:PySem.W.Frag):PySem.W.kitOne K (.type "int") (.type "bool")=some false:=by rfl
theorem kit_same (K:PySem.W.Frag) (T:String):PySem.W.kitOne K (.type T) (.type T)=some true:=by
  unfold PySem.W.kitOne
  rw [if_pos (beq_self_eq_true _)]
theorem foldl_repN (xs:Array Nat):∀ (n:Nat) (acc:Array Nat),((List.replicate n xs).foldl (·++·) acc).size=acc.size+n * xs.size
  | 0,acc=>by simp
  | n+1,acc=>by
    rw [List.replicate_succ,List.foldl_cons,foldl_repN xs n,Array.size_append,Nat.succ_mul]
    omega
theorem mul_len {c:Nat} {n:Int} (h:0≤n):(Txt.mul ⟨#[c]⟩ n).cps.toList.length=n.toNat:=by
  unfold Txt.mul
  split
  · have:n.toNat=0:=by omega
    rw [this];rfl
  · split
    · rename_i h1 h2
      have h3:n=1:=by
        simp only [Bool.or_eq_true,beq_iff_eq] at h2
        rcases h2 with h2 | h2
        · exact h2
        · have h4:(⟨#[c]⟩:Str).length=1:=rfl
          omega
      subst h3;rfl
    · rw [Array.length_toList]
      show (List.foldl (·++·) #[] (List.replicate n.toNat #[c])).size=n.toNat
      rw [foldl_repN]
      simp
abbrev Deck (H:Hp) (p:Addr) (c:Int):Prop:=∃ x y z:Int,H p=some (.lst [.int x,.int y,.int z])∧0≤z∧z≤c
structure Kd (p:Addr) (c:Int) (H H':Hp):Prop where
  deck:Deck H' p c
  keep:∀ b o,b≠p→H b=some o→H' b=some o
section
variable {p q:Addr} {H H1 H2:Hp} {o:HO} {c d:Int}
theorem Deck.mono (h:Deck H p c) (e:c≤d):Deck H p d:=let ⟨x,y,z,a,b,f⟩:=h;⟨x,y,z,a,b,Int.le_trans f e⟩
theorem Kd.mono (h:Kd p c H H1) (e:c≤d):Kd p d H H1:=⟨h.deck.mono e,h.keep⟩
theorem Kd.refl (h:Deck H p c):Kd p c H H:=⟨h,fun _ _ _ e=>e⟩
theorem Kd.trans (a:Kd p c H H1) (b:Kd p d H1 H2):Kd p d H H2:=⟨b.deck,fun k u hc e=>b.keep k u hc (a.keep k u hc e)⟩
theorem Kd.new (a:Kd p c H H1) (hq:H1 q=none):Kd p c H (upd H1 q o):=by
  obtain ⟨⟨x,y,z,e,r⟩,k⟩:=a
  refine ⟨⟨x,y,z,by rw [upd_ne (ne_of_none e hq)];exact e,r⟩,fun b u hc h=>?_⟩
  have:=k b u hc h
  rw [upd_ne (ne_of_none this hq)];exact this
theorem Kd.write (a:Kd p c H H1) (hq:H q=none) (hp:q≠p):Kd p c H (upd H1 q o):=by
  obtain ⟨⟨x,y,z,e,r⟩,k⟩:=a
  refine ⟨⟨x,y,z,by rw [upd_ne (Ne.symm hp)];exact e,r⟩,fun b u hc h=>?_⟩
  rw [upd_ne (ne_of_none h hq)];exact k b u hc h
theorem Deck.ne (h:Deck H p c) (hq:H q=none):q≠p:=by
  obtain ⟨x,y,z,e,_⟩:=h
  exact Ne.symm (ne_of_none e hq)
theorem Kd.same (a:Kd p c H H1) (s:Same H1 H2):Kd p c H H2:=by
  obtain ⟨⟨x,y,z,e,r⟩,k⟩:=a
  exact ⟨⟨x,y,z,s _ _ e,r⟩,fun b u hc h=>s _ _ (k b u hc h)⟩
theorem Kd.fresh (a:Kd p c H H1) (hq:H1 q=none):H q=none:=by
  cases e:H q with
  | none=>rfl
  | some u=>
    have:=a.keep q u (a.deck.ne hq) e
    rw [hq] at this;cases this
theorem ne_deck {o:HO} (h:Deck H p c) (e:H q=some o) (ho:∀ x y z:Int,o≠.lst [.int x,.int y,.int z]):q≠p:=fun k=>by
  obtain ⟨x,y,z,hp,_⟩:=h
  subst k
  rw [hp] at e
  exact ho x y z (Option.some.inj e).symm
end
end L2
namespace L2
open PySem PySem.Spec PyProof.Rows
section
variable {X:Cx}
theorem op_ne_lst (hu:X.A.units < cLine):OpR X (compareOp .NotEq) (fun x y H Q=>∃ a b xs ys,x=.ref a∧y=.ref b∧SqL X.K H a xs∧SqL X.K H b ys∧xs.all flatV=true∧ys.all flatV=true∧Q (.bl (!eqVs xs ys)) H):=by
  intro pins s σ H x y v u Q I rx ry h
  obtain ⟨a,b,xs,ys,rfl,rfl,h1,h2,f1,f2,q⟩:=h
  cases (show v=Value.ref a from rx)
  cases (show u=Value.ref b from ry)
  obtain ⟨us,r1,l1,_⟩:=I.list h1
  obtain ⟨ws,r2,l2,_⟩:=I.list h2
  have e1:=r1.length
  have e2:=r2.length
  by_cases hl:xs.length=ys.length
  · refine SeqAt.RcNeAt.lists (e:=eqAtJ xs ys) l1.isList l2.isList (by simp;omega) hu (fun j g1 g2=>eqAt_items r1 r2 f1 f2 j g1 g2) _ _ _ _ ⟨.bl _,H,I,rfl,?_⟩
    have:eqVs xs ys=(List.range us.toArray.size).all (eqAtJ xs ys):=by
      unfold eqVs
      rw [List.size_toArray,← e1,beq_iff_eq.mpr hl,Bool.true_and]
    rw [← this];exact q
  · refine SeqAt.RcNeAt.lists_lengths l1.isList l2.isList (by simp;omega) hu _ _ _ _ ⟨.bl _,H,I,rfl,?_⟩
    have:eqVs xs ys=false:=by
      unfold eqVs
      have:(xs.length == ys.length)=false:=by simpa using hl
      rw [this];rfl
    rw [this] at q;exact q
end
end L2
namespace L2
open PySem PySem.Spec PyProof.Rows
section
variable {X:Cx}
end
end L2
namespace L2
open PySem.W PyProof.Rows
section
variable {α β:Type} {n:Nat} {lt:Nat→Nat→Bool}
def okT (n:Nat) (lt:Nat→Nat→Bool):KasT α→(α→Prop)→Prop
  | .ret a,Q=>Q a
  | .ask i j k,Q=>i < n∧j < n∧okT n lt (k (lt i j)) Q
theorem okT_bind {f:α→KasT β} {Q:β→Prop}:∀ t:KasT α,okT n lt t (fun a=>okT n lt (f a) Q)→okT n lt (t.bind f) Q
  | .ret _,h=>h
  | .ask i j k,h=>⟨h.1,h.2.1,okT_bind (k (lt i j)) h.2.2⟩
structure TotB (n:Nat) (lt:Nat→Nat→Bool):Prop where
  asym:∀ i j,lt i j=true→lt j i=false
  tr:∀ i j k,lt j i=false→lt k j=false→lt k i=false
  tot:∀ i j,i < n→j < n→lt i j=false→lt j i=false→i=j
def PermN (n:Nat) (p:Array Nat):Prop:=p.toList.Perm (List.range n)
abbrev Rise (lt:Nat→Nat→Bool) (p:Array Nat) (m:Nat):Prop:=∀ i j,i < j→j < m→lt (p.getD j 0) (p.getD i 0)=false
abbrev Fall (lt:Nat→Nat→Bool) (p:Array Nat) (m:Nat):Prop:=∀ i j,i < j→j < m→lt (p.getD i 0) (p.getD j 0)=false
theorem PermN.sz {p:Array Nat} (h:PermN n p):p.size=n:=by
  have:=List.Perm.length_eq h
  simpa using this
theorem PermN.below {p:Array Nat} (h:PermN n p) (h0:0 < n) (k:Nat):p.getD k 0 < n:=by
  rw [Array.getD_eq_getD_getElem?]
  cases e:p[k]? with
  | none=>exact h0
  | some x=>
    have:x∈p.toList:=by
      have:=Array.mem_of_getElem? e
      exact Array.mem_toList_iff.mpr this
    exact List.mem_range.mp ((List.Perm.mem_iff h).mp this)
theorem PermN.inj {p:Array Nat} (h:PermN n p) {i j:Nat} (hi:i < n) (hj:j < n) (e:p.getD i 0=p.getD j 0):i=j:=by
  have nd:p.toList.Nodup:=(List.Perm.nodup_iff h).mpr List.nodup_range
  have s:=h.sz
  have hi':i < p.toList.length:=by rw [Array.length_toList,s];exact hi
  have hj':j < p.toList.length:=by rw [Array.length_toList,s];exact hj
  rw [Array.getD_eq_getD_getElem?,Array.getD_eq_getD_getElem?,Array.getElem?_eq_getElem (by omega),Array.getElem?_eq_getElem (by omega)] at e
  have e':p.toList[i]=p.toList[j]:=by simpa using e
  exact (List.getElem_inj nd).mp e'
theorem rev_at {p:Array Nat} {m:Nat} (hm:m≤p.size) (k:Nat):(kas_rev p 0 m).getD k 0=if k < m then p.getD (m - 1 - k) 0 else p.getD k 0:=by
  unfold kas_rev
  rw [Array.getD_eq_getD_getElem?,getElem?_mirror_all hm]
  by_cases h:k < m
  · rw [if_pos ⟨Nat.zero_le _,h⟩,if_pos h,Array.getD_eq_getD_getElem?,Nat.zero_add]
  · rw [if_neg (by omega),if_neg h,Array.getD_eq_getD_getElem?]
theorem rev_perm {p:Array Nat} {m:Nat} (h:PermN n p):PermN n (kas_rev p 0 m):=List.Perm.trans (Array.perm_iff_toList_perm.mp (mirror_perm p 0 m _)) h
theorem rev_rise {p:Array Nat} {m:Nat} (hm:m≤p.size) (h:Fall lt p m):Rise lt (kas_rev p 0 m) m:=fun i j hij hj=>by
  rw [rev_at hm,rev_at hm,if_pos hj,if_pos (by omega)]
  exact h _ _ (by omega) (by omega)
variable (o:TotB n lt)
include o
theorem asc_ok {p:Array Nat} (hp:PermN n p) {Q:Nat→Prop}:∀ f m,1≤m→m+f≤n→Rise lt p m→(∀ k,m≤k→k≤m+f→Rise lt p k→(k=m+f∨lt (p.getD k 0) (p.getD (k - 1) 0)=true)→Q k)→okT n lt (kas_asc p f m) Q
  | 0,m,h1,h2,hr,hq=>hq m (Nat.le_refl _) (Nat.le_refl _) hr (.inl rfl)
  | f+1,m,h1,h2,hr,hq=>by
    refine ⟨hp.below (by omega) _,hp.below (by omega) _,?_⟩
    cases e:lt (p.getD m 0) (p.getD (m - 1) 0) with
    | true=>exact hq m (Nat.le_refl _) (by omega) hr (.inr e)
    | false=>
      refine asc_ok hp f (m+1) (by omega) (by omega) (fun i j hij hj=>?_) fun k a b c d=>hq k (by omega) (by omega) c (by rcases d with d | d;exact .inl (by omega);exact .inr d)
      rcases Nat.lt_or_ge j m with q | q
      · exact hr i j hij q
      · have:j=m:=by omega
        subst this
        rcases Nat.lt_or_ge i (j - 1) with z | z
        · exact o.tr _ _ _ (hr i (j - 1) z (by omega)) e
        · have:i=j - 1:=by omega
          rw [this];exact e
theorem desc_ok {p:Array Nat} (hp:PermN n p) {Q:Array Nat × Nat × Nat→Prop}:∀ f m,1≤m→m+f≤n→Fall lt p m→(∀ k,m≤k→k≤m+f→Fall lt p k→Q (p,k,0))→okT n lt (kas_desc f p m 0) Q
  | 0,m,h1,h2,hr,hq=>hq m (Nat.le_refl _) (Nat.le_refl _) hr
  | f+1,m,h1,h2,hr,hq=>by
    refine ⟨hp.below (by omega) _,hp.below (by omega) _,?_⟩
    cases e:lt (p.getD m 0) (p.getD (m - 1) 0) with
    | true=>
      simp only [if_true,Nat.lt_irrefl,gt_iff_lt,if_false]
      refine desc_ok hp f (m+1) (by omega) (by omega) (fun i j hij hj=>?_) fun k a b c=>hq k (by omega) (by omega) c
      rcases Nat.lt_or_ge j m with q | q
      · exact hr i j hij q
      · have:j=m:=by omega
        subst this
        have e':=o.asym _ _ e
        rcases Nat.lt_or_ge i (j - 1) with z | z
        · exact o.tr _ _ _ e' (hr i (j - 1) z (by omega))
        · have:i=j - 1:=by omega
          rw [this];exact e'
    | false=>
      simp only [Bool.false_eq_true,if_false]
      refine ⟨hp.below (by omega) _,hp.below (by omega) _,?_⟩
      cases d:lt (p.getD (m - 1) 0) (p.getD m 0) with
      | true=>exact hq m (Nat.le_refl _) (by omega) hr
      | false=>
        have z:=hp.inj (by omega) (by omega) (o.tot _ _ (hp.below (by omega) _) (hp.below (by omega) _) d e)
        omega
theorem tail_ok {p:Array Nat} (hp:PermN n p) {Q:Nat × Array Nat→Prop} {m:Nat} (h1:1≤m) (h2:m≤n) (hf:Fall lt p m) (hq:∀ k p',1≤k→k≤n→PermN n p'→Rise lt p' k→Q (k,p')):okT n lt (kas_tail3 m n p) Q:=by
  have s:=hp.sz
  exact okT_bind _ (asc_ok o (rev_perm hp) (n - m) m h1 (by omega) (rev_rise (by omega) hf) fun k a b c _=>hq k _ (by omega) (by omega) (rev_perm hp) c)
theorem part_ok {p:Array Nat} (hp:PermN n p) {Q:Nat × Array Nat→Prop} {m:Nat} (h1:1≤m) (h2:m+1≤n) (hf:Fall lt p (m+1)) (hq:∀ k p',1≤k→k≤n→PermN n p'→Rise lt p' k→Q (k,p')):okT n lt (kas_descPart m n p) Q:=by
  refine okT_bind _ (desc_ok o hp (n - (m+1)) (m+1) (by omega) (by omega) hf fun k a b c=>?_)
  show okT n lt (if 0 > 0 then _ else kas_tail3 k n p) Q
  rw [if_neg (by omega)]
  exact tail_ok o hp (by omega) (by omega) c hq
theorem count_ok {p:Array Nat} (hp:PermN n p) {Q:Nat × Array Nat→Prop} (h1:1≤n) (hq:∀ k p',1≤k→k≤n→PermN n p'→Rise lt p' k→Q (k,p')):okT n lt (kas_count n p) Q:=by
  refine okT_bind _ (asc_ok o hp (n - 1) 1 (Nat.le_refl _) (by omega) (fun i j a b=>by omega) fun k a b c d=>?_)
  by_cases e:k=n
  · rw [if_pos (by rw [e];exact beq_self_eq_true _)]
    exact hq k p a (by omega) hp c
  · rw [if_neg (by simpa using e)]
    have dk:lt (p.getD k 0) (p.getD (k - 1) 0)=true:=by rcases d with d | d;exact absurd (by omega) e;exact d
    by_cases g:k > 1
    · rw [if_pos g]
      refine ⟨hp.below (by omega) _,hp.below (by omega) _,?_⟩
      cases f:lt (p.getD 0 0) (p.getD (k - 1) 0) with
      | true=>exact hq k p a (by omega) hp c
      | false=>
        have z:=hp.inj (by omega) (by omega) (o.tot _ _ (hp.below (by omega) _) (hp.below (by omega) _) f (c 0 (k - 1) (by omega) (by omega)))
        omega
    · rw [if_neg g]
      have hk:k=1:=by omega
      subst hk
      refine part_ok o hp (Nat.le_refl _) (by omega) (fun i j hij hj=>?_) hq
      have:i=0∧j=1:=by omega
      rw [this.1,this.2]
      exact o.asym _ _ dk
theorem place_ok {p:Array Nat} (hp:PermN n p) {k:Nat} (hk:k < n) (hr:Rise lt p k) {Q:Nat→Prop} (hq:∀ x,x≤k→(∀ i,i < x→lt (p.getD k 0) (p.getD i 0)=false)→(∀ i,x≤i→i < k→lt (p.getD k 0) (p.getD i 0)=true)→Q x) :
    ∀ f l r,l≤r→r≤k→r - l≤f→(∀ i,i < l→lt (p.getD k 0) (p.getD i 0)=false)→(∀ i,r≤i→i < k→lt (p.getD k 0) (p.getD i 0)=true)→okT n lt (kas_place p k f l r) Q
  | 0,l,r,h1,h2,h3,a,b=>hq l (by omega) a fun i x y=>b i (by omega) y
  | f+1,l,r,h1,h2,h3,a,b=>by
    unfold kas_place
    by_cases g:l ≥ r
    · rw [if_pos g]
      exact hq l (by omega) a fun i x y=>b i (by omega) y
    · rw [if_neg g]
      refine ⟨hp.below (by omega) _,hp.below (by omega) _,?_⟩
      cases e:lt (p.getD k 0) (p.getD ((l+r) / 2) 0) with
      | true=>
        show okT n lt (kas_place p k f l ((l+r) / 2)) Q
        refine place_ok hp hk hr hq f l ((l+r) / 2) (by omega) (by omega) (by omega) a fun i x y=>?_
        rcases Nat.lt_or_ge ((l+r) / 2) i with z | z
        · cases w:lt (p.getD k 0) (p.getD i 0) with
          | true=>rfl
          | false=>
            have:=o.tr _ _ _ (hr _ i z y) w
            rw [e] at this;cases this
        · have:i=(l+r) / 2:=by omega
          rw [this];exact e
      | false=>
        show okT n lt (kas_place p k f ((l+r) / 2+1) r) Q
        refine place_ok hp hk hr hq f ((l+r) / 2+1) r (by omega) h2 (by omega) (fun i x=>?_) b
        rcases Nat.lt_or_ge i ((l+r) / 2) with z | z
        · exact o.tr _ _ _ (hr i _ z (by omega)) e
        · have:i=(l+r) / 2:=by omega
          rw [this];exact e
theorem bin_ok {Q:Array Nat→Prop} (hq:∀ p,PermN n p→Rise lt p n→Q p):∀ f k (p:Array Nat),k+f=n→PermN n p→Rise lt p k→okT n lt (kas_bin f p k) Q
  | 0,k,p,hk,hp,hr=>by
    have:k=n:=by omega
    subst this
    exact hq p hp hr
  | f+1,k,p,hk,hp,hr=>by
    have s:=hp.sz
    refine okT_bind _ (place_ok o hp (by omega) hr (fun x hx lo hi=>?_) k 0 k (Nat.zero_le _) (Nat.le_refl _) (by omega) (fun i hi=>absurd hi (Nat.not_lt_zero _)) fun i a b=>absurd b (by omega))
    have e:k - (k - x)=x:=by omega
    have at':∀ y,(bubble p k (k - x)).getD y 0=if y=x then p.getD k 0 else if x < y∧y≤k then p.getD (y - 1) 0 else p.getD y 0:=fun y=>by
      rw [Array.getD_eq_getD_getElem?,getElem?_bubble (by omega) (k - x) (by omega) y,e]
      split
      · rw [Array.getD_eq_getD_getElem?]
      · split <;> rw [Array.getD_eq_getD_getElem?]
    refine bin_ok hq f (k+1) _ (by omega) (List.Perm.trans (Array.perm_iff_toList_perm.mp (bubble_perm p k _)) hp) fun i j hij hj=>?_
    rw [at',at']
    by_cases jx:j=x
    · rw [if_pos jx,if_neg (by omega),if_neg (by omega)]
      exact lo i (by omega)
    · rw [if_neg jx]
      by_cases ix:i=x
      · rw [if_pos ix,if_pos ⟨by omega,by omega⟩]
        exact o.asym _ _ (hi (j - 1) (by omega) (by omega))
      · rw [if_neg ix]
        by_cases jg:x < j∧j≤k
        · rw [if_pos jg]
          by_cases ig:x < i∧i≤k
          · rw [if_pos ig];exact hr _ _ (by omega) (by omega)
          · rw [if_neg ig];exact hr _ _ (by omega) (by omega)
        · rw [if_neg jg,if_neg (by omega)];exact hr _ _ hij (by omega)
theorem sort_ok (h1:1≤n):okT n lt (kas_sort n) fun p=>PermN n p∧Rise lt p n:=by
  refine okT_bind _ (count_ok o (by unfold PermN;simp) h1 fun k p a b hp hr=>?_)
  show okT n lt (if k < n then kas_bin (n - max k 1) p (max k 1) else .ret p) _
  by_cases g:k < n
  · rw [if_pos g]
    have e:max k 1=k:=by omega
    rw [e]
    exact bin_ok o (fun p hp hr=>⟨hp,hr⟩) (n - k) k p (by omega) hp hr
  · rw [if_neg g]
    have:k=n:=by omega
    subst this
    exact ⟨hp,hr⟩
end
open PySem PySem.Spec
theorem okT_wp {α:Type} {n:Nat} {lt:Nat→Nat→Bool} {cmp:Nat→Nat→(Bool→Shared→Prop)→Shared→Prop} {J:Shared→Prop} {Q:α→Prop} {G:α→Shared→Prop}
    (hc:∀ i j C s,i < n→j < n→J s→(∀ s',J s'→C (lt i j) s')→cmp i j C s) (hG:∀ a s',Q a→J s'→G a s'):∀ (t:KasT α) (s:Shared),J s→okT n lt t Q→t.kasWp cmp G s
  | .ret a,s,hi,h=>hG a s h hi
  | .ask i j k,s,hi,h=>hc i j _ s h.1 h.2.1 hi fun s' hi'=>okT_wp hc hG (k (lt i j)) s' hi' h.2.2
def shV:V→Nat
  | .int _=>1
  | .str _=>2
  | _=>0
def ltV:V→V→Bool
  | .int i,.int j=>decide (i < j)
  | .str a,.str b=>decide (a.cps.toList < b.cps.toList)
  | _,_=>false
def lexV:List V→List V→Bool
  | x :: xs,y :: ys=>if x=y then lexV xs ys else ltV x y
  | [],_ :: _=>true
  | _,_=>false
theorem str_eq {a b:Str} (h:a.cps.toList=b.cps.toList):a=b:=by
  obtain ⟨x⟩:=a;obtain ⟨y⟩:=b
  have:x=y:=Array.toList_inj.mp h
  rw [this]
theorem two_kinds {x y:V} (hs:shV x=shV y) (h0:shV x≠0):(∃ i j,x=.int i∧y=.int j)∨∃ a b,x=.str a∧y=.str b:=by
  cases x <;> cases y <;> simp [shV] at hs h0 ⊢
theorem ltV_asym {x y:V} (h:ltV x y=true):ltV y x=false:=by
  cases x <;> cases y <;> simp [ltV] at h ⊢
  · omega
  · exact List.not_lt.mp (List.lt_asymm h)
theorem ltV_tot {x y:V} (hs:shV x=shV y) (h0:shV x≠0) (h1:ltV x y=false) (h2:ltV y x=false):x=y:=by
  rcases two_kinds hs h0 with ⟨i,j,rfl,rfl⟩ | ⟨a,b,rfl,rfl⟩
  · have h1':¬ i < j:=of_decide_eq_false h1
    have h2':¬ j < i:=of_decide_eq_false h2
    rw [show i=j by omega]
  · have h1':¬ a.cps.toList < b.cps.toList:=of_decide_eq_false h1
    have h2':¬ b.cps.toList < a.cps.toList:=of_decide_eq_false h2
    rw [str_eq (List.le_antisymm (List.not_lt.mp h2') (List.not_lt.mp h1'))]
theorem ltV_tr {x y z:V} (hs:shV x=shV y) (ht:shV y=shV z) (h0:shV x≠0) (h1:ltV y x=false) (h2:ltV z y=false):ltV z x=false:=by
  rcases two_kinds hs h0 with ⟨i,j,rfl,rfl⟩ | ⟨a,b,rfl,rfl⟩
  · rcases two_kinds ht (by simp [shV]) with ⟨_,k,e,rfl⟩ | ⟨_,_,e,_⟩
    · have h1':¬ j < i:=of_decide_eq_false h1
      cases e
      have h2':¬ k < j:=of_decide_eq_false h2
      exact decide_eq_false (by omega)
    · cases e
  · rcases two_kinds ht (by simp [shV]) with ⟨_,_,e,_⟩ | ⟨_,c,e,rfl⟩
    · cases e
    · cases e
      have h1':¬ b.cps.toList < a.cps.toList:=of_decide_eq_false h1
      have h2':¬ c.cps.toList < b.cps.toList:=of_decide_eq_false h2
      exact decide_eq_false (List.not_lt.mpr (List.le_trans (List.not_lt.mp h1') (List.not_lt.mp h2')))
theorem lexV_asym:∀ (xs ys:List V),lexV xs ys=true→lexV ys xs=false
  | x :: xs,y :: ys,h=>by
    unfold lexV at h ⊢
    by_cases e:x=y
    · rw [if_pos e] at h;rw [if_pos e.symm];exact lexV_asym xs ys h
    · rw [if_neg e] at h;rw [if_neg (Ne.symm e)];exact ltV_asym h
  | [],_ :: _,_=>rfl
  | [],[],h=>by cases h
  | _ :: _,[],h=>by cases h
theorem lexV_tot:∀ (xs ys:List V),xs.map shV=ys.map shV→0 ∉ xs.map shV→lexV xs ys=false→lexV ys xs=false→xs=ys
  | x :: xs,y :: ys,hs,h0,h1,h2=>by
    simp only [List.map_cons,List.cons.injEq] at hs
    simp only [List.map_cons,List.mem_cons,not_or] at h0
    unfold lexV at h1 h2
    by_cases e:x=y
    · rw [if_pos e] at h1;rw [if_pos e.symm] at h2
      rw [e,lexV_tot xs ys hs.2 h0.2 h1 h2]
    · rw [if_neg e] at h1;rw [if_neg (Ne.symm e)] at h2
      exact absurd (ltV_tot hs.1 (Ne.symm h0.1) h1 h2) e
  | [],[],_,_,_,_=>rfl
  | [],_ :: _,hs,_,_,_=>by cases hs
  | _ :: _,[],hs,_,_,_=>by cases hs
theorem lexV_tr:∀ (xs ys zs:List V),xs.map shV=ys.map shV→ys.map shV=zs.map shV→0 ∉ xs.map shV→lexV ys xs=false→lexV zs ys=false→lexV zs xs=false
  | x :: xs,y :: ys,z :: zs,hs,ht,h0,h1,h2=>by
    simp only [List.map_cons,List.cons.injEq] at hs ht
    simp only [List.map_cons,List.mem_cons,not_or] at h0
    unfold lexV at h1 h2 ⊢
    by_cases e:y=x
    · rw [if_pos e] at h1
      by_cases f:z=y
      · rw [if_pos f] at h2;rw [if_pos (f.trans e)];exact lexV_tr xs ys zs hs.2 ht.2 h0.2 h1 h2
      · rw [if_neg f] at h2;rw [if_neg (fun q=>f (q.trans e.symm)),← e];exact h2
    · rw [if_neg e] at h1
      by_cases f:z=y
      · rw [if_pos f] at h2;rw [if_neg (fun q=>e (f.symm.trans q)),f];exact h1
      · rw [if_neg f] at h2
        by_cases g:z=x
        · exact absurd (ltV_tot hs.1.symm (by rw [← hs.1];exact Ne.symm h0.1) h1 (by rw [← g];exact h2)) e
        · rw [if_neg g];exact ltV_tr hs.1 ht.1 (Ne.symm h0.1) h1 h2
  | [],[],[],_,_,_,_,_=>rfl
  | [],_ :: _,_,hs,_,_,_,_=>by cases hs
  | _ :: _,[],_,hs,_,_,_,_=>by cases hs
  | [],[],_ :: _,_,ht,_,_,_=>by cases ht
  | _ :: _,_ :: _,[],_,ht,_,_,_=>by cases ht
structure Keys (n:Nat) (K:Nat→List V) (sh:List Nat):Prop where
  shp:∀ i,(K i).map shV=sh
  ne:sh≠[]
  z:0 ∉ sh
  inj:∀ i j,i < n→j < n→K i=K j→i=j
theorem Keys.tot {n:Nat} {K:Nat→List V} {sh:List Nat} (k:Keys n K sh):TotB n (fun i j=>lexV (K i) (K j)) where
  asym:=fun i j h=>lexV_asym _ _ h
  tr:=fun i j l h1 h2=>lexV_tr _ _ _ ((k.shp i).trans (k.shp j).symm) ((k.shp j).trans (k.shp l).symm) (by rw [k.shp];exact k.z) h1 h2
  tot:=fun i j hi hj h1 h2=>k.inj i j hi hj (lexV_tot _ _ ((k.shp i).trans (k.shp j).symm) (by rw [k.shp];exact k.z) h1 h2)
section
variable {prog:Program} {w:World} {A:Around} {E:Value→Shared→Prop} {s:Shared} {Q:Bool→Shared→Prop}
theorem eq_VB {x y:V} {u v:Value} (hx:RelV x u) (hy:RelV y v) (hs:shV x=shV y) (h0:shV x≠0) (h:Q (decide (x=y)) s):wpAny (model prog w) A (eqBool u v) Q E s:=by
  rcases two_kinds hs h0 with ⟨i,j,rfl,rfl⟩ | ⟨a,b,rfl,rfl⟩
  · obtain ⟨t,rfl⟩:=hx
    obtain ⟨t',rfl⟩:=hy
    refine wpAny_eqBool_int ?_
    have e:(i == j)=decide (V.int i=V.int j):=by by_cases q:i=j <;> simp [q]
    rw [e];exact h
  · obtain ⟨t,rfl⟩:=hx
    obtain ⟨t',rfl⟩:=hy
    refine wpAny_eqBool_str ?_
    have e:decide (a=b)=decide (V.str a=V.str b):=by by_cases q:a=b <;> simp [q]
    rw [e];exact h
theorem lt_VB (flag:Bool) {x y:V} {u v:Value} (hx:RelV x u) (hy:RelV y v) (hs:shV x=shV y) (h0:shV x≠0) (h:Q (ltV x y) s):wpAny (model prog w) A (oneLt' flag u v) Q E s:=by
  rcases two_kinds hs h0 with ⟨i,j,rfl,rfl⟩ | ⟨a,b,rfl,rfl⟩
  · obtain ⟨t,rfl⟩:=hx
    obtain ⟨t',rfl⟩:=hy
    cases flag
    · exact kat_one _ _ (PyProof.Rows.lt_int h)
    · exact oneLt_int h
  · obtain ⟨t,rfl⟩:=hx
    obtain ⟨t',rfl⟩:=hy
    cases flag
    · exact kat_one _ _ (PyProof.Rows.lt_str h)
    · exact oneLt_str h
theorem lex_kat:∀ {xs ys:List V} {us ws:List Value} (i:Nat),Vals xs us→Vals ys ws→xs.map shV=ys.map shV→0 ∉ xs.map shV→Q (lexV xs ys) s→KatLex prog w A true false Q (us.zip ws) i s
  | [],[],_,_,i,.nil,.nil,_,_,h=>kat_nil h
  | x :: xs,y :: ys,_,_,i,.cons (b:=u) r1 t1,.cons (b:=v) r2 t2,hs,h0,h=>by
    simp only [List.map_cons,List.cons.injEq] at hs
    simp only [List.map_cons,List.mem_cons,not_or] at h0
    rw [List.zip_cons_cons]
    refine kat_cons (eq_VB r1 r2 hs.1 (Ne.symm h0.1) ?_)
    unfold lexV at h
    by_cases e:x=y
    · rw [if_pos e] at h
      rw [decide_eq_true e]
      exact kat_yes (lex_kat (i+1) t1 t2 hs.2 h0.2 h)
    · rw [if_neg e] at h
      rw [decide_eq_false e]
      exact kat_no (lt_VB _ r1 r2 hs.1 (Ne.symm h0.1) h)
  | [],_ :: _,_,_,_,_,_,hs,_,_=>by cases hs
  | _ :: _,[],_,_,_,_,_,hs,_,_=>by cases hs
def KeysOn (h:Heap) (ks:List Value) (K:Nat→List V):Prop:=∀ (i:Nat) (v:Value),ks[i]?=some v→∃ a its,v=.ref a∧IsTup h a its.toArray∧Vals (K i) its
theorem KeysOn.keeps {h h':Heap} {ks:List Value} {K:Nat→List V} (x:KeysOn h ks K) (k:∀ b o,o.cls=.type "tuple" → h.get? b=some o→h'.get? b=some o):KeysOn h' ks K:=fun i v hv=>by
  obtain ⟨a,its,rfl,⟨o,ho,hc,r⟩,q⟩:=x i v hv
  exact ⟨a,its,rfl,⟨o,k _ _ hc ho,hc,r⟩,q⟩
theorem katTups_of {h:Heap}:∀ (ks:List Value) (K:Nat→List V),KeysOn h ks K→(∀ i,K i≠[])→∃ fs,KatTups h ks fs∧fs.length=ks.length∧∀ f∈fs,∃ i x r,K i=x :: r∧RelV x f
  | [],K,_,_=>⟨[],.nil,rfl,fun _ h=>nomatch h⟩
  | v :: ks,K,hk,ne=>by
    obtain ⟨a,its,rfl,⟨o,ho,hc,n,hd⟩,r⟩:=hk 0 v rfl
    obtain ⟨fs,t,l,q⟩:=katTups_of ks (fun i=>K (i+1)) (fun i v hv=>hk (i+1) v (by simpa using hv)) fun i=>ne (i+1)
    cases e:K 0 with
    | nil=>exact absurd e (ne 0)
    | cons x rr=>
      rw [e] at r
      cases r with
      | cons rx rt=>
        refine ⟨_ :: fs,.cons ho hc hd rfl t,by simp [l],fun f hf=>?_⟩
        rcases List.mem_cons.mp hf with rfl | hf
        · exact ⟨0,x,rr,e,rx⟩
        · obtain ⟨i,x,r,h1,h2⟩:=q f hf
          exact ⟨i+1,x,r,h1,h2⟩
theorem looks_ty {M:Model} {h:Heap} {x:V} {u:Value} (r:RelV x u) (h0:shV x≠0):Looks M h (typeOf u) (.type (if shV x=1 then "int" else "str")):=by
  rcases two_kinds (rfl:shV x=shV x) h0 with ⟨i,_,rfl,_⟩ | ⟨a,_,rfl,_⟩
  · obtain ⟨t,rfl⟩:=r;exact Looks.now
  · obtain ⟨t,rfl⟩:=r;exact Looks.now
variable {n:Nat} {K:Nat→List V} {sh:List Nat} {ks:List Value}
theorem keys_kind {Q:SortKind→Shared→Prop} (k:Keys n K sh) (hk:KeysOn s.heap ks K) (h1:0 < ks.length) (h:Q (tuples' true) s):wpAny (model prog w) A (keyKind' ks.toArray) Q E s:=by
  have ne:∀ i,K i≠[]:=fun i e=>k.ne (by rw [← k.shp i,e];rfl)
  obtain ⟨fs,t,l,q⟩:=katTups_of ks K hk ne
  obtain ⟨d,dr,hd⟩:∃ d dr,sh=d :: dr:=by
    cases e:sh with
    | nil=>exact absurd e k.ne
    | cons d dr=>exact ⟨d,dr,rfl⟩
  refine kat_kind (T:=.type (if d=1 then "int" else "str")) t (by omega) (fun v hv=>?_) (by split <;> rfl) (by split <;> exact h)
  obtain ⟨i,x,r,e,rx⟩:=q v hv
  have e2:=k.shp i
  rw [e,hd,List.map_cons] at e2
  have e3:shV x=d:=(List.cons.inj e2).1
  rw [← e3]
  exact looks_ty rx (fun z=>k.z (by rw [hd,← e3,z];exact List.mem_cons_self))
theorem keys_run {G:Array Nat→Shared→Prop} (k:Keys n K sh) (hk:KeysOn s.heap ks K) (hl:ks.length=n) (h1:1≤n) (h:∀ p,PermN n p→Rise (fun i j=>lexV (K i) (K j)) p n→G p s) :
    (kas_sort n).kasWp (kas_ask prog w A (tuples' true) ks) G s:=by
  refine okT_wp (n:=n) (lt:=fun i j=>lexV (K i) (K j)) (J:=fun s'=>s'=s) (Q:=fun p=>PermN n p∧Rise (fun i j=>lexV (K i) (K j)) p n) (fun i j C s' hi hj es hC=>?_) (fun p s' hp es=>?_) _ s rfl (sort_ok k.tot h1)
  · subst es
    have gi:ks[i]?=some ks[i]:=List.getElem?_eq_getElem (by omega)
    have gj:ks[j]?=some ks[j]:=List.getElem?_eq_getElem (by omega)
    obtain ⟨a,xs,ea,⟨o,ho,_,m,hd⟩,r1⟩:=hk i _ gi
    obtain ⟨b,ys,eb,⟨o',ho',_,m',hd'⟩,r2⟩:=hk j _ gj
    unfold kas_ask
    rw [List.getD_eq_getElem?_getD,List.getD_eq_getElem?_getD,gi,gj,Option.getD_some,Option.getD_some,ea,eb]
    have l1:=r1.length
    have l2:=r2.length
    have l3:(K i).length=(K j).length:=by
      have:=congrArg List.length ((k.shp i).trans (k.shp j).symm)
      simpa using this
    have ef:decide (xs.toArray.size < ys.toArray.size)=false:=by
      rw [List.size_toArray,List.size_toArray];exact decide_eq_false (by omega)
    refine kat_lt ho hd ho' hd' ?_
    rw [ef]
    exact lex_kat 0 r1 r2 ((k.shp i).trans (k.shp j).symm) (by rw [k.shp];exact k.z) (hC _ rfl)
  · subst es
    exact h p hp.1 hp.2
end
end L2
namespace L2
open PySem PySem.Spec PyProof.Rows PySem.W
theorem vals_refs:∀ {as:List Addr} {its:List Value},Vals (as.map V.ref) its→its=as.map Value.ref
  | [],_,.nil=>rfl
  | a :: as,_,.cons r t=>by
    cases (show _=Value.ref a from r)
    rw [vals_refs t];rfl
theorem refs_vals (as:List Addr):Vals (as.map V.ref) (as.map Value.ref):=by
  induction as with
  | nil=>exact .nil
  | cons a r ih=>exact .cons rfl ih
section
variable {prog:Program} {w:World} {A:Around} {E:Value→Shared→Prop} {s:Shared} {K:Nat→List V} {sh:List Nat} {vs:List Value}
abbrev outOf (vs:List Value) (p:Array Nat):List Value:=p.toList.map fun i=>vs.getD i Value.none
theorem few_out {xs:Array Value} (hl:xs.size=vs.length) (h2:vs.length < 2):(xs.zip vs.toArray).map (·.2)=(outOf vs (List.range vs.length).toArray).toArray:=by
  apply Array.toList_inj.mp
  match vs,h2 with
  | [],_=>
    have:xs=#[]:=Array.eq_empty_of_size_eq_zero (by simpa using hl)
    subst this;simp [outOf]
  | [v],_=>
    obtain ⟨x,rfl⟩:∃ x,xs=#[x]:=Array.size_eq_one_iff.mp (by simpa using hl)
    simp [outOf]
theorem range_perm (n:Nat):PermN n (List.range n).toArray:=by unfold PermN;simp
theorem plain_sort {D:Addr} {c0:Nat} {P:PySem.Fin→Shared→Prop} (hD:s.heap.get? D=some (seqObj "list" vs.toArray c0)) (h64:vs.length < 64) (k:Keys vs.length K sh) (hk:KeysOn s.heap vs K)
    (h:∀ (p:Array Nat) (h':Heap) (c:Nat),PermN vs.length p→Rise (fun i j=>lexV (K i) (K j)) p vs.length→(∀ b o,b≠D→s.heap.get? b=some o→h'.get? b=some o) →
      h'.get? D=some (seqObj "list" (outOf vs p).toArray c)→P (.done (.ret .none)) { s with heap:=h' }) :
    wpAny (model prog w) A (Builtin.«list.sort» ⟨[.ref D],[]⟩) P E s:=by
  have ltD:D < s.heap.objs.size:=Heap.lt_size hD
  rw [list_sort_plain]
  refine wpAny_bind (listItems_at (a:=D) hD rfl ?_)
  refine wpAny_bind (listUpdate_at (a:=D) hD rfl ?_ (by rw [List.size_toArray,sizeLine_eq];omega) (Nat.zero_le _))
  obtain ⟨e1,hD1⟩:∃ e1,(s.heap.update D (Obj.mapSeq fun _=>#[])).get? D=some (seqObj "list" #[] e1):=⟨_,get?_update_seq hD (fun _=>#[])⟩
  refine wpAny_bind (seqEpoch_at (a:=D) hD1 rfl ?_)
  refine wpAny_bind (wpAny_newTuple ?_ (by show vs.length≤_;rw [sizeLine_eq];omega))
  refine wpAny_bind (wpAny_newList ?_ (Nat.zero_le _))
  refine wpAny_holding ?_
  generalize hg:((s.heap.update D (Obj.mapSeq fun _=>#[])).push (seqObj "tuple" vs.toArray 0)).push (seqObj "list" #[] 0)=g
  have keep:∀ b o,b≠D→s.heap.get? b=some o→g.get? b=some o:=fun b o hb e=>by
    rw [← hg]
    exact Heap.get?_push_of_some _ (Heap.get?_push_of_some _ ((Heap.get?_update_ne _ _ _ _ hb).trans e))
  have hDg:g.get? D=some (seqObj "list" #[] e1):=by
    rw [← hg]
    exact Heap.get?_push_of_some _ (Heap.get?_push_of_some _ hD1)
  have hkg:KeysOn g vs K:=hk.keeps fun b o hc e=>keep b o (fun z=>by subst z;rw [hD] at e;cases e;exact absurd (Value.type.inj hc) (by decide)) e
  have sz:vs.toArray.size=vs.length:=List.size_toArray ..
  have fin:∀ (p:Array Nat),PermN vs.length p→Rise (fun i j=>lexV (K i) (K j)) p vs.length →
      P (.done (.ret .none)) { s with heap:=g.update D (Obj.mapSeq fun _=>(outOf vs p).toArray) }:=fun p hp hr=>
    h p _ _ hp hr (fun b o hb e=>(Heap.get?_update_ne _ _ _ _ hb).trans (keep b o hb e)) (get?_update_seq hDg _)
  have fit:∀ (p:Array Nat),PermN vs.length p→(outOf vs p).toArray.size≤sizeLine+1:=fun p hp=>by
    rw [List.size_toArray,List.length_map,Array.length_toList,hp.sz,sizeLine_eq];omega
  show wpAny (model prog w) A _ P E { s with heap:=g }
  dsimp only
  by_cases h2:vs.toArray.size < 2
  · rw [if_pos h2,if_pos h2]
    refine wpAny_bind (wpAny_pure ?_)
    rw [StateT.run_pure]
    refine wpAny_bind (wpAny_pure ?_)
    dsimp only
    have eo:(arrOf (SortSt.mk' general' (vs.toArray.zip vs.toArray) #[] 7 none)).map (·.2)=(outOf vs (List.range vs.length).toArray).toArray:=few_out sz (by omega)
    rw [eo]
    refine wpAny_bind (seqEpoch_at (a:=D) (s:={ s with heap:=g }) hDg rfl ?_)
    refine wpAny_bind (listUpdate_at (a:=D) (s:={ s with heap:=g }) hDg rfl ?_ (Nat.zero_le _) (fit _ (range_perm _)))
    simp only [bne_self_eq_false,Bool.false_eq_true,if_false]
    exact wpAny_pure (fin _ (range_perm _) fun i j hij hj=>by omega)
  · rw [if_neg h2,if_neg h2]
    refine wpAny_bind (keys_kind (s:={ s with heap:=g }) (n:=vs.length) k hkg (by omega) ?_)
    refine wpAny_bind (wpAny_mono (kat_run (ks:=vs) (vs:=vs) (s:={ s with heap:=g }) (Q:=fun st' s'=>∃ p:Array Nat,s'={ s with heap:=g }∧PermN vs.length p∧Rise (fun i j=>lexV (K i) (K j)) p vs.length∧arrOf st'=p.map (kas_item (vs.toArray.zip vs.toArray))∧failedOf st'=none)
      (G:=fun p s'=>s'={ s with heap:=g }∧PermN vs.length p∧Rise (fun i j=>lexV (K i) (K j)) p vs.length) rfl (by omega) h64 (fun p st' s' a1 a2 a3 a4=>⟨p,a4.1,a4.2.1,a4.2.2,a2,a3⟩)
      (keys_run (s:={ s with heap:=g }) k hkg rfl (by omega) fun p hp hr=>⟨rfl,hp,hr⟩)) ?_ fun _ _ e=>e)
    rintro ⟨⟨⟩,st'⟩ s' ⟨p,rfl,hp,hr,har,hf⟩
    dsimp only
    rw [kat_snds rfl har]
    refine wpAny_bind (seqEpoch_at (a:=D) (s:={ s with heap:=g }) hDg rfl ?_)
    refine wpAny_bind (listUpdate_at (a:=D) (s:={ s with heap:=g }) hDg rfl ?_ (Nat.zero_le _) (fit p hp))
    rw [hf]
    simp only [bne_self_eq_false,Bool.false_eq_true,if_false]
    exact wpAny_pure (fin p hp hr)
end
theorem out_refs (as:List Addr) (p:Array Nat) (hp:PermN as.length p):outOf (as.map Value.ref) p=(p.toList.map fun i=>as.getD i 0).map Value.ref:=by
  unfold outOf
  rw [List.map_map]
  refine List.map_congr_left fun i hi=>?_
  have hi':i < as.length:=List.mem_range.mp ((List.Perm.mem_iff hp).mp hi)
  show (as.map Value.ref).getD i Value.none=Value.ref (as.getD i 0)
  rw [List.getD_eq_getElem?_getD,List.getD_eq_getElem?_getD,List.getElem?_map,List.getElem?_eq_getElem hi'];rfl
theorem rise_list {n:Nat} {lt:Nat→Nat→Bool} {p:Array Nat} (h:Rise lt p n):∀ i j,i < j→j < n→lt (p.toList.getD j 0) (p.toList.getD i 0)=false:=fun i j a b=>by
  have:=h i j a b
  rw [Array.getD_eq_getD_getElem?,Array.getD_eq_getD_getElem?] at this
  rw [List.getD_eq_getElem?_getD,List.getD_eq_getElem?_getD,Array.getElem?_toList,Array.getElem?_toList];exact this
section
variable {X:Cx}
theorem call_sorted_tups:CallR X (.builtin "sorted") (fun vs H Q=>∃ (a:Addr) (as:List Addr) (K:Nat→List V) (sh:List Nat),vs=[.ref a]∧SqL X.K H a (as.map V.ref)∧as.length < 64∧(∀ i b,as[i]?=some b→SqT X.K H b (K i))∧Keys as.length K sh ∧
    ∀ (p:List Nat) (l:Addr),p.Perm (List.range as.length)→(∀ i j,i < j→j < as.length→lexV (K (p.getD j 0)) (K (p.getD i 0))=false)→H l=none→Q (.ref l) (upd H l (.lst ((p.map fun i=>as.getD i 0).map V.ref)))):=by
  intro pins s σ H xs us Q I r h
  obtain ⟨a,as,K,sh,rfl,hl,h64,hT,k,q⟩:=h
  obtain ⟨u,rfl,ru⟩:=vals1 r
  cases (show u=Value.ref a from ru)
  obtain ⟨its,rv,ht,hz⟩:=I.list hl
  have ei:=vals_refs rv
  subst ei
  have lm:(as.map Value.ref).length=as.length:=List.length_map _
  have fz:(as.map Value.ref).length≤sizeLine:=by rw [lm,sizeLine_eq];omega
  refine Calls.call_function_entry kind_sorted plain_sorted entry_sorted (args_sorted1 _) ?_
  unfold Builtin.«sorted»
  refine wpAny_bind (m:=checkCount "sorted" 1 1 _) (wpAny_pure ?_)
  refine wpAny_bind (collect_list (l:=a) ht.isList ?_ fz)
  refine wpAny_bind (wpAny_newList ?_ fz)
  generalize hg:(s.heap.push (seqObj "list" #[] 0)).update s.heap.objs.size (Obj.mapSeq (·++(as.map Value.ref).toArray))=g
  have szg:g.objs.size=s.heap.objs.size+1:=by rw [← hg,Heap.size_update,size_push']
  have kg:∀ b o,s.heap.get? b=some o→g.get? b=some o:=fun b o e=>by
    have hlt:b≠s.heap.objs.size:=Nat.ne_of_lt (Heap.lt_size e)
    rw [← hg,Heap.get?_update_ne _ _ _ _ hlt]
    exact Heap.get?_push_of_some _ e
  have hDL:(g.push (seqObj "list" (as.map Value.ref).toArray 0)).get? g.objs.size=some (seqObj "list" (as.map Value.ref).toArray 0):=Heap.get?_push_size _ rfl
  have kp1:∀ b o,s.heap.get? b=some o→(g.push (seqObj "list" (as.map Value.ref).toArray 0)).get? b=some o:=fun b o e=>Heap.get?_push_of_some _ (kg b o e)
  have hks:KeysOn (g.push (seqObj "list" (as.map Value.ref).toArray 0)) (as.map Value.ref) K:=fun i v hv=>by
    rw [List.getElem?_map] at hv
    cases e:as[i]? with
    | none=>rw [e] at hv;cases hv
    | some b=>
      rw [e] at hv
      cases hv
      obtain ⟨ys,ry,⟨o,ho,r⟩,_⟩:=I.tuple (hT i b e)
      exact ⟨b,ys,rfl,⟨o,kp1 _ _ ho,r⟩,ry⟩
  refine wpAny_bind (wpAny_holding (wpAny_call_entry slot_list_sort ⟨_,hDL,rfl⟩ entry_list_sort (plain_sort (s:={ s with heap:=g.push (seqObj "list" (as.map Value.ref).toArray 0) }) hDL (by rw [lm];exact h64) (by rw [lm];exact k) hks fun p h' c hp hr kp at'=>⟨_,rfl,?_⟩) (args_list_sort _)))
  rw [lm] at hp hr
  rw [out_refs as p hp] at at'
  refine wpAny_pure ⟨_,rfl,⟨.ref g.objs.size,_,I.laid (t':=s.toks) (fun b o e=>kp b o (Nat.ne_of_lt (Nat.lt_of_lt_of_le (Heap.lt_size e) (show s.heap.objs.size≤g.objs.size by omega))) (kp1 b o e)) (show s.heap.objs.size≤g.objs.size by omega) ?_,rfl,q p.toList g.objs.size hp (rise_list hr) (I.hok.fresh (show s.heap.objs.size≤g.objs.size by omega))⟩⟩
  have lp:(p.toList.map fun i=>as.getD i 0).length=as.length:=by rw [List.length_map,Array.length_toList,hp.sz]
  exact ⟨by rw [List.length_map,lp,sizeLine_eq];omega,_,_,refs_vals _,at'⟩
end
end L2
namespace L2
open PySem PySem.Spec PyProof.Rows PySem.W
section
variable {X:Cx} {pins:List (Addr × Obj)} {σ:St} {H:Hp} {s:Shared}
theorem Inv.adopt {D:Addr} {o:HO} {h':Heap} {t':Nat} {oD:Obj} (I:Inv X pins σ H s) (f:FpOk X pins H D) (k:∀ b u,b≠D→s.heap.get? b=some u→h'.get? b=some u) (new:ObjOk X.prog X.w (upd H D o) h' D o) (hD:s.heap.get? D=some oD) :
    Inv X pins σ (upd H D o) { s with heap:=h',toks:=t' }:=by
  have nD:∀ b u,H b=some u→b≠D:=fun b u e=>ne_of_none e f.1
  refine I.step (g':=s.gens) (d':=s.drawn) (ch:=[D]) (fun b hb=>?_) (fun b u _ _ hc e _=>k b u (fun z=>hc (by simp [z])) e) (fun b u _ _ hc e _=>⟨u.slots,k b u (fun z=>hc (by simp [z])) e⟩)
    (fun b u hc e n=>by rw [upd_ne (fun z=>hc (by simp [z]))];exact n) (fun b u hc e=>⟨u,k b u (fun z=>hc (by simp [z])) e⟩)
    (fun b xs e=>by rw [upd_ne (nD b _ e)];exact e) (fun b ob u e=>by rw [upd_ne (nD b _ e)];exact e) (fun b ps e=>⟨#[],by rw [upd_ne (nD b _ e),e];simp⟩) (fun m hm=>?_) (fun b u e=>?_) I.bare
  · have e:b=D:=by simpa using hb
    subst e
    exact ⟨f.2.2.2.1,f.2.1,f.2.2.2.2.1,f.2.2.2.2.2⟩
  · obtain ⟨ob,es,ep,ho,r⟩:=hm
    exact ⟨ob,es,ep,k _ ob (Ne.symm f.2.1) ho,r⟩
  · by_cases hb:b=D
    · subst hb;rw [upd_same] at e;cases e;exact new
    · rw [upd_ne hb] at e
      refine (I.hok b u e).stay (fun c v hc q=>k c v ?_ q) (fun c q=>by rw [upd_ne (nD c _ q)];exact q) fun c xs q=>by rw [upd_ne (nD c _ q)];exact q
      rcases hc with z | z
      · rw [z];exact hb
      · exact nD c _ z
def KeyFn (X:Cx) (A1:Around) (pins0:List (Addr × Obj)) (σ:St) (H0:Hp) (fv:Value) (vs:List Value) (K:Nat→List V):Prop:=
  ∀ (i:Nat) (v:Value) (pins:List (Addr × Obj)) (H:Hp) (s:Shared),vs[i]?=some v→(∀ p∈pins0,p∈pins)→Inv X pins σ H s→Same H0 H →
    wpAny (model X.prog X.w) A1 (call fv [v]) (EP X pins σ fun k H'=>∃ a,k=.ref a∧H' a=some (.tup (K i))∧Same H H') (fun _ _=>False) s
theorem keysOn_of {as:List Addr} {K:Nat→List V} (I:Inv X pins σ H s) (h:∀ j a,as[j]?=some a→H a=some (.tup (K j))):KeysOn s.heap (as.map Value.ref) K:=fun i v hv=>by
  rw [List.getElem?_map] at hv
  cases e:as[i]? with
  | none=>rw [e] at hv;cases hv
  | some b=>
    rw [e] at hv
    cases hv
    obtain ⟨_,ys,ry,t⟩:=I.hok b _ (h i b e)
    exact ⟨b,ys,rfl,t,ry⟩
theorem key_sort {A1:Around} {E:Value→Shared→Prop} {D fa:Addr} {c0:Nat} {vs:List Value} {vV:List V} {K:Nat→List V} {sh:List Nat} {P:PySem.Fin→Shared→Prop} (I:Inv X pins σ H s) (hD:s.heap.get? D=some (seqObj "list" vs.toArray c0)) (fD:FpOk X pins H D)
    (rv:Vals vV vs) (h64:vs.length < 64) (k:Keys vs.length K sh) (F:KeyFn X A1 pins σ H (.ref fa) vs K)
    (h:∀ (p:Array Nat) (H':Hp) (s':Shared) (c:Nat),PermN vs.length p→Rise (fun i j=>lexV (K i) (K j)) p vs.length→Same H H'→H' D=none→Inv X pins σ (upd H' D (.lst (p.toList.map fun i=>vV.getD i .non))) s'→P (.done (.ret .none)) s') :
    wpAny (model X.prog X.w) A1 (ksk_tree D (.ref fa) false) P E s:=by
  have lv:=rv.length
  unfold ksk_tree
  refine wpAny_bind (listItems_at (a:=D) hD rfl ?_)
  refine wpAny_bind (listUpdate_at (a:=D) hD rfl ?_ (by rw [List.size_toArray,sizeLine_eq];omega) (Nat.zero_le _))
  obtain ⟨e1,hD1⟩:∃ e1,(s.heap.update D (Obj.mapSeq fun _=>#[])).get? D=some (seqObj "list" #[] e1):=⟨_,get?_update_seq hD (fun _=>#[])⟩
  have I1:Inv X pins σ H { s with heap:=s.heap.update D (Obj.mapSeq fun _=>#[]),toks:=s.toks }:=I.turned (t':=s.toks) (fun b o hb e=>(Heap.get?_update_ne _ _ _ _ hb).trans e) fD.1 fD.2.1 fD.2.2.2.1 fD.2.2.2.2.1 fD.2.2.2.2.2
  refine wpAny_bind (seqEpoch_at (a:=D) hD1 rfl ?_)
  refine wpAny_bind (wpAny_newTuple ?_ (by show vs.length≤_;rw [sizeLine_eq];omega))
  have I2:Inv X pins σ H { s with heap:=(s.heap.update D (Obj.mapSeq fun _=>#[])).push (seqObj "tuple" vs.toArray 0),toks:=s.toks }:=I1.kept (t':=s.toks) fun b o e=>Heap.get?_push_of_some _ e
  have hD2:((s.heap.update D (Obj.mapSeq fun _=>#[])).push (seqObj "tuple" vs.toArray 0)).get? D=some (seqObj "list" #[] e1):=Heap.get?_push_of_some _ hD1
  generalize hg2:(s.heap.update D (Obj.mapSeq fun _=>#[])).push (seqObj "tuple" vs.toArray 0)=g2 at I2 hD2
  have e2:((s.heap.update D (Obj.mapSeq fun _=>(#[]:Array Value))).push { cls:=.type "tuple", data:=.seq vs.toArray })=g2:=hg2
  refine wpAny_bind (wpAny_newList ?_ (Nat.zero_le _))
  refine wpAny_holding ?_
  have fk:H g2.objs.size=none:=I2.hok.fresh (Nat.le_refl _)
  have I3:Inv X pins σ (upd H g2.objs.size (.lst [])) { s with heap:=g2.push { cls:=.type "list", data:=.seq ([]:List Value).toArray },toks:=s.toks }:=I2.lnew (its:=[]) (t':=s.toks) .nil (Nat.zero_le _)
  have hD3:(g2.push { cls:=.type "list", data:=.seq ([]:List Value).toArray }).get? D=some (seqObj "list" #[] e1):=Heap.get?_push_of_some _ hD2
  have kD:g2.objs.size≠D:=Nat.ne_of_gt (Heap.lt_size hD2)
  simp only [e2]
  generalize hkS:g2.objs.size=kS at I3 fk kD ⊢
  have fD3:FpOk X pins (upd H kS (.lst [])) D:=⟨by rw [upd_ne (Ne.symm kD)];exact fD.1,fD.2⟩
  have I4:Inv X (pins++[(D,seqObj "list" #[] e1)]) σ (upd H kS (.lst [])) { s with heap:=g2.push { cls:=.type "list", data:=.seq ([]:List Value).toArray },toks:=s.toks }:=I3.pins_of fun p hp=>by
    rcases List.mem_append.mp hp with q | q
    · exact I3.pin p (List.mem_append_right _ q)
    · obtain rfl:p=(D,seqObj "list" #[] e1):=by simpa using q
      exact ⟨hD3,fD3.1,fD3.2.1,fD3.2.2.1,fun v z=>by cases z⟩
  generalize ({ s with heap:=g2.push { cls:=.type "list", data:=.seq ([]:List Value).toArray },toks:=s.toks }:Shared)=s4 at I4 ⊢
  unfold ksk_rest
  refine wpAny_bind (wpAny_rule ?_)
  rw [List.forIn_toArray]
  refine wpAny_bind (ksk_fold (fun i s'=>∃ (H':Hp) (as:List Addr),Inv X (pins++[(D,seqObj "list" #[] e1)]) σ H' s'∧Same H H'∧H' kS=some (.lst (as.map V.ref))∧as.length=i∧∀ j a,as[j]?=some a→H' a=some (.tup (K j))) vs 0 s4
    ⟨_,[],I4,(Same.refl H).new fk,upd_same,rfl,fun j a e=>by simp at e⟩ (fun j x s' hx hJ=>?_) fun s' hJ=>?_)
  · obtain ⟨H',as,I',S',hk',hl',ht'⟩:=hJ
    rw [Nat.zero_add] at hl' ⊢
    refine wpAny_bind (wpAny_attempt (wpAny_mono (F j x _ H' s' hx (fun p hp=>List.mem_append_left _ hp) I' S') (fun u s'' hu=>?_) fun _ _ z=>z.elim))
    obtain ⟨v,H'',I'',ru,a,rfl,ha,S''⟩:=hu
    cases (show u=Value.ref a from ru)
    have hk'':=S'' _ _ hk'
    obtain ⟨z,its,m,r,hl,e⟩:=I''.lstM hk''
    have jl:j < vs.length:=(List.getElem?_eq_some_iff.mp hx).1
    have il:its.length=j:=by rw [← hl,List.length_map,hl']
    dsimp only
    refine wpAny_bind (listUpdate_at (a:=kS) e rfl ?_ (by rw [List.size_toArray,sizeLine_eq];omega) (by rw [Array.size_push,List.size_toArray,sizeLine_eq];omega))
    refine wpAny_pure ⟨rfl,_,as++[a],I''.lset (ys:=as.map V.ref++[V.ref a]) (its':=its++[.ref a]) (t':=s''.toks) hk'' e (by simp) (r.append (.cons (show RelV (V.ref a) (Value.ref a) from rfl) .nil)) (by rw [List.length_append,List.length_map,List.length_singleton,sizeLine_eq];omega),(S'.trans S'').write fk,by rw [upd_same,List.map_append];rfl,by simp [hl'],fun i b hb=>?_⟩
    rcases Nat.lt_or_ge i as.length with q | q
    · rw [List.getElem?_append_left q] at hb
      have:=S'' _ _ (ht' i b hb)
      rw [upd_ne (ne_of this hk'' (by intro z;cases z))];exact this
    · rw [List.getElem?_append_right q] at hb
      have q0:i - as.length=0:=by
        rcases Nat.eq_zero_or_pos (i - as.length) with z | z
        · exact z
        · rw [List.getElem?_eq_none (by simp;omega)] at hb;cases hb
      rw [q0] at hb
      have eb:a=b:=by simpa using hb
      subst eb
      have ei:i=j:=by omega
      subst ei
      rw [upd_ne (ne_of ha hk'' (by intro z;cases z))];exact ha
  · obtain ⟨H',as,I',S',hk',hl',ht'⟩:=hJ
    rw [Nat.zero_add] at hl'
    obtain ⟨z,its,m,r,hl,e⟩:=I'.lstM hk'
    have ei:=vals_refs r
    subst ei
    have lm:(as.map Value.ref).length=vs.length:=by rw [List.length_map,hl']
    refine wpAny_bind (listItems_at (a:=kS) e rfl ?_)
    have hks:KeysOn s'.heap (as.map Value.ref) K:=keysOn_of I' ht'
    have fin:∀ (st:SortSt) (p:Array Nat),PermN vs.length p→Rise (fun i j=>lexV (K i) (K j)) p vs.length→(arrOf st).map (·.2)=(outOf vs p).toArray→failedOf st=none→wpAny (model X.prog X.w) A1 (ksk_tail D false e1 (.ref kS) st) P E s':=fun st p hp hr ho hf=>by
      have pD:s'.heap.get? D=some (seqObj "list" #[] e1):=(I'.pin (D,seqObj "list" #[] e1) (List.mem_append_right _ (List.mem_append_right _ List.mem_cons_self))).1
      have nD:H' D=none:=(I'.pin (D,seqObj "list" #[] e1) (List.mem_append_right _ (List.mem_append_right _ List.mem_cons_self))).2.1
      unfold ksk_tail
      dsimp only
      rw [ho]
      refine wpAny_bind (listUpdate_at (a:=kS) e rfl ?_ (by rw [List.size_toArray,lm,sizeLine_eq];omega) (Nat.zero_le _))
      refine wpAny_bind (wpAny_letGo ?_)
      have I5:=I'.lset (its':=[]) (ys:=[]) (t':=s'.toks) (f:=fun _=>#[]) hk' e rfl .nil (Nat.zero_le _)
      have pD5:(s'.heap.update kS (Obj.mapSeq fun _=>#[])).get? D=some (seqObj "list" #[] e1):=(Heap.get?_update_ne _ _ _ _ (Ne.symm kD)).trans pD
      refine wpAny_bind (seqEpoch_at (a:=D) (s:={ s' with heap:=s'.heap.update kS (Obj.mapSeq fun _=>#[]) }) pD5 rfl ?_)
      refine wpAny_bind (listUpdate_at (a:=D) (s:={ s' with heap:=s'.heap.update kS (Obj.mapSeq fun _=>#[]) }) pD5 rfl ?_ (Nat.zero_le _) (by rw [if_neg (by simp),List.size_toArray,List.length_map,Array.length_toList,hp.sz,sizeLine_eq];omega))
      rw [hf]
      simp only [bne_self_eq_false,Bool.false_eq_true,if_false]
      refine wpAny_pure (h p (upd H' kS (.lst [])) _ 0 hp hr (S'.write fk) (by rw [upd_ne (Ne.symm kD)];exact nD) ?_)
      refine Inv.adopt (s:={ s' with heap:=s'.heap.update kS (Obj.mapSeq fun _=>#[]),toks:=s'.toks }) (t':=s'.toks) I5.unpinned ⟨by rw [upd_ne (Ne.symm kD)];exact nD,fD.2⟩ (fun b u hb q=>(Heap.get?_update_ne _ _ _ _ hb).trans q) ?_ pD5
      refine ⟨by rw [List.length_map,Array.length_toList,hp.sz,sizeLine_eq];omega,outOf vs p,_,?_,get?_update_seq pD5 _⟩
      have all:∀ l:List Nat,(∀ i∈l,i < vs.length)→Vals (l.map fun i=>vV.getD i .non) (l.map fun i=>vs.getD i Value.none):=fun l=>by
        induction l with
        | nil=>exact fun _=>.nil
        | cons i r ih=>
          intro hl
          have hi:i < vV.length:=by rw [lv];exact hl i List.mem_cons_self
          obtain ⟨u,hu,ru⟩:=rv.get (List.getElem?_eq_getElem hi)
          refine .cons ?_ (ih fun j hj=>hl j (List.mem_cons_of_mem _ hj))
          show RelV (vV.getD i .non) (vs.getD i Value.none)
          rw [List.getD_eq_getElem?_getD,List.getD_eq_getElem?_getD,hu,List.getElem?_eq_getElem hi]
          exact ru
      exact all p.toList fun i hi=>List.mem_range.mp ((List.Perm.mem_iff hp).mp hi)
    unfold ksk_end
    dsimp only
    simp only [Bool.false_eq_true,if_false]
    have sz:vs.toArray.size=vs.length:=List.size_toArray ..
    by_cases h2:vs.toArray.size < 2
    · rw [if_pos h2,if_pos h2]
      refine wpAny_bind (wpAny_pure ?_)
      rw [StateT.run_pure]
      refine wpAny_bind (wpAny_pure ?_)
      exact fin _ _ (range_perm _) (fun i j hij hj=>by omega) (few_out (by rw [List.size_toArray,lm]) (by omega)) rfl
    · rw [if_neg h2,if_neg h2]
      refine wpAny_bind (keys_kind (n:=vs.length) k hks (by omega) ?_)
      refine wpAny_bind (wpAny_mono (kat_run (ks:=as.map Value.ref) (vs:=vs) (Q:=fun st' t'=>∃ p:Array Nat,t'=s'∧PermN vs.length p∧Rise (fun i j=>lexV (K i) (K j)) p vs.length∧arrOf st'=p.map (kas_item ((as.map Value.ref).toArray.zip vs.toArray))∧failedOf st'=none)
        (G:=fun p t'=>t'=s'∧PermN vs.length p∧Rise (fun i j=>lexV (K i) (K j)) p vs.length) lm (by omega) h64 (fun p st' t' a1 a2 a3 a4=>⟨p,a4.1,a4.2.1,a4.2.2,a2,a3⟩)
        (keys_run k hks lm (by omega) fun p hp hr=>⟨rfl,hp,hr⟩)) ?_ fun _ _ e=>e)
      rintro ⟨⟨⟩,st'⟩ t' ⟨p,rfl,hp,hr,har,hf⟩
      exact fin st' p hp hr (kat_snds lm har) hf
end
end L2
namespace L2
open PySem PySem.Spec PyProof.Rows PySem.W
def codeO (c:Addr) (qual:Str):HO:=.ext fun h=>h.CodeRec (.ref c) qual
def LamAt (P:Addr) (lp:Pos) (qual:Str) (H:Hp):Prop:=∃ ps,H P=some (.tbl ps)∧TriplesOk ps.toList∧(codeAmong lp ps.toList=none∨∃ c,codeAmong lp ps.toList=some (.ref c)∧H c=some (codeO c qual))
abbrev Lm:=Addr × Pos × Str
def Lams (ls:List Lm) (H:Hp):Prop:=∀ l∈ls,LamAt l.1 l.2.1 l.2.2 H
def LmOk (ls:List Lm):Prop:=∀ l∈ls,∀ m∈ls,l=m∨¬ (l.2.1.line=m.2.1.line∧l.2.1.col=m.2.1.col)
structure Kt (ls:List Lm) (H H':Hp):Prop where
  lam:Lams ls H'
  keep:∀ b o,(∀ ps,o≠.tbl ps)→H b=some o→H' b=some o
  here:∀ b,H' b=none→H b=none
theorem codeAmong_other {pos p2:Pos} {c:Value} (hne:¬ (p2.line=pos.line∧p2.col=pos.col)) (l:List Value) (h:TriplesOk l):codeAmong pos (l++[rawInt p2.line,rawInt p2.col,c])=codeAmong pos l:=by
  fun_induction TriplesOk l with
  | case1=>
    have e:((p2.line:Int) == (pos.line:Int) && (p2.col:Int) == (pos.col:Int))=false:=by
      rw [Bool.eq_false_iff]
      intro z
      rw [Bool.and_eq_true,beq_iff_eq,beq_iff_eq] at z
      exact hne ⟨by have:=z.1;omega,by have:=z.2;omega⟩
    show (if ((p2.line:Int) == (pos.line:Int) && (p2.col:Int) == (pos.col:Int)) then some c else codeAmong pos [])=codeAmong pos []
    rw [e];rfl
  | case2 a t b u x rest ih=>
    simp only [List.cons_append,codeAmong]
    rw [ih h]
  | case3 l h1 h2=>exact h.elim
section
variable {P q:Addr} {lp:Pos} {qual:Str} {H H1 H2:Hp} {o:HO} {ls:List Lm} {xs:List V}
theorem LamAt.same (a:LamAt P lp qual H) (s:Same H H1):LamAt P lp qual H1:=by
  obtain ⟨ps,a,b,c⟩:=a
  refine ⟨ps,s _ _ a,b,?_⟩
  rcases c with c | ⟨d,c,e⟩
  · exact .inl c
  · exact .inr ⟨d,c,s _ _ e⟩
theorem LamAt.start (h:H P=some (.tbl #[])):LamAt P lp qual H:=⟨#[],h,trivial,.inl rfl⟩
theorem Lams.same (a:Lams ls H) (s:Same H H1):Lams ls H1:=fun l hl=>(a l hl).same s
theorem LamAt.write (a:LamAt P lp qual H) (h:H q=some (.lst xs)):LamAt P lp qual (upd H q o):=by
  obtain ⟨ps,a,b,c⟩:=a
  refine ⟨ps,by rw [upd_ne (ne_of a h (by intro z;cases z))];exact a,b,?_⟩
  rcases c with c | ⟨d,c,e⟩
  · exact .inl c
  · exact .inr ⟨d,c,by rw [upd_ne (ne_of e h (by intro z;cases z))];exact e⟩
theorem Kt.refl (a:Lams ls H):Kt ls H H:=⟨a,fun _ _ _ e=>e,fun _ e=>e⟩
theorem Kt.trans (a:Kt ls H H1) (b:Kt ls H1 H2):Kt ls H H2:=⟨b.lam,fun c u hc e=>b.keep c u hc (a.keep c u hc e),fun c e=>a.here c (b.here c e)⟩
theorem Kt.same (a:Kt ls H H1) (s:Same H1 H2):Kt ls H H2:=⟨a.lam.same s,fun c u hc e=>s _ _ (a.keep c u hc e),fun c e=>a.here c (s.free e)⟩
theorem Same.kt (s:Same H H1) (b:Kt ls H1 H2):Kt ls H H2:=⟨b.lam,fun c u hc e=>b.keep c u hc (s _ _ e),fun c e=>s.free (b.here c e)⟩
theorem Kt.of (s:Same H H1) (a:Lams ls H):Kt ls H H1:=(Kt.refl a).same s
theorem Kt.write (a:Kt ls H H1) (hq:H q=none) (h:H1 q=some (.lst xs)):Kt ls H (upd H1 q o):=
  ⟨fun l hl=>(a.lam l hl).write h,fun b u hb e=>by rw [upd_ne (ne_of_none e hq)];exact a.keep b u hb e,fun b e=>by
    by_cases z:b=q
    · rw [z,upd_same] at e;cases e
    · rw [upd_ne z] at e;exact a.here b e⟩
theorem Kt.lst (a:Kt ls H H1) (h:H q=some (.lst xs)):H1 q=some (.lst xs):=a.keep _ _ (fun _ z=>by cases z) h
theorem Kt.tup (a:Kt ls H H1) (h:H q=some (.tup xs)):H1 q=some (.tup xs):=a.keep _ _ (fun _ z=>by cases z) h
theorem Kt.seq {K:PySem.W.Frag} (a:Kt ls H H1) (h:SqL K H q xs):SqL K H1 q xs:=by
  rcases h with (h | ⟨ob,h⟩) | h
  · exact .inl (.inl (a.lst h))
  · exact .inl (.inr ⟨ob,a.keep _ _ (fun _ z=>by cases z) h⟩)
  · exact .inr h
end
def cxLam (X:Cx) (scope:Scope) (NL:List Str) (ix:List Nat) (qual:Str) (cl:List (Str × Addr)) (fa:Addr) (cd:Value) (A1:Around) (s₃:Shared) (H₃:Hp) (pins:List (Addr × Obj)):Cx where
  prog:=X.prog
  w:=X.w
  K:=X.K
  mg:=X.mg
  base:=X.base
  A:=A1.deeper (envX qual scope s₃.heap.objs.size fa cd cl)
  N:=NL++ix.map fun j=>X.N.getD j ""
  s₀:=s₃
  H₀:=H₃
  env:=envX qual scope s₃.heap.objs.size fa cd cl
  outer:=X.stack
  stack:=envX qual scope s₃.heap.objs.size fa cd cl :: X.stack
  ex:=[]
  fn:=fun _=>false
  calm:=X.calm
  pn:=X.pn++pins
  xe:=fun _ _=>False
def lam0 (v:V) (ix:List Nat) (σ:St):St:=some v :: ix.map fun j=>σ.getD j none
section
variable {X:Cx} {pins:List (Addr × Obj)} {σ:St} {H:Hp} {s:Shared}
theorem lam_inv {scope:Scope} {x:Str} {ix:List Nat} {qual:Str} {cl:List (Str × Addr)} {fa:Addr} {cd:Value} {A1:Around} {s₃:Shared} {h₁:Heap} {m:Str→Option Value} {tk:Nat} {v:V} {u:Value}
    (S:CompScope X scope [x] ix) (I:Inv X pins σ H s₃) (c1:∀ x c,cl.lookup x=some c→X.env.cells.lookup x=some c) (c2:∀ x,(x,NameKind.free)∈scope.names→∃ c,cl.lookup x=some c)
    (hfr:A1.frames=some X.stack) (hh:A1.handled=none) (hx:scope.names.lookup x=some .local) (hmx:m x=some u) (ru:RelV v u)
    (hn:h₁.Ns s₃.heap.objs.size m) (old:∀ b o,s₃.heap.get? b=some o→h₁.get? b=some o) :
    Inv (cxLam X scope [x] ix qual cl fa cd A1 s₃ H pins) [] (lam0 v ix σ) H { s₃ with heap:=h₁,toks:=tk }:=by
  have e0:=I.env0
  have lt:∀ b o,s₃.heap.get? b=some o→b≠s₃.heap.objs.size:=fun b o e=>Nat.ne_of_lt (Heap.lt_size e)
  have noA:∀ b:Addr,b ∉ (cxLam X scope [x] ix qual cl fa cd A1 s₃ H pins).ex:=fun b z=>absurd (show b∈([]:List Addr) from z) (by simp)
  have nst:∀ b,b≠X.env.locals→b ∉ X.fs→b ∉ frs X.stack:=fun b h1 h2 h3=>(List.mem_cons.mp (I.stkSub b h3)).elim h1 h2
  have ok:(cxLam X scope [x] ix qual cl fa cd A1 s₃ H pins).Ok:=
    { mod:=I.ok.mod
      kind:=S.kind
      glob:=rfl
      blt:=rfl
      above:=Nat.le_refl _
      inj:=fun x y c h1 h2=>I.ok.inj x y c (c1 x c h1) (c1 y c h2)
      has:=fun y hy=>by
        have hy':scope.names.lookup y=some .cell∨scope.names.lookup y=some .free:=hy
        rcases hy' with q | q
        · exact absurd rfl (S.cell _ (lookup_mem q))
        · exact c2 y (lookup_mem q)
      cab:=fun _ _ z=>nomatch z
      hd:=fun _=>hh
      frames:=Around.frames_deeper hfr
      stk:=.inr ⟨rfl,rfl⟩
      exf:=fun b hb=>absurd hb (noA b)
      bs:=I.bs
      bsz:=e0.bsz
      noex:=fun b _ _=>noA b
      exfs:=fun b hb=>absurd hb (noA b)
      funs:=e0.funs
      frf:=e0.frf }
  refine ⟨ok,rfl,I.bare,Un.kept old,⟨m,hn,fun i y w e1 e2 e3=>?_⟩,fun y c e=>?_,I.hok.fresh (Nat.le_refl _),fun y c e=>I.freeC y c (c1 y c e),fun p hp=>?_,I.hok.kept old,?_⟩
  · cases i with
    | zero=>
      have ey:x=y:=by simpa [cxLam] using e1
      have ev:v=w:=by simpa [lam0] using e2
      subst ey;subst ev
      exact ⟨u,ru,.inl ⟨hx,hmx⟩⟩
    | succ i=>
      have e1':(ix.map fun j=>X.N.getD j "")[i]?=some y:=by simpa [cxLam] using e1
      have e2':(ix.map fun j=>σ.getD j none)[i]?=some (some w):=by simpa [lam0] using e2
      rw [List.getElem?_map] at e1' e2'
      cases q:ix[i]? with
      | none=>rw [q] at e1';cases e1'
      | some j=>
        rw [q] at e1' e2'
        have e1'':X.N.getD j "" = y:=Option.some.inj e1'
        have e2'':σ.getD j none=some w:=Option.some.inj e2'
        obtain ⟨x',hx',hfr'⟩:=S.cap j (List.mem_of_getElem? q)
        have exx:x'=y:=by
          rw [← e1'',List.getD_eq_getElem?_getD,hx'];rfl
        subst exx
        have hσ:σ[j]?=some (some w):=by
          rw [List.getD_eq_getElem?_getD] at e2''
          cases z:σ[j]? with
          | none=>rw [z] at e2'';cases e2''
          | some o=>rw [z] at e2'';exact congrArg some e2''
        have kd:=S.free _ (lookup_mem hfr') rfl
        have vis:Vis X.env.scope x':=by
          rcases kd with z | z
          · exact .inr (.inl z)
          · exact .inr (.inr z)
        obtain ⟨m',hn',hl'⟩:=I.loc
        obtain ⟨u',r,l⟩:=hl' j x' w hx' hσ vis
        refine ⟨u',r,.inr ⟨.inr hfr',?_⟩⟩
        obtain ⟨c,hc⟩:=c2 x' (lookup_mem hfr')
        rcases l with ⟨k,_⟩ | ⟨k,c',ec,o,ho',hd⟩
        · rcases kd with z | z
          · rw [k] at z;cases z
          · rw [k] at z;cases z
        · have:c'=c:=by
            have:=c1 x' c hc
            rw [ec] at this
            exact Option.some.inj this
          subst this
          exact ⟨c',hc,o,old _ _ ho',hd⟩
  · obtain ⟨v',o,ho',hd⟩:=I.cell y c (c1 y c e)
    exact ⟨v',o,old _ _ ho',hd⟩
  · have hp':p∈X.pn++pins:=by
      rcases List.mem_append.mp hp with z | z
      · exact z
      · exact nomatch z
    obtain ⟨e,n,ne,nf,d⟩:=I.pin p hp'
    exact ⟨old _ _ e,n,lt _ _ e,nst _ ne nf,d⟩
  · show (some v :: ix.map fun j=>σ.getD j none).length=([x]++ix.map fun j=>X.N.getD j "").length
    simp
theorem lam_call {scope:Scope} {x:Str} {ix:List Nat} {nm qual:Str} {params:Arguments} {body:Expr} {cl:List (Str × Addr)} {fa c:Addr} {pm ctv:Value} {A1:Around} {te:TE} {v:V} {u:Value} {Q:VK}
    (S:CompScope X scope [x] ix) (I:Inv X pins σ H s) (c1:∀ x c,cl.lookup x=some c→X.env.cells.lookup x=some c) (c2:∀ x,(x,NameKind.free)∈scope.names→∃ c,cl.lookup x=some c)
    (ho:s.heap.get? fa=some (kla_obj nm qual params body scope cl pm c ctv)) (hcd:s.heap.CodeRec (.ref c) qual) (hfr:A1.frames=some X.stack) (hh:A1.handled=none) (hroom:A1.depth < recursionLimit)
    (hbind:∀ u:Value,bindArgs (kla_fn nm qual params body scope cl pm (.ref c) ctv) ⟨[u],[]⟩=pure [(x,u)]) (hx:scope.names.lookup x=some .local) (hco:scope.isCoroutine=false) (hgen:scope.isGenerator=false)
    (hb:∀ (s₃:Shared) (H₃:Hp),PE (cxLam X scope [x] ix qual cl fa (.ref c) A1 s₃ H₃ pins) body te) (ru:RelV v u) (q:te (lam0 v ix σ) H Q) :
    wpAny (model X.prog X.w) A1 (call (.ref fa) [u]) (EP X pins σ Q) (fun _ _=>False) s:=by
  refine wpAny_call (kla_callFunE hroom ho rfl hco hgen rfl hcd ?_)
  rw [hbind u]
  refine wpAny_pure (wpAny_newFunctionEnv S.cell (fun y hy=>?_) (fun h₁ hns hsb=>⟨(I.nolimit).fresh _ hsb,?_⟩) S.kind)
  · obtain rfl:y=(x,u):=by simpa using hy
    exact hx
  show codeAny _ _ (.expr body (envX qual scope s.heap.objs.size fa (.ref c) cl)) _ _
  have hk₁:∀ b o,s.heap.get? b=some o→h₁.get? b=some o:=fun b o e=>hsb.extBut b o (Nat.ne_of_lt (Heap.lt_size e)) (Heap.get?_push_of_some _ e)
  have I1:=lam_inv (qual:=qual) (fa:=fa) (cd:=.ref c) (A1:=A1) (tk:=s.toks+[(x,u)].length) S I c1 c2 hfr hh hx (show (fun y=>[(x,u)].reverse.lookup y) x=some u by simp) ru hns hk₁
  refine kla_codeExpr (wpAny_mono (hb s H [] _ (lam0 v ix σ) H Q I1 q) (fun v' s' hv=>?_) fun _ _ z=>z.elim)
  obtain ⟨v2,H',J,rv,q'⟩:=hv
  exact I.after ⟨v2,H',J.os,J.bare,J.base,J.hok,rv,q'⟩
theorem lam_make {scope:Scope} {params:Arguments} {body:Expr} {lp:Pos} {cl:List (Str × Addr)} {c0 P:Addr} {ls:List Lm} {E:Value→Shared→Prop} {Q:Value→Shared→Prop} (I:Inv X pins σ H s) (hcl:closureFor scope X.env=pure cl) (hcode:X.env.code=.ref c0) (CH:CodeHd X.base c0 P)
    (hb:X.base.BuiltinsAt X.mg P) (lo:LmOk ls) (li:(P,lp,X.env.qual ++ "<lambda>")∈ls) (LL:Lams ls H) (hdef:defaultsOf params X.env=([],[]))
    (h:∀ (fa c:Addr) (pm ctv:Value) (H':Hp) (s':Shared),Kt ls H H'→H' c=some (codeO c (X.env.qual ++ "<lambda>"))→Inv X (pins++[(fa,kla_obj "<lambda>" (X.env.qual ++ "<lambda>") params body scope cl pm c ctv)]) σ H' s'→Q (.ref fa) s') :
    wpAny (model X.prog X.w) X.A (eval (.Lambda params body scope lp) X.env) Q E s:=by
  refine kla_eval hdef ?_
  have hgs:s.heap.Ns mainGlobals X.mg:=I.mod.glob.keeps I.bk
  have C:=CH.keeps I.bk
  have pinIt:∀ {fa c:Addr} {pm ctv:Value} {H':Hp} {h':Heap} {tk:Nat},Inv X pins σ H' { s with heap:=h',toks:=tk }→fa=h'.objs.size →
      Inv X (pins++[(fa,kla_obj "<lambda>" (X.env.qual ++ "<lambda>") params body scope cl pm c ctv)]) σ H' { s with heap:=h'.push (kla_obj "<lambda>" (X.env.qual ++ "<lambda>") params body scope cl pm c ctv),toks:=tk }:=fun {fa c pm ctv H' h' tk} J e=>by
    subst e
    have J2:=J.kept (t':=tk) (h':=h'.push (kla_obj "<lambda>" (X.env.qual ++ "<lambda>") params body scope cl pm c ctv)) fun b o e=>Heap.get?_push_of_some _ e
    have f:=J.fpOk (Nat.le_refl _) (J.hok.fresh (Nat.le_refl _))
    refine J2.pins_of fun p hp=>?_
    rcases List.mem_append.mp hp with z | z
    · exact J2.pin p (List.mem_append_right _ z)
    · obtain rfl:=List.mem_singleton.mp z
      exact ⟨Heap.get?_push_size _ rfl,f.1,f.2.1,f.2.2.1,fun v z=>by cases z⟩
  obtain ⟨bm,ob,b1,b2,b3,b4,b5,b6⟩:=hb
  have hbs:s.heap.BuiltinsAt X.mg P:=⟨bm,ob,b1,b2,b3,b4,I.bk _ _ b5,b6⟩
  obtain ⟨ps,L,tok,Lc⟩:=LL _ li
  dsimp only at L Lc
  rcases Lc with Lno | ⟨c,Lc,Hc⟩
  · have hP:s.heap.get? P=some (tabObj ps):=I.hok P _ L
    have hgP:mainGlobals≠P:=fun q=>by
      obtain ⟨o,es,ep,e,hd,_⟩:=hgs
      rw [q,hP] at e;cases e;cases hd
    refine kla_makeFunction (mg:=X.mg) hcl I.ok.glob hgs hcode C hP tok Lno hgP hbs fun c ctv h' tk hx hge hlt hrec htb=>?_
    have hc0:H c=none:=I.hok.fresh hge
    have ncP:c≠P:=fun e=>by rw [e,L] at hc0;cases hc0
    have nP:∀ b,H b=none→b≠P:=fun b e z=>by rw [z,L] at e;cases e
    have htb':h'.get? P=some (tabObj (ps++#[rawInt lp.line,rawInt lp.col,.ref c])):=htb
    have hc1:∃ oc,h'.get? c=some oc:=by
      obtain ⟨_,oc,_,_,e,ho,_⟩:=id hrec
      cases e;exact ⟨oc,ho⟩
    have J:Inv X pins σ (upd (upd H P (.tbl (ps++#[rawInt lp.line,rawInt lp.col,.ref c]))) c (codeO c (X.env.qual ++ "<lambda>"))) { s with heap:=h',toks:=tk }:=by
      have at1:∀ b,b≠P→b≠c→upd (upd H P (.tbl (ps++#[rawInt lp.line,rawInt lp.col,.ref c]))) c (codeO c (X.env.qual ++ "<lambda>")) b=H b:=fun b h1 h2=>by rw [upd_ne h2,upd_ne h1]
      have atP:upd (upd H P (.tbl (ps++#[rawInt lp.line,rawInt lp.col,.ref c]))) c (codeO c (X.env.qual ++ "<lambda>")) P=some (.tbl (ps++#[rawInt lp.line,rawInt lp.col,.ref c])):=by rw [upd_ne (Ne.symm ncP),upd_same]
      have old:∀ b o,s.heap.get? b=some o→b≠c:=fun b o e z=>absurd (Heap.lt_size e) (by rw [z];exact Nat.not_lt.mpr hge)
      have trk:∀ b o,H b=some o→b≠c:=fun b o e=>ne_of_none e hc0
      refine I.step (g':=s.gens) (d':=s.drawn) (ch:=[]) (fun _ z=>nomatch z) (fun b o _ _ _ e n=>hx b o (nP b n) e) (fun b o _ _ _ e n=>⟨o.slots,hx b o (nP b n) e⟩) (fun b o _ e n=>by rw [at1 b (nP b n) (old b o e)];exact n) (fun b o _ e=>?_)
        (fun b xs e=>by rw [at1 b (fun z=>by rw [z,L] at e;cases e) (trk b _ e)];exact e) (fun b ob u e=>by rw [at1 b (fun z=>by rw [z,L] at e;cases e) (trk b _ e)];exact e) (fun b ps e=>?_) (fun m hm=>?_) (fun b u e=>?_) I.bare
      · by_cases z:b=P
        · exact ⟨_,by rw [z];exact htb'⟩
        · exact ⟨o,hx b o z e⟩
      · by_cases z:b=P
        · subst z
          rw [L] at e;cases e
          exact ⟨_,atP⟩
        · exact ⟨#[],by rw [at1 b z (trk b _ e),e];simp⟩
      · obtain ⟨o,es,ep,e,r⟩:=hm
        exact ⟨o,es,ep,hx _ o (nP _ I.free) e,r⟩
      · by_cases z1:b=c
        · subst z1
          rw [upd_same] at e;cases e
          refine ⟨hrec,hc1,fun h1 h2 p k=>?_⟩
          obtain ⟨c2,o2,vs2,t2,e2,g2,r2⟩:=p
          cases e2
          exact ⟨b,o2,vs2,t2,rfl,k _ g2,r2⟩
        · by_cases z2:b=P
          · subst z2
            rw [atP] at e;cases e
            exact htb'
          · rw [at1 b z2 z1] at e
            refine (I.hok b u e).stay (fun d v hd q=>hx d v ?_ q) (fun d q=>by rw [at1 d (fun z=>by rw [z,L] at q;cases q) (trk d _ q)];exact q) fun d xs q=>by rw [at1 d (fun z=>by rw [z,L] at q;cases q) (trk d _ q)];exact q
            rcases hd with z | z
            · rw [z];exact z2
            · exact fun y=>by rw [y,L] at z;cases z
    refine h h'.objs.size c _ ctv _ _ ⟨fun l hl=>?_,fun b o hb e=>?_,fun b e=>?_⟩ upd_same (pinIt J rfl)
    · obtain ⟨qs,q1,q2,q3⟩:=LL l hl
      by_cases z:l.1=P
      · rw [z] at q1 ⊢
        rw [L] at q1
        cases q1
        refine ⟨_,by rw [upd_ne (Ne.symm ncP),upd_same],by rw [Array.toList_append];exact TriplesOk_snoc _ _ _ _ q2,?_⟩
        rw [Array.toList_append]
        rcases lo _ li l hl with y | y
        · subst y
          exact .inr ⟨c,codeAmong_snoc _ tok Lno,upd_same⟩
        · show codeAmong l.2.1 (ps.toList++[rawInt lp.line,rawInt lp.col,.ref c])=none∨_
          have eo:=codeAmong_other (c:=.ref c) y ps.toList tok
          dsimp only at eo
          rcases q3 with q3 | ⟨d,q3,q4⟩
          · exact .inl (eo.trans q3)
          · exact .inr ⟨d,eo.trans q3,by rw [upd_ne (ne_of_none q4 hc0),upd_ne (fun y=>by rw [y,L] at q4;cases q4)];exact q4⟩
      · refine ⟨qs,by rw [upd_ne (ne_of_none q1 hc0),upd_ne z];exact q1,q2,?_⟩
        rcases q3 with q3 | ⟨d,q3,q4⟩
        · exact .inl q3
        · exact .inr ⟨d,q3,by rw [upd_ne (ne_of_none q4 hc0),upd_ne (fun y=>by rw [y,L] at q4;cases q4)];exact q4⟩
    · rw [upd_ne (ne_of_none e hc0),upd_ne (fun z=>by rw [z,L] at e;cases e;exact hb _ rfl)];exact e
    · by_cases z1:b=c
      · rw [z1];exact hc0
      · rw [upd_ne z1] at e
        by_cases z2:b=P
        · rw [z2,upd_same] at e;cases e
        · rw [upd_ne z2] at e;exact e
  · have hP:s.heap.get? P=some (tabObj ps):=I.hok P _ L
    refine kla_makeFunctionHit (mg:=X.mg) (cv:=.ref c) hcl I.ok.glob hgs hcode C hP tok Lc hbs fun ctv h' tk hk hsz=>?_
    exact h h'.objs.size c _ ctv H _ (Kt.refl LL) Hc (pinIt (I.kept (t':=tk) hk) rfl)
end
end L2
namespace L2
open PySem PySem.Spec PyProof.Rows PySem.W
section
variable {prog:Program} {w:World} {A:Around} {E:Value→Shared→Prop} {s:Shared}
theorem collect_rng {r:Addr} {lo hi:Int} {t u v:Tok} {n:Nat} {Q:List Value→Shared→Prop} (hh:A.handled=none) (hr:IsRange s.heap r lo hi 1 t u v) (hsmall:Builtin.Range.small lo hi 1=true) (hn:Builtin.Range.rangeSize lo hi 1=n) (hlen:n≤2 ^ 24)
    (h:∀ (h':Heap) (tk:Nat) (acc:Array Value),(∀ b o,s.heap.get? b=some o→h'.get? b=some o)→s.heap.objs.size≤h'.objs.size→ItemsOf (fun i v=>∃ t,v=.int (lo+i * 1) t) acc n→Q acc.toList { s with heap:=h',toks:=tk }) :
    wpAny (model prog w) A (collect (.ref r)) Q E s:=by
  unfold collect
  refine wpAny_bind (wpAny_runValue (codeAny_builtin F.entry_proto_collect ?_))
  rw [Around.under_plainId F.plain_proto_collect _]
  show wpAny _ A.in1 (newList [] >>= fun l=>again (.builtin "list.__iadd__" ⟨[l,.ref r],[]⟩)) _ _ s
  refine wpAny_bind (wpAny_newObj_type ?_)
  refine wpAny_pure ⟨plainId_quiet F.plain_list_iadd _,codeAny_builtin F.entry_list_iadd ?_⟩
  rw [Around.under_plainId F.plain_list_iadd _]
  show wpAny _ A.in1 (Builtin.List.listExtendWith (.ref s.heap.objs.size) (.ref r) (.ref s.heap.objs.size)) _ _ _
  have hS₁:(s.heap.push { cls:=.type "list", data:=.seq ([]:List Value).toArray }).get? s.heap.objs.size=some { cls:=.type "list", data:=.seq #[] 0 }:=Heap.get?_push_size _ rfl
  refine wpAny_mono (wpAny_extend_range (s:={ s with heap:=s.heap.push { cls:=.type "list", data:=.seq ([]:List Value).toArray } }) (R:=fun r' s'=>r'=.ok (.ret (.ref s.heap.objs.size))∧∃ h' tk acc' c',s'={ s with heap:=h',toks:=tk }∧(∀ b o,b≠s.heap.objs.size→(s.heap.push { cls:=.type "list", data:=.seq ([]:List Value).toArray }).get? b=some o→h'.get? b=some o) ∧
      h'.get? s.heap.objs.size=some { cls:=.type "list", dict:=none,data:=.seq acc' c',slots:=#[] }∧ItemsOf (fun i v=>∃ t,v=.int (lo+i * 1) t) acc' n)
    hh (Heap.get?_push_of_some _ hr) hsmall hn hlen s.heap.objs.size (.ref s.heap.objs.size) 0 hS₁ fun h' tk acc' c' kp hS' hacc=>⟨rfl,h',tk,acc',c',rfl,kp,hS',hacc⟩) (fun fin s' hf=>?_) (fun e s' hf=>?_)
  · have key:∀ {f:Flow} {s':Shared},((Except.ok f:Result)=.ok (.ret (.ref s.heap.objs.size))∧∃ h' tk acc' c',s'={ s with heap:=h',toks:=tk }∧(∀ b o,b≠s.heap.objs.size→(s.heap.push { cls:=.type "list", data:=.seq ([]:List Value).toArray }).get? b=some o→h'.get? b=some o) ∧
      h'.get? s.heap.objs.size=some { cls:=.type "list", dict:=none,data:=.seq acc' c',slots:=#[] }∧ItemsOf (fun i v=>∃ t,v=.int (lo+i * 1) t) acc' n)→f=.ret (.ref s.heap.objs.size)∧wpAny (model prog w) A (do
          let __do_lift ← load s.heap.objs.size
          match __do_lift.data with
            | .seq xs _=>pure xs.toList
            | _=>unsupported "internal:collect") Q E s':=fun {f s'} hz=>by
      obtain ⟨e1,h',tk,acc',c',rfl,kp,hS',hacc⟩:=hz
      refine ⟨by injection e1,?_⟩
      refine wpAny_bind (wpAny_load (s:={ s with heap:=h',toks:=tk }) hS' ?_)
      exact wpAny_pure (h h' tk acc' (fun b o e=>kp b o (Nat.ne_of_lt (Heap.lt_size e)) (Heap.get?_push_of_some _ e)) (Nat.le_of_lt (Heap.lt_size hS')) hacc)
    cases fin with
    | done f=>
      obtain ⟨rfl,hw⟩:=key hf
      exact hw
    | again c'=>
      refine ⟨hf.1,codeAny_mono hf.2 fun r' s'' hr'=>?_⟩
      cases r' with
      | error e=>exact absurd hr'.1 (by intro z;cases z)
      | ok f=>
        obtain ⟨rfl,hw⟩:=key hr'
        exact hw
  · exact absurd hf.1 (by intro z;cases z)
end
theorem vals_at:∀ {xs:List V} {us:List Value},xs.length=us.length→(∀ (i:Nat) (x:V) (u:Value),xs[i]?=some x→us[i]?=some u→RelV x u)→Vals xs us
  | [],[],_,_=>.nil
  | [],_ :: _,h,_=>by cases h
  | _ :: _,[],h,_=>by cases h
  | x :: xs,u :: us,h,k=>.cons (k 0 x u rfl rfl) (vals_at (by simpa using h) fun i y v a b=>k (i+1) y v (by simpa using a) (by simpa using b))
section
variable {X:Cx}
def tRng1 (ta:TA):TE:=fun σ H Q=>ta σ H fun vs H1=>∃ j:Int,vs=[.int j]∧∀ r,H1 r=none→Q (.ref r) (upd H1 r (.rng 0 j))
theorem pe_rng1 {a:Expr} {ta:TA} {p pos:Pos} (hg:Gl X "range") (hm:X.mg "range" = none) (ha:PA X [a] ta) (hs:starEach [a] X.env=[(false,eval a X.env)]:=by rfl):PE X (.Call (.Name "range" p) [a] [] pos) (tRng1 ta):=by
  intro pins s σ H Q I h
  refine Call_ (ld_blt I hg hm boot_range (PyProof.Rows.callWith_type1 (thn (ha pos pins s σ H _ I h) fun us s1 ⟨vs,H1,I1,r1,q1⟩=>?_) hs rfl))
  obtain ⟨j,e,q⟩:=q1
  subst e
  cases r1 with
  | cons r rr=>
    cases rr
    obtain ⟨t,rfl⟩:=r
    exact call_range_1 ⟨.ref s1.heap.objs.size,_,I1.laid (o:=.rng 0 j) (t':=s1.toks+1+1) (fun b o e=>Heap.get?_push_of_some _ e) (Nat.le_refl _) ⟨_,_,_,Heap.get?_push_size _ rfl⟩,rfl,q _ I1.fresh⟩
def tSortEnd (ls:List Lm) (ix:List Nat) (tb:TE) (σ:St) (Q:VK) (x:V) (H1:Hp):Prop:=∃ (r:Addr) (lo hi:Int) (K:Nat→List V) (sh:List Nat),x=.ref r∧H1 r=some (.rng lo hi)∧(-(2 ^ 62)≤lo∧lo < 2 ^ 62∧-(2 ^ 62)≤hi∧hi < 2 ^ 62)∧(hi - lo).toNat < 64 ∧
  Lams ls H1∧Keys (hi - lo).toNat K sh ∧
  (∀ (i:Nat) (H2:Hp),i < (hi - lo).toNat→Kt ls H1 H2→tb (lam0 (.int (lo+i)) ix σ) H2 fun k H3=>∃ a,k=.ref a∧H3 a=some (.tup (K i))∧Same H2 H3) ∧
  ∀ (p:List Nat) (l:Addr) (H2:Hp),p.Perm (List.range (hi - lo).toNat)→(∀ i j,i < j→j < (hi - lo).toNat→lexV (K (p.getD j 0)) (K (p.getD i 0))=false)→Kt ls H1 H2→H1 l=none→H2 l=some (.lst (p.map fun i:Nat=>V.int (lo+(i:Int))))→Q (.ref l) H2
def tSortLam (ls:List Lm) (ix:List Nat) (te tb:TE):TE:=fun σ H Q=>te σ H (tSortEnd ls ix tb σ Q)
theorem pe_sortLam {k:Nat} {P c0:Addr} {ls:List Lm} {x:Str} {ix:List Nat} {e:Expr} {params:Arguments} {body:Expr} {scope:Scope} {lp kpos p pos:Pos} {te tb:TE}
    (hr:Room k X.A) (hcalm:X.calm=true) (hg:Gl X "sorted") (hm:X.mg "sorted" = none) (he:PE X e te) (hcode:X.env.code=.ref c0) (CH:CodeHd X.base c0 P) (hb:X.base.BuiltinsAt X.mg P) (lk:LmOk ls) (li:(P,lp,X.env.qual ++ "<lambda>")∈ls) (S:CompScope X scope [x] ix)
    (ht:∀ (qual:Str) (cl:List (Str × Addr)) (fa:Addr) (cd:Value) (A1:Around) (s₃:Shared) (H₃:Hp) (pins:List (Addr × Obj)),PE (cxLam X scope [x] ix qual cl fa cd A1 s₃ H₃ pins) body tb)
    (hx:scope.names.lookup x=some .local:=by rfl) (hco:scope.isCoroutine=false:=by rfl) (hgen:scope.isGenerator=false:=by rfl) (hdef:defaultsOf params X.env=([],[]):=by rfl)
    (hbind:∀ (qual:Str) (cl:List (Str × Addr)) (pm:Value) (c:Addr) (ctv u:Value),bindArgs (kla_fn "<lambda>" qual params body scope cl pm (.ref c) ctv) ⟨[u],[]⟩=pure [(x,u)]:=by intros;rfl)
    (hs:starEach [e] X.env=[(false,eval e X.env)]:=by rfl) :
    PE X (.Call (.Name "sorted" p) [e] [⟨some "key", .Lambda params body scope lp,kpos⟩] pos) (tSortLam ls ix te tb):=by
  intro pins s σ H Q I h
  obtain ⟨cl,hcl,c1,c2⟩:=closure_ok (scope:=scope) (env:=X.env) fun y hy=>by
    rcases S.free _ hy rfl with z | z
    · exact I.ok.has y (.inl z)
    · exact I.ok.has y (.inr z)
  refine wpAny_Call_Name_kw (ld_blt I hg hm L2.bt_sorted ?_)
  refine callWith_kw (thn ((pa_cons he pa_nil hs) pos pins s σ H (fun xs H1=>match xs with | [x]=>tSortEnd ls ix tb σ Q x H1 | _=>False) I h) fun us s1 ⟨xs,H1,I1,r1,q1⟩=>?_) (by rw [hs];rfl) (by rw [hs];rfl)
  obtain ⟨x0,ex0,q1⟩:∃ x0,xs=[x0]∧tSortEnd ls ix tb σ Q x0 H1:=by
    cases xs with
    | nil=>exact False.elim q1
    | cons x0 rest=>
      cases rest with
      | nil=>exact ⟨x0,rfl,q1⟩
      | cons _ _=>exact False.elim q1
  subst ex0
  obtain ⟨r,lo,hi,K,sh,rfl,hrng,⟨l1,l2,l3,l4⟩,h64,L,kk,hbody,hend⟩:=q1
  obtain ⟨u,rfl,ru⟩:=vals1 r1
  cases (show u=Value.ref r from ru)
  show wpAny _ _ (evalAll [do let v ← eval (.Lambda params body scope lp) X.env;standAt pos;pure v]) _ _ s1
  refine wpAny_evalAll_cons (wpAny_bind (lam_make (P:=P) (c0:=c0) I1 hcl hcode CH hb lk li L hdef fun fa c pm ctv H2 s2 kt hc I2=>wpAny_bind (wpAny_standAt (wpAny_pure (wpAny_evalAll_nil ?_)))))
  show wpAny _ _ (call (.builtin "sorted") [.ref r] [(Str.ofString "key", .ref fa)]) _ _ s2
  obtain ⟨t,t',t'',hr2⟩:=I2.hok r _ (kt.keep r _ (fun ps z=>by cases z) hrng)
  have hA:X.A.handled=none:=I.ok.hd hcalm
  have en:Builtin.Range.rangeSize lo hi 1=(((hi - lo).toNat:Nat):Int):=by rw [rangeSize_one];split <;> omega
  refine call_function_entry_kw kind_sorted plain_sorted entry_sorted (ksk_s1 _ _) ?_
  unfold Builtin.«sorted»
  refine wpAny_bind (m:=checkCount "sorted" 1 1 _) (wpAny_pure ?_)
  refine wpAny_bind (collect_rng (A:=X.A.in1) hA hr2 (small_one l1 l2 l3 l4) en (by omega) fun h3 tk acc kp3 sz3 hacc=>?_)
  have la:acc.toList.length=(hi - lo).toNat:=by rw [Array.length_toList];exact hacc.1
  refine wpAny_bind (wpAny_newList ?_ (by rw [la,sizeLine_eq];omega))
  have I3:=I2.kept (t':=tk) kp3
  have vals:Vals ((List.range (hi - lo).toNat).map fun i:Nat=>V.int (lo+(i:Int))) acc.toList:=by
    refine (vals_at ?_ ?_)
    · rw [List.length_map,List.length_range,la]
    · intro i x u hx' hu
      rw [List.getElem?_map] at hx'
      cases e1:(List.range (hi - lo).toNat)[i]? with
      | none=>rw [e1] at hx';cases hx'
      | some j=>
        rw [e1] at hx'
        have ej:j=i:=by
          have:=List.getElem?_eq_some_iff.mp e1
          obtain ⟨a,b⟩:=this
          rw [List.getElem_range] at b;exact b.symm
        subst ej
        cases hx'
        obtain ⟨tt,e2⟩:=hacc.2 j u (by rw [← Array.getElem?_toList];exact hu)
        rw [Int.mul_one] at e2
        exact ⟨tt,e2⟩
  generalize hg3:(h3.push { cls:=.type "list", data:=.seq acc.toList.toArray }:Heap)=g
  have hDg:g.get? h3.objs.size=some (seqObj "list" acc.toList.toArray 0):=by rw [← hg3];exact Heap.get?_push_size _ rfl
  have I4:Inv X (pins++[(fa,kla_obj "<lambda>" (X.env.qual ++ "<lambda>") params body scope cl pm c ctv)]) σ H2 { s2 with heap:=g,toks:=tk }:=I3.kept (t':=tk) fun b o e=>by rw [← hg3];exact Heap.get?_push_of_some _ e
  have fD:FpOk X (pins++[(fa,kla_obj "<lambda>" (X.env.qual ++ "<lambda>") params body scope cl pm c ctv)]) H2 h3.objs.size:=I3.fpOk (Nat.le_refl _) (I3.hok.fresh (Nat.le_refl _))
  refine wpAny_bind (wpAny_holding (wpAny_call_entry_kw slot_list_sort ⟨_,hDg,rfl⟩ entry_list_sort ?body (ksk_l1 _ _)))
  case body=>
    show wpAny (model X.prog X.w) X.A.in1.in1 (Builtin.«list.sort» ⟨[.ref h3.objs.size],[(Str.ofString "key", .ref fa)]⟩) _ _ _
    rw [ksk_t1]
    refine key_sort (K:=K) (sh:=sh) I4 hDg fD vals (by rw [la];exact h64) (by rw [la];exact kk) (fun i v pins' H' s' hv hsub I' S'=>?_) fun p H' s' c' hp hr' S' hD' J=>⟨_,rfl,?_⟩
    · have hi':i < (hi - lo).toNat:=by rw [← la];exact (List.getElem?_eq_some_iff.mp hv).1
      obtain ⟨u',hu',rv⟩:=vals.get (i:=i) (x:=V.int (lo+(i:Int))) (by rw [List.getElem?_map,List.getElem?_range hi'];rfl)
      rw [hv] at hu'
      cases hu'
      have pf:=(I'.pin (fa,kla_obj "<lambda>" (X.env.qual ++ "<lambda>") params body scope cl pm c ctv) (List.mem_append_right _ (hsub _ (List.mem_append_right _ List.mem_cons_self)))).1
      have hcd:=(I'.hok c _ (S' _ _ hc)).1
      exact lam_call (te:=tb) S I' c1 c2 pf hcd I.ok.frames hA hr.depth (hbind _ _ _ _ _) hx hco hgen (fun s₃ H₃=>ht _ _ _ _ _ s₃ H₃ pins') rv (hbody i H' hi' (kt.same S'))
    · rw [la] at hp hr'
      have J2:Inv X pins σ _ s':=J.unpinned
      refine wpAny_pure ⟨_,rfl,⟨.ref h3.objs.size,_,J2,rfl,hend p.toList h3.objs.size _ hp (rise_list hr') ((kt.same S').same ((Same.refl H').new hD')) (kt.here _ fD.1) ?_⟩⟩
      rw [upd_same]
      congr 2
      refine List.map_congr_left fun i hi'=>?_
      have:i < (hi - lo).toNat:=List.mem_range.mp ((List.Perm.mem_iff hp).mp hi')
      rw [List.getD_eq_getElem?_getD,List.getElem?_map,List.getElem?_range this];rfl
end
end L2
namespace L2
open PySem PySem.Spec PyProof.Rows PySem.W
theorem noTabs_none {K:Frag} {h:Heap} {P:Addr} {ps:Array Value} (X:K.In h) (hK:noTabs K=true) (hP:h.get? P=some (tabObj ps)):K.lookup P=none:=by
  cases e:K.lookup P with
  | none=>rfl
  | some o=>
    have e1:=X P o e
    rw [hP] at e1
    cases e1
    have h2:=List.all_eq_true.mp hK (P,tabObj ps) (mem_of_lookupK e)
    exact absurd (show false=true from h2) Bool.false_ne_true
structure TabAt (base:Heap) (mg:Str→Option Value) (nm:Str) (T:Addr):Prop where
  fn:∃ a o fd c,mg nm=some (.ref a)∧base.get? a=some o∧o.data=.func fd∧fd.code=.ref c∧CodeHd base c T
  blt:base.BuiltinsAt mg T
inductive Two {α β:Type} (R:α→β→Prop):List α→List β→Prop
  | nil:Two R [] []
  | cons {a b xs ys}:R a b→Two R xs ys→Two R (a :: xs) (b :: ys)
theorem forall2_imp {α β:Type} {R S:α→β→Prop} (h:∀ a b,R a b→S a b):∀ {xs:List α} {ys:List β},Two R xs ys→Two S xs ys
  | [],[],_=>.nil
  | _ :: _,_ :: _,.cons a b=>.cons (h _ _ a) (forall2_imp h b)
theorem law_callT {P:Program} {w:World} {K:Frag} {mg mb:Str→Option Value} {CX:CXT} {k:Nat} {fa a:Addr} {Ts:List Addr} {nms:List Str} {fd:FuncData} {x:Str} {sp:Sp} {s₁:Shared} {vs:List Value} {ns:List Int}
    (KX:K.In s₁.heap) (hns:s₁.heap.Ns mainGlobals mg) (hb:s₁.heap.Ns builtinsNs mb) (hbb:∀ x:Str,x ≠ "__name__" → mb x=bootBuiltins x) (hlim:s₁.heap.NoLimit) (hg:s₁.gens=#[])
    (ha:s₁.heap.get? a=some { cls:=.type "list", data:=.seq vs.toArray }) (hi:IntsAre vs ns) (hl:ns.length≤sizeLine) (hr:Room k callerA)
    (hT:∀ T∈Ts,s₁.heap.get? T=some (tabObj #[])) (hTc:∀ T∈Ts,isCodeTable s₁.heap T) (hTA:Two (TabAt s₁.heap mg) nms Ts) (hnt:noTabs K=true)
    (F:∀ base:Heap,K.In base→base.Ns mainGlobals mg→Two (TabAt base mg) nms Ts→FnOk P w K mg base CX k fa fd [x] sp) (hbind:∀ (s:Shared) (u:Value),BindsTo s fd ⟨[u],[]⟩ [(x,u)])
    (hsp:∀ H:Hp,(∀ T∈Ts,H T=some (.tbl #[]))→SqL K H a (ns.map V.int)→sp [.ref a] H (fun v _=>v=.bl true) fun _ _ _=>False)
    (hCX:∀ H e s',CX [] H s₁ (fun _ _ _=>False) e s'→False) :
    codeAny (model P w) callerA (.call (.ref fa) ⟨[.ref a],[]⟩) (fun r s'=>r=.ok (.ret (.bool true))∧OldK s₁.heap s'.heap∧s'.os=s₁.os∧AllBare s'.gens) s₁:=by
  have rv:=vals_ints hi
  have lenV:=hi.length
  have aT:a ∉ Ts:=fun e=>by rw [hT a e] at ha;cases ha
  have core:∀ H:Hp,(∀ T∈Ts,H T=some (.tbl #[]))→SqL K H a (ns.map V.int)→HOk P w H s₁.heap→(∀ b,H b≠none→b=a∨b∈Ts)→(H a≠none→K.lookup a=none)→(∀ u,H a=some u→∃ xs,u=.frz { cls:=.type "list", data:=.seq vs.toArray } (.lst xs)) →
      codeAny (model P w) callerA (.call (.ref fa) ⟨[.ref a],[]⟩) (fun r s'=>r=.ok (.ret (.bool true))∧OldK s₁.heap s'.heap∧s'.os=s₁.os∧AllBare s'.gens) s₁:=by
    intro H hHT hS hok hA hK hF
    have base_of:∀ {b:Addr} {o:Obj},s₁.heap.get? b=some o→H b=none→(hidT s₁.heap H).get? b=some o:=fun e n=>hidT_get e n
    have free:∀ {b:Addr} {o:Obj},s₁.heap.get? b=some o→o.cls≠.type "list" → o.cls≠.none→H b=none:=fun {b o} e c1 c2=>by
      cases q:H b with
      | none=>rfl
      | some u=>
        rcases hA b (by rw [q];simp) with z | z
        · subst z;rw [ha] at e;cases e;exact absurd rfl c1
        · rw [hT b z] at e;cases e;exact absurd rfl c2
    have noA:∀ {b:Addr} {o:Obj} {es:Array DictEntry} {ep:Nat},s₁.heap.get? b=some o→o.data=.dict es ep→H b=none:=fun {b o es ep} e d=>by
      cases q:H b with
      | none=>rfl
      | some u=>
        rcases hA b (by rw [q];simp) with z | z
        · subst z;rw [ha] at e;cases e;cases d
        · rw [hT b z] at e;cases e;cases d
    have nsK:∀ {b:Addr} {m:Str→Option Value},s₁.heap.Ns b m→(hidT s₁.heap H).Ns b m:=fun {b m} ⟨o,es,ep,e,d,r⟩=>⟨o,es,ep,base_of e (noA e d),d,r⟩
    have hKb:K.In (hidT s₁.heap H):=fun b o e=>base_of (KX b o e) (by
      cases q:H b with
      | none=>rfl
      | some u=>
        rcases hA b (by rw [q];simp) with z | z
        · subst z;rw [hK (by rw [q];simp)] at e;cases e
        · rw [noTabs_none KX hnt (hT b z)] at e;cases e)
    have hM:Mod K mg (hidT s₁.heap H):=⟨hKb,nsK hns,⟨mb,nsK hb,hbb⟩,let ⟨mc,h1,h2⟩:=hlim;⟨mc,nsK h1,h2⟩⟩
    have hTb:Two (TabAt (hidT s₁.heap H) mg) nms Ts:=forall2_imp (fun nm T hTA=>by
      obtain ⟨⟨f,o,fd',c,e1,e2,e3,e4,o5,vs5,file,tf,flags,tg,inF,text,tt,f1,f2,r5⟩,bm,ob,b1,b2,b3,b4,b5,b6,b7⟩:=hTA
      refine ⟨⟨f,o,fd',c,e1,base_of e2 ?_,e3,e4,o5,vs5,file,tf,flags,tg,inF,text,tt,base_of f1 (free f1 (by rw [f2];intro z;exact absurd (Value.type.inj z) (by decide)) (by rw [f2];intro z;cases z)),f2,r5⟩,bm,ob,b1,b2,b3,b4,base_of b5 (free b5 (by rw [b6];intro z;exact absurd (Value.type.inj z) (by decide)) (by rw [b6];intro z;cases z)),b6,b7⟩
      cases q:H f with
      | none=>rfl
      | some u=>
        rcases hA f (by rw [q];simp) with z | z
        · subst z;rw [ha] at e2;cases e2;cases e3
        · rw [hT f z] at e2;cases e2;cases e3) hTA
    have e0:Env0 P w K mg (hidT s₁.heap H) callerA [] s₁ H:=⟨rfl,hM,fun b o e=>of_hidT e,Nat.le_of_eq (hidT_size _ _),trivial,fun b hb=>absurd (show b∈([]:List Addr) from hb) (by simp),hok,.of_eq hg⟩
    refine codeAny_mono ((F _ hKb (nsK hns) hTb).run callerA [] s₁ H ⟨[.ref a],[]⟩ [.ref a] [.ref a] _ _ hr e0 (hbind s₁ (.ref a)) (.cons rfl .nil) (hsp H hHT hS)) fun r s' h=>?_
    cases r with
    | error e=>exact (hCX H e s' h).elim
    | ok fl=>
      cases fl with
      | next=>exact False.elim h
      | brk=>exact False.elim h
      | cont=>exact False.elim h
      | ret u=>
        obtain ⟨v,H',os,bare,un,hok',r',q⟩:=h
        have q':v=.bl true:=q
        subst q'
        obtain rfl:u=Value.bool true:=r'
        have kept:∀ b o,b ∉ Ts→s₁.heap.get? b=some o→s'.heap.get? b=some o:=fun b o hbT e=>by
          cases q:H b with
          | none=>exact un.keep b o e q (by intro z;exact absurd (show b∈([]:List Addr) from z) (by simp)) (by simp)
          | some u=>
            rcases hA b (by rw [q];simp) with z | z
            · subst z
              obtain ⟨xs,z⟩:=hF u q
              subst z
              obtain ⟨e2,_⟩:=hok' b _ (un.frzs b _ _ q)
              rw [ha] at e;cases e
              exact e2
            · exact absurd z hbT
        have hT':∀ T∈Ts,∃ more,s'.heap.get? T=some (tabObj (#[]++more)):=fun T hTm=>by
          obtain ⟨more,eT⟩:=un.tbls T _ (hHT T hTm)
          exact ⟨more,hok' T _ eT⟩
        refine ⟨rfl,⟨fun b o e=>?_,fun b o e=>?_⟩,os,bare⟩
        · by_cases z:b∈Ts
          · rw [hT b z] at e;cases e
            obtain ⟨more,hT''⟩:=hT' b z
            exact .inr (.inl ⟨hTc b z,rfl,#[],more,rfl,hT''⟩)
          · exact .inl (kept b o z e)
        · by_cases z:b∈Ts
          · obtain ⟨more,hT''⟩:=hT' b z
            exact ⟨_,hT''⟩
          · exact ⟨o,kept b o z e⟩
  cases hk:K.lookup a with
  | some o=>
    have e:=KX a o hk
    rw [ha] at e
    cases e
    refine core (fun b=>if b∈Ts then some (.tbl #[]) else none) (fun T hTm=>if_pos hTm) (.inr ⟨_,vs.toArray,_,hk,rfl,rfl,rfl,by rw [List.size_toArray,lenV];exact hl,by simpa using rv⟩) (fun b u z=>?_) (fun b z=>?_) (fun z=>absurd (if_neg aT) z) (fun u z=>by rw [if_neg aT] at z;cases z)
    · dsimp only at z
      by_cases hb:b∈Ts
      · rw [if_pos hb] at z;cases z;exact hT b hb
      · rw [if_neg hb] at z;cases z
    · by_cases hb:b∈Ts
      · exact .inr hb
      · exact absurd (if_neg hb) z
  | none=>
    refine core (fun b=>if b∈Ts then some (.tbl #[]) else if b=a then some (.frz { cls:=.type "list", data:=.seq vs.toArray } (.lst (ns.map V.int))) else none) (fun T hTm=>if_pos hTm)
      (.inl (.inr ⟨{ cls:=.type "list", data:=.seq vs.toArray },by show (if a∈Ts then _ else _)=_;rw [if_neg aT,if_pos rfl]⟩)) (fun b u z=>?_) (fun b z=>?_) (fun _=>hk) (fun u z=>?_)
    · dsimp only at z
      by_cases hb:b∈Ts
      · rw [if_pos hb] at z;cases z;exact hT b hb
      · rw [if_neg hb] at z
        by_cases hb2:b=a
        · rw [if_pos hb2] at z;cases z;subst hb2
          exact ⟨ha,by rw [List.length_map];exact hl,vs,_,rv,ha⟩
        · rw [if_neg hb2] at z;cases z
    · by_cases hb:b∈Ts
      · exact .inr hb
      · by_cases hb2:b=a
        · exact .inl hb2
        · exact absurd (show (if b∈Ts then _ else if b=a then _ else none)=none by rw [if_neg hb,if_neg hb2]) z
    · have z':(if a∈Ts then some (HO.tbl #[]) else if a=a then some (.frz { cls:=.type "list", data:=.seq vs.toArray } (.lst (ns.map V.int))) else none)=some u:=z
      rw [if_neg aT,if_pos rfl] at z'
      cases z'
      exact ⟨_,rfl⟩
theorem walk_ofT {l:PySem.W.OpenLaw} {n k:Nat} {q:Program} {loose:List Str} {XP:(Str→Option Value)→Heap→Prop} {YP:World→Heap→Prop} {d:DefRec} {dns:List DefRec} {K:Params→PySem.W.Frag} {CX:CXT} {sp:List Addr→PySem.W.Frag→Sp} {x:Str} {nms:List Str}
    (hn:l.most=some n) (hn2:n≤sizeLine) (hdf:d.params.defaults=[]) (hr:Room k callerA)
    (hY:∀ (w:World) (h:Heap),YP w h→(K w.params).In h) (hfind:Two (fun nm dn=>(recsOf q).find? (fun e=>e.name == nm)=some dn) nms dns) (hnt:∀ w:World,noTabs (K w.params)=true)
    (F:∀ (w:World) (mg:Str→Option Value) (fa:Addr) (h:Heap),(K w.params).In h→h.Ns mainGlobals mg→mg d.name=some (.ref fa) →
      ∃ fd:FuncData,(∀ (s:Shared) (u:Value),BindsTo s fd ⟨[u],[]⟩ [(x,u)]) ∧
        ∀ (Ts:List Addr) (base:Heap),(K w.params).In base→base.Ns mainGlobals mg→Two (TabAt base mg) nms Ts→FnOk l.prog w (K w.params) mg base CX k fa fd [x] (sp Ts (K w.params)))
    (hsp:∀ (K:PySem.W.Frag) (Ts:List Addr) (H:Hp) (a:Addr) (ns:List Int),ns.length≤n→Ts.length=nms.length→(∀ T∈Ts,H T=some (.tbl #[]))→SqL K H a (ns.map V.int)→sp Ts K [.ref a] H (fun v _=>v=.bl true) fun _ _ _=>False)
    (hCX:∀ (H:Hp) (s:Shared) (e:Value) (s':Shared),CX [] H s (fun _ _ _=>False) e s'→False) :
    PySem.W.WalkO q loose XP YP l.row.toRowW d [] (fun f vs=>PySem.call f vs):=by
  refine Att.attach_call hn hdf fun w s₀ s₁ mg mb fa o pm cd doc a vs ns G Y ho hd hcd hmg hobj hints hlen hg=>?_
  have KX:=hY w _ Y
  obtain ⟨fd,hb,hF⟩:=F w mg fa _ KX G.T.g hmg
  have all:∀ {nms:List Str} {dns:List DefRec},Two (fun nm dn=>(recsOf q).find? (fun e=>e.name == nm)=some dn) nms dns→∃ Ts:List Addr,Two (TabAt s₁.heap mg) nms Ts∧Ts.length=nms.length∧(∀ T∈Ts,s₁.heap.get? T=some (tabObj #[]))∧∀ T∈Ts,isCodeTable s₁.heap T:=by
    intro nms dns hf
    induction hf with
    | nil=>exact ⟨[],.nil,rfl,fun T h=>(by simp at h),fun T h=>(by simp at h)⟩
    | @cons nm dn _ _ hfind _ ih=>
      obtain ⟨Ts,i1,i2,i3,i4⟩:=ih
      have en:dn.name=nm:=beq_iff_eq.mp (List.find?_some (p:=fun e:DefRec=>e.name == nm) hfind)
      obtain ⟨f,o',fd',c,T,t1,t2,t3,t4,t5,t6⟩:=G.T.tab dn (List.mem_of_find?_eq_some hfind)
      rw [en] at t1
      obtain ⟨bm,ob,b1,b2,b3,b4,b5,b6⟩:=G.T.bmain
      have hbP:bm≠T:=fun q=>by
        have e:=b3
        rw [q,t6.2] at e;cases e;cases b4
      have hbG:bm≠mainGlobals:=fun q=>by
        obtain ⟨o,es,ep,e,hd,_⟩:=G.T.g
        rw [q,e] at b3;cases b3;rw [hd] at b6;cases b6
      refine ⟨T :: Ts,.cons ⟨⟨f,o',fd',c,t1,t2,t3,t4,CodeHd.of t5 t6⟩,bm,ob,b1,b2,hbG,hbP,b3,b4,b5,b6⟩ i1,by simp [i2],fun T' h=>?_,fun T' h=>?_⟩
      · rcases List.mem_cons.mp h with z | z
        · rw [z];exact t6.2
        · exact i3 T' z
      · rcases List.mem_cons.mp h with z | z
        · rw [z];exact t6.isCodeTable
        · exact i4 T' z
  obtain ⟨Ts,i1,i2,i3,i4⟩:=all hfind
  exact law_callT (nms:=nms) (Ts:=Ts) KX G.T.g G.T.b G.T.builtins G.T.nolimit hg hobj hints (Nat.le_trans hlen hn2) hr i3 i4 i1 (hnt w)
    (fun base h1 h2 h3=>hF Ts base h1 h2 h3) hb (fun H hH hS=>hsp (K w.params) Ts H a ns hlen i2 hH hS) fun H e s'=>hCX H s₁ e s'
end L2
namespace L2
open PySem PySem.Spec PyProof.Rows PySem.W
theorem Df.hasT {P:Program} {w:World} {K:PySem.W.Frag} {mg:Str→Option Value} {base:Heap} {T:Addr} {x:Str} {st:Stmt} {N ps:List Str} {k:Nat} {sp:Sp} (D:Df K mg x st) (kb:K.In base) (TA:TabAt base mg x T) (S:FnScope N ps (defScope st))
    (hb:∀ (kV doc pm:Value) (an:Option Addr) (cdv ct:Value) (us:List Value),us.length=ps.length→bindArgs (PySem.W.fnOf x x (defArgs st) (defBody st) (defScope st) .none kV doc pm an cdv ct) ⟨us,[]⟩=pure (ps.zip us))
    (len:∀ vs H Q E,sp vs H Q E→vs.length=ps.length)
    (hbody:∀ (f c:Addr) (A:Around) (outer:List Env) (s:Shared) (H:Hp) (vs:List V) (Q:VK) (E:XK),CodeHd base c T→Room k (A.deeper (envOfC x (defScope st) s.heap.objs.size f (.ref c)))→sp vs H Q E →
      ∃ t,PSs (cxOf CX0 P w K mg base N x (defScope st) f (.ref c) A outer s H E).nox (defBody st) t∧t { nx:=fun _ H'=>Q .non H',rt:=Q } (start N vs) H):Has P w K mg base x (k+1) ps sp:=by
  obtain ⟨f,fd,F,m⟩:=D
  have bd:=F.binds hb
  have kp:=F.kp
  obtain ⟨oc,od,kV,doc,pm,an,cdv,ct,osl,e,lk,hcd⟩:=F.ex
  obtain ⟨a,o,fd',c,t1,t2,t3,t4,t5⟩:=TA.fn
  have ea:=m.symm.trans t1
  cases ea
  have eo:=kb f _ lk
  rw [t2] at eo
  cases eo
  cases t3
  subst e
  have ec:cdv=.ref c:=t4
  subst ec
  refine ⟨f,_,fn_of lk hcd S len fun A outer s H vs Q E hr hsp=>?_,bd,kp,m⟩
  obtain ⟨t,h,q⟩:=hbody f c A outer s H vs Q E t5 hr hsp
  exact ⟨t,h.nox,q⟩
theorem ix_listK {X:Cx} (K:PySem.W.Frag) (hK:X.K=K:=by rfl):IxR X (rIxL K):=by
  subst hK;exact ix_list
theorem rise_one {n:Nat} {K:Nat→List V} {sh:List Nat} (k:Keys n K sh) {p q:List Nat} (hp:p.Perm (List.range n)) (hq:q.Perm (List.range n)) (rp:∀ i j,i < j→j < n→lexV (K (p.getD j 0)) (K (p.getD i 0))=false)
    (rq:∀ i j,i < j→j < n→lexV (K (q.getD j 0)) (K (q.getD i 0))=false):p=q:=by
  have pw:∀ {r:List Nat},r.Perm (List.range n)→(∀ i j,i < j→j < n→lexV (K (r.getD j 0)) (K (r.getD i 0))=false)→r.Pairwise (fun a b=>lexV (K b) (K a)=false):=fun {r} hr h=>by
    have ln:r.length=n:=by have:=hr.length_eq;simpa using this
    rw [List.pairwise_iff_getElem]
    intro i j hi hj hij
    have:=h i j hij (by omega)
    rw [List.getD_eq_getElem?_getD,List.getD_eq_getElem?_getD,List.getElem?_eq_getElem hi,List.getElem?_eq_getElem hj] at this
    exact this
  refine (hp.trans hq.symm).eq_of_pairwise (fun a b ha hb h1 h2=>?_) (pw hp rp) (pw hq rq)
  exact k.inj a b (List.mem_range.mp (hp.mem_iff.mp ha)) (List.mem_range.mp (hq.mem_iff.mp hb)) (lexV_tot _ _ ((k.shp a).trans (k.shp b).symm) (by rw [k.shp];exact k.z) h2 h1)
end L2
namespace L2
open PySem PySem.Spec PyProof.Rows PySem.W
theorem ints_showable {ns:List Int} (h:∀ n∈ns,n.natAbs < 10 ^ 12):PyData.showable (.list (ns.map .int))=true:=by
  simp only [PyData.showable]
  refine PyData.showableAll_ints ns fun n hn=>?_
  rcases Nat.eq_zero_or_pos n.natAbs with z | z
  · rw [z];decide
  · exact (Nat.log2_lt (by omega)).mpr (Nat.lt_of_lt_of_le (Nat.lt_trans (h n hn) (show 10 ^ 12 < 2 ^ 40 by decide)) (Nat.pow_le_pow_right (by decide) (by decide)))
section
variable {X:Cx} {k:Nat}
end
end L2
namespace L2
open PySem PySem.Spec PyProof.Rows PySem.W
end L2
namespace L2
open PySem PySem.Spec PyProof.Rows PySem.W
theorem weight_ints:∀ ns:List Int,(∀ n∈ns,n.natAbs < 10 ^ 12)→PyData.weightAll (ns.map .int)≤42 * ns.length
  | [],_=>by simp [PyData.weightAll]
  | n :: r,h=>by
    have a:=weight_ints r fun m hm=>h m (List.mem_cons_of_mem _ hm)
    have b:PyData.weight (.int n)≤41:=by
      simp only [PyData.weight]
      split
      · omega
      · rename_i z
        have nz:n.natAbs≠0:=fun e=>z (by rw [Int.natAbs_eq_zero.mp e];rfl)
        have:=(Nat.log2_lt nz (k:=40)).mpr (Nat.lt_trans (h n List.mem_cons_self) (by decide))
        omega
    simp only [List.map_cons,PyData.weightAll,List.length_cons]
    omega
section
variable {X:Cx} {k:Nat}
end
end L2
namespace L2
open PySem PySem.Spec PyProof.Rows PySem.W
def revS (z:Str):Str:=⟨z.cps.toList.reverse.toArray⟩
section
variable {X:Cx} {e st:Expr} {te:TE} {ts:TO} {pos p2:Pos}
end
section
variable {X:Cx} {k:Nat}
end
section
variable {X:Cx} {k:Nat}
end
end L2
namespace L2
open PySem PySem.Spec PyProof.Rows PySem.W
def keyOf (e:Int × Value):Str:=match e.2 with | .str x _=>x | _=>Str.empty
structure SetS (w:World) (led:Bool) (es:Array (Int × Value)) (t:SetTable) (S:List Str):Prop where
  ent:∀ e∈es.toList,∃ x tk,e=(hashStr w x,Value.str x tk)
  nd:(es.toList.map keyOf).Nodup
  mem:∀ x,x∈es.toList.map keyOf ↔ x∈S
  fit:t.fits es.size=true
  led:t.led=led
  pl:es.size=0∨t.plain=false
theorem keyOf_perm {a b:List (Int × Value)} (p:a.Perm b):(a.map keyOf).Perm (b.map keyOf):=p.map _
theorem SetS.grow {w:World} {led:Bool} {es es':Array (Int × Value)} {t t':SetTable} {S:List Str} {x:Str} {tk:Tok} (h:SetS w led es t S) (nx:x ∉ S) (p:es'.toList.Perm (es.push (hashStr w x,.str x tk)).toList) (f:t'.fits es'.size=true) (l:t'.led=led) (q:t'.plain=false):SetS w led es' t' (S++[x]) where
  ent:=fun e he=>by
    have:=p.mem_iff.mp he
    rw [Array.toList_push] at this
    rcases List.mem_append.mp this with z | z
    · exact h.ent e z
    · exact ⟨x,tk,List.mem_singleton.mp z⟩
  nd:=by
    rw [(keyOf_perm p).nodup_iff,Array.toList_push,List.map_append,List.nodup_append]
    refine ⟨h.nd,by simp,fun a ha b hb=>?_⟩
    have hb':b=x:=by simpa [keyOf] using hb
    subst hb'
    exact fun e=>nx (by rw [← e];exact (h.mem a).mp ha)
  mem:=fun y=>by
    rw [(keyOf_perm p).mem_iff,Array.toList_push,List.map_append,List.mem_append,List.mem_append,h.mem y]
    simp [keyOf]
  fit:=f
  led:=l
  pl:=.inr q
structure SetA (w:World) (led:Bool) (h:Heap) (a:Addr) (S:List Str) (n:Nat):Prop where
  ex:∃ es ep t,h.get? a=some { cls:=.type "set", data:=.set es ep t }∧SetS w led es t S∧es.size≤n
section
variable {prog:Program} {w:World} {A:Around} {E:Value→Shared→Prop} {s:Shared}
end
end L2
namespace L2
open PySem PySem.Spec PyProof.Rows PySem.W
section
variable {prog:Program} {w:World} {A:Around} {E:Value→Shared→Prop} {s:Shared}
theorem SetA.keeps {led:Bool} {h h':Heap} {a:Addr} {S:List Str} {n:Nat} (x:SetA w led h a S n) (k:∀ o,h.get? a=some o→h'.get? a=some o):SetA w led h' a S n:=by
  obtain ⟨es,ep,t,e,r⟩:=x
  exact ⟨es,ep,t,k _ e,r⟩
theorem SetA.start {h:Heap} {a:Addr} {led:Bool} (e:h.get? a=some { cls:=.type "set", data:=.set #[] 0 (SetTable.fresh 0 0 led) }):SetA w led h a [] 0:=
  ⟨#[],0,_,e,⟨fun x hx=>by simp at hx,by simp,fun x=>by simp,by rfl,rfl,.inl rfl⟩,Nat.le_refl _⟩
theorem SetA.typeIs {led:Bool} {a:Addr} {S:List Str} {n:Nat} (x:SetA w led s.heap a S n):s.TypeIs (.ref a) "set" := by
  obtain ⟨es,ep,t,e,r⟩:=x
  exact ⟨_,e,rfl⟩
end
end L2
namespace L2
open PySem PySem.Spec PyProof.Rows PySem.W
section
variable {prog:Program} {w:World} {A:Around} {E:Value→Shared→Prop} {s:Shared}
end
end L2
namespace L2
open PySem PySem.Spec PyProof.Rows PySem.W
section
variable {prog:Program} {w:World} {A:Around} {E:Value→Shared→Prop}
variable {s:Shared}
end
end L2
namespace L2
open PySem PySem.Spec PyProof.Rows PySem.W
section
variable {prog:Program} {w:World} {A:Around}
end
end L2
namespace L2
open PySem PySem.Spec PyProof.Rows PySem.W
section
variable {prog:Program} {w:World} {A:Around} {E:Value→Shared→Prop} {s:Shared}
end
end L2
namespace L2
open PySem PySem.Spec PyProof.Rows PySem.W
section
variable {prog:Program} {w:World} {A:Around} {E:Value→Shared→Prop} {s:Shared}
end
end L2
namespace L2
open PySem PySem.Spec PyProof.Rows PySem.W
theorem Inv.drawn {X:Cx} {pins:List (Addr × Obj)} {σ:St} {H:Hp} {s:Shared} (I:Inv X pins σ H s) (d:Drawn):Inv X pins σ H { s with drawn:=d }:=
  ⟨I.ok,I.os,I.bare,I.base,I.loc,I.cell,I.free,I.freeC,I.pin,I.hok,I.len⟩
section
variable {X:Cx} {a:Expr} {ta:TA} {p p2 pos pos2:Pos}
end
end L2
namespace L2
open PySem PySem.Spec PyProof.Rows
section
variable {κ:Type} [DecidableEq κ]
def valV (kvs:List (κ × V)) (k:κ):Option V:=(kvs.find? fun kv=>decide (kv.1=k)).map (·.2)
def putK (kvs:List (κ × V)) (k:κ) (v:V):List (κ × V):=
  if (kvs.any fun kv=>decide (kv.1=k))=true then kvs.map (fun kv=>if kv.1=k then (kv.1,v) else kv) else kvs++[(k,v)]
def dropK (kvs:List (κ × V)) (k:κ):List (κ × V):=kvs.filter fun kv=>decide (kv.1≠k)
theorem valV_pos {p:κ × V} {r:List (κ × V)} {k:κ} (e:p.1=k):valV (p :: r) k=some p.2:=by simp [valV,List.find?_cons,e]
theorem valV_neg {p:κ × V} {r:List (κ × V)} {k:κ} (e:¬ p.1=k):valV (p :: r) k=valV r k:=by simp [valV,List.find?_cons,e]
theorem valV_any (k:κ):∀ kvs:List (κ × V),(kvs.any fun kv=>decide (kv.1=k))=(valV kvs k).isSome
  | []=>rfl
  | p :: r=>by
    rw [List.any_cons]
    by_cases e:p.1=k
    · simp only [valV_pos e,decide_eq_true e,Bool.true_or,Option.isSome_some]
    · rw [valV_neg e,decide_eq_false e,Bool.false_or];exact valV_any k r
theorem RelO.getD {o:Option V} {u:Option Value} {d:V} {d':Value} (r:RelO o u) (rd:RelV d d'):RelV (o.getD d) (u.getD d'):=by
  cases o with
  | none=>cases u with
    | none=>exact rd
    | some _=>exact (show False from r).elim
  | some _=>cases u with
    | none=>exact (show False from r).elim
    | some _=>exact r
theorem KV.val {kvs:List (κ × V)} {vs:List (κ × Value)} (r:KV kvs vs) (k:κ):RelO (valV kvs k) (valueAt vs k):=by
  unfold KV at r
  induction r with
  | nil=>exact True.intro
  | @cons p q ps qs h t ih=>
    obtain ⟨h1,h2⟩:=h
    by_cases e:p.1=k
    · have e':q.1=k:=h1.symm.trans e
      have b:valueAt (q :: qs) k=some q.2:=by simp [valueAt,List.find?_cons,e']
      rw [valV_pos e,b];exact h2
    · have e':¬ q.1=k:=fun z=>e (h1.trans z)
      have b:valueAt (q :: qs) k=valueAt qs k:=by simp [valueAt,List.find?_cons,e']
      rw [valV_neg e,b];exact ih
theorem KV.any {kvs:List (κ × V)} {vs:List (κ × Value)} (r:KV kvs vs) (k:κ):(kvs.any fun kv=>decide (kv.1=k))=vs.any fun kv=>decide (kv.1=k):=by
  unfold KV at r
  induction r with
  | nil=>rfl
  | cons h t ih=>rw [List.any_cons,List.any_cons,ih,h.1]
theorem KV.drop {kvs:List (κ × V)} {vs:List (κ × Value)} (r:KV kvs vs) (k:κ):KV (dropK kvs k) (without vs k):=by
  unfold KV at r ⊢
  unfold dropK without
  induction r with
  | nil=>exact .nil
  | @cons p q ps qs h t ih=>
    obtain ⟨h1,h2⟩:=h
    rw [List.filter_cons,List.filter_cons]
    by_cases e:p.1=k
    · have a:¬ decide (p.1≠k)=true:=by simp [e]
      have b:¬ decide (q.1≠k)=true:=by simp [h1.symm.trans e]
      rw [if_neg a,if_neg b];exact ih
    · have e':¬ q.1=k:=fun z=>e (h1.trans z)
      have a:decide (p.1≠k)=true:=by simp [e]
      have b:decide (q.1≠k)=true:=by simp [e']
      rw [if_pos a,if_pos b];exact .cons ⟨h1,h2⟩ ih
theorem KV.keys {kvs:List (κ × V)} {vs:List (κ × Value)} (r:KV kvs vs):kvs.map (·.1)=vs.map (·.1):=by
  unfold KV at r
  induction r with
  | nil=>rfl
  | cons h t ih=>rw [List.map_cons,List.map_cons,ih,h.1]
theorem KV.length {kvs:List (κ × V)} {vs:List (κ × Value)} (r:KV kvs vs):kvs.length=vs.length:=Paired.length r
end
abbrev KT (H:Hp):List (List Key × V)→List (List Key × Addr × Value)→Prop:=Paired fun p q=>p.1=q.1∧H q.2.1=some (.tup (p.1.map kV))∧RelV p.2 q.2.2
theorem KT.val {H:Hp} {kvs:List (List Key × V)} {xs:List (List Key × Addr × Value)} (r:KT H kvs xs) (k:List Key):RelO (valV kvs k) ((atKey xs k).map (·.2)):=by
  induction r with
  | nil=>exact True.intro
  | @cons p q ps qs h t ih=>
    obtain ⟨h1,_,h2⟩:=h
    by_cases e:p.1=k
    · have e':q.1=k:=h1.symm.trans e
      have b:atKey (q :: qs) k=some q.2:=by simp [atKey,List.find?_cons,e']
      rw [valV_pos e,b];exact h2
    · have e':¬ q.1=k:=fun z=>e (h1.trans z)
      have b:atKey (q :: qs) k=atKey qs k:=by simp [atKey,List.find?_cons,e']
      rw [valV_neg e,b];exact ih
theorem KT.keeps {H H':Hp} {kvs:List (List Key × V)} {xs:List (List Key × Addr × Value)} (r:KT H kvs xs) (ht:∀ b ys,H b=some (.tup ys)→H' b=some (.tup ys)):KT H' kvs xs:=
  Paired.mapP r fun _ _ z=>⟨z.1,ht _ _ z.2.1,z.2.2⟩
section
variable {P:Program} {w:World} {H:Hp} {h:Heap} {a:Addr}
end
def DGet (H:Hp) (a:Addr) (y:V) (r:Option V):Prop:=
  (∃ kvs k,Rd H a (.dK kvs)∧y=kV k∧r=valV kvs k)∨∃ kvs k b,Rd H a (.dT kvs)∧y=.ref b∧H b=some (.tup (k.map kV))∧r=valV kvs k
def DPut (H:Hp) (a:Addr) (y v:V) (H':Hp):Prop:=
  (∃ kvs k,H a=some (.dK kvs)∧y=kV k∧kvs.length < sizeLine∧H'=upd H a (.dK (putK kvs k v))) ∨
  ∃ kvs k b,H a=some (.dT kvs)∧y=.ref b∧H b=some (.tup (k.map kV))∧kvs.length < sizeLine∧H'=upd H a (.dT (putK kvs k v))
theorem DGet.k {H:Hp} {a:Addr} {kvs:List (Key × V)} {k:Key} (e:H a=some (.dK kvs)):DGet H a (kV k) (valV kvs k):=.inl ⟨kvs,k,.inl e,rfl,rfl⟩
theorem DGet.t {H:Hp} {a b:Addr} {kvs:List (List Key × V)} {k:List Key} (e:H a=some (.dT kvs)) (eb:H b=some (.tup (k.map kV))):DGet H a (.ref b) (valV kvs k):=.inr ⟨kvs,k,b,.inl e,rfl,eb,rfl⟩
theorem DPut.k {H:Hp} {a:Addr} {kvs:List (Key × V)} {k:Key} {v:V} (e:H a=some (.dK kvs)) (hl:kvs.length < sizeLine):DPut H a (kV k) v (upd H a (.dK (putK kvs k v))):=.inl ⟨kvs,k,e,rfl,hl,rfl⟩
theorem DPut.t {H:Hp} {a b:Addr} {kvs:List (List Key × V)} {k:List Key} {v:V} (e:H a=some (.dT kvs)) (eb:H b=some (.tup (k.map kV))) (hl:kvs.length < sizeLine) :
    DPut H a (.ref b) v (upd H a (.dT (putK kvs k v))):=.inr ⟨kvs,k,b,e,rfl,eb,hl,rfl⟩
section
variable {X:Cx} {pins:List (Addr × Obj)} {σ:St} {H:Hp} {s:Shared} {a:Addr} {y v:V} {u r:Value} {o:Option V} {A:Around} {E:Value→Shared→Prop}
theorem Inv.big (I:Inv X pins σ H s):sysModules < s.heap.objs.size:=by
  have h:mainGlobals < s.heap.objs.size:=(I.mod.glob.keeps I.bk).lt
  exact Nat.lt_trans (by decide) h
end
section
variable {X:Cx} {pins:List (Addr × Obj)} {σ:St} {H:Hp} {s:Shared} {a:Addr} {kvs:List (Key × V)} {k:Key} {u:Value} {A:Around} {E:Value→Shared→Prop}
end
section
variable {X:Cx} {o i e value:Expr} {pos pos' tpos:Pos} {td ty tv:TE}
end
theorem dk_empty {P:Program} {w:World} {H:Hp} (h:Heap) (hb:sysModules < h.objs.size):ObjOk P w H (h.push { cls:=.type "dict", data:=.dict #[] }) h.objs.size (.dK []):=
  ⟨Nat.zero_le _,beq_eq_false_iff_ne.mpr (Ne.symm (Nat.ne_of_lt hb)),[],.nil,Heap.DictOf.new h⟩
def tDNewK:TE:=fun _ H Q=>∀ p,H p=none→Q (.ref p) (upd H p (.dK []))
section
variable {X:Cx} {pos:Pos}
theorem pe_dnewK:PE X (.Dict [] [] pos) tDNewK:=fun pins s σ H Q I h=>
  wpAny_Dict_empty ⟨.ref s.heap.objs.size,_,I.laid (a:=s.heap.objs.size) (o:=.dK []) (t':=s.toks) (fun _ _ q=>Heap.get?_push_of_some _ q) (Nat.le_refl _) (dk_empty s.heap I.big),rfl,h _ (I.hok.fresh (Nat.le_refl _))⟩
end
structure M1 (X:Cx) (o:Expr) (m:Str) (apos:Pos) (e:Expr) (cpos:Pos):Prop where
  base:attributeBase o m X.env (eval o X.env)=eval o X.env
  few:((backTo cpos (starEach [e] X.env)).all (fun x=>!x.1) && (backToKw cpos (keywordEach [] X.env)).all (fun x=>x.1.isSome)
    && decide (([e]:List Expr).length+([]:List Keyword).length+(if ([]:List Keyword).isEmpty then 0 else 1) < 30))=true
  line:(apos.endLine == cpos.line)=true
  trees:backTo cpos (starEach [e] X.env)=[(false,eval e X.env)]
structure M2 (X:Cx) (o:Expr) (m:Str) (apos:Pos) (e f:Expr) (cpos:Pos):Prop where
  base:attributeBase o m X.env (eval o X.env)=eval o X.env
  few:((backTo cpos (starEach [e,f] X.env)).all (fun x=>!x.1) && (backToKw cpos (keywordEach [] X.env)).all (fun x=>x.1.isSome)
    && decide (([e,f]:List Expr).length+([]:List Keyword).length+(if ([]:List Keyword).isEmpty then 0 else 1) < 30))=true
  line:(apos.endLine == cpos.line)=true
  trees:backTo cpos (starEach [e,f] X.env)=[(false,eval e X.env),(false,eval f X.env)]
section
variable {X:Cx} {pins:List (Addr × Obj)} {σ:St} {H:Hp} {s:Shared} {a:Addr} {y d:V} {u r:Value} {o:Option V} {A:Around} {E:Value→Shared→Prop}
end
section
variable {X:Cx} {o e f:Expr} {apos cpos:Pos} {td ty tx:TE}
end
section
variable {X:Cx} {pins:List (Addr × Obj)} {σ:St} {H:Hp} {s:Shared} {a:Addr} {kvs:List (Key × V)} {A:Around} {E:Value→Shared→Prop}
end
section
variable {X:Cx} {pins:List (Addr × Obj)} {σ:St} {H:Hp} {s:Shared} {a:Addr} {y:V} {u:Value} {A:Around} {E:Value→Shared→Prop}
end
end L2
namespace L2
open PySem PySem.Spec PyProof.Rows PySem.W
end L2
namespace L2
open PySem PySem.Spec PyProof.Rows PySem.W
section
variable {prog:Program} {w:World} {A:Around} {E:Value→Shared→Prop}
def DPrs (h:Heap) (D:Addr) (items:Array Value) (ps:List (Key × Value)):Prop:=
  ps.length=items.size∧∀ (j:Nat) (k:Key) (v:Value),ps[j]?=some (k,v)→∃ (a:Addr) (ku:Value),items[j]?=some (Value.ref a)∧a≠D∧RelV (kV k) ku∧IsTup h a #[ku,v]
theorem DPrs.keeps {h h':Heap} {D I:Addr} {items:Array Value} {ps:List (Key × Value)} (p:DPrs h D items ps) (nI:∀ a:Addr,Value.ref a∈items→a≠I) (k:∀ b o,b≠I→b≠D→h.get? b=some o→h'.get? b=some o):DPrs h' D items ps:=by
  refine ⟨p.1,fun j kk v e=>?_⟩
  obtain ⟨a,ku,ha,hD,hk,o,e1,e2⟩:=p.2 j kk v e
  exact ⟨a,ku,ha,hD,hk,o,k a o (nI a (Array.mem_of_getElem? ha)) hD e1,e2⟩
end
end L2
namespace L2
open PySem PySem.Spec PyProof.Rows PySem.W
section
variable {prog:Program} {w:World} {A:Around} {E:Value→Shared→Prop} {s:Shared}
end
end L2
namespace L2
open PySem PySem.Spec PyProof.Rows PySem.W
section
variable {X:Cx}
end
end L2
namespace Tim
open PySem PyProof.Rows
abbrev setG (st:SortSt) (g:Nat):SortSt:=SortSt.mk' (kindOf st) (arrOf st) (pendingOf st) g (failedOf st)
end Tim
namespace Tim
open PySem PyProof.Rows
section
variable {prog:Program} {w:World} {A:Around} {E:Value→Shared→Prop} {s:Shared} {a₀:Array Keyed} {κ:SortKind} {O:KeyOrd} {key:Keyed→O.α}
def mrg (key:Keyed→O.α):List Keyed→List Keyed→List Keyed
  | [],ys=>ys
  | x :: xs,[]=>x :: xs
  | x :: xs,y :: ys=>if O.blt (key y) (key x)=true then y :: mrg key (x :: xs) ys else x :: mrg key xs (y :: ys)
termination_by xs ys=>xs.length+ys.length
abbrev Srt (key:Keyed→O.α) (l:List Keyed):Prop:=l.Pairwise fun x y=>O.blt (key y) (key x)=false
end
end Tim
namespace Tim
open PySem PyProof.Rows
section
variable {prog:Program} {w:World} {A:Around} {E:Value→Shared→Prop} {s:Shared} {a₀:Array Keyed} {κ:SortKind} {O:KeyOrd} {key:Keyed→O.α}
structure Two (key:Keyed→O.α) (a₀ a b:Array Keyed):Prop where
  ma:∀ x∈a,x∈a₀
  mb:∀ x∈b,x∈a₀
  na:1≤a.size
  nb:1≤b.size
  sa:Srt key a.toList
  sb:Srt key b.toList
  fst:∀ x∈a,∀ y,b[0]?=some y→O.blt (key y) (key x)=true
  lst:∀ y∈b,∀ x,a[a.size - 1]?=some x→O.blt (key y) (key x)=true
def LoI (key:Keyed→O.α) (a b o:Array Keyed) (p q:Nat):Prop:=o.toList++mrg key (a.toList.drop p) (b.toList.drop q)=mrg key a.toList b.toList
section
variable {a b o:Array Keyed} {p q k:Nat} {x y:Keyed}
end
abbrev LSt:=Option (Array Keyed) × Array Keyed × Nat × Nat × Nat × Nat × Nat
structure GoesOn (key:Keyed→O.α) (a b:Array Keyed) (st:SortSt) (m:Nat) (R:ForInStep LSt→SortSt→Prop):Prop where
  fin:∀ (out:Array Keyed) c g,out.toList=mrg key a.toList b.toList→R (.done (some out,c)) (setG st g)
  brk:∀ o p q g c d g',LoI key a b o p q→p+1 < a.size→q < b.size→m≤p+q→R (.done (none,o,p,q,g,c,d)) (setG st g')
  yld:∀ o p q g c d g',LoI key a b o p q→p+1 < a.size→q < b.size→m≤p+q→R (.yield (none,o,p,q,g,c,d)) (setG st g')
section
variable {a b o:Array Keyed} {p q k g c d m g':Nat} {x y:Keyed} {st:SortSt} {R:ForInStep LSt→SortSt→Prop}
end
end
end Tim
namespace Tim
open PySem PyProof.Rows
section
variable {prog:Program} {w:World} {A:Around} {E:Value→Shared→Prop} {s:Shared} {a₀:Array Keyed} {κ:SortKind} {O:KeyOrd} {key:Keyed→O.α}
def HiI (key:Keyed→O.α) (a b o:Array Keyed) (p q:Nat):Prop:=mrg key (a.toList.take p) (b.toList.take q)++o.toList.reverse=mrg key a.toList b.toList
section
variable {a b o:Array Keyed} {p q f:Nat} {x y:Keyed}
end
abbrev HSt:=Option (Array Keyed) × Nat × Nat × Array Keyed × Nat × Nat × Nat
structure GoesHi (key:Keyed→O.α) (a b:Array Keyed) (st:SortSt) (m:Nat) (R:ForInStep HSt→SortSt→Prop):Prop where
  fin:∀ (out:Array Keyed) c g,out.toList=mrg key a.toList b.toList→R (.done (some out,c)) (setG st g)
  brk:∀ o p q g c d g',HiI key a b o p q→0 < p→p≤a.size→1 < q→q≤b.size→p+q≤m→R (.done (none,p,q,o,g,c,d)) (setG st g')
  yld:∀ o p q g c d g',HiI key a b o p q→0 < p→p≤a.size→1 < q→q≤b.size→p+q≤m→R (.yield (none,p,q,o,g,c,d)) (setG st g')
section
variable {a b o:Array Keyed} {p q k g c d m g':Nat} {x y:Keyed} {st:SortSt} {R:ForInStep HSt→SortSt→Prop}
end
end
end Tim
namespace Tim
open PySem PyProof.Rows
section
variable {prog:Program} {w:World} {A:Around} {E:Value→Shared→Prop} {s:Shared} {a₀:Array Keyed} {κ:SortKind} {O:KeyOrd} {key:Keyed→O.α}
theorem three (L:List Keyed) {u v:Nat} (h:u≤v):L=L.take u++(L.drop u).take (v - u)++L.drop v:=by
  have e:L.drop v=(L.drop u).drop (v - u):=by rw [List.drop_drop];congr 1;omega
  rw [e,List.append_assoc,List.take_append_drop,List.take_append_drop]
end
end Tim
namespace Tim
open PySem PyProof.Rows
section
variable {prog:Program} {w:World} {A:Around} {E:Value→Shared→Prop} {s:Shared} {a₀:Array Keyed} {κ:SortKind} {O:KeyOrd} {key:Keyed→O.α}
def Dist (key:Keyed→O.α) (a₀:Array Keyed):Prop:=(a₀.toList.map key).Nodup
theorem Dist.inj (D:Dist key a₀) {xs:Array Keyed} (h:xs.Perm a₀) {i j:Nat} {x y:Keyed} (ex:xs[i]?=some x) (ey:xs[j]?=some y) (h1:O.blt (key x) (key y)=false) (h2:O.blt (key y) (key x)=false):i=j:=by
  have nd:(xs.toList.map key).Nodup:=(List.Perm.nodup_iff ((Array.perm_iff_toList_perm.mp h).map key)).mpr D
  obtain ⟨g1,rfl⟩:=Array.getElem?_eq_some_iff.mp ex
  obtain ⟨g2,rfl⟩:=Array.getElem?_eq_some_iff.mp ey
  refine (List.getElem_inj (h₀:=by simpa using g1) (h₁:=by simpa using g2) nd).mp ?_
  rw [List.getElem_map,List.getElem_map,Array.getElem_toList,Array.getElem_toList]
  exact O.total _ _ h1 h2
end
end Tim
namespace L2
open PySem PySem.Spec PyProof.Rows PySem.W
def DPrsT (P:Program) (w:World) (h:Heap) (D:Addr) (items:Array Value) (ps:List (List Key × Addr × Value)):Prop:=
  ps.length=items.size∧∀ (j:Nat) (k:List Key) (b:Addr) (v:Value),ps[j]?=some (k,b,v)→∃ a:Addr,items[j]?=some (Value.ref a)∧a≠D∧b≠D∧IsTup h a #[.ref b,v]∧(tupleKind (mixKind P w)).is h k b
theorem DPrsT.keeps {P:Program} {w:World} {h h':Heap} {D I:Addr} {items:Array Value} {ps:List (List Key × Addr × Value)} (p:DPrsT P w h D items ps) (nI:∀ a:Addr,Value.ref a∈items→a≠I) (nIb:∀ (j:Nat) k b v,ps[j]?=some (k,b,v)→b≠I)
    (k:∀ b o,b≠I→b≠D→h.get? b=some o→h'.get? b=some o):DPrsT P w h' D items ps:=by
  refine ⟨p.1,fun j kk b v e=>?_⟩
  obtain ⟨a,ha,hD,hbD,⟨o,e1,e2⟩,o2,its,n,e3,r⟩:=p.2 j kk b v e
  exact ⟨a,ha,hD,hbD,⟨o,k a o (nI a (Array.mem_of_getElem? ha)) hD e1,e2⟩,o2,its,n,k b o2 (nIb j kk b v e) hbD e3,r⟩
section
variable {prog:Program} {w:World} {A:Around} {E:Value→Shared→Prop}
end
section
variable {prog:Program} {w:World} {A:Around} {E:Value→Shared→Prop} {s:Shared}
end
section
variable {X:Cx}
end
end L2
namespace L2
open PySem PySem.Spec PyProof.Rows
theorem ObjOk.obj {P:Program} {w:World} {H:Hp} {h:Heap} {a:Addr} {o:HO} (x:ObjOk P w H h a o):∃ u,h.get? a=some u:=by
  cases o with
  | lst xs=>obtain ⟨_,_,_,_,e⟩:=x;exact ⟨_,e⟩
  | tup xs=>obtain ⟨⟨_,o,e,_⟩,_⟩:=x;exact ⟨_,e⟩
  | dK kvs=>obtain ⟨_,_,_,_,o,_,_,e,_⟩:=x;exact ⟨_,e⟩
  | dT kvs=>obtain ⟨_,_,_,_,o,_,_,e,_⟩:=x;exact ⟨_,e⟩
  | set S n=>obtain ⟨o,_,_,_,e,_⟩:=x;exact ⟨_,e⟩
  | ins C dx fs=>obtain ⟨_,_,_,e,_⟩:=x;exact ⟨_,e⟩
  | own y=>exact x
  | xd fs=>obtain ⟨_,⟨_,_,_,e,_⟩,_⟩:=x;exact ⟨_,e⟩
  | rng lo hi=>obtain ⟨_,_,_,e⟩:=x;exact ⟨_,e⟩
  | frz ob u=>exact ⟨_,x.1⟩
  | tbl ps=>exact ⟨_,x⟩
  | met f y=>exact ⟨_,x⟩
  | ext φ=>exact x.2.1
def FlyS (l:List Env) (H₀:Hp) (h₀:Heap) (H':Hp) (a C:Addr) (h:Heap):Prop:=
  ∃ B a0,Heap.FlyingW B l a (.ref C) a0 h∧(∀ b o,h₀.get? b=some o→b ∉ frs l→∃ o',B.get? b=some o'∧(H₀ b=none→o'=o))∧∀ b u,H' b=some u→∃ o,B.get? b=some o
def CXE (P:Program) (w:World):CXT:=fun outer H s E e s'=>∃ a C H',e=.ref a∧s'.os=s.os∧AllBare s'.gens∧Un (frs outer) [] H H' s.heap s'.heap∧HOk P w H' s'.heap∧FlyS outer H s.heap H' a C s'.heap∧H' a=none∧E e (some C) H'
theorem hok_in {P:Program} {w:World} {H:Hp} {h h' B:Heap} (x:HOk P w H h) (hB:∀ b o,B.get? b=some o→h.get? b=some o) (hB':B.StaysIn h') (t:∀ b u,H b=some u→∃ o,B.get? b=some o):HOk P w H h':=fun a o e=>
  (x a o e).stay (fun b u hb q=>by
    have:∃ o,B.get? b=some o:=by
      rcases hb with rfl | hb
      · exact t _ _ e
      · exact t _ _ hb
    obtain ⟨o',e'⟩:=this
    have z:=hB _ _ e'
    rw [q] at z;cases z
    exact hB' _ _ e') (fun _ q=>q) fun _ _ q=>q
theorem fly_out {X:Cx} {pins:List (Addr × Obj)} {σ:St} {H1 H2:Hp} {s1:Shared} {B h2:Heap} (I:Inv X pins σ H1 s1) (hex:X.ex=[])
    (inB:∀ b o,s1.heap.get? b=some o→b ∉ frs X.stack→∃ o',B.get? b=some o'∧(H1 b=none→o'=o)) (st:B.StaysIn h2)
    (fr:∀ b o,s1.heap.get? b=some o→b∈frs X.stack→∃ sl,h2.get? b=some { o with slots:=sl }) (free:∀ b o,s1.heap.get? b=some o→H1 b=none→H2 b=none)
    (tups:∀ b xs,H1 b=some (.tup xs)→H2 b=some (.tup xs)) (frzs:∀ b o u,H1 b=some (.frz o u)→H2 b=some (.frz o u)) (tbls:∀ b ps,H1 b=some (.tbl ps)→∃ more,H2 b=some (.tbl (ps++more))) :
    Un X.fs [] X.H₀ H2 X.s₀.heap h2∧∀ b o,X.s₀.heap.get? b=some o→b ∉ X.fs→∃ o',B.get? b=some o'∧(X.H₀ b=none→o'=o):=by
  have nx:∀ b:Addr,b ∉ X.ex:=fun b=>by rw [hex];simp
  have ns:∀ b o,X.s₀.heap.get? b=some o→b ∉ X.fs→b ∉ frs X.stack:=fun b o e n z=>by
    rcases List.mem_cons.mp (I.stkSub b z) with q | q
    · rw [q] at e
      exact absurd (Nat.lt_of_lt_of_le (Heap.lt_size e) I.ok.above) (Nat.lt_irrefl _)
    · exact n q
  have toB:∀ b o,X.s₀.heap.get? b=some o→b ∉ X.fs→∃ o',B.get? b=some o'∧(X.H₀ b=none→o'=o):=fun b o e n=>by
    obtain ⟨o1,e1⟩:=I.base.there b o e (nx b)
    obtain ⟨o2,e2,k2⟩:=inB b o1 e1 (ns b o e n)
    refine ⟨o2,e2,fun h0=>?_⟩
    have z:=I.base.keep b o e h0 n (nx b)
    rw [e1] at z;cases z
    exact k2 (I.base.free b o e h0 (nx b))
  have inSt:∀ b∈X.fs,∀ o1,s1.heap.get? b=some o1→∃ sl,h2.get? b=some { o1 with slots:=sl }:=fun b hb o1 e1=>by
    by_cases hs:b∈frs X.stack
    · exact fr b o1 e1 hs
    · obtain ⟨o2,e2,k2⟩:=inB b o1 e1 hs
      have h1:H1 b=none:=by
        obtain ⟨_,o,ho,_⟩:=I.ok.funs.mem hb
        exact I.base.free b o ho (I.ok.frf b hb) (nx b)
      rw [k2 h1] at e2
      exact ⟨o1.slots,st _ _ e2⟩
  refine ⟨⟨fun b o e n hb _=>?_,fun b o e n hb _=>?_,fun b o e n _=>?_,fun b o e _=>?_,fun b xs e=>tups _ _ (I.base.tups _ _ e),fun b o u e=>frzs _ _ _ (I.base.frzs _ _ _ e),fun b ps e=>?_⟩,toB⟩
  · obtain ⟨o',e',k⟩:=toB b o e hb
    rw [k n] at e'
    exact st _ _ e'
  · obtain ⟨sl,e1⟩:=I.base.slot b o e n hb (nx b)
    obtain ⟨sl2,e2⟩:=inSt b hb _ e1
    exact ⟨sl2,e2⟩
  · obtain ⟨o1,e1⟩:=I.base.there b o e (nx b)
    exact free b o1 e1 (I.base.free b o e n (nx b))
  · obtain ⟨o1,e1⟩:=I.base.there b o e (nx b)
    by_cases hb:b∈X.fs
    · obtain ⟨sl,q⟩:=inSt b hb o1 e1
      exact ⟨_,q⟩
    · obtain ⟨o',e',_⟩:=toB b o e hb
      exact ⟨o',st _ _ e'⟩
  · obtain ⟨m1,e1⟩:=I.base.tbls b ps e
    obtain ⟨m2,e2⟩:=tbls b _ e1
    exact ⟨m1++m2,by rw [e2,Array.append_assoc]⟩
def Raises (X:Cx) (E:XK):Prop:=∀ (pins:List (Addr × Obj)) (σ:St) (H1:Hp) (s1:Shared) (h':Heap) (a C:Addr) (vs:List Value),Inv X pins σ H1 s1→Heap.MadeExcOf s1.heap h' a (.ref C) vs→E (.ref a) (some C) H1→X.xe (.ref a) { s1 with heap:=h' }
section
variable {P:Program} {w:World} {K:PySem.W.Frag} {mg:Str→Option Value} {base:Heap} {N:List Str} {qual:Str} {scope:Scope} {f:Addr} {cd:Value} {A:Around} {outer:List Env} {s:Shared} {H:Hp} {E:XK}
theorem raises_cx:Raises (cxOf (CXE P w) P w K mg base N qual scope f cd A outer s H E) E:=by
  intro pins σ H1 s1 h' a C vs I mk hE
  have stk:=I.stack
  have nTr:∀ b u,H1 b=some u→b ∉ frs (cxOf (CXE P w) P w K mg base N qual scope f cd A outer s H E).stack:=fun b u e z=>by
    rw [I.stkFree b z] at e;cases e
  have inB:∀ b o,s1.heap.get? b=some o→b ∉ frs (cxOf (CXE P w) P w K mg base N qual scope f cd A outer s H E).stack→(PySem.W.hideAll s1.heap (frs (cxOf (CXE P w) P w K mg base N qual scope f cd A outer s H E).stack)).get? b=some o:=fun b o e n=>PySem.W.hideAll_get _ e n
  show wpAny _ _ (leaving _ _) _ _ _
  refine wpAny_leaves_madeW (base:=PySem.W.hideAll s1.heap (frs (cxOf (CXE P w) P w K mg base N qual scope f cd A outer s H E).stack)) (h:=s1.heap) I.ok.frames rfl (fun b o q=>PySem.W.of_hideAll _ q)
    (PySem.W.funFrames_hide stk fun env he b hb=>List.mem_filterMap.mpr ⟨env,he,hb⟩) mk fun h2 t fl _ _ sm=>?_
  generalize PySem.W.hideAll s1.heap (frs (cxOf (CXE P w) P w K mg base N qual scope f cd A outer s H E).stack)=B at inB fl
  have BS:∀ b o,B.get? b=some o→s1.heap.get? b=some o∨True:=fun _ _ _=>.inr trivial
  obtain ⟨u,k1⟩:=fly_out (H2:=H1) (B:=B) (h2:=h2) I rfl (fun b o e n=>⟨o,inB b o e n,fun _=>rfl⟩) fl.1
    (fun b o e hb=>by
      obtain ⟨_,o',e',nf⟩:=stk.mem hb
      rw [e] at e';cases e'
      exact sm b o (mk.keeps _ _ e) nf)
    (fun _ _ _ z=>z) (fun _ _ z=>z) (fun _ _ _ z=>z) (fun b ps z=>⟨#[],by rw [z];simp⟩)
  have tr:∀ b u,H1 b=some u→∃ o,B.get? b=some o:=fun b u e=>by
    obtain ⟨o,eo⟩:=(I.hok b u e).obj
    exact ⟨o,inB b o eo (nTr b u e)⟩
  refine ⟨a,C,H1,rfl,I.os,I.bare,u,fun b o e=>?_,⟨B,_,fl,k1,tr⟩,?_,hE⟩
  · refine (I.hok b o e).stay (fun c v hc q=>?_) (fun _ q=>q) fun _ _ q=>q
    have nc:c ∉ frs (cxOf (CXE P w) P w K mg base N qual scope f cd A outer s H E).stack:=by
      rcases hc with rfl | hc
      · exact nTr _ _ e
      · exact nTr _ _ hc
    exact fl.1 _ _ (inB c v q nc)
  · cases q:H1 a with
    | none=>rfl
    | some u=>
      obtain ⟨o,eo⟩:=(I.hok a u q).obj
      rw [mk.new] at eo;cases eo
end
end L2
namespace L2
open PySem PySem.Spec PyProof.Rows
def excO (a C:Addr):HO:=.ext fun h=>∃ o vs,h.get? a=some o∧o.cls=.ref C∧o.data=.fields vs
def Up (X:Cx) (pins:List (Addr × Obj)) (σ:St) (a C:Addr) (H2:Hp) (s:Shared):Prop:=
  ∃ H1 s1,Inv X pins σ H1 s1∧s.os=s1.os∧AllBare s.gens∧Un (frs X.stack) [] H1 H2 s1.heap s.heap∧HOk X.prog X.w H2 s.heap∧FlyS X.stack H1 s1.heap H2 a C s.heap∧H2 a=none
section
variable {X:Cx} {pins:List (Addr × Obj)} {σ:St} {a C:Addr} {H1 H2:Hp} {s s1:Shared} {B h h':Heap} {a0:Value}
theorem excO_ok (H:Hp) (e:∃ o vs,h.get? a=some o∧o.cls=.ref C∧o.data=.fields vs):ObjOk X.prog X.w H h a (excO a C):=by
  refine ⟨e,?_,fun h1 h2 ⟨o,vs,x1,x2,x3⟩ k=>⟨o,vs,k _ x1,x2,x3⟩⟩
  obtain ⟨o,_,e,_⟩:=e
  exact ⟨o,e⟩
theorem Up.inv (U:Up X pins σ a C H2 s):Inv X pins σ (upd H2 a (excO a C)) s:=by
  obtain ⟨H1,s1,I,os,bare,un,hok,⟨B,a0,fl,k0,tr⟩,ha⟩:=U
  obtain ⟨oe,vs,e1,e2,e3,_⟩:=fl.first
  have na:∀ b o,s1.heap.get? b=some o→b≠a:=fun b o e z=>by
    subst z
    by_cases hb:b∈frs X.stack
    · obtain ⟨_,o',e',nf⟩:=fl.2.2.1.mem hb
      rw [e1] at e';cases e'
      exact nf vs e3
    · obtain ⟨o',e',_⟩:=k0 b o e hb
      rw [fl.2.1] at e';cases e'
  have up:∀ b u,H2 b=some u→upd H2 a (excO a C) b=some u:=fun b u e=>by rw [upd_ne (ne_of_none e ha)];exact e
  refine I.call' (ch:=[]) os ⟨un.keep,un.slot,fun b o e n hx=>?_,un.there,fun b xs e=>up _ _ (un.tups b xs e),fun b o u e=>up _ _ (un.frzs b o u e),fun b ps e=>?_⟩ (fun b o e=>?_) bare (fun _ z=>nomatch z)
  · rw [upd_ne (na b o e)];exact un.free b o e n hx
  · obtain ⟨more,e2⟩:=un.tbls b ps e
    exact ⟨more,up _ _ e2⟩
  · by_cases hb:b=a
    · subst hb
      rw [upd_same] at e;cases e
      exact excO_ok _ ⟨oe,vs,e1,e2,e3⟩
    · rw [upd_ne hb] at e
      exact (hok b o e).stay (fun _ _ _ q=>q) (fun c q=>up _ _ q) fun c xs q=>up _ _ q
theorem up_on (I:Inv X pins σ H1 s1) (os:s.os=s1.os) (bare:AllBare s.gens) (un:Un (frs X.stack) [] H1 H2 s1.heap s.heap) (hok:HOk X.prog X.w H2 s.heap) (hB:B.StaysIn s.heap) (ffs:s.heap.FunFrames B X.stack)
    (k0:∀ b o,s1.heap.get? b=some o→b ∉ frs X.stack→∃ o',B.get? b=some o'∧(H1 b=none→o'=o)) (tr:∀ b u,H2 b=some u→∃ o,B.get? b=some o) (ha:H2 a=none)
    (fl':Heap.FlyingW B X.stack a (.ref C) a0 h') (sm:s.heap.UpToSlots h'):Up X pins σ a C H2 { s with heap:=h' }:=by
  refine ⟨H1,s1,I,os,bare,⟨fun b o e n hb _=>?_,fun b o e n hb _=>?_,un.free,fun b o e _=>?_,un.tups,un.frzs,un.tbls⟩,hok_in hok hB fl'.1 tr,⟨B,a0,fl',k0,tr⟩,ha⟩
  · obtain ⟨o',e',k⟩:=k0 b o e hb
    rw [k n] at e'
    exact fl'.1 _ _ e'
  · obtain ⟨sl,e2⟩:=un.slot b o e n hb (by simp)
    obtain ⟨_,o',e',nf⟩:=ffs.mem hb
    rw [e2] at e';cases e'
    obtain ⟨sl3,e3⟩:=sm b _ e2 nf
    exact ⟨sl3,e3⟩
  · by_cases hb:b∈frs X.stack
    · obtain ⟨_,o',e',_⟩:=fl'.2.2.1.mem hb
      exact ⟨o',e'⟩
    · obtain ⟨o',e',_⟩:=k0 b o e hb
      exact ⟨o',fl'.1 _ _ e'⟩
theorem up_lands {M:Model} {A:Around} {E:Value→Shared→Prop} {Q:Unit→Shared→Prop} (U:Up X pins σ a C H2 s) (h:∀ h',Up X pins σ a C H2 { s with heap:=h' }→Q () { s with heap:=h' }) :
    wpAny M A (setFlight (.ref a) none) Q E s:=by
  obtain ⟨H1,s1,I,os,bare,un,hok,⟨B,a0,fl,k0,tr⟩,ha⟩:=U
  exact lands_againW fl fun h' fl' sm=>h h' (up_on I os bare un hok fl.1 fl.2.2.1 k0 tr ha fl' sm)
theorem up_looks {M:Model} {A:Around} {E:Value→Shared→Prop} {Q:Unit→Shared→Prop} (hA:A.frames=some X.stack) (hst:X.stack=X.env :: X.outer) (hf:X.env.frame=some X.env.locals) (U:Up X pins σ a C H2 s)
    (h:∀ h',Up X pins σ a C H2 { s with heap:=h' }→Q () { s with heap:=h' }) :
    wpAny M A (noteFrame (.ref a) X.env) (fun _ s2=>wpAny M A (setFlight (.ref a) none) Q E s2) E s:=by
  obtain ⟨H1,s1,I,os,bare,un,hok,⟨B,a0,fl,k0,tr⟩,ha⟩:=U
  have fl0:=fl
  rw [hst] at fl0 hA
  refine wpAny_looks_onW hA hf fl0 fun h1 hh sm=>?_
  refine wpAny_landsW hh fun h2 fl2 sm2=>?_
  rw [← hst] at fl2
  exact h h2 (up_on I os bare un hok fl.1 fl.2.2.1 k0 tr ha fl2 (sm.trans sm2))
abbrev Cx.caught (X:Cx) (a:Addr):Cx:={ X with A:=X.A.mark (some (.ref a)),calm:=false,xe:=fun _ _=>False }
theorem Inv.caught {H:Hp} (I:Inv X pins σ H s) (a:Addr):Inv (X.caught a) pins σ H s:=
  ⟨⟨I.ok.mod,I.ok.kind,I.ok.glob,I.ok.blt,I.ok.above,I.ok.inj,I.ok.has,I.ok.cab,(fun z=>nomatch z),I.ok.frames,I.ok.stk,I.ok.exf,I.ok.bs,I.ok.bsz,I.ok.noex,I.ok.exfs,I.ok.funs,I.ok.frf⟩,I.os,I.bare,I.base,I.loc,I.cell,I.free,I.freeC,I.pin,I.hok,I.len⟩
theorem Inv.uncaught {H:Hp} (ok:X.Ok) (I:Inv (X.caught a) pins σ H s):Inv X pins σ H s:=⟨ok,I.os,I.bare,I.base,I.loc,I.cell,I.free,I.freeC,I.pin,I.hok,I.len⟩
theorem Inv.goes {M:Model} {A:Around} {E:Value→Shared→Prop} {H:Hp} {i:Nat} {n:Str} {pos:Pos} {Q:Unit→Shared→Prop} (I:Inv X pins σ H s) (hN:X.N.Nodup) (hi:X.N[i]?=some n) (hl:X.env.kindOf n=some .local)
    (h:∀ s',Inv X pins (σ.set i none) H s'→Q () s'):wpAny M A (do bindName X.env n .none;unbindBehindTheSuite X.env n pos) Q E s:=by
  obtain ⟨m,hn,hl'⟩:=id I.loc
  have hcls:(X.env.scope.kind == .class || (X.env.scope.kind == .module && X.env.locals != X.env.globals))=false:=by rw [I.ok.kind];rfl
  have hiσ:i < σ.length:=by rw [I.len];exact (List.getElem?_eq_some_iff.mp hi).1
  refine wpAny_nameGoes_keeps hl hn hcls fun h' v hn' hs=>?_
  obtain ⟨oL,_,_,hoL,_⟩:=id hn
  refine h _ ⟨I.ok,I.os,I.bare,⟨fun b o e n hb hx=>?_,fun b o e n hb hx=>?_,I.base.free,fun b o e hx=>?_,I.base.tups,I.base.frzs,I.base.tbls⟩,⟨_,hn',fun j y v' e1 e2 e3=>?_⟩,fun y c e=>?_,I.free,I.freeC,fun p hp=>?_,fun b ob e=>?_,by simpa using I.len⟩
  · exact (hs.2 b (Nat.ne_of_lt (Nat.lt_of_lt_of_le (Heap.lt_size e) I.ok.above))).trans (I.base.keep b o e n hb hx)
  · obtain ⟨sl,e1⟩:=I.base.slot b o e n hb hx
    exact ⟨sl,(hs.2 b (Nat.ne_of_lt (Nat.lt_of_lt_of_le (Heap.lt_size e) I.ok.above))).trans e1⟩
  · obtain ⟨o',e1⟩:=I.base.there b o e hx
    exact ⟨o',(hs.2 b (Nat.ne_of_lt (Nat.lt_of_lt_of_le (Heap.lt_size e) I.ok.above))).trans e1⟩
  · by_cases hj:j=i
    · subst hj
      rw [List.getElem?_set_self hiσ] at e2
      cases e2
    · rw [List.getElem?_set_ne (Ne.symm hj)] at e2
      obtain ⟨u',r',q⟩:=hl' j y v' e1 e2 e3
      refine ⟨u',r',?_⟩
      rcases q with ⟨k,e⟩ | ⟨k,c,e,z⟩
      · refine .inl ⟨k,?_⟩
        have:y≠n:=fun e=>hj (nodup_ix hN e1 (e ▸ hi))
        simp [this,e]
      · exact .inr ⟨k,c,e,z.sameBut hs (I.cne y c e)⟩
  · obtain ⟨w',z⟩:=I.cell y c e
    exact ⟨w',z.sameBut hs (I.cne y c e)⟩
  · obtain ⟨e,n,ne,nf,d⟩:=I.pin p hp
    exact ⟨(hs.2 p.1 ne).trans e,n,ne,nf,d⟩
  · refine (I.hok b ob e).stay (fun c w' hc q=>(hs.2 c ?_).trans q) (fun _ q=>q) fun _ _ q=>q
    rintro rfl
    rcases hc with rfl | hc
    · rw [I.free] at e;cases e
    · rw [I.free] at hc;cases hc
end
def PH (X:Cx) (hs:List ExceptHandler) (th:Addr→Addr→TS):Prop:=
  ∀ (pins:List (Addr × Obj)) (s:Shared) (σ:St) (H2:Hp) (D:Ends) (a C:Addr),Up X pins σ a C H2 s→th a C D σ (upd H2 a (excO a C))→wpAny (model X.prog X.w) X.A (handleBy (.ref a) X.env hs) (SP X pins D) X.xe s
def Ends.goes (D:Ends) (i:Nat):Ends:=⟨fun σ H=>D.nx (σ.set i none) H,D.rt,fun σ H=>D.bk (σ.set i none) H,fun σ H=>D.ct (σ.set i none) H⟩
section
variable {X:Cx} {x n:Str} {i:Nat} {np pos:Pos} {b₀:Stmt} {suite:List Stmt} {rest:List ExceptHandler} {Cl:Addr} {th:Addr→TS} {tr:Addr→Addr→TS}
theorem typ_of {M:Model} {H:Hp} {h:Heap} {a C:Addr} (e:ObjOk X.prog X.w H h a (excO a C)):PySem.W.Looks M h (typeOf (.ref a)) (.ref C):=by
  obtain ⟨⟨o,vs,e1,e2,_⟩,_⟩:=e
  rw [← e2]
  exact (PySem.W.Looks.ld e1).andThen .now
theorem ph_as (hg:Gl X x) (hm:X.mg x=some (.ref Cl)) (hN:X.N.Nodup) (hi:X.N[i]?=some n) (hl:X.env.scope.names.lookup n=some .local) (hb:∀ a,PSs (X.caught a) (b₀ :: suite) (th a)) (hd:(x == ("__debug__" : Str))=false:=by decide) :
    PH X (.ExceptHandler (some (.Name x np)) (some n) (b₀ :: suite) pos :: rest) (fun a C D σ H=>PySem.W.exmOne X.K (.ref C) (.ref Cl)=some true∧th a (D.goes i) (σ.set i (some (.ref a))) H):=by
  intro pins s σ H2 D a C U h
  obtain ⟨hx,h⟩:=h
  have I:=U.inv
  refine wpAny_handleBy_cons (codeAny_handlers_test (ld_glob (I.caught a) hg hm ?_ hd)) (by intro q;cases q)
  refine (PySem.W.exm_one I.kIn (typ_of (I.hok a _ upd_same)) hx).here ?_
  refine codeAny_handlers_suite_as ?_
  refine up_lands U fun h' U'=>?_
  have I':=U'.inv
  refine store_ok I' hN hi (.inl hl) (v:=.ref a) rfl (fun s2 I2=>?_) (.inr hl)
  refine wpAny_mono (hb a pins s2 _ _ (D.goes i) (I2.caught a) h) (fun f s3 q=>?_) fun _ _ z=>False.elim z
  cases f with
  | next=>obtain ⟨σ',H',J,q⟩:=q;exact (J.uncaught I.ok).goes hN hi hl fun s4 J4=>⟨_,H',J4,q⟩
  | brk=>obtain ⟨σ',H',J,q⟩:=q;exact (J.uncaught I.ok).goes hN hi hl fun s4 J4=>⟨_,H',J4,q⟩
  | cont=>obtain ⟨σ',H',J,q⟩:=q;exact (J.uncaught I.ok).goes hN hi hl fun s4 J4=>⟨_,H',J4,q⟩
  | ret u=>obtain ⟨v,σ',H',J,r,q⟩:=q;exact (J.uncaught I.ok).goes hN hi hl fun s4 J4=>⟨v,_,H',J4,r,q⟩
end
def PassesAt (CX:CXT) (X:Cx) (E:XK) (σ:St):Prop:=∀ (pins:List (Addr × Obj)) (H:Hp) (s:Shared) (e:Value) (s':Shared),Inv X pins σ H s→CX X.stack H s E e s'→X.xe e s'
theorem Passes.at {CX:CXT} {X:Cx} {E:XK} {σ:St} (h:Passes CX X E):PassesAt CX X E σ:=fun pins H s e s' I q=>h pins σ H s e s' I q
abbrev Cx.tries (X:Cx) (pn:List (Addr × Obj)) (xe:Value→Shared→Prop):Cx:={ X with pn:=pn,xe:=xe }
def eTry (th:Addr→Addr→TS) (D:Ends) (σ:St):XK:=fun v c H'=>∃ a C,v=.ref a∧c=some C∧th a C D σ (upd H' a (excO a C))
def tTry (tb:XK→St→TS) (th:Addr→Addr→TS):TS:=fun D σ H=>tb (eTry th D σ) σ D σ H
theorem ps_try {X:Cx} {body:List Stmt} {h₀:ExceptHandler} {hs:List ExceptHandler} {pos:Pos} {tb:XK→St→TS} {th:Addr→Addr→TS}
    (hb:∀ pn xe E σ0,PassesAt (CXE X.prog X.w) (X.tries pn xe) E σ0→PSs (X.tries pn xe) body (tb E σ0)) (hh:PH X (h₀ :: hs) th)
    (hst:X.stack=X.env :: X.outer:=by rfl) (hf:X.env.frame=some X.env.locals:=by rfl):PS X (.Try body (h₀ :: hs) [] [] pos) (tTry tb th):=by
  intro pins s σ H D I h
  have toX:∀ {xe:Value→Shared→Prop} {pins':List (Addr × Obj)} {σ':St} {H':Hp} {s':Shared},Inv (X.tries (X.pn++pins) xe) pins' σ' H' s'→Inv X pins σ' H' s':=fun {xe pins' σ' H' s'} J=>
    ⟨I.ok,J.os,J.bare,J.base,J.loc,J.cell,J.free,J.freeC,fun p hp=>J.pin p (List.mem_append_left _ hp),J.hok,J.len⟩
  refine wpAny_Try_except ?_
  have J:∀ xe,Inv (X.tries (X.pn++pins) xe) [] σ H s:=fun xe=>
    ⟨⟨I.ok.mod,I.ok.kind,I.ok.glob,I.ok.blt,I.ok.above,I.ok.inj,I.ok.has,I.ok.cab,I.ok.hd,I.ok.frames,I.ok.stk,I.ok.exf,I.ok.bs,I.ok.bsz,I.ok.noex,I.ok.exfs,I.ok.funs,I.ok.frf⟩,I.os,I.bare,I.base,I.loc,I.cell,I.free,I.freeC,fun p hp=>by
      rw [List.append_nil] at hp
      exact I.pin p hp,I.hok,I.len⟩
  refine wpAny_mono (hb (X.pn++pins) (fun e s'=>∃ a C H2,e=.ref a∧Up X pins σ a C H2 s'∧th a C D σ (upd H2 a (excO a C))) (eTry th D σ) σ ?_ [] s σ H D (J _) h) (fun f s1 q=>?_) fun e s1 q=>?_
  · rintro pins' H1 s1 e s2 I1 ⟨a,C,H2,rfl,os,bare,un,hok,fly,ha,a',C',e1,e2,hE⟩
    cases e1;cases e2
    exact ⟨a,C,H2,rfl,⟨H1,s1,toX I1,os,bare,un,hok,fly,ha⟩,hE⟩
  · cases f with
    | next=>obtain ⟨σ',H',J,q⟩:=q;exact wpAny_execs_nil ⟨σ',H',toX J,q⟩
    | brk=>obtain ⟨σ',H',J,q⟩:=q;exact ⟨σ',H',toX J,q⟩
    | cont=>obtain ⟨σ',H',J,q⟩:=q;exact ⟨σ',H',toX J,q⟩
    | ret u=>obtain ⟨v,σ',H',J,r,q⟩:=q;exact ⟨v,σ',H',toX J,r,q⟩
  · obtain ⟨a,C,H2,rfl,U,hE⟩:=q
    exact up_looks I.ok.frames hst hf U fun h' U'=>hh pins _ σ H2 D a C U' hE
end L2
namespace L2
open PySem PySem.Spec PyProof.Rows PySem.W PySem.Calls PySem.Builtin PySem.Builtin.ObjectAttr PySem.Builtin.Getset_descriptor
structure ExK (K:Frag) (C:Addr):Prop where
  ga:findIn K (.ref C) "__getattribute__" = some (some (.builtin "BaseException.__getattribute__"))
  gn:findIn K (.ref C) "__getattr__" = some none
  cl:findIn K (.ref C) "__class__" = some (some (.builtin "object.__class__"))
  gt:specialIn K (.builtin "object.__class__") "__get__" = some (some (.builtin "getset_descriptor.__get__"))
  tk:takesIn K (.builtin "object.__class__")=some true
  ob:mroIn K C (.type "object")=some true
  be:mroIn K C (.type "BaseException")=some true
  cd:(clsIn K C).isSome=true
section
variable {prog:Program} {w:World} {A:Around} {E:Value→Shared→Prop} {s:Shared} {K:Frag} {x C:Addr} {R:Result→Shared→Prop}
theorem exc_class_get {tp:Value} (X:K.In s.heap) (L0:Looks (model prog w) s.heap (typeOf (.ref x)) (.ref C)) (L1:Looks (model prog w) s.heap (isSubtype (.ref C) (.type "object")) true)
    (h:R (.ok (.ret (.ref C))) s):codeAny (model prog w) A (.call (.builtin "getset_descriptor.__get__") ⟨[.builtin "object.__class__", .ref x,tp],[]⟩) R s:=by
  obtain ⟨hh,g,dr,t,os⟩:=s
  refine codeAny_call_builtin KF.slot_gs.plain KF.entry_gs (KF.slot_gs.check _ _ _ _ _ _ _ _ KF.type_class (KF.args_gs _ _ _) ?_)
  unfold Builtin.«getset_descriptor.__get__» descrGet
  rw [dga_obj]
  refine wpAny_bind (wpAny_pure ?_)
  unfold descrGetter descrCheckInstance descrNameAndClass isInstance
  simp only [KF.owner_class]
  repeat lk
  refine ⟨Code.quiet_builtin _ (by decide +kernel),codeAny_builtin KF.entry_class ?_⟩
  unfold Builtin.«object.__class__» shownTypeOf
  repeat lk
  exact h
theorem exc_find {M:Model} {h:Heap} (X:K.In h) (Z:ExK K C):Looks M h (find (.ref x) (.ref C) "__class__") (.bind (.builtin "getset_descriptor.__get__") (.builtin "object.__class__")):=by
  have L1:=looks_findIn (M:=M) X Z.cl
  have L2:Looks M h (getOf (some (.builtin "object.__class__"))) (some (.builtin "getset_descriptor.__get__")):=looks_specialIn X Z.gt
  have L3:=looks_takesIn (M:=M) X Z.tk
  refine L1.andThen (L2.andThen ?_)
  exact (show Looks M h (dataDescriptor? (some (.builtin "object.__class__")) (some (.builtin "getset_descriptor.__get__"))) (some (.builtin "getset_descriptor.__get__", .builtin "object.__class__")) from L3.andThen .now).andThen (Looks.tag .now)
theorem exc_entry {tk:Tok} {Q:Fin→Shared→Prop} (X:K.In s.heap) (Z:ExK K C) (L0:Looks (model prog w) s.heap (typeOf (.ref x)) (.ref C)) (h:Q (.done (.ret (.ref C))) s) :
    wpAny (model prog w) A (Builtin.«object.__getattribute__» ⟨[.ref x,.str "__class__" tk],[]⟩) Q E s:=by
  have L1:=looks_mroIn (M:=model prog w) X Z.ob
  have L2:=exc_find (M:=model prog w) (x:=x) X Z
  obtain ⟨hh,g,dr,t,os⟩:=s
  unfold Builtin.«object.__getattribute__»
  repeat (any_goals (first | assumption | (refine wpAny_bind (L0.at ?_)) | (refine wpAny_bind (L2.at ?_)) | wp_step))
  refine exc_class_get X L0 L1 ?_
  repeat (any_goals (first | assumption | wp_step))
theorem exc_kind:builtinKind "BaseException.__getattribute__" = some .slot:=by decide +kernel
theorem exc_split:splitId "BaseException.__getattribute__" = some ("BaseException", "__getattribute__"):=by decide +kernel
theorem exc_check {M:Model} {nameV:Value} {Q:Unit→Shared→Prop} (LI:Looks M s.heap (isInstance (.ref x) (.type "BaseException")) true) (h:Q () s) :
    wpAny M A (checkBuiltinCall "BaseException.__getattribute__" ⟨[.ref x,nameV],[]⟩) Q E s:=
  check_slot (i := "BaseException.__getattribute__") (owner := "BaseException") (n := "__getattribute__") (self:=.ref x) (rest:=[nameV]) (kw:=[]) exc_kind exc_split LI (F.args_bexc_ga (.ref x) nameV) h
theorem exc_call {tk:Tok} (X:K.In s.heap) (Z:ExK K C) (L0:Looks (model prog w) s.heap (typeOf (.ref x)) (.ref C)) (h:R (.ok (.ret (.ref C))) s) :
    codeAny (model prog w) A (.call (.builtin "BaseException.__getattribute__") ⟨[.ref x,.str "__class__" tk],[]⟩) R s:=
  codeAny_call_builtin F.attrBase_ValueError.ga.plain F.entry_bexc_ga (exc_check (L0.andThen (looks_mroIn (M:=model prog w) X Z.be)) (exc_entry X Z L0 h))
theorem exc_by {hh:Heap} {g:Array GenState} {dr:Drawn} {t:Nat} {os:OsState} {tk:Tok} {fill expr:Bool} {Q:Value→Shared→Prop} (X:K.In hh) (Z:ExK K C) (L0:Looks (model prog w) hh (typeOf (.ref x)) (.ref C)) (h:Q (.ref C) ⟨hh,g,dr,t,os⟩) :
    wpAny (model prog w) A (getAttrBy (.ref x) (.str "__class__" tk) fill expr) Q E ⟨hh,g,dr,t,os⟩:=by
  have f3:=F.attrBase_ValueError.ga.bind (.ref x)
  have hx0:(expr && onTheHeap (Value.builtin "BaseException.__getattribute__"))=false:=by cases expr <;> rfl
  have hx2:(Value.builtin "BaseException.__getattribute__" == Value.builtin "object.__getattribute__")=false:=by decide +kernel
  have hx1:(onTheHeap (Value.ref C) && Value.builtin "BaseException.__getattribute__" == Value.builtin "object.__getattribute__")=false:=by rw [hx2];rfl
  have L1:=looks_findIn (M:=model prog w) X Z.ga
  have L2:=looks_findIn (M:=model prog w) X Z.gn
  repeat (any_goals (first | assumption | (refine wpAny_bind (L0.at ?_)) | (refine wpAny_bind (L1.at ?_)) | (refine wpAny_bind (L2.at ?_)) | wp_step))
  refine exc_call X Z L0 ?_
  repeat (any_goals (first | assumption | wp_step))
theorem exc_class {hh:Heap} {g:Array GenState} {dr:Drawn} {t:Nat} {os:OsState} {Q:Option Value→Shared→Prop} (X:K.In hh) (Z:ExK K C) (L0:Looks (model prog w) hh (typeOf (.ref x)) (.ref C)) (h:Q (some (.ref C)) ⟨hh,g,dr,t+1,os⟩) :
    wpAny (model prog w) A (getAttr? (.ref x) "__class__") Q E ⟨hh,g,dr,t,os⟩:=by
  unfold getAttr? getAttrBy?
  repeat (any_goals (first | assumption | (with_reducible apply exc_by X Z L0) | wp_step))
end
end L2
namespace L2
open PySem PySem.Spec PyProof.Rows PySem.W
theorem kitx_exc {K:Frag} {a C:Addr} (Z:ExK K C):KitX K (.ref a) (.ref C) (fun h=>∃ o vs,h.get? a=some o∧o.cls=.ref C∧o.data=.fields vs) where
  ty:=fun M h _ ⟨o,vs,e1,e2,_⟩=>e2 ▸ (Looks.ld e1).andThen .now
  it:=fun M h X _=>by
    obtain ⟨cd,hcD⟩:=Option.isSome_iff_exists.mp Z.cd
    unfold clsIn at hcD
    split at hcD
    · rename_i c' d' cd' sl' ho
      intro A' Q' E' s' k q
      unfold isType loadHead
      exact wpAny_bind (wpAny_loadPart (k _ _ (X _ _ ho)) (wpAny_pure q))
    · cases hcD
  ne:=fun h tp dd its n sl X htp=>by
    obtain ⟨cd,hcD⟩:=Option.isSome_iff_exists.mp Z.cd
    refine Bool.eq_false_iff.mpr fun q=>?_
    have e:C=tp:=Value.ref.inj (beq_iff_eq.mp q)
    subst e
    unfold clsIn at hcD
    split at hcD
    · rename_i c' d' cd' sl' ho
      have z:=(X _ _ ho).symm.trans htp
      cases z
    · cases hcD
  ca:=fun {prog w A E Q s} X I k=>by
    obtain ⟨hh,g,d,t,os⟩:=s
    obtain ⟨o,vs,e1,e2,_⟩:=I
    exact exc_class (C:=C) X Z (e2 ▸ (Looks.ld e1).andThen .now) k
section
variable {X:Cx}
theorem vals_ref:∀ {Ds:List Addr} {its:List Value},Vals (Ds.map V.ref) its→its=Ds.map Value.ref
  | [],_,.nil=>rfl
  | D :: Ds,_ :: _,.cons r h=>by rw [vals_ref h];cases (show _=Value.ref D from r);rfl
theorem call_isinstE (K:Frag) (hK:X.K=K:=by rfl):CallR X (.builtin "isinstance") (fun vs H Q=>∃ (a C D:Addr) (b:Bool),vs=[.ref a,.ref D]∧H a=some (excO a C)∧ExK K C∧kitOne K (.ref C) (.ref D)=some b∧Q (.bl b) H):=by
  subst hK
  intro pins s σ H xs us Q I r h
  obtain ⟨a,C,D,b,rfl,ha,Z,e,q⟩:=h
  obtain ⟨u,v,rfl,ru,rv⟩:=vals2 r
  cases (show u=Value.ref a from ru)
  cases (show v=Value.ref D from rv)
  exact kia_one (kitx_exc Z) I.kIn (I.hok a _ ha).1 e (fun z=>nomatch z) fun tk=>⟨.bl b,H,I.tok tk,rfl,q⟩
theorem call_isinstEB (K:Frag) (hK:X.K=K:=by rfl):CallR X (.builtin "isinstance") (fun vs H Q=>∃ (a C:Addr) (T:String) (b:Bool),vs=[.ref a,.ty T]∧H a=some (excO a C)∧ExK K C∧kitOne K (.ref C) (.type T)=some b∧Q (.bl b) H):=by
  subst hK
  intro pins s σ H xs us Q I r h
  obtain ⟨a,C,T,b,rfl,ha,Z,e,q⟩:=h
  obtain ⟨u,v,rfl,ru,rv⟩:=vals2 r
  cases (show u=Value.ref a from ru)
  cases (show v=Value.type T from rv)
  exact kia_one (kitx_exc Z) I.kIn (I.hok a _ ha).1 e (fun z=>nomatch z) fun tk=>⟨.bl b,H,I.tok tk,rfl,q⟩
theorem call_isinstET (K:Frag) (hK:X.K=K:=by rfl):CallR X (.builtin "isinstance") (fun vs H Q=>∃ (a C c:Addr) (Ds:List Addr) (b:Bool),vs=[.ref a,.ref c]∧H a=some (excO a C)∧H c=some (.tup (Ds.map V.ref))∧ExK K C∧kitAny K (.ref C) (Ds.map Value.ref)=some b∧Q (.bl b) H):=by
  subst hK
  intro pins s σ H xs us Q I r h
  obtain ⟨a,C,c,Ds,b,rfl,ha,hc,Z,e,q⟩:=h
  obtain ⟨u,v,rfl,ru,rv⟩:=vals2 r
  cases (show u=Value.ref a from ru)
  cases (show v=Value.ref c from rv)
  obtain ⟨_,its,rv2,⟨o,h1,h2,n,h3⟩⟩:=(show ObjOk X.prog X.w H s.heap c (.tup (Ds.map V.ref)) from I.hok c _ hc)
  cases vals_ref rv2
  obtain ⟨cls,dd,dat,sl⟩:=o
  cases h2;cases h3
  exact kia_tup (kitx_exc Z) I.kIn (I.hok a _ ha).1 h1 e (fun z=>nomatch z) fun tk=>⟨.bl b,H,I.tok tk,rfl,q⟩
end
abbrev bmV:List Value:=[.type "ValueError", .type "Exception", .type "BaseException", .type "object"]
theorem exc_obj {K:Frag} {h:Heap} {C:Addr} {bmB:List Value} {newId:String} (X:K.In h) (q:excIn K C bmB newId=true) :
    ∃ bm N nm q bs hdct sn sub ab col dd k0 k1 k2 k3 k5 mN,h.get? C=some (excClassObj nm q C N bs bm hdct sn sub ab col dd k0 k1 k2 k3 k5 newId)∧h.Ns N mN∧mN "__init__" = none∧OwnTail h bmB bm:=by
  unfold excIn at q
  split at q
  · rename_i dd cd sl ho
    split at q
    · rename_i C' bm k0 k1 k2 k3 n k5 hm hs
      simp only [Bool.and_eq_true,beq_iff_eq,Bool.not_eq_true'] at q
      obtain ⟨⟨⟨⟨⟨rfl,rfl⟩,hdel⟩,ht⟩,hok⟩,hni⟩:=q
      obtain ⟨nm,bs,mro,ns,qn,hd,sn,sub,ab,col,del⟩:=cd
      dsimp only at hm hdel hok hni
      subst hm hdel
      have hsl:sl=#[k0,k1,k2,k3,some (.builtin n),k5]:=by
        obtain ⟨l⟩:=sl
        simp only at hs
        rw [hs]
      subst hsl
      exact ⟨bm,ns,nm,qn,bs,hd,sn,sub,ab,col,dd,k0,k1,k2,k3,k5,_,X _ _ ho,.of_isNs (isNs_of_in X hok),nsMap_none_of_in X hok hni,tail_of_in X ht⟩
    · cases q
  · cases q
def tRaise (E:XK) (C:Addr) (ta:TA):TS:=fun _ σ H=>ta σ H fun vs H1=>vs.length≤sizeLine∧∀ a,H1 a=none→E (.ref a) (some C) H1
theorem ps_raise {X:Cx} {E:XK} {x:Str} {C:Addr} {e₀:Expr} {rest:List Expr} {ta:TA} {np cpos pos:Pos} (R:Raises X E) (hm:X.mg x=some (.ref C)) (hq:excIn X.K C bmV "ValueError.__new__" = true) (hg:Gl X x) (ha:PA X (e₀ :: rest) ta)
    (hc:X.calm=true:=by rfl) (he:starEach (e₀ :: rest) X.env=(false,eval e₀ X.env) :: starEach rest X.env:=by rfl) (hplain:(backTo cpos (starEach rest X.env)).any (·.1)=false:=by rfl) (hd:(x == ("__debug__" : Str))=false:=by decide) :
    PS X (.Raise (some (.Call (.Name x np) (e₀ :: rest) [] cpos)) none pos) (tRaise E C ta):=by
  intro pins s σ H D I h
  obtain ⟨tl,N,nm,q,bs,hdct,sn,sub,ab,col,dd,k0,k1,k2,k3,k5,mN,hC,hN,hni,T⟩:=exc_obj I.ok.mod.kin hq
  refine wpAny_Raise_call_subT (C:=C) (nm:=nm) (q:=q) (N:=N) (bs:=bs) (bm:=tl) (hdct:=hdct) (sn:=sn) (sub:=sub) (ab:=ab) (col:=col) (dd:=dd) (k0:=k0) (k1:=k1) (k2:=k2) (k3:=k3) (k5:=k5)
    F.excBase_ValueError (mN:=mN) (T.hasType F.excBase_ValueError.hasBase) (I.ok.hd hc) (by rw [he];show (false || (backTo cpos (starEach rest X.env)).any (·.1))=false;rw [hplain];rfl) hni (ld_glob I hg hm ⟨rfl,?_⟩ hd)
  have hh:=ha cpos pins s σ H _ I h
  rw [he] at hh ⊢
  refine Calls.evalArgs_plain (wpAny_mono hh (fun vs s₂ h₂=>?_) fun _ _ y=>y)
  obtain ⟨us,H1,I1,r,hz,q⟩:=h₂
  refine ⟨rfl,by rw [← r.length];exact hz,I1.bk _ _ hC,hN.keeps I1.bk,T.keeps I1.bk,fun h' e mk=>R pins σ H1 s₂ h' e C vs I1 mk (q e ?_)⟩
  cases z:H1 e with
  | none=>rfl
  | some u=>
    obtain ⟨o,eo⟩:=(I1.hok e u z).obj
    rw [mk.new] at eo;cases eo
def HasX (P:Program) (w:World) (K:Frag) (mg:Str→Option Value) (base:Heap) (x:Str) (k:Nat) (ps:List Str) (sp:Sp):Prop:=
  ∃ f fd,FnOk P w K mg base (CXE P w) k f fd ps sp∧Binds K fd ps []∧keepIn K (.ref f)=true∧mg x=some (.ref f)
section
variable {P:Program} {w:World} {K:Frag} {mg:Str→Option Value} {base:Heap}
theorem HasX.mono {x:Str} {j k:Nat} {ps:List Str} {sp:Sp} (G:HasX P w K mg base x j ps sp) (h:j≤k):HasX P w K mg base x k ps sp:=
  let ⟨f,fd,F,r⟩:=G;⟨f,fd,F.mono h,r⟩
theorem Df.hasX {x:Str} {st:Stmt} {N ps:List Str} {k:Nat} {sp:Sp} (D:Df K mg x st) (S:FnScope N ps (defScope st))
    (hb:∀ (kV doc pm:Value) (an:Option Addr) (cdv ct:Value) (us:List Value),us.length=ps.length→bindArgs (fnOf x x (defArgs st) (defBody st) (defScope st) .none kV doc pm an cdv ct) ⟨us,[]⟩=pure (ps.zip us))
    (len:∀ vs H Q E,sp vs H Q E→vs.length=ps.length)
    (hbody:∀ (f:Addr) (cdv:Value) (A:Around) (outer:List Env) (s:Shared) (H:Hp) (vs:List V) (Q:VK) (E:XK),Room k (A.deeper (envOfC x (defScope st) s.heap.objs.size f cdv))→sp vs H Q E →
      ∃ t,PSs (cxOf (CXE P w) P w K mg base N x (defScope st) f cdv A outer s H E) (defBody st) t∧t { nx:=fun _ H'=>Q .non H',rt:=Q } (start N vs) H):HasX P w K mg base x (k+1) ps sp:=by
  obtain ⟨f,fd,F,m⟩:=D
  refine ⟨f,fd,?_,F.binds hb,F.kp,m⟩
  obtain ⟨oc,od,kV,doc,pm,an,cdv,ct,osl,rfl,lk,hcd⟩:=F.ex
  exact fn_of lk hcd S len fun A outer s H vs Q E hr hsp=>hbody f cdv A outer s H vs Q E hr hsp
end
section
variable {X:Cx} {x:Str} {k:Nat} {ps:List Str} {sp:Sp} {p pos:Pos} {e:Expr} {es:List Expr} {t:TA} {E:XK} {σ0:St}
theorem pe_callE (G:HasX X.prog X.w X.K X.mg X.base x k ps sp) (hx:Passes (CXE X.prog X.w) X E) (hr:Room k X.A) (hg:Gl X x) (ha:PA X (e :: es) t)
    (hdb:(x == ("__debug__" : Str))=false:=by decide) (he:starEach (e :: es) X.env=(false,eval e X.env) :: starEach es X.env:=by rfl) (hpl:(backTo pos (starEach es X.env)).any (·.1)=false:=by rfl) :
    PE X (.Call (.Name x p) (e :: es) [] pos) (tCall sp [] E t):=by
  obtain ⟨f,fd,F,b,kp,m⟩:=G
  exact pe_call F hr hg m kp b .nil hx ha hdb he hpl
theorem run_fnX {f:Addr} {fd:FuncData} {pins:List (Addr × Obj)} {H:Hp} {s:Shared} {Q:VK} {us:List Value} {vs:List V} (F:FnOk X.prog X.w X.K X.mg X.base (CXE X.prog X.w) k f fd ps sp) (hr:Room k X.A) (hb:Binds X.K fd ps []) (hx:PassesAt (CXE X.prog X.w) X E σ0)
    (I:Inv X pins σ0 H s) (r:Vals vs us) (h:sp (vs++[]) H Q E):wpAny (model X.prog X.w) X.A (call (.ref f) us) (EP X pins σ0 Q) X.xe s:=by
  have r2:Vals (vs++[]) (us++[]):=r.append .nil
  have hl:(us++[]).length=ps.length:=by rw [← r2.length];exact F.len _ _ _ _ h
  refine wpAny_call (codeAny_mono (F.run X.A X.stack s H ⟨us,[]⟩ (us++[]) (vs++[]) Q E hr I.env0 (hb s us I.kIn hl) r2 h) fun r s' hq=>?_)
  cases r with
  | error e=>exact hx pins H s e s' I hq
  | ok fl=>
    cases fl with
    | ret u=>exact I.after hq
    | next=>exact False.elim hq
    | brk=>exact False.elim hq
    | cont=>exact False.elim hq
theorem pe_callX (G:HasX X.prog X.w X.K X.mg X.base x k ps sp) (hx:PassesAt (CXE X.prog X.w) X E σ0) (hr:Room k X.A) (hg:Gl X x) (ha:PA X (e :: es) t)
    (hdb:(x == ("__debug__" : Str))=false:=by decide) (he:starEach (e :: es) X.env=(false,eval e X.env) :: starEach es X.env:=by rfl) (hpl:(backTo pos (starEach es X.env)).any (·.1)=false:=by rfl) :
    PE X (.Call (.Name x p) (e :: es) [] pos) (fun σ H Q=>σ=σ0∧tCall sp [] E t σ H Q):=by
  obtain ⟨f,fd,F,b,kp,hm⟩:=G
  rintro pins s σ H Q I ⟨rfl,h⟩
  refine wpAny_Call_Name_kw (ld_glob I hg hm ?_ hdb)
  refine callWith_K (h₀:=X.base) I.ok.mod.kin kp (thn (ha pos pins s σ H _ I h) fun us s1 ⟨vs,H1,I1,r,q⟩=>⟨I1.kIn,?_⟩) he hpl
  exact run_fnX F hr b hx I1 r q
end
end L2
namespace L2
open PySem PySem.Spec PyProof.Rows PySem.W
@[irreducible] def bigL:Int:=2 ^ 1000
section
variable {X:Cx}
theorem op_fdivL:OpR X (binaryOp .FloorDiv) (rI (fun _ j=>0 < j∧j < bigL) fun i j=>.int (i / j)):=opI fun i j _ _ _ _ _ hc q=>by
  have h1:(0:Int) < j:=hc.1
  have h2:j < 2 ^ 1000:=by have:=hc.2;unfold bigL at this;exact this
  refine floordiv_int (by omega) (by rw [Int.fdiv_eq_ediv_of_nonneg i (by omega)];exact q) (.inl (PyProof.noPylong_of_log2 ?_))
  have h3:j.natAbs < 2 ^ 1000:=by
    have:(j.natAbs:Int) < ((2 ^ 1000:Nat):Int):=by
      rw [Int.natAbs_of_nonneg (by omega)]
      exact_mod_cast h2
    exact_mod_cast this
  have h4:=(Nat.log2_lt (by omega)).mpr h3
  omega
theorem flat_bls (ns:List Bool):(ns.map V.bl).all flatV=true:=by
  rw [List.all_map];exact List.all_eq_true.mpr fun _ _=>rfl
def rCountB:V→List V→Hp→VK→Prop:=fun x vs H Q=>∃ (l:Addr) (ns:List Bool) (y:Bool),x=.ref l∧vs=[.bl y]∧H l=some (.lst (ns.map V.bl))∧Q (.int ((ns.count y:Nat):Int)) H
theorem mt_countB:MtM X "list.count" rCountB:=by
  intro pins s σ H x vs v us Q I rx rv h
  obtain ⟨l,ns,y,rfl,rfl,hH,q⟩:=h
  cases rx
  obtain ⟨u,rfl,ru⟩:=rv.one
  have ru0:=ru
  cases (show u=Value.bool y from ru)
  obtain ⟨z,its,n,r,hz,e⟩:=I.lstM hH
  refine call_meets F.slot_list_count ⟨_,e,rfl⟩ F.entry_list_count (F.args_list_count_2 _ _) (SeqAt.list_countAt l its.toArray n none #[] (.bool y) (eqU (V.bl y))) ⟨e,fun u hu=>mem_eqAt (x:=V.bl y) ru0 rfl r (flat_bls ns) u (by simpa using hu),?_⟩
  have key:∀ (ms:List Bool) (us:List Value),Vals (ms.map V.bl) us→us.countP (eqU (V.bl y))=ms.count y:=by
    intro ms
    induction ms with
    | nil=>intro us hv;cases hv;rfl
    | cons m ms ih=>
      intro us hv
      cases hv with
      | cons h t=>
        cases (show _=Value.bool m from h)
        rw [List.countP_cons,List.count_cons,ih _ t]
        cases m <;> cases y <;> rfl
  have ek:its.toArray.toList.countP (eqU (V.bl y))=ns.count y:=by rw [List.toList_toArray];exact key ns its r
  exact ⟨.int _,H,I.tok _,⟨_,by rw [ek]⟩,q⟩
theorem pe_countB (K:PySem.W.Frag) {o e:Expr} {to te:TE} {apos cpos:Pos} (ho:PE X o to) (he:PE X e te) (hK:X.K=K:=by rfl) (hbase:attributeBase o "count" X.env (eval o X.env)=eval o X.env:=by rfl)
    (h1:starEach [e] X.env=[(false,eval e X.env)]:=by rfl) (hl:(apos.endLine == cpos.line)=true:=by rfl) :
    PE X (.Call (.Attribute o "count" apos) [e] [] cpos) (tBM K "list" rCountB to (tCons te tNil)):=by
  subst hK
  exact pe_bm PySem.F.plainAttrs_list PySem.F.slot_list_count PySem.F.type_list_count mt_countB ho (pa_cons he pa_nil h1) hbase (by rw [h1];rfl) hl h1 (by rfl)
def rIndexT:V→List V→Hp→VK→Prop:=fun x vs H Q=>∃ (l:Addr) (ss:List Bool) (y:Bool),x=.ref l∧vs=[.bl y]∧H l=some (.lst (ss.map V.bl))∧y∈ss∧ss.length≤10000∧Q (.int ((ss.idxOf y:Nat):Int)) H
theorem mt_indexT:MtM X "list.index" rIndexT:=by
  intro pins s σ H x vs v us Q I rx rv h
  obtain ⟨l,ss,y,rfl,rfl,hH,hm,hl,q⟩:=h
  cases rx
  obtain ⟨u,rfl,ru⟩:=rv.one
  have ru0:=ru
  cases (show u=Value.bool y from ru)
  obtain ⟨z,its,n,r,hz,e⟩:=I.lstM hH
  have rl:=r.length
  rw [List.length_map] at rl
  have jl:ss.idxOf y < ss.length:=List.idxOf_lt_length_of_mem hm
  have key:∀ (j:Nat) (hj:j < its.toArray.size),eqU (V.bl y) its.toArray[j]=(ss[j]'(by rw [rl];simpa using hj) == y):=fun j hj=>by
    have hj':j < ss.length:=by rw [rl];simpa using hj
    obtain ⟨w',e1,e2⟩:=r.get (i:=j) (x:=V.bl (ss[j])) (by rw [List.getElem?_map,List.getElem?_eq_getElem hj'];rfl)
    cases (show w'=Value.bool ss[j] from e2)
    have:its.toArray[j]=Value.bool ss[j]:=by
      rw [List.getElem?_eq_getElem (by omega)] at e1
      simpa using Option.some.inj e1
    rw [this]
    generalize ss[j]=b
    cases b <;> cases y <;> rfl
  refine call_meets F.slot_list_index ⟨_,e,rfl⟩ F.entry_list_index (F.args_list_index_2 _ _) (SeqAt.list_indexAt l its.toArray n none #[] (.bool y) (eqU (V.bl y)) (ss.idxOf y) (by rw [List.size_toArray];omega) (by omega) ?_ ?_) ⟨e,fun u hu=>mem_eqAt (x:=V.bl y) ru0 rfl r (flat_bls ss) u (by simpa using hu),?_⟩
  · rw [key _ (by rw [List.size_toArray];omega),List.getElem_idxOf jl];exact beq_self_eq_true y
  · intro m hm' hlt
    rw [key m hm']
    have:=List.not_of_lt_findIdx (p:=(· == y)) (xs:=ss) (i:=m) hlt
    simpa using this
  · exact ⟨.int _,H,I.tok _,⟨_,rfl⟩,q⟩
theorem pe_indexT (K:PySem.W.Frag) {o e:Expr} {to te:TE} {apos cpos:Pos} (ho:PE X o to) (he:PE X e te) (hK:X.K=K:=by rfl) (hbase:attributeBase o "index" X.env (eval o X.env)=eval o X.env:=by rfl)
    (h1:starEach [e] X.env=[(false,eval e X.env)]:=by rfl) (hl:(apos.endLine == cpos.line)=true:=by rfl) :
    PE X (.Call (.Attribute o "index" apos) [e] [] cpos) (tBM K "list" rIndexT to (tCons te tNil)):=by
  subst hK
  exact pe_bm PySem.F.plainAttrs_list PySem.F.slot_list_index PySem.F.type_list_index mt_indexT ho (pa_cons he pa_nil h1) hbase (by rw [h1];rfl) hl h1 (by rfl)
end
end L2
namespace L2
open PySem PySem.Spec PyProof.Rows PySem.W
section
variable {X:Cx}
theorem op_ne_nil (hu:X.A.units < cLine):OpR X (compareOp .NotEq) (fun x y H Q=>∃ a b xs,x=.ref a∧y=.ref b∧SqL X.K H a xs∧SqL X.K H b []∧Q (.bl (!xs.isEmpty)) H):=by
  intro pins s σ H x y v u Q I rx ry h
  obtain ⟨a,b,xs,rfl,rfl,h1,h2,q⟩:=h
  cases xs with
  | nil=>exact op_ne_lst hu pins s σ H _ _ v u Q I rx ry ⟨a,b,[],[],rfl,rfl,h1,h2,rfl,rfl,q⟩
  | cons z zs=>
    cases (show v=Value.ref a from rx)
    cases (show u=Value.ref b from ry)
    obtain ⟨us,r1,l1,_⟩:=I.list h1
    obtain ⟨ws,r2,l2,_⟩:=I.list h2
    have e1:=r1.length
    have e2:=r2.length
    rw [List.length_cons] at e1
    rw [List.length_nil] at e2
    exact SeqAt.RcNeAt.lists_lengths l1.isList l2.isList (by simp;omega) hu _ _ _ _ ⟨.bl _,H,I,rfl,q⟩
end
end L2
namespace L2
open PySem PySem.Spec PyProof.Rows PySem.W
abbrev IsZipB (h:Heap) (z TI TO p:Addr) (b:Bool):Prop:=h.get? z=some { cls:=.type "zip", data:=.fields #[rawInt (p:Int),.bool b,.bool false,.ref TI,.ref TO] }
section
variable {prog:Program} {w:World} {A:Around} {E:Value→Shared→Prop} {s:Shared}
end
def ZSt (κ1 κ2:SK) (z TI TO i1 i2:Addr) (k:Nat) (h:Heap):Prop:=
  ((IsZip h z TI TO .none)∨∃ p b,IsZipB h z TI TO p b∧(∃ o,h.get? p=some o))∧IsPair h TI (.ref i1) (.ref i2)∧(∃ a b,IsPair h TO a b)∧κ1.own i1 k h∧κ2.own i2 k h
theorem ZSt.keep {κ1 κ2:SK} {z TI TO i1 i2:Addr} {k:Nat} {h h':Heap} (x:ZSt κ1 κ2 z TI TO i1 i2 k h) (k1:∀ b∈[z,TI,TO,i1,i2],∀ o,h.get? b=some o→h'.get? b=some o) (k2:∀ b o,h.get? b=some o→∃ o',h'.get? b=some o'):ZSt κ1 κ2 z TI TO i1 i2 k h':=by
  obtain ⟨hz,hTI,⟨a,c,hTO⟩,h1,h2⟩:=x
  refine ⟨?_,k1 TI (by simp) _ hTI,⟨a,c,k1 TO (by simp) _ hTO⟩,SK.own_at h1 fun o q=>k1 i1 (by simp) o q,SK.own_at h2 fun o q=>k1 i2 (by simp) o q⟩
  rcases hz with hz | ⟨p,b,hz,o,hp⟩
  · exact .inl (k1 z (by simp) _ hz)
  · exact .inr ⟨p,b,k1 z (by simp) _ hz,k2 _ _ hp⟩
section
variable {X:Cx} {pins:List (Addr × Obj)} {σ:St} {H:Hp} {s:Shared} {A:Around} {E:Value→Shared→Prop} {κ1 κ2:SK} {z TI TO i1 i2:Addr}
end
def NewTups (H0 H:Hp) (as:List Addr) (xs ys:List V):Prop:=
  as.Nodup∧(∀ b,b ∉ as→H b=H0 b)∧∀ (i:Nat) (a:Addr),as[i]?=some a→H0 a=none∧∃ x y,xs[i]?=some x∧ys[i]?=some y∧H a=some (.tup [x,y])
theorem NewTups.nil {H:Hp} {xs ys:List V}:NewTups H H [] xs ys:=⟨List.nodup_nil,fun _ _=>rfl,fun i a e=>by simp at e⟩
theorem NewTups.same {H0 H:Hp} {as:List Addr} {xs ys:List V} (n:NewTups H0 H as xs ys):Same H0 H:=fun b u e=>by
  have nb:b ∉ as:=fun hb=>by
    obtain ⟨i,hi⟩:=List.getElem?_of_mem hb
    rw [(n.2.2 i b hi).1] at e;cases e
  exact (n.2.1 b nb).trans e
theorem NewTups.push {H0 H:Hp} {as:List Addr} {xs ys:List V} {p:Addr} {x y:V} (n:NewTups H0 H as xs ys) (hp:H p=none) (hx:xs[as.length]?=some x) (hy:ys[as.length]?=some y):NewTups H0 (upd H p (.tup [x,y])) (as++[p]) xs ys:=by
  have np:p ∉ as:=fun hm=>by
    obtain ⟨i,hi⟩:=List.getElem?_of_mem hm
    obtain ⟨_,x,y,_,_,e⟩:=n.2.2 i p hi
    rw [hp] at e;cases e
  refine ⟨List.nodup_append.mpr ⟨n.1,by simp,fun a ha b hb=>by simp at hb;subst hb;exact fun e=>np (e ▸ ha)⟩,fun b hb=>?_,fun i a e=>?_⟩
  · have h1:b ∉ as:=fun q=>hb (by simp [q])
    have h2:b≠p:=fun q=>hb (by simp [q])
    rw [upd_ne h2];exact n.2.1 b h1
  · rcases Nat.lt_or_ge i as.length with q | q
    · rw [List.getElem?_append_left q] at e
      obtain ⟨e1,x,y,e2,e3,e4⟩:=n.2.2 i a e
      exact ⟨e1,x,y,e2,e3,by rw [upd_ne (fun z=>np (by rw [← z];exact List.mem_of_getElem? e))];exact e4⟩
    · have q0:i=as.length:=by
        have:=(List.getElem?_eq_some_iff.mp e).1
        simp at this;omega
      subst q0
      have ea:p=a:=by simpa using e
      subst ea
      exact ⟨by rw [← n.2.1 p np];exact hp,x,y,hx,hy,upd_same⟩
section
variable {X:Cx} {pins:List (Addr × Obj)} {σ:St} {A:Around} {κ1 κ2:SK} {z TI TO i1 i2 S:Addr} {xs ys:List V} {H0:Hp} {res:Value} {R:Result→Shared→Prop} {g0:Array GenState} {d0:Drawn} {o0:OsState}
end
end L2
namespace L2
open PySem PySem.Spec PyProof.Rows PySem.W Tim
section
variable {prog:Program} {w:World} {A:Around} {E:Value→Shared→Prop} {s:Shared}
end
section
variable {X:Cx} {pins:List (Addr × Obj)} {σ:St} {H:Hp} {s:Shared} {A:Around} {E:Value→Shared→Prop} {κ1 κ2:SK} {z TI TO i1 i2:Addr} {xs ys:List V}
theorem ZSt.zip {k:Nat} {h:Heap} (x:ZSt κ1 κ2 z TI TO i1 i2 k h):∃ o,h.get? z=some o∧o.cls=.type "zip" := by
  rcases x.1 with e | ⟨_,_,e,_⟩
  · exact ⟨_,e,rfl⟩
  · exact ⟨_,e,rfl⟩
end
end L2
namespace L2
open PySem PySem.Spec PyProof.Rows PySem.W
def Best (kf:Nat→Int) (b j:Nat):Prop:=b < j∧∀ i,i < j→kf i≤kf b∧(i < b→kf i < kf b)
theorem Best.one (kf:Nat→Int):Best kf 0 1:=⟨by omega,fun i hi=>⟨by rw [show i=0 by omega];exact Int.le_refl _,fun h=>by omega⟩⟩
theorem Best.stay {kf:Nat→Int} {b j:Nat} (h:Best kf b j) (hn:¬ kf b < kf j):Best kf b (j+1):=⟨by have:=h.1;omega,fun i hi=>by
  rcases Nat.lt_or_ge i j with q | q
  · exact h.2 i q
  · have:i=j:=by omega
    subst this
    exact ⟨by omega,fun z=>by have:=h.1;omega⟩⟩
theorem Best.new {kf:Nat→Int} {b j:Nat} (h:Best kf b j) (hn:kf b < kf j):Best kf j (j+1):=⟨by omega,fun i hi=>by
  rcases Nat.lt_or_ge i j with q | q
  · have:=(h.2 i q).1
    exact ⟨by omega,fun _=>by omega⟩
  · have:i=j:=by omega
    subst this
    exact ⟨Int.le_refl _,fun z=>by omega⟩⟩
section
variable {X:Cx} {pins:List (Addr × Obj)} {σ:St}
variable {A:Around} {R:Result→Shared→Prop} {H0:Hp} {a fa S It:Addr} {xs:List V} {kf:Nat→Int}
end
section
variable {X:Cx}
end
end L2
namespace L2
open PySem PySem.Spec PyProof.Rows PySem.W
section
variable {prog:Program} {w:World} {A:Around} {E:Value→Shared→Prop} {s:Shared}
theorem SetA.empty {led:Bool} {h:Heap} {r:Addr} {n:Nat} (x:SetA w led h r [] n):∃ ep t,h.get? r=some { cls:=.type "set", data:=.set #[] ep t }∧SetS w led #[] t []:=by
  obtain ⟨es,ep,t,hg,hS,_⟩:=x
  have:es=#[]:=by
    have e:es.toList=[]:=by
      refine List.eq_nil_iff_forall_not_mem.mpr fun e he=>?_
      have:=(hS.mem (keyOf e)).mp (List.mem_map.mpr ⟨e,he,rfl⟩)
      cases this
    simpa using e
  subst this
  exact ⟨ep,t,hg,hS⟩
end
section
variable {X:Cx}
end
end L2
namespace L2
open PySem
theorem mid {t u:TS} {D:Ends} {σ:St} {H:Hp} (P:St→Hp→Prop) (h2:∀ σ' H',P σ' H'→u D σ' H') (h1:∀ E:Ends,(∀ σ' H',P σ' H'→E.nx σ' H')→t E σ H):tSeq t u D σ H:=h1 { D with nx:=u D } h2
end L2
namespace L2
open PySem PySem.Spec PyProof.Rows PySem.W
mutual
inductive Td (H:Hp):V→PyData→Prop
  | non:Td H .non .none
  | bl (b:Bool):Td H (.bl b) (.bool b)
  | int (i:Int):Td H (.int i) (.int i)
  | str (z:Str):Td H (.str z) (.str z)
  | lst {a:Addr} {xs:List V} {ds:List PyData}:H a=some (.lst xs)→Tds H xs ds→Td H (.ref a) (.list ds)
  | tup {a:Addr} {xs:List V} {ds:List PyData}:H a=some (.tup xs)→Tds H xs ds→Td H (.ref a) (.tuple ds)
  | dct {a:Addr} {kvs:List (Key × V)} {ps:List (PyData × PyData)}:H a=some (.dK kvs)→Tds H (kvs.map fun p=>kV p.1) (ps.map (·.1))→Tds H (kvs.map (·.2)) (ps.map (·.2))→Td H (.ref a) (.dict ps)
inductive Tds (H:Hp):List V→List PyData→Prop
  | nil:Tds H [] []
  | cons {v:V} {d:PyData} {vs:List V} {ds:List PyData}:Td H v d→Tds H vs ds→Tds H (v :: vs) (d :: ds)
end
mutual
theorem Td.same {H H':Hp} (s:Same H H'):∀ {v:V} {d:PyData},Td H v d→Td H' v d
  | _,_,.non=>.non
  | _,_,.bl b=>.bl b
  | _,_,.int i=>.int i
  | _,_,.str z=>.str z
  | _,_,.lst e t=>.lst (s _ _ e) (t.same s)
  | _,_,.tup e t=>.tup (s _ _ e) (t.same s)
  | _,_,.dct e t u=>.dct (s _ _ e) (t.same s) (u.same s)
theorem Tds.same {H H':Hp} (s:Same H H'):∀ {vs:List V} {ds:List PyData},Tds H vs ds→Tds H' vs ds
  | _,_,.nil=>.nil
  | _,_,.cons t u=>.cons (t.same s) (u.same s)
end
mutual
def noList:PyData→Bool
  | .none | .bool _ | .int _ | .str _=>true
  | .list _=>false
  | .tuple xs=>noListAll xs
  | .dict kvs=>noListKv kvs
def noListAll:List PyData→Bool
  | []=>true
  | x :: xs=>noList x && noListAll xs
def noListKv:List (PyData × PyData)→Bool
  | []=>true
  | (k,v) :: r=>noList k && noList v && noListKv r
end
theorem noListKv_keys:∀ kvs:List (PyData × PyData),noListKv kvs=true→noListAll (kvs.map (·.1))=true∧noListAll (kvs.map (·.2))=true
  | [],_=>⟨by simp only [List.map_nil,noListAll],by simp only [List.map_nil,noListAll]⟩
  | (k,v) :: r,h=>by
    simp only [noListKv,Bool.and_eq_true] at h
    obtain ⟨a,b⟩:=noListKv_keys r h.2
    simp only [List.map_cons,noListAll,Bool.and_eq_true]
    exact ⟨⟨h.1.1,a⟩,⟨h.1.2,b⟩⟩
theorem pairs_vals {P:Program} {w:World} {es:List DictEntry} {vs:List (Key × Value)} (h:Pairs (mixKind P w) es vs):∀ {kvs:List (Key × V)},KV kvs vs→Vals (kvs.map fun p=>kV p.1) (es.map (·.key))∧Vals (kvs.map (·.2)) (es.map (·.val)):=by
  induction h with
  | nil=>intro kvs r;cases r;exact ⟨.nil,.nil⟩
  | cons hk hv _ ih=>
    intro kvs r
    cases r with
    | cons r1 r2=>
      obtain ⟨a,b⟩:=ih r2
      refine ⟨.cons ?_ a,.cons (by show RelV _ _;simp only [hv];exact r1.2) b⟩
      show RelV (kV _) _
      simp only [r1.1]
      rcases keyIs_shape hk with ⟨i,t,e,e'⟩ | ⟨x,t,e,e'⟩
      · rw [e,e'];exact ⟨t,rfl⟩
      · rw [e,e'];exact ⟨t,rfl⟩
section
variable {X:Cx} {pins:List (Addr × Obj)} {σ:St} {H:Hp} {s:Shared}
mutual
theorem reads_td (I:Inv X pins σ H s):∀ {v:V} {d:PyData},Td H v d→∀ {u:Value},RelV v u→∃ as,Reads s.heap u d as∧(noList d=true→sysModules ∉ as)
  | _,_,.non,_,r=>by cases r;exact ⟨[],.none,fun _ h=>by cases h⟩
  | _,_,.bl b,_,r=>by cases r;exact ⟨[],.bool b,fun _ h=>by cases h⟩
  | _,_,.int i,_,r=>by obtain ⟨t,rfl⟩:=r;exact ⟨[],.int i t,fun _ h=>by cases h⟩
  | _,_,.str z,_,r=>by obtain ⟨t,rfl⟩:=r;exact ⟨[],.str z t,fun _ h=>by cases h⟩
  | _,_,.lst e t,_,r=>by
    cases r
    obtain ⟨_,its,n,rv,g⟩:=I.hok _ _ e
    obtain ⟨as,ra,_⟩:=reads_tds I t rv
    exact ⟨_,.list g rfl rfl ra,fun h=>by simp only [noList] at h;cases h⟩
  | _,_,.tup e t,_,r=>by
    cases r
    obtain ⟨_,its,rv,o,g,c,n,dd⟩:=I.hok _ _ e
    obtain ⟨as,ra,na⟩:=reads_tds I t rv
    exact ⟨as,.tuple g c dd ra,fun h=>na (by simpa only [noList] using h)⟩
  | _,_,.dct e t u,_,r=>by
    cases r
    obtain ⟨_,hs,vs,kv,o,es,ep,g,ex,dd,_,pr,_⟩:=I.hok _ _ e
    obtain ⟨v1,v2⟩:=pairs_vals pr kv
    obtain ⟨as,ra,na⟩:=reads_tds I t v1
    obtain ⟨bs,rb,nb⟩:=reads_tds I u v2
    refine ⟨_,.dict g ex.1 dd ra rb,fun h=>?_⟩
    simp only [noList] at h
    obtain ⟨h1,h2⟩:=noListKv_keys _ h
    intro m
    rcases List.mem_append.mp m with m | m
    · rcases List.mem_cons.mp m with m | m
      · exact beq_eq_false_iff_ne.mp hs m.symm
      · exact na h1 m
    · exact nb h2 m
theorem reads_tds (I:Inv X pins σ H s):∀ {vs:List V} {ds:List PyData},Tds H vs ds→∀ {us:List Value},Vals vs us→∃ as,ReadsAll s.heap us ds as∧(noListAll ds=true→sysModules ∉ as)
  | _,_,.nil,_,r=>by cases r;exact ⟨[],.nil,fun _ h=>by cases h⟩
  | _,_,.cons t u,_,r=>by
    cases r with
    | cons r1 r2=>
      obtain ⟨as,ra,na⟩:=reads_td I t r1
      obtain ⟨bs,rb,nb⟩:=reads_tds I u r2
      refine ⟨as++bs,.cons ra rb,fun h=>?_⟩
      simp only [noListAll,Bool.and_eq_true] at h
      intro m
      rcases List.mem_append.mp m with m | m
      · exact na h.1 m
      · exact nb h.2 m
end
structure Fit (d:PyData):Prop where
  sh:d.showable=true
  lv:d.leavesShort 61=true
  wt:d.weight≤200000
  dp:d.depth≤20
  md:d.hasDict=false∨noList d=true
theorem Fit.sz {d:PyData} (f:Fit d):d.shown.length≤sizeLine:=by
  have h:=PyData.shown_le 61 (by decide) d f.lv
  have:=f.wt
  rw [sizeLine_eq]
  omega
variable {k:Nat}
end
section
variable {H:Hp}
theorem Tds.len:∀ {vs:List V} {ds:List PyData},Tds H vs ds→vs.length=ds.length
  | _,_,.nil=>rfl
  | _,_,.cons _ u=>by rw [List.length_cons,List.length_cons,u.len]
theorem Tds.append:∀ {vs:List V} {ds:List PyData},Tds H vs ds→∀ {ws:List V} {es:List PyData},Tds H ws es→Tds H (vs++ws) (ds++es)
  | _,_,.nil,_,_,t=>t
  | _,_,.cons a u,_,_,t=>.cons a (u.append t)
theorem Tds.one {v:V} {d:PyData} (t:Td H v d):Tds H [v] [d]:=.cons t .nil
theorem Tds.take:∀ {vs:List V} {ds:List PyData} (n:Nat),Tds H vs ds→Tds H (vs.take n) (ds.take n)
  | _,_,0,_=>.nil
  | _,_,_+1,.nil=>.nil
  | _,_,n+1,.cons a u=>.cons a (u.take n)
theorem Tds.drop:∀ {vs:List V} {ds:List PyData} (n:Nat),Tds H vs ds→Tds H (vs.drop n) (ds.drop n)
  | _,_,0,t=>t
  | _,_,_+1,.nil=>.nil
  | _,_,n+1,.cons a u=>u.drop n
theorem Tds.reverse:∀ {vs:List V} {ds:List PyData},Tds H vs ds→Tds H vs.reverse ds.reverse
  | _,_,.nil=>.nil
  | _,_,.cons a u=>by rw [List.reverse_cons,List.reverse_cons];exact u.reverse.append (.one a)
theorem Tds.get:∀ {vs:List V} {ds:List PyData} {i:Nat} {v:V},Tds H vs ds→vs[i]?=some v→∃ d,ds[i]?=some d∧Td H v d
  | _,_,_,_,.nil,e=>by simp at e
  | _,_,0,_,.cons a u,e=>by simp at e;subst e;exact ⟨_,rfl,a⟩
  | _,_,i+1,_,.cons a u,e=>u.get (i:=i) (by simpa using e)
theorem Tds.ints (ns:List Int):Tds H (ns.map V.int) (ns.map PyData.int):=by
  induction ns with
  | nil=>exact .nil
  | cons n ns ih=>exact .cons (.int n) ih
end
structure Gd (hd hl:Bool) (c e:Nat) (d:PyData):Prop where
  sh:d.showable=true
  lv:d.leavesShort 61=true
  wt:d.weight≤c
  dp:d.depth≤e
  nd:hd=false→d.hasDict=false
  nl:hl=false→noList d=true
structure Gs (hd hl:Bool) (c e:Nat) (ds:List PyData):Prop where
  sh:PyData.showableAll ds=true
  lv:PyData.leavesShortAll 61 ds=true
  wt:PyData.weightAll ds≤c
  dp:PyData.depthAll ds≤e
  nd:hd=false→PyData.hasDictAll ds=false
  nl:hl=false→noListAll ds=true
section
variable {hd hl:Bool} {c c' e e':Nat} {d:PyData} {ds es:List PyData}
theorem Gd.fit (g:Gd hd hl c e d) (h:hd=false∨hl=false) (hc:c≤200000) (he:e≤20):Fit d:=
  ⟨g.sh,g.lv,Nat.le_trans g.wt hc,Nat.le_trans g.dp he,h.imp g.nd g.nl⟩
theorem Gd.mono (g:Gd hd hl c e d) (hc:c≤c') (he:e≤e'):Gd hd hl c' e' d:=⟨g.sh,g.lv,Nat.le_trans g.wt hc,Nat.le_trans g.dp he,g.nd,g.nl⟩
theorem Gd.up (g:Gd false false c e d):Gd hd hl c e d:=⟨g.sh,g.lv,g.wt,g.dp,fun _=>g.nd rfl,fun _=>g.nl rfl⟩
theorem Gs.up (g:Gs false false c e ds):Gs hd hl c e ds:=⟨g.sh,g.lv,g.wt,g.dp,fun _=>g.nd rfl,fun _=>g.nl rfl⟩
theorem Gs.mono (g:Gs hd hl c e ds) (hc:c≤c') (he:e≤e'):Gs hd hl c' e' ds:=⟨g.sh,g.lv,Nat.le_trans g.wt hc,Nat.le_trans g.dp he,g.nd,g.nl⟩
theorem Gs.nil:Gs hd hl 0 0 []:=⟨by simp only [PyData.showableAll],by simp only [PyData.leavesShortAll],by simp only [PyData.weightAll];omega,by simp only [PyData.depthAll];omega,fun _=>by simp only [PyData.hasDictAll],fun _=>by simp only [noListAll]⟩
theorem Gs.cons (g:Gd hd hl c e d) (h:Gs hd hl c' e ds):Gs hd hl (c+1+c') e (d :: ds):=by
  have:=g.wt;have:=h.wt;have:=g.dp;have:=h.dp
  refine ⟨?_,?_,?_,?_,fun z=>?_,fun z=>?_⟩
  · simp only [PyData.showableAll,g.sh,h.sh,Bool.and_self]
  · simp only [PyData.leavesShortAll,g.lv,h.lv,Bool.and_self]
  · simp only [PyData.weightAll];omega
  · simp only [PyData.depthAll];omega
  · simp only [PyData.hasDictAll,g.nd z,h.nd z,Bool.or_self]
  · simp only [noListAll,g.nl z,h.nl z,Bool.and_self]
theorem Gs.uncons (g:Gs hd hl c e (d :: ds)):∃ c1 c2,Gd hd hl c1 e d∧Gs hd hl c2 e ds∧c1+1+c2≤c:=by
  obtain ⟨s,l,w,p,n,m⟩:=g
  simp only [PyData.showableAll,Bool.and_eq_true] at s
  simp only [PyData.leavesShortAll,Bool.and_eq_true] at l
  simp only [PyData.weightAll] at w
  simp only [PyData.depthAll] at p
  refine ⟨d.weight,PyData.weightAll ds,⟨s.1,l.1,Nat.le_refl _,by omega,fun z=>?_,fun z=>?_⟩,⟨s.2,l.2,Nat.le_refl _,by omega,fun z=>?_,fun z=>?_⟩,w⟩
  · have:=n z;simp only [PyData.hasDictAll,Bool.or_eq_false_iff] at this;exact this.1
  · have:=m z;simp only [noListAll,Bool.and_eq_true] at this;exact this.1
  · have:=n z;simp only [PyData.hasDictAll,Bool.or_eq_false_iff] at this;exact this.2
  · have:=m z;simp only [noListAll,Bool.and_eq_true] at this;exact this.2
theorem Gs.append:∀ {ds:List PyData} {c:Nat},Gs hd hl c e ds→Gs hd hl c' e es→Gs hd hl (c+c') e (ds++es)
  | [],c,_,h=>h.mono (by omega) (Nat.le_refl _)
  | d :: ds,c,g,h=>by
    obtain ⟨c1,c2,g1,g2,l⟩:=g.uncons
    exact (Gs.cons g1 (g2.append h)).mono (by omega) (Nat.le_refl _)
theorem Gs.drop:∀ {ds:List PyData} {c:Nat} (n:Nat),Gs hd hl c e ds→Gs hd hl c e (ds.drop n)
  | _,_,0,g=>g
  | [],c,_+1,g=>g
  | d :: ds,c,n+1,g=>by
    obtain ⟨c1,c2,g1,g2,l⟩:=g.uncons
    exact (g2.drop n).mono (by omega) (Nat.le_refl _)
theorem Gs.take:∀ {ds:List PyData} {c:Nat} (n:Nat),Gs hd hl c e ds→Gs hd hl c e (ds.take n)
  | _,_,0,g=>Gs.nil.mono (Nat.zero_le _) (Nat.zero_le _)
  | [],c,_+1,g=>g
  | d :: ds,c,n+1,g=>by
    obtain ⟨c1,c2,g1,g2,l⟩:=g.uncons
    exact (Gs.cons g1 (g2.take n)).mono (by omega) (Nat.le_refl _)
theorem Gs.one (g:Gd hd hl c e d):Gs hd hl (c+1) e [d]:=(Gs.cons g (Gs.nil.mono (Nat.le_refl 0) (Nat.zero_le e))).mono (by omega) (Nat.le_refl _)
theorem Gs.reverse:∀ {ds:List PyData} {c:Nat},Gs hd hl c e ds→Gs hd hl c e ds.reverse
  | [],c,g=>g
  | d :: ds,c,g=>by
    obtain ⟨c1,c2,g1,g2,l⟩:=g.uncons
    rw [List.reverse_cons]
    exact (g2.reverse.append (Gs.one g1)).mono (by omega) (Nat.le_refl _)
theorem Gs.all:∀ {ds:List PyData},(∀ d∈ds,Gd hd hl c e d)→Gs hd hl ((c+1) * ds.length) e ds
  | [],_=>Gs.nil.mono (Nat.zero_le _) (Nat.zero_le _)
  | d :: ds,h=>by
    refine (Gs.cons (h d List.mem_cons_self) (Gs.all (ds:=ds) fun x hx=>h x (List.mem_cons_of_mem _ hx))).mono ?_ (Nat.le_refl _)
    rw [List.length_cons,Nat.mul_succ];omega
theorem Gd.tup (g:Gs hd hl c e ds):Gd hd hl c (e+1) (.tuple ds):=
  ⟨by simp only [PyData.showable];exact g.sh,by simp only [PyData.leavesShort];exact g.lv,by simp only [PyData.weight];exact g.wt,by simp only [PyData.depth];have:=g.dp;omega,fun z=>by simp only [PyData.hasDict];exact g.nd z,fun z=>by simp only [noList];exact g.nl z⟩
theorem Gd.lst (g:Gs hd true c e ds):Gd hd true c (e+1) (.list ds):=
  ⟨by simp only [PyData.showable];exact g.sh,by simp only [PyData.leavesShort];exact g.lv,by simp only [PyData.weight];exact g.wt,by simp only [PyData.depth];have:=g.dp;omega,fun z=>by simp only [PyData.hasDict];exact g.nd z,fun z=>by cases z⟩
theorem Gd.non:Gd hd hl 0 0 .none:=⟨by simp only [PyData.showable],by simp only [PyData.leavesShort],by simp only [PyData.weight];omega,by simp only [PyData.depth];omega,fun _=>by simp only [PyData.hasDict],fun _=>by simp only [noList]⟩
theorem Gd.bl (b:Bool):Gd hd hl 0 0 (.bool b):=⟨by simp only [PyData.showable],by simp only [PyData.leavesShort],by simp only [PyData.weight];omega,by simp only [PyData.depth];omega,fun _=>by simp only [PyData.hasDict],fun _=>by simp only [noList]⟩
theorem Gd.str {z:Str} (h:∀ c∈z.cps.toList,c < 1000):Gd hd hl z.cps.size 0 (.str z):=⟨by simp only [PyData.showable],by
    simp only [PyData.leavesShort,List.all_eq_true,decide_eq_true_eq]
    intro c hc
    have:=h c hc
    have e:16 ^ 8=4294967296:=by decide
    omega,by simp only [PyData.weight];omega,by simp only [PyData.depth];omega,fun _=>by simp only [PyData.hasDict],fun _=>by simp only [noList]⟩
end
end L2
namespace L2
open PySem PySem.Spec PyProof.Rows PySem.W
theorem iteB {c:Bool} {A B:Prop} (h:c=false) (q:B):if c=true then A else B:=by rw [h];exact iteF q
end L2
namespace W56
open PySem
def S:Nat→Nat
  | 0=>0
  | m+1=>5 * S m+1
def it (x:Nat):Nat→Nat
  | 0=>x
  | m+1=>5 * it x m+1
theorem it_eq (x:Nat):∀ m,it x m=x+S m * (4 * x+1)
  | 0=>by simp [it,S]
  | m+1=>by
    show 5 * it x m+1=x+(5 * S m+1) * (4 * x+1)
    rw [it_eq x m,Nat.add_mul,Nat.mul_assoc]
    generalize S m * (4 * x+1)=q
    omega
theorem it_add (x:Nat) (a:Nat):∀ b,it x (a+b)=it (it x a) b
  | 0=>rfl
  | b+1=>by show 5 * it x (a+b)+1=5 * it (it x a) b+1;rw [it_add x a b]
theorem S_two (n:Nat):S (2 * n)=2 * (S n * (2 * S n+1)):=by
  have h:=it_eq 0 (n+n)
  rw [it_add,it_eq (it 0 n) n,it_eq 0 n] at h
  simp only [Nat.mul_zero,Nat.zero_add,Nat.mul_one] at h
  rw [show 2 * n=n+n by omega,← h,Nat.mul_add,Nat.mul_one]
  generalize hq:S n * (4 * S n)=q
  have e1:S n * (2 * S n+1)=S n * (2 * S n)+S n:=by rw [Nat.mul_add,Nat.mul_one]
  have e2:S n * (4 * S n)=2 * (S n * (2 * S n)):=by rw [show 4 * S n=2 * (2 * S n) by omega,Nat.mul_left_comm]
  rw [e1]
  omega
theorem S_par:∀ m,S m % 2=m % 2
  | 0=>rfl
  | m+1=>by show (5 * S m+1) % 2=(m+1) % 2;have:=S_par m;omega
theorem cop (k c:Nat):Nat.Coprime (2 ^ k) (2 * c+1):=by
  apply Nat.Coprime.pow_left
  show Nat.gcd 2 (2 * c+1)=1
  rw [Nat.gcd_rec,show (2 * c+1) % 2=1 by omega]
  rfl
theorem S_dvd:∀ k m,2 ^ k ∣ S m→2 ^ k ∣ m
  | 0,m,_=>⟨m,by simp⟩
  | k+1,m,h=>by
    have h2:2 ∣ S m:=Nat.dvd_trans ⟨2 ^ k,by rw [Nat.pow_succ,Nat.mul_comm]⟩ h
    have pm:=S_par m
    obtain ⟨n,rfl⟩:∃ n,m=2 * n:=⟨m / 2,by have:=Nat.mod_eq_zero_of_dvd h2;omega⟩
    rw [S_two,Nat.pow_succ,Nat.mul_comm (2 ^ k) 2] at h
    have h3:2 ^ k ∣ S n * (2 * S n+1):=Nat.dvd_of_mul_dvd_mul_left (by decide) h
    have h4:=(cop k (S n)).dvd_of_dvd_mul_right h3
    have h5:=S_dvd k n h4
    rw [Nat.pow_succ,Nat.mul_comm (2 ^ k) 2]
    exact Nat.mul_dvd_mul_left 2 h5
theorem it_inj {k x a b:Nat} (hab:a < b) (hb:b < 2 ^ k):¬ it x a % 2 ^ k=it x b % 2 ^ k:=by
  intro h
  obtain ⟨d,rfl⟩:∃ d,b=a+d:=⟨b - a,by omega⟩
  rw [it_add,it_eq (it x a) d] at h
  generalize it x a=y at h
  have h1:2 ^ k ∣ S d * (4 * y+1):=by
    have:=Nat.sub_mod_eq_zero_of_mod_eq h.symm
    rw [Nat.add_sub_cancel_left] at this
    exact Nat.dvd_of_mod_eq_zero this
  rw [show 4 * y+1=2 * (2 * y)+1 by omega] at h1
  have h2:=S_dvd k d ((cop k (2 * y)).dvd_of_dvd_mul_right h1)
  have:=Nat.le_of_dvd (by omega) h2
  omega
theorem full {l:List Nat} {M:Nat} (nd:l.Nodup) (lt:∀ x∈l,x < M) (len:M≤l.length) {j:Nat} (hj:j < M):j∈l:=by
  by_cases h:j∈l
  · exact h
  · have n2:(j :: l).Nodup:=List.nodup_cons.mpr ⟨h,nd⟩
    have:=n2.length_le_of_subset (l₂:=List.range M) fun x hx=>by
      rcases List.mem_cons.mp hx with z | z
      · rw [z];exact List.mem_range.mpr hj
      · exact List.mem_range.mpr (lt x z)
    rw [List.length_cons,List.length_range] at this
    omega
theorem it_all (k x j:Nat) (hj:j < 2 ^ k):∃ m,m < 2 ^ k∧it x m % 2 ^ k=j:=by
  have nd:((List.range (2 ^ k)).map fun m=>it x m % 2 ^ k).Nodup:=by
    rw [List.nodup_iff_pairwise_ne,List.pairwise_map]
    refine List.Pairwise.imp_of_mem ?_ (List.pairwise_lt_range (n:=2 ^ k))
    intro a b ha hb ab
    exact it_inj ab (List.mem_range.mp hb)
  have:=full nd (M:=2 ^ k) (fun y hy=>by
    obtain ⟨m,_,rfl⟩:=List.mem_map.mp hy
    exact Nat.mod_lt _ (Nat.pow_pos (by decide))) (by simp) hj
  obtain ⟨m,hm,e⟩:=List.mem_map.mp this
  exact ⟨m,List.mem_range.mp hm,e⟩
def road (mask:Nat) (i p:Nat):Nat→Nat × Nat
  | 0=>(i,p)
  | m+1=>SetTable.leap mask (road mask i p m).1 (road mask i p m).2
theorem road_p (mask i p:Nat):∀ m,(road mask i p m).2=p / 32 ^ m
  | 0=>by simp [road]
  | m+1=>by
    show (road mask i p m).2 / 32=p / 32 ^ (m+1)
    rw [road_p mask i p m,Nat.div_div_eq_div_mul,Nat.pow_succ]
theorem road_it {mask i p k m:Nat} (hM:mask+1=2 ^ k) (h0:∀ n,m≤n→(road mask i p n).2=0):∀ n,(road mask i p (m+n)).1 % 2 ^ k=it (road mask i p m).1 n % 2 ^ k
  | 0=>rfl
  | n+1=>by
    have ih:=road_it hM h0 n
    show ((road mask i p (m+n)).1 * 5+1+(road mask i p (m+n)).2 / 32) % (mask+1) % 2 ^ k=(5 * it (road mask i p m).1 n+1) % 2 ^ k
    rw [h0 (m+n) (by omega),hM,Nat.mod_mod]
    simp only [Nat.zero_div,Nat.add_zero]
    rw [Nat.add_mod,Nat.mul_comm,Nat.mul_mod,ih,← Nat.mul_mod,← Nat.add_mod]
theorem road_lt {mask i p:Nat} (hi:i < mask+1):∀ m,(road mask i p m).1 < mask+1
  | 0=>hi
  | m+1=>Nat.mod_lt _ (by omega)
theorem road_all {mask i p k j:Nat} (hM:mask+1=2 ^ k) (hi:i < mask+1) (hp:p < 32 ^ 13) (hj:j < mask+1):∃ m,m < mask+15∧(road mask i p m).1=j:=by
  have h0:∀ n,13≤n→(road mask i p n).2=0:=fun n hn=>by
    rw [road_p]
    exact Nat.div_eq_of_lt (Nat.lt_of_lt_of_le hp (Nat.pow_le_pow_right (by decide) hn))
  obtain ⟨m,hm,e⟩:=it_all k (road mask i p 13).1 j (by omega)
  refine ⟨13+m,by omega,?_⟩
  have:=road_it hM h0 m
  rw [e,← hM,Nat.mod_eq_of_lt (road_lt hi _)] at this
  exact this
theorem bits_lt (h:Int):SetTable.bits h < 32 ^ 13:=by
  unfold SetTable.bits
  have h1:=Int.emod_lt_of_pos h (show (0:Int) < 2 ^ 64 by decide)
  have h2:=Int.emod_nonneg h (show (2 ^ 64:Int)≠0 by decide)
  have e:(32:Nat) ^ 13=36893488147419103232:=by decide
  have e2:(2 ^ 64:Int)=18446744073709551616:=by decide
  rw [e]
  rw [e2] at h1 h2 ⊢
  omega
theorem road_shift (mask i p:Nat):∀ m,road mask i p (m+1)=road mask (SetTable.leap mask i p).1 (SetTable.leap mask i p).2 m
  | 0=>rfl
  | m+1=>by
    show SetTable.leap mask (road mask i p (m+1)).1 (road mask i p (m+1)).2=SetTable.leap mask (road mask (SetTable.leap mask i p).1 (SetTable.leap mask i p).2 m).1 (road mask (SetTable.leap mask i p).1 (SetTable.leap mask i p).2 m).2
    rw [road_shift mask i p m]
theorem free_none {mask:Nat} {owner:Array (Option Nat)}:∀ fuel i p,SetTable.layClean.free mask owner fuel i p=none→∀ m,m < fuel→(owner.getD (road mask i p m).1 (some 0)).isNone=false
  | 0,_,_,_,m,hm=>absurd hm (Nat.not_lt_zero _)
  | fuel+1,i,p,h,m,hm=>by
    unfold SetTable.layClean.free at h
    cases e:(List.range (SetTable.runEnd mask i+1 - i)).find? (fun k=>(owner.getD (i+k) (some 0)).isNone) with
    | some k=>rw [e] at h;cases h
    | none=>
      rw [e] at h
      cases m with
      | zero=>
        have hr:i≤SetTable.runEnd mask i:=by unfold SetTable.runEnd;split <;> omega
        have:=List.find?_eq_none.mp e 0 (List.mem_range.mpr (by omega))
        rw [Nat.add_zero] at this
        exact Bool.eq_false_iff.mpr this
      | succ m=>
        rw [road_shift]
        exact free_none fuel _ _ h m (by omega)
theorem free_ok {mask:Nat} {owner:Array (Option Nat)}:∀ fuel i p j,SetTable.layClean.free mask owner fuel i p=some j→(owner.getD j (some 0)).isNone=true
  | 0,_,_,_,h=>by unfold SetTable.layClean.free at h;cases h
  | fuel+1,i,p,j,h=>by
    unfold SetTable.layClean.free at h
    cases e:(List.range (SetTable.runEnd mask i+1 - i)).find? (fun k=>(owner.getD (i+k) (some 0)).isNone) with
    | some k=>
      rw [e] at h
      cases h
      exact List.find?_some (p:=fun k=>(owner.getD (i+k) (some 0)).isNone) e
    | none=>
      rw [e] at h
      exact free_ok fuel _ _ j h
theorem free_some {mask k:Nat} {owner:Array (Option Nat)} (hM:mask+1=2 ^ k) {j:Nat} (hj:j < mask+1) (hn:(owner.getD j (some 0)).isNone=true) (h:Int) :
    ∃ j',SetTable.layClean.free mask owner (SetTable.turns mask) (SetTable.bits h % (mask+1)) (SetTable.bits h)=some j'∧(owner.getD j' (some 0)).isNone=true:=by
  cases e:SetTable.layClean.free mask owner (SetTable.turns mask) (SetTable.bits h % (mask+1)) (SetTable.bits h) with
  | some j'=>exact ⟨j',rfl,free_ok _ _ _ _ e⟩
  | none=>
    obtain ⟨m,hm,er⟩:=road_all hM (i:=SetTable.bits h % (mask+1)) (p:=SetTable.bits h) (Nat.mod_lt _ (by omega)) (bits_lt h) hj
    have:=free_none _ _ _ e m hm
    rw [er,hn] at this
    cases this
structure Own (mask:Nat) (owner:Array (Option Nat)) (js:List Nat):Prop where
  sz:owner.size=mask+1
  nd:js.Nodup
  lt:∀ j∈js,j < mask+1
  at_:∀ i j:Nat,js[i]?=some j→owner[j]?=some (some i)
  no:∀ j:Nat,j < mask+1→j ∉ js→owner[j]?=some none
theorem getD_none {owner:Array (Option Nat)} {j:Nat}:(owner.getD j (some 0)).isNone=true ↔ owner[j]?=some none:=by
  rw [Array.getD_eq_getD_getElem?]
  cases e:owner[j]? with
  | none=>simp
  | some v=>cases v <;> simp
theorem Own.step {mask k:Nat} {owner:Array (Option Nat)} {js:List Nat} (hM:mask+1=2 ^ k) (o:Own mask owner js) (hl:js.length < mask+1) (h:Int) :
    ∃ j,SetTable.layClean.free mask owner (SetTable.turns mask) (SetTable.bits h % (mask+1)) (SetTable.bits h)=some j∧Own mask (owner.setIfInBounds j (some js.length)) (js++[j]):=by
  obtain ⟨j0,hj0,hn0⟩:∃ j,j < mask+1∧j ∉ js:=by
    refine Classical.byContradiction fun hc=>?_
    have sub:∀ j∈List.range (mask+1),j∈js:=fun j hj=>Classical.byContradiction fun z=>hc ⟨j,List.mem_range.mp hj,z⟩
    have:=(List.nodup_range (n:=mask+1)).length_le_of_subset sub
    rw [List.length_range] at this
    omega
  obtain ⟨j,e,hn⟩:=free_some hM hj0 (getD_none.mpr (o.no j0 hj0 hn0)) h
  have hj:=getD_none.mp hn
  have jl:j < owner.size:=by
    obtain ⟨hh,_⟩:=Array.getElem?_eq_some_iff.mp hj
    exact hh
  have jn:j ∉ js:=fun z=>by
    obtain ⟨i,hi,ei⟩:=List.getElem_of_mem z
    have:=o.at_ i j (by rw [List.getElem?_eq_getElem hi,ei])
    rw [hj] at this
    cases this
  have sz:=o.sz
  refine ⟨j,e,⟨by rw [Array.size_setIfInBounds];exact sz,?_,?_,?_,?_⟩⟩
  · rw [List.nodup_append]
    exact ⟨o.nd,by simp,fun a ha b hb z=>jn (by rw [← List.mem_singleton.mp hb,← z];exact ha)⟩
  · intro i hi
    rcases List.mem_append.mp hi with z | z
    · exact o.lt i z
    · rw [List.mem_singleton.mp z];omega
  · intro i j' hi
    rcases Nat.lt_or_ge i js.length with z | z
    · rw [List.getElem?_append_left z] at hi
      have ne:j≠j':=fun y=>jn (by rw [y];exact List.mem_of_getElem? hi)
      rw [Array.getElem?_setIfInBounds_ne ne]
      exact o.at_ i j' hi
    · rw [List.getElem?_append_right z] at hi
      have e0:i - js.length=0:=by
        have:=(List.getElem?_eq_some_iff.mp hi).1
        simp at this;omega
      rw [e0] at hi
      obtain rfl:j=j':=by simpa using hi
      rw [Array.getElem?_setIfInBounds_self_of_lt jl,show i=js.length by omega]
  · intro j' h1 h2
    have ne:j≠j':=fun y=>h2 (by rw [y];simp)
    rw [Array.getElem?_setIfInBounds_ne ne]
    exact o.no j' h1 fun z=>h2 (List.mem_append_left _ z)
theorem Own.start (mask:Nat):Own mask (Array.replicate (mask+1) none) []:=
  ⟨by simp,List.nodup_nil,(fun j h=>by cases h),(fun i j h=>by cases h),fun j h _=>by rw [Array.getElem?_replicate,if_pos h]⟩
end W56
namespace W56
open PySem
end W56
namespace L2
open PySem PySem.Spec PyProof.Rows PySem.W
section
variable {prog:Program} {w:World} {A:Around} {E:Value→Shared→Prop} {s:Shared}
theorem SetS.perm {led:Bool} {es es':Array (Int × Value)} {t t':SetTable} {S:List Str} (h:SetS w led es t S) (p:es'.toList.Perm es.toList) (f:t'.fits es'.size=true) (l:t'.led=led) (q:es'.size=0∨t'.plain=false):SetS w led es' t' S where
  ent:=fun e he=>h.ent e (p.mem_iff.mp he)
  nd:=by rw [(keyOf_perm p).nodup_iff];exact h.nd
  mem:=fun y=>by rw [(keyOf_perm p).mem_iff];exact h.mem y
  fit:=f
  led:=l
  pl:=q
end
section
variable {X:Cx}
end
end L2
namespace L2
open PySem PySem.Spec PyProof.Rows PySem.W
section
variable {X:Cx}
end
theorem Gd.int {hd hl:Bool} {i:Int} (h:i.natAbs < 10 ^ 12):Gd hd hl 41 0 (.int i):=by
  have s1:=ints_showable (ns:=[i]) (fun n hn=>by rw [List.mem_singleton.mp hn];exact h)
  simp only [PyData.showable,List.map_cons,List.map_nil,PyData.showableAll,Bool.and_true] at s1
  refine ⟨by simp only [PyData.showable];exact s1,?_,?_,by simp only [PyData.depth];omega,fun _=>by simp only [PyData.hasDict],fun _=>by simp only [noList]⟩
  · simp only [PyData.leavesShort,decide_eq_true_eq]
    exact Nat.le_trans (PyData.shown_int_le h) (by decide)
  · have:=weight_ints [i] (fun n hn=>by rw [List.mem_singleton.mp hn];exact h)
    simp only [List.map_cons,List.map_nil,PyData.weightAll,List.length_singleton] at this
    omega
end L2
namespace L2
open PySem PySem.Spec PyProof.Rows PySem.W
structure PSw (X:Cx) (sts:List Stmt) (t:TS):Prop where
  h:PSs X sts t
structure Pw (X:Cx) (st:Stmt) (t:TS):Prop where
  h:PS X st t
structure PEw (X:Cx) (e:Expr) (t:TE):Prop where
  h:PE X e t
structure PAw (X:Cx) (es:List Expr) (t:TA):Prop where
  h:PA X es t
section
variable {X:Cx}
theorem exw {sts:List Stmt} {R:TS→Prop} (h:∃ t,PSw X sts t∧R t):∃ t,PSs X sts t∧R t:=let ⟨t,a,b⟩:=h;⟨t,a.h,b⟩
theorem w_cons {st:Stmt} {rest:List Stmt} {t u:TS} (h1:Pw X st t) (h2:PSw X rest u):PSw X (st :: rest) (tSeq t u):=⟨pss_cons h1.h h2.h⟩
theorem w_one {st:Stmt} {t:TS} (h:Pw X st t):PSw X [st] t:=⟨pss_one h.h⟩
theorem w_set {i:Nat} {x:Str} {e:Expr} {te:TE} {pos' pos:Pos} (hN:X.N.Nodup) (hi:X.N[i]?=some x) (hx:Loc X.env.scope x) (he:PEw X e te) (hs:swapsWith e (some (.Name x pos')) pos.line X.env=pure false:=by rfl) (hf:X.fn x=true∨X.env.scope.names.lookup x=some .local:=by first | exact .inl rfl | exact .inr rfl | assumption) :
    Pw X (.Assign [.Name x pos'] e pos) (tAsg te (gName i)):=⟨ps_set hN hi hx he.h hs hf⟩
theorem w_ret {e:Expr} {te:TE} {pos:Pos} (he:PEw X e te):Pw X (.Return (some e) pos) (tRet te):=⟨ps_ret he.h⟩
theorem w_op {a b:Expr} {ta tb:TE} {pos:Pos} {op:Operator} {r:R2} (ho:OpR X (binaryOp op) r) (ha:PEw X a ta) (hb:PEw X b tb):PEw X (.BinOp a op b pos) (tOp r ta tb):=⟨pe_op ho ha.h hb.h⟩
theorem w_lst {es:List Expr} {t:TA} {pos:Pos} (h:PAw X es t):PEw X (.List es pos) (tLst t):=⟨pe_lst h.h⟩
theorem w_acons {e:Expr} {es:List Expr} {te:TE} {t:TA} (ha:PEw X e te) (hr:PAw X es t) (hs:starEach (e :: es) X.env=(false,eval e X.env) :: starEach es X.env:=by rfl):PAw X (e :: es) (tCons te t):=⟨pa_cons ha.h hr.h hs⟩
theorem w_anil:PAw X [] tNil:=⟨pa_nil⟩
theorem w_str {x:Str} {j} {pos:Pos}:PEw X (.Constant (.str x) j pos) (tC (.str x)):=⟨pe_str⟩
end
end L2
namespace W7
def wd (ups:List Int) (lab:List Nat):Nat→Nat→List Nat
  | 0,_=>[]
  | f+1,k=>lab.getD k 0 :: (if ups.getD k 0 < 0 then [] else wd ups lab f (ups.getD k 0).toNat)
structure TreeOk (ups:List Int) (lab:List Nat):Prop where
  len:ups.length=lab.length
  pos:0 < ups.length
  most:ups.length≤60
  root:ups.getD 0 0=-1
  up:∀ k,0 < k→k < ups.length→0≤ups.getD k 0∧ups.getD k 0 < (k:Int)
theorem TreeOk.lt {ups:List Int} {lab:List Nat} (t:TreeOk ups lab) {k:Nat} (h:k < ups.length) (h0:¬ ups.getD k 0 < 0):(ups.getD k 0).toNat < k:=by
  rcases Nat.eq_zero_or_pos k with e | e
  · subst e;have:=t.root;omega
  · have:=t.up k e h;omega
theorem TreeOk.neg {ups:List Int} {lab:List Nat} (t:TreeOk ups lab) {k:Nat} (h:k < ups.length):ups.getD k 0 < 0 ↔ ups.getD k 0=-1:=by
  rcases Nat.eq_zero_or_pos k with e | e
  · subst e;have:=t.root;omega
  · have:=t.up k e h;omega
theorem wd_fuel {ups:List Int} {lab:List Nat} (t:TreeOk ups lab):∀ (f g k:Nat),k < ups.length→k < f→k < g→wd ups lab f k=wd ups lab g k
  | 0,_,_,_,h,_=>absurd h (Nat.not_lt_zero _)
  | _+1,0,_,_,_,h=>absurd h (Nat.not_lt_zero _)
  | f+1,g+1,k,hk,hf,hg=>by
    simp only [wd]
    congr 1
    split
    · rfl
    · rename_i h0
      have:=t.lt hk h0
      exact wd_fuel t f g _ (by omega) (by omega) (by omega)
def W (ups:List Int) (lab:List Nat) (k:Nat):List Nat:=wd ups lab (k+1) k
theorem W_eq {ups:List Int} {lab:List Nat} (t:TreeOk ups lab) {k:Nat} (hk:k < ups.length):W ups lab k=lab.getD k 0 :: (if ups.getD k 0 < 0 then [] else W ups lab (ups.getD k 0).toNat):=by
  unfold W
  rw [wd]
  congr 1
  split
  · rfl
  · rename_i h0
    have:=t.lt hk h0
    exact wd_fuel t _ _ _ (by omega) (by omega) (by omega)
theorem W_len {ups:List Int} {lab:List Nat} (t:TreeOk ups lab):∀ (n k:Nat),k < n→k < ups.length→(W ups lab k).length≤k+1
  | 0,_,h,_=>absurd h (Nat.not_lt_zero _)
  | n+1,k,hn,hk=>by
    rw [W_eq t hk]
    split
    · simp
    · rename_i h0
      have:=t.lt hk h0
      have ih:=W_len t n (ups.getD k 0).toNat (by omega) (by omega)
      simp only [List.length_cons]
      omega
def R (ups:List Int) (lab:List Nat) (k:Int):List Nat:=if k < 0 then [] else W ups lab k.toNat
end W7
namespace S15
open PySem L2 W7
def top (i:Nat):Stmt:=PySem.Challenge.pw_upwords_k15_places_by_rank.main.body.getD i (.Pass ⟨0,0,0,0⟩)
abbrev s_is_whole:Stmt:=top 18
abbrev N_is_whole:List Str:=["thing"]
theorem sc_is_whole:FnScope N_is_whole ["thing"] (defScope s_is_whole):=⟨rfl,rfl,rfl,by decide +kernel,rfl,by decide +kernel,by decide +kernel⟩
abbrev s_is_number_below:Stmt:=top 19
abbrev N_is_number_below:List Str:=["thing", "behind"]
theorem sc_is_number_below:FnScope N_is_number_below ["thing", "behind"] (defScope s_is_number_below):=⟨rfl,rfl,rfl,by decide +kernel,rfl,by decide +kernel,by decide +kernel⟩
abbrev s_words_of:Stmt:=top 21
abbrev N_words_of:List Str:=["tree", "words", "letter", "up"]
theorem sc_words_of:FnScope N_words_of ["tree"] (defScope s_words_of):=⟨rfl,rfl,rfl,by decide +kernel,rfl,by decide +kernel,by decide +kernel⟩
abbrev s_order_of:Stmt:=top 23
abbrev N_order_of:List Str:=["tree", "words"]
theorem sc_order_of:FnScope N_order_of ["tree"] (defScope s_order_of):=⟨rfl,rfl,rfl,by decide +kernel,rfl,by decide +kernel,by decide +kernel⟩
abbrev s_stretch_of:Stmt:=top 25
abbrev N_stretch_of:List Str:=["tree", "word"]
theorem sc_stretch_of:FnScope N_stretch_of ["tree", "word"] (defScope s_stretch_of):=⟨rfl,rfl,rfl,by decide +kernel,rfl,by decide +kernel,by decide +kernel⟩
abbrev s_stretch_in:Stmt:=top 26
abbrev N_stretch_in:List Str:=["words", "word", "first"]
theorem sc_stretch_in:FnScope N_stretch_in ["words", "word"] (defScope s_stretch_in):=⟨rfl,rfl,rfl,by decide +kernel,rfl,by decide +kernel,by decide +kernel⟩
abbrev s_count_read:Stmt:=top 27
abbrev N_count_read:List Str:=["words", "word"]
theorem sc_count_read:FnScope N_count_read ["words", "word"] (defScope s_count_read):=⟨rfl,rfl,rfl,by decide +kernel,rfl,by decide +kernel,by decide +kernel⟩
abbrev s_nth_place:Stmt:=top 28
abbrev N_nth_place:List Str:=["tree", "word", "k", "stretch"]
theorem sc_nth_place:FnScope N_nth_place ["tree", "word", "k"] (defScope s_nth_place):=⟨rfl,rfl,rfl,by decide +kernel,rfl,by decide +kernel,by decide +kernel⟩
abbrev s_law_mixed:Stmt:=top 30
abbrev N_law_mixed:List Str:=["cell", "k", "primes", "one"]
theorem sc_law_mixed:FnScope N_law_mixed ["cell", "k"] (defScope s_law_mixed):=⟨rfl,rfl,rfl,by decide +kernel,rfl,by decide +kernel,by decide +kernel⟩
abbrev s_law_deck:Stmt:=top 31
abbrev N_law_deck:List Str:=["cell", "at"]
theorem sc_law_deck:FnScope N_law_deck ["cell", "at"] (defScope s_law_deck):=⟨rfl,rfl,rfl,by decide +kernel,rfl,by decide +kernel,by decide +kernel⟩
abbrev s_law_draw:Stmt:=top 32
abbrev N_law_draw:List Str:=["deck_here", "many", "drawn"]
theorem sc_law_draw:FnScope N_law_draw ["deck_here", "many"] (defScope s_law_draw):=⟨rfl,rfl,rfl,by decide +kernel,rfl,by decide +kernel,by decide +kernel⟩
abbrev s_law_some:Stmt:=top 33
abbrev N_law_some:List Str:=["deck_here", "things"]
theorem sc_law_some:FnScope N_law_some ["deck_here", "things"] (defScope s_law_some):=⟨rfl,rfl,rfl,by decide +kernel,rfl,by decide +kernel,by decide +kernel⟩
abbrev s_law_letter:Stmt:=top 34
abbrev N_law_letter:List Str:=["deck_here"]
theorem sc_law_letter:FnScope N_law_letter ["deck_here"] (defScope s_law_letter):=⟨rfl,rfl,rfl,by decide +kernel,rfl,by decide +kernel,by decide +kernel⟩
abbrev s_law_tree:Stmt:=top 35
abbrev N_law_tree:List Str:=["deck_here", "most", "many", "way", "own", "signs", "ups", "labels", "k", "road", "up", "at"]
theorem sc_law_tree:FnScope N_law_tree ["deck_here", "most"] (defScope s_law_tree):=⟨rfl,rfl,rfl,by decide +kernel,rfl,by decide +kernel,by decide +kernel⟩
abbrev s_law_words:Stmt:=top 36
abbrev N_law_words:List Str:=["tree_here", "found", "place", "above"]
theorem sc_law_words:FnScope N_law_words ["tree_here"] (defScope s_law_words):=⟨rfl,rfl,rfl,by decide +kernel,rfl,by decide +kernel,by decide +kernel⟩
abbrev s_law_sought:Stmt:=top 37
abbrev N_law_sought:List Str:=["deck_here", "words_here", "one", "at", "to", "more", "far", "ways"]
theorem sc_law_sought:FnScope N_law_sought ["deck_here", "words_here"] (defScope s_law_sought):=⟨rfl,rfl,rfl,by decide +kernel,rfl,by decide +kernel,by decide +kernel⟩
abbrev s_law_whole:Stmt:=top 38
abbrev N_law_whole:List Str:=["found", "due"]
theorem sc_law_whole:FnScope N_law_whole ["found", "due"] (defScope s_law_whole):=⟨rfl,rfl,rfl,by decide +kernel,rfl,by decide +kernel,by decide +kernel⟩
abbrev s_law_kind:Stmt:=top 39
abbrev N_law_kind:List Str:=["caught", "kinds", "others"]
theorem sc_law_kind:FnScope N_law_kind ["caught"] (defScope s_law_kind):=⟨rfl,rfl,rfl,by decide +kernel,rfl,by decide +kernel,by decide +kernel⟩
abbrev s_law_refused:Stmt:=top 40
abbrev N_law_refused:List Str:=["tree_here", "word", "k", "word_here", "e"]
theorem sc_law_refused:FnScope N_law_refused ["tree_here", "word", "k"] (defScope s_law_refused):=⟨rfl,rfl,rfl,by decide +kernel,rfl,by decide +kernel,by decide +kernel⟩
abbrev s_law:Stmt:=top 41
abbrev N_law:List Str:=["script", "at", "cell", "deck_here", "tree_here", "words_here", "word", "due", "odd", "ks", "k"]
theorem sc_law:FnScope N_law ["script"] (defScope s_law):=⟨rfl,rfl,rfl,by decide +kernel,rfl,by decide +kernel,by decide +kernel⟩
section
variable {P:Program} {w:World} {K:PySem.W.Frag} {mg:Str→Option Value} {base:Heap} {k:Nat}
def mk (l:List Nat):Str:=⟨l.toArray⟩
theorem mk_cps (l:List Nat):(mk l).cps.toList=l:=rfl
theorem mk_len (l:List Nat):(mk l).length=l.length:=by simp [mk,Str.length]
theorem str_ext {a b:Str} (h:a.cps.toList=b.cps.toList):a=b:=by
  obtain ⟨x⟩:=a;obtain ⟨y⟩:=b
  have:x=y:=Array.toList_inj.mp h
  rw [this]
theorem mk_app (c:Nat) (l:List Nat):(⟨#[c]⟩:Str)++mk l=mk (c :: l):=by
  apply str_ext
  rw [app_list]
  rfl
def TreeAt (H:Hp) (t:Addr) (ups:List Int) (lab:Str):Prop:=∃ u,H t=some (.tup [.ref u,.str lab])∧H u=some (.tup (ups.map V.int))∧TreeOk ups lab.cps.toList
theorem TreeAt.same {H H':Hp} {t:Addr} {ups:List Int} {lab:Str} (h:TreeAt H t ups lab) (s:Same H H'):TreeAt H' t ups lab:=by
  obtain ⟨u,a,b,c⟩:=h
  exact ⟨u,s _ _ a,s _ _ b,c⟩
def wordsV (ups:List Int) (lab:Str) (n:Nat):List V:=(List.range n).map fun j=>.str (mk (W ups lab.cps.toList j))
def sp_words:Sp:=fun vs H Q _=>∃ (t:Addr) (ups:List Int) (lab:Str),vs=[.ref t]∧TreeAt H t ups lab∧∀ (q:Addr) (H':Hp),Same H H'→H' q=some (.lst (wordsV ups lab ups.length))→Q (.ref q) H'
theorem has_words (D:Df K mg "words_of" s_words_of) (B:Blt mg):Has P w K mg base "words_of" (k+1) ["tree"] sp_words:=by
  refine D.has sc_words_of (fun _ _ _ _ _ _ us hl=>match us,hl with | [_],_=>rfl) (fun vs H Q E h=>by obtain ⟨t,ups,lab,rfl,_⟩:=h;rfl) (fun f cdv A outer s H vs Q E hr h=>?_)
  obtain ⟨t,ups,lab,rfl,⟨u,ht,hu,ok⟩,q⟩:=h
  refine ⟨_,(pss_cons (ps_set (i:=1) sc_words_of.nd rfl (by first | exact Or.inl rfl | exact Or.inr rfl) (pe_lst pa_nil))
  (pss_cons (ps_for PassesOwn.never rfl (pi_zip rfl B.zip (pa_cons (pe_ix ix_tup (pv 0) pe_int (fun _ _=>rfl)) (pa_cons (pe_ix ix_tup (pv 0) pe_int (fun _ _=>rfl)) pa_nil))) (pg_tup rfl (pgs_cons (pg_name (i:=2) sc_words_of.nd rfl (by first | exact Or.inl rfl | exact Or.inr rfl)) (pgs_cons (pg_name (i:=3) sc_words_of.nd rfl (by first | exact Or.inl rfl | exact Or.inr rfl)) pgs_nil)))
  (pss_one (ps_expr (pe_bm PySem.F.plainAttrs_list PySem.F.slot_list_append PySem.F.type_list_append mt_append (pv 1) (pa_cons (pe_ifExp (pt_cmpR op_eq (pv 3) (pe_un un_neg pe_int) (nomark _)) (pv 2) (pe_op op_add_str (pv 2) (pe_ix ix_list (pv 1) (pv 3) (fun _ _=>rfl)))) pa_nil)))))
  (pss_one (ps_ret (pv 1))))),?_⟩
  have hlen:(signs lab).length=(ups.map V.int).length:=by rw [List.length_map,ok.len];simp [signs]
  refine ⟨(by show 0≤sizeLine;decide),fun r hr0=>?_⟩
  have s0:Same H (upd H r (.lst [])):=(Same.refl H).new hr0
  refine ⟨_,rfl,t,_,_,_,rfl,rfl,SqT.of (s0 _ _ ht),rfl,_,rfl,t,_,_,_,rfl,rfl,SqT.of (s0 _ _ ht),rfl,.str lab,.tup u,rfl,⟨_,rfl⟩,⟨_,.inl (s0 _ _ hu)⟩,?_⟩
  refine for_zip (xs:=signs lab) (ys:=ups.map V.int) (fun i σ H'=>∃ o1 o2:Option V,σ=[some (.ref t),some (.ref r),o1,o2]∧Same H H'∧H' r=some (.lst (wordsV ups lab i))) ⟨none,none,rfl,s0,upd_same⟩ hlen
    (fun i σ H' hi h=>by obtain ⟨o1,o2,_,s1,_⟩:=h;exact ⟨rfl,.inl (s1 _ _ hu)⟩) ?_ ?_
  · rintro i x y σ H' p hx hy ⟨o1,o2,rfl,s1,hr1⟩ hp
    obtain ⟨c,hc,rfl⟩:∃ c,lab.cps.toList[i]?=some c∧x=.str ⟨#[c]⟩:=by
      simp only [signs,List.getElem?_map] at hx
      cases e:lab.cps.toList[i]? with
      | none=>rw [e] at hx;cases hx
      | some c=>rw [e] at hx;exact ⟨c,rfl,(Option.some.inj hx).symm⟩
    obtain ⟨v,hv,rfl⟩:∃ v,ups[i]?=some v∧y=.int v:=by
      simp only [List.getElem?_map] at hy
      cases e:ups[i]? with
      | none=>rw [e] at hy;cases hy
      | some v=>rw [e] at hy;exact ⟨v,rfl,(Option.some.inj hy).symm⟩
    have hi:i < ups.length:=(List.getElem?_eq_some_iff.mp hv).1
    have ev:ups.getD i 0=v:=by rw [List.getD_eq_getElem?_getD,hv];rfl
    have ec:lab.cps.toList.getD i 0=c:=by rw [List.getD_eq_getElem?_getD,hc];rfl
    have hm:=ok.most
    have s2:Same H (upd H' p (.tup [.str ⟨#[c]⟩,.int v])):=s1.new hp
    have hr2:upd H' p (.tup [.str ⟨#[c]⟩,.int v]) r=some (.lst (wordsV ups lab i)):=by rw [upd_ne (ne_of_none hr1 hp)];exact hr1
    have wl:(wordsV ups lab i).length=i:=by simp [wordsV]
    have step:wordsV ups lab (i+1)=wordsV ups lab i++[.str (mk (W ups lab.cps.toList i))]:=by
      unfold wordsV
      rw [List.range_succ,List.map_append];rfl
    refine ⟨p,_,rfl,SqT.of upd_same,rfl,_,_,rfl,_,_,rfl,rfl,?_⟩
    refine ⟨_,rfl,.inl ⟨rfl,_,SqL.of hr2⟩,_,rfl,_,rfl,rfl,_,rfl,ite2 (fun cnd=>?_) (fun cnd=>?_)⟩
    · have e1:V.int v=V.int (-1):=of_decide_eq_true cnd
      have e2:v=-1:=by injection e1
      have ew:W ups lab.cps.toList i=[c]:=by rw [W_eq ok hi,ev,ec,if_pos (by omega)]
      refine ⟨_,rfl,r,_,_,rfl,rfl,hr2,by rw [wl];exact small1000 (by omega),⟨_,_,rfl,s2.write hr0,?_⟩⟩
      rw [upd_same,step,ew]
      rfl
    · have e1:¬ V.int v=V.int (-1):=of_decide_eq_false (Bool.eq_false_iff.mpr cnd)
      have e2:v≠-1:=fun z=>e1 (by rw [z])
      have e3:¬ v < 0:=by
        have:=ok.neg hi
        rw [ev] at this
        omega
      have lt:=ok.lt hi (by rw [ev];exact e3)
      rw [ev] at lt
      have hat:atI (wordsV ups lab i) v=some (.str (mk (W ups lab.cps.toList v.toNat))):=by
        have e:atI (wordsV ups lab i) ((v.toNat:Nat):Int)=some (.str (mk (W ups lab.cps.toList v.toNat))):=atI_nat (by
          unfold wordsV
          rw [List.getElem?_map,List.getElem?_range lt];rfl)
        rw [show ((v.toNat:Nat):Int)=v by omega] at e
        exact e
      have wle:=W_len ok (v.toNat+1) v.toNat (by omega) (by omega)
      have ew:W ups lab.cps.toList i=c :: W ups lab.cps.toList v.toNat:=by rw [W_eq ok hi,ev,ec,if_neg e3]
      refine ⟨_,rfl,_,rfl,_,rfl,r,_,_,_,rfl,rfl,SqL.of hr2,hat,_,_,rfl,rfl,?_,r,_,_,rfl,rfl,hr2,by rw [wl];exact small1000 (by omega),⟨_,_,rfl,s2.write hr0,?_⟩⟩
      · rw [mk_len]
        have:(⟨#[c]⟩:Str).length=1:=rfl
        rw [this]
        exact Nat.le_of_lt (small1000 (by omega))
      · rw [upd_same,step,ew,mk_app]
  · rintro σ H' ⟨o1,o2,rfl,s1,hr1⟩
    refine ⟨_,rfl,q r H' s1 ?_⟩
    rw [hr1]
    congr 2
    simp [signs,ok.len]
theorem ints_at {us:List Int} {i:Int} (h0:0≤i) (h1:i < (us.length:Int)):atI (us.map V.int) i=some (.int (us.getD i.toNat 0)):=by
  have hk:i.toNat < us.length:=by omega
  have e:=atI_nat (xs:=us.map V.int) (j:=i.toNat) (v:=.int (us.getD i.toNat 0)) (by rw [List.getElem?_map,List.getElem?_eq_getElem hk,List.getD_eq_getElem?_getD,List.getElem?_eq_getElem hk];rfl)
  rw [show ((i.toNat:Nat):Int)=i by omega] at e
  exact e
abbrev Lw (c:Nat):Prop:=97≤c∧c < 123
theorem abc_low:∀ c∈(Str.ofString "abcdefghijklmnopqrstuvwxyz").cps.toList,Lw c:=by decide +kernel
theorem alph_at {i:Int} (h0:0≤i) (h1:i < 26):∃ c,atI (Str.ofString "abcdefghijklmnopqrstuvwxyz").cps.toList i=some c∧Lw c:=by
  have hl:(Str.ofString "abcdefghijklmnopqrstuvwxyz").cps.toList.length=26:=by decide +kernel
  have hk:i.toNat < (Str.ofString "abcdefghijklmnopqrstuvwxyz").cps.toList.length:=by omega
  have e:=atI_nat (xs:=(Str.ofString "abcdefghijklmnopqrstuvwxyz").cps.toList) (j:=i.toNat) (List.getElem?_eq_getElem hk)
  rw [show ((i.toNat:Nat):Int)=i by omega] at e
  exact ⟨_,e,abc_low _ (List.getElem_mem hk)⟩
structure GrOk (us:List Int):Prop where
  pos:0 < us.length
  root:us.getD 0 0=-1
  up:∀ k,0 < k→k < us.length→0≤us.getD k 0∧us.getD k 0 < (k:Int)
theorem getD_app {us vs:List Int} {j:Nat}:(us++vs).getD j 0=if j < us.length then us.getD j 0 else vs.getD (j - us.length) 0:=by
  simp only [List.getD_eq_getElem?_getD]
  split
  · rename_i h;rw [List.getElem?_append_left h]
  · rename_i h;rw [List.getElem?_append_right (by omega)]
theorem GrOk.snoc {us:List Int} (g:GrOk us) {v:Int} (h0:0≤v) (h1:v < (us.length:Int)):GrOk (us++[v]) where
  pos:=by rw [List.length_append];have:=g.pos;omega
  root:=by rw [getD_app,if_pos g.pos];exact g.root
  up:=fun j hj hl=>by
    rw [List.length_append,List.length_singleton] at hl
    rw [getD_app]
    split
    · rename_i h;exact g.up j hj h
    · rename_i h
      have e:j=us.length:=by omega
      subst e
      rw [Nat.sub_self]
      exact ⟨h0,h1⟩
theorem GrOk.one:GrOk [-1]:=⟨by decide,rfl,fun j h0 h1=>by
  have:j < 1:=h1
  omega⟩
theorem mem_getD {us:List Int} {j:Nat} (h:j < us.length):us.getD j 0∈us:=by
  rw [List.getD_eq_getElem?_getD,List.getElem?_eq_getElem h]
  exact List.getElem_mem h
theorem TreeAt.kd {H H':Hp} {p t:Addr} {c d:Int} {ups:List Int} {lab:Str} (h:TreeAt H t ups lab) (hp:Deck H p c) (s:Kd p d H H'):TreeAt H' t ups lab:=by
  obtain ⟨u,a,b,e⟩:=h
  exact ⟨u,s.keep _ _ (ne_deck hp a (fun _ _ _ z=>nomatch z)) a,s.keep _ _ (ne_deck hp b (fun _ _ _ z=>nomatch z)) b,e⟩
theorem menu7 {n:Int} (h0:0≤n) (h1:n < 7):∃ v:Int,atI [V.int 2147483629,.int 2147483587,.int 2147483579,.int 2147483563,.int 2147483549,.int 2147483543,.int 2147483497] n=some (.int v)∧0 < v∧v≤2147483629:=by
  have:n=0∨n=1∨n=2∨n=3∨n=4∨n=5∨n=6:=by omega
  rcases this with rfl | rfl | rfl | rfl | rfl | rfl | rfl <;> exact ⟨_,rfl,by decide,by decide⟩
def sp_mixed:Sp:=fun vs H Q _=>∃ cell j:Int,vs=[.int cell,.int j]∧0≤j∧j≤10000000∧∀ (n:Int) (H':Hp),Same H H'→Q (.int n) H'
theorem has_mixed (D:Df K mg "_law_mixed" s_law_mixed) (B:Blt mg):Has P w K mg base "_law_mixed" (k+1) ["cell", "k"] sp_mixed:=by
  refine D.has sc_law_mixed (fun _ _ _ _ _ _ us hl=>match us,hl with | [_,_],_=>rfl) (fun vs H Q E h=>by obtain ⟨a,i,rfl,_⟩:=h;rfl) (fun f cdv A outer s H vs Q E hr h=>?_)
  obtain ⟨cell,j,rfl,j0,j1,q⟩:=h
  refine ⟨_,(pss_cons (ps_set (i:=2) sc_law_mixed.nd rfl (by first | exact Or.inl rfl | exact Or.inr rfl) (pe_lst (pa_cons pe_int (pa_cons pe_int (pa_cons pe_int (pa_cons pe_int (pa_cons pe_int (pa_cons pe_int (pa_cons pe_int pa_nil)))))))))
  (pss_cons (ps_set (i:=3) sc_law_mixed.nd rfl (by first | exact Or.inl rfl | exact Or.inr rfl) (pe_op op_mod (pe_op op_add (pe_op op_add (pe_op op_mul (pe_op op_mod (pv 0) pe_int) (pe_op op_add (pe_op op_mul pe_int (pv 1)) pe_int)) (pe_op op_mul pe_int (pv 1))) pe_int) (pe_ix ix_list (pv 2) (pe_op op_mod (pv 1) pe_int) (fun _ _=>rfl))))
  (pss_cons (ps_set (i:=3) sc_law_mixed.nd rfl (by first | exact Or.inl rfl | exact Or.inr rfl) (pe_op op_mod (pe_op op_mul (pv 3) (pv 3)) (pe_ix ix_list (pv 2) (pe_op op_mod (pe_op op_add (pv 1) pe_int) pe_int) (fun _ _=>rfl))))
  (pss_cons (ps_set (i:=3) sc_law_mixed.nd rfl (by first | exact Or.inl rfl | exact Or.inr rfl) (pe_op op_mod (pe_op op_pow (pe_op op_add (pe_op op_add (pe_op op_mul (pv 3) pe_int) (pe_op op_mul pe_int (pv 1))) pe_int) pe_int) (pe_ix ix_list (pv 2) (pe_op op_mod (pe_op op_add (pv 1) pe_int) pe_int) (fun _ _=>rfl))))
  (pss_one (ps_ret (pe_op op_fdiv (pv 3) pe_int))))))),?_⟩
  refine ⟨(by show 7≤sizeLine;decide),fun r hr0=>?_⟩
  have hp:upd H r (.lst [V.int 2147483629,.int 2147483587,.int 2147483579,.int 2147483563,.int 2147483549,.int 2147483543,.int 2147483497]) r=_:=upd_same
  have s0:Same H (upd H r (.lst [V.int 2147483629,.int 2147483587,.int 2147483579,.int 2147483563,.int 2147483549,.int 2147483543,.int 2147483497])):=(Same.refl H).new hr0
  generalize upd H r (.lst [V.int 2147483629,.int 2147483587,.int 2147483579,.int 2147483563,.int 2147483549,.int 2147483543,.int 2147483497])=H1 at hp s0
  have m0:0≤cell % 2147483647:=Int.emod_nonneg _ (by decide)
  have m1:cell % 2147483647 < 2147483647:=Int.emod_lt_of_pos _ (by decide)
  obtain ⟨v1,hv1,a0,a1⟩:=menu7 (n:=j % 7) (Int.emod_nonneg _ (by decide)) (Int.emod_lt_of_pos _ (by decide))
  refine ⟨_,rfl,_,_,rfl,rfl,(by decide:(0:Int) < 2147483647),_,rfl,_,_,rfl,rfl,.inl ⟨by decide,by decide⟩,_,_,rfl,rfl,_,_,rfl,rfl,.inl ⟨by omega,by omega⟩,_,rfl,_,_,rfl,rfl,.inl ⟨by decide,by decide⟩,_,_,rfl,rfl,_,_,rfl,rfl,
    _,rfl,_,rfl,_,_,rfl,rfl,(by decide:(0:Int) < 7),r,_,_,_,rfl,rfl,SqL.of hp,hv1,_,_,rfl,rfl,a0,?_⟩
  have b0:=Int.emod_nonneg (cell % 2147483647 * (2 * j+3)+104729 * j+977) (show v1≠0 by omega)
  have b1:=Int.emod_lt_of_pos (cell % 2147483647 * (2 * j+3)+104729 * j+977) a0
  obtain ⟨v2,hv2,c0,c1⟩:=menu7 (n:=(j+3) % 7) (Int.emod_nonneg _ (by decide)) (Int.emod_lt_of_pos _ (by decide))
  refine ⟨_,rfl,_,rfl,_,_,rfl,rfl,.inl ⟨by omega,by omega⟩,_,rfl,_,rfl,_,_,rfl,rfl,_,_,rfl,rfl,(by decide:(0:Int) < 7),r,_,_,_,rfl,rfl,SqL.of hp,hv2,_,_,rfl,rfl,c0,?_⟩
  have d0:=Int.emod_nonneg ((cell % 2147483647 * (2 * j+3)+104729 * j+977) % v1 * ((cell % 2147483647 * (2 * j+3)+104729 * j+977) % v1)) (show v2≠0 by omega)
  have d1:=Int.emod_lt_of_pos ((cell % 2147483647 * (2 * j+3)+104729 * j+977) % v1 * ((cell % 2147483647 * (2 * j+3)+104729 * j+977) % v1)) c0
  obtain ⟨v3,hv3,e0,e1⟩:=menu7 (n:=(j+5) % 7) (Int.emod_nonneg _ (by decide)) (Int.emod_lt_of_pos _ (by decide))
  refine ⟨_,rfl,_,_,rfl,rfl,.inr ⟨by decide,by decide⟩,_,rfl,_,_,rfl,rfl,.inl ⟨by decide,by decide⟩,_,_,rfl,rfl,_,_,rfl,rfl,_,_,rfl,rfl,⟨by decide,by decide,by omega⟩,_,rfl,_,rfl,_,_,rfl,rfl,_,_,rfl,rfl,(by decide:(0:Int) < 7),r,_,_,_,rfl,rfl,SqL.of hp,hv3,_,_,rfl,rfl,e0,?_⟩
  exact ⟨_,rfl,_,_,rfl,rfl,⟨by decide,by decide⟩,q _ _ s0⟩
def sp_deck:Sp:=fun vs H Q _=>∃ cell i:Int,vs=[.int cell,.int i]∧∀ (p:Addr) (x y:Int),H p=none→Q (.ref p) (upd H p (.lst [.int x,.int y,.int (40 * i)]))
theorem has_deck (D:Df K mg "_law_deck" s_law_deck) (B:Blt mg):Has P w K mg base "_law_deck" (k+1) ["cell", "at"] sp_deck:=by
  refine D.has sc_law_deck (fun _ _ _ _ _ _ us hl=>match us,hl with | [_,_],_=>rfl) (fun vs H Q E h=>by obtain ⟨a,i,rfl,_⟩:=h;rfl) (fun f cdv A outer s H vs Q E hr h=>?_)
  obtain ⟨cell,i,rfl,q⟩:=h
  refine ⟨_,(pss_one (ps_ret (pe_lst (pa_cons (pe_op op_mul (pv 0) (pe_callTy call_int1 rfl B.int_ bt_int (pa_cons (pe_cmpR op_ge (pv 0) (pe_op op_pow pe_int pe_int) (nomark _)) pa_nil))) (pa_cons (pv 0) (pa_cons (pe_op op_mul pe_int (pv 1)) pa_nil)))))),?_⟩
  refine ⟨_,rfl,_,rfl,_,_,rfl,rfl,⟨by decide,by decide,by decide⟩,_,_,rfl,rfl,.inr ⟨_,rfl,?_⟩⟩
  refine ⟨_,_,rfl,rfl,.inr ⟨?_,?_⟩,_,rfl,_,rfl,_,_,rfl,rfl,.inl ⟨by decide,by decide⟩,(by show 3≤sizeLine;decide),fun p hp=>q p _ _ hp⟩
  · split <;> decide
  · split <;> decide
def sp_draw:Sp:=fun vs H Q _=>∃ (p:Addr) (m c:Int),vs=[.ref p,.int m]∧Deck H p c∧c < 1000000∧0 < m∧m < 1073741824∧∀ (n:Int) (H':Hp),0≤n→n < m→Kd p (c+1) H H'→Q (.int n) H'
theorem has_draw (D:Df K mg "_law_draw" s_law_draw) (B:Blt mg) (G_law_mixed:Has P w K mg base "_law_mixed" k ["cell", "k"] sp_mixed):Has P w K mg base "_law_draw" (k+1) ["deck_here", "many"] sp_draw:=by
  refine D.has sc_law_draw (fun _ _ _ _ _ _ us hl=>match us,hl with | [_,_],_=>rfl) (fun vs H Q E h=>by obtain ⟨a,i,c,rfl,_⟩:=h;rfl) (fun f cdv A outer s H vs Q E hr h=>?_)
  obtain ⟨p,m,c,rfl,⟨x,y,z,hp,z0,z1⟩,c6,m0,m1,q⟩:=h
  refine ⟨_,(pss_cons (ps_if (pt_cmpR op_gt (pe_ix ix_list (pv 0) pe_int (fun _ _=>rfl)) pe_int (nomark _))
  (pss_cons (ps_set (i:=2) sc_law_draw.nd rfl (by first | exact Or.inl rfl | exact Or.inr rfl) (pe_op op_mod (pe_ix ix_list (pv 0) pe_int (fun _ _=>rfl)) (pv 1)))
  (pss_cons (ps_asg (pe_op op_fdiv (pe_ix ix_list (pv 0) pe_int (fun _ _=>rfl)) (pv 1)) (pg_sub (pv 0) pe_int set_list))
  (pss_one (ps_ret (pv 2)))))
  pss_nil)
  (pss_cons (ps_asg (pe_op op_add (pe_ix ix_list (pv 0) pe_int (fun _ _=>rfl)) pe_int) (pg_sub (pv 0) pe_int set_list))
  (pss_one (ps_ret (pe_op op_mod (pe_callH G_law_mixed hr rfl (pa_cons (pe_ix ix_list (pv 0) pe_int (fun _ _=>rfl)) (pa_cons (pe_ix ix_list (pv 0) pe_int (fun _ _=>rfl)) pa_nil))) (pv 1)))))),?_⟩
  refine ⟨_,rfl,p,_,_,_,rfl,rfl,SqL.of hp,rfl,_,_,rfl,rfl,_,rfl,ite2 (fun cnd=>?_) (fun cnd=>?_)⟩
  · refine ⟨_,rfl,p,_,_,_,rfl,rfl,SqL.of hp,rfl,_,rfl,_,_,rfl,rfl,m0,?_⟩
    refine ⟨_,rfl,p,_,_,_,rfl,rfl,SqL.of hp,rfl,_,rfl,_,_,rfl,rfl,⟨m0,m1⟩,?_⟩
    refine ⟨_,rfl,p,_,_,0,rfl,rfl,hp,rfl,_,rfl,?_⟩
    exact q _ _ (Int.emod_nonneg _ (by omega)) (Int.emod_lt_of_pos _ m0) ⟨⟨_,y,z,upd_same,z0,by omega⟩,fun b o hb e=>by rw [upd_ne hb];exact e⟩
  · refine ⟨_,rfl,p,_,_,_,rfl,rfl,SqL.of hp,rfl,_,_,rfl,rfl,?_⟩
    refine ⟨_,rfl,p,_,_,2,rfl,rfl,hp,rfl,?_⟩
    have hp':upd H p (.lst [.int x,.int y,.int (z+1)]) p=some (.lst [.int x,.int y,.int (z+1)]):=upd_same
    have kd:Kd p (c+1) H (upd H p (.lst [.int x,.int y,.int (z+1)])):=⟨⟨x,y,z+1,upd_same,by omega,by omega⟩,fun b o hb e=>by rw [upd_ne hb];exact e⟩
    refine ⟨_,rfl,p,_,_,_,rfl,rfl,SqL.of hp',rfl,_,rfl,p,_,_,_,rfl,rfl,SqL.of hp',rfl,_,_,rfl,by omega,by omega,fun n H' s1=>?_⟩
    refine ⟨_,rfl,_,_,rfl,rfl,m0,?_⟩
    exact q _ _ (Int.emod_nonneg _ (by omega)) (Int.emod_lt_of_pos _ m0) (kd.same s1)
def sp_some:Sp:=fun vs H Q _=>∃ (p:Addr) (c:Int),Deck H p c∧c < 1000000 ∧
  ((∃ (q:Addr) (xs:List V),vs=[.ref p,.ref q]∧H q=some (.lst xs)∧q≠p∧0 < xs.length∧xs.length≤1000∧∀ (v:V) (H':Hp),v∈xs→Kd p (c+1) H H'→Q v H') ∨
   (∃ z:Str,vs=[.ref p,.str z]∧0 < z.length∧z.length≤1000∧∀ (ch:Nat) (H':Hp),ch∈z.cps.toList→Kd p (c+1) H H'→Q (.str ⟨#[ch]⟩) H'))
theorem has_some (D:Df K mg "_law_some" s_law_some) (B:Blt mg) (G_law_draw:Has P w K mg base "_law_draw" k ["deck_here", "many"] sp_draw):Has P w K mg base "_law_some" (k+1) ["deck_here", "things"] sp_some:=by
  refine D.has sc_law_some (fun _ _ _ _ _ _ us hl=>match us,hl with | [_,_],_=>rfl) (fun vs H Q E h=>by obtain ⟨p,c,_,_,⟨q,xs,rfl,_⟩ | ⟨z,rfl,_⟩⟩:=h <;> rfl) (fun f cdv A outer s H vs Q E hr h=>?_)
  obtain ⟨p,c,hd,c6,⟨r,xs,rfl,hr0,hne,x0,x1,q⟩ | ⟨z,rfl,z0,z1,q⟩⟩:=h
  · refine ⟨_,(pss_one (ps_ret (pe_ix ix_seq (pv 1) (pe_callH G_law_draw hr rfl (pa_cons (pv 0) (pa_cons (pe_callB call_len rfl B.len bt_len (pa_cons (pv 1) pa_nil)) pa_nil))) (fun _ _=>rfl)))),?_⟩
    refine ⟨_,rfl,_,rfl,_,rfl,_,_,rfl,.inl ⟨_,SqL.of hr0,rfl⟩,p,_,c,rfl,hd,c6,by omega,by omega,fun n H' n0 n1 kd=>?_⟩
    have hk:n.toNat < xs.length:=by omega
    have e:=atI_nat (xs:=xs) (j:=n.toNat) (List.getElem?_eq_getElem hk)
    rw [show ((n.toNat:Nat):Int)=n by omega] at e
    exact .inl ⟨r,_,_,_,rfl,rfl,SqL.of (kd.keep _ _ hne hr0),e,q _ _ (List.getElem_mem hk) kd⟩
  · refine ⟨_,(pss_one (ps_ret (pe_ix ix_seq (pv 1) (pe_callH G_law_draw hr rfl (pa_cons (pv 0) (pa_cons (pe_callB call_len rfl B.len bt_len (pa_cons (pv 1) pa_nil)) pa_nil))) (fun _ _=>rfl)))),?_⟩
    refine ⟨_,rfl,_,rfl,_,rfl,_,_,rfl,⟨Nat.le_of_lt (small1000 z1),rfl⟩,p,_,c,rfl,hd,c6,by omega,by omega,fun n H' n0 n1 kd=>?_⟩
    have hzl:z.length=z.cps.toList.length:=by simp [Str.length]
    have hk:n.toNat < z.cps.toList.length:=by omega
    have e:=atI_nat (xs:=z.cps.toList) (j:=n.toNat) (List.getElem?_eq_getElem hk)
    rw [show ((n.toNat:Nat):Int)=n by omega] at e
    exact .inr (.inr ⟨_,_,_,rfl,rfl,Nat.le_of_lt (small1000 z1),e,q _ _ (List.getElem_mem hk) kd⟩)
def sp_letter:Sp:=fun vs H Q _=>∃ (p:Addr) (c:Int),vs=[.ref p]∧Deck H p c∧c < 1000000∧∀ (ch:Nat) (H':Hp),Lw ch→Kd p (c+1) H H'→Q (.str ⟨#[ch]⟩) H'
theorem has_letter (D:Df K mg "_law_letter" s_law_letter) (B:Blt mg) (G_law_draw:Has P w K mg base "_law_draw" k ["deck_here", "many"] sp_draw):Has P w K mg base "_law_letter" (k+1) ["deck_here"] sp_letter:=by
  refine D.has sc_law_letter (fun _ _ _ _ _ _ us hl=>match us,hl with | [_],_=>rfl) (fun vs H Q E h=>by obtain ⟨p,c,rfl,_⟩:=h;rfl) (fun f cdv A outer s H vs Q E hr h=>?_)
  obtain ⟨p,c,rfl,hd,c6,q⟩:=h
  refine ⟨_,(pss_one (ps_ret (pe_ix ix_str pe_str (pe_callH G_law_draw hr rfl (pa_cons (pv 0) (pa_cons pe_int pa_nil))) (fun _ _=>rfl)))),?_⟩
  refine ⟨_,rfl,p,26,c,rfl,hd,c6,by decide,by decide,fun n H' n0 n1 kd=>?_⟩
  obtain ⟨ch,hc,lw⟩:=alph_at n0 n1
  refine ⟨_,_,_,rfl,rfl,?_,hc,q _ _ lw kd⟩
  show (Str.ofString "abcdefghijklmnopqrstuvwxyz").length≤sizeLine
  have:(Str.ofString "abcdefghijklmnopqrstuvwxyz").length=26:=by decide +kernel
  rw [this];decide
end
end S15
namespace S15
open PySem L2 W7
section
variable {P:Program} {w:World} {K:PySem.W.Frag} {mg:Str→Option Value} {base:Heap} {k:Nat}
theorem lst_strs_ne {xs:List V} (h:∀ v∈xs,∃ z,v=.str z) (h0:0 < xs.length):∀ x y z:Int,HO.lst xs≠.lst [.int x,.int y,.int z]:=by
  intro x y z e
  injection e with e
  subst e
  obtain ⟨z,hz⟩:=h (.int x) (by simp)
  cases hz
theorem foldl_memN (xs:Array Nat) (P:Nat→Prop) (h:∀ a∈xs.toList,P a):∀ (n:Nat) (acc:Array Nat),(∀ a∈acc.toList,P a)→∀ a∈((List.replicate n xs).foldl (·++·) acc).toList,P a
  | 0,acc,g=>g
  | n+1,acc,g=>by
    rw [List.replicate_succ,List.foldl_cons]
    refine foldl_memN xs P h n _ fun a ha=>?_
    rw [Array.toList_append] at ha
    exact (List.mem_append.mp ha).elim (g a) (h a)
theorem mul_low {ch:Nat} (h:Lw ch) (n:Int):∀ a∈(Txt.mul ⟨#[ch]⟩ n).cps.toList,Lw a:=by
  have one:∀ a∈(#[ch]:Array Nat).toList,Lw a:=fun a ha=>by rw [show a=ch by simpa using ha];exact h
  unfold Txt.mul
  split
  · exact fun a ha=>by cases ha
  · split
    · exact one
    · exact foldl_memN _ _ one _ _ fun a ha=>by cases ha
def sp_tree:Sp:=fun vs H Q _=>∃ (p:Addr) (most c:Int),vs=[.ref p,.int most]∧Deck H p c∧0≤c∧c < 900000∧1≤most∧most≤60∧∀ (t:Addr) (ups:List Int) (lab:Str) (H':Hp),Kd p (c+250) H H'→TreeAt H' t ups lab→(∀ x∈lab.cps.toList,Lw x)→Q (.ref t) H'
theorem has_tree (D:Df K mg "_law_tree" s_law_tree) (B:Blt mg) (G_law_draw:Has P w K mg base "_law_draw" k ["deck_here", "many"] sp_draw) (G_law_some:Has P w K mg base "_law_some" k ["deck_here", "things"] sp_some)
    (G_law_letter:Has P w K mg base "_law_letter" k ["deck_here"] sp_letter):Has P w K mg base "_law_tree" (k+1) ["deck_here", "most"] sp_tree:=by
  refine D.has sc_law_tree (fun _ _ _ _ _ _ us hl=>match us,hl with | [_,_],_=>rfl) (fun vs H Q E h=>by obtain ⟨p,m,c,rfl,_⟩:=h;rfl) (fun f cdv A outer s H vs Q E hr h=>?_)
  obtain ⟨p,most,c,rfl,hd,cc0,cc1,ms1,ms60,q⟩:=h
  refine ⟨_,(pss_cons (ps_set (i:=2) sc_law_tree.nd rfl (by first | exact Or.inl rfl | exact Or.inr rfl) (pe_callH G_law_some hr rfl (pa_cons (pv 0) (pa_cons (pe_lst (pa_cons (pe_op op_add pe_int (pe_callH G_law_draw hr rfl (pa_cons (pv 0) (pa_cons (pv 1) pa_nil)))) (pa_cons (pe_op op_add pe_int (pe_callH G_law_draw hr rfl (pa_cons (pv 0) (pa_cons (pe_callB (call_min2 rfl) rfl B.min bt_min (pa_cons (pv 1) (pa_cons pe_int pa_nil))) pa_nil)))) (pa_cons (pv 1) pa_nil)))) pa_nil))))
  (pss_cons (ps_set (i:=3) sc_law_tree.nd rfl (by first | exact Or.inl rfl | exact Or.inr rfl) (pe_callH G_law_draw hr rfl (pa_cons (pv 0) (pa_cons pe_int pa_nil))))
  (pss_cons (ps_set (i:=4) sc_law_tree.nd rfl (by first | exact Or.inl rfl | exact Or.inr rfl) (pe_callH G_law_letter hr rfl (pa_cons (pv 0) pa_nil)))
  (pss_cons (ps_set (i:=5) sc_law_tree.nd rfl (by first | exact Or.inl rfl | exact Or.inr rfl) (pe_callH G_law_some hr rfl (pa_cons (pv 0) (pa_cons (pe_lst (pa_cons (pv 4) (pa_cons (pe_op op_add_str pe_str (pv 4)) (pa_cons pe_str (pa_cons (pe_op op_add_str pe_str (pv 4)) (pa_cons pe_str pa_nil)))))) pa_nil))))
  (pss_cons (ps_set (i:=6) sc_law_tree.nd rfl (by first | exact Or.inl rfl | exact Or.inr rfl) (pe_lst (pa_cons (pe_un un_neg pe_int) pa_nil)))
  (pss_cons (ps_set (i:=7) sc_law_tree.nd rfl (by first | exact Or.inl rfl | exact Or.inr rfl) (pe_callH G_law_some hr rfl (pa_cons (pv 0) (pa_cons (pv 5) pa_nil))))
  (pss_cons (ps_for PassesOwn.never rfl (pi_range2 rfl B.range (pa_cons pe_int (pa_cons (pv 2) pa_nil))) (pg_name (i:=8) sc_law_tree.nd rfl (by first | exact Or.inl rfl | exact Or.inr rfl))
  (pss_cons (ps_set (i:=9) sc_law_tree.nd rfl (by first | exact Or.inl rfl | exact Or.inr rfl) (pe_lst (pa_cons (pe_op op_sub (pv 8) pe_int) pa_nil)))
  (pss_cons (ps_while PassesOwn.never (pt_cmpR op_ge (pe_ix ix_list (pv 6) (pe_ix ix_list (pv 9) (pe_un un_neg pe_int) (fun _ _=>rfl)) (fun _ _=>rfl)) pe_int (nomark _))
  (pss_one (ps_expr (pe_bm PySem.F.plainAttrs_list PySem.F.slot_list_append PySem.F.type_list_append mt_append (pv 9) (pa_cons (pe_ix ix_list (pv 6) (pe_ix ix_list (pv 9) (pe_un un_neg pe_int) (fun _ _=>rfl)) (fun _ _=>rfl)) pa_nil)))))
  (pss_cons (ps_set (i:=10) sc_law_tree.nd rfl (by first | exact Or.inl rfl | exact Or.inr rfl) (pe_ix ix_list (pe_lst (pa_cons pe_int (pa_cons (pe_op op_sub (pe_callB call_len_seq rfl B.len bt_len (pa_cons (pv 9) pa_nil)) pe_int) (pa_cons (pe_op op_mod (pv 8) pe_int) (pa_cons (pe_callH G_law_draw hr rfl (pa_cons (pv 0) (pa_cons (pe_callB call_len_seq rfl B.len bt_len (pa_cons (pv 9) pa_nil)) pa_nil))) (pa_cons (pe_callB (call_min2 rfl) rfl B.min bt_min (pa_cons (pe_op op_sub (pe_callB call_len_seq rfl B.len bt_len (pa_cons (pv 9) pa_nil)) pe_int) (pa_cons (pe_callH G_law_draw hr rfl (pa_cons (pv 0) (pa_cons pe_int pa_nil))) pa_nil))) (pa_cons (pe_op op_sub (pe_op op_sub (pe_callB call_len_seq rfl B.len bt_len (pa_cons (pv 9) pa_nil)) pe_int) (pe_callB (call_min2 rfl) rfl B.min bt_min (pa_cons (pe_op op_sub (pe_callB call_len_seq rfl B.len bt_len (pa_cons (pv 9) pa_nil)) pe_int) (pa_cons (pe_callH G_law_draw hr rfl (pa_cons (pv 0) (pa_cons pe_int pa_nil))) pa_nil)))) pa_nil))))))) (pv 3) (fun _ _=>rfl)))
  (pss_cons (ps_expr (pe_bm PySem.F.plainAttrs_list PySem.F.slot_list_append PySem.F.type_list_append mt_append (pv 6) (pa_cons (pe_ix ix_list (pv 9) (pe_callB (call_min2 rfl) rfl B.min bt_min (pa_cons (pv 10) (pa_cons (pe_op op_sub (pe_callB call_len_seq rfl B.len bt_len (pa_cons (pv 9) pa_nil)) pe_int) pa_nil))) (fun _ _=>rfl)) pa_nil)))
  (pss_one (ps_set (i:=7) sc_law_tree.nd rfl (by first | exact Or.inl rfl | exact Or.inr rfl) (pe_op op_add_str (pv 7) (pe_callH G_law_some hr rfl (pa_cons (pv 0) (pa_cons (pv 5) pa_nil)))))))))))
  (pss_cons (ps_if (pt_cmpR op_eq (pe_callH G_law_draw hr rfl (pa_cons (pv 0) (pa_cons pe_int pa_nil))) pe_int (nomark _))
  (pss_cons (ps_set (i:=11) sc_law_tree.nd rfl (by first | exact Or.inl rfl | exact Or.inr rfl) (pe_callH G_law_draw hr rfl (pa_cons (pv 0) (pa_cons (pv 2) pa_nil))))
  (pss_one (ps_set (i:=7) sc_law_tree.nd rfl (by first | exact Or.inl rfl | exact Or.inr rfl) (pe_op op_add_str (pe_op op_add_str (pe_op op_mul_str (pv 4) (pv 11)) (pe_callH G_law_letter hr rfl (pa_cons (pv 0) pa_nil))) (pe_op op_mul_str (pv 4) (pe_op op_sub (pe_op op_sub (pv 2) (pv 11)) pe_int))))))
  pss_nil)
  (pss_one (ps_ret (pe_tup (pa_cons (pe_callTy call_tuple_of rfl B.tuple_ bt_tuple (pa_cons (pv 6) pa_nil)) (pa_cons (pv 7) pa_nil))))))))))))),?_⟩
  refine ⟨_,rfl,_,rfl,_,rfl,p,most,c,rfl,hd,by omega,by omega,by omega,fun n1 H1 a0 a1 kd1=>?_⟩
  refine ⟨_,_,rfl,rfl,_,rfl,_,rfl,_,_,rfl,p,_,c+1,rfl,kd1.deck,by omega,?_,?_,fun n2 H2 b0 b1 kd2=>?_⟩
  · split <;> omega
  · split <;> omega
  have b2:n2 < 8:=by
    revert b1;split <;> omega
  refine ⟨_,_,rfl,rfl,_,rfl,(by show 3≤sizeLine;decide),fun r hr0=>?_⟩
  have kq2:=((kd1.trans kd2).new (o:=.lst [.int (1+n1),.int (1+n2),.int most]) hr0)
  refine ⟨p,_,kq2.deck,by omega,.inl ⟨r,_,rfl,upd_same,kd2.deck.ne hr0,(by show 0 < 3;decide),(by show 3≤1000;decide),fun v H3 hv kd3=>?_⟩⟩
  obtain ⟨many,rfl,mn1,mn60⟩:∃ m:Int,v=.int m∧1≤m∧m≤60:=by
    simp only [List.mem_cons,List.not_mem_nil,or_false] at hv
    rcases hv with rfl | rfl | rfl
    · exact ⟨_,rfl,by omega,by omega⟩
    · exact ⟨_,rfl,by omega,by omega⟩
    · exact ⟨_,rfl,by omega,by omega⟩
  have ku3:=kq2.trans kd3
  refine ⟨_,rfl,p,6,_,rfl,ku3.deck,by omega,by decide,by decide,fun way H4 c0 c1 kd4=>?_⟩
  have ku4:=ku3.trans kd4
  refine ⟨_,rfl,p,_,rfl,ku4.deck,by omega,fun ch H5 lch kd5=>?_⟩
  have ku5:=ku4.trans kd5
  have own1:(⟨#[ch]⟩:Str).length=1:=rfl
  have l1:(Str.ofString "a").length=1:=by decide +kernel
  have l2:(Str.ofString "ab").length=2:=by decide +kernel
  have l3:(Str.ofString "aab").length=3:=by decide +kernel
  have l4:(Str.ofString "abcdefghijklmnopqrstuvwxyz").length=26:=by decide +kernel
  have la:∀ x y:Str,(x++y).length=x.length+y.length:=fun x y=>by
    have:=congrArg List.length (app_list x y)
    rw [List.length_append] at this
    simpa [Str.length] using this
  refine ⟨_,rfl,_,rfl,_,rfl,_,_,rfl,rfl,by rw [l1,own1];decide,_,rfl,_,_,rfl,rfl,by rw [l3,own1];decide,(by show 5≤sizeLine;decide),fun r5 hr5=>?_⟩
  have kq5:=ku5.new (o:=.lst [.str ⟨#[ch]⟩,.str (Str.ofString "a" ++ ⟨#[ch]⟩),.str (Str.ofString "ab"),.str (Str.ofString "aab" ++ ⟨#[ch]⟩),.str (Str.ofString "abcdefghijklmnopqrstuvwxyz")]) hr5
  refine ⟨p,_,kq5.deck,by omega,.inl ⟨r5,_,rfl,upd_same,ku5.deck.ne hr5,(by show 0 < 5;decide),(by show 5≤1000;decide),fun v H6 hv kd6=>?_⟩⟩
  have lap:∀ x y:Str,(∀ a∈x.cps.toList,Lw a)→(∀ a∈y.cps.toList,Lw a)→∀ a∈(x++y).cps.toList,Lw a:=fun x y h1 h2 a ha=>by
    rw [app_list] at ha
    rcases List.mem_append.mp ha with ha | ha
    · exact h1 a ha
    · exact h2 a ha
  have lo1:∀ a∈(⟨#[ch]⟩:Str).cps.toList,Lw a:=fun a ha=>by rw [show a=ch by simpa using ha];exact lch
  have lo2:∀ a∈(Str.ofString "a").cps.toList,Lw a:=by decide +kernel
  have lo3:∀ a∈(Str.ofString "ab").cps.toList,Lw a:=by decide +kernel
  have lo4:∀ a∈(Str.ofString "aab").cps.toList,Lw a:=by decide +kernel
  obtain ⟨z,rfl,z0,z1,zlo⟩:∃ z:Str,v=.str z∧0 < z.length∧z.length≤1000∧∀ a∈z.cps.toList,Lw a:=by
    simp only [List.mem_cons,List.not_mem_nil,or_false] at hv
    rcases hv with rfl | rfl | rfl | rfl | rfl
    · exact ⟨_,rfl,by omega,by omega,lo1⟩
    · exact ⟨_,rfl,by rw [la];omega,by rw [la];omega,lap _ _ lo2 lo1⟩
    · exact ⟨_,rfl,by omega,by omega,lo3⟩
    · exact ⟨_,rfl,by rw [la];omega,by rw [la];omega,lap _ _ lo4 lo1⟩
    · exact ⟨_,rfl,by omega,by omega,abc_low⟩
  have ku6:=kq5.trans kd6
  refine ⟨_,rfl,(by show 1≤sizeLine;decide),fun u hu0=>?_⟩
  have kq6:=ku6.new (o:=.lst [.int (-1)]) hu0
  have hup:u≠p:=ku6.deck.ne hu0
  have hHu:H u=none:=ku6.fresh hu0
  refine ⟨_,rfl,_,rfl,p,_,kq6.deck,by omega,.inr ⟨z,rfl,z0,z1,fun ch7 H7 lm7 kd7=>?_⟩⟩
  have ku7:=(kq6.trans kd7).mono (show c+1+1+1+1+1+1+1≤c+7 by omega)
  have hu7:H7 u=some (.lst [.int (-1)]):=kd7.keep _ _ hup upd_same
  refine ⟨_,rfl,1,many,rfl,⟨by decide,by decide,by omega,by omega⟩,?_⟩
  refine for_range (lo:=1) (n:=(many - 1).toNat) (fun i σ H'=>∃ (us:List Int) (ls:List Nat) (tx:Str) (o8 o9 o10:Option V),
      σ=[some (.ref p),some (.int most),some (.int many),some (.int way),some (.str ⟨#[ch]⟩),some (.str z),some (.ref u),some (.str tx),o8,o9,o10,none]∧tx=mk ls∧Kd p (c+7+4 * i) H H'∧H' u=some (.lst (us.map V.int)) ∧
      us.length=i+1∧ls.length=i+1∧GrOk us∧∀ a∈ls,Lw a)
    ⟨[-1],[ch7],_,none,none,none,rfl,rfl,ku7.mono (by omega),hu7,rfl,rfl,GrOk.one,fun a ha=>by rw [List.mem_singleton.mp ha];exact zlo _ lm7⟩ ?_ ?_
  · rintro i σ H' hi ⟨us,ls,tx,o8,o9,o10,rfl,rfl,kd,hu,hlen,hls,gr,lls⟩
    have hul:(us.map V.int).length=us.length:=List.length_map _
    refine ⟨_,rfl,_,_,rfl,rfl,(by show 1≤sizeLine;decide),fun r1 hr1=>?_⟩
    have ur1:u≠r1:=ne_of_none hu hr1
    have rp1:r1≠p:=kd.deck.ne hr1
    refine ⟨fun m σ H''=>∃ (rs:List Int) (last:Int),σ=[some (.ref p),some (.int most),some (.int many),some (.int way),some (.str ⟨#[ch]⟩),some (.str z),some (.ref u),some (.str (mk ls)),some (.int (1+(i:Int))),some (.ref r1),o10,none] ∧
        H''=upd H' r1 (.lst ((rs++[last]).map V.int))∧0≤last∧last < 1+(i:Int)∧(∀ v∈rs,0≤v∧v < 1+(i:Int))∧m=last.toNat∧rs.length+last.toNat≤60,⟨_,[],1+(i:Int) - 1,rfl,rfl,by omega,by omega,by simp,rfl,by simp;omega⟩,?_⟩
    rintro m σ H'' ⟨rs,last,rfl,rfl,la0,la1,hrs,rfl,hrl⟩
    have hu'':upd H' r1 (.lst ((rs++[last]).map V.int)) u=some (.lst (us.map V.int)):=by rw [upd_ne ur1];exact hu
    have hlast:atI ((rs++[last]).map V.int) (-1)=some (.int last):=by rw [List.map_append];exact atI_last _ _
    have hat:=ints_at (us:=us) (i:=last) la0 (by omega)
    have hrd:((rs++[last]).map V.int).length=rs.length+1:=by simp
    refine ⟨_,rfl,_,rfl,_,rfl,r1,_,_,_,rfl,rfl,SqL.of upd_same,hlast,u,_,_,_,rfl,rfl,SqL.of hu'',hat,_,_,rfl,rfl,_,rfl,ite2 (fun cnd=>?_) (fun cnd=>?_)⟩
    · have cnd':0≤us.getD last.toNat 0:=of_decide_eq_true cnd
      have hlt:us.getD last.toNat 0 < last:=by
        rcases Nat.eq_zero_or_pos last.toNat with e | e
        · have:=gr.root;rw [e] at cnd';omega
        · have:=gr.up last.toNat e (by omega);omega
      refine ⟨_,fun σ' H3 h=>h,?_⟩
      refine ⟨_,rfl,.inl ⟨rfl,_,SqL.of upd_same⟩,_,rfl,_,rfl,_,rfl,r1,_,_,_,rfl,rfl,SqL.of upd_same,hlast,u,_,_,_,rfl,rfl,SqL.of hu'',hat,r1,_,_,rfl,rfl,upd_same,by rw [hrd];exact small1000 (by omega),?_⟩
      refine ⟨(us.getD last.toNat 0).toNat,by omega,rs++[last],us.getD last.toNat 0,rfl,?_,cnd',by omega,?_,rfl,?_⟩
      · rw [upd_upd,List.map_append (l₁:=rs++[last])];rfl
      · intro v hv
        rcases List.mem_append.mp hv with hv | hv
        · exact hrs v hv
        · have:v=last:=by simpa using hv
          omega
      · rw [List.length_append,List.length_singleton];omega
    · -- up
      have kr:Kd p (c+7+4 * i) H (upd H' r1 (.lst ((rs++[last]).map V.int))):=kd.new hr1
      generalize hHr:upd H' r1 (.lst ((rs++[last]).map V.int))=Hr at kr hu''
      have hrr:Hr r1=some (.lst ((rs++[last]).map V.int)):=by rw [← hHr];exact upd_same
      have mem:∀ v∈rs++[last],0≤v∧v < 1+(i:Int):=fun v hv=>by
        rcases List.mem_append.mp hv with hv | hv
        · exact hrs v hv
        · have:v=last:=by simpa using hv
          omega
      generalize hRS:rs++[last]=RS at hrd hrr mem
      have hRl:RS.length=rs.length+1:=by rw [← hRS];simp
      generalize hL:((RS.map V.int).length:Int)=L
      have L1:1≤L:=by omega
      have L61:L≤61:=by omega
      refine ⟨_,rfl,r1,_,rfl,.inl (SqL.of hrr),_,_,rfl,rfl,_,rfl,_,_,rfl,rfl,(by decide:(0:Int) < 2),_,rfl,_,rfl,r1,_,rfl,.inl (SqL.of hrr),p,_,_,rfl,kr.deck,by omega,?_,?_,fun n3 H3 d0 d1 kd3=>?_⟩
      · rw [hL];omega
      · rw [hL];omega
      rw [hL] at d1
      have ku3:=kr.trans kd3
      have hrr3:=kd3.keep _ _ rp1 hrr
      refine ⟨_,rfl,r1,_,rfl,.inl (SqL.of hrr3),_,_,rfl,rfl,_,rfl,p,3,_,rfl,ku3.deck,by omega,by decide,by decide,fun n4 H4 e0 e1 kd4=>?_⟩
      have ku4':=ku3.trans kd4
      have hrr4:=kd4.keep _ _ rp1 hrr3
      refine ⟨_,_,rfl,_,rfl,r1,_,rfl,.inl (SqL.of hrr4),_,_,rfl,rfl,_,rfl,r1,_,rfl,.inl (SqL.of hrr4),_,_,rfl,rfl,_,rfl,p,3,_,rfl,ku4'.deck,by omega,by decide,by decide,fun n5 H5' f0 f1 kd5=>?_⟩
      have ku5':=ku4'.trans kd5
      have hrr5:=kd5.keep _ _ rp1 hrr4
      refine ⟨_,_,rfl,_,_,rfl,rfl,(by show 6≤sizeLine;decide),fun r2 hr2=>?_⟩
      rw [hL]
      have hupv:∃ v:Int,atI [V.int 0,.int (L - 1),.int ((1+(i:Int)) % 2),.int n3,.int (if n4 < L - 1 then n4 else L - 1),.int (L - 1 - (if n5 < L - 1 then n5 else L - 1))] way=some (.int v)∧0≤v:=by
        have:way=0∨way=1∨way=2∨way=3∨way=4∨way=5:=by omega
        rcases this with rfl | rfl | rfl | rfl | rfl | rfl
        · exact ⟨_,rfl,by omega⟩
        · exact ⟨_,rfl,by omega⟩
        · exact ⟨_,rfl,by omega⟩
        · exact ⟨_,rfl,by omega⟩
        · exact ⟨_,rfl,by split <;> omega⟩
        · exact ⟨_,rfl,by split <;> omega⟩
      obtain ⟨up,hupv,up0⟩:=hupv
      refine ⟨_,rfl,r2,_,_,_,rfl,rfl,SqL.of upd_same,hupv,?_⟩
      have ku6':=ku5'.new (o:=.lst [V.int 0,.int (L - 1),.int ((1+(i:Int)) % 2),.int n3,.int (if n4 < L - 1 then n4 else L - 1),.int (L - 1 - (if n5 < L - 1 then n5 else L - 1))]) hr2
      have hrr6:upd H5' r2 (.lst [V.int 0,.int (L - 1),.int ((1+(i:Int)) % 2),.int n3,.int (if n4 < L - 1 then n4 else L - 1),.int (L - 1 - (if n5 < L - 1 then n5 else L - 1))]) r1=some (.lst (RS.map V.int)):=by rw [upd_ne (ne_of_none hrr5 hr2)];exact hrr5
      have hu5':H5' u=some (.lst (us.map V.int)):=kd5.keep _ _ hup (kd4.keep _ _ hup (kd3.keep _ _ hup hu''))
      have hu6':upd H5' r2 (.lst [V.int 0,.int (L - 1),.int ((1+(i:Int)) % 2),.int n3,.int (if n4 < L - 1 then n4 else L - 1),.int (L - 1 - (if n5 < L - 1 then n5 else L - 1))]) u=some (.lst (us.map V.int)):=by rw [upd_ne (ne_of_none hu5' hr2)];exact hu5'
      generalize upd H5' r2 (.lst [V.int 0,.int (L - 1),.int ((1+(i:Int)) % 2),.int n3,.int (if n4 < L - 1 then n4 else L - 1),.int (L - 1 - (if n5 < L - 1 then n5 else L - 1))])=H6' at ku6' hrr6 hu6'
      have hmn:0≤(if L - 1 < up then L - 1 else up)∧(if L - 1 < up then L - 1 else up) < (RS.length:Int):=by split <;> omega
      have hat6:=ints_at (us:=RS) hmn.1 hmn.2
      have hv6:=mem _ (mem_getD (us:=RS) (j:=(if L - 1 < up then L - 1 else up).toNat) (by omega))
      have hrl6:(RS.map V.int).length=RS.length:=List.length_map _
      refine ⟨_,rfl,.inl ⟨rfl,_,SqL.of hu6'⟩,_,rfl,_,rfl,_,rfl,r1,_,rfl,.inl (SqL.of hrr6),_,_,rfl,rfl,_,_,rfl,r1,_,_,_,rfl,rfl,SqL.of hrr6,(by rw [hL];exact hat6),u,_,_,rfl,rfl,hu6',by rw [hul];exact small1000 (by omega),?_⟩
      generalize RS.getD (if L - 1 < up then L - 1 else up).toNat 0=v6 at hv6
      have ku7':Kd p (c+7+4 * i+1+1+1) H (upd H6' u (.lst (us.map V.int++[.int v6]))):=ku6'.write hHu hup
      have hu7':upd H6' u (.lst (us.map V.int++[.int v6])) u=some (.lst (us.map V.int++[.int v6])):=upd_same
      generalize upd H6' u (.lst (us.map V.int++[.int v6]))=H7' at ku7' hu7'
      refine ⟨_,rfl,_,rfl,_,rfl,p,_,ku7'.deck,by omega,.inr ⟨z,rfl,z0,z1,fun c8 H8 lm8 kd8=>?_⟩⟩
      refine ⟨_,_,rfl,rfl,?_,?_⟩
      · rw [mk_len]
        have:(⟨#[c8]⟩:Str).length=1:=rfl
        rw [this];exact Nat.le_of_lt (small1000 (by omega))
      · refine ⟨us++[v6],ls++[c8],_,_,_,_,rfl,?_,(ku7'.trans kd8).mono (by omega),?_,?_,?_,gr.snoc hv6.1 (by omega),fun a ha=>(List.mem_append.mp ha).elim (lls a) fun ha=>by rw [List.mem_singleton.mp ha];exact zlo _ lm8⟩
        · apply str_ext;rw [app_list];rfl
        · rw [kd8.keep _ _ hup hu7',List.map_append];rfl
        · rw [List.length_append,hlen];rfl
        · rw [List.length_append,hls];rfl
  · rintro σ H' ⟨us,ls,tx,o8,o9,o10,rfl,rfl,kd,hu,hlen,hls,gr,lls⟩
    have fin:∀ (ls':List Nat) (d:Int) (H4:Hp),ls'.length=us.length→(∀ a∈ls',Lw a)→d≤c+250→Kd p d H H4→H4 u=some (.lst (us.map V.int))→∀ r7 t7,H4 r7=none→(upd H4 r7 (.tup (us.map V.int))) t7=none→Q (.ref t7) (upd (upd H4 r7 (.tup (us.map V.int))) t7 (.tup [.ref r7,.str (mk ls')])):=fun ls' d H4 e1 lo' e2 e3 e4 r7 t7 hr7 ht=>by
      refine q t7 us (mk ls') _ (((e3.mono e2).new hr7).new ht) ⟨r7,upd_same,?_,?_⟩ ?_
      · rw [upd_ne (ne_of_none upd_same ht)];exact upd_same
      · exact ⟨by rw [mk_cps];omega,gr.pos,by omega,gr.root,gr.up⟩
      · rw [mk_cps];exact lo'
    refine ⟨_,rfl,p,5,_,rfl,kd.deck,by omega,by decide,by decide,fun n1 H1 d0 d1 kd1=>?_⟩
    have ku1:=kd.trans kd1
    have hu1:=kd1.keep _ _ hup hu
    refine ⟨rfl,_,rfl,ite2 (fun cnd=>?_) (fun cnd=>?_)⟩
    · refine ⟨_,rfl,_,rfl,p,many,_,rfl,ku1.deck,by omega,by omega,by omega,fun at0 H2 e0 e1 kd2=>?_⟩
      have ku2:=ku1.trans kd2
      have hu2:=kd2.keep _ _ hup hu1
      have mo:∀ n:Int,0≤n→n≤60→MulOk (⟨#[ch]⟩:Str) n:=fun n h0 h1=>PyProof.Rows.mulOk_of 1 60 (by rw [own1];decide) (by omega) (by omega) (by decide) (by decide)
      have ml:∀ n:Int,0≤n→(Txt.mul ⟨#[ch]⟩ n).length=n.toNat:=fun n h0=>by
        have:=mul_len (c:=ch) h0
        simpa [Str.length] using this
      refine ⟨_,rfl,_,rfl,_,_,rfl,rfl,mo _ e0 (by omega),_,rfl,p,_,rfl,ku2.deck,by omega,fun c9 H3 lc9 kd3=>?_⟩
      have hc9:(⟨#[c9]⟩:Str).length=1:=rfl
      have ku3:=ku2.trans kd3
      have hu3:=kd3.keep _ _ hup hu2
      refine ⟨_,_,rfl,rfl,by rw [ml _ e0,hc9];exact Nat.le_of_lt (small1000 (by omega)),_,rfl,_,rfl,_,rfl,_,_,rfl,rfl,_,_,rfl,rfl,_,_,rfl,rfl,mo _ (by omega) (by omega),_,_,rfl,rfl,?_,?_⟩
      · rw [la,ml _ e0,hc9,ml _ (by omega)];exact Nat.le_of_lt (small1000 (by omega))
      refine ⟨_,rfl,u,_,rfl,.inl ⟨SqL.of hu3,fun r7 hr7=>?_⟩⟩
      refine ⟨_,rfl,(by show 2≤sizeLine;decide),fun t ht=>?_⟩
      have hs:Txt.mul ⟨#[ch]⟩ at0++⟨#[c9]⟩++Txt.mul ⟨#[ch]⟩ (many - at0 - 1)=mk (Txt.mul ⟨#[ch]⟩ at0++⟨#[c9]⟩++Txt.mul ⟨#[ch]⟩ (many - at0 - 1)).cps.toList:=str_ext rfl
      rw [hs]
      have lom:∀ n:Int,∀ a∈(Txt.mul ⟨#[ch]⟩ n).cps.toList,Lw a:=fun n a ha=>mul_low lch n a ha
      refine fin _ _ H3 ?_ (lap _ _ (lap _ _ (lom _) fun a ha=>by rw [show a=c9 by simpa using ha];exact lc9) (lom _)) (by omega) ku3 hu3 r7 t hr7 ht
      have t1:=la (Txt.mul ⟨#[ch]⟩ at0++⟨#[c9]⟩) (Txt.mul ⟨#[ch]⟩ (many - at0 - 1))
      have t2:=la (Txt.mul ⟨#[ch]⟩ at0) ⟨#[c9]⟩
      have t3:=ml at0 e0
      have t4:=ml (many - at0 - 1) (by omega)
      have e:(Txt.mul ⟨#[ch]⟩ at0++⟨#[c9]⟩++Txt.mul ⟨#[ch]⟩ (many - at0 - 1)).cps.toList.length=(Txt.mul ⟨#[ch]⟩ at0++⟨#[c9]⟩++Txt.mul ⟨#[ch]⟩ (many - at0 - 1)).length:=by simp [Str.length]
      omega
    · refine ⟨_,rfl,u,_,rfl,.inl ⟨SqL.of hu1,fun r7 hr7=>?_⟩⟩
      refine ⟨_,rfl,(by show 2≤sizeLine;decide),fun t ht=>?_⟩
      exact fin ls _ H1 (by omega) lls (by omega) ku1 hu1 r7 t hr7 ht
end
end S15
namespace S15
open PySem L2 W7
section
variable {P:Program} {w:World} {K:PySem.W.Frag} {mg:Str→Option Value} {base:Heap} {k:Nat}
def wordsS (ups:List Int) (lab:Str):List Str:=(List.range ups.length).map fun j=>mk (W ups lab.cps.toList j)
theorem wordsV_eq (ups:List Int) (lab:Str):wordsV ups lab ups.length=(wordsS ups lab).map V.str:=by
  unfold wordsV wordsS
  rw [List.map_map];rfl
theorem wordsS_len (ups:List Int) (lab:Str):(wordsS ups lab).length=ups.length:=by simp [wordsS]
theorem cutS_len (z:Str) (lo hi:Option Int):(cutS z lo hi).length≤z.length:=by
  unfold cutS
  simp only [Str.length,List.size_toArray,List.length_take,List.length_drop]
  have:z.cps.toList.length=z.cps.size:=Array.length_toList
  omega
theorem app_len (x y:Str):(x++y).length=x.length+y.length:=by
  have:=congrArg List.length (app_list x y)
  rw [List.length_append] at this
  simpa [Str.length] using this
theorem has_lwords (D:Df K mg "_law_words" s_law_words) (B:Blt mg):Has P w K mg base "_law_words" (k+1) ["tree_here"] sp_words:=by
  refine D.has sc_law_words (fun _ _ _ _ _ _ us hl=>match us,hl with | [_],_=>rfl) (fun vs H Q E h=>by obtain ⟨t,ups,lab,rfl,_⟩:=h;rfl) (fun f cdv A outer s H vs Q E hr h=>?_)
  obtain ⟨t,ups,lab,rfl,⟨u,ht,hu,ok⟩,q⟩:=h
  refine ⟨_,(pss_cons (ps_set (i:=1) sc_law_words.nd rfl (by first | exact Or.inl rfl | exact Or.inr rfl) (pe_lst pa_nil))
  (pss_cons (ps_for PassesOwn.never rfl (pi_enum rfl B.enumerate (pa_cons (pe_ix ix_tup (pv 0) pe_int (fun _ _=>rfl)) pa_nil)) (pg_tup rfl (pgs_cons (pg_name (i:=2) sc_law_words.nd rfl (by first | exact Or.inl rfl | exact Or.inr rfl)) (pgs_cons (pg_name (i:=3) sc_law_words.nd rfl (by first | exact Or.inl rfl | exact Or.inr rfl)) pgs_nil)))
  (pss_one (ps_expr (pe_bm PySem.F.plainAttrs_list PySem.F.slot_list_append PySem.F.type_list_append mt_append (pv 1) (pa_cons (pe_op op_add_str (pe_ix ix_str (pe_ix ix_tup (pv 0) pe_int (fun _ _=>rfl)) (pv 2) (fun _ _=>rfl)) (pe_ifExp (pt_cmpR op_ge (pv 3) pe_int (nomark _)) (pe_ix ix_list (pv 1) (pv 3) (fun _ _=>rfl)) pe_str)) pa_nil)))))
  (pss_one (ps_ret (pv 1))))),?_⟩
  refine ⟨(by show 0≤sizeLine;decide),fun r hr0=>?_⟩
  have s0:Same H (upd H r (.lst [])):=(Same.refl H).new hr0
  refine ⟨_,rfl,t,_,_,_,rfl,rfl,SqT.of (s0 _ _ ht),rfl,.tup u,rfl,⟨_,.inl (s0 _ _ hu)⟩,?_⟩
  refine for_enum (xs:=ups.map V.int) (fun i σ H'=>∃ o1 o2:Option V,σ=[some (.ref t),some (.ref r),o1,o2]∧Same H H'∧H' r=some (.lst (wordsV ups lab i))) ⟨none,none,rfl,s0,upd_same⟩
    (fun i σ H' hi h=>by obtain ⟨o1,o2,_,s1,_⟩:=h;exact .inl (s1 _ _ hu)) ?_ ?_
  · rintro i y σ H' p hy ⟨o1,o2,rfl,s1,hr1⟩ hp
    obtain ⟨v,hv,rfl⟩:∃ v,ups[i]?=some v∧y=.int v:=by
      simp only [List.getElem?_map] at hy
      cases e:ups[i]? with
      | none=>rw [e] at hy;cases hy
      | some v=>rw [e] at hy;exact ⟨v,rfl,(Option.some.inj hy).symm⟩
    have hi:i < ups.length:=(List.getElem?_eq_some_iff.mp hv).1
    have hi2:i < lab.cps.toList.length:=by rw [← ok.len];exact hi
    have ev:ups.getD i 0=v:=by rw [List.getD_eq_getElem?_getD,hv];rfl
    have ec:lab.cps.toList.getD i 0=lab.cps.toList[i]:=by rw [List.getD_eq_getElem?_getD,List.getElem?_eq_getElem hi2];rfl
    have hm:=ok.most
    have s2:Same H (upd H' p (.tup [.int i,.int v])):=s1.new hp
    have hr2:upd H' p (.tup [.int i,.int v]) r=some (.lst (wordsV ups lab i)):=by rw [upd_ne (ne_of_none hr1 hp)];exact hr1
    have wl:(wordsV ups lab i).length=i:=by simp [wordsV]
    have step:wordsV ups lab (i+1)=wordsV ups lab i++[.str (mk (W ups lab.cps.toList i))]:=by
      unfold wordsV
      rw [List.range_succ,List.map_append];rfl
    have hlab:lab.length=ups.length:=by rw [ok.len];simp [Str.length]
    have e1:=atI_nat (xs:=lab.cps.toList) (j:=i) (List.getElem?_eq_getElem hi2)
    have one1:(⟨#[lab.cps.toList[i]]⟩:Str).length=1:=rfl
    refine ⟨p,_,rfl,SqT.of upd_same,rfl,_,_,rfl,_,_,rfl,rfl,?_⟩
    refine ⟨_,rfl,.inl ⟨rfl,_,SqL.of hr2⟩,_,rfl,t,_,_,_,rfl,rfl,SqT.of (s2 _ _ ht),rfl,_,rfl,_,_,_,rfl,rfl,by rw [hlab];exact Nat.le_of_lt (small1000 (by omega)),e1,_,rfl,_,_,rfl,rfl,_,rfl,ite2 (fun cnd=>?_) (fun cnd=>?_)⟩
    · have e3:0≤v:=of_decide_eq_true cnd
      have lt:=ok.lt hi (by rw [ev];omega)
      rw [ev] at lt
      have hat:atI (wordsV ups lab i) v=some (.str (mk (W ups lab.cps.toList v.toNat))):=by
        have e:atI (wordsV ups lab i) ((v.toNat:Nat):Int)=some (.str (mk (W ups lab.cps.toList v.toNat))):=atI_nat (by
          unfold wordsV
          rw [List.getElem?_map,List.getElem?_range lt];rfl)
        rw [show ((v.toNat:Nat):Int)=v by omega] at e
        exact e
      have wle:=W_len ok (v.toNat+1) v.toNat (by omega) (by omega)
      have ew:W ups lab.cps.toList i=lab.cps.toList[i] :: W ups lab.cps.toList v.toNat:=by rw [W_eq ok hi,ev,ec,if_neg (by omega)]
      refine ⟨_,rfl,_,rfl,r,_,_,_,rfl,rfl,SqL.of hr2,hat,_,_,rfl,rfl,?_,r,_,_,rfl,rfl,hr2,by rw [wl];exact small1000 (by omega),⟨_,_,rfl,s2.write hr0,?_⟩⟩
      · rw [mk_len,one1];exact Nat.le_of_lt (small1000 (by omega))
      · rw [upd_same,step,ew,mk_app]
    · have e3:¬ 0≤v:=of_decide_eq_false (Bool.eq_false_iff.mpr cnd)
      have ew:W ups lab.cps.toList i=[lab.cps.toList[i]]:=by rw [W_eq ok hi,ev,ec,if_pos (by omega)]
      refine ⟨_,_,rfl,rfl,by rw [one1];decide,r,_,_,rfl,rfl,hr2,by rw [wl];exact small1000 (by omega),⟨_,_,rfl,s2.write hr0,?_⟩⟩
      rw [upd_same,step,ew]
      have:(⟨#[lab.cps.toList[i]]⟩:Str)++Str.ofString "" = mk [lab.cps.toList[i]]:=by apply str_ext;rw [app_list];rfl
      rw [this]
  · rintro σ H' ⟨o1,o2,rfl,s1,hr1⟩
    refine ⟨_,rfl,q r H' s1 ?_⟩
    rw [hr1,List.length_map]
def sp_whole:Sp:=fun vs H Q _=>∃ n:Int,vs=[.int n,.int n]∧Q (.bl true) H
theorem has_whole (D:Df K mg "_law_whole" s_law_whole) (B:Blt mg):Has P w K mg base "_law_whole" (k+1) ["found", "due"] sp_whole:=by
  refine D.has sc_law_whole (fun _ _ _ _ _ _ us hl=>match us,hl with | [_,_],_=>rfl) (fun vs H Q E h=>by obtain ⟨n,rfl,_⟩:=h;rfl) (fun f cdv A outer s H vs Q E hr h=>?_)
  obtain ⟨n,rfl,q⟩:=h
  refine ⟨_,(pss_one (ps_ret (pe_and (pe_callB call_isinst rfl B.isinstance bt_isinstance (pa_cons (pv 0) (pa_cons (pe_bltn (v:=.ty "int") rfl B.int_ bt_int rfl) pa_nil))) (pe_and (pe_not (pe_callB call_isinst rfl B.isinstance bt_isinstance (pa_cons (pv 0) (pa_cons (pe_bltn (v:=.ty "bool") rfl B.bool_ bt_bool rfl) pa_nil)))) (pe_one (pe_cmpR op_eq (pv 0) (pv 1) (nomark _))))))),?_⟩
  refine ⟨_,rfl,_,.type "int", "int", true,rfl,.int _,kit_same _ _,_,rfl,iteT ?_⟩
  refine ⟨_,rfl,_,.type "int", "bool", false,rfl,.int _,kit_int_bool _,_,rfl,_,rfl,iteT ?_⟩
  refine ⟨_,rfl,_,rfl,rfl,?_⟩
  rw [decide_eq_true rfl]
  exact q
end
end S15
namespace S15
open PySem L2 W7
section
variable {P:Program} {w:World} {K:PySem.W.Frag} {mg:Str→Option Value} {base:Heap} {k:Nat}
def cntS (ss:List Str) (word:Str):List Str:=ss.filter fun z=>Txt.startswith z word
def lss (ss:List Str) (word:Str):List Str:=ss.filter fun z=>decide (z.cps.toList < word.cps.toList)
theorem strs_get {ss:List Str} {i:Nat} {x:V} (h:(ss.map V.str)[i]?=some x):∃ z,ss[i]?=some z∧x=.str z:=by
  rw [List.getElem?_map] at h
  cases e:ss[i]? with
  | none=>rw [e] at h;cases h
  | some z=>rw [e] at h;exact ⟨z,rfl,(Option.some.inj h).symm⟩
theorem filt_step {ss:List Str} {i:Nat} {z:Str} {f:Str→Bool} (h:ss[i]?=some z) (b:Bool) (hb:f z=b):(((ss.take (i+1)).filter f).map V.str)=((ss.take i).filter f).map V.str++(if b=true then [V.str z] else []):=by
  rw [PySem.take_succ_filter f ss i z h,hb,List.map_append]
  cases b <;> rfl
theorem filt_len {ss:List Str} {i:Nat} {f:Str→Bool}:(((ss.take i).filter f).map V.str).length≤i:=by
  rw [List.length_map]
  exact Nat.le_trans (List.length_filter_le _ _) (by rw [List.length_take];omega)
def sp_count:Sp:=fun vs H Q _=>∃ (r:Addr) (ss:List Str) (word:Str),vs=[.ref r,.str word]∧H r=some (.lst (ss.map V.str))∧ss.length≤60∧∀ H':Hp,Same H H'→Q (.int ((cntS ss word).length:Int)) H'
theorem has_count (D:Df K mg "count_read" s_count_read) (B:Blt mg):Has P w K mg base "count_read" (k+1) ["words", "word"] sp_count:=by
  refine D.has sc_count_read (fun _ _ _ _ _ _ us hl=>match us,hl with | [_,_],_=>rfl) (fun vs H Q E h=>by obtain ⟨r,ss,word,rfl,_⟩:=h;rfl) (fun f cdv A outer s H vs Q E hr h=>?_)
  obtain ⟨r,ss,word,rfl,hr0,s60,q⟩:=h
  refine ⟨_,(pss_one (ps_ret (pe_callB call_len_seq rfl B.len bt_len (pa_cons (pe_comp rfl (pi_list (pv 0)) (NL:=["other"]) (ix:=[1]) (csc (defScope s_count_read) N_count_read) (fun cl C s₃ H₃ fp pins=>⟨(pg_name (i:=0) (show List.Nodup (["other", "word"]:List Str) from by decide +kernel) rfl (by first | exact Or.inl rfl | exact Or.inr rfl)),(pifs_startsK K (pv 0) (pv 1)),(pv 0)⟩)) pa_nil)))),?_⟩
  refine ⟨_,rfl,r,rfl,⟨_,SqL.of hr0⟩,fun acc hacc=>?_⟩
  refine comp_lst (xs:=ss.map V.str) (by rw [List.length_map];omega) (fun i ys H2=>H2 acc=some (.lst ys)∧ys=((ss.take i).filter fun z=>Txt.startswith z word).map V.str∧Same H H2)
    (fun i ys H2 h=>SqL.of (h.2.2 _ _ hr0)) (fun i ys H2 h=>⟨h.1,by rw [h.2.1];exact filt_len⟩) ⟨upd_same,by simp,(Same.refl H).new hacc⟩ ?_ ?_
  · rintro ys H2 ⟨g1,rfl,g3⟩
    refine ⟨acc,_,rfl,.inl (SqL.of g1),?_⟩
    have e:((List.map V.str (List.filter (fun z=>Txt.startswith z word) (List.take (List.map V.str ss).length ss))).length:Int)=((cntS ss word).length:Int):=by
      rw [List.length_map,List.length_map,List.take_length];rfl
    rw [e];exact q H2 g3
  · rintro i x ys H2 hx ⟨g1,rfl,g3⟩
    obtain ⟨z,hz,rfl⟩:=strs_get hx
    refine ⟨rfl,_,rfl,rfl,_,rfl,_,_,rfl,rfl,_,rfl,ite2 (fun cnd=>?_) (fun cnd=>?_)⟩
    · exact ⟨_,rfl,g1,upd_same,by rw [filt_step hz true cnd];rfl,g3.write hacc⟩
    · exact ⟨g1,by rw [filt_step hz false (Bool.eq_false_iff.mpr cnd)];simp,g3⟩
def sp_stretch:Sp:=fun vs H Q _=>∃ (t:Addr) (ups:List Int) (lab word:Str),vs=[.ref t,.str word]∧TreeAt H t ups lab ∧
  ∀ (r:Addr) (H':Hp),Same H H'→H' r=some (.tup [.int ((lss (wordsS ups lab) word).length:Int),.int (((lss (wordsS ups lab) word).length:Int)+((cntS (wordsS ups lab) word).length:Int))])→Q (.ref r) H'
def sp_in:Sp:=fun vs H Q _=>∃ (r:Addr) (ss:List Str) (word:Str),vs=[.ref r,.str word]∧H r=some (.lst (ss.map V.str))∧ss.length≤60 ∧
  ∀ (r':Addr) (H':Hp),Same H H'→H' r'=some (.tup [.int ((lss ss word).length:Int),.int (((lss ss word).length:Int)+((cntS ss word).length:Int))])→Q (.ref r') H'
theorem has_in (D:Df K mg "stretch_in" s_stretch_in) (B:Blt mg) (G_count_read:Has P w K mg base "count_read" k ["words", "word"] sp_count):Has P w K mg base "stretch_in" (k+1) ["words", "word"] sp_in:=by
  refine D.has sc_stretch_in (fun _ _ _ _ _ _ us hl=>match us,hl with | [_,_],_=>rfl) (fun vs H Q E h=>by obtain ⟨r,ss,word,rfl,_⟩:=h;rfl) (fun f cdv A outer s H vs Q E hr h=>?_)
  obtain ⟨r,ss,word,rfl,hr1,wl,q⟩:=h
  refine ⟨_,(pss_cons (ps_set (i:=2) sc_stretch_in.nd rfl (by first | exact Or.inl rfl | exact Or.inr rfl) (pe_callB call_len_seq rfl B.len bt_len (pa_cons (pe_comp rfl (pi_list (pv 0)) (NL:=["other"]) (ix:=[1]) (csc (defScope s_stretch_in) N_stretch_in) (fun cl C s₃ H₃ fp pins=>⟨(pg_name (i:=0) (show List.Nodup (["other", "word"]:List Str) from by decide +kernel) rfl (by first | exact Or.inl rfl | exact Or.inr rfl)),(pifs_one (pt_cmpR op_lt_str (pv 0) (pv 1) (nomark _))),(pv 0)⟩)) pa_nil)))
  (pss_one (ps_ret (pe_tup (pa_cons (pv 2) (pa_cons (pe_op op_add (pv 2) (pe_callH G_count_read hr rfl (pa_cons (pv 0) (pa_cons (pv 1) pa_nil)))) pa_nil)))))),?_⟩
  refine ⟨_,rfl,r,rfl,⟨_,SqL.of hr1⟩,fun acc hacc=>?_⟩
  refine comp_lst (xs:=ss.map V.str) (by rw [List.length_map];omega) (fun i ys H2=>H2 acc=some (.lst ys)∧ys=((ss.take i).filter fun z=>decide (z.cps.toList < word.cps.toList)).map V.str∧Same H H2)
    (fun i ys H2 h=>SqL.of (h.2.2 _ _ hr1)) (fun i ys H2 h=>⟨h.1,by rw [h.2.1];exact filt_len⟩) ⟨upd_same,by simp,(Same.refl H).new hacc⟩ ?_ ?_
  · rintro ys H2 ⟨g1,rfl,g3⟩
    refine ⟨acc,_,rfl,.inl (SqL.of g1),?_⟩
    have e:((List.map V.str (List.filter (fun z=>decide (z.cps.toList < word.cps.toList)) (List.take (List.map V.str ss).length ss))).length:Int)=((lss ss word).length:Int):=by
      rw [List.length_map,List.length_map,List.take_length];rfl
    rw [e]
    refine ⟨_,rfl,_,rfl,_,rfl,_,rfl,r,ss,word,rfl,g3 _ _ hr1,by omega,fun H3 s3=>?_⟩
    refine ⟨_,_,rfl,rfl,(by show 2≤sizeLine;decide),fun r4 hr4=>?_⟩
    exact q r4 _ ((g3.trans s3).new hr4) upd_same
  · rintro i x ys H2 hx ⟨g1,rfl,g3⟩
    obtain ⟨z,hz,rfl⟩:=strs_get hx
    refine ⟨rfl,_,rfl,_,rfl,_,_,rfl,rfl,_,rfl,ite2 (fun cnd=>?_) (fun cnd=>?_)⟩
    · exact ⟨_,rfl,g1,upd_same,by rw [filt_step hz true cnd];rfl,g3.write hacc⟩
    · exact ⟨g1,by rw [filt_step hz false (Bool.eq_false_iff.mpr cnd)];simp,g3⟩
theorem has_stretch (D:Df K mg "stretch_of" s_stretch_of) (B:Blt mg) (G_words_of:Has P w K mg base "words_of" k ["tree"] sp_words) (G_stretch_in:Has P w K mg base "stretch_in" k ["words", "word"] sp_in):Has P w K mg base "stretch_of" (k+1) ["tree", "word"] sp_stretch:=by
  refine D.has sc_stretch_of (fun _ _ _ _ _ _ us hl=>match us,hl with | [_,_],_=>rfl) (fun vs H Q E h=>by obtain ⟨t,ups,lab,word,rfl,_⟩:=h;rfl) (fun f cdv A outer s H vs Q E hr h=>?_)
  obtain ⟨t,ups,lab,word,rfl,tr,q⟩:=h
  refine ⟨_,(pss_one (ps_ret (pe_callH G_stretch_in hr rfl (pa_cons (pe_callH G_words_of hr rfl (pa_cons (pv 0) pa_nil)) (pa_cons (pv 1) pa_nil))))),?_⟩
  obtain ⟨_,_,_,ok⟩:=id tr
  have m60:=ok.most
  have wl:=wordsS_len ups lab
  refine ⟨_,rfl,t,ups,lab,rfl,tr,fun r H1 s1 hr1=>?_⟩
  rw [wordsV_eq] at hr1
  refine ⟨_,rfl,r,_,word,rfl,hr1,by omega,fun r' H2 s2 h2=>q r' H2 (s1.trans s2) h2⟩
end
end S15
namespace L2
open PySem PySem.Spec PyProof.Rows PySem.W
def nK (z:Nat):Key:=.inl (z:Int)
theorem nK_inj {a b:Nat} (h:nK a=nK b):a=b:=by
  have h':(Sum.inl (a:Int):Key)=.inl (b:Int):=h
  injection h' with h'
  omega
structure Ks (m:Nat) (kvs:List (Key × V)) (zs:List Nat):Prop where
  ks:kvs.map (·.1)=zs.map nK
  nd:zs.Nodup
  le:∀ z∈zs,z≤m
theorem Ks.nil {m:Nat}:Ks m [] []:=⟨rfl,List.nodup_nil,fun _ h=>nomatch h⟩
theorem Ks.any {m:Nat} {kvs:List (Key × V)} {zs:List Nat} (h:Ks m kvs zs) (s:Nat):(kvs.any fun kv=>decide (kv.1=nK s))=decide (s∈zs):=by
  rw [Bool.eq_iff_iff,List.any_eq_true,decide_eq_true_eq]
  constructor
  · rintro ⟨p,hp,e⟩
    have m1:p.1∈kvs.map (·.1):=List.mem_map.mpr ⟨p,hp,rfl⟩
    rw [h.ks] at m1
    obtain ⟨z,hz,ez⟩:=List.mem_map.mp m1
    have:=nK_inj (ez.trans (of_decide_eq_true e))
    rw [← this];exact hz
  · intro hs
    have m1:nK s∈kvs.map (·.1):=by rw [h.ks];exact List.mem_map.mpr ⟨s,hs,rfl⟩
    obtain ⟨p,hp,e⟩:=List.mem_map.mp m1
    exact ⟨p,hp,decide_eq_true e⟩
theorem Ks.isSome {m:Nat} {kvs:List (Key × V)} {zs:List Nat} (h:Ks m kvs zs) (s:Nat):(valV kvs (nK s)).isSome=decide (s∈zs):=by rw [← valV_any];exact h.any s
theorem nodup_le {zs:List Nat} {m:Nat} (nd:zs.Nodup) (le:∀ z∈zs,z≤m):zs.length≤m+1:=by
  have p:zs.Perm ((List.range (m+1)).filter fun x=>decide (x∈zs)):=(List.perm_ext_iff_of_nodup nd (List.nodup_range.filter _)).mpr fun x=>by
    rw [List.mem_filter,List.mem_range,decide_eq_true_eq]
    exact ⟨fun h=>⟨by have:=le x h;omega,h⟩,fun h=>h.2⟩
  rw [p.length_eq]
  have:=List.length_filter_le (fun x=>decide (x∈zs)) (List.range (m+1))
  rw [List.length_range] at this;exact this
theorem Ks.len {m:Nat} {kvs:List (Key × V)} {zs:List Nat} (h:Ks m kvs zs):zs.length≤m+1:=nodup_le h.nd h.le
theorem Ks.keys {m:Nat} {kvs:List (Key × V)} {zs:List Nat} (h:Ks m kvs zs):kvs.map (·.1)=(zs.map fun z:Nat=>(z:Int)).map Sum.inl:=by
  rw [h.ks,List.map_map];rfl
theorem Ks.sorted {m n:Nat} {kvs:List (Key × V)} {zs:List Nat} (h:Ks m kvs zs) {p:Nat→Bool} (hm:∀ x,x∈zs ↔ x < n∧p x=true) {ns:List Int} (pm:ns.Perm (zs.map fun z:Nat=>(z:Int))) (so:ns.Pairwise (·≤·)) :
    ns.map V.int=((List.range n).filter p).map fun z:Nat=>V.int (z:Int):=by
  have q:zs.Perm ((List.range n).filter p):=(List.perm_ext_iff_of_nodup h.nd (List.nodup_range.filter _)).mpr fun x=>by
    rw [List.mem_filter,List.mem_range];exact hm x
  have e:ns=((List.range n).filter p).map fun z:Nat=>(z:Int):=by
    refine (pm.trans (q.map _)).eq_of_pairwise (fun a b _ _ l1 l2=>Int.le_antisymm l1 l2) so ?_
    rw [List.pairwise_map]
    exact (List.pairwise_lt_range.filter _).imp fun h=>by omega
  rw [e,List.map_map];rfl
end L2
namespace L2
open PySem PySem.Spec PyProof.Rows
structure RoomH (k:Nat) (A:Around):Prop where
  dp:A.depth+3 * k+5 < recursionLimit
  un:A.units+16 * k+200 < cLine
  gd:A.guards=some []
theorem RoomH.mono {j k:Nat} {A:Around} (r:RoomH k A) (h:j≤k):RoomH j A:=⟨by have:=r.dp;omega,by have:=r.un;omega,r.gd⟩
theorem RoomH.deeper {k:Nat} {A:Around} (r:RoomH (k+1) A) (env:Env):RoomH k (A.deeper env):=
  ⟨by have:=r.dp;show A.depth+1+3 * k+5 < _;omega,by have:=r.un;show A.units+3+16 * k+200 < _;omega,by first | exact r.gd | (simpa [Around.under,Code.isGuard,guardIds] using r.gd)⟩
theorem RoomH.depth {k:Nat} {A:Around} (r:RoomH k A):A.depth < recursionLimit:=by have:=r.dp;omega
theorem RoomH.units0 {k:Nat} {A:Around} (r:RoomH k A):A.units < cLine:=by have:=r.un;omega
theorem Room.caught {k:Nat} {X:Cx} (r:Room k X.A) (a:Addr):RoomH k (X.caught a).A:=⟨r.dp,r.un,r.gd⟩
theorem Room.h {k:Nat} {A:Around} (r:Room k A):RoomH k A:=⟨r.dp,r.un,r.gd⟩
def cxOfH (CX:CXT) (P:Program) (w:World) (K:PySem.W.Frag) (mg:Str→Option Value) (base:Heap) (N:List Str) (qual:Str) (scope:Scope) (f:Addr) (cd:Value) (A:Around) (outer:List Env) (s:Shared) (H:Hp) (E:XK):Cx where
  prog:=P
  w:=w
  K:=K
  mg:=mg
  base:=base
  A:=A.deeper (envOfC qual scope s.heap.objs.size f cd)
  N:=N
  s₀:=s
  H₀:=H
  env:=envOfC qual scope s.heap.objs.size f cd
  outer:=outer
  stack:=envOfC qual scope s.heap.objs.size f cd :: outer
  ex:=[]
  calm:=false
  fn:=fun _=>true
  pn:=[]
  xe:=fun e s'=>wpAny (model P w) (A.deeper (envOfC qual scope s.heap.objs.size f cd)) (leaving (envOfC qual scope s.heap.objs.size f cd) e) (fun _ s''=>CX outer H s E e s'') (fun e' s''=>CX outer H s E e' s'') s'
theorem inv_startH {CX:CXT} {P:Program} {w:World} {K:PySem.W.Frag} {mg:Str→Option Value} {base:Heap} {N ps:List Str} {qual:Str} {scope:Scope} {f:Addr} {cd:Value} {A:Around} {outer:List Env} {s s1:Shared} {H:Hp} {E:XK} {us:List Value} {vs:List V}
    (S:FnScope N ps scope) (e0:Env0 P w K mg base A outer s H) (hl:vs.length=ps.length) (r:Vals vs us)
    (x:InCallC s s.heap.objs.size (bindL (envOfC qual scope s.heap.objs.size f cd).kindOf (ps.zip us) fun _=>none) (cellsFrom (s.heap.objs.size+1) scope.names []) (bindC (envOfC qual scope s.heap.objs.size f cd).kindOf (ps.zip us) fun _=>none) s1) :
    Inv (cxOfH CX P w K mg base N qual scope f cd A outer s H E) [] (start N vs) H s1:=by
  have hpl:ps.length≤N.length:=by have:=congrArg List.length S.pre;rw [List.length_take] at this;omega
  obtain ⟨h1,tk,rfl,hk⟩:=x.done
  have noA:∀ b:Addr,b ∉ (cxOfH CX P w K mg base N qual scope f cd A outer s H E).ex:=fun b z=>absurd (show b∈([]:List Addr) from z) (by simp)
  refine ⟨⟨e0.mod,S.kind,rfl,rfl,Nat.le_refl _,fun y z c h1 h2=>?_,fun y hy=>?_,fun y c _ h=>?_,fun z=>(nomatch z),Around.frames_deeper e0.frames,.inr ⟨rfl,rfl⟩,fun b z=>absurd z (noA b),e0.bs,e0.bsz,fun b _ _=>noA b,fun b z=>absurd z (noA b),e0.funs,e0.frf⟩,
    rfl,e0.bare,Un.kept hk,⟨_,x.toInCall.ns,fun i y v h1 h2 h3=>?_⟩,fun y c h=>⟨_,x.cell y c h⟩,e0.hok.fresh (Nat.le_refl _),fun y c h=>?_,fun p hp=>absurd (show p∈([]:List (Addr × Obj)) from hp) (by simp),e0.hok.kept hk,?_⟩
  · exact name_of_addr x.apart (PySem.mem_of_lookup h1) (PySem.mem_of_lookup h2)
  · have hy:scope.names.lookup y=some .cell∨scope.names.lookup y=some .free:=hy
    rcases hy with hy | hy
    · exact cell_has hy
    · exact absurd rfl (S.nofree _ (PySem.mem_of_lookup hy))
  · exact Nat.le_of_lt (x.above y c (PySem.mem_of_lookup h))
  · have hi:i < vs.length:=by
      unfold start at h2
      by_cases hi:i < vs.length
      · exact hi
      · rw [List.getElem?_append_right (by simpa using hi)] at h2
        rw [List.getElem?_replicate] at h2
        split at h2 <;> cases h2
    have ha:vs[i]?=some v:=by
      unfold start at h2
      rw [List.getElem?_append_left (by simpa using hi),List.getElem?_map] at h2
      cases e:vs[i]? with
      | none=>rw [e] at h2;cases h2
      | some a=>rw [e] at h2;cases h2;rfl
    obtain ⟨u,hu,rv⟩:=r.get ha
    have hp:ps[i]?=some y:=by
      rw [← S.pre,List.getElem?_take_of_lt (by omega)];exact h1
    have ndP:ps.Nodup:=by rw [← S.pre];exact S.nd.sublist (List.take_sublist _ _)
    refine ⟨u,rv,?_⟩
    rcases S.par y (List.mem_of_getElem? hp) with k | k
    · exact .inl ⟨k,bindL_get ndP hp hu k⟩
    · obtain ⟨c,e⟩:=cell_has (n:=s.heap.objs.size+1) k
      refine .inr ⟨.inl k,c,e,?_⟩
      have q:=x.cell y c e
      rw [bindC_get ndP hp hu (by show scope.names.lookup y≠_;rw [k];decide)] at q
      exact q
  · exact e0.hok.fresh (Nat.le_of_lt (x.above y c (PySem.mem_of_lookup h)))
  · unfold start
    show _=N.length
    rw [List.length_append,List.length_map,List.length_replicate]
    omega
structure FnOkH (P:Program) (w:World) (K:PySem.W.Frag) (mg:Str→Option Value) (base:Heap) (CX:CXT) (k:Nat) (f:Addr) (fd:FuncData) (ps:List Str) (sp:Sp):Prop where
  len:∀ vs H Q E,sp vs H Q E→vs.length=ps.length
  run:∀ (A:Around) (outer:List Env) (s:Shared) (H:Hp) (args:Args) (us:List Value) (vs:List V) (Q:VK) (E:XK),RoomH k A→Env0 P w K mg base A outer s H→BindsTo s fd args (ps.zip us)→Vals vs us→sp vs H Q E →
    codeAny (model P w) A (.call (.ref f) args) (CR CX outer P w H s Q E) s
theorem FnOkH.mono {P:Program} {w:World} {K:PySem.W.Frag} {mg:Str→Option Value} {base:Heap} {CX:CXT} {j k:Nat} {f:Addr} {fd:FuncData} {ps:List Str} {sp:Sp} (F:FnOkH P w K mg base CX j f fd ps sp) (h:j≤k) :
    FnOkH P w K mg base CX k f fd ps sp:=⟨F.len,fun A outer s H args us vs Q E hr=>F.run A outer s H args us vs Q E (hr.mono h)⟩
theorem fn_ofH {CX:CXT} {P:Program} {w:World} {K:PySem.W.Frag} {mg:Str→Option Value} {base:Heap} {k:Nat} {f:Addr} {name qual:Str} {params:Arguments} {body:List Stmt} {scope:Scope} {dV kV doc pm cdv ct oc:Value} {an od:Option Addr}
    {osl:Array (Option Value)} {N ps:List Str} {sp:Sp} (lk:K.lookup f=some ⟨oc,od,.func (PySem.W.fnOf name qual params body scope dV kV doc pm an cdv ct),osl⟩) (hcd:PySem.W.codeIn K cdv qual=true) (S:FnScope N ps scope)
    (len:∀ vs H Q E,sp vs H Q E→vs.length=ps.length)
    (hbody:∀ (A:Around) (outer:List Env) (s:Shared) (H:Hp) (vs:List V) (Q:VK) (E:XK),RoomH k (A.deeper (envOfC qual scope s.heap.objs.size f cdv))→sp vs H Q E →
      ∃ t,PSs (cxOfH CX P w K mg base N qual scope f cdv A outer s H E) body t∧t { nx:=fun _ H'=>Q .non H',rt:=Q } (start N vs) H) :
    FnOkH P w K mg base CX (k+1) f (PySem.W.fnOf name qual params body scope dV kV doc pm an cdv ct) ps sp:=by
  refine ⟨len,fun A outer s H args us vs Q E hr e0 hb r hsp=>?_⟩
  have hl:=len _ _ _ _ hsp
  have KX:K.In s.heap:=e0.mod.kin.keeps fun b o e=>(e0.bs b o e).1
  have lim:s.heap.NoLimit:=e0.mod.nolimit.keeps fun b o e=>(e0.bs b o e).1
  have hkind:∀ y∈ps.zip us,scope.names.lookup y.1=some .local∨(scope.names.lookup y.1=some .cell∧((cellsFrom (s.heap.objs.size+1) scope.names []).lookup y.1).isSome=true):=fun ⟨n,v⟩ hy=>by
    rcases S.par n (List.of_mem_zip hy).1 with q | q
    · exact .inl q
    · exact .inr ⟨q,PySem.W.cellsFrom_some _ _ _ (.inl q)⟩
  refine codeAny_call_function hr.depth (KX _ _ lk) rfl S.co S.gen rfl (PySem.W.codeRec_of KX hcd) (hb _ _ _ _ ?_)
  refine wpAny_newFunctionEnv_cells S.kind hkind fun env he s1 x=>?_
  subst he
  refine ⟨lim.keeps x.toInCall.keep,codeAny_func ?_⟩
  obtain ⟨t,ht,hq⟩:=hbody A outer s H vs Q E (hr.deeper _) hsp
  have I:Inv (cxOfH CX P w K mg base N qual scope f cdv A outer s H E) [] (start N vs) H s1:=inv_startH S e0 hl r x
  refine wpAny_mono (ht [] s1 (start N vs) H _ I hq) (fun fl s' hs=>?_) fun e s' hs=>hs
  have fin:∀ {σ':St} {H':Hp} {v:V} {u:Value},Inv (cxOfH CX P w K mg base N qual scope f cdv A outer s H E) [] σ' H' s'→RelV v u→Q v H'→CE outer P w H s Q u s':=
    fun {σ' H' v u} J rv q=>⟨v,H',J.os,J.bare,J.base,J.hok,rv,q⟩
  cases fl with
  | ret u=>
    obtain ⟨v,σ',H',J,rv,q⟩:=hs
    exact fin J rv q
  | next=>
    obtain ⟨σ',H',J,q⟩:=hs
    exact fin (v:=V.non) (u:=Value.none) J rfl q
  | brk=>
    obtain ⟨_,_,_,q⟩:=hs
    exact False.elim q
  | cont=>
    obtain ⟨_,_,_,q⟩:=hs
    exact False.elim q
section
variable {X:Cx} {CX:CXT} {k:Nat} {f C:Addr} {fd:FuncData} {ps:List Str} {sp:Sp} {dvs:List V} {ds:List Value} {E:XK} {x m:Str} {p pos apos:Pos} {e o:Expr} {es:List Expr} {ta:TE} {t:TA}
theorem run_fnH {pins:List (Addr × Obj)} {σ:St} {H:Hp} {s:Shared} {Q:VK} {us:List Value} {vs:List V} (F:FnOkH X.prog X.w X.K X.mg X.base CX k f fd ps sp) (hr:RoomH k X.A) (hb:Binds X.K fd ps ds) (hd:Vals dvs ds) (hx:Passes CX X E)
    (I:Inv X pins σ H s) (r:Vals vs us) (h:sp (vs++dvs) H Q E):wpAny (model X.prog X.w) X.A (call (.ref f) us) (EP X pins σ Q) X.xe s:=by
  have r2:Vals (vs++dvs) (us++ds):=r.append hd
  have hl:(us++ds).length=ps.length:=by rw [← r2.length];exact F.len _ _ _ _ h
  refine wpAny_call (codeAny_mono (F.run X.A X.stack s H ⟨us,[]⟩ (us++ds) (vs++dvs) Q E hr I.env0 (hb s us I.kIn hl) r2 h) fun r s' hq=>?_)
  cases r with
  | error e=>exact hx pins σ H s e s' I hq
  | ok fl=>
    cases fl with
    | ret u=>exact I.after hq
    | next=>exact False.elim hq
    | brk=>exact False.elim hq
    | cont=>exact False.elim hq
theorem pe_callN (F:FnOkH X.prog X.w X.K X.mg X.base CX k f fd ps sp) (hr:RoomH k X.A) (hg:Gl X x) (hm:X.mg x=some (.ref f)) (hk:PySem.W.keepIn X.K (.ref f)=true) (hb:Binds X.K fd ps ds) (hd:Vals dvs ds) (hx:Passes CX X E)
    (ha:PA X (e :: es) t) (hdb:(x == ("__debug__" : Str))=false:=by decide) (he:starEach (e :: es) X.env=(false,eval e X.env) :: starEach es X.env:=by rfl) (hpl:(backTo pos (starEach es X.env)).any (·.1)=false:=by rfl) :
    PE X (.Call (.Name x p) (e :: es) [] pos) (tCall sp dvs E t):=by
  intro pins s σ H Q I h
  refine wpAny_Call_Name_kw (ld_glob I hg hm ?_ hdb)
  refine PySem.W.callWith_K (h₀:=X.base) I.ok.mod.kin hk (thn (ha pos pins s σ H _ I h) fun us s1 ⟨vs,H1,I1,r,q⟩=>⟨I1.kIn,?_⟩) he hpl
  exact run_fnH F hr hb hd hx I1 r q
end
section
variable {P:Program} {w:World} {K:PySem.W.Frag} {mg:Str→Option Value} {base:Heap}
theorem Fun.okH {x qual:Str} {st:Stmt} {f:Addr} {fd:FuncData} {N ps:List Str} {k:Nat} {sp:Sp} (F:Fun K x qual st f fd) (S:FnScope N ps (defScope st)) (len:∀ vs H Q E,sp vs H Q E→vs.length=ps.length)
    (hbody:∀ (cdv:Value) (A:Around) (outer:List Env) (s:Shared) (H:Hp) (vs:List V) (Q:VK) (E:XK),RoomH k (A.deeper (envOfC qual (defScope st) s.heap.objs.size f cdv))→sp vs H Q E →
      ∃ t,PSs (cxOfH CX0 P w K mg base N qual (defScope st) f cdv A outer s H E).nox (defBody st) t∧t { nx:=fun _ H'=>Q .non H',rt:=Q } (start N vs) H):FnOkH P w K mg base CX0 (k+1) f fd ps sp:=by
  obtain ⟨oc,od,kV,doc,pm,an,cdv,ct,osl,rfl,lk,hcd⟩:=F.ex
  refine fn_ofH lk hcd S len fun A outer s H vs Q E hr hsp=>?_
  obtain ⟨t,h,q⟩:=hbody cdv A outer s H vs Q E hr hsp
  exact ⟨t,h.nox,q⟩
end
def HasH (P:Program) (w:World) (K:PySem.W.Frag) (mg:Str→Option Value) (base:Heap) (x:Str) (k:Nat) (ps:List Str) (sp:Sp):Prop:=
  ∃ f fd,FnOkH P w K mg base CX0 k f fd ps sp∧Binds K fd ps []∧PySem.W.keepIn K (.ref f)=true∧mg x=some (.ref f)
section
variable {P:Program} {w:World} {K:PySem.W.Frag} {mg:Str→Option Value} {base:Heap}
theorem HasH.mono {x:Str} {j k:Nat} {ps:List Str} {sp:Sp} (G:HasH P w K mg base x j ps sp) (h:j≤k):HasH P w K mg base x k ps sp:=
  let ⟨f,fd,F,r⟩:=G;⟨f,fd,F.mono h,r⟩
theorem Df.hasH {x:Str} {st:Stmt} {N ps:List Str} {k:Nat} {sp:Sp} (D:Df K mg x st) (S:FnScope N ps (defScope st))
    (hb:∀ (kV doc pm:Value) (an:Option Addr) (cdv ct:Value) (us:List Value),us.length=ps.length→bindArgs (PySem.W.fnOf x x (defArgs st) (defBody st) (defScope st) .none kV doc pm an cdv ct) ⟨us,[]⟩=pure (ps.zip us))
    (len:∀ vs H Q E,sp vs H Q E→vs.length=ps.length)
    (hbody:∀ (f:Addr) (cdv:Value) (A:Around) (outer:List Env) (s:Shared) (H:Hp) (vs:List V) (Q:VK) (E:XK),RoomH k (A.deeper (envOfC x (defScope st) s.heap.objs.size f cdv))→sp vs H Q E →
      ∃ t,PSs (cxOfH CX0 P w K mg base N x (defScope st) f cdv A outer s H E).nox (defBody st) t∧t { nx:=fun _ H'=>Q .non H',rt:=Q } (start N vs) H):HasH P w K mg base x (k+1) ps sp:=by
  obtain ⟨f,fd,F,m⟩:=D
  exact ⟨f,fd,F.okH S len fun cdv A outer s H vs Q E hr h=>hbody f cdv A outer s H vs Q E hr h,F.binds hb,F.kp,m⟩
end
theorem pe_callHH {X:Cx} {x:Str} {k:Nat} {ps:List Str} {sp:Sp} {p pos:Pos} {e:Expr} {es:List Expr} {t:TA} (G:HasH X.prog X.w X.K X.mg X.base x k ps sp) (hr:RoomH k X.A) (hg:Gl X x) (ha:PA X (e :: es) t)
    (hdb:(x == ("__debug__" : Str))=false:=by decide) (he:starEach (e :: es) X.env=(false,eval e X.env) :: starEach es X.env:=by rfl) (hpl:(backTo pos (starEach es X.env)).any (·.1)=false:=by rfl) :
    PE X (.Call (.Name x p) (e :: es) [] pos) (tCall sp [] E0 t):=by
  obtain ⟨f,fd,F,b,kp,m⟩:=G
  exact pe_callN F hr hg m kp b .nil pass0 ha hdb he hpl
end L2
namespace S15
open PySem L2 W7
structure Blt7 (mg:Str→Option Value):Prop extends Blt mg where
  sorted:mg "sorted" = none
  ValueError_:mg "ValueError" = none
section
variable {P:Program} {w:World} {K:PySem.W.Frag} {mg:Str→Option Value} {base:Heap} {k:Nat}
abbrev lpO:Pos:=⟨50,41,50,76⟩
abbrev qO:Str:=(("order_of" : Str) ++ ".<locals>.") ++ "<lambda>"
def Kw (ups:List Int) (lab:Str) (i:Nat):List V:=[.str (mk (W ups lab.cps.toList i)),.int (i:Int)]
theorem kw_keys (ups:List Int) (lab:Str) (n:Nat):Keys n (Kw ups lab) [2,1] where
  shp:=fun i=>rfl
  ne:=by simp
  z:=by simp
  inj:=fun i j _ _ h=>by
    have h2:[V.str (mk (W ups lab.cps.toList i)),.int (i:Int)]=[.str (mk (W ups lab.cps.toList j)),.int (j:Int)]:=h
    simp only [List.cons.injEq,V.int.injEq,and_true] at h2
    omega
structure OrderOk (ups:List Int) (lab:Str) (os:List Nat):Prop where
  perm:os.Perm (List.range ups.length)
  rise:∀ i j,i < j→j < ups.length→lexV (Kw ups lab (os.getD j 0)) (Kw ups lab (os.getD i 0))=false
theorem OrderOk.len {ups:List Int} {lab:Str} {os:List Nat} (h:OrderOk ups lab os):os.length=ups.length:=by have:=h.perm.length_eq;simpa using this
theorem OrderOk.one {ups:List Int} {lab:Str} {os os':List Nat} (h:OrderOk ups lab os) (h':OrderOk ups lab os'):os=os':=rise_one (kw_keys ups lab ups.length) h.perm h'.perm h.rise h'.rise
abbrev natV (l:List Nat):List V:=l.map fun i:Nat=>V.int (i:Int)
theorem wordsV_at {ups:List Int} {lab:Str} {i n:Nat} (h:i < n):atI (wordsV ups lab n) (i:Int)=some (.str (mk (W ups lab.cps.toList i))):=atI_nat (by unfold wordsV;rw [List.getElem?_map,List.getElem?_range h];rfl)
def sp_order (ls:List Lm):Sp:=fun vs H Q _=>∃ (t:Addr) (ups:List Int) (lab:Str),vs=[.ref t]∧TreeAt H t ups lab∧Lams ls H ∧
  ∀ (os:List Nat) (r:Addr) (H':Hp),OrderOk ups lab os→Kt ls H H'→H r=none→H' r=some (.lst (natV os))→Q (.ref r) H'
theorem has_order {T:Addr} {ls:List Lm} (D:Df K mg "order_of" s_order_of) (B:Blt7 mg) (kb:K.In base) (TA:TabAt base mg "order_of" T) (LK:LmOk ls) (LI:(T,lpO,qO)∈ls) (G_words_of:Has P w K mg base "words_of" k ["tree"] sp_words):Has P w K mg base "order_of" (k+1) ["tree"] (sp_order ls):=by
  refine D.hasT kb TA sc_order_of (fun _ _ _ _ _ _ us hl=>match us,hl with | [_],_=>rfl) (fun vs H Q E h=>by obtain ⟨t,ups,lab,rfl,_⟩:=h;rfl) (fun f c A outer s H vs Q E CH hr h=>?_)
  have BA:=TA.blt
  obtain ⟨t,ups,lab,rfl,tr,L,q⟩:=h
  refine ⟨_,(pss_cons (ps_set (i:=1) sc_order_of.nd rfl (by first | exact Or.inl rfl | exact Or.inr rfl) (pe_callH G_words_of hr rfl (pa_cons (pv 0) pa_nil)))
  (pss_one (ps_ret (pe_sortLam (x := "place") (ix:=[1]) hr rfl rfl B.sorted (pe_rng1 rfl B.range (pa_cons (pe_callB call_len_seq rfl B.len bt_len (pa_cons (pv 1) pa_nil)) pa_nil)) rfl CH BA LK LI (csc (defScope s_order_of) N_order_of) (fun qual cl fa cd A1 s₃ H₃ pins=>(pe_tup (pa_cons (pe_ix (ix_listK K) (pv 1) (pv 0) (fun _ _=>rfl)) (pa_cons (pv 0) pa_nil)))))))),?_⟩
  obtain ⟨_,_,_,ok⟩:=id tr
  have m60:=ok.most
  have lpos:=ok.pos
  refine ⟨_,rfl,t,ups,lab,rfl,tr,fun r H1 s1 hr1=>?_⟩
  have wl:(wordsV ups lab ups.length).length=ups.length:=by simp [wordsV]
  have L1:=L.same s1
  refine ⟨_,rfl,r,_,rfl,.inl (SqL.of hr1),_,rfl,fun g hg=>?_⟩
  have s2:Same H1 (upd H1 g (.rng 0 (((wordsV ups lab ups.length).length:Nat):Int))):=(Same.refl H1).new hg
  refine ⟨g,0,_,Kw ups lab,[2,1],rfl,upd_same,⟨by decide,by decide,by omega,by omega⟩,by omega,L1.same s2,kw_keys _ _ _,fun i H2 hi kt=>?_,fun p l H2 hp hrise kt hl hl2=>?_⟩
  · have hr2:=kt.lst (s2 _ _ hr1)
    rw [wl] at hi
    have e0:(0:Int)+(i:Int)=(i:Int):=Int.zero_add _
    refine ⟨_,rfl,_,rfl,r,_,_,_,rfl,rfl,SqL.of hr2,by rw [e0];exact wordsV_at (by omega),_,rfl,(by show 2≤sizeLine;decide),fun a ha=>⟨a,rfl,?_,(Same.refl H2).new ha⟩⟩
    rw [upd_same]
    unfold Kw
    rw [e0]
  · have e1:((((wordsV ups lab ups.length).length:Nat):Int) - 0).toNat=ups.length:=by rw [wl];omega
    rw [e1] at hp hrise
    refine q p l H2 ⟨hp,hrise⟩ ((s1.trans s2).kt kt) ((s1.trans s2).free hl) ?_
    rw [hl2]
    congr 2
    unfold natV
    refine List.map_congr_left fun i _=>?_
    rw [Int.zero_add]
end
end S15
namespace S15
open PySem L2 W7
theorem bt_ValueError:bootBuiltins "ValueError" = some (.type "ValueError"):=by decide +kernel
structure Exs (K:PySem.W.Frag) (mg:Str→Option Value) where
  c_UpError:Addr
  m_UpError:mg "UpError" = some (.ref c_UpError)
  c_NoPlace:Addr
  m_NoPlace:mg "NoPlace" = some (.ref c_NoPlace)
  c_NoNumber:Addr
  m_NoNumber:mg "NoNumber" = some (.ref c_NoNumber)
  c_NoWord:Addr
  m_NoWord:mg "NoWord" = some (.ref c_NoWord)
  c_NoRows:Addr
  m_NoRows:mg "NoRows" = some (.ref c_NoRows)
  c_NoRuns:Addr
  m_NoRuns:mg "NoRuns" = some (.ref c_NoRuns)
  c_NoCover:Addr
  m_NoCover:mg "NoCover" = some (.ref c_NoCover)
  c_NoText:Addr
  m_NoText:mg "NoText" = some (.ref c_NoText)
  c_TooMany:Addr
  m_TooMany:mg "TooMany" = some (.ref c_TooMany)
  c_NoTries:Addr
  m_NoTries:mg "NoTries" = some (.ref c_NoTries)
  c_NoPattern:Addr
  m_NoPattern:mg "NoPattern" = some (.ref c_NoPattern)
  c_NoLetter:Addr
  m_NoLetter:mg "NoLetter" = some (.ref c_NoLetter)
  c_NoLeaf:Addr
  m_NoLeaf:mg "NoLeaf" = some (.ref c_NoLeaf)
  c_NoChange:Addr
  m_NoChange:mg "NoChange" = some (.ref c_NoChange)
  c_NoLine:Addr
  m_NoLine:mg "NoLine" = some (.ref c_NoLine)
  c_NoTree:Addr
  m_NoTree:mg "NoTree" = some (.ref c_NoTree)
  q_NoNumber:PySem.W.excIn K c_NoNumber bmV "ValueError.__new__" = true
  z_NoNumber:ExK K c_NoNumber
  u_NoNumber:PySem.W.exmOne K (.ref c_NoNumber) (.ref c_UpError)=some true
  n0:PySem.W.kitOne K (.ref c_NoNumber) (.ref c_NoNumber)=some true
  n1:PySem.W.kitOne K (.ref c_NoNumber) (.ref c_NoWord)=some false
  n2:PySem.W.kitOne K (.ref c_NoNumber) (.ref c_NoPattern)=some false
  nv:PySem.W.kitOne K (.ref c_NoNumber) (.type "ValueError")=some true
  n3:PySem.W.kitAny K (.ref c_NoNumber) ([c_NoPlace,c_NoRows,c_NoRuns,c_NoCover,c_NoText,c_TooMany,c_NoTries,c_NoLetter].map Value.ref)=some false
  n4:PySem.W.kitAny K (.ref c_NoNumber) ([c_NoLeaf,c_NoChange,c_NoLine,c_NoTree].map Value.ref)=some false
inductive Thg (H:Hp):V→Prop
  | non:Thg H .non
  | bl (b:Bool):Thg H (.bl b)
  | int (i:Int):Thg H (.int i)
  | str (z:Str):Thg H (.str z)
  | lst {a:Addr} {xs:List V} (e:H a=some (.lst xs)):Thg H (.ref a)
  | tup {a:Addr} {xs:List V} (e:H a=some (.tup xs)):Thg H (.ref a)
  | dct {a:Addr} {kvs:List (Key × V)} (e:H a=some (.dK kvs)):Thg H (.ref a)
theorem Thg.same {H H':Hp} {x:V} (h:Thg H x) (s:Same H H'):Thg H' x:=by
  cases h with
  | non=>exact .non
  | bl b=>exact .bl b
  | int i=>exact .int i
  | str z=>exact .str z
  | lst e=>exact .lst (s _ _ e)
  | tup e=>exact .tup (s _ _ e)
  | dct e=>exact .dct (s _ _ e)
def wh:V→Bool
  | .int _=>true
  | _=>false
def below:V→Int→Bool
  | .int i,n=>decide (0≤i) && decide (i < n)
  | _,_=>false
section
variable {P:Program} {w:World} {K:PySem.W.Frag} {mg:Str→Option Value} {base:Heap} {k:Nat}
theorem kit_none_int (K:PySem.W.Frag):PySem.W.kitOne K (.type "NoneType") (.type "int")=some false:=by rfl
theorem kit_str_int (K:PySem.W.Frag):PySem.W.kitOne K (.type "str") (.type "int")=some false:=by rfl
theorem kit_list_int (K:PySem.W.Frag):PySem.W.kitOne K (.type "list") (.type "int")=some false:=by rfl
theorem kit_tuple_int (K:PySem.W.Frag):PySem.W.kitOne K (.type "tuple") (.type "int")=some false:=by rfl
theorem kit_dict_int (K:PySem.W.Frag):PySem.W.kitOne K (.type "dict") (.type "int")=some false:=by rfl
theorem kit_bool_int (K:PySem.W.Frag):PySem.W.kitOne K (.type "bool") (.type "int")=some true:=by rfl
def sp_iswhole:Sp:=fun vs H Q _=>∃ x:V,vs=[x]∧Thg H x∧Q (.bl (wh x)) H
theorem has_iswhole (D:Df K mg "is_whole" s_is_whole) (B:Blt7 mg):Has P w K mg base "is_whole" (k+1) ["thing"] sp_iswhole:=by
  refine D.has sc_is_whole (fun _ _ _ _ _ _ us hl=>match us,hl with | [_],_=>rfl) (fun vs H Q E h=>by obtain ⟨x,rfl,_⟩:=h;rfl) (fun f cdv A outer s H vs Q E hr h=>?_)
  obtain ⟨x,rfl,th,q⟩:=h
  refine ⟨_,(pss_one (ps_ret (pe_and (pe_callB call_isinst rfl B.isinstance bt_isinstance (pa_cons (pv 0) (pa_cons (pe_bltn (v:=.ty "int") rfl B.int_ bt_int rfl) pa_nil))) (pe_one (pe_not (pe_callB call_isinst rfl B.isinstance bt_isinstance (pa_cons (pv 0) (pa_cons (pe_bltn (v:=.ty "bool") rfl B.bool_ bt_bool rfl) pa_nil)))))))),?_⟩
  cases th with
  | non=>exact ⟨_,rfl,_,_, "int", false,rfl,.non,kit_none_int _,_,rfl,iteF q⟩
  | str z=>exact ⟨_,rfl,_,_, "int", false,rfl,.str _,kit_str_int _,_,rfl,iteF q⟩
  | lst e=>exact ⟨_,rfl,_,_, "int", false,rfl,.lst e,kit_list_int _,_,rfl,iteF q⟩
  | tup e=>exact ⟨_,rfl,_,_, "int", false,rfl,.tup e,kit_tuple_int _,_,rfl,iteF q⟩
  | dct e=>exact ⟨_,rfl,_,_, "int", false,rfl,.dK e,kit_dict_int _,_,rfl,iteF q⟩
  | bl b=>
    refine ⟨_,rfl,_,_, "int", true,rfl,.bl _,kit_bool_int _,_,rfl,iteT ?_⟩
    exact ⟨_,rfl,_,_, "bool", true,rfl,.bl _,kit_same _ _,_,rfl,q⟩
  | int i=>
    refine ⟨_,rfl,_,.type "int", "int", true,rfl,.int _,kit_same _ _,_,rfl,iteT ?_⟩
    exact ⟨_,rfl,_,.type "int", "bool", false,rfl,.int _,kit_int_bool _,_,rfl,q⟩
def sp_below:Sp:=fun vs H Q _=>∃ (x:V) (n:Int),vs=[x,.int n]∧Thg H x∧Q (.bl (below x n)) H
theorem has_below (D:Df K mg "is_number_below" s_is_number_below) (B:Blt7 mg) (G_is_whole:Has P w K mg base "is_whole" k ["thing"] sp_iswhole):Has P w K mg base "is_number_below" (k+1) ["thing", "behind"] sp_below:=by
  refine D.has sc_is_number_below (fun _ _ _ _ _ _ us hl=>match us,hl with | [_,_],_=>rfl) (fun vs H Q E h=>by obtain ⟨x,y,rfl,_⟩:=h;rfl) (fun f cdv A outer s H vs Q E hr h=>?_)
  obtain ⟨x,n,rfl,th,q⟩:=h
  refine ⟨_,(pss_one (ps_ret (pe_and (pe_callH G_is_whole hr rfl (pa_cons (pv 0) pa_nil)) (pe_one (pe_chain op_le op_lt pe_int (pv 0) (pv 1)))))),?_⟩
  refine ⟨_,rfl,x,rfl,th,_,rfl,?_⟩
  cases x with
  | int i=>
    refine iteT ⟨_,rfl,_,_,rfl,rfl,_,rfl,ite2 (fun c=>?_) (fun c=>?_)⟩
    · refine ⟨_,rfl,_,_,rfl,rfl,?_⟩
      have q':Q (.bl (decide (0≤i) && decide (i < n))) H:=q
      rw [c,Bool.true_and] at q'
      exact q'
    · have q':Q (.bl (decide (0≤i) && decide (i < n))) H:=q
      rw [Bool.eq_false_iff.mpr c,Bool.false_and] at q'
      exact q'
  | _=>exact iteF q
def sp_kind (cN:Addr):Sp:=fun vs H Q _=>∃ a:Addr,vs=[.ref a]∧H a=some (excO a cN)∧∀ H',Same H H'→Q (.str "number") H'
theorem has_kind (EX:Exs K mg) (D:Df K mg "_law_kind" s_law_kind) (B:Blt7 mg):HasH P w K mg base "_law_kind" (k+1) ["caught"] (sp_kind EX.c_NoNumber):=by
  refine D.hasH sc_law_kind (fun _ _ _ _ _ _ us hl=>match us,hl with | [_],_=>rfl) (fun vs H Q E h=>by obtain ⟨a,rfl,_⟩:=h;rfl) (fun f cdv A outer s H vs Q E hr h=>?_)
  obtain ⟨a,rfl,ha,q⟩:=h
  refine ⟨_,(pss_cons (ps_set (i:=1) sc_law_kind.nd rfl (by first | exact Or.inl rfl | exact Or.inr rfl) (pe_lst (pa_cons (pe_callB (call_isinstE K) rfl B.isinstance bt_isinstance (pa_cons (pv 0) (pa_cons (pe_glob (x := "NoNumber") (v:=.ref EX.c_NoNumber) rfl EX.m_NoNumber rfl) pa_nil))) (pa_cons (pe_callB (call_isinstE K) rfl B.isinstance bt_isinstance (pa_cons (pv 0) (pa_cons (pe_glob (x := "NoWord") (v:=.ref EX.c_NoWord) rfl EX.m_NoWord rfl) pa_nil))) (pa_cons (pe_callB (call_isinstE K) rfl B.isinstance bt_isinstance (pa_cons (pv 0) (pa_cons (pe_glob (x := "NoPattern") (v:=.ref EX.c_NoPattern) rfl EX.m_NoPattern rfl) pa_nil))) pa_nil)))))
  (pss_cons (ps_set (i:=2) sc_law_kind.nd rfl (by first | exact Or.inl rfl | exact Or.inr rfl) (pe_callB (call_isinstET K) rfl B.isinstance bt_isinstance (pa_cons (pv 0) (pa_cons (pe_tup (pa_cons (pe_glob (x := "NoPlace") (v:=.ref EX.c_NoPlace) rfl EX.m_NoPlace rfl) (pa_cons (pe_glob (x := "NoRows") (v:=.ref EX.c_NoRows) rfl EX.m_NoRows rfl) (pa_cons (pe_glob (x := "NoRuns") (v:=.ref EX.c_NoRuns) rfl EX.m_NoRuns rfl) (pa_cons (pe_glob (x := "NoCover") (v:=.ref EX.c_NoCover) rfl EX.m_NoCover rfl) (pa_cons (pe_glob (x := "NoText") (v:=.ref EX.c_NoText) rfl EX.m_NoText rfl) (pa_cons (pe_glob (x := "TooMany") (v:=.ref EX.c_TooMany) rfl EX.m_TooMany rfl) (pa_cons (pe_glob (x := "NoTries") (v:=.ref EX.c_NoTries) rfl EX.m_NoTries rfl) (pa_cons (pe_glob (x := "NoLetter") (v:=.ref EX.c_NoLetter) rfl EX.m_NoLetter rfl) pa_nil))))))))) pa_nil))))
  (pss_cons (ps_if (PW.pt (pw_or (pt_val (pv 2)) (pw_or (pt_val (pe_callB (call_isinstET K) rfl B.isinstance bt_isinstance (pa_cons (pv 0) (pa_cons (pe_tup (pa_cons (pe_glob (x := "NoLeaf") (v:=.ref EX.c_NoLeaf) rfl EX.m_NoLeaf rfl) (pa_cons (pe_glob (x := "NoChange") (v:=.ref EX.c_NoChange) rfl EX.m_NoChange rfl) (pa_cons (pe_glob (x := "NoLine") (v:=.ref EX.c_NoLine) rfl EX.m_NoLine rfl) (pa_cons (pe_glob (x := "NoTree") (v:=.ref EX.c_NoTree) rfl EX.m_NoTree rfl) pa_nil))))) pa_nil)))) (pw_or1 (pt_cmpR op_ne (pe_countB K (pv 1) pe_bl) pe_int (nomark _))))))
  (pss_one (ps_ret pe_str))
  pss_nil)
  (pss_cons (ps_if (pt_not (pt_val (pe_callB (call_isinstEB K) rfl B.isinstance bt_isinstance (pa_cons (pv 0) (pa_cons (pe_bltn (v:=.ty "ValueError") rfl B.ValueError_ bt_ValueError rfl) pa_nil)))))
  (pss_one (ps_ret pe_str))
  pss_nil)
  (pss_one (ps_ret (pe_ix ix_list (pe_lst (pa_cons pe_str (pa_cons pe_str (pa_cons pe_str pa_nil)))) (pe_indexT K (pv 1) pe_bl) (fun _ _=>rfl)))))))),?_⟩
  refine ⟨_,rfl,a,EX.c_NoNumber,_,true,rfl,ha,EX.z_NoNumber,EX.n0,_,rfl,a,EX.c_NoNumber,_,false,rfl,ha,EX.z_NoNumber,EX.n1,_,rfl,a,EX.c_NoNumber,_,false,rfl,ha,EX.z_NoNumber,EX.n2,(by show 3≤sizeLine;decide),fun l1 hl1=>?_⟩
  have s1:Same H (upd H l1 (.lst [.bl true,.bl false,.bl false])):=(Same.refl H).new hl1
  have h1:upd H l1 (.lst [.bl true,.bl false,.bl false]) l1=some (.lst ([true,false,false].map V.bl)):=upd_same
  show (fun HH=>_) (upd H l1 (.lst [.bl true,.bl false,.bl false]))
  generalize upd H l1 (.lst [.bl true,.bl false,.bl false])=H1 at s1 h1
  have ha1:=s1 _ _ ha
  refine ⟨_,rfl,(by show 8≤sizeLine;decide),fun t2 ht2=>?_⟩
  have s2:Same H1 (upd H1 t2 (.tup [V.ref EX.c_NoPlace,V.ref EX.c_NoRows,V.ref EX.c_NoRuns,V.ref EX.c_NoCover,V.ref EX.c_NoText,V.ref EX.c_TooMany,V.ref EX.c_NoTries,V.ref EX.c_NoLetter])):=(Same.refl H1).new ht2
  have ha2:=s2 _ _ ha1
  have h2:=s2 _ _ h1
  refine ⟨a,EX.c_NoNumber,t2,_,false,rfl,ha2,upd_same,EX.z_NoNumber,EX.n3,?_⟩
  show (fun HH=>_) (upd H1 t2 (.tup [V.ref EX.c_NoPlace,V.ref EX.c_NoRows,V.ref EX.c_NoRuns,V.ref EX.c_NoCover,V.ref EX.c_NoText,V.ref EX.c_TooMany,V.ref EX.c_NoTries,V.ref EX.c_NoLetter]))
  generalize upd H1 t2 (.tup [V.ref EX.c_NoPlace,V.ref EX.c_NoRows,V.ref EX.c_NoRuns,V.ref EX.c_NoCover,V.ref EX.c_NoText,V.ref EX.c_TooMany,V.ref EX.c_NoTries,V.ref EX.c_NoLetter])=H2 at s2 ha2 h2
  refine ⟨_,rfl,_,rfl,iteF ?_⟩
  refine ⟨_,rfl,(by show 4≤sizeLine;decide),fun t3 ht3=>?_⟩
  have s3:Same H2 (upd H2 t3 (.tup [V.ref EX.c_NoLeaf,V.ref EX.c_NoChange,V.ref EX.c_NoLine,V.ref EX.c_NoTree])):=(Same.refl H2).new ht3
  have ha3:=s3 _ _ ha2
  have h3:=s3 _ _ h2
  refine ⟨a,EX.c_NoNumber,t3,_,false,rfl,ha3,upd_same,EX.z_NoNumber,EX.n4,?_⟩
  show (fun HH=>_) (upd H2 t3 (.tup [V.ref EX.c_NoLeaf,V.ref EX.c_NoChange,V.ref EX.c_NoLine,V.ref EX.c_NoTree]))
  generalize upd H2 t3 (.tup [V.ref EX.c_NoLeaf,V.ref EX.c_NoChange,V.ref EX.c_NoLine,V.ref EX.c_NoTree])=H3 at s3 ha3 h3
  refine ⟨_,rfl,iteF ?_⟩
  refine ⟨_,rfl,.inl ⟨rfl,_,SqL.of h3⟩,l1,[true,false,false],true,rfl,rfl,h3,rfl,_,rfl,L2.iteB (by rfl) ?_⟩
  refine ⟨_,rfl,a,EX.c_NoNumber, "ValueError", true,rfl,ha3,EX.z_NoNumber,EX.nv,_,rfl,iteF ?_⟩
  refine ⟨(by show 3≤sizeLine;decide),fun lr hlr=>?_⟩
  have s4:Same H3 (upd H3 lr (.lst [.str "number", .str "word", .str "pattern"])):=(Same.refl H3).new hlr
  refine ⟨_,rfl,.inl ⟨rfl,_,SqL.of (s4 _ _ h3)⟩,l1,[true,false,false],true,rfl,rfl,s4 _ _ h3,by simp,(by show 3≤10000;decide),?_⟩
  refine ⟨lr,_,_,.str "number", rfl,rfl,SqL.of upd_same,rfl,?_⟩
  exact q _ (((s1.trans s2).trans s3).trans s4)
end
end S15
namespace S15
open PySem L2 W7
theorem cut_list (z:Str) (lo hi:Option Int):(cutS z lo hi).cps.toList=(z.cps.toList.drop (HT.sIx z.length 0 lo)).take (HT.sIx z.length z.length hi - HT.sIx z.length 0 lo):=rfl
theorem cut_low {z:Str} (h:∀ x∈z.cps.toList,Lw x) (lo hi:Option Int):∀ x∈(cutS z lo hi).cps.toList,Lw x:=fun x hx=>h x (by rw [cut_list] at hx;exact List.mem_of_mem_drop (List.mem_of_mem_take hx))
theorem glue_cps:∀ (ss:List Str) (acc:Array Nat),(List.foldl (fun acc (p:Str)=>acc++(Str.ofString "").cps++p.cps) acc ss).toList=acc.toList++(ss.map fun z:Str=>z.cps.toList).flatten
  | [],acc=>by simp
  | x :: r,acc=>by
    rw [List.foldl_cons,glue_cps r,Array.toList_append,Array.toList_append]
    have e:(Str.ofString "").cps.toList=[]:=rfl
    rw [e,List.append_nil,List.map_cons,List.flatten_cons,List.append_assoc]
theorem join_cps (ss:List Str):(Txt.join (Str.ofString "") ss).cps.toList=(ss.map fun z:Str=>z.cps.toList).flatten:=by
  cases ss with
  | nil=>rfl
  | cons x r=>
    have:=glue_cps r x.cps
    rw [List.map_cons,List.flatten_cons]
    exact this
theorem cut_60 (z:Str):(cutS z none (some 60)).length≤60:=by
  have e:(cutS z none (some 60)).cps.toList.length=(cutS z none (some 60)).length:=Array.length_toList
  rw [← e,cut_list,List.length_take,show (some (60:Int))=some ((60:Nat):Int) from rfl,HT.sIx_nat]
  omega
theorem rev_low {z:Str} (h:∀ x∈z.cps.toList,Lw x):∀ x∈(revS z).cps.toList,Lw x:=fun x hx=>h x (by
  have:x∈z.cps.toList.reverse:=hx
  exact List.mem_reverse.mp this)
section
variable {P:Program} {w:World} {K:PySem.W.Frag} {mg:Str→Option Value} {base:Heap} {k:Nat}
def sp_sought:Sp:=fun vs H Q _=>∃ (p r:Addr) (c:Int) (ss:List Str),vs=[.ref p,.ref r]∧Deck H p c∧0≤c∧c < 900000∧H r=some (.lst (ss.map V.str))∧0 < ss.length∧ss.length≤60∧(∀ z∈ss,z.length≤60)∧(∀ z∈ss,∀ x∈z.cps.toList,Lw x) ∧
  ∀ (word:Str) (H':Hp),Kd p (c+20) H H'→word.length≤60→(∀ x∈word.cps.toList,Lw x)→Q (.str word) H'
theorem has_sought (D:Df K mg "_law_sought" s_law_sought) (B:Blt mg) (G_law_draw:Has P w K mg base "_law_draw" k ["deck_here", "many"] sp_draw) (G_law_some:Has P w K mg base "_law_some" k ["deck_here", "things"] sp_some)
    (G_law_letter:Has P w K mg base "_law_letter" k ["deck_here"] sp_letter):Has P w K mg base "_law_sought" (k+1) ["deck_here", "words_here"] sp_sought:=by
  refine D.has sc_law_sought (fun _ _ _ _ _ _ us hl=>match us,hl with | [_,_],_=>rfl) (fun vs H Q E h=>by obtain ⟨p,r,c,ss,rfl,_⟩:=h;rfl) (fun f cdv A outer s H vs Q E hr h=>?_)
  obtain ⟨p,r,c,ss,rfl,hd,cc0,cc1,hr0,s0,s60,sle,slo,q⟩:=h
  refine ⟨_,(pss_cons (ps_set (i:=2) sc_law_sought.nd rfl (by first | exact Or.inl rfl | exact Or.inr rfl) (pe_callH G_law_some hr rfl (pa_cons (pv 0) (pa_cons (pv 1) pa_nil))))
  (pss_cons (ps_set (i:=3) sc_law_sought.nd rfl (by first | exact Or.inl rfl | exact Or.inr rfl) (pe_callH G_law_draw hr rfl (pa_cons (pv 0) (pa_cons (pe_op op_add (pe_callB call_len_str rfl B.len bt_len (pa_cons (pv 2) pa_nil)) pe_int) pa_nil))))
  (pss_cons (ps_set (i:=4) sc_law_sought.nd rfl (by first | exact Or.inl rfl | exact Or.inr rfl) (pe_callH G_law_draw hr rfl (pa_cons (pv 0) (pa_cons (pe_op op_add (pe_callB call_len_str rfl B.len bt_len (pa_cons (pv 2) pa_nil)) pe_int) pa_nil))))
  (pss_cons (ps_set (i:=5) sc_law_sought.nd rfl (by first | exact Or.inl rfl | exact Or.inr rfl) (pe_callH G_law_letter hr rfl (pa_cons (pv 0) pa_nil)))
  (pss_cons (ps_set (i:=6) sc_law_sought.nd rfl (by first | exact Or.inl rfl | exact Or.inr rfl) (pe_bm PySem.F.plainAttrs_str PySem.F.slot_str_join PySem.F.type_str_join mt_join pe_str (pa_cons (pe_comp rfl (pi_range1 rfl B.range (pa_cons (pe_callH G_law_draw hr rfl (pa_cons (pv 0) (pa_cons pe_int pa_nil))) pa_nil)) (NL:=["k"]) (ix:=[0]) (csc (defScope s_law_sought) N_law_sought) (fun cl C s₃ H₃ fp pins=>⟨(pg_name (i:=0) (show List.Nodup (["k", "deck_here"]:List Str) from by decide +kernel) rfl (by first | exact Or.inl rfl | exact Or.inr rfl)),pifs_nil,(pe_callH G_law_letter hr rfl (pa_cons (pv 1) pa_nil))⟩)) pa_nil)))
  (pss_cons (ps_set (i:=7) sc_law_sought.nd rfl (by first | exact Or.inl rfl | exact Or.inr rfl) (pe_lst (pa_cons (pe_slice sl_str (pv 2) po_none (po_some (pv 3))) (pa_cons (pe_slice sl_str (pv 2) po_none (po_some (pv 3))) (pa_cons (pe_slice sl_str (pv 2) (po_some (pv 3)) po_none) (pa_cons (pe_slice sl_str (pv 2) (po_some (pe_callB (call_min2 rfl) rfl B.min bt_min (pa_cons (pv 3) (pa_cons (pv 4) pa_nil)))) (po_some (pe_callB (call_max2 rfl) rfl B.max bt_max (pa_cons (pv 3) (pa_cons (pv 4) pa_nil))))) (pa_cons (pv 2) (pa_cons pe_str (pa_cons (pv 6) pa_nil)))))))))
  (pss_cons (ps_set (i:=7) sc_law_sought.nd rfl (by first | exact Or.inl rfl | exact Or.inr rfl) (pe_op op_cat (pv 7) (pe_lst (pa_cons (pe_op op_add_str (pe_op op_add_str (pe_slice sl_str (pv 2) po_none (po_some (pv 3))) (pv 5)) (pe_slice sl_str (pv 2) (po_some (pe_op op_add (pv 3) pe_int)) po_none)) (pa_cons (pe_op op_add_str (pe_op op_add_str (pe_slice sl_str (pv 2) po_none (po_some (pv 3))) (pv 5)) (pe_slice sl_str (pv 2) (po_some (pv 3)) po_none)) (pa_cons (pe_op op_add_str (pv 5) (pv 2)) (pa_cons (pe_op op_add_str (pv 2) (pv 5)) (pa_cons (pe_op op_add_str (pe_slice sl_str (pv 2) po_none (po_some (pv 3))) (pv 5)) pa_nil))))))))
  (pss_one (ps_ret (pe_slice sl_str (pe_callH G_law_some hr rfl (pa_cons (pv 0) (pa_cons (pv 7) pa_nil))) po_none (po_some pe_int))))))))))),?_⟩
  have hrp:r≠p:=ne_deck hd hr0 (lst_strs_ne (fun v hv=>by obtain ⟨z,_,rfl⟩:=List.mem_map.mp hv;exact ⟨z,rfl⟩) (by rw [List.length_map];exact s0))
  refine ⟨_,rfl,_,rfl,p,c,hd,by omega,.inl ⟨r,_,rfl,hr0,hrp,by rw [List.length_map];exact s0,by rw [List.length_map];omega,fun v H1 hv kd1=>?_⟩⟩
  obtain ⟨one,ho,rfl⟩:=List.mem_map.mp hv
  have o60:=sle one ho
  have lo1:=slo one ho
  have lap:∀ {x y:Str},(∀ a∈x.cps.toList,Lw a)→(∀ a∈y.cps.toList,Lw a)→∀ a∈(x++y).cps.toList,Lw a:=fun {x y} h1 h2 a ha=>by
    rw [app_list] at ha
    exact (List.mem_append.mp ha).elim (h1 a) (h2 a)
  have osz:one.length≤sizeLine:=Nat.le_of_lt (small1000 (by omega))
  refine ⟨_,rfl,_,rfl,_,rfl,osz,_,_,rfl,rfl,p,_,c+1,rfl,kd1.deck,by omega,by omega,by omega,fun at0 H2 a0 a1 kd2=>?_⟩
  refine ⟨_,rfl,_,rfl,_,rfl,osz,_,_,rfl,rfl,p,_,c+1+1,rfl,kd2.deck,by omega,by omega,by omega,fun to0 H3 b0 b1 kd3=>?_⟩
  refine ⟨_,rfl,p,c+1+1+1,rfl,kd3.deck,by omega,fun ch H4 lch kd4=>?_⟩
  have ch1:(⟨#[ch]⟩:Str).length=1:=rfl
  have lc:∀ a∈(⟨#[ch]⟩:Str).cps.toList,Lw a:=fun a ha=>by rw [show a=ch by simpa using ha];exact lch
  have ku4:=((kd1.trans kd2).trans kd3).trans kd4
  refine ⟨rfl,_,rfl,p,4,c+1+1+1+1,rfl,kd4.deck,by omega,by decide,by decide,fun n5 H5 c0 c1 kd5=>?_⟩
  have ku5:=ku4.trans kd5
  refine ⟨_,rfl,by omega,by omega,fun acc hacc=>?_⟩
  have hap:acc≠p:=ku5.deck.ne hacc
  have hHacc:H acc=none:=ku5.fresh hacc
  refine comp_by n5.toNat (by omega) (fun i ys H'=>H' acc=some (.lst ys)∧(∃ fs:List Str,ys=fs.map V.str∧fs.length=i∧∀ z∈fs,z.length=1∧∀ x∈z.cps.toList,Lw x)∧Kd p (c+5+i) H H')
    (fun i ys H' h=>by obtain ⟨h1,⟨fs,rfl,h2,_⟩,_⟩:=h;exact ⟨h1,by rw [List.length_map];omega⟩) ⟨upd_same,⟨[],rfl,rfl,by simp⟩,(ku5.new hacc).mono (by omega)⟩ ?_ ?_
  · rintro ys H6 ⟨h1,⟨fs,rfl,h2,h3⟩,h4⟩
    refine ⟨Nat.le_refl _,?_⟩
    have hsum:(fs.map (·.length)).sum+fs.length * (Str.ofString "").length≤16777216:=by
      have e:(Str.ofString "").length=0:=by decide +kernel
      rw [e,Nat.mul_zero,Nat.add_zero]
      have:∀ l:List Str,(∀ z∈l,z.length=1)→(l.map (·.length)).sum=l.length:=by
        intro l
        induction l with
        | nil=>intro _;rfl
        | cons a r ih=>
          intro h
          rw [List.map_cons,List.sum_cons,ih (fun z hz=>h z (List.mem_cons_of_mem _ hz)),h a List.mem_cons_self,List.length_cons]
          omega
      rw [this fs fun z hz=>(h3 z hz).1];omega
    have hfar:(Txt.join (Str.ofString "") fs).length≤sizeLine:=joinOk_length (PyProof.Rows.joinOk_of hsum)
    refine ⟨_,acc,fs,rfl,rfl,SqL.of h1,hsum,?_⟩
    have lfar:∀ a∈(Txt.join (Str.ofString "") fs).cps.toList,Lw a:=fun a ha=>by
      rw [join_cps] at ha
      obtain ⟨l,hl,hal⟩:=List.mem_flatten.mp ha
      obtain ⟨z,hz,rfl⟩:=List.mem_map.mp hl
      exact (h3 z hz).2 a hal
    have lem:∀ a∈(Str.ofString "").cps.toList,Lw a:=fun a ha=>nomatch ha
    have tot:∀ z:Str,z.length≤200→z.length≤sizeLine:=fun z h=>Nat.le_of_lt (small1000 (by omega))
    have cl:∀ lo hi,(cutS one lo hi).length≤60:=fun lo hi=>Nat.le_trans (cutS_len one lo hi) o60
    refine ⟨_,rfl,_,rfl,_,rfl,_,rfl,osz,_,rfl,_,rfl,_,rfl,_,rfl,osz,_,rfl,_,rfl,_,rfl,_,rfl,osz,_,rfl,_,rfl,_,rfl,_,_,rfl,_,rfl,_,rfl,_,rfl,_,_,rfl,_,rfl,_,rfl,osz,_,rfl,_,rfl,(by show 7≤sizeLine;decide),fun w1 hw1=>?_⟩
    refine ⟨_,rfl,_,rfl,_,rfl,_,rfl,_,rfl,osz,_,rfl,_,_,rfl,rfl,?_,_,rfl,_,rfl,_,_,rfl,rfl,_,rfl,_,rfl,osz,_,_,rfl,rfl,?_,?_⟩
    · have:=cl none (some at0);exact Nat.le_of_lt (small1000 (by omega))
    · have:=cl none (some at0);have:=cl (some (at0+1)) none;rw [app_len];exact Nat.le_of_lt (small1000 (by omega))
    have q1:=cl none (some at0)
    have q2:=cl (some at0) none
    refine ⟨_,rfl,_,rfl,_,rfl,_,rfl,osz,_,rfl,_,_,rfl,rfl,Nat.le_of_lt (small1000 (by omega)),_,rfl,_,rfl,_,rfl,_,rfl,osz,_,_,rfl,rfl,by rw [app_len];exact Nat.le_of_lt (small1000 (by omega)),?_⟩
    refine ⟨_,rfl,_,rfl,_,_,rfl,rfl,Nat.le_of_lt (small1000 (by omega)),_,rfl,_,rfl,_,_,rfl,rfl,Nat.le_of_lt (small1000 (by omega)),_,rfl,_,rfl,_,rfl,_,rfl,osz,_,rfl,_,_,rfl,rfl,Nat.le_of_lt (small1000 (by omega)),(by show 5≤sizeLine;decide),fun w2 hw2=>?_⟩
    refine ⟨w1,w2,_,_,rfl,rfl,by rw [upd_ne (ne_of_none upd_same hw2)];exact upd_same,upd_same,(by show 7+5≤sizeLine;decide),fun w3 hw3=>?_⟩
    have k9:=fun (o:HO)=>Kd.new (o:=o) ((h4.new hw1).new hw2) hw3
    refine ⟨_,rfl,_,rfl,p,_,(k9 _).deck,by omega,.inl ⟨w3,_,rfl,upd_same,((h4.new hw1).new hw2).deck.ne hw3,(by show 0 < 12;decide),(by show 12≤1000;decide),fun v H9 hv kd9=>?_⟩⟩
    obtain ⟨z,rfl,hz,hlo⟩:∃ z:Str,v=.str z∧z.length≤sizeLine∧∀ a∈z.cps.toList,Lw a:=by
      simp only [List.cons_append,List.nil_append,List.mem_cons,List.not_mem_nil,or_false] at hv
      rcases hv with rfl | rfl | rfl | rfl | rfl | rfl | rfl | rfl | rfl | rfl | rfl | rfl
      · exact ⟨_,rfl,tot _ (by omega),(by first | exact lo1 | exact cut_low lo1 _ _ | exact lem | exact lfar | exact lap (lap (cut_low lo1 _ _) lc) (cut_low lo1 _ _) | exact lap lc lo1 | exact lap lo1 lc | exact lap (cut_low lo1 _ _) lc | exact lap lc (cut_low lo1 _ _) | exact rev_low lo1 | exact lap lo1 lo1 | exact lap (cut_low lo1 _ _) lo1 | exact lap lo1 (cut_low lo1 _ _))⟩
      · exact ⟨_,rfl,tot _ (by omega),(by first | exact lo1 | exact cut_low lo1 _ _ | exact lem | exact lfar | exact lap (lap (cut_low lo1 _ _) lc) (cut_low lo1 _ _) | exact lap lc lo1 | exact lap lo1 lc | exact lap (cut_low lo1 _ _) lc | exact lap lc (cut_low lo1 _ _) | exact rev_low lo1 | exact lap lo1 lo1 | exact lap (cut_low lo1 _ _) lo1 | exact lap lo1 (cut_low lo1 _ _))⟩
      · exact ⟨_,rfl,tot _ (by omega),(by first | exact lo1 | exact cut_low lo1 _ _ | exact lem | exact lfar | exact lap (lap (cut_low lo1 _ _) lc) (cut_low lo1 _ _) | exact lap lc lo1 | exact lap lo1 lc | exact lap (cut_low lo1 _ _) lc | exact lap lc (cut_low lo1 _ _) | exact rev_low lo1 | exact lap lo1 lo1 | exact lap (cut_low lo1 _ _) lo1 | exact lap lo1 (cut_low lo1 _ _))⟩
      · exact ⟨_,rfl,tot _ (Nat.le_trans (cl _ _) (by decide)),(by first | exact lo1 | exact cut_low lo1 _ _ | exact lem | exact lfar | exact lap (lap (cut_low lo1 _ _) lc) (cut_low lo1 _ _) | exact lap lc lo1 | exact lap lo1 lc | exact lap (cut_low lo1 _ _) lc | exact lap lc (cut_low lo1 _ _) | exact rev_low lo1 | exact lap lo1 lo1 | exact lap (cut_low lo1 _ _) lo1 | exact lap lo1 (cut_low lo1 _ _))⟩
      · exact ⟨_,rfl,osz,(by first | exact lo1 | exact cut_low lo1 _ _ | exact lem | exact lfar | exact lap (lap (cut_low lo1 _ _) lc) (cut_low lo1 _ _) | exact lap lc lo1 | exact lap lo1 lc | exact lap (cut_low lo1 _ _) lc | exact lap lc (cut_low lo1 _ _) | exact rev_low lo1 | exact lap lo1 lo1 | exact lap (cut_low lo1 _ _) lo1 | exact lap lo1 (cut_low lo1 _ _))⟩
      · exact ⟨_,rfl,by decide +kernel,(by first | exact lo1 | exact cut_low lo1 _ _ | exact lem | exact lfar | exact lap (lap (cut_low lo1 _ _) lc) (cut_low lo1 _ _) | exact lap lc lo1 | exact lap lo1 lc | exact lap (cut_low lo1 _ _) lc | exact lap lc (cut_low lo1 _ _) | exact rev_low lo1 | exact lap lo1 lo1 | exact lap (cut_low lo1 _ _) lo1 | exact lap lo1 (cut_low lo1 _ _))⟩
      · exact ⟨_,rfl,hfar,(by first | exact lo1 | exact cut_low lo1 _ _ | exact lem | exact lfar | exact lap (lap (cut_low lo1 _ _) lc) (cut_low lo1 _ _) | exact lap lc lo1 | exact lap lo1 lc | exact lap (cut_low lo1 _ _) lc | exact lap lc (cut_low lo1 _ _) | exact rev_low lo1 | exact lap lo1 lo1 | exact lap (cut_low lo1 _ _) lo1 | exact lap lo1 (cut_low lo1 _ _))⟩
      · exact ⟨_,rfl,tot _ (by have:=cl (some (at0+1)) none;rw [app_len,app_len];omega),(by first | exact lo1 | exact cut_low lo1 _ _ | exact lem | exact lfar | exact lap (lap (cut_low lo1 _ _) lc) (cut_low lo1 _ _) | exact lap lc lo1 | exact lap lo1 lc | exact lap (cut_low lo1 _ _) lc | exact lap lc (cut_low lo1 _ _) | exact rev_low lo1 | exact lap lo1 lo1 | exact lap (cut_low lo1 _ _) lo1 | exact lap lo1 (cut_low lo1 _ _))⟩
      · exact ⟨_,rfl,tot _ (by rw [app_len,app_len];omega),(by first | exact lo1 | exact cut_low lo1 _ _ | exact lem | exact lfar | exact lap (lap (cut_low lo1 _ _) lc) (cut_low lo1 _ _) | exact lap lc lo1 | exact lap lo1 lc | exact lap (cut_low lo1 _ _) lc | exact lap lc (cut_low lo1 _ _) | exact rev_low lo1 | exact lap lo1 lo1 | exact lap (cut_low lo1 _ _) lo1 | exact lap lo1 (cut_low lo1 _ _))⟩
      · exact ⟨_,rfl,tot _ (by rw [app_len];omega),(by first | exact lo1 | exact cut_low lo1 _ _ | exact lem | exact lfar | exact lap (lap (cut_low lo1 _ _) lc) (cut_low lo1 _ _) | exact lap lc lo1 | exact lap lo1 lc | exact lap (cut_low lo1 _ _) lc | exact lap lc (cut_low lo1 _ _) | exact rev_low lo1 | exact lap lo1 lo1 | exact lap (cut_low lo1 _ _) lo1 | exact lap lo1 (cut_low lo1 _ _))⟩
      · exact ⟨_,rfl,tot _ (by rw [app_len];omega),(by first | exact lo1 | exact cut_low lo1 _ _ | exact lem | exact lfar | exact lap (lap (cut_low lo1 _ _) lc) (cut_low lo1 _ _) | exact lap lc lo1 | exact lap lo1 lc | exact lap (cut_low lo1 _ _) lc | exact lap lc (cut_low lo1 _ _) | exact rev_low lo1 | exact lap lo1 lo1 | exact lap (cut_low lo1 _ _) lo1 | exact lap lo1 (cut_low lo1 _ _))⟩
      · exact ⟨_,rfl,tot _ (by rw [app_len];omega),(by first | exact lo1 | exact cut_low lo1 _ _ | exact lem | exact lfar | exact lap (lap (cut_low lo1 _ _) lc) (cut_low lo1 _ _) | exact lap lc lo1 | exact lap lo1 lc | exact lap (cut_low lo1 _ _) lc | exact lap lc (cut_low lo1 _ _) | exact rev_low lo1 | exact lap lo1 lo1 | exact lap (cut_low lo1 _ _) lo1 | exact lap lo1 (cut_low lo1 _ _))⟩
    exact ⟨_,rfl,z,rfl,hz,q _ _ (((k9 _).trans kd9).mono (by omega)) (cut_60 z) (cut_low hlo _ _)⟩
  · rintro i ys H6 hi ⟨h1,⟨fs,rfl,h2,h3⟩,h4⟩
    refine ⟨hi,?_⟩
    rintro x H7 ⟨rfl,rfl⟩
    refine ⟨rfl,?_⟩
    refine ⟨_,rfl,p,_,rfl,h4.deck,by omega,fun c7 H8 lc7 kd8=>?_⟩
    refine ⟨kd8.keep _ _ hap h1,upd_same,⟨fs++[⟨#[c7]⟩],by rw [List.map_append];rfl,by rw [List.length_append,h2];rfl,?_⟩,((h4.trans kd8).write hHacc hap).mono (by omega)⟩
    intro z hz
    rcases List.mem_append.mp hz with hz | hz
    · exact h3 z hz
    · have:z=⟨#[c7]⟩:=by simpa using hz
      rw [this];exact ⟨rfl,fun a ha=>by rw [show a=c7 by simpa using ha];exact lc7⟩
end
end S15
namespace W16
open PySem
theorem starts_iff (z p:Str):Txt.startswith z p=true ↔ p.cps.toList <+: z.cps.toList:=by
  unfold Txt.startswith
  rw [StrLaws.subAt_eq,List.drop_zero]
  have lp:p.length=p.cps.toList.length:=by first | rfl | simp [Str.length]
  have lz:z.length=z.cps.toList.length:=by first | rfl | simp [Str.length]
  rw [lp,lz,Bool.and_eq_true,decide_eq_true_iff,beq_iff_eq,List.prefix_iff_eq_take]
  constructor
  · rintro ⟨_,h⟩;exact h.symm
  · intro h
    refine ⟨?_,h.symm⟩
    have:=congrArg List.length h
    rw [List.length_take] at this
    omega
end W16
namespace S15
open PySem L2 W7
theorem below_int {x:V} {n:Int} (h:below x n=true):∃ i:Int,x=.int i∧0≤i∧i < n:=by
  cases x with
  | int i=>
    have h':(decide (0≤i) && decide (i < n))=true:=h
    rw [Bool.and_eq_true] at h'
    exact ⟨i,rfl,of_decide_eq_true h'.1,of_decide_eq_true h'.2⟩
  | _=>cases h
theorem two_filters {α:Type} {f g:α→Bool} (h:∀ z,f z=true→g z=true→False):∀ l:List α,(l.filter f).length+(l.filter g).length≤l.length
  | []=>Nat.le_refl _
  | x :: l=>by
    have ih:=two_filters h l
    cases ef:f x with
    | true=>
      rw [List.filter_cons_of_pos ef]
      rw [List.filter_cons_of_neg (fun z=>h x ef z)]
      simp only [List.length_cons];omega
    | false=>
      rw [List.filter_cons_of_neg (by rw [ef];decide)]
      cases eg:g x with
      | true=>rw [List.filter_cons_of_pos eg];simp only [List.length_cons];omega
      | false=>rw [List.filter_cons_of_neg (by rw [eg];decide)];simp only [List.length_cons];omega
theorem not_both {z word:Str} (h1:decide (z.cps.toList < word.cps.toList)=true) (h2:Txt.startswith z word=true):False:=by
  obtain ⟨t,e⟩:=(W16.starts_iff z word).mp h2
  have h:=of_decide_eq_true h1
  rw [← e] at h
  exact absurd h (List.not_lt.mpr List.le_append_left)
section
variable {P:Program} {w:World} {K:PySem.W.Frag} {mg:Str→Option Value} {base:Heap} {k:Nat}
def sp_nthp (ls:List Lm) (cN:Addr):Sp:=fun vs H Q E=>∃ (t:Addr) (ups:List Int) (lab word:Str) (x:V),vs=[.ref t,.str word,x]∧TreeAt H t ups lab∧Lams ls H∧Thg H x ∧
  (∀ i:Int,x=.int i→0≤i→i < ((cntS (wordsS ups lab) word).length:Int)→∀ (os:List Nat) (H':Hp),OrderOk ups lab os→Kt ls H H'→Q (.int ((os.getD ((lss (wordsS ups lab) word).length+i.toNat) 0:Nat):Int)) H') ∧
  (below x ((cntS (wordsS ups lab) word).length:Int)=false→∀ a H',Same H H'→H' a=none→E (.ref a) (some cN) H')
theorem has_nthp {ls:List Lm} (EX:Exs K mg) (D:Df K mg "nth_place" s_nth_place) (B:Blt7 mg) (G_stretch_of:Has P w K mg base "stretch_of" k ["tree", "word"] sp_stretch) (G_is_number_below:Has P w K mg base "is_number_below" k ["thing", "behind"] sp_below) (G_order_of:Has P w K mg base "order_of" k ["tree"] (sp_order ls)):HasX P w K mg base "nth_place" (k+1) ["tree", "word", "k"] (sp_nthp ls EX.c_NoNumber):=by
  refine D.hasX sc_nth_place (fun _ _ _ _ _ _ us hl=>match us,hl with | [_,_,_],_=>rfl) (fun vs H Q E h=>by obtain ⟨t,ups,lab,word,x,rfl,_⟩:=h;rfl) (fun f cdv A outer s H vs Q E hr h=>?_)
  obtain ⟨t,ups,lab,word,x,rfl,tr,L,th,q,qe⟩:=h
  refine ⟨_,(pss_cons (ps_set (i:=3) sc_nth_place.nd rfl (by first | exact Or.inl rfl | exact Or.inr rfl) (pe_callH G_stretch_of hr rfl (pa_cons (pv 0) (pa_cons (pv 1) pa_nil))))
  (pss_cons (ps_if (pt_not (pt_val (pe_callH G_is_number_below hr rfl (pa_cons (pv 2) (pa_cons (pe_op op_sub (pe_ix ix_tup (pv 3) pe_int (fun _ _=>rfl)) (pe_ix ix_tup (pv 3) pe_int (fun _ _=>rfl))) pa_nil)))))
  (pss_one (ps_raise raises_cx EX.m_NoNumber EX.q_NoNumber rfl (pa_cons pe_str pa_nil)))
  pss_nil)
  (pss_one (ps_ret (pe_ix ix_list (pe_callH G_order_of hr rfl (pa_cons (pv 0) pa_nil)) (pe_op op_add (pe_ix ix_tup (pv 3) pe_int (fun _ _=>rfl)) (pv 2)) (fun _ _=>rfl)))))),?_⟩
  refine ⟨_,rfl,_,rfl,t,ups,lab,word,rfl,tr,fun st H1 s1 h1=>?_⟩
  have wl:(wordsS ups lab).length=ups.length:=wordsS_len ups lab
  refine ⟨_,rfl,_,rfl,st,_,_,_,rfl,rfl,SqT.of h1,rfl,_,rfl,st,_,_,_,rfl,rfl,SqT.of h1,rfl,_,_,rfl,rfl,x,_,rfl,th.same s1,_,rfl,?_⟩
  have ec:((lss (wordsS ups lab) word).length:Int)+((cntS (wordsS ups lab) word).length:Int) - ((lss (wordsS ups lab) word).length:Int)=((cntS (wordsS ups lab) word).length:Int):=by omega
  rw [ec]
  cases eb:below x ((cntS (wordsS ups lab) word).length:Int) with
  | true=>
    refine iteF ?_
    obtain ⟨i,rfl,i0,i1⟩:=below_int eb
    refine ⟨_,rfl,t,ups,lab,rfl,tr.same s1,L.same s1,fun os r H2 oo kt hf hr2=>?_⟩
    have bnd:(lss (wordsS ups lab) word).length+(cntS (wordsS ups lab) word).length≤ups.length:=by
      rw [← wl]
      unfold lss cntS
      exact two_filters (fun z h1 h2=>not_both h1 h2) _
    have ol:=oo.len
    obtain ⟨p,ep⟩:∃ p:Nat,p=(lss (wordsS ups lab) word).length+i.toNat:=⟨_,rfl⟩
    have epi:((lss (wordsS ups lab) word).length:Int)+i=(p:Int):=by omega
    have at1:atI (natV os) (p:Int)=some (.int ((os.getD p 0:Nat):Int)):=atI_nat (by
      unfold natV
      rw [List.getElem?_map,List.getD_eq_getElem?_getD,List.getElem?_eq_getElem (by omega)];rfl)
    refine ⟨_,rfl,st,_,_,_,rfl,rfl,SqT.of (kt.tup h1),rfl,_,rfl,_,_,rfl,rfl,r,_,_,_,rfl,rfl,SqL.of hr2,by rw [epi];exact at1,?_⟩
    have:=q i rfl i0 i1 os H2 oo (s1.kt kt)
    rw [← ep] at this
    exact this
  | false=>exact iteT ⟨(by show 1≤sizeLine;decide),fun a ha=>qe eb a H1 s1 ha⟩
end
end S15
namespace S15
open PySem L2 W7
section
variable {P:Program} {w:World} {K:PySem.W.Frag} {mg:Str→Option Value} {base:Heap} {k:Nat}
def sp_refused (ls:List Lm):Sp:=fun vs H Q _=>∃ (t:Addr) (ups:List Int) (lab word:Str) (x:V),vs=[.ref t,.str word,x]∧TreeAt H t ups lab∧Lams ls H∧Thg H x∧below x ((cntS (wordsS ups lab) word).length:Int)=false∧∀ H',Same H H'→Q (.bl true) H'
theorem has_refused {ls:List Lm} (EX:Exs K mg) (D:Df K mg "_law_refused" s_law_refused) (B:Blt7 mg) (G_nth_place:HasX P w K mg base "nth_place" k ["tree", "word", "k"] (sp_nthp ls EX.c_NoNumber)) (G_law_kind:HasH P w K mg base "_law_kind" k ["caught"] (sp_kind EX.c_NoNumber)):Has P w K mg base "_law_refused" (k+1) ["tree_here", "word", "k"] (sp_refused ls):=by
  refine D.has sc_law_refused (fun _ _ _ _ _ _ us hl=>match us,hl with | [_,_,_],_=>rfl) (fun vs H Q E h=>by obtain ⟨t,ups,lab,word,x,rfl,_⟩:=h;rfl) (fun f cdv A outer s H vs Q E hr h=>?_)
  obtain ⟨t,ups,lab,word,x,rfl,tr,L,th,eb,q⟩:=h
  refine ⟨_,(pss_cons (ps_set (i:=3) sc_law_refused.nd rfl (by first | exact Or.inl rfl | exact Or.inr rfl) pe_str)
  (pss_cons (ps_try (fun pn xe E σ0 hx=>(pss_one (ps_expr (pe_callX G_nth_place hx hr rfl (pa_cons (pv 0) (pa_cons (pv 1) (pa_cons (pv 2) pa_nil)))))))
  (ph_as rfl EX.m_UpError sc_law_refused.nd (i:=4) rfl rfl (fun a=>(pss_one (ps_set (i:=3) sc_law_refused.nd rfl (by first | exact Or.inl rfl | exact Or.inr rfl) (pe_callHH G_law_kind (Room.caught hr a) rfl (pa_cons (pv 4) pa_nil)))))))
  (pss_one (ps_ret (pe_cmpR op_eq (pv 3) pe_str (nomark _)))))),?_⟩
  refine ⟨rfl,_,rfl,_,rfl,_,rfl,t,ups,lab,word,x,rfl,tr,L,th,fun i ei i0 i1=>?_,fun _ a H1 s1 ha=>?_⟩
  · subst ei
    have:below (.int i) ((cntS (wordsS ups lab) word).length:Int)=true:=by
      show (decide (0≤i) && decide (i < _))=true
      rw [decide_eq_true i0,decide_eq_true i1];rfl
    rw [this] at eb;cases eb
  · refine ⟨a,EX.c_NoNumber,rfl,rfl,EX.u_NoNumber,?_⟩
    have sA:Same H (upd H1 a (excO a EX.c_NoNumber)):=s1.new ha
    have hA:upd H1 a (excO a EX.c_NoNumber) a=some (excO a EX.c_NoNumber):=upd_same
    generalize upd H1 a (excO a EX.c_NoNumber)=HA at sA hA
    refine ⟨_,rfl,a,rfl,hA,fun H2 s2=>?_⟩
    refine ⟨_,rfl,rfl,?_⟩
    rw [decide_eq_true rfl]
    exact q _ (sA.trans s2)
end
end S15
namespace S15
open PySem L2 W7
section
variable {P:Program} {w:World} {K:PySem.W.Frag} {mg:Str→Option Value} {base:Heap} {k:Nat}
theorem rise_true {ups:List Int} {lab:Str} {os:List Nat} (h:OrderOk ups lab os) {i j:Nat} (hij:i < j) (hj:j < ups.length):lexV (Kw ups lab (os.getD i 0)) (Kw ups lab (os.getD j 0))=true:=by
  cases e:lexV (Kw ups lab (os.getD i 0)) (Kw ups lab (os.getD j 0)) with
  | true=>rfl
  | false=>
    exfalso
    have z:=(kw_keys ups lab ups.length)
    have ek:=lexV_tot _ _ ((z.shp (os.getD i 0)).trans (z.shp (os.getD j 0)).symm) (by rw [z.shp];exact z.z) e (h.rise i j hij hj)
    have ln:=h.len
    have e2:os.getD i 0=os.getD j 0:=by
      have h2:[V.str (mk (W ups lab.cps.toList (os.getD i 0))),.int ((os.getD i 0:Nat):Int)]=[.str (mk (W ups lab.cps.toList (os.getD j 0))),.int ((os.getD j 0:Nat):Int)]:=ek
      simp only [List.cons.injEq,V.int.injEq,and_true] at h2
      omega
    have nd:os.Nodup:=h.perm.nodup_iff.mpr List.nodup_range
    rw [List.getD_eq_getElem?_getD,List.getD_eq_getElem?_getD,List.getElem?_eq_getElem (by omega),List.getElem?_eq_getElem (by omega)] at e2
    have:=(List.getElem_inj nd).mp (show os[i]'(by omega)=os[j]'(by omega) from e2)
    omega
theorem count_split (f:Nat→Bool):∀ (l:List Nat) (j:Nat),j≤l.length→(∀ i,i < j→f (l.getD i 0)=true)→(∀ i,j≤i→i < l.length→f (l.getD i 0)=false)→(l.filter f).length=j
  | [],j,h,_,_=>by simp at h;simp [h]
  | x :: l,0,_,_,b=>by
    have hx:f x=false:=b 0 (Nat.le_refl _) (by simp)
    rw [List.filter_cons_of_neg (by rw [hx];simp)]
    exact count_split f l 0 (Nat.zero_le _) (fun i hi=>absurd hi (Nat.not_lt_zero _)) fun i _ hi=>b (i+1) (Nat.zero_le _) (by simpa using hi)
  | x :: l,j+1,h,a,b=>by
    have hx:f x=true:=a 0 (Nat.succ_pos _)
    rw [List.filter_cons_of_pos hx,List.length_cons,count_split f l j (by simpa using h) (fun i hi=>a (i+1) (by omega)) fun i h1 h2=>b (i+1) (by omega) (by simpa using h2)]
def cnt (ups:List Int) (lab:Str) (p:Nat):Nat:=((List.range ups.length).filter fun i=>lexV (Kw ups lab i) (Kw ups lab p)).length
theorem cnt_rank {ups:List Int} {lab:Str} {os:List Nat} (h:OrderOk ups lab os) {j:Nat} (hj:j < ups.length):cnt ups lab (os.getD j 0)=j:=by
  have ln:=h.len
  have e:(os.filter fun i=>lexV (Kw ups lab i) (Kw ups lab (os.getD j 0))).length=j:=by
    refine count_split _ os j (by omega) (fun i hi=>rise_true h hi hj) fun i h1 h2=>?_
    rcases Nat.eq_or_lt_of_le h1 with q | q
    · rw [← q]
      cases e:lexV (Kw ups lab (os.getD j 0)) (Kw ups lab (os.getD j 0)) with
      | false=>rfl
      | true=>have:=lexV_asym _ _ e;rw [e] at this;cases this
    · exact h.rise j i q (by omega)
  have e2:=(h.perm.filter (fun i=>lexV (Kw ups lab i) (Kw ups lab (os.getD j 0)))).length_eq
  unfold cnt
  rw [← e2]
  exact e
theorem lex_cons (x y:V) (xs ys:List V):lexV (x :: xs) (y :: ys)=if x=y then lexV xs ys else ltV x y:=by rw [lexV]
theorem lt_app {a w t:List Nat} (h:a < w++t):w <+: a∨a < w:=by
  induction w generalizing a with
  | nil=>exact .inl List.nil_prefix
  | cons x w ih=>
    cases a with
    | nil=>exact .inr (List.nil_lt_cons _ _)
    | cons y a=>
      rw [List.cons_append] at h
      rcases List.cons_lt_cons_iff.mp h with h2 | ⟨e,h2⟩
      · exact .inr (List.cons_lt_cons_iff.mpr (.inl h2))
      · subst e
        rcases ih h2 with z | z
        · exact .inl (List.cons_prefix_cons.mpr ⟨rfl,z⟩)
        · exact .inr (List.cons_lt_cons_iff.mpr (.inr ⟨rfl,z⟩))
theorem lt_of_pre {a w t:List Nat} (h:a < w):a < w++t:=by
  induction w generalizing a with
  | nil=>exact absurd h (List.not_lt_nil _)
  | cons x w ih=>
    cases a with
    | nil=>exact List.nil_lt_cons _ _
    | cons y a=>
      rcases List.cons_lt_cons_iff.mp h with h2 | ⟨e,h2⟩
      · exact List.cons_lt_cons_iff.mpr (.inl h2)
      · exact List.cons_lt_cons_iff.mpr (.inr ⟨e,ih h2⟩)
def stB (ups:List Int) (lab word:Str) (p:Nat):Bool:=Txt.startswith (mk (W ups lab.cps.toList p)) word
def lsB (ups:List Int) (lab word:Str) (p:Nat):Bool:=decide ((mk (W ups lab.cps.toList p)).cps.toList < word.cps.toList)
theorem lexV_st {ups:List Int} {lab word:Str} {p q:Nat} (hp:stB ups lab word p=true) (hq:stB ups lab word q=false):lexV (Kw ups lab q) (Kw ups lab p)=lsB ups lab word q:=by
  obtain ⟨t,e⟩:=(W16.starts_iff _ word).mp hp
  have nq:¬ word.cps.toList <+: (mk (W ups lab.cps.toList q)).cps.toList:=fun z=>by
    have:=(W16.starts_iff _ word).mpr z
    unfold stB at hq
    rw [hq] at this;cases this
  have ne:¬ (V.str (mk (W ups lab.cps.toList q))=V.str (mk (W ups lab.cps.toList p))):=fun z=>by
    injection z with z
    apply nq
    rw [z]
    exact ⟨t,e⟩
  unfold Kw lsB
  rw [lex_cons,if_neg ne]
  show decide ((mk (W ups lab.cps.toList q)).cps.toList < (mk (W ups lab.cps.toList p)).cps.toList)=_
  rw [Bool.eq_iff_iff,decide_eq_true_eq,decide_eq_true_eq,← e]
  exact ⟨fun h=>(lt_app h).resolve_left nq,lt_of_pre⟩
theorem filt_or {α:Type} {f g h:α→Bool} (e:∀ z,f z=(g z || h z)) (d:∀ z,g z=true→h z=true→False):∀ l:List α,(l.filter f).length=(l.filter g).length+(l.filter h).length
  | []=>rfl
  | x :: l=>by
    have ih:=filt_or e d l
    have ex:=e x
    cases eg:g x with
    | true=>
      rw [eg,Bool.true_or] at ex
      rw [List.filter_cons_of_pos ex,List.filter_cons_of_pos eg,List.filter_cons_of_neg (fun z=>d x eg z)]
      simp only [List.length_cons];omega
    | false=>
      rw [eg,Bool.false_or] at ex
      have ng:¬ g x=true:=by rw [eg];decide
      rw [List.filter_cons_of_neg (p:=g) ng]
      cases eh:h x with
      | true=>
        rw [eh] at ex
        rw [List.filter_cons_of_pos ex,List.filter_cons_of_pos eh]
        simp only [List.length_cons];omega
      | false=>
        rw [eh] at ex
        have nf:¬ f x=true:=by rw [ex];decide
        have nh:¬ h x=true:=by rw [eh];decide
        rw [List.filter_cons_of_neg (p:=f) nf,List.filter_cons_of_neg (p:=h) nh]
        exact ih
theorem ls_st {ups:List Int} {lab word:Str} {p:Nat} (h1:lsB ups lab word p=true) (h2:stB ups lab word p=true):False:=not_both (z:=mk (W ups lab.cps.toList p)) (word:=word) h1 h2
theorem cnt_st {ups:List Int} {lab word:Str} {p:Nat} (hp:stB ups lab word p=true):cnt ups lab p=((List.range ups.length).filter (lsB ups lab word)).length+((List.range ups.length).filter fun q=>stB ups lab word q && lexV (Kw ups lab q) (Kw ups lab p)).length:=by
  unfold cnt
  refine filt_or (fun q=>?_) (fun q h1 h2=>?_) _
  · cases eq:stB ups lab word q with
    | true=>
      have:lsB ups lab word q=false:=by
        cases e:lsB ups lab word q with
        | false=>rfl
        | true=>exact (ls_st e eq).elim
      rw [this];rfl
    | false=>rw [lexV_st hp eq];simp
  · rw [Bool.and_eq_true] at h2
    exact ls_st h1 h2.1
theorem order_part {ups:List Int} {lab word:Str} {os ds:List Nat} (oo:OrderOk ups lab os) (dp:ds.Perm ((List.range ups.length).filter (stB ups lab word))) (dr:∀ i j,i < j→j < ds.length→lexV (Kw ups lab (ds.getD j 0)) (Kw ups lab (ds.getD i 0))=false) {j:Nat} (hj:j < ds.length) :
    os.getD (((List.range ups.length).filter (lsB ups lab word)).length+j) 0=ds.getD j 0:=by
  have nd:ds.Nodup:=dp.nodup_iff.mpr (List.nodup_range.filter _)
  have kk:=kw_keys ups lab ups.length
  have strict:∀ i j,i < j→j < ds.length→lexV (Kw ups lab (ds.getD i 0)) (Kw ups lab (ds.getD j 0))=true:=fun i j hij hj=>by
    cases e:lexV (Kw ups lab (ds.getD i 0)) (Kw ups lab (ds.getD j 0)) with
    | true=>rfl
    | false=>
      exfalso
      have ek:=lexV_tot _ _ ((kk.shp (ds.getD i 0)).trans (kk.shp (ds.getD j 0)).symm) (by rw [kk.shp];exact kk.z) e (dr i j hij hj)
      have e2:ds.getD i 0=ds.getD j 0:=by
        have h2:[V.str (mk (W ups lab.cps.toList (ds.getD i 0))),.int ((ds.getD i 0:Nat):Int)]=[.str (mk (W ups lab.cps.toList (ds.getD j 0))),.int ((ds.getD j 0:Nat):Int)]:=ek
        simp only [List.cons.injEq,V.int.injEq,and_true] at h2
        omega
      rw [List.getD_eq_getElem?_getD,List.getD_eq_getElem?_getD,List.getElem?_eq_getElem (by omega),List.getElem?_eq_getElem (by omega)] at e2
      have:=(List.getElem_inj nd).mp (show ds[i]'(by omega)=ds[j]'(by omega) from e2)
      omega
  have mem:ds.getD j 0∈(List.range ups.length).filter (stB ups lab word):=by
    rw [List.getD_eq_getElem?_getD,List.getElem?_eq_getElem hj]
    exact dp.mem_iff.mp (List.getElem_mem hj)
  obtain ⟨m1,m2⟩:=List.mem_filter.mp mem
  have c1:(ds.filter fun q=>lexV (Kw ups lab q) (Kw ups lab (ds.getD j 0))).length=j:=by
    refine count_split _ ds j (by omega) (fun i hi=>strict i j hi hj) fun i h1 h2=>?_
    rcases Nat.eq_or_lt_of_le h1 with q | q
    · rw [← q]
      cases e:lexV (Kw ups lab (ds.getD j 0)) (Kw ups lab (ds.getD j 0)) with
      | false=>rfl
      | true=>have:=lexV_asym _ _ e;rw [e] at this;cases this
    · exact dr j i q h2
  have c2:=(dp.filter (fun q=>lexV (Kw ups lab q) (Kw ups lab (ds.getD j 0)))).length_eq
  rw [c1,List.filter_filter] at c2
  have c3:=cnt_st m2
  have e4:((List.range ups.length).filter fun q=>stB ups lab word q && lexV (Kw ups lab q) (Kw ups lab (ds.getD j 0))).length=j:=by
    refine Eq.trans ?_ c2.symm
    congr 1
    refine List.filter_congr fun q _=>?_
    first | rfl | rw [Bool.and_comm]
  rw [e4] at c3
  have ln:=oo.len
  obtain ⟨i,hi,e⟩:=List.getElem_of_mem (oo.perm.mem_iff.mpr m1)
  have e2:os.getD i 0=ds.getD j 0:=by rw [List.getD_eq_getElem?_getD,List.getElem?_eq_getElem hi];exact e
  have e3:=cnt_rank oo (j:=i) (by omega)
  rw [e2,c3] at e3
  rw [e3];exact e2
end
end S15
namespace S15
open PySem L2 W7
section
variable {P:Program} {w:World} {K:PySem.W.Frag} {mg:Str→Option Value} {base:Heap} {k:Nat}
def sp_drawL:Sp:=fun vs H Q _=>∃ (p:Addr) (m c:Int),vs=[.ref p,.int m]∧Deck H p c∧c < 1000000∧0 < m∧m < bigL∧∀ (n:Int) (H':Hp),0≤n→n < m→Kd p (c+1) H H'→Q (.int n) H'
theorem has_drawL (D:Df K mg "_law_draw" s_law_draw) (B:Blt mg) (G_law_mixed:Has P w K mg base "_law_mixed" k ["cell", "k"] sp_mixed):Has P w K mg base "_law_draw" (k+1) ["deck_here", "many"] sp_drawL:=by
  refine D.has sc_law_draw (fun _ _ _ _ _ _ us hl=>match us,hl with | [_,_],_=>rfl) (fun vs H Q E h=>by obtain ⟨a,i,c,rfl,_⟩:=h;rfl) (fun f cdv A outer s H vs Q E hr h=>?_)
  obtain ⟨p,m,c,rfl,⟨x,y,z,hp,z0,z1⟩,c6,m0,m1,q⟩:=h
  refine ⟨_,(pss_cons (ps_if (pt_cmpR op_gt (pe_ix ix_list (pv 0) pe_int (fun _ _=>rfl)) pe_int (nomark _))
  (pss_cons (ps_set (i:=2) sc_law_draw.nd rfl (by first | exact Or.inl rfl | exact Or.inr rfl) (pe_op op_mod (pe_ix ix_list (pv 0) pe_int (fun _ _=>rfl)) (pv 1)))
  (pss_cons (ps_asg (pe_op op_fdivL (pe_ix ix_list (pv 0) pe_int (fun _ _=>rfl)) (pv 1)) (pg_sub (pv 0) pe_int set_list))
  (pss_one (ps_ret (pv 2)))))
  pss_nil)
  (pss_cons (ps_asg (pe_op op_add (pe_ix ix_list (pv 0) pe_int (fun _ _=>rfl)) pe_int) (pg_sub (pv 0) pe_int set_list))
  (pss_one (ps_ret (pe_op op_mod (pe_callH G_law_mixed hr rfl (pa_cons (pe_ix ix_list (pv 0) pe_int (fun _ _=>rfl)) (pa_cons (pe_ix ix_list (pv 0) pe_int (fun _ _=>rfl)) pa_nil))) (pv 1)))))),?_⟩
  have mne:m≠0:=fun e=>by rw [e] at m0;exact absurd m0 (by decide)
  refine ⟨_,rfl,p,_,_,_,rfl,rfl,SqL.of hp,rfl,_,_,rfl,rfl,_,rfl,ite2 (fun cnd=>?_) (fun cnd=>?_)⟩
  · refine ⟨_,rfl,p,_,_,_,rfl,rfl,SqL.of hp,rfl,_,rfl,_,_,rfl,rfl,m0,?_⟩
    refine ⟨_,rfl,p,_,_,_,rfl,rfl,SqL.of hp,rfl,_,rfl,_,_,rfl,rfl,⟨m0,m1⟩,?_⟩
    refine ⟨_,rfl,p,_,_,0,rfl,rfl,hp,rfl,_,rfl,?_⟩
    exact q _ _ (Int.emod_nonneg _ mne) (Int.emod_lt_of_pos _ m0) ⟨⟨_,y,z,upd_same,z0,by clear m1;omega⟩,fun b o hb e=>by rw [upd_ne hb];exact e⟩
  · clear m1
    refine ⟨_,rfl,p,_,_,_,rfl,rfl,SqL.of hp,rfl,_,_,rfl,rfl,?_⟩
    refine ⟨_,rfl,p,_,_,2,rfl,rfl,hp,rfl,?_⟩
    have hp':upd H p (.lst [.int x,.int y,.int (z+1)]) p=some (.lst [.int x,.int y,.int (z+1)]):=upd_same
    have kd:Kd p (c+1) H (upd H p (.lst [.int x,.int y,.int (z+1)])):=⟨⟨x,y,z+1,upd_same,by omega,by omega⟩,fun b o hb e=>by rw [upd_ne hb];exact e⟩
    refine ⟨_,rfl,p,_,_,_,rfl,rfl,SqL.of hp',rfl,_,rfl,p,_,_,_,rfl,rfl,SqL.of hp',rfl,_,_,rfl,by omega,by omega,fun n H' s1=>?_⟩
    refine ⟨_,rfl,_,_,rfl,rfl,m0,?_⟩
    exact q _ _ (Int.emod_nonneg _ mne) (Int.emod_lt_of_pos _ m0) (kd.same s1)
end
end S15
namespace L2
open PySem PySem.Spec PyProof.Rows PySem.W
section
variable {X:Cx}
abbrev stepV (lo c:Int) (n:Nat):List V:=(List.range n).map fun i:Nat=>V.int (lo+(i:Int) * c)
theorem step_vals {lo c:Int} {n:Nat} {acc:Array Value} (hacc:ItemsOf (fun i v=>∃ t,v=.int (lo+i * c) t) acc n):Vals (stepV lo c n) acc.toList:=by
  have la:acc.toList.length=n:=by rw [Array.length_toList];exact hacc.1
  refine vals_at (by rw [List.length_map,List.length_range,la]) ?_
  intro i x u hx' hu
  rw [List.getElem?_map] at hx'
  cases e1:(List.range n)[i]? with
  | none=>rw [e1] at hx';cases hx'
  | some j=>
    rw [e1] at hx'
    have ej:j=i:=by
      obtain ⟨a,b⟩:=List.getElem?_eq_some_iff.mp e1
      rw [List.getElem_range] at b;exact b.symm
    subst ej
    cases hx'
    obtain ⟨tt,e2⟩:=hacc.2 j u (by rw [← Array.getElem?_toList];exact hu)
    exact ⟨tt,e2⟩
def stepN (lo hi c:Int):Nat:=(Builtin.Range.rangeSize lo hi c).toNat
theorem step_size {lo hi c:Int} (hc:0 < c):Builtin.Range.rangeSize lo hi c=if lo < hi then (hi - lo - 1) / c+1 else 0:=by
  unfold Builtin.Range.rangeSize
  rw [if_pos hc]
theorem step_nat {lo hi c:Int} (hc:0 < c):Builtin.Range.rangeSize lo hi c=((stepN lo hi c:Nat):Int):=by
  unfold stepN
  rw [Int.toNat_of_nonneg]
  rw [step_size hc]
  split
  · have:=Int.ediv_nonneg (show 0≤hi - lo - 1 by omega) (Int.le_of_lt hc);omega
  · exact Int.le_refl _
theorem step_le {lo hi c:Int} (hc:0 < c):(stepN lo hi c:Int)≤(if lo < hi then hi - lo else 0):=by
  rw [← step_nat hc,step_size hc]
  split
  · have:(hi - lo - 1) / c≤hi - lo - 1:=Int.ediv_le_self _ (by omega)
    omega
  · exact Int.le_refl _
theorem step_lt {lo hi c:Int} (hc:0 < c) {i:Nat} (hi':i < stepN lo hi c):lo+(i:Int) * c < hi:=by
  have h:(i:Int) < (stepN lo hi c:Int):=by exact_mod_cast hi'
  rw [← step_nat hc,step_size hc] at h
  split at h
  · have h2:(i:Int)≤(hi - lo - 1) / c:=by omega
    have h3:=(Int.le_ediv_iff_mul_le hc).mp h2
    omega
  · omega
theorem passes_no {P:Program} {w:World} {X:Cx}:Passes (CXE P w) X (fun _ _ _=>False):=fun _ _ _ _ _ _ _ h=>by
  obtain ⟨_,_,_,_,_,_,_,_,_,_,z⟩:=h
  exact z.elim
def tListR3 (ta:TA):TE:=fun σ H Q=>ta σ H fun vs H1=>∃ (lo hi c:Int),vs=[.int lo,.int hi,.int c]∧(0≤lo∧lo≤1000∧0≤hi∧hi≤1000∧0 < c∧c≤1000)∧∀ l,H1 l=none→Q (.ref l) (upd H1 l (.lst (stepV lo c (stepN lo hi c))))
theorem pe_listR3 {a b c:Expr} {ta:TA} {p p2 pos pos2:Pos} (hcalm:X.calm=true) (hg:Gl X "list") (hm:X.mg "list" = none) (hg2:Gl X "range") (hm2:X.mg "range" = none) (ha:PA X [a,b,c] ta)
    (hs0:starEach [.Call (.Name "range" p2) [a,b,c] [] pos2] X.env=[(false,eval (.Call (.Name "range" p2) [a,b,c] [] pos2) X.env)]:=by rfl)
    (hs:starEach [a,b,c] X.env=[(false,eval a X.env),(false,eval b X.env),(false,eval c X.env)]:=by rfl) (hs2:starEach [b,c] X.env=[(false,eval b X.env),(false,eval c X.env)]:=by rfl) :
    PE X (.Call (.Name "list" p) [.Call (.Name "range" p2) [a,b,c] [] pos2] [] pos) (tListR3 ta):=by
  intro pins s σ H Q I h
  refine Call_ (ld_blt I hg hm bt_list ?_)
  refine PyProof.Rows.callWith_type1 ?_ hs0 rfl
  rw [hs0]
  show wpAny _ _ (spliced [(false,eval (.Call (.Name "range" p2) [a,b,c] [] pos2) X.env)]) _ _ s
  refine Calls.spliced_cons (Call_ (ld_blt I hg2 hm2 boot_range (PyProof.Rows.callWith_type1 (thn (ha pos2 pins s σ H _ I h) fun us s1 ⟨vs,H1,I1,r1,q1⟩=>?_) (by rw [hs,hs2]) (by rw [hs2];rfl))))
  obtain ⟨lo,hi,st,e,⟨l0,l1,h0,h1,c0,c1⟩,q⟩:=q1
  subst e
  cases r1 with
  | cons r rr=>
    cases rr with
    | cons r' rr=>
      cases rr with
      | cons r'' rr=>
      cases rr
      obtain ⟨t,rfl⟩:=r
      obtain ⟨t',rfl⟩:=r'
      obtain ⟨t'',rfl⟩:=r''
      refine call_range_3 (by omega) ?_ (Or.inl (PyProof.noPylong_small (by omega)))
      refine Calls.spliced_nil ?_
      have old:∀ b o,s1.heap.get? b=some o→(s1.heap.push { cls:=.type "range", data:=.fields #[.int lo t,.int hi t',.int st t''] }).get? b=some o:=fun b o e=>Heap.get?_push_of_some _ e
      have I2:Inv X pins σ H1 { s1 with heap:=s1.heap.push { cls:=.type "range", data:=.fields #[.int lo t,.int hi t',.int st t''] } }:=I1.kept (t':=s1.toks) old
      have en:=step_nat (lo:=lo) (hi:=hi) c0
      have le:=step_le (lo:=lo) (hi:=hi) c0
      have lm:stepN lo hi st≤1000:=by split at le <;> omega
      refine call_list_range (s:={ s1 with heap:=s1.heap.push { cls:=.type "range", data:=.fields #[.int lo t,.int hi t',.int st t''] } }) (I2.ok.hd hcalm) (IsRange.new ..) ?_ en (by omega) fun h' tk acc c' kp hS hacc=>?_
      · unfold Builtin.Range.small
        rw [en]
        simp only [Builtin.Range.rangeFitsLong,Bool.and_eq_true,Bool.or_eq_true,decide_eq_true_eq,beq_iff_eq]
        have h3:lo+(stepN lo hi st:Int) * st≤2000000:=by
          have:(stepN lo hi st:Int) * st≤1000 * 1000:=Int.mul_le_mul (by omega) c1 (by omega) (by omega)
          omega
        rw [if_pos (by omega)]
        refine ⟨⟨⟨⟨?_,?_⟩,?_⟩,?_⟩,.inr ?_⟩ <;> (try simp only [Bool.and_eq_true,decide_eq_true_eq]) <;> omega
      · have v:=step_vals hacc
        refine ⟨.ref _,_,I2.laid (t':=tk) kp (Nat.le_refl _) (show ObjOk X.prog X.w _ h' _ (.lst (stepV lo st (stepN lo hi st))) from ⟨?_,acc.toList,c',v,hS⟩),rfl,q _ (I2.hok.fresh (Nat.le_refl _))⟩
        rw [List.length_map,List.length_range]
        exact Nat.le_of_lt (Nat.lt_of_le_of_lt lm (by decide +kernel))
end
end L2
namespace S15
open PySem L2 W7
def lamsOf (Ts:List Addr):List Lm:=[(Ts.getD 0 0,lpO,qO)]
theorem lm_ok (Ts:List Addr):LmOk (lamsOf Ts):=by
  intro l hl m hm
  simp only [lamsOf,List.mem_cons,List.not_mem_nil,or_false] at hl hm
  subst hl hm
  exact .inl rfl
theorem lams_start {Ts:List Addr} {H:Hp} (hl:Ts.length=1) (h:∀ T∈Ts,H T=some (.tbl #[])):Lams (lamsOf Ts) H:=by
  match Ts,hl with
  | [T1],_=>
    intro l hl
    simp only [lamsOf,List.mem_cons,List.not_mem_nil,or_false] at hl
    subst hl
    exact LamAt.start (h T1 (by simp))
theorem Lams.kd {ls:List Lm} {p:Addr} {c:Int} {H H':Hp} (a:Lams ls H) (dk:∃ c,Deck H p c) (k:Kd p c H H'):Lams ls H':=fun m hm=>by
  obtain ⟨c0,x,y,z,e0,_⟩:=dk
  obtain ⟨ps,a,b,c⟩:=a m hm
  refine ⟨ps,k.keep _ _ (ne_of a e0 (by intro z;cases z)) a,b,?_⟩
  rcases c with c | ⟨d,c,e⟩
  · exact .inl c
  · exact .inr ⟨d,c,k.keep _ _ (ne_of e e0 (by intro z;cases z)) e⟩
structure Ph (ls:List Lm) (p:Addr) (c:Int) (J H:Hp):Prop where
  lam:Lams ls H
  deck:Deck H p c
  keep:∀ b o,(∀ ps,o≠.tbl ps)→b≠p→J b=some o→H b=some o
  here:∀ b,H b=none→J b=none
section
variable {ls:List Lm} {p:Addr} {c d:Int} {J H H':Hp}
theorem Ph.refl (L:Lams ls J) (dk:Deck J p c):Ph ls p c J J:=⟨L,dk,fun _ _ _ _ e=>e,fun _ e=>e⟩
theorem Ph.kd (h:Ph ls p c J H) (k:Kd p d H H'):Ph ls p d J H':=⟨Lams.kd h.lam ⟨_,h.deck⟩ k,k.deck,fun b o t n e=>k.keep b o n (h.keep b o t n e),fun b e=>h.here b (k.fresh e)⟩
theorem Ph.kt (h:Ph ls p c J H) (k:Kt ls H H'):Ph ls p c J H':=by
  obtain ⟨x,y,z,e,r⟩:=h.deck
  exact ⟨k.lam,⟨x,y,z,k.lst e,r⟩,fun b o t n e=>k.keep b o t (h.keep b o t n e),fun b e=>h.here b (k.here b e)⟩
theorem Ph.same (h:Ph ls p c J H) (s:Same H H'):Ph ls p c J H':=h.kt (Kt.of s h.lam)
theorem Ph.mono (h:Ph ls p c J H) (e:c≤d):Ph ls p d J H:=⟨h.lam,h.deck.mono e,h.keep,h.here⟩
theorem Ph.lst (h:Ph ls p c J H) {b:Addr} {xs:List V} (n:b≠p) (e:J b=some (.lst xs)):H b=some (.lst xs):=h.keep _ _ (fun _ z=>by cases z) n e
theorem Ph.tup (h:Ph ls p c J H) (dj:∃ c,Deck J p c) {b:Addr} {xs:List V} (e:J b=some (.tup xs)):H b=some (.tup xs):=h.keep _ _ (fun _ z=>by cases z) (by
  obtain ⟨c0,x,y,z,e0,_⟩:=dj
  exact ne_of e e0 (by intro z;cases z)) e
theorem Ph.tree (h:Ph ls p c J H) (dj:∃ c,Deck J p c) {t:Addr} {ups:List Int} {lab:Str} (e:TreeAt J t ups lab):TreeAt H t ups lab:=by
  obtain ⟨u,e1,e2,ok⟩:=e
  exact ⟨u,h.tup dj e1,h.tup dj e2,ok⟩
theorem Ph.thg (h:Ph ls p c J H) {x:V} (e:Thg J x) (n:x≠.ref p):Thg H x:=by
  cases e with
  | non=>exact .non
  | bl b=>exact .bl b
  | int i=>exact .int i
  | str z=>exact .str z
  | lst e=>exact .lst (h.keep _ _ (fun _ z=>by cases z) (fun z=>n (by rw [z])) e)
  | tup e=>exact .tup (h.keep _ _ (fun _ z=>by cases z) (fun z=>n (by rw [z])) e)
  | dct e=>exact .dct (h.keep _ _ (fun _ z=>by cases z) (fun z=>n (by rw [z])) e)
end
theorem filt_words {ups:List Int} {lab:Str} (f:Str→Bool):((wordsS ups lab).filter f).length=((List.range ups.length).filter fun i=>f (mk (W ups lab.cps.toList i))).length:=by
  unfold wordsS
  rw [List.filter_map,List.length_map];rfl
theorem lss_len (ups:List Int) (lab word:Str):(lss (wordsS ups lab) word).length=((List.range ups.length).filter (lsB ups lab word)).length:=filt_words _
theorem cnt_len (ups:List Int) (lab word:Str):(cntS (wordsS ups lab) word).length=((List.range ups.length).filter (stB ups lab word)).length:=filt_words _
def js (ups:List Int) (lab word:Str) (n:Nat):List Nat:=(List.range n).filter (stB ups lab word)
theorem js_succ (ups:List Int) (lab word:Str) (n:Nat):js ups lab word (n+1)=js ups lab word n++(if stB ups lab word n=true then [n] else []):=by
  unfold js
  rw [List.range_succ,List.filter_append]
  congr 1
  by_cases h:stB ups lab word n=true
  · rw [if_pos h,List.filter_cons_of_pos h,List.filter_nil]
  · rw [if_neg h,List.filter_cons_of_neg h,List.filter_nil]
theorem js_le (ups:List Int) (lab word:Str) (n:Nat):(js ups lab word n).length≤n:=Nat.le_trans (List.length_filter_le _ _) (by rw [List.length_range];exact Nat.le_refl _)
theorem js_nodup (ups:List Int) (lab word:Str) (n:Nat):(js ups lab word n).Nodup:=List.nodup_range.filter _
theorem getD_lt {l:List Nat} {i:Nat} (h:i < l.length):l.getD i 0=l[i]:=by rw [List.getD_eq_getElem?_getD,List.getElem?_eq_getElem h];rfl
theorem keys_js (ups:List Int) (lab word:Str) (n:Nat):Keys (js ups lab word n).length (fun i=>Kw ups lab ((js ups lab word n).getD i 0)) [2,1] where
  shp:=fun i=>rfl
  ne:=by simp
  z:=by simp
  inj:=fun i j hi hj h=>by
    have h2:[V.str (mk (W ups lab.cps.toList ((js ups lab word n).getD i 0))),.int (((js ups lab word n).getD i 0:Nat):Int)]=[.str (mk (W ups lab.cps.toList ((js ups lab word n).getD j 0))),.int (((js ups lab word n).getD j 0:Nat):Int)]:=h
    simp only [List.cons.injEq,V.int.injEq,and_true] at h2
    have e:(js ups lab word n).getD i 0=(js ups lab word n).getD j 0:=by omega
    rw [getD_lt hi,getD_lt hj] at e
    exact (List.getElem_inj (js_nodup ups lab word n)).mp e
theorem map_range (l:List Nat):(List.range l.length).map (fun i=>l.getD i 0)=l:=by
  refine List.ext_getElem (by simp) fun i h1 h2=>?_
  rw [List.getElem_map,List.getElem_range,getD_lt h2]
theorem map_getD {α β:Type} {f:α→β} {l:List α} {i:Nat} {x:α} {y:β} (h:i < l.length):(l.map f).getD i y=f (l.getD i x):=by
  rw [List.getD_eq_getElem?_getD,List.getD_eq_getElem?_getD,List.getElem?_map,List.getElem?_eq_getElem h];rfl
structure DueOk (ups:List Int) (lab word:Str) (ds:List Nat):Prop where
  perm:ds.Perm ((List.range ups.length).filter (stB ups lab word))
  rise:∀ i j,i < j→j < ds.length→lexV (Kw ups lab (ds.getD j 0)) (Kw ups lab (ds.getD i 0))=false
theorem DueOk.len {ups:List Int} {lab word:Str} {ds:List Nat} (h:DueOk ups lab word ds):(cntS (wordsS ups lab) word).length=ds.length:=by rw [cnt_len];exact h.perm.length_eq.symm
theorem due_ok {ups:List Int} {lab word:Str} {p:List Nat} (hp:p.Perm (List.range (js ups lab word ups.length).length))
    (hr:∀ i j,i < j→j < (js ups lab word ups.length).length→lexV (Kw ups lab ((js ups lab word ups.length).getD (p.getD j 0) 0)) (Kw ups lab ((js ups lab word ups.length).getD (p.getD i 0) 0))=false) :
    DueOk ups lab word (p.map fun i=>(js ups lab word ups.length).getD i 0):=by
  have pl:p.length=(js ups lab word ups.length).length:=by have:=hp.length_eq;simpa using this
  refine ⟨?_,fun i j hij hj=>?_⟩
  · have:=hp.map fun i=>(js ups lab word ups.length).getD i 0
    rw [map_range] at this
    exact this
  · rw [List.length_map] at hj
    rw [map_getD (x:=0) hj,map_getD (x:=0) (show i < p.length by omega)]
    exact hr i j hij (by omega)
def DueAt (H:Hp) (r:Addr) (ups:List Int) (lab:Str) (ds:List Nat):Prop:=∃ bs:List Addr,H r=some (.lst (bs.map V.ref))∧bs.length=ds.length∧∀ i,i < ds.length→H (bs.getD i 0)=some (.tup (Kw ups lab (ds.getD i 0)))
theorem DueAt.kd {H H':Hp} {r p:Addr} {ups:List Int} {lab:Str} {ds:List Nat} {c:Int} (h:DueAt H r ups lab ds) (dk:∃ c,Deck H p c) (n:r≠p) (k:Kd p c H H'):DueAt H' r ups lab ds:=by
  obtain ⟨bs,e,l,g⟩:=h
  obtain ⟨c0,x,y,z,e0,_⟩:=dk
  exact ⟨bs,k.keep _ _ n e,l,fun i hi=>k.keep _ _ (ne_of (g i hi) e0 (by intro z;cases z)) (g i hi)⟩
theorem DueAt.ph {ls:List Lm} {J H:Hp} {r p:Addr} {ups:List Int} {lab:Str} {ds:List Nat} {c:Int} (h:DueAt J r ups lab ds) (dk:∃ c,Deck J p c) (n:r≠p) (k:Ph ls p c J H):DueAt H r ups lab ds:=by
  obtain ⟨bs,e,l,g⟩:=h
  exact ⟨bs,k.lst n e,l,fun i hi=>k.tup dk (g i hi)⟩
theorem DueAt.item {H:Hp} {r:Addr} {ups:List Int} {lab:Str} {ds:List Nat} (h:DueAt H r ups lab ds):∃ xs:List V,H r=some (.lst xs)∧xs.length=ds.length∧∀ i:Int,0≤i→i < (ds.length:Int)→∃ b:Addr,atI xs i=some (.ref b)∧H b=some (.tup (Kw ups lab (ds.getD i.toNat 0))):=by
  obtain ⟨bs,e,l,g⟩:=h
  refine ⟨_,e,by rw [List.length_map];exact l,fun i h0 h1=>⟨bs.getD i.toNat 0,?_,g _ (by omega)⟩⟩
  have:=atI_nat (xs:=bs.map V.ref) (j:=i.toNat) (v:=.ref (bs.getD i.toNat 0)) (by rw [List.getElem?_map,List.getD_eq_getElem?_getD,List.getElem?_eq_getElem (by omega)];rfl)
  rw [show ((i.toNat:Nat):Int)=i by omega] at this
  exact this
theorem DueAt.last {H:Hp} {r:Addr} {ups:List Int} {lab:Str} {ds:List Nat} (h:DueAt H r ups lab ds) (hp:0 < ds.length):∃ (xs:List V) (b:Addr),H r=some (.lst xs)∧xs.length=ds.length∧atI xs (-1)=some (.ref b)∧H b=some (.tup (Kw ups lab (ds.getD (ds.length - 1) 0))):=by
  obtain ⟨bs,e,l,g⟩:=h
  have ne:bs≠[]:=fun z=>by rw [z] at l;simp at l;omega
  refine ⟨_,bs.getD (ds.length - 1) 0,e,by rw [List.length_map];exact l,?_,g _ (by omega)⟩
  have e2:bs.map V.ref=bs.dropLast.map V.ref++[.ref (bs.getLast ne)]:=by
    conv=>lhs;rw [← List.dropLast_concat_getLast ne]
    rw [List.map_append];rfl
  have e3:bs.getLast ne=bs.getD (ds.length - 1) 0:=by
    rw [List.getLast_eq_getElem,List.getD_eq_getElem?_getD,← l,List.getElem?_eq_getElem (by omega)];rfl
  rw [e2,atI_last,e3]
theorem W_low {ups:List Int} {lab:List Nat} (ok:TreeOk ups lab) (lw:∀ c∈lab,Lw c):∀ (n i:Nat),i < n→i < ups.length→∀ c∈W ups lab i,Lw c
  | 0,i,h,_=>absurd h (Nat.not_lt_zero _)
  | n+1,i,h,hi=>by
    rw [W_eq ok hi]
    have hc:Lw (lab.getD i 0):=by
      rw [List.getD_eq_getElem?_getD,List.getElem?_eq_getElem (by have:=ok.len;omega)]
      exact lw _ (List.getElem_mem _)
    split
    · exact fun c hc'=>by rw [List.mem_singleton.mp hc'];exact hc
    · rename_i hn
      have lt:=ok.lt hi hn
      intro c hc'
      rcases List.mem_cons.mp hc' with rfl | hc'
      · exact hc
      · exact W_low ok lw n _ (by omega) (by omega) c hc'
theorem aab_ok:TreeOk [-1,0,0] (Str.ofString "aab").cps.toList:=⟨by decide +kernel,by decide,by decide,rfl,fun k h0 h1=>by
  have:k=1∨k=2:=by have:k < 3:=h1;omega
  rcases this with rfl | rfl <;> decide⟩
theorem ten59:(10:Int) ^ (59:Int).toNat < bigL:=by unfold bigL;decide +kernel
theorem ten590:(0:Int) < (10:Int) ^ (59:Int).toNat:=by decide +kernel
end S15
namespace S15
open PySem L2 W7
theorem wordsV_S (ups:List Int) (lab:Str):wordsV ups lab ups.length=(wordsS ups lab).map V.str:=by
  unfold wordsV wordsS
  rw [List.map_map];rfl
def RowsAt (K:Nat→List V) (H:Hp) (as:List Addr) (ms:List Nat):Prop:=as.length=ms.length∧∀ m,m < ms.length→H (as.getD m 0)=some (.tup (K (ms.getD m 0)))
theorem RowsAt.keep {K:Nat→List V} {H H':Hp} {as:List Addr} {ms:List Nat} (h:RowsAt K H as ms) (k:∀ b xs,H b=some (.tup xs)→H' b=some (.tup xs)):RowsAt K H' as ms:=⟨h.1,fun m hm=>k _ _ (h.2 m hm)⟩
theorem RowsAt.push {K:Nat→List V} {H:Hp} {as:List Addr} {ms:List Nat} {q:Addr} {n:Nat} (h:RowsAt K H as ms) (e:H q=some (.tup (K n))):RowsAt K H (as++[q]) (ms++[n]):=by
  refine ⟨by rw [List.length_append,List.length_append,h.1];rfl,fun m hm=>?_⟩
  rw [List.length_append] at hm
  have hm':m < ms.length+1:=hm
  have hl:=h.1
  by_cases c:m < ms.length
  · have e1:(as++[q]).getD m 0=as.getD m 0:=by rw [List.getD_eq_getElem?_getD,List.getD_eq_getElem?_getD,List.getElem?_append_left (by omega)]
    have e2:(ms++[n]).getD m 0=ms.getD m 0:=by rw [List.getD_eq_getElem?_getD,List.getD_eq_getElem?_getD,List.getElem?_append_left c]
    rw [e1,e2]
    exact h.2 m c
  · have em:m=ms.length:=by omega
    have e1:(as++[q]).getD m 0=q:=by rw [List.getD_eq_getElem?_getD,List.getElem?_append_right (by omega),show m - as.length=0 by omega];rfl
    have e2:(ms++[n]).getD m 0=n:=by rw [List.getD_eq_getElem?_getD,List.getElem?_append_right (by omega),show m - ms.length=0 by omega];rfl
    rw [e1,e2]
    exact e
def Odd (H:Hp) (p:Addr) (n:Int) (x:V):Prop:=Thg H x∧x≠.ref p∧below x n=false
theorem odd_int {H:Hp} {p:Addr} {n i:Int} (h:i < 0∨n≤i):Odd H p n (.int i):=by
  refine ⟨.int i,(fun z=>by cases z),?_⟩
  show (decide (0≤i) && decide (i < n))=false
  rcases h with h | h
  · rw [decide_eq_false (show ¬ 0≤i by omega)];rfl
  · rw [decide_eq_false (show ¬ i < n by omega),Bool.and_false]
theorem Odd.same {H H':Hp} {p:Addr} {n:Int} {x:V} (h:Odd H p n x) (s:Same H H'):Odd H' p n x:=⟨h.1.same s,h.2⟩
theorem Odd.kd {H H':Hp} {p:Addr} {n c:Int} {x:V} (h:Odd H p n x) (k:Kd p c H H'):Odd H' p n x:=by
  refine ⟨?_,h.2⟩
  have n:=h.2.1
  cases h.1 with
  | non=>exact .non
  | bl b=>exact .bl b
  | int i=>exact .int i
  | str z=>exact .str z
  | lst e=>exact .lst (k.keep _ _ (fun z=>n (by rw [z])) e)
  | tup e=>exact .tup (k.keep _ _ (fun z=>n (by rw [z])) e)
  | dct e=>exact .dct (k.keep _ _ (fun z=>n (by rw [z])) e)
theorem ten59n:(0:Int) - (10:Int) ^ (59:Int).toNat < 0:=by decide +kernel
theorem cut_pos {xs:List V} {n:Nat} {x:V} (h:x∈cutV xs none (some (n:Int))):0 < n:=by
  rcases Nat.eq_zero_or_pos n with e | e
  · subst e
    exfalso
    have h2:x∈(xs.drop (HT.sIx xs.length 0 none)).take (HT.sIx xs.length xs.length (some ((0:Nat):Int)) - HT.sIx xs.length 0 none):=h
    rw [HT.sIx_nat,Nat.zero_min,Nat.zero_sub,List.take_zero] at h2
    cases h2
  · exact e
theorem aab_order:OrderOk [-1,0,0] (Str.ofString "aab") [0,1,2]:=by
  refine ⟨by decide,fun i j hij hj=>?_⟩
  have hj':j < 3:=hj
  have:(i=0∧j=1)∨(i=0∧j=2)∨(i=1∧j=2):=by omega
  rcases this with ⟨rfl,rfl⟩ | ⟨rfl,rfl⟩ | ⟨rfl,rfl⟩ <;> decide +kernel
theorem line_le {n:Nat} (h:n≤1000):n≤sizeLine:=Nat.le_of_lt (small1000 h)
section
variable {P:Program} {w:World} {K:PySem.W.Frag} {mg:Str→Option Value} {base:Heap} {k:Nat}
def sp_law (ls:List Lm):PySem.W.Frag→Sp:=fun K vs H Q _=>∃ (a:Addr) (ns:List Int),vs=[.ref a]∧SqL K H a (ns.map V.int)∧ns.length≤63∧Lams ls H∧∀ H',Q (.bl true) H'
theorem ok_law {ls:List Lm} {f:Addr} {fd:FuncData} (EX:Exs K mg) (F:Fun K "law" "law" s_law f fd) (B:Blt7 mg) (G_law_deck:Has P w K mg base "_law_deck" k ["cell", "at"] sp_deck) (G_law_some:Has P w K mg base "_law_some" k ["deck_here", "things"] sp_some) (G_law_tree:Has P w K mg base "_law_tree" k ["deck_here", "most"] sp_tree)
    (G_law_words:Has P w K mg base "_law_words" k ["tree_here"] sp_words) (G_law_sought:Has P w K mg base "_law_sought" k ["deck_here", "words_here"] sp_sought) (G_law_draw:Has P w K mg base "_law_draw" k ["deck_here", "many"] sp_draw) (G_law_drawL:Has P w K mg base "_law_draw" k ["deck_here", "many"] sp_drawL) (G_law_whole:Has P w K mg base "_law_whole" k ["found", "due"] sp_whole)
    (G_nth_place:HasX P w K mg base "nth_place" k ["tree", "word", "k"] (sp_nthp ls EX.c_NoNumber)) (G_law_refused:Has P w K mg base "_law_refused" k ["tree_here", "word", "k"] (sp_refused ls)) :
    FnOk P w K mg base CX0 (k+1) f fd ["script"] (sp_law ls K):=by
  refine F.ok sc_law (fun vs H Q E h=>by obtain ⟨a,ns,rfl,_⟩:=h;rfl) (fun cdv A outer s H vs Q E hr h=>?_)
  obtain ⟨a,ns,rfl,hS,h63,L,q⟩:=h
  refine exw ?_
  refine ⟨_,(w_cons (Pw.mk (ps_for PassesOwn.never rfl (pi_enum rfl B.enumerate (pa_cons (pe_op op_cat (pe_slice sl_list (pv 0) po_none (po_some pe_int)) (pe_lst (pa_cons (pe_callB call_len_seq rfl B.len bt_len (pa_cons (pv 0) pa_nil)) pa_nil))) pa_nil)) (pg_tup rfl (pgs_cons (pg_name (i:=1) sc_law.nd rfl (by first | exact Or.inl rfl | exact Or.inr rfl)) (pgs_cons (pg_name (i:=2) sc_law.nd rfl (by first | exact Or.inl rfl | exact Or.inr rfl)) pgs_nil))) (PSw.h (w_cons (Pw.mk (ps_set (i:=3) sc_law.nd rfl (by first | exact Or.inl rfl | exact Or.inr rfl) (pe_callH G_law_deck hr rfl (pa_cons (pv 2) (pa_cons (pv 1) pa_nil)))))
  (w_cons (Pw.mk (ps_set (i:=4) sc_law.nd rfl (by first | exact Or.inl rfl | exact Or.inr rfl) (pe_callH G_law_tree hr rfl (pa_cons (pv 3) (pa_cons (pe_ix ix_list (pe_lst (pa_cons pe_int (pa_cons pe_int pa_nil))) (pe_callTy call_int1 rfl B.int_ bt_int (pa_cons (pe_cmpR op_eq (pv 1) pe_int (nomark _)) pa_nil)) (fun _ _=>rfl)) pa_nil)))))
  (w_cons (Pw.mk (ps_set (i:=5) sc_law.nd rfl (by first | exact Or.inl rfl | exact Or.inr rfl) (pe_callH G_law_words hr rfl (pa_cons (pv 4) pa_nil))))
  (w_cons (Pw.mk (ps_set (i:=6) sc_law.nd rfl (by first | exact Or.inl rfl | exact Or.inr rfl) (pe_callH G_law_sought hr rfl (pa_cons (pv 3) (pa_cons (pv 5) pa_nil)))))
  (w_cons (Pw.mk (ps_set (i:=7) sc_law.nd rfl (by first | exact Or.inl rfl | exact Or.inr rfl) (pe_callB call_sorted_tups rfl B.sorted bt_sorted (pa_cons (pe_comp rfl (pi_enum rfl B.enumerate (pa_cons (pv 5) pa_nil)) (NL:=["place", "one"]) (ix:=[6]) (csc (defScope s_law) N_law) (fun cl C s₃ H₃ fp pins=>⟨(pg_tupK K (n:=2) rfl (pgs_cons (pg_name (i:=0) (show List.Nodup (["place", "one", "word"]:List Str) from by decide +kernel) rfl (by first | exact Or.inl rfl | exact Or.inr rfl)) (pgs_cons (pg_name (i:=1) (show List.Nodup (["place", "one", "word"]:List Str) from by decide +kernel) rfl (by first | exact Or.inl rfl | exact Or.inr rfl)) pgs_nil))),(pifs_startsK K (pv 1) (pv 2)),(pe_tup (pa_cons (pv 1) (pa_cons (pv 0) pa_nil)))⟩)) pa_nil))))
  (w_cons (Pw.mk (ps_set (i:=8) sc_law.nd rfl (by first | exact Or.inl rfl | exact Or.inr rfl) (pe_lst (pa_cons (pe_callB call_len_seq rfl B.len bt_len (pa_cons (pv 7) pa_nil)) (pa_cons (pe_un un_neg pe_int) (pa_cons (pe_op op_sub (pe_op op_sub pe_int (pe_callB call_len_seq rfl B.len bt_len (pa_cons (pv 7) pa_nil))) pe_int) (pa_cons (pe_op op_add (pe_callB call_len_seq rfl B.len bt_len (pa_cons (pv 7) pa_nil)) (pe_callH G_law_draw hr rfl (pa_cons (pv 3) (pa_cons (pe_op op_pow pe_int pe_int) pa_nil)))) (pa_cons (pe_op op_sub pe_int (pe_op op_pow pe_int pe_int)) pa_nil))))))))
  (w_cons (w_set (i:=8) sc_law.nd rfl (by first | exact Or.inl rfl | exact Or.inr rfl) (w_op op_cat (PEw.mk (pv 8)) (w_lst (w_acons (PEw.mk (pe_op op_add (pe_callH G_law_drawL hr rfl (pa_cons (pv 3) (pa_cons (pe_op op_pow pe_int pe_int) pa_nil))) pe_int)) (w_acons (PEw.mk pe_bl) (w_acons (PEw.mk pe_bl) (w_acons (PEw.mk pe_non) (w_acons w_str (w_acons w_str (w_acons (PEw.mk (pe_lst (pa_cons pe_int pa_nil))) (w_acons (PEw.mk (pe_tup (pa_cons pe_int pa_nil))) (w_acons (PEw.mk pe_dnewK) (w_acons (PEw.mk (pe_lst pa_nil)) (w_acons (PEw.mk (pe_tup pa_nil)) w_anil))))))))))))))
  (w_cons (Pw.mk (ps_set (i:=9) sc_law.nd rfl (by first | exact Or.inl rfl | exact Or.inr rfl) (pe_op op_cat (pe_listR3 rfl rfl B.list_ rfl B.range (pa_cons pe_int (pa_cons (pe_callB call_len_seq rfl B.len bt_len (pa_cons (pv 7) pa_nil)) (pa_cons (pe_op op_add pe_int (pe_op op_fdiv (pe_callB call_len_seq rfl B.len bt_len (pa_cons (pv 7) pa_nil)) pe_int)) pa_nil)))) (pe_lst (pa_cons (pe_callH G_law_draw hr rfl (pa_cons (pv 3) (pa_cons (pe_callB (call_max2 rfl) rfl B.max bt_max (pa_cons pe_int (pa_cons (pe_callB call_len_seq rfl B.len bt_len (pa_cons (pv 7) pa_nil)) pa_nil))) pa_nil))) pa_nil)))))
  (w_cons (Pw.mk (ps_for PassesOwn.never rfl (pi_list (pe_slice sl_list (pv 9) po_none (po_some (pe_callB call_len_seq rfl B.len bt_len (pa_cons (pv 7) pa_nil))))) (pg_name (i:=10) sc_law.nd rfl (by first | exact Or.inl rfl | exact Or.inr rfl))
  (pss_one (ps_if (pt_not (pt_val (pe_callH G_law_whole hr rfl (pa_cons (pe_callE G_nth_place passes_no hr rfl (pa_cons (pv 4) (pa_cons (pv 6) (pa_cons (pv 10) pa_nil)))) (pa_cons (pe_ix ix_tup (pe_ix ix_list (pv 7) (pv 10) (fun _ _=>rfl)) pe_int (fun _ _=>rfl)) pa_nil)))))
  (pss_one (ps_ret pe_bl))
  pss_nil))))
  (w_cons (Pw.mk (ps_for PassesOwn.never rfl (pi_list (pe_lst (pa_cons (pe_callB call_len_seq rfl B.len bt_len (pa_cons (pv 7) pa_nil)) (pa_cons (pe_un un_neg pe_int) (pa_cons (pe_callH G_law_some hr rfl (pa_cons (pv 3) (pa_cons (pv 8) pa_nil))) (pa_cons (pe_callH G_law_some hr rfl (pa_cons (pv 3) (pa_cons (pv 8) pa_nil))) pa_nil)))))) (pg_name (i:=10) sc_law.nd rfl (by first | exact Or.inl rfl | exact Or.inr rfl))
  (pss_one (ps_if (pt_not (pt_val (pe_callH G_law_refused hr rfl (pa_cons (pv 4) (pa_cons (pv 6) (pa_cons (pv 10) pa_nil))))))
  (pss_one (ps_ret pe_bl))
  pss_nil))))
  (w_one (Pw.mk (ps_if (PW.pt (pw_and (pt_cmpR (op_ne_nil hr.units0) (pv 7) (pe_lst pa_nil) (nomark _)) (pw_and1 (pt_cmpR op_ne (pe_callE G_nth_place passes_no hr rfl (pa_cons (pv 4) (pa_cons (pv 6) (pa_cons (pe_op op_sub (pe_callB call_len_seq rfl B.len bt_len (pa_cons (pv 7) pa_nil)) pe_int) pa_nil)))) (pe_ix ix_tup (pe_ix ix_list (pv 7) (pe_un un_neg pe_int) (fun _ _=>rfl)) pe_int (fun _ _=>rfl)) (nomark _)))))
  (pss_one (ps_ret pe_bl))
  pss_nil))))))))))))))))
  (w_one (w_ret (PEw.mk (pe_cmpR op_eq (pe_callE G_nth_place passes_no hr rfl (pa_cons (pe_tup (pa_cons (pe_tup (pa_cons (pe_un un_neg pe_int) (pa_cons pe_int (pa_cons pe_int pa_nil)))) (pa_cons pe_str pa_nil))) (pa_cons pe_str (pa_cons pe_int pa_nil)))) pe_int (nomark _)))))),?_⟩
  refine mid (fun σ H'=>Lams ls H') ?_ fun E2 nx=>?_
  rotate_left
  · refine ⟨_,rfl,_,rfl,a,_,rfl,hS,fun r1 hr1=>?_⟩
    have sx1:Same H (upd H r1 (.lst (cutV (ns.map V.int) none (some 63)))):=(Same.refl H).new hr1
    refine ⟨_,rfl,a,_,rfl,.inl (sx1.seq hS),(by show 1≤sizeLine;decide),fun r2 hr2=>?_⟩
    have cl:(cutV (ns.map V.int) none (some 63)).length≤63:=Nat.le_trans (cutV_length _ _ _) (by rw [List.length_map];exact h63)
    refine ⟨r1,r2,_,_,rfl,rfl,by rw [upd_ne (ne_of_none upd_same hr2)];exact upd_same,upd_same,?_,fun r3 hr3=>?_⟩
    · show (cutV (ns.map V.int) none (some 63)).length+1≤sizeLine
      exact Nat.le_of_lt (small1000 (by omega))
    have hxi:∀ x∈cutV (ns.map V.int) none (some 63)++[V.int (((ns.map V.int).length:Nat):Int)],∃ n:Int,x=.int n:=fun x hx=>by
      rcases List.mem_append.mp hx with hx | hx
      · obtain ⟨n,_,rfl⟩:=List.mem_map.mp (List.mem_of_mem_drop (List.mem_of_mem_take hx));exact ⟨n,rfl⟩
      · exact ⟨_,by simpa using hx⟩
    have hxl:(cutV (ns.map V.int) none (some 63)++[V.int (((ns.map V.int).length:Nat):Int)]).length≤64:=by rw [List.length_append,List.length_singleton];omega
    have sHx:Same H (upd (upd (upd H r1 (.lst (cutV (ns.map V.int) none (some 63)))) r2 (.lst [V.int (((ns.map V.int).length:Nat):Int)])) r3 (.lst (cutV (ns.map V.int) none (some 63)++[V.int (((ns.map V.int).length:Nat):Int)]))):=(sx1.new hr2).new hr3
    generalize cutV (ns.map V.int) none (some 63)++[V.int (((ns.map V.int).length:Nat):Int)]=xs at hxi hxl sHx
    generalize hHx:upd (upd (upd H r1 (.lst (cutV (ns.map V.int) none (some 63)))) r2 (.lst [V.int (((ns.map V.int).length:Nat):Int)])) r3 (.lst xs)=Hx at sHx
    have hx3:Hx r3=some (.lst xs):=by rw [← hHx];exact upd_same
    refine ⟨.lst r3,rfl,⟨_,.inl hx3⟩,?_⟩
    refine for_enum (xs:=xs) (fun i σ H'=>∃ o1 o2 o3 o4 o5 o6 o7 o8 o9 o10:Option V,σ=[some (.ref a),o1,o2,o3,o4,o5,o6,o7,o8,o9,o10]∧Kt ls Hx H') ⟨none,none,none,none,none,none,none,none,none,none,rfl,Kt.refl (L.same sHx)⟩
      (fun i σ H' hi h=>by obtain ⟨_,_,_,_,_,_,_,_,_,_,_,s1⟩:=h;exact .inl (s1.lst hx3)) ?_ (fun σ H' h=>by obtain ⟨_,_,_,_,_,_,_,_,_,_,_,s1⟩:=h;exact nx _ _ s1.lam)
    clear nx
    rintro i x σ H' p hx ⟨o1,o2,o3,o4,o5,o6,o7,o8,o9,o10,rfl,kt1⟩ hp
    have hi:i < xs.length:=(List.getElem?_eq_some_iff.mp hx).1
    obtain ⟨cell,rfl⟩:=hxi x (List.mem_of_getElem? hx)
    refine ⟨p,_,rfl,SqT.of upd_same,rfl,_,_,rfl,_,_,rfl,rfl,?_⟩
    have kt2:Kt ls Hx (upd H' p (.tup [.int i,.int cell])):=kt1.same ((Same.refl H').new hp)
    generalize upd H' p (.tup [.int i,.int cell])=H2 at kt2
    refine ⟨_,rfl,_,rfl,cell,(i:Int),rfl,fun p1 x1 y1 hp1=>?_⟩
    have dk:Deck (upd H2 p1 (.lst [.int x1,.int y1,.int (40 * (i:Int))])) p1 2560:=⟨_,_,_,upd_same,by omega,by omega⟩
    have kt3:Kt ls Hx (upd H2 p1 (.lst [.int x1,.int y1,.int (40 * (i:Int))])):=kt2.same ((Same.refl H2).new hp1)
    have hxp:Hx p1=none:=kt2.here _ hp1
    generalize upd H2 p1 (.lst [.int x1,.int y1,.int (40 * (i:Int))])=H3 at dk kt3
    refine ⟨_,rfl,line_le (show 2≤1000 by omega),fun r6 hr6=>?_⟩
    have s6:Same H3 (upd H3 r6 (.lst [.int 8,.int 60])):=(Same.refl H3).new hr6
    refine ⟨_,rfl,rfl,.inr ⟨_,rfl,?_⟩⟩
    have pick:∃ m1:Int,atI [V.int 8,.int 60] (if decide (V.int (i:Int)=V.int 0)=true then 1 else 0)=some (.int m1)∧1≤m1∧m1≤60:=by
      cases decide (V.int (i:Int)=V.int 0)
      · exact ⟨8,rfl,by decide,by decide⟩
      · exact ⟨60,rfl,by decide,by decide⟩
    obtain ⟨m1,pe,m1a,m1b⟩:=pick
    refine ⟨r6,_,_,_,rfl,rfl,SqL.of upd_same,pe,?_⟩
    have kk:=(Kd.refl dk).same s6
    show (fun HH=>_) (upd H3 r6 (.lst [.int 8,.int 60]))
    generalize upd H3 r6 (.lst [.int 8,.int 60])=J6 at kk
    clear pe s6
    refine ⟨p1,m1,2560,rfl,kk.deck,by decide,by decide,m1a,m1b,fun t ups lab H5 kd5 tr5 low5=>?_⟩
    have k5:=(kk.trans kd5).mono (show (2560:Int)+250≤2810 by decide)
    obtain ⟨_,_,_,ok⟩:=id tr5
    have m60:=ok.most
    have lpos:=ok.pos
    refine ⟨_,rfl,t,ups,lab,rfl,tr5,fun r7 H6 s6 hr7=>?_⟩
    have k6:=k5.same s6
    have tr6:=tr5.same s6
    have wll:(wordsV ups lab ups.length).length=ups.length:=by simp [wordsV]
    have wsl:=wordsS_len ups lab
    rw [wordsV_S] at hr7
    have hr7p:r7≠p1:=ne_deck k6.deck hr7 (lst_strs_ne (fun v hv=>by obtain ⟨z,_,e⟩:=List.mem_map.mp hv;exact ⟨z,e.symm⟩) (by rw [List.length_map];omega))
    clear kk kd5 k5 tr5 s6
    refine ⟨_,rfl,_,rfl,p1,r7,_,wordsS ups lab,rfl,k6.deck,by decide,by decide,hr7,by omega,by omega,fun z hz=>?_,fun z hz=>?_,fun word H7 kd7 w60 wlo=>?_⟩
    · obtain ⟨j,hj,rfl⟩:=List.mem_map.mp hz
      have jl:=List.mem_range.mp hj
      have:=W_len ok (j+1) j (Nat.lt_succ_self _) jl
      rw [mk_len];omega
    · obtain ⟨j,hj,rfl⟩:=List.mem_map.mp hz
      have jl:=List.mem_range.mp hj
      rw [mk_cps]
      exact W_low ok low5 (j+1) j (Nat.lt_succ_self _) jl
    have k7:=(k6.trans kd7).mono (show (2810:Int)+20≤2830 by decide)
    have tr7:=tr6.kd k6.deck kd7
    have hr7':=kd7.keep _ _ hr7p hr7
    rw [← wordsV_S] at hr7'
    clear k6 kd7 tr6 hr7
    refine ⟨_,rfl,.lst r7,rfl,⟨_,.inl hr7'⟩,fun acc hacc=>?_⟩
    refine comp_enum (xs:=wordsV ups lab ups.length) (by omega) (fun j ys HY=>HY acc=some (.lst ys)∧Same H7 HY∧∃ as:List Addr,ys=as.map V.ref∧RowsAt (Kw ups lab) HY as (js ups lab word j))
      (fun j ys HY h=>.inl (h.2.1 _ _ hr7')) (fun j ys HY h=>⟨h.1,by obtain ⟨_,_,as,rfl,ra,_⟩:=h;rw [List.length_map,ra];exact js_le _ _ _ _⟩) ⟨upd_same,(Same.refl H7).new hacc,[],rfl,rfl,fun m hm=>absurd hm (Nat.not_lt_zero _)⟩ ?_ ?_
    rotate_left
    · rintro j x ys HY pp hx ⟨g1,g3,as,rfl,ra⟩ hpp
      have jl:j < ups.length:=by
        have:=(List.getElem?_eq_some_iff.mp hx).1
        omega
      have ex:x=.str (mk (W ups lab.cps.toList j)):=by
        unfold wordsV at hx
        rw [List.getElem?_map,List.getElem?_range jl] at hx
        exact (Option.some.inj hx).symm
      subst ex
      have sP:Same HY (upd HY pp (.tup [.int (j:Int),.str (mk (W ups lab.cps.toList j))])):=(Same.refl HY).new hpp
      refine ⟨pp,_,rfl,SqT.of upd_same,rfl,_,_,rfl,_,_,rfl,rfl,?_⟩
      refine ⟨rfl,?_⟩
      have g1':=sP _ _ g1
      have g3':=g3.trans sP
      have ra':=ra.keep (fun b xs e=>sP _ _ e)
      show (fun HH=>_) (upd HY pp (.tup [.int (j:Int),.str (mk (W ups lab.cps.toList j))]))
      generalize upd HY pp (.tup [.int (j:Int),.str (mk (W ups lab.cps.toList j))])=HZ at g1' g3' ra'
      clear ra g1 g3 sP
      refine ⟨_,rfl,rfl,_,rfl,_,_,rfl,rfl,_,rfl,?_⟩
      refine ite2 (fun c=>?_) (fun c=>?_)
      · refine ⟨_,rfl,_,rfl,(by show 2≤sizeLine;decide),fun qq hqq=>?_⟩
        have sQ:Same HZ (upd HZ qq (.tup [.str (mk (W ups lab.cps.toList j)),.int (j:Int)])):=(Same.refl HZ).new hqq
        have gq:upd HZ qq (.tup [.str (mk (W ups lab.cps.toList j)),.int (j:Int)]) qq=some (.tup (Kw ups lab j)):=upd_same
        have g1q:=sQ _ _ g1'
        have raq:=(ra'.keep (fun b xs e=>sQ _ _ e)).push gq
        have sT:=g3'.trans sQ
        show (fun HH=>_) (upd HZ qq (.tup [.str (mk (W ups lab.cps.toList j)),.int (j:Int)]))
        generalize upd HZ qq (.tup [.str (mk (W ups lab.cps.toList j)),.int (j:Int)])=HQ at sQ gq g1q raq sT
        refine ⟨g1q,upd_same,sT.write hacc,as++[qq],by rw [List.map_append];rfl,?_⟩
        rw [js_succ,if_pos (show stB ups lab word j=true from c)]
        exact raq.keep fun b xs e=>by rw [upd_ne (ne_of e g1q (by intro z;cases z))];exact e
      · refine ⟨g1',g3',as,rfl,?_⟩
        rw [js_succ,if_neg (show ¬ stB ups lab word j=true from c),List.append_nil]
        exact ra'
    rintro ys H8 ⟨g1,g3,as,rfl,ra⟩
    rw [wll] at ra
    have jle:=js_le ups lab word ups.length
    refine ⟨acc,as,fun i=>Kw ups lab ((js ups lab word ups.length).getD i 0),[2,1],rfl,SqL.of g1,by rw [ra.1];omega,fun i b e=>?_,by rw [ra.1];exact keys_js _ _ _ _,fun pm l hpm hrise hl=>?_⟩
    · have il:=(List.getElem?_eq_some_iff.mp e).1
      have:=ra.2 i (by rw [← ra.1];exact il)
      rw [List.getD_eq_getElem?_getD,e] at this
      exact SqT.of this
    rw [ra.1] at hpm hrise
    have dok:=due_ok hpm hrise
    have pl:pm.length=(js ups lab word ups.length).length:=by have:=hpm.length_eq;simpa using this
    have due:DueAt (upd H8 l (.lst ((pm.map fun i=>as.getD i 0).map V.ref))) l ups lab (pm.map fun i=>(js ups lab word ups.length).getD i 0):=by
      refine ⟨_,upd_same,by rw [List.length_map,List.length_map],fun i hi=>?_⟩
      rw [List.length_map] at hi
      rw [map_getD (x:=0) hi,map_getD (x:=0) hi]
      have im:pm.getD i 0 < (js ups lab word ups.length).length:=by
        rw [getD_lt hi]
        exact List.mem_range.mp (hpm.mem_iff.mp (List.getElem_mem hi))
      have:=ra.2 _ im
      rw [upd_ne (ne_of_none this hl)]
      exact this
    have k9:Kd p1 2830 H3 (upd H8 l (.lst ((pm.map fun i=>as.getD i 0).map V.ref))):=(k7.same g3).new hl
    have lp1:l≠p1:=(k7.same g3).deck.ne hl
    have tr9:TreeAt (upd H8 l (.lst ((pm.map fun i=>as.getD i 0).map V.ref))) t ups lab:=tr7.same (g3.new hl)
    show (fun HH=>_) (upd H8 l (.lst ((pm.map fun i=>as.getD i 0).map V.ref)))
    generalize upd H8 l (.lst ((pm.map fun i=>as.getD i 0).map V.ref))=H9 at due k9 tr9
    generalize (pm.map fun i=>(js ups lab word ups.length).getD i 0)=ds at due dok
    clear g1 g3 ra hpm hrise pl hl k7 tr7 hr7' hacc jle
    have dlen:=dok.len
    have d60:ds.length≤60:=by
      have:=dok.perm.length_eq
      have h2:=List.length_filter_le (stB ups lab word) (List.range ups.length)
      rw [List.length_range] at h2
      omega
    obtain ⟨dx,hdx,dxl,_⟩:=due.item
    refine ⟨_,rfl,l,_,rfl,.inl (SqL.of hdx),_,rfl,_,rfl,l,_,rfl,.inl (SqL.of hdx),_,_,rfl,rfl,_,_,rfl,rfl,_,rfl,l,_,rfl,.inl (SqL.of hdx),_,rfl,_,_,rfl,rfl,⟨by decide,by decide,by decide⟩,p1,_,2830,rfl,k9.deck,by decide,by decide,by decide,fun n1 H10 a0 a1 kd10=>?_⟩
    refine ⟨_,_,rfl,rfl,_,_,rfl,rfl,⟨by decide,by decide,by decide⟩,_,_,rfl,rfl,(by show 5≤sizeLine;decide),fun r10 hr10=>?_⟩
    clear a1
    generalize hJ:upd H10 r10 _=J10
    have s10:Same H10 J10:=by rw [← hJ];exact (Same.refl H10).new hr10
    have g10:∃ xs1:List V,J10 r10=some (.lst xs1)∧xs1.length=5∧∀ x∈xs1,Odd J10 p1 (ds.length:Int) x:=by
      rw [← hJ]
      refine ⟨_,upd_same,rfl,fun x hx=>?_⟩
      simp only [List.mem_cons,List.not_mem_nil,or_false] at hx
      rcases hx with rfl | rfl | rfl | rfl | rfl
      · exact odd_int (.inr (by omega))
      · exact odd_int (.inl (by decide))
      · exact odd_int (.inl (by omega))
      · exact odd_int (.inr (by omega))
      · exact odd_int (.inl ten59n)
    clear hJ
    have r10p:r10≠p1:=kd10.deck.ne hr10
    have k10:Kd p1 2831 H9 J10:=(kd10.same s10).mono (by decide)
    obtain ⟨xs1,g10,x1l,odd1⟩:=g10
    clear kd10 s10 a0
    refine ⟨_,rfl,_,rfl,_,_,rfl,rfl,⟨by decide,by decide,by decide⟩,p1,_,2831,rfl,k10.deck,by decide,ten590,ten59,fun n2 H11 b0 b1 kd11=>?_⟩
    clear b1
    refine ⟨_,_,rfl,rfl,(by show 1≤sizeLine;decide),fun e1 he1=>?_⟩
    have e1p:e1≠p1:=kd11.deck.ne he1
    generalize hJ:upd H11 e1 _=J1
    have s1:Same H11 J1:=by rw [← hJ];exact (Same.refl H11).new he1
    have g1:J1 e1=some (.lst [.int 0]):=by rw [← hJ];exact upd_same
    clear hJ
    have dk1:=(kd11.same s1).deck
    refine ⟨(by show 1≤sizeLine;decide),fun e2 he2=>?_⟩
    have e2p:e2≠p1:=dk1.ne he2
    generalize hJ:upd J1 e2 _=J2
    have s2:Same J1 J2:=by rw [← hJ];exact (Same.refl J1).new he2
    have g2:J2 e2=some (.tup [.int 0]):=by rw [← hJ];exact upd_same
    clear hJ
    have dk2:=(kd11.same (s1.trans s2)).deck
    refine fun e3 he3=>?_
    have e3p:e3≠p1:=dk2.ne he3
    generalize hJ:upd J2 e3 _=J3
    have s3:Same J2 J3:=by rw [← hJ];exact (Same.refl J2).new he3
    have g3:J3 e3=some (.dK []):=by rw [← hJ];exact upd_same
    clear hJ
    have dk3:=(kd11.same ((s1.trans s2).trans s3)).deck
    refine ⟨(by show 0≤sizeLine;decide),fun e4 he4=>?_⟩
    have e4p:e4≠p1:=dk3.ne he4
    generalize hJ:upd J3 e4 _=J4
    have s4:Same J3 J4:=by rw [← hJ];exact (Same.refl J3).new he4
    have g4:J4 e4=some (.lst []):=by rw [← hJ];exact upd_same
    clear hJ
    have dk4:=(kd11.same (((s1.trans s2).trans s3).trans s4)).deck
    refine ⟨(by show 0≤sizeLine;decide),fun e5 he5=>?_⟩
    have e5p:e5≠p1:=dk4.ne he5
    generalize hJ:upd J4 e5 _=J5
    have s5:Same J4 J5:=by rw [← hJ];exact (Same.refl J4).new he5
    have g5:J5 e5=some (.tup []):=by rw [← hJ];exact upd_same
    clear hJ
    have kd5:=kd11.same ((((s1.trans s2).trans s3).trans s4).trans s5)
    refine ⟨(by show 11≤sizeLine;decide),fun r11 hr11=>?_⟩
    generalize hJ:upd J5 r11 _=J11
    have s11:Same J5 J11:=by rw [← hJ];exact (Same.refl J5).new hr11
    have g11:∃ xs2:List V,J11 r11=some (.lst xs2)∧xs2.length=11∧∀ x∈xs2,Odd J11 p1 (ds.length:Int) x:=by
      rw [← hJ] at s11 ⊢
      refine ⟨_,upd_same,rfl,fun x hx=>?_⟩
      simp only [List.mem_cons,List.not_mem_nil,or_false] at hx
      rcases hx with rfl | rfl | rfl | rfl | rfl | rfl | rfl | rfl | rfl | rfl | rfl
      · exact odd_int (.inr (by omega))
      · exact ⟨.bl _,(fun z=>by cases z),rfl⟩
      · exact ⟨.bl _,(fun z=>by cases z),rfl⟩
      · exact ⟨.non,(fun z=>by cases z),rfl⟩
      · exact ⟨.str _,(fun z=>by cases z),rfl⟩
      · exact ⟨.str _,(fun z=>by cases z),rfl⟩
      · exact ⟨.lst (s11 _ _ (s5 _ _ (s4 _ _ (s3 _ _ (s2 _ _ g1))))),(fun z=>e1p (by injection z)),rfl⟩
      · exact ⟨.tup (s11 _ _ (s5 _ _ (s4 _ _ (s3 _ _ g2)))),(fun z=>e2p (by injection z)),rfl⟩
      · exact ⟨.dct (s11 _ _ (s5 _ _ (s4 _ _ g3))),(fun z=>e3p (by injection z)),rfl⟩
      · exact ⟨.lst (s11 _ _ (s5 _ _ g4)),(fun z=>e4p (by injection z)),rfl⟩
      · exact ⟨.tup (s11 _ _ g5),(fun z=>e5p (by injection z)),rfl⟩
    clear hJ
    obtain ⟨xs2,g11,x2l,odd2⟩:=g11
    have k11:=kd5.same s11
    have g10':=k11.keep _ _ r10p g10
    clear s1 s2 s3 s4 s5 g1 g2 g3 g4 g5 dk1 dk2 dk3 dk4 he1 he2 he3 he4 he5 e1p e2p e3p e4p e5p kd5 kd11 s11 b0
    refine ⟨r10,r11,_,_,rfl,rfl,g10',g11,by rw [x1l,x2l];decide,fun r12 hr12=>?_⟩
    have r12p:r12≠p1:=k11.deck.ne hr12
    have s12:Same J11 (upd J11 r12 (.lst (xs1++xs2))):=(Same.refl J11).new hr12
    have g12:upd J11 r12 (.lst (xs1++xs2)) r12=some (.lst (xs1++xs2)):=upd_same
    show (fun HH=>_) (upd J11 r12 (.lst (xs1++xs2)))
    generalize upd J11 r12 (.lst (xs1++xs2))=J12 at s12 g12
    have odd:∀ x∈xs1++xs2,Odd J12 p1 (ds.length:Int) x:=fun x hx=>by
      rcases List.mem_append.mp hx with hx | hx
      · exact ((odd1 x hx).kd k11).same s12
      · exact (odd2 x hx).same s12
    have olen:(xs1++xs2).length=16:=by rw [List.length_append,x1l,x2l]
    have k12:=(k10.trans (k11.same s12)).mono (show (2831:Int)+1≤2832 by decide)
    generalize xs1++xs2=xo at g12 odd olen
    clear g10' g11 odd1 odd2 x1l x2l s12 k11 k10 g10 r10p hr12 hr11 hr10
    have due12:=due.kd ⟨_,k9.deck⟩ lp1 k12
    have tr12:=tr9.kd k9.deck k12
    have hdx12:=k12.keep _ _ lp1 hdx
    refine ⟨_,rfl,l,_,rfl,.inl (SqL.of hdx12),_,rfl,l,_,rfl,.inl (SqL.of hdx12),_,_,rfl,rfl,⟨by decide,by decide⟩,_,_,rfl,rfl,0,(dx.length:Int),1+(dx.length:Int) / 4,rfl,⟨by decide,by decide,by omega,by omega,by omega,by omega⟩,fun r13 hr13=>?_⟩
    have cp:(0:Int) < 1+(dx.length:Int) / 4:=by omega
    have st:∀ x∈stepV 0 (1+(dx.length:Int) / 4) (stepN 0 (dx.length:Int) (1+(dx.length:Int) / 4)),∃ j:Int,x=.int j∧0≤j∧(0 < ds.length→j < (ds.length:Int)):=fun x hx=>by
      obtain ⟨j,hj,rfl⟩:=List.mem_map.mp hx
      have h1:=step_lt cp (List.mem_range.mp hj)
      have h2:0≤(j:Int) * (1+(dx.length:Int) / 4):=Int.mul_nonneg (by omega) (by omega)
      exact ⟨_,rfl,by omega,fun _=>by omega⟩
    have sl:=step_le (lo:=0) (hi:=(dx.length:Int)) cp
    have sl2:(stepV 0 (1+(dx.length:Int) / 4) (stepN 0 (dx.length:Int) (1+(dx.length:Int) / 4))).length≤60:=by
      rw [List.length_map,List.length_range]
      split at sl <;> omega
    generalize stepV 0 (1+(dx.length:Int) / 4) (stepN 0 (dx.length:Int) (1+(dx.length:Int) / 4))=sv at st sl2
    clear sl cp
    have r13p:r13≠p1:=k12.deck.ne hr13
    have k13:=k12.new (o:=.lst sv) hr13
    have g13:upd J12 r13 (.lst sv) r13=some (.lst sv):=upd_same
    have s13:Same J12 (upd J12 r13 (.lst sv)):=(Same.refl J12).new hr13
    show (fun HH=>_) (upd J12 r13 (.lst sv))
    generalize upd J12 r13 (.lst sv)=J13 at k13 g13 s13
    refine ⟨_,rfl,_,rfl,l,_,rfl,.inl (SqL.of (s13 _ _ hdx12)),_,_,rfl,p1,_,_,rfl,k13.deck,by decide,?_,?_,fun n3 H14 c0 c1 kd14=>?_⟩
    · split <;> omega
    · split <;> omega
    have c2:0 < ds.length→n3 < (ds.length:Int):=fun _=>by split at c1 <;> omega
    clear c1
    refine ⟨(by show 1≤sizeLine;decide),fun r14 hr14=>?_⟩
    have s14:Same H14 (upd H14 r14 (.lst [.int n3])):=(Same.refl H14).new hr14
    have g14:upd H14 r14 (.lst [.int n3]) r14=some (.lst [.int n3]):=upd_same
    have k14:=kd14.same s14
    have g13':=k14.keep _ _ r13p g13
    have kA:=k13.trans k14
    have kB:=(Kd.refl k12.deck).same s13 |>.trans k14
    show (fun HH=>_) (upd H14 r14 (.lst [.int n3]))
    generalize upd H14 r14 (.lst [.int n3])=J14 at s14 g14 k14 g13' kA kB
    refine ⟨r13,r14,_,_,rfl,rfl,g13',g14,?_,fun r15 hr15=>?_⟩
    · show sv.length+1≤sizeLine
      exact Nat.le_of_lt (small1000 (by omega))
    have ki:∀ x∈sv++[V.int n3],∃ j:Int,x=.int j∧0≤j∧(0 < ds.length→j < (ds.length:Int)):=fun x hx=>by
      rcases List.mem_append.mp hx with hx | hx
      · exact st x hx
      · have:x=.int n3:=by simpa using hx
        exact ⟨n3,this,c0,c2⟩
    have s15:Same J14 (upd J14 r15 (.lst (sv++[V.int n3]))):=(Same.refl J14).new hr15
    have g15:upd J14 r15 (.lst (sv++[V.int n3])) r15=some (.lst (sv++[V.int n3])):=upd_same
    have r15p:r15≠p1:=kB.deck.ne hr15
    show (fun HH=>_) (upd J14 r15 (.lst (sv++[V.int n3])))
    generalize upd J14 r15 (.lst (sv++[V.int n3]))=J15 at s15 g15
    generalize sv++[V.int n3]=ks at ki g15
    have kC:=kB.same s15
    have tr15:=tr12.kd k12.deck kC
    have due15:=due12.kd ⟨_,k12.deck⟩ lp1 kC
    have hdx15:=kC.keep _ _ lp1 hdx12
    have g12':=kC.keep _ _ r12p g12
    have odd15:=fun x hx=>(odd x hx).kd kC
    have kD:=(k9.trans k12).trans kC
    clear s15 s14 g14 k14 g13' kA kB s13 g13 k13 kd14 st c0 c2 tr12 tr9 due due12 hdx hdx12 g12 odd k12 k9 kC hr15 hr14 hr13 r13p sl2
    refine ⟨_,rfl,_,rfl,l,_,rfl,.inl (SqL.of hdx15),_,rfl,r15,_,rfl,SqL.of g15,fun r16 hr16=>?_⟩
    have s16:Same J15 (upd J15 r16 (.lst (cutV ks none (some (dx.length:Int))))):=(Same.refl J15).new hr16
    have g16:upd J15 r16 (.lst (cutV ks none (some (dx.length:Int)))) r16=some (.lst (cutV ks none (some (dx.length:Int)))):=upd_same
    have r16p:r16≠p1:=kD.deck.ne hr16
    show (fun HH=>_) (upd J15 r16 (.lst (cutV ks none (some (dx.length:Int)))))
    generalize upd J15 r16 (.lst (cutV ks none (some (dx.length:Int))))=G at s16 g16
    have kG:=kD.same s16
    have trG:=tr15.same s16
    have dj:∃ c,Deck G p1 c:=⟨_,kG.deck⟩
    have dueG:DueAt G l ups lab ds:=by
      obtain ⟨bs,u1,u2,u3⟩:=due15
      exact ⟨bs,s16 _ _ u1,u2,fun i hi=>s16 _ _ (u3 i hi)⟩
    have gO:=s16 _ _ g12'
    have oddG:=fun x hx=>(odd15 x hx).same s16
    have LG:Lams ls G:=Lams.kd kt3.lam ⟨_,dk⟩ kG
    have cutm:∀ x∈cutV ks none (some (dx.length:Int)),∃ j:Int,x=.int j∧0≤j∧j < (ds.length:Int):=fun x hx=>by
      obtain ⟨j,e,j0,j1⟩:=ki x (List.mem_of_mem_drop (List.mem_of_mem_take hx))
      refine ⟨j,e,j0,j1 ?_⟩
      have:=cut_pos hx
      omega
    generalize cutV ks none (some (dx.length:Int))=cs at g16 cutm
    clear tr15 due15 hdx15 g12' odd15 s16 kD hr16
    have eos:∀ {os:List Nat} (kk:Int),OrderOk ups lab os→0≤kk→kk < (ds.length:Int)→os.getD ((lss (wordsS ups lab) word).length+kk.toNat) 0=ds.getD kk.toNat 0:=fun {os} kk oo k0 k1=>by
      rw [lss_len,order_part oo dok.perm dok.rise (by omega)]
    have bel:∀ kk:Int,0≤kk→kk < (ds.length:Int)→below (.int kk) ((cntS (wordsS ups lab) word).length:Int)=false→False:=fun kk k0 k1 eb=>by
      have:below (.int kk) ((cntS (wordsS ups lab) word).length:Int)=true:=by
        show (decide (0≤kk) && decide (kk < _))=true
        rw [decide_eq_true k0,decide_eq_true (show kk < _ by omega)];rfl
      rw [this] at eb;cases eb
    refine ⟨r16,rfl,⟨_,SqL.of g16⟩,?_⟩
    refine for_list (K:=K) (xs:=cs) (fun j σ HX=>∃ o10:Option V,σ=[some (.ref a),some (.int i),some (.int cell),some (.ref p1),some (.ref t),some (.ref r7),some (.str word),some (.ref l),some (.ref r12),some (.ref r15),o10]∧∃ c:Int,c≤2900∧Ph ls p1 c G HX) ⟨_,rfl,_,by decide,Ph.refl LG kG.deck⟩ (fun j σ HX _ h=>by obtain ⟨_,_,_,_,ph⟩:=h;exact SqL.of (ph.lst r16p g16)) ?_ ?_
    · rintro j x σ HX hx ⟨o10',rfl,c,cle,ph⟩
      obtain ⟨kk,rfl,k0,k1⟩:=cutm x (List.mem_of_getElem? hx)
      refine ⟨_,rfl,_,rfl,_,rfl,t,ups,lab,word,.int kk,rfl,ph.tree dj trG,ph.lam,.int kk,fun i2 ei i0 i1 os H2 oo kt2=>?_,fun eb=>(bel kk k0 k1 eb).elim⟩
      cases ei
      have ph2:=ph.kt kt2
      rw [eos kk oo k0 k1]
      obtain ⟨xs2,hx2,xl2,it⟩:=(dueG.ph dj lp1 ph2).item
      obtain ⟨b,at1,hb⟩:=it kk k0 k1
      exact ⟨_,rfl,_,rfl,l,_,_,_,rfl,rfl,SqL.of hx2,at1,b,_,_,_,rfl,rfl,SqT.of hb,rfl,((ds.getD kk.toNat 0:Nat):Int),rfl,_,rfl,iteF ⟨_,rfl,c,cle,ph2⟩⟩
    rintro σ HX ⟨o10',rfl,c,cle,ph⟩
    obtain ⟨xs2,hx2,xl2,_⟩:=(dueG.ph dj lp1 ph).item
    refine ⟨_,rfl,l,_,rfl,.inl (SqL.of hx2),_,rfl,_,rfl,_,rfl,p1,c,ph.deck,by omega,.inl ⟨r12,xo,rfl,ph.lst r12p gO,r12p,by omega,by omega,fun v1 HA hv1 kdA=>?_⟩⟩
    have phA:=ph.kd kdA
    refine ⟨_,rfl,_,rfl,p1,c+1,phA.deck,by omega,.inl ⟨r12,xo,rfl,phA.lst r12p gO,r12p,by omega,by omega,fun v2 HB hv2 kdB=>?_⟩⟩
    have phB:=phA.kd kdB
    refine ⟨(by show 4≤sizeLine;decide),fun r17 hr17=>?_⟩
    have r17p:r17≠p1:=phB.deck.ne hr17
    have hnG:G r17=none:=phB.here _ hr17
    have s17:Same HB (upd HB r17 (.lst [.int (xs2.length:Int),.int (-1),v1,v2])):=(Same.refl HB).new hr17
    have g17:upd HB r17 (.lst [.int (xs2.length:Int),.int (-1),v1,v2]) r17=some (.lst [.int (xs2.length:Int),.int (-1),v1,v2]):=upd_same
    show (fun HH=>_) (upd HB r17 (.lst [.int (xs2.length:Int),.int (-1),v1,v2]))
    generalize upd HB r17 (.lst [.int (xs2.length:Int),.int (-1),v1,v2])=HC at s17 g17
    have phC:=phB.same s17
    clear phA phB s17 kdA kdB ph
    have od:∀ x∈[V.int (xs2.length:Int),.int (-1),v1,v2],Odd G p1 (ds.length:Int) x:=fun x hx=>by
      simp only [List.mem_cons,List.not_mem_nil,or_false] at hx
      rcases hx with rfl | rfl | rfl | rfl
      · exact odd_int (.inr (by omega))
      · exact odd_int (.inl (by decide))
      · exact oddG _ hv1
      · exact oddG _ hv2
    generalize [V.int (xs2.length:Int),.int (-1),v1,v2]=vs at g17 od
    refine ⟨r17,rfl,⟨_,SqL.of g17⟩,?_⟩
    refine for_list (K:=K) (xs:=vs) (fun j σ HX=>∃ o10:Option V,σ=[some (.ref a),some (.int i),some (.int cell),some (.ref p1),some (.ref t),some (.ref r7),some (.str word),some (.ref l),some (.ref r12),some (.ref r15),o10]∧Ph ls p1 (c+1+1) G HX∧HX r17=some (.lst vs)) ⟨_,rfl,phC,g17⟩ (fun j σ HX _ h=>by obtain ⟨_,_,_,g⟩:=h;exact SqL.of g) ?_ ?_
    · rintro j x σ HX hx ⟨o10',rfl,ph,gv⟩
      obtain ⟨th,tn,tb⟩:=od x (List.mem_of_getElem? hx)
      refine ⟨_,rfl,_,rfl,_,rfl,t,ups,lab,word,x,rfl,ph.tree dj trG,ph.lam,ph.thg th tn,by rw [dlen];exact tb,fun H2 s2=>?_⟩
      exact ⟨_,rfl,iteF ⟨_,rfl,ph.same s2,s2 _ _ gv⟩⟩
    rintro σ HX ⟨o10',rfl,ph,_⟩
    have fin:∀ {HZ:Hp},Ph ls p1 (c+1+1) G HZ→Kt ls Hx HZ:=fun {HZ} ph=>⟨ph.lam,fun b o ho e=>ph.keep b o ho (ne_of_none e hxp) (kG.keep b o (ne_of_none e hxp) (kt3.keep b o ho e)),fun b e=>kt3.here b (kG.fresh (ph.here b e))⟩
    obtain ⟨xs3,hx3',xl3,_⟩:=(dueG.ph dj lp1 ph).item
    refine ⟨_,rfl,line_le (show 0≤1000 by omega),fun r18 hr18=>?_⟩
    have s18:Same HX (upd HX r18 (.lst [])):=(Same.refl HX).new hr18
    have g18:upd HX r18 (.lst []) r18=some (.lst []):=upd_same
    have ph18:=ph.same s18
    show (fun HH=>_) (upd HX r18 (.lst []))
    generalize upd HX r18 (.lst [])=HD at s18 g18 ph18
    refine ⟨l,r18,xs3,rfl,rfl,SqL.of (s18 _ _ hx3'),SqL.of g18,_,rfl,?_⟩
    by_cases d0:ds.length=0
    · have e0:xs3=[]:=List.eq_nil_of_length_eq_zero (by omega)
      rw [e0]
      exact iteF ⟨_,_,_,_,_,_,_,_,_,_,rfl,fin ph18⟩
    · have e0:(!xs3.isEmpty)=true:=by
        cases xs3 with
        | nil=>simp at xl3;omega
        | cons=>rfl
      rw [e0]
      refine iteT ?_
      have e1:((xs3.length:Nat):Int) - 1=((ds.length - 1:Nat):Int):=by omega
      refine ⟨_,rfl,_,rfl,_,rfl,l,_,rfl,.inl (SqL.of (s18 _ _ hx3')),_,_,rfl,rfl,t,ups,lab,word,_,rfl,ph18.tree dj trG,ph18.lam,.int _,fun i2 ei i0 i1 os H2 oo kt2=>?_,fun eb=>(bel _ (by omega) (by omega) eb).elim⟩
      cases ei
      have ph2:=ph18.kt kt2
      rw [eos _ oo (by omega) (by omega)]
      rw [e1]
      obtain ⟨xs4,b,hx4,xl4,at4,hb⟩:=(dueG.ph dj lp1 ph2).last (by omega)
      refine ⟨_,rfl,_,rfl,l,_,_,_,rfl,rfl,SqL.of hx4,at4,b,_,_,_,rfl,rfl,SqT.of hb,rfl,?_⟩
      rw [Int.toNat_natCast]
      refine ⟨rfl,?_⟩
      refine ⟨_,rfl,?_⟩
      simp only [decide_true,Bool.not_true]
      exact iteF ⟨_,_,_,_,_,_,_,_,_,_,rfl,fin ph2⟩
  rintro σ H' L'
  refine ⟨_,rfl,line_le (show 3≤1000 by omega),fun t1 ht1=>⟨line_le (show 2≤1000 by omega),fun t2 ht2=>?_⟩⟩
  refine ⟨t2,[-1,0,0],Str.ofString "aab", Str.ofString "a", .int 1,rfl,⟨t1,upd_same,by rw [upd_ne (ne_of_none upd_same ht2)];exact upd_same,aab_ok⟩,Lams.same (Lams.same L' ((Same.refl H').new ht1)) ((Same.refl _).new ht2),.int 1,fun i2 ei i0 i1 os H2 oo kt2=>?_,fun eb=>?_⟩
  · cases ei
    have e:=oo.one aab_order
    subst e
    have l0:(lss (wordsS [-1,0,0] (Str.ofString "aab")) (Str.ofString "a")).length=0:=by decide +kernel
    rw [l0]
    refine ⟨rfl,?_⟩
    have e2:decide (V.int (([0,1,2].getD (0+Int.toNat 1) 0:Nat):Int)=V.int 1)=true:=by decide +kernel
    rw [e2]
    exact q _
  · exfalso
    have:below (.int 1) ((cntS (wordsS [-1,0,0] (Str.ofString "aab")) (Str.ofString "a")).length:Int)=true:=by decide +kernel
    rw [this] at eb;cases eb
end
end S15
namespace S15
open PySem L2 W7
theorem df_mk {K:PySem.W.Frag} {h:Heap} {mg:Str→Option Value} {x:Str} {st:Stmt} {f:Addr} {oc:Value} {od an:Option Addr} {osl:Array (Option Value)} {kV doc pm cdv ct:Value} (X:K.In h) (G:h.Ns mainGlobals mg)
    (a:PySem.W.nsIn K mainGlobals x=some (some (.ref f))) (l:K.lookup f=some ⟨oc,od,.func (PySem.W.fnOf x x (defArgs st) (defBody st) (defScope st) .none kV doc pm an cdv ct),osl⟩) (c:PySem.W.codeIn K cdv x=true) (kk:PySem.W.keepIn K (.ref f)=true):Df K mg x st:=
  ⟨f,_,fun_mk l c kk,PySem.W.mg_of X G a⟩
def exs_mk {K:PySem.W.Frag} {h:Heap} {mg:Str→Option Value} (X:K.In h) (G:h.Ns mainGlobals mg) {UpError NoPlace NoNumber NoWord NoRows NoRuns NoCover NoText TooMany NoTries NoPattern NoLetter NoLeaf NoChange NoLine NoTree:Addr}
    (a_UpError:PySem.W.nsIn K mainGlobals "UpError" = some (some (.ref UpError)))
    (a_NoPlace:PySem.W.nsIn K mainGlobals "NoPlace" = some (some (.ref NoPlace)))
    (a_NoNumber:PySem.W.nsIn K mainGlobals "NoNumber" = some (some (.ref NoNumber)))
    (a_NoWord:PySem.W.nsIn K mainGlobals "NoWord" = some (some (.ref NoWord)))
    (a_NoRows:PySem.W.nsIn K mainGlobals "NoRows" = some (some (.ref NoRows)))
    (a_NoRuns:PySem.W.nsIn K mainGlobals "NoRuns" = some (some (.ref NoRuns)))
    (a_NoCover:PySem.W.nsIn K mainGlobals "NoCover" = some (some (.ref NoCover)))
    (a_NoText:PySem.W.nsIn K mainGlobals "NoText" = some (some (.ref NoText)))
    (a_TooMany:PySem.W.nsIn K mainGlobals "TooMany" = some (some (.ref TooMany)))
    (a_NoTries:PySem.W.nsIn K mainGlobals "NoTries" = some (some (.ref NoTries)))
    (a_NoPattern:PySem.W.nsIn K mainGlobals "NoPattern" = some (some (.ref NoPattern)))
    (a_NoLetter:PySem.W.nsIn K mainGlobals "NoLetter" = some (some (.ref NoLetter)))
    (a_NoLeaf:PySem.W.nsIn K mainGlobals "NoLeaf" = some (some (.ref NoLeaf)))
    (a_NoChange:PySem.W.nsIn K mainGlobals "NoChange" = some (some (.ref NoChange)))
    (a_NoLine:PySem.W.nsIn K mainGlobals "NoLine" = some (some (.ref NoLine)))
    (a_NoTree:PySem.W.nsIn K mainGlobals "NoTree" = some (some (.ref NoTree)))
    (q_NoNumber:PySem.W.excIn K NoNumber bmV "ValueError.__new__" = true)
    (ga_NoNumber:PySem.W.findIn K (.ref NoNumber) "__getattribute__" = some (some (.builtin "BaseException.__getattribute__")))
    (gn_NoNumber:PySem.W.findIn K (.ref NoNumber) "__getattr__" = some none)
    (cl_NoNumber:PySem.W.findIn K (.ref NoNumber) "__class__" = some (some (.builtin "object.__class__")))
    (ob_NoNumber:PySem.W.mroIn K NoNumber (.type "object")=some true)
    (be_NoNumber:PySem.W.mroIn K NoNumber (.type "BaseException")=some true)
    (cd_NoNumber:(PySem.W.clsIn K NoNumber).isSome=true)
    (u_NoNumber:PySem.W.exmOne K (.ref NoNumber) (.ref UpError)=some true)
    (gt:PySem.W.specialIn K (.builtin "object.__class__") "__get__" = some (some (.builtin "getset_descriptor.__get__")))
    (tk:PySem.W.takesIn K (.builtin "object.__class__")=some true)
    (n0:PySem.W.kitOne K (.ref NoNumber) (.ref NoNumber)=some true)
    (n1:PySem.W.kitOne K (.ref NoNumber) (.ref NoWord)=some false)
    (n2:PySem.W.kitOne K (.ref NoNumber) (.ref NoPattern)=some false)
    (nv:PySem.W.kitOne K (.ref NoNumber) (.type "ValueError")=some true)
    (n3:PySem.W.kitAny K (.ref NoNumber) ([NoPlace,NoRows,NoRuns,NoCover,NoText,TooMany,NoTries,NoLetter].map Value.ref)=some false)
    (n4:PySem.W.kitAny K (.ref NoNumber) ([NoLeaf,NoChange,NoLine,NoTree].map Value.ref)=some false):Exs K mg where
  c_UpError:=UpError
  m_UpError:=PySem.W.mg_of X G a_UpError
  c_NoPlace:=NoPlace
  m_NoPlace:=PySem.W.mg_of X G a_NoPlace
  c_NoNumber:=NoNumber
  m_NoNumber:=PySem.W.mg_of X G a_NoNumber
  c_NoWord:=NoWord
  m_NoWord:=PySem.W.mg_of X G a_NoWord
  c_NoRows:=NoRows
  m_NoRows:=PySem.W.mg_of X G a_NoRows
  c_NoRuns:=NoRuns
  m_NoRuns:=PySem.W.mg_of X G a_NoRuns
  c_NoCover:=NoCover
  m_NoCover:=PySem.W.mg_of X G a_NoCover
  c_NoText:=NoText
  m_NoText:=PySem.W.mg_of X G a_NoText
  c_TooMany:=TooMany
  m_TooMany:=PySem.W.mg_of X G a_TooMany
  c_NoTries:=NoTries
  m_NoTries:=PySem.W.mg_of X G a_NoTries
  c_NoPattern:=NoPattern
  m_NoPattern:=PySem.W.mg_of X G a_NoPattern
  c_NoLetter:=NoLetter
  m_NoLetter:=PySem.W.mg_of X G a_NoLetter
  c_NoLeaf:=NoLeaf
  m_NoLeaf:=PySem.W.mg_of X G a_NoLeaf
  c_NoChange:=NoChange
  m_NoChange:=PySem.W.mg_of X G a_NoChange
  c_NoLine:=NoLine
  m_NoLine:=PySem.W.mg_of X G a_NoLine
  c_NoTree:=NoTree
  m_NoTree:=PySem.W.mg_of X G a_NoTree
  q_NoNumber:=q_NoNumber
  z_NoNumber:=⟨ga_NoNumber,gn_NoNumber,cl_NoNumber,gt,tk,ob_NoNumber,be_NoNumber,cd_NoNumber⟩
  u_NoNumber:=u_NoNumber
  n0:=n0
  n1:=n1
  n2:=n2
  nv:=nv
  n3:=n3
  n4:=n4
theorem blt_mk {K:PySem.W.Frag} {h:Heap} {mg:Str→Option Value} (X:K.In h) (G:h.Ns mainGlobals mg)
    (z1:PySem.W.nsIn K mainGlobals "len" = some none) (z2:PySem.W.nsIn K mainGlobals "range" = some none) (z3:PySem.W.nsIn K mainGlobals "zip" = some none) (z4:PySem.W.nsIn K mainGlobals "enumerate" = some none)
    (z5:PySem.W.nsIn K mainGlobals "max" = some none) (z6:PySem.W.nsIn K mainGlobals "min" = some none) (z7:PySem.W.nsIn K mainGlobals "int" = some none) (z8:PySem.W.nsIn K mainGlobals "str" = some none)
    (z9:PySem.W.nsIn K mainGlobals "bool" = some none) (z10:PySem.W.nsIn K mainGlobals "list" = some none) (z11:PySem.W.nsIn K mainGlobals "tuple" = some none) (z12:PySem.W.nsIn K mainGlobals "isinstance" = some none):Blt mg:=
  ⟨PySem.W.mg_none_of X G z1,PySem.W.mg_none_of X G z2,PySem.W.mg_none_of X G z3,PySem.W.mg_none_of X G z4,PySem.W.mg_none_of X G z5,PySem.W.mg_none_of X G z6,PySem.W.mg_none_of X G z7,PySem.W.mg_none_of X G z8,
    PySem.W.mg_none_of X G z9,PySem.W.mg_none_of X G z10,PySem.W.mg_none_of X G z11,PySem.W.mg_none_of X G z12⟩
theorem all_ok {P:Program} {w:World} {K:PySem.W.Frag} {mg:Str→Option Value} {fa:Addr} (hfa:mg "law" = some (.ref fa)) (B:Blt7 mg)
    (d1:Df K mg "is_whole" s_is_whole) (d2:Df K mg "is_number_below" s_is_number_below) (d3:Df K mg "words_of" s_words_of) (d4:Df K mg "order_of" s_order_of) (d5:Df K mg "stretch_of" s_stretch_of) (d6:Df K mg "stretch_in" s_stretch_in) (d7:Df K mg "count_read" s_count_read) (d8:Df K mg "nth_place" s_nth_place) (d9:Df K mg "_law_mixed" s_law_mixed) (d10:Df K mg "_law_deck" s_law_deck) (d11:Df K mg "_law_draw" s_law_draw) (d12:Df K mg "_law_some" s_law_some) (d13:Df K mg "_law_letter" s_law_letter) (d14:Df K mg "_law_tree" s_law_tree) (d15:Df K mg "_law_words" s_law_words) (d16:Df K mg "_law_sought" s_law_sought) (d17:Df K mg "_law_whole" s_law_whole) (d18:Df K mg "_law_kind" s_law_kind) (d19:Df K mg "_law_refused" s_law_refused) (d20:Df K mg "law" s_law) (EX:Exs K mg) :
    ∃ fd:FuncData,(∀ (s:Shared) (v:Value),BindsTo s fd ⟨[v],[]⟩ [("script", v)])∧∀ (Ts:List Addr) (base:Heap),K.In base→Two (TabAt base mg) ["order_of"] Ts→FnOk P w K mg base CX0 12 fa fd ["script"] (sp_law (lamsOf Ts) K):=by
  obtain ⟨f,fd,F,m⟩:=d20
  have e:=hfa.symm.trans m
  cases e
  refine ⟨fd,?_,fun Ts base kb TT=>?_⟩
  · obtain ⟨oc,od,kV,doc,pm,an,cdv,ct,osl,rfl,_,_⟩:=F.ex
    exact fun s v=>.of_eq rfl
  cases TT with
  | cons TA1 TT2=>
    rename_i T1 _
    cases TT2
    have LK:LmOk (lamsOf [T1]):=lm_ok _
    have LI1:(T1,lpO,qO)∈lamsOf [T1]:=List.mem_cons_self ..
    have g_words:=has_words (P:=P) (w:=w) (base:=base) (k:=0) d3 B.toBlt
    have g_order:=has_order (k:=1) d4 B kb TA1 LK LI1 g_words
    have g_count:=has_count (P:=P) (w:=w) (base:=base) (k:=0) d7 B.toBlt
    have g_in:=has_in (k:=1) d6 B.toBlt g_count
    have g_stretch:=has_stretch (k:=2) d5 B.toBlt (g_words.mono (by decide)) g_in
    have g_iswhole:=has_iswhole (P:=P) (w:=w) (base:=base) (k:=0) d1 B
    have g_below:=has_below (k:=1) d2 B g_iswhole
    have g_nthp:=has_nthp (k:=3) EX d8 B g_stretch (g_below.mono (by decide)) (g_order.mono (by decide))
    have g_kind:=has_kind (P:=P) (w:=w) (base:=base) (k:=0) EX d18 B
    have g_refused:=has_refused (k:=4) EX d19 B g_nthp (g_kind.mono (by decide))
    have g_mixed:=has_mixed (P:=P) (w:=w) (base:=base) (k:=0) d9 B.toBlt
    have g_draw:=has_draw (k:=1) d11 B.toBlt g_mixed
    have g_drawL:=has_drawL (k:=1) d11 B.toBlt g_mixed
    have g_some:=has_some (k:=2) d12 B.toBlt g_draw
    have g_letter:=has_letter (k:=2) d13 B.toBlt g_draw
    have g_tree:=has_tree (k:=3) d14 B.toBlt (g_draw.mono (by decide)) g_some g_letter
    have g_deck:=has_deck (P:=P) (w:=w) (base:=base) (k:=0) d10 B.toBlt
    have g_lwords:=has_lwords (P:=P) (w:=w) (base:=base) (k:=0) d15 B.toBlt
    have g_whole:=has_whole (P:=P) (w:=w) (base:=base) (k:=0) d17 B.toBlt
    have g_sought:=has_sought (k:=3) d16 B.toBlt (g_draw.mono (by decide)) g_some g_letter
    exact (ok_law (k:=5) EX F B (g_deck.mono (by decide)) (g_some.mono (by decide)) (g_tree.mono (by decide)) (g_lwords.mono (by decide)) (g_sought.mono (by decide)) (g_draw.mono (by decide)) (g_drawL.mono (by decide)) (g_whole.mono (by decide)) (g_nthp.mono (by decide)) g_refused).mono (by decide)
end S15
def PySem.W.Fast.tw13258862199492081940 : Nat := 0
def PySem.W.Fast.tw10101551316934249289 : Nat := 0
def PySem.W.Fast.tw12235287641676315641 : Nat := 0
def PySem.W.Fast.tw2165655274529825087 : Nat := 0
def PySem.W.Fast.tw17156031355912566839 : Nat := 0
def PySem.W.Fast.tw1385402642087584410 : Nat := 0
def PySem.W.Fast.tw17990885835635925411 : Nat := 0
def PySem.W.Fast.tw16790821872659467047 : Nat := 0
def PySem.W.Fast.tw2077228863759679794 : Nat := 0
def PySem.W.Fast.tw2612416335230499296 : Nat := 0
def PySem.W.Fast.tw16983511196791068285 : Nat := 0
def PySem.W.Fast.tw1412308263856418895 : Nat := 0
def PySem.W.Fast.tw14045664502407259749 : Nat := 0
def PySem.W.Fast.tw6051734719192392860 : Nat := 0
def PySem.W.Fast.tw9908869063275586758 : Nat := 0
def PySem.W.Fast.tw5707056564715759422 : Nat := 0
def PySem.W.Fast.tw3636986234565035669 : Nat := 0
def PySem.W.Fast.tw10230697908080983625 : Nat := 0
def PySem.W.Fast.tw6542599155955491993 : Nat := 0
def PySem.W.Fast.tw4592826917559809527 : Nat := 0
def PySem.W.Fast.tw2279479898172912744 : Nat := 0
def PySem.W.Fast.tw38295267856578731 : Nat := 0
def PySem.W.Fast.tw10380721299166552866 : Nat := 0
def PySem.W.Fast.tw1381960995193916503 : Nat := 0
def PySem.W.Fast.tw3940535580429537188 : Nat := 0
def PySem.W.Fast.tw11795844680881953513 : Nat := 0
def PySem.W.Fast.tw15639428472457265847 : Nat := 0
def PySem.W.Fast.tw6808227868215394139 : Nat := 0
def PySem.W.Fast.tw8567732357721429538 : Nat := 0
def PySem.W.Fast.tw14340021452301601048 : Nat := 0
def PySem.W.Fast.tw17756805128916534221 : Nat := 0
def PySem.W.Fast.tw8911940010594009802 : Nat := 0
def PySem.W.Fast.tw3195722337794169912 : Nat := 0
def PySem.W.Fast.tw12004279022301866052 : Nat := 0
def PySem.W.Fast.tw6761331759854346525 : Nat := 0
def PySem.W.Fast.tw11009505136117495731 : Nat := 0
def PySem.W.Fast.tw9271173282307707343 : Nat := 0
open PySem PySem.W PyProof.Rows
set_option maxRecDepth 100000 in
set_option maxHeartbeats 0 in
theorem PySem.Challenge.cw_upwords_k15_places_by_rank_holds : PySem.Challenge.rw_upwords_k15_places_by_rank.Holds := by
  w_on; o_law; k_head; (case hw => w_witness2)
  k_fill
  refine L2.walk_ofT (l := PySem.Challenge.rw_upwords_k15_places_by_rank) (n := 63) (k := 12) (x := "script") (nms := ["order_of"]) (CX := L2.CX0) (sp := fun Ts => S15.sp_law (S15.lamsOf Ts)) rfl (by decide) rfl ⟨rfl, by decide, by decide, rfl⟩ (fun w h Y => PySem.W.km_in_of Y) (.cons rfl .nil) (fun w => by kernel_rfl) ?F
    (fun K Ts H a ns hl hlen hT hS => ⟨a, ns, rfl, hS, hl, S15.lams_start hlen hT, fun _ => rfl⟩) (fun _ _ _ _ z => z)
  case F =>
    intro w mg fa h KX G hmg
    have B : L2.Blt mg := by
      refine' S15.blt_mk KX G ?z1 ?z2 ?z3 ?z4 ?z5 ?z6 ?z7 ?z8 ?z9 ?z10 ?z11 ?z12
      (case z1 => k_is); (case z2 => k_is); (case z3 => k_is); (case z4 => k_is); (case z5 => k_is); (case z6 => k_is); (case z7 => k_is); (case z8 => k_is); (case z9 => k_is); (case z10 => k_is); (case z11 => k_is); (case z12 => k_is)
    have Bx0 : mg "sorted" = none := by
      refine' PySem.W.mg_none_of KX G ?z
      (case z => k_is)
    have Bx1 : mg "ValueError" = none := by
      refine' PySem.W.mg_none_of KX G ?z
      (case z => k_is)
    have d1 : L2.Df (L2.KOf KX) mg "is_whole" S15.s_is_whole := by
      dsimp only [L2.KOf]; refine' S15.df_mk KX G ?a ?l ?c ?k
      (case a => k_is); (case l => k_is); (case c => k_is); (case k => k_is)
    have d2 : L2.Df (L2.KOf KX) mg "is_number_below" S15.s_is_number_below := by
      dsimp only [L2.KOf]; refine' S15.df_mk KX G ?a ?l ?c ?k
      (case a => k_is); (case l => k_is); (case c => k_is); (case k => k_is)
    have d3 : L2.Df (L2.KOf KX) mg "words_of" S15.s_words_of := by
      dsimp only [L2.KOf]; refine' S15.df_mk KX G ?a ?l ?c ?k
      (case a => k_is); (case l => k_is); (case c => k_is); (case k => k_is)
    have d4 : L2.Df (L2.KOf KX) mg "order_of" S15.s_order_of := by
      dsimp only [L2.KOf]; refine' S15.df_mk KX G ?a ?l ?c ?k
      (case a => k_is); (case l => k_is); (case c => k_is); (case k => k_is)
    have d5 : L2.Df (L2.KOf KX) mg "stretch_of" S15.s_stretch_of := by
      dsimp only [L2.KOf]; refine' S15.df_mk KX G ?a ?l ?c ?k
      (case a => k_is); (case l => k_is); (case c => k_is); (case k => k_is)
    have d6 : L2.Df (L2.KOf KX) mg "stretch_in" S15.s_stretch_in := by
      dsimp only [L2.KOf]; refine' S15.df_mk KX G ?a ?l ?c ?k
      (case a => k_is); (case l => k_is); (case c => k_is); (case k => k_is)
    have d7 : L2.Df (L2.KOf KX) mg "count_read" S15.s_count_read := by
      dsimp only [L2.KOf]; refine' S15.df_mk KX G ?a ?l ?c ?k
      (case a => k_is); (case l => k_is); (case c => k_is); (case k => k_is)
    have d8 : L2.Df (L2.KOf KX) mg "nth_place" S15.s_nth_place := by
      dsimp only [L2.KOf]; refine' S15.df_mk KX G ?a ?l ?c ?k
      (case a => k_is); (case l => k_is); (case c => k_is); (case k => k_is)
    have d9 : L2.Df (L2.KOf KX) mg "_law_mixed" S15.s_law_mixed := by
      dsimp only [L2.KOf]; refine' S15.df_mk KX G ?a ?l ?c ?k
      (case a => k_is); (case l => k_is); (case c => k_is); (case k => k_is)
    have d10 : L2.Df (L2.KOf KX) mg "_law_deck" S15.s_law_deck := by
      dsimp only [L2.KOf]; refine' S15.df_mk KX G ?a ?l ?c ?k
      (case a => k_is); (case l => k_is); (case c => k_is); (case k => k_is)
    have d11 : L2.Df (L2.KOf KX) mg "_law_draw" S15.s_law_draw := by
      dsimp only [L2.KOf]; refine' S15.df_mk KX G ?a ?l ?c ?k
      (case a => k_is); (case l => k_is); (case c => k_is); (case k => k_is)
    have d12 : L2.Df (L2.KOf KX) mg "_law_some" S15.s_law_some := by
      dsimp only [L2.KOf]; refine' S15.df_mk KX G ?a ?l ?c ?k
      (case a => k_is); (case l => k_is); (case c => k_is); (case k => k_is)
    have d13 : L2.Df (L2.KOf KX) mg "_law_letter" S15.s_law_letter := by
      dsimp only [L2.KOf]; refine' S15.df_mk KX G ?a ?l ?c ?k
      (case a => k_is); (case l => k_is); (case c => k_is); (case k => k_is)
    have d14 : L2.Df (L2.KOf KX) mg "_law_tree" S15.s_law_tree := by
      dsimp only [L2.KOf]; refine' S15.df_mk KX G ?a ?l ?c ?k
      (case a => k_is); (case l => k_is); (case c => k_is); (case k => k_is)
    have d15 : L2.Df (L2.KOf KX) mg "_law_words" S15.s_law_words := by
      dsimp only [L2.KOf]; refine' S15.df_mk KX G ?a ?l ?c ?k
      (case a => k_is); (case l => k_is); (case c => k_is); (case k => k_is)
    have d16 : L2.Df (L2.KOf KX) mg "_law_sought" S15.s_law_sought := by
      dsimp only [L2.KOf]; refine' S15.df_mk KX G ?a ?l ?c ?k
      (case a => k_is); (case l => k_is); (case c => k_is); (case k => k_is)
    have d17 : L2.Df (L2.KOf KX) mg "_law_whole" S15.s_law_whole := by
      dsimp only [L2.KOf]; refine' S15.df_mk KX G ?a ?l ?c ?k
      (case a => k_is); (case l => k_is); (case c => k_is); (case k => k_is)
    have d18 : L2.Df (L2.KOf KX) mg "_law_kind" S15.s_law_kind := by
      dsimp only [L2.KOf]; refine' S15.df_mk KX G ?a ?l ?c ?k
      (case a => k_is); (case l => k_is); (case c => k_is); (case k => k_is)
    have d19 : L2.Df (L2.KOf KX) mg "_law_refused" S15.s_law_refused := by
      dsimp only [L2.KOf]; refine' S15.df_mk KX G ?a ?l ?c ?k
      (case a => k_is); (case l => k_is); (case c => k_is); (case k => k_is)
    have d20 : L2.Df (L2.KOf KX) mg "law" S15.s_law := by
      dsimp only [L2.KOf]; refine' S15.df_mk KX G ?a ?l ?c ?k
      (case a => k_is); (case l => k_is); (case c => k_is); (case k => k_is)
    have EX : S15.Exs (L2.KOf KX) mg := by
      dsimp only [L2.KOf]; refine' S15.exs_mk KX G ?a_UpError ?a_NoPlace ?a_NoNumber ?a_NoWord ?a_NoRows ?a_NoRuns ?a_NoCover ?a_NoText ?a_TooMany ?a_NoTries ?a_NoPattern ?a_NoLetter ?a_NoLeaf ?a_NoChange ?a_NoLine ?a_NoTree ?q_NoNumber ?ga_NoNumber ?gn_NoNumber ?cl_NoNumber ?ob_NoNumber ?be_NoNumber ?cd_NoNumber ?u_NoNumber ?gt ?tk ?n0 ?n1 ?n2 ?nv ?n3 ?n4
      (case a_UpError => k_is); (case a_NoPlace => k_is); (case a_NoNumber => k_is); (case a_NoWord => k_is); (case a_NoRows => k_is); (case a_NoRuns => k_is); (case a_NoCover => k_is); (case a_NoText => k_is); (case a_TooMany => k_is); (case a_NoTries => k_is); (case a_NoPattern => k_is); (case a_NoLetter => k_is); (case a_NoLeaf => k_is); (case a_NoChange => k_is); (case a_NoLine => k_is); (case a_NoTree => k_is); (case q_NoNumber => first | k_exc | k_is); (case ga_NoNumber => k_is); (case gn_NoNumber => k_is); (case cl_NoNumber => k_is); (case ob_NoNumber => k_is); (case be_NoNumber => k_is); (case cd_NoNumber => first | k_is | kernel_rfl); (case u_NoNumber => first | k_is | kernel_rfl); (case gt => k_is); (case tk => k_is); (case n0 => first | k_is | kernel_rfl); (case n1 => first | k_is | kernel_rfl); (case n2 => first | k_is | kernel_rfl); (case nv => first | k_is | kernel_rfl); (case n3 => first | k_is | kernel_rfl); (case n4 => first | k_is | kernel_rfl)
    obtain ⟨fd, h1, h2⟩ := S15.all_ok (P := PySem.Challenge.rw_upwords_k15_places_by_rank.prog) (w := w) hmg ⟨B, Bx0, Bx1⟩ d1 d2 d3 d4 d5 d6 d7 d8 d9 d10 d11 d12 d13 d14 d15 d16 d17 d18 d19 d20 EX
    exact ⟨fd, h1, fun Ts base kb _ TA => h2 Ts base kb TA⟩
