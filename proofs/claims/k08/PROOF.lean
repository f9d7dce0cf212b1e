import PyProof.Rows.All
import Wide.All
import OpenK.AllK
import Wide.FinOn
import Lean
import PyProof.EqAt
import PyProof.EqKinds
import PyProof.TupleCall
import KE.IntBitsLaws
import PyProof.ZipIter
import PyProof.EnumMake
import PyProof.Rows.StrJoin2
import PyProof.Rows.CallKwBuiltin
import PyProof.ListMulRoad
import PyProof.AutoListH
import PyProof.Rows.SeqMore
import PyProof.StationsW
import PyProof.Rows.CatchBare
import OpenK.KRaise
import KE.KIsAll
import OpenK.KOwn
import PyProof.Rows.Digits
import PyProof.Rows.StrOr
import PyProof.StrCalls2
import PyProof.StrBlock2
import KE.KIntText
import KE.KRevIter
import KE.LcSums
import PyProof.SliceStr2
import PyProof.StrBlockG
import PyProof.JoinWalk
import PyProof.StrWalks
import PyProof.StrLawsIn
import PyProof.StrLawsIdx
import PyProof.StrLawsChain
import PyProof.Rows.StrSplitCount
import PyProof.Rows.StrSplitJoin
import KE.IntTextText
import PyProof.ExcInit
import KE.KSortTup
import PyProof.AttrMissHeap
import PyProof.TupleIter
import KE.KDictOf
import PyProof.DictWalks
import PyProof.DictValues
import KE.KDictList
import PyProof.Rows.MinMaxN
import PyProof.Rows.SumAny
import PyProof.Rows.TupDisplay
import PyProof.DictTruth
import PySem.Challenge.RW_earlystop_k08_trial_lines_refused
set_option Elab.async false
set_option linter.all false
set_option maxRecDepth 100000
namespace L2
open PySem PySem.Spec PyProof.Rows
abbrev Key:=Sum Int Str
def keyIs:Key→Value→Bool
  | .inl k,v=>Value.isInt k v
  | .inr x,v=>Value.isStrOf x v
def keyH (w:World):Key→Int
  | .inl k=>hashInt k
  | .inr x=>hashStr w x
theorem keyIs_shape:∀ {k:Key} {v:Value},keyIs k v=true→(∃ i t,k=Sum.inl i∧v=Value.int i t)∨(∃ x t,k=Sum.inr x∧v=Value.str x t)
  | .inl i,v,h=>by
    obtain ⟨t,e⟩:=Value.isInt_shape (k:=i) (v:=v) h
    exact .inl ⟨i,t,rfl,e⟩
  | .inr x,v,h=>by
    obtain ⟨t,e⟩:=Value.isStrOf_shape (x:=x) (v:=v) h
    exact .inr ⟨x,t,rfl,e⟩
theorem key_ll (a b:Int):decide ((Sum.inl a:Key)=Sum.inl b)=(a == b):=by
  by_cases e:a=b
  · subst e; simp
  · have h:¬ (Sum.inl a:Key)=Sum.inl b:=fun q=>e (Sum.inl.inj q)
    rw [decide_eq_false h]
    exact (beq_eq_false_iff_ne.mpr e).symm
theorem key_rr (a b:Str):decide ((Sum.inr a:Key)=Sum.inr b)=decide (a=b):=by
  by_cases e:a=b
  · subst e; simp
  · have h:¬ (Sum.inr a:Key)=Sum.inr b:=fun q=>e (Sum.inr.inj q)
    rw [decide_eq_false h,decide_eq_false e]
theorem key_lr (a:Int) (b:Str):decide ((Sum.inl a:Key)=Sum.inr b)=false:=decide_eq_false (fun q=>nomatch q)
theorem key_rl (a:Str) (b:Int):decide ((Sum.inr a:Key)=Sum.inl b)=false:=decide_eq_false (fun q=>nomatch q)
def mixKind (prog:Program) (w:World):PySem.KeyKind prog w Key where
  is:=keyIs
  hash:=keyH w
  inj:=fun v a b ha hb=>by
    rcases keyIs_shape ha with ⟨i,t,rfl,rfl⟩ | ⟨x,t,rfl,rfl⟩
    · rcases keyIs_shape hb with ⟨j,u,rfl,e⟩ | ⟨y,u,rfl,e⟩
      · injection e with e1 _; rw [e1]
      · exact nomatch e
    · rcases keyIs_shape hb with ⟨j,u,rfl,e⟩ | ⟨y,u,rfl,e⟩
      · exact nomatch e
      · injection e with e1 _; rw [e1]
  byValue:=fun k v h=>by
    rcases keyIs_shape h with ⟨i,t,rfl,rfl⟩ | ⟨x,t,rfl,rfl⟩ <;> rfl
  pyHash:=fun hv h=>by
    rcases keyIs_shape hv with ⟨i,t,rfl,rfl⟩ | ⟨x,t,rfl,rfl⟩
    · exact wpAny_pyHash_int h
    · exact wpAny_pyHash_str h
  eqBool:=fun hu hv h=>by
    rcases keyIs_shape hu with ⟨i,t,rfl,rfl⟩ | ⟨x,t,rfl,rfl⟩
    · rcases keyIs_shape hv with ⟨j,u,rfl,rfl⟩ | ⟨y,u,rfl,rfl⟩
      · rw [key_ll] at h; exact wpAny_eqBool_int h
      · rw [key_lr] at h; exact SeqAt.EqAt.int_str i t y u _ _ _ _ h
    · rcases keyIs_shape hv with ⟨j,u,rfl,rfl⟩ | ⟨y,u,rfl,rfl⟩
      · rw [key_rl] at h; exact SeqAt.EqAt.str_int x t j u _ _ _ _ h
      · rw [key_rr] at h; exact wpAny_eqBool_str h
  «strs» := fun k x t v h=>by
    rcases keyIs_shape h with ⟨i,u,rfl,e⟩ | ⟨y,u,rfl,e⟩
    · exact nomatch e
    · injection e with e1 _
      subst e1
      cases v <;> rfl
end L2
namespace L2
open PySem PySem.Spec PyProof.Rows
inductive V where
  | non | bl (b:Bool) | int (i:Int) | str (x:Str) | byt (b:Array UInt8) | flt (b:UInt64) | ref (a:Addr) | ty (n:String)
  deriving DecidableEq
def RelV:V→Value→Prop
  | .non,u=>u=Value.none
  | .bl b,u=>u=Value.bool b
  | .int i,u=>∃ t,u=Value.int i t
  | .str x,u=>∃ t,u=Value.str x t
  | .byt b,u=>∃ t,u=Value.bytes b t
  | .flt b,u=>∃ t,u=Value.float b t
  | .ref a,u=>u=Value.ref a
  | .ty n,u=>u=Value.type n
abbrev Vals:List V→List Value→Prop:=Paired RelV
theorem Vals.length {xs:List V} {us:List Value} (r:Vals xs us):xs.length=us.length:=Paired.length r
theorem Vals.get:∀ {xs:List V} {us:List Value} {i:Nat} {x:V},Vals xs us→xs[i]?=some x→∃ u,us[i]?=some u∧RelV x u
  | _,_,_,_,.nil,e=>by simp at e
  | _,_,0,_,.cons r _,e=>by simp at e; subst e; exact ⟨_,rfl,r⟩
  | _,_,i+1,x,.cons _ t,e=>by
    obtain ⟨u,h1,h2⟩:=Vals.get (i:=i) (x:=x) t (by simpa using e)
    exact ⟨u,by simpa using h1,h2⟩
theorem Vals.set {x:V} {u:Value} (r:RelV x u):∀ {xs:List V} {us:List Value} (i:Nat),Vals xs us→Vals (xs.set i x) (us.set i u)
  | _,_,_,.nil=>.nil
  | _,_,0,.cons _ t=>.cons r t
  | _,_,i+1,.cons q t=>.cons q (Vals.set r i t)
theorem Vals.append:∀ {xs ys:List V} {us ws:List Value},Vals xs us→Vals ys ws→Vals (xs++ys) (us++ws)
  | _,_,_,_,.nil,s=>s
  | _,_,_,_,.cons r t,s=>.cons r (Vals.append t s)
theorem Vals.take:∀ {xs:List V} {us:List Value} (n:Nat),Vals xs us→Vals (xs.take n) (us.take n)
  | _,_,0,_=>.nil
  | _,_,_+1,.nil=>.nil
  | _,_,n+1,.cons r t=>.cons r (Vals.take n t)
theorem Vals.drop:∀ {xs:List V} {us:List Value} (n:Nat),Vals xs us→Vals (xs.drop n) (us.drop n)
  | _,_,0,r=>r
  | _,_,_+1,.nil=>.nil
  | _,_,n+1,.cons _ t=>Vals.drop n t
def RelO:Option V→Option Value→Prop
  | some v,some u=>RelV v u
  | none,none=>True
  | _,_=>False
def KV {κ:Type}:List (κ × V)→List (κ × Value)→Prop:=Paired fun (p:κ × V) (q:κ × Value)=>p.1=q.1∧RelV p.2 q.2
def kV:Key→V
  | .inl i=>.int i
  | .inr x=>.str x
inductive HO where
  /-- a list -/
  | lst (xs:List V)
  /-- a tuple (never changes) -/
  | tup (xs:List V)
  /-- a dict whose keys are ints and texts; one whose keys are tuples of ints and texts (the empty one is both) -/
  | dK (kvs:List (Key × V)) | dT (kvs:List (List Key × V))
  /-- a set of ints: its members,its size -/
  | set (S:Int→Bool) (n:Nat)
  /-- an instance of the class at C,its dict at dx,its attributes -/
  | ins (C dx:Addr) (fs:List (Str × V))
  /-- the dict of the instance at x -/
  | own (x:Addr)
  /-- the dict of an exception -/
  | xd (fs:List (Str × V))
  /-- a bound method,f of x -/
  | met (f x:Addr)
  /-- a range object lo,lo+1,.. below hi -/
  | rng (lo hi:Int)
  /-- a thing that is known to the object (the script; a dict while a loop walks it): read,never written while it is so -/
  | frz (o:Obj) (u:HO)
  /-- a code object's table -/
  | tbl (ps:Array Value)
  /-- any other thing,by what is true of its one object (a def of one's own: SetO a S n:=HO.ext fun h=>..) -/
  | ext (φ:Heap→Prop)
abbrev Hp:=Addr→Option HO
def upd (H:Hp) (a:Addr) (o:HO):Hp:=fun b=>if b=a then some o else H b
theorem upd_same {H:Hp} {a:Addr} {o:HO}:upd H a o a=some o:=by unfold upd; rw [if_pos rfl]
theorem upd_ne {H:Hp} {a b:Addr} {o:HO} (h:b≠a):upd H a o b=H b:=by unfold upd; rw [if_neg h]
theorem ne_of {H:Hp} {a b:Addr} {o u:HO} (h:H a=some o) (h':H b=some u) (d:o≠u):a≠b:=by
  intro e; subst e; rw [h] at h'; exact d (Option.some.inj h')
theorem ne_of_none {H:Hp} {a b:Addr} {o:HO} (h:H a=some o) (h':H b=none):a≠b:=by
  intro e; subst e; rw [h] at h'; cases h'
section
variable (P:Program) (w:World)
def ObjOk (H:Hp) (h:Heap) (a:Addr):HO→Prop
  | .lst xs=>xs.length≤sizeLine∧∃ (its:List Value) (n:Nat),Vals xs its∧h.get? a=some { cls:=.type "list",data:=.seq its.toArray n }
  | .tup xs=>(xs.length≤sizeLine∧∃ o,h.get? a=some o∧o.dict=none)∧∃ its:List Value,Vals xs its∧IsTup h a its.toArray
  | .dK kvs=>kvs.length≤sizeLine∧(a == sysModules)=false∧∃ vs,KV kvs vs∧h.DictOf (mixKind P w) a vs
  | .dT kvs=>kvs.length≤sizeLine∧(a == sysModules)=false∧∃ xs:List (List Key × Addr × Value),
      Paired (fun (p:List Key × V) (q:List Key × Addr × Value)=>p.1=q.1∧H q.2.1=some (.tup (p.1.map kV))∧RelV p.2 q.2.2) kvs xs ∧
      ∃ o es ep,h.get? a=some o∧o.ExactDict∧o.data=.dict es ep∧es.toList=xs.map (entryOfKey (tupleKind (mixKind P w)))∧(xs.map (·.1)).Nodup
  | .set S n=>h.SetOf (intKind P w) a S n
  | .ins C dx fs=>H dx=some (.own a)∧fs.length≤1000∧dx≠a∧h.get? a=some (PySem.W.instObj C dx) ∧
      ∃ mA,h.Ns1 dx mA∧(∀ f,RelO (fs.lookup f) (mA f))∧PySem.Within mA (fs.map (·.1))
  | .own _=>∃ o,h.get? a=some o
  | .xd fs=>∃ mA,h.Ns1 a mA∧∀ f,RelO (fs.lookup f) (mA f)
  | .rng lo hi=>∃ t u v,h.get? a=some { cls:=.type "range",data:=.fields #[.int lo t,.int hi u,.int 1 v] }
  | .frz o u=>h.get? a=some o∧ObjOk H h a u
  | .tbl ps=>h.get? a=some { cls:=.none,data:=.fields ps }
  | .met f x=>h.get? a=some (PySem.W.methodObj (.ref f) (.ref x))
  | .ext φ=>φ h∧(∃ o,h.get? a=some o)∧∀ h1 h2:Heap,φ h1→(∀ o,h1.get? a=some o→h2.get? a=some o)→φ h2
def HOk (H:Hp) (h:Heap):Prop:=∀ a o,H a=some o→ObjOk P w H h a o
end
section
variable {P:Program} {w:World} {H H':Hp} {h h':Heap} {a:Addr} {o:HO}
theorem ObjOk.lt (x:ObjOk P w H h a o):a<h.objs.size:=by
  cases o with
  | lst xs=>obtain ⟨_,_,_,_,e⟩:=x; exact Heap.lt_size e
  | tup xs=>obtain ⟨_,_,_,p⟩:=x; exact p.lt
  | dK kvs=>obtain ⟨_,_,_,_,o,_,_,e,_⟩:=x; exact Heap.lt_size e
  | dT kvs=>obtain ⟨_,_,_,_,o,_,_,e,_⟩:=x; exact Heap.lt_size e
  | set S n=>obtain ⟨o,_,_,_,e,_⟩:=x; exact Heap.lt_size e
  | ins C dx fs=>obtain ⟨_,_,_,e,_⟩:=x; exact Heap.lt_size e
  | own y=>obtain ⟨_,e⟩:=x; exact Heap.lt_size e
  | xd fs=>obtain ⟨_,⟨_,_,_,e,_⟩,_⟩:=x; exact Heap.lt_size e
  | rng lo hi=>obtain ⟨_,_,_,e⟩:=x; exact Heap.lt_size e
  | frz ob u=>obtain ⟨e,_⟩:=x; exact Heap.lt_size e
  | tbl ps=>exact Heap.lt_size (show h.get? a=some _ from x)
  | met f y=>exact Heap.lt_size (show h.get? a=some _ from x)
  | ext φ=>obtain ⟨_,⟨_,e⟩,_⟩:=x; exact Heap.lt_size e
theorem Paired.mapP {α β:Type} {F G:α→β→Prop}:∀ {l₁:List α} {l₂:List β},Paired F l₁ l₂→(∀ a b,F a b→G a b)→Paired G l₁ l₂
  | _,_,.nil,_=>.nil
  | _,_,.cons r t,f=>.cons (f _ _ r) (Paired.mapP t f)
theorem ObjOk.stay (x:ObjOk P w H h a o) (k:∀ b u,(b=a∨H b=some (.own a))→h.get? b=some u→h'.get? b=some u)
    (ho:∀ b,H b=some (.own a)→H' b=some (.own a)) (ht:∀ b xs,H b=some (.tup xs)→H' b=some (.tup xs)):ObjOk P w H' h' a o:=by
  induction o with
  | lst xs=>obtain ⟨z,its,n,r,e⟩:=x; exact ⟨z,its,n,r,k _ _ (.inl rfl) e⟩
  | tup xs=>obtain ⟨⟨z,on,en,dn⟩,its,r,ob,e,c⟩:=x; exact ⟨⟨z,on,k _ _ (.inl rfl) en,dn⟩,its,r,ob,k _ _ (.inl rfl) e,c⟩
  | dK kvs=>obtain ⟨z,y,vs,r,ob,es,ep,e,c⟩:=x; exact ⟨z,y,vs,r,ob,es,ep,k _ _ (.inl rfl) e,c⟩
  | dT kvs =>
    obtain ⟨z,y,xs,r,ob,es,ep,e,c⟩:=x
    exact ⟨z,y,xs,Paired.mapP r fun p q z=>⟨z.1,ht _ _ z.2.1,z.2.2⟩,ob,es,ep,k _ _ (.inl rfl) e,c⟩
  | set S n=>obtain ⟨ob,es,ep,t,e,c⟩:=x; exact ⟨ob,es,ep,t,k _ _ (.inl rfl) e,c⟩
  | ins C dx fs =>
    obtain ⟨d,z,ne,e,mA,⟨od,es,ep,e2,c⟩,r⟩:=x
    exact ⟨ho _ d,z,ne,k _ _ (.inl rfl) e,mA,⟨od,es,ep,k _ _ (.inr d) e2,c⟩,r⟩
  | own y=>obtain ⟨ob,e⟩:=x; exact ⟨ob,k _ _ (.inl rfl) e⟩
  | xd fs=>obtain ⟨mA,⟨od,es,ep,e,c⟩,r⟩:=x; exact ⟨mA,⟨od,es,ep,k _ _ (.inl rfl) e,c⟩,r⟩
  | rng lo hi=>obtain ⟨t,u,v,e⟩:=x; exact ⟨t,u,v,k _ _ (.inl rfl) e⟩
  | frz ob u ih=>obtain ⟨e,q⟩:=x; exact ⟨k _ _ (.inl rfl) e,ih q⟩
  | tbl ps =>
    have e:h.get? a=some { cls:=.none,data:=.fields ps }:=x
    show h'.get? a=some { cls:=.none,data:=.fields ps }
    exact k a _ (.inl rfl) e
  | met f y =>
    have e:h.get? a=some (PySem.W.methodObj (.ref f) (.ref y)):=x
    show h'.get? a=some (PySem.W.methodObj (.ref f) (.ref y))
    exact k a _ (.inl rfl) e
  | ext φ=>obtain ⟨p,⟨o,e⟩,st⟩:=x; exact ⟨st _ _ p fun o q=>k _ _ (.inl rfl) q,⟨o,k _ _ (.inl rfl) e⟩,st⟩
theorem HOk.lt (x:HOk P w H h) (e:H a=some o):a<h.objs.size:=(x a o e).lt
theorem HOk.fresh (x:HOk P w H h) (e:h.objs.size≤a):H a=none:=by
  cases q:H a with
  | none=>rfl
  | some u=>exact absurd (Nat.lt_of_lt_of_le (x.lt q) e) (Nat.lt_irrefl _)
theorem HOk.kept (x:HOk P w H h) (k:∀ b u,h.get? b=some u→h'.get? b=some u):HOk P w H h':=fun a o e =>
  (x a o e).stay (fun b u _ q=>k b u q) (fun _ q=>q) fun _ _ q=>q
theorem HOk.laid (x:HOk P w H h) (k:∀ b u,h.get? b=some u→h'.get? b=some u) (hp:h.objs.size≤a) (new:ObjOk P w (upd H a o) h' a o):HOk P w (upd H a o) h':=fun b u e=>by
  have hn:=x.fresh hp
  by_cases hb:b=a
  · subst hb; rw [upd_same] at e; cases e; exact new
  · rw [upd_ne hb] at e
    exact (x b u e).stay (fun c v _ q=>k c v q) (fun c q=>by rw [upd_ne (ne_of_none q hn)]; exact q) fun c xs q=>by rw [upd_ne (ne_of_none q hn)]; exact q
end
def Rd (H:Hp) (a:Addr) (u:HO):Prop:=H a=some u∨∃ o,H a=some (.frz o u)
theorem Rd.ok {P:Program} {w:World} {H:Hp} {h:Heap} {a:Addr} {u:HO} (r:Rd H a u) (x:HOk P w H h):ObjOk P w H h a u:=by
  rcases r with r | ⟨o,r⟩
  · exact x a u r
  · obtain ⟨_,q⟩:=x a _ r
    exact q
def Mut:Option HO→Prop
  | some (.lst _)=>True
  | some (.dK _)=>True
  | some (.dT _)=>True
  | some (.set _ _)=>True
  | some (.ins _ _ _)=>True
  | some (.ext _)=>True
  | _=>False
section
variable {P:Program} {w:World} {H:Hp} {h h':Heap} {x e:Addr} {o':HO}
theorem HOk.write (ok:HOk P w H h) (mu:Mut (H x)) (he:e=x∨H e=some (.own x)) (k:∀ b u,b≠e→h.get? b=some u→h'.get? b=some u) (heo:∃ u,h'.get? e=some u)
    (new:ObjOk P w (upd H x o') h' x o'):HOk P w (upd H x o') h':=fun b u q=>by
  have nown:∀ c y,H c=some (.own y)→c≠x:=fun c y r z=>by subst z; rw [r] at mu; exact mu
  have ntup:∀ c xs,H c=some (.tup xs)→c≠x:=fun c xs r z=>by subst z; rw [r] at mu; exact mu
  by_cases hb:b=x
  · subst hb; rw [upd_same] at q; cases q; exact new
  · rw [upd_ne hb] at q
    by_cases hbe:b=e
    · have q':H b=some (.own x):=by
        rcases he with z | z
        · exact absurd (hbe.trans z) hb
        · rw [hbe]; exact z
      rw [q] at q'; cases q'
      obtain ⟨v,hv⟩:=heo
      exact ⟨v,by rw [hbe]; exact hv⟩
    · refine (ok b u q).stay (fun c v hc r=>k c v ?_ r) (fun c r=>by rw [upd_ne (nown c b r)]; exact r) fun c xs r=>by rw [upd_ne (ntup c xs r)]; exact r
      rcases hc with rfl | hc
      · exact hbe
      · rintro rfl
        rcases he with z | z
        · exact nown c b hc z
        · rw [hc] at z; cases z; exact hb rfl
end
structure Un (fs ex:List Addr) (H H':Hp) (h h':Heap):Prop where
  keep:∀ b o,h.get? b=some o→H b=none→b ∉ fs→b ∉ ex→h'.get? b=some o
  slot:∀ b o,h.get? b=some o→H b=none→b∈fs→b ∉ ex→∃ sl,h'.get? b=some { o with slots:=sl }
  free:∀ b o,h.get? b=some o→H b=none→b ∉ ex→H' b=none
  there:∀ b o,h.get? b=some o→b ∉ ex→∃ o',h'.get? b=some o'
  tups:∀ b xs,H b=some (.tup xs)→H' b=some (.tup xs)
  frzs:∀ b o u,H b=some (.frz o u)→H' b=some (.frz o u)
  tbls:∀ b ps,H b=some (.tbl ps)→∃ more,H' b=some (.tbl (ps++more))
section
variable {fs fs' ex ex':List Addr} {H H1 H2:Hp} {h h1 h2 h':Heap} {a x e:Addr} {o:HO}
theorem Un.any (u:Un fs ex H H1 h h1) {b:Addr} {ob:Obj} (q:h.get? b=some ob) (n:H b=none) (hx:b ∉ ex):∃ sl,h1.get? b=some { ob with slots:=sl }:=by
  by_cases hb:b∈fs
  · exact u.slot b ob q n hb hx
  · exact ⟨ob.slots,u.keep b ob q n hb hx⟩
theorem Un.kept (k:∀ b u,h.get? b=some u→h'.get? b=some u):Un fs ex H H h h' :=
  ⟨fun b ob q _ _ _=>k b ob q,fun b ob q _ _ _=>⟨ob.slots,k b ob q⟩,fun _ _ _ n _=>n,fun b ob q _=>⟨ob,k b ob q⟩,fun _ _ q=>q,fun _ _ _ q=>q,fun _ ps q=>⟨#[],by rw [q]; simp⟩⟩
theorem Un.refl:Un fs ex H H h h:=Un.kept fun _ _ q=>q
theorem Un.laid (k:∀ b u,h.get? b=some u→h'.get? b=some u) (hp:h.objs.size≤a) (hn:H a=none):Un fs ex H (upd H a o) h h' where
  keep:=fun b u q _ _ _=>k b u q
  slot:=fun b u q _ _ _=>⟨u.slots,k b u q⟩
  free:=fun b u q n _=>by rw [upd_ne (Nat.ne_of_lt (Nat.lt_of_lt_of_le (Heap.lt_size q) hp))]; exact n
  there:=fun b u q _=>⟨u,k b u q⟩
  tups:=fun b xs q=>by rw [upd_ne (ne_of_none q hn)]; exact q
  frzs:=fun b u xs q=>by rw [upd_ne (ne_of_none q hn)]; exact q
  tbls:=fun b ps q=>⟨#[],by rw [upd_ne (ne_of_none q hn),q]; simp⟩
theorem Un.write (mu:Mut (H x)) (he:e=x∨H e=some (.own x)) (k:∀ b u,b≠e→h.get? b=some u→h'.get? b=some u) (heo:∃ u,h'.get? e=some u):Un fs ex H (upd H x o) h h':=by
  have hx:∀ b,H b=none→b≠x:=fun b n z=>by subst z; rw [n] at mu; exact mu
  have hb:∀ b,H b=none→b≠e:=fun b n z=>by
    subst z
    rcases he with r | r
    · exact hx b n r
    · rw [n] at r; cases r
  have hm:∀ b u,H b=some u→¬ Mut (some u)→b≠x:=fun b u q nm z=>by subst z; rw [q] at mu; exact nm mu
  refine ⟨fun b u q n _ _=>k b u (hb b n) q,fun b u q n _ _=>⟨u.slots,k b u (hb b n) q⟩,fun b u q n _=>by rw [upd_ne (hx b n)]; exact n,fun b u q _=>?_,
    fun b xs q=>by rw [upd_ne (hm b _ q fun z=>z)]; exact q,fun b u xs q=>by rw [upd_ne (hm b _ q fun z=>z)]; exact q,fun b ps q=>⟨#[],by rw [upd_ne (hm b _ q fun z=>z),q]; simp⟩⟩
  by_cases hbe:b=e
  · subst hbe; exact heo
  · exact ⟨u,k b u hbe q⟩
end
def trk (h:Heap) (H:Hp):List Addr:=(List.range h.objs.size).filter fun a=>(H a).isSome
def hidT (h:Heap) (H:Hp):Heap:=PySem.W.hideAll h (trk h H)
theorem hidT_size (h:Heap) (H:Hp):(hidT h H).objs.size=h.objs.size:=PySem.W.hideAll_size _ _
theorem hidT_get {h:Heap} {H:Hp} {b:Addr} {o:Obj} (e:h.get? b=some o) (n:H b=none):(hidT h H).get? b=some o :=
  PySem.W.hideAll_get _ e fun hm=>by
    have q:(H b).isSome=true:=(List.mem_filter.mp hm).2
    rw [n] at q; simp at q
theorem of_hidT {h:Heap} {H:Hp} {b:Addr} {o:Obj} (e:(hidT h H).get? b=some o):h.get? b=some o∧H b=none:=by
  have e':h.get? b=some o:=PySem.W.of_hideAll (trk h H) e
  refine ⟨e',?_⟩
  cases q:H b with
  | none=>rfl
  | some x =>
    have hm:b∈trk h H:=List.mem_filter.mpr ⟨List.mem_range.mpr (Heap.lt_size e'),by simp [q]⟩
    have z:(hidT h H).get? b=none:=PySem.W.hideAll_none (trk h H) hm
    rw [z] at e; cases e
end L2
namespace L2
open PySem PySem.Spec PyProof.Rows
structure Mod (K:PySem.W.Frag) (mg:Str→Option Value) (base:Heap):Prop where
  kin:K.In base
  glob:base.Ns mainGlobals mg
  blt:∃ mb,base.Ns builtinsNs mb∧∀ x:Str,x ≠ "__name__" → mb x=bootBuiltins x
  nolimit:base.NoLimit
/-- the context: a def's body (or a comprehension's block) running. base: fixed through the whole law; s₀,H₀: the entry; outer: the frames whose slots others may change (a def's callers); stack: all frames that run;
   ex: iterators that were made ahead of the entry and are walked here (a comprehension's); fn: the names whose cells were made at the entry (a def: all; a comprehension's block: its own); calm: not within an except suite; pn: pins that every state bears; xe: what is wanted of an exception that leaves the code -/
structure Cx where
  prog:Program
  w:World
  K:PySem.W.Frag
  mg:Str→Option Value
  base:Heap
  A:Around
  N:List Str
  s₀:Shared
  H₀:Hp
  env:Env
  outer:List Env
  stack:List Env
  ex:List Addr
  fn:Str→Bool
  calm:Bool
  pn:List (Addr × Obj)
  xe:Value→Shared→Prop
def frs (l:List Env):List Addr:=l.filterMap (·.frame)
abbrev Cx.fs (X:Cx):List Addr:=frs X.outer
def Vis (sc:Scope) (x:Str):Prop:=sc.names.lookup x=some .local∨sc.names.lookup x=some .cell∨sc.names.lookup x=some .free
def Loc (sc:Scope) (x:Str):Prop:=sc.names.lookup x=some .local∨sc.names.lookup x=some .cell
def Look (env:Env) (h:Heap) (m:Str→Option Value) (x:Str) (u:Value):Prop :=
  (env.kindOf x=some .local∧m x=some u)∨((env.kindOf x=some .cell∨env.kindOf x=some .free)∧∃ c,env.cells.lookup x=some c∧h.IsCell c (some u))
structure Cx.Ok (X:Cx):Prop where
  mod:Mod X.K X.mg X.base
  kind:X.env.scope.kind=.function
  glob:X.env.globals=mainGlobals
  blt:X.env.builtins=builtinsNs
  above:X.s₀.heap.objs.size≤X.env.locals
  inj:∀ x y c,X.env.cells.lookup x=some c→X.env.cells.lookup y=some c→x=y
  has:∀ x,(X.env.kindOf x=some .cell∨X.env.kindOf x=some .free)→∃ c,X.env.cells.lookup x=some c
  cab:∀ x c,X.fn x=true→X.env.cells.lookup x=some c→X.s₀.heap.objs.size≤c
  hd:X.calm=true→X.A.handled=none
  frames:X.A.frames=some X.stack
  stk:X.stack=X.outer∨(X.stack=X.env::X.outer∧X.env.frame=some X.env.locals)
  exf:∀ b∈X.ex,b≠X.env.locals∧∀ x c,X.env.cells.lookup x=some c→c≠b
  bs:∀ b o,X.base.get? b=some o→X.s₀.heap.get? b=some o∧X.H₀ b=none
  bsz:X.base.objs.size≤X.s₀.heap.objs.size
  noex:∀ b o,X.base.get? b=some o→b ∉ X.ex
  exfs:∀ b∈X.ex,b ∉ X.fs
  funs:X.s₀.heap.FunFrames X.base X.outer
  frf:∀ b∈X.fs,X.H₀ b=none
structure Inv (X:Cx) (pins:List (Addr × Obj)) (σ:List (Option V)) (H:Hp) (s:Shared):Prop where
  ok:X.Ok
  os:s.os=X.s₀.os
  bare:AllBare s.gens
  base:Un X.fs X.ex X.H₀ H X.s₀.heap s.heap
  loc:∃ m,s.heap.Ns X.env.locals m∧∀ (i:Nat) (x:Str) (v:V),X.N[i]?=some x→σ[i]?=some (some v)→Vis X.env.scope x→∃ u,RelV v u∧Look X.env s.heap m x u
  cell:∀ x c,X.env.cells.lookup x=some c→∃ v,s.heap.IsCell c v
  free:H X.env.locals=none
  freeC:∀ x c,X.env.cells.lookup x=some c→H c=none
  pin:∀ p∈X.pn++pins,s.heap.get? p.1=some p.2∧H p.1=none∧p.1≠X.env.locals∧p.1 ∉ X.fs∧∀ v,p.2.data ≠ .cell v
  hok:HOk X.prog X.w H s.heap
  len:σ.length=X.N.length
section
variable {X:Cx} {pins:List (Addr × Obj)} {σ:List (Option V)} {H H':Hp} {s:Shared} {h':Heap}
theorem Cx.Ok.nofr (ok:X.Ok) {b:Addr} {o:Obj} (e:X.base.get? b=some o):b ∉ X.fs:=fun hb=>by
  have:=(ok.funs.mem hb).1
  rw [e] at this; cases this
theorem Inv.bs (I:Inv X pins σ H s):∀ b o,X.base.get? b=some o→s.heap.get? b=some o∧H b=none:=fun b o e =>
  ⟨I.base.keep b o (I.ok.bs b o e).1 (I.ok.bs b o e).2 (I.ok.nofr e) (I.ok.noex b o e),I.base.free b o (I.ok.bs b o e).1 (I.ok.bs b o e).2 (I.ok.noex b o e)⟩
theorem Inv.bk (I:Inv X pins σ H s):∀ b o,X.base.get? b=some o→s.heap.get? b=some o:=fun b o e=>(I.bs b o e).1
theorem Inv.mod (I:Inv X pins σ H s):Mod X.K X.mg X.base:=I.ok.mod
theorem Inv.kIn (I:Inv X pins σ H s):X.K.In s.heap:=I.ok.mod.kin.keeps I.bk
theorem Inv.lt (I:Inv X pins σ H s):X.env.locals<s.heap.objs.size:=let ⟨_,hn,_⟩:=I.loc; hn.lt
theorem Inv.sz (I:Inv X pins σ H s):X.s₀.heap.objs.size≤s.heap.objs.size:=Nat.le_trans I.ok.above (Nat.le_of_lt I.lt)
theorem Inv.nofs (I:Inv X pins σ H s) {a:Addr} (h:s.heap.objs.size≤a):a ∉ X.fs:=fun hb=>by
  obtain ⟨_,o,ho,_⟩:=I.ok.funs.mem hb
  exact absurd (Nat.lt_of_lt_of_le (Heap.lt_size ho) (Nat.le_trans I.sz h)) (Nat.lt_irrefl _)
theorem Inv.cne (I:Inv X pins σ H s):∀ x c,X.env.cells.lookup x=some c→c≠X.env.locals:=fun x c e z=>by
  obtain ⟨v,o,ho,hd⟩:=I.cell x c e
  obtain ⟨m,⟨o',es,ep,ho',hd',_⟩,_⟩:=I.loc
  rw [z,ho'] at ho; cases ho; rw [hd'] at hd; cases hd
theorem Inv.funs (I:Inv X pins σ H s):s.heap.FunFrames X.base X.outer:=by
  have all:∀ (l:List Env),(∀ b∈frs l,b∈X.fs)→X.s₀.heap.FunFrames X.base l→s.heap.FunFrames X.base l:=by
    intro l
    induction l with
    | nil=>intro _ _; trivial
    | cons env r ih =>
      intro hs hl
      obtain ⟨hk,⟨L,o,hf,hn,ho,hd⟩,hr⟩:=hl
      have hL:L∈X.fs:=hs L (by unfold frs; rw [List.filterMap_cons,hf]; exact List.mem_cons_self)
      obtain ⟨sl,e⟩:=I.base.slot L o ho (I.ok.frf L hL) hL fun z=>I.ok.exfs L z hL
      exact ⟨hk,⟨L,_,hf,hn,e,hd⟩,ih (fun b hb=>hs b (by unfold frs; rw [List.filterMap_cons,hf]; exact List.mem_cons_of_mem _ hb)) hr⟩
  exact all X.outer (fun _ hb=>hb) I.ok.funs
theorem Inv.stack (I:Inv X pins σ H s):s.heap.FunFrames X.base X.stack:=by
  rcases I.ok.stk with e | ⟨e,hf⟩
  · rw [e]; exact I.funs
  · rw [e]
    obtain ⟨m,hn,_⟩:=I.loc
    refine .cons (by rw [I.ok.kind]; decide) hf hn ?_ I.funs
    exact Heap.get?_none_of_le (Nat.le_trans I.ok.bsz I.ok.above)
theorem Inv.stkSub (I:Inv X pins σ H s):∀ b∈frs X.stack,b∈X.env.locals::X.fs:=fun b hb=>by
  rcases I.ok.stk with e | ⟨e,hf⟩
  · rw [e] at hb; exact List.mem_cons_of_mem _ hb
  · rw [e] at hb
    unfold frs at hb
    rw [List.filterMap_cons,hf] at hb
    exact hb
theorem Inv.stkFree (I:Inv X pins σ H s):∀ b∈frs X.stack,H b=none:=fun b hb=>by
  rcases List.mem_cons.mp (I.stkSub b hb) with e | hb
  · rw [e]; exact I.free
  · obtain ⟨_,o,ho,_⟩:=I.ok.funs.mem hb
    exact I.base.free b o ho (I.ok.frf b hb) fun z=>I.ok.exfs b z hb
theorem Inv.step {g':Array GenState} {t':Nat} {d':Drawn} {ch:List Addr} (I:Inv X pins σ H s)
    (hch:∀ b∈ch,(b∈X.ex∨X.s₀.heap.objs.size≤b)∧b≠X.env.locals∧(∀ x c,X.env.cells.lookup x=some c→c≠b)∧∀ p∈X.pn++pins,p.1≠b)
    (keep:∀ b o,b≠X.env.locals→b ∉ X.fs→b ∉ ch→s.heap.get? b=some o→H b=none→h'.get? b=some o)
    (slot:∀ b o,b≠X.env.locals→b∈X.fs→b ∉ ch→s.heap.get? b=some o→H b=none→∃ sl,h'.get? b=some { o with slots:=sl }) (free:∀ b o,b ∉ ch→s.heap.get? b=some o→H b=none→H' b=none)
    (there:∀ b o,b ∉ ch→s.heap.get? b=some o→∃ o',h'.get? b=some o')
    (tups:∀ b xs,H b=some (.tup xs)→H' b=some (.tup xs)) (frzs:∀ b o u,H b=some (.frz o u)→H' b=some (.frz o u)) (tbls:∀ b ps,H b=some (.tbl ps)→∃ more,H' b=some (.tbl (ps++more)))
    (ns:∀ m,s.heap.Ns X.env.locals m→h'.Ns X.env.locals m) (hok:HOk X.prog X.w H' h') (hg:AllBare g') :
    Inv X pins σ H' { s with heap:=h',gens:=g',drawn:=d',toks:=t' }:=by
  have neL:∀ b o,X.s₀.heap.get? b=some o→b≠X.env.locals:=fun b o e=>Nat.ne_of_lt (Nat.lt_of_lt_of_le (Heap.lt_size e) I.ok.above)
  have neC:∀ b o,X.s₀.heap.get? b=some o→b ∉ X.ex→b ∉ ch:=fun b o e hx hb=>by
    rcases (hch b hb).1 with z | z
    · exact hx z
    · exact absurd (Nat.lt_of_lt_of_le (Heap.lt_size e) z) (Nat.lt_irrefl _)
  have cellK:∀ x c,X.env.cells.lookup x=some c→∀ v,s.heap.IsCell c v→h'.IsCell c v:=fun x c e v ⟨o,ho,hd⟩=>by
    have nch:c ∉ ch:=fun z=>(hch c z).2.2.1 x c e rfl
    by_cases hc:c∈X.fs
    · obtain ⟨sl,q⟩:=slot c o (I.cne x c e) hc nch ho (I.freeC x c e)
      exact ⟨_,q,hd⟩
    · exact ⟨o,keep c o (I.cne x c e) hc nch ho (I.freeC x c e),hd⟩
  refine ⟨I.ok,I.os,hg,⟨fun b o e n hb hx=>?_,fun b o e n hb hx=>?_,fun b o e n hx=>?_,fun b o e hx=>?_,fun b xs e=>tups b xs (I.base.tups b xs e),fun b o xs e=>frzs b o xs (I.base.frzs b o xs e),fun b ps e=>?_⟩,?_,fun x c e=>?_,?_,fun x c e=>?_,fun p hp=>?_,hok,I.len⟩
  · exact keep b o (neL b o e) hb (neC b o e hx) (I.base.keep b o e n hb hx) (I.base.free b o e n hx)
  · obtain ⟨sl,e1⟩:=I.base.slot b o e n hb hx
    obtain ⟨sl',e2⟩:=slot b _ (neL b o e) hb (neC b o e hx) e1 (I.base.free b o e n hx)
    exact ⟨sl',e2⟩
  · obtain ⟨o',e1⟩:=I.base.there b o e hx
    exact free b o' (neC b o e hx) e1 (I.base.free b o e n hx)
  · obtain ⟨o',e1⟩:=I.base.there b o e hx
    exact there b o' (neC b o e hx) e1
  · obtain ⟨m1,e1⟩:=I.base.tbls b ps e
    obtain ⟨m2,e2⟩:=tbls b _ e1
    exact ⟨m1++m2,by rw [e2,Array.append_assoc]⟩
  · obtain ⟨m,hn,hl⟩:=I.loc
    refine ⟨m,ns m hn,fun i x v e1 e2 e3=>?_⟩
    obtain ⟨u,r,l⟩:=hl i x v e1 e2 e3
    refine ⟨u,r,?_⟩
    rcases l with l | ⟨k,c,e,z⟩
    · exact .inl l
    · exact .inr ⟨k,c,e,cellK x c e _ z⟩
  · obtain ⟨v,z⟩:=I.cell x c e
    exact ⟨v,cellK x c e v z⟩
  · obtain ⟨m,⟨o,_,_,ho,_⟩,_⟩:=I.loc
    exact free _ o (fun z=>(hch _ z).2.1 rfl) ho I.free
  · obtain ⟨v,o,ho,hd⟩:=I.cell x c e
    exact free c o (fun z=>(hch c z).2.2.1 x c e rfl) ho (I.freeC x c e)
  · obtain ⟨e,n,ne,nf,d⟩:=I.pin p hp
    have nch:p.1 ∉ ch:=fun z=>(hch p.1 z).2.2.2 p hp rfl
    exact ⟨keep p.1 p.2 ne nf nch e n,free p.1 p.2 nch e n,ne,nf,d⟩
theorem Inv.un {t':Nat} (I:Inv X pins σ H s) (u:Un X.fs [] H H' s.heap h') (hok:HOk X.prog X.w H' h'):Inv X pins σ H' { s with heap:=h',toks:=t' }:=by
  obtain ⟨m,⟨o,es,ep,ho,r⟩,_⟩:=id I.loc
  obtain ⟨sl,hL⟩:=u.any ho I.free (by simp)
  exact I.step (g':=s.gens) (d':=s.drawn) (ch:=[]) (fun _ z=>nomatch z) (fun b o _ hb _ e n=>u.keep b o e n hb (by simp)) (fun b o _ hb _ e n=>u.slot b o e n hb (by simp)) (fun b o _ e n=>u.free b o e n (by simp)) (fun b o _ e=>u.there b o e (by simp)) u.tups u.frzs u.tbls (fun m' hm=>by
    obtain ⟨o',es',ep',ho',r'⟩:=hm
    rw [ho] at ho'; cases ho'
    exact ⟨_,es',ep',hL,r'⟩) hok I.bare
theorem Inv.call {g':Array GenState} {t':Nat} {d':Drawn} {ch:List Addr} (I:Inv X pins σ H s) (u:Un (frs X.stack) ch H H' s.heap h') (hok:HOk X.prog X.w H' h') (hg:AllBare g')
    (hch:∀ b∈ch,(b∈X.ex∨X.s₀.heap.objs.size≤b)∧b≠X.env.locals∧(∀ x c,X.env.cells.lookup x=some c→c≠b)∧∀ p∈X.pn++pins,p.1≠b) :
    Inv X pins σ H' { s with heap:=h',gens:=g',drawn:=d',toks:=t' }:=by
  obtain ⟨m,⟨o,es,ep,ho,r⟩,_⟩:=id I.loc
  obtain ⟨sl,hL⟩:=u.any ho I.free fun z=>(hch _ z).2.1 rfl
  exact I.step (ch:=ch) hch (fun b o hL hb hc e n=>u.keep b o e n (fun z=>(List.mem_cons.mp (I.stkSub b z)).elim hL hb) hc) (fun b o _ _ hc e n=>u.any e n hc) (fun b o hc e n=>u.free b o e n hc) (fun b o hc e=>u.there b o e hc) u.tups u.frzs u.tbls (fun m' hm=>by
    obtain ⟨o',es',ep',ho',r'⟩:=hm
    rw [ho] at ho'; cases ho'
    exact ⟨_,es',ep',hL,r'⟩) hok hg
theorem Inv.turned {t':Nat} {it:Addr} (I:Inv X pins σ H s) (k:∀ b o,b≠it→s.heap.get? b=some o→h'.get? b=some o) (hn:H it=none) (hL:it≠X.env.locals)
    (h1:it∈X.ex∨X.s₀.heap.objs.size≤it) (h2:∀ x c,X.env.cells.lookup x=some c→c≠it) (h3:∀ p∈X.pn++pins,p.1≠it):Inv X pins σ H { s with heap:=h',toks:=t' }:=by
  have nit:∀ b u,H b=some u→b≠it:=fun b u e z=>by rw [z,hn] at e; cases e
  refine I.step (g':=s.gens) (d':=s.drawn) (ch:=[it]) (fun b hb=>?_) (fun b o _ _ hc e _=>k b o (fun z=>hc (by simp [z])) e) (fun b o _ _ hc e _=>⟨o.slots,k b o (fun z=>hc (by simp [z])) e⟩) (fun _ _ _ _ n=>n)
    (fun b o hc e=>⟨o,k b o (fun z=>hc (by simp [z])) e⟩) (fun _ _ e=>e) (fun _ _ _ e=>e) (fun b ps e=>⟨#[],by rw [e]; simp⟩) (fun m hm=>?_) (fun b u e=>?_) I.bare
  · have e:b=it:=by simpa using hb
    subst e
    exact ⟨h1,hL,h2,h3⟩
  · obtain ⟨o,es,ep,ho,r⟩:=hm
    exact ⟨o,es,ep,k _ o (Ne.symm hL) ho,r⟩
  · refine (I.hok b u e).stay (fun c v hc q=>k c v ?_ q) (fun _ q=>q) fun _ _ q=>q
    rcases hc with z | z
    · rw [z]; exact nit b u e
    · exact nit c _ z
theorem Inv.tok (I:Inv X pins σ H s) (t:Nat):Inv X pins σ H { s with toks:=t }:=I.un (h':=s.heap) (t':=t) Un.refl I.hok
theorem Inv.kept {t':Nat} (I:Inv X pins σ H s) (k:∀ b u,s.heap.get? b=some u→h'.get? b=some u):Inv X pins σ H { s with heap:=h',toks:=t' }:=I.un (Un.kept k) (I.hok.kept k)
theorem Inv.laid {a:Addr} {o:HO} {t':Nat} (I:Inv X pins σ H s) (k:∀ b u,s.heap.get? b=some u→h'.get? b=some u) (hp:s.heap.objs.size≤a) (new:ObjOk X.prog X.w (upd H a o) h' a o) :
    Inv X pins σ (upd H a o) { s with heap:=h',toks:=t' }:=I.un (Un.laid k hp (I.hok.fresh hp)) (I.hok.laid k hp new)
theorem Inv.write {x e:Addr} {o:HO} {t':Nat} (I:Inv X pins σ H s) (mu:Mut (H x)) (he:e=x∨H e=some (.own x)) (k:∀ b u,b≠e→s.heap.get? b=some u→h'.get? b=some u) (heo:∃ u,h'.get? e=some u)
    (new:ObjOk X.prog X.w (upd H x o) h' x o):Inv X pins σ (upd H x o) { s with heap:=h',toks:=t' }:=I.un (Un.write mu he k heo) (I.hok.write mu he k heo new)
theorem Inv.pins_of {pins':List (Addr × Obj)} (I:Inv X pins σ H s) (h:∀ p∈pins',s.heap.get? p.1=some p.2∧H p.1=none∧p.1≠X.env.locals∧p.1 ∉ X.fs∧∀ v,p.2.data ≠ .cell v):Inv X pins' σ H s :=
  ⟨I.ok,I.os,I.bare,I.base,I.loc,I.cell,I.free,I.freeC,fun p hp=>(List.mem_append.mp hp).elim (fun z=>I.pin p (List.mem_append_left _ z)) (h p),I.hok,I.len⟩
theorem nodup_ix {N:List Str} (hN:N.Nodup) {i j:Nat} {x:Str} (a:N[i]?=some x) (b:N[j]?=some x):i=j:=by
  obtain ⟨h1,e1⟩:=List.getElem?_eq_some_iff.mp a
  obtain ⟨h2,e2⟩:=List.getElem?_eq_some_iff.mp b
  exact (List.getElem_inj hN).mp (e1.trans e2.symm)
theorem store_ok2 {M:Model} {A:Around} {E:Value→Shared→Prop} {i:Nat} {x:Str} {v:V} {u:Value} {Q:Unit→Shared→Prop} (I:Inv X pins σ H s) (hN:X.N.Nodup) (hi:X.N[i]?=some x) (hx:Loc X.env.scope x) (r:RelV v u)
    (h:∀ s',Inv X pins (σ.set i (some v)) H s'→(∃ a,Heap.SameBut a s.heap s'.heap∧(a=X.env.locals∨X.env.cells.lookup x=some a))→Q () s') (hf:X.fn x=true∨X.env.scope.names.lookup x=some .local:=by first | exact .inl rfl | exact .inr rfl | assumption):wpAny M A (storeName X.env x u) Q E s:=by
  obtain ⟨m,hn,hl⟩:=id I.loc
  have hcls:(X.env.scope.kind == .class || (X.env.scope.kind == .module&&X.env.locals != X.env.globals))=false:=by rw [I.ok.kind]; rfl
  have hiσ:i<σ.length:=by rw [I.len]; exact (List.getElem?_eq_some_iff.mp hi).1
  have cne:=I.cne
  have tracked:∀ {a:Addr} {h':Heap},(∃ o,s.heap.get? a=some o∧H a=none)→Heap.SameBut a s.heap h'→HOk X.prog X.w H h':=fun {a h'} ha hs b ob e=>by
    obtain ⟨_,_,hfree⟩:=ha
    refine (I.hok b ob e).stay (fun c w' hc q=>(hs.2 c ?_).trans q) (fun _ q=>q) fun _ _ q=>q
    rintro rfl
    rcases hc with rfl | hc
    · rw [hfree] at e; cases e
    · rw [hfree] at hc; cases hc
  rcases hx with hk | hk
  · refine wpAny_storeName_local hk hn (fun h' hn' hs=>?_) hcls
    obtain ⟨oL,_,_,hoL,_⟩:=id hn
    refine h _ ⟨I.ok,I.os,I.bare,⟨fun b o e n hb hx=>?_,fun b o e n hb hx=>?_,I.base.free,fun b o e hx=>?_,I.base.tups,I.base.frzs,I.base.tbls⟩,⟨_,hn',fun j y v' e1 e2 e3=>?_⟩,fun y c e=>?_,I.free,I.freeC,fun p hp=>?_,tracked ⟨oL,hoL,I.free⟩ hs,by simpa using I.len⟩ ⟨_,hs,.inl rfl⟩
    · exact (hs.2 b (Nat.ne_of_lt (Nat.lt_of_lt_of_le (Heap.lt_size e) I.ok.above))).trans (I.base.keep b o e n hb hx)
    · obtain ⟨sl,e1⟩:=I.base.slot b o e n hb hx
      exact ⟨sl,(hs.2 b (Nat.ne_of_lt (Nat.lt_of_lt_of_le (Heap.lt_size e) I.ok.above))).trans e1⟩
    · obtain ⟨o',e1⟩:=I.base.there b o e hx
      exact ⟨o',(hs.2 b (Nat.ne_of_lt (Nat.lt_of_lt_of_le (Heap.lt_size e) I.ok.above))).trans e1⟩
    · by_cases hj:j=i
      · subst hj
        rw [hi] at e1; cases e1
        rw [List.getElem?_set_self hiσ] at e2
        cases e2
        exact ⟨u,r,.inl ⟨hk,by simp⟩⟩
      · rw [List.getElem?_set_ne (Ne.symm hj)] at e2
        obtain ⟨u',r',q⟩:=hl j y v' e1 e2 e3
        refine ⟨u',r',?_⟩
        rcases q with ⟨k,e⟩ | ⟨k,c,e,z⟩
        · refine .inl ⟨k,?_⟩
          have:y≠x:=fun e=>hj (nodup_ix hN e1 (e ▸ hi))
          simp [this,e]
        · exact .inr ⟨k,c,e,z.sameBut hs (cne y c e)⟩
    · obtain ⟨w',z⟩:=I.cell y c e
      exact ⟨w',z.sameBut hs (cne y c e)⟩
    · obtain ⟨e,n,ne,nf,d⟩:=I.pin p hp
      exact ⟨(hs.2 p.1 ne).trans e,n,ne,nf,d⟩
  · have hfn:X.fn x=true:=by
      rcases hf with z | z
      · exact z
      · rw [z] at hk; cases hk
    obtain ⟨c,hc⟩:=I.ok.has x (.inl hk)
    obtain ⟨w',z⟩:=I.cell x c hc
    refine wpAny_storeName_cell I.ok.kind hk hc z (fun h' hc' hs=>?_)
    obtain ⟨oc,hoc,hocd⟩:=id z
    refine h { s with heap:=h' } ⟨I.ok,I.os,I.bare,⟨fun b o e n hb hx=>?_,fun b o e n hb hx=>?_,I.base.free,fun b o e hx=>?_,I.base.tups,I.base.frzs,I.base.tbls⟩,⟨m,hn.sameBut hs (Ne.symm (cne x c hc)),fun j y v' e1 e2 e3=>?_⟩,fun y c' e=>?_,I.free,I.freeC,fun p hp=>?_,tracked ⟨oc,hoc,I.freeC x c hc⟩ hs,by simpa using I.len⟩ ⟨c,hs,.inr hc⟩
    · exact (hs.2 b (Nat.ne_of_lt (Nat.lt_of_lt_of_le (Heap.lt_size e) (I.ok.cab x c hfn hc)))).trans (I.base.keep b o e n hb hx)
    · obtain ⟨sl,e1⟩:=I.base.slot b o e n hb hx
      exact ⟨sl,(hs.2 b (Nat.ne_of_lt (Nat.lt_of_lt_of_le (Heap.lt_size e) (I.ok.cab x c hfn hc)))).trans e1⟩
    · obtain ⟨o',e1⟩:=I.base.there b o e hx
      exact ⟨o',(hs.2 b (Nat.ne_of_lt (Nat.lt_of_lt_of_le (Heap.lt_size e) (I.ok.cab x c hfn hc)))).trans e1⟩
    · by_cases hj:j=i
      · subst hj
        rw [hi] at e1; cases e1
        rw [List.getElem?_set_self hiσ] at e2
        cases e2
        exact ⟨u,r,.inr ⟨.inl hk,c,hc,hc'⟩⟩
      · rw [List.getElem?_set_ne (Ne.symm hj)] at e2
        obtain ⟨u',r',q⟩:=hl j y v' e1 e2 e3
        refine ⟨u',r',?_⟩
        rcases q with q | ⟨k,c',e,z'⟩
        · exact .inl q
        · refine .inr ⟨k,c',e,z'.sameBut hs ?_⟩
          rintro rfl
          exact hj (nodup_ix hN e1 (I.ok.inj _ _ _ e hc ▸ hi))
    · by_cases hcc:c'=c
      · subst hcc; exact ⟨_,hc'⟩
      · obtain ⟨w2,z2⟩:=I.cell y c' e
        exact ⟨w2,z2.sameBut hs hcc⟩
    · obtain ⟨e,n,ne,nf,d⟩:=I.pin p hp
      refine ⟨(hs.2 p.1 ?_).trans e,n,ne,nf,d⟩
      intro q
      rw [q,hoc] at e
      have q':oc=p.2:=Option.some.inj e
      exact d w' (by rw [← q']; exact hocd)
theorem store_ok {M:Model} {A:Around} {E:Value→Shared→Prop} {i:Nat} {x:Str} {v:V} {u:Value} {Q:Unit→Shared→Prop} (I:Inv X pins σ H s) (hN:X.N.Nodup) (hi:X.N[i]?=some x) (hx:Loc X.env.scope x) (r:RelV v u)
    (h:∀ s',Inv X pins (σ.set i (some v)) H s'→Q () s') (hf:X.fn x=true∨X.env.scope.names.lookup x=some .local:=by first | exact .inl rfl | exact .inr rfl | assumption):wpAny M A (storeName X.env x u) Q E s :=
  store_ok2 I hN hi hx r (fun s' I' _=>h s' I') hf
theorem Inv.call' {s':Shared} {ch:List Addr} (I:Inv X pins σ H s) (ho:s'.os=s.os) (u:Un (frs X.stack) ch H H' s.heap s'.heap) (hok:HOk X.prog X.w H' s'.heap) (hg:AllBare s'.gens)
    (hch:∀ b∈ch,(b∈X.ex∨X.s₀.heap.objs.size≤b)∧b≠X.env.locals∧(∀ x c,X.env.cells.lookup x=some c→c≠b)∧∀ p∈X.pn++pins,p.1≠b):Inv X pins σ H' s':=by
  obtain ⟨h',g',d',t',o'⟩:=s'
  have e:o'=s.os:=ho
  subst e
  exact I.call (g':=g') (t':=t') (d':=d') u hok hg hch
end
abbrev XK:=Value→Option Addr→Hp→Prop
abbrev St:=List (Option V)
abbrev VK:=V→Hp→Prop
abbrev TE:=St→Hp→VK→Prop
abbrev TT:=St→Hp→(Bool→Hp→Prop)→Prop
abbrev TA:=St→Hp→(List V→Hp→Prop)→Prop
structure Ends where
  nx:St→Hp→Prop
  rt:VK
  bk:St→Hp→Prop:=fun _ _=>False
  ct:St→Hp→Prop:=fun _ _=>False
abbrev TS:=Ends→St→Hp→Prop
def EP (X:Cx) (pins:List (Addr × Obj)) (σ:St) (Q:VK) (u:Value) (s':Shared):Prop:=∃ v H',Inv X pins σ H' s'∧RelV v u∧Q v H'
def TP (X:Cx) (pins:List (Addr × Obj)) (σ:St) (Q:Bool→Hp→Prop) (b:Bool) (s':Shared):Prop:=∃ H',Inv X pins σ H' s'∧Q b H'
def AP (X:Cx) (pins:List (Addr × Obj)) (σ:St) (Q:List V→Hp→Prop) (us:List Value) (s':Shared):Prop:=∃ vs H',Inv X pins σ H' s'∧Vals vs us∧Q vs H'
def SP (X:Cx) (pins:List (Addr × Obj)) (D:Ends) (f:Flow) (s':Shared):Prop :=
  match f with
  | .next=>∃ σ' H',Inv X pins σ' H' s'∧D.nx σ' H'
  | .brk=>∃ σ' H',Inv X pins σ' H' s'∧D.bk σ' H'
  | .cont=>∃ σ' H',Inv X pins σ' H' s'∧D.ct σ' H'
  | .ret u=>∃ v σ' H',Inv X pins σ' H' s'∧RelV v u∧D.rt v H'
def PE (X:Cx) (e:Expr) (t:TE):Prop :=
  ∀ (pins:List (Addr × Obj)) (s:Shared) (σ:St) (H:Hp) (Q:VK),Inv X pins σ H s→t σ H Q→wpAny (model X.prog X.w) X.A (eval e X.env) (EP X pins σ Q) X.xe s
def PT (X:Cx) (e:Expr) (t:TT):Prop :=
  ∀ (pins:List (Addr × Obj)) (s:Shared) (σ:St) (H:Hp) (Q:Bool→Hp→Prop),Inv X pins σ H s→t σ H Q→wpAny (model X.prog X.w) X.A (isTrue e X.env (eval e X.env)) (TP X pins σ Q) X.xe s
def PW (X:Cx) (e:Expr) (t:TT):Prop :=
  ∀ (whole:Sem Value) (pins:List (Addr × Obj)) (s:Shared) (σ:St) (H:Hp) (Q:Bool→Hp→Prop),Inv X pins σ H s→t σ H Q→wpAny (model X.prog X.w) X.A (isTrue e X.env whole) (TP X pins σ Q) X.xe s
theorem PW.pt {X:Cx} {e:Expr} {t:TT} (h:PW X e t):PT X e t:=h _
def PA (X:Cx) (es:List Expr) (t:TA):Prop :=
  ∀ (pos:Pos) (pins:List (Addr × Obj)) (s:Shared) (σ:St) (H:Hp) (Q:List V→Hp→Prop),Inv X pins σ H s→t σ H Q→wpAny (model X.prog X.w) X.A (spliced (backTo pos (starEach es X.env))) (AP X pins σ Q) X.xe s
def PS (X:Cx) (st:Stmt) (t:TS):Prop :=
  ∀ (pins:List (Addr × Obj)) (s:Shared) (σ:St) (H:Hp) (D:Ends),Inv X pins σ H s→t D σ H→wpAny (model X.prog X.w) X.A (exec st X.env) (SP X pins D) X.xe s
def PSs (X:Cx) (st:List Stmt) (t:TS):Prop :=
  ∀ (pins:List (Addr × Obj)) (s:Shared) (σ:St) (H:Hp) (D:Ends),Inv X pins σ H s→t D σ H→wpAny (model X.prog X.w) X.A (execs st X.env) (SP X pins D) X.xe s
theorem thn {α:Type} {t:Sem α} {Q Q':α→Shared→Prop} {M:Model} {A:Around} {E:Value→Shared→Prop} {s:Shared} (h:wpAny M A t Q E s) (hQ:∀ a s,Q a s→Q' a s):wpAny M A t Q' E s:=wpAny_mono h hQ fun _ _ x=>x
end L2
namespace L2
open PySem PySem.Spec PyProof.Rows
section
variable {X:Cx}
def tVar (i:Nat):TE:=fun σ H Q=>∃ v,σ[i]?=some (some v)∧Q v H
def tC (v:V):TE:=fun _ H Q=>Q v H
theorem pe_var {i:Nat} {x:Str} {pos:Pos} (hN:X.N[i]?=some x) (hv:Vis X.env.scope x) (hd:(x == ("__debug__" : Str))=false:=by decide) (hcd:(x == ("__classdict__" : Str))=false:=by decide):PE X (.Name x pos) (tVar i):=by
  intro pins s σ H Q I h
  obtain ⟨v,e,h⟩:=h
  obtain ⟨m,hn,hl⟩:=I.loc
  obtain ⟨u,r,l⟩:=hl i x v hN e hv
  have fin:EP X pins σ Q u s:=⟨v,H,I,r,h⟩
  rcases l with ⟨hk,hm⟩ | ⟨hk,c,hc,hcell⟩
  · exact wpAny_Name (wpAny_loadName_local I.ok.kind hk hn hm fin) hd
  · rcases hk with hk | hk
    · exact wpAny_Name (wpAny_loadName_cell I.ok.kind hk hc hcell fin) hd
    · exact wpAny_Name (wpAny_loadName_free I.ok.kind hk hc hcell fin hcd) hd
theorem pe_int {i j pos}:PE X (.Constant (.int i) j pos) (tC (.int i)):=fun _ _ _ H _ I h=>wpAny_Constant_int ⟨.int i,H,I.tok _,⟨_,rfl⟩,h⟩
theorem pe_bl {b j pos}:PE X (.Constant (.bool b) j pos) (tC (.bl b)):=fun _ _ _ H _ I h=>Constant_bool ⟨.bl b,H,I,rfl,h⟩
theorem pe_non {j pos}:PE X (.Constant .none j pos) (tC .non):=fun _ _ _ H _ I h=>Constant_none ⟨.non,H,I,rfl,h⟩
theorem pe_str {x j pos}:PE X (.Constant (.str x) j pos) (tC (.str x)):=fun _ _ _ H _ I h=>Calls.Constant_str ⟨.str x,H,I.tok _,⟨_,rfl⟩,h⟩
def Gl (X:Cx) (x:Str):Prop:=X.env.kindOf x=some .globalImplicit
theorem ld_glob {E:Value→Shared→Prop} {pins:List (Addr × Obj)} {s:Shared} {σ:St} {H:Hp} {x:Str} {u:Value} {pos:Pos} {Q:Value→Shared→Prop} (I:Inv X pins σ H s) (hg:Gl X x) (hm:X.mg x=some u) (h:Q u s)
    (hd:(x == ("__debug__" : Str))=false:=by decide):wpAny (model X.prog X.w) X.A (eval (.Name x pos) X.env) Q E s :=
  Calls.Name_function_global I.ok.kind hg (Calls.loadGlobal_global (by rw [I.ok.glob]; exact I.mod.glob.keeps I.bk) hm h) hd
theorem ld_blt {E:Value→Shared→Prop} {pins:List (Addr × Obj)} {s:Shared} {σ:St} {H:Hp} {x:Str} {u:Value} {pos:Pos} {Q:Value→Shared→Prop} (I:Inv X pins σ H s) (hg:Gl X x) (hm:X.mg x=none) (hv:bootBuiltins x=some u) (h:Q u s)
    (hn:x ≠ "__name__" := by decide) (hd:(x == ("__debug__" : Str))=false:=by decide):wpAny (model X.prog X.w) X.A (eval (.Name x pos) X.env) Q E s:=by
  obtain ⟨mb,h1,h2⟩:=I.mod.blt
  exact Calls.Name_function_global I.ok.kind hg (Calls.loadGlobal_builtin (by rw [I.ok.glob]; exact I.mod.glob.keeps I.bk) hm (by rw [I.ok.blt]; exact h1.keeps I.bk) ((h2 x hn).trans hv) h) hd
theorem pe_glob {x:Str} {v:V} {u:Value} {pos:Pos} (hg:Gl X x) (hm:X.mg x=some u) (r:RelV v u) (hd:(x == ("__debug__" : Str))=false:=by decide):PE X (.Name x pos) (tC v) :=
  fun _ _ _ H _ I h=>ld_glob I hg hm ⟨v,H,I,r,h⟩ hd
theorem pe_bltn {x:Str} {v:V} {u:Value} {pos:Pos} (hg:Gl X x) (hm:X.mg x=none) (hv:bootBuiltins x=some u) (r:RelV v u) (hn:x ≠ "__name__" := by decide) (hd:(x == ("__debug__" : Str))=false:=by decide):PE X (.Name x pos) (tC v) :=
  fun _ _ _ H _ I h=>ld_blt I hg hm hv ⟨v,H,I,r,h⟩ hn hd
variable {a b:Expr} {ta tb:TE} {pos:Pos}
def tB (t:TE):TT:=fun σ H Q=>t σ H fun x H1=>∃ c,x=.bl c∧Q c H1
theorem pt_val {e:Expr} {t:TE} (h:PE X e t) (he:∀ whole,isTrue e X.env whole=(do let v ← whole; standAt e.pos; holding [v] (truthy v)):=by intro _; rfl):PT X e (tB t):=by
  intro pins s σ H Q I hw
  refine isTrue_plain (thn (h pins s σ H _ I hw) fun v s1 ⟨x,H1,I1,r1,q1⟩=>?_) (he _)
  obtain ⟨d,rfl,q⟩:=q1
  cases r1
  exact wpAny_truthy_bool ⟨H1,I1,q⟩
variable {tA tB':TT} {rest:List Expr}
def tAnd (t u:TT):TT:=fun σ H Q=>t σ H fun c H1=>if c=true then u σ H1 Q else Q false H1
def tOr (t u:TT):TT:=fun σ H Q=>t σ H fun c H1=>if c=true then Q true H1 else u σ H1 Q
def tNot (t:TT):TT:=fun σ H Q=>t σ H fun c H1=>Q (!c) H1
theorem pw_and1 (ha:PT X a tA):PW X (.BoolOp .And [a] pos) tA:=by
  intro wh pins s σ H Q I h
  refine isTrue_and (thn (ha pins s σ H Q I h) fun c s1 e=>?_)
  cases c with
  | true=>exact isTrue_and_nil e
  | false=>exact e
theorem pw_or1 (ha:PT X a tA):PW X (.BoolOp .Or [a] pos) tA:=by
  intro wh pins s σ H Q I h
  refine isTrue_or (thn (ha pins s σ H Q I h) fun c s1 e=>?_)
  cases c with
  | false=>exact isTrue_or_nil e
  | true=>exact e
theorem pw_and (ha:PT X a tA) (hb:PW X (.BoolOp .And (b::rest) pos) tB'):PW X (.BoolOp .And (a::b::rest) pos) (tAnd tA tB'):=by
  intro wh pins s σ H Q I h
  refine isTrue_and (thn (ha pins s σ H _ I h) fun c s1 ⟨H1,I1,q1⟩=>?_)
  cases c with
  | true=>exact hb wh pins s1 σ H1 Q I1 q1
  | false=>exact ⟨H1,I1,q1⟩
theorem pw_or (ha:PT X a tA) (hb:PW X (.BoolOp .Or (b::rest) pos) tB'):PW X (.BoolOp .Or (a::b::rest) pos) (tOr tA tB'):=by
  intro wh pins s σ H Q I h
  refine isTrue_or (thn (ha pins s σ H _ I h) fun c s1 ⟨H1,I1,q1⟩=>?_)
  cases c with
  | true=>exact ⟨H1,I1,q1⟩
  | false=>exact hb wh pins s1 σ H1 Q I1 q1
theorem pt_not (ha:PT X a tA):PT X (.UnaryOp .Not a pos) (tNot tA):=by
  intro pins s σ H Q I h
  exact isTrue_not (ha pins s σ H (fun c H1=>Q (!c) H1) I h)
def tAndV (ta tb:TE):TE:=fun σ H Q=>ta σ H fun x H1=>∃ c,x=.bl c∧if c=true then tb σ H1 Q else Q (.bl false) H1
def tNotV (ta:TE):TE:=fun σ H Q=>ta σ H fun x H1=>∃ c,x=.bl c∧Q (.bl (!c)) H1
theorem pe_one {op} {t:TE} (h:PE X a t):PE X (.BoolOp op [a] pos) t:=fun pins s σ H Q I hw=>BoolOp_one (h pins s σ H Q I hw)
theorem pe_and (ha:PE X a ta) (hb:PE X (.BoolOp .And (b::rest) pos) tb):PE X (.BoolOp .And (a::b::rest) pos) (tAndV ta tb):=by
  intro pins s σ H Q I h
  refine BoolOp_and (thn (ha pins s σ H _ I h) fun v s1 ⟨x,H1,I1,r1,q1⟩=>?_)
  obtain ⟨c,rfl,q1⟩:=q1
  cases r1
  refine wpAny_truthy_bool ?_
  cases c with
  | true=>exact hb pins s1 σ H1 Q I1 q1
  | false=>exact ⟨.bl false,H1,I1,rfl,q1⟩
theorem pe_not (ha:PE X a ta):PE X (.UnaryOp .Not a pos) (tNotV ta):=by
  intro pins s σ H Q I h
  refine UnaryOp_ (thn (ha pins s σ H _ I h) fun v s1 ⟨x,H1,I1,r1,q1⟩=>?_)
  obtain ⟨c,rfl,q1⟩:=q1
  cases r1
  exact not_of (wpAny_truthy_bool ⟨.bl (!c),H1,I1,rfl,q1⟩)
def tIf (t:TT) (ta tb:TE):TE:=fun σ H Q=>t σ H fun c H1=>if c=true then ta σ H1 Q else tb σ H1 Q
theorem pe_ifExp {c:Expr} (hc:PT X c tA) (ha:PE X a ta) (hb:PE X b tb):PE X (.IfExp c a b pos) (tIf tA ta tb):=by
  intro pins s σ H Q I h
  refine wpAny_IfExp (thn (hc pins s σ H _ I h) fun d s1 ⟨H1,I1,q1⟩=>?_)
  cases d with
  | true=>exact ha pins s1 σ H1 Q I1 q1
  | false=>exact hb pins s1 σ H1 Q I1 q1
end
end L2
namespace L2
open PySem PySem.Spec PyProof.Rows
def SqL (K:PySem.W.Frag) (H:Hp) (a:Addr) (xs:List V):Prop :=
  Rd H a (.lst xs) ∨
    ∃ (o:Obj) (its:Array Value) (n:Nat),K.lookup a=some o∧o.cls=.type "list" ∧ o.dict=none∧o.data=.seq its n∧its.size≤sizeLine∧Vals xs its.toList
def SqT (K:PySem.W.Frag) (H:Hp) (a:Addr) (xs:List V):Prop :=
  Rd H a (.tup xs) ∨
    ∃ (o:Obj) (its:Array Value) (n:Nat),K.lookup a=some o∧o.cls=.type "tuple" ∧ o.data=.seq its n∧its.size≤sizeLine∧Vals xs its.toList
def absV:Value→Option V
  | .none=>some .non
  | .bool b=>some (.bl b)
  | .int i _=>some (.int i)
  | .str x _=>some (.str x)
  | .bytes b _=>some (.byt b)
  | .float b _=>some (.flt b)
  | .ref a=>some (.ref a)
  | .type n=>some (.ty n)
  | _=>none
theorem RelV.abs {x:V} {u:Value} (r:RelV x u):absV u=some x:=by
  cases x with
  | non=>cases r; rfl
  | bl _=>cases r; rfl
  | int _=>obtain ⟨t,rfl⟩:=r; rfl
  | str _=>obtain ⟨t,rfl⟩:=r; rfl
  | byt _=>obtain ⟨t,rfl⟩:=r; rfl
  | flt _=>obtain ⟨t,rfl⟩:=r; rfl
  | ref _=>cases r; rfl
  | ty _=>cases r; rfl
theorem RelV.inj {x y:V} {u:Value} (r:RelV x u) (q:RelV y u):x=y:=Option.some.inj (r.abs.symm.trans q.abs)
theorem Vals.inj:∀ {xs ys:List V} {us:List Value},Vals xs us→Vals ys us→xs=ys
  | _,_,_,.nil,.nil=>rfl
  | _,_,_,.cons r t,.cons r' t'=>by rw [r.inj r',Vals.inj t t']
section
variable {X:Cx} {pins:List (Addr × Obj)} {σ:St} {H:Hp} {s:Shared} {a:Addr} {xs ys:List V}
theorem SqL.of {K:PySem.W.Frag} (h:H a=some (.lst xs)):SqL K H a xs:=.inl (.inl h)
theorem SqT.of {K:PySem.W.Frag} (h:H a=some (.tup xs)):SqT K H a xs:=.inl (.inl h)
theorem Inv.list (I:Inv X pins σ H s) (h:SqL X.K H a xs):∃ its:List Value,Vals xs its∧PlainL s.heap a its.toArray∧xs.length≤sizeLine:=by
  rcases h with h | ⟨o,its,n,hk,hc,hd,hs,hz,r⟩
  · obtain ⟨z,its,n,r,e⟩:=h.ok I.hok
    exact ⟨its,r,⟨_,n,e,rfl,rfl,rfl⟩,z⟩
  · refine ⟨its.toList,r,⟨o,n,I.kIn a o hk,hc,hd,by simpa using hs⟩,?_⟩
    have e:=r.length
    simp only [Array.length_toList] at e
    omega
theorem Inv.tuple (I:Inv X pins σ H s) (h:SqT X.K H a xs):∃ its:List Value,Vals xs its∧IsTup s.heap a its.toArray∧xs.length≤sizeLine:=by
  rcases h with h | ⟨o,its,n,hk,hc,hs,hz,r⟩
  · obtain ⟨⟨z,_⟩,its,r,p⟩:=h.ok I.hok
    exact ⟨its,r,p,z⟩
  · refine ⟨its.toList,r,⟨o,I.kIn a o hk,hc,n,by simpa using hs⟩,?_⟩
    have e:=r.length
    simp only [Array.length_toList] at e
    omega
theorem Inv.list_inj (I:Inv X pins σ H s) (h:SqL X.K H a xs) (h':SqL X.K H a ys):xs=ys:=by
  obtain ⟨its,r,⟨o,n,e,_,_,d⟩,_⟩:=I.list h
  obtain ⟨its',r',⟨o',n',e',_,_,d'⟩,_⟩:=I.list h'
  rw [e] at e'; cases e'
  rw [d] at d'
  injection d' with d1 _
  have:its=its':=by simpa using congrArg Array.toList d1
  subst this
  exact r.inj r'
theorem Inv.tuple_inj (I:Inv X pins σ H s) (h:SqT X.K H a xs) (h':SqT X.K H a ys):xs=ys:=by
  obtain ⟨its,r,⟨o,e,_,n,d⟩,_⟩:=I.tuple h
  obtain ⟨its',r',⟨o',e',_,n',d'⟩,_⟩:=I.tuple h'
  rw [e] at e'; cases e'
  rw [d] at d'
  injection d' with d1 _
  have:its=its':=by simpa using congrArg Array.toList d1
  subst this
  exact r.inj r'
end
abbrev Cx.wish (X:Cx) (E:Value→Shared→Prop):Cx:={ X with xe:=E }
abbrev Cx.nox (X:Cx):Cx:=X.wish fun _ _=>False
theorem Cx.Ok.wish {X:Cx} (ok:X.Ok) (E:Value→Shared→Prop):(X.wish E).Ok :=
  ⟨ok.mod,ok.kind,ok.glob,ok.blt,ok.above,ok.inj,ok.has,ok.cab,ok.hd,ok.frames,ok.stk,ok.exf,ok.bs,ok.bsz,ok.noex,ok.exfs,ok.funs,ok.frf⟩
theorem Cx.Ok.unwish {X:Cx} {E:Value→Shared→Prop} (ok:(X.wish E).Ok):X.Ok :=
  ⟨ok.mod,ok.kind,ok.glob,ok.blt,ok.above,ok.inj,ok.has,ok.cab,ok.hd,ok.frames,ok.stk,ok.exf,ok.bs,ok.bsz,ok.noex,ok.exfs,ok.funs,ok.frf⟩
section
variable {X:Cx} {pins:List (Addr × Obj)} {σ:St} {H:Hp} {s:Shared} {E:Value→Shared→Prop}
theorem Inv.wish (I:Inv X pins σ H s) (E:Value→Shared→Prop):Inv (X.wish E) pins σ H s:=⟨I.ok.wish E,I.os,I.bare,I.base,I.loc,I.cell,I.free,I.freeC,I.pin,I.hok,I.len⟩
theorem Inv.unwish (I:Inv (X.wish E) pins σ H s):Inv X pins σ H s:=⟨I.ok.unwish,I.os,I.bare,I.base,I.loc,I.cell,I.free,I.freeC,I.pin,I.hok,I.len⟩
theorem SP.unwish {D:Ends} {f:Flow} {s':Shared} (h:SP (X.wish E) pins D f s'):SP X pins D f s':=by
  cases f with
  | next=>obtain ⟨σ',H',I,q⟩:=h; exact ⟨σ',H',I.unwish,q⟩
  | brk=>obtain ⟨σ',H',I,q⟩:=h; exact ⟨σ',H',I.unwish,q⟩
  | cont=>obtain ⟨σ',H',I,q⟩:=h; exact ⟨σ',H',I.unwish,q⟩
  | ret u=>obtain ⟨v,σ',H',I,r,q⟩:=h; exact ⟨v,σ',H',I.unwish,r,q⟩
theorem PSs.nox {st:List Stmt} {t:TS} (h:PSs X.nox st t):PSs X st t:=fun pins s σ H D I hw =>
  wpAny_mono (h pins s σ H D (I.wish _) hw) (fun _ _ q=>q.unwish) fun _ _ z=>False.elim z
end
section
variable {X:Cx} {st:Stmt} {rest:List Stmt} {t u:TS} {e:Expr} {te:TE} {pos:Pos}
def tNext:TS:=fun D σ H=>D.nx σ H
def tSeq (t u:TS):TS:=fun D σ H=>t { D with nx:=u D } σ H
theorem pss_nil:PSs X [] tNext:=fun _ _ σ H _ I h=>wpAny_execs_nil ⟨σ,H,I,h⟩
theorem pss_cons (h1:PS X st t) (h2:PSs X rest u):PSs X (st::rest) (tSeq t u):=by
  intro pins s σ H D I h
  refine wpAny_execs_cons (thn (h1 pins s σ H { D with nx:=u D } I h) fun f s1 q=>?_)
  cases f with
  | next =>
    obtain ⟨σ',H',I',q⟩:=q
    exact h2 pins s1 σ' H' D I' q
  | ret v=>exact q
  | brk=>exact q
  | cont=>exact q
theorem pss_one (h1:PS X st t):PSs X [st] t:=by
  intro pins s σ H D I h
  refine wpAny_execs_cons (thn (h1 pins s σ H D I h) fun f s1 q=>?_)
  cases f with
  | next=>exact wpAny_execs_nil q
  | ret v=>exact q
  | brk=>exact q
  | cont=>exact q
theorem Inv.quiet {pins:List (Addr × Obj)} {σ:St} {H:Hp} {s:Shared} (I:Inv X pins σ H s):interactive X.env=false:=by simp [interactive,I.ok.kind]
def tDrop (te:TE):TS:=fun D σ H=>te σ H fun _ H1=>D.nx σ H1
theorem ps_expr (he:PE X e te) (hs:swapsWith e none pos.line X.env=pure false:=by rfl):PS X (.Expr e pos) (tDrop te):=by
  intro pins s σ H D I h
  exact wpAny_Expr_any (thn (he pins s σ H _ I h) fun v s1 ⟨x,H1,I1,r1,q1⟩=>⟨σ,H1,I1,q1⟩) I.quiet hs
def tRet (te:TE):TS:=fun D σ H=>te σ H D.rt
theorem ps_ret (he:PE X e te):PS X (.Return (some e) pos) (tRet te):=by
  intro pins s σ H D I h
  exact wpAny_Return_some (thn (he pins s σ H _ I h) fun v s1 ⟨x,H1,I1,r1,q1⟩=>⟨x,σ,H1,I1,r1,q1⟩)
def tIfS (c:TT) (t u:TS):TS:=fun D σ H=>c σ H fun b H1=>if b=true then t D σ H1 else u D σ H1
theorem ps_if {c:Expr} {a b:List Stmt} {tc:TT} (hc:PT X c tc) (ha:PSs X a t) (hb:PSs X b u):PS X (.If c a b pos) (tIfS tc t u):=by
  intro pins s σ H D I h
  refine wpAny_If (thn (hc pins s σ H _ I h) fun d s1 ⟨H1,I1,q1⟩=>?_)
  cases d with
  | true=>exact ha pins s1 σ H1 D I1 q1
  | false=>exact hb pins s1 σ H1 D I1 q1
end
abbrev TG:=V→St→Hp→(St→Hp→Prop)→Prop
abbrev TGs:=List V→St→Hp→(St→Hp→Prop)→Prop
def PG (X:Cx) (target:Expr) (t:TG):Prop :=
  ∀ (pins:List (Addr × Obj)) (s:Shared) (σ:St) (H:Hp) (v:V) (u:Value) (Q:St→Hp→Prop),Inv X pins σ H s→RelV v u→t v σ H Q →
    wpAny (model X.prog X.w) X.A (assign target X.env u) (fun _ s'=>∃ σ' H',Inv X pins σ' H' s'∧Q σ' H') X.xe s
def PGs (X:Cx) (ts:List Expr) (t:TGs):Prop :=
  ∀ (pins:List (Addr × Obj)) (s:Shared) (σ:St) (H:Hp) (vs:List V) (us:List Value) (Q:St→Hp→Prop),Inv X pins σ H s→Vals vs us→t vs σ H Q →
    wpAny (model X.prog X.w) X.A (assignInOrder ((assignEach ts X.env).map (·.2)) us) (fun _ s'=>∃ σ' H',Inv X pins σ' H' s'∧Q σ' H') X.xe s
abbrev TSet:=V→V→V→Hp→(Hp→Prop)→Prop
def PSet (X:Cx) (t:TSet):Prop :=
  ∀ (pins:List (Addr × Obj)) (s:Shared) (σ:St) (H:Hp) (o i v:V) (ov iv u:Value) (Q:Hp→Prop),Inv X pins σ H s→RelV o ov→RelV i iv→RelV v u→t o i v H Q →
    wpAny (model X.prog X.w) X.A (setItem ov iv u) (fun _ s'=>∃ H',Inv X pins σ H' s'∧Q H') X.xe s
section
variable {X:Cx} {pos:Pos}
def gName (i:Nat):TG:=fun v σ H Q=>Q (σ.set i (some v)) H
theorem pg_name {i:Nat} {x:Str} (hN:X.N.Nodup) (hi:X.N[i]?=some x) (hx:Loc X.env.scope x) (hf:X.fn x=true∨X.env.scope.names.lookup x=some .local:=by first | exact .inl rfl | exact .inr rfl | assumption):PG X (.Name x pos) (gName i):=by
  intro pins s σ H v u Q I r h
  exact wpAny_assign_Name (store_ok I hN hi hx r (fun s' I'=>⟨_,H,I',h⟩) hf)
def gNil:TGs:=fun vs σ H Q=>vs=[]∧Q σ H
def gCons (t:TG) (u:TGs):TGs:=fun vs σ H Q=>∃ v r,vs=v::r∧t v σ H fun σ' H'=>u r σ' H' Q
theorem pgs_nil:PGs X [] gNil:=by
  intro pins s σ H vs us Q I r h
  obtain ⟨e,h⟩:=h
  subst e
  cases r
  exact assignInOrder_nil ⟨σ,H,I,h⟩
theorem pgs_cons {e:Expr} {es:List Expr} {t:TG} {u:TGs} (h1:PG X e t) (h2:PGs X es u)
    (hs:(assignEach (e::es) X.env).map (·.2)=assign e X.env::(assignEach es X.env).map (·.2):=by rfl):PGs X (e::es) (gCons t u):=by
  intro pins s σ H vs us Q I r h
  obtain ⟨v,vr,e1,h⟩:=h
  subst e1
  cases r with
  | cons r rr =>
    rw [hs]
    refine assignInOrder_cons (thn (h1 pins s σ H _ _ _ I r h) fun _ s1 ⟨σ1,H1,I1,q1⟩=>?_)
    exact h2 pins s1 σ1 H1 _ _ Q I1 rr q1
def gTup (K:PySem.W.Frag) (n:Nat) (t:TGs):TG:=fun v σ H Q=>∃ a xs,v=.ref a∧SqT K H a xs∧xs.length=n∧t xs σ H Q
theorem pg_tup {es:List Expr} {k:Nat} {t:TGs} {n:Nat} (hc:X.calm=true) (h:PGs X es t)
    (hn:(assignEach es X.env).length=n:=by rfl) (hst:(assignEach es X.env).findIdx? (·.1)=none:=by rfl):PG X (.Tuple es k pos) (gTup X.K n t):=by
  intro pins s σ H v u Q I r hw
  obtain ⟨a,xs,e1,hq,hl,hw⟩:=hw
  subst e1
  cases r
  obtain ⟨its,rv,ht,hz⟩:=I.tuple hq
  refine assign_Tuple_tuple (I.ok.hd hc) ht (by simp [hn,← hl,rv.length]) hst fun h' hx=>?_
  have I1:Inv X pins σ H { s with heap:=h' }:=I.kept (t':=s.toks) fun b o e=>hx b o (Nat.ne_of_lt (Heap.lt_size e)) e
  exact h pins _ σ H xs _ Q I1 (by simpa using rv) hw
def gSub (to ti:TE) (t:TSet):TG:=fun v σ H Q=>to σ H fun o H1=>ti σ H1 fun i H2=>t o i v H2 fun H3=>Q σ H3
theorem pg_sub {o i:Expr} {to ti:TE} {t:TSet} (ho:PE X o to) (hi:PE X i ti) (hs:PSet X t)
    (ha:∀ v,assign (.Subscript o i pos) X.env v=(do
      let ov ← holding [v] (eval o X.env)
      let iv ← holding [v,ov] (eval i X.env)
      standAt pos
      holding [v,ov,iv] (setItem ov iv v)
      release [v,ov,iv] []):=by intro _; rfl):PG X (.Subscript o i pos) (gSub to ti t):=by
  intro pins s σ H v u Q I r h
  rw [ha]
  refine wpAny_bind (wpAny_holding (thn (ho pins s σ H _ I h) fun ov s1 ⟨x,H1,I1,r1,q1⟩=>?_))
  refine wpAny_bind (wpAny_holding (thn (hi pins s1 σ H1 _ I1 q1) fun iv s2 ⟨y,H2,I2,r2,q2⟩=>?_))
  refine wpAny_bind (wpAny_standAt (wpAny_bind (wpAny_holding (thn (hs pins s2 σ H2 x y v ov iv u _ I2 r1 r2 r q2) fun _ s3 ⟨H3,I3,q3⟩=>?_))))
  exact wpAny_release ⟨σ,H3,I3,q3⟩
def tAsg (te:TE) (g:TG):TS:=fun D σ H=>te σ H fun x H1=>g x σ H1 D.nx
theorem ps_asg {tg e:Expr} {te:TE} {g:TG} (he:PE X e te) (hg:PG X tg g) (hs:swapsWithSole [tg] e pos.line X.env=pure false:=by rfl) (hw:swappedStores [tg] e X.env=pure none:=by rfl)
    (h1:(assignEach [tg] X.env).map (·.2)=[assign tg X.env]:=by rfl):PS X (.Assign [tg] e pos) (tAsg te g):=by
  intro pins s σ H D I h
  refine wpAny_Assign_stores (thn (he pins s σ H _ I h) fun v s1 ⟨x,H1,I1,r1,q1⟩=>?_) hs hw
  rw [h1]
  exact thn (hg pins s1 σ H1 x v _ I1 r1 q1) fun _ s2 q=>q
theorem ps_set {i:Nat} {x:Str} {e:Expr} {te:TE} {pos':Pos} (hN:X.N.Nodup) (hi:X.N[i]?=some x) (hx:Loc X.env.scope x) (he:PE X e te) (hs:swapsWith e (some (.Name x pos')) pos.line X.env=pure false:=by rfl) (hf:X.fn x=true∨X.env.scope.names.lookup x=some .local:=by first | exact .inl rfl | exact .inr rfl | assumption) :
    PS X (.Assign [.Name x pos'] e pos) (tAsg te (gName i)):=by
  intro pins s σ H D I h
  refine wpAny_Assign_Name (thn (he pins s σ H _ I h) fun v s1 ⟨y,H1,I1,r1,q1⟩=>?_) hs
  exact store_ok I1 hN hi hx r1 (fun s2 I2=>⟨_,H1,I2,q1⟩) hf
def tPar (i j:Nat) (ta:TA):TS:=fun D σ H=>ta σ H fun vs H1=>∃ v w,vs=[v,w]∧D.nx ((σ.set i (some v)).set j (some w)) H1
theorem ps_par {i j:Nat} {x y:Str} {a b:Expr} {ta:TA} {px py pt:Pos} {kt k2 pt2} (hc:X.calm=true) (hN:X.N.Nodup) (hi:X.N[i]?=some x) (hj:X.N[j]?=some y) (hij:i≠j)
    (hx:X.env.scope.names.lookup x=some .local) (hy:X.env.scope.names.lookup y=some .local) (ha:PA X [a,b] ta)
    (hw:swappedStores [.Tuple [.Name x px,.Name y py] kt pt] (.Tuple [a,b] k2 pt2) X.env=pure (some [x,y]))
    (hs:swapsWithSole [.Tuple [.Name x px,.Name y py] kt pt] (.Tuple [a,b] k2 pt2) pos.line X.env=pure false:=by rfl) :
    PS X (.Assign [.Tuple [.Name x px,.Name y py] kt pt] (.Tuple [a,b] k2 pt2) pos) (tPar i j ta):=by
  intro pins s σ H D I h
  rw [exec_Assign_arm]
  refine wpAny_bind (wpAny_standAt ?_)
  rw [hs]
  refine wpAny_bind (wpAny_pure ?_)
  rw [if_neg (by decide)]
  refine wpAny_bind (Tuple_ (thn (ha _ pins s σ H _ I h) fun us s1 ⟨vs,H1,I1,r1,q1⟩=>?_))
  obtain ⟨v,w,e1,q1⟩:=q1
  subst e1
  obtain ⟨u1,u2,rfl,rv,rw'⟩:∃ u1 u2,us=[u1,u2]∧RelV v u1∧RelV w u2:=by
    cases r1 with
    | cons p q =>
      cases q with
      | cons p' q' =>
        cases q'
        exact ⟨_,_,rfl,p,p'⟩
  refine wpAny_newObj_type ?_ (by show 2≤sizeLine; decide)
  have I2:Inv X pins σ H1 { s1 with heap:=s1.heap.push { cls:=.type "tuple",data:=.seq [u1,u2].toArray } }:=I1.kept (t':=s1.toks) fun b o e=>Heap.get?_push_of_some _ e
  rw [hw]
  refine wpAny_bind (wpAny_pure ?_)
  show wpAny (model X.prog X.w) X.A (do rule "assign.swapped-stores"; let items ← unpackItems (.ref s1.heap.objs.size) 2 none; assignInOrder [fun v=>bindName X.env y v,fun v=>bindName X.env x v] items.reverse; pure Flow.next) _ _ _
  refine wpAny_bind (wpAny_rule (wpAny_bind (unpackItems_tuple (items:=#[u1,u2]) (I.ok.hd hc) (IsTup.new s1.heap _) fun h' hx'=>?_)))
  have I3:=I2.kept (h':=h') (t':=s1.toks) fun b o e=>hx' b o (Nat.ne_of_lt (Heap.lt_size e)) e
  show wpAny _ _ (assignInOrder [fun v=>bindName X.env y v,fun v=>bindName X.env x v] [u2,u1] >>= fun _=>pure Flow.next) _ _ _
  refine wpAny_bind (assignInOrder_cons (wpAny_bindName (store_ok I3 hN hj (.inl hy) rw' (fun s2 I4=>?_) (.inr hy))))
  refine assignInOrder_cons (wpAny_bindName (store_ok I4 hN hi (.inl hx) rv (fun s3 I5=>assignInOrder_nil (wpAny_pure ?_)) (.inr hx)))
  rw [List.set_comm _ _ (Ne.symm hij)] at I5
  exact ⟨_,H1,I5,q1⟩
end
section
variable {X:Cx} {pos:Pos}
def tWhile (c:TT) (tb:TS):TS:=fun D σ H=>∃ W:Nat→St→Hp→Prop,(∃ m,W m σ H)∧∀ m σ H,W m σ H →
  c σ H fun b H1=>if b=true then ∃ N:St→Hp→Prop,(∀ σ' H',N σ' H'→∃ m',m' < m∧W m' σ' H')∧tb { D with nx:=N,ct:=N,bk:=D.nx } σ H1 else D.nx σ H1
theorem ps_while {c:Expr} {body:List Stmt} {tc:TT} {tb:TS} (hp:PassesOwn (model X.prog X.w) X.A X.env X.xe) (hc:PT X c tc) (hb:PSs X body tb):PS X (.While c body [] pos) (tWhile tc tb):=by
  intro pins s σ H D I h
  obtain ⟨W,⟨m0,w0⟩,turn⟩:=h
  refine wpAny_While (codeAny_whileLoop (fun n s'=>∃ σ' H',Inv X pins σ' H' s'∧W n σ' H') ?_ m0 ⟨σ,H,I,w0⟩)
  rintro n s1 ⟨σ1,H1,I1,w1⟩
  refine wpAny_passesOwn hp (thn (hc pins s1 σ1 H1 _ I1 (turn n σ1 H1 w1)) fun b s2 ⟨H2,I2,q2⟩=>?_)
  cases b with
  | true =>
    obtain ⟨N,hN,q2⟩:=q2
    rw [if_pos rfl]
    refine wpAny_passesOwn hp (thn (hb pins s2 σ1 H2 _ I2 q2) fun f s3 q3=>?_)
    cases f with
    | next =>
      obtain ⟨σ3,H3,I3,n3⟩:=q3
      obtain ⟨m',hm,w3⟩:=hN σ3 H3 n3
      exact ⟨m',hm,σ3,H3,I3,w3⟩
    | cont =>
      obtain ⟨σ3,H3,I3,n3⟩:=q3
      obtain ⟨m',hm,w3⟩:=hN σ3 H3 n3
      exact ⟨m',hm,σ3,H3,I3,w3⟩
    | brk=>exact q3
    | ret v=>exact q3
  | false =>
    rw [if_neg Bool.false_ne_true]
    exact wpAny_execs_nil ⟨σ1,H2,I2,q2⟩
end
structure It where
  go:Nat→Hp→Prop
  yld:Nat→Hp→V→Hp→Prop
  stop:Nat→Hp→Prop
def FpOk (X:Cx) (pins:List (Addr × Obj)) (H:Hp) (b:Addr):Prop :=
  H b=none∧b≠X.env.locals∧b ∉ X.fs∧(b∈X.ex∨X.s₀.heap.objs.size≤b)∧(∀ x c,X.env.cells.lookup x=some c→c≠b)∧∀ p∈X.pn++pins,p.1≠b
theorem Inv.fpOk {X:Cx} {pins:List (Addr × Obj)} {σ:St} {H H':Hp} {s:Shared} {b:Addr} (I:Inv X pins σ H s) (hb:s.heap.objs.size≤b) (hn:H' b=none):FpOk X pins H' b:=by
  refine ⟨hn,Nat.ne_of_gt (Nat.lt_of_lt_of_le I.lt hb),I.nofs hb,.inr (Nat.le_trans I.sz hb),fun x c e z=>?_,fun p hp z=>?_⟩
  · obtain ⟨v,q⟩:=I.cell x c e
    exact absurd (Nat.lt_of_lt_of_le q.lt (by rw [z]; exact hb)) (Nat.lt_irrefl _)
  · exact absurd (Nat.lt_of_lt_of_le (Heap.lt_size (I.pin p hp).1) (by rw [z]; exact hb)) (Nat.lt_irrefl _)
structure Turn (P:Program) (w:World) (K:PySem.W.Frag) (tg:Expr) (J:It) (fp:List Addr) (it:Addr) (tn:Nat→Heap→Prop):Prop where
  mem:it∈fp
  obj:∀ i h,tn i h→∀ b∈fp,∃ o,h.get? b=some o∧∀ v,o.data ≠ .cell v
  keep:∀ i h h',tn i h→(∀ b∈fp,∀ o,h.get? b=some o→h'.get? b=some o)→tn i h'
  item:∀ (X:Cx),X.prog=P→X.w=w→X.K=K→X.calm=true→∀ (i:Nat) (pins:List (Addr × Obj)) (s:Shared) (σ:St) (H:Hp) (E:Value→Shared→Prop),Inv X pins σ H s→(∀ b∈fp,FpOk X pins H b)→tn i s.heap→J.go i H →
    wpAny (model P w) X.A (pyNext (.ref it)) (fun r s1=>∃ u,r=some u ∧
      wpAny (model P w) X.A (letOwnedTupleGo tg (.ref it) u) (fun _ s2=>∃ x H',Inv X pins σ H' s2∧RelV x u∧J.yld i H x H'∧tn (i+1) s2.heap∧∀ b∈fp,H' b=none) E s1) E s
  done:∀ (X:Cx),X.prog=P→X.w=w→X.K=K→X.calm=true→∀ (i:Nat) (pins:List (Addr × Obj)) (s:Shared) (σ:St) (H:Hp) (E:Value→Shared→Prop),Inv X pins σ H s→(∀ b∈fp,FpOk X pins H b)→tn i s.heap→J.stop i H →
    wpAny (model P w) X.A (pyNext (.ref it)) (fun r s1=>r=none∧Inv X pins σ H s1) E s
  self:∀ (A:Around) (i:Nat) (s:Shared) (Q:Value→Shared→Prop) (E:Value→Shared→Prop),tn i s.heap→Q (.ref it) s→wpAny (model P w) A (pyIter (.ref it)) Q E s
abbrev TI:=St→Hp→(It→Hp→Prop)→Prop
def PIE (X:Cx) (pins:List (Addr × Obj)) (σ:St) (tg:Expr) (R:It→Hp→Prop) (itv:Value) (s2:Shared):Prop :=
  ∃ (it:Addr) (fp:List Addr) (tn:Nat→Heap→Prop) (J:It) (H':Hp),itv=.ref it∧Inv X pins σ H' s2∧Turn X.prog X.w X.K tg J fp it tn∧tn 0 s2.heap∧(∀ b∈fp,FpOk X pins H' b)∧R J H'
def PI (X:Cx) (tg iter:Expr) (wi:TI):Prop :=
  ∀ (pins:List (Addr × Obj)) (s:Shared) (σ:St) (H:Hp) (R:It→Hp→Prop),Inv X pins σ H s→wi σ H R →
    wpAny (model X.prog X.w) X.A (eval iter X.env) (fun v s1=>wpAny (model X.prog X.w) X.A (pyIter v) (PIE X pins σ tg R) X.xe s1) X.xe s
theorem go_of {M:Model} {A:Around} {E:Value→Shared→Prop} {s:Shared} {tg:Expr} {it:Addr} {u:Value} {o:Obj} {n:String} {vs:Array Value} {Q:Unit→Shared→Prop} (ho:s.heap.get? it=some o) (hc:o.cls=.type n) (hd:o.data=.fields vs)
    (hn:["enumerate", "zip", "dict_itemiterator", "dict_reverseitemiterator", "odict_iterator", "itertools.zip_longest", "itertools.pairwise"].contains n=false) (hQ:Q () s):wpAny M A (letOwnedTupleGo tg (.ref it) u) Q E s:=by
  unfold letOwnedTupleGo
  cases tg <;> first
    | exact wpAny_pure hQ
    | (cases u <;> first
        | exact wpAny_pure hQ
        | (refine wpAny_bind (wpAny_load ho ?_)
           rw [hc,hd]
           show wpAny M A (if (["enumerate", "zip", "dict_itemiterator", "dict_reverseitemiterator", "odict_iterator", "itertools.zip_longest", "itertools.pairwise"].contains n&&vs[0]? == some (rawInt _))=true then _ else _) Q E s
           rw [if_neg (by intro h; rw [hn,Bool.false_and] at h; cases h)]
           exact wpAny_pure hQ))
def Itl (K:PySem.W.Frag) (a:Addr):It :=
  ⟨fun i H=>∃ xs x,SqL K H a xs∧xs[i]?=some x,fun i H x H'=>H'=H∧∀ xs,SqL K H a xs→xs[i]?=some x,fun i H=>∃ xs,SqL K H a xs∧xs.length≤i⟩
def Itt (K:PySem.W.Frag) (a:Addr):It :=
  ⟨fun i H=>∃ xs x,SqT K H a xs∧xs[i]?=some x,fun i H x H'=>H'=H∧∀ xs,SqT K H a xs→xs[i]?=some x,fun i H=>∃ xs,SqT K H a xs∧xs.length≤i⟩
def Itr (lo:Int) (n:Nat):It:=⟨fun i _=>i<n,fun i H x H'=>H'=H∧x=.int (lo+i),fun i _=>n≤i⟩
theorem turn_list {P:Program} {w:World} {K:PySem.W.Frag} {tg:Expr} (a it:Addr):Turn P w K tg (Itl K a) [it] it (fun i h=>h.IsListIter it a i) where
  mem:=by simp
  obj:=fun i h st b hb=>by
    have e:b=it:=by simpa using hb
    subst e
    obtain ⟨o,e,c,d⟩:=st
    exact ⟨o,e,fun v z=>by rw [d] at z; cases z⟩
  keep:=fun i h h' st k=>st.at fun o e=>k it (by simp) o e
  item:=by
    intro X hP hw hK hc i pins s σ H E I hf st hg
    subst hP hw hK
    obtain ⟨xs,x,hq,hx⟩:=hg
    obtain ⟨its,rv,p,hz⟩:=I.list hq
    obtain ⟨u,hu,ru⟩:=rv.get hx
    obtain ⟨f0,f1,f2,f3,f4,f5⟩:=hf it (by simp)
    refine wpAny_pyNext_list_item st p.isList (x:=u) (by simpa using hu) fun h' st' sb=>?_
    have I1:Inv X pins σ H { s with heap:=h' }:=I.turned (t':=s.toks) (fun b o hb e=>(sb.2 b hb).trans e) f0 f1 f3 f4 f5
    obtain ⟨o,e,c,d⟩:=id st'
    exact ⟨u,rfl,go_of (s:={ s with heap:=h' }) e c d (by decide) ⟨x,H,I1,ru,⟨rfl,fun ys hy=>by rw [I.list_inj hy hq]; exact hx⟩,st',fun b hb=>(hf b hb).1⟩⟩
  done:=by
    intro X hP hw hK hc i pins s σ H E I hf st hg
    subst hP hw hK
    obtain ⟨xs,hq,hx⟩:=hg
    obtain ⟨its,rv,p,hz⟩:=I.list hq
    obtain ⟨f0,f1,f2,f3,f4,f5⟩:=hf it (by simp)
    have hl:=rv.length
    exact wpAny_pyNext_list_end (I.ok.hd hc) st p.isList (by simp; omega) fun h' eb=>⟨rfl,I.turned (t':=s.toks) (fun b o hb e=>eb b o hb e) f0 f1 f3 f4 f5⟩
  self:=fun _ _ _ _ _ st h=>wpAny_pyIter_listiter st h
theorem turn_tuple {P:Program} {w:World} {K:PySem.W.Frag} {tg:Expr} (a it:Addr):Turn P w K tg (Itt K a) [it] it (fun i h=>h.IsTupleIter it a i) where
  mem:=by simp
  obj:=fun i h st b hb=>by
    have e:b=it:=by simpa using hb
    subst e
    obtain ⟨o,e,c,d⟩:=st
    exact ⟨o,e,fun v z=>by rw [d] at z; cases z⟩
  keep:=fun i h h' st k=>st.at fun o e=>k it (by simp) o e
  item:=by
    intro X hP hw hK hc i pins s σ H E I hf st hg
    subst hP hw hK
    obtain ⟨xs,x,hq,hx⟩:=hg
    obtain ⟨its,rv,p,hz⟩:=I.tuple hq
    obtain ⟨u,hu,ru⟩:=rv.get hx
    obtain ⟨f0,f1,f2,f3,f4,f5⟩:=hf it (by simp)
    refine wpAny_pyNext_tuple_item st (show s.heap.IsTuple a its.toArray from p) (x:=u) (by simpa using hu) fun h' st' sb=>?_
    have I1:Inv X pins σ H { s with heap:=h' }:=I.turned (t':=s.toks) (fun b o hb e=>(sb.2 b hb).trans e) f0 f1 f3 f4 f5
    obtain ⟨o,e,c,d⟩:=id st'
    exact ⟨u,rfl,go_of (s:={ s with heap:=h' }) e c d (by decide) ⟨x,H,I1,ru,⟨rfl,fun ys hy=>by rw [I.tuple_inj hy hq]; exact hx⟩,st',fun b hb=>(hf b hb).1⟩⟩
  done:=by
    intro X hP hw hK hc i pins s σ H E I hf st hg
    subst hP hw hK
    obtain ⟨xs,hq,hx⟩:=hg
    obtain ⟨its,rv,p,hz⟩:=I.tuple hq
    obtain ⟨f0,f1,f2,f3,f4,f5⟩:=hf it (by simp)
    have hl:=rv.length
    exact wpAny_pyNext_tuple_end (I.ok.hd hc) st (show s.heap.IsTuple a its.toArray from p) (by simp; omega) fun h' eb=>⟨rfl,I.turned (t':=s.toks) (fun b o hb e=>eb b o hb e) f0 f1 f3 f4 f5⟩
  self:=fun _ _ _ _ _ st h=>wpAny_pyIter_tupleiter st h
theorem turn_range {P:Program} {w:World} {K:PySem.W.Frag} {tg:Expr} (it:Addr) (lo:Int) (n:Nat):Turn P w K tg (Itr lo n) [it] it (fun i h=>IsRangeIter h it (lo+(i:Nat)*1) ((n:Int) - (i:Nat)) 1) where
  mem:=by simp
  obj:=fun i h st b hb=>by
    have e:b=it:=by simpa using hb
    subst e
    exact ⟨_,st,fun v z=>by
      have z':Data.fields _=Data.cell v:=z
      cases z'⟩
  keep:=fun i h h' st k=>k it (by simp) _ st
  item:=by
    intro X hP hw hK hc i pins s σ H E I hf st hg
    subst hP hw hK
    obtain ⟨f0,f1,f2,f3,f4,f5⟩:=hf it (by simp)
    have W:=Walks.range (prog:=X.prog) (w:=X.w) (I.ok.hd hc) it lo 1 n
    refine W.item i s _ _ hg st fun v h' tk hv st' kk=>?_
    obtain ⟨t,rfl⟩:=hv
    have I1:Inv X pins σ H { s with heap:=h',toks:=tk }:=I.turned (fun b o hb e=>kk b o (by simpa using hb) e) f0 f1 f3 f4 f5
    refine ⟨_,rfl,go_of (s:={ s with heap:=h',toks:=tk }) (n := "range_iterator") st' rfl rfl (by decide) ⟨.int (lo+i),H,I1,⟨t,?_⟩,⟨rfl,rfl⟩,st',fun b hb=>(hf b hb).1⟩⟩
    rw [Int.mul_one]
  done:=by
    intro X hP hw hK hc i pins s σ H E I hf st hg
    subst hP hw hK
    obtain ⟨f0,f1,f2,f3,f4,f5⟩:=hf it (by simp)
    exact wpAny_pyNext_range_end (I.ok.hd hc) st (by have:n≤i:=hg; omega) fun h' eb=>⟨rfl,I.turned (t':=s.toks) (fun b o hb e=>eb b o hb e) f0 f1 f3 f4 f5⟩
  self:=fun _ _ _ _ _ st h=>wpAny_pyIter_rangeiter st h
end L2
namespace L2
open PySem PySem.Spec PyProof.Rows
section
variable {X:Cx} {tg:Expr}
def iList (K:PySem.W.Frag) (tl:TE):TI:=fun σ H R=>tl σ H fun x H1=>∃ a,x=.ref a∧(∃ xs,SqL K H1 a xs)∧R (Itl K a) H1
def iTup (K:PySem.W.Frag) (tl:TE):TI:=fun σ H R=>tl σ H fun x H1=>∃ a,x=.ref a∧(∃ xs,SqT K H1 a xs)∧R (Itt K a) H1
theorem pi_list {l:Expr} {tl:TE} (hl:PE X l tl):PI X tg l (iList X.K tl):=by
  intro pins s σ H R I h
  refine thn (hl pins s σ H _ I h) fun v s1 ⟨x,H1,I1,r1,q1⟩=>?_
  obtain ⟨a,e,⟨xs,hq⟩,q⟩:=q1
  subst e
  cases r1
  obtain ⟨its,rv,p,hz⟩:=I1.list hq
  refine wpAny_pyIter_list p.isList ?_
  refine ⟨s1.heap.objs.size,[s1.heap.objs.size],_,_,H1,rfl,I1.kept (t':=s1.toks) fun b o e=>Heap.get?_push_of_some _ e,turn_list a _,⟨_,Heap.get?_push_size _ rfl,rfl,rfl⟩,fun b hb=>?_,q⟩
  have e:b=s1.heap.objs.size:=by simpa using hb
  subst e
  exact I1.fpOk (Nat.le_refl _) (I1.hok.fresh (Nat.le_refl _))
theorem pi_tup {l:Expr} {tl:TE} (hl:PE X l tl):PI X tg l (iTup X.K tl):=by
  intro pins s σ H R I h
  refine thn (hl pins s σ H _ I h) fun v s1 ⟨x,H1,I1,r1,q1⟩=>?_
  obtain ⟨a,e,⟨xs,hq⟩,q⟩:=q1
  subst e
  cases r1
  obtain ⟨its,rv,p,hz⟩:=I1.tuple hq
  refine wpAny_pyIter_tuple (show s1.heap.IsTuple a its.toArray from p) ?_
  refine ⟨s1.heap.objs.size,[s1.heap.objs.size],_,_,H1,rfl,I1.kept (t':=s1.toks) fun b o e=>Heap.get?_push_of_some _ e,turn_tuple a _,⟨_,Heap.get?_push_size _ rfl,rfl,rfl⟩,fun b hb=>?_,q⟩
  have e:b=s1.heap.objs.size:=by simpa using hb
  subst e
  exact I1.fpOk (Nat.le_refl _) (I1.hok.fresh (Nat.le_refl _))
theorem range_it {pins:List (Addr × Obj)} {σ:St} {H:Hp} {s:Shared} {R:It→Hp→Prop} {E:Value→Shared→Prop} {lo hi:Int} {t u v:Tok} {tk:Nat} (I:Inv X pins σ H s) (h1:-(2^62)≤lo) (h2:lo<2^62) (h3:-(2^62)≤hi) (h4:hi<2^62)
    (q:R (Itr lo (hi - lo).toNat) H):wpAny (model X.prog X.w) X.A (pyIter (.ref s.heap.objs.size)) (PIE X pins σ tg R) E { s with heap:=s.heap.push { cls:=.type "range",data:=.fields #[.int lo t,.int hi u,.int 1 v] },toks:=tk }:=by
  refine wpAny_pyIter_range (IsRange.new ..) (small_one h1 h2 h3 h4) ?_
  have I1:Inv X pins σ H { s with heap:=s.heap.push { cls:=.type "range",data:=.fields #[.int lo t,.int hi u,.int 1 v] },toks:=tk }:=I.kept fun b o e=>Heap.get?_push_of_some _ e
  refine ⟨(s.heap.push { cls:=.type "range",data:=.fields #[.int lo t,.int hi u,.int 1 v] }).objs.size,[(s.heap.push { cls:=.type "range",data:=.fields #[.int lo t,.int hi u,.int 1 v] }).objs.size],_,_,H,rfl,
    I1.kept (t':=tk) fun b o e=>Heap.get?_push_of_some _ e,turn_range _ lo (hi - lo).toNat,?_,fun b hb=>?_,q⟩
  · have e1:lo+((0:Nat):Int)*1=lo:=by simp
    have e2:(((hi - lo).toNat:Nat):Int) - ((0:Nat):Int)=Builtin.Range.rangeSize lo hi 1:=by rw [rangeSize_one]; split <;> omega
    show IsRangeIter _ _ (lo+((0:Nat):Int)*1) ((((hi - lo).toNat:Nat):Int) - ((0:Nat):Int)) 1
    rw [e1,e2]
    exact Heap.get?_push_size _ rfl
  · have e:b=(s.heap.push { cls:=.type "range",data:=.fields #[.int lo t,.int hi u,.int 1 v] }).objs.size:=by simpa using hb
    subst e
    exact I1.fpOk (Nat.le_refl _) (I1.hok.fresh (Nat.le_refl _))
def iRng1 (ta:TA):TI:=fun σ H R=>ta σ H fun vs H1=>∃ j:Int,vs=[.int j]∧-(2^62)≤j∧j<2^62∧R (Itr 0 j.toNat) H1
def iRng2 (ta:TA):TI:=fun σ H R=>ta σ H fun vs H1=>∃ i j:Int,vs=[.int i,.int j]∧(-(2^62)≤i∧i<2^62∧-(2^62)≤j∧j<2^62)∧R (Itr i (j - i).toNat) H1
theorem pi_range1 {a:Expr} {ta:TA} {p pos:Pos} (hg:Gl X "range") (hm:X.mg "range" = none) (ha:PA X [a] ta) (hs:starEach [a] X.env=[(false,eval a X.env)]:=by rfl):PI X tg (.Call (.Name "range" p) [a] [] pos) (iRng1 ta):=by
  intro pins s σ H R I h
  refine Call_ (ld_blt I hg hm boot_range (PyProof.Rows.callWith_type1 (thn (ha pos pins s σ H _ I h) fun us s1 ⟨vs,H1,I1,r1,q1⟩=>?_) hs rfl))
  obtain ⟨j,e,q1,q2,q⟩:=q1
  subst e
  cases r1 with
  | cons r rr =>
    cases rr
    obtain ⟨t,rfl⟩:=r
    exact call_range_1 (range_it I1 (by omega) (by omega) q1 q2 (by simpa using q))
theorem pi_range2 {a b:Expr} {ta:TA} {p pos:Pos} (hg:Gl X "range") (hm:X.mg "range" = none) (ha:PA X [a,b] ta) (hs:starEach [a,b] X.env=[(false,eval a X.env),(false,eval b X.env)]:=by rfl) (hs2:starEach [b] X.env=[(false,eval b X.env)]:=by rfl) :
    PI X tg (.Call (.Name "range" p) [a,b] [] pos) (iRng2 ta):=by
  intro pins s σ H R I h
  refine Call_ (ld_blt I hg hm boot_range (PyProof.Rows.callWith_type1 (thn (ha pos pins s σ H _ I h) fun us s1 ⟨vs,H1,I1,r1,q1⟩=>?_) (by rw [hs,hs2]) (by rw [hs2]; rfl)))
  obtain ⟨i,j,e,⟨q1,q2,q3,q4⟩,q⟩:=q1
  subst e
  cases r1 with
  | cons r rr =>
    cases rr with
    | cons r' rr =>
      cases rr
      obtain ⟨t,rfl⟩:=r
      obtain ⟨t',rfl⟩:=r'
      exact call_range_2 (range_it I1 q1 q2 q3 q4 q)
def tFor (wi:TI) (g:TG) (tb:TS):TS:=fun D σ H=>wi σ H fun J H1=>∃ W:Nat→Nat→St→Hp→Prop,(∃ m,W 0 m σ H1)∧∀ i m σ H,W i m σ H →
  (J.stop i H∧D.nx σ H)∨(J.go i H∧∃ N:St→Hp→Prop,(∀ σ' H',N σ' H'→∃ m',m' < m∧W (i+1) m' σ' H')∧∀ x H',J.yld i H x H'→g x σ H' fun σ2 H2=>tb { D with nx:=N,ct:=N,bk:=D.nx } σ2 H2)
def pinsAt (fp:List Addr) (h:Heap):List (Addr × Obj):=fp.filterMap fun b=>(h.get? b).map fun o=>(b,o)
theorem mem_pinsAt {fp:List Addr} {h:Heap} {b:Addr} {o:Obj} (hb:b∈fp) (e:h.get? b=some o):(b,o)∈pinsAt fp h:=List.mem_filterMap.mpr ⟨b,hb,by rw [e]; rfl⟩
theorem of_pinsAt {fp:List Addr} {h:Heap} {p:Addr × Obj} (hp:p∈pinsAt fp h):p.1∈fp∧h.get? p.1=some p.2:=by
  obtain ⟨b,hb,e⟩:=List.mem_filterMap.mp hp
  cases q:h.get? b with
  | none=>rw [q] at e; cases e
  | some o =>
    rw [q] at e
    have e':(b,o)=p:=Option.some.inj e
    subst e'
    exact ⟨hb,q⟩
theorem Inv.pinned {pins:List (Addr × Obj)} {σ:St} {H:Hp} {s:Shared} {fp:List Addr} (I:Inv X pins σ H s) (hf:∀ b∈fp,FpOk X pins H b) (ho:∀ b∈fp,∃ o,s.heap.get? b=some o∧∀ v,o.data ≠ .cell v):Inv X (pins++pinsAt fp s.heap) σ H s :=
  I.pins_of fun p hp=>(List.mem_append.mp hp).elim (fun z=>I.pin p (List.mem_append_right _ z)) fun z=>by
    obtain ⟨hb,e⟩:=of_pinsAt z
    obtain ⟨f0,f1,f2,_⟩:=hf p.1 hb
    obtain ⟨o,e',d⟩:=ho p.1 hb
    rw [e] at e'; cases e'
    exact ⟨e,f0,f1,f2,d⟩
theorem Inv.unpinned {pins pl:List (Addr × Obj)} {σ:St} {H:Hp} {s:Shared} (I:Inv X (pins++pl) σ H s):Inv X pins σ H s:=I.pins_of fun p hp=>I.pin p (List.mem_append_right _ (List.mem_append_left _ hp))
theorem ps_for {iter:Expr} {body:List Stmt} {wi:TI} {g:TG} {tb:TS} {pos:Pos} (hp:PassesOwn (model X.prog X.w) X.A X.env X.xe) (hc:X.calm=true) (hi:PI X tg iter wi) (hg:PG X tg g) (hb:PSs X body tb)
    (hs:∀ x,foldedSetIterable iter X.env x=pure x:=by intro _; rfl):PS X (.For tg iter body [] pos) (tFor wi g tb):=by
  intro pins s σ H D I h
  refine wpAny_For (thn (hi pins s σ H _ I h) fun v s1 h1=>thn h1 fun itv s2 h2=>?_) hs
  obtain ⟨it,fp,tn,J,H2,e,I2,T,st2,f2,W,⟨m0,w0⟩,turn⟩:=h2
  subst e
  have stat:∀ {H':Hp},(∀ b∈fp,H' b=none)→∀ b∈fp,FpOk X pins H' b:=fun hn b hb=>⟨hn b hb,(f2 b hb).2⟩
  refine codeAny_forLoop_any (fun n s'=>∃ i σ' H',Inv X pins σ' H' s'∧tn i s'.heap∧(∀ b∈fp,H' b=none)∧W i n σ' H') ?_ m0 ⟨0,σ,H2,I2,st2,fun b hb=>(f2 b hb).1,w0⟩
  rintro n s3 ⟨i,σ3,H3,I3,st3,fr3,w3⟩
  rcases turn i n σ3 H3 w3 with ⟨stop,qn⟩ | ⟨go,N,hN,step⟩
  · refine wpAny_passesOwn hp (thn (T.done X rfl rfl rfl hc i pins s3 σ3 H3 X.xe I3 (stat fr3) st3 stop) fun r s4 ⟨hr,I4⟩=>?_)
    subst hr
    exact wpAny_execs_nil ⟨σ3,H3,I4,qn⟩
  · refine wpAny_passesOwn hp (thn (T.item X rfl rfl rfl hc i pins s3 σ3 H3 X.xe I3 (stat fr3) st3 go) fun r s4 ⟨u,hr,h4⟩=>?_)
    subst hr
    refine wpAny_passesOwn hp (thn h4 fun _ s5 ⟨x,H5,I5,r5,y5,st5,fr5⟩=>?_)
    have I5':=I5.pinned (stat fr5) (T.obj _ _ st5)
    refine wpAny_passesOwn hp (thn (hg _ s5 σ3 H5 x u _ I5' r5 (step x H5 y5)) fun _ s6 ⟨σ6,H6,I6,q6⟩=>?_)
    refine wpAny_passesOwn hp (thn (hb _ s6 σ6 H6 _ I6 q6) fun f s7 q7=>?_)
    have again:∀ {σ7:St} {H7:Hp},Inv X (pins++pinsAt fp s5.heap) σ7 H7 s7→N σ7 H7→∃ m,m<n∧∃ i σ' H',Inv X pins σ' H' s7∧tn i s7.heap∧(∀ b∈fp,H' b=none)∧W i m σ' H':=fun {σ7 H7} I7 n7=>by
      obtain ⟨m',hm,w7⟩:=hN σ7 H7 n7
      refine ⟨m',hm,i+1,σ7,H7,I7.unpinned,T.keep _ _ _ st5 fun b hb o e=>(I7.pin (b,o) (List.mem_append_right _ (List.mem_append_right _ (mem_pinsAt hb e)))).1,fun b hb=>?_,w7⟩
      obtain ⟨o,e,d⟩:=T.obj _ _ st5 b hb
      exact (I7.pin (b,o) (List.mem_append_right _ (List.mem_append_right _ (mem_pinsAt hb e)))).2.1
    cases f with
    | next=>obtain ⟨σ7,H7,I7,n7⟩:=q7; exact again I7 n7
    | cont=>obtain ⟨σ7,H7,I7,n7⟩:=q7; exact again I7 n7
    | brk=>obtain ⟨σ7,H7,I7,q7⟩:=q7; exact ⟨σ7,H7,I7.unpinned,q7⟩
    | ret v=>obtain ⟨x7,σ7,H7,I7,r7,q7⟩:=q7; exact ⟨x7,σ7,H7,I7.unpinned,r7,q7⟩
end
theorem for_list {K:PySem.W.Frag} {a:Addr} {xs:List V} {g:TG} {tb:TS} {D:Ends} {σ:St} {H:Hp} (Pv:Nat→St→Hp→Prop) (h0:Pv 0 σ H) (hl:∀ i σ H,i≤xs.length→Pv i σ H→SqL K H a xs)
    (hs:∀ i x σ H,xs[i]?=some x→Pv i σ H→g x σ H fun σ2 H2=>tb { D with nx:=Pv (i+1),ct:=Pv (i+1),bk:=D.nx } σ2 H2) (hd:∀ σ H,Pv xs.length σ H→D.nx σ H) :
    ∃ W:Nat→Nat→St→Hp→Prop,(∃ m,W 0 m σ H)∧∀ i m σ H,W i m σ H →
      ((Itl K a).stop i H∧D.nx σ H)∨((Itl K a).go i H∧∃ N:St→Hp→Prop,(∀ σ' H',N σ' H'→∃ m',m' < m∧W (i+1) m' σ' H')∧∀ x H',(Itl K a).yld i H x H'→g x σ H' fun σ2 H2=>tb { D with nx:=N,ct:=N,bk:=D.nx } σ2 H2):=by
  refine ⟨fun i m σ H=>m=xs.length - i∧i≤xs.length∧Pv i σ H,⟨xs.length,by simp,Nat.zero_le _,h0⟩,?_⟩
  rintro i m σ H ⟨rfl,hi,p⟩
  have q:=hl i σ H hi p
  by_cases hlt:i<xs.length
  · refine .inr ⟨⟨xs,xs[i],q,by simp [hlt]⟩,Pv (i+1),fun σ' H' p'=>⟨xs.length - (i+1),by omega,rfl,hlt,p'⟩,fun x H' y=>?_⟩
    obtain ⟨e,y⟩:=y
    subst e
    exact hs i x σ _ (y xs q) p
  · have e:i=xs.length:=by omega
    subst e
    exact .inl ⟨⟨xs,q,Nat.le_refl _⟩,hd σ H p⟩
theorem for_tup {K:PySem.W.Frag} {a:Addr} {xs:List V} {g:TG} {tb:TS} {D:Ends} {σ:St} {H:Hp} (Pv:Nat→St→Hp→Prop) (h0:Pv 0 σ H) (hl:∀ i σ H,i≤xs.length→Pv i σ H→SqT K H a xs)
    (hs:∀ i x σ H,xs[i]?=some x→Pv i σ H→g x σ H fun σ2 H2=>tb { D with nx:=Pv (i+1),ct:=Pv (i+1),bk:=D.nx } σ2 H2) (hd:∀ σ H,Pv xs.length σ H→D.nx σ H) :
    ∃ W:Nat→Nat→St→Hp→Prop,(∃ m,W 0 m σ H)∧∀ i m σ H,W i m σ H →
      ((Itt K a).stop i H∧D.nx σ H)∨((Itt K a).go i H∧∃ N:St→Hp→Prop,(∀ σ' H',N σ' H'→∃ m',m' < m∧W (i+1) m' σ' H')∧∀ x H',(Itt K a).yld i H x H'→g x σ H' fun σ2 H2=>tb { D with nx:=N,ct:=N,bk:=D.nx } σ2 H2):=by
  refine ⟨fun i m σ H=>m=xs.length - i∧i≤xs.length∧Pv i σ H,⟨xs.length,by simp,Nat.zero_le _,h0⟩,?_⟩
  rintro i m σ H ⟨rfl,hi,p⟩
  have q:=hl i σ H hi p
  by_cases hlt:i<xs.length
  · refine .inr ⟨⟨xs,xs[i],q,by simp [hlt]⟩,Pv (i+1),fun σ' H' p'=>⟨xs.length - (i+1),by omega,rfl,hlt,p'⟩,fun x H' y=>?_⟩
    obtain ⟨e,y⟩:=y
    subst e
    exact hs i x σ _ (y xs q) p
  · have e:i=xs.length:=by omega
    subst e
    exact .inl ⟨⟨xs,q,Nat.le_refl _⟩,hd σ H p⟩
theorem for_range {lo:Int} {n:Nat} {g:TG} {tb:TS} {D:Ends} {σ:St} {H:Hp} (Pv:Nat→St→Hp→Prop) (h0:Pv 0 σ H)
    (hs:∀ i σ H,i<n→Pv i σ H→g (.int (lo+i)) σ H fun σ2 H2=>tb { D with nx:=Pv (i+1),ct:=Pv (i+1),bk:=D.nx } σ2 H2) (hd:∀ σ H,Pv n σ H→D.nx σ H) :
    ∃ W:Nat→Nat→St→Hp→Prop,(∃ m,W 0 m σ H)∧∀ i m σ H,W i m σ H →
      ((Itr lo n).stop i H∧D.nx σ H)∨((Itr lo n).go i H∧∃ N:St→Hp→Prop,(∀ σ' H',N σ' H'→∃ m',m' < m∧W (i+1) m' σ' H')∧∀ x H',(Itr lo n).yld i H x H'→g x σ H' fun σ2 H2=>tb { D with nx:=N,ct:=N,bk:=D.nx } σ2 H2):=by
  refine ⟨fun i m σ H=>m=n - i∧i≤n∧Pv i σ H,⟨n,by simp,Nat.zero_le _,h0⟩,?_⟩
  rintro i m σ H ⟨rfl,hi,p⟩
  by_cases hlt:i<n
  · refine .inr ⟨hlt,Pv (i+1),fun σ' H' p'=>⟨n - (i+1),by omega,rfl,hlt,p'⟩,fun x H' y=>?_⟩
    obtain ⟨e,y⟩:=y
    subst e y
    exact hs i σ _ hlt p
  · have e:i=n:=by omega
    subst e
    exact .inl ⟨Nat.le_refl _,hd σ H p⟩
end L2
namespace L2
open PySem PySem.Spec PyProof.Rows
abbrev R2:=V→V→Hp→VK→Prop
def OpR (X:Cx) (f:Value→Value→Sem Value) (r:R2):Prop :=
  ∀ (pins:List (Addr × Obj)) (s:Shared) (σ:St) (H:Hp) (x y:V) (v u:Value) (Q:VK),Inv X pins σ H s→RelV x v→RelV y u→r x y H Q →
    wpAny (model X.prog X.w) X.A (f v u) (EP X pins σ Q) X.xe s
def CallR (X:Cx) (f:Value) (r:List V→Hp→VK→Prop):Prop :=
  ∀ (pins:List (Addr × Obj)) (s:Shared) (σ:St) (H:Hp) (xs:List V) (us:List Value) (Q:VK),Inv X pins σ H s→Vals xs us→r xs H Q →
    wpAny (model X.prog X.w) X.A (call f us) (EP X pins σ Q) X.xe s
def TruR (X:Cx) (r:V→Hp→(Bool→Hp→Prop)→Prop):Prop :=
  ∀ (pins:List (Addr × Obj)) (s:Shared) (σ:St) (H:Hp) (x:V) (v:Value) (Q:Bool→Hp→Prop),Inv X pins σ H s→RelV x v→r x H Q →
    wpAny (model X.prog X.w) X.A (truthy v) (TP X pins σ Q) X.xe s
def tOp (r:R2) (ta tb:TE):TE:=fun σ H Q=>ta σ H fun x H1=>tb σ H1 fun y H2=>r x y H2 Q
def rI (C:Int→Int→Prop) (g:Int→Int→V):R2:=fun x y H Q=>∃ i j,x=.int i∧y=.int j∧C i j∧Q (g i j) H
def rI0 (g:Int→Int→V):R2:=fun x y H Q=>∃ i j,x=.int i∧y=.int j∧Q (g i j) H
section
variable {X:Cx} {a b c:Expr} {ta tb tc:TE} {pos:Pos}
theorem binT (ha:PE X a ta) (hb:PE X b tb) {pins:List (Addr × Obj)} {s:Shared} {σ:St} {H:Hp} {R:V→V→Hp→Prop} (I:Inv X pins σ H s)
    (h:ta σ H fun x H1=>tb σ H1 fun y H2=>R x y H2) {Q:Value→Shared→Prop} {f:Value→Value→Sem Value}
    (hf:∀ v u s2 x y H2,Inv X pins σ H2 s2→RelV x v→RelV y u→R x y H2→wpAny (model X.prog X.w) X.A (f v u) Q X.xe s2) :
    wpAny (model X.prog X.w) X.A (eval a X.env) (fun v s₁=>wpAny (model X.prog X.w) X.A (eval b X.env) (fun u s₂=>wpAny (model X.prog X.w) X.A (f v u) Q X.xe s₂) X.xe s₁) X.xe s:=by
  refine thn (ha pins s σ H _ I h) fun v s1 ⟨x,H1,I1,r1,q1⟩=>?_
  refine thn (hb pins s1 σ H1 _ I1 q1) fun u s2 ⟨y,H2,I2,r2,q2⟩=>?_
  exact hf v u s2 x y H2 I2 r1 r2 q2
theorem pe_op {op:Operator} {r:R2} (ho:OpR X (binaryOp op) r) (ha:PE X a ta) (hb:PE X b tb):PE X (.BinOp a op b pos) (tOp r ta tb):=by
  intro pins s σ H Q I h
  exact wpAny_BinOp (binT ha hb I h fun v u s2 x y H2 I2 rx ry q=>ho pins s2 σ H2 x y v u Q I2 rx ry q)
theorem opI {f:Value→Value→Sem Value} {C:Int→Int→Prop} {g:Int→Int→Int}
    (rule:∀ (i j:Int) (t u:Tok) (s:Shared) (Q:Value→Shared→Prop) (E:Value→Shared→Prop),C i j→Q (.int (g i j) s.toks) { s with toks:=s.toks+1 }→wpAny (model X.prog X.w) X.A (f (.int i t) (.int j u)) Q E s) :
    OpR X f (rI C fun i j=>.int (g i j)):=by
  intro pins s σ H x y v u Q I rx ry h
  obtain ⟨i,j,rfl,rfl,hc,q⟩:=h
  obtain ⟨t,rfl⟩:=rx
  obtain ⟨t',rfl⟩:=ry
  exact rule i j t t' s _ _ hc ⟨.int (g i j),H,I.tok _,⟨_,rfl⟩,q⟩
theorem opI0 {f:Value→Value→Sem Value} {g:Int→Int→Int}
    (rule:∀ (i j:Int) (t u:Tok) (s:Shared) (Q:Value→Shared→Prop) (E:Value→Shared→Prop),Q (.int (g i j) s.toks) { s with toks:=s.toks+1 }→wpAny (model X.prog X.w) X.A (f (.int i t) (.int j u)) Q E s) :
    OpR X f (rI0 fun i j=>.int (g i j)):=by
  intro pins s σ H x y v u Q I rx ry h
  obtain ⟨i,j,rfl,rfl,q⟩:=h
  obtain ⟨t,rfl⟩:=rx
  obtain ⟨t',rfl⟩:=ry
  exact rule i j t t' s _ _ ⟨.int (g i j),H,I.tok _,⟨_,rfl⟩,q⟩
theorem opB0 {f:Value→Value→Sem Value} {g:Int→Int→Bool}
    (rule:∀ (i j:Int) (t u:Tok) (s:Shared) (Q:Value→Shared→Prop) (E:Value→Shared→Prop),Q (.bool (g i j)) s→wpAny (model X.prog X.w) X.A (f (.int i t) (.int j u)) Q E s) :
    OpR X f (rI0 fun i j=>.bl (g i j)):=by
  intro pins s σ H x y v u Q I rx ry h
  obtain ⟨i,j,rfl,rfl,q⟩:=h
  obtain ⟨t,rfl⟩:=rx
  obtain ⟨t',rfl⟩:=ry
  exact rule i j t t' s _ _ ⟨.bl (g i j),H,I,rfl,q⟩
def CPow (i j:Int):Prop:=0≤j∧j≤1000000∧i.natAbs<2^64
theorem op_add:OpR X (binaryOp .Add) (rI0 fun i j=>.int (i+j)):=opI0 fun _ _ _ _ _ _ _ q=>add_int q
theorem op_sub:OpR X (binaryOp .Sub) (rI0 fun i j=>.int (i - j)):=opI0 fun _ _ _ _ _ _ _ q=>sub_int q
theorem op_mod:OpR X (binaryOp .Mod) (rI (fun _ j=>0<j) fun i j=>.int (i % j)):=opI fun i j _ _ _ _ _ hc q=>by
  have h1:(0:Int)<j:=hc
  exact mod_int' (by omega) (by rw [Int.fmod_eq_emod_of_nonneg i (by omega)]; exact q)
theorem op_pow:OpR X (binaryOp .Pow) (rI CPow fun i j=>.int (i^j.toNat)):=opI fun _ _ _ _ _ _ _ hc q=>pow_int_small hc.1 hc.2.1 hc.2.2 q
end
def scal:V→V→Bool
  | .non,.non=>true | .non,.int _=>true | .int _,.non=>true | .non,.bl _=>true | .bl _,.non=>true | .non,.str _=>true | .str _,.non=>true
  | .int _,.int _=>true | .bl _,.bl _=>true | .str _,.str _=>true | .byt _,.byt _=>true
  | .int _,.str _=>true | .str _,.int _=>true | .bl _,.str _=>true | .str _,.bl _=>true
  | _,_=>false
def rEq:R2:=fun x y H Q=>scal x y=true∧Q (.bl (decide (x=y))) H
def rNe:R2:=fun x y H Q=>scal x y=true∧Q (.bl (!decide (x=y))) H
theorem dec_int {i j:Int}:decide (V.int i=V.int j)=(i == j):=by
  rw [Bool.eq_iff_iff]
  simp
theorem dec_bl {i j:Bool}:decide (V.bl i=V.bl j)=(i == j):=by
  rw [Bool.eq_iff_iff]
  simp
theorem dec_str {i j:Str}:decide (V.str i=V.str j)=(i == j):=by
  rw [Bool.eq_iff_iff]
  simp
theorem dec_byt {i j:Array UInt8}:decide (V.byt i=V.byt j)=(i.toList == j.toList):=by
  rw [Bool.eq_iff_iff]
  cases i
  cases j
  simp
section
variable {X:Cx} {a b c:Expr} {ta tb tc:TE} {pos:Pos}
theorem fin_bl {pins:List (Addr × Obj)} {σ:St} {H:Hp} {s:Shared} {Q:VK} {k k':Bool} (I:Inv X pins σ H s) (q:Q (.bl k) H) (e:k=k'):EP X pins σ Q (.bool k') s:=by
  subst e
  exact ⟨.bl k,H,I,rfl,q⟩
theorem op_eq:OpR X (compareOp .Eq) rEq:=by
  intro pins s σ H x y v u Q I rx ry h
  obtain ⟨hs,q⟩:=h
  cases x with
  | non =>
    cases rx
    cases y with
    | non=>cases ry; exact PySem.EqNone.eq_none_none (fin_bl I q (by simp))
    | bl j=>cases ry; exact PySem.EqNone.eq_none_bool (fin_bl I q (by simp))
    | int j=>obtain ⟨t',rfl⟩:=ry; exact PySem.EqNone.eq_none_int (fin_bl I q (by simp))
    | str j=>obtain ⟨t',rfl⟩:=ry; exact PySem.EqNone.eq_none_str (fin_bl I q (by simp))
    | _=>exact absurd (show false=true from hs) Bool.false_ne_true
  | bl i =>
    cases rx
    cases y with
    | non=>cases ry; exact PySem.EqNone.eq_bool_none (fin_bl I q (by simp))
    | bl j=>cases ry; exact eq_bool (fin_bl I q dec_bl)
    | str j=>obtain ⟨t',rfl⟩:=ry; exact PySem.EqMixed.eq_bool_str (fin_bl I q (by simp))
    | _=>exact absurd (show false=true from hs) Bool.false_ne_true
  | int i =>
    obtain ⟨t,rfl⟩:=rx
    cases y with
    | non=>cases ry; exact PySem.EqNone.eq_int_none (fin_bl I q (by simp))
    | int j=>obtain ⟨t',rfl⟩:=ry; exact eq_int (fin_bl I q dec_int)
    | str j=>obtain ⟨t',rfl⟩:=ry; exact PySem.EqMixed.eq_int_str (fin_bl I q (by simp))
    | _=>exact absurd (show false=true from hs) Bool.false_ne_true
  | str i =>
    obtain ⟨t,rfl⟩:=rx
    cases y with
    | non=>cases ry; exact PySem.EqNone.eq_str_none (fin_bl I q (by simp))
    | bl j=>cases ry; exact PySem.EqMixed.eq_str_bool (fin_bl I q (by simp))
    | int j=>obtain ⟨t',rfl⟩:=ry; exact PySem.EqMixed.eq_str_int (fin_bl I q (by simp))
    | str j=>obtain ⟨t',rfl⟩:=ry; exact eq_str (fin_bl I q dec_str)
    | _=>exact absurd (show false=true from hs) Bool.false_ne_true
  | byt i =>
    obtain ⟨t,rfl⟩:=rx
    cases y with
    | byt j=>obtain ⟨t',rfl⟩:=ry; exact PySem.W.eq_bytes (fin_bl I q dec_byt)
    | _=>exact absurd (show false=true from hs) Bool.false_ne_true
  | _=>cases y <;> exact absurd (show false=true from hs) Bool.false_ne_true
theorem op_ne:OpR X (compareOp .NotEq) rNe:=by
  intro pins s σ H x y v u Q I rx ry h
  obtain ⟨hs,q⟩:=h
  cases x with
  | non =>
    cases rx
    cases y with
    | non=>cases ry; exact PySem.EqNone.ne_none_none (fin_bl I q (by simp))
    | bl j=>cases ry; exact PySem.EqNone.ne_none_bool (fin_bl I q (by simp))
    | int j=>obtain ⟨t',rfl⟩:=ry; exact PySem.EqNone.ne_none_int (fin_bl I q (by simp))
    | str j=>obtain ⟨t',rfl⟩:=ry; exact PySem.EqNone.ne_none_str (fin_bl I q (by simp))
    | _=>exact absurd (show false=true from hs) Bool.false_ne_true
  | bl i =>
    cases rx
    cases y with
    | non=>cases ry; exact PySem.EqNone.ne_bool_none (fin_bl I q (by simp))
    | bl j=>cases ry; exact ne_bool (fin_bl I q (congrArg not dec_bl))
    | str j=>obtain ⟨t',rfl⟩:=ry; exact PySem.EqMixed.ne_bool_str (fin_bl I q (by simp))
    | _=>exact absurd (show false=true from hs) Bool.false_ne_true
  | int i =>
    obtain ⟨t,rfl⟩:=rx
    cases y with
    | non=>cases ry; exact PySem.EqNone.ne_int_none (fin_bl I q (by simp))
    | int j=>obtain ⟨t',rfl⟩:=ry; exact ne_int (fin_bl I q (congrArg not dec_int))
    | str j=>obtain ⟨t',rfl⟩:=ry; exact PySem.EqMixed.ne_int_str (fin_bl I q (by simp))
    | _=>exact absurd (show false=true from hs) Bool.false_ne_true
  | str i =>
    obtain ⟨t,rfl⟩:=rx
    cases y with
    | non=>cases ry; exact PySem.EqNone.ne_str_none (fin_bl I q (by simp))
    | bl j=>cases ry; exact PySem.EqMixed.ne_str_bool (fin_bl I q (by simp))
    | int j=>obtain ⟨t',rfl⟩:=ry; exact PySem.EqMixed.ne_str_int (fin_bl I q (by simp))
    | str j=>obtain ⟨t',rfl⟩:=ry; exact ne_str (fin_bl I q (congrArg not dec_str))
    | _=>exact absurd (show false=true from hs) Bool.false_ne_true
  | byt i =>
    obtain ⟨t,rfl⟩:=rx
    cases y with
    | byt j=>obtain ⟨t',rfl⟩:=ry; exact PySem.W.ne_bytes (fin_bl I q (congrArg not dec_byt))
    | _=>exact absurd (show false=true from hs) Bool.false_ne_true
  | _=>cases y <;> exact absurd (show false=true from hs) Bool.false_ne_true
theorem op_lt:OpR X (compareOp .Lt) (rI0 fun i j=>.bl (decide (i<j))):=opB0 fun _ _ _ _ _ _ _ q=>lt_int q
theorem op_le:OpR X (compareOp .LtE) (rI0 fun i j=>.bl (decide (i≤j))):=opB0 fun _ _ _ _ _ _ _ q=>le_int q
theorem op_gt:OpR X (compareOp .Gt) (rI0 fun i j=>.bl (decide (j<i))):=opB0 fun _ _ _ _ _ _ _ q=>gt_int q
theorem op_ge:OpR X (compareOp .GtE) (rI0 fun i j=>.bl (decide (j≤i))):=opB0 fun _ _ _ _ _ _ _ q=>ge_int q
theorem op_in_str:OpR X (compareOp .In) (fun x y H Q=>∃ i j,x=.str i∧y=.str j∧Q (.bl (!(Builtin.Str.occurrences j i 0 j.length 1).isEmpty)) H):=by
  intro pins s σ H x y v u Q I rx ry h
  obtain ⟨i,j,rfl,rfl,q⟩:=h
  obtain ⟨t,rfl⟩:=rx
  obtain ⟨t',rfl⟩:=ry
  exact in_str (fin_bl I q rfl)
theorem op_isN:OpR X (compareOp .Is) (fun x y H Q=>y=.non∧Q (.bl (decide (x=.non))) H):=by
  intro pins s σ H x y v u Q I rx ry h
  obtain ⟨rfl,q⟩:=h
  cases ry
  refine is_none_gen (fin_bl I q ?_)
  cases x <;> first
    | (cases rx; rfl)
    | (obtain ⟨t,rfl⟩:=rx; rfl)
theorem op_notN:OpR X (compareOp .IsNot) (fun x y H Q=>y=.non∧Q (.bl (!decide (x=.non))) H):=by
  intro pins s σ H x y v u Q I rx ry h
  obtain ⟨rfl,q⟩:=h
  cases ry
  refine isnot_none_gen (fin_bl I q ?_)
  cases x <;> first
    | (cases rx; rfl)
    | (obtain ⟨t,rfl⟩:=rx; rfl)
theorem op_notin_str:OpR X (compareOp .NotIn) (fun x y H Q=>∃ i j,x=.str i∧y=.str j∧Q (.bl (!(!(Builtin.Str.occurrences j i 0 j.length 1).isEmpty))) H):=by
  intro pins s σ H x y v u Q I rx ry h
  obtain ⟨i,j,rfl,rfl,q⟩:=h
  obtain ⟨t,rfl⟩:=rx
  obtain ⟨t',rfl⟩:=ry
  exact notIn_str (fin_bl I q rfl)
theorem nomark (b:Expr) {op:CmpOp} (h:op ≠ .In:=by decide) (h2:op ≠ .NotIn:=by decide):behindInMarks op b=false:=by
  have e1:(op == CmpOp.In)=false:=by cases op <;> first | rfl | exact absurd rfl h
  have e2:(op == CmpOp.NotIn)=false:=by cases op <;> first | rfl | exact absurd rfl h2
  cases b <;> simp [behindInMarks,e1,e2]
theorem pe_cmpR {op:CmpOp} {r:R2} (ho:OpR X (compareOp op) r) (ha:PE X a ta) (hb:PE X b tb) (hm:behindInMarks op b=false):PE X (.Compare a [op] [b] pos) (tOp r ta tb):=by
  intro pins s σ H Q I h
  exact wpAny_Compare1 (binT ha hb I h fun v u s2 x y H2 I2 rx ry q=>ho pins s2 σ H2 x y v u Q I2 rx ry q) hm
def tTest (t:TE):TT:=fun σ H Q=>t σ H fun x H'=>∃ k,x=.bl k∧Q k H'
theorem pt_cmpR {op:CmpOp} {r:R2} (ho:OpR X (compareOp op) r) (ha:PE X a ta) (hb:PE X b tb) (hm:behindInMarks op b=false):PT X (.Compare a [op] [b] pos) (tTest (tOp r ta tb)):=by
  intro pins s σ H Q I h
  refine wpAny_isTrue_Compare1 (thn (ha pins s σ H _ I h) fun v s1 ⟨x,H1,I1,r1,q1⟩=>thn (hb pins s1 σ H1 _ I1 q1) fun u s2 ⟨y,H2,I2,r2,q2⟩ =>
    thn (ho pins s2 σ H2 x y v u _ I2 r1 r2 q2) fun c s3 ⟨z,H3,I3,r3,k,e,q3⟩=>?_) hm
  subst e
  cases r3
  exact wpAny_truthy_bool ⟨H3,I3,q3⟩
def tChain (r r':R2) (ta tb tc:TE):TE:=fun σ H Q=>ta σ H fun x H1=>tb σ H1 fun y H2=>r x y H2 fun z H3=>∃ k,z=.bl k ∧
  (if k=true then tc σ H3 fun w' H4=>r' y w' H4 Q else Q (.bl false) H3)
theorem pe_chain {op op':CmpOp} {r r':R2} (ho:OpR X (compareOp op) r) (ho':OpR X (compareOp op') r') (ha:PE X a ta) (hb:PE X b tb) (hc:PE X c tc)
    (hm:lastMarks [op,op'] [b,c]=false:=by with_unfolding_all rfl):PE X (.Compare a [op,op'] [b,c] pos) (tChain r r' ta tb tc):=by
  intro pins s σ H Q I h
  refine Compare_chain (thn (ha pins s σ H _ I h) fun v s1 ⟨x,H1,I1,r1,q1⟩=>chain_link (thn (hb pins s1 σ H1 _ I1 q1) fun u s2 ⟨y,H2,I2,r2,q2⟩ =>
    thn (ho pins s2 σ H2 x y v u _ I2 r1 r2 q2) fun d s3 ⟨z,H3,I3,r3,k,e,q3⟩=>?_)) hm
  subst e
  cases r3
  refine wpAny_truthy_bool ?_
  cases k with
  | false=>exact ite_ff ⟨.bl false,H3,I3,rfl,q3⟩
  | true=>exact ite_tt (chain_last (thn (hc pins s3 σ H3 _ I3 q3) fun w' s4 ⟨z',H4,I4,r4,q4⟩=>ho' pins s4 σ H4 y z' u w' Q I4 r2 r4 q4))
theorem pt_chain {op op':CmpOp} {r r':R2} (ho:OpR X (compareOp op) r) (ho':OpR X (compareOp op') r') (ha:PE X a ta) (hb:PE X b tb) (hc:PE X c tc)
    (hm:lastMarks [op,op'] [b,c]=false:=by with_unfolding_all rfl):PT X (.Compare a [op,op'] [b,c] pos) (tTest (tChain r r' ta tb tc)):=by
  intro pins s σ H Q I h
  refine isTrue_chain (thn (ha pins s σ H _ I h) fun v s1 ⟨x,H1,I1,r1,q1⟩=>test_link (thn (hb pins s1 σ H1 _ I1 q1) fun u s2 ⟨y,H2,I2,r2,q2⟩ =>
    thn (ho pins s2 σ H2 x y v u _ I2 r1 r2 q2) fun d s3 ⟨z,H3,I3,r3,k,e,q3⟩=>?_)) hm
  subst e
  cases r3
  refine wpAny_truthy_bool ?_
  cases k with
  | false =>
    obtain ⟨k',e',q'⟩:=q3
    cases e'
    exact ite_ff ⟨H3,I3,q'⟩
  | true =>
    refine ite_tt (test_last (thn (hc pins s3 σ H3 _ I3 q3) fun w' s4 ⟨z',H4,I4,r4,q4⟩=>thn (ho' pins s4 σ H4 y z' u w' _ I4 r2 r4 q4) fun d' s5 ⟨z2,H5,I5,r5,k2,e2,q5⟩=>?_))
    subst e2
    cases r5
    exact wpAny_truthy_bool ⟨H5,I5,q5⟩
def TruV (K:PySem.W.Frag) (x:V) (H:Hp) (k:Bool):Prop :=
  match x with
  | .non=>k=false
  | .bl b=>k=b
  | .int i=>k=(i != 0)
  | .str y=>y.length≤sizeLine∧k=((y.length:Int) != 0)
  | .byt y=>y.size≤sizeLine∧k=((y.size:Int) != 0)
  | .ref p=>(∃ xs,SqL K H p xs∧k=!xs.isEmpty)∨(∃ xs,SqT K H p xs∧k=!xs.isEmpty)∨∃ kvs,H p=some (.dK kvs)∧k=!kvs.isEmpty
  | _=>False
theorem isEmpty_kv {κ:Type} {kvs:List (κ × V)} {vs:List (κ × Value)} (r:KV kvs vs):(!vs.isEmpty)=!kvs.isEmpty:=by
  cases r <;> rfl
theorem isEmpty_of {xs:List V} {its:List Value} (r:Vals xs its):(!its.toArray.isEmpty)=!xs.isEmpty:=by
  cases r <;> simp
theorem line63:(sizeLine:Nat)<2^63:=by rw [sizeLine_eq]; decide
theorem tru_ok:TruR X (fun x H Q=>∃ k,TruV X.K x H k∧Q k H):=by
  intro pins s σ H x v Q I rx h
  obtain ⟨k,e,q⟩:=h
  have hl:=line63
  have hs:sizeLine=16777216:=sizeLine_eq
  cases x with
  | non =>
    cases rx
    have e':k=false:=e
    subst e'
    exact truthy_none ⟨H,I,q⟩
  | bl b =>
    cases rx
    have e':k=b:=e
    subst e'
    exact wpAny_truthy_bool ⟨H,I,q⟩
  | int i =>
    obtain ⟨t,rfl⟩:=rx
    have e':k=(i != 0):=e
    subst e'
    exact PySem.P.truthy_int ⟨H,I,q⟩
  | str y =>
    obtain ⟨t,rfl⟩:=rx
    obtain ⟨hy,e'⟩:y.length≤sizeLine∧k=((y.length:Int) != 0):=e
    subst e'
    exact PySem.P.truthy_str (by omega) ⟨H,I.tok _,q⟩
  | byt y =>
    obtain ⟨t,rfl⟩:=rx
    obtain ⟨hy,e'⟩:y.size≤sizeLine∧k=((y.size:Int) != 0):=e
    subst e'
    exact PySem.W.truthy_bytes (by omega) ⟨H,I.tok _,q⟩
  | ref p =>
    cases rx
    have e':(∃ xs,SqL X.K H p xs∧k=!xs.isEmpty)∨(∃ xs,SqT X.K H p xs∧k=!xs.isEmpty)∨∃ kvs,H p=some (.dK kvs)∧k=!kvs.isEmpty:=e
    rcases e' with ⟨xs,hx,e'⟩ | ⟨xs,hx,e'⟩ | ⟨kvs,hx,e'⟩
    · subst e'
      obtain ⟨its,r,pl,hz⟩:=I.list hx
      have hlen:=r.length
      exact wpAny_truthy_list pl.isList (by simp only [List.size_toArray]; omega) ⟨H,I.tok _,by rw [isEmpty_of r]; exact q⟩
    · subst e'
      obtain ⟨its,r,pl,hz⟩:=I.tuple hx
      have hlen:=r.length
      exact truthy_tuple pl (by simp only [List.size_toArray]; omega) ⟨H,I.tok _,by rw [isEmpty_of r]; exact q⟩
    · subst e'
      obtain ⟨hz,hS,vs,r,m⟩:kvs.length≤sizeLine∧(p == sysModules)=false∧∃ vs,KV kvs vs∧s.heap.DictOf (mixKind X.prog X.w) p vs:=I.hok p _ hx
      have hlen:kvs.length=vs.length:=Paired.length r
      exact wpAny_truthy_dict hS m (by omega) ⟨H,I.tok _,by rw [isEmpty_kv r]; exact q⟩
  | _=>exact (show False from e).elim
theorem op_add_str:OpR X (binaryOp .Add) (fun x y H Q=>∃ i j,x=.str i∧y=.str j∧i.length+j.length≤sizeLine∧Q (.str (i++j)) H):=by
  intro pins s σ H x y v u Q I rx ry h
  obtain ⟨i,j,rfl,rfl,hz,q⟩:=h
  obtain ⟨t,rfl⟩:=rx
  obtain ⟨t',rfl⟩:=ry
  exact add_str (fun t' tk=>⟨.str (i++j),H,I.tok _,⟨_,rfl⟩,q⟩) hz
theorem vals1 {x:V} {us:List Value} (r:Vals [x] us):∃ u,us=[u]∧RelV x u:=by
  cases r with
  | cons r1 r2=>cases r2; exact ⟨_,rfl,r1⟩
theorem vals2 {x y:V} {us:List Value} (r:Vals [x,y] us):∃ u w',us=[u,w']∧RelV x u∧RelV y w':=by
  cases r with
  | cons r1 r2 =>
    cases r2 with
    | cons r3 r4=>cases r4; exact ⟨_,_,rfl,r1,r3⟩
theorem call_abs:CallR X (.builtin "abs") (fun xs H Q=>∃ i,xs=[.int i]∧Q (.int (if i<0 then -i else i)) H):=by
  intro pins s σ H xs us Q I r h
  obtain ⟨i,rfl,q⟩:=h
  obtain ⟨u,rfl,t,rfl⟩:=vals1 r
  exact call_abs_int fun u tk=>⟨.int (if i<0 then -i else i),H,I.tok _,⟨_,rfl⟩,q⟩
theorem call_int1:CallR X (.type "int") (fun xs H Q=>(∃ i,xs=[.int i]∧Q (.int i) H)∨∃ k,xs=[.bl k]∧Q (.int (if k then 1 else 0)) H):=by
  intro pins s σ H xs us Q I r h
  rcases h with ⟨i,rfl,q⟩ | ⟨k,rfl,q⟩
  · obtain ⟨u,rfl,t,rfl⟩:=vals1 r
    exact call_int_int ⟨.int i,H,I,⟨_,rfl⟩,q⟩
  · obtain ⟨u,rfl,r1⟩:=vals1 r
    cases r1
    exact call_int_bool ⟨.int (if k then 1 else 0),H,I.tok _,⟨_,rfl⟩,q⟩
def LenV (K:PySem.W.Frag) (x:V) (H:Hp) (n:Nat):Prop :=
  match x with
  | .str y=>y.length≤sizeLine∧n=y.length
  | .byt y=>y.size≤sizeLine∧n=y.size
  | .ref p=>(∃ xs,SqL K H p xs∧n=xs.length)∨∃ xs,SqT K H p xs∧n=xs.length
  | _=>False
theorem call_len:CallR X (.builtin "len") (fun xs H Q=>∃ x n,xs=[x]∧LenV X.K x H n∧Q (.int n) H):=by
  intro pins s σ H xs us Q I r h
  obtain ⟨x,n,rfl,e,q⟩:=h
  obtain ⟨u,rfl,rx⟩:=vals1 r
  have hl:=line63
  have hs:sizeLine=16777216:=sizeLine_eq
  cases x with
  | str y =>
    obtain ⟨t,rfl⟩:=rx
    obtain ⟨hy,e'⟩:y.length≤sizeLine∧n=y.length:=e
    subst e'
    exact len_str (by omega) ⟨.int _,H,I.tok _,⟨_,rfl⟩,q⟩
  | byt y =>
    obtain ⟨t,rfl⟩:=rx
    obtain ⟨hy,e'⟩:y.size≤sizeLine∧n=y.size:=e
    subst e'
    exact PySem.W.len_bytes (by omega) ⟨.int _,H,I.tok _,⟨_,rfl⟩,q⟩
  | ref p =>
    cases rx
    have e':(∃ xs,SqL X.K H p xs∧n=xs.length)∨∃ xs,SqT X.K H p xs∧n=xs.length:=e
    rcases e' with ⟨xs,hx,e'⟩ | ⟨xs,hx,e'⟩
    · subst e'
      obtain ⟨its,r',pl,hz⟩:=I.list hx
      have hlen:=r'.length
      exact Calls.call_len_list pl.isList (by simp only [List.size_toArray]; omega) ⟨.int xs.length,H,I.tok _,⟨_,by simp only [List.size_toArray]; rw [hlen]⟩,q⟩
    · subst e'
      obtain ⟨its,r',pl,hz⟩:=I.tuple hx
      have hlen:=r'.length
      exact len_tuple pl (by simp only [List.size_toArray]; omega) ⟨.int xs.length,H,I.tok _,⟨_,by simp only [List.size_toArray]; rw [hlen]⟩,q⟩
  | _=>exact (show False from e).elim
end
end L2
namespace L2
open PySem PySem.Spec PyProof.Rows
structure ObjM (h:Heap) (x dx C:Addr) (mA:Str→Option Value):Prop where
  obj:h.get? x=some (PySem.W.instObj C dx)
  ns:h.Ns1 dx mA
  ne:dx≠x
theorem lookIn_ns {h:Heap} {dx:Addr} {mA:Str→Option Value} (n:h.Ns1 dx mA):∃ od,h.get? dx=some od∧∀ name,PySem.W.lookIn name od=some (mA name):=by
  obtain ⟨o,es,ep,ho,hd,hk,_,hm⟩:=n
  refine ⟨o,ho,fun name=>?_⟩
  have e:=hm name
  unfold nsFind findBy at e
  rw [← Array.find?_toList] at e
  unfold PySem.W.lookIn
  rw [hd]
  dsimp only
  split
  · rename_i y q
    rw [q] at e
    exact congrArg some e
  · rename_i q
    rw [q] at e
    have a:es.toList.any (·.refKey)=false:=by
      rw [List.any_eq_false]
      intro y hy
      obtain ⟨z,t,hkey⟩:=hk y (Array.mem_toList_iff.mp hy)
      simp [DictEntry.refKey,hkey]
    have a':¬ es.toList.any (·.refKey)=true:=by rw [a]; exact Bool.false_ne_true
    rw [if_neg a']
    exact congrArg some e
theorem ObjM.look {h:Heap} {x dx C:Addr} {mA:Str→Option Value} (I:ObjM h x dx C mA):∃ od,PySem.W.InstAt h x (PySem.W.instObj C dx) C (some od)∧∀ name,PySem.W.lookIn name od=some (mA name) :=
  let ⟨od,ho,hl⟩:=lookIn_ns I.ns
  ⟨od,⟨I.obj,rfl,rfl,ho⟩,hl⟩
section
variable {prog:Program} {w:World} {A:Around} {E:Value→Shared→Prop} {s:Shared} {K:PySem.W.Frag} {x dx C f:Addr} {mA:Str→Option Value} {name:Str} {v:Value}
end
def putF (f:Str) (v:V):List (Str × V)→List (Str × V)
  | []=>[(f,v)]
  | (g,x)::r=>if g=f then (g,v)::r else (g,x)::putF f v r
theorem lookup_putF (f g:Str) (v:V):∀ fs:List (Str × V),(putF f v fs).lookup g=if g=f then some v else fs.lookup g
  | []=>by
    show List.lookup g [(f,v)]=_
    by_cases h:g=f
    · have hb:(g == f)=true:=beq_iff_eq.mpr h
      simp only [List.lookup,hb,if_pos h]
    · have hb:(g == f)=false:=beq_eq_false_iff_ne.mpr h
      simp only [List.lookup,hb,if_neg h]
  | (k,x)::r=>by
    have ih:=lookup_putF f g v r
    rw [show putF f v ((k,x)::r)=(if k=f then (k,v)::r else (k,x)::putF f v r) from rfl]
    by_cases hk:k=f
    · rw [if_pos hk]
      by_cases h:g=k
      · have hb:(g == k)=true:=beq_iff_eq.mpr h
        simp only [List.lookup,hb,if_pos (h.trans hk)]
      · have hb:(g == k)=false:=beq_eq_false_iff_ne.mpr h
        simp only [List.lookup,hb,if_neg (fun e:g=f=>h (e.trans hk.symm))]
    · rw [if_neg hk]
      by_cases h:g=k
      · have hb:(g == k)=true:=beq_iff_eq.mpr h
        simp only [List.lookup,hb,if_neg (fun e:g=f=>hk (h.symm.trans e))]
      · have hb:(g == k)=false:=beq_eq_false_iff_ne.mpr h
        simp only [List.lookup,hb]
        exact ih
theorem keys_putF (f:Str) (v:V):∀ fs:List (Str × V),f∈(putF f v fs).map (·.1)∧∀ g,g∈fs.map (·.1)→g∈(putF f v fs).map (·.1)
  | []=>⟨by simp [putF],fun g h=>by simp at h⟩
  | (k,x)::r=>by
    obtain ⟨i1,i2⟩:=keys_putF f v r
    rw [show putF f v ((k,x)::r)=(if k=f then (k,v)::r else (k,x)::putF f v r) from rfl]
    by_cases hk:k=f
    · rw [if_pos hk]
      subst hk
      exact ⟨by simp,fun g h=>by simpa using h⟩
    · rw [if_neg hk]
      refine ⟨?_,fun g h=>?_⟩
      · rw [List.map_cons]
        exact List.mem_cons_of_mem _ i1
      · rw [List.map_cons] at h ⊢
        rcases List.mem_cons.mp h with e | e
        · exact List.mem_cons.mpr (.inl e)
        · exact List.mem_cons_of_mem _ (i2 g e)
theorem RelO.some_of {v:V} {o:Option Value} (r:RelO (some v) o):∃ u,o=some u∧RelV v u:=by
  cases o with
  | none=>exact (show False from r).elim
  | some u=>exact ⟨u,rfl,r⟩
theorem handed_of {v:V} {u:Value} (r:RelV v u):PySem.W.handedIn u=true:=by
  cases v with
  | non=>cases (show u=Value.none from r); rfl
  | bl b=>cases (show u=Value.bool b from r); rfl
  | int i=>obtain ⟨t,e⟩:=(show ∃ t,u=Value.int i t from r); cases e; rfl
  | str x=>obtain ⟨t,e⟩:=(show ∃ t,u=Value.str x t from r); cases e; rfl
  | byt b=>obtain ⟨t,e⟩:=(show ∃ t,u=Value.bytes b t from r); cases e; rfl
  | flt b=>obtain ⟨t,e⟩:=(show ∃ t,u=Value.float b t from r); cases e; rfl
  | ref a=>cases (show u=Value.ref a from r); rfl
  | ty n=>cases (show u=Value.type n from r); rfl
section
variable {P:Program} {w:World} {H H':Hp} {h h':Heap} {a C dx:Addr} {fs fs':List (Str × V)}
theorem ins_get (hok:HOk P w H h) (e:H a=some (.ins C dx fs)):∃ mA,ObjM h a dx C mA∧(∀ f,RelO (fs.lookup f) (mA f))∧PySem.Within mA (fs.map (·.1))∧fs.length≤1000∧H dx=some (.own a):=by
  obtain ⟨d,z,ne,ob,mA,n,r,q⟩:=(show ObjOk P w H h a (.ins C dx fs) from hok a _ e)
  exact ⟨mA,⟨ob,n,ne⟩,r,q,z,d⟩
end
structure Cls (K:PySem.W.Frag) (C:Addr):Prop where
  pg:PySem.W.plainGet K C Str.empty=true
  hd:PySem.W.hasDictIn K C=true
  po:PySem.W.plainOver K C=true
  sa:PySem.W.findIn K (.ref C) "__setattr__" = some (some (.builtin "object.__setattr__"))
theorem Cls.get {K:PySem.W.Frag} {C:Addr} (c:Cls K C) (f:Str):PySem.W.plainGet K C f=true:=c.pg
def NoAttr (K:PySem.W.Frag) (C:Addr) (f:Str):Prop:=PySem.W.findIn K (.ref C) f=some none
section
variable {X:Cx} {pins:List (Addr × Obj)} {σ:St} {H:Hp} {s:Shared} {a C dx:Addr} {fs:List (Str × V)} {f:Str} {v:V} {A:Around} {E:Value→Shared→Prop}
theorem attr_of {prog:Program} {w:World} {env:Env} {e:Expr} {f:Str} {pos:Pos} {s:Shared} {Q:Value→Shared→Prop} (hb:attributeBase e f env (eval e env)=eval e env)
    (h:wpAny (model prog w) A (eval e env) (fun o s₁=>wpAny (model prog w) A (getAttr o f true) Q E s₁) E s):wpAny (model prog w) A (eval (.Attribute e f pos) env) Q E s :=
  Attribute_any_ h (by rw [arm_eval_Attribute,hb])
end
section
variable {X:Cx} {o e value:Expr} {f:Str} {pos pos' tpos:Pos} {ta tv:TE}
end
section
variable {X:Cx} {pins:List (Addr × Obj)} {σ:St} {H:Hp} {s:Shared} {A:Around} {E:Value→Shared→Prop} {Q:Value→Shared→Prop} {c:Value} {b:Bool}
inductive TyOf (K:PySem.W.Frag) (H:Hp):V→Value→Prop where
  | non:TyOf K H .non (.type "NoneType")
  | bl (x:Bool):TyOf K H (.bl x) (.type "bool")
  | int (i:Int):TyOf K H (.int i) (.type "int")
  | str (x:Str):TyOf K H (.str x) (.type "str")
  | flt (x:UInt64):TyOf K H (.flt x) (.type "float")
  | lst {a:Addr} {xs:List V} (e:H a=some (.lst xs)):TyOf K H (.ref a) (.type "list")
  | frz {a:Addr} {o:Obj} {xs:List V} (e:H a=some (.frz o (.lst xs))):TyOf K H (.ref a) (.type "list")
  | tup {a:Addr} {xs:List V} (e:H a=some (.tup xs)):TyOf K H (.ref a) (.type "tuple")
  | dK {a:Addr} {kvs:List (Key × V)} (e:H a=some (.dK kvs)):TyOf K H (.ref a) (.type "dict")
  | dT {a:Addr} {kvs:List (List Key × V)} (e:H a=some (.dT kvs)):TyOf K H (.ref a) (.type "dict")
  | ins {a C dx:Addr} {fs:List (Str × V)} (e:H a=some (.ins C dx fs)) (cl:Cls K C) (ha:PySem.W.findIn K (.ref C) "__class__" = some (some (.builtin "object.__class__")))
      (hn:PySem.W.specialIn K (.builtin "object.__class__") "__get__" = some (some (.builtin "getset_descriptor.__get__"))) (htk:PySem.W.takesIn K (.builtin "object.__class__")=some true)
      (hm:PySem.W.mroIn K C (.type "object")=some true):TyOf K H (.ref a) (.ref C)
theorem isinst_ok {x:V} {u t:Value} (I:Inv X pins σ H s) (rx:RelV x u) (ty:TyOf X.K H x t) (e:PySem.W.kitOne X.K t c=some b) (h:∀ tk,Q (.bool b) { s with toks:=tk }) :
    wpAny (model X.prog X.w) A (call (.builtin "isinstance") [u,c]) Q E s:=by
  cases ty with
  | non=>cases (show u=Value.none from rx); exact PySem.W.kia_one PySem.W.kitx_none I.kIn True.intro e (fun z=>nomatch z) h
  | bl y=>cases (show u=Value.bool y from rx); exact PySem.W.kia_one PySem.W.kitx_bool I.kIn True.intro e (fun z=>nomatch z) h
  | int i=>obtain ⟨t,q⟩:=(show ∃ t,u=Value.int i t from rx); cases q; exact PySem.W.kia_one PySem.W.kitx_int I.kIn True.intro e (fun z=>nomatch z) h
  | str y=>obtain ⟨t,q⟩:=(show ∃ t,u=Value.str y t from rx); cases q; exact PySem.W.kia_one PySem.W.kitx_str I.kIn True.intro e (fun z=>nomatch z) h
  | flt y=>obtain ⟨t,q⟩:=(show ∃ t,u=Value.float y t from rx); cases q; exact PySem.W.kia_one PySem.W.kitx_float I.kIn True.intro e (fun z=>nomatch z) h
  | @lst a xs ea =>
    cases (show u=Value.ref a from rx)
    obtain ⟨_,_,n,_,h1⟩:=(show ObjOk X.prog X.w H s.heap a (.lst xs) from I.hok a _ ea)
    exact PySem.W.kia_one PySem.W.kitx_list I.kIn ⟨_,h1,rfl⟩ e (fun z=>nomatch z) h
  | @frz a ob xs ea =>
    cases (show u=Value.ref a from rx)
    obtain ⟨_,_,_,n,_,h1⟩:=(show ObjOk X.prog X.w H s.heap a (.frz ob (.lst xs)) from I.hok a _ ea)
    exact PySem.W.kia_one PySem.W.kitx_list I.kIn ⟨_,h1,rfl⟩ e (fun z=>nomatch z) h
  | @tup a xs ea =>
    cases (show u=Value.ref a from rx)
    obtain ⟨_,_,_,p⟩:=(show ObjOk X.prog X.w H s.heap a (.tup xs) from I.hok a _ ea)
    obtain ⟨o,h1,h2,_⟩:=p
    exact PySem.W.kia_one PySem.W.kitx_tuple I.kIn ⟨o,h1,h2⟩ e (fun z=>nomatch z) h
  | @dK a kvs ea =>
    cases (show u=Value.ref a from rx)
    obtain ⟨_,_,vs,_,p⟩:=(show ObjOk X.prog X.w H s.heap a (.dK kvs) from I.hok a _ ea)
    obtain ⟨o,es,ep,h1,h2,_⟩:=p
    exact PySem.W.kia_one PySem.W.kitx_dict I.kIn ⟨o,h1,h2.1⟩ e (fun z=>nomatch z) h
  | @dT a kvs ea =>
    cases (show u=Value.ref a from rx)
    obtain ⟨_,_,xs,_,o,es,ep,h1,h2,_⟩:=(show ObjOk X.prog X.w H s.heap a (.dT kvs) from I.hok a _ ea)
    exact PySem.W.kia_one PySem.W.kitx_dict I.kIn ⟨o,h1,h2.1⟩ e (fun z=>nomatch z) h
  | @ins a C dx fs ea cl ha hn htk hm =>
    cases (show u=Value.ref a from rx)
    obtain ⟨mA,O,_⟩:=ins_get I.hok ea
    obtain ⟨od,J,_⟩:=O.look
    exact PySem.W.kia_one (PySem.W.kitx_own (cl.get _) cl.hd ha hn htk hm) I.kIn J e (fun z=>nomatch z) h
end
end L2
namespace L2
open PySem PySem.Spec PyProof.Rows
structure Room (k:Nat) (A:Around):Prop where
  hd:A.handled=none
  dp:A.depth+3*k+5<recursionLimit
  un:A.units+16*k+200<cLine
  gd:A.guards=some []
theorem Room.mono {j k:Nat} {A:Around} (r:Room k A) (h:j≤k):Room j A:=⟨r.hd,by have:=r.dp; omega,by have:=r.un; omega,r.gd⟩
theorem Room.deeper {k:Nat} {A:Around} (r:Room (k+1) A) (env:Env):Room k (A.deeper env) :=
  ⟨r.hd,by have:=r.dp; show A.depth+1+3*k+5<_; omega,by have:=r.un; show A.units+3+16*k+200<_; omega,r.gd⟩
theorem make_depth {A:Around} {C:Addr} {us:List Value} {kw:List (Str × Value)}:(A.under (.builtin "type.__call__" ⟨.ref C::us,kw⟩)).depth=A.depth+1:=by
  first | rfl | simp [Around.under,Code.weight,Code.isCreation,Code.isGuard,Code.isCaller,Code.frames,Code.isFrame,guardIds]
theorem make_units {A:Around} {C:Addr} {us:List Value} {kw:List (Str × Value)}:(A.under (.builtin "type.__call__" ⟨.ref C::us,kw⟩)).units=A.units+1:=by
  first | rfl | simp [Around.under,Code.cUnits,Code.frames,Code.isFrame]
theorem Room.make {k:Nat} {A:Around} (r:Room (k+1) A) (C:Addr) (us:List Value) (kw:List (Str × Value)):Room k (A.under (.builtin "type.__call__" ⟨.ref C::us,kw⟩)) :=
  ⟨r.hd,by have:=r.dp; rw [make_depth]; omega,by have:=r.un; rw [make_units]; omega,by first | exact r.gd | (simpa [Around.under,Code.guards,Code.isGuard,guardIds,pushGuards] using r.gd)⟩
theorem Room.depth {k:Nat} {A:Around} (r:Room k A):A.depth<recursionLimit:=by have:=r.dp; omega
theorem Room.units {k:Nat} {A:Around} (r:Room k A):A.units+64<cLine:=by have:=r.un; omega
def tNil:TA:=fun _ H Q=>Q [] H
def tCons (ta:TE) (tr:TA):TA:=fun σ H Q=>ta σ H fun x H1=>tr σ H1 fun xs H2=>Q (x::xs) H2
section
variable {X:Cx} {e:Expr} {es:List Expr} {te:TE} {t:TA} {pos:Pos}
theorem pa_nil:PA X [] tNil:=fun _ _ _ _ H Q I h=>Calls.spliced_nil ⟨[],H,I,.nil,h⟩
theorem pa_cons (ha:PE X e te) (hr:PA X es t) (hs:starEach (e::es) X.env=(false,eval e X.env)::starEach es X.env:=by rfl):PA X (e::es) (tCons te t):=by
  intro pos pins s σ H Q I h
  rw [hs]
  show wpAny _ _ (spliced ((false,eval e X.env)::backTo pos (starEach es X.env))) _ _ s
  refine Calls.spliced_cons (thn (ha pins s σ H _ I h) fun u s1 ⟨x,H1,I1,r1,q1⟩=>?_)
  exact thn (hr pos pins s1 σ H1 _ I1 q1) fun us s2 ⟨xs,H2,I2,r2,q2⟩=>⟨x::xs,H2,I2,.cons r1 r2,q2⟩
def tTup (t:TA):TE:=fun σ H Q=>t σ H fun xs H1=>xs.length≤sizeLine∧∀ p,H1 p=none→Q (.ref p) (upd H1 p (.tup xs))
def tLst (t:TA):TE:=fun σ H Q=>t σ H fun xs H1=>xs.length≤sizeLine∧∀ p,H1 p=none→Q (.ref p) (upd H1 p (.lst xs))
theorem pe_tup {x1} (h:PA X es t):PE X (.Tuple es x1 pos) (tTup t):=by
  intro pins s σ H Q I hq
  refine wpAny_Tuple_spliced (thn (h pos pins s σ H _ I hq) fun us s1 ⟨xs,H1,I1,r,z,q⟩=>⟨by rw [← r.length]; exact z,?_⟩)
  have hf:H1 s1.heap.objs.size=none:=I1.hok.fresh (Nat.le_refl _)
  refine ⟨.ref s1.heap.objs.size,upd H1 s1.heap.objs.size (.tup xs),I1.laid (t':=s1.toks) (fun b u e=>Heap.get?_push_of_some _ e) (Nat.le_refl _) ?_,rfl,q _ hf⟩
  exact ⟨⟨z,_,Heap.get?_push_size _ rfl,rfl⟩,us,r,⟨_,Heap.get?_push_size _ rfl,rfl,_,rfl⟩⟩
theorem pe_lst (h:PA X es t):PE X (.List es pos) (tLst t):=by
  intro pins s σ H Q I hq
  refine wpAny_List_spliced (thn (h pos pins s σ H _ I hq) fun us s1 ⟨xs,H1,I1,r,z,q⟩=>⟨by rw [← r.length]; exact z,?_⟩)
  have hf:H1 s1.heap.objs.size=none:=I1.hok.fresh (Nat.le_refl _)
  refine ⟨.ref s1.heap.objs.size,upd H1 s1.heap.objs.size (.lst xs),I1.laid (t':=s1.toks) (fun b u e=>Heap.get?_push_of_some _ e) (Nat.le_refl _) ?_,rfl,q _ hf⟩
  exact ⟨z,us,0,r,Heap.get?_push_size _ rfl⟩
end
abbrev Sp:=List V→Hp→VK→XK→Prop
abbrev CXT:=List Env→Hp→Shared→XK→Value→Shared→Prop
structure Env0 (P:Program) (w:World) (K:PySem.W.Frag) (mg:Str→Option Value) (base:Heap) (A:Around) (outer:List Env) (s:Shared) (H:Hp):Prop where
  frames:A.frames=some outer
  mod:Mod K mg base
  bs:∀ b o,base.get? b=some o→s.heap.get? b=some o∧H b=none
  bsz:base.objs.size≤s.heap.objs.size
  funs:s.heap.FunFrames base outer
  frf:∀ b∈frs outer,H b=none
  hok:HOk P w H s.heap
  bare:AllBare s.gens
def CE (outer:List Env) (P:Program) (w:World) (H:Hp) (s:Shared) (Q:VK) (u:Value) (s':Shared):Prop :=
  ∃ v H',s'.os=s.os∧AllBare s'.gens∧Un (frs outer) [] H H' s.heap s'.heap∧HOk P w H' s'.heap∧RelV v u∧Q v H'
def CR (CX:CXT) (outer:List Env) (P:Program) (w:World) (H:Hp) (s:Shared) (Q:VK) (E:XK) (r:Result) (s':Shared):Prop :=
  match r with
  | .ok (.ret u)=>CE outer P w H s Q u s'
  | .ok _=>False
  | .error e=>CX outer H s E e s'
structure FnOk (P:Program) (w:World) (K:PySem.W.Frag) (mg:Str→Option Value) (base:Heap) (CX:CXT) (k:Nat) (f:Addr) (fd:FuncData) (ps:List Str) (sp:Sp):Prop where
  len:∀ vs H Q E,sp vs H Q E→vs.length=ps.length
  run:∀ (A:Around) (outer:List Env) (s:Shared) (H:Hp) (args:Args) (us:List Value) (vs:List V) (Q:VK) (E:XK),Room k A→Env0 P w K mg base A outer s H→BindsTo s fd args (ps.zip us)→Vals vs us→sp vs H Q E →
    codeAny (model P w) A (.call (.ref f) args) (CR CX outer P w H s Q E) s
theorem Env0.make {P:Program} {w:World} {K:PySem.W.Frag} {mg:Str→Option Value} {base:Heap} {A:Around} {outer:List Env} {s:Shared} {H:Hp} (e:Env0 P w K mg base A outer s H) (C:Addr) (us:List Value) (kw:List (Str × Value)) :
    Env0 P w K mg base (A.under (.builtin "type.__call__" ⟨.ref C::us,kw⟩)) outer s H:=⟨by first | exact e.frames | (simpa [Around.under,Code.envs,Code.isFrame,pushEnvs] using e.frames),e.mod,e.bs,e.bsz,e.funs,e.frf,e.hok,e.bare⟩
section
variable {X:Cx} {pins:List (Addr × Obj)} {σ:St} {H:Hp} {s s':Shared}
theorem Inv.env0 (I:Inv X pins σ H s):Env0 X.prog X.w X.K X.mg X.base X.A X.stack s H :=
  ⟨I.ok.frames,I.ok.mod,I.bs,Nat.le_trans I.ok.bsz I.sz,I.stack,I.stkFree,I.hok,I.bare⟩
theorem Inv.after {Q:VK} {u:Value} (I:Inv X pins σ H s) (h:CE X.stack X.prog X.w H s Q u s'):EP X pins σ Q u s':=by
  obtain ⟨v,H',os,bare,un,hok,r,q⟩:=h
  obtain ⟨hh,g,d,t,os'⟩:=s'
  obtain rfl:os'=s.os:=os
  exact ⟨v,H',I.call (h':=hh) (g':=g) (d':=d) (t':=t) (ch:=[]) un hok bare (fun b z=>absurd z (by simp)),r,q⟩
end
def tCall (sp:Sp) (dvs:List V) (E:XK) (t:TA):TE:=fun σ H Q=>t σ H fun vs H1=>sp (vs++dvs) H1 Q E
def Binds (K:PySem.W.Frag) (fd:FuncData) (ps:List Str) (ds:List Value):Prop :=
  ∀ (s:Shared) (us:List Value),K.In s.heap→(us++ds).length=ps.length→BindsTo s fd ⟨us,[]⟩ (ps.zip (us++ds))
theorem Binds.all {K:PySem.W.Frag} {fd:FuncData} {ps:List Str} (h:∀ us:List Value,us.length=ps.length→bindArgs fd ⟨us,[]⟩=pure (ps.zip us)):Binds K fd ps []:=fun s us _ hl=>by
  rw [List.append_nil] at hl ⊢
  exact .of_eq (h us hl)
def Passes (CX:CXT) (X:Cx) (E:XK):Prop:=∀ (pins:List (Addr × Obj)) (σ:St) (H:Hp) (s:Shared) (e:Value) (s':Shared),Inv X pins σ H s→CX X.stack H s E e s'→X.xe e s'
section
variable {X:Cx} {CX:CXT} {k:Nat} {f C:Addr} {fd:FuncData} {ps:List Str} {sp:Sp} {dvs:List V} {ds:List Value} {E:XK} {x m:Str} {p pos apos:Pos} {e o:Expr} {es:List Expr} {ta:TE} {t:TA}
theorem run_fn {pins:List (Addr × Obj)} {σ:St} {H:Hp} {s:Shared} {Q:VK} {us:List Value} {vs:List V} (F:FnOk X.prog X.w X.K X.mg X.base CX k f fd ps sp) (hr:Room k X.A) (hb:Binds X.K fd ps ds) (hd:Vals dvs ds) (hx:Passes CX X E)
    (I:Inv X pins σ H s) (r:Vals vs us) (h:sp (vs++dvs) H Q E):wpAny (model X.prog X.w) X.A (call (.ref f) us) (EP X pins σ Q) X.xe s:=by
  have r2:Vals (vs++dvs) (us++ds):=r.append hd
  have hl:(us++ds).length=ps.length:=by rw [← r2.length]; exact F.len _ _ _ _ h
  refine wpAny_call (codeAny_mono (F.run X.A X.stack s H ⟨us,[]⟩ (us++ds) (vs++dvs) Q E hr I.env0 (hb s us I.kIn hl) r2 h) fun r s' hq=>?_)
  cases r with
  | error e=>exact hx pins σ H s e s' I hq
  | ok fl =>
    cases fl with
    | ret u=>exact I.after hq
    | next=>exact False.elim hq
    | brk=>exact False.elim hq
    | cont=>exact False.elim hq
theorem pe_call (F:FnOk X.prog X.w X.K X.mg X.base CX k f fd ps sp) (hr:Room k X.A) (hg:Gl X x) (hm:X.mg x=some (.ref f)) (hk:PySem.W.keepIn X.K (.ref f)=true) (hb:Binds X.K fd ps ds) (hd:Vals dvs ds) (hx:Passes CX X E)
    (ha:PA X (e::es) t) (hdb:(x == ("__debug__" : Str))=false:=by decide) (he:starEach (e::es) X.env=(false,eval e X.env)::starEach es X.env:=by rfl) (hpl:(backTo pos (starEach es X.env)).any (·.1)=false:=by rfl) :
    PE X (.Call (.Name x p) (e::es) [] pos) (tCall sp dvs E t):=by
  intro pins s σ H Q I h
  refine wpAny_Call_Name_kw (ld_glob I hg hm ?_ hdb)
  refine PySem.W.callWith_K (h₀:=X.base) I.ok.mod.kin hk (thn (ha pos pins s σ H _ I h) fun us s1 ⟨vs,H1,I1,r,q⟩=>⟨I1.kIn,?_⟩) he hpl
  exact run_fn F hr hb hd hx I1 r q
end
section
variable {X:Cx} {CX:CXT} {k:Nat} {f C:Addr} {fd:FuncData} {ps ks:List Str} {sp:Sp} {E:XK} {x m:Str} {p pos apos kpos:Pos} {e o:Expr} {es:List Expr} {kws:List Keyword} {te ta:TE} {t tk:TA} {nm:Option Str}
variable {g:List Value→List Value→List Value} {gV:List V→List V→List V}
end
structure FnScope (N P:List Str) (sc:Scope):Prop where
  kind:sc.kind=.function
  co:sc.isCoroutine=false
  gen:sc.isGenerator=false
  nd:N.Nodup
  pre:N.take P.length=P
  par:∀ x∈P,sc.names.lookup x=some .local∨sc.names.lookup x=some .cell
  nofree:∀ y∈sc.names,y.2 ≠ .free
theorem bindL_out {kindOf:Str→Option NameKind} {x:Str}:∀ {binds:List (Str × Value)} {m:Str→Option Value},(∀ v,(x,v) ∉ binds)→bindL kindOf binds m x=m x
  | [],_,_=>rfl
  | (n,v)::r,m,h=>by
    unfold bindL
    rw [bindL_out fun w hw=>h w (List.mem_cons_of_mem _ hw)]
    split
    · have:x≠n:=by rintro rfl; exact h v List.mem_cons_self
      simp [this]
    · rfl
theorem bindC_out {kindOf:Str→Option NameKind} {x:Str}:∀ {binds:List (Str × Value)} {m:Str→Option Value},(∀ v,(x,v) ∉ binds)→bindC kindOf binds m x=m x
  | [],_,_=>rfl
  | (n,v)::r,m,h=>by
    unfold bindC
    rw [bindC_out fun w hw=>h w (List.mem_cons_of_mem _ hw)]
    split
    · rfl
    · have:x≠n:=by rintro rfl; exact h v List.mem_cons_self
      simp [this]
theorem bindL_get {kindOf:Str→Option NameKind} {x:Str} {v:Value}:∀ {P:List Str} {vs:List Value} {i:Nat} {m:Str→Option Value},P.Nodup→P[i]?=some x→vs[i]?=some v→kindOf x=some .local →
    bindL kindOf (P.zip vs) m x=some v
  | [],_,_,_,_,h,_,_=>by simp at h
  | _::_,[],_,_,_,_,h,_=>by simp at h
  | p::P,w::vs,0,m,nd,h1,h2,hk=>by
    simp at h1 h2; subst h1; subst h2
    show bindL kindOf ((p,w)::P.zip vs) m p=_
    unfold bindL
    rw [bindL_out fun v hv=>(List.nodup_cons.mp nd).1 (List.of_mem_zip hv).1,if_pos hk]
    simp
  | p::P,w::vs,i+1,m,nd,h1,h2,hk=>by
    show bindL kindOf ((p,w)::P.zip vs) m x=_
    unfold bindL
    exact bindL_get (i:=i) (List.nodup_cons.mp nd).2 (by simpa using h1) (by simpa using h2) hk
theorem bindC_get {kindOf:Str→Option NameKind} {x:Str} {v:Value}:∀ {P:List Str} {vs:List Value} {i:Nat} {m:Str→Option Value},P.Nodup→P[i]?=some x→vs[i]?=some v→kindOf x≠some .local →
    bindC kindOf (P.zip vs) m x=some v
  | [],_,_,_,_,h,_,_=>by simp at h
  | _::_,[],_,_,_,_,h,_=>by simp at h
  | p::P,w::vs,0,m,nd,h1,h2,hk=>by
    simp at h1 h2; subst h1; subst h2
    show bindC kindOf ((p,w)::P.zip vs) m p=_
    unfold bindC
    rw [bindC_out fun v hv=>(List.nodup_cons.mp nd).1 (List.of_mem_zip hv).1,if_neg hk]
    simp
  | p::P,w::vs,i+1,m,nd,h1,h2,hk=>by
    show bindC kindOf ((p,w)::P.zip vs) m x=_
    unfold bindC
    exact bindC_get (i:=i) (List.nodup_cons.mp nd).2 (by simpa using h1) (by simpa using h2) hk
def start (N:List Str) (vs:List V):St:=vs.map some++List.replicate (N.length - vs.length) none
def cxOf (CX:CXT) (P:Program) (w:World) (K:PySem.W.Frag) (mg:Str→Option Value) (base:Heap) (N:List Str) (qual:Str) (scope:Scope) (f:Addr) (cd:Value) (A:Around) (outer:List Env) (s:Shared) (H:Hp) (E:XK):Cx where
  prog:=P
  w:=w
  K:=K
  mg:=mg
  base:=base
  A:=A.deeper (envOfC qual scope s.heap.objs.size f cd)
  N:=N
  s₀:=s
  H₀:=H
  env:=envOfC qual scope s.heap.objs.size f cd
  outer:=outer
  stack:=envOfC qual scope s.heap.objs.size f cd::outer
  ex:=[]
  calm:=true
  fn:=fun _=>true
  pn:=[]
  xe:=fun e s'=>wpAny (model P w) (A.deeper (envOfC qual scope s.heap.objs.size f cd)) (leaving (envOfC qual scope s.heap.objs.size f cd) e) (fun _ s''=>CX outer H s E e s'') (fun e' s''=>CX outer H s E e' s'') s'
theorem cell_has {sc:Scope} {n:Nat} {x:Str} (h:sc.names.lookup x=some .cell):∃ c,(cellsFrom n sc.names []).lookup x=some c:=by
  have q:=PySem.W.cellsFrom_some sc.names n [] (.inl h)
  exact Option.isSome_iff_exists.mp q
theorem inv_start {CX:CXT} {P:Program} {w:World} {K:PySem.W.Frag} {mg:Str→Option Value} {base:Heap} {N ps:List Str} {qual:Str} {scope:Scope} {f:Addr} {cd:Value} {A:Around} {outer:List Env} {s s1:Shared} {H:Hp} {E:XK} {us:List Value} {vs:List V}
    (S:FnScope N ps scope) (hd:A.handled=none) (e0:Env0 P w K mg base A outer s H) (hl:vs.length=ps.length) (r:Vals vs us)
    (x:InCallC s s.heap.objs.size (bindL (envOfC qual scope s.heap.objs.size f cd).kindOf (ps.zip us) fun _=>none) (cellsFrom (s.heap.objs.size+1) scope.names []) (bindC (envOfC qual scope s.heap.objs.size f cd).kindOf (ps.zip us) fun _=>none) s1) :
    Inv (cxOf CX P w K mg base N qual scope f cd A outer s H E) [] (start N vs) H s1:=by
  have hpl:ps.length≤N.length:=by have:=congrArg List.length S.pre; rw [List.length_take] at this; omega
  obtain ⟨h1,tk,rfl,hk⟩:=x.done
  have noA:∀ b:Addr,b ∉ (cxOf CX P w K mg base N qual scope f cd A outer s H E).ex:=fun b z=>absurd (show b∈([]:List Addr) from z) (by simp)
  refine ⟨⟨e0.mod,S.kind,rfl,rfl,Nat.le_refl _,fun y z c h1 h2=>?_,fun y hy=>?_,fun y c _ h=>?_,fun _=>hd,Around.frames_deeper e0.frames,.inr ⟨rfl,rfl⟩,fun b z=>absurd z (noA b),e0.bs,e0.bsz,fun b _ _=>noA b,fun b z=>absurd z (noA b),e0.funs,e0.frf⟩,
    rfl,e0.bare,Un.kept hk,⟨_,x.toInCall.ns,fun i y v h1 h2 h3=>?_⟩,fun y c h=>⟨_,x.cell y c h⟩,e0.hok.fresh (Nat.le_refl _),fun y c h=>?_,fun p hp=>absurd (show p∈([]:List (Addr × Obj)) from hp) (by simp),e0.hok.kept hk,?_⟩
  · exact name_of_addr x.apart (PySem.mem_of_lookup h1) (PySem.mem_of_lookup h2)
  · have hy:scope.names.lookup y=some .cell∨scope.names.lookup y=some .free:=hy
    rcases hy with hy | hy
    · exact cell_has hy
    · exact absurd rfl (S.nofree _ (PySem.mem_of_lookup hy))
  · exact Nat.le_of_lt (x.above y c (PySem.mem_of_lookup h))
  · have hi:i<vs.length:=by
      unfold start at h2
      by_cases hi:i<vs.length
      · exact hi
      · rw [List.getElem?_append_right (by simpa using hi)] at h2
        rw [List.getElem?_replicate] at h2
        split at h2 <;> cases h2
    have ha:vs[i]?=some v:=by
      unfold start at h2
      rw [List.getElem?_append_left (by simpa using hi),List.getElem?_map] at h2
      cases e:vs[i]? with
      | none=>rw [e] at h2; cases h2
      | some a=>rw [e] at h2; cases h2; rfl
    obtain ⟨u,hu,rv⟩:=r.get ha
    have hp:ps[i]?=some y:=by
      rw [← S.pre,List.getElem?_take_of_lt (by omega)]; exact h1
    have ndP:ps.Nodup:=by rw [← S.pre]; exact S.nd.sublist (List.take_sublist _ _)
    refine ⟨u,rv,?_⟩
    rcases S.par y (List.mem_of_getElem? hp) with k | k
    · exact .inl ⟨k,bindL_get ndP hp hu k⟩
    · obtain ⟨c,e⟩:=cell_has (n:=s.heap.objs.size+1) k
      refine .inr ⟨.inl k,c,e,?_⟩
      have q:=x.cell y c e
      rw [bindC_get ndP hp hu (by show scope.names.lookup y≠_; rw [k]; decide)] at q
      exact q
  · exact e0.hok.fresh (Nat.le_of_lt (x.above y c (PySem.mem_of_lookup h)))
  · unfold start
    show _=N.length
    rw [List.length_append,List.length_map,List.length_replicate]
    omega
theorem fn_of {CX:CXT} {P:Program} {w:World} {K:PySem.W.Frag} {mg:Str→Option Value} {base:Heap} {k:Nat} {f:Addr} {name qual:Str} {params:Arguments} {body:List Stmt} {scope:Scope} {dV kV doc pm cdv ct oc:Value} {an od:Option Addr}
    {osl:Array (Option Value)} {N ps:List Str} {sp:Sp} (lk:K.lookup f=some ⟨oc,od,.func (PySem.W.fnOf name qual params body scope dV kV doc pm an cdv ct),osl⟩) (hcd:PySem.W.codeIn K cdv qual=true) (S:FnScope N ps scope)
    (len:∀ vs H Q E,sp vs H Q E→vs.length=ps.length)
    (hbody:∀ (A:Around) (outer:List Env) (s:Shared) (H:Hp) (vs:List V) (Q:VK) (E:XK),Room k (A.deeper (envOfC qual scope s.heap.objs.size f cdv))→sp vs H Q E →
      ∃ t,PSs (cxOf CX P w K mg base N qual scope f cdv A outer s H E) body t∧t { nx:=fun _ H'=>Q .non H',rt:=Q } (start N vs) H) :
    FnOk P w K mg base CX (k+1) f (PySem.W.fnOf name qual params body scope dV kV doc pm an cdv ct) ps sp:=by
  refine ⟨len,fun A outer s H args us vs Q E hr e0 hb r hsp=>?_⟩
  have hl:=len _ _ _ _ hsp
  have KX:K.In s.heap:=e0.mod.kin.keeps fun b o e=>(e0.bs b o e).1
  have lim:s.heap.NoLimit:=e0.mod.nolimit.keeps fun b o e=>(e0.bs b o e).1
  have hkind:∀ y∈ps.zip us,scope.names.lookup y.1=some .local∨(scope.names.lookup y.1=some .cell∧((cellsFrom (s.heap.objs.size+1) scope.names []).lookup y.1).isSome=true):=fun ⟨n,v⟩ hy=>by
    rcases S.par n (List.of_mem_zip hy).1 with q | q
    · exact .inl q
    · exact .inr ⟨q,PySem.W.cellsFrom_some _ _ _ (.inl q)⟩
  refine codeAny_call_function hr.depth (KX _ _ lk) rfl S.co S.gen rfl (PySem.W.codeRec_of KX hcd) (hb _ _ _ _ ?_)
  refine wpAny_newFunctionEnv_cells S.kind hkind fun env he s1 x=>?_
  subst he
  refine ⟨lim.keeps x.toInCall.keep,codeAny_func ?_⟩
  obtain ⟨t,ht,hq⟩:=hbody A outer s H vs Q E (hr.deeper _) hsp
  have I:Inv (cxOf CX P w K mg base N qual scope f cdv A outer s H E) [] (start N vs) H s1:=inv_start S hr.hd e0 hl r x
  refine wpAny_mono (ht [] s1 (start N vs) H _ I hq) (fun fl s' hs=>?_) fun e s' hs=>hs
  have fin:∀ {σ':St} {H':Hp} {v:V} {u:Value},Inv (cxOf CX P w K mg base N qual scope f cdv A outer s H E) [] σ' H' s'→RelV v u→Q v H'→CE outer P w H s Q u s' :=
    fun {σ' H' v u} J rv q=>⟨v,H',J.os,J.bare,J.base,J.hok,rv,q⟩
  cases fl with
  | ret u =>
    obtain ⟨v,σ',H',J,rv,q⟩:=hs
    exact fin J rv q
  | next =>
    obtain ⟨σ',H',J,q⟩:=hs
    exact fin (v:=V.non) (u:=Value.none) J rfl q
  | brk =>
    obtain ⟨_,_,_,q⟩:=hs
    exact False.elim q
  | cont =>
    obtain ⟨_,_,_,q⟩:=hs
    exact False.elim q
end L2
namespace L2
open PySem PySem.Spec PyProof.Rows
section
variable {X:Cx} {x:Str} {p pos:Pos} {e:Expr} {es:List Expr} {t:TA} {id T:String} {r:List V→Hp→VK→Prop}
def tCB (r:List V→Hp→VK→Prop) (t:TA):TE:=fun σ H Q=>t σ H fun vs H1=>r vs H1 Q
theorem pe_callB (hc:CallR X (.builtin id) r) (hg:Gl X x) (hm:X.mg x=none) (hv:bootBuiltins x=some (.builtin id)) (ha:PA X (e::es) t) (hn:x ≠ "__name__" := by decide) (hdb:(x == ("__debug__" : Str))=false:=by decide)
    (he:starEach (e::es) X.env=(false,eval e X.env)::starEach es X.env:=by rfl) (hpl:(backTo pos (starEach es X.env)).any (·.1)=false:=by rfl):PE X (.Call (.Name x p) (e::es) [] pos) (tCB r t):=by
  intro pins s σ H Q I h
  refine wpAny_Call_Name_kw (ld_blt I hg hm hv ?_ hn hdb)
  exact PyProof.Rows.callWith_builtin1 (thn (ha pos pins s σ H _ I h) fun us s1 ⟨vs,H1,I1,r1,q1⟩=>hc pins s1 σ H1 vs us Q I1 r1 q1) he hpl
theorem pe_callTy (hc:CallR X (.type T) r) (hg:Gl X x) (hm:X.mg x=none) (hv:bootBuiltins x=some (.type T)) (ha:PA X (e::es) t) (hn:x ≠ "__name__" := by decide) (hdb:(x == ("__debug__" : Str))=false:=by decide)
    (he:starEach (e::es) X.env=(false,eval e X.env)::starEach es X.env:=by rfl) (hpl:(backTo pos (starEach es X.env)).any (·.1)=false:=by rfl):PE X (.Call (.Name x p) (e::es) [] pos) (tCB r t):=by
  intro pins s σ H Q I h
  refine wpAny_Call_Name_kw (ld_blt I hg hm hv ?_ hn hdb)
  exact PyProof.Rows.callWith_type1 (thn (ha pos pins s σ H _ I h) fun us s1 ⟨vs,H1,I1,r1,q1⟩=>hc pins s1 σ H1 vs us Q I1 r1 q1) he hpl
end
end L2
namespace HT
open PySem PyProof.Rows
section
open PySem.SeqAt
open PySem.AutoSeq1 (wpAny_loadPart')
open PySem.MeetsSeq PySem.MeetsSeq2 PySem.MeetsSeq3
end
section
variable {prog:Program} {w:World} {A:Around} {E:Value→Shared→Prop} {s:Shared}
def sIx (n d:Nat):Option Int→Nat
  | none=>d
  | some v=>if v<0 then (v+(n:Int)).toNat else min v.toNat n
theorem sIx_none (n d:Nat):sIx n d none=d:=rfl
theorem sIx_nat (n d k:Nat):sIx n d (some (k:Int))=min k n:=by
  show (if (k:Int)<0 then ((k:Int)+(n:Int)).toNat else min (k:Int).toNat n)=min k n
  rw [if_neg (by omega),Int.toNat_natCast]
end
end HT
namespace L2
open PySem PySem.Spec PyProof.Rows
abbrev TO:=St→Hp→(Option Int→Hp→Prop)→Prop
def PO (X:Cx) (e:Option Expr) (t:TO):Prop :=
  ∀ (pins:List (Addr × Obj)) (s:Shared) (σ:St) (H:Hp) (Q:Option Int→Hp→Prop),Inv X pins σ H s→t σ H Q →
    wpAny (model X.prog X.w) X.A (evalPart e X.env) (fun u s'=>∃ o H',Inv X pins σ H' s'∧IsPart u o∧Q o H') X.xe s
def tNoPart:TO:=fun _ H Q=>Q none H
def tPart (t:TE):TO:=fun σ H Q=>t σ H fun x H1=>∃ i,x=.int i∧Q (some i) H1
theorem intsAre_of {ns:List Int}:∀ {us:List Value},Vals (ns.map V.int) us→IntsAre us ns:=by
  induction ns with
  | nil=>intro us r; rw [List.map_nil] at r; cases r; exact .nil
  | cons n ns ih =>
    intro us r
    rw [List.map_cons] at r
    cases r with
    | cons r1 r2 =>
      obtain ⟨t,e⟩:=r1
      subst e
      exact .cons n t (ih r2)
section
variable {X:Cx} {e:Expr} {te:TE} {lo hi:Option Expr} {tl th:TO} {pos p2:Pos}
theorem po_none:PO X none tNoPart:=by
  intro pins s σ H Q I h
  rw [evalPart_none]
  exact wpAny_pure ⟨none,H,I,.none,h⟩
theorem po_some (h:PE X e te):PO X (some e) (tPart te):=by
  intro pins s σ H Q I hw
  rw [evalPart_some]
  refine thn (h pins s σ H _ I hw) fun u s1 ⟨x,H1,I1,r1,q1⟩=>?_
  obtain ⟨i,rfl,q⟩:=q1
  obtain ⟨t,rfl⟩:=r1
  exact ⟨some i,H1,I1,.int i t,q⟩
def SlR (X:Cx) (r:V→Option Int→Option Int→Hp→VK→Prop):Prop :=
  ∀ (pins:List (Addr × Obj)) (s:Shared) (σ:St) (H:Hp) (x:V) (v vl vu:Value) (lo hi:Option Int) (sl:Addr) (Q:VK),Inv X pins σ H s→RelV x v→s.heap.IsSliceOf sl vl vu .none→IsPart vl lo→IsPart vu hi→r x lo hi H Q →
    ∃ T id,typeLookup (.type T) "__getitem__" = pure (some (.builtin id))∧s.TypeIs v T∧wpAny (model X.prog X.w) X.A (getItem v (.ref sl)) (EP X pins σ Q) X.xe s
def tSl (r:V→Option Int→Option Int→Hp→VK→Prop) (te:TE) (tl th:TO):TE:=fun σ H Q=>te σ H fun x H1=>tl σ H1 fun l H2=>th σ H2 fun u H3=>r x l u H3 Q
theorem pe_slice {r:V→Option Int→Option Int→Hp→VK→Prop} (hr:SlR X r) (he:PE X e te) (hl:PO X lo tl) (hu:PO X hi th):PE X (.Subscript e (.Slice lo hi none p2) pos) (tSl r te tl th):=by
  intro pins s σ H Q I h
  refine Subscript_ (thn (he pins s σ H _ I h) fun v s1 ⟨x,H1,I1,r1,q1⟩=>?_)
  refine wpAny_Slice (thn (hl pins s1 σ H1 _ I1 q1) fun vl s2 ⟨l,H2,I2,pl,q2⟩=>thn (hu pins s2 σ H2 _ I2 q2) fun vu s3 ⟨u,H3,I3,pu,q3⟩=>?_)
  rw [evalPart_none]
  refine wpAny_pure ?_
  have I4:Inv X pins σ H3 { s3 with heap:=s3.heap.push { cls:=.type "slice",data:=.fields #[vl,vu,.none] } }:=I3.kept (t':=s3.toks) fun b ob q=>Heap.get?_push_of_some _ q
  obtain ⟨T,id,hT,ht,hg⟩:=hr pins { s3 with heap:=s3.heap.push { cls:=.type "slice",data:=.fields #[vl,vu,.none] } } σ H3 x v vl vu l u s3.heap.objs.size Q I4 r1 (Heap.IsSliceOf.new ..) pl pu q3
  show wpAny (model X.prog X.w) X.A (subscriptTail e (.Slice lo hi none p2) v (.ref s3.heap.objs.size)) (EP X pins σ Q) X.xe { s3 with heap:=s3.heap.push { cls:=.type "slice",data:=.fields #[vl,vu,.none] } }
  exact tail_any (ops:=[.ref s3.heap.objs.size,v]) ht hT hg (by with_unfolding_all rfl)
def cutV (xs:List V) (lo hi:Option Int):List V:=(xs.drop (HT.sIx xs.length 0 lo)).take (HT.sIx xs.length xs.length hi - HT.sIx xs.length 0 lo)
theorem cutV_length (xs:List V) (lo hi:Option Int):(cutV xs lo hi).length≤xs.length:=by
  unfold cutV
  rw [List.length_take,List.length_drop]
  omega
end
end L2
namespace L2
open PySem PySem.Spec PyProof.Rows
def ixN (n:Nat) (i:Int):Option Nat:=if 0≤i then (if i<n then some i.toNat else none) else if -(n:Int)≤i then some (i+n).toNat else none
def atI {α:Type} (xs:List α) (i:Int):Option α:=(ixN xs.length i).bind fun j=>xs[j]?
theorem ixN_seq {n:Nat} {i:Int} {j:Nat} (h:ixN n i=some j):seqIndex? i n=some j∧j<n∧-(n:Int)≤i∧i<n:=by
  unfold ixN at h
  by_cases h0:0≤i
  · rw [if_pos h0] at h
    by_cases h1:i<n
    · rw [if_pos h1] at h
      have e:i.toNat=j:=Option.some.inj h
      exact ⟨by rw [seqIndex_of h0 h1,e],by omega,by omega,h1⟩
    · rw [if_neg h1] at h; cases h
  · rw [if_neg h0] at h
    by_cases h1:-(n:Int)≤i
    · rw [if_pos h1] at h
      have e:(i+n).toNat=j:=Option.some.inj h
      exact ⟨by rw [seqIndex_neg (by omega) h1,e],by omega,h1,by omega⟩
    · rw [if_neg h1] at h; cases h
theorem atI_get {α:Type} {xs:List α} {i:Int} {v:α} (h:atI xs i=some v):∃ j,seqIndex? i xs.length=some j∧xs[j]?=some v∧j<xs.length∧-(xs.length:Int)≤i∧i<xs.length:=by
  unfold atI at h
  cases e:ixN xs.length i with
  | none=>rw [e] at h; cases h
  | some j =>
    rw [e] at h
    obtain ⟨h1,h2,h3,h4⟩:=ixN_seq e
    exact ⟨j,h1,h,h2,h3,h4⟩
theorem atI_nat {α:Type} {xs:List α} {j:Nat} {v:α} (h:xs[j]?=some v):atI xs (j:Int)=some v:=by
  have hj:j<xs.length:=(List.getElem?_eq_some_iff.mp h).1
  have e:ixN xs.length (j:Int)=some j:=by
    unfold ixN
    rw [if_pos (by omega),if_pos (by omega)]; simp
  unfold atI; rw [e]; exact h
def PlainIx (b:Expr):Prop:=∀ o i,subscripted b false o i=operate [o,i] (getItem o i)
def IxR (X:Cx) (r:R2):Prop :=
  ∀ (value slice:Expr) (pins:List (Addr × Obj)) (s:Shared) (σ:St) (H:Hp) (x y:V) (v u:Value) (Q:VK),Inv X pins σ H s→RelV x v→RelV y u→r x y H Q →
    subscripted slice false v u=operate [v,u] (getItem v u)→wpAny (model X.prog X.w) X.A (subscriptTail value slice v u) (EP X pins σ Q) X.xe s
def MtR (X:Cx) (id:String) (r:V→List V→Hp→VK→Prop):Prop :=
  ∀ (pins:List (Addr × Obj)) (s:Shared) (σ:St) (H:Hp) (x:V) (xs:List V) (v:Value) (us:List Value) (Q:VK),Inv X pins σ H s→RelV x v→Vals xs us→r x xs H Q →
    wpAny (model X.prog X.w) X.A (call (.builtin id) (v::us)) (EP X pins σ Q) X.xe s
section
variable {X:Cx} {a b:Expr} {ta tb:TE} {pos:Pos}
theorem IxR.or {r r':R2} (h:IxR X r) (h':IxR X r'):IxR X (fun x y H Q=>r x y H Q∨r' x y H Q):=by
  intro value slice pins s σ H x y v u Q I rx ry q hs
  rcases q with q | q
  · exact h value slice pins s σ H x y v u Q I rx ry q hs
  · exact h' value slice pins s σ H x y v u Q I rx ry q hs
theorem pe_ix {r:R2} (hr:IxR X r) (ha:PE X a ta) (hb:PE X b tb) (hs:PlainIx b):PE X (.Subscript a b pos) (tOp r ta tb):=by
  intro pins s σ H Q I h
  exact Subscript_ (binT ha hb I h fun v u s2 x y H2 I2 rx ry q=>hr a b pins s2 σ H2 x y v u Q I2 rx ry q (hs _ _))
def rIxL (K:PySem.W.Frag):R2:=fun x y H Q=>∃ p xs i v,x=.ref p∧y=.int i∧SqL K H p xs∧atI xs i=some v∧Q v H
def rIxT (K:PySem.W.Frag):R2:=fun x y H Q=>∃ p xs i v,x=.ref p∧y=.int i∧SqT K H p xs∧atI xs i=some v∧Q v H
def rIxS:R2:=fun x y H Q=>∃ z i c,x=.str z∧y=.int i∧z.length≤sizeLine∧atI z.cps.toList i=some c∧Q (.str ⟨#[c]⟩) H
theorem ix_list:IxR X (rIxL X.K):=by
  intro value slice pins s σ H x y v u Q I rx ry h hs
  obtain ⟨p,xs,i,z,rfl,rfl,hq,he,q⟩:=h
  cases rx
  obtain ⟨t,rfl⟩:=ry
  obtain ⟨its,r,pl,hz⟩:=I.list hq
  obtain ⟨j,h1,h2,h3,h4,h5⟩:=atI_get he
  obtain ⟨w,ew,rw'⟩:=r.get h2
  have hl:=r.length
  have hn:=line63
  have fin:EP X pins σ Q w s:=⟨z,H,I,rw',q⟩
  by_cases h0:0≤i
  · have hj:i.toNat=j:=by
      rw [seqIndex_of h0 h5] at h1
      exact Option.some.inj h1
    exact item_listR pl.isList h0 (by omega) (by rw [hj]; simpa using ew) fin hs
  · have hj:(i+(its.toArray.size:Int)).toNat=j:=by
      rw [seqIndex_neg (by omega) h4] at h1
      rw [List.size_toArray,← hl]
      exact Option.some.inj h1
    exact subscriptTail_builtinR (x:=w) pl.isList.typeIs slot_list_getitem.lookup
      (wpAny_getItem_list_neg (Q:=fun r s'=>r=w∧EP X pins σ Q r s') pl.isList (by omega) (by rw [List.size_toArray] <;> omega) (by omega) (by rw [hj]; simpa using ew) ⟨rfl,fin⟩) hs
theorem ix_tup:IxR X (rIxT X.K):=by
  intro value slice pins s σ H x y v u Q I rx ry h hs
  obtain ⟨p,xs,i,z,rfl,rfl,hq,he,q⟩:=h
  cases rx
  obtain ⟨t,rfl⟩:=ry
  obtain ⟨its,r,pl,hz⟩:=I.tuple hq
  obtain ⟨j,h1,h2,h3,h4,h5⟩:=atI_get he
  obtain ⟨w,ew,rw'⟩:=r.get h2
  have hl:=r.length
  have hn:=line63
  have fin:EP X pins σ Q w s:=⟨z,H,I,rw',q⟩
  exact subscriptTail_builtinR (x:=w) pl.typeIs slot_tuple_getitem.lookup
    (getItem_tuple (j:=j) (Q:=fun r s'=>r=w∧EP X pins σ Q r s') pl (by omega) (by omega) (by rw [List.size_toArray,← hl]; exact h1) (by simpa using ew) ⟨rfl,fin⟩) hs
theorem ix_str:IxR X rIxS:=by
  intro value slice pins s σ H x y v u Q I rx ry h hs
  obtain ⟨z,i,c,rfl,rfl,hz,he,q⟩:=h
  obtain ⟨t,rfl⟩:=rx
  obtain ⟨t',rfl⟩:=ry
  obtain ⟨j,h1,h2,h3,h4,h5⟩:=atI_get he
  have hl:z.cps.toList.length=z.length:=by simp [Str.length]
  rw [hl] at h1 h4 h5
  have hn:=line63
  exact tail_any (typeIs_str s z t) slot_str_getitem.lookup (getItem_str (c:=c) (by
    have e1:decide (i < -(2^63:Int))=false:=decide_eq_false (by omega)
    have e2:decide (i ≥ 2^63)=false:=decide_eq_false (by omega)
    rw [e1,e2,Bool.or_false]) (by rw [h1]; simpa using h2) ⟨.str ⟨#[c]⟩,H,I.tok _,⟨_,rfl⟩,q⟩) hs
def rIx (K:PySem.W.Frag):R2:=fun x y H Q=>rIxL K x y H Q∨rIxT K x y H Q∨rIxS x y H Q
theorem ix_seq:IxR X (rIx X.K):=ix_list.or (ix_tup.or ix_str)
theorem mapSeq_set (its:List Value) (n j:Nat) (u:Value):Obj.mapSeq (·.setIfInBounds j u) { cls:=.type "list",data:=.seq its.toArray n }={ cls:=.type "list",data:=.seq (its.set j u).toArray n }:=by
  simp [Obj.mapSeq]
theorem Inv.lst {pins:List (Addr × Obj)} {σ:St} {H:Hp} {s:Shared} {p:Addr} {xs:List V} (I:Inv X pins σ H s) (h:H p=some (.lst xs)) :
    ∃ (its:List Value) (n:Nat),Vals xs its∧s.heap.get? p=some { cls:=.type "list",data:=.seq its.toArray n }∧xs.length≤sizeLine:=by
  obtain ⟨z,its,n,r,e⟩:=I.hok p _ h
  exact ⟨its,n,r,e,z⟩
theorem Inv.lstUpd {pins:List (Addr × Obj)} {σ:St} {H:Hp} {s:Shared} {p:Addr} {xs ys:List V} {its its':List Value} {n n':Nat} {f:Obj→Obj} (I:Inv X pins σ H s) (h:H p=some (.lst xs))
    (ho:s.heap.get? p=some { cls:=.type "list",data:=.seq its.toArray n }) (hf:f { cls:=.type "list",data:=.seq its.toArray n }={ cls:=.type "list",data:=.seq its'.toArray n' }) (r:Vals ys its') (hz:ys.length≤sizeLine) (t:Nat) :
    Inv X pins σ (upd H p (.lst ys)) { s with heap:=s.heap.update p f,toks:=t }:=by
  have e:(s.heap.update p f).get? p=some { cls:=.type "list",data:=.seq its'.toArray n' }:=by
    rw [Heap.get?_update_self f ho (by rw [hf] <;> rfl),hf]
  refine I.write (x:=p) (e:=p) (by rw [h]; trivial) (.inl rfl) (fun b u hb q=>(Heap.get?_update_other _ _ (Ne.symm hb)).trans q) ⟨_,e⟩ ?_
  exact ⟨hz,its',n',r,e⟩
def rSetL:V→V→V→Hp→(Hp→Prop)→Prop:=fun o i v H Q=>∃ p xs k j,o=.ref p∧i=.int k∧H p=some (.lst xs)∧ixN xs.length k=some j∧Q (upd H p (.lst (xs.set j v)))
theorem set_list:PSet X rSetL:=by
  intro pins s σ H o i v ov iv u Q I ro ri rv h
  obtain ⟨p,xs,k,j,rfl,rfl,hp,hj,q⟩:=h
  cases ro
  obtain ⟨t,rfl⟩:=ri
  obtain ⟨its,n,r,ho,hz⟩:=I.lst hp
  obtain ⟨h1,h2,h3,h4⟩:=ixN_seq hj
  have hl:=r.length
  have hn:=line63
  have I':Inv X pins σ (upd H p (.lst (xs.set j v))) { s with heap:=s.heap.update p (Obj.mapSeq (·.setIfInBounds j u)) } :=
    I.lstUpd hp ho (mapSeq_set its n j u) (r.set rv j) (by rw [List.length_set]; exact hz) s.toks
  by_cases h0:0≤k
  · have hk:k.toNat=j:=by
      rw [seqIndex_of h0 h4] at h1
      exact Option.some.inj h1
    exact PySem.W.ki_setAt ho h0 (by omega) (by rw [List.size_toArray,← hl]; exact h4) (by rw [hk]; exact ⟨_,I',q⟩)
  · have hk:(k+(its.toArray.size:Int)).toNat=j:=by
      rw [seqIndex_neg (by omega) h3] at h1
      rw [List.size_toArray,← hl]
      exact Option.some.inj h1
    exact PySem.W.ki_setBack ho (by omega) (by rw [List.size_toArray,← hl]; exact h3) (by omega) (by rw [hk]; exact ⟨_,I',q⟩)
theorem slice_bounds (lo hi:Option Int) (n:Nat):(sliceBounds lo hi none n).1=((HT.sIx n 0 lo:Nat):Int)∧(sliceBounds lo hi none n).2.1=((HT.sIx n n hi:Nat):Int)∧(sliceBounds lo hi none n).2.2=1:=by
  refine ⟨?_,?_,rfl⟩
  · cases lo with
    | none=>simp [sliceBounds,HT.sIx]
    | some i =>
      simp only [sliceBounds,HT.sIx,Option.getD_none,show (1:Int) > 0 by decide,if_true]
      by_cases h:i<0
      · simp only [h,if_true] <;> omega
      · simp only [h,if_false] <;> omega
  · cases hi with
    | none=>simp [sliceBounds,HT.sIx]
    | some i =>
      simp only [sliceBounds,HT.sIx,Option.getD_none,show (1:Int) > 0 by decide,if_true]
      by_cases h:i<0
      · simp only [h,if_true] <;> omega
      · simp only [h,if_false] <;> omega
theorem slicePick_cut (its:List Value) (lo hi:Option Int):slicePick its.toArray lo hi none=((its.drop (HT.sIx its.length 0 lo)).take (HT.sIx its.length its.length hi - HT.sIx its.length 0 lo)).toArray:=by
  obtain ⟨h1,h2,h3⟩:=slice_bounds lo hi its.toArray.size
  unfold slicePick
  rw [h1,h2,h3]
  simp only [sliceRange_one,pick_run,List.size_toArray] <;> rfl
def rSlL (K:PySem.W.Frag):V→Option Int→Option Int→Hp→VK→Prop:=fun x lo hi H Q=>∃ a xs,x=.ref a∧SqL K H a xs∧∀ p,H p=none→Q (.ref p) (upd H p (.lst (cutV xs lo hi)))
theorem sl_list:SlR X (rSlL X.K):=by
  intro pins s σ H x v vl vu lo hi sl Q I rx hs pl pu h
  obtain ⟨a,xs,rfl,hx,q⟩:=h
  cases rx
  obtain ⟨its,r,ht,hz⟩:=I.list hx
  have hlen:=r.length
  refine ⟨"list",_,slot_list_getitem.lookup,ht.isList.typeIs,?_⟩
  refine wpAny_getItem_list_slice ht.isList hs pl pu .none (by simp) ?_ (by rw [List.size_toArray] <;> omega)
  rw [slicePick_cut,← hlen]
  refine ⟨.ref s.heap.objs.size,_,I.laid (t':=s.toks) (o:=.lst (cutV xs lo hi)) (fun b ob q=>Heap.get?_push_of_some _ q) (Nat.le_refl _) ?_,rfl,q _ (I.hok.fresh (Nat.le_refl _))⟩
  exact ⟨Nat.le_trans (cutV_length xs lo hi) hz,_,0,(r.drop (HT.sIx xs.length 0 lo)).take (HT.sIx xs.length xs.length hi - HT.sIx xs.length 0 lo),Heap.get?_push_size _ rfl⟩
def flatV:V→Bool
  | .non=>true
  | .bl _=>true
  | .int _=>true
  | .str _=>true
  | _=>false
def eqV:V→V→Bool
  | .non,.non=>true
  | .bl a,.bl b=>a == b
  | .bl a,.int b=>(if a then 1 else 0) == b
  | .int a,.bl b=>a == (if b then 1 else 0)
  | .int a,.int b=>a == b
  | .str a,.str b=>a == b
  | _,_=>false
theorem eqAt_V {A:Around} {s:Shared} {y x:V} {u v:Value} (ry:RelV y u) (rx:RelV x v) (fy:flatV y=true) (fx:flatV x=true):SeqAt.EqAt A s u v (eqV y x):=by
  cases y with
  | non =>
    cases ry
    cases x with
    | non=>cases rx; exact SeqAt.EqAt.same _
    | bl b=>cases rx; exact SeqAt.EqAt.none_bool b
    | int b=>obtain ⟨t,rfl⟩:=rx; exact SeqAt.EqAt.none_int b t
    | str b=>obtain ⟨t,rfl⟩:=rx; exact SeqAt.EqAt.none_str b t
    | _=>exact absurd (show false=true from fx) Bool.false_ne_true
  | bl a =>
    cases ry
    cases x with
    | non=>cases rx; exact SeqAt.EqAt.bool_none a
    | bl b=>cases rx; exact SeqAt.EqAt.bool_bool a b
    | int b=>obtain ⟨t,rfl⟩:=rx; exact SeqAt.EqAt.bool_int a b t
    | str b=>obtain ⟨t,rfl⟩:=rx; exact SeqAt.EqAt.bool_str a b t
    | _=>exact absurd (show false=true from fx) Bool.false_ne_true
  | int a =>
    obtain ⟨t',rfl⟩:=ry
    cases x with
    | non=>cases rx; exact SeqAt.EqAt.int_none a t'
    | bl b=>cases rx; exact SeqAt.EqAt.int_bool a t' b
    | int b=>obtain ⟨t,rfl⟩:=rx; exact SeqAt.EqAt.int_int a t' b t
    | str b=>obtain ⟨t,rfl⟩:=rx; exact SeqAt.EqAt.int_str a t' b t
    | _=>exact absurd (show false=true from fx) Bool.false_ne_true
  | str a =>
    obtain ⟨t',rfl⟩:=ry
    cases x with
    | non=>cases rx; exact SeqAt.EqAt.str_none a t'
    | bl b=>cases rx; exact SeqAt.EqAt.str_bool a t' b
    | int b=>obtain ⟨t,rfl⟩:=rx; exact SeqAt.EqAt.str_int a t' b t
    | str b=>obtain ⟨t,rfl⟩:=rx; exact SeqAt.EqAt.str_str a t' b t
    | _=>exact absurd (show false=true from fx) Bool.false_ne_true
  | _=>exact absurd (show false=true from fy) Bool.false_ne_true
def eqU (x:V) (u:Value):Bool:=match u with
  | .none=>eqV .non x
  | .bool b=>eqV (.bl b) x
  | .int i _=>eqV (.int i) x
  | .str z _=>eqV (.str z) x
  | _=>false
theorem eqU_of {x y:V} {u:Value} (r:RelV y u) (f:flatV y=true):eqU x u=eqV y x:=by
  cases y with
  | non=>cases r; rfl
  | bl b=>cases r; rfl
  | int i=>obtain ⟨t,rfl⟩:=r; rfl
  | str z=>obtain ⟨t,rfl⟩:=r; rfl
  | _=>exact absurd (show false=true from f) Bool.false_ne_true
theorem any_eqU {x:V}:∀ {xs:List V} {us:List Value},Vals xs us→xs.all flatV=true→us.any (eqU x)=xs.any fun y=>eqV y x
  | _,_,.nil,_=>rfl
  | y::xs,u::us,.cons r t,f=>by
    rw [List.all_cons,Bool.and_eq_true] at f
    rw [List.any_cons,List.any_cons,eqU_of r f.1,any_eqU t f.2]
theorem mem_eqAt {A:Around} {s:Shared} {x:V} {v:Value} (rx:RelV x v) (fx:flatV x=true):∀ {xs:List V} {us:List Value},Vals xs us→xs.all flatV=true→∀ u∈us,SeqAt.EqAt A s u v (eqU x u)
  | _,_,.nil,_=>fun u hu=>by cases hu
  | y::xs,u::us,.cons r t,f=>fun u' hu=>by
    rw [List.all_cons,Bool.and_eq_true] at f
    rcases List.mem_cons.mp hu with rfl | hu
    · rw [eqU_of r f.1]; exact eqAt_V r rx f.1 fx
    · exact mem_eqAt rx fx t f.2 u' hu
def inV (x:V) (xs:List V):Bool:=xs.any fun y=>eqV y x
def rIn (K:PySem.W.Frag) (neg:Bool):R2:=fun x y H Q=>∃ p xs,y=.ref p∧(SqL K H p xs∨SqT K H p xs)∧flatV x=true∧xs.all flatV=true∧Q (.bl (if neg then !inV x xs else inV x xs)) H
theorem op_in_seq:OpR X (compareOp .In) (rIn X.K false):=by
  intro pins s σ H x y v u Q I rx ry h
  obtain ⟨p,xs,rfl,hq,fx,fs,q⟩:=h
  cases ry
  rcases hq with hq | hq
  · obtain ⟨its,r,pl,hz⟩:=I.list hq
    refine SeqAt.in_listAt (eqU x) pl.isList (fun w hw=>mem_eqAt rx fx r fs w (by simpa using hw)) ⟨.bl _,H,I,rfl,?_⟩
    rw [show its.toArray.any (eqU x)=its.any (eqU x) by simp,any_eqU r fs]
    exact q
  · obtain ⟨its,r,pl,hz⟩:=I.tuple hq
    refine SeqAt.in_tupleAt (eqU x) pl (fun w hw=>mem_eqAt rx fx r fs w (by simpa using hw)) ⟨.bl _,H,I,rfl,?_⟩
    rw [show its.toArray.any (eqU x)=its.any (eqU x) by simp,any_eqU r fs]
    exact q
theorem op_notIn_seq:OpR X (compareOp .NotIn) (rIn X.K true):=by
  intro pins s σ H x y v u Q I rx ry h
  obtain ⟨p,xs,rfl,hq,fx,fs,q⟩:=h
  cases ry
  rcases hq with hq | hq
  · obtain ⟨its,r,pl,hz⟩:=I.list hq
    refine SeqAt.notIn_listAt (eqU x) pl.isList (fun w hw=>mem_eqAt rx fx r fs w (by simpa using hw)) ⟨.bl _,H,I,rfl,?_⟩
    rw [show its.toArray.any (eqU x)=its.any (eqU x) by simp,any_eqU r fs]
    exact q
  · obtain ⟨its,r,pl,hz⟩:=I.tuple hq
    refine SeqAt.notIn_tupleAt (eqU x) pl (fun w hw=>mem_eqAt rx fx r fs w (by simpa using hw)) ⟨.bl _,H,I,rfl,?_⟩
    rw [show its.toArray.any (eqU x)=its.any (eqU x) by simp,any_eqU r fs]
    exact q
theorem call_list_of:CallR X (.type "list") (fun xs H Q=>∃ p ys,xs=[.ref p]∧(SqL X.K H p ys∨SqT X.K H p ys)∧∀ l,H l=none→Q (.ref l) (upd H l (.lst ys))):=by
  intro pins s σ H xs us Q I r h
  obtain ⟨p,ys,rfl,hq,q⟩:=h
  obtain ⟨u,rfl,rx⟩:=vals1 r
  cases rx
  have fin:∀ (its:List Value),Vals ys its→ys.length≤sizeLine→∀ (h':Heap) (c':Nat),(∀ b o',s.heap.get? b=some o'→h'.get? b=some o') →
      h'.get? s.heap.objs.size=some { cls:=.type "list",dict:=none,data:=.seq its.toArray c',slots:=#[] }→EP X pins σ Q (.ref s.heap.objs.size) { s with heap:=h' }:=fun its r' hz h' c' kp e =>
    ⟨.ref s.heap.objs.size,_,I.laid (t':=s.toks) kp (Nat.le_refl _) (show ObjOk X.prog X.w _ h' _ (.lst ys) from ⟨hz,its,c',r',e⟩),rfl,q _ (I.hok.fresh (Nat.le_refl _))⟩
  rcases hq with hq | hq
  · obtain ⟨its,r',pl,hz⟩:=I.list hq
    have hlen:=r'.length
    obtain ⟨o,ho,hc,n,hd⟩:=pl.isList
    exact call_list_seq p (.inl rfl) ho hc hd (fun h' c' kp e=>fin its r' hz h' c' kp e) (by simp only [List.size_toArray] <;> omega)
  · obtain ⟨its,r',pl,hz⟩:=I.tuple hq
    have hlen:=r'.length
    obtain ⟨o,ho,hc,n,hd⟩:=pl
    exact call_list_seq p (.inr rfl) ho hc hd (fun h' c' kp e=>fin its r' hz h' c' kp e) (by simp only [List.size_toArray] <;> omega)
theorem call_tuple_of:CallR X (.type "tuple") (fun xs H Q=>∃ p ys,xs=[.ref p]∧((SqL X.K H p ys∧∀ l,H l=none→Q (.ref l) (upd H l (.tup ys)))∨(SqT X.K H p ys∧Q (.ref p) H))):=by
  intro pins s σ H xs us Q I r h
  obtain ⟨p,ys,rfl,h⟩:=h
  obtain ⟨u,rfl,rx⟩:=vals1 r
  cases rx
  rcases h with ⟨hq,q⟩ | ⟨hq,q⟩
  · obtain ⟨its,r',pl,hz⟩:=I.list hq
    have hlen:=r'.length
    refine call_tuple_list pl.isList (fun h' kp=>?_) (by simp only [List.size_toArray] <;> omega)
    have I1:Inv X pins σ H { s with heap:=h' }:=I.kept (t':=s.toks) kp
    have I2:Inv X pins σ (upd H h'.objs.size (.tup ys)) { s with heap:=h'.push { cls:=.type "tuple",data:=.seq its.toArray } } :=
      I1.laid (t':=s.toks) (fun b o e=>Heap.get?_push_of_some _ e) (Nat.le_refl _) (show ObjOk X.prog X.w _ _ _ (.tup ys) from ⟨⟨hz,_,Heap.get?_push_size _ rfl,rfl⟩,its,r',IsTup.new _ _⟩)
    exact ⟨.ref h'.objs.size,_,I2,rfl,q _ (I1.hok.fresh (Nat.le_refl _))⟩
  · obtain ⟨its,r',pl,hz⟩:=I.tuple hq
    exact call_tuple_same pl ⟨.ref p,H,I,rfl,q⟩
def tyV (K:PySem.W.Frag) (T:String) (x:V) (H:Hp):Prop:=match x with
  | .str _=>T = "str"
  | .int _=>T = "int"
  | .ref p=>(T = "list" ∧ ∃ xs,SqL K H p xs)∨(T = "tuple" ∧ ((∃ o,K.lookup p=some o∧o.cls=.type "tuple" ∧ o.dict=none)∨∃ xs,H p=some (.tup xs))) ∨
      (T = "dict" ∧ ((∃ kvs,H p=some (.dK kvs))∨∃ kvs,H p=some (.dT kvs)))∨(T = "set" ∧ ∃ S n,H p=some (.set S n))
  | _=>False
theorem tyV_is {pins:List (Addr × Obj)} {σ:St} {H:Hp} {s:Shared} {T:String} {x:V} {v:Value} (I:Inv X pins σ H s) (r:RelV x v) (ty:tyV X.K T x H) :
    s.TypeIs v T∧∀ a,v=.ref a→∃ ob,s.heap.get? a=some ob∧ob.dict=none:=by
  cases x with
  | str z =>
    obtain ⟨t,rfl⟩:=r
    cases (show T = "str" from ty)
    exact ⟨typeIs_str s z t,fun _ e=>nomatch e⟩
  | int i =>
    obtain ⟨t,rfl⟩:=r
    cases (show T = "int" from ty)
    exact ⟨typeIs_int s i t,fun _ e=>nomatch e⟩
  | ref p =>
    cases r
    rcases ty with ⟨rfl,xs,hq⟩ | ⟨rfl,⟨o,hk,hc,hd⟩ | ⟨xs,hq⟩⟩ | ⟨rfl,hk⟩ | ⟨rfl,S,n,hk⟩
    · obtain ⟨its,_,pl,_⟩:=I.list hq
      refine ⟨pl.isList.typeIs,fun a e=>?_⟩
      cases e
      obtain ⟨o,n,e,c,hd,_⟩:=pl
      exact ⟨o,e,hd⟩
    · refine ⟨⟨o,I.kIn p o hk,hc⟩,fun a e=>?_⟩
      cases e
      exact ⟨o,I.kIn _ o hk,hd⟩
    · obtain ⟨⟨_,on,en,dn⟩,_,_,o,e1,e2,_⟩:=(show ObjOk X.prog X.w H s.heap p (.tup xs) from I.hok p _ hq)
      refine ⟨⟨o,e1,e2⟩,fun a e=>?_⟩
      cases e
      exact ⟨on,en,dn⟩
    · have z:∃ o,s.heap.get? p=some o∧o.ExactDict:=by
        rcases hk with ⟨kvs,hk⟩ | ⟨kvs,hk⟩
        · obtain ⟨_,_,_,_,o,_,_,e,ex,_⟩:=I.hok p _ hk
          exact ⟨o,e,ex⟩
        · obtain ⟨_,_,_,_,o,_,_,e,ex,_⟩:=I.hok p _ hk
          exact ⟨o,e,ex⟩
      obtain ⟨o,e,ex⟩:=z
      refine ⟨⟨o,e,ex.1⟩,fun a e2=>?_⟩
      cases e2
      exact ⟨o,e,ex.2.1⟩
    · obtain ⟨o,_,_,_,e,ex,_⟩:=I.hok p _ hk
      refine ⟨⟨o,e,ex.1⟩,fun a e2=>?_⟩
      cases e2
      exact ⟨o,e,ex.2.1⟩
  | _=>exact False.elim ty
def tBM (K:PySem.W.Frag) (T:String) (r:V→List V→Hp→VK→Prop) (to:TE) (t:TA):TE:=fun σ H Q=>to σ H fun x H1=>tyV K T x H1∧t σ H1 fun xs H2=>r x xs H2 Q
variable {o e:Expr} {es:List Expr} {to:TE} {t:TA} {name:Str} {apos cpos:Pos} {T id:String} {r:V→List V→Hp→VK→Prop}
theorem pe_bm (pa:PlainAttrs T) (slot:Slot T name id) (hty:typeOf (.builtin id)=pure (.type "method_descriptor")) (hm:MtR X id r) (ho:PE X o to) (ha:PA X (e::es) t)
    (hbase:attributeBase o name X.env (eval o X.env)=eval o X.env:=by rfl)
    (hfew:((backTo cpos (starEach (e::es) X.env)).all (fun x=>!x.1)&&(backToKw cpos (keywordEach [] X.env)).all (fun x=>x.1.isSome)
      && decide ((e::es).length+([]:List Keyword).length+(if ([]:List Keyword).isEmpty then 0 else 1)<30))=true:=by rfl)
    (hline:(apos.endLine == cpos.line)=true:=by rfl) (hs:starEach (e::es) X.env=(false,eval e X.env)::starEach es X.env:=by rfl) (hplain:(backTo cpos (starEach es X.env)).any (·.1)=false:=by rfl) :
    PE X (.Call (.Attribute o name apos) (e::es) [] cpos) (tBM X.K T r to t):=by
  intro pins s σ H Q I h
  refine wpAny_Call_method_late hbase hfew hline rfl (thn (ho pins s σ H _ I h) fun v s1 ⟨x,H1,I1,r1,ty,q1⟩=>?_)
  obtain ⟨h1,h2⟩:=tyV_is I1 r1 ty
  refine ⟨T,id,pa,slot,hty,h1,h2,?_⟩
  have hA:=ha cpos pins s1 σ H1 _ I1 q1
  rw [hs] at hA ⊢
  refine Calls.callWith_builtin (by show (false || (backTo cpos (starEach es X.env)).any (·.1))=false; rw [hplain] <;> rfl) (Calls.evalArgs_plain ?_)
  exact thn hA fun us s2 ⟨vs,H2,I2,r2,q2⟩=>hm pins s2 σ H2 x vs v us Q I2 r1 r2 q2
/- xs.append(e),list.index on a module's tuple .. are MtR facts of 06m -/
end
end L2
namespace L2
open PySem PySem.Spec PyProof.Rows
def MtM (X:Cx) (id:String) (r:V→List V→Hp→VK→Prop):Prop :=
  ∀ (pins:List (Addr × Obj)) (s:Shared) (σ:St) (H:Hp) (x:V) (xs:List V) (v:Value) (us:List Value) (Q:VK),Inv X pins σ H s→RelV x v→Vals xs us→r x xs H Q →
    wpAny (model X.prog X.w) X.A (call (.builtin id) (v::us)) (EP X pins σ Q) X.xe s
theorem Vals.one:∀ {x:V} {us:List Value},Vals [x] us→∃ u,us=[u]∧RelV x u
  | _,_,.cons r .nil=>⟨_,rfl,r⟩
theorem Vals.rep {xs:List V} {us:List Value} (h:Vals xs us):∀ k:Nat,Vals (List.replicate k xs).flatten (List.replicate k us).flatten
  | 0=>.nil
  | k+1=>by
    rw [List.replicate_succ,List.replicate_succ,List.flatten_cons,List.flatten_cons]
    exact Vals.append h (Vals.rep h k)
theorem foldl_rep (its:List Value):∀ (k:Nat) (acc:List Value),
    List.foldl (fun x1 x2=>x1++x2) acc.toArray (List.replicate k its.toArray)=(acc++(List.replicate k its).flatten).toArray
  | 0,acc=>by simp
  | k+1,acc=>by
    have e:acc.toArray++its.toArray=(acc++its).toArray:=by simp
    have e2:(acc++its)++(List.replicate k its).flatten=acc++(List.replicate (k+1) its).flatten:=by
      rw [List.replicate_succ,List.flatten_cons,List.append_assoc]
    rw [← e2,← foldl_rep its k (acc++its),← e,List.replicate_succ,List.foldl_cons]
section
variable {X:Cx} {pins:List (Addr × Obj)} {σ:St} {H:Hp} {s:Shared} {l b:Addr} {xs ys zs:List V}
theorem Inv.lset {its its':List Value} {n:Nat} {f:Array Value→Array Value} {t':Nat} (I:Inv X pins σ H s) (hH:H l=some (.lst xs))
    (e:s.heap.get? l=some { cls:=.type "list",data:=.seq its.toArray n }) (hf:f its.toArray=its'.toArray) (hv:Vals ys its') (hz:ys.length≤sizeLine) :
    Inv X pins σ (upd H l (.lst ys)) { s with heap:=s.heap.update l (Obj.mapSeq f),toks:=t' }:=by
  have q:=PySem.IsL.update e f
  rw [hf] at q
  refine I.write (x:=l) (e:=l) (by rw [hH]; exact trivial) (.inl rfl) (fun b' u hb hu=>(Heap.get?_update_other s.heap (Obj.mapSeq f) (Ne.symm hb)).trans hu) ⟨_,q⟩ ?_
  exact ⟨hz,its',_,hv,q⟩
theorem Inv.lnew {its:List Value} {t':Nat} (I:Inv X pins σ H s) (hv:Vals ys its) (hz:ys.length≤sizeLine) :
    Inv X pins σ (upd H s.heap.objs.size (.lst ys)) { s with heap:=s.heap.push { cls:=.type "list",data:=.seq its.toArray },toks:=t' } :=
  I.laid (fun _ _ q=>Heap.get?_push_of_some _ q) (Nat.le_refl _) ⟨hz,its,0,hv,Heap.get?_push_size _ rfl⟩
theorem Inv.fresh (I:Inv X pins σ H s):H s.heap.objs.size=none:=I.hok.fresh (Nat.le_refl _)
theorem Inv.lstM (I:Inv X pins σ H s) (hH:H l=some (.lst xs)):xs.length≤sizeLine∧∃ (its:List Value) (n:Nat),Vals xs its∧xs.length=its.length∧s.heap.get? l=some { cls:=.type "list",data:=.seq its.toArray n }:=by
  obtain ⟨z,its,n,r,e⟩:=I.hok l _ hH
  exact ⟨z,its,n,r,r.length,e⟩
theorem notLongL {n:Nat} (h:n≤sizeLine):Builtin.List.listTooLong n=false:=by
  unfold Builtin.List.listTooLong
  exact decide_eq_false (by omega)
end
section
variable {X:Cx}
def rAppend:V→List V→Hp→VK→Prop:=fun x vs H Q=>∃ l xs y,x=.ref l∧vs=[y]∧H l=some (.lst xs)∧xs.length<sizeLine∧Q .non (upd H l (.lst (xs++[y])))
theorem mt_append:MtM X "list.append" rAppend:=by
  intro pins s σ H x vs v us Q I rx rv h
  obtain ⟨l,xs,y,rfl,rfl,hH,hz,q⟩:=h
  cases rx
  obtain ⟨u,rfl,ru⟩:=rv.one
  obtain ⟨z,its,n,r,hl,e⟩:=I.lstM hH
  refine call_meets F.slot_list_append ⟨_,e,rfl⟩ F.entry_list_append (F.args_list_append_2 _ _) (PySem.list_append l its.toArray n u (by rw [List.size_toArray]; omega)) ⟨e,?_⟩
  refine ⟨.non,_,I.lset (its':=its++[u]) hH e (by simp) (r.append (.cons ru .nil)) ?_,rfl,q⟩
  rw [List.length_append,List.length_singleton]
  omega
def rCat:R2:=fun x y H Q=>∃ l b xs zs,x=.ref l∧y=.ref b∧H l=some (.lst xs)∧H b=some (.lst zs)∧xs.length+zs.length≤sizeLine∧∀ p,H p=none→Q (.ref p) (upd H p (.lst (xs++zs)))
theorem op_cat:OpR X (binaryOp .Add) rCat:=by
  intro pins s σ H x y v u Q I rx ry h
  obtain ⟨l,b,xs,zs,rfl,rfl,hH,hB,hz,q⟩:=h
  cases rx
  cases ry
  obtain ⟨z,its,n,r,hl,e⟩:=I.lstM hH
  obtain ⟨z2,its2,n2,r2,hl2,e2⟩:=I.lstM hB
  refine PySem.P.add_list e e2 ?_ (by rw [List.size_toArray,List.size_toArray]; omega)
  have ea:its.toArray++its2.toArray=(its++its2).toArray:=by simp
  rw [ea]
  exact ⟨.ref _,_,I.lnew (t':=s.toks) (r.append r2) (by rw [List.length_append]; omega),rfl,q _ I.fresh⟩
def rRep:R2:=fun x y H Q=>∃ l k xs,x=.ref l∧y=.int k∧H l=some (.lst xs)∧-(2^63)≤k∧k<2^63∧xs.length*k.toNat≤sizeLine ∧
  ∀ p,H p=none→Q (.ref p) (upd H p (.lst (List.replicate k.toNat xs).flatten))
theorem len_rep {α:Type} (xs:List α) (k:Nat):(List.replicate k xs).flatten.length=k*xs.length:=by
  induction k with
  | zero=>simp
  | succ k ih=>rw [List.replicate_succ,List.flatten_cons,List.length_append,ih,Nat.succ_mul,Nat.add_comm]
theorem op_rep:OpR X (binaryOp .Mult) rRep:=by
  intro pins s σ H x y v u Q I rx ry h
  obtain ⟨l,k,xs,rfl,rfl,hH,h1,h2,hz,q⟩:=h
  cases rx
  obtain ⟨t,rfl⟩:=ry
  obtain ⟨z,its,n,r,hl,e⟩:=I.lstM hH
  have hlen:its.toArray.size*k.toNat≤sizeLine:=by rw [List.size_toArray,← hl]; exact hz
  have hcap:¬ its.toArray.size*k.toNat > (2^63 - 1) / 8:=by
    have:(sizeLine:Nat)≤(2^63 - 1) / 8:=by decide
    omega
  have hfit:¬ (!Builtin.List.listFitsIndex k)=true:=by
    rw [fitsIndex_both h1 h2]
    exact Bool.false_ne_true
  have hlong:¬ Builtin.List.listTooLong (its.toArray.size*k.toNat)=true:=by
    rw [notLongL hlen]
    exact Bool.false_ne_true
  have hnew:List.foldl (fun x1 x2=>x1++x2) #[] (List.replicate (if its.toArray.isEmpty=true then 0 else k.toNat) its.toArray)=(List.replicate k.toNat its).flatten.toArray:=by
    have f0:∀ m:Nat,List.foldl (fun x1 x2=>x1++x2) #[] (List.replicate m its.toArray)=(List.replicate m its).flatten.toArray:=fun m=>by
      have:=foldl_rep its m []
      rw [List.nil_append] at this
      exact this
    rw [f0]
    cases its with
    | nil=>simp
    | cons a r'=>rw [if_neg (by simp)]
  refine wpAny_binaryOp_repeat_ref (T := "list") (U := "int") (by decide) ⟨_,e,rfl⟩ (fun s'=>typeIs_int s' k t) noFill_list_mul F.fills_int_mul F.slot_int_rmul repeat_list F.slot_int_index.lookup
    (call_meets F.slot_int_rmul (typeIs_int s k t) F.entry_int_rmul (F.args_int_rmul_2 _ _) (int___rmul___int_list k t l its.toArray n)
      ⟨e,rfl,⟨_,e,rfl⟩,call_meets F.slot_list_mul ⟨_,e,rfl⟩ F.entry_list_mul (F.args_list_mul_2 _ _) (AutoListH.list___mul___list_int_3 l its.toArray n k t hfit hcap hlong) ⟨e,?_⟩⟩)
  rw [hnew]
  exact ⟨.ref _,_,I.lnew (t':=s.toks) (r.rep k.toNat) (by rw [len_rep,Nat.mul_comm]; exact hz),rfl,q _ I.fresh⟩
end
section
variable {prog:Program} {w:World} {A:Around} {E:Value→Shared→Prop} {s:Shared}
end
section
variable {X:Cx}
end
end L2
namespace Att
open PySem PySem.W PySem.Calls PyProof.Rows
theorem ints_of_wellAll {P:Params} {h:Heap}:∀ (ns:List Int) (vs:List Value),WellAll P h vs (ns.map WData.int)→IntsAre vs ns:=by
  intro ns
  induction ns with
  | nil =>
    intro vs w
    rw [List.map_nil] at w
    cases w
    exact .nil
  | cons n ns ih =>
    intro vs w
    rw [List.map_cons] at w
    cases w with
    | cons a b =>
      cases a
      exact .cons _ _ (ih _ b)
theorem script_of {l:OpenLaw} {n:Nat} (hn:l.most=some n) {P:Params} {h:Heap} {args:List WData} {vals:List Value}
    (hpre:l.row.toRowW.claim.pre args=true) (hwl:WellAll P h vals args) :
    ∃ a vs ns,vals=[Value.ref a]∧args=[WData.list (ns.map WData.int)]∧h.get? a=some { cls:=.type "list",data:=.seq vs.toArray }∧IntsAre vs ns∧ns.length≤n:=by
  have hsh:WShape.hasAll [] args [.list .int]=true:=(pre_splitW hpre).1
  have hc:l.pre.holds [] { args:=args }=true:=(pre_splitW hpre).2
  obtain ⟨d,r,rfl,h1,h2⟩:=hasAllW_cons hsh
  obtain rfl:=hasAllW_nil h2
  obtain ⟨xs,rfl,h3⟩:=hasW_list h1
  obtain ⟨ns,rfl⟩:=items_int h3
  have hlen:ns.length≤n:=by
    unfold OpenLaw.pre at hc
    have h4:(WTm.not (.lt (.lit (.int (n:Int))) (.len (.arg 0)))).holds [] { args:=[.list (ns.map .int)] }=true:=by
      have h4:=(holds_andW hc).1
      rw [hn] at h4
      exact h4
    have h5:=condW_of h4 (w_not (w_lt w_lit (w_len_list (w_arg rfl))))
    rw [List.length_map] at h5
    refine Nat.le_of_not_lt fun q=>?_
    have q':(n:Int)<((ns.length:Nat):Int):=by omega
    first
      | (rw [decide_eq_true q'] at h5; exact absurd h5 (by decide))
      | (simp at h5; omega)
  cases hwl with
  | cons w1 w2 =>
    cases w2
    cases w1 with
    | list ho hall=>exact ⟨_,_,ns,rfl,rfl,ho,ints_of_wellAll ns _ hall,hlen⟩
theorem post_true (l:OpenLaw) (args:List WData):l.row.toRowW.claim.post args (.bool true) args=true :=
  postW_of (r:=l.row.toRowW) (X:=(true == true))
    (show WShape.has [] (.bool true) .bool=true by first | rfl | decide | simp [WShape.has,WShape.arms,WShape.armsAll])
    (show (WTm.eq .res (.lit (.bool true))).value [] { args:=args,res:=some (.bool true),after:=args }=some (.bool (true == true)) from w_eq_bool (w_res rfl) w_lit) rfl
theorem attach_call {l:OpenLaw} {n:Nat} {q:Program} {loose:List Str} {XP:(Str→Option Value)→Heap→Prop} {YP:World→Heap→Prop} {d:DefRec}
    (hn:l.most=some n) (hdf:d.params.defaults=[])
    (call:∀ (w:World) (s₀ s₁:Shared) (mg mb:Str→Option Value) (fa:Addr) (o:Obj) (pm cd doc:Value) (a:Addr) (vs:List Value) (ns:List Int),
      Ground q loose [] XP w s₀ mg mb s₁.heap→YP w s₁.heap →
      s₁.heap.get? fa=some o→o.data=.func (docDef d.name d.params d.body d.scope pm cd doc)→s₁.heap.CodeRec cd d.name→mg d.name=some (.ref fa) →
      s₁.heap.get? a=some { cls:=.type "list",data:=.seq vs.toArray }→IntsAre vs ns→ns.length≤n→s₁.gens=#[] →
      codeAny (model l.prog w) callerA (.call (.ref fa) ⟨[.ref a],[]⟩) (fun r s'=>r=.ok (.ret (.bool true))∧OldK s₁.heap s'.heap∧s'.os=s₁.os∧AllBare s'.gens) s₁) :
    WalkO q loose XP YP l.row.toRowW d [] (fun f vs=>PySem.call f vs):=by
  intro w s₀ s₁ mg mb G Y fa o pm cd doc dV kV ho hd hcd hD hmg hg args vals as hpre hlay hrd hwl hlo
  obtain rfl:dV=.none:=Dflts.none hD hdf
  obtain rfl:kV=.none:=Dflts.noKw hD
  obtain ⟨a,vs,ns,rfl,rfl,hobj,hints,hlen⟩:=script_of hn hpre hwl
  refine enter_call (codeAny_mono (call w s₀ s₁ mg mb fa o pm cd doc a vs ns G Y ho (fd_plain hd) hcd hmg hobj hints hlen hg) fun r s' hq=>?_)
  obtain ⟨rfl,h2,h3,h4⟩:=hq
  exact ⟨.inl ⟨.bool true,.bool true,[],rfl,fun _=>rfl,.bool true,post_true l _,fun _=>⟨List.Pairwise.nil,fun _ hm=>(nomatch hm)⟩⟩,h2,h3,h4⟩
section
variable {prog:Program} {w:World} {A:Around} {E:Value→Shared→Prop} {s:Shared} {K:Frag}
end
end Att
namespace L2
open PySem PySem.Spec PyProof.Rows
theorem vals_ints:∀ {vs:List Value} {ns:List Int},IntsAre vs ns→Vals (ns.map V.int) vs
  | _,_,.nil=>.nil
  | _,_,.cons n t h=>.cons ⟨t,rfl⟩ (vals_ints h)
def Only (H:Hp):Prop:=∀ b,H b=none∨∃ o xs,H b=some (.frz o (.lst xs))
theorem law_call {P:Program} {w:World} {K:PySem.W.Frag} {mg mb:Str→Option Value} {CX:CXT} {k:Nat} {fa a:Addr} {fd:FuncData} {x:Str} {sp:Sp} {s₁:Shared} {vs:List Value} {ns:List Int}
    (KX:K.In s₁.heap) (hns:s₁.heap.Ns mainGlobals mg) (hb:s₁.heap.Ns builtinsNs mb) (hbb:∀ x:Str,x ≠ "__name__" → mb x=bootBuiltins x) (hlim:s₁.heap.NoLimit) (hg:s₁.gens=#[])
    (ha:s₁.heap.get? a=some { cls:=.type "list",data:=.seq vs.toArray }) (hi:IntsAre vs ns) (hl:ns.length≤sizeLine) (hr:Room k callerA)
    (F:∀ base:Heap,K.In base→base.Ns mainGlobals mg→FnOk P w K mg base CX k fa fd [x] sp) (hbind:∀ (s:Shared) (u:Value),BindsTo s fd ⟨[u],[]⟩ [(x,u)])
    (hsp:∀ H:Hp,Only H→SqL K H a (ns.map V.int)→sp [.ref a] H (fun v _=>v=.bl true) fun _ _ _=>False)
    (hCX:∀ H e s',CX [] H s₁ (fun _ _ _=>False) e s'→False) :
    codeAny (model P w) callerA (.call (.ref fa) ⟨[.ref a],[]⟩) (fun r s'=>r=.ok (.ret (.bool true))∧OldK s₁.heap s'.heap∧s'.os=s₁.os∧AllBare s'.gens) s₁:=by
  have rv:=vals_ints hi
  have lenV:=hi.length
  have core:∀ H:Hp,Only H→SqL K H a (ns.map V.int)→HOk P w H s₁.heap→(∀ b,H b≠none→b=a)→(H a≠none→K.lookup a=none) →
      codeAny (model P w) callerA (.call (.ref fa) ⟨[.ref a],[]⟩) (fun r s'=>r=.ok (.ret (.bool true))∧OldK s₁.heap s'.heap∧s'.os=s₁.os∧AllBare s'.gens) s₁:=by
    intro H hO hS hok hA hK
    have base_of:∀ {b:Addr} {o:Obj},s₁.heap.get? b=some o→H b=none→(hidT s₁.heap H).get? b=some o:=fun e n=>hidT_get e n
    have noA:∀ {b:Addr} {o:Obj} {es:Array DictEntry} {ep:Nat},s₁.heap.get? b=some o→o.data=.dict es ep→H b=none:=fun {b o es ep} e d=>by
      cases q:H b with
      | none=>rfl
      | some u =>
        have e':b=a:=hA b (by rw [q]; simp)
        subst e'
        rw [ha] at e; cases e
        have d':Data.seq vs.toArray _=Data.dict es ep:=d
        cases d'
    have nsK:∀ {b:Addr} {m:Str→Option Value},s₁.heap.Ns b m→(hidT s₁.heap H).Ns b m:=fun {b m} ⟨o,es,ep,e,d,r⟩=>⟨o,es,ep,base_of e (noA e d),d,r⟩
    have hKb:K.In (hidT s₁.heap H):=fun b o e=>base_of (KX b o e) (by
      cases q:H b with
      | none=>rfl
      | some u =>
        have e':b=a:=hA b (by rw [q]; simp)
        subst e'
        rw [hK (by rw [q]; simp)] at e; cases e)
    have hM:Mod K mg (hidT s₁.heap H):=⟨hKb,nsK hns,⟨mb,nsK hb,hbb⟩,let ⟨mc,h1,h2⟩:=hlim; ⟨mc,nsK h1,h2⟩⟩
    have e0:Env0 P w K mg (hidT s₁.heap H) callerA [] s₁ H:=⟨rfl,hM,fun b o e=>of_hidT e,Nat.le_of_eq (hidT_size _ _),trivial,fun b hb=>absurd (show b∈([]:List Addr) from hb) (by simp),hok,.of_eq hg⟩
    refine codeAny_mono ((F _ hKb (nsK hns)).run callerA [] s₁ H ⟨[.ref a],[]⟩ [.ref a] [.ref a] _ _ hr e0 (hbind s₁ (.ref a)) (.cons rfl .nil) (hsp H hO hS)) fun r s' h=>?_
    cases r with
    | error e=>exact (hCX H e s' h).elim
    | ok fl =>
      cases fl with
      | next=>exact False.elim h
      | brk=>exact False.elim h
      | cont=>exact False.elim h
      | ret u =>
        obtain ⟨v,H',os,bare,un,hok',r',q⟩:=h
        have q':v=.bl true:=q
        subst q'
        obtain rfl:u=Value.bool true:=r'
        refine ⟨rfl,OldK.of_keep fun b o e=>?_,os,bare⟩
        cases q:H b with
        | none=>exact un.keep b o e q (by intro z; exact absurd (show b∈([]:List Addr) from z) (by simp)) (by simp)
        | some u =>
          rcases hO b with z | ⟨ob,xs,z⟩
          · rw [q] at z; cases z
          · have z2:=un.frzs b ob _ z
            obtain ⟨e1,_⟩:=hok b _ z
            obtain ⟨e2,_⟩:=hok' b _ z2
            rw [e] at e1; cases e1
            exact e2
  cases hk:K.lookup a with
  | some o =>
    have e:=KX a o hk
    rw [ha] at e
    cases e
    refine core (fun _=>none) (fun _=>.inl rfl) (.inr ⟨_,vs.toArray,_,hk,rfl,rfl,rfl,by rw [List.size_toArray,lenV]; exact hl,by simpa using rv⟩) (fun b u z=>by have z':(none:Option HO)=some u:=z; cases z') (fun b z=>absurd rfl z) fun z=>absurd rfl z
  | none =>
    refine core (fun b=>if b=a then some (.frz { cls:=.type "list",data:=.seq vs.toArray } (.lst (ns.map V.int))) else none) (fun b=>?_) (.inl (.inr ⟨{ cls:=.type "list",data:=.seq vs.toArray },if_pos rfl⟩)) (fun b u z=>?_) (fun b z=>?_) fun _=>hk
    · by_cases hb:b=a
      · exact .inr ⟨_,_,if_pos hb⟩
      · exact .inl (if_neg hb)
    · by_cases hb:b=a
      · have z':=(if_pos hb).symm.trans z
        cases z'
        subst hb
        exact ⟨ha,by rw [List.length_map]; exact hl,vs,_,rv,ha⟩
      · have z':=(if_neg hb).symm.trans z
        cases z'
    · by_cases hb:b=a
      · exact hb
      · exact absurd (if_neg hb) z
end L2
namespace L2
open PySem PySem.Spec PyProof.Rows
theorem walk_of {l:PySem.W.OpenLaw} {n k:Nat} {q:Program} {loose:List Str} {XP:(Str→Option Value)→Heap→Prop} {YP:World→Heap→Prop} {d:DefRec} {K:Params→PySem.W.Frag} {CX:World→CXT} {sp:World→Sp} {x:Str}
    (hn:l.most=some n) (hn2:n≤sizeLine) (hdf:d.params.defaults=[]) (hr:Room k callerA)
    (hY:∀ (w:World) (h:Heap),YP w h→(K w.params).In h)
    (F:∀ (w:World) (mg:Str→Option Value) (fa:Addr) (h:Heap),(K w.params).In h→h.Ns mainGlobals mg→mg d.name=some (.ref fa) →
      ∃ fd:FuncData,(∀ (s:Shared) (u:Value),BindsTo s fd ⟨[u],[]⟩ [(x,u)]) ∧
        ∀ base:Heap,(K w.params).In base→base.Ns mainGlobals mg→FnOk l.prog w (K w.params) mg base (CX w) k fa fd [x] (sp w))
    (hsp:∀ (w:World) (H:Hp) (a:Addr) (ns:List Int),ns.length≤n→Only H→SqL (K w.params) H a (ns.map V.int)→sp w [.ref a] H (fun v _=>v=.bl true) fun _ _ _=>False)
    (hCX:∀ (w:World) (H:Hp) (s:Shared) (e:Value) (s':Shared),CX w [] H s (fun _ _ _=>False) e s'→False) :
    PySem.W.WalkO q loose XP YP l.row.toRowW d [] (fun f vs=>PySem.call f vs):=by
  refine Att.attach_call hn hdf fun w s₀ s₁ mg mb fa o pm cd doc a vs ns G Y ho hd hcd hmg hobj hints hlen hg=>?_
  have KX:=hY w _ Y
  obtain ⟨fd,hb,hF⟩:=F w mg fa _ KX G.T.g hmg
  exact law_call KX G.T.g G.T.b G.T.builtins G.T.nolimit hg hobj hints (Nat.le_trans hlen hn2) hr hF hb (fun H hO hS=>hsp w H a ns hlen hO hS) fun H e s'=>hCX w H s₁ e s'
theorem walk_ofK {l:PySem.W.OpenLaw} {n k:Nat} {q:Program} {loose:List Str} {XP:(Str→Option Value)→Heap→Prop} {YP:World→Heap→Prop} {d:DefRec} {K:Params→PySem.W.Frag} {CX:CXT} {sp:PySem.W.Frag→Sp} {x:Str}
    (hn:l.most=some n) (hn2:n≤sizeLine) (hdf:d.params.defaults=[]) (hr:Room k callerA)
    (hY:∀ (w:World) (h:Heap),YP w h→(K w.params).In h)
    (F:∀ (w:World) (mg:Str→Option Value) (fa:Addr) (h:Heap),(K w.params).In h→h.Ns mainGlobals mg→mg d.name=some (.ref fa) →
      ∃ fd:FuncData,(∀ (s:Shared) (u:Value),BindsTo s fd ⟨[u],[]⟩ [(x,u)]) ∧
        ∀ base:Heap,(K w.params).In base→base.Ns mainGlobals mg→FnOk l.prog w (K w.params) mg base CX k fa fd [x] (sp (K w.params)))
    (hsp:∀ (K:PySem.W.Frag) (H:Hp) (a:Addr) (ns:List Int),ns.length≤n→Only H→SqL K H a (ns.map V.int)→sp K [.ref a] H (fun v _=>v=.bl true) fun _ _ _=>False)
    (hCX:∀ (H:Hp) (s:Shared) (e:Value) (s':Shared),CX [] H s (fun _ _ _=>False) e s'→False) :
    PySem.W.WalkO q loose XP YP l.row.toRowW d [] (fun f vs=>PySem.call f vs) :=
  walk_of (K:=K) (CX:=fun _=>CX) (sp:=fun w=>sp (K w.params)) hn hn2 hdf hr hY F (fun w H a ns h1 h2 h3=>hsp (K w.params) H a ns h1 h2 h3) fun _ H s e s'=>hCX H s e s'
end L2
/- THE LAST THEOREM (shape; LID,My.* are yours):
   My.Adr: a structure of the addresses that your layer names (classes,functions); My.Txt K t: a structure (Prop) of the equations over K;
   My.txt_mk:{K} {implicit addresses ..} (e1:nsIn K mainGlobals "law" = some (some (.ref f))) (e2:K.lookup f=some ⟨oc,od,.func (fnOf "law" "law" params body scope dV kV doc pm an cdv ct),sl⟩) (e3:codeIn K cdv "law" = true) .. : ∃ t,My.Txt K t
set_option maxRecDepth 100000 in
set_option maxHeartbeats 0 in
theorem PySem.Challenge.cw_LID_holds : PySem.Challenge.rw_LID.Holds := by
  w_on; o_law; k_head; (case hw=>w_witness2)
  k_fill
  refine L2.walk_of (l:=PySem.Challenge.rw_LID) (n:=63) (k:=40) (x := "script") (CX:=fun w=>..) (sp:=fun _=>My.sp_law) rfl (by decide) rfl ⟨rfl,by decide,by decide⟩ (fun w h Y=>PySem.W.kIn_of Y) ?F ?S ?C
  case F =>
    intro w mg fa h KX G hmg
    have T:∃ t,My.Txt (L2.KOf KX) t:=by
      dsimp only [L2.KOf]                          -- K must stand as «<heap const> w.params» for k_is
      refine' My.txt_mk ?e1 ?e2 ?e3 ..
      (case e1=>PySem.W.k_is)                    -- in the order: a name -> its address -> its object -> its parts
      (case e2=>PySem.W.k_is)
      ..
    obtain ⟨t,T⟩:=T
    have e0:=hmg.symm.trans (PySem.W.mg_of KX G T.law)
    cases e0                                       -- fa is the law's own address
    exact ⟨_,fun s u=>.of_eq rfl,fun base kb nb=>My.law_fn T kb nb⟩     -- if «.of_eq rfl» comes too early: refine' ⟨_,?b,fun base kb nb=>My.law_fn T kb nb⟩; exact fun s u=>.of_eq rfl
  case S=>exact fun w H a ns hl hO hS=>..
  case C=>exact ..
(the tactic k_is has no namespace: write k_is) -/
namespace L2
open PySem PySem.Spec PyProof.Rows
def inClass (s:Stmt) (j:Nat):Stmt:=match s with
  | .ClassDef _ _ _ body _ _ _ _ _ _ _=>body.getD j (.Pass ⟨0,0,0,0⟩)
  | _=>.Pass ⟨0,0,0,0⟩
def defArgs (s:Stmt):Arguments:=match s with
  | .FunctionDef _ a _ _ _ _ _ _ _ _=>a
  | _=>{ posonlyargs:=[],args:=[],vararg:=none,kwonlyargs:=[],kw_defaults:=[],kwarg:=none,defaults:=[] }
def defBody (s:Stmt):List Stmt:=match s with
  | .FunctionDef _ _ b _ _ _ _ _ _ _=>b
  | _=>[]
def defScope (s:Stmt):Scope:=match s with
  | .FunctionDef _ _ _ _ _ _ sc _ _ _=>sc
  | _=>{ kind:=.function,names:=[],isGenerator:=false,isCoroutine:=false }
abbrev CX0:CXT:=fun _ _ _ _ _ _=>False
abbrev E0:XK:=fun _ _ _=>False
theorem pass0 {X:Cx}:Passes CX0 X E0:=fun _ _ _ _ _ _ _ h=>h.elim
structure Fun (K:PySem.W.Frag) (x qual:Str) (st:Stmt) (f:Addr) (fd:FuncData):Prop where
  ex:∃ (oc:Value) (od:Option Addr) (kV doc pm:Value) (an:Option Addr) (cdv ct:Value) (osl:Array (Option Value)),
    fd=PySem.W.fnOf x qual (defArgs st) (defBody st) (defScope st) .none kV doc pm an cdv ct∧K.lookup f=some ⟨oc,od,.func fd,osl⟩∧PySem.W.codeIn K cdv qual=true
  kp:PySem.W.keepIn K (.ref f)=true
section
variable {P:Program} {w:World} {K:PySem.W.Frag} {mg:Str→Option Value} {base:Heap}
theorem Fun.ok {x qual:Str} {st:Stmt} {f:Addr} {fd:FuncData} {N ps:List Str} {k:Nat} {sp:Sp} (F:Fun K x qual st f fd) (S:FnScope N ps (defScope st)) (len:∀ vs H Q E,sp vs H Q E→vs.length=ps.length)
    (hbody:∀ (cdv:Value) (A:Around) (outer:List Env) (s:Shared) (H:Hp) (vs:List V) (Q:VK) (E:XK),Room k (A.deeper (envOfC qual (defScope st) s.heap.objs.size f cdv))→sp vs H Q E →
      ∃ t,PSs (cxOf CX0 P w K mg base N qual (defScope st) f cdv A outer s H E).nox (defBody st) t∧t { nx:=fun _ H'=>Q .non H',rt:=Q } (start N vs) H):FnOk P w K mg base CX0 (k+1) f fd ps sp:=by
  obtain ⟨oc,od,kV,doc,pm,an,cdv,ct,osl,rfl,lk,hcd⟩:=F.ex
  refine fn_of lk hcd S len fun A outer s H vs Q E hr hsp=>?_
  obtain ⟨t,h,q⟩:=hbody cdv A outer s H vs Q E hr hsp
  exact ⟨t,h.nox,q⟩
theorem Fun.binds {x qual:Str} {st:Stmt} {f:Addr} {fd:FuncData} {ps:List Str} (F:Fun K x qual st f fd)
    (h:∀ (kV doc pm:Value) (an:Option Addr) (cdv ct:Value) (us:List Value),us.length=ps.length→bindArgs (PySem.W.fnOf x qual (defArgs st) (defBody st) (defScope st) .none kV doc pm an cdv ct) ⟨us,[]⟩=pure (ps.zip us)):Binds K fd ps []:=by
  obtain ⟨oc,od,kV,doc,pm,an,cdv,ct,osl,rfl,lk,hcd⟩:=F.ex
  exact .all (h kV doc pm an cdv ct)
theorem fun_mk {x qual:Str} {st:Stmt} {f:Addr} {oc:Value} {od an:Option Addr} {osl:Array (Option Value)} {kV doc pm cdv ct:Value} (l:K.lookup f=some ⟨oc,od,.func (PySem.W.fnOf x qual (defArgs st) (defBody st) (defScope st) .none kV doc pm an cdv ct),osl⟩)
    (c:PySem.W.codeIn K cdv qual=true) (k:PySem.W.keepIn K (.ref f)=true):Fun K x qual st f (PySem.W.fnOf x qual (defArgs st) (defBody st) (defScope st) .none kV doc pm an cdv ct):=⟨⟨oc,od,kV,doc,pm,an,cdv,ct,osl,rfl,l,c⟩,k⟩
end
theorem small1000 {n:Nat} (h:n≤1000):n<sizeLine:=Nat.lt_of_le_of_lt h (by decide)
section
variable {X:Cx}
theorem pv (i:Nat) {x:Str} {pos:Pos} (hN:X.N[i]?=some x:=by rfl) (hv:Vis X.env.scope x:=by first | exact Or.inl rfl | exact Or.inr (Or.inl rfl) | exact Or.inr (Or.inr rfl)) (hd:(x == ("__debug__" : Str))=false:=by decide)
    (hcd:(x == ("__classdict__" : Str))=false:=by decide):PE X (.Name x pos) (tVar i):=pe_var hN hv hd hcd
end
theorem iteF {A B:Prop} (h:B):if false=true then A else B:=by
  rw [if_neg Bool.false_ne_true]
  exact h
theorem iteT {A B:Prop} (h:A):if true=true then A else B:=by
  rw [if_pos rfl]
  exact h
theorem ite2 {c A B:Prop} [Decidable c] (h1:c→A) (h2:¬ c→B):if c then A else B:=by
  by_cases h:c
  · rw [if_pos h]
    exact h1 h
  · rw [if_neg h]
    exact h2 h
theorem iteNS {c A B:Prop} [Decidable c] (hc:c) (h:B):if (!decide c)=true then A else B:=by
  rw [decide_eq_true hc]
  exact iteF h
def Same (H H':Hp):Prop:=∀ b o,H b=some o→H' b=some o
theorem Same.refl (H:Hp):Same H H:=fun _ _ h=>h
theorem Same.trans {H H1 H2:Hp} (a:Same H H1) (b:Same H1 H2):Same H H2:=fun c o h=>b c o (a c o h)
theorem Same.free {H H':Hp} (e:Same H H') {l:Addr} (h:H' l=Option.none):H l=Option.none:=by
  cases q:H l with
  | none=>rfl
  | some o =>
    rw [e l o q] at h
    cases h
theorem Same.seq {K:PySem.W.Frag} {H H':Hp} {a:Addr} {xs:List V} (e:Same H H') (h:SqL K H a xs):SqL K H' a xs:=by
  rcases h with (h | ⟨o,h⟩) | h
  · exact .inl (.inl (e _ _ h))
  · exact .inl (.inr ⟨o,e _ _ h⟩)
  · exact .inr h
end L2
set_option Elab.async false
set_option linter.all false
set_option maxRecDepth 100000
namespace L2
open PySem PySem.Spec PyProof.Rows
section
variable {κ:Type} [DecidableEq κ]
end
section
variable {P:Program} {w:World} {H:Hp} {h:Heap} {a:Addr}
end
section
variable {X:Cx} {pins:List (Addr × Obj)} {σ:St} {H:Hp} {s:Shared} {a:Addr} {y v:V} {u r:Value} {o:Option V} {A:Around} {E:Value→Shared→Prop}
end
section
variable {X:Cx} {pins:List (Addr × Obj)} {σ:St} {H:Hp} {s:Shared} {a:Addr} {kvs:List (Key × V)} {k:Key} {u:Value} {A:Around} {E:Value→Shared→Prop}
end
section
variable {X:Cx} {o i e value:Expr} {pos pos' tpos:Pos} {td ty tv:TE}
end
section
variable {X:Cx} {pos:Pos}
end
section
variable {X:Cx} {pins:List (Addr × Obj)} {σ:St} {H:Hp} {s:Shared} {a:Addr} {y d:V} {u r:Value} {o:Option V} {A:Around} {E:Value→Shared→Prop}
end
section
variable {X:Cx} {o e f:Expr} {apos cpos:Pos} {td ty tx:TE}
end
section
variable {X:Cx} {pins:List (Addr × Obj)} {σ:St} {H:Hp} {s:Shared} {a:Addr} {kvs:List (Key × V)} {A:Around} {E:Value→Shared→Prop}
end
section
variable {X:Cx} {pins:List (Addr × Obj)} {σ:St} {H:Hp} {s:Shared} {a:Addr} {y:V} {u:Value} {A:Around} {E:Value→Shared→Prop}
end
end L2
namespace L2
open PySem PySem.Spec PyProof.Rows
section
variable {κ:Type} [DecidableEq κ]
end
end L2
set_option Elab.async false
set_option linter.all false
set_option maxRecDepth 100000
namespace L2
open PySem PySem.Spec PyProof.Rows
abbrev bits (i:Int):Nat:=Builtin.Int.intBits i
def CDivB (i j:Int):Prop:=0<j∧bits j≤9000
theorem log_of_bits {j:Int} {n:Nat} (h:bits j≤n) (hn:0<n):j.natAbs.log2<n:=by
  unfold bits Builtin.Int.intBits at h
  by_cases hj:(j == 0)=true
  · have:j=0:=by simpa using hj
    subst this
    exact Nat.lt_of_le_of_lt (by decide +kernel:(0:Int).natAbs.log2≤0) hn
  · rw [if_neg hj] at h
    omega
section
variable {X:Cx}
theorem op_fdivB:OpR X (binaryOp .FloorDiv) (rI CDivB fun i j=>.int (i / j)):=opI fun i j _ _ _ _ _ hc q=>by
  refine floordiv_int (by have:=hc.1; omega) ?_ (.inl (PyProof.noPylong_of_log2 (log_of_bits hc.2 (by decide))))
  rw [Int.fdiv_eq_ediv_of_nonneg i (by have:=hc.1; omega)]
  exact q
theorem op_mulB:OpR X (binaryOp .Mult) (rI IntMulOk fun i j=>.int (i*j)):=opI fun _ _ _ _ _ _ _ hc q=>mul_int q hc
end
mutual
def Rep (H:Hp):PyData→V→Prop
  | .none,v=>v=.non
  | .bool b,v=>v=.bl b
  | .int i,v=>v=.int i
  | .str x,v=>v=.str x
  | .list ds,v=>∃ a xs,v=.ref a∧H a=some (.lst xs)∧RepL H ds xs
  | .tuple ds,v=>∃ a xs,v=.ref a∧H a=some (.tup xs)∧RepL H ds xs
  | .dict kvs,v=>kvs=[]∧∃ a,v=.ref a∧H a=some (.dK [])
def RepL (H:Hp):List PyData→List V→Prop
  | [],vs=>vs=[]
  | d::ds,vs=>∃ x xs,vs=x::xs∧Rep H d x∧RepL H ds xs
end
mutual
theorem Rep.same {H H':Hp} (e:Same H H'):∀ {d:PyData} {v:V},Rep H d v→Rep H' d v
  | .none,_,h=>h
  | .bool _,_,h=>h
  | .int _,_,h=>h
  | .str _,_,h=>h
  | .list ds,_,h=>by
    unfold Rep at h ⊢
    obtain ⟨a,xs,rfl,h1,h2⟩:=h
    exact ⟨a,xs,rfl,e _ _ h1,RepL.same e h2⟩
  | .tuple ds,_,h=>by
    unfold Rep at h ⊢
    obtain ⟨a,xs,rfl,h1,h2⟩:=h
    exact ⟨a,xs,rfl,e _ _ h1,RepL.same e h2⟩
  | .dict kvs,_,h=>by
    unfold Rep at h ⊢
    obtain ⟨h0,a,rfl,h1⟩:=h
    exact ⟨h0,a,rfl,e _ _ h1⟩
theorem RepL.same {H H':Hp} (e:Same H H'):∀ {ds:List PyData} {vs:List V},RepL H ds vs→RepL H' ds vs
  | [],_,h=>h
  | d::ds,_,h=>by
    unfold RepL at h ⊢
    obtain ⟨x,xs,rfl,h1,h2⟩:=h
    exact ⟨x,xs,rfl,Rep.same e h1,RepL.same e h2⟩
end
theorem Rep.tup {H:Hp} {a:Addr} {xs:List V} {ds:List PyData} (h:H a=some (.tup xs)) (r:RepL H ds xs):Rep H (.tuple ds) (.ref a):=by
  unfold Rep; exact ⟨a,xs,rfl,h,r⟩
theorem Rep.lst {H:Hp} {a:Addr} {xs:List V} {ds:List PyData} (h:H a=some (.lst xs)) (r:RepL H ds xs):Rep H (.list ds) (.ref a):=by
  unfold Rep; exact ⟨a,xs,rfl,h,r⟩
theorem Rep.int {H:Hp} (i:Int):Rep H (.int i) (.int i):=by unfold Rep; rfl
theorem Rep.str {H:Hp} (i:Str):Rep H (.str i) (.str i):=by unfold Rep; rfl
theorem Rep.non {H:Hp}:Rep H .none .non:=by unfold Rep; rfl
theorem RepL.nil {H:Hp}:RepL H [] []:=by unfold RepL; rfl
theorem RepL.cons {H:Hp} {d:PyData} {ds:List PyData} {x:V} {xs:List V} (h:Rep H d x) (hs:RepL H ds xs):RepL H (d::ds) (x::xs):=by
  unfold RepL; exact ⟨x,xs,rfl,h,hs⟩
section
variable {X:Cx} {pins:List (Addr × Obj)} {σ:St} {H:Hp} {s:Shared}
mutual
theorem Rep.reads (I:Inv X pins σ H s):∀ {d:PyData} {v:V} {u:Value},Rep H d v→RelV v u→∃ as,Reads s.heap u d as
  | .none,_,u,h,r=>by
    cases (show _=V.non from h); cases (show u=Value.none from r); exact ⟨_,.none⟩
  | .bool b,_,u,h,r=>by
    cases (show _=V.bl b from h); cases (show u=Value.bool b from r); exact ⟨_,.bool b⟩
  | .int b,_,u,h,r=>by
    cases (show _=V.int b from h); obtain ⟨t,q⟩:=(show ∃ t,u=Value.int b t from r); cases q; exact ⟨_,.int b t⟩
  | .str b,_,u,h,r=>by
    cases (show _=V.str b from h); obtain ⟨t,q⟩:=(show ∃ t,u=Value.str b t from r); cases q; exact ⟨_,.str b t⟩
  | .list ds,v,u,h,r=>by
    unfold Rep at h
    obtain ⟨a,xs,rfl,h1,h2⟩:=h
    cases (show u=Value.ref a from r)
    obtain ⟨_,its,n,r',e⟩:=(show ObjOk X.prog X.w H s.heap a (.lst xs) from I.hok a _ h1)
    obtain ⟨as,q⟩:=RepL.reads I h2 r'
    exact ⟨_,.list e rfl rfl (by simpa using q)⟩
  | .tuple ds,v,u,h,r=>by
    unfold Rep at h
    obtain ⟨a,xs,rfl,h1,h2⟩:=h
    cases (show u=Value.ref a from r)
    obtain ⟨_,its,r',o,e,hc,n,hd⟩:=(show ObjOk X.prog X.w H s.heap a (.tup xs) from I.hok a _ h1)
    obtain ⟨as,q⟩:=RepL.reads I h2 r'
    exact ⟨_,.tuple e hc hd (by simpa using q)⟩
  | .dict kvs,v,u,h,r=>by
    unfold Rep at h
    obtain ⟨rfl,a,rfl,h1⟩:=h
    cases (show u=Value.ref a from r)
    obtain ⟨_,_,vs,kv,o,es,ep,e,hx,hd,_,hes,_⟩:=(show ObjOk X.prog X.w H s.heap a (.dK []) from I.hok a _ h1)
    cases kv
    have he:es.toList=[]:=by
      cases q:es.toList with
      | nil=>rfl
      | cons y ys=>rw [q] at hes; cases hes
    exact ⟨_,.dict e hx.1 hd (by rw [he]; exact .nil) (by rw [he]; exact .nil)⟩
theorem RepL.reads (I:Inv X pins σ H s):∀ {ds:List PyData} {vs:List V} {us:List Value},RepL H ds vs→Vals vs us→∃ as,ReadsAll s.heap us ds as
  | [],_,us,h,r=>by
    cases (show _=[] from h); cases r; exact ⟨_,.nil⟩
  | d::ds,_,us,h,r=>by
    unfold RepL at h
    obtain ⟨x,xs,rfl,h1,h2⟩:=h
    cases r with
    | cons r1 r2 =>
      obtain ⟨as,q1⟩:=Rep.reads I h1 r1
      obtain ⟨bs,q2⟩:=RepL.reads I h2 r2
      exact ⟨_,.cons q1 q2⟩
end
end
section
variable {X:Cx}
theorem call_repr (hg:X.A.guards=some []) (hu:X.A.units+64<cLine):CallR X (.builtin "repr") (fun xs H Q=>∃ x d,xs=[x]∧Rep H d x∧d.showable=true∧d.hasDict=false∧d.depth≤60∧d.shown.length≤sizeLine∧Q (.str d.shown) H):=by
  intro pins s σ H xs us Q I r h
  obtain ⟨x,d,rfl,hr,hs,hnd,hdp,hz,q⟩:=h
  obtain ⟨u,rfl,ru⟩:=vals1 r
  obtain ⟨as,rd⟩:=hr.reads I ru
  cases rd with
  | none=>exact PySem.P.repr_of_none ⟨.str _,H,I.tok _,⟨_,rfl⟩,q⟩
  | bool b=>exact PySem.P.repr_of_bool ⟨.str _,H,I.tok _,⟨_,rfl⟩,q⟩
  | int i t=>exact PySem.P.repr_of_int (by simpa [PyData.showable] using hs) ⟨.str _,H,I.tok _,⟨_,rfl⟩,q⟩
  | str y t=>exact PySem.P.repr_of_str ⟨.str _,H,I.tok _,⟨_,rfl⟩,q⟩ hz
  | list a1 a2 a3 a4=>exact repr_of_reads' (.list a1 a2 a3 a4) hs (PyData.noDict_hsm hnd) hg (by omega) (fun _ _ e=>e) (fun h' u tk hk=>⟨.str _,H,I.kept hk,⟨_,rfl⟩,q⟩) hz
  | tuple a1 a2 a3 a4=>exact repr_of_reads' (.tuple a1 a2 a3 a4) hs (PyData.noDict_hsm hnd) hg (by omega) (fun _ _ e=>e) (fun h' u tk hk=>⟨.str _,H,I.kept hk,⟨_,rfl⟩,q⟩) hz
  | dict a1 a2 a3 a4 a5=>simp [PyData.hasDict] at hnd
end
def tyD:PyData→String
  | .none => "NoneType"
  | .bool _ => "bool"
  | .int _ => "int"
  | .str _ => "str"
  | .list _ => "list"
  | .tuple _ => "tuple"
  | .dict _ => "dict"
theorem Rep.ty {K:PySem.W.Frag} {H:Hp} {d:PyData} {v:V} (h:Rep H d v):TyOf K H v (.type (tyD d)):=by
  cases d with
  | none=>cases (show v=V.non from h); exact .non
  | bool b=>cases (show v=V.bl b from h); exact .bl b
  | int b=>cases (show v=V.int b from h); exact .int b
  | str b=>cases (show v=V.str b from h); exact .str b
  | list ds=>unfold Rep at h; obtain ⟨a,xs,rfl,h1,h2⟩:=h; exact .lst h1
  | tuple ds=>unfold Rep at h; obtain ⟨a,xs,rfl,h1,h2⟩:=h; exact .tup h1
  | dict ds=>unfold Rep at h; obtain ⟨_,a,rfl,h1⟩:=h; exact .dK h1
def isD (T:String) (d:PyData):Bool:=tyD d == T || (T == "int" && tyD d == "bool")
theorem kit_DT : ∀ T ∈ ["int", "bool", "tuple", "str", "list", "dict"], ∀ S ∈ ["NoneType", "bool", "int", "str", "list", "tuple", "dict"],
      PySem.W.kitOne [] (.type S) (.type T)=some (S == T || (T == "int" && S == "bool")):=by decide +kernel
theorem kit_noK (K:PySem.W.Frag) (S T:String):PySem.W.kitOne K (.type S) (.type T)=PySem.W.kitOne [] (.type S) (.type T):=rfl
theorem kit_D (K:PySem.W.Frag) (d:PyData) (T:String) (hT:T = "int" ∨ T = "bool" ∨ T = "tuple" ∨ T = "str" ∨ T = "list" ∨ T = "dict"):PySem.W.kitOne K (.type (tyD d)) (.type T)=some (isD T d):=by
  rw [kit_noK]
  refine kit_DT T ?_ (tyD d) ?_
  · rcases hT with rfl | rfl | rfl | rfl | rfl | rfl <;> decide
  · cases d <;> simp [tyD]
section
variable {X:Cx}
theorem call_isinst:CallR X (.builtin "isinstance") (fun xs H Q=>∃ x d T,xs=[x,.ty T]∧Rep H d x∧(T = "int" ∨ T = "bool" ∨ T = "tuple" ∨ T = "str" ∨ T = "list" ∨ T = "dict")∧Q (.bl (isD T d)) H):=by
  intro pins s σ H xs us Q I r h
  obtain ⟨x,d,T,rfl,hr,hT,q⟩:=h
  obtain ⟨u,w',rfl,r1,r2⟩:=vals2 r
  cases (show w'=Value.type T from r2)
  exact isinst_ok I r1 hr.ty (kit_D _ d T hT) fun tk=>⟨.bl _,H,I.tok _,rfl,q⟩
end
end L2
namespace L2
open PySem PySem.Spec PyProof.Rows
structure FnC (CX:CXT) (P:Program) (w:World) (K:PySem.W.Frag) (mg:Str→Option Value) (base:Heap) (k:Nat) (x:Str) (ps:List Str) (sp:Sp):Prop where
  ex:∃ (f:Addr) (fd:FuncData),FnOk P w K mg base CX k f fd ps sp∧mg x=some (.ref f)∧PySem.W.keepIn K (.ref f)=true∧Binds K fd ps []
section
variable {X:Cx} {k:Nat} {ps:List Str} {sp:Sp} {x:Str} {p pos:Pos} {e:Expr} {es:List Expr} {t:TA}
theorem pe_fn (F:FnC CX0 X.prog X.w X.K X.mg X.base k x ps sp) (hr:Room k X.A) (ha:PA X (e::es) t) (hg:Gl X x:=by rfl)
    (hdb:(x == ("__debug__" : Str))=false:=by decide) (he:starEach (e::es) X.env=(false,eval e X.env)::starEach es X.env:=by rfl) (hpl:(backTo pos (starEach es X.env)).any (·.1)=false:=by rfl) :
    PE X (.Call (.Name x p) (e::es) [] pos) (tCall sp [] E0 t):=by
  obtain ⟨f,fd,h1,h2,h3,h4⟩:=F.ex
  exact pe_call h1 hr hg h2 h3 h4 .nil pass0 ha hdb he hpl
end
section
variable {K:PySem.W.Frag} {H:Hp} {p:Addr} {xs:List V} {i:Int} {v:V} {Q:VK}
theorem ixL (h:H p=some (.lst xs)) (e:atI xs i=some v) (q:Q v H):rIx K (.ref p) (.int i) H Q:=.inl ⟨p,xs,i,v,rfl,rfl,SqL.of h,e,q⟩
theorem ixT (h:H p=some (.tup xs)) (e:atI xs i=some v) (q:Q v H):rIx K (.ref p) (.int i) H Q:=.inr (.inl ⟨p,xs,i,v,rfl,rfl,SqT.of h,e,q⟩)
theorem stL {u:V} {Q:Hp→Prop} {j:Nat} (h:H p=some (.lst xs)) (e:ixN xs.length i=some j) (q:Q (upd H p (.lst (xs.set j u)))):rSetL (.ref p) (.int i) u H Q:=⟨p,xs,i,j,rfl,rfl,h,e,q⟩
end
def Hide (p:Addr) (H:Hp):Hp:=fun b=>if b=p then none else H b
theorem Hide.at {p b:Addr} {H:Hp} (h:b≠p):Hide p H b=H b:=by unfold Hide; rw [if_neg h]
theorem Hide.self {p:Addr} {H:Hp}:Hide p H p=none:=by unfold Hide; rw [if_pos rfl]
theorem Hide.same {p:Addr} {H:Hp}:Same (Hide p H) H:=fun b o h=>by
  unfold Hide at h
  by_cases e:b=p
  · rw [if_pos e] at h; cases h
  · rw [if_neg e] at h; exact h
theorem Hide.ne {p b:Addr} {H:Hp} {o:HO} (h:Hide p H b=some o):b≠p:=fun e=>by
  subst e; rw [Hide.self] at h; cases h
theorem Hide.of {p b:Addr} {H:Hp} {o:HO} (n:b≠p) (h:H b=some o):Hide p H b=some o:=by rw [Hide.at n]; exact h
theorem Hide.upd_self {p:Addr} {H:Hp} {o:HO}:Hide p (upd H p o)=Hide p H:=by
  funext b
  by_cases e:b=p
  · subst e; rw [Hide.self,Hide.self]
  · rw [Hide.at e,Hide.at e,L2.upd_ne e]
abbrev SameBut (p:Addr) (H H':Hp):Prop:=Same (Hide p H) (Hide p H')
theorem Same.but {p:Addr} {H H':Hp} (h:Same H H'):SameBut p H H':=fun b o e=>by
  have n:=Hide.ne e
  exact Hide.of n (h _ _ (Hide.same _ _ e))
theorem Same.upd {H:Hp} {q:Addr} {o:HO} (h:H q=none):Same H (upd H q o):=fun b u e=>by
  rw [L2.upd_ne (ne_of_none e h)]; exact e
theorem SameBut.self {p:Addr} {H:Hp} {o:HO}:SameBut p H (upd H p o):=by unfold SameBut; rw [Hide.upd_self]; exact Same.refl _
theorem SameBut.free {p q:Addr} {H H':Hp} (e:SameBut p H H') (hp:∃ o,H' p=some o) (h:H' q=none):H q=none:=by
  cases k:H q with
  | none=>rfl
  | some o =>
    by_cases n:q=p
    · subst n; obtain ⟨o',h'⟩:=hp; rw [h'] at h; cases h
    · have:=Hide.same _ _ (e q o (Hide.of n k)); rw [this] at h; cases h
end L2
namespace L2
open PySem PySem.Spec PyProof.Rows
section
variable {K:PySem.W.Frag} {H:Hp} {p:Addr} {xs:List V} {i:Int} {v:V} {Q:VK}
theorem stG {u:V} {Q:Hp→Prop} {j:Nat} (h:H p=some (.lst xs)) (e:ixN xs.length i=some j) (k:∀ H',H' p=some (.lst (xs.set j u))→SameBut p H H'→Q H'):rSetL (.ref p) (.int i) u H Q :=
  stL h e (k _ upd_same SameBut.self)
theorem alT {Q:V→Hp→Prop} (hz:xs.length≤sizeLine) (k:∀ q H',H q=none→H' q=some (.tup xs)→Same H H'→Q (.ref q) H'):xs.length≤sizeLine∧∀ p,H p=none→Q (.ref p) (upd H p (.tup xs)) :=
  ⟨hz,fun q hq=>k q _ hq upd_same (Same.upd hq)⟩
theorem alL {Q:V→Hp→Prop} (hz:xs.length≤sizeLine) (k:∀ q H',H q=none→H' q=some (.lst xs)→Same H H'→Q (.ref q) H'):xs.length≤sizeLine∧∀ p,H p=none→Q (.ref p) (upd H p (.lst xs)) :=
  ⟨hz,fun q hq=>k q _ hq upd_same (Same.upd hq)⟩
theorem SameBut.at {p b:Addr} {H H':Hp} {o:HO} (s:SameBut p H H') (n:b≠p) (h:H b=some o):H' b=some o:=Hide.same _ _ (s _ _ (Hide.of n h))
end
theorem small64 {n:Nat} (h:n≤64):n≤sizeLine:=Nat.le_trans h (by decide)
theorem iteD {c A B:Prop} [Decidable c] (h1:c→A) (h2:¬ c→B):if decide c=true then A else B :=
  ite2 (fun h=>h1 (of_decide_eq_true h)) (fun h=>h2 (fun k=>h (decide_eq_true k)))
theorem iteDN {c A B:Prop} [Decidable c] (h1:¬ c→A) (h2:c→B):if (!decide c)=true then A else B :=
  ite2 (fun h=>h1 (fun k=>by rw [decide_eq_true k] at h; exact absurd h (by decide))) (fun h=>h2 (Decidable.of_not_not fun k=>h (by rw [decide_eq_false k]; rfl)))
end L2
namespace L2
open PySem PySem.Spec PyProof.Rows
def tMono (c:TT):TT:=fun σ H Q=>∃ Q':Bool→Hp→Prop,c σ H Q'∧∀ b H1,Q' b H1→Q b H1
theorem PT.mono {X:Cx} {e:Expr} {c:TT} (h:PT X e c):PT X e (tMono c):=fun pins s σ H Q I ⟨Q',h1,h2⟩ =>
  thn (h pins s σ H Q' I h1) fun b s' ⟨H',I',q⟩=>⟨H',I',h2 _ _ q⟩
theorem ps_whileM {X:Cx} {pos:Pos} {c:Expr} {body:List Stmt} {tc:TT} {tb:TS} (hp:PassesOwn (model X.prog X.w) X.A X.env X.xe) (hc:PT X c tc) (hb:PSs X body tb):PS X (.While c body [] pos) (tWhile (tMono tc) tb) :=
  ps_while hp hc.mono hb
end L2
namespace L2
open PySem PySem.Spec PyProof.Rows
@[irreducible] def rLen (K:PySem.W.Frag):List V→Hp→VK→Prop:=fun xs H Q=>∃ x n,xs=[x]∧LenV K x H n∧Q (.int n) H
@[irreducible] def rAbs:List V→Hp→VK→Prop:=fun xs H Q=>∃ i,xs=[.int i]∧Q (.int (i.natAbs:Int)) H
@[irreducible] def rIsi:List V→Hp→VK→Prop:=fun xs H Q=>∃ x d T,xs=[x,.ty T]∧Rep H d x∧(T = "int" ∨ T = "bool" ∨ T = "tuple" ∨ T = "str" ∨ T = "list" ∨ T = "dict")∧Q (.bl (isD T d)) H
@[irreducible] def rRepr:List V→Hp→VK→Prop:=fun xs H Q=>∃ x d,xs=[x]∧Rep H d x∧d.showable=true∧d.hasDict=false∧d.depth≤60∧d.shown.length≤sizeLine∧Q (.str d.shown) H
section
variable {X:Cx} {K:PySem.W.Frag} {H:Hp} {p:Addr} {xs:List V} {Q:VK}
theorem cl_len:CallR X (.builtin "len") (rLen X.K):=by unfold rLen; exact call_len
theorem cl_abs:CallR X (.builtin "abs") rAbs:=by
  unfold rAbs
  exact fun pins s σ H xs us Q I r ⟨i,e,q⟩=>call_abs pins s σ H xs us Q I r ⟨i,e,by
  have:(if i<0 then -i else i)=(i.natAbs:Int):=by split <;> omega
  rw [this]; exact q⟩
theorem cl_isi:CallR X (.builtin "isinstance") rIsi:=by unfold rIsi; exact call_isinst
theorem cl_repr (hg:X.A.guards=some []) (hu:X.A.units+64<cLine):CallR X (.builtin "repr") rRepr:=by unfold rRepr; exact call_repr hg hu
theorem rlL (h:H p=some (.lst xs)) (q:Q (.int xs.length) H):rLen K [V.ref p] H Q:=by unfold rLen; exact ⟨_,_,rfl,.inl ⟨xs,SqL.of h,rfl⟩,q⟩
theorem rlT (h:H p=some (.tup xs)) (q:Q (.int xs.length) H):rLen K [V.ref p] H Q:=by unfold rLen; exact ⟨_,_,rfl,.inr ⟨xs,SqT.of h,rfl⟩,q⟩
theorem raI {i:Int} (q:Q (.int (i.natAbs:Int)) H):rAbs [V.int i] H Q:=by unfold rAbs; exact ⟨i,rfl,q⟩
theorem rrI {x:V} {d:PyData} (r:Rep H d x) (h1:d.showable=true) (h2:d.hasDict=false) (h3:d.depth≤60) (h4:d.shown.length≤sizeLine) (q:Q (.str d.shown) H):rRepr [x] H Q:=by unfold rRepr; exact ⟨x,d,rfl,r,h1,h2,h3,h4,q⟩
theorem riI {x:V} {d:PyData} {T:String} (r:Rep H d x) (q:Q (.bl (isD T d)) H) (hT:(T = "int" ∨ T = "bool" ∨ T = "tuple" ∨ T = "str" ∨ T = "list" ∨ T = "dict"):=by decide):rIsi [x,.ty T] H Q:=by unfold rIsi; exact ⟨x,d,T,rfl,r,hT,q⟩
end
end L2
namespace L2
open PySem PySem.Spec PyProof.Rows
theorem while_r {c:TT} {tb:TS} {D:Ends} {σ:St} {H:Hp} (W:Nat→St→Hp→Prop) (R:St→Hp→Prop) (m:Nat) (h0:W m σ H)
    (hs:∀ m σ H,W m σ H→c σ H fun b H1=>if b=true then tb { D with nx:=fun σ' H'=>∃ m',m' < m∧W m' σ' H',ct:=fun σ' H'=>∃ m',m' < m∧W m' σ' H',bk:=D.nx } σ H1 else R σ H1)
    (hd:∀ σ H,R σ H→D.nx σ H):tWhile (tMono c) tb D σ H :=
  ⟨W,⟨m,h0⟩,fun m σ H hw=>⟨_,hs m σ H hw,fun b H1 q=>by
    by_cases hb:b=true
    · rw [if_pos hb] at q ⊢
      exact ⟨_,fun _ _ h=>h,q⟩
    · rw [if_neg hb] at q ⊢
      exact hd _ _ q⟩⟩
end L2
namespace L2
open PySem PySem.Spec PyProof.Rows
def tCut (t:TS):TS:=fun D σ H=>∃ R:St→Hp→Prop,(∀ σ' H',R σ' H'→D.nx σ' H')∧t { D with nx:=R } σ H
theorem ps_cut {X:Cx} {st:Stmt} {t:TS} (h:PS X st t):PS X st (tCut t):=fun pins s σ H D I ⟨R,hR,q⟩ =>
  thn (h pins s σ H _ I q) fun f s' z=>by
    cases f with
    | next=>obtain ⟨σ',H',I',r⟩:=z; exact ⟨σ',H',I',hR _ _ r⟩
    | brk=>exact z
    | cont=>exact z
    | ret u=>exact z
end L2
namespace L2
open PySem PySem.Spec PyProof.Rows
section
variable {es:List Expr} {env:Env}
theorem se_BinOp {a b c d}:starEach (.BinOp a b c d::es) env=(false,eval (.BinOp a b c d) env)::starEach es env:=by rw [starEach] <;> (intros; contradiction)
theorem se_ListComp {a b c d}:starEach (.ListComp a b c d::es) env=(false,eval (.ListComp a b c d) env)::starEach es env:=by rw [starEach] <;> (intros; contradiction)
theorem se_Compare {a b c d}:starEach (.Compare a b c d::es) env=(false,eval (.Compare a b c d) env)::starEach es env:=by rw [starEach] <;> (intros; contradiction)
theorem se_Call {a b c d}:starEach (.Call a b c d::es) env=(false,eval (.Call a b c d) env)::starEach es env:=by rw [starEach] <;> (intros; contradiction)
theorem se_Constant {a b c}:starEach (.Constant a b c::es) env=(false,eval (.Constant a b c) env)::starEach es env:=by rw [starEach] <;> (intros; contradiction)
theorem se_Attribute {a b c}:starEach (.Attribute a b c::es) env=(false,eval (.Attribute a b c) env)::starEach es env:=by rw [starEach] <;> (intros; contradiction)
theorem se_Subscript {a b c}:starEach (.Subscript a b c::es) env=(false,eval (.Subscript a b c) env)::starEach es env:=by rw [starEach] <;> (intros; contradiction)
theorem se_Name {a b}:starEach (.Name a b::es) env=(false,eval (.Name a b) env)::starEach es env:=by rw [starEach] <;> (intros; contradiction)
theorem se_List {a b}:starEach (.List a b::es) env=(false,eval (.List a b) env)::starEach es env:=by rw [starEach] <;> (intros; contradiction)
theorem se_Tuple {a b c}:starEach (.Tuple a b c::es) env=(false,eval (.Tuple a b c) env)::starEach es env:=by rw [starEach] <;> (intros; contradiction)
end
section
variable {X:Cx} {k:Nat} {ps:List Str} {sp:Sp} {x:Str} {p pos:Pos} {e:Expr} {es:List Expr} {te:TE} {t:TA} {id T:String} {r:List V→Hp→VK→Prop}
theorem ap_nil {env:Env}:(backTo pos (starEach [] env)).any (·.1)=false:=rfl
theorem ap_cons {env:Env} (hs:starEach (e::es) env=(false,eval e env)::starEach es env) (h:(backTo pos (starEach es env)).any (·.1)=false):(backTo pos (starEach (e::es) env)).any (·.1)=false:=by
  rw [hs]
  show (false || (backTo pos (starEach es env)).any (·.1))=false
  rw [h]; rfl
end
end L2
set_option Elab.async false
set_option linter.all false
set_option maxRecDepth 100000
namespace L2
open PySem PySem.Spec PyProof.Rows
structure PEw (X:Cx) (e:Expr) (t:TE):Prop where p:PE X e t
structure PTw (X:Cx) (e:Expr) (t:TT):Prop where p:PT X e t
structure PWw (X:Cx) (e:Expr) (t:TT):Prop where p:PW X e t
structure PAw (X:Cx) (es:List Expr) (t:TA):Prop where p:PA X es t
structure PSw (X:Cx) (st:Stmt) (t:TS):Prop where p:PS X st t
structure PSsw (X:Cx) (st:List Stmt) (t:TS):Prop where p:PSs X st t
structure PGw (X:Cx) (e:Expr) (t:TG):Prop where p:PG X e t
structure PGsw (X:Cx) (es:List Expr) (t:TGs):Prop where p:PGs X es t
structure PIw (X:Cx) (tg iter:Expr) (t:TI):Prop where p:PI X tg iter t
structure POw (X:Cx) (e:Option Expr) (t:TO):Prop where p:PO X e t
@[irreducible] def rNewT (xs:List V) (H:Hp) (Q:VK):Prop:=xs.length≤sizeLine∧∀ p,H p=none→Q (.ref p) (upd H p (.tup xs))
@[irreducible] def rNewL (xs:List V) (H:Hp) (Q:VK):Prop:=xs.length≤sizeLine∧∀ p,H p=none→Q (.ref p) (upd H p (.lst xs))
theorem nwT {xs:List V} {H:Hp} {Q:VK} (hz:xs.length≤64) (k:∀ q H',H q=none→H' q=some (.tup xs)→Same H H'→Q (.ref q) H'):rNewT xs H Q:=by unfold rNewT; exact alT (small64 hz) k
theorem nwL {xs:List V} {H:Hp} {Q:VK} (hz:xs.length≤64) (k:∀ q H',H q=none→H' q=some (.lst xs)→Same H H'→Q (.ref q) H'):rNewL xs H Q:=by unfold rNewL; exact alL (small64 hz) k
def tTu (t:TA):TE:=fun σ H Q=>t σ H fun xs H1=>rNewT xs H1 Q
def tLs (t:TA):TE:=fun σ H Q=>t σ H fun xs H1=>rNewL xs H1 Q
section
variable {X:Cx} {a b c e o tg:Expr} {es rest:List Expr} {ta tb tc te to:TE} {tA tB':TT} {t:TA} {pos p p2:Pos} {st:Stmt} {sts body orelse:List Stmt} {ts us:TS} {x:Str} {r r':R2} {id T:String} {rl:List V→Hp→VK→Prop} {k i j:Nat} {ps:List Str} {sp:Sp} {n:Nat}
theorem we_v (i:Nat) {x:Str} {pos:Pos} (hN:X.N[i]?=some x:=by rfl) (hv:Vis X.env.scope x:=by first | exact Or.inl rfl | exact Or.inr (Or.inl rfl) | exact Or.inr (Or.inr rfl)) (hd:(x == ("__debug__" : Str))=false:=by decide)
    (hcd:(x == ("__classdict__" : Str))=false:=by decide):PEw X (.Name x pos) (tVar i):=⟨pv i hN hv hd hcd⟩
theorem we_int {i j pos}:PEw X (.Constant (.int i) j pos) (tC (.int i)):=⟨pe_int⟩
theorem we_bl {b j pos}:PEw X (.Constant (.bool b) j pos) (tC (.bl b)):=⟨pe_bl⟩
theorem we_non {j pos}:PEw X (.Constant .none j pos) (tC .non):=⟨pe_non⟩
theorem we_str {x j pos}:PEw X (.Constant (.str x) j pos) (tC (.str x)):=⟨pe_str⟩
theorem we_glob {v:V} {u:Value} (hg:Gl X x) (hm:X.mg x=some u) (r:RelV v u) (hd:(x == ("__debug__" : Str))=false:=by decide):PEw X (.Name x pos) (tC v):=⟨pe_glob hg hm r hd⟩
theorem we_bltn {v:V} {u:Value} (hg:Gl X x) (hm:X.mg x=none) (hv:bootBuiltins x=some u) (r:RelV v u) (hn:x ≠ "__name__" := by decide) (hd:(x == ("__debug__" : Str))=false:=by decide):PEw X (.Name x pos) (tC v):=⟨pe_bltn hg hm hv r hn hd⟩
theorem we_op {op:Operator} (ho:OpR X (binaryOp op) r) (ha:PEw X a ta) (hb:PEw X b tb):PEw X (.BinOp a op b pos) (tOp r ta tb):=⟨pe_op ho ha.p hb.p⟩
theorem we_cmp {op:CmpOp} (ho:OpR X (compareOp op) r) (ha:PEw X a ta) (hb:PEw X b tb) (hm:behindInMarks op b=false):PEw X (.Compare a [op] [b] pos) (tOp r ta tb):=⟨pe_cmpR ho ha.p hb.p hm⟩
theorem wt_cmp {op:CmpOp} (ho:OpR X (compareOp op) r) (ha:PEw X a ta) (hb:PEw X b tb) (hm:behindInMarks op b=false):PTw X (.Compare a [op] [b] pos) (tTest (tOp r ta tb)):=⟨pt_cmpR ho ha.p hb.p hm⟩
theorem we_chain {op op':CmpOp} (ho:OpR X (compareOp op) r) (ho':OpR X (compareOp op') r') (ha:PEw X a ta) (hb:PEw X b tb) (hc:PEw X c tc)
    (hm:lastMarks [op,op'] [b,c]=false:=by with_unfolding_all rfl):PEw X (.Compare a [op,op'] [b,c] pos) (tChain r r' ta tb tc):=⟨pe_chain ho ho' ha.p hb.p hc.p hm⟩
theorem wt_chain {op op':CmpOp} (ho:OpR X (compareOp op) r) (ho':OpR X (compareOp op') r') (ha:PEw X a ta) (hb:PEw X b tb) (hc:PEw X c tc)
    (hm:lastMarks [op,op'] [b,c]=false:=by with_unfolding_all rfl):PTw X (.Compare a [op,op'] [b,c] pos) (tTest (tChain r r' ta tb tc)):=⟨pt_chain ho ho' ha.p hb.p hc.p hm⟩
theorem wt_val (h:PEw X e te) (he:∀ whole,isTrue e X.env whole=(do let v ← whole; standAt e.pos; holding [v] (truthy v)):=by intro _; rfl):PTw X e (tB te):=⟨pt_val h.p he⟩
theorem ww_and1 (ha:PTw X a tA):PWw X (.BoolOp .And [a] pos) tA:=⟨pw_and1 ha.p⟩
theorem ww_or1 (ha:PTw X a tA):PWw X (.BoolOp .Or [a] pos) tA:=⟨pw_or1 ha.p⟩
theorem ww_and (ha:PTw X a tA) (hb:PWw X (.BoolOp .And (b::rest) pos) tB'):PWw X (.BoolOp .And (a::b::rest) pos) (tAnd tA tB'):=⟨pw_and ha.p hb.p⟩
theorem ww_or (ha:PTw X a tA) (hb:PWw X (.BoolOp .Or (b::rest) pos) tB'):PWw X (.BoolOp .Or (a::b::rest) pos) (tOr tA tB'):=⟨pw_or ha.p hb.p⟩
theorem wt_w (h:PWw X e tA):PTw X e tA:=⟨h.p.pt⟩
theorem wt_not (ha:PTw X a tA):PTw X (.UnaryOp .Not a pos) (tNot tA):=⟨pt_not ha.p⟩
theorem we_one {op} (h:PEw X a ta):PEw X (.BoolOp op [a] pos) ta:=⟨pe_one h.p⟩
theorem we_and (ha:PEw X a ta) (hb:PEw X (.BoolOp .And (b::rest) pos) tb):PEw X (.BoolOp .And (a::b::rest) pos) (tAndV ta tb):=⟨pe_and ha.p hb.p⟩
theorem we_not (ha:PEw X a ta):PEw X (.UnaryOp .Not a pos) (tNotV ta):=⟨pe_not ha.p⟩
theorem we_ifExp (hc:PTw X c tA) (ha:PEw X a ta) (hb:PEw X b tb):PEw X (.IfExp c a b pos) (tIf tA ta tb):=⟨pe_ifExp hc.p ha.p hb.p⟩
theorem wa_nil:PAw X [] tNil:=⟨pa_nil⟩
theorem wa_k (ha:PEw X e te) (hr:PAw X es t) (hs:starEach (e::es) X.env=(false,eval e X.env)::starEach es X.env:=by first | exact se_Name | exact se_Constant | exact se_BoolOp | exact se_BinOp | exact se_UnaryOp | exact se_IfExp | exact se_Dict | exact se_ListComp | exact se_Compare | exact se_Call | exact se_Attribute | exact se_Subscript | exact se_List | exact se_Tuple | exact se_JoinedStr | exact se_GeneratorExp):PAw X (e::es) (tCons te t):=⟨pa_cons ha.p hr.p hs⟩
theorem we_tup {x1} (h:PAw X es t):PEw X (.Tuple es x1 pos) (tTu t):=⟨by unfold tTu rNewT; exact pe_tup h.p⟩
theorem we_lst (h:PAw X es t):PEw X (.List es pos) (tLs t):=⟨by unfold tLs rNewL; exact pe_lst h.p⟩
theorem we_ix (hr:IxR X r) (ha:PEw X a ta) (hb:PEw X b tb) (hs:PlainIx b):PEw X (.Subscript a b pos) (tOp r ta tb):=⟨pe_ix hr ha.p hb.p hs⟩
theorem wo_none:POw X none tNoPart:=⟨po_none⟩
theorem wo_some (h:PEw X e te):POw X (some e) (tPart te):=⟨po_some h.p⟩
theorem we_slice {lo hi:Option Expr} {tl th:TO} {r:V→Option Int→Option Int→Hp→VK→Prop} (hr:SlR X r) (he:PEw X e te) (hl:POw X lo tl) (hu:POw X hi th):PEw X (.Subscript e (.Slice lo hi none p2) pos) (tSl r te tl th):=⟨pe_slice hr he.p hl.p hu.p⟩
theorem we_fn (F:FnC CX0 X.prog X.w X.K X.mg X.base k x ps sp) (hr:Room k X.A) (ha:PAw X (e::es) t) (hg:Gl X x:=by rfl)
    (hdb:(x == ("__debug__" : Str))=false:=by decide) (he:starEach (e::es) X.env=(false,eval e X.env)::starEach es X.env:=by first | exact se_Name | exact se_Constant | exact se_BoolOp | exact se_BinOp | exact se_UnaryOp | exact se_IfExp | exact se_Dict | exact se_ListComp | exact se_Compare | exact se_Call | exact se_Attribute | exact se_Subscript | exact se_List | exact se_Tuple | exact se_JoinedStr | exact se_GeneratorExp)
    (hpl:(backTo pos (starEach es X.env)).any (·.1)=false:=by repeat (first | exact ap_nil | refine ap_cons (by first | exact se_Name | exact se_Constant | exact se_BoolOp | exact se_BinOp | exact se_UnaryOp | exact se_IfExp | exact se_Dict | exact se_ListComp | exact se_Compare | exact se_Call | exact se_Attribute | exact se_Subscript | exact se_List | exact se_Tuple | exact se_JoinedStr | exact se_GeneratorExp) ?_)) :
    PEw X (.Call (.Name x p) (e::es) [] pos) (tCall sp [] E0 t):=⟨pe_fn F hr ha.p hg hdb he hpl⟩
theorem we_cB (hc:CallR X (.builtin id) rl) (hg:Gl X x) (hm:X.mg x=none) (hv:bootBuiltins x=some (.builtin id)) (ha:PAw X (e::es) t) (hn:x ≠ "__name__" := by decide) (hdb:(x == ("__debug__" : Str))=false:=by decide)
    (he:starEach (e::es) X.env=(false,eval e X.env)::starEach es X.env:=by first | exact se_Name | exact se_Constant | exact se_BoolOp | exact se_BinOp | exact se_UnaryOp | exact se_IfExp | exact se_Dict | exact se_ListComp | exact se_Compare | exact se_Call | exact se_Attribute | exact se_Subscript | exact se_List | exact se_Tuple | exact se_JoinedStr | exact se_GeneratorExp) (hpl:(backTo pos (starEach es X.env)).any (·.1)=false:=by repeat (first | exact ap_nil | refine ap_cons (by first | exact se_Name | exact se_Constant | exact se_BoolOp | exact se_BinOp | exact se_UnaryOp | exact se_IfExp | exact se_Dict | exact se_ListComp | exact se_Compare | exact se_Call | exact se_Attribute | exact se_Subscript | exact se_List | exact se_Tuple | exact se_JoinedStr | exact se_GeneratorExp) ?_)):PEw X (.Call (.Name x p) (e::es) [] pos) (tCB rl t) :=
  ⟨pe_callB hc hg hm hv ha.p hn hdb he hpl⟩
theorem we_cT (hc:CallR X (.type T) rl) (hg:Gl X x) (hm:X.mg x=none) (hv:bootBuiltins x=some (.type T)) (ha:PAw X (e::es) t) (hn:x ≠ "__name__" := by decide) (hdb:(x == ("__debug__" : Str))=false:=by decide)
    (he:starEach (e::es) X.env=(false,eval e X.env)::starEach es X.env:=by first | exact se_Name | exact se_Constant | exact se_BoolOp | exact se_BinOp | exact se_UnaryOp | exact se_IfExp | exact se_Dict | exact se_ListComp | exact se_Compare | exact se_Call | exact se_Attribute | exact se_Subscript | exact se_List | exact se_Tuple | exact se_JoinedStr | exact se_GeneratorExp) (hpl:(backTo pos (starEach es X.env)).any (·.1)=false:=by repeat (first | exact ap_nil | refine ap_cons (by first | exact se_Name | exact se_Constant | exact se_BoolOp | exact se_BinOp | exact se_UnaryOp | exact se_IfExp | exact se_Dict | exact se_ListComp | exact se_Compare | exact se_Call | exact se_Attribute | exact se_Subscript | exact se_List | exact se_Tuple | exact se_JoinedStr | exact se_GeneratorExp) ?_)):PEw X (.Call (.Name x p) (e::es) [] pos) (tCB rl t) :=
  ⟨pe_callTy hc hg hm hv ha.p hn hdb he hpl⟩
theorem we_bm {name:Str} {apos cpos:Pos} {r:V→List V→Hp→VK→Prop} (pa:PlainAttrs T) (slot:Slot T name id) (hty:typeOf (.builtin id)=pure (.type "method_descriptor")) (hm:MtR X id r) (ho:PEw X o to) (ha:PAw X (e::es) t)
    (hbase:attributeBase o name X.env (eval o X.env)=eval o X.env:=by rfl)
    (hfew:((backTo cpos (starEach (e::es) X.env)).all (fun x=>!x.1)&&(backToKw cpos (keywordEach [] X.env)).all (fun x=>x.1.isSome)
      && decide ((e::es).length+([]:List Keyword).length+(if ([]:List Keyword).isEmpty then 0 else 1)<30))=true:=by rfl)
    (hline:(apos.endLine == cpos.line)=true:=by rfl) (hs:starEach (e::es) X.env=(false,eval e X.env)::starEach es X.env:=by first | exact se_Name | exact se_Constant | exact se_BoolOp | exact se_BinOp | exact se_UnaryOp | exact se_IfExp | exact se_Dict | exact se_ListComp | exact se_Compare | exact se_Call | exact se_Attribute | exact se_Subscript | exact se_List | exact se_Tuple | exact se_JoinedStr | exact se_GeneratorExp) (hplain:(backTo cpos (starEach es X.env)).any (·.1)=false:=by repeat (first | exact ap_nil | refine ap_cons (by first | exact se_Name | exact se_Constant | exact se_BoolOp | exact se_BinOp | exact se_UnaryOp | exact se_IfExp | exact se_Dict | exact se_ListComp | exact se_Compare | exact se_Call | exact se_Attribute | exact se_Subscript | exact se_List | exact se_Tuple | exact se_JoinedStr | exact se_GeneratorExp) ?_)) :
    PEw X (.Call (.Attribute o name apos) (e::es) [] cpos) (tBM X.K T r to t):=⟨pe_bm pa slot hty hm ho.p ha.p hbase hfew hline hs hplain⟩
theorem wss_nil:PSsw X [] tNext:=⟨pss_nil⟩
theorem wss_cons (h1:PSw X st ts) (h2:PSsw X sts us):PSsw X (st::sts) (tSeq ts us):=⟨pss_cons h1.p h2.p⟩
theorem wss_one (h1:PSw X st ts):PSsw X [st] ts:=⟨pss_one h1.p⟩
theorem ws_expr (he:PEw X e te) (hs:swapsWith e none pos.line X.env=pure false:=by rfl):PSw X (.Expr e pos) (tDrop te):=⟨ps_expr he.p hs⟩
theorem ws_ret (he:PEw X e te):PSw X (.Return (some e) pos) (tRet te):=⟨ps_ret he.p⟩
theorem ws_if {c:Expr} {a b:List Stmt} (hc:PTw X c tA) (ha:PSsw X a ts) (hb:PSsw X b us):PSw X (.If c a b pos) (tIfS tA ts us):=⟨ps_if hc.p ha.p hb.p⟩
theorem ws_cut (h:PSw X st ts):PSw X st (tCut ts):=⟨ps_cut h.p⟩
theorem wg_name {i:Nat} {x:Str} (hN:X.N.Nodup) (hi:X.N[i]?=some x) (hx:Loc X.env.scope x) (hf:X.fn x=true∨X.env.scope.names.lookup x=some .local:=by first | exact .inl rfl | exact .inr rfl | assumption):PGw X (.Name x pos) (gName i):=⟨pg_name hN hi hx hf⟩
theorem wgs_nil:PGsw X [] gNil:=⟨pgs_nil⟩
theorem wgs_cons {t:TG} {u:TGs} (h1:PGw X e t) (h2:PGsw X es u)
    (hs:(assignEach (e::es) X.env).map (·.2)=assign e X.env::(assignEach es X.env).map (·.2):=by rfl):PGsw X (e::es) (gCons t u):=⟨pgs_cons h1.p h2.p hs⟩
theorem wg_tup {k:Nat} {t:TGs} {n:Nat} (hc:X.calm=true) (h:PGsw X es t)
    (hn:(assignEach es X.env).length=n:=by rfl) (hst:(assignEach es X.env).findIdx? (·.1)=none:=by rfl):PGw X (.Tuple es k pos) (gTup X.K n t):=⟨pg_tup hc h.p hn hst⟩
theorem wg_sub {i:Expr} {ti:TE} {t:TSet} (ho:PEw X o to) (hi:PEw X i ti) (hs:PSet X t)
    (ha:∀ v,assign (.Subscript o i pos) X.env v=(do
      let ov ← holding [v] (eval o X.env)
      let iv ← holding [v,ov] (eval i X.env)
      standAt pos
      holding [v,ov,iv] (setItem ov iv v)
      release [v,ov,iv] []):=by intro _; rfl):PGw X (.Subscript o i pos) (gSub to ti t):=⟨pg_sub ho.p hi.p hs ha⟩
theorem ws_asg {g:TG} (he:PEw X e te) (hg:PGw X tg g) (hs:swapsWithSole [tg] e pos.line X.env=pure false:=by rfl) (hw:swappedStores [tg] e X.env=pure none:=by rfl) (h1:(assignEach [tg] X.env).map (·.2)=[assign tg X.env]:=by rfl):PSw X (.Assign [tg] e pos) (tAsg te g):=⟨ps_asg he.p hg.p hs hw h1⟩
theorem ws_set {i:Nat} {pos':Pos} (hN:X.N.Nodup) (hi:X.N[i]?=some x) (hx:Loc X.env.scope x) (he:PEw X e te) (hs:swapsWith e (some (.Name x pos')) pos.line X.env=pure false:=by rfl) (hf:X.fn x=true∨X.env.scope.names.lookup x=some .local:=by first | exact .inl rfl | exact .inr rfl | assumption) :
    PSw X (.Assign [.Name x pos'] e pos) (tAsg te (gName i)):=⟨ps_set hN hi hx he.p hs hf⟩
theorem ws_par {i j:Nat} {x y:Str} {ta:TA} {px py pt:Pos} {kt k2 pt2} (hc:X.calm=true) (hN:X.N.Nodup) (hi:X.N[i]?=some x) (hj:X.N[j]?=some y) (hij:i≠j)
    (hx:X.env.scope.names.lookup x=some .local) (hy:X.env.scope.names.lookup y=some .local) (ha:PAw X [a,b] ta)
    (hw:swappedStores [.Tuple [.Name x px,.Name y py] kt pt] (.Tuple [a,b] k2 pt2) X.env=pure (some [x,y]))
    (hs:swapsWithSole [.Tuple [.Name x px,.Name y py] kt pt] (.Tuple [a,b] k2 pt2) pos.line X.env=pure false:=by rfl) :
    PSw X (.Assign [.Tuple [.Name x px,.Name y py] kt pt] (.Tuple [a,b] k2 pt2) pos) (tPar i j ta):=⟨ps_par hc hN hi hj hij hx hy ha.p hw hs⟩
theorem ws_while {c:Expr} {tc:TT} {tb:TS} (hp:PassesOwn (model X.prog X.w) X.A X.env X.xe) (hc:PTw X c tc) (hb:PSsw X body tb):PSw X (.While c body [] pos) (tWhile (tMono tc) tb):=⟨ps_whileM hp hc.p hb.p⟩
theorem wi_list {l:Expr} {tl:TE} (hl:PEw X l tl):PIw X tg l (iList X.K tl):=⟨pi_list hl.p⟩
theorem wi_tup {l:Expr} {tl:TE} (hl:PEw X l tl):PIw X tg l (iTup X.K tl):=⟨pi_tup hl.p⟩
theorem wi_range1 {a:Expr} {ta:TA} {p pos:Pos} (hg:Gl X "range") (hm:X.mg "range" = none) (ha:PAw X [a] ta) (hs:starEach [a] X.env=[(false,eval a X.env)]:=by first | exact se_Name | exact se_Constant | exact se_BoolOp | exact se_BinOp | exact se_UnaryOp | exact se_IfExp | exact se_Dict | exact se_ListComp | exact se_Compare | exact se_Call | exact se_Attribute | exact se_Subscript | exact se_List | exact se_Tuple | exact se_JoinedStr | exact se_GeneratorExp):PIw X tg (.Call (.Name "range" p) [a] [] pos) (iRng1 ta):=⟨pi_range1 hg hm ha.p hs⟩
theorem wi_range2 {a b:Expr} {ta:TA} {p pos:Pos} (hg:Gl X "range") (hm:X.mg "range" = none) (ha:PAw X [a,b] ta) (hs:starEach [a,b] X.env=[(false,eval a X.env),(false,eval b X.env)]:=by rfl) (hs2:starEach [b] X.env=[(false,eval b X.env)]:=by first | exact se_Name | exact se_Constant | exact se_BoolOp | exact se_BinOp | exact se_UnaryOp | exact se_IfExp | exact se_Dict | exact se_ListComp | exact se_Compare | exact se_Call | exact se_Attribute | exact se_Subscript | exact se_List | exact se_Tuple | exact se_JoinedStr | exact se_GeneratorExp) :
    PIw X tg (.Call (.Name "range" p) [a,b] [] pos) (iRng2 ta):=⟨pi_range2 hg hm ha.p hs hs2⟩
theorem ws_for {iter:Expr} {wi:TI} {g:TG} {tb:TS} {pos:Pos} (hp:PassesOwn (model X.prog X.w) X.A X.env X.xe) (hc:X.calm=true) (hi:PIw X tg iter wi) (hg:PGw X tg g) (hb:PSsw X body tb)
    (hs:∀ x,foldedSetIterable iter X.env x=pure x:=by intro _; rfl):PSw X (.For tg iter body [] pos) (tFor wi g tb):=⟨ps_for hp hc hi.p hg.p hb.p hs⟩
end
theorem Fun.okw {P:Program} {w:World} {K:PySem.W.Frag} {mg:Str→Option Value} {base:Heap} {x qual:Str} {st:Stmt} {f:Addr} {fd:FuncData} {N ps:List Str} {k:Nat} {sp:Sp} (F:Fun K x qual st f fd) (S:FnScope N ps (defScope st)) (len:∀ vs H Q E,sp vs H Q E→vs.length=ps.length)
    (hbody:∀ (cdv:Value) (A:Around) (outer:List Env) (s:Shared) (H:Hp) (vs:List V) (Q:VK) (E:XK),Room k (A.deeper (envOfC qual (defScope st) s.heap.objs.size f cdv))→sp vs H Q E →
      ∃ t,PSsw (cxOf CX0 P w K mg base N qual (defScope st) f cdv A outer s H E).nox (defBody st) t∧t { nx:=fun _ H'=>Q .non H',rt:=Q } (start N vs) H):FnOk P w K mg base CX0 (k+1) f fd ps sp :=
  F.ok S len fun cdv A outer s H vs Q E hr h=>by
    obtain ⟨t,h1,h2⟩:=hbody cdv A outer s H vs Q E hr h
    exact ⟨t,h1.p,h2⟩
end L2
set_option Elab.async false
set_option linter.all false
set_option maxRecDepth 100000
namespace L2
open PySem PySem.Spec PyProof.Rows
theorem gcd_step (a b:Int):Int.gcd b (a % b)=Int.gcd a b:=by
  have h:=Int.gcd_add_mul_right_right b (a % b) (a / b)
  rw [show a % b+a / b*b=a from by have:=Int.emod_add_mul_ediv a b; rw [Int.mul_comm]; exact this] at h
  rw [← h,Int.gcd_comm]
theorem gcd_end {a:Int} (h:0<a):(Int.gcd a 0:Int)=a:=by rw [Int.gcd_zero_right]; omega
def dTup:PyData→Bool | .tuple _=>true | _=>false
def dStr:PyData→Bool | .str _=>true | _=>false
theorem isD_tup (d:PyData):isD "tuple" d=dTup d:=by cases d <;> simp [isD,tyD,dTup]
theorem isD_str (d:PyData):isD "str" d=dStr d:=by cases d <;> simp [isD,tyD,dStr]
section
variable {H:Hp} {x:V} {d:PyData} {Q:VK}
theorem riTup (r:Rep H d x) (q:Q (.bl (dTup d)) H):rIsi [x,.ty "tuple"] H Q:=riI r (by rw [isD_tup]; exact q)
theorem riStr (r:Rep H d x) (q:Q (.bl (dStr d)) H):rIsi [x,.ty "str"] H Q:=riI r (by rw [isD_str]; exact q)
end
theorem RepL.len {H:Hp}:∀ {ds:List PyData} {vs:List V},RepL H ds vs→vs.length=ds.length
  | [],_,h=>by cases (show _=[] from h); rfl
  | d::ds,_,h=>by
    unfold RepL at h
    obtain ⟨x,xs,rfl,_,h2⟩:=h
    simp [RepL.len h2]
section
variable {p:Addr} {σ:St} {t:TE} {ta:TA} {d:PyData} {ds:List PyData}
end
theorem atI_mem {α:Type} {xs:List α} {x:Int} (h0:0≤x) (h1:x<xs.length):∃ v,atI xs x=some v∧v∈xs∧xs[x.toNat]?=some v:=by
  have h:x.toNat<xs.length:=by omega
  have e:=List.getElem?_eq_getElem h
  have:=atI_nat e
  rw [Int.toNat_of_nonneg h0] at this
  exact ⟨_,this,List.getElem_mem h,e⟩
theorem RepL.append {H:Hp} {es:List PyData} {ws:List V} (h':RepL H es ws):∀ {ds:List PyData} {vs:List V},RepL H ds vs→RepL H (ds++es) (vs++ws)
  | [],_,h=>by cases (show _=[] from h); exact h'
  | d::ds,_,h=>by
    unfold RepL at h
    obtain ⟨x,xs,rfl,h1,h2⟩:=h
    exact RepL.cons h1 (RepL.append h' h2)
end L2
namespace L2
end L2
namespace L2
open PySem PySem.Spec PyProof.Rows
theorem Same.thru {l:Addr} {H0 H1 H2:Hp} (hl:H0 l=none) (s:Same H0 H1) (b:SameBut l H1 H2):Same H0 H2:=fun c o e=>by
  have n:c≠l:=ne_of_none e hl
  exact b.at n (s _ _ e)
theorem catL {H:Hp} {l b:Addr} {xs zs:List V} {Q:VK} (h1:H l=some (.lst xs)) (h2:H b=some (.lst zs)) (hz:xs.length+zs.length≤1000) (k:∀ q H',H q=none→H' q=some (.lst (xs++zs))→Same H H'→Q (.ref q) H'):rCat (.ref l) (.ref b) H Q :=
  ⟨l,b,xs,zs,rfl,rfl,h1,h2,Nat.le_of_lt (small1000 hz),fun q hq=>k q _ hq upd_same (Same.upd hq)⟩
@[irreducible] def rApp:V→List V→Hp→VK→Prop:=rAppend
theorem mt_app {X:Cx}:MtR X "list.append" rApp:=by unfold rApp; exact mt_append
theorem appL {H:Hp} {l:Addr} {xs:List V} {y:V} {Q:VK} (h:H l=some (.lst xs)) (hz:xs.length≤1000) (k:∀ H',H' l=some (.lst (xs++[y]))→SameBut l H H'→Q .non H'):rApp (.ref l) [y] H Q:=by
  unfold rApp; exact ⟨l,xs,y,rfl,rfl,h,small1000 hz,k _ upd_same SameBut.self⟩
theorem tyL {K:PySem.W.Frag} {H:Hp} {l:Addr} {xs:List V} (h:H l=some (.lst xs)):tyV K "list" (.ref l) H:=.inl ⟨rfl,xs,SqL.of h⟩
end L2
set_option Elab.async false
set_option linter.all false
set_option maxRecDepth 100000
namespace L2
open PySem PySem.Spec PyProof.Rows
def closL (env:Env):List (Str × NameKind)→List (Str × Addr)→List (Str × Addr)
  | [],cs=>cs
  | (n,k)::r,cs=>if k == .free then closL env r ((n,(env.cells.lookup n).getD 0)::cs) else closL env r cs
theorem clos_eq (env:Env):∀ (l:List (Str × NameKind)) (cs:List (Str × Addr)),(∀ y∈l,y.2=.free→∃ c,env.cells.lookup y.1=some c) →
    (forIn l cs fun (x:Str × NameKind) r=>if x.2 == .free then (do let c ← cellOf env x.1; pure (ForInStep.yield ((x.1,c)::r)):Sem _) else pure (ForInStep.yield r))=pure (closL env l cs)
  | [],cs,_=>rfl
  | (n,k)::r,cs,h=>by
    rw [List.forIn_cons]
    have ih:=fun cs=>clos_eq env r cs fun y hy=>h y (List.mem_cons_of_mem _ hy)
    by_cases hk:(k == NameKind.free)=true
    · obtain ⟨c,hc⟩:=h (n,k) List.mem_cons_self (by simpa using hk)
      dsimp only at hc
      simp only [hk,if_true,closL,hc,Option.getD_some,cellOf,pure_bind]
      exact ih _
    · simp only [hk,closL,pure_bind]
      exact ih _
theorem closureFor_eq {env:Env} {scope:Scope} (h:∀ y∈scope.names,y.2=.free→∃ c,env.cells.lookup y.1=some c):closureFor scope env=pure (closL env scope.names []):=by
  have e:=clos_eq env scope.names [] h
  unfold closureFor
  simp only [bind_pure]
  exact e
theorem closL_mem {env:Env}:∀ (l:List (Str × NameKind)) (cs:List (Str × Addr)),(∀ y∈l,y.2=.free→∃ c,env.cells.lookup y.1=some c)→∀ p∈closL env l cs,p∈cs∨env.cells.lookup p.1=some p.2
  | [],cs,_,p,hp=>.inl hp
  | (n,k)::r,cs,h,p,hp=>by
    have h':∀ y∈r,y.2=.free→∃ c,env.cells.lookup y.1=some c:=fun y hy=>h y (List.mem_cons_of_mem _ hy)
    unfold closL at hp
    by_cases hk:(k == NameKind.free)=true
    · rw [if_pos hk] at hp
      obtain ⟨c,hc⟩:=h (n,k) List.mem_cons_self (by simpa using hk)
      rcases closL_mem r _ h' p hp with hm | hm
      · rcases List.mem_cons.mp hm with rfl | hm
        · exact .inr (by dsimp only at hc ⊢; rw [hc]; rfl)
        · exact .inl hm
      · exact .inr hm
    · rw [if_neg hk] at hp
      exact closL_mem r cs h' p hp
theorem closL_acc {env:Env}:∀ (l:List (Str × NameKind)) (cs:List (Str × Addr)),∀ p∈cs,p∈closL env l cs
  | [],_,_,hp=>hp
  | (n,k)::r,cs,p,hp=>by
    unfold closL
    by_cases hk:(k == NameKind.free)=true
    · rw [if_pos hk]; exact closL_acc r _ p (List.mem_cons_of_mem _ hp)
    · rw [if_neg hk]; exact closL_acc r _ p hp
theorem closL_has {env:Env}:∀ (l:List (Str × NameKind)) (cs:List (Str × Addr)) (y:Str),(y,NameKind.free)∈l→∃ a,(y,a)∈closL env l cs
  | (n,k)::r,cs,y,hy=>by
    unfold closL
    rcases List.mem_cons.mp hy with e | hm
    · cases e
      rw [if_pos (by rfl)]
      exact ⟨_,closL_acc r _ _ List.mem_cons_self⟩
    · by_cases hk:(k == NameKind.free)=true
      · rw [if_pos hk]; exact closL_has r _ y hm
      · rw [if_neg hk]; exact closL_has r _ y hm
theorem lookup_mem {α β:Type} [BEq α] [LawfulBEq α] {x:α} {c:β}:∀ {l:List (α × β)},l.lookup x=some c→(x,c)∈l
  | [],h=>by cases h
  | (a,b)::r,h=>by
    rw [List.lookup_cons] at h
    by_cases e:(x == a)=true
    · rw [e] at h
      have:x=a:=by simpa using e
      subst this
      cases h
      exact List.mem_cons_self
    · have e':(x == a)=false:=by simpa using e
      rw [e'] at h
      exact List.mem_cons_of_mem _ (lookup_mem h)
theorem mem_lookup {α β:Type} [BEq α] [LawfulBEq α] {x:α} {c:β}:∀ {l:List (α × β)},(x,c)∈l→∃ c',l.lookup x=some c'
  | (a,b)::r,h=>by
    rw [List.lookup_cons]
    by_cases e:(x == a)=true
    · rw [e]; exact ⟨_,rfl⟩
    · have e':(x == a)=false:=by simpa using e
      rw [e']
      rcases List.mem_cons.mp h with q | q
      · cases q; simp at e
      · exact mem_lookup q
def clOf (X:Cx) (scope:Scope):List (Str × Addr):=closL X.env scope.names []
theorem clOf_env {X:Cx} {scope:Scope} (h:∀ y∈scope.names,y.2=.free→∃ c,X.env.cells.lookup y.1=some c) {x:Str} {c:Addr} (e:(clOf X scope).lookup x=some c):X.env.cells.lookup x=some c:=by
  rcases closL_mem scope.names [] h _ (lookup_mem e) with hm | hm
  · cases hm
  · exact hm
theorem clOf_has {X:Cx} {scope:Scope} (h:∀ y∈scope.names,y.2=.free→∃ c,X.env.cells.lookup y.1=some c) {x:Str} (hx:(x,NameKind.free)∈scope.names) {c:Addr} (e:X.env.cells.lookup x=some c):(clOf X scope).lookup x=some c:=by
  obtain ⟨a,ha⟩:=closL_has (env:=X.env) scope.names [] x hx
  obtain ⟨c',hc'⟩:=mem_lookup ha
  have:=clOf_env h hc'
  rw [e] at this
  cases this
  exact hc'
def cxC (X:Cx) (scope:Scope) (C:Addr) (fp:List Addr) (s₀:Shared) (H₀:Hp) (N':List Str):Cx where
  prog:=X.prog
  w:=X.w
  K:=X.K
  mg:=X.mg
  base:=X.base
  A:=X.A
  N:=N'
  s₀:=s₀
  H₀:=H₀
  env:=compEnvC scope (clOf X scope) C X.env
  outer:=X.stack
  stack:=X.stack
  ex:=fp
  fn:=fun _=>false
  calm:=true
  pn:=[]
  xe:=fun _ _=>False
def slots (σ:St) (js:List Nat):St:=js.map fun j=>(σ[j]?).getD none
def PTs (X:Cx) (ifs:List Expr) (t:TT):Prop :=
  ∀ (pins:List (Addr × Obj)) (s:Shared) (σ:St) (H:Hp) (Q:Bool→Hp→Prop),Inv X pins σ H s→t σ H Q →
    wpAny (model X.prog X.w) X.A (forIn ifs true fun c r=>if r=true then do let ok ← isTrue c X.env (eval c X.env); pure (ForInStep.yield ok) else pure (ForInStep.yield r)) (TP X pins σ Q) X.xe s
def tYes:TT:=fun _ H Q=>Q true H
theorem pts_nil {X:Cx}:PTs X [] tYes:=fun pins s σ H Q I h=>wpAny_tests_nil ⟨H,I,h⟩
theorem pts_one {X:Cx} {c:Expr} {t:TT} (h:PT X c t):PTs X [c] t:=fun pins s σ H Q I q=>wpAny_tests_one (h pins s σ H Q I q)
def tComp (wi:TI) (js:List Nat) (tc:TT) (te:TE):TE:=fun σ H Q=>wi σ H fun J H1=>∀ D,H1 D=none→∃ W:Nat→Nat→List V→Hp→Prop,(∃ m,W 0 m [] (upd H1 D (.lst []))) ∧
  ∀ i m ys H2,W i m ys H2→H2 D=some (.lst ys)∧((J.stop i H2∧Q (.ref D) H2)∨(J.go i H2∧ys.length<sizeLine∧∀ x H3,J.yld i H2 x H3 →
    tc (some x::slots σ js) H3 fun b H4=>if b=true then te (some x::slots σ js) H4 fun y H5=>H5 D=some (.lst ys)∧∃ m',m' < m∧W (i+1) m' (ys++[y]) (upd H5 D (.lst (ys++[y])))
      else H4 D=some (.lst ys)∧∃ m',m' < m∧W (i+1) m' ys H4))
structure CScope (X:Cx) (scope:Scope) (x:Str) (N':List Str) (js:List Nat):Prop where
  calm:X.calm=true
  free:∀ y∈scope.names,y.2=.free→X.env.kindOf y.1=some .cell
  cell:∀ y∈scope.names,y.2 ≠ .cell
  kind:scope.kind=.function
  names:∀ y∈scope.names,y.2=.local→scope.names.lookup y.1=some .local
  own:scope.names.lookup x=some .local
  nofl:∀ y,(y,NameKind.free)∈scope.names→scope.names.lookup y=some .local→False
  len:N'.length=js.length+1
  zero:N'[0]?=some x
  nd:N'.Nodup
  slot:∀ (i:Nat) (j:Nat),js[i]?=some j→∃ y,N'[i+1]?=some y∧X.N[j]?=some y∧(y,NameKind.free)∈scope.names
end L2
set_option Elab.async false
set_option linter.all false
set_option maxRecDepth 100000
namespace L2
open PySem PySem.Spec PyProof.Rows
section
variable {X:Cx} {pins:List (Addr × Obj)} {σ:St} {H:Hp} {s:Shared} {scope:Scope} {x:Str} {N':List Str} {js:List Nat} {fp:List Addr}
theorem CScope.cells (S:CScope X scope x N' js) (ok:X.Ok):∀ y∈scope.names,y.2=.free→∃ c,X.env.cells.lookup y.1=some c:=fun y hy hf=>ok.has _ (.inl (S.free y hy hf))
theorem relabel_cases {env:Env}:∀ {names:List (Str × NameKind)} {y:Str} {k:NameKind},(names.map fun (n,k)=>if (k == NameKind.free&&env.scope.kind == .function&&env.kindOf n == some .cell) then (n,NameKind.cell) else (n,k)).lookup y=some k →
    (k=.cell∨k=.free)→(∀ z∈names,z.2 ≠ .cell)→(y,NameKind.free)∈names
  | [],_,_,h,_,_=>by cases h
  | (n,q)::r,y,k,h,hk,hc=>by
    rw [List.map_cons,List.lookup_cons] at h
    have ih:=fun h=>@relabel_cases env r y k h hk fun z hz=>hc z (List.mem_cons_of_mem _ hz)
    by_cases hq:(q == NameKind.free&&env.scope.kind == .function&&env.kindOf n == some .cell)=true
    · dsimp only at h
      rw [if_pos hq] at h
      have qf:q=.free:=by
        rw [Bool.and_eq_true,Bool.and_eq_true] at hq
        simpa using hq.1.1
      subst qf
      by_cases e:(y == n)=true
      · have:y=n:=by simpa using e
        subst this
        exact List.mem_cons_self
      · have e':(y == n)=false:=by simpa using e
        dsimp only at h
        rw [e'] at h
        exact List.mem_cons_of_mem _ (ih h)
    · dsimp only at h
      rw [if_neg hq] at h
      by_cases e:(y == n)=true
      · have:y=n:=by simpa using e
        subst this
        dsimp only at h
        rw [e] at h
        have hkq:k=q:=by injection h with h; exact h.symm
        subst hkq
        rcases hk with rfl | rfl
        · exact absurd rfl (hc _ List.mem_cons_self)
        · exact List.mem_cons_self
      · have e':(y == n)=false:=by simpa using e
        dsimp only at h
        rw [e'] at h
        exact List.mem_cons_of_mem _ (ih h)
theorem cxC_ok (S:CScope X scope x N' js) (I:Inv X pins σ H s) (hf:∀ b∈fp,FpOk X pins H b) (hb:∀ b∈fp,b<s.heap.objs.size):(cxC X scope s.heap.objs.size fp s H N').Ok where
  mod:=I.ok.mod
  kind:=S.kind
  glob:=I.ok.glob
  blt:=I.ok.blt
  above:=Nat.le_refl _
  inj:=fun y z c h1 h2=>I.ok.inj y z c (clOf_env (S.cells I.ok) h1) (clOf_env (S.cells I.ok) h2)
  has:=fun y hy=>by
    have hm:(y,NameKind.free)∈scope.names:=by
      rcases hy with hy | hy
      · exact relabel_cases (env:=X.env) hy (.inl rfl) S.cell
      · exact relabel_cases (env:=X.env) hy (.inr rfl) S.cell
    obtain ⟨c,hc⟩:=S.cells I.ok _ hm rfl
    exact ⟨c,clOf_has (S.cells I.ok) hm hc⟩
  cab:=fun _ _ h=>by cases h
  hd:=fun _=>I.ok.hd S.calm
  frames:=I.ok.frames
  stk:=.inl rfl
  exf:=fun b hb'=>⟨fun e=>by have:=hb b hb'; rw [e] at this; exact Nat.lt_irrefl _ this,fun y c h=>(hf b hb').2.2.2.2.1 y c (clOf_env (S.cells I.ok) h)⟩
  bs:=I.bs
  bsz:=Nat.le_trans I.ok.bsz I.sz
  noex:=fun b o e hb'=>by
    rcases (hf b hb').2.2.2.1 with h | h
    · exact I.ok.noex b o e h
    · exact absurd (Nat.lt_of_lt_of_le (Heap.lt_size e) (Nat.le_trans I.ok.bsz h)) (Nat.lt_irrefl _)
  exfs:=fun b hb' hs=>by
    have h2:=I.stkSub b hs
    rcases List.mem_cons.mp h2 with h2 | h2
    · exact (hf b hb').2.1 h2
    · exact (hf b hb').2.2.1 h2
  funs:=I.stack
  frf:=I.stkFree
theorem slots_get {i j:Nat} (h:js[i]?=some j):(slots σ js)[i]?=some ((σ[j]?).getD none):=by
  unfold slots; rw [List.getElem?_map,h]; rfl
theorem cxC_inv {h':Heap} {tk:Nat} (S:CScope X scope x N' js) (I:Inv X pins σ H s) (hf:∀ b∈fp,FpOk X pins H b) (hb:∀ b∈fp,b<s.heap.objs.size)
    (hn:h'.Ns s.heap.objs.size (fun _=>none)) (hk:∀ b o,s.heap.get? b=some o→h'.get? b=some o):Inv (cxC X scope s.heap.objs.size fp s H N') [] (none::slots σ js) H { s with heap:=h',toks:=tk } where
  ok:=cxC_ok S I hf hb
  os:=rfl
  bare:=I.bare
  base:=Un.kept hk
  loc:=by
    refine ⟨_,hn,fun i y v hi hv hvis=>?_⟩
    cases i with
    | zero=>cases hv
    | succ i =>
      have hv':(slots σ js)[i]?=some (some v):=hv
      have hlt:i<js.length:=by
        have:=(List.getElem?_eq_some_iff.mp hv').1
        unfold slots at this
        rwa [List.length_map] at this
      have hj:js[i]?=some js[i]:=List.getElem?_eq_getElem hlt
      obtain ⟨z,h1,h2,h3⟩:=S.slot i _ hj
      have hzy:z=y:=by
        have:N'[i+1]?=some y:=hi
        rw [h1] at this; cases this; rfl
      subst hzy
      rw [slots_get hj] at hv'
      have hσ:σ[js[i]]?=some (some v):=by
        cases q:σ[js[i]]? with
        | none=>rw [q] at hv'; cases hv'
        | some o=>rw [q] at hv'; cases hv'; rfl
      have hkc:X.env.kindOf z=some .cell:=S.free _ h3 rfl
      obtain ⟨m,hm,hl⟩:=I.loc
      obtain ⟨u,ru,lk⟩:=hl _ z v h2 hσ (.inr (.inl hkc))
      rcases lk with ⟨hk1,_⟩ | ⟨_,c,hc,hcell⟩
      · rw [hkc] at hk1; cases hk1
      · refine ⟨u,ru,.inr ⟨?_,c,clOf_has (S.cells I.ok) h3 hc,?_⟩⟩
        · rcases hvis with hvis | hvis | hvis
          · exfalso
            have hcl:=clOf_has (S.cells I.ok) h3 hc
            have hm2:=lookup_mem (l:=(relabel scope X.env).names) hvis
            unfold relabel at hm2
            obtain ⟨⟨n,k⟩,hmem,he⟩:=List.mem_map.mp hm2
            dsimp only at he
            by_cases hq:(k == NameKind.free&&X.env.scope.kind == .function&&X.env.kindOf n == some .cell)=true
            · rw [if_pos hq] at he; cases he
            · rw [if_neg hq] at he
              cases he
              have:=S.names _ hmem rfl
              have l2:=mem_lookup h3
              obtain ⟨c',l2⟩:=l2
              dsimp only at this
              rw [this] at l2
              have key:(relabel scope X.env).names.lookup z=some .local:=lookup_relabel_local this
              have hck:scope.names.lookup z=some .local:=this
              exact S.nofl z h3 hck
          · exact .inl hvis
          · exact .inr hvis
        · obtain ⟨o,e,r⟩:=hcell
          exact ⟨o,hk _ _ e,r⟩
  cell:=fun y c h=>by
    obtain ⟨v,o,e,r⟩:=I.cell y c (clOf_env (S.cells I.ok) h)
    exact ⟨v,o,hk _ _ e,r⟩
  free:=I.hok.fresh (Nat.le_refl _)
  freeC:=fun y c h=>I.freeC y c (clOf_env (S.cells I.ok) h)
  pin:=fun p hp=>by cases hp
  hok:=I.hok.kept hk
  len:=by
    show (slots σ js).length+1=N'.length
    unfold slots
    rw [List.length_map,S.len]
theorem HOk.but {P:Program} {w:World} {H:Hp} {h h':Heap} {C:Addr} (x:HOk P w H h) (hC:H C=none) (k:∀ b u,b≠C→h.get? b=some u→h'.get? b=some u):HOk P w H h':=fun a o e =>
  (x a o e).stay (fun b u hb q=>k b u (by
    rcases hb with rfl | hb
    · exact ne_of_none e hC
    · exact ne_of_none hb hC) q) (fun _ q=>q) fun _ _ q=>q
theorem cxC_back {H2:Hp} {σ':St} {s2:Shared} {h'':Heap} (S:CScope X scope x N' js) (I:Inv X pins σ H s) (hf:∀ b∈fp,FpOk X pins H b)
    (J:Inv (cxC X scope s.heap.objs.size fp s H N') [] σ' H2 s2) (hs:Heap.SameBut s.heap.objs.size s2.heap h''):Inv X pins σ H2 { s2 with heap:=h'' }:=by
  have hC:H2 s.heap.objs.size=none:=J.free
  have ne:∀ {b:Addr} {o:Obj},s.heap.get? b=some o→b≠s.heap.objs.size:=fun e q=>by
    have:=Heap.lt_size e; rw [q] at this; exact Nat.lt_irrefl _ this
  refine I.call' (s':={ s2 with heap:=h'' }) (ch:=fp) (by rw [show ({ s2 with heap:=h'' }:Shared).os=s2.os from rfl]; exact J.os) ?_ (J.hok.but hC fun b u hb q=>hs.extBut b u hb q) J.bare fun b hb=>⟨(hf b hb).2.2.2.1,(hf b hb).2.1,(hf b hb).2.2.2.2.1,(hf b hb).2.2.2.2.2⟩
  have U:=J.base
  exact {
    keep:=fun b o e n h1 h2=>hs.extBut b o (ne e) (U.keep b o e n h1 h2)
    slot:=fun b o e n h1 h2=>by
      obtain ⟨sl,q⟩:=U.slot b o e n h1 h2
      exact ⟨sl,hs.extBut b _ (ne e) q⟩
    free:=U.free
    there:=fun b o e h2=>by
      obtain ⟨o',q⟩:=U.there b o e h2
      exact ⟨o',hs.extBut b _ (ne e) q⟩
    tups:=U.tups
    frzs:=U.frzs
    tbls:=U.tbls }
end
end L2
set_option Elab.async false
set_option linter.all false
set_option maxRecDepth 100000
namespace L2
open PySem PySem.Spec PyProof.Rows
abbrev NoX:Value→Shared→Prop:=fun _ _=>False
theorem compLoop_gen {prog:Program} {w:World} {A:Around} {R:Result→Shared→Prop} {s:Shared} {elt target iter:Expr} {ifs:List Expr} {scope:Scope} {pos:Pos} {it acc:Value} {env:Env} (I:Nat→Shared→Prop)
    (turn:∀ n s,I n s→wpAny (model prog w) A (pyNext it) (fun r s₁=>match r with
      | none=>R (.ok .next) s₁
      | some v=>wpAny (model prog w) A (letOwnedTupleGo target it v) (fun _ s₁'=>wpAny (model prog w) A (assign target env v) (fun _ s₂ =>
          wpAny (model prog w) A (forIn ifs true fun c r=>if r=true then do let ok ← isTrue c env (eval c env); pure (ForInStep.yield ok) else pure (ForInStep.yield r)) (fun ok s₃ =>
            if ok=true then wpAny (model prog w) A (eval elt env) (fun x s₄=>wpAny (model prog w) A (call (.builtin "list.append") [acc,x]) (fun _ s₅=>∃ m,m<n∧I m s₅) NoX s₄) NoX s₃
            else ∃ m,m<n∧I m s₃) NoX s₂) NoX s₁') NoX s₁) NoX s)
    (n:Nat) (h:I n s):codeAny (model prog w) A (.compLoop (.ListComp elt [⟨target,iter,ifs,0⟩] scope pos) 0 it acc env) R s:=by
  refine codeAny_loop rfl I (fun n s hI=>?_) n h
  show wpAny _ A ((compTurn (.ListComp elt [⟨target,iter,ifs,0⟩] scope pos) 0 it acc env).onRaise (fun x=>do noteFrame x env; theTreesLotGoes x)) _ _ s
  refine wpAny_noted ?_
  rw [compTurn_list]
  refine wpAny_bind (wpAny_standAt (wpAny_bind (wpAny_mono (turn n s hI) (fun r s₁ h₁=>?_) fun _ _ h'=>h'.elim)))
  cases r with
  | none=>exact wpAny_pure h₁
  | some v =>
    refine wpAny_bind (wpAny_mono h₁ (fun _ s₁' h₁'=>?_) fun _ _ h'=>h'.elim)
    refine wpAny_bind (wpAny_mono h₁' (fun _ s₂ h₂=>wpAny_bind (wpAny_mono h₂ (fun ok s₃ h₃=>?_) fun _ _ h'=>h'.elim)) fun _ _ h'=>h'.elim)
    cases ok with
    | false=>exact wpAny_pure ⟨rfl,h₃⟩
    | true =>
      exact wpAny_bind (wpAny_bind (wpAny_mono h₃ (fun x s₄ h₄=>wpAny_bind (wpAny_mono h₄ (fun _ s₅ h₅=>wpAny_pure (wpAny_pure ⟨rfl,h₅⟩)) fun _ _ h'=>h'.elim)) fun _ _ h'=>h'.elim))
section
variable {X:Cx} {pins:List (Addr × Obj)} {σ:St} {H:Hp} {s:Shared} {scope:Scope} {x:Str} {N':List Str} {js:List Nat} {fp:List Addr} {elt iter:Expr} {px pos:Pos} {ifs:List Expr} {tc:TT} {te:TE}
theorem comp_block {J:It} {it:Addr} {tn:Nat→Heap→Prop} {RR:Value→Addr→Result→Shared→Prop} {E:Value→Shared→Prop} {Q:VK}
    (S:CScope X scope x N' js) (I:Inv X pins σ H s) (T:Turn X.prog X.w X.K (.Name x px) J fp it tn) (h0:tn 0 s.heap) (hf:∀ b∈fp,FpOk X pins H b)
    (ht:∀ C fp s₀ H₀,PTs (cxC X scope C fp s₀ H₀ N') ifs tc) (he:∀ C fp s₀ H₀,PE (cxC X scope C fp s₀ H₀ N') elt te)
    (R:∀ D,H D=none→∃ W:Nat→Nat→List V→Hp→Prop,(∃ m,W 0 m [] (upd H D (.lst []))) ∧
      ∀ i m ys H2,W i m ys H2→H2 D=some (.lst ys)∧((J.stop i H2∧Q (.ref D) H2)∨(J.go i H2∧ys.length<sizeLine∧∀ x H3,J.yld i H2 x H3 →
        tc (some x::slots σ js) H3 fun b H4=>if b=true then te (some x::slots σ js) H4 fun y H5=>H5 D=some (.lst ys)∧∃ m',m' < m∧W (i+1) m' (ys++[y]) (upd H5 D (.lst (ys++[y])))
          else H4 D=some (.lst ys)∧∃ m',m' < m∧W (i+1) m' ys H4)))
    (hRR:∀ (D:Addr) (H3:Hp) (s3:Shared) (σ':St) (H':Hp) (s':Shared),Inv X pins σ H3 s3→(∀ b∈fp,FpOk X pins H3 b)→Inv (cxC X scope s3.heap.objs.size fp s3 H3 N') [] σ' H' s'→Q (.ref D) H'→RR (.ref D) s3.heap.objs.size (.ok .next) s') :
    wpAny (model X.prog X.w) X.A (newList []) (fun acc s₃=>wpAny (model X.prog X.w) X.A (newFunctionEnv scope X.env.globals (clOf X scope) [] X.env.qual none .none (some X.env)) (fun cenv s₄ =>
      codeAny (model X.prog X.w) X.A (.compStart (.ListComp elt [⟨.Name x px,iter,ifs,0⟩] scope pos) 0 (.ref it) acc { cenv with scope:=relabel scope X.env }) (RR acc cenv.locals) s₄) E s₃) E s:=by
  have hb:∀ b∈fp,b<s.heap.objs.size:=fun b hb=>by
    obtain ⟨o,e,_⟩:=T.obj 0 _ h0 b hb
    exact Heap.lt_size e
  refine wpAny_newObj_type (wpAny_newFunctionEnv S.cell (by intro y hy; simp at hy) (fun h₁ hns₁ hsb₁=>?_) S.kind)
  have hDn:H s.heap.objs.size=none:=I.hok.fresh (Nat.le_refl _)
  obtain ⟨W,⟨m0,hw0⟩,hW⟩:=R _ hDn
  have I3:Inv X pins σ (upd H s.heap.objs.size (.lst [])) { s with heap:=s.heap.push { cls:=.type "list",dict:=none,data:=.seq ([]:List Value).toArray } }:=I.lnew (its:=[]) (ys:=[]) (t':=s.toks) .nil (Nat.zero_le _)
  have hf3:∀ b∈fp,FpOk X pins (upd H s.heap.objs.size (.lst [])) b:=fun b hb' =>
    ⟨by rw [upd_ne (fun e=>by have:=hb b hb'; rw [e] at this; exact Nat.lt_irrefl _ this)]; exact (hf b hb').1,(hf b hb').2⟩
  have hb3:∀ b∈fp,b<(s.heap.push { cls:=.type "list",dict:=none,data:=.seq ([]:List Value).toArray }).objs.size:=fun b hb'=>by
    rw [Heap.size_push]; exact Nat.lt_succ_of_lt (hb b hb')
  have hkeep:∀ b o,(s.heap.push { cls:=.type "list",dict:=none,data:=.seq ([]:List Value).toArray }).get? b=some o→h₁.get? b=some o:=fun b o e =>
    hsb₁.extBut b o (fun q=>by have:=Heap.lt_size e; rw [q] at this; exact Nat.lt_irrefl _ this) (Heap.get?_push_of_some _ e)
  have J4:=cxC_inv (h':=h₁) (tk:=s.toks+([]:List (Str × Value)).length) S I3 hf3 hb3 hns₁ hkeep
  have t4:tn 0 h₁:=T.keep 0 _ _ h0 fun b hb' o e=>hkeep b o (Heap.get?_push_of_some _ e)
  have loop:codeAny (model X.prog X.w) X.A (.compLoop (.ListComp elt [⟨.Name x px,iter,ifs,0⟩] scope pos) 0 (.ref it) (.ref s.heap.objs.size) (compEnvC scope (clOf X scope) (s.heap.push { cls:=.type "list",dict:=none,data:=.seq ([]:List Value).toArray }).objs.size X.env))
      (RR (.ref s.heap.objs.size) (s.heap.push { cls:=.type "list",dict:=none,data:=.seq ([]:List Value).toArray }).objs.size) { s with heap:=h₁,toks:=s.toks+([]:List (Str × Value)).length }:=by
    refine compLoop_gen (fun n s'=>∃ (i:Nat) (ys:List V) (H2:Hp) (o:Option V),Inv (cxC X scope _ fp _ _ N') [] (o::slots σ js) H2 s'∧tn i s'.heap∧(∀ b∈fp,H2 b=none)∧W i n ys H2) ?_ m0 ⟨0,[],_,none,J4,t4,fun b hb'=>(hf3 b hb').1,hw0⟩
    rintro n s' ⟨i,ys,H2,o,J2,t2,f2,w2⟩
    obtain ⟨hD,hcase⟩:=hW i n ys H2 w2
    have Fp:∀ b∈fp,FpOk (cxC X scope (s.heap.push { cls:=.type "list",dict:=none,data:=.seq ([]:List Value).toArray }).objs.size fp { s with heap:=s.heap.push { cls:=.type "list",dict:=none,data:=.seq ([]:List Value).toArray } } (upd H s.heap.objs.size (.lst [])) N') [] H2 b:=fun b hb' =>
      ⟨f2 b hb',(J2.ok.exf b hb').1,J2.ok.exfs b hb',.inl hb',(J2.ok.exf b hb').2,fun p hp=>by cases hp⟩
    rcases hcase with ⟨hstop,hq⟩ | ⟨hgo,hz,hturn⟩
    · refine wpAny_mono (T.done (cxC X scope _ fp _ _ N') rfl rfl rfl rfl i [] s' _ H2 NoX J2 Fp t2 hstop) (fun r s1 ⟨hr,J5⟩=>?_) fun _ _ f=>f
      subst hr
      exact hRR _ _ _ _ _ _ I3 hf3 J5 hq
    · refine wpAny_mono (T.item (cxC X scope _ fp _ _ N') rfl rfl rfl rfl i [] s' _ H2 NoX J2 Fp t2 hgo) (fun r s1 ⟨u,hr,hx⟩=>?_) fun _ _ f=>f
      subst hr
      refine wpAny_mono hx (fun _ s2 ⟨v,H3,J3,rv,hy,t3,f3⟩=>?_) fun _ _ f=>f
      have Fp3:∀ b∈fp,FpOk (cxC X scope (s.heap.push { cls:=.type "list",dict:=none,data:=.seq ([]:List Value).toArray }).objs.size fp { s with heap:=s.heap.push { cls:=.type "list",dict:=none,data:=.seq ([]:List Value).toArray } } (upd H s.heap.objs.size (.lst [])) N') [] H3 b:=fun b hb' =>
        ⟨f3 b hb',(J3.ok.exf b hb').1,J3.ok.exfs b hb',.inl hb',(J3.ok.exf b hb').2,fun p hp=>by cases hp⟩
      have P3:=J3.pinned Fp3 (T.obj (i+1) _ t3)
      have keepT:∀ {σ':St} {Hx:Hp} {sx:Shared},Inv (cxC X scope (s.heap.push { cls:=.type "list",dict:=none,data:=.seq ([]:List Value).toArray }).objs.size fp { s with heap:=s.heap.push { cls:=.type "list",dict:=none,data:=.seq ([]:List Value).toArray } } (upd H s.heap.objs.size (.lst [])) N') ([]++pinsAt fp s2.heap) σ' Hx sx→tn (i+1) sx.heap∧∀ b∈fp,Hx b=none:=fun Jx =>
        ⟨T.keep (i+1) _ _ t3 fun b hb' ob e=>(Jx.pin (b,ob) (List.mem_append_right _ (List.mem_append_right _ (mem_pinsAt hb' e)))).1,fun b hb'=>by
          obtain ⟨ob,e,_⟩:=T.obj (i+1) _ t3 b hb'
          exact (Jx.pin (b,ob) (List.mem_append_right _ (List.mem_append_right _ (mem_pinsAt hb' e)))).2.1⟩
      refine wpAny_assign_Name (store_ok P3 (i:=0) (x:=x) (v:=v) ?nd ?hi ?hx rv (fun s5 J5=>?_) ?hfn)
      case nd=>exact S.nd
      case hi=>exact S.zero
      case hx=>exact .inl (lookup_relabel_local S.own)
      case hfn=>exact .inr (lookup_relabel_local S.own)
      have J5':Inv _ _ (some v::slots σ js) H3 s5:=J5
      refine wpAny_mono (ht _ _ _ _ _ _ _ _ _ J5' (hturn v H3 hy)) (fun ok s6 ⟨H6,J6,q6⟩=>?_) fun _ _ f=>f
      dsimp only at q6
      by_cases hok:ok=true
      · rw [if_pos hok] at q6 ⊢
        refine wpAny_mono (he _ _ _ _ _ _ _ _ _ J6 q6) (fun y s7 ⟨w',H7,J7,r7,hD7,m',hm',w7⟩=>?_) fun _ _ f=>f
        refine wpAny_mono (mt_append (X:=cxC X scope _ fp _ _ N') _ _ _ _ (.ref s.heap.objs.size) [w'] (.ref s.heap.objs.size) [y] (fun _ H8=>H8=upd H7 s.heap.objs.size (.lst (ys++[w']))) J7 rfl (.cons r7 .nil) ⟨_,_,_,rfl,rfl,hD7,hz,rfl⟩) (fun _ s8 ⟨_,H8,J8,_,e8⟩=>?_) fun _ _ f=>f
        subst e8
        obtain ⟨k1,k2⟩:=keepT J8
        exact ⟨m',hm',i+1,ys++[w'],_,some v,J8.unpinned,k1,k2,w7⟩
      · rw [if_neg hok] at q6 ⊢
        obtain ⟨_,m',hm',w7⟩:=q6
        obtain ⟨k1,k2⟩:=keepT J6
        exact ⟨m',hm',i+1,ys,_,some v,J6.unpinned,k1,k2,w7⟩
  refine codeAny_compStart_list loop (T.self X.A 0 _ _ _ t4 loop)
theorem pe_comp {wi:TI} (S:CScope X scope x N' js) (hi:PI X (.Name x px) iter wi) (ht:∀ C fp s₀ H₀,PTs (cxC X scope C fp s₀ H₀ N') ifs tc) (he:∀ C fp s₀ H₀,PE (cxC X scope C fp s₀ H₀ N') elt te)
    (hs:∀ x,foldedSetIterable iter X.env x=pure x:=by intro _; rfl):PE X (.ListComp elt [⟨.Name x px,iter,ifs,0⟩] scope pos) (tComp wi js tc te):=by
  intro pins s σ H Q I h
  rw [eval_ListComp]
  refine wpAny_comprehension_free (use:=none) rfl hs (closureFor_eq (S.cells I.ok)) S.kind S.names (wpAny_mono (hi pins s σ H _ I h) (fun v s1 h1=>?_) fun _ _ e=>e)
  refine wpAny_mono h1 (fun itv s2 ⟨it,fp,tn,J,H2,e,I2,T,t0,hf,R⟩=>?_) fun _ _ e=>e
  subst e
  refine comp_block S I2 T t0 hf ht he R ?_
  intro D H3 s3 σ' H' s' I3 hf3 J3 q
  obtain ⟨m,hm,_⟩:=J3.loc
  exact ⟨m,hm,fun h' hs'=>⟨.ref D,H',cxC_back S I3 hf3 J3 hs',rfl,q⟩⟩
theorem ps_setComp {wi:TI} {y:Str} {py spos:Pos} {i:Nat} (S:CScope X scope x N' js) (hN:X.N.Nodup) (hiN:X.N[i]?=some y) (hy:X.env.kindOf y=some .local) (hi:PI X (.Name x px) iter wi) (ht:∀ C fp s₀ H₀,PTs (cxC X scope C fp s₀ H₀ N') ifs tc) (he:∀ C fp s₀ H₀,PE (cxC X scope C fp s₀ H₀ N') elt te)
    (hsw:swapsWith (.ListComp elt [⟨.Name x px,iter,ifs,0⟩] scope pos) (some (.Name y py)) spos.line X.env=pure true) (hs:∀ x,foldedSetIterable iter X.env x=pure x:=by intro _; rfl) :
    PS X (.Assign [.Name y py] (.ListComp elt [⟨.Name x px,iter,ifs,0⟩] scope pos) spos) (tAsg (tComp wi js tc te) (gName i)):=by
  intro pins s σ H D0 I h
  rw [exec_Assign_Name_used _ _ _ _ hsw]
  refine wpAny_bind (wpAny_standAt (wpAny_bind ?_))
  show wpAny _ X.A (do let _ ← comprehension (.ListComp elt [⟨.Name x px,iter,ifs,0⟩] scope pos) scope X.env _ (newList []) false (eval iter X.env) (some (assign (.Name y py) X.env))) _ _ s
  refine wpAny_bind (wpAny_mono (wpAny_comprehension_free (use:=some (assign (.Name y py) X.env)) (Q:=fun _ s'=>SP X pins D0 .next s') rfl hs (closureFor_eq (S.cells I.ok)) S.kind S.names (wpAny_mono (hi pins s σ H _ I h) (fun v s1 h1=>?_) fun _ _ e=>e)) (fun _ s' hq=>wpAny_pure (wpAny_pure hq)) fun _ _ e=>e)
  refine wpAny_mono h1 (fun itv s2 ⟨it,fp,tn,J,H2,e,I2,T,t0,hf,R⟩=>?_) fun _ _ e=>e
  subst e
  refine comp_block (Q:=fun v H'=>gName i v σ H' D0.nx) S I2 T t0 hf ht he R ?_
  intro D H3 s3 σ' H' s' I3 hf3 J3 q
  obtain ⟨m,hm,_⟩:=J3.loc
  have IX:Inv X pins σ H' s':=cxC_back S I3 hf3 J3 (Heap.SameBut.refl ..)
  have hCL:s3.heap.objs.size≠X.env.locals:=fun e=>by have:=I3.lt; rw [e] at this; exact Nat.lt_irrefl _ this
  show wpAny _ X.A (assign (.Name y py) X.env (.ref D)) _ _ _
  refine wpAny_assign_Name (store_ok2 IX hN hiN (.inl hy) (v:=.ref D) rfl (fun s5 I5 hsb=>?_) (.inr hy))
  obtain ⟨a,hsb,ha⟩:=hsb
  have hCa:s3.heap.objs.size≠a:=by
    rcases ha with rfl | ha
    · exact hCL
    · intro e
      obtain ⟨v,o,eo,_⟩:=I3.cell y a ha
      have:=Heap.lt_size eo
      rw [← e] at this
      exact Nat.lt_irrefl _ this
  refine ⟨m,hm.sameBut hsb hCa,fun h' hs'=>⟨_,H',?_,q⟩⟩
  exact I5.turned (it:=s3.heap.objs.size) (t':=s5.toks) (fun b o n e=>hs'.extBut b o n e) J3.free hCL (.inr I3.sz)
    (fun z c hz e=>by
      obtain ⟨v,o,eo,_⟩:=I3.cell z c hz
      have:=Heap.lt_size eo
      rw [e] at this
      exact Nat.lt_irrefl _ this)
    (fun p hp e=>by
      have:=Heap.lt_size (I3.pin p hp).1
      rw [e] at this
      exact Nat.lt_irrefl _ this)
end
end L2
set_option Elab.async false
set_option linter.all false
set_option maxRecDepth 100000
namespace L2
open PySem PySem.Spec PyProof.Rows
structure PTsw (X:Cx) (ifs:List Expr) (t:TT):Prop where p:PTs X ifs t
def tMonoE (t:TE):TE:=fun σ H Q=>∃ Q':VK,t σ H Q'∧∀ v H1,Q' v H1→Q v H1
theorem PE.mono {X:Cx} {e:Expr} {t:TE} (h:PE X e t):PE X e (tMonoE t):=fun pins s σ H Q I ⟨Q',h1,h2⟩ =>
  thn (h pins s σ H Q' I h1) fun b s' ⟨v,H',I',r,q⟩=>⟨v,H',I',r,h2 _ _ q⟩
theorem PTs.mono {X:Cx} {es:List Expr} {t:TT} (h:PTs X es t):PTs X es (tMono t):=fun pins s σ H Q I ⟨Q',h1,h2⟩ =>
  thn (h pins s σ H Q' I h1) fun b s' ⟨H',I',q⟩=>⟨H',I',h2 _ _ q⟩
@[irreducible] def CompB (J:It) (σ:St) (js:List Nat) (tc:TT) (te:TE) (H1:Hp) (Q:VK):Prop:=∀ D,H1 D=none→∃ W:Nat→Nat→List V→Hp→Prop,(∃ m,W 0 m [] (upd H1 D (.lst []))) ∧
  ∀ i m ys H2,W i m ys H2→H2 D=some (.lst ys)∧((J.stop i H2∧Q (.ref D) H2)∨(J.go i H2∧ys.length<sizeLine∧∀ x H3,J.yld i H2 x H3 →
    tMono tc (some x::slots σ js) H3 fun b H4=>if b=true then tMonoE te (some x::slots σ js) H4 fun y H5=>H5 D=some (.lst ys)∧∃ m',m' < m∧W (i+1) m' (ys++[y]) (upd H5 D (.lst (ys++[y])))
      else H4 D=some (.lst ys)∧∃ m',m' < m∧W (i+1) m' ys H4))
def tCompB (wi:TI) (js:List Nat) (tc:TT) (te:TE):TE:=fun σ H Q=>wi σ H fun J H1=>CompB J σ js tc te H1 Q
section
variable {X:Cx} {scope:Scope} {x y:Str} {N':List Str} {js:List Nat} {elt iter c:Expr} {px py pos spos:Pos} {ifs:List Expr} {tc:TT} {te:TE} {wi:TI} {i:Nat}
theorem wts_nil:PTsw X [] tYes:=⟨pts_nil⟩
theorem wts_one {t:TT} (h:PTw X c t):PTsw X [c] t:=⟨pts_one h.p⟩
theorem we_comp (S:CScope X scope x N' js) (hi:PIw X (.Name x px) iter wi) (ht:∀ C fp s₀ H₀,PTsw (cxC X scope C fp s₀ H₀ N') ifs tc) (he:∀ C fp s₀ H₀,PEw (cxC X scope C fp s₀ H₀ N') elt te)
    (hs:∀ x,foldedSetIterable iter X.env x=pure x:=by intro _; rfl):PEw X (.ListComp elt [⟨.Name x px,iter,ifs,0⟩] scope pos) (tCompB wi js tc te) :=
  ⟨by unfold tCompB CompB; exact pe_comp S hi.p (fun C fp s₀ H₀=>(ht C fp s₀ H₀).p.mono) (fun C fp s₀ H₀=>(he C fp s₀ H₀).p.mono) hs⟩
theorem ws_setComp (S:CScope X scope x N' js) (hN:X.N.Nodup) (hiN:X.N[i]?=some y) (hy:X.env.kindOf y=some .local) (hi:PIw X (.Name x px) iter wi) (ht:∀ C fp s₀ H₀,PTsw (cxC X scope C fp s₀ H₀ N') ifs tc) (he:∀ C fp s₀ H₀,PEw (cxC X scope C fp s₀ H₀ N') elt te)
    (hsw:swapsWith (.ListComp elt [⟨.Name x px,iter,ifs,0⟩] scope pos) (some (.Name y py)) spos.line X.env=pure true:=by rfl) (hs:∀ x,foldedSetIterable iter X.env x=pure x:=by intro _; rfl) :
    PSw X (.Assign [.Name y py] (.ListComp elt [⟨.Name x px,iter,ifs,0⟩] scope pos) spos) (tAsg (tCompB wi js tc te) (gName i)) :=
  ⟨by unfold tCompB CompB; exact ps_setComp S hN hiN hy hi.p (fun C fp s₀ H₀=>(ht C fp s₀ H₀).p.mono) (fun C fp s₀ H₀=>(he C fp s₀ H₀).p.mono) hsw hs⟩
end
def cscOk (psc scope:Scope) (N:List Str) (x:Str) (N':List Str) (js:List Nat):Bool :=
  (scope.names.all fun y=>!(y.2 == .free) || psc.names.lookup y.1 == some .cell)&&(scope.names.all fun y=>!(y.2 == .cell))&&scope.kind == .function &&
  (scope.names.all fun y=>!(y.2 == .local) || scope.names.lookup y.1 == some .local)&&scope.names.lookup x == some .local &&
  (scope.names.all fun y=>!(y.2 == .free) || !(scope.names.lookup y.1 == some .local))&&N'.length == js.length+1&&N'[0]? == some x&&decide N'.Nodup &&
  ((List.range js.length).all fun i=>match js[i]?,N'[i+1]? with
    | some j,some y=>N[j]? == some y&&scope.names.contains (y,NameKind.free)
    | _,_=>false)
theorem CScope.of {X:Cx} {psc scope:Scope} {N:List Str} {x:Str} {N':List Str} {js:List Nat} (h:cscOk psc scope N x N' js=true) (hX:X.env.scope=psc) (hN:X.N=N) (hc:X.calm=true):CScope X scope x N' js:=by
  unfold cscOk at h
  simp only [Bool.and_eq_true] at h
  obtain ⟨⟨⟨⟨⟨⟨⟨⟨⟨h1,h2⟩,h3⟩,h4⟩,h5⟩,h6⟩,h7⟩,h8⟩,h9⟩,h10⟩:=h
  rw [List.all_eq_true] at h1 h2 h4 h6 h10
  refine ⟨hc,fun y hy e=>?_,fun y hy e=>?_,by simpa using h3,fun y hy e=>?_,by simpa using h5,fun y hy e=>?_,by simpa using h7,by simpa using h8,of_decide_eq_true h9,fun i j hj=>?_⟩
  · have:=h1 y hy
    rw [e] at this
    show X.env.scope.names.lookup y.1=_
    rw [hX]
    simpa using this
  · have:=h2 y hy
    rw [e] at this
    simp at this
  · have:=h4 y hy
    rw [e] at this
    simpa using this
  · have:=h6 _ hy
    rw [e] at this
    simp at this
  · have hi:i<js.length:=(List.getElem?_eq_some_iff.mp hj).1
    have:=h10 i (List.mem_range.mpr hi)
    rw [hj] at this
    cases q:N'[i+1]? with
    | none=>rw [q] at this; simp at this
    | some y =>
      rw [q] at this
      simp only [Bool.and_eq_true] at this
      exact ⟨y,rfl,by rw [hN]; simpa using this.1,List.contains_iff_mem.mp this.2⟩
section
variable {js:List Nat} {te:TE} {tc:TT} {σ:St} {H:Hp} {Q:VK}
theorem comp_any {J:It} {n:Nat} (src:Nat→V→Prop) (hz:n≤100000) (Pv:Addr→Nat→List V→Hp→Prop)
    (h0:∀ D H1,H D=none→H1 D=some (.lst [])→Same H H1→Pv D 0 [] H1)
    (hg:∀ D i ys H',i<n→H' D=some (.lst ys)→Pv D i ys H'→J.go i H'∧∀ x H3,J.yld i H' x H3→H3=H'∧src i x)
    (hst:∀ D ys H',H' D=some (.lst ys)→Pv D n ys H'→J.stop n H')
    (hs:∀ D i x ys H',src i x→i<n→ys.length=i→H' D=some (.lst ys)→Pv D i ys H'→te (some x::slots σ js) H' fun y H5=>H5 D=some (.lst ys)∧∀ H6,H6 D=some (.lst (ys++[y]))→SameBut D H5 H6→Pv D (i+1) (ys++[y]) H6)
    (hd:∀ D ys H',ys.length=n→H D=none→H' D=some (.lst ys)→Pv D n ys H'→Q (.ref D) H') :
    CompB J σ js tYes te H Q:=by
  unfold CompB
  intro D hD
  refine ⟨fun i m ys H'=>m=n - i∧i≤n∧ys.length=i∧H' D=some (.lst ys)∧Pv D i ys H',⟨n,by simp,Nat.zero_le _,rfl,upd_same,h0 D _ hD upd_same (Same.upd hD)⟩,?_⟩
  rintro i m ys H2 ⟨rfl,hi,hy,hD2,p⟩
  refine ⟨hD2,?_⟩
  by_cases hlt:i<n
  · obtain ⟨g1,g2⟩:=hg D i ys H2 hlt hD2 p
    refine .inr ⟨g1,Nat.lt_of_le_of_lt (m:=100000) (by omega) (by decide),fun x H3 hy3=>?_⟩
    obtain ⟨rfl,hx⟩:=g2 x H3 hy3
    refine ⟨fun b H4=>b=true∧H4=H3,⟨rfl,rfl⟩,?_⟩
    rintro b H4 ⟨rfl,rfl⟩
    rw [if_pos rfl]
    refine ⟨_,hs D i x ys H4 hx hlt hy hD2 p,?_⟩
    rintro v H5 ⟨hD5,k⟩
    exact ⟨hD5,n - (i+1),by omega,rfl,hlt,by rw [List.length_append,hy]; rfl,upd_same,k _ upd_same SameBut.self⟩
  · have e:i=n:=by omega
    subst e
    exact .inl ⟨hst D ys H2 hD2 p,hd D ys H2 hy hD hD2 p⟩
theorem comp_list {K:PySem.W.Frag} {a:Addr} {xs:List V} (hz:xs.length≤100000) (Pv:Addr→Nat→List V→Hp→Prop)
    (h0:∀ D H1,H D=none→H1 D=some (.lst [])→Same H H1→Pv D 0 [] H1)
    (hl:∀ D i ys H',i≤xs.length→H' D=some (.lst ys)→Pv D i ys H'→SqL K H' a xs)
    (hs:∀ D i x ys H',xs[i]?=some x→i<xs.length→ys.length=i→H' D=some (.lst ys)→Pv D i ys H'→te (some x::slots σ js) H' fun y H5=>H5 D=some (.lst ys)∧∀ H6,H6 D=some (.lst (ys++[y]))→SameBut D H5 H6→Pv D (i+1) (ys++[y]) H6)
    (hd:∀ D ys H',ys.length=xs.length→H D=none→H' D=some (.lst ys)→Pv D xs.length ys H'→Q (.ref D) H') :
    CompB (Itl K a) σ js tYes te H Q :=
  comp_any (J:=Itl K a) (fun i x=>xs[i]?=some x) hz Pv h0
    (fun D i ys H' hi hD p=>by
      have q:=hl D i ys H' (Nat.le_of_lt hi) hD p
      exact ⟨⟨xs,xs[i],q,by simp [hi]⟩,fun x H3 y=>⟨y.1,y.2 xs q⟩⟩)
    (fun D ys H' hD p=>⟨xs,hl D _ ys H' (Nat.le_refl _) hD p,Nat.le_refl _⟩) hs hd
theorem comp_map {K:PySem.W.Frag} {a:Addr} {xs:List V} (R:Nat→V→Prop) (hz:xs.length≤100000) (hl:SqL K H a xs)
    (hs:∀ i x H' (Q':VK),xs[i]?=some x→Same H H'→(∀ y H5,Same H' H5→R i y→Q' y H5)→te (some x::slots σ js) H' Q')
    (hd:∀ D ys H',H D=none→H' D=some (.lst ys)→Same H H'→ys.length=xs.length→(∀ (i:Nat) (y:V),ys[i]?=some y→R i y)→Q (.ref D) H') :
    CompB (Itl K a) σ js tYes te H Q:=by
  refine comp_list hz (fun D i ys H'=>H D=none∧Same H H'∧∀ (i:Nat) (y:V),ys[i]?=some y→R i y) (fun D H1 hD _ s=>⟨hD,s,fun i y h=>by simp at h⟩) (fun D i ys H' _ _ p=>p.2.1.seq hl) (fun D i x ys H' hx _ hy hD p=>?_) (fun D ys H' hy hD hD' p=>hd D ys H' hD hD' p.2.1 hy p.2.2)
  refine hs i x H' _ hx p.2.1 fun y H5 s5 r=>?_
  refine ⟨s5 _ _ hD,fun H6 hD6 s6=>⟨p.1,?_,fun j z hj=>?_⟩⟩
  · exact Same.thru p.1 (p.2.1.trans s5) s6
  · by_cases hji:j<ys.length
    · rw [List.getElem?_append_left hji] at hj; exact p.2.2 j z hj
    · rw [List.getElem?_append_right (by omega)] at hj
      have:j - ys.length=0:=by
        by_cases q:j - ys.length=0
        · exact q
        · rw [List.getElem?_eq_none (by simp; omega)] at hj; cases hj
      rw [this] at hj
      have hj':y=z:=by simpa using hj
      have:j=i:=by omega
      subst this hj'
      exact r
end
@[irreducible] def rSum (K:PySem.W.Frag):List V→Hp→VK→Prop:=fun xs H Q=>∃ (p:Addr) (ns:List Int),xs=[.ref p]∧SqL K H p (ns.map V.int)∧Q (.int ns.sum) H
@[irreducible] def rEqD (b:Bool):R2:=fun x y H Q=>∃ d d',Rep H d x∧Rep H d' y∧SeqAt.shaped d=true∧SeqAt.shaped d'=true∧Q (.bl (b == PyData.eqv d d')) H
section
variable {X:Cx}
theorem cl_sum (hc:X.calm=true):CallR X (.builtin "sum") (rSum X.K):=by
  unfold rSum
  intro pins s σ H xs us Q I r h
  obtain ⟨p,ns,rfl,hq,q⟩:=h
  obtain ⟨u,rfl,rx⟩:=vals1 r
  cases rx
  obtain ⟨its,r',pl,hz⟩:=I.list hq
  have hi:=intsAre_of r'
  obtain ⟨xs',e⟩:=hi.allInts.items
  rw [e] at pl
  refine sum_intListG (I.ok.hd hc) pl.isList fun h' tk t' hk=>⟨.int ns.sum,H,I.kept hk,⟨t',?_⟩,q⟩
  rw [preSum_eq,List.take_of_length_le (by simp)]
  rw [← hi.numsOf]
  have e2:its=(intItems xs').toList:=by rw [← e]
  rw [e2,nums_intItems]
theorem rsI {K:PySem.W.Frag} {H:Hp} {p:Addr} {ns:List Int} {Q:VK} (h:SqL K H p (ns.map V.int)) (q:Q (.int ns.sum) H):rSum K [.ref p] H Q:=by unfold rSum; exact ⟨p,ns,rfl,h,q⟩
theorem op_eqD (hu:X.A.units+64<cLine):OpR X (compareOp .Eq) (rEqD true):=by
  unfold rEqD
  intro pins s σ H x y v u Q I rx ry h
  obtain ⟨d,d',h1,h2,s1,s2,q⟩:=h
  obtain ⟨as,ra⟩:=h1.reads I rx
  obtain ⟨bs,rb⟩:=h2.reads I ry
  exact SeqAt.compareEq_shaped ra rb s1 s2 hu ⟨.bl _,H,I,by show _=_; simp,q⟩
theorem op_neD (hu:X.A.units+64<cLine):OpR X (compareOp .NotEq) (rEqD false):=by
  unfold rEqD
  intro pins s σ H x y v u Q I rx ry h
  obtain ⟨d,d',h1,h2,s1,s2,q⟩:=h
  obtain ⟨as,ra⟩:=h1.reads I rx
  obtain ⟨bs,rb⟩:=h2.reads I ry
  exact SeqAt.compareNe_shaped ra rb s1 s2 hu ⟨.bl _,H,I,by show _=_; simp,q⟩
theorem reD {b:Bool} {x y:V} {d d':PyData} {H:Hp} {Q:VK} (h1:Rep H d x) (h2:Rep H d' y) (s1:SeqAt.shaped d=true) (s2:SeqAt.shaped d'=true) (q:Q (.bl (b == PyData.eqv d d')) H):rEqD b x y H Q:=by
  unfold rEqD; exact ⟨d,d',h1,h2,s1,s2,q⟩
end
mutual
theorem eqv_refl:∀ d:PyData,d.hasDict=false→PyData.eqv d d=true
  | .none,_=>by simp [PyData.eqv]
  | .bool _,_=>by simp [PyData.eqv]
  | .int _,_=>by simp [PyData.eqv]
  | .str _,_=>by simp [PyData.eqv]
  | .list xs,h=>by simp only [PyData.eqv]; exact eqvAll_refl xs (by simpa [PyData.hasDict] using h)
  | .tuple xs,h=>by simp only [PyData.eqv]; exact eqvAll_refl xs (by simpa [PyData.hasDict] using h)
  | .dict _,h=>by simp [PyData.hasDict] at h
theorem eqvAll_refl:∀ ds:List PyData,PyData.hasDictAll ds=false→PyData.eqvAll ds ds=true
  | [],_=>by simp [PyData.eqvAll]
  | d::ds,h=>by
    simp only [PyData.hasDictAll,Bool.or_eq_false_iff] at h
    simp only [PyData.eqvAll,eqv_refl d h.1,eqvAll_refl ds h.2,Bool.and_self]
end
mutual
def flatD:PyData→Bool
  | .list _=>false
  | .dict _=>false
  | .tuple ds=>flatDs ds
  | _=>true
def flatDs:List PyData→Bool
  | []=>true
  | d::ds=>flatD d&&flatDs ds
end
def SameT (H H':Hp):Prop:=∀ b xs,H b=some (.tup xs)→H' b=some (.tup xs)
theorem SameT.trans {H H1 H2:Hp} (a:SameT H H1) (b:SameT H1 H2):SameT H H2:=fun c o h=>b c o (a c o h)
theorem Same.t {H H':Hp} (s:Same H H'):SameT H H':=fun b xs h=>s _ _ h
theorem SameBut.t {H H':Hp} {p:Addr} (s:SameBut p H H') {xs:List V} (hp:H p=some (.lst xs)):SameT H H':=fun b ys h=>s.at (ne_of h hp (by intro z; cases z)) h
mutual
theorem Rep.flat {H H':Hp} (s:SameT H H'):∀ {d:PyData} {v:V},flatD d=true→Rep H d v→Rep H' d v
  | .none,_,_,h=>h
  | .bool _,_,_,h=>h
  | .int _,_,_,h=>h
  | .str _,_,_,h=>h
  | .list _,_,f,_=>by simp [flatD] at f
  | .dict _,_,f,_=>by simp [flatD] at f
  | .tuple ds,_,f,h=>by
    unfold Rep at h ⊢
    obtain ⟨a,ys,rfl,h1,h2⟩:=h
    exact ⟨a,ys,rfl,s _ _ h1,RepL.flat s (by simpa [flatD] using f) h2⟩
theorem RepL.flat {H H':Hp} (s:SameT H H'):∀ {ds:List PyData} {vs:List V},flatDs ds=true→RepL H ds vs→RepL H' ds vs
  | [],_,_,h=>h
  | d::ds,_,f,h=>by
    unfold RepL at h ⊢
    obtain ⟨x,ys,rfl,h1,h2⟩:=h
    simp only [flatDs,Bool.and_eq_true] at f
    exact ⟨x,ys,rfl,Rep.flat s f.1 h1,RepL.flat s f.2 h2⟩
end
theorem RepL.get {H:Hp}:∀ {ds:List PyData} {vs:List V} {i:Nat} {v:V},RepL H ds vs→vs[i]?=some v→∃ d,ds[i]?=some d∧Rep H d v
  | [],_,i,v,h,e=>by cases (show _=[] from h); simp at e
  | d::ds,_,i,v,h,e=>by
    unfold RepL at h
    obtain ⟨x,ys,rfl,h1,h2⟩:=h
    cases i with
    | zero=>simp at e; subst e; exact ⟨d,rfl,h1⟩
    | succ i =>
      rw [List.getElem?_cons_succ] at e ⊢
      exact RepL.get h2 e
theorem RepL.get' {H:Hp}:∀ {ds:List PyData} {vs:List V} {i:Nat} {d:PyData},RepL H ds vs→ds[i]?=some d→∃ v,vs[i]?=some v∧Rep H d v
  | [],_,i,d,h,e=>by simp at e
  | d' :: ds,_,i,d,h,e=>by
    unfold RepL at h
    obtain ⟨x,ys,rfl,h1,h2⟩:=h
    cases i with
    | zero=>simp at e; subst e; exact ⟨x,rfl,h1⟩
    | succ i =>
      rw [List.getElem?_cons_succ] at e ⊢
      exact RepL.get' h2 e
theorem RepL.snoc {H:Hp} {ds:List PyData} {vs:List V} {d:PyData} {v:V} (h:RepL H ds vs) (r:Rep H d v):RepL H (ds++[d]) (vs++[v]):=RepL.append (RepL.cons r RepL.nil) h
theorem bitsOf {i:Int} {n:Nat} (h:i.natAbs<2^n):bits i≤n:=PySem.intBits_le_iff.mpr h
theorem mulB {i j:Int} {n m:Nat} (h1:i.natAbs<2^n) (h2:j.natAbs<2^m) (hn:n≤1048576:=by decide) (hm:m≤1048576:=by decide):IntMulOk i j:=by
  refine IntMulOk.of_bits ?_ ?_
  · exact Nat.le_trans (bitsOf h1) hn
  · exact Nat.le_trans (bitsOf h2) hm
mutual
def shW:PyData→Nat
  | .none=>4
  | .bool _=>5
  | .int _=>1921
  | .str x=>(reprText x).length
  | .list xs=>shWs xs+4
  | .tuple xs=>shWs xs+4
  | .dict _=>0
def shWs:List PyData→Nat
  | []=>0
  | x::xs=>shW x+2+shWs xs
end
theorem textFrom_le:∀ (ts:List Str) (k:Nat) (acc:Str),(textFrom k acc ts).length≤acc.length+piled ts
  | [],k,acc=>by show acc.length≤_; omega
  | t::r,k,acc=>by
    have h:=textFrom_le r (k+1) (acc++(if k > 0 then ", " else "" : String)++t)
    have e:(acc++(if k > 0 then ", " else "" : String)++t).length=acc.length+(if k > 0 then 2 else 0)+t.length:=by
      rw [strLen_append,strLen_append]
      split <;> rfl
    rw [e] at h
    rw [piled_cons]
    show (textFrom (k+1) _ r).length≤_
    refine Nat.le_trans h ?_
    split <;> omega
theorem tupleText_le (ts:List Str):(tupleText ts).length≤piled ts+4:=by
  unfold tupleText
  rw [strLen_append,strLen_append]
  have e1:(("(" : Str)).length=1:=rfl
  have e2:((if ts.length == 1 then ",)" else ")" : String):Str).length≤2:=by split <;> decide
  rw [e1]
  by_cases h:ts=[]
  · subst h; have:(Str.join ", " []).length=0:=rfl
    omega
  · have:=join_length_add ts h
    omega
theorem listText_le (ts:List Str):(listText ts).length≤piled ts+4:=by
  unfold listText
  rw [strLen_append]
  have:=textFrom_le ts 0 "["
  have e1:(("[" : String):Str).length=1:=rfl
  have e2:(("]" : String):Str).length=1:=rfl
  rw [e1] at this
  rw [e2]
  omega
mutual
theorem shown_le:∀ d:PyData,d.showable=true→d.hasDict=false→d.shown.length≤shW d
  | .none,_,_=>by simp only [PyData.shown,shW]; decide
  | .bool b,_,_=>by cases b <;> (simp only [PyData.shown,shW]; decide)
  | .int i,h,_=>by
    simp only [PyData.shown,shW]
    exact int_text_len_1921 (by simpa [PyData.showable] using h)
  | .str x,_,_=>by simp only [PyData.shown,shW]; exact Nat.le_refl _
  | .list xs,h,h2=>by
    simp only [PyData.shown,shW]
    have:=shownAll_le xs (by simpa [PyData.showable] using h) (by simpa [PyData.hasDict] using h2)
    have:=listText_le (PyData.shownAll xs)
    omega
  | .tuple xs,h,h2=>by
    simp only [PyData.shown,shW]
    have:=shownAll_le xs (by simpa [PyData.showable] using h) (by simpa [PyData.hasDict] using h2)
    have:=tupleText_le (PyData.shownAll xs)
    omega
  | .dict _,_,h=>by simp [PyData.hasDict] at h
theorem shownAll_le:∀ ds:List PyData,PyData.showableAll ds=true→PyData.hasDictAll ds=false→piled (PyData.shownAll ds)≤shWs ds
  | [],_,_=>by simp only [PyData.shownAll,shWs]; exact Nat.le_refl _
  | d::ds,h,h2=>by
    simp only [PyData.showableAll,Bool.and_eq_true] at h
    simp only [PyData.hasDictAll,Bool.or_eq_false_iff] at h2
    have:=shown_le d h.1 h2.1
    have:=shownAll_le ds h.2 h2.2
    simp only [PyData.shownAll,shWs,piled_cons]
    omega
end
theorem showInt {i:Int} {n:Nat} (h:i.natAbs<2^n) (hn:n≤1920:=by decide):PyData.showable (.int i)=true:=by
  simp only [PyData.showable]
  refine decide_eq_true (log_of_bits (Nat.le_trans (bitsOf h) hn) (by decide))
section
variable {X:Cx} (K:PySem.W.Frag)
theorem ix_seqK (h:X.K=K:=by rfl):IxR X (rIx K):=by subst h; exact ix_seq
theorem cl_lenK (h:X.K=K:=by rfl):CallR X (.builtin "len") (rLen K):=by subst h; exact cl_len
theorem cl_sumK (hc:X.calm=true) (h:X.K=K:=by rfl):CallR X (.builtin "sum") (rSum K):=by subst h; exact cl_sum hc
theorem op_inK (h:X.K=K:=by rfl):OpR X (compareOp .In) (rIn K false):=by subst h; exact op_in_seq
theorem op_notInK (h:X.K=K:=by rfl):OpR X (compareOp .NotIn) (rIn K true):=by subst h; exact op_notIn_seq
end
end L2
set_option Elab.async false
set_option linter.all false
set_option maxRecDepth 100000
namespace L2
open PySem
def SqIt (b:Bool) (h:Heap) (i l:Addr) (k:Nat):Prop:=∃ o,h.get? i=some o∧o.cls=.type (bif b then "tuple_iterator" else "list_iterator")∧o.data=.fields #[.ref l,.int k 0]
def SqIs (b:Bool) (h:Heap) (l:Addr) (xs:Array Value):Prop:=∃ o,h.get? l=some o∧o.cls=.type (bif b then "tuple" else "list")∧∃ n,o.data=.seq xs n
theorem SqIt.at {b:Bool} {h h':Heap} {i l:Addr} {k:Nat} (x:SqIt b h i l k) (f:∀ o,h.get? i=some o→h'.get? i=some o):SqIt b h' i l k:=let ⟨o,ho,r⟩:=x; ⟨o,f o ho,r⟩
section
variable {prog:Program} {w:World} {A:Around} {E:Value→Shared→Prop} {s:Shared}
theorem nx_item {b:Bool} {it l:Addr} {i:Nat} {items:Array Value} {x:Value} {Q:Value→Shared→Prop} (hit:SqIt b s.heap it l i) (hl:SqIs b s.heap l items) (hx:items[i]?=some x)
    (hQ:∀ h',SqIt b h' it l (i+1)→Heap.SameBut it s.heap h'→Q x { s with heap:=h' }):wpAny (model prog w) A (Builtin.SmallTypes.nextOf (.ref it)) Q E s:=by
  cases b with
  | false=>exact wpAny_nextOf_list_item hit hl hx hQ
  | true =>
    have ty:s.heap.IsTupleIter it l i:=hit
    obtain ⟨o,ho,hc,hd⟩:=id ty; obtain ⟨ol,hol,_,nl,hdl⟩:=hl
    unfold Builtin.SmallTypes.nextOf; refine wpAny_bind (wpAny_callSpecial?_slot (name:=Str.ofString "__next__") ty.typeIs F.slot_tuple_iterator_next (wpAny_call_entry F.slot_tuple_iterator_next ty.typeIs F.entry_tuple_iterator_next ?_ (F.args_tuple_iterator_next_1 _)))
    show wpAny _ _ (field (.ref it) 0 >>= _) _ _ s; refine wpAny_bind (wpAny_field ho hd (x:=.ref l) rfl ?_)
    show wpAny _ _ (if (Value.ref l == Value.none)=true then _ else _) _ _ s; rw [if_neg (show ¬ ((Value.ref l == Value.none)=true) from Bool.false_ne_true)]
    show wpAny _ _ (field (.ref it) 1 >>= _) _ _ s; refine wpAny_bind (wpAny_field ho hd (x:=.int i 0) rfl ?_)
    show wpAny _ _ (seqItems? (.ref l) >>= _) _ _ s; refine wpAny_bind (wpAny_seqItems hol hdl ?_); simp only [Int.toNat_natCast,hx]
    refine wpAny_bind (wpAny_setField ho hd (by simp) (wpAny_pure ⟨x,rfl,wpAny_pure (hQ _ ?_ (Heap.SameBut.update ..))⟩)); refine ⟨_,Heap.get?_update_self _ ho (Obj.isFreed_of_fields (Obj.data_mapFields hd _)),(Obj.cls_mapFields ..).trans hc,?_⟩
    rw [Obj.data_mapFields hd]; simp [rawInt]
theorem nx_end {b:Bool} {it l:Addr} {i:Nat} {items:Array Value} {Q:Value→Shared→Prop} (hh:A.handled=none) (hit:SqIt b s.heap it l i) (hl:SqIs b s.heap l items) (hx:items[i]?=none)
    (hE:∀ h' e,Heap.ExtBut it s.heap h'→(∃ o,h'.get? e=some o∧o.cls=.type "StopIteration")→E (.ref e) { s with heap:=h' }):wpAny (model prog w) A (Builtin.SmallTypes.nextOf (.ref it)) Q E s:=by
  cases b with
  | false=>exact wpAny_nextOf_list_end hh hit hl hx hE
  | true =>
    have ty:s.heap.IsTupleIter it l i:=hit
    obtain ⟨o,ho,hc,hd⟩:=id ty; obtain ⟨ol,hol,_,nl,hdl⟩:=hl
    unfold Builtin.SmallTypes.nextOf; refine wpAny_bind (wpAny_callSpecial?_slot (name:=Str.ofString "__next__") ty.typeIs F.slot_tuple_iterator_next (wpAny_call_entry F.slot_tuple_iterator_next ty.typeIs F.entry_tuple_iterator_next ?_ (F.args_tuple_iterator_next_1 _)))
    show wpAny _ _ (field (.ref it) 0 >>= _) _ _ s; refine wpAny_bind (wpAny_field ho hd (x:=.ref l) rfl ?_)
    show wpAny _ _ (if (Value.ref l == Value.none)=true then _ else _) _ _ s; rw [if_neg (show ¬ ((Value.ref l == Value.none)=true) from Bool.false_ne_true)]
    show wpAny _ _ (field (.ref it) 1 >>= _) _ _ s; refine wpAny_bind (wpAny_field ho hd (x:=.int i 0) rfl ?_)
    show wpAny _ _ (seqItems? (.ref l) >>= _) _ _ s; refine wpAny_bind (wpAny_seqItems hol hdl ?_); simp only [Int.toNat_natCast,hx]
    refine wpAny_bind (wpAny_rule (wpAny_bind (wpAny_setField ho hd (by simp) ?_))); show wpAny _ _ (newExc (.type "StopIteration") [] >>= _) _ _ _
    refine wpAny_bind ?_; simp only [newExc,newTuple]; refine wpAny_bind (wpAny_newObj_type ?_ (by size_fits))
    refine wpAny_bind (m:=firstArgMember _ _) (wpAny_of_eq (a:=Value.none) (by first | rfl | (simp only [firstArgMember]; rfl)) ?_); refine wpAny_newObj_type ?_ (by size_fits)
    simp only [raiseNew]; refine wpAny_bind (wpAny_handled ?_)
    first | rw [show A.in1.handled=none from hh] | rw [hh]
    refine wpAny_bind (wpAny_pure (wpAny_throw ?_)); exact hE _ _ (((Heap.SameBut.update ..).extBut.push _).push _) ⟨_,Heap.get?_push_size _ rfl,rfl⟩
abbrev itO (b:Bool) (l:Addr):Obj:={ cls:=.type (bif b then "tuple_iterator" else "list_iterator"),data:=.fields #[.ref l,.int 0 0] }
theorem iterN {b:Bool} {l:Addr} {xs:Array Value} {Q:Value→Shared→Prop} (h:SqIs b s.heap l xs) (q:Q (.ref s.heap.objs.size) { s with heap:=s.heap.push (itO b l) }):wpAny (model prog w) A (pyIter (.ref l)) Q E s:=by
  cases b with
  | false=>exact wpAny_pyIter_list h q
  | true=>exact wpAny_pyIter_tuple h q
end
end L2
set_option Elab.async false
set_option linter.all false
set_option maxRecDepth 100000
namespace L2
open PySem PySem.Spec PyProof.Rows
section
variable {X:Cx} {pins:List (Addr × Obj)} {σ:St} {H:Hp} {s:Shared} {h':Heap}
theorem Inv.turnedL {t':Nat} {fp:List Addr} (I:Inv X pins σ H s) (k:∀ b o,b ∉ fp→s.heap.get? b=some o→h'.get? b=some o) (hf:∀ b∈fp,FpOk X pins H b):Inv X pins σ H { s with heap:=h',toks:=t' }:=by
  have nit:∀ b u,H b=some u→b ∉ fp:=fun b u e z=>by rw [(hf b z).1] at e; cases e
  refine I.step (g':=s.gens) (d':=s.drawn) (ch:=fp) (fun b hb=>?_) (fun b o _ _ hc e _=>k b o hc e) (fun b o _ _ hc e _=>⟨o.slots,k b o hc e⟩) (fun _ _ _ _ n=>n)
    (fun b o hc e=>⟨o,k b o hc e⟩) (fun _ _ e=>e) (fun _ _ _ e=>e) (fun b ps e=>⟨#[],by rw [e]; simp⟩) (fun m hm=>?_) (fun b u e=>?_) I.bare
  · obtain ⟨f0,f1,f2,f3,f4,f5⟩:=hf b hb
    exact ⟨f3,f1,f4,f5⟩
  · obtain ⟨o,es,ep,ho,r⟩:=hm
    exact ⟨o,es,ep,k _ o (fun z=>(hf _ z).2.1 rfl) ho,r⟩
  · refine (I.hok b u e).stay (fun c v hc q=>k c v ?_ q) (fun _ q=>q) fun _ _ q=>q
    rcases hc with z | z
    · rw [z]; exact nit b u e
    · exact nit c _ z
theorem Un.putE {fs ex:List Addr} {H H1:Hp} {h h1:Heap} {a:Addr} {u:HO} (x:Un fs ex H H1 h h1) (ha:h.get? a=none) (hn:H1 a=none):Un fs ex H (upd H1 a u) h h1 where
  keep:=x.keep
  slot:=x.slot
  free:=fun b ob e n m=>by rw [upd_ne (fun z=>by subst z; rw [ha] at e; cases e)]; exact x.free b ob e n m
  there:=x.there
  tups:=fun b xs e=>by rw [upd_ne (ne_of_none (x.tups b xs e) hn)]; exact x.tups b xs e
  frzs:=fun b ob xs e=>by rw [upd_ne (ne_of_none (x.frzs b ob xs e) hn)]; exact x.frzs b ob xs e
  tbls:=fun b ps e=>by
    obtain ⟨m,q⟩:=x.tbls b ps e
    exact ⟨m,by rw [upd_ne (ne_of_none q hn)]; exact q⟩
theorem HOk.putE {P:Program} {w:World} {h:Heap} {a:Addr} {u:HO} (x:HOk P w H h) (hn:H a=none) (new:ObjOk P w (upd H a u) h a u):HOk P w (upd H a u) h:=fun b v e=>by
  by_cases hb:b=a
  · subst hb; rw [upd_same] at e; cases e; exact new
  · rw [upd_ne hb] at e
    exact (x b v e).stay (fun c q _ r=>r) (fun c q=>by rw [upd_ne (ne_of_none q hn)]; exact q) fun c xs q=>by rw [upd_ne (ne_of_none q hn)]; exact q
theorem Inv.put {a:Addr} {o:HO} (I:Inv X pins σ H s) (f:FpOk X pins H a) (hs:X.s₀.heap.get? a=none) (new:ObjOk X.prog X.w (upd H a o) s.heap a o):Inv X pins σ (upd H a o) s :=
  ⟨I.ok,I.os,I.bare,I.base.putE hs f.1,I.loc,I.cell,by rw [upd_ne (Ne.symm f.2.1)]; exact I.free,fun x c e=>by rw [upd_ne (f.2.2.2.2.1 x c e)]; exact I.freeC x c e,fun p hp=>by
    obtain ⟨q1,q2,q3⟩:=I.pin p hp
    exact ⟨q1,by rw [upd_ne (f.2.2.2.2.2 p hp)]; exact q2,q3⟩,HOk.putE I.hok f.1 new,I.len⟩
def sqO (b:Bool) (xs:List V):HO:=bif b then .tup xs else .lst xs
theorem sqO.inj {b:Bool} {xs ys:List V} (h:some (sqO b xs)=some (sqO b ys)):xs=ys:=by
  cases b <;> (injection h with h; injection h)
theorem Inv.sq {b:Bool} {a:Addr} {xs:List V} (I:Inv X pins σ H s) (h:H a=some (sqO b xs)):∃ its:List Value,Vals xs its∧SqIs b s.heap a its.toArray:=by
  cases b with
  | false=>obtain ⟨its,r,p,_⟩:=I.list (SqL.of h); exact ⟨its,r,p.isList⟩
  | true=>obtain ⟨its,r,p,_⟩:=I.tuple (SqT.of h); exact ⟨its,r,p⟩
end
section
variable {prog:Program} {w:World} {A:Around} {E:Value→Shared→Prop} {s:Shared}
end
section
variable {X:Cx}
end
end L2
set_option Elab.async false
set_option linter.all false
set_option maxRecDepth 100000
namespace L2
open PySem PySem.Spec PyProof.Rows
theorem SqIt.ext {b:Bool} {h h':Heap} {i l c:Addr} {k:Nat} (x:SqIt b h i l k) (s:Heap.ExtBut c h h') (n:i≠c):SqIt b h' i l k:=x.at fun o e=>s i o n e
section
variable {prog:Program} {w:World} {A:Around} {E:Value→Shared→Prop} {s:Shared}
theorem enumN_item {b:Bool} {e it l:Addr} {i:Nat} {n:Int} {items:Array Value} {x old:Value} {Q:Value→Shared→Prop} (he:IsEnum s.heap e it n old) (hit:SqIt b s.heap it l i) (hl:SqIs b s.heap l items) (hx:items[i]?=some x) (hne:e≠it)
    (hQ:∀ h' t,IsEnumOut h' e it (n+1) x s.heap.objs.size→SqIt b h' it l (i+1)→h'.get? s.heap.objs.size=some { cls:=.type "tuple",data:=.seq #[.int n t,x] }→(∀ c o,c≠e→c≠it→s.heap.get? c=some o→h'.get? c=some o)→Q (.ref s.heap.objs.size) { s with heap:=h',toks:=s.toks+1 }) :
    wpAny (model prog w) A (Builtin.«enumerate.__next__» ⟨[.ref e],[]⟩) (fun fin s'=>∃ v,fin=.done (.ret v)∧Q v s') E s:=by
  obtain ⟨hp,g,d,tk,os⟩:=s
  show wpAny _ _ (field (.ref e) 2 >>= _) _ _ _; refine wpAny_bind (wpAny_field he rfl (x:=.ref it) rfl ?_)
  refine wpAny_bind (nx_item hit hl hx fun h₁ hit₁ hs₁=>?_); replace hs₁:Heap.SameBut it hp h₁:=hs₁
  have he₁:IsEnum h₁ e it n old:=(hs₁.2 e hne).trans he
  show wpAny _ _ (field (.ref e) 3 >>= _) _ _ ⟨h₁,g,d,tk,os⟩; refine wpAny_bind (wpAny_field he₁ rfl (x:=rawInt n) rfl ?_)
  show wpAny _ _ (field (.ref e) 4 >>= _) _ _ ⟨h₁,g,d,tk,os⟩; refine wpAny_bind (wpAny_field he₁ rfl (x:=.none) rfl ?_)
  show wpAny _ _ (mkInt n >>= _) _ _ ⟨h₁,g,d,tk,os⟩; refine wpAny_bind (wpAny_mkInt ?_)
  show wpAny _ _ (setField (.ref e) 3 (rawInt (n+1)) >>= _) _ _ ⟨h₁,g,d,tk+1,os⟩; refine wpAny_bind (wpAny_setField_rec he₁ (by simp) fun h₂ he₂ hs₂=>?_)
  replace hs₂:Heap.SameBut e h₁ h₂:=hs₂; replace he₂:IsEnum h₂ e it (n+1) old:=he₂
  show wpAny _ _ (setField (.ref e) 4 .none >>= _) _ _ ⟨h₂,g,d,tk+1,os⟩; refine wpAny_bind (wpAny_setField_rec he₂ (by simp) fun h₃ he₃ hs₃=>?_)
  replace hs₃:Heap.SameBut e h₂ h₃:=hs₃; replace he₃:IsEnum h₃ e it (n+1) old:=he₃
  show wpAny _ _ (newTuple [.int n tk,x] >>= _) _ _ ⟨h₃,g,d,tk+1,os⟩; refine wpAny_bind (wpAny_newTuple ?_)
  have he₄:IsEnum (h₃.push { cls:=.type "tuple",data:=.seq #[.int n tk,x] }) e it (n+1) old:=Heap.get?_push_of_some _ he₃
  generalize hh₄:h₃.push { cls:=.type "tuple",data:=.seq #[.int n tk,x] }=h₄ at he₄
  have hsz:h₃.objs.size=hp.objs.size:=by rw [hs₃.1,hs₂.1,hs₁.1]
  have hel:e<hp.objs.size:=Heap.lt_size he
  have ht₄:h₄.get? hp.objs.size=some { cls:=.type "tuple",data:=.seq #[.int n tk,x] }:=by rw [← hh₄,← hsz]; exact Heap.get?_push_size _ rfl
  have hk₄:∀ c o,c≠e→c≠it→hp.get? c=some o→h₄.get? c=some o:=fun c o hbe hbi hb=>by rw [← hh₄]; exact Heap.get?_push_of_some _ (hs₃.extBut c o hbe (hs₂.extBut c o hbe (hs₁.extBut c o hbi hb)))
  have hit₄:SqIt b h₄ it l (i+1):=by rw [← hh₄]; exact ((hit₁.ext hs₂.extBut (Ne.symm hne)).ext hs₃.extBut (Ne.symm hne)).at fun o ho=>Heap.get?_push_of_some _ ho
  show wpAny _ _ (Builtin.SmallTypes.ownedTupleIsFree (.ref e) >>= _) _ _ ⟨h₄,g,d,tk+1,os⟩; rw [hsz]; clear hh₄ he₃ hs₃ he₂ hs₂ he₁ hs₁ hit₁ hsz h₃ h₂ h₁
  refine wpAny_bind ?_; unfold Builtin.SmallTypes.ownedTupleIsFree; refine wpAny_bind (wpAny_field he₄ rfl (x:=.none) rfl (wpAny_pure ?_)); simp only [if_true]
  refine wpAny_bind (wpAny_rule ?_); refine wpAny_bind (wpAny_field he₄ rfl (x:=old) rfl ?_); refine wpAny_bind (wpAny_setField_rec he₄ (by simp) fun h₅ he₅ hs₅=>?_)
  replace hs₅:Heap.SameBut e h₄ h₅:=hs₅; replace he₅:IsEnum h₅ e it (n+1) x:=he₅
  show wpAny _ _ (Builtin.SmallTypes.ownedTupleHandOut (.ref e) (.ref hp.objs.size) >>= _) _ _ ⟨h₅,g,d,tk+1,os⟩; refine wpAny_bind ?_; unfold Builtin.SmallTypes.ownedTupleHandOut
  refine wpAny_bind (wpAny_setField_rec he₅ (by simp) fun h₆ he₆ hs₆=>?_); replace hs₆:Heap.SameBut e h₅ h₆:=hs₆; replace he₆:IsEnumOut h₆ e it (n+1) x hp.objs.size:=he₆
  refine wpAny_setField_rec he₆ (by simp) fun h₇ he₇ hs₇=>?_; replace hs₇:Heap.SameBut e h₆ h₇:=hs₇; replace he₇:IsEnumOut h₇ e it (n+1) x hp.objs.size:=he₇
  refine wpAny_bind (wpAny_letGo (wpAny_pure ⟨_,rfl,hQ h₇ tk he₇ ?_ ?_ ?_⟩))
  · exact ((hit₄.ext hs₅.extBut (Ne.symm hne)).ext hs₆.extBut (Ne.symm hne)).ext hs₇.extBut (Ne.symm hne)
  · exact hs₇.extBut _ _ (Nat.ne_of_gt hel) (hs₆.extBut _ _ (Nat.ne_of_gt hel) (hs₅.extBut _ _ (Nat.ne_of_gt hel) ht₄))
  · exact fun c o hbe hbi hb=>hs₇.extBut c o hbe (hs₆.extBut c o hbe (hs₅.extBut c o hbe (hk₄ c o hbe hbi hb)))
theorem enumN_next {b:Bool} {e it l:Addr} {i:Nat} {n:Int} {items:Array Value} {x old:Value} {Q:Option Value→Shared→Prop} (he:IsEnum s.heap e it n old) (hit:SqIt b s.heap it l i) (hl:SqIs b s.heap l items) (hx:items[i]?=some x) (hne:e≠it)
    (hQ:∀ h' t,IsEnumOut h' e it (n+1) x s.heap.objs.size→SqIt b h' it l (i+1)→h'.get? s.heap.objs.size=some { cls:=.type "tuple",data:=.seq #[.int n t,x] }→(∀ c o,c≠e→c≠it→s.heap.get? c=some o→h'.get? c=some o)→Q (some (.ref s.heap.objs.size)) { s with heap:=h',toks:=s.toks+1 }) :
    wpAny (model prog w) A (pyNext (.ref e)) Q E s:=by
  have hT:s.TypeIs (.ref e) "enumerate" := ⟨_,he,rfl⟩
  unfold pyNext; refine wpAny_bind (wpAny_attempt (wpAny_callSpecial?_slot (name:=Str.ofString "__next__") hT F.slot_enumerate_next (wpAny_call_entry F.slot_enumerate_next hT F.entry_enumerate_next ?_ (F.args_enumerate_next_1 _))))
  exact enumN_item he hit hl hx hne fun h' t a b c k=>wpAny_pure (hQ h' t a b c k)
theorem enumN_stop {b:Bool} {e it l:Addr} {i:Nat} {n:Int} {items:Array Value} {old:Value} {Q:Option Value→Shared→Prop} (hh:A.handled=none) (he:IsEnum s.heap e it n old) (hit:SqIt b s.heap it l i) (hl:SqIs b s.heap l items) (hx:items[i]?=none)
    (hQ:∀ h',Heap.ExtBut it s.heap h'→Q none { s with heap:=h' }):wpAny (model prog w) A (pyNext (.ref e)) Q E s:=by
  have hT:s.TypeIs (.ref e) "enumerate" := ⟨_,he,rfl⟩
  unfold pyNext; refine wpAny_bind (wpAny_attempt (wpAny_callSpecial?_slot (name:=Str.ofString "__next__") hT F.slot_enumerate_next (wpAny_call_entry F.slot_enumerate_next hT F.entry_enumerate_next ?_ (F.args_enumerate_next_1 _))))
  show wpAny _ _ (field (.ref e) 2 >>= _) _ _ _; refine wpAny_bind (wpAny_field he rfl (x:=.ref it) rfl ?_); refine wpAny_bind (nx_end hh hit hl hx fun h' x he' hx'=>?_)
  obtain ⟨o,ho,hc⟩:=hx'; refine wpAny_bind (wpAny_isInstance (T := "StopIteration") (b:=true) ⟨o,ho,hc⟩ isSubtype_stop ?_); exact wpAny_pure (hQ _ he')
abbrev enO (it:Addr) (n:Int):Obj:={ cls:=.type "enumerate",data:=.fields #[.none,.bool false,.ref it,rawInt n,.none,.none] }
theorem meetsE (b:Bool) (l:Addr) (xs:Array Value):Meets (Builtin.«enumerate.__new__» ⟨[.type "enumerate",.ref l],[]⟩) (fun _ R s=>SqIs b s.heap l xs∧R (.ok (.ret (.ref (s.heap.push (itO b l)).objs.size))) { s with heap:=(s.heap.push (itO b l)).push (enO s.heap.objs.size 0) }) :=
  .of_wp fun prog w A R s h=>by
    obtain ⟨hp,g,d,tk,os⟩:=s; obtain ⟨hl,h⟩:=h
    have hsub:=sub_enumerate
    have hL:SqIs b (Shared.heap ⟨hp,g,d,tk,os⟩) l xs:=hl
    wp_walk
    refine wpAny_stack_any fun st=>wpAny_pure ?_
    split
    · rename_i c _ _ _ _ _
      cases (c == Value.type "enumerate") <;> (wp_walk using iterN hL) <;> exact ⟨_,rfl,h⟩
    · wp_walk using iterN hL
      exact ⟨_,rfl,h⟩
theorem meetsE1 (b:Bool) (l:Addr) (xs:Array Value) (t:Tok):Meets (Builtin.«enumerate.__new__» ⟨[.type "enumerate",.ref l],[(Str.ofString "start",.int 1 t)]⟩) (fun _ R s=>SqIs b s.heap l xs∧R (.ok (.ret (.ref (s.heap.push (itO b l)).objs.size))) { s with heap:=(s.heap.push (itO b l)).push (enO s.heap.objs.size 1) }) :=
  .of_wp fun prog w A R s h=>by
    obtain ⟨hp,g,d,tk,os⟩:=s; obtain ⟨hl,h⟩:=h
    have hsub:=sub_enumerate
    have hL:SqIs b (Shared.heap ⟨hp,g,d,tk,os⟩) l xs:=hl
    wp_walk
    refine wpAny_stack_any fun st=>wpAny_pure ?_
    split
    · rename_i c _ _ _ _ _
      cases (c == Value.type "enumerate") <;> (wp_walk using iterN hL) <;> exact ⟨_,rfl,h⟩
    · wp_walk using iterN hL
      exact ⟨_,rfl,h⟩
end
end L2
set_option Elab.async false
set_option linter.all false
set_option maxRecDepth 100000
namespace L2
open PySem PySem.Spec PyProof.Rows
section
variable {prog:Program} {w:World} {A:Around} {E:Value→Shared→Prop} {s:Shared}
structure EAt (b:Bool) (e it l:Addr) (n:Int) (k:Nat) (h:Heap):Prop where
  e:∃ old,IsEnum h e it (n+k) old
  i:SqIt b h it l k
theorem callE {b:Bool} {l:Addr} {xs:Array Value} {Q:Value→Shared→Prop} (hl:SqIs b s.heap l xs)
    (h:∀ h',EAt b (s.heap.objs.size+1) s.heap.objs.size l 0 0 h'→(∀ c o,s.heap.get? c=some o→h'.get? c=some o)→Q (.ref (s.heap.objs.size+1)) { s with heap:=h' }) :
    wpAny (model prog w) A (call (.type "enumerate") [.ref l]) Q E s:=by
  refine callType_new F.called_enumerate (by decide) (F.typeCall_enumerate_1 _) (F.newCall_enumerate_1 _) (fun obj=>F.args_object_init_2 obj _) F.entry_enumerate_new (meetsE b l xs) ⟨hl,?_⟩
  have z1:(s.heap.push (itO b l)).objs.size=s.heap.objs.size+1:=Heap.size_push ..
  have g2:((s.heap.push (itO b l)).push (enO s.heap.objs.size 0)).get? (s.heap.push (itO b l)).objs.size=some _:=Heap.get?_push_size _ rfl
  have g1:((s.heap.push (itO b l)).push (enO s.heap.objs.size 0)).get? s.heap.objs.size=some _:=Heap.get?_push_of_some _ (Heap.get?_push_size _ rfl)
  show _∧_
  rw [z1] at g2 ⊢
  exact ⟨⟨_,g2,rfl⟩,h _ ⟨⟨_,g2⟩,⟨_,g1,rfl,rfl⟩⟩ fun c o x=>Heap.get?_push_of_some _ (Heap.get?_push_of_some _ x)⟩
theorem tyKw {T newId:String} {Bn:Builtin} {args:List Value} {kw:List (Str × Value)} {S:PySem.Spec} {Q:Value→Shared→Prop} (ft:TypeCalled T newId "object.__init__")
    (hct:checkTypeCall T ⟨args,kw⟩=pure ()) (hcn:checkBuiltinCall newId ⟨.type T::args,kw⟩=pure ()) (hok:∀ obj,argsOk "object.__init__" ⟨obj::args,kw⟩)
    (hin:∀ obj,Meets (Builtin.«object.__init__» ⟨obj::args,kw⟩) (fun _ R s=>s.TypeIs obj T∧R (.ok (.ret .none)) s)) (entryN:entryFor table newId=some Bn) (g:Meets (Bn ⟨.type T::args,kw⟩) S)
    (h:S A.in1 (wants (fun obj s₁=>s₁.TypeIs obj T∧Q obj s₁) E) s):wpAny (model prog w) A (call (.type T) args kw) Q E s:=by
  obtain ⟨c,tl,hmro⟩:=ft.mro; have hmade:=ft.made; have hsub:=ft.sub; refine wpAny_call (codeAny_of_tree ?_)
  show wpAny _ _ (callAny (.type T) _) _ _ _
  refine wpAny_pure ⟨Code.quiet_builtin _ (by decide +kernel),codeAny_builtin F.entry_type_call ?_⟩; rw [Around.under_plain (weight_type_call_type T args kw) (units_type_call_type T args kw)]
  have h1:=ft.notType; have h2:=ft.canCreate
  repeat (any_goals (first | assumption | wp_step))
  refine codeAny_mono (codeAny_call_builtin ft.plain entryN (wpAny_of_eq hcn (g prog w A.in1 _ s h))) fun r s₁ hr=>?_
  cases r with
  | error e=>exact hr
  | ok fl =>
    cases fl with
    | ret obj =>
      obtain ⟨hT,hq⟩:=hr; have hli:=ft.init.lookup; have hbi:=ft.init.bind obj; repeat (any_goals (first | assumption | wp_step))
      refine codeAny_mono (codeAny_call_builtin ft.init.plain F.entry_object_init (ft.init.check _ _ _ _ _ _ _ _ hT (hok obj) (hin obj prog w A.in1 (wants (fun r s₂=>r=.none∧Q obj s₂) E) s₁ ⟨hT,rfl,hq⟩))) fun r₂ s₂ hr₂=>?_
      cases r₂ with
      | error e=>exact hr₂
      | ok fl₂ =>
        cases fl₂ with
        | ret r=>obtain ⟨rfl,hq⟩:=hr₂; repeat (any_goals (first | assumption | wp_step))
        | _=>exact hr₂.elim
    | _=>exact hr.elim
theorem init_kw {T newId:String} {self a:Value} {k:Str × Value} (hl:typeLookup (.type T) "__init__" = pure (some (.builtin "object.__init__"))) (hm:Bind.madeBy (.type T)=pure (some newId)) (hne:(some newId != some "object.__new__")=true) :
    Meets (Builtin.«object.__init__» ⟨[self,a],[k]⟩) (fun _ R s=>s.TypeIs self T∧R (.ok (.ret .none)) s):=by
  refine Meets.of_wp fun prog w A R s hs=>?_
  obtain ⟨hT,hq⟩:=hs
  repeat (any_goals (first | assumption | wp_step))
  exact ⟨_,rfl,hq⟩
theorem en_ct (a v:Value):checkTypeCall "enumerate" ⟨[a],[(Str.ofString "start",v)]⟩=pure ():=by kernel_rfl
theorem en_cn (a v:Value):checkBuiltinCall "enumerate.__new__" ⟨[.type "enumerate",a],[(Str.ofString "start",v)]⟩=pure ():=by kernel_rfl
theorem en_ok (o a v:Value):argsOk "object.__init__" ⟨[o,a],[(Str.ofString "start",v)]⟩:=by unfold argsOk; kernel_rfl
theorem callE1 {b:Bool} {l:Addr} {xs:Array Value} {t:Tok} {Q:Value→Shared→Prop} (hl:SqIs b s.heap l xs)
    (h:∀ h',EAt b (s.heap.objs.size+1) s.heap.objs.size l 1 0 h'→(∀ c o,s.heap.get? c=some o→h'.get? c=some o)→Q (.ref (s.heap.objs.size+1)) { s with heap:=h' }) :
    wpAny (model prog w) A (call (.type "enumerate") [.ref l] [(Str.ofString "start",.int 1 t)]) Q E s:=by
  refine tyKw F.called_enumerate (en_ct _ _) (en_cn _ _) (fun obj=>en_ok obj _ _) (fun obj=>init_kw F.called_enumerate.init.lookup F.called_enumerate.made (by decide)) F.entry_enumerate_new (meetsE1 b l xs t) ⟨hl,?_⟩
  have z1:(s.heap.push (itO b l)).objs.size=s.heap.objs.size+1:=Heap.size_push ..
  have g2:((s.heap.push (itO b l)).push (enO s.heap.objs.size 1)).get? (s.heap.push (itO b l)).objs.size=some _:=Heap.get?_push_size _ rfl
  have g1:((s.heap.push (itO b l)).push (enO s.heap.objs.size 1)).get? s.heap.objs.size=some _:=Heap.get?_push_of_some _ (Heap.get?_push_size _ rfl)
  show _∧_
  rw [z1] at g2 ⊢
  exact ⟨⟨_,g2,rfl⟩,h _ ⟨⟨_,g2⟩,⟨_,g1,rfl,rfl⟩⟩ fun c o x=>Heap.get?_push_of_some _ (Heap.get?_push_of_some _ x)⟩
end
def Ite (b:Bool) (l:Addr) (n:Int):It :=
  ⟨fun i H=>∃ xs x,H l=some (sqO b xs)∧xs[i]?=some x,
   fun i H v H'=>∃ q x,v=.ref q∧H q=none∧H'=upd H q (.tup [.int (n+(i:Nat)),x])∧∀ xs,H l=some (sqO b xs)→xs[i]?=some x,
   fun i H=>∃ xs,H l=some (sqO b xs)∧xs.length≤i⟩
theorem turn_enum {P:Program} {w:World} {K:PySem.W.Frag} {elts:List Expr} {x1} {tp:Pos} {b:Bool} {e it l:Addr} {n:Int} (hne:e≠it):Turn P w K (.Tuple elts x1 tp) (Ite b l n) [e,it] e (fun i h=>EAt b e it l n i h) where
  mem:=by simp
  obj:=fun i h st c hb=>by
    obtain ⟨old,e1⟩:=st.e
    obtain ⟨o2,e2,_,d2⟩:=st.i
    simp only [List.mem_cons,List.not_mem_nil,or_false] at hb
    rcases hb with rfl | rfl
    · exact ⟨_,e1,fun v q=>by cases q⟩
    · exact ⟨_,e2,fun v q=>by rw [d2] at q; cases q⟩
  keep:=fun i h h' st k=>by
    obtain ⟨old,e1⟩:=st.e
    exact ⟨⟨old,k _ (by simp) _ e1⟩,st.i.at fun o e=>k _ (by simp) o e⟩
  item:=by
    intro X hP hw hK hc i pins s σ H E I hf st hg
    subst hP hw hK
    obtain ⟨xs,x,e1,hx⟩:=hg
    obtain ⟨u1,r1,p1⟩:=I.sq e1
    obtain ⟨ux,hux,rx⟩:=r1.get hx
    obtain ⟨old,en⟩:=st.e
    refine enumN_next en st.i p1 (x:=ux) (by simpa using hux) hne fun h' t eo it' hp hk=>?_
    refine ⟨_,rfl,wpAny_letOwnedTupleGo_enum eo fun h2 en2 hs2=>?_⟩
    have hs2:Heap.SameBut e h' h2:=hs2
    have kk:∀ c o,c ∉ [e,it]→s.heap.get? c=some o→h2.get? c=some o:=fun c o hb e'=>by
      simp only [List.mem_cons,List.not_mem_nil,or_false,not_or] at hb
      exact hs2.extBut c o hb.1 (hk c o hb.1 hb.2 e')
    have I1:Inv X pins σ H { s with heap:=h2,toks:=s.toks+1 }:=I.turnedL (t':=s.toks+1) kk hf
    have fq:FpOk X pins H s.heap.objs.size:=I.fpOk (Nat.le_refl _) (I.hok.fresh (Nat.le_refl _))
    have e0:X.s₀.heap.get? s.heap.objs.size=none:=by
      cases q:X.s₀.heap.get? s.heap.objs.size with
      | none=>rfl
      | some o=>exact absurd (Nat.lt_of_lt_of_le (Heap.lt_size q) I.sz) (Nat.lt_irrefl _)
    have nz:s.heap.objs.size≠e:=fun q=>absurd (Heap.lt_size en) (by rw [← q]; exact Nat.lt_irrefl _)
    have ni:s.heap.objs.size≠it:=fun q=>by obtain ⟨o2,e2,_⟩:=st.i; exact absurd (Heap.lt_size e2) (by rw [← q]; exact Nat.lt_irrefl _)
    have ecast:n+((i+1:Nat):Int)=n+(i:Nat)+1:=by omega
    refine ⟨.ref s.heap.objs.size,upd H s.heap.objs.size (.tup [.int (n+(i:Nat)),x]),I1.put fq e0 ⟨⟨small64 (by show 2≤64; decide),_,hs2.extBut _ _ nz hp,rfl⟩,[.int (n+(i:Nat)) t,ux],.cons ⟨t,rfl⟩ (.cons rx .nil),⟨_,hs2.extBut _ _ nz hp,rfl,_,rfl⟩⟩,rfl,⟨_,x,rfl,fq.1,rfl,fun xs' q1=>?_⟩,
      ⟨⟨_,by rw [ecast]; exact en2⟩,it'.ext hs2.extBut (Ne.symm hne)⟩,fun c hb=>?_⟩
    · rw [e1] at q1
      rw [← sqO.inj q1]
      exact hx
    · have nb:c≠s.heap.objs.size:=fun q=>by
        simp only [List.mem_cons,List.not_mem_nil,or_false] at hb
        rcases hb with rfl | rfl
        · exact nz q.symm
        · exact ni q.symm
      rw [upd_ne nb]
      exact (hf c hb).1
  done:=by
    intro X hP hw hK hc i pins s σ H E I hf st hg
    subst hP hw hK
    obtain ⟨xs,e1,hl⟩:=hg
    obtain ⟨u1,r1,p1⟩:=I.sq e1
    have l1:=r1.length
    obtain ⟨old,en⟩:=st.e
    refine enumN_stop (I.ok.hd hc) en st.i p1 (by simp; omega) fun h' eb=>⟨rfl,I.turnedL (t':=s.toks) (fun c o hb e'=>?_) hf⟩
    simp only [List.mem_cons,List.not_mem_nil,or_false,not_or] at hb
    exact eb c o hb.2 e'
  self:=fun _ _ _ _ _ st h=>by
    obtain ⟨old,en⟩:=st.e
    exact wpAny_pyIter_enum en h
def iEnum (b:Bool) (n:Int) (ta:TA):TI:=fun σ H R=>ta σ H fun vs H1=>∃ l xs,vs=[.ref l]∧H1 l=some (sqO b xs)∧R (Ite b l n) H1
theorem boot_enum:bootBuiltins (Str.ofString "enumerate")=some (Value.type "enumerate"):=by decide +kernel
section
variable {X:Cx}
theorem pie_enum {pins:List (Addr × Obj)} {σ:St} {tg:Expr} {elts:List Expr} {x1} {tp:Pos} {b:Bool} {l:Addr} {n:Int} {H1:Hp} {s1:Shared} {R:It→Hp→Prop} {h':Heap} (I1:Inv X pins σ H1 s1) (Z:EAt b (s1.heap.objs.size+1) s1.heap.objs.size l n 0 h') (kk:∀ c o,s1.heap.get? c=some o→h'.get? c=some o) (q:R (Ite b l n) H1) :
    wpAny (model X.prog X.w) X.A (pyIter (.ref (s1.heap.objs.size+1))) (PIE X pins σ (.Tuple elts x1 tp) R) X.xe { s1 with heap:=h' }:=by
  obtain ⟨old,en⟩:=Z.e
  refine wpAny_pyIter_enum en ?_
  refine ⟨_,[s1.heap.objs.size+1,s1.heap.objs.size],_,_,H1,rfl,I1.kept (t':=s1.toks) kk,turn_enum (fun h=>absurd (show (s1.heap.objs.size+1:Nat)=s1.heap.objs.size from h) (by omega)),Z,fun c hb=>?_,q⟩
  have hle:s1.heap.objs.size≤c:=by
    simp only [List.mem_cons,List.not_mem_nil,or_false] at hb
    rcases hb with rfl | rfl
    · exact Nat.le_add_right _ _
    · exact Nat.le_refl _
  exact I1.fpOk hle (I1.hok.fresh hle)
theorem wi_enum (b:Bool) {a:Expr} {ta:TA} {p pos tp:Pos} {elts:List Expr} {x1} (hg:Gl X "enumerate") (hm:X.mg "enumerate" = none) (ha:PAw X [a] ta) (hs:starEach [a] X.env=[(false,eval a X.env)]:=by first | exact se_Name | exact se_Call | exact se_Subscript | rfl) :
    PIw X (.Tuple elts x1 tp) (.Call (.Name "enumerate" p) [a] [] pos) (iEnum b 0 ta):=⟨by
  intro pins s σ H R I h
  refine Call_ (ld_blt I hg hm boot_enum (PyProof.Rows.callWith_type1 (thn (ha.p pos pins s σ H _ I h) fun us s1 ⟨vs,H1,I1,r1,q1⟩=>?_) (by rw [hs]; rfl) (by rfl)))
  obtain ⟨l,xs,e,e1,q⟩:=q1
  subst e
  obtain ⟨u,rfl,ru⟩:=vals1 r1
  cases ru
  obtain ⟨u1,_,p1⟩:=I1.sq e1
  exact callE p1 fun h' Z kk=>pie_enum (tg:=.Tuple elts x1 tp) I1 Z kk q⟩
theorem for_enum {b:Bool} {l:Addr} {n:Int} {xs:List V} {g:TG} {tb:TS} {D:Ends} {σ:St} {H:Hp} (Pv:Nat→St→Hp→Prop) (h0:Pv 0 σ H) (hl:∀ i σ H,Pv i σ H→H l=some (sqO b xs))
    (hs:∀ i x q σ H H',xs[i]?=some x→Pv i σ H→H q=none→H' q=some (.tup [.int (n+(i:Nat)),x])→Same H H'→g (.ref q) σ H' fun σ2 H2=>tb { D with nx:=Pv (i+1),ct:=Pv (i+1),bk:=D.nx } σ2 H2) (hd:∀ σ H,Pv xs.length σ H→D.nx σ H) :
    ∃ W:Nat→Nat→St→Hp→Prop,(∃ m,W 0 m σ H)∧∀ i m σ H,W i m σ H →
      ((Ite b l n).stop i H∧D.nx σ H)∨((Ite b l n).go i H∧∃ N:St→Hp→Prop,(∀ σ' H',N σ' H'→∃ m',m' < m∧W (i+1) m' σ' H')∧∀ x H',(Ite b l n).yld i H x H'→g x σ H' fun σ2 H2=>tb { D with nx:=N,ct:=N,bk:=D.nx } σ2 H2):=by
  refine ⟨fun i m σ H=>m=xs.length - i∧i≤xs.length∧Pv i σ H,⟨_,rfl,Nat.zero_le _,h0⟩,?_⟩
  rintro i m σ H ⟨rfl,hi,p⟩
  have q1:=hl i σ H p
  by_cases hlt:i<xs.length
  · have hx:xs[i]?=some xs[i]:=List.getElem?_eq_getElem hlt
    refine .inr ⟨⟨xs,_,q1,hx⟩,Pv (i+1),fun σ' H' p'=>⟨_,by omega,rfl,hlt,p'⟩,fun v H' y=>?_⟩
    obtain ⟨q,x,rfl,hq,rfl,hh⟩:=y
    exact hs i x q σ H _ (hh xs q1) p hq upd_same (Same.upd hq)
  · have e:i=xs.length:=by omega
    subst e
    exact .inl ⟨⟨xs,q1,Nat.le_refl _⟩,hd σ H p⟩
end
@[irreducible] def rJoin (K:PySem.W.Frag):V→List V→Hp→VK→Prop:=fun x vs H Q=>∃ sep p ts,x=.str sep∧vs=[.ref p]∧(SqL K H p (ts.map V.str)∨SqT K H p (ts.map V.str))∧(ts.map (·.length)).sum+ts.length*sep.length≤16777216∧Q (.str (Txt.join sep ts)) H
theorem rjoin {K:PySem.W.Frag} {H:Hp} {Q:VK} {sep:Str} {p:Addr} {ts:List Str} (h:SqL K H p (ts.map V.str)∨SqT K H p (ts.map V.str)) (z:(ts.map (·.length)).sum+ts.length*sep.length≤16777216) (q:Q (.str (Txt.join sep ts)) H):rJoin K (.str sep) [.ref p] H Q:=by
  unfold rJoin; exact ⟨sep,p,ts,rfl,rfl,h,z,q⟩
theorem strs_vals:∀ {ts:List Str} {us:List Value},Vals (ts.map V.str) us→StrsAre us ts
  | [],_,h=>by cases h; exact .nil
  | t::ts,_,h=>by
    cases h with
    | cons r rr=>obtain ⟨tk,rfl⟩:=r; exact .cons t tk (strs_vals rr)
theorem mt_join {X:Cx} (K:PySem.W.Frag) (hK:X.K=K:=by rfl):MtR X "str.join" (rJoin K):=by
  subst hK
  unfold rJoin
  intro pins s σ H x vs v us Q I rx rv h
  obtain ⟨sep,p,ts,rfl,rfl,hp,z,q⟩:=h
  obtain ⟨t,rfl⟩:=rx
  obtain ⟨u,rfl,ru⟩:=vals1 rv
  cases ru
  rcases hp with hp | hp
  · obtain ⟨its,r,pl,_⟩:=I.list hp
    exact join_list pl.isList (strs_vals (by simpa using r)) z fun t' k=>⟨.str _,H,I.tok _,⟨_,rfl⟩,q⟩
  · obtain ⟨its,r,pl,_⟩:=I.tuple hp
    exact join_tuple pl (strs_vals (by simpa using r)) z fun t' k=>⟨.str _,H,I.tok _,⟨_,rfl⟩,q⟩
end L2
set_option Elab.async false
set_option linter.all false
set_option maxRecDepth 100000
namespace L2
open PySem PySem.Spec PyProof.Rows
theorem cwTyKw {M:Model} {A:Around} {E:Value→Shared→Prop} {s:Shared} {env:Env} {pos:Pos} {T:String} {e:Expr} {kws:List Keyword} {Q:Value→Shared→Prop}
    (h:wpAny M A (spliced (backTo pos (starEach [e] env))) (fun vs s₁=>wpAny M A (evalAll ((backToKw pos (keywordEach kws env)).map (·.2))) (fun kvs s₂=>wpAny M A (call (.type T) vs (((backToKw pos (keywordEach kws env)).filterMap (·.1)).zip kvs)) Q E s₂) E s₁) E s)
    (he:backTo pos (starEach [e] env)=[(false,eval e env)]) (hall:(backToKw pos (keywordEach kws env)).all (·.1.isSome)=true) (hkw:(backToKw pos (keywordEach kws env)).any (·.1.isNone)=false) :
    wpAny M A (callWith pos (.type T) [] (backTo pos (starEach [e] env)) (backToKw pos (keywordEach kws env))) Q E s:=by
  rw [he] at h ⊢
  have hp:[(false,eval e env)].any (·.1)=false:=rfl
  have h1:wpAny M A (evalArgs (.type T) true [(false,eval e env)] (backToKw pos (keywordEach kws env))) (fun a s₁=>wpAny M A (call (.type T) ([]++a.pos) a.kw) Q E s₁) E s:=evalArgs_kwB hall h
  unfold callWith; refine wpAny_bind (wpAny_holding (wpAny_mono h1 (fun a s₁ h₁=>wpAny_bind (wpAny_standAt ?_)) fun _ _ x=>x)); simp only [hp,hkw,Bool.or_false]
  refine wpAny_bind (wpAny_pure ?_); exact wpAny_bind (wpAny_mono h₁ (fun r s₂ hr=>wpAny_bind (wpAny_holding (wpAny_point (wpAny_pure hr)))) fun _ _ x=>x)
section
variable {X:Cx}
theorem wi_enumS (b:Bool) {a v:Expr} {ta:TA} {tv:TE} {p pos tp kp:Pos} {elts:List Expr} {x1} (hg:Gl X "enumerate") (hm:X.mg "enumerate" = none) (ha:PAw X [a] ta) (hv:PEw X v tv) (ht:∀ σ H Q,tv σ H Q↔Q (.int 1) H)
    (he:eval (.Call (.Name "enumerate" p) [a] [⟨some "start",v,kp⟩] pos) X.env=(do callWith pos (← eval (.Name "enumerate" p) X.env) [] (backTo pos (starEach [a] X.env)) (backToKw pos (keywordEach [⟨some "start",v,kp⟩] X.env))):=by rfl)
    (hs:starEach [a] X.env=[(false,eval a X.env)]:=by first | exact se_Name | exact se_Call | exact se_Subscript | rfl) :
    PIw X (.Tuple elts x1 tp) (.Call (.Name "enumerate" p) [a] [⟨some "start",v,kp⟩] pos) (iEnum b 1 ta):=⟨by
  intro pins s σ H R I h
  rw [he]
  refine wpAny_bind (ld_blt I hg hm boot_enum ?_)
  refine cwTyKw ?_ (by rw [hs]; rfl) rfl rfl
  refine thn (ha.p pos pins s σ H _ I h) fun us s1 ⟨vs,H1,I1,r1,q1⟩=>?_
  obtain ⟨l,xs,e,e1,q⟩:=q1
  subst e
  obtain ⟨u,rfl,ru⟩:=vals1 r1
  cases ru
  refine kws_cons (thn (hv.p pins s1 σ H1 (fun w H'=>w=.int 1∧H'=H1) I1 ((ht _ _ _).mpr ⟨rfl,rfl⟩)) fun u2 s2 ⟨w,H2,I2,rw2,ew,eH⟩=>?_)
  subst ew eH
  obtain ⟨t,rfl⟩:=rw2
  refine kws_nil ?_
  obtain ⟨u1,_,p1⟩:=I2.sq e1
  exact callE1 p1 fun h' Z kk=>pie_enum (tg:=.Tuple elts x1 tp) I2 Z kk q⟩
end
end L2
set_option Elab.async false
set_option linter.all false
set_option maxRecDepth 100000
namespace L2
open PySem
def intsAre:List Value→List Int→Bool
  | [],[]=>true
  | .int i _::vs,n::ns=>decide (i=n)&&intsAre vs ns
  | _,_=>false
def intsIn (K:PySem.W.Frag) (a:Addr) (ns:List Int):Bool :=
  match K.lookup a with
  | some o=>(match o.cls with | .type n=>n == "tuple" | _=>false)&&(match o.data with | .seq xs _=>decide (xs.size≤64)&&intsAre xs.toList ns | _=>false)
  | none=>false
theorem intsAre.vals:∀ {vs:List Value} {ns:List Int},intsAre vs ns=true→Vals (ns.map V.int) vs
  | [],[],_=>.nil
  | v::vs,n::ns,h=>by
    cases v with
    | int i t =>
      have h':(decide (i=n)&&intsAre vs ns)=true:=h
      rw [Bool.and_eq_true] at h'
      have e:=of_decide_eq_true h'.1
      subst e
      exact .cons ⟨t,rfl⟩ (intsAre.vals h'.2)
    | _=>cases h
  | [],_::_,h=>by cases h
  | v::_,[],h=>by cases v <;> cases h
theorem sqT_ints {K:PySem.W.Frag} {H:Hp} {a:Addr} {ns:List Int} (h:intsIn K a ns=true):SqT K H a (ns.map V.int):=by
  unfold intsIn at h
  split at h
  · rename_i o ho
    rw [Bool.and_eq_true] at h
    obtain ⟨h1,h2⟩:=h
    split at h1
    · rename_i n hn
      split at h2
      · rename_i xs m hx
        rw [Bool.and_eq_true] at h2
        have e:n = "tuple" := by simpa using h1
        subst e
        exact .inr ⟨o,xs,m,ho,hn,hx,small64 (of_decide_eq_true h2.1),intsAre.vals h2.2⟩
      · cases h2
    · cases h1
  · cases h
mutual
def RepK (K:PySem.W.Frag) (H:Hp):PyData→V→Prop
  | .none,v=>v=.non
  | .bool b,v=>v=.bl b
  | .int i,v=>v=.int i
  | .str x,v=>v=.str x
  | .list ds,v=>∃ a xs,v=.ref a∧H a=some (.lst xs)∧RepKL K H ds xs
  | .tuple ds,v=>∃ a xs,v=.ref a∧SqT K H a xs∧RepKL K H ds xs
  | .dict kvs,v=>kvs=[]∧∃ a,v=.ref a∧H a=some (.dK [])
def RepKL (K:PySem.W.Frag) (H:Hp):List PyData→List V→Prop
  | [],vs=>vs=[]
  | d::ds,vs=>∃ x xs,vs=x::xs∧RepK K H d x∧RepKL K H ds xs
end
mutual
theorem Rep.k {K:PySem.W.Frag} {H:Hp}:∀ {d:PyData} {v:V},Rep H d v→RepK K H d v
  | .none,_,h=>h
  | .bool _,_,h=>h
  | .int _,_,h=>h
  | .str _,_,h=>h
  | .list ds,_,h=>by
    unfold Rep at h; unfold RepK
    obtain ⟨a,xs,rfl,h1,h2⟩:=h
    exact ⟨a,xs,rfl,h1,RepL.k h2⟩
  | .tuple ds,_,h=>by
    unfold Rep at h; unfold RepK
    obtain ⟨a,xs,rfl,h1,h2⟩:=h
    exact ⟨a,xs,rfl,SqT.of h1,RepL.k h2⟩
  | .dict kvs,_,h=>by unfold Rep at h; unfold RepK; exact h
theorem RepL.k {K:PySem.W.Frag} {H:Hp}:∀ {ds:List PyData} {vs:List V},RepL H ds vs→RepKL K H ds vs
  | [],_,h=>h
  | d::ds,_,h=>by
    unfold RepL at h; unfold RepKL
    obtain ⟨x,xs,rfl,h1,h2⟩:=h
    exact ⟨x,xs,rfl,Rep.k h1,RepL.k h2⟩
end
theorem RepK.tup {K:PySem.W.Frag} {H:Hp} {a:Addr} {xs:List V} {ds:List PyData} (h:SqT K H a xs) (r:RepKL K H ds xs):RepK K H (.tuple ds) (.ref a):=by
  unfold RepK; exact ⟨a,xs,rfl,h,r⟩
theorem RepKL.ints {K:PySem.W.Frag} {H:Hp}:∀ ns:List Int,RepKL K H (ns.map PyData.int) (ns.map V.int)
  | []=>by unfold RepKL; rfl
  | n::ns=>by unfold RepKL; exact ⟨_,_,rfl,by unfold RepK; rfl,RepKL.ints ns⟩
section
variable {X:Cx} {pins:List (Addr × Obj)} {σ:St} {H:Hp} {s:Shared}
mutual
theorem RepK.reads (I:Inv X pins σ H s):∀ {d:PyData} {v:V} {u:Value},RepK X.K H d v→RelV v u→∃ as,Reads s.heap u d as
  | .none,_,u,h,r=>by
    cases (show _=V.non from h); cases (show u=Value.none from r); exact ⟨_,.none⟩
  | .bool b,_,u,h,r=>by
    cases (show _=V.bl b from h); cases (show u=Value.bool b from r); exact ⟨_,.bool b⟩
  | .int b,_,u,h,r=>by
    cases (show _=V.int b from h); obtain ⟨t,q⟩:=(show ∃ t,u=Value.int b t from r); cases q; exact ⟨_,.int b t⟩
  | .str b,_,u,h,r=>by
    cases (show _=V.str b from h); obtain ⟨t,q⟩:=(show ∃ t,u=Value.str b t from r); cases q; exact ⟨_,.str b t⟩
  | .list ds,v,u,h,r=>by
    unfold RepK at h
    obtain ⟨a,xs,rfl,h1,h2⟩:=h
    cases (show u=Value.ref a from r)
    obtain ⟨_,its,n,r',e⟩:=(show ObjOk X.prog X.w H s.heap a (.lst xs) from I.hok a _ h1)
    obtain ⟨as,q⟩:=RepKL.reads I h2 r'
    exact ⟨_,.list e rfl rfl (by simpa using q)⟩
  | .tuple ds,v,u,h,r=>by
    unfold RepK at h
    obtain ⟨a,xs,rfl,h1,h2⟩:=h
    cases (show u=Value.ref a from r)
    obtain ⟨its,r',⟨o,e,hc,n,hd⟩,_⟩:=I.tuple h1
    obtain ⟨as,q⟩:=RepKL.reads I h2 r'
    exact ⟨_,.tuple e hc hd (by simpa using q)⟩
  | .dict kvs,v,u,h,r=>Rep.reads I (d:=.dict kvs) (by unfold Rep; unfold RepK at h; exact h) r
theorem RepKL.reads (I:Inv X pins σ H s):∀ {ds:List PyData} {vs:List V} {us:List Value},RepKL X.K H ds vs→Vals vs us→∃ as,ReadsAll s.heap us ds as
  | [],_,us,h,r=>by
    cases (show _=[] from h); cases r; exact ⟨_,.nil⟩
  | d::ds,_,us,h,r=>by
    unfold RepKL at h
    obtain ⟨x,xs,rfl,h1,h2⟩:=h
    cases r with
    | cons r1 r2 =>
      obtain ⟨as,q1⟩:=RepK.reads I h1 r1
      obtain ⟨bs,q2⟩:=RepKL.reads I h2 r2
      exact ⟨_,.cons q1 q2⟩
end
end
@[irreducible] def rEqK (K:PySem.W.Frag) (b:Bool):R2:=fun x y H Q=>∃ d d',RepK K H d x∧RepK K H d' y∧SeqAt.shaped d=true∧SeqAt.shaped d'=true∧Q (.bl (b == PyData.eqv d d')) H
section
variable {X:Cx}
theorem op_eqK (K:PySem.W.Frag) (hu:X.A.units+64<cLine) (hK:X.K=K:=by rfl):OpR X (compareOp .Eq) (rEqK K true):=by
  subst hK
  unfold rEqK
  intro pins s σ H x y v u Q I rx ry h
  obtain ⟨d,d',h1,h2,s1,s2,q⟩:=h
  obtain ⟨as,ra⟩:=h1.reads I rx
  obtain ⟨bs,rb⟩:=h2.reads I ry
  exact SeqAt.compareEq_shaped ra rb s1 s2 hu ⟨.bl _,H,I,by show _=_; simp,q⟩
end
section
variable {K:PySem.W.Frag} {H:Hp} {p:Addr} {xs:List V} {i:Int} {v:V} {Q:VK}
theorem reK {b:Bool} {x y:V} {d d':PyData} (h1:RepK K H d x) (h2:RepK K H d' y) (s1:SeqAt.shaped d=true) (s2:SeqAt.shaped d'=true) (q:Q (.bl (b == PyData.eqv d d')) H):rEqK K b x y H Q:=by
  unfold rEqK; exact ⟨d,d',h1,h2,s1,s2,q⟩
theorem ixK (h:SqT K H p xs) (e:atI xs i=some v) (q:Q v H):rIx K (.ref p) (.int i) H Q:=.inr (.inl ⟨p,xs,i,v,rfl,rfl,h,e,q⟩)
end
theorem cutV_lo (xs:List V) (k:Nat):cutV xs (some (k:Int)) none=xs.drop k:=by
  unfold cutV
  rw [HT.sIx_nat,HT.sIx_none]
  by_cases h:k≤xs.length
  · rw [Nat.min_eq_left h]
    exact List.take_of_length_le (by rw [List.length_drop]; exact Nat.le_refl _)
  · rw [Nat.min_eq_right (by omega),List.drop_of_length_le (Nat.le_refl _),List.drop_of_length_le (by omega),List.take_nil]
theorem cutV_hi (xs:List V) (k:Nat):cutV xs none (some (k:Int))=xs.take k:=by
  unfold cutV
  rw [HT.sIx_nat,HT.sIx_none,List.drop_zero,Nat.sub_zero]
  by_cases h:k≤xs.length
  · rw [Nat.min_eq_left h]
  · rw [Nat.min_eq_right (by omega),List.take_of_length_le (Nat.le_refl _),List.take_of_length_le (by omega)]
@[irreducible] def rSlN (K:PySem.W.Frag):V→Option Int→Option Int→Hp→VK→Prop:=rSlL K
theorem sl_listN {X:Cx} (K:PySem.W.Frag) (h:X.K=K:=by rfl):SlR X (rSlN K):=by subst h; unfold rSlN; exact sl_list
theorem slL {K:PySem.W.Frag} {H:Hp} {a:Addr} {xs ys:List V} {lo hi:Option Int} {Q:VK} (h:H a=some (.lst xs)) (e:cutV xs lo hi=ys) (k:∀ q H',H q=none→H' q=some (.lst ys)→Same H H'→Q (.ref q) H'):rSlN K (.ref a) lo hi H Q:=by
  unfold rSlN; exact ⟨a,xs,rfl,SqL.of h,fun p hp=>by rw [e]; exact k p _ hp upd_same (Same.upd hp)⟩
end L2
set_option Elab.async false
set_option linter.all false
set_option maxRecDepth 100000
namespace L2
open PySem
section
variable {σ:St} {js:List Nat} {te:TE} {H:Hp} {Q:VK}
theorem snoc_all {R:Nat→V→Prop} {ys:List V} {y:V} (h:∀ (j:Nat) z,ys[j]?=some z→R j z) (r:R ys.length y):∀ (j:Nat) z,(ys++[y])[j]?=some z→R j z:=fun j z hj=>by
  by_cases hji:j<ys.length
  · rw [List.getElem?_append_left hji] at hj; exact h j z hj
  · rw [List.getElem?_append_right (by omega)] at hj
    have:j - ys.length=0:=by
      by_cases q:j - ys.length=0
      · exact q
      · rw [List.getElem?_eq_none (by simp; omega)] at hj; cases hj
    rw [this] at hj
    have hj':y=z:=by simpa using hj
    have:j=ys.length:=by omega
    subst this hj'
    exact r
theorem comp_mapT {J:It} {n:Nat} (src:Nat→V→Prop) (R:Nat→V→Hp→Prop) (hR:∀ i y H1 H2,SameT H1 H2→R i y H1→R i y H2) (hz:n≤100000)
    (hg:∀ i H',Same H H'→i<n→J.go i H'∧∀ x H3,J.yld i H' x H3→H3=H'∧src i x) (hst:∀ H',Same H H'→J.stop n H')
    (hs:∀ i x H' (Q':VK),src i x→i<n→Same H H'→(∀ y H5,Same H' H5→R i y H5→Q' y H5)→te (some x::slots σ js) H' Q')
    (hd:∀ D ys H',H D=none→H' D=some (.lst ys)→Same H H'→ys.length=n→(∀ (i:Nat) (y:V),ys[i]?=some y→R i y H')→Q (.ref D) H'):CompB J σ js tYes te H Q:=by
  refine comp_any (J:=J) (n:=n) src hz (fun D i ys H'=>H D=none∧Same H H'∧∀ (i:Nat) (y:V),ys[i]?=some y→R i y H') (fun D H1 hD _ s=>⟨hD,s,fun i y h=>by simp at h⟩)
    (fun D i ys H' hi _ p=>hg i H' p.2.1 hi) (fun D ys H' _ p=>hst H' p.2.1) (fun D i x ys H' hx hi hy hD p=>?_) (fun D ys H' hy hD hD' p=>hd D ys H' hD hD' p.2.1 hy p.2.2)
  refine hs i x H' _ hx hi p.2.1 fun y H5 s5 r=>?_
  refine ⟨s5 _ _ hD,fun H6 hD6 s6=>⟨p.1,Same.thru p.1 (p.2.1.trans s5) s6,?_⟩⟩
  have t6:=s6.t (s5 _ _ hD)
  exact snoc_all (R:=fun j z=>R j z H6) (fun j z hj=>hR j z _ _ (s5.t.trans t6) (p.2.2 j z hj)) (by rw [hy]; exact hR i y _ _ t6 r)
theorem comp_mapL {K:PySem.W.Frag} {a:Addr} {xs:List V} (R:Nat→V→Hp→Prop) (hR:∀ i y H1 H2,SameT H1 H2→R i y H1→R i y H2) (hz:xs.length≤100000) (hl:H a=some (.lst xs))
    (hs:∀ i x H' (Q':VK),xs[i]?=some x→Same H H'→(∀ y H5,Same H' H5→R i y H5→Q' y H5)→te (some x::slots σ js) H' Q')
    (hd:∀ D ys H',H D=none→H' D=some (.lst ys)→Same H H'→ys.length=xs.length→(∀ (i:Nat) (y:V),ys[i]?=some y→R i y H')→Q (.ref D) H'):CompB (Itl K a) σ js tYes te H Q :=
  comp_mapT (fun i x=>xs[i]?=some x) R hR hz (fun i H' s hi=>⟨⟨xs,xs[i],SqL.of (s _ _ hl),by simp [hi]⟩,fun x H3 y=>⟨y.1,y.2 xs (SqL.of (s _ _ hl))⟩⟩) (fun H' s=>⟨xs,SqL.of (s _ _ hl),Nat.le_refl _⟩)
    (fun i x H' Q' hx _ s k=>hs i x H' Q' hx s k) hd
theorem comp_mapU {K:PySem.W.Frag} {a:Addr} {xs:List V} (R:Nat→V→Hp→Prop) (hR:∀ i y H1 H2,SameT H1 H2→R i y H1→R i y H2) (hz:xs.length≤100000) (hl:H a=some (.tup xs))
    (hs:∀ i x H' (Q':VK),xs[i]?=some x→Same H H'→(∀ y H5,Same H' H5→R i y H5→Q' y H5)→te (some x::slots σ js) H' Q')
    (hd:∀ D ys H',H D=none→H' D=some (.lst ys)→Same H H'→ys.length=xs.length→(∀ (i:Nat) (y:V),ys[i]?=some y→R i y H')→Q (.ref D) H'):CompB (Itt K a) σ js tYes te H Q :=
  comp_mapT (fun i x=>xs[i]?=some x) R hR hz (fun i H' s hi=>⟨⟨xs,xs[i],SqT.of (s _ _ hl),by simp [hi]⟩,fun x H3 y=>⟨y.1,y.2 xs (SqT.of (s _ _ hl))⟩⟩) (fun H' s=>⟨xs,SqT.of (s _ _ hl),Nat.le_refl _⟩)
    (fun i x H' Q' hx _ s k=>hs i x H' Q' hx s k) hd
structure FeedLike (p L:Addr) (Fd:Hp→Prop):Prop where
  but:∀ D H1 H2,D≠p→D≠L→SameBut D H1 H2→Fd H1→Fd H2
  same:∀ H1 H2,Same H1 H2→Fd H1→Fd H2
  lst:∀ H',Fd H'→∃ xs,H' p=some (.lst xs)
  np:∀ H' D,Fd H'→H' D=none→D≠p∧D≠L
theorem SameBut.thru {p l:Addr} {H0 H1 H2:Hp} (hl:H0 l=none) (s:SameBut p H0 H1) (b:SameBut l H1 H2):SameBut p H0 H2:=fun c o e=>by
  have n:=Hide.ne e
  have e0:H0 c=some o:=by rw [Hide.at n] at e; exact e
  have nl:c≠l:=fun z=>by subst z; rw [hl] at e0; cases e0
  exact Hide.of n (b.at nl (s.at n e0))
theorem comp_fd {J:It} {n:Nat} {p L:Addr} {Fd:Hp→Prop} (fl:FeedLike p L Fd) (F0:Fd H) (src:Nat→V→Prop) (R:Nat→V→Hp→Prop) (hR:∀ i y H1 H2,SameT H1 H2→R i y H1→R i y H2) (hz:n≤100000)
    (hg:∀ i H',SameBut p H H'→i<n→J.go i H'∧∀ x H3,J.yld i H' x H3→H3=H'∧src i x) (hst:∀ H',SameBut p H H'→J.stop n H')
    (hs:∀ i x H' (Q':VK),src i x→i<n→Fd H'→SameBut p H H'→(∀ y H5,Fd H5→SameBut p H' H5→R i y H5→Q' y H5)→te (some x::slots σ js) H' Q')
    (hd:∀ D ys H',H D=none→H' D=some (.lst ys)→Fd H'→SameBut p H H'→ys.length=n→(∀ (i:Nat) (y:V),ys[i]?=some y→R i y H')→Q (.ref D) H'):CompB J σ js tYes te H Q:=by
  refine comp_any (J:=J) (n:=n) src hz (fun D i ys H'=>H D=none∧Fd H'∧SameBut p H H'∧∀ (i:Nat) (y:V),ys[i]?=some y→R i y H') (fun D H1 hD _ s=>⟨hD,fl.same _ _ s F0,s.but,fun i y h=>by simp at h⟩)
    (fun D i ys H' hi _ q=>hg i H' q.2.2.1 hi) (fun D ys H' _ q=>hst H' q.2.2.1) (fun D i x ys H' hx hi hy hD q=>?_) (fun D ys H' hy hD hD' q=>hd D ys H' hD hD' q.2.1 q.2.2.1 hy q.2.2.2)
  obtain ⟨np,nL⟩:=fl.np H D F0 q.1
  refine hs i x H' _ hx hi q.2.1 q.2.2.1 fun y H5 F5 s5 r=>?_
  obtain ⟨xs,hp⟩:=fl.lst H' q.2.1
  have hD5:=s5.at np hD
  refine ⟨hD5,fun H6 hD6 s6=>⟨q.1,fl.but D _ _ np nL s6 F5,SameBut.thru q.1 (q.2.2.1.trans s5) s6,?_⟩⟩
  have t6:=s6.t hD5
  exact snoc_all (R:=fun j z=>R j z H6) (fun j z hj=>hR j z _ _ ((s5.t hp).trans t6) (q.2.2.2 j z hj)) (by rw [hy]; exact hR i y _ _ t6 r)
theorem comp_fdL {K:PySem.W.Frag} {a:Addr} {xs:List V} {p L:Addr} {Fd:Hp→Prop} (fl:FeedLike p L Fd) (F0:Fd H) (R:Nat→V→Hp→Prop) (hR:∀ i y H1 H2,SameT H1 H2→R i y H1→R i y H2) (hz:xs.length≤100000) (na:a≠p) (hl:H a=some (.lst xs))
    (hs:∀ i x H' (Q':VK),xs[i]?=some x→Fd H'→SameBut p H H'→(∀ y H5,Fd H5→SameBut p H' H5→R i y H5→Q' y H5)→te (some x::slots σ js) H' Q')
    (hd:∀ D ys H',H D=none→H' D=some (.lst ys)→Fd H'→SameBut p H H'→ys.length=xs.length→(∀ (i:Nat) (y:V),ys[i]?=some y→R i y H')→Q (.ref D) H'):CompB (Itl K a) σ js tYes te H Q :=
  comp_fd fl F0 (fun i x=>xs[i]?=some x) R hR hz (fun i H' s hi=>⟨⟨xs,xs[i],SqL.of (s.at na hl),by simp [hi]⟩,fun x H3 y=>⟨y.1,y.2 xs (SqL.of (s.at na hl))⟩⟩) (fun H' s=>⟨xs,SqL.of (s.at na hl),Nat.le_refl _⟩)
    (fun i x H' Q' hx _ f s k=>hs i x H' Q' hx f s k) hd
theorem comp_fdR {lo:Int} {n:Nat} {p L:Addr} {Fd:Hp→Prop} (fl:FeedLike p L Fd) (F0:Fd H) (R:Nat→V→Hp→Prop) (hR:∀ i y H1 H2,SameT H1 H2→R i y H1→R i y H2) (hz:n≤100000)
    (hs:∀ i H' (Q':VK),i<n→Fd H'→SameBut p H H'→(∀ y H5,Fd H5→SameBut p H' H5→R i y H5→Q' y H5)→te (some (.int (lo+(i:Nat)))::slots σ js) H' Q')
    (hd:∀ D ys H',H D=none→H' D=some (.lst ys)→Fd H'→SameBut p H H'→ys.length=n→(∀ (i:Nat) (y:V),ys[i]?=some y→R i y H')→Q (.ref D) H'):CompB (Itr lo n) σ js tYes te H Q :=
  comp_fd fl F0 (fun i x=>x=.int (lo+(i:Nat))) R hR hz (fun i H' s hi=>⟨hi,fun x H3 y=>y⟩) (fun H' s=>Nat.le_refl _)
    (fun i x H' Q' hx hi f s k=>by subst hx; exact hs i H' Q' hi f s k) hd
end
theorem RepL.ofIdx {H:Hp}:∀ {ds:List PyData} {ys:List V},ys.length=ds.length→(∀ (i:Nat) (y:V),ys[i]?=some y→∃ d,ds[i]?=some d∧Rep H d y)→RepL H ds ys
  | [],[],_,_=>RepL.nil
  | d::ds,y::ys,hl,h=>by
    obtain ⟨d',e,r⟩:=h 0 y rfl
    cases (show d=d' by simpa using e)
    exact RepL.cons r (RepL.ofIdx (by simpa using hl) fun i z hz=>by simpa using h (i+1) z (by simpa using hz))
  | [],_::_,hl,_=>by simp at hl
  | _::_,[],hl,_=>by simp at hl
theorem ints_of {P:Nat→Int→Prop}:∀ {ys:List V},(∀ (i:Nat) (y:V),ys[i]?=some y→∃ n,y=.int n∧P i n)→∃ ns:List Int,ys=ns.map V.int∧∀ (i:Nat) n,ns[i]?=some n→P i n
  | [],_=>⟨[],rfl,fun i n h=>by simp at h⟩
  | y::ys,h=>by
    obtain ⟨n,rfl,hn⟩:=h 0 y rfl
    obtain ⟨ns,rfl,hs⟩:=ints_of (P:=fun i=>P (i+1)) (ys:=ys) fun i z hz=>h (i+1) z (by simpa using hz)
    refine ⟨n::ns,rfl,fun i m hm=>?_⟩
    cases i with
    | zero=>cases (show n=m by simpa using hm); exact hn
    | succ i=>exact hs i m (by simpa using hm)
end L2
set_option Elab.async false
set_option linter.all false
set_option maxRecDepth 100000
namespace L2
open PySem PySem.Spec PyProof.Rows
section
variable {X:Cx}
@[irreducible] def rIns:V→List V→Hp→VK→Prop:=fun x vs H Q=>∃ l xs y,∃ (i:Nat) (k:Int),x=.ref l∧vs=[.int k,y]∧k=(i:Int)∧H l=some (.lst xs)∧i≤xs.length∧xs.length≤1000∧Q .non (upd H l (.lst (xs.take i++y::xs.drop i)))
theorem insL {H:Hp} {l:Addr} {xs:List V} {y:V} {i:Nat} {Q:VK} (h:H l=some (.lst xs)) (hi:i≤xs.length) (hz:xs.length≤1000) (k:∀ H',H' l=some (.lst (xs.take i++y::xs.drop i))→SameBut l H H'→Q .non H'):rIns (.ref l) [.int (i:Int),y] H Q:=by
  unfold rIns; exact ⟨l,xs,y,i,_,rfl,rfl,rfl,h,hi,hz,k _ upd_same SameBut.self⟩
theorem insArr {its:List Value} {u2:Value} {i:Nat} {k:Int} (hk:k=(i:Int)) (hi:i≤its.length):(have m:=if k<0 then (k+((its.toArray.size:Nat):Int)).toNat else min k.toNat its.toArray.size; (its.toArray.extract 0 m).push u2++its.toArray.extract m)=(its.take i++u2::its.drop i).toArray:=by
  have e:(if k<0 then (k+((its.toArray.size:Nat):Int)).toNat else min k.toNat its.toArray.size)=i:=by
    rw [if_neg (by omega),List.size_toArray]
    omega
  simp only [e]
  apply Array.toList_inj.mp
  simp
  exact List.take_of_length_le (by rw [List.length_drop]; exact Nat.le_refl _)
theorem mt_ins:MtR X "list.insert" rIns:=by
  unfold rIns
  intro pins s σ H x vs v us Q I rx rv h
  obtain ⟨l,xs,y,i,k,rfl,rfl,hk,hH,hi,hz,q⟩:=h
  cases rx
  obtain ⟨u1,u2,rfl,r1,r2⟩:=vals2 rv
  obtain ⟨t,rfl⟩:=(show ∃ t,u1=Value.int k t from r1)
  obtain ⟨z,its,n,r,hl,e⟩:=I.lstM hH
  have hfit:¬ (!Builtin.List.listFitsIndex k)=true:=by
    rw [fitsIndex_both (by omega) (by omega)]
    exact Bool.false_ne_true
  have hsl:its.toArray.size≤sizeLine:=by rw [List.size_toArray,← hl]; exact Nat.le_of_lt (small1000 hz)
  have M:=AutoSeq1.list_insert_list_int_val_1 l its.toArray n k t u2 hfit hsl
  refine call_meets F.slot_list_insert ⟨_,e,rfl⟩ F.entry_list_insert (F.args_list_insert_3 _ _ _) M ⟨e,?_⟩
  refine ⟨.non,_,I.lset (its':=its.take i++u2::its.drop i) (t':=s.toks) hH e ?_ ?_ ?_,rfl,q⟩
  · exact insArr hk (by rw [← hl]; exact hi)
  · have r':∀ {xs:List V} {its:List Value} (i:Nat),Vals xs its→Vals (xs.take i++y::xs.drop i) (its.take i++u2::its.drop i):=by
      intro xs its i hv
      induction i generalizing xs its with
      | zero=>exact .cons r2 hv
      | succ i ih =>
        cases hv with
        | nil=>exact .cons r2 .nil
        | cons a b=>exact .cons a (ih b)
    exact r' i r
  · rw [List.length_append,List.length_cons,List.length_take,List.length_drop]
    exact Nat.le_trans (show min i xs.length+(xs.length - i+1)≤xs.length+1 by omega) (small1000 hz)
end
section
variable {X:Cx}
end
end L2
set_option Elab.async false
set_option linter.all false
set_option maxRecDepth 100000
namespace L2
open PySem PySem.Spec PyProof.Rows
theorem we_bmK (K:PySem.W.Frag) {X:Cx} {T id:String} {o e:Expr} {es:List Expr} {to:TE} {t:TA} {name:Str} {apos cpos:Pos} {r:V→List V→Hp→VK→Prop} (pa:PlainAttrs T) (slot:Slot T name id) (hty:typeOf (.builtin id)=pure (.type "method_descriptor")) (hm:MtR X id r) (ho:PEw X o to) (ha:PAw X (e::es) t) (hK:X.K=K:=by rfl)
    (hbase:attributeBase o name X.env (eval o X.env)=eval o X.env:=by rfl)
    (hfew:((backTo cpos (starEach (e::es) X.env)).all (fun x=>!x.1)&&(backToKw cpos (keywordEach [] X.env)).all (fun x=>x.1.isSome)
      && decide ((e::es).length+([]:List Keyword).length+(if ([]:List Keyword).isEmpty then 0 else 1)<30))=true:=by rfl)
    (hline:(apos.endLine == cpos.line)=true:=by rfl) (hs:starEach (e::es) X.env=(false,eval e X.env)::starEach es X.env:=by first | exact se_Name | exact se_Constant | exact se_BoolOp | exact se_BinOp | exact se_UnaryOp | exact se_IfExp | exact se_Dict | exact se_ListComp | exact se_Compare | exact se_Call | exact se_Attribute | exact se_Subscript | exact se_List | exact se_Tuple | exact se_JoinedStr | exact se_GeneratorExp) (hplain:(backTo cpos (starEach es X.env)).any (·.1)=false:=by repeat (first | exact ap_nil | refine ap_cons (by first | exact se_Name | exact se_Constant | exact se_BoolOp | exact se_BinOp | exact se_UnaryOp | exact se_IfExp | exact se_Dict | exact se_ListComp | exact se_Compare | exact se_Call | exact se_Attribute | exact se_Subscript | exact se_List | exact se_Tuple | exact se_JoinedStr | exact se_GeneratorExp) ?_)) :
    PEw X (.Call (.Attribute o name apos) (e::es) [] cpos) (tBM K T r to t):=by subst hK; exact ⟨pe_bm pa slot hty hm ho.p ha.p hbase hfew hline hs hplain⟩
theorem wt_mono {X:Cx} {e:Expr} {t:TT} (h:PTw X e t):PTw X e (tMono t):=⟨h.p.mono⟩
end L2
namespace L2
def ctxC:Nat:=82
end L2
set_option Elab.async false
set_option linter.all false
set_option maxRecDepth 100000
namespace L2
open PySem
def CzV (cls:Value) (vs:Array Value):Prop:=5<vs.size∧(vs[2]?=some .none∨cls=.ref ctxC)
theorem CzV.sz {cls:Value} {vs:Array Value} (h:CzV cls vs):1<vs.size:=Nat.lt_of_le_of_lt (by decide) h.1
theorem CzV.set {cls:Value} {vs:Array Value} {i:Nat} {v:Value} (h:CzV cls vs) (hi:i≠2):CzV cls (vs.setIfInBounds i v):=⟨by simpa using h.1,h.2.imp (fun e=>by rw [Array.getElem?_setIfInBounds_ne hi]; exact e) id⟩
def ExcAt (h:Heap) (a:Addr) (cls:Value) (od:Option Addr) (st:Option (Addr × Value)):Prop :=
  ∃ oe vs,h.get? a=some oe∧oe.cls=cls∧oe.dict=od∧oe.data=.fields vs∧CzV cls vs ∧
    match st with
    | none=>vs[1]?=some .none
    | some (T,fl)=>vs[1]?=some (.ref T)∧T≠a∧∃ oT ts,h.get? T=some oT∧oT.data=.fields ts∧3<ts.size∧ts[3]?=some fl
structure Kp (fs ex:List Addr) (h h':Heap):Prop where
  keep:∀ b o,h.get? b=some o→b ∉ fs→b ∉ ex→h'.get? b=some o
  slot:∀ b o,h.get? b=some o→b∈fs→b ∉ ex→∃ sl,h'.get? b=some { o with slots:=sl }
theorem Kp.any {fs ex:List Addr} {h h':Heap} (k:Kp fs ex h h') {b:Addr} {o:Obj} (e:h.get? b=some o) (n:b ∉ ex):∃ sl,h'.get? b=some { o with slots:=sl }:=by
  by_cases m:b∈fs
  · exact k.slot b o e m n
  · exact ⟨o.slots,k.keep b o e m n⟩
def stT:Option (Addr × Value)→List Addr
  | none=>[]
  | some (T,_)=>[T]
section
variable {M:Model} {A:Around} {E:Value→Shared→Prop} {s:Shared} {env:Env} {outer:List Env} {base:Heap} {L a:Addr} {cls:Value} {od:Option Addr}
theorem entry_ok {oe:Obj} {vs:Array Value} {head:Value} {had:Bool} {Q:Unit→Shared→Prop} (hfr:A.frames=some (env::outer)) (hl:s.heap.FunFrames base (env::outer)) (hf:env.frame=some L)
    (he:s.heap.get? a=some oe) (hc:oe.cls=cls) (ho:oe.dict=od) (hd:oe.data=.fields vs) (hz:CzV cls vs)
    (k:∀ h' T',ExcAt h' a cls od (some (T',rawInt L))→s.heap.get? T'=none→Kp ((env::outer).filterMap (·.frame)) [a] s.heap h'→Q () { s with heap:=h' }) :
    wpAny M A (do
      let fo ← frameOf env
      let pl ← entryPlaceOf L had
      let en ← EntryCells.newEntry head fo .none (rawInt L) .none pl
      setField (.ref a) 1 en) Q E s:=by
  have na:a ∉ (env::outer).filterMap (·.frame):=fun m=>by
    obtain ⟨_,o,e,nf⟩:=hl.mem m
    rw [he] at e
    cases e
    exact nf vs hd
  refine wpAny_bind (wpAny_frameOf_fun hfr hl hf fun h1 so=>?_)
  refine wpAny_bind (wpAny_entryPlaceOf fun pl ip=>?_)
  unfold EntryCells.newEntry newFields
  refine wpAny_bind (wpAny_newObj_type ?_ (ip.sizeOk5 ..))
  have e1:h1.get? a=some oe:=(so.2.1 a na).trans he
  generalize hT:({ cls:=.type "traceback",dict:=none,data:=.fields ([head,Value.ref L,Value.none,rawInt L,Value.none]++(if pl.isEmpty then List.replicate 6 Value.none else pl)).toArray }:Obj)=oT
  have e2:(h1.push oT).get? a=some oe:=Heap.get?_push_of_some _ e1
  refine wpAny_setField e2 hd hz.sz (k _ h1.objs.size ?_ ?_ ?_)
  · have ne:h1.objs.size≠a:=Nat.ne_of_gt (Heap.lt_size e1)
    have d3:=Obj.data_mapFields hd (·.setIfInBounds 1 (Value.ref h1.objs.size))
    refine ⟨_,_,Heap.get?_update_self _ e2 (Obj.isFreed_of_fields d3),?_,?_,d3,hz.set (by decide),by simp [hz.sz],ne,oT,_,?_,by rw [← hT],?_,?_⟩
    · rw [Obj.cls_mapFields]; exact hc
    · rw [← ho]
      obtain ⟨_,_,dt,_⟩:=oe
      cases dt <;> rfl
    · rw [Heap.get?_update_other _ _ (Ne.symm ne)]
      exact Heap.get?_push_size h1 (by rw [← hT]; rfl)
    · simp only [List.size_toArray,List.length_append,List.length_cons,List.length_nil] <;> omega
    · simp
  · cases q:s.heap.get? h1.objs.size with
    | none=>rfl
    | some o=>exact absurd (Heap.lt_size q) (by rw [so.1]; exact Nat.lt_irrefl _)
  · refine ⟨fun b o e n1 n2=>?_,fun b o e n1 n2=>?_⟩
    · have e3:h1.get? b=some o:=(so.2.1 b n1).trans e
      have nb:a≠b:=fun z=>n2 (by rw [z]; exact List.mem_cons_self)
      rw [Heap.get?_update_other _ _ nb]
      exact Heap.get?_push_of_some _ e3
    · obtain ⟨sl,e3⟩:=so.2.2 b o e
      have nb:a≠b:=fun z=>n2 (by rw [z]; exact List.mem_cons_self)
      refine ⟨sl,?_⟩
      rw [Heap.get?_update_other _ _ nb]
      exact Heap.get?_push_of_some _ e3
theorem note_ok {st:Option (Addr × Value)} {Q:Unit→Shared→Prop} (hfr:A.frames=some (env::outer)) (hl:s.heap.FunFrames base (env::outer)) (hf:env.frame=some L)
    (x:ExcAt s.heap a cls od st) (hst:st=none∨∃ T,st=some (T,.none))
    (k:∀ h' T',ExcAt h' a cls od (some (T',rawInt L))→s.heap.get? T'=none→Kp ((env::outer).filterMap (·.frame)) (a::stT st) s.heap h'→Q () { s with heap:=h' }) :
    wpAny M A (noteFrame (.ref a) env) Q E s:=by
  obtain ⟨oe,vs,he,hc,ho,hd,hz,x⟩:=x
  unfold noteFrame
  simp only [hf]
  rcases hst with rfl | ⟨T,rfl⟩
  · refine wpAny_bind (wpAny_field he hd x ?_)
    rw [if_neg (by decide)]
    exact entry_ok hfr hl hf he hc ho hd hz k
  · obtain ⟨x1,nT,oT,ts,hT,dT,zT,x3⟩:=x
    refine wpAny_bind (wpAny_field he hd x1 ?_)
    rw [if_pos (by simp)]
    refine wpAny_bind (wpAny_field hT dT x3 ?_)
    rw [if_neg (by simp [rawInt])]
    refine wpAny_bind (wpAny_setField hT dT zT ?_)
    have other:∀ b,b≠T→(s.heap.update T (Obj.mapFields (·.setIfInBounds 3 Value.none))).get? b=s.heap.get? b:=fun b hb=>Heap.get?_update_other _ _ (Ne.symm hb)
    have nrec:∀ b o,s.heap.get? b=some o→(∀ ws,o.data ≠ .fields ws)→b≠T:=fun b o e nf z=>by
      subst z; rw [hT] at e; cases e; exact nf ts dT
    refine entry_ok (hfr:=hfr) (hl:=hl.of_keeps fun b o e nf=>⟨o,(other b (nrec b o e nf)).trans e,rfl⟩) hf ((other a (Ne.symm nT)).trans he) hc ho hd hz fun h' T' y1 y2 y3=>k h' T' y1 ?_ ?_
    · by_cases z:T'=T
      · subst z
        have:=Heap.get?_update_self (Obj.mapFields (·.setIfInBounds 3 Value.none)) hT (Obj.isFreed_of_fields (Obj.data_mapFields dT _))
        rw [this] at y2; cases y2
      · rw [← other T' z]; exact y2
    · refine ⟨fun b o e n1 n2=>y3.keep b o ((other b fun z=>n2 (by rw [z]; simp [stT])).trans e) n1 fun z=>n2 (List.mem_cons.mpr (.inl (List.mem_singleton.mp z))),fun b o e n1 n2=>y3.slot b o ((other b fun z=>n2 (by rw [z]; simp [stT])).trans e) n1 fun z=>n2 (List.mem_cons.mpr (.inl (List.mem_singleton.mp z)))⟩
theorem land_ok {T:Addr} {fl:Value} {Q:Unit→Shared→Prop} (x:ExcAt s.heap a cls od (some (T,fl)))
    (k:∀ h',ExcAt h' a cls od (some (T,.none))→(∀ b o,b≠T→s.heap.get? b=some o→h'.get? b=some o)→Q () { s with heap:=h' }):wpAny M A (setFlight (.ref a) none) Q E s:=by
  obtain ⟨oe,vs,he,hc,ho,hd,hz,x1,nT,oT,ts,hT,dT,zT,x3⟩:=x
  unfold setFlight
  refine wpAny_bind (wpAny_field he hd x1 ?_)
  rw [if_pos (by simp)]
  refine wpAny_setField hT dT zT (k _ ?_ fun b o hb e=>?_)
  · have d2:=Obj.data_mapFields dT (·.setIfInBounds 3 Value.none)
    exact ⟨oe,vs,by rw [Heap.get?_update_other _ _ nT]; exact he,hc,ho,hd,hz,x1,nT,_,_,Heap.get?_update_self _ hT (Obj.isFreed_of_fields d2),d2,by simpa using zT,by simp [zT]⟩
  · rw [Heap.get?_update_other _ _ (Ne.symm hb)]; exact e
theorem leave_ok {st:Option (Addr × Value)} {Q:Unit→Shared→Prop} (hfr:A.frames=some (env::outer)) (hl:s.heap.FunFrames base (env::outer)) (hf:env.frame=some L)
    (x:ExcAt s.heap a cls od st) (hst:st=none∨∃ T,st=some (T,.none))
    (k:∀ h' T',ExcAt h' a cls od (some (T',.none))→s.heap.get? T'=none→Kp ((env::outer).filterMap (·.frame)) (a::stT st) s.heap h'→Q () { s with heap:=h' }) :
    wpAny M A (leaving env (.ref a)) Q E s:=by
  unfold leaving
  refine wpAny_bind (note_ok hfr hl hf x hst fun h1 T1 y1 y2 y3=>?_)
  refine land_ok y1 fun h2 z1 z2=>?_
  refine k h2 T1 z1 y2 ⟨fun b o e n1 n2=>z2 b o (fun q=>?_) (y3.keep b o e n1 n2),fun b o e n1 n2=>?_⟩
  · subst q; rw [y2] at e; cases e
  · obtain ⟨sl,e1⟩:=y3.slot b o e n1 n2
    exact ⟨sl,z2 b _ (fun q=>by subst q; rw [y2] at e; cases e) e1⟩
end
end L2
set_option Elab.async false
set_option linter.all false
set_option maxRecDepth 100000
namespace L2
open PySem PySem.Spec PyProof.Rows
section
variable {P:Program} {w:World} {H H1 H2:Hp} {h h1 h2 base:Heap} {fs fs2 ex:List Addr} {a:Addr} {o:HO}
theorem ObjOk.get (x:ObjOk P w H h a o):∃ ob,h.get? a=some ob:=by
  cases o with
  | lst xs=>obtain ⟨_,_,_,_,e⟩:=x; exact ⟨_,e⟩
  | tup xs=>obtain ⟨_,_,_,o,e,_⟩:=x; exact ⟨_,e⟩
  | dK kvs=>obtain ⟨_,_,_,_,o,_,_,e,_⟩:=x; exact ⟨_,e⟩
  | dT kvs=>obtain ⟨_,_,_,_,o,_,_,e,_⟩:=x; exact ⟨_,e⟩
  | set S n=>obtain ⟨o,_,_,_,e,_⟩:=x; exact ⟨_,e⟩
  | ins C dx fs=>obtain ⟨_,_,_,e,_⟩:=x; exact ⟨_,e⟩
  | own y=>obtain ⟨_,e⟩:=x; exact ⟨_,e⟩
  | xd fs=>obtain ⟨_,⟨_,_,_,e,_⟩,_⟩:=x; exact ⟨_,e⟩
  | rng lo hi=>obtain ⟨_,_,_,e⟩:=x; exact ⟨_,e⟩
  | frz ob u=>obtain ⟨e,_⟩:=x; exact ⟨_,e⟩
  | tbl ps=>exact ⟨_,(show h.get? a=some _ from x)⟩
  | met f y=>exact ⟨_,(show h.get? a=some _ from x)⟩
  | ext φ=>obtain ⟨_,e,_⟩:=x; exact e
theorem HOk.kp (x:HOk P w H h) (k:Kp fs ex h h1) (hf:∀ b∈fs,H b=none) (he:∀ b∈ex,H b=none):HOk P w H h1:=fun a o e =>
  (x a o e).stay (fun b u hb q=>by
    have nb:H b≠none:=by
      rcases hb with rfl | hb
      · rw [e]; simp
      · rw [hb]; simp
    exact k.keep b u q (fun z=>nb (hf b z)) fun z=>nb (he b z)) (fun _ q=>q) fun _ _ q=>q
theorem Un.tr (u:Un fs [] H H1 h h1) (v:Un fs2 [] H1 H2 h1 h2) (hf:∀ b∈fs2,b∈fs∨h.get? b=none):Un fs [] H H2 h h2 where
  keep:=fun b o e n m _=>v.keep b o (u.keep b o e n m (by simp)) (u.free b o e n (by simp)) (fun z=>(hf b z).elim m fun q=>by rw [e] at q; cases q) (by simp)
  slot:=fun b o e n m _=>by
    obtain ⟨s1,e1⟩:=u.slot b o e n m (by simp)
    obtain ⟨s2,e2⟩:=v.any e1 (u.free b o e n (by simp)) (by simp)
    exact ⟨s2,e2⟩
  free:=fun b o e n _=>by
    obtain ⟨o1,e1⟩:=u.there b o e (by simp)
    exact v.free b o1 e1 (u.free b o e n (by simp)) (by simp)
  there:=fun b o e _=>by
    obtain ⟨o1,e1⟩:=u.there b o e (by simp)
    exact v.there b o1 e1 (by simp)
  tups:=fun b xs e=>v.tups b xs (u.tups b xs e)
  frzs:=fun b ob xs e=>v.frzs b ob xs (u.frzs b ob xs e)
  tbls:=fun b ps e=>by
    obtain ⟨m1,e1⟩:=u.tbls b ps e
    obtain ⟨m2,e2⟩:=v.tbls b _ e1
    exact ⟨m1++m2,by rw [e2,Array.append_assoc]⟩
theorem Un.kp (u:Un fs [] H H1 h h1) (k:Kp fs2 ex h1 h2) (hf:∀ b∈fs2,b∈fs∨h.get? b=none) (he:∀ b∈ex,h.get? b=none):Un fs [] H H1 h h2 where
  keep:=fun b o e n m _=>k.keep b o (u.keep b o e n m (by simp)) (fun z=>(hf b z).elim m fun q=>by rw [e] at q; cases q) fun z=>by rw [he b z] at e; cases e
  slot:=fun b o e n m _=>by
    obtain ⟨s1,e1⟩:=u.slot b o e n m (by simp)
    obtain ⟨s2,e2⟩:=k.any e1 fun z=>by rw [he b z] at e; cases e
    exact ⟨s2,e2⟩
  free:=u.free
  there:=fun b o e _=>by
    obtain ⟨o1,e1⟩:=u.there b o e (by simp)
    obtain ⟨s2,e2⟩:=k.any e1 fun z=>by rw [he b z] at e; cases e
    exact ⟨_,e2⟩
  tups:=u.tups
  frzs:=u.frzs
  tbls:=u.tbls
theorem Un.put {u:HO} (x:Un fs [] H H1 h h1) (ha:h.get? a=none) (hn:H1 a=none):Un fs [] H (upd H1 a u) h h1 where
  keep:=x.keep
  slot:=x.slot
  free:=fun b ob e n m=>by rw [upd_ne (fun z=>by subst z; rw [ha] at e; cases e)]; exact x.free b ob e n m
  there:=x.there
  tups:=fun b xs e=>by rw [upd_ne (ne_of_none (x.tups b xs e) hn)]; exact x.tups b xs e
  frzs:=fun b ob xs e=>by rw [upd_ne (ne_of_none (x.frzs b ob xs e) hn)]; exact x.frzs b ob xs e
  tbls:=fun b ps e=>by
    obtain ⟨m,q⟩:=x.tbls b ps e
    exact ⟨m,by rw [upd_ne (ne_of_none q hn)]; exact q⟩
theorem HOk.put {u:HO} (x:HOk P w H h) (hn:H a=none) (new:ObjOk P w (upd H a u) h a u):HOk P w (upd H a u) h:=fun b v e=>by
  by_cases hb:b=a
  · subst hb; rw [upd_same] at e; cases e; exact new
  · rw [upd_ne hb] at e
    exact (x b v e).stay (fun c q _ r=>r) (fun c q=>by rw [upd_ne (ne_of_none q hn)]; exact q) fun c xs q=>by rw [upd_ne (ne_of_none q hn)]; exact q
theorem funFrames_kp:∀ {l:List Env},(∀ b∈frs l,∀ o,h.get? b=some o→∃ sl,h1.get? b=some { o with slots:=sl })→h.FunFrames base l→h1.FunFrames base l
  | [],_,_=>trivial
  | env::r,k,⟨hk,⟨L,o,hf,hn,ho,hd⟩,hr⟩=>by
    have hL:L∈frs (env::r):=List.mem_filterMap.mpr ⟨env,List.mem_cons_self,hf⟩
    obtain ⟨sl,e⟩:=k L hL o ho
    refine ⟨hk,⟨L,_,hf,hn,e,hd⟩,funFrames_kp (fun b hb=>k b ?_) hr⟩
    obtain ⟨e',m,q⟩:=List.mem_filterMap.mp hb
    exact List.mem_filterMap.mpr ⟨e',List.mem_cons_of_mem _ m,q⟩
end
def CX1 (P:Program) (w:World):CXT:=fun outer H s E e s'=>∃ (a T:Addr) (cls:Value) (od:Option Addr) (H':Hp),e=.ref a∧s'.os=s.os∧AllBare s'.gens∧Un (frs outer) [] H H' s.heap s'.heap∧HOk P w H' s'.heap ∧
  s.heap.get? a=none∧s.heap.get? T=none∧H' a=none∧H' T=none∧ExcAt s'.heap a cls od (some (T,.none))∧E cls od H'
structure XPass (X:Cx) (Ex:St→XK):Prop where
  p:∀ (pins:List (Addr × Obj)) (σ:St) (H:Hp) (s:Shared) (e:Value) (s':Shared),Inv X pins σ H s→CX1 X.prog X.w X.stack H s (Ex σ) e s'→X.xe e s'
structure XMade (X:Cx) (Ex:St→XK):Prop where
  p:∀ (pins:List (Addr × Obj)) (σ:St) (H:Hp) (s:Shared) (h':Heap) (tk:Nat) (a:Addr) (cls:Value) (od:Option Addr),Inv X pins σ H s→(∀ b o,s.heap.get? b=some o→h'.get? b=some o)→s.heap.get? a=none→H a=none →
    ExcAt h' a cls od none→Ex σ cls od H→X.xe (.ref a) { s with heap:=h',toks:=tk }
section
variable {P:Program} {w:World} {K:PySem.W.Frag} {mg:Str→Option Value} {base:Heap} {N:List Str} {qual:Str} {scope:Scope} {f:Addr} {cd:Value} {A:Around} {outer:List Env} {s:Shared} {H:Hp} {E:XK}
theorem leave_fn {pins:List (Addr × Obj)} {σ:St} {H1 H2:Hp} {s1 s2:Shared} {a:Addr} {cls:Value} {od:Option Addr} {st:Option (Addr × Value)}
    (I:Inv (cxOf (CX1 P w) P w K mg base N qual scope f cd A outer s H E) pins σ H1 s1) (os:s2.os=s1.os) (bare:AllBare s2.gens)
    (un:Un (frs (cxOf (CX1 P w) P w K mg base N qual scope f cd A outer s H E).stack) [] H1 H2 s1.heap s2.heap) (hok:HOk P w H2 s2.heap) (x:ExcAt s2.heap a cls od st) (hst:st=none∨∃ T,st=some (T,.none))
    (fa:s1.heap.get? a=none) (na:H2 a=none) (fT:∀ T∈stT st,s1.heap.get? T=none) (nT:∀ T∈stT st,H2 T=none) (q:E cls od H2) :
    (cxOf (CX1 P w) P w K mg base N qual scope f cd A outer s H E).xe (.ref a) s2:=by
  have hff:s2.heap.FunFrames (cxOf (CX1 P w) P w K mg base N qual scope f cd A outer s H E).base (cxOf (CX1 P w) P w K mg base N qual scope f cd A outer s H E).stack :=
    funFrames_kp (fun b hb o e=>un.any e (I.stkFree b hb) (by simp)) I.stack
  have old:∀ b,s1.heap.get? b=none→s.heap.get? b=none:=fun b e=>by
    cases q:s.heap.get? b with
    | none=>rfl
    | some o =>
      obtain ⟨o',e'⟩:=I.base.there b o q (by intro z; cases z)
      rw [e] at e'; cases e'
  have old2:∀ b,s2.heap.get? b=none→s1.heap.get? b=none:=fun b e=>by
    cases q:s1.heap.get? b with
    | none=>rfl
    | some o =>
      obtain ⟨o',e'⟩:=un.there b o q (by simp)
      rw [e] at e'; cases e'
  have hfs:∀ b∈frs (cxOf (CX1 P w) P w K mg base N qual scope f cd A outer s H E).stack,b∈frs outer∨s.heap.get? b=none:=fun b hb=>by
    have hb':b∈s.heap.objs.size::frs outer:=hb
    rcases List.mem_cons.mp hb' with z | z
    · right
      rw [z]
      exact Heap.get?_none_of_le (Nat.le_refl _)
    · exact .inl z
  show wpAny (model P w) (A.deeper (envOfC qual scope s.heap.objs.size f cd)) (leaving (envOfC qual scope s.heap.objs.size f cd) (.ref a)) _ _ s2
  refine leave_ok I.ok.frames hff rfl x hst fun h3 T3 y1 y2 y3=>?_
  have hfree:∀ b∈frs (cxOf (CX1 P w) P w K mg base N qual scope f cd A outer s H E).stack,H2 b=none:=fun b hb=>by
    have ff:=I.stack
    obtain ⟨_,o,ho,_⟩:=ff.mem hb
    exact un.free b o ho (I.stkFree b hb) (by simp)
  have hex:∀ b∈a::stT st,s1.heap.get? b=none:=fun b hb=>by
    rcases List.mem_cons.mp hb with rfl | hb
    · exact fa
    · exact fT b hb
  refine ⟨a,T3,cls,od,H2,rfl,os.trans I.os,bare,((I.base.tr un hfs).kp y3 hfs fun b hb=>old b (hex b hb)),hok.kp y3 hfree (fun b hb=>?_),old a fa,old T3 (old2 T3 y2),na,?_,y1,q⟩
  · rcases List.mem_cons.mp hb with rfl | hb
    · exact na
    · exact nT b hb
  · cases z:H2 T3 with
    | none=>rfl
    | some u =>
      obtain ⟨ob,e⟩:=(hok T3 u z).get
      rw [y2] at e; cases e
theorem xpass_fn:XPass (cxOf (CX1 P w) P w K mg base N qual scope f cd A outer s H E) (fun _=>E):=⟨fun pins σ H1 s1 e s2 I hc=>by
  obtain ⟨a,T,cls,od,H2,rfl,os,bare,un,hok,fa,fT,na,nT,x,q⟩:=hc
  exact leave_fn I os bare un hok x (.inr ⟨T,rfl⟩) fa na (fun b hb=>by cases List.mem_singleton.mp hb; exact fT) (fun b hb=>by cases List.mem_singleton.mp hb; exact nT) q⟩
theorem xmade_fn:XMade (cxOf (CX1 P w) P w K mg base N qual scope f cd A outer s H E) (fun _=>E):=⟨fun pins σ H1 s1 h' tk a cls od I k fa na x q =>
  leave_fn (s2:={ s1 with heap:=h',toks:=tk }) I rfl I.bare (Un.kept k) (I.hok.kept k) x (.inl rfl) fa na (fun b hb=>by cases hb) (fun b hb=>by cases hb) q⟩
end
def tCallX (sp:Sp) (Ex:St→XK) (t:TA):TE:=fun σ H Q=>t σ H fun vs H1=>sp vs H1 Q (Ex σ)
section
variable {X:Cx} {k:Nat} {f C:Addr} {fd:FuncData} {ps:List Str} {sp:Sp} {Ex:St→XK} {x:Str} {p pos np cpos:Pos} {e:Expr} {es:List Expr} {t:TA}
theorem run_fnX {pins:List (Addr × Obj)} {σ:St} {H:Hp} {s:Shared} {Q:VK} {us:List Value} {vs:List V} (F:FnOk X.prog X.w X.K X.mg X.base (CX1 X.prog X.w) k f fd ps sp) (hr:Room k X.A) (hb:Binds X.K fd ps []) (hx:XPass X Ex)
    (I:Inv X pins σ H s) (r:Vals vs us) (h:sp vs H Q (Ex σ)):wpAny (model X.prog X.w) X.A (call (.ref f) us) (EP X pins σ Q) X.xe s:=by
  have hl:(us++[]).length=ps.length:=by rw [List.append_nil,← r.length]; exact F.len _ _ _ _ h
  have hbt:=hb s us I.kIn hl
  rw [List.append_nil] at hbt
  refine wpAny_call (codeAny_mono (F.run X.A X.stack s H ⟨us,[]⟩ us vs Q (Ex σ) hr I.env0 hbt r h) fun r s' hq=>?_)
  cases r with
  | error e=>exact hx.p pins σ H s e s' I hq
  | ok fl =>
    cases fl with
    | ret u=>exact I.after hq
    | next=>exact False.elim hq
    | brk=>exact False.elim hq
    | cont=>exact False.elim hq
theorem we_fnX (F:FnC (CX1 X.prog X.w) X.prog X.w X.K X.mg X.base k x ps sp) (hr:Room k X.A) (hx:XPass X Ex) (ha:PAw X (e::es) t) (hg:Gl X x:=by rfl)
    (hdb:(x == ("__debug__" : Str))=false:=by decide) (he:starEach (e::es) X.env=(false,eval e X.env)::starEach es X.env:=by first | exact se_Name | exact se_Constant | exact se_BoolOp | exact se_BinOp | exact se_UnaryOp | exact se_IfExp | exact se_Dict | exact se_ListComp | exact se_Compare | exact se_Call | exact se_Attribute | exact se_Subscript | exact se_List | exact se_Tuple | exact se_JoinedStr | exact se_GeneratorExp)
    (hpl:(backTo pos (starEach es X.env)).any (·.1)=false:=by repeat (first | exact ap_nil | refine ap_cons (by first | exact se_Name | exact se_Constant | exact se_BoolOp | exact se_BinOp | exact se_UnaryOp | exact se_IfExp | exact se_Dict | exact se_ListComp | exact se_Compare | exact se_Call | exact se_Attribute | exact se_Subscript | exact se_List | exact se_Tuple | exact se_JoinedStr | exact se_GeneratorExp) ?_)) :
    PEw X (.Call (.Name x p) (e::es) [] pos) (tCallX sp Ex t):=⟨by
  obtain ⟨f,fd,h1,h2,h3,h4⟩:=F.ex
  intro pins s σ H Q I h
  refine wpAny_Call_Name_kw (ld_glob I hg h2 ?_ hdb)
  refine PySem.W.callWith_K (h₀:=X.base) I.ok.mod.kin h3 (thn (ha.p pos pins s σ H _ I h) fun us s1 ⟨vs,H1,I1,r,q⟩=>⟨I1.kIn,?_⟩) he hpl
  exact run_fnX h1 hr h4 hx I1 r q⟩
end
theorem Fun.okx {P:Program} {w:World} {K:PySem.W.Frag} {mg:Str→Option Value} {base:Heap} {x qual:Str} {st:Stmt} {f:Addr} {fd:FuncData} {N ps:List Str} {k:Nat} {sp:Sp} (F:Fun K x qual st f fd) (S:FnScope N ps (defScope st)) (len:∀ vs H Q E,sp vs H Q E→vs.length=ps.length)
    (hbody:∀ (cdv:Value) (A:Around) (outer:List Env) (s:Shared) (H:Hp) (vs:List V) (Q:VK) (E:XK),Room k (A.deeper (envOfC qual (defScope st) s.heap.objs.size f cdv))→sp vs H Q E →
      XPass (cxOf (CX1 P w) P w K mg base N qual (defScope st) f cdv A outer s H E) (fun _=>E)→XMade (cxOf (CX1 P w) P w K mg base N qual (defScope st) f cdv A outer s H E) (fun _=>E) →
      ∃ t,PSsw (cxOf (CX1 P w) P w K mg base N qual (defScope st) f cdv A outer s H E) (defBody st) t∧t { nx:=fun _ H'=>Q .non H',rt:=Q } (start N vs) H):FnOk P w K mg base (CX1 P w) (k+1) f fd ps sp:=by
  obtain ⟨oc,od,kV,doc,pm,an,cdv,ct,osl,rfl,lk,hcd⟩:=F.ex
  refine fn_of lk hcd S len fun A outer s H vs Q E hr hsp=>?_
  obtain ⟨t,h,q⟩:=hbody cdv A outer s H vs Q E hr hsp xpass_fn xmade_fn
  exact ⟨t,h.p,q⟩
theorem exc_obj {K:PySem.W.Frag} {h:Heap} {C:Addr} {bmB:List Value} {newId:String} (X:K.In h) (q:PySem.W.excIn K C bmB newId=true) :
    ∃ bm N nm qn bs hdct sn sub ab col dd k0 k1 k2 k3 k5 mN,h.get? C=some (excClassObj nm qn C N bs bm hdct sn sub ab col dd k0 k1 k2 k3 k5 newId)∧h.Ns N mN∧mN "__init__" = none∧OwnTail h bmB bm:=by
  unfold PySem.W.excIn at q
  cases e:K.lookup C with
  | none=>rw [e] at q; cases q
  | some o =>
    rw [e] at q
    obtain ⟨oc,dd,dt,sl⟩:=o
    split at q
    · rename_i _ dd' cd sl' ho
      cases ho
      split at q
      · rename_i C' bm k0 k1 k2 k3 n k5 hm hs
        rw [Bool.and_eq_true,Bool.and_eq_true,Bool.and_eq_true,Bool.and_eq_true,Bool.and_eq_true] at q
        obtain ⟨⟨⟨⟨⟨q1,q2⟩,q3⟩,q4⟩,q5⟩,q6⟩:=q
        have q1:C'=C:=by simpa using q1
        have q2:n=newId:=by simpa using q2
        have q3:cd.hasDel=false:=by simpa using q3
        have q6:PySem.W.nsIn K cd.ns "__init__" = some none:=by simpa using q6
        subst q1 q2
        obtain ⟨nm,bs,mro,ns,qn,hd,sn,sub,ab,col,del⟩:=cd
        cases hm
        cases q3
        obtain ⟨l⟩:=sl
        cases hs
        exact ⟨bm,ns,nm,qn,bs,hd,sn,sub,ab,col,dd,k0,k1,k2,k3,k5,_,X _ _ e,.of_isNs (PySem.W.isNs_of_in X q5),PySem.W.nsMap_none_of_in X q5 q6,PySem.W.tail_of_in X q4⟩
      · cases q
    · cases q
theorem MadeExcOf.at {h h':Heap} {a:Addr} {cls:Value} {args:List Value} (x:Heap.MadeExcOf h h' a cls args):ExcAt h' a cls none none:=by
  obtain ⟨t,e,_,_⟩:=x.there
  exact ⟨_,_,e,rfl,rfl,rfl,⟨by show 5<6; decide,.inl rfl⟩,rfl⟩
def tRaise (cls:Value) (Ex:St→XK) (t:TA):TS:=fun _ σ H=>t σ H fun vs H1=>vs.length≤64∧Ex σ cls none H1
abbrev mroVE:List Value:=[.type "ValueError",.type "Exception",.type "BaseException",.type "object"]
section
variable {X:Cx} {C:Addr} {Ex:St→XK} {x:Str} {pos np cpos:Pos} {e:Expr} {es:List Expr} {t:TA}
theorem ws_raise (q:PySem.W.excIn X.K C mroVE "ValueError.__new__" = true) (hm:X.mg x=some (.ref C)) (hc:X.calm=true) (hx:XMade X Ex) (ha:PAw X (e::es) t) (hg:Gl X x:=by rfl)
    (hdb:(x == ("__debug__" : Str))=false:=by decide) (he:starEach (e::es) X.env=(false,eval e X.env)::starEach es X.env:=by first | exact se_Name | exact se_Constant | exact se_BoolOp | exact se_BinOp | exact se_UnaryOp | exact se_IfExp | exact se_Dict | exact se_ListComp | exact se_Compare | exact se_Call | exact se_Attribute | exact se_Subscript | exact se_List | exact se_Tuple | exact se_JoinedStr | exact se_GeneratorExp)
    (hpl:(backTo cpos (starEach es X.env)).any (·.1)=false:=by repeat (first | exact ap_nil | refine ap_cons (by first | exact se_Name | exact se_Constant | exact se_BoolOp | exact se_BinOp | exact se_UnaryOp | exact se_IfExp | exact se_Dict | exact se_ListComp | exact se_Compare | exact se_Call | exact se_Attribute | exact se_Subscript | exact se_List | exact se_Tuple | exact se_JoinedStr | exact se_GeneratorExp) ?_)) :
    PSw X (.Raise (some (.Call (.Name x np) (e::es) [] cpos)) none pos) (tRaise (.ref C) Ex t):=⟨by
  intro pins s σ H D I h
  obtain ⟨bm,N,nm,qn,bs,hdct,sn,sub,ab,col,dd,k0,k1,k2,k3,k5,mN,hC,hN,hni,TL⟩:=exc_obj I.ok.mod.kin q
  have FB:=PySem.F.excBase_ValueError
  refine wpAny_Raise_call_subT (C:=C) (nm:=nm) (q:=qn) (N:=N) (bs:=bs) (bm:=bm) (hdct:=hdct) (sn:=sn) (sub:=sub) (ab:=ab) (col:=col) (dd:=dd) (k0:=k0) (k1:=k1) (k2:=k2) (k3:=k3) (k5:=k5) FB (mN:=mN)
    (TL.hasType FB.hasBase) (I.ok.hd hc) ?_ hni (ld_glob I hg hm ⟨rfl,?_⟩ hdb)
  · rw [he]
    show (false || (backTo cpos (starEach es X.env)).any (·.1))=false
    rw [hpl]; rfl
  · have hA:=ha.p cpos pins s σ H _ I h
    rw [he] at hA ⊢
    refine Calls.evalArgs_plain (thn hA fun us s1 ⟨vs,H1,I1,r,hz,q⟩=>⟨rfl,?_,I1.bk _ _ hC,hN.keeps I1.bk,TL.keeps I1.bk,fun h' a x=>?_⟩)
    · rw [← r.length]; exact small64 hz
    · have fresh:=x.new
      have na:H1 a=none:=by
        cases z:H1 a with
        | none=>rfl
        | some u=>obtain ⟨ob,e⟩:=(I1.hok a u z).get; rw [fresh] at e; cases e
      exact hx.p pins σ H1 s1 h' s1.toks a _ none I1 x.keeps fresh na (MadeExcOf.at x) q⟩
end
end L2
set_option Elab.async false
set_option linter.all false
set_option maxRecDepth 100000
namespace L2
open PySem PySem.W PySem.Spec PySem.Calls PyProof.Rows
structure ExcCls (K:Frag) (C:Addr):Prop where
  ga:findIn K (.ref C) "__getattribute__" = some (some (.builtin "BaseException.__getattribute__"))
  gt:findIn K (.ref C) "__getattr__" = some none
  sub:subIn K (.ref C) (.type "BaseException")=some true
  cls:(clsIn K C).isSome=true
  kc:findIn K (.ref C) "__class__" = some (some (.builtin "object.__class__"))
  kg:specialIn K (.builtin "object.__class__") "__get__" = some (some (.builtin "getset_descriptor.__get__"))
  kt:takesIn K (.builtin "object.__class__")=some true
  ob:mroIn K C (.type "object")=some true
section
variable {prog:Program} {w:World} {A:Around} {E:Value→Shared→Prop} {s:Shared} {K:Frag} {x C:Addr} {ox:Obj} {od:Option Obj} {name:Str}
theorem exc_check {nv:Value} {Q:Unit→Shared→Prop} (c:ExcCls K C) (X:K.In s.heap) (I:InstAt s.heap x ox C od) (h:Q () s):wpAny (model prog w) A (checkBuiltinCall "BaseException.__getattribute__" ⟨[.ref x,nv],[]⟩) Q E s:=by
  have hk:builtinKind "BaseException.__getattribute__" = some .slot:=by decide +kernel
  have hsp:splitId "BaseException.__getattribute__" = some ("BaseException", "__getattribute__"):=by decide +kernel
  have LT:=I.type (M:=model prog w)
  have LS:=looks_subIn (M:=model prog w) X c.sub
  have LI:Looks (model prog w) s.heap (isInstance (.ref x) (.type "BaseException")) true:=LT.andThen LS
  have ha:=F.args_bexc_ga (.ref x) nv
  obtain ⟨hh,g,d,t,os⟩:=s
  simp only [checkBuiltinCall,hk,hsp]
  refine wpAny_bind (LI.at ?_)
  repeat (any_goals (first | assumption | wp_step))
theorem exc_call {v:Value} {tk:Tok} {R:Result→Shared→Prop} (c:ExcCls K C) (X:K.In s.heap) (I:InstAt s.heap x ox C od) (hf:findObj K C od name=some (.value v)) (h:R (.ok (.ret v)) s) :
    codeAny (model prog w) A (.call (.builtin "BaseException.__getattribute__") ⟨[.ref x,.str name tk],[]⟩) R s:=by
  refine codeAny_call_builtin F.attr_ValueError.ga.plain F.entry_bexc_ga (exc_check c X I ?_)
  have LT:=I.type (M:=model prog w)
  have LF:=looks_find (M:=model prog w) X I hf
  obtain ⟨hh,g,d,t,os⟩:=s
  unfold Builtin.«object.__getattribute__»
  refine wpAny_bind ?_
  repeat (any_goals (first | assumption | (refine LT.at ?_) | (refine LF.at ?_) | wp_step))
theorem exc_callB {g a v:Value} {tk:Tok} {R:Result→Shared→Prop} (c:ExcCls K C) (X:K.In s.heap) (I:InstAt s.heap x ox C od) (hf:findObj K C od name=some (.bind g a))
    (h:∀ A' R',(R' (.ok (.ret v)) s)→codeAny (model prog w) A' (.call g ⟨[a,.ref x,.ref C],[]⟩) R' s) (hq:R (.ok (.ret v)) s) :
    codeAny (model prog w) A (.call (.builtin "BaseException.__getattribute__") ⟨[.ref x,.str name tk],[]⟩) R s:=by
  refine codeAny_call_builtin F.attr_ValueError.ga.plain F.entry_bexc_ga (exc_check c X I ?_)
  have LT:=I.type (M:=model prog w)
  have LF:=looks_find (M:=model prog w) X I hf
  obtain ⟨hh,gg,d,t,os⟩:=s
  unfold Builtin.«object.__getattribute__»
  refine wpAny_bind ?_
  repeat (any_goals (first | assumption | (refine LT.at ?_) | (refine LF.at ?_) | (refine h _ _ ?_) | wp_step))
theorem exc_by {v:Value} {nv:Value} {fill expr:Bool} {Q:Value→Shared→Prop} (c:ExcCls K C) (X:K.In s.heap) (I:InstAt s.heap x ox C od)
    (hc:∀ A' R',(R' (.ok (.ret v)) s)→codeAny (model prog w) A' (.call (.builtin "BaseException.__getattribute__") ⟨[.ref x,nv],[]⟩) R' s) (hv:handedIn v=true) (h:Q v s):wpAny (model prog w) A (getAttrBy (.ref x) nv fill expr) Q E s:=by
  have LT:=I.type (M:=model prog w)
  have L1:=looks_findIn (M:=model prog w) X c.ga
  have L2:=looks_findIn (M:=model prog w) X c.gt
  have hb:=F.attr_ValueError.ga.bind (.ref x)
  have n0:(expr&&onTheHeap (Value.builtin "BaseException.__getattribute__"))=false:=by cases expr <;> rfl
  have n1:(onTheHeap (Value.ref C)&&Value.builtin "BaseException.__getattribute__" == Value.builtin "object.__getattribute__")=false:=by
    rw [show (Value.builtin "BaseException.__getattribute__" == Value.builtin "object.__getattribute__")=false by decide +kernel]; rfl
  obtain ⟨hh,g,d,t,os⟩:=s
  unfold getAttrBy
  refine wpAny_holding (wpAny_bind (LT.at (wpAny_bind (L1.at ?_))))
  dsimp only
  rw [if_neg (by rw [n1]; exact Bool.false_ne_true)]
  unfold getAttrByItsOwn hookBefore
  rw [if_pos (show onTheHeap (Value.ref C)=true from rfl)]
  refine wpAny_bind (L2.at (wpAny_bind (wpAny_attempt (wpAny_holding ?_))))
  unfold callGetattribute
  rw [if_neg (by rw [n0]; exact Bool.false_ne_true)]
  unfold boundAndCalled
  refine wpAny_bind (wpAny_of_eq hb (wpAny_call (hc _ _ ?_)))
  exact handed_on hv h
theorem exc_attr {v:Value} {expr:Bool} {Q:Value→Shared→Prop} (c:ExcCls K C) (X:K.In s.heap) (I:InstAt s.heap x ox C od) (hf:findObj K C od name=some (.value v)) (hv:handedIn v=true) (h:Q v { s with toks:=s.toks+1 }) :
    wpAny (model prog w) A (getAttr (.ref x) name expr) Q E s:=by
  unfold getAttr
  refine wpAny_bind (wpAny_mkText ?_)
  exact exc_by (s:={ s with toks:=s.toks+1 }) c X I (fun A' R' q=>exc_call (s:={ s with toks:=s.toks+1 }) c X I hf q) hv h
theorem exc_class {Q:Option Value→Shared→Prop} (c:ExcCls K C) (X:K.In s.heap) (I:InstAt s.heap x ox C od) (h:Q (some (.ref C)) { s with toks:=s.toks+1 }):wpAny (model prog w) A (getAttr? (.ref x) "__class__") Q E s:=by
  have hf:findObj K C od "__class__" = some (.bind (.builtin "getset_descriptor.__get__") (.builtin "object.__class__")):=by
    obtain ⟨cd,hc⟩:=Option.isSome_iff_exists.mp c.cls
    unfold findObj
    rw [hc,Option.bind_some,c.kc,Option.bind_some]
    simp [c.kg,c.kt]
  unfold getAttr? getAttrBy?
  refine wpAny_bind (wpAny_mkText (wpAny_bind (wpAny_attempt ?_)))
  refine exc_by (s:={ s with toks:=s.toks+1 }) c X I (fun A' R' q=>exc_callB (s:={ s with toks:=s.toks+1 }) (v:=.ref C) c X I hf (fun A'' R'' q'=>class_get (s:={ s with toks:=s.toks+1 }) (ox:=ox) (od:=od) X I c.ob q') q) rfl ?_
  exact wpAny_pure h
theorem kitx_exc (c:ExcCls K C):KitX K (.ref x) (.ref C) (fun h=>∃ ox od,InstAt h x ox C od) where
  ty:=fun _ _ _ ⟨_,_,I⟩=>I.type
  it:=fun M h X _=>by
    have e:=c.cls
    unfold clsIn at e
    split at e
    · rename_i ho
      intro A' Q' E' s' k q
      unfold isType loadHead
      exact wpAny_bind (wpAny_loadPart (k _ _ (X _ _ ho)) (wpAny_pure q))
    · cases e
  ne:=fun h tp dd its n sl X htp=>by
    refine Bool.eq_false_iff.mpr fun q=>?_
    obtain rfl:C=tp:=Value.ref.inj (beq_iff_eq.mp q)
    have e:=c.cls
    unfold clsIn at e
    split at e
    · rename_i ho
      have z:=(X _ _ ho).symm.trans htp
      cases z
    · cases e
  ca:=fun X ⟨_,_,I⟩ k=>exc_class c X I k
end
end L2
set_option Elab.async false
set_option linter.all false
set_option maxRecDepth 100000
namespace L2
open PySem PySem.Spec PyProof.Rows
def ExcO (a C:Addr) (od:Option Addr):HO:=.ext fun h=>∃ oe vs,h.get? a=some oe∧oe.cls=.ref C∧oe.dict=od∧oe.data=.fields vs∧1<vs.size
theorem ExcO.ok {P:Program} {w:World} {H:Hp} {h:Heap} {a C:Addr} {od:Option Addr} {st:Option (Addr × Value)} (x:ExcAt h a (.ref C) od st):ObjOk P w H h a (ExcO a C od):=by
  obtain ⟨oe,vs,h1,h2,h3,h4,h5,_⟩:=x
  refine ⟨⟨oe,vs,h1,h2,h3,h4,h5.sz⟩,⟨oe,h1⟩,?_⟩
  rintro g1 g2 ⟨oe,vs,e1,e2,e3,e4,e5⟩ k
  exact ⟨oe,vs,k _ e1,e2,e3,e4,e5⟩
def Cx.tryW (X:Cx) (pins:List (Addr × Obj)) (xe:Value→Shared→Prop):Cx:={ X with pn:=X.pn++pins,xe:=xe }
def Cx.suite (X:Cx) (a:Addr):Cx:={ X with A:=X.A.mark (some (.ref a)),calm:=false,xe:=fun _ _=>False }
def Ends.drop (D:Ends) (i:Nat):Ends:={ nx:=fun σ H=>D.nx (σ.set i none) H,rt:=D.rt,bk:=fun σ H=>D.bk (σ.set i none) H,ct:=fun σ H=>D.ct (σ.set i none) H }
structure Catch (K:PySem.W.Frag) (C2:Addr):Prop where
  ty:PySem.W.typeIn K (.ref C2)=some (.type "type")
  cls:(PySem.W.clsIn K C2).isSome=true
  sub:PySem.W.subIn K (.ref C2) (.type "BaseException")=some true
def tTry (K:PySem.W.Frag) (C2:Addr) (i:Nat) (tb:(St→XK)→TS) (th:TS):TS:=fun D σ H=>∃ Ex:St→XK,tb Ex D σ H ∧
  ∀ σ' cls od H',Ex σ' cls od H'→∃ C,cls=.ref C∧PySem.W.subIn K (.ref C) (.ref C2)=some true∧∀ a,H' a=none→th (D.drop i) (σ'.set i (some (.ref a))) (upd H' a (ExcO a C od))
section
variable {X:Cx} {pins:List (Addr × Obj)} {σ:St} {H:Hp} {s:Shared}
theorem Inv.tryW (I:Inv X pins σ H s) (xe:Value→Shared→Prop):Inv (X.tryW pins xe) [] σ H s :=
  ⟨⟨I.ok.mod,I.ok.kind,I.ok.glob,I.ok.blt,I.ok.above,I.ok.inj,I.ok.has,I.ok.cab,I.ok.hd,I.ok.frames,I.ok.stk,I.ok.exf,I.ok.bs,I.ok.bsz,I.ok.noex,I.ok.exfs,I.ok.funs,I.ok.frf⟩,I.os,I.bare,I.base,I.loc,I.cell,I.free,I.freeC,
    fun p hp=>I.pin p (by have:p∈(X.pn++pins)++[]:=hp; rwa [List.append_nil] at this),I.hok,I.len⟩
theorem Inv.untry {xe:Value→Shared→Prop} {pins':List (Addr × Obj)} (I:Inv (X.tryW pins xe) pins' σ H s):Inv X pins σ H s :=
  ⟨⟨I.ok.mod,I.ok.kind,I.ok.glob,I.ok.blt,I.ok.above,I.ok.inj,I.ok.has,I.ok.cab,I.ok.hd,I.ok.frames,I.ok.stk,I.ok.exf,I.ok.bs,I.ok.bsz,I.ok.noex,I.ok.exfs,I.ok.funs,I.ok.frf⟩,I.os,I.bare,I.base,I.loc,I.cell,I.free,I.freeC,
    fun p hp=>I.pin p (List.mem_append_left _ hp),I.hok,I.len⟩
theorem Inv.suite (I:Inv X pins σ H s) (a:Addr):Inv (X.suite a) pins σ H s :=
  ⟨⟨I.ok.mod,I.ok.kind,I.ok.glob,I.ok.blt,I.ok.above,I.ok.inj,I.ok.has,I.ok.cab,(fun z=>by cases z),I.ok.frames,I.ok.stk,I.ok.exf,I.ok.bs,I.ok.bsz,I.ok.noex,I.ok.exfs,I.ok.funs,I.ok.frf⟩,I.os,I.bare,I.base,I.loc,I.cell,I.free,I.freeC,I.pin,I.hok,I.len⟩
theorem Inv.unsuite {a:Addr} (I:Inv (X.suite a) pins σ H s) (ok:X.Ok):Inv X pins σ H s:=⟨ok,I.os,I.bare,I.base,I.loc,I.cell,I.free,I.freeC,I.pin,I.hok,I.len⟩
theorem Inv.forget {h':Heap} {tk:Nat} {i:Nat} {x:Str} {v:Option Value} {m:Str→Option Value} (I:Inv X pins σ H s) (hN:X.N.Nodup) (hi:X.N[i]?=some x)
    (hl:∀ (i:Nat) (x:Str) (v:V),X.N[i]?=some x→σ[i]?=some (some v)→Vis X.env.scope x→∃ u,RelV v u∧Look X.env s.heap m x u)
    (hn:h'.Ns X.env.locals (fun y=>if y=x then v else m y)) (hs:Heap.SameBut X.env.locals s.heap h'):Inv X pins (σ.set i none) H { s with heap:=h',toks:=tk }:=by
  have hiσ:i<σ.length:=by rw [I.len]; exact (List.getElem?_eq_some_iff.mp hi).1
  have cne:=I.cne
  refine ⟨I.ok,I.os,I.bare,⟨fun b o e n hb hx=>?_,fun b o e n hb hx=>?_,I.base.free,fun b o e hx=>?_,I.base.tups,I.base.frzs,I.base.tbls⟩,⟨_,hn,fun j y w e1 e2 e3=>?_⟩,fun y c e=>?_,I.free,I.freeC,fun p hp=>?_,?_,by simpa using I.len⟩
  · exact (hs.2 b (Nat.ne_of_lt (Nat.lt_of_lt_of_le (Heap.lt_size e) I.ok.above))).trans (I.base.keep b o e n hb hx)
  · obtain ⟨sl,q⟩:=I.base.slot b o e n hb hx
    exact ⟨sl,(hs.2 b (Nat.ne_of_lt (Nat.lt_of_lt_of_le (Heap.lt_size e) I.ok.above))).trans q⟩
  · obtain ⟨o',q⟩:=I.base.there b o e hx
    exact ⟨o',(hs.2 b (Nat.ne_of_lt (Nat.lt_of_lt_of_le (Heap.lt_size e) I.ok.above))).trans q⟩
  · by_cases hj:j=i
    · subst hj
      rw [List.getElem?_set_self hiσ] at e2
      cases e2
    · rw [List.getElem?_set_ne (Ne.symm hj)] at e2
      obtain ⟨u,r,q⟩:=hl j y w e1 e2 e3
      refine ⟨u,r,?_⟩
      rcases q with ⟨k,e⟩ | ⟨k,c,e,z⟩
      · have ny:y≠x:=fun z=>hj (nodup_ix hN e1 (z ▸ hi))
        exact .inl ⟨k,by simp [ny,e]⟩
      · exact .inr ⟨k,c,e,z.sameBut hs (cne y c e)⟩
  · obtain ⟨w,z⟩:=I.cell y c e
    exact ⟨w,z.sameBut hs (cne y c e)⟩
  · obtain ⟨e,n,ne,nf,d⟩:=I.pin p hp
    exact ⟨(hs.2 p.1 ne).trans e,n,ne,nf,d⟩
  · exact fun b u e=>(I.hok b u e).stay (fun c o hc q=>(hs.2 c (fun z=>by
      subst z
      rcases hc with z | z
      · subst z; rw [I.free] at e; cases e
      · rw [I.free] at z; cases z)).trans q) (fun _ q=>q) fun _ _ q=>q
theorem Inv.landed {a T:Addr} {C:Addr} {od:Option Addr} {H2:Hp} {s2:Shared} {h':Heap} {st:Option (Addr × Value)} (I:Inv X pins σ H s) (os:s2.os=s.os) (bare:AllBare s2.gens) (un:Un (frs X.stack) [] H H2 s.heap s2.heap) (hok:HOk X.prog X.w H2 s2.heap)
    (fa:s.heap.get? a=none) (fT:s.heap.get? T=none) (na:H2 a=none) (nT:H2 T=none) (k:Kp (frs X.stack) [a,T] s2.heap h') (x:ExcAt h' a (.ref C) od st):Inv X pins σ (upd H2 a (ExcO a C od)) { s2 with heap:=h' }:=by
  have hfree:∀ b∈frs X.stack,H2 b=none:=fun b hb=>by
    have ff:=I.stack
    obtain ⟨_,o,ho,_⟩:=ff.mem hb
    exact un.free b o ho (I.stkFree b hb) (by simp)
  have hex:∀ b∈[a,T],s.heap.get? b=none:=fun b hb=>by
    rcases List.mem_cons.mp hb with rfl | hb
    · exact fa
    · cases List.mem_singleton.mp hb; exact fT
  have hex2:∀ b∈[a,T],H2 b=none:=fun b hb=>by
    rcases List.mem_cons.mp hb with rfl | hb
    · exact na
    · cases List.mem_singleton.mp hb; exact nT
  exact I.call' (s':={ s2 with heap:=h' }) (ch:=[]) os ((un.kp k (fun b hb=>.inl hb) hex).put fa na) ((hok.kp k hfree hex2).put na (ExcO.ok x)) bare fun b hb=>by cases hb
end
section
variable {M:Model} {A:Around} {E:Value→Shared→Prop} {K:PySem.W.Frag} {s:Shared} {a C C2:Addr} {ox:Obj} {od:Option Obj}
theorem exc_hits' {Q:Bool→Shared→Prop} (X:K.In s.heap) (L4:PySem.W.Looks M s.heap (typeOf (.ref a)) (.ref C)) (c2:Catch K C2) (hsub:PySem.W.subIn K (.ref C) (.ref C2)=some true) (h:Q true s):wpAny M A (excMatches (.ref a) (.ref C2)) Q E s:=by
  have L1:=PySem.W.looks_typeIn (M:=M) X c2.ty
  have L2:=PySem.W.looks_subIn (M:=M) X c2.sub
  have L3:=PySem.W.looks_subIn (M:=M) X hsub
  have L5:PySem.W.Looks M s.heap (isType (.ref C2)) true:=by
    have e:=c2.cls
    unfold PySem.W.clsIn at e
    split at e
    · rename_i ho
      intro A' Q' E' s' k q
      unfold isType loadHead
      exact wpAny_bind (wpAny_loadPart (k _ _ (X _ _ ho)) (wpAny_pure q))
    · cases e
  have f:=tc_notTuple
  obtain ⟨hh,g,d,t,os⟩:=s
  unfold excMatches
  repeat (any_goals (first | assumption | (refine L1.at ?_) | (refine L2.at ?_) | (refine L3.at ?_) | (refine L4.at ?_) | (refine L5.at ?_) | wp_step))
end
end L2
set_option Elab.async false
set_option linter.all false
set_option maxRecDepth 100000
namespace L2
open PySem PySem.Spec PyProof.Rows
section
variable {X:Cx} {x n:Str} {np hpos pos:Pos} {b₀:Stmt} {body suite:List Stmt} {i:Nat} {C2:Addr} {tb:(St→XK)→TS} {th:TS}
theorem behind_suite {pins:List (Addr × Obj)} {a:Addr} {D:Ends} {f:Flow} {s:Shared} (ok:X.Ok) (hN:X.N.Nodup) (hi:X.N[i]?=some n) (hl:X.env.kindOf n=some .local)
    (q:SP (X.suite a) pins (D.drop i) f s):wpAny (model X.prog X.w) X.A (do bindName X.env n .none; unbindBehindTheSuite X.env n hpos) (fun _ s'=>SP X pins D f s') X.xe s:=by
  have hp:(X.env.scope.kind == .class || (X.env.scope.kind == .module&&X.env.locals != X.env.globals))=false:=by rw [ok.kind]; rfl
  have go:∀ {σ:St} {H:Hp} (J:Inv (X.suite a) pins σ H s) {Q:Unit→Shared→Prop},(∀ s',Inv X pins (σ.set i none) H s'→Q () s')→wpAny (model X.prog X.w) X.A (do bindName X.env n .none; unbindBehindTheSuite X.env n hpos) Q X.xe s:=by
    intro σ H J Q k
    have J':=J.unsuite ok
    obtain ⟨m,hn,hl'⟩:=J'.loc
    exact wpAny_nameGoes_keeps hl hn hp fun h' v hn' hs=>k _ (J'.forget hN hi hl' hn' hs)
  cases f with
  | next=>obtain ⟨σ,H,J,q⟩:=q; exact go J fun s' J'=>⟨_,H,J',q⟩
  | brk=>obtain ⟨σ,H,J,q⟩:=q; exact go J fun s' J'=>⟨_,H,J',q⟩
  | cont=>obtain ⟨σ,H,J,q⟩:=q; exact go J fun s' J'=>⟨_,H,J',q⟩
  | ret u=>obtain ⟨v,σ,H,J,r,q⟩:=q; exact go J fun s' J'=>⟨v,_,H,J',r,q⟩
theorem ws_try (hst:X.stack=X.env::X.outer) (hfm:X.env.frame=some X.env.locals) (hg:Gl X x) (hm:X.mg x=some (.ref C2)) (c2:Catch X.K C2) (hN:X.N.Nodup) (hi:X.N[i]?=some n) (hl:X.env.kindOf n=some .local)
    (hb:∀ pins xe Ex,XPass (X.tryW pins xe) Ex→PSsw (X.tryW pins xe) body (tb Ex)) (hs:∀ a,PSsw (X.suite a) (b₀::suite) th) (hd:(x == ("__debug__" : Str))=false:=by decide) :
    PSw X (.Try body [.ExceptHandler (some (.Name x np)) (some n) (b₀::suite) hpos] [] [] pos) (tTry X.K C2 i tb th):=⟨by
  intro pins s σ H D I h
  obtain ⟨Ex,h1,h2⟩:=h
  refine wpAny_Try_except ?_
  generalize hxe:(fun (e:Value) (s₁:Shared)=>wpAny (model X.prog X.w) X.A (noteFrame e X.env) (fun _ s₂=>wpAny (model X.prog X.w) X.A (setFlight e none) (fun _ s₃ =>
    wpAny (model X.prog X.w) X.A (handleBy e X.env [.ExceptHandler (some (.Name x np)) (some n) (b₀::suite) hpos]) (SP X pins D) X.xe s₃) X.xe s₂) X.xe s₁)=xe
  have hx:XPass (X.tryW pins xe) Ex:=⟨fun pins' σ' H1 s1 e s2 I' hc=>by
    obtain ⟨a,T,cls,od,H2,rfl,os,bare,un,hok,fa,fT,na,nT,x0,q⟩:=hc
    obtain ⟨C,rfl,hsub,k⟩:=h2 σ' cls od H2 q
    have I1:Inv X pins σ' H1 s1:=I'.untry
    have un:Un (frs X.stack) [] H1 H2 s1.heap s2.heap:=un
    have hff:s2.heap.FunFrames X.base (X.env::X.outer):=by
      rw [← hst]
      exact funFrames_kp (fun b hb o e=>un.any e (I1.stkFree b hb) (by simp)) I1.stack
    show xe (.ref a) s2
    rw [← hxe]
    refine note_ok (by rw [← hst]; exact I1.ok.frames) hff hfm x0 (.inr ⟨T,rfl⟩) fun h3 T3 y1 y2 y3=>?_
    refine land_ok y1 fun h4 z1 z2=>?_
    have k4:Kp (frs X.stack) [a,T] s2.heap h4:=by
      rw [hst]
      refine ⟨fun b o e n1 n2=>z2 b o (fun q=>by subst q; rw [y2] at e; cases e) (y3.keep b o e n1 n2),fun b o e n1 n2=>?_⟩
      obtain ⟨sl,e1⟩:=y3.slot b o e n1 n2
      exact ⟨sl,z2 b _ (fun q=>by subst q; rw [y2] at e; cases e) e1⟩
    have I4:=I1.landed (h':=h4) os bare un hok fa fT na nT k4 z1
    refine wpAny_handleBy_cons (codeAny_handlers_test ?_) (by intro q; cases q)
    refine Calls.Name_function_global I4.ok.kind hg (Calls.loadGlobal_global (by rw [I4.ok.glob]; exact I4.mod.glob.keeps I4.bk) hm ?_) hd
    have LT:PySem.W.Looks (model X.prog X.w) h4 (typeOf (.ref a)) (.ref C):=by
      obtain ⟨oe,vs,e1,e2,_⟩:=z1
      exact e2 ▸ (PySem.W.Looks.ld e1).andThen .now
    refine exc_hits' I4.kIn LT c2 hsub ?_
    refine codeAny_handlers_suite_as ?_
    refine land_ok z1 fun h5 w1 w2=>?_
    have k5:Kp (frs X.stack) [a,T] s2.heap h5:=by
      refine ⟨fun b o e n1 n2=>w2 b o (fun q=>by subst q; rw [y2] at e; cases e) (k4.keep b o e n1 n2),fun b o e n1 n2=>?_⟩
      obtain ⟨sl,e1⟩:=k4.slot b o e n1 n2
      exact ⟨sl,w2 b _ (fun q=>by subst q; rw [y2] at e; cases e) e1⟩
    have I5:=(I1.landed (h':=h5) os bare un hok fa fT na nT k5 w1).suite a
    refine store_ok (X:=X.suite a) I5 hN hi (.inl hl) (v:=.ref a) rfl (fun s6 I6=>?_) (.inr hl)
    refine wpAny_mono ((hs a).p pins s6 _ _ (D.drop i) I6 (k a na)) (fun f s7 q7=>?_) fun _ _ z=>False.elim z
    exact behind_suite I1.ok hN hi hl q7⟩
  refine wpAny_mono ((hb pins xe Ex hx).p [] s σ H D (I.tryW xe) h1) (fun f s' q=>?_) fun e s' q=>q
  cases f with
  | next=>obtain ⟨σ',H',J,q⟩:=q; exact wpAny_execs_nil ⟨σ',H',J.untry,q⟩
  | brk=>obtain ⟨σ',H',J,q⟩:=q; exact ⟨σ',H',J.untry,q⟩
  | cont=>obtain ⟨σ',H',J,q⟩:=q; exact ⟨σ',H',J.untry,q⟩
  | ret u=>obtain ⟨v,σ',H',J,r,q⟩:=q; exact ⟨v,σ',H',J.untry,r,q⟩⟩
end
end L2
set_option Elab.async false
set_option linter.all false
set_option maxRecDepth 100000
namespace L2
open PySem PySem.Spec PyProof.Rows
def tTryB (K:PySem.W.Frag) (C2:Addr) (tb:(St→XK)→TS) (th:TS):TS:=fun D σ H=>∃ Ex:St→XK,tb Ex D σ H ∧
  ∀ σ' cls od H',Ex σ' cls od H'→∃ C,cls=.ref C∧PySem.W.subIn K (.ref C) (.ref C2)=some true∧∀ a,H' a=none→th D σ' (upd H' a (ExcO a C od))
section
variable {X:Cx} {x:Str} {np hpos pos:Pos} {b₀:Stmt} {body suite:List Stmt} {C2:Addr} {tb:(St→XK)→TS} {th:TS}
theorem ws_tryB (hst:X.stack=X.env::X.outer) (hfm:X.env.frame=some X.env.locals) (hg:Gl X x) (hm:X.mg x=some (.ref C2)) (c2:Catch X.K C2)
    (hb:∀ pins xe Ex,XPass (X.tryW pins xe) Ex→PSsw (X.tryW pins xe) body (tb Ex)) (hs:∀ a,PSsw (X.suite a) (b₀::suite) th) (hd:(x == ("__debug__" : Str))=false:=by decide) :
    PSw X (.Try body [.ExceptHandler (some (.Name x np)) none (b₀::suite) hpos] [] [] pos) (tTryB X.K C2 tb th):=⟨by
  intro pins s σ H D I h
  obtain ⟨Ex,h1,h2⟩:=h
  refine wpAny_Try_except ?_
  generalize hxe:(fun (e:Value) (s₁:Shared)=>wpAny (model X.prog X.w) X.A (noteFrame e X.env) (fun _ s₂=>wpAny (model X.prog X.w) X.A (setFlight e none) (fun _ s₃ =>
    wpAny (model X.prog X.w) X.A (handleBy e X.env [.ExceptHandler (some (.Name x np)) none (b₀::suite) hpos]) (SP X pins D) X.xe s₃) X.xe s₂) X.xe s₁)=xe
  have hx:XPass (X.tryW pins xe) Ex:=⟨fun pins' σ' H1 s1 e s2 I' hc=>by
    obtain ⟨a,T,cls,od,H2,rfl,os,bare,un,hok,fa,fT,na,nT,x0,q⟩:=hc
    obtain ⟨C,rfl,hsub,k⟩:=h2 σ' cls od H2 q
    have I1:Inv X pins σ' H1 s1:=I'.untry
    have un:Un (frs X.stack) [] H1 H2 s1.heap s2.heap:=un
    have hff:s2.heap.FunFrames X.base (X.env::X.outer):=by
      rw [← hst]
      exact funFrames_kp (fun b hb o e=>un.any e (I1.stkFree b hb) (by simp)) I1.stack
    show xe (.ref a) s2
    rw [← hxe]
    refine note_ok (by rw [← hst]; exact I1.ok.frames) hff hfm x0 (.inr ⟨T,rfl⟩) fun h3 T3 y1 y2 y3=>?_
    refine land_ok y1 fun h4 z1 z2=>?_
    have k4:Kp (frs X.stack) [a,T] s2.heap h4:=by
      rw [hst]
      refine ⟨fun b o e n1 n2=>z2 b o (fun q=>by subst q; rw [y2] at e; cases e) (y3.keep b o e n1 n2),fun b o e n1 n2=>?_⟩
      obtain ⟨sl,e1⟩:=y3.slot b o e n1 n2
      exact ⟨sl,z2 b _ (fun q=>by subst q; rw [y2] at e; cases e) e1⟩
    have I4:=I1.landed (h':=h4) os bare un hok fa fT na nT k4 z1
    refine wpAny_handleBy_cons (codeAny_handlers_test ?_) (by intro q; cases q)
    refine Calls.Name_function_global I4.ok.kind hg (Calls.loadGlobal_global (by rw [I4.ok.glob]; exact I4.mod.glob.keeps I4.bk) hm ?_) hd
    have LT:PySem.W.Looks (model X.prog X.w) h4 (typeOf (.ref a)) (.ref C):=by
      obtain ⟨oe,vs,e1,e2,_⟩:=z1
      exact e2 ▸ (PySem.W.Looks.ld e1).andThen .now
    refine exc_hits' I4.kIn LT c2 hsub ?_
    refine codeAny_handlers_suite ?_
    refine land_ok z1 fun h5 w1 w2=>?_
    have k5:Kp (frs X.stack) [a,T] s2.heap h5:=by
      refine ⟨fun b o e n1 n2=>w2 b o (fun q=>by subst q; rw [y2] at e; cases e) (k4.keep b o e n1 n2),fun b o e n1 n2=>?_⟩
      obtain ⟨sl,e1⟩:=k4.slot b o e n1 n2
      exact ⟨sl,w2 b _ (fun q=>by subst q; rw [y2] at e; cases e) e1⟩
    have I5:=(I1.landed (h':=h5) os bare un hok fa fT na nT k5 w1).suite a
    refine wpAny_mono ((hs a).p pins _ _ _ D I5 (k a na)) (fun f s7 q7=>?_) fun _ _ z=>False.elim z
    cases f with
    | next=>obtain ⟨σ8,H8,J,q⟩:=q7; exact ⟨σ8,H8,J.unsuite I1.ok,q⟩
    | brk=>obtain ⟨σ8,H8,J,q⟩:=q7; exact ⟨σ8,H8,J.unsuite I1.ok,q⟩
    | cont=>obtain ⟨σ8,H8,J,q⟩:=q7; exact ⟨σ8,H8,J.unsuite I1.ok,q⟩
    | ret u=>obtain ⟨v,σ8,H8,J,r,q⟩:=q7; exact ⟨v,σ8,H8,J.unsuite I1.ok,r,q⟩⟩
  refine wpAny_mono ((hb pins xe Ex hx).p [] s σ H D (I.tryW xe) h1) (fun f s' q=>?_) fun e s' q=>q
  cases f with
  | next=>obtain ⟨σ',H',J,q⟩:=q; exact wpAny_execs_nil ⟨σ',H',J.untry,q⟩
  | brk=>obtain ⟨σ',H',J,q⟩:=q; exact ⟨σ',H',J.untry,q⟩
  | cont=>obtain ⟨σ',H',J,q⟩:=q; exact ⟨σ',H',J.untry,q⟩
  | ret u=>obtain ⟨v,σ',H',J,r,q⟩:=q; exact ⟨v,σ',H',J.untry,r,q⟩⟩
end
end L2
set_option Elab.async false
set_option linter.all false
set_option maxRecDepth 100000
namespace L2
open PySem
def strsAre:List Value→List Str→Bool
  | [],[]=>true
  | .str i _::vs,n::ns=>decide (i=n)&&strsAre vs ns
  | _,_=>false
def strsIn (K:PySem.W.Frag) (a:Addr) (ns:List Str):Bool :=
  match K.lookup a with
  | some o=>(match o.cls with | .type n=>n == "tuple" | _=>false)&&(match o.data with | .seq xs _=>decide (xs.size≤64)&&strsAre xs.toList ns | _=>false)
  | none=>false
theorem strsAre.vals:∀ {vs:List Value} {ns:List Str},strsAre vs ns=true→Vals (ns.map V.str) vs
  | [],[],_=>.nil
  | v::vs,n::ns,h=>by
    cases v with
    | str i t =>
      have h':(decide (i=n)&&strsAre vs ns)=true:=h
      rw [Bool.and_eq_true] at h'
      have e:=of_decide_eq_true h'.1
      subst e
      exact .cons ⟨t,rfl⟩ (strsAre.vals h'.2)
    | _=>cases h
  | [],_::_,h=>by cases h
  | v::_,[],h=>by cases v <;> cases h
theorem sqT_strs {K:PySem.W.Frag} {H:Hp} {a:Addr} {ns:List Str} (h:strsIn K a ns=true):SqT K H a (ns.map V.str):=by
  unfold strsIn at h
  split at h
  · rename_i o ho
    rw [Bool.and_eq_true] at h
    obtain ⟨h1,h2⟩:=h
    split at h1
    · rename_i n hn
      split at h2
      · rename_i xs m hx
        rw [Bool.and_eq_true] at h2
        have e:n = "tuple" := by simpa using h1
        subst e
        exact .inr ⟨o,xs,m,ho,hn,hx,small64 (of_decide_eq_true h2.1),strsAre.vals h2.2⟩
      · cases h2
    · cases h1
  · cases h
end L2
set_option Elab.async false
set_option linter.all false
set_option maxRecDepth 100000
namespace L2
open PySem PySem.Spec PyProof.Rows
end L2
set_option Elab.async false
set_option linter.all false
set_option maxRecDepth 100000
namespace L2
open PySem PySem.W PySem.Spec PySem.Calls PyProof.Rows
structure NoDig (K:Frag):Prop where
  ok:nsOkIn K cStatics=true
  no:nsIn K cStatics "sys.int_max_str_digits" = some none
theorem NoDig.at {K:Frag} {h:Heap} (n:NoDig K) (X:K.In h):h.NoDigits:=⟨_,.of_isNs (isNs_of_in X n.ok),nsMap_none_of_in X n.ok n.no⟩
section
variable {X:Cx}
@[irreducible] def rStrI:List V→Hp→VK→Prop:=fun xs H Q=>∃ i:Int,xs=[.int i]∧i.natAbs<10^4300∧Q (.str (toString i)) H
theorem rstrI {i:Int} {H:Hp} {Q:VK} (h:i.natAbs<10^4300) (q:Q (.str (toString i)) H):rStrI [.int i] H Q:=by unfold rStrI; exact ⟨i,rfl,h,q⟩
theorem cl_strI (hc:X.calm=true) (nd:NoDig X.K):CallR X (.type "str") rStrI:=by
  unfold rStrI
  intro pins s σ H xs us Q I r h
  obtain ⟨i,rfl,hz,q⟩:=h
  obtain ⟨u,rfl,t,rfl⟩:=vals1 r
  exact PyProof.Rows.str_of_int_or (I.ok.hd hc) (nd.at I.kIn) (fun _=>⟨.str _,H,I.tok _,⟨_,rfl⟩,q⟩) (fun h=>absurd hz (Nat.not_lt.mpr h))
@[irreducible] def rStarts:V→List V→Hp→VK→Prop:=fun x xs H Q=>∃ a b,x=.str a∧xs=[.str b]∧Q (.bl (Txt.startswith a b)) H
theorem rstarts {a b:Str} {H:Hp} {Q:VK} (q:Q (.bl (Txt.startswith a b)) H):rStarts (.str a) [.str b] H Q:=by unfold rStarts; exact ⟨a,b,rfl,rfl,q⟩
theorem mt_starts:MtR X "str.startswith" rStarts:=by
  unfold rStarts
  intro pins s σ H x xs v us Q I rx rv h
  obtain ⟨a,b,rfl,rfl,q⟩:=h
  obtain ⟨t,rfl⟩:=rx
  obtain ⟨u,rfl,t',rfl⟩:=vals1 rv
  exact SC.startswith ⟨.bl _,H,I,rfl,q⟩
theorem vals_strs:∀ (l:List (Str × Tok)),Vals (l.map fun p=>V.str p.1) (strValues l)
  | []=>.nil
  | (x,t)::r=>.cons ⟨t,rfl⟩ (vals_strs r)
@[irreducible] def rSplit:V→List V→Hp→VK→Prop:=fun x xs H Q=>∃ a b,x=.str a∧xs=[.str b]∧(b.length == 0)=false∧a.length≤sizeLine∧(Txt.split a b).length≤sizeLine∧∀ p,H p=none→Q (.ref p) (upd H p (.lst ((Txt.split a b).map V.str)))
theorem rsplit {a b:Str} {H:Hp} {Q:VK} (h1:(b.length == 0)=false) (h2:a.length≤sizeLine) (h3:(Txt.split a b).length≤sizeLine) (q:∀ p H',H p=none→H' p=some (.lst ((Txt.split a b).map V.str))→Same H H'→Q (.ref p) H'):rSplit (.str a) [.str b] H Q:=by
  unfold rSplit; exact ⟨a,b,rfl,rfl,h1,h2,h3,fun p hp=>q p _ hp upd_same (Same.upd hp)⟩
theorem mt_split:MtR X "str.split" rSplit:=by
  unfold rSplit
  intro pins s σ H x xs v us Q I rx rv h
  obtain ⟨x,y,rfl,rfl,hy,hsz,hz,q⟩:=h
  obtain ⟨t,rfl⟩:=rx
  obtain ⟨_,rfl,u,rfl⟩:=vals1 rv
  unfold Txt.split at hz q
  cases h1:(decide (x.length<y.length) || decide (Builtin.Str.strKind x<Builtin.Str.strKind y))
  · rw [h1,if_neg Bool.false_ne_true] at hz q
    cases hf:(Builtin.Str.occurrences x y 0 x.length (x.length+1)).isEmpty
    · rw [hf,if_neg Bool.false_ne_true] at hz q
      refine call_meets F.slot_str_split (typeIs_str _ _ _) F.entry_str_split (F.args_str_split_2 _ _) (meets_str_split_sep x y t u h1 hy hf hsz hz) ?_
      rw [strsFrom_eq]
      refine ⟨.ref _,_,I.lnew (t':=_) (ys:=_) ?_ ?_,rfl,q _ I.fresh⟩
      · have e:=numbered_texts s.toks (Builtin.Str.partsBetween x (Builtin.Str.occurrences x y 0 x.length (x.length+1)) y.length)
        have v:=vals_strs (numbered s.toks (Builtin.Str.partsBetween x (Builtin.Str.occurrences x y 0 x.length (x.length+1)) y.length))
        rw [show (fun p:Str × Tok=>V.str p.1)=V.str ∘ Prod.fst from rfl,← List.map_map,e] at v
        exact v
      · rw [List.length_map]; exact hz
    · rw [hf,if_pos rfl] at hz q
      exact call_meets F.slot_str_split (typeIs_str _ _ _) F.entry_str_split (F.args_str_split_2 _ _) (meets_str_split_not_found x y t u h1 hy hf)
        ⟨.ref _,_,I.lnew (t':=s.toks) (its:=[.str x t]) (ys:=[V.str x]) (.cons ⟨t,rfl⟩ .nil) (by show 1≤sizeLine; decide),rfl,q _ I.fresh⟩
  · rw [h1,if_pos rfl] at hz q
    exact call_meets F.slot_str_split (typeIs_str _ _ _) F.entry_str_split (F.args_str_split_2 _ _) (meets_str_split_cannot_occur x y t u h1)
      ⟨.ref _,_,I.lnew (t':=s.toks) (its:=[.str x t]) (ys:=[V.str x]) (.cons ⟨t,rfl⟩ .nil) (by show 1≤sizeLine; decide),rfl,q _ I.fresh⟩
def Signs (t:Str):Prop:=∀ c∈t.cps.toList,c=45∨(48≤c∧c≤57)
@[irreducible] def rIntT:List V→Hp→VK→Prop:=fun xs H Q=>∃ t n,xs=[.str t]∧Signs t∧PySem.intText? t=some n∧t.length≤sizeLine∧Q (.int n) H
theorem rintT {t:Str} {n:Int} {H:Hp} {Q:VK} (hs:Signs t) (h:PySem.intText? t=some n) (z:t.length≤sizeLine) (q:Q (.int n) H):rIntT [.str t] H Q:=by unfold rIntT; exact ⟨t,n,rfl,hs,h,z,q⟩
end
section
open PySem.NumText
theorem wpAny_intMax {M:Model} {A:Around} {E:Value→Shared→Prop} {s:Shared} {Q:Nat→Shared→Prop} (nd:s.heap.NoDigits) (h:Q 4300 s):wpAny M A Builtin.intMaxStrDigits Q E s:=by
  obtain ⟨mc,hns,hnone⟩:=nd
  unfold Builtin.intMaxStrDigits
  refine wpAny_bind (wpAny_nsGet hns ?_)
  rw [hnone]
  exact wpAny_pure h
theorem wp_textB {M:Model} {A:Around} {E:Value→Shared→Prop} {s:Shared} {Q:Value→Shared→Prop} {v:Value} {text:List Nat} {n:Int} (nd:s.heap.NoDigits)
    (hs:¬ (text.takeWhile (· != 0)).length≤640) (hr:(int_private% "readNumeral") 4300 10 (text.takeWhile (· != 0))=(int_private% "Numeral.value") n)
    (ha:((text.takeWhile (· != 0)).length == text.length)=true) (h:Q (.int n s.toks) { s with toks:=s.toks+1 }) :
    wpAny M A ((int_private% "intFromText") v text 10) Q E s:=by
  obtain ⟨hp,g,d,tk,os⟩:=s
  repeat (any_goals (first
    | assumption
    | (with_reducible refine wpAny_intMax nd ?_)
    | (with_reducible refine wpAny_ite_false (decide_eq_false hs) ?_)
    | (with_reducible refine wpAny_ite_true (decide_eq_true ha) ?_)
    | wp_step))
  all_goals (try rw [hr])
  all_goals (try dsimp only)
  repeat (any_goals (first
    | assumption
    | (with_reducible refine wpAny_intMax nd ?_)
    | (with_reducible refine wpAny_ite_false (decide_eq_false hs) ?_)
    | (with_reducible refine wpAny_ite_true (decide_eq_true ha) ?_)
    | wp_step))
open PySem.W.KIN in
set_option maxHeartbeats 4000000 in
theorem meets_textB {x:PySem.Str} {u:Tok} {n:Int} (hx:x.length≤sizeLine) (hl:¬ (numSeenOf x).length≤640) (hn:PySem.intText? x=some n) :
    Meets (Builtin.«int.__new__» ⟨[.type "int",.str x u],[]⟩) (fun A R s=>s.heap.NoDigits∧R (.ok (.ret (.int n s.toks))) { s with toks:=s.toks+1 }) :=
  .of_wp fun prog w A R s h=>by
    obtain ⟨nd,h⟩:=h
    obtain ⟨hp,g,d,tk,os⟩:=s
    have f1:=F.conv_sub_int
    have f2:=F.madeHere_int
    have f3:=str_int
    have f4:=str_idx
    have f5:=str_trunc
    have f6:typeOf (.str x u)=pure (.type "str"):=rfl
    have hr:(int_private% "readNumeral") 4300 10 (numSeenOf x)=(int_private% "Numeral.value") n∧((numSeenOf x).length == (numTextOf x).length)=true:=by
      rcases read4300 x hx with ⟨m,h1,h2,h3⟩ | ⟨h1,_⟩
      · rw [hn] at h1
        injection h1 with h1
        subst h1
        exact ⟨h3,h2⟩
      · rw [hn] at h1
        cases h1
    have hk:=KIN.Hid.mk (And.intro hl hr)
    clear hr hl hn hx
    repeat (any_goals (first
      | assumption
      | ((with_reducible show wpAny _ _ ((int_private% "intFromText") _ _ _) _ _ _); refine wp_textB nd hk.out.1 hk.out.2.1 hk.out.2.2 ?_)
      | wp_step))
    all_goals first | exact ⟨_,rfl,h⟩ | skip
end
section
open PySem.NumText
variable {X:Cx}
theorem cl_intT (nd:NoDig X.K):CallR X (.type "int") rIntT:=by
  unfold rIntT
  intro pins s σ H xs us Q I r h
  obtain ⟨x,n,rfl,hs,hn,hz,q⟩:=h
  obtain ⟨_,rfl,t,rfl⟩:=vals1 r
  have e:=(numText_signs hs).2
  have el:(numSeenOf x).length=x.length:=by rw [e]; exact Array.length_toList
  by_cases hl:x.length≤640
  · exact KIN.call_text hn hl ⟨.int n,H,I.tok _,⟨_,rfl⟩,q⟩
  · exact call_int_1 (meets_textB hz (by rw [el]; exact hl) hn) ⟨nd.at I.kIn,typeIs_int _ _ _,⟨.int n,H,I.tok _,⟨_,rfl⟩,q⟩⟩
end
end L2
set_option Elab.async false
set_option linter.all false
set_option maxRecDepth 100000
namespace L2
open PySem PySem.W PySem.Spec PySem.Calls PyProof.Rows
section
variable {X:Cx}
def rSlS:V→Option Int→Option Int→Hp→VK→Prop:=fun x lo hi H Q=>∃ a,x=.str a∧a.length≤sizeLine∧Q (.str (Txt.slice a lo hi)) H
theorem sl_str:SlR X rSlS:=by
  intro pins s σ H x v vl vu lo hi sl Q I rx hs pl pu h
  obtain ⟨a,rfl,hz,q⟩:=h
  obtain ⟨t,rfl⟩:=rx
  refine ⟨"str",_,F.slot_str_getitem.lookup,typeIs_str _ _ _,?_⟩
  have fin:∀ (l u:Option (Int × Tok)),l.map (·.1)=lo→u.map (·.1)=hi→s.heap.IsSlice sl l u none→wpAny (model X.prog X.w) X.A (getItem (.str a t) (.ref sl)) (EP X pins σ Q) X.xe s:=by
    intro l u el eu hsl
    refine wpAny_getItem_str_slice (st:=none) hsl rfl ?_
    refine post_val_or_str ⟨?_,fun t' k=>⟨.str (Txt.slice a lo hi),H,I.tok _,⟨t',?_⟩,q⟩⟩
    · have:=Txt.slice_le a lo hi
      unfold Txt.slice at this
      rw [← el,← eu] at this
      exact Nat.le_trans this hz
    · unfold Txt.slice
      rw [← el,← eu]
      rfl
  cases pl with
  | none =>
    cases pu with
    | none=>exact fin none none rfl rfl hs
    | int j tj=>exact fin none (some (j,tj)) rfl rfl hs
  | int i ti =>
    cases pu with
    | none=>exact fin (some (i,ti)) none rfl rfl hs
    | int j tj=>exact fin (some (i,ti)) (some (j,tj)) rfl rfl hs
@[irreducible] def rAll:List V→Hp→VK→Prop:=fun xs H Q=>∃ (p:Addr) (bs:List Bool),xs=[.ref p]∧H p=some (.lst (bs.map V.bl))∧Q (.bl (bs.all id)) H
theorem rall {p:Addr} {bs:List Bool} {H:Hp} {Q:VK} (e:H p=some (.lst (bs.map V.bl))) (q:Q (.bl (bs.all id)) H):rAll [.ref p] H Q:=by unfold rAll; exact ⟨p,bs,rfl,e,q⟩
theorem bools_of {bs:List Bool}:∀ {us:List Value},Vals (bs.map V.bl) us→LSm.BoolsAre us bs:=by
  induction bs with
  | nil=>intro us r; cases r; exact .nil
  | cons b bs ih =>
    intro us r
    cases r with
    | cons r t=>cases (show _=Value.bool b from r); exact .cons b (ih t)
theorem cl_all (hc:X.calm=true):CallR X (.builtin "all") rAll:=by
  unfold rAll
  intro pins s σ H xs us Q I r h
  obtain ⟨p,bs,rfl,e,q⟩:=h
  obtain ⟨_,rfl,r1⟩:=vals1 r
  cases r1
  obtain ⟨z,its,n,rv,hl,eo⟩:=I.lstM e
  have hL:s.heap.IsList p its.toArray:=⟨_,eo,rfl,n,rfl⟩
  have hb:=bools_of rv
  have hlt:p<s.heap.objs.size:=Heap.lt_size eo
  refine call_all_walk (wpAny_pyIter_list hL ?_)
  refine ⟨s.heap.objs.size,[s.heap.objs.size,p],[s.heap.objs.size],its.toArray.size,_,_,fun i=>(bs[i]?).getD true,rfl,Walks.list (A:=X.A.in1) (I.ok.hd hc) _ p (Nat.ne_of_lt hlt) its.toArray,
    ⟨⟨_,Heap.get?_push_size _ rfl,rfl,rfl⟩,hL.push _⟩,fun i v s' Q' E' hP hQ=>?_,fun h' tk hk=>?_⟩
  · obtain ⟨b,e,rfl⟩:=hb.get i v (by simpa using hP)
    simp only [e,Option.getD_some] at hQ
    exact wpAny_truthy_bool hQ
  · have e:((List.range its.toArray.size).all fun i=>(bs[i]?).getD true)=bs.all id:=by
      rw [List.size_toArray,hb.length]; exact LSm.range_all bs
    rw [e]
    exact ⟨.bl _,H,I.kept (LSm.kept_iter hk),rfl,q⟩
end
end L2
set_option Elab.async false
set_option linter.all false
set_option maxRecDepth 100000
namespace L2
open PySem PySem.W PySem.Spec PySem.Calls PyProof.Rows
section
variable {prog:Program} {w:World} {A:Around} {E:Value→Shared→Prop} {s:Shared} {I:Addr}
end
section
variable {X:Cx} {o a:Expr} {to:TE} {ta:TA} {np p2 apos cpos:Pos}
end
end L2
set_option Elab.async false
set_option linter.all false
set_option maxRecDepth 100000
namespace L2
open PySem PySem.W PySem.Spec PySem.Calls PyProof.Rows
def Its (x:Str):It:=⟨fun i _=>i<x.cps.size,fun i H v H'=>H'=H∧∃ c,x.cps[i]?=some c∧v=.str ⟨#[c]⟩,fun i _=>x.cps.size≤i⟩
theorem turn_str {P:Program} {w:World} {K:PySem.W.Frag} {tg:Expr} {x:Str} {t:Tok} {it:Addr}:Turn P w K tg (Its x) [it] it (fun i h=>h.IsStrIter it (strIterType x) x t i) where
  mem:=by simp
  obj:=fun i h st b hb=>by
    have e:b=it:=by simpa using hb
    subst e
    obtain ⟨o,e,c,d⟩:=st
    exact ⟨o,e,fun v z=>by rw [d] at z; cases z⟩
  keep:=fun i h h' st k=>let ⟨o,e,r⟩:=st; ⟨o,k it (by simp) o e,r⟩
  item:=by
    intro X hP hw hK hc i pins s σ H E I hf st hg
    subst hP hw hK
    obtain ⟨f0,f1,f2,f3,f4,f5⟩:=hf it (by simp)
    have hx:x.cps[i]?=some x.cps[i]:=Array.getElem?_eq_getElem hg
    have fin:∀ h',h'.IsStrIter it (strIterType x) x t (i+1)→Heap.SameBut it s.heap h'→∃ u,some (Value.str ⟨#[x.cps[i]]⟩ s.toks)=some u ∧
        wpAny (model X.prog X.w) X.A (letOwnedTupleGo tg (.ref it) u) (fun _ s2=>∃ v H',Inv X pins σ H' s2∧RelV v u∧(Its x).yld i H v H'∧s2.heap.IsStrIter it (strIterType x) x t (i+1)∧∀ b∈[it],H' b=none) E { s with heap:=h',toks:=s.toks+1 }:=by
      intro h' st' sb
      have I1:Inv X pins σ H { s with heap:=h',toks:=s.toks+1 }:=I.turned (t':=s.toks+1) (fun b o hb e=>(sb.2 b hb).trans e) f0 f1 f3 f4 f5
      obtain ⟨o,e,c,d⟩:=id st'
      refine ⟨_,rfl,go_of (s:={ s with heap:=h',toks:=s.toks+1 }) e c d ?_ ⟨.str ⟨#[x.cps[i]]⟩,H,I1,⟨_,rfl⟩,⟨rfl,_,hx,rfl⟩,st',fun b hb=>(hf b hb).1⟩⟩
      unfold strIterType
      split <;> decide
    cases ha:x.cps.all (· < 128)
    · have e:strIterType x = "str_iterator" := by unfold strIterType; rw [ha]; rfl
      rw [e] at st
      exact wpAny_pyNext_wide_item st hx fun h' st' sb=>fin h' (by rw [e]; exact st') sb
    · have e:strIterType x = "str_ascii_iterator" := by unfold strIterType; rw [ha]; rfl
      rw [e] at st
      exact wpAny_pyNext_ascii_item st hx fun h' st' sb=>fin h' (by rw [e]; exact st') sb
  done:=by
    intro X hP hw hK hc i pins s σ H E I hf st hg
    subst hP hw hK
    obtain ⟨f0,f1,f2,f3,f4,f5⟩:=hf it (by simp)
    have hx:x.cps[i]?=none:=Array.getElem?_eq_none hg
    unfold strIterType at st
    cases ha:x.cps.all (· < 128)
    · rw [ha] at st
      exact wpAny_pyNext_wide_end (I.ok.hd hc) st hx fun h' eb=>⟨rfl,I.turned (t':=s.toks) (fun b o hb e=>eb b o hb e) f0 f1 f3 f4 f5⟩
    · rw [ha] at st
      exact wpAny_pyNext_ascii_end (I.ok.hd hc) st hx fun h' eb=>⟨rfl,I.turned (t':=s.toks) (fun b o hb e=>eb b o hb e) f0 f1 f3 f4 f5⟩
  self:=fun A i s Q E st h=>by
    unfold strIterType at st
    cases ha:x.cps.all (· < 128)
    · rw [ha] at st; exact wpAny_pyIter_striter_wide st h
    · rw [ha] at st; exact wpAny_pyIter_striter_ascii st h
section
variable {X:Cx} {tg:Expr}
def iStr (tl:TE):TI:=fun σ H R=>tl σ H fun v H1=>∃ x,v=.str x∧R (Its x) H1
theorem wi_str {l:Expr} {tl:TE} (hl:PEw X l tl):PIw X tg l (iStr tl):=⟨by
  intro pins s σ H R I h
  refine thn (hl.p pins s σ H _ I h) fun v s1 ⟨x,H1,I1,r1,q1⟩=>?_
  obtain ⟨a,e,q⟩:=q1
  subst e
  obtain ⟨t,rfl⟩:=r1
  refine wpAny_pyIter_strU ?_
  refine ⟨s1.heap.objs.size,[s1.heap.objs.size],_,_,H1,rfl,I1.kept (t':=s1.toks) fun b o e=>Heap.get?_push_of_some _ e,turn_str,⟨_,Heap.get?_push_size _ rfl,rfl,rfl⟩,fun b hb=>?_,q⟩
  have e:b=s1.heap.objs.size:=by simpa using hb
  subst e
  exact I1.fpOk (Nat.le_refl _) (I1.hok.fresh (Nat.le_refl _))⟩
end
section
variable {js:List Nat} {te:TE} {tc:TT} {σ:St} {H:Hp} {Q:VK}
theorem comp_str {x:Str} (p:Nat→Bool) (f:Nat→V) (hz:x.length≤100000)
    (ht:∀ c H' (Q':Bool→Hp→Prop),c∈x.cps.toList→Q' (p c) H'→tc (some (.str ⟨#[c]⟩)::slots σ js) H' Q')
    (he:∀ c H' (Q':VK),c∈x.cps.toList→Q' (f c) H'→te (some (.str ⟨#[c]⟩)::slots σ js) H' Q')
    (hd:∀ D H',H D=none→H' D=some (.lst ((x.cps.toList.filter p).map f))→Same H H'→Q (.ref D) H'):CompB (Its x) σ js tc te H Q:=by
  unfold CompB
  intro D hD
  refine ⟨fun i m ys H'=>m=x.cps.size - i∧i≤x.cps.size∧ys=((x.cps.toList.take i).filter p).map f∧H' D=some (.lst ys)∧∀ b o,H b=some o→H' b=some o,⟨x.cps.size,by simp,Nat.zero_le _,rfl,upd_same,Same.upd hD⟩,?_⟩
  rintro i m ys H2 ⟨rfl,hi,hy,hD2,sm⟩
  refine ⟨hD2,?_⟩
  by_cases hlt:i<x.cps.size
  · have hl:ys.length≤i:=by
      rw [hy,List.length_map]
      refine Nat.le_trans (List.length_filter_le _ _) ?_
      rw [List.length_take]
      exact Nat.min_le_left _ _
    have hx:x.cps[i]?=some x.cps[i]:=Array.getElem?_eq_getElem hlt
    have hm:x.cps[i]∈x.cps.toList:=by simp
    have hti:x.cps.toList.take (i+1)=x.cps.toList.take i++[x.cps[i]]:=by
      rw [List.take_add_one]
      congr 1
      simp [hlt]
    refine .inr ⟨hlt,Nat.lt_of_le_of_lt (m:=100000) (by have:x.length=x.cps.size:=rfl; omega) (by decide),fun v H3 hy3=>?_⟩
    obtain ⟨rfl,c,hc,rfl⟩:=hy3
    rw [hx] at hc
    cases hc
    refine ⟨fun b H4=>b=p x.cps[i]∧H4=H3,ht _ _ _ hm ⟨rfl,rfl⟩,?_⟩
    rintro b H4 ⟨rfl,rfl⟩
    by_cases hp:p x.cps[i]=true
    · rw [if_pos hp]
      refine ⟨fun v H5=>v=f x.cps[i]∧H5=H4,he _ _ _ hm ⟨rfl,rfl⟩,?_⟩
      rintro v H5 ⟨rfl,rfl⟩
      refine ⟨hD2,x.cps.size - (i+1),by omega,rfl,hlt,?_,upd_same,fun b o hb=>?_⟩
      · rw [hti,List.filter_append,List.map_append,hy]
        simp [hp]
      · rw [upd_ne (ne_of_none hb hD)]
        exact sm b o hb
    · rw [if_neg hp]
      refine ⟨hD2,x.cps.size - (i+1),by omega,rfl,hlt,?_,hD2,sm⟩
      rw [hti,List.filter_append,List.map_append,hy]
      simp [hp]
  · have e:i=x.cps.size:=by omega
    subst e
    refine .inl ⟨Nat.le_refl _,hd D H2 hD ?_ sm⟩
    rw [hD2,hy,List.take_of_length_le (by simp)]
end
end L2
set_option Elab.async false
set_option linter.all false
set_option maxRecDepth 100000
namespace L2
open PySem PySem.W PySem.Spec PySem.Calls PyProof.Rows
section
variable {prog:Program} {w:World} {A:Around} {E:Value→Shared→Prop} {s:Shared}
end
section
variable {X:Cx}
end
end L2
set_option Elab.async false
set_option linter.all false
set_option maxRecDepth 100000
namespace Mt
open PySem PySem.NumText
abbrev dig (c:Nat):Bool:=decide (48≤c)&&decide (c≤57)
def figs (t:Str):Bool:=t.cps.toList.all dig
theorem figs_all {t:Str} (h:figs t=true):AllDigits t.cps.toList:=fun c hc=>by
  have:=List.all_eq_true.mp h c hc
  simpa [dig] using this
theorem in_figs (c:Nat):(!(Builtin.Str.occurrences (Str.ofString "0123456789") ⟨#[c]⟩ 0 (Str.ofString "0123456789").length 1).isEmpty)=dig c:=by
  rw [StrLaws.found_one]
  have e:(Str.ofString "0123456789").cps.toList=[48,49,50,51,52,53,54,55,56,57]:=by decide +kernel
  rw [e]
  unfold dig
  rw [← Bool.decide_and]
  refine decide_eq_decide.mpr ?_
  simp only [List.mem_cons,List.not_mem_nil,or_false]
  omega
theorem str_ext {a b:Str} (h:a.cps.toList=b.cps.toList):a=b:=by
  cases a; cases b
  congr 1
  exact Array.toList_inj.mp h
theorem len_toList (t:Str):t.cps.toList.length=t.length:=by simp [Str.length]
theorem starts_one (t:Str) (c:Nat):Txt.startswith t ⟨#[c]⟩=decide (t.cps.toList.head?=some c):=by
  unfold Txt.startswith
  cases h:t.cps.toList with
  | nil =>
    have e:t.length=0:=by rw [← len_toList,h]; rfl
    have e1:(⟨#[c]⟩:Str).length=1:=rfl
    rw [e,e1]
    simp
  | cons x r =>
    have e:t=⟨(x::r).toArray⟩:=str_ext (by rw [h])
    rw [e]
    have e1:(⟨#[c]⟩:Str).length=1:=rfl
    have e2:(⟨(x::r).toArray⟩:Str).length=r.length+1:=rfl
    unfold Builtin.Str.subAt
    rw [e1,e2]
    have e3:((x::r).toArray.extract 0 (0+1))=#[x]:=by simp
    rw [e3]
    simp [BEq.beq,List.isEqv]
theorem slice_from {t:Str} {i:Int} (h0:0≤i) (h:i≤t.length):(Txt.slice t (some i) none).cps.toList=t.cps.toList.drop i.toNat:=by
  have e:Txt.slice t (some i) none=StrLaws.sliceText t (some i) none:=rfl
  rw [e,StrLaws.sliceText_from ⟨h0,by rw [len_toList]; exact h⟩]
  show List.take _ (List.drop _ _)=_
  refine List.take_of_length_le ?_
  rw [List.length_drop,len_toList]
  omega
def val (t:Str):Nat:=digitsVal t.cps.toList
def zero:Str:=Str.ofString "0"
def wrB (t:Str):Bool:=!t.cps.toList.isEmpty&&figs t && !(decide (t.cps.toList.head?=some 48) && !decide (t=zero))
def wr (t:Str):Option Nat:=if wrB t=true then some (val t) else none
def neg (t:Str):Bool:=decide (t.cps.toList.head?=some 45)
def fg (t:Str):Str:=if neg t=true then ⟨(t.cps.toList.drop 1).toArray⟩ else t
def rdB (t:Str):Bool:=decide (1≤(fg t).length)&&decide ((fg t).length≤4000)&&figs (fg t) && !(decide ((fg t).cps.toList.head?=some 48) && !decide (t=zero))
def rdV (t:Str):Int:=if neg t=true then -((val (fg t):Nat):Int) else ((val (fg t):Nat):Int)
def rd (t:Str):Option Int:=if rdB t=true then some (rdV t) else none
theorem fg_len (t:Str):(fg t).length≤t.length:=by
  unfold fg
  split
  · rw [← len_toList,← len_toList]
    show (List.drop 1 _).length≤_
    rw [List.length_drop]; omega
  · exact Nat.le_refl _
theorem zero_cps:zero.cps.toList=[48]:=by decide +kernel
theorem rd_plain {t:Str} (h:neg t=false) (hl:t.length≤4000):rd t=(wr t).map Int.ofNat:=by
  have e:fg t=t:=by unfold fg; rw [h]; rfl
  have e2:decide (1≤t.length)=!t.cps.toList.isEmpty:=by
    cases q:t.cps.toList with
    | nil =>
      have:t.length=0:=by rw [← len_toList,q]; rfl
      rw [this]; rfl
    | cons c r =>
      have:t.length=r.length+1:=by rw [← len_toList,q]; rfl
      rw [this]; simp
  have hb:rdB t=wrB t:=by
    unfold rdB wrB
    rw [e,decide_eq_true hl,Bool.and_true,e2]
  unfold rd wr rdV
  rw [hb,e,h]
  cases wrB t <;> rfl
theorem rd_neg {t:Str} (h:neg t=true) (hl:t.length≤4000):rd t=match wr (fg t) with | some 0=>none | some n=>some (-(n:Int)) | none=>none:=by
  have hh:t.cps.toList.head?=some 45:=of_decide_eq_true h
  have hz:t≠zero:=fun e=>by rw [e,zero_cps] at hh; cases hh
  have hl':=fg_len t
  have e2:decide (1≤(fg t).length)=!(fg t).cps.toList.isEmpty:=by
    cases q:(fg t).cps.toList with
    | nil =>
      have:(fg t).length=0:=by rw [← len_toList,q]; rfl
      rw [this]; rfl
    | cons c r =>
      have:(fg t).length=r.length+1:=by rw [← len_toList,q]; rfl
      rw [this]; simp
  have hb:rdB t=(!(fg t).cps.toList.isEmpty&&figs (fg t) && !decide ((fg t).cps.toList.head?=some 48)):=by
    unfold rdB
    rw [decide_eq_false hz,decide_eq_true (show (fg t).length≤4000 by omega),e2]
    simp
  unfold rd rdV
  rw [hb,h,if_pos rfl]
  unfold wr wrB
  by_cases z:fg t=zero
  · rw [z]
    have e1:(zero.cps.toList.head?=some 48):=by rw [zero_cps]; rfl
    have e3:val zero=0:=by decide +kernel
    have e4:figs zero=true:=by decide +kernel
    have e5:zero.cps.toList.isEmpty=false:=by rw [zero_cps]; rfl
    rw [decide_eq_true e1,e3,e4,e5,decide_eq_true rfl]
    rfl
  · rw [decide_eq_false z]
    simp only [Bool.not_false,Bool.and_true]
    by_cases c:(!(fg t).cps.toList.isEmpty&&figs (fg t) && !decide ((fg t).cps.toList.head?=some 48))=true
    · rw [if_pos c,if_pos c]
      have hp:0<val (fg t):=by
        simp only [Bool.and_eq_true,Bool.not_eq_true',decide_eq_false_iff_not] at c
        obtain ⟨⟨c1,c2⟩,c3⟩:=c
        unfold val
        have hd:=figs_all c2
        cases q:(fg t).cps.toList with
        | nil=>rw [q] at c1; cases c1
        | cons x r =>
          rw [q] at c3 hd
          have:=hd.head
          exact digitsVal_pos (by
            have:x≠48:=fun z=>c3 (by rw [z]; rfl)
            omega)
      cases v:val (fg t) with
      | zero=>omega
      | succ n=>rfl
    · rw [if_neg c,if_neg c]
end Mt
set_option Elab.async false
set_option linter.all false
set_option maxRecDepth 100000
namespace Mt
open PySem PySem.NumText
theorem app_cps (a b:Str):(a++b).cps.toList=a.cps.toList++b.cps.toList:=by
  show (a.cps++b.cps).toList=_
  simp
def dg (m:Nat):List Nat:=(Nat.toDigits 10 m).map Char.toNat
def tx (n:Int):Str:=Str.ofString (toString n)
theorem tx_nat (m:Nat):(tx (m:Int)).cps.toList=dg m:=by
  unfold tx dg
  exact W.KIN.signs_num m
theorem tx_neg (m:Nat):(tx (-((m+1:Nat):Int))).cps.toList=45::dg (m+1):=by
  unfold tx dg
  have e:(-((m+1:Nat):Int))=Int.negSucc m:=rfl
  rw [e,PyProof.Rows.signs_ofString]
  show ("-" ++ Nat.repr (m+1)).toList.map Char.toNat=_
  rw [String.toList_append,List.map_append,Nat.toList_repr]
  rfl
theorem dg_all (m:Nat):AllDigits (dg m):=fun c hc=>by
  obtain ⟨ch,hch,e⟩:=List.mem_map.mp hc
  have r:=PyProof.Rows.digit_range (Nat.isDigit_of_mem_toDigits (by decide) (by decide) hch)
  rw [← e]
  exact r
theorem dg_val (m:Nat):digitsVal (dg m)=m:=W.KIN.val_back m
theorem dg_ne (m:Nat):dg m≠[]:=by
  unfold dg
  intro h
  have:=PyProof.Rows.tDigits_len_ge 10 m
  rw [List.map_eq_nil_iff] at h
  rw [h] at this
  simp at this
theorem dg_zero:dg 0=[48]:=by decide
theorem dg_head {m:Nat} (h:0<m):∃ c r,dg m=c::r∧49≤c:=by
  have ha:=dg_all m
  have hv:=dg_val m
  have t:=toDigits_all (dg m) ha
  rw [hv] at t
  cases q:dg m with
  | nil=>exact absurd q (dg_ne m)
  | cons c r =>
    rw [q] at ha t hv
    refine ⟨c,r,rfl,?_⟩
    have hc:=ha.head
    by_cases z:c=48
    · exfalso
      subst z
      rw [List.dropWhile_cons] at t
      simp only [beq_self_eq_true,if_true] at t
      have hlen:(Nat.toDigits 10 m).length=r.length+1:=by
        have:=congrArg List.length q
        unfold dg at this
        rw [List.length_map] at this
        rw [this]; rfl
      rw [t] at hlen
      cases q2:r.dropWhile (· == 48) with
      | nil =>
        rw [q2] at hlen
        simp at hlen
        have:r=[]:=by
          cases r with
          | nil=>rfl
          | cons _ _=>simp at hlen
        subst this
        have:digitsVal [48]=0:=rfl
        omega
      | cons x y =>
        rw [q2] at hlen
        have h1:(r.dropWhile (· == 48)).length≤r.length:=len_dropWhile _ _
        rw [q2] at h1
        simp at hlen h1
        omega
    · omega
theorem dv_from (b:List Nat):∀ a:Nat,b.foldl (fun acc c=>acc*10+(c - 48)) a=a*10^b.length+digitsVal b:=by
  induction b with
  | nil=>intro a; show a=a*1+0; omega
  | cons c r ih =>
    intro a
    show r.foldl (fun acc c=>acc*10+(c - 48)) (a*10+(c - 48))=_
    have e:digitsVal (c::r)=r.foldl (fun acc c=>acc*10+(c - 48)) (0*10+(c - 48)):=rfl
    rw [e,ih,ih,List.length_cons,Nat.pow_succ,Nat.zero_mul,Nat.zero_add,Nat.add_mul,Nat.mul_assoc,Nat.mul_comm 10 (10^r.length)]
    omega
def sl:Str:=⟨#[47]⟩
theorem cut_inj:∀ {p a s b:List Nat},47 ∉ p→47 ∉ a→p++47::s=a++47::b→p=a∧s=b
  | [],[],_,_,_,_,e=>by injection e with _ e; exact ⟨rfl,e⟩
  | [],x::a,_,_,_,ha,e=>by injection e with e _; exact absurd (by rw [e]; exact List.mem_cons_self) ha
  | y::p,[],_,_,hp,_,e=>by injection e with e _; exact absurd (by rw [← e]; exact List.mem_cons_self) hp
  | y::p,x::a,s,b,hp,ha,e=>by
    injection e with e1 e2
    obtain ⟨h1,h2⟩:=cut_inj (fun z=>hp (List.mem_cons_of_mem _ z)) (fun z=>ha (List.mem_cons_of_mem _ z)) e2
    exact ⟨by rw [e1,h1],h2⟩
theorem join2 (p q:Str) (r:List Str):(Str.join sl (p::q::r)).cps.toList=p.cps.toList++47::(Str.join sl (q::r)).cps.toList:=by
  show (p++sl++Str.join sl (q::r)).cps.toList=_
  rw [app_cps,app_cps]
  show p.cps.toList++[47]++_=_
  simp
theorem split_ne (x:Str):Txt.split x sl≠[]:=fun h=>by
  have:=PyProof.Rows.split_pos x sl
  rw [h] at this
  exact absurd this (by decide)
theorem split_one {x:Str} (h:47 ∉ x.cps.toList):Txt.split x sl=[x]:=by
  have hj:=StrLaws.join_split x sl
  cases q:Txt.split x sl with
  | nil=>exact absurd q (split_ne x)
  | cons p r =>
    rw [q] at hj
    cases r with
    | nil=>rw [show p=x from hj]
    | cons q' r' =>
      exfalso
      apply h
      rw [← hj,join2]
      simp
theorem split_two {a b:Str} (ha:47 ∉ a.cps.toList) (hb:47 ∉ b.cps.toList):Txt.split (a++sl++b) sl=[a,b]:=by
  have hj:=StrLaws.join_split (a++sl++b) sl
  have hf:=StrLaws.split_free (a++sl++b) 47
  have ex:(a++sl++b).cps.toList=a.cps.toList++47::b.cps.toList:=by
    rw [app_cps,app_cps]
    show a.cps.toList++[47]++_=_
    simp
  have hf:∀ p∈Txt.split (a++sl++b) sl,47 ∉ p.cps.toList:=hf
  cases q:Txt.split (a++sl++b) sl with
  | nil=>exact absurd q (split_ne _)
  | cons p r =>
    rw [q] at hj hf
    have hp:=hf p List.mem_cons_self
    cases r with
    | nil =>
      exfalso
      apply hp
      have:p=a++sl++b:=hj
      rw [this,ex]
      simp
    | cons q' r' =>
      have e:=congrArg (fun t:Str=>t.cps.toList) hj
      rw [join2,ex] at e
      obtain ⟨e1,e2⟩:=cut_inj hp ha e
      cases r' with
      | nil=>rw [str_ext e1,str_ext (show q'.cps.toList=b.cps.toList from e2)]
      | cons q2 r2 =>
        exfalso
        apply hb
        rw [← e2,join2]
        simp
theorem le_sum {p:Str}:∀ {l:List Str},p∈l→p.length≤(l.map (·.length)).sum
  | [],h=>by cases h
  | q::r,h=>by
    rw [List.map_cons,List.sum_cons]
    rcases List.mem_cons.mp h with rfl | h
    · omega
    · have:=le_sum h; omega
theorem part_len {x p:Str} (h:p∈Txt.split x sl):p.length≤x.length:=by
  have:=PyProof.Rows.split_weight x sl (by decide)
  have h1:p.length≤((Txt.split x sl).map (·.length)).sum:=le_sum h
  have h2:=PyProof.Rows.split_pos x sl
  omega
theorem tx_free (n:Int):47 ∉ (tx n).cps.toList:=by
  intro h
  rcases Int.lt_or_le n 0 with hn | hn
  · obtain ⟨m,rfl⟩:∃ m:Nat,n=-((m+1:Nat):Int):=⟨(-n - 1).toNat,by omega⟩
    rw [tx_neg] at h
    rcases List.mem_cons.mp h with h | h
    · omega
    · have:=dg_all _ 47 h; omega
  · obtain ⟨m,rfl⟩:=Int.eq_ofNat_of_zero_le hn
    rw [tx_nat] at h
    have:=dg_all _ 47 h
    omega
theorem figs_of {t:Str} (h:AllDigits t.cps.toList):figs t=true:=by
  unfold figs
  refine List.all_eq_true.mpr fun c hc=>?_
  have:=h c hc
  simp [dig,this.1,this.2]
theorem wrB_dg {t:Str} {m:Nat} (e:t.cps.toList=dg m):wrB t=true∧val t=m:=by
  refine ⟨?_,by unfold val; rw [e,dg_val]⟩
  unfold wrB
  rw [figs_of (by rw [e]; exact dg_all m)]
  have h1:t.cps.toList.isEmpty=false:=by
    rw [e]
    cases q:dg m with
    | nil=>exact absurd q (dg_ne m)
    | cons _ _=>rfl
  rw [h1]
  by_cases hm:m=0
  · subst hm
    have:t=zero:=str_ext (by rw [e,dg_zero,zero_cps])
    rw [decide_eq_true this]
    simp
  · obtain ⟨c,r,e2,hc⟩:=dg_head (Nat.pos_of_ne_zero hm)
    have:¬ t.cps.toList.head?=some 48:=by
      rw [e,e2]
      intro z
      injection z with z
      omega
    rw [decide_eq_false this]
    rfl
theorem rd_tx {n:Int} (h:(tx n).length≤4000):rd (tx n)=some n:=by
  rcases Int.lt_or_le n 0 with hn | hn
  · obtain ⟨m,rfl⟩:∃ m:Nat,n=-((m+1:Nat):Int):=⟨(-n - 1).toNat,by omega⟩
    have hneg:neg (tx (-((m+1:Nat):Int)))=true:=by
      unfold neg
      rw [tx_neg]; rfl
    have e:(fg (tx (-((m+1:Nat):Int)))).cps.toList=dg (m+1):=by
      unfold fg
      rw [if_pos hneg,tx_neg]
      rfl
    rw [rd_neg hneg h]
    obtain ⟨h1,h2⟩:=wrB_dg e
    unfold wr
    rw [if_pos h1,h2]
    rfl
  · obtain ⟨m,rfl⟩:=Int.eq_ofNat_of_zero_le hn
    have hneg:neg (tx (m:Int))=false:=by
      unfold neg
      rw [tx_nat]
      refine decide_eq_false fun z=>?_
      cases q:dg m with
      | nil=>exact absurd q (dg_ne m)
      | cons c r =>
        rw [q] at z
        injection z with z
        have:=dg_all m c (by rw [q]; exact List.mem_cons_self)
        omega
    rw [rd_plain hneg h]
    obtain ⟨h1,h2⟩:=wrB_dg (tx_nat m)
    unfold wr
    rw [if_pos h1,h2]
    rfl
end Mt
set_option linter.all false
namespace Mf
def lw (n d:Int):Int × Int:=(n / (Int.gcd n d:Int),d / (Int.gcd n d:Int))
structure Low (n d:Int):Prop where
  pos:0<d
  low:Int.gcd n d=1
theorem gcd_pos {n d:Int} (h:0<d):0<(Int.gcd n d:Int):=by
  have:=Int.gcd_pos_of_ne_zero_right n (Int.ne_of_gt h)
  omega
theorem lw_low {n d:Int} (h:0<d):Low (lw n d).1 (lw n d).2:=by
  have g:=gcd_pos (n:=n) h
  refine ⟨?_,?_⟩
  · exact Int.ediv_pos_of_pos_of_dvd h (Int.le_of_lt g) (Int.gcd_dvd_right n d)
  · exact Int.gcd_ediv_gcd_ediv_gcd (by omega)
theorem lw_eq {n d:Int}:(lw n d).1*(Int.gcd n d:Int)=n∧(lw n d).2*(Int.gcd n d:Int)=d :=
  ⟨Int.ediv_mul_cancel (Int.gcd_dvd_left n d),Int.ediv_mul_cancel (Int.gcd_dvd_right n d)⟩
theorem lw_cross {n d:Int}:(lw n d).1*d=n*(lw n d).2:=by
  obtain ⟨e1,e2⟩:=lw_eq (n:=n) (d:=d)
  generalize (lw n d).1=a at *
  generalize (lw n d).2=b at *
  generalize (Int.gcd n d:Int)=g at *
  rw [← e1,← e2]
  rw [Int.mul_assoc,Int.mul_comm g b]
theorem dvd_cop {b a d:Int} (h:b ∣ a*d) (g:Int.gcd b a=1):b ∣ d:=by
  rw [← Int.natAbs_dvd_natAbs,Int.natAbs_mul] at h
  rw [← Int.natAbs_dvd_natAbs]
  rw [Int.gcd_eq_natAbs_gcd_natAbs] at g
  exact Nat.Coprime.dvd_of_dvd_mul_left g h
theorem low_uniq {a b c d:Int} (h1:Low a b) (h2:Low c d) (e:a*d=c*b):a=c∧b=d:=by
  have d1:b ∣ d:=by
    have:b ∣ a*d:=by rw [e]; exact Int.dvd_mul_left c b
    exact dvd_cop this (by rw [Int.gcd_comm]; exact h1.low)
  have d2:d ∣ b:=by
    have:d ∣ c*b:=by rw [← e]; exact Int.dvd_mul_left a d
    exact dvd_cop this (by rw [Int.gcd_comm]; exact h2.low)
  have hb:=h1.pos
  have hd:=h2.pos
  have e1:b=d:=Int.dvd_antisymm (Int.le_of_lt hb) (Int.le_of_lt hd) d1 d2
  subst e1
  exact ⟨Int.eq_of_mul_eq_mul_right (by omega) e,rfl⟩
theorem low_lw {a b n d:Int} (h:Low a b) (hd:0<d) (e:a*d=n*b):lw n d=(a,b):=by
  have c:=lw_cross (n:=n) (d:=d)
  have q:=low_uniq (lw_low (n:=n) hd) h (by
    have hd':d≠0:=by omega
    apply Int.eq_of_mul_eq_mul_right hd'
    calc (lw n d).1*b*d=((lw n d).1*d)*b:=by rw [Int.mul_assoc,Int.mul_comm b d,← Int.mul_assoc]
      _=(n*(lw n d).2)*b:=by rw [c]
      _=(n*b)*(lw n d).2:=by rw [Int.mul_assoc,Int.mul_comm (lw n d).2 b,← Int.mul_assoc]
      _=(a*d)*(lw n d).2:=by rw [e]
      _=a*(lw n d).2*d:=by rw [Int.mul_assoc,Int.mul_comm d,← Int.mul_assoc])
  exact Prod.ext q.1 q.2
theorem cop_mul {u a b:Int} (h1:Int.gcd u a=1) (h2:Int.gcd u b=1):Int.gcd u (a*b)=1:=by
  rw [Int.gcd_eq_natAbs_gcd_natAbs] at *
  rw [Int.natAbs_mul]
  exact Nat.Coprime.mul_right h1 h2
theorem cop_of_dvd {a b c:Int} (h:Int.gcd a b=1) (d:c ∣ b):Int.gcd a c=1:=by
  have:=Int.gcd_dvd_gcd_of_dvd_right a d
  rw [h] at this
  exact Nat.eq_one_of_dvd_one this
theorem cop_of_dvd_left {a b c:Int} (h:Int.gcd a b=1) (d:c ∣ a):Int.gcd c b=1:=by
  rw [Int.gcd_comm] at *; exact cop_of_dvd h d
theorem plus_eq {a b c d:Int} (h1:Low a b) (h2:Low c d) :
    let g:Int:=Int.gcd b d
    let u:=a*(d / g)+c*(b / g)
    let l:Int:=Int.gcd u g
    lw (a*d+c*b) (b*d)=(u / l,(b / g)*(d / l)):=by
  intro g u l
  have hg:0<g:=gcd_pos h2.pos
  have hl:0<l:=gcd_pos hg
  obtain ⟨b',eb⟩:=Int.gcd_dvd_left b d
  obtain ⟨d',ed⟩:=Int.gcd_dvd_right b d
  have eb:b=g*b':=eb
  have ed:d=g*d':=ed
  have qb:b / g=b':=by rw [eb]; exact Int.mul_ediv_cancel_left _ (by omega)
  have qd:d / g=d':=by rw [ed]; exact Int.mul_ediv_cancel_left _ (by omega)
  have eu:u=a*d' + c*b':=by show a*(d / g)+c*(b / g)=_; rw [qb,qd]
  have cbd:Int.gcd b' d'=1:=by
    have:=Int.gcd_ediv_gcd_ediv_gcd (i:=b) (j:=d) (by have:0<(Int.gcd b d:Int):=hg; omega)
    have h:Int.gcd (b / g) (d / g)=1:=this
    rwa [qb,qd] at h
  have cab:Int.gcd a b'=1:=cop_of_dvd h1.low ⟨g,by rw [eb,Int.mul_comm]⟩
  have ccd:Int.gcd c d'=1:=cop_of_dvd h2.low ⟨g,by rw [ed,Int.mul_comm]⟩
  have ub:Int.gcd u b'=1:=by
    rw [eu,Int.add_comm,Int.gcd_mul_right_add_left,Int.gcd_mul_right_left_of_gcd_eq_one cab,Int.gcd_comm]; exact cbd
  have ud:Int.gcd u d'=1:=by
    rw [eu,Int.gcd_mul_right_add_left,Int.gcd_mul_right_left_of_gcd_eq_one ccd]; exact cbd
  obtain ⟨u',eu'⟩:=Int.gcd_dvd_left u g
  obtain ⟨g',eg'⟩:=Int.gcd_dvd_right u g
  have eu':u=l*u':=eu'
  have eg':g=l*g':=eg'
  have qu:u / l=u':=by rw [eu']; exact Int.mul_ediv_cancel_left _ (by omega)
  have qdl:d / l=g' * d':=by rw [ed,eg',Int.mul_assoc]; exact Int.mul_ediv_cancel_left _ (by omega)
  have cug:Int.gcd u' g'=1:=by
    have:=Int.gcd_ediv_gcd_ediv_gcd (i:=u) (j:=g) (by have:0<(Int.gcd u g:Int):=hl; omega)
    have h:Int.gcd (u / l) (g / l)=1:=this
    rw [qu] at h
    rwa [show g / l=g' from by rw [eg']; exact Int.mul_ediv_cancel_left _ (by omega)] at h
  rw [qu,qb,qdl]
  have hu':u' ∣ u:=⟨l,by rw [eu',Int.mul_comm]⟩
  have hb':0<b':=by
    have:=h1.pos; rw [eb] at this; exact Int.pos_of_mul_pos_right this (by omega)
  have hd':0<d':=by
    have:=h2.pos; rw [ed] at this; exact Int.pos_of_mul_pos_right this (by omega)
  have hg':0<g':=by
    have:=hg; rw [eg'] at this; exact Int.pos_of_mul_pos_right this (by omega)
  refine low_lw ⟨Int.mul_pos hb' (Int.mul_pos hg' hd'),?_⟩ (Int.mul_pos h1.pos h2.pos) ?_
  · exact cop_mul (cop_of_dvd_left ub hu') (cop_mul cug (cop_of_dvd_left ud hu'))
  · have e1:a*d+c*b=g*(l*u'):=by
      rw [← eu',eu,eb,ed]
      rw [Int.mul_add,Int.mul_left_comm a,Int.mul_left_comm c]
    rw [e1,eb,ed]
    generalize hG:g=G at *
    rw [eg']
    simp only [Int.mul_assoc,Int.mul_left_comm,Int.mul_comm]
end Mf
set_option linter.all false
namespace Mf
abbrev Fr:=Int × Int
def addF (x y:Fr):Fr:=lw (x.1*y.2+y.1*x.2) (x.2*y.2)
def totF (fs:List Fr):Fr:=fs.foldl addF (0,1)
def whole (fs:List Fr):Int:=fs.foldl (fun w f=>w*f.2) 1
def sumN (fs:List Fr) (W:Int):Int:=(fs.map fun f=>f.1*(W / f.2)).sum
def LowF (f:Fr):Prop:=Low f.1 f.2
theorem rev_ind {α:Type} {P:List α→Prop} (h0:P []) (hs:∀ l a,P l→P (l++[a])) (l:List α):P l:=by
  have:∀ r:List α,P r.reverse:=by
    intro r
    induction r with
    | nil=>exact h0
    | cons a r ih=>rw [List.reverse_cons]; exact hs _ _ ih
  have:=this l.reverse
  rwa [List.reverse_reverse] at this
theorem totF_snoc (l:List Fr) (a:Fr):totF (l++[a])=addF (totF l) a:=by unfold totF; rw [List.foldl_append]; rfl
theorem whole_snoc (l:List Fr) (a:Fr):whole (l++[a])=whole l*a.2:=by unfold whole; rw [List.foldl_append]; rfl
theorem sumN_snoc (l:List Fr) (a:Fr) (W:Int):sumN (l++[a]) W=sumN l W+a.1*(W / a.2):=by
  unfold sumN; rw [List.map_append,List.sum_append]; simp
theorem whole_pos (l:List Fr):(∀ f∈l,LowF f)→0<whole l:=by
  refine rev_ind (P:=fun l=>(∀ f∈l,LowF f)→0<whole l) (fun _=>by decide) (fun l a ih h=>?_) l
  rw [whole_snoc]
  exact Int.mul_pos (ih fun f hf=>h f (List.mem_append_left _ hf)) (h a (List.mem_append_right _ List.mem_cons_self)).pos
theorem whole_dvd (l:List Fr):∀ f∈l,f.2 ∣ whole l:=by
  refine rev_ind (P:=fun l=>∀ f∈l,f.2 ∣ whole l) (fun f hf=>by cases hf) (fun l a ih f hf=>?_) l
  rw [whole_snoc]
  rcases List.mem_append.mp hf with h | h
  · exact Int.dvd_mul_of_dvd_left (ih f h)
  · rw [List.mem_singleton] at h; subst h; exact Int.dvd_mul_left _ _
theorem sumN_mul (l:List Fr) {W e:Int} (h:∀ f∈l,f.2 ∣ W):sumN l (W*e)=sumN l W*e:=by
  unfold sumN
  induction l with
  | nil=>simp
  | cons f l ih =>
    have ih:=ih fun g hg=>h g (List.mem_cons_of_mem _ hg)
    simp only [List.map_cons,List.sum_cons]
    rw [ih,Int.add_mul]
    congr 1
    have hd:=h f List.mem_cons_self
    rw [Int.mul_comm W e,Int.mul_ediv_assoc _ hd,Int.mul_comm e,Int.mul_assoc]
theorem totF_low (l:List Fr):(∀ f∈l,LowF f)→LowF (totF l):=by
  refine rev_ind (P:=fun l=>(∀ f∈l,LowF f)→LowF (totF l)) (fun _=>⟨by decide,by decide⟩) (fun l a ih h=>?_) l
  rw [totF_snoc]
  have h1:=ih fun f hf=>h f (List.mem_append_left _ hf)
  have h2:=h a (List.mem_append_right _ List.mem_cons_self)
  exact lw_low (Int.mul_pos h1.pos h2.pos)
theorem totF_cross (l:List Fr):(∀ f∈l,LowF f)→(totF l).1*whole l=sumN l (whole l)*(totF l).2:=by
  refine rev_ind (P:=fun l=>(∀ f∈l,LowF f)→(totF l).1*whole l=sumN l (whole l)*(totF l).2) (fun _=>by decide) (fun l a ih h=>?_) l
  have hl:=fun f hf=>h f (List.mem_append_left _ hf)
  have ha:=h a (List.mem_append_right _ List.mem_cons_self)
  have ih:=ih hl
  have l1:=totF_low l hl
  have wp:=whole_pos l hl
  have ap:=ha.pos
  rw [totF_snoc,whole_snoc,sumN_snoc,sumN_mul l (whole_dvd l),Int.mul_ediv_cancel _ (by omega)]
  have c:=lw_cross (n:=(totF l).1*a.2+a.1*(totF l).2) (d:=(totF l).2*a.2)
  have c:(addF (totF l) a).1*((totF l).2*a.2)=((totF l).1*a.2+a.1*(totF l).2)*(addF (totF l) a).2:=c
  have dp:=l1.pos
  generalize (addF (totF l) a).1=N at *
  generalize (addF (totF l) a).2=M at *
  generalize totF l=t at *
  generalize whole l=W at *
  generalize sumN l W=S at *
  obtain ⟨n,d⟩:=t
  obtain ⟨p,e⟩:=a
  dsimp only at *
  apply Int.eq_of_mul_eq_mul_right (show d≠0 by omega)
  calc N*(W*e)*d=(N*(d*e))*W:=by simp only [Int.mul_assoc,Int.mul_left_comm,Int.mul_comm]
    _=((n*e+p*d)*M)*W:=by rw [c]
    _=(n*W)*(e*M)+p*W*M*d:=by
      rw [Int.add_mul,Int.add_mul]; congr 1 <;> simp only [Int.mul_assoc,Int.mul_left_comm,Int.mul_comm]
    _=(S*d)*(e*M)+p*W*M*d:=by rw [ih]
    _=(S*e+p*W)*M*d:=by
      rw [Int.add_mul,Int.add_mul]; congr 1; simp only [Int.mul_assoc,Int.mul_left_comm,Int.mul_comm]
theorem totF_eq (l:List Fr) (h:∀ f∈l,LowF f):lw (sumN l (whole l)) (whole l)=totF l:=low_lw (totF_low l h) (whole_pos l h) (totF_cross l h)
theorem whole_le (l:List Fr) {k:Nat}:(∀ f∈l,LowF f∧f.2≤2^k)→whole l≤2^(k*l.length):=by
  refine rev_ind (P:=fun l=>(∀ f∈l,LowF f∧f.2≤2^k)→whole l≤2^(k*l.length)) (fun _=>by simp [whole]) (fun l a ih h=>?_) l
  have ih:=ih fun f hf=>h f (List.mem_append_left _ hf)
  have ha:=h a (List.mem_append_right _ List.mem_cons_self)
  rw [whole_snoc,List.length_append,List.length_singleton,Nat.mul_add,Int.pow_add,Nat.mul_one]
  have wp:=whole_pos l fun f hf=>(h f (List.mem_append_left _ hf)).1
  exact Int.mul_le_mul ih ha.2 (Int.le_of_lt ha.1.pos) (by exact Int.pow_nonneg (by decide))
theorem lw_le {n d:Int} (h:0<d):(lw n d).2≤d∧(lw n d).1.natAbs≤n.natAbs:=by
  obtain ⟨e1,e2⟩:=lw_eq (n:=n) (d:=d)
  have g:=gcd_pos (n:=n) h
  have p:=(lw_low (n:=n) h).pos
  generalize (lw n d).1=a at *
  generalize (lw n d).2=b at *
  generalize (Int.gcd n d:Int)=G at *
  refine ⟨?_,?_⟩
  · rw [← e2]; have:=Int.mul_le_mul_of_nonneg_left (show (1:Int)≤G by omega) (Int.le_of_lt p); simpa using this
  · rw [← e1,Int.natAbs_mul]
    exact Nat.le_mul_of_pos_right _ (by omega)
theorem ediv_le_self {W d:Int} (hW:0<W) (hd:0<d):0≤W / d∧W / d≤W :=
  ⟨Int.ediv_nonneg (Int.le_of_lt hW) (Int.le_of_lt hd),Int.ediv_le_self _ (Int.le_of_lt hW)⟩
theorem sumN_le {W:Int} (hW:0<W) {k:Nat}:∀ (l:List Fr),(∀ f∈l,LowF f∧f.1.natAbs≤2^k)→(sumN l W).natAbs≤l.length*(2^k*W.natAbs)
  | [],_=>by simp [sumN]
  | f::l,h=>by
    have ih:=sumN_le hW l fun g hg=>h g (List.mem_cons_of_mem _ hg)
    have hf:=h f List.mem_cons_self
    have e:sumN (f::l) W=f.1*(W / f.2)+sumN l W:=by simp [sumN]
    rw [e,List.length_cons,Nat.add_mul,Nat.one_mul,Nat.add_comm]
    have q:=ediv_le_self hW hf.1.pos
    refine Nat.le_trans (Int.natAbs_add_le _ _) (Nat.add_le_add ?_ ih)
    rw [Int.natAbs_mul]
    exact Nat.mul_le_mul hf.2 (by omega)
end Mf
set_option Elab.async false
set_option linter.all false
namespace Mf
theorem lw_congr {n d n' d':Int} (hd:0<d) (hd':0<d') (e:n*d'=n' * d):lw n d=lw n' d':=by
  have h:=lw_low (n:=n') hd'
  have c:=lw_cross (n:=n') (d:=d')
  generalize lw n' d'=L at c h
  refine low_lw (a:=L.1) (b:=L.2) h hd ?_
  refine Int.eq_of_mul_eq_mul_right (a:=d') (by omega) ?_
  calc L.1*d*d'=(L.1*d')*d:=by ac_rfl
    _=n' * L.2*d:=by rw [c]
    _=(n' * d)*L.2:=by ac_rfl
    _=n*d' * L.2:=by rw [e]
    _=n*L.2*d':=by ac_rfl
theorem add_lw {a b c d:Int} (hb:0<b) (hd:0<d):addF (lw a b) (lw c d)=lw (a*d+c*b) (b*d):=by
  have h1:=(lw_low (n:=a) hb).pos
  have h2:=(lw_low (n:=c) hd).pos
  refine lw_congr (Int.mul_pos h1 h2) (Int.mul_pos hb hd) ?_
  have e1:=lw_cross (n:=a) (d:=b)
  have e2:=lw_cross (n:=c) (d:=d)
  generalize lw a b=L at *
  generalize lw c d=M at *
  rw [Int.add_mul,Int.add_mul]
  congr 1
  · calc L.1*M.2*(b*d)=(L.1*b)*(M.2*d):=by ac_rfl
      _=(a*L.2)*(M.2*d):=by rw [e1]
      _=a*d*(L.2*M.2):=by ac_rfl
  · calc M.1*L.2*(b*d)=(M.1*d)*(L.2*b):=by ac_rfl
      _=(c*M.2)*(L.2*b):=by rw [e2]
      _=c*b*(L.2*M.2):=by ac_rfl
theorem lw_zero {d:Int} (h:0<d):lw 0 d=(0,1):=low_lw (a:=0) (b:=1) ⟨by decide,by decide⟩ h (by omega)
theorem lw_one {d:Int} (h:0<d):lw d d=(1,1):=low_lw (a:=1) (b:=1) ⟨by decide,by decide⟩ h (by omega)
theorem tot_parts {S:Int} (hS:0<S) (ps:List Int):totF (ps.map fun p=>lw p S)=lw ps.sum S:=by
  induction ps using rev_ind with
  | h0=>rw [show ([]:List Int).sum=0 from rfl,lw_zero hS]; rfl
  | hs l a ih =>
    rw [List.map_append,List.map_cons,List.map_nil,totF_snoc,ih,add_lw hS hS,List.sum_append]
    refine lw_congr (Int.mul_pos hS hS) hS ?_
    rw [show ([a]:List Int).sum=a by simp,← Int.add_mul,Int.mul_assoc]
end Mf
set_option Elab.async false
set_option linter.all false
set_option maxRecDepth 100000
namespace L2
open PySem PySem.W PySem.Spec PySem.Calls PyProof.Rows
section
variable {prog:Program} {w:World} {A:Around} {E:Value→Shared→Prop} {h:Heap} {g:Array GenState} {d:Drawn} {t:Nat} {os:OsState}
variable {nm q:Str} {C N:Addr} {bs bm bmB:List Value} {hdct:Bool} {sn:List Str} {sub:List Value} {ab:Bool} {col:Option Bool} {dd:Option Addr} {k0 k1 k2 k3 k5:Option Value} {B newId initId:String}
theorem type_call_excI (F:ExcBaseFacts B newId initId bmB) (T:OwnTail h bmB bm) {rest:List Value} {fI:Addr} {Q:Fin→Shared→Prop}
    (hC:h.get? C=some (excClassObj nm q C N bs bm hdct sn sub ab col dd k0 k1 k2 k3 k5 newId)) (hi:Looks (model prog w) h (typeLookup (.ref C) "__init__") (some (.ref fI)))
    (hf:∀ self,Looks (model prog w) h (bindSpecial (.ref fI) self) (.ref fI,[self]))
    (hq:∀ h' e,Heap.MadeExcOf h h' e (.ref C) rest →
      wpAny (model prog w) A (call (.ref fI) (.ref e::rest)) (fun r s'=>r=.none∧Q (.done (.ret (.ref e))) s') E ⟨h',g,d,t,os⟩) (hrest:rest.length≤sizeLine:=by size_fits) :
    wpAny (model prog w) A (Builtin.«type.__call__» ⟨.ref C::rest,[]⟩) Q E ⟨h,g,d,t,os⟩:=by
  repeat (first | with_reducible refine wpAny_loadPart_at hC ?_ | with_reducible refine wpAny_madeBy_exc hC ?_ | wp_step)
  refine codeAny_call_builtin_code (Code.quiet_builtin _ F.quiet) (wpAny_check_new_subT F T hC ?_)
  refine codeAny_exc_new_subT F T hC ?_ hrest
  show wpAny _ _ _ _ _ _
  have hC₁:=Heap.get?_push_of_some { cls:=.ref C,data:=.fields #[.ref h.objs.size,.none,.none,.none,.bool false,.none] }
    (Heap.get?_push_of_some { cls:=.type "tuple",data:=.seq rest.toArray } hC)
  have kk:∀ b o,h.get? b=some o→((h.push { cls:=.type "tuple",data:=.seq rest.toArray }).push { cls:=.ref C,data:=.fields #[.ref h.objs.size,.none,.none,.none,.bool false,.none] }).get? b=some o:=fun b o e=>Heap.get?_push_of_some _ (Heap.get?_push_of_some _ e)
  have hget:((h.push { cls:=.type "tuple",data:=.seq rest.toArray }).push
      { cls:=.ref C,data:=.fields #[.ref h.objs.size,.none,.none,.none,.bool false,.none] }).get? (h.objs.size+1)=some
      { cls:=.ref C,data:=.fields #[.ref h.objs.size,.none,.none,.none,.bool false,.none] }:=by heap_get
  have hcC:(Value.ref C::bm).contains (.ref C)=true:=by simp
  unfold isInstance
  repeat (first | with_reducible refine wpAny_loadPart_at hget ?_ | (with_reducible refine wpAny_isSubtype_exc hC₁ ?_; rw [hcC]) | wp_step)
  show wpAny _ _ (typeLookup (.ref C) _) _ _ _
  refine (hi.keeps kk).at ?_
  refine wpAny_holding (wpAny_bind (((hf _).keeps kk).at ?_))
  refine wpAny_bind (wpAny_mono (hq _ (h.objs.size+1) ⟨fun b o hb=>Heap.get?_push_of_some _ (Heap.get?_push_of_some _ hb),Heap.get?_none_of_le (Nat.le_succ _),h.objs.size,hget,Heap.get?_none_of_le (Nat.le_refl _),?_⟩) (fun r s' hr=>?_) fun _ _ x=>x)
  · exact Heap.get?_push_of_some _ (Heap.get?_push_at rfl rfl)
  · obtain ⟨rfl,hQ⟩:=hr
    wp_walk
    exact hQ
theorem call_excI (F:ExcBaseFacts B newId initId bmB) (T:OwnTail h bmB bm) {rest:List Value} {fI:Addr} {Q:Value→Shared→Prop}
    (hC:h.get? C=some (excClassObj nm q C N bs bm hdct sn sub ab col dd k0 k1 k2 k3 k5 newId)) (hi:Looks (model prog w) h (typeLookup (.ref C) "__init__") (some (.ref fI)))
    (hf:∀ self,Looks (model prog w) h (bindSpecial (.ref fI) self) (.ref fI,[self]))
    (hq:∀ h' e,Heap.MadeExcOf h h' e (.ref C) rest →
      wpAny (model prog w) (A.under (.builtin "type.__call__" ⟨.ref C::rest,[]⟩)) (call (.ref fI) (.ref e::rest)) (fun r s'=>r=.none∧Q (.ref e) s') E ⟨h',g,d,t,os⟩) (hrest:rest.length≤sizeLine:=by size_fits) :
    wpAny (model prog w) A (call (.ref C) rest) Q E ⟨h,g,d,t,os⟩:=by
  have f1:=tc_lookup
  have f2:=tc_bind (.ref C)
  have hT:(⟨h,g,d,t,os⟩:Shared).TypeIs (.ref C) "type" := ⟨_,hC,rfl⟩
  refine wpAny_call (codeAny_of_tree ?_)
  show wpAny _ _ (callAny (.ref C) _) _ _ _
  repeat (any_goals (first | assumption | with_reducible refine wpAny_loadPart_at hC ?_ | wp_step))
  refine ⟨rfl,?_⟩
  refine codeAny_call_builtin_at (Code.quiet_builtin _ (by decide +kernel)) entry_typeCall (wpAny_check_type_call_sub hC (type_call_excI (hrest:=hrest) F T hC hi hf fun h' e hm=>?_))
  exact hq h' e hm
end
def excShape (K:Frag) (C:Addr) (bmB:List Value) (newId:String):Bool:=match K.lookup C with
  | some ⟨.type "type",_,.cls cd,sl⟩=>(match cd.mro,sl.toList with
    | .ref C' :: bm,[_,_,_,_,some (.builtin n),_]=>C' == C&&n == newId && !cd.hasDel&&tailIn K bmB bm&&nsOkIn K cd.ns
    | _,_=>false)
  | _=>false
theorem excShape_obj {K:Frag} {h:Heap} {C:Addr} {bmB:List Value} {newId:String} (X:K.In h) (q:excShape K C bmB newId=true) :
    ∃ bm N nm qn bs hdct sn sub ab col dd k0 k1 k2 k3 k5,h.get? C=some (excClassObj nm qn C N bs bm hdct sn sub ab col dd k0 k1 k2 k3 k5 newId)∧OwnTail h bmB bm:=by
  unfold excShape at q
  cases e:K.lookup C with
  | none=>rw [e] at q; cases q
  | some o =>
    rw [e] at q
    obtain ⟨oc,dd,dt,sl⟩:=o
    split at q
    · rename_i _ dd' cd sl' ho
      cases ho
      split at q
      · rename_i C' bm k0 k1 k2 k3 n k5 hm hs
        rw [Bool.and_eq_true,Bool.and_eq_true,Bool.and_eq_true,Bool.and_eq_true] at q
        obtain ⟨⟨⟨⟨q1,q2⟩,q3⟩,q4⟩,q5⟩:=q
        have q1:C'=C:=by simpa using q1
        have q2:n=newId:=by simpa using q2
        have q3:cd.hasDel=false:=by simpa using q3
        subst q1 q2
        obtain ⟨nm,bs,mro,ns,qn,hd,sn,sub,ab,col,del⟩:=cd
        cases hm
        cases q3
        obtain ⟨l⟩:=sl
        cases hs
        exact ⟨bm,ns,nm,qn,bs,hd,sn,sub,ab,col,dd,k0,k1,k2,k3,k5,X _ _ e,tail_of_in X q4⟩
      · cases q
    · cases q
structure MkX (K:Frag) (C f:Addr):Prop where
  shape:excShape K C mroVE "ValueError.__new__" = true
  init:findIn K (.ref C) "__init__" = some (some (.ref f))
  fn:isFn K (.ref f)=true
  kp:keepIn K (.ref C)=true
section
variable {prog:Program} {w:World} {A:Around} {E:Value→Shared→Prop} {s:Shared} {K:Frag} {C f:Addr} {rest:List Value}
theorem make_exc {Q:Value→Shared→Prop} (M:MkX K C f) (X:K.In s.heap)
    (hq:∀ h' e,Heap.MadeExcOf s.heap h' e (.ref C) rest →
      wpAny (model prog w) (A.under (.builtin "type.__call__" ⟨.ref C::rest,[]⟩)) (call (.ref f) (.ref e::rest)) (fun r s'=>r=.none∧Q (.ref e) s') E { s with heap:=h' }) (hrest:rest.length≤sizeLine) :
    wpAny (model prog w) A (call (.ref C) rest) Q E s:=by
  obtain ⟨bm,N,nm,qn,bs,hdct,sn,sub,ab,col,dd,k0,k1,k2,k3,k5,hC,TL⟩:=excShape_obj X M.shape
  obtain ⟨hh,g,d,t,os⟩:=s
  exact call_excI (hrest:=hrest) PySem.F.excBase_ValueError TL hC (looks_findIn X M.init) (fun self=>bind_fn X self (beq_iff_eq.mp M.fn)) hq
end
end L2
set_option Elab.async false
set_option linter.all false
set_option maxRecDepth 100000
namespace L2
open PySem PySem.W PySem.Spec PySem.Calls PyProof.Rows Builtin Builtin.ObjectAttr
def XdO (d:Addr) (fs:List (Str × V)):HO:=.ext fun h=>∃ mA,h.Ns1 d mA∧(∀ f,RelO (fs.lookup f) (mA f))∧PySem.Within mA (fs.map (·.1))
theorem XdO.ok {P:Program} {w:World} {H:Hp} {h:Heap} {d:Addr} {fs:List (Str × V)} {mA:Str→Option Value} (n:h.Ns1 d mA) (r:∀ f,RelO (fs.lookup f) (mA f)) (wi:PySem.Within mA (fs.map (·.1))):ObjOk P w H h d (XdO d fs):=by
  refine ⟨⟨mA,n,r,wi⟩,(let ⟨o,_,_,e,_⟩:=n; ⟨o,e⟩),?_⟩
  rintro g1 g2 ⟨mA,n,r,wi⟩ k
  exact ⟨mA,n.at fun o e=>k o e,r,wi⟩
def XHas (H:Hp):Option Addr→Prop
  | none=>True
  | some d=>∃ fs,H d=some (XdO d fs)
theorem exc_get {X:Cx} {pins:List (Addr × Obj)} {σ:St} {H:Hp} {s:Shared} {a C:Addr} {od:Option Addr} (I:Inv X pins σ H s) (h:H a=some (ExcO a C od)) (hd:XHas H od):∃ ox d,InstAt s.heap a ox C d:=by
  obtain ⟨⟨oe,vs,e1,e2,e3,e4,_⟩,_⟩:=I.hok a _ h
  cases od with
  | none=>exact ⟨oe,none,⟨e1,e2,by unfold notCls; rw [e4],by rw [e3]; trivial⟩⟩
  | some d =>
    obtain ⟨fs,hd⟩:=hd
    obtain ⟨_,⟨o,e⟩,_⟩:=I.hok d _ hd
    exact ⟨oe,some o,⟨e1,e2,by unfold notCls; rw [e4],by rw [e3]; exact e⟩⟩
def onlyVE:List Value→Bool
  | [.type a,.type b,.type c,.type d]=>a == "ValueError" && b == "Exception" && c == "BaseException" && d == "object"
  | .ref _::r=>onlyVE r
  | _=>false
theorem onlyVE_ref {c:Addr} {r:List Value} (e:onlyVE (.ref c::r)=true):onlyVE r=true:=by
  unfold onlyVE at e
  exact e
theorem onlyVE_base {l:List Value} (e:onlyVE l=true) (n:∀ c r,l ≠ .ref c::r):l=mroVE:=by
  unfold onlyVE at e
  split at e
  · simp only [Bool.and_eq_true,beq_iff_eq] at e
    obtain ⟨⟨⟨rfl,rfl⟩,rfl⟩,rfl⟩:=e
    rfl
  · exact absurd rfl (n _ _)
  · cases e
theorem onlyVE_ind {P:List Value→Prop} (hb:P mroVE) (hs:∀ c r,P r→P (.ref c::r)):∀ {l:List Value},onlyVE l=true→P l:=by
  intro l
  induction l with
  | nil=>intro e; exact absurd e (by decide)
  | cons v r ih =>
    intro e
    cases v with
    | ref c=>exact hs c r (ih (onlyVE_ref e))
    | _=>rw [onlyVE_base e (fun c r z=>by cases z)]; exact hb
structure ExcSet (K:Frag) (C:Addr):Prop where
  hd:hasDictIn K C=true
  po:((clsIn K C).any fun cd=>onlyVE cd.mro)=true
  sa:findIn K (.ref C) "__setattr__" = some (some (.builtin "object.__setattr__"))
section
variable {prog:Program} {w:World} {A:Around} {E:Value→Shared→Prop} {s:Shared} {K:Frag} {x C:Addr} {R:Result→Shared→Prop}
theorem osaX_open {ox:Obj} {od:Option Obj} {name:Str} {tk:Tok} {v:Value} (X:K.In s.heap) (I:InstAt s.heap x ox C od) (c:ExcSet K C) (ht:findIn K (.ref C) name=some none)
    (h:∀ b,wpAny (model prog w) A.in1 (storeInOwnDict (.ref x) (.ref C) (.str name tk) name v b)
      (fun fin s'=>match fin with | .done f=>R (.ok f) s' | .again c'=>c'.quiet=true∧codeAny (model prog w) A c' R s') (fun e s'=>R (.error e) s') s) :
    codeAny (model prog w) A (.call (.builtin "object.__setattr__") ⟨[.ref x,.str name tk,v],[]⟩) R s:=by
  have SF:=PySem.F.store_object
  obtain ⟨cd,hc,ho⟩:=any_some c.po
  have ne:cd.mro.isEmpty=false:=onlyVE_ind (P:=fun l=>l.isEmpty=false) rfl (fun _ _ _=>rfl) ho
  have hob:cd.mro.contains (.type "object")=true:=onlyVE_ind (P:=fun l=>l.contains (.type "object")=true) (by decide +kernel) (fun c r z=>by rw [List.contains_cons,z,Bool.or_true]) ho
  have hre:refuseLoop (.ref x) "__setattr__" cd.mro=pure ():=onlyVE_ind (P:=fun l=>refuseLoop (.ref x) "__setattr__" l=pure ()) (PySem.F.store_ValueError.passes _) (fun c r z=>by rw [refuseLoop_ref]; exact z) ho
  have sub:Looks (model prog w) s.heap (isInstance (.ref x) (.type "object")) true:=I.type.andThen (looks_mroIn X (by unfold mroIn; rw [hc,Option.bind_some,if_neg (by rw [ne]; decide),hob]))
  refine codeAny_call_builtin SF.slot.plain SF.entry (@check_slot (model prog w) _ _ s "object.__setattr__" "object" "__setattr__" (.ref x) [.str name tk,v] [] _ SF.kind SF.split sub (SF.args (.ref x) (.str name tk) v) ?_)
  have hm:Looks (model prog w) s.heap (mroOf (.ref C)) cd.mro:=(looks_clsIn X hc).andThen .now
  rw [osa_eq,refuse_eq]
  refine wpAny_bind (wpAny_bind (I.type.here (wpAny_bind (hm.here ?_))))
  rw [hre]
  refine wpAny_pure (wpAny_bind (I.type.here (wpAny_bind ((looks_findIn X ht).here (wpAny_bind (wpAny_pure ?_))))))
  exact h _
theorem set_exc0 {ox:Obj} {vs:Array Value} {name:Str} {v:Value} {Q:Unit→Shared→Prop} (X:K.In s.heap) (c:ExcSet K C) (na:findIn K (.ref C) name=some none) (hx:s.heap.get? x=some ox) (hc:ox.cls=.ref C) (hd:ox.data=.fields vs) (ho:ox.dict=none)
    (h:∀ h',h'.get? x=some { ox with dict:=some s.heap.objs.size }→h'.Ns1 s.heap.objs.size (fun y=>if y=name then some v else none)→(∀ b o,b≠x→s.heap.get? b=some o→h'.get? b=some o)→Q () { s with heap:=h',toks:=s.toks+2 }) :
    wpAny (model prog w) A (setAttr (.ref x) name v) Q E s:=by
  have I:InstAt s.heap x ox C none:=⟨hx,hc,by unfold notCls; rw [hd],by rw [ho]; trivial⟩
  refine set_plain X I c.sa (osaX_open (s:={ s with toks:=s.toks+1 }) X I c na fun b=>?_)
  obtain ⟨cd,hcd,hd'⟩:=any_some c.hd
  obtain ⟨oc,od,dt,sl⟩:=ox
  dsimp only at hc hd ho
  subst hc hd ho
  refine wpAny_bind (wpAny_pure (wpAny_bind (wpAny_bind (wpAny_loadPart hx (wpAny_bind (Looks.here (s:={ s with toks:=s.toks+1 }) (looks_clsIn X hcd) ?_))))))
  rw [hd']
  show wpAny (model prog w) A.in1 (do
                let d ← alloc { cls:=Value.type "dict",data:=Data.dict #[] }
                update x fun o=>{ cls:=o.cls,dict:=some d,data:=o.data,slots:=o.slots }
                pure (some d)) _ _ _
  have hx₁:(s.heap.push { cls:=.type "dict",data:=.dict #[] }).get? x=some { cls:=Value.ref C,data:=Data.fields vs,slots:=sl }:=Heap.get?_push_of_some _ hx
  have hxs:x≠s.heap.objs.size:=Nat.ne_of_lt (Heap.lt_size hx)
  refine wpAny_bind (wpAny_alloc' ?_)
  refine wpAny_bind (wpAny_update' hx₁ ?_)
  refine wpAny_pure ?_
  have hgd:((s.heap.push { cls:=.type "dict",data:=.dict #[] }).update x fun o=>{ cls:=o.cls,dict:=some s.heap.objs.size,data:=o.data,slots:=o.slots }).get? s.heap.objs.size
      = some { cls:=.type "dict",data:=.dict #[] } :=
    (Heap.get?_update_ne _ _ _ _ hxs.symm).trans (Heap.get?_push_at rfl rfl)
  have hnd:((s.heap.push { cls:=.type "dict",data:=.dict #[] }).update x fun o=>{ cls:=o.cls,dict:=some s.heap.objs.size,data:=o.data,slots:=o.slots }).Ns s.heap.objs.size (fun _=>none) :=
    ⟨_,#[],_,hgd,rfl,fun e he=>absurd he (by simp),fun _=>rfl⟩
  show wpAny _ _ (storeInDict s.heap.objs.size (.str name s.toks) name v) _ _ _
  unfold storeInDict newKeyGuard
  refine wpAny_bind (wpAny_pure (wpAny_bind (wpAny_nsSet1 (Heap.Ns1.of_empty hnd) fun h' hn' hs=>?_)))
  obtain ⟨oD,esD,epD,hoD,hdD,hcD⟩:=hn'.count (Within.cons name v Within.nil)
  refine wpAny_bind (wpAny_lookBehind hoD (by rw [hdD]; exact pastItsLine_dict (Nat.le_trans hcD (by rw [List.length_cons,List.length_nil,sizeLine_eq]; omega))) ?_)
  refine wpAny_pure (h h' ?_ hn' fun b ob hbx hb=>?_)
  · refine (hs.2 x hxs).trans (Heap.get?_update_self _ hx₁ ?_)
    rfl
  · exact (hs.2 b (Nat.ne_of_lt (Heap.lt_size hb))).trans ((Heap.get?_update_ne _ _ _ _ hbx).trans (Heap.get?_push_of_some _ hb))
theorem set_exc1 {ox:Obj} {vs:Array Value} {d:Addr} {mA:Str→Option Value} {ns:List Str} {name:Str} {v:Value} {Q:Unit→Shared→Prop} (X:K.In s.heap) (c:ExcSet K C) (na:findIn K (.ref C) name=some none) (hx:s.heap.get? x=some ox) (hc:ox.cls=.ref C) (hd:ox.data=.fields vs) (ho:ox.dict=some d)
    (hn:s.heap.Ns1 d mA) (hw:PySem.Within mA ns) (hsz:ns.length≤1000)
    (h:∀ h',h'.Ns1 d (fun y=>if y=name then some v else mA y)→Heap.SameBut d s.heap h'→Q () { s with heap:=h',toks:=s.toks+2 }) :
    wpAny (model prog w) A (setAttr (.ref x) name v) Q E s:=by
  have I:∃ od,InstAt s.heap x ox C (some od):=by
    obtain ⟨o,_,_,e,_⟩:=id hn
    exact ⟨o,hx,hc,by unfold notCls; rw [hd],by rw [ho]; exact e⟩
  obtain ⟨o,I⟩:=I
  refine set_plain X I c.sa (osaX_open (s:={ s with toks:=s.toks+1 }) X I c na fun b=>?_)
  obtain ⟨cd,hcd,hd'⟩:=any_some c.hd
  obtain ⟨oc,od,dt,sl⟩:=ox
  dsimp only at hc hd ho
  subst hc hd ho
  refine wpAny_bind (wpAny_pure (wpAny_bind (wpAny_bind (wpAny_loadPart hx (wpAny_bind (Looks.here (s:={ s with toks:=s.toks+1 }) (looks_clsIn X hcd) ?_))))))
  rw [hd']
  refine wpAny_pure (a:=some d) (wpAny_bind (wpAny_pure (wpAny_bind ?_)))
  refine wpAny_nsSet1 (s:={ s with toks:=s.toks+1 }) hn fun h' hn2 hs2=>?_
  obtain ⟨oD,esD,epD,hoD,hdD,hcD⟩:=hn2.count (PySem.Within.cons name v hw)
  refine wpAny_bind (wpAny_lookBehind hoD (by rw [hdD]; exact pastItsLine_dict (Nat.le_trans hcD (by rw [List.length_cons,sizeLine_eq]; omega))) ?_)
  exact wpAny_pure (h _ hn2 hs2)
end
section
variable {X:Cx} {pins:List (Addr × Obj)} {σ:St} {H:Hp} {s:Shared} {a C d:Addr} {fs:List (Str × V)} {f:Str} {v:V} {A:Around} {E:Value→Shared→Prop}
theorem upd_self {o:HO} (h:H a=some o):upd H a o=H:=by
  funext b
  by_cases e:b=a
  · subst e; rw [upd_same,h]
  · rw [upd_ne e]
theorem exc_read {b:Bool} {Q:Value→Shared→Prop} (I:Inv X pins σ H s) (e:H a=some (ExcO a C (some d))) (ed:H d=some (XdO d fs)) (c:ExcCls X.K C) (hh:hasDictIn X.K C=true) (n:NoAttr X.K C f) (l:fs.lookup f=some v)
    (h:∀ u s',Inv X pins σ H s'→RelV v u→Q u s'):wpAny (model X.prog X.w) A (getAttr (.ref a) f b) Q E s:=by
  obtain ⟨⟨oe,vs,e1,e2,e3,e4,_⟩,_⟩:=I.hok a _ e
  obtain ⟨⟨mA,nn,r,_⟩,_⟩:=I.hok d _ ed
  obtain ⟨od,ho,hl⟩:=lookIn_ns nn
  obtain ⟨u,hu,ru⟩:=RelO.some_of (v:=v) (o:=mA f) (by rw [← l]; exact r f)
  exact exc_attr (od:=some od) c I.kIn ⟨e1,e2,by unfold notCls; rw [e4],by rw [e3]; exact ho⟩ (findObj_own hh n rfl (by rw [hl,hu])) (handed_of ru) (h u _ (I.tok _) ru)
end
theorem vals_cons {x:V} {xs:List V} {us:List Value} (r:Vals (x::xs) us):∃ u ur,us=u::ur∧RelV x u∧Vals xs ur:=by cases r with | cons a b=>exact ⟨_,_,rfl,a,b⟩
def tFldX (K:Frag) (ta:TE) (f:Str):TE:=fun σ H Q=>ta σ H fun x H1=>∃ a C d fs v,x=.ref a∧H1 a=some (ExcO a C (some d))∧H1 d=some (XdO d fs)∧ExcCls K C∧hasDictIn K C=true∧NoAttr K C f∧fs.lookup f=some v∧Q v H1
structure FnI (P:Program) (w:World) (K:Frag) (mg:Str→Option Value) (base:Heap) (k:Nat) (C:Addr) (ps:List Str) (sp:Sp):Prop where
  ex:∃ f fd,FnOk P w K mg base CX0 k f fd ps sp∧MkX K C f∧Binds K fd ps []
structure BaseCls (K:Frag) (C:Addr):Prop where
  rd:readsIn K C (.type "type")=true
  fd:findCls K (.ref C) (.type "type") "__init__" = some (.val (.builtin "ValueError.__init__"))
  ga:specialIn K (.ref C) "__getattribute__" = some (some (.builtin "type.__getattribute__"))
section
variable {X:Cx} {k:Nat} {f C:Addr} {fd:FuncData} {ps:List Str} {sp:Sp} {x g:Str} {p pos np apos pos':Pos} {e o value:Expr} {es:List Expr} {t:TA} {ta tv:TE}
theorem we_fldX (he:PEw X e ta) (hb:attributeBase e g X.env (eval e X.env)=eval e X.env:=by rfl):PEw X (.Attribute e g pos) (tFldX X.K ta g):=⟨by
  intro pins s σ H Q I h
  refine attr_of hb (thn (he.p pins s σ H _ I h) fun u s1 ⟨x,H1,I1,rx,a,C,d,fs,v,ex,ea,ed,c,hh,n,l,q⟩=>?_)
  subst ex
  obtain rfl:u=Value.ref a:=rx
  exact exc_read I1 ea ed c hh n l fun u' s2 I2 ru=>⟨v,H1,I2,ru,q⟩⟩
@[irreducible] def rIsY (K:PySem.W.Frag):List V→Hp→VK→Prop:=fun xs H Q=>∃ a C od c u b,xs=[.ref a,c]∧H a=some (ExcO a C od)∧XHas H od∧ExcCls K C∧RelV c u∧PySem.W.kitOne K (.ref C) u=some b∧Q (.bl b) H
theorem ryI {K:PySem.W.Frag} {H:Hp} {Q:VK} {a C:Addr} {od:Option Addr} {c:V} {b:Bool} (ha:H a=some (ExcO a C od)) (hx:XHas H od) (ec:ExcCls K C) (u:Value) (ru:RelV c u) (e:PySem.W.kitOne K (.ref C) u=some b) (q:Q (.bl b) H):rIsY K [.ref a,c] H Q:=by
  unfold rIsY; exact ⟨a,C,od,c,u,b,rfl,ha,hx,ec,ru,e,q⟩
theorem cl_isiY:CallR X (.builtin "isinstance") (rIsY X.K):=by
  unfold rIsY
  intro pins s σ H xs us Q I r h
  obtain ⟨a,C,od,c,u,b,rfl,ha,hx,ec,ru,e,q⟩:=h
  obtain ⟨u1,w',rfl,r1,r2⟩:=vals2 r
  cases (show u1=Value.ref a from r1)
  have hi:=exc_get I ha hx
  have:w'=u:=by
    cases c with
    | ref p=>cases ru; cases r2; rfl
    | ty n=>cases ru; cases r2; rfl
    | non=>cases ru; cases r2; rfl
    | bl _=>cases ru; cases r2; rfl
    | int i=>obtain ⟨t,rfl⟩:=ru; simp [PySem.W.kitOne,PySem.W.kitCls] at e
    | str i=>obtain ⟨t,rfl⟩:=ru; simp [PySem.W.kitOne,PySem.W.kitCls] at e
    | byt i=>obtain ⟨t,rfl⟩:=ru; simp [PySem.W.kitOne,PySem.W.kitCls] at e
    | flt i=>obtain ⟨t,rfl⟩:=ru; simp [PySem.W.kitOne,PySem.W.kitCls] at e
  subst this
  exact PySem.W.kia_one (kitx_exc ec) I.kIn hi e (fun z=>nomatch z) fun tk=>⟨.bl b,H,I.tok _,rfl,q⟩
end
end L2
set_option Elab.async false
set_option linter.all false
set_option maxRecDepth 100000
namespace L2
open PySem PySem.W PySem.Spec PySem.Calls PyProof.Rows
def excAll (K:Frag) (C:Addr):Bool:=findIn K (.ref C) "__getattribute__" == some (some (.builtin "BaseException.__getattribute__"))&&findIn K (.ref C) "__getattr__" == some none&&subIn K (.ref C) (.type "BaseException") == some true &&
  (clsIn K C).isSome&&findIn K (.ref C) "__class__" == some (some (.builtin "object.__class__"))&&specialIn K (.builtin "object.__class__") "__get__" == some (some (.builtin "getset_descriptor.__get__")) &&
  takesIn K (.builtin "object.__class__") == some true&&mroIn K C (.type "object") == some true
theorem excAll.cls {K:Frag} {C:Addr} (h:excAll K C=true):ExcCls K C:=by
  unfold excAll at h
  simp only [Bool.and_eq_true,beq_iff_eq] at h
  obtain ⟨⟨⟨⟨⟨⟨⟨a,b⟩,c⟩,d⟩,e⟩,f⟩,g⟩,i⟩:=h
  exact ⟨a,b,c,d,e,f,g,i⟩
def setAll (K:Frag) (C:Addr) (ns:List Str):Bool:=hasDictIn K C&&(clsIn K C).any (fun cd=>onlyVE cd.mro)&&findIn K (.ref C) "__setattr__" == some (some (.builtin "object.__setattr__"))&&excShape K C mroVE "ValueError.__new__" &&
  ns.all fun n=>findIn K (.ref C) n == some none
theorem setAll.set {K:Frag} {C:Addr} {ns:List Str} (h:setAll K C ns=true):ExcSet K C:=by
  unfold setAll at h
  simp only [Bool.and_eq_true,beq_iff_eq] at h
  obtain ⟨⟨⟨⟨a,b⟩,c⟩,d⟩,e⟩:=h
  exact ⟨a,b,c⟩
theorem setAll.shape {K:Frag} {C:Addr} {ns:List Str} (h:setAll K C ns=true):excShape K C mroVE "ValueError.__new__" = true:=by
  unfold setAll at h
  simp only [Bool.and_eq_true,beq_iff_eq] at h
  exact h.1.2
theorem setAll.no {K:Frag} {C:Addr} {ns:List Str} (h:setAll K C ns=true) {n:Str} (hn:n∈ns):NoAttr K C n:=by
  unfold setAll at h
  simp only [Bool.and_eq_true,beq_iff_eq] at h
  have:=List.all_eq_true.mp h.2 n hn
  exact beq_iff_eq.mp this
def baseAll (K:Frag) (C:Addr):Bool:=readsIn K C (.type "type")&&specialIn K (.ref C) "__getattribute__" == some (some (.builtin "type.__getattribute__")) &&
  (match findCls K (.ref C) (.type "type") "__init__" with | some (.val (.builtin i))=>i == "ValueError.__init__" | _=>false)
theorem baseAll.base {K:Frag} {C:Addr} (h:baseAll K C=true):BaseCls K C:=by
  unfold baseAll at h
  simp only [Bool.and_eq_true,beq_iff_eq] at h
  obtain ⟨⟨a,b⟩,c⟩:=h
  refine ⟨a,?_,b⟩
  split at c
  · rename_i i e
    rw [e,beq_iff_eq.mp c]
  · cases c
end L2
set_option Elab.async false
set_option linter.all false
set_option maxRecDepth 100000
namespace L2
open PySem PySem.W PySem.Spec PySem.Calls PyProof.Rows Builtin Builtin.ObjectAttr
def ExcN (a C:Addr) (od:Option Addr):HO:=.ext fun h=>∃ oe vs,h.get? a=some oe∧oe.cls=.ref C∧oe.dict=od∧oe.data=.fields vs∧CzV (.ref C) vs∧vs[1]?=some Value.none
section
variable {P:Program} {w:World} {H:Hp} {h:Heap} {a C:Addr} {od:Option Addr}
theorem ExcN.ok (x:ExcAt h a (.ref C) od none):ObjOk P w H h a (ExcN a C od):=by
  obtain ⟨oe,vs,e1,e2,e3,e4,e5,e6⟩:=x
  refine ⟨⟨oe,vs,e1,e2,e3,e4,e5,e6⟩,⟨oe,e1⟩,?_⟩
  rintro g1 g2 ⟨oe,vs,e1,e2,e3,e4,e5,e6⟩ k
  exact ⟨oe,vs,k _ e1,e2,e3,e4,e5,e6⟩
theorem ExcN.exc (x:ObjOk P w H h a (ExcN a C od)):ExcAt h a (.ref C) od none:=by
  obtain ⟨⟨oe,vs,e1,e2,e3,e4,e5,e6⟩,_⟩:=x
  exact ⟨oe,vs,e1,e2,e3,e4,e5,e6⟩
end
section
variable {prog:Program} {w:World} {A:Around} {E:Value→Shared→Prop} {s:Shared} {K:Frag} {x C:Addr}
theorem base_initN {oe:Obj} {vs:Array Value} {rest:List Value} {Q:Value→Shared→Prop} (X:K.In s.heap) (sh:excShape K C mroVE "ValueError.__new__" = true) (he:s.heap.get? x=some oe) (hc:oe.cls=.ref C) (hd:oe.data=.fields vs) (hz':CzV (.ref C) vs) (hv:vs[1]?=some Value.none) (hr:rest.length≤sizeLine)
    (k:∀ h',ExcAt h' x (.ref C) oe.dict none→(∀ b o,b≠x→s.heap.get? b=some o→h'.get? b=some o)→Q .none { s with heap:=h' }) :
    wpAny (model prog w) A (call (.builtin "ValueError.__init__") (.ref x::rest)) Q E s:=by
  obtain ⟨bm,N,nm,qn,bs,hdct,sn,sub,ab,col,dd,k0,k1,k2,k3,k5,hC,TL⟩:=excShape_obj X sh
  have F:=PySem.F.excBase_ValueError
  have hz:=hz'.sz
  obtain ⟨hh,g,d,t,os⟩:=s
  refine wpAny_call (codeAny_call_builtin F.init.plain F.initEntry (wpAny_check_init_subT F TL hC he hc ?_))
  unfold Builtin.«BaseException.__init__»
  dsimp only
  refine wpAny_bind (wpAny_newTuple ?_ hr)
  dsimp only at he hC k ⊢
  have he₁:(hh.push { cls:=Value.type "tuple",data:=Data.seq rest.toArray }).get? x=some oe:=Heap.get?_push_of_some _ he
  have h0:vs[0]?=some vs[0]:=Array.getElem?_eq_getElem (by omega)
  unfold BaseException.bexcPut
  refine wpAny_bind (wpAny_bind (wpAny_field he₁ hd h0 ?_))
  refine wpAny_bind (wpAny_setField he₁ hd (by omega) ?_)
  have d3:=Obj.data_mapFields hd (·.setIfInBounds 0 (Value.ref hh.objs.size))
  have fin:Q .none { heap:=(hh.push { cls:=Value.type "tuple",data:=Data.seq rest.toArray }).update x (Obj.mapFields (·.setIfInBounds 0 (Value.ref hh.objs.size))),gens:=g,drawn:=d,toks:=t,os:=os }:=by
    refine k _ ⟨_,_,Heap.get?_update_self _ he₁ (Obj.isFreed_of_fields d3),?_,?_,d3,hz'.set (by decide),?_⟩ fun b o hb e=>?_
    · rw [Obj.cls_mapFields]; exact hc
    · obtain ⟨_,_,dt,_⟩:=oe
      cases dt <;> rfl
    · show (vs.setIfInBounds 0 _)[1]?=some Value.none
      rw [Array.getElem?_setIfInBounds_ne (by decide)]; exact hv
    · rw [Heap.get?_update_other _ _ (Ne.symm hb)]
      exact Heap.get?_push_of_some _ e
  split
  · exact wpAny_letGo (wpAny_pure fin)
  · exact wpAny_pure (wpAny_pure fin)
end
section
variable {X:Cx} {pins:List (Addr × Obj)} {σ:St} {H:Hp} {s:Shared} {a C d:Addr} {fs:List (Str × V)} {f:Str} {v:V} {A:Around} {E:Value→Shared→Prop}
theorem excN_set0 {y:V} {u:Value} {Q:Unit→Shared→Prop} (I:Inv X pins σ H s) (e:H a=some (ExcN a C none)) (c:ExcSet X.K C) (n:NoAttr X.K C f) (ry:RelV y u)
    (h:∀ d s',H d=none→d≠a→Inv X pins σ (upd (upd H a (ExcN a C (some d))) d (XdO d [(f,y)])) s'→Q () s'):wpAny (model X.prog X.w) A (setAttr (.ref a) f u) Q E s:=by
  obtain ⟨⟨oe,vs,e1,e2,e3,e4,e5,e6⟩,_⟩:=I.hok a _ e
  refine set_exc0 I.kIn c n e1 e2 e4 e3 fun h' x1 x2 x3=>h s.heap.objs.size _ I.fresh (Nat.ne_of_gt (Heap.lt_size e1)) ?_
  have nd:s.heap.objs.size≠a:=Nat.ne_of_gt (Heap.lt_size e1)
  have hn:upd H a (ExcN a C (some s.heap.objs.size)) s.heap.objs.size=none:=by rw [upd_ne nd]; exact I.fresh
  have mu:Mut (H a):=by rw [e]; exact True.intro
  have w1:HOk X.prog X.w (upd H a (ExcN a C (some s.heap.objs.size))) h':=I.hok.write mu (.inl rfl) x3 ⟨_,x1⟩ (ExcN.ok ⟨_,_,x1,e2,rfl,e4,e5,e6⟩)
  have w2:Un X.fs [] H (upd H a (ExcN a C (some s.heap.objs.size))) s.heap h':=Un.write mu (.inl rfl) x3 ⟨_,x1⟩
  refine I.un (w2.put (Heap.get?_none_of_le (Nat.le_refl _)) hn) (w1.put hn (XdO.ok x2 (fun g=>?_) fun g hg=>?_))
  · show RelO (List.lookup g [(f,y)]) _
    by_cases q:g=f
    · rw [if_pos q,q]
      simp only [List.lookup,beq_self_eq_true]
      exact ry
    · rw [if_neg q]
      have:(g == f)=false:=beq_eq_false_iff_ne.mpr q
      simp only [List.lookup,this]
      trivial
  · by_cases q:g=f
    · subst q; simp
    · exact absurd (if_neg q) hg
theorem excN_set1 {y:V} {u:Value} {Q:Unit→Shared→Prop} (I:Inv X pins σ H s) (e:H a=some (ExcN a C (some d))) (ed:H d=some (XdO d fs)) (c:ExcSet X.K C) (n:NoAttr X.K C f) (hl:fs.length<1000) (ry:RelV y u)
    (h:∀ s',Inv X pins σ (upd H d (XdO d (putF f y fs))) s'→Q () s'):wpAny (model X.prog X.w) A (setAttr (.ref a) f u) Q E s:=by
  obtain ⟨⟨oe,vs,e1,e2,e3,e4,e5,e6⟩,_⟩:=I.hok a _ e
  obtain ⟨⟨mA,nn,r,wi⟩,_⟩:=I.hok d _ ed
  refine set_exc1 I.kIn c n e1 e2 e4 e3 nn wi (by rw [List.length_map]; omega) fun h' O' sb=>h _ ?_
  have hd:∃ o,h'.get? d=some o:=let ⟨o,_,_,e',_⟩:=O'; ⟨o,e'⟩
  refine I.write (x:=d) (e:=d) (by rw [ed]; exact True.intro) (.inl rfl) (fun b q hb z=>(sb.2 b hb).trans z) hd (XdO.ok O' (fun g=>?_) fun g hg=>?_)
  · show RelO ((putF f y fs).lookup g) (if g=f then some u else mA g)
    rw [lookup_putF]
    by_cases q:g=f
    · rw [if_pos q,if_pos q]; exact ry
    · rw [if_neg q,if_neg q]; exact r g
  · by_cases q:g=f
    · rw [q]; exact (keys_putF f y fs).1
    · refine (keys_putF f y fs).2 g (wi g fun z=>hg ?_)
      show (if g=f then some u else mA g)=none
      rw [if_neg q]; exact z
theorem Inv.excMadeN {h':Heap} {args:List Value} (I:Inv X pins σ H s) (x:Heap.MadeExcOf s.heap h' a (.ref C) args):H a=none∧Inv X pins σ (upd H a (ExcN a C none)) { s with heap:=h' }:=by
  have na:H a=none:=by
    cases z:H a with
    | none=>rfl
    | some u=>obtain ⟨ob,e⟩:=(I.hok a u z).get; rw [x.new] at e; cases e
  exact ⟨na,I.un (t':=s.toks) ((Un.kept x.keeps).put x.new na) ((I.hok.kept x.keeps).put na (ExcN.ok (MadeExcOf.at x)))⟩
end
def tBaseN (K:Frag) (t:TA):TE:=fun σ H Q=>t σ H fun vs H1=>∃ a C od r,vs=.ref a::r∧vs.length≤64∧H1 a=some (ExcN a C od)∧excShape K C mroVE "ValueError.__new__" = true∧Q .non H1
def sFldN (K:Frag) (ta tv:TE) (f:Str):TS:=fun D σ H=>tv σ H fun y H1=>ta σ H1 fun x H2=>∃ a C,x=.ref a∧ExcSet K C∧NoAttr K C f ∧
  ((H2 a=some (ExcN a C none)∧∀ d,H2 d=none→d≠a→D.nx σ (upd (upd H2 a (ExcN a C (some d))) d (XdO d [(f,y)]))) ∨
    ∃ d fs,H2 a=some (ExcN a C (some d))∧H2 d=some (XdO d fs)∧fs.length<1000∧D.nx σ (upd H2 d (XdO d (putF f y fs))))
section
variable {X:Cx} {k:Nat} {f C:Addr} {fd:FuncData} {ps:List Str} {sp:Sp} {x g:Str} {p pos np apos pos':Pos} {e o value:Expr} {es:List Expr} {t:TA} {ta tv:TE}
theorem we_baseN {E0a:Addr} {pl:Sem Bool} (B:BaseCls X.K E0a) (hm:X.mg x=some (.ref E0a)) (ha:PAw X (e::es) t) (hg:Gl X x:=by rfl)
    (hdb:(x == ("__debug__" : Str))=false:=by decide) (he:starEach (e::es) X.env=(false,eval e X.env)::starEach es X.env:=by first | exact se_Name | exact se_Constant | exact se_Call | exact se_Subscript | exact se_Tuple)
    (hpl:(backTo pos (starEach es X.env)).any (·.1)=false:=by repeat (first | exact ap_nil | refine ap_cons (by first | exact se_Name | exact se_Constant | exact se_Call | exact se_Subscript | exact se_Tuple) ?_))
    (ht:eval (.Call (.Attribute (.Name x np) "__init__" apos) (e::es) [] pos) X.env=(do
      let ov ← eval (.Name x np) X.env
      standAt apos.atName
      let (f,first) ← holding [ov] (getMethod ov "__init__" pl)
      callWith pos f first (backTo pos (starEach (e::es) X.env)) (backToKw pos (keywordEach [] X.env))):=by rfl) :
    PEw X (.Call (.Attribute (.Name x np) "__init__" apos) (e::es) [] pos) (tBaseN X.K t):=⟨by
  intro pins s σ H Q I h
  refine PySem.W.methodCall_KW (pl:=pl) (ld_glob I hg hm ?_ hdb) ht
  refine method_cls I.kIn B.ga (cls_value I.kIn B.rd B.fd rfl ?_)
  have I0:Inv X pins σ H { s with toks:=s.toks+1 }:=I.tok _
  have hA:=ha.p pos pins _ σ H _ I0 h
  rw [he] at hA ⊢
  refine Calls.callWith_builtin (by show (false || (backTo pos (starEach es X.env)).any (·.1))=false; rw [hpl] <;> rfl) (Calls.evalArgs_plain (thn hA fun us s1 ⟨vs,H1,I1,r,a,C,od,rr,ev,hz,e,sh,q⟩=>?_))
  subst ev
  obtain ⟨u,ur,rfl,r1,rr⟩:=vals_cons r
  · cases (show u=Value.ref a from r1)
    obtain ⟨⟨oe,vs,e1,e2,e3,e4,e5,e6⟩,_⟩:=I1.hok a _ e
    refine base_initN I1.kIn sh e1 e2 e4 e5 e6 (by rw [← rr.length]; exact small64 (Nat.le_trans (Nat.le_succ _) hz)) fun h' x1 x6=>?_
    rw [e3] at x1
    have I2:Inv X pins σ (upd H1 a (ExcN a C od)) { s1 with heap:=h' }:=I1.write (x:=a) (e:=a) (t':=s1.toks) (by rw [e]; exact True.intro) (.inl rfl) (fun b o hb q=>x6 b o hb q) (let ⟨oe,vs,y,_⟩:=x1; ⟨oe,y⟩) (ExcN.ok x1)
    rw [upd_self e] at I2
    exact ⟨V.non,H1,I2,rfl,q⟩⟩
theorem ws_fldN (ha:PEw X o ta) (hv:PEw X value tv) (hs:swapsWith value (some (.Attribute o g pos')) pos.line X.env=pure false:=by rfl):PSw X (.Assign [.Attribute o g pos'] value pos) (sFldN X.K ta tv g):=⟨by
  intro pins s σ H D I h
  refine plainObj_wpAny_Assign_Attribute (thn (hv.p pins s σ H _ I h) fun u s1 ⟨y,H1,I1,ry,q⟩=>thn (ha.p pins s1 σ H1 _ I1 q) fun ov s2 ⟨x,H2,I2,rx,a,C,ex,c,n,q2⟩=>?_) hs
  subst ex
  obtain rfl:ov=Value.ref a:=rx
  rcases q2 with ⟨ea,q2⟩ | ⟨d,fs,ea,ed,l,q2⟩
  · exact excN_set0 I2 ea c n ry fun d s3 nd na I3=>⟨σ,_,I3,q2 d nd na⟩
  · exact excN_set1 I2 ea ed c n l ry fun s3 I3=>⟨σ,_,I3,q2⟩⟩
end
def del (H:Hp) (a:Addr):Hp:=fun b=>if b=a then none else H b
theorem del_same {H:Hp} {a:Addr}:del H a a=none:=if_pos rfl
theorem del_ne {H:Hp} {a b:Addr} (h:b≠a):del H a b=H b:=if_neg h
theorem HOk.del {P:Program} {w:World} {H:Hp} {h:Heap} {a:Addr} {F:Heap→Prop} (x:HOk P w H h) (e:H a=some (.ext F)):HOk P w (del H a) h:=fun b o q=>by
  by_cases hb:b=a
  · subst hb; rw [del_same] at q; cases q
  · rw [del_ne hb] at q
    refine (x b o q).stay (fun c u _ r=>r) (fun c r=>?_) fun c xs r=>?_
    · rw [del_ne (fun z=>by subst z; rw [e] at r; cases r)]; exact r
    · rw [del_ne (fun z=>by subst z; rw [e] at r; cases r)]; exact r
theorem Un.del {fs:List Addr} {H H1:Hp} {h h1:Heap} {a:Addr} {F:Heap→Prop} (x:Un fs [] H H1 h h1) (e:H1 a=some (.ext F)):Un fs [] H (L2.del H1 a) h h1 where
  keep:=x.keep
  slot:=x.slot
  free:=fun b ob q n m=>by
    by_cases hb:b=a
    · subst hb; exact del_same
    · rw [del_ne hb]; exact x.free b ob q n m
  there:=x.there
  tups:=fun b xs q=>by have r:=x.tups b xs q; rw [del_ne (fun z=>by subst z; rw [e] at r; cases r)]; exact r
  frzs:=fun b ob xs q=>by have r:=x.frzs b ob xs q; rw [del_ne (fun z=>by subst z; rw [e] at r; cases r)]; exact r
  tbls:=fun b ps q=>by
    obtain ⟨m,r⟩:=x.tbls b ps q
    exact ⟨m,by rw [del_ne (fun z=>by subst z; rw [e] at r; cases r)]; exact r⟩
structure XMadeG (X:Cx) (Ex:St→XK):Prop where
  p:∀ (pins:List (Addr × Obj)) (σ:St) (H1 H2:Hp) (s1 s2:Shared) (a:Addr) (cls:Value) (od:Option Addr),Inv X pins σ H1 s1→s2.os=s1.os→AllBare s2.gens→Un (frs X.stack) [] H1 H2 s1.heap s2.heap→HOk X.prog X.w H2 s2.heap →
    ExcAt s2.heap a cls od none→s1.heap.get? a=none→H2 a=none→Ex σ cls od H2→X.xe (.ref a) s2
theorem xmadeG_fn {P:Program} {w:World} {K:PySem.W.Frag} {mg:Str→Option Value} {base:Heap} {N:List Str} {qual:Str} {scope:Scope} {f:Addr} {cd:Value} {A:Around} {outer:List Env} {s:Shared} {H:Hp} {E:XK} :
    XMadeG (cxOf (CX1 P w) P w K mg base N qual scope f cd A outer s H E) (fun _=>E):=⟨fun pins σ H1 H2 s1 s2 a cls od I os bare un hok x fa na q =>
  leave_fn I os bare un hok x (.inl rfl) fa na (fun b hb=>by cases hb) (fun b hb=>by cases hb) q⟩
section
variable {M:Model} {A:Around} {E:Value→Shared→Prop} {env:Env} {K:Frag} {C:Addr}
theorem raise_made {s:Shared} {x:Sem Value} {Q:Flow→Shared→Prop} (sh:excShape K C mroVE "ValueError.__new__" = true) (hh:A.handled=none)
    (h:wpAny M A x (fun v s₁=>∃ e od,v=.ref e∧K.In s₁.heap∧ExcAt s₁.heap e (.ref C) od none∧E (.ref e) s₁) E s) :
    wpAny M A (raiseStmt env (some x) none) Q E s:=by
  unfold raiseStmt
  refine wpAny_bind (wpAny_mono h (fun v s₁ h₁=>?_) fun _ _ x=>x)
  obtain ⟨e,od,rfl,X,⟨oe,vs,he,hc,ho,hd,hz,hv⟩,hE⟩:=h₁
  obtain ⟨bm,N,nm,qn,bs,hdct,sn,sub,ab,col,dd,k0,k1,k2,k3,k5,hC,TL⟩:=excShape_obj X sh
  have hbase:bm.contains (.type "BaseException")=true:=TL.hasType PySem.F.excBase_ValueError.hasBase
  have hcB:(Value.ref C::bm).contains (.type "BaseException")=true:=by rw [List.contains_cons,hbase,Bool.or_true]
  obtain ⟨hp,g,d,tk,os⟩:=s₁
  obtain ⟨oc,odd,dt,sl⟩:=oe
  dsimp only at hc ho hd he hC hE
  subst hc hd
  repeat (first | with_reducible refine wpAny_loadPart_at he ?_ | with_reducible refine wpAny_loadPart_at hC ?_ | (with_reducible refine wpAny_isSubtype_exc hC ?_; rw [hcB]) | wp_step)
  rw [hv]
  refine wpAny_pure ?_
  rw [if_neg (by decide)]
  exact wpAny_pure (wpAny_raiseNew_none hh hE)
end
def tRaiseX (C:Addr) (sp:Sp) (Ex:St→XK) (t:TA):TS:=fun _ σ H=>t σ H fun vs H1=>vs.length≤64∧∀ a,H1 a=none →
  sp (.ref a::vs) (upd H1 a (ExcN a C none)) (fun v H2=>v=.non∧∃ od,H2 a=some (ExcN a C od)∧Ex σ (.ref C) od (del H2 a)) E0
section
variable {X:Cx} {k:Nat} {f C:Addr} {fd:FuncData} {ps:List Str} {sp:Sp} {Ex:St→XK} {x:Str} {pos np cpos:Pos} {e:Expr} {es:List Expr} {t:TA}
theorem run_makeN {pins:List (Addr × Obj)} {σ:St} {H:Hp} {s:Shared} {us:List Value} {vs:List V} (M:MkX X.K C f) (F:FnOk X.prog X.w X.K X.mg X.base CX0 k f fd ps sp) (hr:Room (k+1) X.A) (hb:Binds X.K fd ps []) (hx:XMadeG X Ex)
    (I:Inv X pins σ H s) (r:Vals vs us) (hz:vs.length≤64)
    (h:∀ a,H a=none→sp (.ref a::vs) (upd H a (ExcN a C none)) (fun v H2=>v=.non∧∃ od,H2 a=some (ExcN a C od)∧Ex σ (.ref C) od (del H2 a)) E0) :
    wpAny (model X.prog X.w) X.A (call (.ref C) us) (fun v s₁=>∃ e od,v=.ref e∧X.K.In s₁.heap∧ExcAt s₁.heap e (.ref C) od none∧X.xe (.ref e) s₁) X.xe s:=by
  refine make_exc M I.kIn (fun h' a x=>?_) (by rw [← r.length]; exact small64 hz)
  obtain ⟨na,I2⟩:=I.excMadeN x
  have hq:=h a na
  have r2:Vals (V.ref a::vs) (Value.ref a::us):=.cons rfl r
  have hl:(Value.ref a::us++[]).length=ps.length:=by
    have e:=r2.length
    rw [F.len _ _ _ _ hq] at e
    rw [List.append_nil]
    exact e.symm
  have hbt:=hb _ (Value.ref a::us) I2.kIn hl
  rw [List.append_nil] at hbt
  refine wpAny_call (codeAny_mono (F.run _ X.stack _ _ ⟨Value.ref a::us,[]⟩ (Value.ref a::us) _ _ E0 (hr.make C us []) (I2.env0.make C us []) hbt r2 hq) fun r s' hq'=>?_)
  cases r with
  | error e=>exact False.elim hq'
  | ok fl =>
    cases fl with
    | ret u =>
      have hc:=hq'
      obtain ⟨v,H',os,bare,un,hok,rv,ev,od,eN,q3⟩:=hq'
      subst ev
      obtain ⟨_,_,I3,_,_⟩:=I2.after hc
      have un1:Un (frs X.stack) [] H H' s.heap s'.heap:=((Un.kept x.keeps).put x.new na).tr un fun b hb=>.inl hb
      exact ⟨rv,a,od,rfl,I3.kIn,ExcN.exc (hok a _ eN),hx.p pins σ H (del H' a) s s' a _ od I os bare (un1.del eN) (hok.del eN) (ExcN.exc (hok a _ eN)) x.new del_same q3⟩
    | next=>exact False.elim hq'
    | brk=>exact False.elim hq'
    | cont=>exact False.elim hq'
theorem ws_raiseX (F:FnI X.prog X.w X.K X.mg X.base k C ps sp) (hm:X.mg x=some (.ref C)) (hc:X.calm=true) (hr:Room (k+1) X.A) (hx:XMadeG X Ex) (ha:PAw X (e::es) t) (hg:Gl X x:=by rfl)
    (hdb:(x == ("__debug__" : Str))=false:=by decide) (he:starEach (e::es) X.env=(false,eval e X.env)::starEach es X.env:=by first | exact se_Name | exact se_Constant | exact se_BinOp | exact se_Call | exact se_Subscript | exact se_Tuple)
    (hpl:(backTo cpos (starEach es X.env)).any (·.1)=false:=by repeat (first | exact ap_nil | refine ap_cons (by first | exact se_Name | exact se_Constant | exact se_BinOp | exact se_Call | exact se_Subscript | exact se_Tuple) ?_)) :
    PSw X (.Raise (some (.Call (.Name x np) (e::es) [] cpos)) none pos) (tRaiseX C sp Ex t):=⟨by
  obtain ⟨f,fd,h1,h2,h3⟩:=F.ex
  intro pins s σ H D I h
  rw [arm_exec_Raise]
  refine wpAny_bind (wpAny_standAt ?_)
  show wpAny _ _ (raiseStmt X.env (some (do let v ← eval (.Call (.Name x np) (e::es) [] cpos) X.env; standAt pos; pure v)) none) _ _ _
  refine raise_made h2.shape (I.ok.hd hc) (wpAny_bind (wpAny_mono (Q:=fun v s₁=>∃ e od,v=.ref e∧X.K.In s₁.heap∧ExcAt s₁.heap e (.ref C) od none∧X.xe (.ref e) s₁) ?_ (fun v s₁ h₁=>wpAny_bind (wpAny_standAt (wpAny_pure h₁))) fun _ _ x=>x))
  refine wpAny_Call_Name_kw (ld_glob I hg hm ?_ hdb)
  refine PySem.W.callWith_K (h₀:=X.base) I.ok.mod.kin h2.kp (thn (ha.p cpos pins s σ H _ I h) fun us s1 ⟨vs,H1,I1,r,hz,q⟩=>⟨I1.kIn,?_⟩) he hpl
  exact run_makeN h2 h1 hr h3 hx I1 r hz q⟩
end
end L2
set_option Elab.async false
set_option linter.all false
set_option maxRecDepth 100000
namespace L2
open PySem PySem.Spec PyProof.Rows
section
variable {X:Cx} {o i value k v:Expr} {td ty tv tk:TE} {pos pos':Pos} {ks:List (Option Expr)} {vs:List Expr} {trs:List (TE × TE)}
end
section
variable {σ:St} {js:List Nat} {te:TE} {H:Hp} {Q:VK}
end
end L2
set_option Elab.async false
set_option linter.all false
set_option maxRecDepth 100000
namespace HT
open PySem PySem.W PyProof.Rows
section
variable {n:Nat} {lt:Nat→Nat→Bool}
end
end HT
set_option Elab.async false
set_option linter.all false
set_option maxRecDepth 100000
namespace HT
open PySem PySem.W PyProof.Rows
section
variable {n:Nat} {lt:Nat→Nat→Bool}
end
end HT
set_option Elab.async false
set_option linter.all false
set_option maxRecDepth 100000
namespace L2
open PySem PySem.Spec PySem.W PyProof.Rows HT
section
variable {prog:Program} {w:World} {A:Around} {E:Value→Shared→Prop} {s:Shared} {Q:Bool→Shared→Prop}
end
end L2
set_option Elab.async false
set_option linter.all false
set_option maxRecDepth 100000
namespace L2
open PySem PySem.Spec PySem.W PyProof.Rows HT
open Classical in
section
variable {X:Cx} {pins:List (Addr × Obj)} {σ:St} {H:Hp} {s:Shared}
end
section
variable {X:Cx}
end
end L2
set_option Elab.async false
set_option linter.all false
set_option maxRecDepth 100000
namespace HT
open PySem PySem.Spec PyProof.Rows PySem.Builtin
section
variable {prog:Program} {w:World} {A:Around} {E:Value→Shared→Prop} {s:Shared}
end
end HT
set_option Elab.async false
set_option linter.all false
set_option maxRecDepth 100000
namespace HT
open PySem PySem.Spec PyProof.Rows PySem.Builtin
section
variable {prog:Program} {w:World} {A:Around} {E:Value→Shared→Prop} {s:Shared} {K:Type} [DecidableEq K] {knd:HeapKind prog w K}
end
end HT
set_option Elab.async false
set_option linter.all false
set_option maxRecDepth 100000
namespace L2
open PySem PySem.Spec PySem.W PyProof.Rows HT
section
variable {X:Cx} {pins:List (Addr × Obj)} {σ:St} {H:Hp}
end
end L2
set_option Elab.async false
set_option linter.all false
set_option maxRecDepth 100000
namespace HT
open PySem PySem.Spec PyProof.Rows
section
variable {prog:Program} {w:World} {A:Around} {E:Value→Shared→Prop} {s:Shared} {it d:Addr} {es:Array DictEntry} {ep i:Nat} {od:Obj}
end
end HT
set_option Elab.async false
set_option linter.all false
set_option maxRecDepth 100000
namespace L2
open PySem PySem.Spec PySem.W PyProof.Rows HT
section
variable {X:Cx} {pins:List (Addr × Obj)} {σ:St} {H:Hp} {s:Shared}
end
section
variable {X:Cx} {tg:Expr}
end
end L2
set_option Elab.async false
set_option linter.all false
set_option maxRecDepth 100000
namespace HT
open PySem PySem.Spec PyProof.Rows PySem.W
section
variable {prog:Program} {w:World} {A:Around} {d:Addr} {o:Obj} {es:Array DictEntry} {ep:Nat}
end
end HT
namespace L2
open PySem PySem.Spec PySem.W PyProof.Rows HT
end L2
set_option Elab.async false
set_option linter.all false
set_option maxRecDepth 100000
namespace L2
open PySem PySem.Spec PySem.W PyProof.Rows HT
section
variable {prog:Program} {w:World} {A:Around} {E:Value→Shared→Prop} {s:Shared}
end
end L2
set_option Elab.async false
set_option linter.all false
set_option maxRecDepth 100000
namespace HT
open PySem PySem.Spec PyProof.Rows PySem.W
section
variable {prog:Program} {w:World} {A:Around} {E:Value→Shared→Prop} {s:Shared} {it d:Addr} {es:Array DictEntry} {ep i:Nat} {od:Obj}
end
end HT
set_option Elab.async false
set_option linter.all false
set_option maxRecDepth 100000
namespace L2
open PySem PySem.Spec PySem.W PyProof.Rows HT
section
variable {X:Cx} {tg:Expr}
end
section
variable {X:Cx} {o e:Expr} {apos cpos:Pos} {td ty:TE}
end
end L2
namespace L2
open PySem PySem.Spec PySem.W PyProof.Rows HT
end L2
namespace L2
open PySem
theorem cl_tupK {X:Cx} (K:PySem.W.Frag) (hK:X.K=K:=by rfl):CallR X (.type "tuple") (fun xs H Q=>∃ p ys,xs=[.ref p]∧((SqL K H p ys∧∀ l,H l=none→Q (.ref l) (upd H l (.tup ys)))∨(SqT K H p ys∧Q (.ref p) H))):=by
  subst hK; exact call_tuple_of
end L2
set_option Elab.async false
set_option linter.all false
set_option maxRecDepth 100000
namespace L2
open PySem PySem.Spec PyProof.Rows
section
variable {prog:Program} {w:World} {A:Around} {E:Value→Shared→Prop} {s:Shared} {l:Addr} {xs:Array (Int × Tok)}
end
section
variable {js:List Nat} {te:TE} {tc:TT} {σ:St} {H:Hp} {Q:VK}
end
end L2
set_option Elab.async false
set_option linter.all false
set_option maxRecDepth 100000
namespace L2
open PySem
section
variable {js:List Nat} {te:TE} {tc:TT} {σ:St} {H:Hp} {Q:VK}
end
end L2
set_option Elab.async false
set_option linter.all false
set_option maxRecDepth 100000
namespace L2
open PySem PySem.Spec PyProof.Rows
section
variable {X:Cx} {pins:List (Addr × Obj)} {σ:St} {H:Hp} {s:Shared} {scope:Scope} {x x2:Str} {N':List Str} {js:List Nat} {fp:List Addr}
end
section
variable {X:Cx} {pins:List (Addr × Obj)} {σ:St} {H:Hp} {s:Shared} {scope:Scope} {x:Str} {N':List Str} {js:List Nat} {fp:List Addr} {elt iter:Expr} {px pos:Pos} {tg:Expr} {x2:Str} {te:TE}
end
section
variable {X:Cx} {scope:Scope} {x x2 y:Str} {N':List Str} {js:List Nat} {elt iter tg:Expr} {py pos spos:Pos} {te:TE} {wi:TI} {i:Nat}
end
end L2
set_option Elab.async false
set_option linter.all false
set_option maxRecDepth 100000
namespace HT
open PySem PySem.Spec PyProof.Rows
section
variable {prog:Program} {w:World} {A:Around} {E:Value→Shared→Prop} {s:Shared} {d:Addr} {o:Obj} {es:Array DictEntry} {ep:Nat}
end
end HT
namespace L2
open PySem PySem.Spec PySem.W PyProof.Rows HT
section
variable {X:Cx} {o e f k v:Expr} {apos cpos pos:Pos} {td ty tx tk tv:TE}
end
end L2
set_option Elab.async false
set_option linter.all false
set_option maxRecDepth 100000
namespace L2
open PySem PySem.Spec PySem.W PyProof.Rows HT
@[irreducible] def rIsW (K:PySem.W.Frag):List V→Hp→VK→Prop:=fun xs H Q=>∃ a C od tp cs b,xs=[.ref a,.ref tp]∧H a=some (ExcO a C od)∧XHas H od∧ExcCls K C∧H tp=some (.tup cs)∧(∀ us,Vals cs us→kitAny K (.ref C) us=some b)∧Q (.bl b) H
theorem rwI {K:PySem.W.Frag} {H:Hp} {Q:VK} {a C tp:Addr} {od:Option Addr} {cs:List V} {b:Bool} (ha:H a=some (ExcO a C od)) (hx:XHas H od) (ec:ExcCls K C) (ht:H tp=some (.tup cs)) (e:∀ us,Vals cs us→kitAny K (.ref C) us=some b) (q:Q (.bl b) H):rIsW K [.ref a,.ref tp] H Q:=by
  unfold rIsW; exact ⟨a,C,od,tp,cs,b,rfl,ha,hx,ec,ht,e,q⟩
theorem cl_isiW {X:Cx} (K:PySem.W.Frag) (hK:X.K=K:=by rfl):CallR X (.builtin "isinstance") (rIsW K):=by
  subst hK
  unfold rIsW
  intro pins s σ H xs us Q I r h
  obtain ⟨a,C,od,tp,cs,b,rfl,ha,hx,ec,ht,e,q⟩:=h
  obtain ⟨u,w',rfl,r1,r2⟩:=vals2 r
  cases (show u=Value.ref a from r1)
  cases (show w'=Value.ref tp from r2)
  have hi:=exc_get I ha hx
  obtain ⟨_,its,rt,o,e1,e2,n,e3⟩:=(show ObjOk X.prog X.w H s.heap tp (.tup cs) from I.hok tp _ ht)
  obtain ⟨oc,odd,odt,osl⟩:=o
  cases e2
  cases e3
  exact kia_tup (kitx_exc ec) I.kIn hi e1 (e its rt) (fun z=>nomatch z) fun tk=>⟨.bl b,H,I.tok _,rfl,q⟩
end L2
set_option Elab.async false
set_option linter.all false
set_option maxRecDepth 100000
namespace L2
open PySem PySem.Spec PySem.W PyProof.Rows HT
section
variable {K:PySem.W.Frag} {H:Hp} {x:V} {d:PyData} {Q:VK}
end
section
variable {σ:St} {js:List Nat} {te:TE} {H:Hp} {Q:VK}
end
end L2
set_option Elab.async false
set_option linter.all false
set_option maxRecDepth 100000
namespace Kw
open PySem L2 Mf
def top (i:Nat):Stmt:=PySem.Challenge.pw_earlystop_k08_trial_lines_refused.main.body.getD i (.Pass ⟨0,0,0,0⟩)
def letters:Str:=Str.ofString "abcdefghijklmnopqrstuvwxyz"
def wordsL:List Str:=["faces", "way", "on", "say", "rule", "none", "price", "worth"]
structure Cl where
  EarlyError:Addr
  NoTrial:Addr
  NoFraction:Addr
  NoBack:Addr
  NoBounds:Addr
  NoLines:Addr
  NoLook:Addr
  NoOrder:Addr
  NoPaper:Addr
  NoRow:Addr
  NoRule:Addr
  ONE:Addr
  WORDS_OF_LINES:Addr
  tok_FIGURES:Tok
  tok_MOST_FIGURES:Tok
  tok_LETTERS:Tok
  tok_MOST_LETTERS:Tok
  tok_LEAST_NAMES:Tok
  tok_MOST_NAMES:Tok
  tok_FACES_WORD:Tok
  tok_WAY_WORD:Tok
structure Txt (K:PySem.W.Frag) (mg:Str→Option Value) (c:Cl):Prop where
  b_list:mg "list" = none
  b_len:mg "len" = none
  b_abs:mg "abs" = none
  b_isinstance:mg "isinstance" = none
  b_repr:mg "repr" = none
  b_range:mg "range" = none
  b_int:mg "int" = none
  b_bool:mg "bool" = none
  b_tuple:mg "tuple" = none
  b_str:mg "str" = none
  b_all:mg "all" = none
  b_sum:mg "sum" = none
  b_enumerate:mg "enumerate" = none
  b_ValueError:mg "ValueError" = none
  g_EarlyError:mg "EarlyError" = some (.ref c.EarlyError)
  g_NoTrial:mg "NoTrial" = some (.ref c.NoTrial)
  g_NoFraction:mg "NoFraction" = some (.ref c.NoFraction)
  g_NoBack:mg "NoBack" = some (.ref c.NoBack)
  g_NoBounds:mg "NoBounds" = some (.ref c.NoBounds)
  g_NoLines:mg "NoLines" = some (.ref c.NoLines)
  g_NoLook:mg "NoLook" = some (.ref c.NoLook)
  g_NoOrder:mg "NoOrder" = some (.ref c.NoOrder)
  g_NoPaper:mg "NoPaper" = some (.ref c.NoPaper)
  g_NoRow:mg "NoRow" = some (.ref c.NoRow)
  g_NoRule:mg "NoRule" = some (.ref c.NoRule)
  g_ONE:mg "ONE" = some (.ref c.ONE)
  g_WORDS_OF_LINES:mg "WORDS_OF_LINES" = some (.ref c.WORDS_OF_LINES)
  g_FIGURES:mg "FIGURES" = some (.str (Str.ofString "0123456789") c.tok_FIGURES)
  g_MOST_FIGURES:mg "MOST_FIGURES" = some (.int 4000 c.tok_MOST_FIGURES)
  g_LETTERS:mg "LETTERS" = some (.str letters c.tok_LETTERS)
  g_MOST_LETTERS:mg "MOST_LETTERS" = some (.int 8 c.tok_MOST_LETTERS)
  g_LEAST_NAMES:mg "LEAST_NAMES" = some (.int 2 c.tok_LEAST_NAMES)
  g_MOST_NAMES:mg "MOST_NAMES" = some (.int 4 c.tok_MOST_NAMES)
  g_FACES_WORD:mg "FACES_WORD" = some (.str (Str.ofString "faces") c.tok_FACES_WORD)
  g_WAY_WORD:mg "WAY_WORD" = some (.str (Str.ofString "way") c.tok_WAY_WORD)
  x_NoFraction:PySem.W.excIn K c.NoFraction mroVE "ValueError.__new__" = true
  e_NoFraction:ExcCls K c.NoFraction
  c_NoFraction:Catch K c.NoFraction
  c_EarlyError:Catch K c.EarlyError
  bb_EarlyError:baseAll K c.EarlyError=true
  st_NoTrial:setAll K c.NoTrial ["line", "word"]=true
  ec_NoTrial:excAll K c.NoTrial=true
  s1:PySem.W.subIn K (.ref c.NoFraction) (.ref c.NoFraction)=some true
  s2:PySem.W.subIn K (.ref c.NoTrial) (.ref c.EarlyError)=some true
  k1:PySem.W.kitAny K (.ref c.NoTrial) [.ref c.NoBack,.ref c.NoBounds,.ref c.NoFraction,.ref c.NoLines,.ref c.NoLook,.ref c.NoOrder,.ref c.NoPaper,.ref c.NoRow,.ref c.NoRule]=some false
  k2:PySem.W.kitOne K (.ref c.NoTrial) (.ref c.NoTrial)=some true
  k3:PySem.W.kitOne K (.ref c.NoTrial) (.type "ValueError")=some true
  o_ONE:intsIn K c.ONE [1,1]=true
  o_WORDS:strsIn K c.WORDS_OF_LINES wordsL=true
  n1:PySem.W.nsOkIn K cStatics=true
  n2:PySem.W.nsIn K cStatics "sys.int_max_str_digits" = some none
theorem Txt.bc_EarlyError {K:PySem.W.Frag} {mg:Str→Option Value} {c:Cl} (T:Txt K mg c):BaseCls K c.EarlyError:=baseAll.base T.bb_EarlyError
theorem Txt.nd {K:PySem.W.Frag} {mg:Str→Option Value} {c:Cl} (T:Txt K mg c):NoDig K:=⟨T.n1,T.n2⟩
abbrev s__law_feed:Stmt:=(top 47)
theorem sc__law_feed:FnScope ["_law_script"] ["_law_script"] (defScope s__law_feed):=⟨rfl,rfl,rfl,by decide +kernel,rfl,by decide +kernel,by decide +kernel⟩
abbrev s__law_draw:Stmt:=(top 48)
theorem sc__law_draw:FnScope ["_law_feed_here", "_law_many", "_law_found", "_law_cell", "_law_stirred"] ["_law_feed_here", "_law_many"] (defScope s__law_draw):=⟨rfl,rfl,rfl,by decide +kernel,rfl,by decide +kernel,by decide +kernel⟩
structure FeedAt (H:Hp) (p L:Addr):Prop where
  ex:∃ (ns:List Int) (i r k:Int),H p=some (.lst [.ref L,.int i,.int r,.int k])∧H L=some (.lst (ns.map V.int))∧0≤i∧0≤r∧0≤k∧k≤ns.length∧ns.length≤63∧L≠p
theorem FeedAt.there {H:Hp} {p L:Addr} (F:FeedAt H p L):∃ o,H p=some o:=by obtain ⟨ns,i,r,k,h,_⟩:=F.ex; exact ⟨_,h⟩
theorem FeedAt.lst {H:Hp} {p L:Addr} (F:FeedAt H p L):∃ xs,H p=some (.lst xs):=by obtain ⟨ns,i,r,k,h,_⟩:=F.ex; exact ⟨_,h⟩
theorem FeedAt.ne {H:Hp} {p L q:Addr} (F:FeedAt H p L) (hq:H q=none):q≠p:=fun e=>by
  subst e; obtain ⟨o,h⟩:=F.there; rw [h] at hq; cases hq
theorem FeedAt.neL {H:Hp} {p L q:Addr} (F:FeedAt H p L) (hq:H q=none):q≠L:=fun e=>by
  subst e; obtain ⟨ns,i,r,k,h,h2,_⟩:=F.ex; rw [h2] at hq; cases hq
@[irreducible] def sp_feed (K:PySem.W.Frag):Sp:=fun vs H Q _=>∃ (a:Addr) (ns:List Int),vs=[.ref a]∧SqL K H a (ns.map V.int)∧ns.length≤63∧∀ p L H',FeedAt H' p L→Same H H'→H p=none→H L=none→Q (.ref p) H'
@[irreducible] def sp_draw:Sp:=fun vs H Q _=>∃ (p L:Addr) (m:Int),vs=[.ref p,.int m]∧FeedAt H p L∧0<m∧bits m≤9000∧∀ x H',0≤x→x<m→FeedAt H' p L→SameBut p H H'→Q (.int x) H'
theorem sp_draw_i {H:Hp} {Q:VK} {E:XK} {p L:Addr} {m:Int} (F:FeedAt H p L) (h:0<m) (hb:bits m≤9000) (k:∀ x H',0≤x→x<m→FeedAt H' p L→SameBut p H H'→Q (.int x) H'):sp_draw [.ref p,.int m] H Q E:=by
  unfold sp_draw; exact ⟨p,L,m,rfl,F,h,hb,k⟩
theorem bitsle {i:Int} {n:Nat} (h:i.natAbs<2^n):bits i≤n:=PySem.intBits_le_iff.mpr h
theorem FeedAt.same {H H':Hp} {p L:Addr} (F:FeedAt H p L) (s:Same H H'):FeedAt H' p L:=by
  obtain ⟨ns,i,r,k,h1,h2,h3⟩:=F.ex
  exact ⟨ns,i,r,k,s _ _ h1,s _ _ h2,h3⟩
theorem FeedAt.but {H H':Hp} {p L D:Addr} (F:FeedAt H p L) (s:SameBut D H H') (n1:D≠p) (n2:D≠L):FeedAt H' p L:=by
  obtain ⟨ns,i,r,k,h1,h2,h3⟩:=F.ex
  exact ⟨ns,i,r,k,s.at (Ne.symm n1) h1,s.at (Ne.symm n2) h2,h3⟩
theorem sp_feed_i {K:PySem.W.Frag} {H:Hp} {Q:VK} {E:XK} {a:Addr} {ns:List Int} (h:SqL K H a (ns.map V.int)) (hl:ns.length≤63) (k:∀ p L H',FeedAt H' p L→Same H H'→H p=none→H L=none→Q (.ref p) H'):sp_feed K [.ref a] H Q E:=by
  unfold sp_feed; exact ⟨a,ns,rfl,h,hl,k⟩
@[irreducible] def sp_law (K:PySem.W.Frag):Sp:=fun vs H Q _=>∃ (a:Addr) (ns:List Int),vs=[.ref a]∧SqL K H a (ns.map V.int)∧ns.length≤63∧∀ H',Q (.bl true) H'
theorem sp_law_i {K:PySem.W.Frag} {H:Hp} {a:Addr} {ns:List Int} (h:SqL K H a (ns.map V.int)) (hl:ns.length≤63):sp_law K [.ref a] H (fun v _=>v=.bl true) (fun _ _ _=>False):=by
  unfold sp_law; exact ⟨a,ns,rfl,h,hl,fun _=>rfl⟩
section
variable {P:Program} {w:World} {K:PySem.W.Frag} {mg:Str→Option Value} {base:Heap} {c:Cl}
theorem ok__law_feed {f:Addr} {fd:FuncData} (F:Fun K "_law_feed" "_law_feed" s__law_feed f fd) (T:Txt K mg c):FnOk P w K mg base CX0 1 f fd ["_law_script"] (sp_feed K):=by
  refine F.okw sc__law_feed (fun vs H Q E h=>?_) (fun cdv A outer s H vs Q E hr h=>?_)
  · unfold sp_feed at h
    obtain ⟨a,ns,rfl,_⟩:=h
    rfl
  · unfold sp_feed at h
    obtain ⟨a,ns,rfl,hS,hl,k⟩:=h
    refine ⟨_,(wss_one (ws_ret (we_lst (wa_k (we_cT call_list_of (by rfl) T.b_list (by decide +kernel) (wa_k (we_slice sl_list (we_v 0) wo_none (wo_some we_int)) wa_nil)) (wa_k we_int (wa_k we_int (wa_k we_int wa_nil))))))),?_⟩
    refine ⟨_,rfl,_,rfl,a,_,rfl,hS,fun q1 h1=>?_⟩
    refine ⟨q1,_,rfl,.inl (SqL.of upd_same),fun q2 h2=>?_⟩
    refine nwL (by show 4≤64; decide) fun q3 H3 h3 e3 s3=>?_
    have n21:q2≠q1:=fun e=>by subst e; rw [upd_same] at h2; cases h2
    have e1:cutV (ns.map V.int) none (some 63)=ns.map V.int:=by
      unfold cutV
      have:HT.sIx (ns.map V.int).length (ns.map V.int).length (some 63)=(ns.map V.int).length:=by
        rw [show ((63:Int))=((63:Nat):Int) from rfl,HT.sIx_nat,List.length_map]; omega
      rw [this,HT.sIx_none,List.drop_zero,Nat.sub_zero]
      exact List.take_of_length_le (Nat.le_refl _)
    have s3':=s3
    rw [e1] at s3
    have hq2:=s3 q2 _ upd_same
    refine k q3 q2 H3 ⟨ns,0,0,0,e3,hq2,Int.le_refl _,Int.le_refl _,Int.le_refl _,by omega,hl,fun e=>?_⟩ (((Same.upd h1).trans (Same.upd h2)).trans s3') ?_ ?_
    · subst e; rw [upd_same] at h3; cases h3
    · exact ((Same.upd h1).trans (Same.upd h2)).free h3
    · exact (Same.upd h1).free h2
theorem ok__law_draw {f:Addr} {fd:FuncData} (F:Fun K "_law_draw" "_law_draw" s__law_draw f fd) (T:Txt K mg c):FnOk P w K mg base CX0 1 f fd ["_law_feed_here", "_law_many"] sp_draw:=by
  refine F.okw sc__law_draw (fun vs H Q E h=>?_) (fun cdv A outer s H vs Q E hr h=>?_)
  · unfold sp_draw at h
    obtain ⟨p,L,m,rfl,_⟩:=h
    rfl
  · unfold sp_draw at h
    obtain ⟨p,L,m,rfl,F,hm,hb,k⟩:=h
    obtain ⟨ns,i,r,j,hp,hL,h0,h1,h2,h3,h4,hne⟩:=F.ex
    refine ⟨_,(wss_cons (ws_asg (we_op op_add (we_ix ix_seq (we_v 0) we_int (fun _ _=>rfl)) we_int) (wg_sub (we_v 0) we_int set_list))
      (wss_cons (ws_while PassesOwn.never (wt_w (ww_and (wt_cmp op_eq (we_ix ix_seq (we_v 0) we_int (fun _ _=>rfl)) we_int (nomark _)) (ww_and1 (wt_cmp op_lt (we_ix ix_seq (we_v 0) we_int (fun _ _=>rfl)) (we_cB cl_len (by rfl) T.b_len (by decide +kernel) (wa_k (we_ix ix_seq (we_v 0) we_int (fun _ _=>rfl)) wa_nil)) (nomark _))))) (wss_cons (ws_cut (ws_if (wt_cmp op_ge (we_cB cl_abs (by rfl) T.b_abs (by decide +kernel) (wa_k (we_ix ix_seq (we_ix ix_seq (we_v 0) we_int (fun _ _=>rfl)) (we_ix ix_seq (we_v 0) we_int (fun _ _=>rfl)) (fun _ _=>rfl)) wa_nil)) (we_op op_pow we_int we_int) (nomark _)) (wss_one (ws_asg (we_cB cl_abs (by rfl) T.b_abs (by decide +kernel) (wa_k (we_ix ix_seq (we_ix ix_seq (we_v 0) we_int (fun _ _=>rfl)) (we_ix ix_seq (we_v 0) we_int (fun _ _=>rfl)) (fun _ _=>rfl)) wa_nil)) (wg_sub (we_v 0) we_int set_list))) wss_nil))
      (wss_one (ws_asg (we_op op_add (we_ix ix_seq (we_v 0) we_int (fun _ _=>rfl)) we_int) (wg_sub (we_v 0) we_int set_list)))))
      (wss_cons (ws_if (wt_cmp op_gt (we_ix ix_seq (we_v 0) we_int (fun _ _=>rfl)) we_int (nomark _)) (wss_cons (ws_set (i:=2) sc__law_draw.nd rfl (Or.inl rfl) (we_op op_mod (we_ix ix_seq (we_v 0) we_int (fun _ _=>rfl)) (we_v 1)))
      (wss_cons (ws_asg (we_op op_fdivB (we_ix ix_seq (we_v 0) we_int (fun _ _=>rfl)) (we_v 1)) (wg_sub (we_v 0) we_int set_list))
      (wss_one (ws_ret (we_v 2))))) wss_nil)
      (wss_cons (ws_set (i:=3) sc__law_draw.nd rfl (Or.inl rfl) we_int)
      (wss_cons (ws_cut (ws_if (wt_cmp op_gt (we_cB cl_len (by rfl) T.b_len (by decide +kernel) (wa_k (we_ix ix_seq (we_v 0) we_int (fun _ _=>rfl)) wa_nil)) we_int (nomark _)) (wss_one (ws_set (i:=3) sc__law_draw.nd rfl (Or.inl rfl) (we_ix ix_seq (we_ix ix_seq (we_v 0) we_int (fun _ _=>rfl)) (we_op op_mod (we_ix ix_seq (we_v 0) we_int (fun _ _=>rfl)) (we_cB cl_len (by rfl) T.b_len (by decide +kernel) (wa_k (we_ix ix_seq (we_v 0) we_int (fun _ _=>rfl)) wa_nil))) (fun _ _=>rfl)))) wss_nil))
      (wss_cons (ws_set (i:=4) sc__law_draw.nd rfl (Or.inl rfl) (we_op op_mod (we_op op_add (we_op op_add (we_op op_mulB (we_op op_mod (we_v 3) we_int) we_int) (we_op op_mulB we_int (we_ix ix_seq (we_v 0) we_int (fun _ _=>rfl)))) we_int) we_int))
      (wss_cons (ws_set (i:=4) sc__law_draw.nd rfl (Or.inl rfl) (we_op op_mod (we_op op_mulB (we_v 4) (we_op op_add (we_v 4) we_int)) we_int))
      (wss_one (ws_ret (we_op op_mod (we_op op_mod (we_op op_mulB (we_v 4) we_int) we_int) (we_v 1))))))))))),?_⟩
    refine ⟨_,rfl,?_⟩
    refine ixL hp rfl ?_
    refine ⟨_,_,rfl,rfl,?_⟩
    refine ⟨_,rfl,?_⟩
    refine stG hp rfl fun H1 hp1' s1=>?_
    have hp1:H1 p=some (.lst [.ref L,.int (i+1),.int r,.int j]):=hp1'
    clear hp1'
    refine while_r (fun n σ H'=>∃ r j:Int,σ=[some (.ref p),some (.int m),none,none,none]∧H' p=some (.lst [.ref L,.int (i+1),.int r,.int j])∧0≤r∧0≤j∧j≤ns.length∧SameBut p H H'∧n=((ns.length:Int) - j).toNat)
      (fun σ H'=>∃ r j:Int,σ=[some (.ref p),some (.int m),none,none,none]∧H' p=some (.lst [.ref L,.int (i+1),.int r,.int j])∧0≤r∧0≤j∧j≤ns.length∧SameBut p H H')
      _ ⟨r,j,rfl,hp1,h1,h2,h3,s1,rfl⟩ ?_ ?_
    all_goals clear hp h1 h2 h3 hp1 s1
    · rintro n σ H2 ⟨r,j,rfl,hp2,h1,h2,h3,s2,rfl⟩
      have hL2:=s2.at hne hL
      refine ⟨_,rfl,?_⟩
      refine ixL hp2 rfl ?_
      refine ⟨rfl,_,rfl,?_⟩
      refine iteD (fun e0=>?_) (fun e0=>?_)
      · refine ⟨_,rfl,?_⟩
        refine ixL hp2 rfl ?_
        refine ⟨_,rfl,?_⟩
        refine ixL hp2 rfl ?_
        refine rlL hL2 ?_
        refine ⟨_,_,rfl,rfl,_,rfl,?_⟩
        refine iteD (fun e1=>?_) (fun e1=>?_)
        · rw [List.length_map] at e1
          have hj:∃ z,ns[j.toNat]?=some z:=⟨_,List.getElem?_eq_getElem (by omega)⟩
          obtain ⟨z,hz⟩:=hj
          have hat:atI (ns.map V.int) j=some (.int z):=by
            have:=atI_nat (xs:=ns.map V.int) (j:=j.toNat) (v:=V.int z) (by rw [List.getElem?_map,hz]; rfl)
            rwa [Int.toNat_of_nonneg h2] at this
          refine ⟨_,fun _ _ h=>h,?_⟩
          refine ⟨_,rfl,?_⟩
          refine ixL hp2 rfl ?_
          refine ⟨_,rfl,?_⟩
          refine ixL hp2 rfl ?_
          refine ixL hL2 hat ?_
          refine raI ?_
          refine ⟨_,_,rfl,rfl,⟨by decide,by decide,by decide⟩,_,_,rfl,rfl,_,rfl,?_⟩
          refine iteD (fun e2=>?_) (fun e2=>?_)
          · refine ⟨_,rfl,?_⟩
            refine ixL hp2 rfl ?_
            refine ⟨_,rfl,?_⟩
            refine ixL hp2 rfl ?_
            refine ixL hL2 hat ?_
            refine raI ?_
            refine ⟨_,rfl,?_⟩
            refine stG hp2 rfl fun H3 hp3' s3=>?_
            have hp3:H3 p=some (.lst [.ref L,.int (i+1),.int (z.natAbs:Int),.int j]):=hp3'
            refine ⟨_,rfl,?_⟩
            refine ixL hp3 rfl ?_
            refine ⟨_,_,rfl,rfl,?_⟩
            refine ⟨_,rfl,?_⟩
            refine stG hp3 rfl fun H4 hp4' s4=>?_
            exact ⟨_,by omega,_,j+1,rfl,hp4',by omega,by omega,by omega,(s2.trans s3).trans s4,rfl⟩
          · refine ⟨_,rfl,?_⟩
            refine ixL hp2 rfl ?_
            refine ⟨_,_,rfl,rfl,?_⟩
            refine ⟨_,rfl,?_⟩
            refine stG hp2 rfl fun H4 hp4' s4=>?_
            exact ⟨_,by omega,_,j+1,rfl,hp4',h1,by omega,by omega,s2.trans s4,rfl⟩
        · rw [List.length_map] at e1
          exact ⟨r,j,rfl,hp2,h1,h2,h3,s2⟩
      · refine iteF ?_
        exact ⟨r,j,rfl,hp2,h1,h2,h3,s2⟩
    · rintro σ H2 ⟨r,j,rfl,hp2,h1,h2,h3,s2⟩
      have hL2:=s2.at hne hL
      refine ⟨_,rfl,?_⟩
      refine ixL hp2 rfl ?_
      refine ⟨_,_,rfl,rfl,_,rfl,?_⟩
      refine iteD (fun e0=>?_) (fun e0=>?_)
      · refine ⟨_,rfl,?_⟩
        refine ixL hp2 rfl ?_
        refine ⟨_,rfl,_,_,rfl,rfl,hm,?_⟩
        refine ⟨_,rfl,?_⟩
        refine ixL hp2 rfl ?_
        refine ⟨_,rfl,_,_,rfl,rfl,⟨hm,hb⟩,?_⟩
        refine ⟨_,rfl,?_⟩
        refine stG hp2 rfl fun H3 hp3 s3=>?_
        refine ⟨_,rfl,?_⟩
        exact k _ H3 (Int.emod_nonneg _ (by omega)) (Int.emod_lt_of_pos _ hm) ⟨ns,i+1,r / m,j,hp3,s3.at hne hL2,by omega,Int.ediv_nonneg h1 (by omega),h2,h3,h4,hne⟩ (s2.trans s3)
      · refine ⟨fun σ H3=>∃ c:Int,σ=[some (.ref p),some (.int m),none,some (.int c),none]∧H3=H2,?_,?_⟩
        · rintro σ H3 ⟨c,rfl,rfl⟩
          have hc:=Int.emod_nonneg c (b:=2147483647) (by decide)
          have hc':=Int.emod_lt_of_pos c (b:=2147483647) (by decide)
          refine ⟨_,rfl,_,_,rfl,rfl,(by show (0:Int)<2147483647; decide),_,_,rfl,rfl,IntMulOk.of_right (by decide +kernel),?_⟩
          refine ⟨_,rfl,?_⟩
          refine ixL hp2 rfl ?_
          refine ⟨_,_,rfl,rfl,IntMulOk.of_left (by decide +kernel),_,_,rfl,rfl,_,_,rfl,rfl,_,_,rfl,rfl,(by show (0:Int)<2147483629; decide),?_⟩
          generalize hz:(c % 2147483647*48271+7919*(i+1)+12345) % 2147483629=z
          have z0:0≤z:=by rw [← hz]; exact Int.emod_nonneg _ (by decide)
          have z1:z<2147483629:=by rw [← hz]; exact Int.emod_lt_of_pos _ (by decide)
          refine ⟨_,rfl,_,rfl,_,_,rfl,rfl,_,_,rfl,rfl,IntMulOk.of_left (PySem.intBits_le_64 (by omega) (by omega)),_,_,rfl,rfl,(by show (0:Int)<2147483587; decide),?_⟩
          generalize hy:z*(z+40692) % 2147483587=y
          have y0:0≤y:=by rw [← hy]; exact Int.emod_nonneg _ (by decide)
          have y1:y<2147483587:=by rw [← hy]; exact Int.emod_lt_of_pos _ (by decide)
          refine ⟨_,rfl,_,_,rfl,rfl,IntMulOk.of_left (PySem.intBits_le_64 (by omega) (by omega)),_,_,rfl,rfl,(by show (0:Int)<2147483563; decide),?_⟩
          refine ⟨_,rfl,_,_,rfl,rfl,hm,?_⟩
          exact k _ H3 (Int.emod_nonneg _ (by omega)) (Int.emod_lt_of_pos _ hm) ⟨ns,i+1,r,j,hp2,hL2,by omega,h1,h2,h3,h4,hne⟩ s2
        · refine ⟨_,rfl,?_⟩
          refine ixL hp2 rfl ?_
          refine rlL hL2 ?_
          refine ⟨_,_,rfl,rfl,_,rfl,?_⟩
          refine iteD (fun e1=>?_) (fun e1=>?_)
          · rw [List.length_map] at e1
            refine ⟨_,rfl,?_⟩
            refine ixL hp2 rfl ?_
            refine ⟨_,rfl,?_⟩
            refine ixL hp2 rfl ?_
            refine ⟨_,rfl,?_⟩
            refine ixL hp2 rfl ?_
            refine rlL hL2 ?_
            rw [List.length_map]
            refine ⟨_,_,rfl,rfl,e1,?_⟩
            have g0:=Int.emod_nonneg (i+1) (b:=(ns.length:Int)) (by omega)
            have g1:=Int.emod_lt_of_pos (i+1) e1
            have hj:∃ z,ns[((i+1) % (ns.length:Int)).toNat]?=some z:=⟨_,List.getElem?_eq_getElem (by omega)⟩
            obtain ⟨z,hz⟩:=hj
            have hat:atI (ns.map V.int) ((i+1) % (ns.length:Int))=some (.int z):=by
              have:=atI_nat (xs:=ns.map V.int) (j:=((i+1) % (ns.length:Int)).toNat) (v:=V.int z) (by rw [List.getElem?_map,hz]; rfl)
              rwa [Int.toNat_of_nonneg g0] at this
            refine ixL hL2 hat ?_
            exact ⟨z,rfl,rfl⟩
          · exact ⟨0,rfl,rfl⟩
end
abbrev s_is_whole:Stmt:=(top 15)
theorem sc_is_whole:FnScope ["thing"] ["thing"] (defScope s_is_whole):=⟨rfl,rfl,rfl,by decide +kernel,rfl,by decide +kernel,by decide +kernel⟩
abbrev s_common_divisor:Stmt:=(top 16)
theorem sc_common_divisor:FnScope ["number", "above_nought", "divided", "divisor", "rest"] ["number", "above_nought"] (defScope s_common_divisor):=⟨rfl,rfl,rfl,by decide +kernel,rfl,by decide +kernel,by decide +kernel⟩
abbrev s_are_figures:Stmt:=(top 17)
theorem sc_are_figures:FnScope ["text"] ["text"] (defScope s_are_figures):=⟨rfl,rfl,rfl,by decide +kernel,rfl,by decide +kernel,by decide +kernel⟩
abbrev s_read_whole:Stmt:=(top 18)
theorem sc_read_whole:FnScope ["text", "figures"] ["text"] (defScope s_read_whole):=⟨rfl,rfl,rfl,by decide +kernel,rfl,by decide +kernel,by decide +kernel⟩
abbrev s_is_fraction:Stmt:=(top 20)
theorem sc_is_fraction:FnScope ["thing"] ["thing"] (defScope s_is_fraction):=⟨rfl,rfl,rfl,by decide +kernel,rfl,by decide +kernel,by decide +kernel⟩
abbrev s_is_share:Stmt:=(top 21)
theorem sc_is_share:FnScope ["thing"] ["thing"] (defScope s_is_share):=⟨rfl,rfl,rfl,by decide +kernel,rfl,by decide +kernel,by decide +kernel⟩
abbrev s_plus:Stmt:=(top 22)
theorem sc_plus:FnScope ["one", "other", "common", "one_part", "other_part", "upper", "left"] ["one", "other"] (defScope s_plus):=⟨rfl,rfl,rfl,by decide +kernel,rfl,by decide +kernel,by decide +kernel⟩
abbrev s_total:Stmt:=(top 23)
theorem sc_total:FnScope ["some", "whole", "one"] ["some"] (defScope s_total):=⟨rfl,rfl,rfl,by decide +kernel,rfl,by decide +kernel,by decide +kernel⟩
abbrev s_read_fraction:Stmt:=(top 24)
theorem sc_read_fraction:FnScope ["text", "numbers", "read"] ["text"] (defScope s_read_fraction):=⟨rfl,rfl,rfl,by decide +kernel,rfl,by decide +kernel,by decide +kernel⟩
abbrev s_is_tuple_of:Stmt:=(top 27)
theorem sc_is_tuple_of:FnScope ["thing", "many"] ["thing", "many"] (defScope s_is_tuple_of):=⟨rfl,rfl,rfl,by decide +kernel,rfl,by decide +kernel,by decide +kernel⟩
abbrev s_are_shares:Stmt:=(top 28)
theorem sc_are_shares:FnScope ["thing", "many"] ["thing", "many"] (defScope s_are_shares):=⟨rfl,rfl,rfl,by decide +kernel,rfl,by decide +kernel,by decide +kernel⟩
abbrev s_are_parts:Stmt:=(top 29)
theorem sc_are_parts:FnScope ["thing", "many"] ["thing", "many"] (defScope s_are_parts):=⟨rfl,rfl,rfl,by decide +kernel,rfl,by decide +kernel,by decide +kernel⟩
abbrev s_is_name:Stmt:=(top 34)
theorem sc_is_name:FnScope ["thing"] ["thing"] (defScope s_is_name):=⟨rfl,rfl,rfl,by decide +kernel,rfl,by decide +kernel,by decide +kernel⟩
abbrev s_read_trial:Stmt:=(top 40)
theorem sc_read_trial:FnScope ["lines", "faces", "ways", "line", "way"] ["lines"] (defScope s_read_trial):=⟨rfl,rfl,rfl,by decide +kernel,rfl,by decide +kernel,by decide +kernel⟩
abbrev s_read_faces:Stmt:=(top 41)
theorem sc_read_faces:FnScope ["lines", "words", "place", "word"] ["lines"] (defScope s_read_faces):=⟨rfl,rfl,rfl,by decide +kernel,rfl,by decide +kernel,by decide +kernel⟩
abbrev s_stands_among_faces:Stmt:=(top 42)
theorem sc_stands_among_faces:FnScope ["ahead", "word"] ["ahead", "word"] (defScope s_stands_among_faces):=⟨rfl,rfl,rfl,by decide +kernel,rfl,by decide +kernel,by decide +kernel⟩
abbrev s_read_way:Stmt:=(top 43)
theorem sc_read_way:FnScope ["line", "words", "faces", "names", "place", "word"] ["line", "words", "faces", "names"] (defScope s_read_way):=⟨rfl,rfl,rfl,by decide +kernel,rfl,by decide +kernel,by decide +kernel⟩
abbrev s_stands_in_way:Stmt:=(top 44)
theorem sc_stands_in_way:FnScope ["place", "word", "faces", "names"] ["place", "word", "faces", "names"] (defScope s_stands_in_way):=⟨rfl,rfl,rfl,by decide +kernel,rfl,by decide +kernel,by decide +kernel⟩
abbrev s_writes_share:Stmt:=(top 45)
theorem sc_writes_share:FnScope ["word", "read"] ["word"] (defScope s_writes_share):=⟨rfl,rfl,rfl,by decide +kernel,rfl,by decide +kernel,by decide +kernel⟩
abbrev s_NoTrial___init__:Stmt:=(inClass (top 2) 0)
theorem sc_NoTrial___init__:FnScope ["self", "line", "word"] ["self", "line", "word"] (defScope s_NoTrial___init__):=⟨rfl,rfl,rfl,by decide +kernel,rfl,by decide +kernel,by decide +kernel⟩
abbrev s__law_low:Stmt:=(top 49)
theorem sc__law_low:FnScope ["_law_n", "_law_d", "_law_one", "_law_other"] ["_law_n", "_law_d"] (defScope s__law_low):=⟨rfl,rfl,rfl,by decide +kernel,rfl,by decide +kernel,by decide +kernel⟩
abbrev s__law_shares:Stmt:=(top 50)
theorem sc__law_shares:FnScope ["_law_feed_here", "_law_many", "_law_most", "_law_parts"] ["_law_feed_here", "_law_many"] (defScope s__law_shares):=⟨rfl,rfl,rfl,by decide +kernel,rfl,by decide +kernel,by decide +kernel⟩
abbrev s__law_trial:Stmt:=(top 51)
theorem sc__law_trial:FnScope ["_law_feed_here", "_law_pool", "_law_turn", "_law_faces_here", "_law_ways"] ["_law_feed_here"] (defScope s__law_trial):=⟨rfl,rfl,rfl,by decide +kernel,rfl,by decide +kernel,by decide +kernel⟩
abbrev s__law_lines:Stmt:=(top 53)
theorem sc__law_lines:FnScope ["_law_trial_here", "_law_lines_here", "_law_name", "_law_shares_here", "_law_words"] ["_law_trial_here"] (defScope s__law_lines):=⟨rfl,rfl,rfl,by decide +kernel,rfl,by decide +kernel,by decide +kernel⟩
abbrev s_law:Stmt:=(top 60)
theorem sc_law:FnScope ["_law_script", "_law_feed_here", "_law_good", "_law_k", "_law_lines_here", "_law_kept"] ["_law_script"] (defScope s_law):=⟨rfl,rfl,rfl,by decide +kernel,rfl,by decide +kernel,by decide +kernel⟩
abbrev frD (f:Fr):PyData:=.tuple [.int f.1,.int f.2]
theorem frD_at {H:Hp} {f:Fr} {v:V} (h:Rep H (frD f) v):∃ a,v=.ref a∧H a=some (.tup [.int f.1,.int f.2]):=by
  unfold Rep RepL RepL RepL at h
  obtain ⟨a,_,rfl,h1,x,_,rfl,r1,y,_,rfl,r2,rfl⟩:=h
  cases (show x=V.int f.1 from r1)
  cases (show y=V.int f.2 from r2)
  exact ⟨a,rfl,h1⟩
theorem frD_of {H:Hp} {f:Fr} {a:Addr} (h:H a=some (.tup [.int f.1,.int f.2])):Rep H (frD f) (.ref a):=Rep.tup h (RepL.cons (Rep.int _) (RepL.cons (Rep.int _) RepL.nil))
theorem frD_flat (f:Fr):flatD (frD f)=true:=rfl
def FrV (K:PySem.W.Frag) (H:Hp) (f:Fr) (x:V):Prop:=∃ a,x=.ref a∧SqT K H a [.int f.1,.int f.2]
theorem FrV.of {K:PySem.W.Frag} {H:Hp} {f:Fr} {x:V} (h:Rep H (frD f) x):FrV K H f x:=by
  obtain ⟨a,e,h⟩:=frD_at h
  exact ⟨a,e,SqT.of h⟩
def Szf (k:Nat) (f:Fr):Prop:=f.1.natAbs<2^k∧f.2.natAbs<2^k
@[irreducible] def sp_cd:Sp:=fun vs H Q _=>∃ n d:Int,vs=[.int n,.int d]∧0<d∧Q (.int (Int.gcd n d)) H
theorem sp_cd_i {H:Hp} {Q:VK} {E:XK} {n d:Int} (h:0<d) (q:Q (.int (Int.gcd n d)) H):sp_cd [.int n,.int d] H Q E:=by unfold sp_cd; exact ⟨n,d,rfl,h,q⟩
def NewF (H:Hp) (Q:VK) (f:Fr):Prop:=∀ q H',H q=none→H' q=some (.tup [.int f.1,.int f.2])→Same H H'→Q (.ref q) H'
@[irreducible] def sp_plus (K:PySem.W.Frag):Sp:=fun vs H Q _=>∃ x y f g,vs=[x,y]∧FrV K H f x∧FrV K H g y∧LowF f∧LowF g∧Szf 4000 f∧Szf 4000 g∧NewF H Q (addF f g)
theorem sp_plus_i {K:PySem.W.Frag} {H:Hp} {Q:VK} {E:XK} {x y:V} {f g:Fr} (h1:FrV K H f x) (h2:FrV K H g y) (l1:LowF f) (l2:LowF g) (z1:Szf 4000 f) (z2:Szf 4000 g) (q:NewF H Q (addF f g)):sp_plus K [x,y] H Q E:=by unfold sp_plus; exact ⟨x,y,f,g,rfl,h1,h2,l1,l2,z1,z2,q⟩
@[irreducible] def sp_low:Sp:=fun vs H Q _=>∃ n d:Int,vs=[.int n,.int d]∧0<d∧d.natAbs<2^9000∧NewF H Q (lw n d)
theorem sp_low_i {H:Hp} {Q:VK} {E:XK} {n d:Int} (h:0<d) (z:d.natAbs<2^9000) (q:NewF H Q (lw n d)):sp_low [.int n,.int d] H Q E:=by unfold sp_low; exact ⟨n,d,rfl,h,z,q⟩
theorem gcd_le {n d:Int} (h:0<d):(Int.gcd n d:Int)≤d:=Int.le_of_dvd h (Int.gcd_dvd_right n d)
theorem gcd_sz {n d:Int} {k:Nat} (h:0<d) (z:d.natAbs<2^k):(Int.gcd n d:Int).natAbs<2^k:=by
  have:=gcd_le (n:=n) h
  have:=gcd_pos (n:=n) h
  omega
theorem divOk {n d:Int} (h:0<d) (z:d.natAbs<2^9000):CDivB n d:=⟨h,bitsOf z⟩
theorem sz_mono {i:Int} {n m:Nat} (h:i.natAbs<2^n) (k:n≤m:=by decide):i.natAbs<2^m:=Nat.lt_of_lt_of_le h (Nat.pow_le_pow_right (by decide) k)
theorem sz_div {i j:Int} {n:Nat} (h:i.natAbs<2^n) (hj:0<j):(i / j).natAbs<2^n:=Nat.lt_of_le_of_lt (by
  have:=Int.natAbs_ediv_le_natAbs i j
  exact this) h
theorem sz_mul {i j:Int} {n m:Nat} (h1:i.natAbs<2^n) (h2:j.natAbs<2^m):(i*j).natAbs<2^(n+m):=by
  rw [Int.natAbs_mul,Nat.pow_add]
  exact Nat.mul_lt_mul'' h1 h2
section
variable {P:Program} {w:World} {K:PySem.W.Frag} {mg:Str→Option Value} {base:Heap} {c:Cl}
theorem ok_common_divisor {f:Addr} {fd:FuncData} (F:Fun K "common_divisor" "common_divisor" s_common_divisor f fd) (T:Txt K mg c):FnOk P w K mg base CX0 1 f fd ["number", "above_nought"] sp_cd:=by
  refine F.okw sc_common_divisor (fun vs H Q E h=>?_) (fun cdv A outer s H vs Q E hr h=>?_)
  · unfold sp_cd at h
    obtain ⟨n,d,rfl,_⟩:=h
    rfl
  · unfold sp_cd at h
    obtain ⟨n,d,rfl,hd,q⟩:=h
    refine ⟨_,(wss_cons (ws_set (i:=2) sc_common_divisor.nd rfl (Or.inl rfl) (we_v 0))
      (wss_cons (ws_set (i:=3) sc_common_divisor.nd rfl (Or.inl rfl) (we_v 1))
      (wss_cons (ws_while PassesOwn.never (wt_cmp op_ne (we_v 3) we_int (nomark _)) (wss_cons (ws_set (i:=4) sc_common_divisor.nd rfl (Or.inl rfl) (we_op op_mod (we_v 2) (we_v 3)))
      (wss_cons (ws_set (i:=2) sc_common_divisor.nd rfl (Or.inl rfl) (we_v 3))
      (wss_one (ws_set (i:=3) sc_common_divisor.nd rfl (Or.inl rfl) (we_v 4))))))
      (wss_one (ws_ret (we_v 2)))))),?_⟩
    refine ⟨_,rfl,_,rfl,?_⟩
    refine while_r (fun m σ H'=>∃ (a b:Int) (c:Option V),σ=[some (.int n),some (.int d),some (.int a),some (.int b),c]∧0≤b∧Int.gcd a b=Int.gcd n d∧(b=0→0<a)∧H'=H∧m=b.toNat)
      (fun σ H'=>∃ (c:Option V),σ=[some (.int n),some (.int d),some (.int (Int.gcd n d)),some (.int 0),c]∧H'=H)
      _ ⟨n,d,none,rfl,by omega,rfl,by omega,rfl,rfl⟩ ?_ ?_
    · rintro m σ H2 ⟨a,b,c,rfl,hb,hg,h0,rfl,rfl⟩
      refine ⟨_,rfl,rfl,_,rfl,?_⟩
      refine iteDN (fun e=>?_) (fun e=>?_)
      · have hb':0<b:=by
          rcases Int.lt_or_eq_of_le hb with h | h
          · exact h
          · exact absurd (congrArg V.int h.symm) e
        refine ⟨_,rfl,_,rfl,_,_,rfl,rfl,hb',_,rfl,_,rfl,?_⟩
        have e1:=Int.emod_lt_of_pos a hb'
        have e2:=Int.emod_nonneg a (b:=b) (by omega)
        exact ⟨_,by omega,b,a % b,_,rfl,e2,by rw [gcd_step,hg],fun _=>hb',rfl,rfl⟩
      · have hb0:b=0:=by injection e
        subst hb0
        have ha:=h0 rfl
        have e1:=gcd_end ha
        rw [hg] at e1
        rw [e1]
        exact ⟨c,rfl,rfl⟩
    · rintro σ H2 ⟨c,rfl,rfl⟩
      exact ⟨_,rfl,q⟩
theorem ok__law_low {f:Addr} {fd:FuncData} (F:Fun K "_law_low" "_law_low" s__law_low f fd) (T:Txt K mg c):FnOk P w K mg base CX0 1 f fd ["_law_n", "_law_d"] sp_low:=by
  refine F.okw sc__law_low (fun vs H Q E h=>?_) (fun cdv A outer s H vs Q E hr h=>?_)
  · unfold sp_low at h
    obtain ⟨n,d,rfl,_⟩:=h
    rfl
  · unfold sp_low at h
    obtain ⟨n,d,rfl,hd,hz,q⟩:=h
    refine ⟨_,(wss_cons (ws_par (i:=2) (j:=3) rfl sc__law_low.nd rfl rfl (by decide) rfl rfl (wa_k (we_cB cl_abs (by rfl) T.b_abs (by decide +kernel) (wa_k (we_v 0) wa_nil)) (wa_k (we_v 1) wa_nil)) rfl)
      (wss_cons (ws_while PassesOwn.never (wt_cmp op_ne (we_v 3) we_int (nomark _)) (wss_one (ws_par (i:=2) (j:=3) rfl sc__law_low.nd rfl rfl (by decide) rfl rfl (wa_k (we_v 3) (wa_k (we_op op_mod (we_v 2) (we_v 3)) wa_nil)) rfl)))
      (wss_one (ws_ret (we_tup (wa_k (we_op op_fdivB (we_v 0) (we_v 2)) (wa_k (we_op op_fdivB (we_v 1) (we_v 2)) wa_nil))))))),?_⟩
    refine ⟨_,rfl,?_⟩
    refine raI ?_
    refine ⟨_,rfl,?_⟩
    refine ⟨_,_,rfl,?_⟩
    refine while_r (fun m σ H'=>∃ (u v:Int),σ=[some (.int n),some (.int d),some (.int u),some (.int v)]∧0≤v∧Int.gcd u v=Int.gcd n d∧(v=0→0<u)∧H'=H∧m=v.toNat)
      (fun σ H'=>σ=[some (.int n),some (.int d),some (.int (Int.gcd n d)),some (.int 0)]∧H'=H)
      _ ⟨(n.natAbs:Int),d,rfl,by omega,by rw [Int.gcd_eq_natAbs_gcd_natAbs,Int.gcd_eq_natAbs_gcd_natAbs,Int.natAbs_natCast],by omega,rfl,rfl⟩ ?_ ?_
    · rintro m σ H2 ⟨u,v,rfl,hb,hg,h0,rfl,rfl⟩
      refine ⟨_,rfl,rfl,_,rfl,?_⟩
      refine iteDN (fun e=>?_) (fun e=>?_)
      · have hb':0<v:=by
          rcases Int.lt_or_eq_of_le hb with h | h
          · exact h
          · exact absurd (congrArg V.int h.symm) e
        refine ⟨_,rfl,_,rfl,_,rfl,_,_,rfl,rfl,hb',_,_,rfl,?_⟩
        have e1:=Int.emod_lt_of_pos u hb'
        have e2:=Int.emod_nonneg u (b:=v) (by omega)
        exact ⟨_,by omega,v,u % v,rfl,e2,by rw [gcd_step,hg],fun _=>hb',rfl,rfl⟩
      · have hb0:v=0:=by injection e
        subst hb0
        have hu:=h0 rfl
        have e1:=gcd_end hu
        rw [hg] at e1
        rw [e1]
        exact ⟨rfl,rfl⟩
    · rintro σ H2 ⟨rfl,rfl⟩
      have hg:=gcd_pos (n:=n) hd
      have zg:CDivB n (Int.gcd n d:Int):=divOk hg (gcd_sz hd hz)
      refine ⟨_,rfl,_,rfl,_,_,rfl,rfl,zg,?_⟩
      refine ⟨_,rfl,_,rfl,_,_,rfl,rfl,zg,?_⟩
      refine nwT (by show 2≤64; decide) fun p H3 hp e3 s3=>?_
      exact q p H3 hp e3 s3
theorem ok_plus {f:Addr} {fd:FuncData} (F:Fun K "plus" "plus" s_plus f fd) (T:Txt K mg c)
    (F_common_divisor:FnC CX0 P w K mg base 1 "common_divisor" ["number", "above_nought"] sp_cd):FnOk P w K mg base CX0 2 f fd ["one", "other"] (sp_plus K):=by
  refine F.okw sc_plus (fun vs H Q E h=>?_) (fun cdv A outer s H vs Q E hr h=>?_)
  · unfold sp_plus at h
    obtain ⟨x,y,f,g,rfl,_⟩:=h
    rfl
  · unfold sp_plus at h
    obtain ⟨x,y,⟨a,b⟩,⟨c,d⟩,rfl,h1,h2,l1,l2,z1,z2,q⟩:=h
    obtain ⟨p1,rfl,e1⟩:=h1
    obtain ⟨p2,rfl,e2⟩:=h2
    have pb:0<b:=l1.pos
    have pd:0<d:=l2.pos
    obtain ⟨za,zb⟩:=z1
    obtain ⟨zc,zd⟩:=z2
    dsimp only at za zb zc zd e1 e2
    have hG:=gcd_pos (n:=b) pd
    have zG:=gcd_sz (n:=b) pd zd
    have zb':=sz_div zb hG
    have zd':=sz_div zd hG
    have u1:=sz_mul za zd'
    have u2:=sz_mul zc zb'
    have hL:=gcd_pos (n:=a*(d / (Int.gcd b d:Int))+c*(b / (Int.gcd b d:Int))) hG
    have zL:=gcd_sz (n:=a*(d / (Int.gcd b d:Int))+c*(b / (Int.gcd b d:Int))) hG zG
    have eq:addF (a,b) (c,d)=_:=plus_eq l1 l2
    refine ⟨_,(wss_cons (ws_set (i:=2) sc_plus.nd rfl (Or.inl rfl) (we_fn F_common_divisor (hr.mono (by decide)) (wa_k (we_ix ix_seq (we_v 0) we_int (fun _ _=>rfl)) (wa_k (we_ix ix_seq (we_v 1) we_int (fun _ _=>rfl)) wa_nil))))
      (wss_cons (ws_set (i:=3) sc_plus.nd rfl (Or.inl rfl) (we_op op_fdivB (we_ix ix_seq (we_v 0) we_int (fun _ _=>rfl)) (we_v 2)))
      (wss_cons (ws_set (i:=4) sc_plus.nd rfl (Or.inl rfl) (we_op op_fdivB (we_ix ix_seq (we_v 1) we_int (fun _ _=>rfl)) (we_v 2)))
      (wss_cons (ws_set (i:=5) sc_plus.nd rfl (Or.inl rfl) (we_op op_add (we_op op_mulB (we_ix ix_seq (we_v 0) we_int (fun _ _=>rfl)) (we_v 4)) (we_op op_mulB (we_ix ix_seq (we_v 1) we_int (fun _ _=>rfl)) (we_v 3))))
      (wss_cons (ws_set (i:=6) sc_plus.nd rfl (Or.inl rfl) (we_fn F_common_divisor (hr.mono (by decide)) (wa_k (we_v 5) (wa_k (we_v 2) wa_nil))))
      (wss_one (ws_ret (we_tup (wa_k (we_op op_fdivB (we_v 5) (we_v 6)) (wa_k (we_op op_mulB (we_v 3) (we_op op_fdivB (we_ix ix_seq (we_v 1) we_int (fun _ _=>rfl)) (we_v 6))) wa_nil)))))))))),?_⟩
    refine ⟨_,rfl,?_⟩
    refine ixK e1 rfl ?_
    refine ⟨_,rfl,?_⟩
    refine ixK e2 rfl ?_
    refine sp_cd_i pd ?_
    refine ⟨_,rfl,?_⟩
    refine ixK e1 rfl ?_
    refine ⟨_,rfl,_,_,rfl,rfl,divOk hG (sz_mono zG),?_⟩
    refine ⟨_,rfl,?_⟩
    refine ixK e2 rfl ?_
    refine ⟨_,rfl,_,_,rfl,rfl,divOk hG (sz_mono zG),?_⟩
    refine ⟨_,rfl,?_⟩
    refine ixK e1 rfl ?_
    refine ⟨_,rfl,_,_,rfl,rfl,mulB za zd',?_⟩
    refine ⟨_,rfl,?_⟩
    refine ixK e2 rfl ?_
    refine ⟨_,rfl,_,_,rfl,rfl,mulB zc zb',_,_,rfl,rfl,?_⟩
    refine ⟨_,rfl,_,rfl,?_⟩
    refine sp_cd_i hG ?_
    refine ⟨_,rfl,_,rfl,_,_,rfl,rfl,divOk hL (sz_mono zL),?_⟩
    refine ⟨_,rfl,_,rfl,?_⟩
    refine ixK e2 rfl ?_
    refine ⟨_,rfl,_,_,rfl,rfl,divOk hL (sz_mono zL),_,_,rfl,rfl,mulB zb' (sz_div zd hL),?_⟩
    refine nwT (by show 2≤64; decide) fun p H3 hp e3 s3=>?_
    refine q p H3 hp ?_ s3
    rw [eq]
    exact e3
end
abbrev shD (fs:List Fr):PyData:=.tuple (fs.map frD)
structure ShOk (n:Nat) (fs:List Fr):Prop where
  len:fs.length=n
  low:∀ f∈fs,LowF f
  pos:∀ f∈fs,0≤f.1
  le:∀ f∈fs,f.1≤f.2
  dn:∀ f∈fs,f.2≤1000
  one:totF fs=(1,1)
abbrev wD (w:Str × List Fr):PyData:=.tuple [.str w.1,shD w.2]
abbrev trD (fs:List Str) (ws:List (Str × List Fr)):PyData:=.tuple [.tuple (fs.map .str),.tuple (ws.map wD)]
def pool:List Str:=["a", "ab", "ways", "onto", "abc", "sayer", "ruler", "b", "prices", "worthy", "nones", "zzzzzzzz"]
def rot (t:Nat):List Str:=pool.drop t++pool.take t
structure TrOk (t o F W:Nat) (fs:List Str) (ws:List (Str × List Fr)):Prop where
  ht:t<12
  ho:o=0∨o=2∨o=5
  hF:F=2∨F=3∨F=4
  hW:W=2∨W=3∨W=4
  hfs:fs=(rot t).take F
  hns:ws.map (·.1)=((rot t).drop o).take W
  sh:∀ w∈ws,ShOk F w.2
theorem rot_len {t:Nat} (h:t<12):(rot t).length=12:=by
  unfold rot
  rw [List.length_append,List.length_drop,List.length_take]
  show 12 - t+min t 12=12
  omega
theorem TrOk.lenF {t o F W:Nat} {fs:List Str} {ws:List (Str × List Fr)} (h:TrOk t o F W fs ws):fs.length=F:=by
  rw [h.hfs,List.length_take,rot_len h.ht]
  have:=h.hF
  omega
theorem TrOk.lenW {t o F W:Nat} {fs:List Str} {ws:List (Str × List Fr)} (h:TrOk t o F W fs ws):ws.length=W:=by
  have e:=congrArg List.length h.hns
  rw [List.length_map,List.length_take,List.length_drop,rot_len h.ht] at e
  have:=h.hW
  have:=h.ho
  omega
theorem frs_flat:∀ fs:List Fr,flatDs (fs.map frD)=true
  | []=>rfl
  | f::fs=>by show (flatD (frD f)&&flatDs (fs.map frD))=true; rw [frs_flat fs]; rfl
theorem shD_flat (fs:List Fr):flatD (shD fs)=true:=frs_flat fs
theorem wD_flat (w:Str × List Fr):flatD (wD w)=true:=by
  show (flatD (.str w.1)&&(flatD (shD w.2)&&true))=true
  rw [shD_flat]; rfl
theorem ws_flat:∀ ws:List (Str × List Fr),flatDs (ws.map wD)=true
  | []=>rfl
  | w::ws=>by show (flatD (wD w)&&flatDs (ws.map wD))=true; rw [wD_flat w,ws_flat ws]; rfl
theorem FeedAt.like (p L:Addr):FeedLike p L (fun H=>FeedAt H p L) :=
  ⟨fun D H1 H2 n1 n2 s F=>F.but s n1 n2,fun H1 H2 s F=>F.same s,fun H' F=>F.lst,fun H' D F h=>⟨F.ne h,F.neL h⟩⟩
theorem RepL_strs {H:Hp}:∀ fs:List Str,RepL H (fs.map PyData.str) (fs.map V.str)
  | []=>RepL.nil
  | f::fs=>RepL.cons (Rep.str f) (RepL_strs fs)
theorem tup_at {H:Hp} {ds:List PyData} {v:V} (h:Rep H (.tuple ds) v):∃ a xs,v=.ref a∧H a=some (.tup xs)∧RepL H ds xs:=by unfold Rep at h; exact h
theorem RepL_two {H:Hp} {d e:PyData} {xs:List V} (h:RepL H [d,e] xs):∃ x y,xs=[x,y]∧Rep H d x∧Rep H e y:=by
  unfold RepL RepL RepL at h
  obtain ⟨x,_,rfl,h1,y,_,rfl,h2,rfl⟩:=h
  exact ⟨x,y,rfl,h1,h2⟩
theorem reps_get {α:Type} {H:Hp} {g:α→PyData} {fs:List α} {vs:List V} (h:RepL H (fs.map g) vs) {i:Nat} {v:V} (e:vs[i]?=some v):∃ f,fs[i]?=some f∧Rep H (g f) v:=by
  obtain ⟨d,h1,h2⟩:=h.get e
  rw [List.getElem?_map] at h1
  cases q:fs[i]? with
  | none=>rw [q] at h1; cases h1
  | some f=>rw [q] at h1; cases h1; exact ⟨f,rfl,h2⟩
theorem reps_get' {α:Type} {H:Hp} {g:α→PyData} {fs:List α} {vs:List V} (h:RepL H (fs.map g) vs) {i:Nat} {f:α} (e:fs[i]?=some f):∃ v,vs[i]?=some v∧Rep H (g f) v :=
  h.get' (by rw [List.getElem?_map,e]; rfl)
theorem reps_len {α:Type} {H:Hp} {g:α→PyData} {fs:List α} {vs:List V} (h:RepL H (fs.map g) vs):vs.length=fs.length:=by rw [h.len,List.length_map]
theorem take_snoc {α:Type} {l:List α} {i:Nat} {x:α} (h:l[i]?=some x):l.take (i+1)=l.take i++[x]:=by
  rw [List.take_add_one,h]; rfl
@[irreducible] def sp_shares:Sp:=fun vs H Q _=>∃ (p L:Addr) (m:Nat),vs=[.ref p,.int (m:Int)]∧FeedAt H p L∧0<m∧m≤4∧∀ v fs H',FeedAt H' p L→SameBut p H H'→Rep H' (shD fs) v→ShOk m fs→Q v H'
theorem sp_shares_i {H:Hp} {Q:VK} {E:XK} {p L:Addr} {m:Nat} (F:FeedAt H p L) (h0:0<m) (h1:m≤4) (k:∀ v fs H',FeedAt H' p L→SameBut p H H'→Rep H' (shD fs) v→ShOk m fs→Q v H'):sp_shares [.ref p,.int (m:Int)] H Q E:=by unfold sp_shares; exact ⟨p,L,m,rfl,F,h0,h1,k⟩
@[irreducible] def sp_trial:Sp:=fun vs H Q _=>∃ (p L:Addr),vs=[.ref p]∧FeedAt H p L∧∀ v t o F W fs ws H',FeedAt H' p L→SameBut p H H'→Rep H' (trD fs ws) v→TrOk t o F W fs ws→Q v H'
theorem sp_trial_i {H:Hp} {Q:VK} {E:XK} {p L:Addr} (F:FeedAt H p L) (k:∀ v t o F W fs ws H',FeedAt H' p L→SameBut p H H'→Rep H' (trD fs ws) v→TrOk t o F W fs ws→Q v H'):sp_trial [.ref p] H Q E:=by unfold sp_trial; exact ⟨p,L,rfl,F,k⟩
theorem sum_nonneg:∀ {ns:List Int},(∀ n∈ns,0≤n)→0≤ns.sum
  | [],_=>by decide
  | n::ns,h=>by
    have:=sum_nonneg fun m hm=>h m (List.mem_cons_of_mem _ hm)
    have:=h n (by simp)
    rw [List.sum_cons]; omega
theorem sum_mem {n:Int}:∀ {ns:List Int},(∀ n∈ns,0≤n)→n∈ns→n≤ns.sum
  | m::ns,h,hn=>by
    have h1:=sum_nonneg fun m hm=>h m (List.mem_cons_of_mem _ hm)
    have h2:=h m (by simp)
    rw [List.sum_cons]
    rcases List.mem_cons.mp hn with rfl | hn
    · omega
    · have:=sum_mem (fun m hm=>h m (List.mem_cons_of_mem _ hm)) hn
      omega
theorem sum_le {B:Nat}:∀ {ns:List Int},(∀ n∈ns,n≤B)→ns.sum≤B*ns.length
  | [],_=>by simp
  | n::ns,h=>by
    have h1:=sum_le fun m hm=>h m (List.mem_cons_of_mem _ hm)
    have h2:=h n (by simp)
    rw [List.sum_cons,List.length_cons]
    have:(B:Int)*((ns.length+1:Nat):Int)=B*ns.length+B:=by rw [Int.natCast_add,Int.mul_add]; simp
    omega
theorem parts_ok {ns:List Int} (h0:∀ n∈ns,0≤n) (h1:∀ n∈ns,n≤200) (hp:∃ n∈ns,0<n) (hl:ns.length≤4):0<ns.sum∧ns.sum≤800∧ShOk ns.length (ns.map fun n=>lw n ns.sum):=by
  obtain ⟨n,hn,pn⟩:=hp
  have a1:=sum_mem h0 hn
  have a2:=sum_le (B:=200) h1
  have hS:0<ns.sum:=by omega
  refine ⟨hS,by omega,by rw [List.length_map],fun f hf=>?_,fun f hf=>?_,fun f hf=>?_,fun f hf=>?_,?_⟩
  · obtain ⟨m,hm,rfl⟩:=List.mem_map.mp hf
    exact lw_low hS
  · obtain ⟨m,hm,rfl⟩:=List.mem_map.mp hf
    exact Int.ediv_nonneg (h0 m hm) (by omega)
  · obtain ⟨m,hm,rfl⟩:=List.mem_map.mp hf
    have c:=lw_cross (n:=m) (d:=ns.sum)
    have p:=(lw_low (n:=m) hS).pos
    have b:=sum_mem h0 hm
    refine Int.le_of_mul_le_mul_right (a:=ns.sum) ?_ hS
    rw [c,Int.mul_comm]
    exact Int.mul_le_mul_of_nonneg_left b (by omega)
  · obtain ⟨m,hm,rfl⟩:=List.mem_map.mp hf
    have:=(lw_le (n:=m) hS).1
    omega
  · rw [tot_parts hS,lw_one hS]
section
variable {P:Program} {w:World} {K:PySem.W.Frag} {mg:Str→Option Value} {base:Heap} {c:Cl}
set_option maxHeartbeats 4000000 in
theorem ok__law_shares {f:Addr} {fd:FuncData} (F:Fun K "_law_shares" "_law_shares" s__law_shares f fd) (T:Txt K mg c)
    (F__law_draw:FnC CX0 P w K mg base 1 "_law_draw" ["_law_feed_here", "_law_many"] sp_draw) (F__law_low:FnC CX0 P w K mg base 1 "_law_low" ["_law_n", "_law_d"] sp_low):FnOk P w K mg base CX0 2 f fd ["_law_feed_here", "_law_many"] sp_shares:=by
  refine F.okw sc__law_shares (fun vs H Q E h=>?_) (fun cdv A outer s H vs Q E hr h=>?_)
  · unfold sp_shares at h
    obtain ⟨p,L,m,rfl,_⟩:=h
    rfl
  · unfold sp_shares at h
    obtain ⟨p,L,m,rfl,F,m0,m4,k⟩:=h
    have bm:bits (m:Int)≤9000:=bitsOf (n:=9000) (Nat.lt_of_lt_of_le (show (m:Int).natAbs<2^6 by show (m:Int).natAbs<64; omega) (Nat.pow_le_pow_right (by decide) (by decide)))
    refine ⟨_,(wss_cons (ws_set (i:=2) sc__law_shares.nd rfl (Or.inr rfl) (we_ix ix_seq (we_lst (wa_k we_int (wa_k we_int (wa_k we_int wa_nil)))) (we_fn F__law_draw (hr.mono (by decide)) (wa_k (we_v 0) (wa_k we_int wa_nil))) (fun _ _=>rfl)))
      (wss_cons (ws_set (i:=3) sc__law_shares.nd rfl (Or.inr rfl) (we_comp (CScope.of (psc:=defScope s__law_shares) (N:=["_law_feed_here", "_law_many", "_law_most", "_law_parts"]) (N':=["_law_k", "_law_feed_here", "_law_most"]) (js:=[0,2]) (by decide +kernel) rfl rfl rfl) (wi_range1 rfl T.b_range (wa_k (we_v 1) wa_nil)) (fun _ _ _ _=>wts_nil) (fun _ _ _ _=>(we_op op_mulB (we_fn F__law_draw (hr.mono (by decide)) (wa_k (we_v 1) (wa_k (we_v 2) wa_nil))) (we_fn F__law_draw (hr.mono (by decide)) (wa_k (we_v 1) (wa_k we_int wa_nil)))))))
      (wss_cons (ws_set (i:=3) sc__law_shares.nd rfl (Or.inr rfl) (we_comp (CScope.of (psc:=defScope s__law_shares) (N:=["_law_feed_here", "_law_many", "_law_most", "_law_parts"]) (N':=["_law_part", "_law_most"]) (js:=[2]) (by decide +kernel) rfl rfl rfl) (wi_list (we_v 3)) (fun _ _ _ _=>wts_nil) (fun _ _ _ _=>(we_op op_mod (we_v 0) (we_op op_add (we_v 1) we_int)))))
      (wss_cons (ws_asg (we_op op_add we_int (we_fn F__law_draw (hr.mono (by decide)) (wa_k (we_v 0) (wa_k (we_v 2) wa_nil)))) (wg_sub (we_v 3) (we_fn F__law_draw (hr.mono (by decide)) (wa_k (we_v 0) (wa_k (we_v 1) wa_nil))) set_list))
      (wss_one (ws_ret (we_cT call_tuple_of (by rfl) T.b_tuple (by decide +kernel) (wa_k (we_comp (CScope.of (psc:=defScope s__law_shares) (N:=["_law_feed_here", "_law_many", "_law_most", "_law_parts"]) (N':=["_law_part", "_law_parts"]) (js:=[3]) (by decide +kernel) rfl rfl rfl) (wi_list (we_v 3)) (fun _ _ _ _=>wts_nil) (fun _ _ _ _=>(we_fn F__law_low (hr.mono (by decide)) (wa_k (we_v 0) (wa_k (we_cB (cl_sumK K rfl) (by rfl) T.b_sum (by decide +kernel) (wa_k (we_v 1) wa_nil)) wa_nil))))) wa_nil)))))))),?_⟩
    refine nwL (by show 3≤64; decide) fun q1 H1 hq1 e1 s1=>?_
    refine ⟨_,rfl,?_⟩
    refine sp_draw_i (F.same s1) (by decide) (by decide +kernel) fun x H2 x0 x1 F2 s2=>?_
    obtain ⟨v,hat,hmem,_⟩:=atI_mem (xs:=[V.int 6,V.int 6,V.int 200]) x0 x1
    refine ixL (s2.at (F.ne hq1) e1) hat ?_
    have hv:∃ M:Int,v=.int M∧0<M∧M≤200∧bits M≤9000:=by
      simp only [List.mem_cons,List.not_mem_nil,or_false] at hmem
      rcases hmem with rfl | rfl | rfl <;> exact ⟨_,rfl,by decide,by decide,by decide +kernel⟩
    obtain ⟨M,rfl,M0,M1,bM⟩:=hv
    have S2:=s1.but.trans s2
    refine ⟨_,rfl,_,rfl,by omega,by omega,?_⟩
    refine comp_fdR (FeedAt.like p L) F2 (fun _ y _=>∃ n,y=.int n∧0≤n) (fun _ _ _ _ _ h=>h) (by omega) (fun i H' Q' hi F' s' k'=>?_) (fun D ys H3 hD hD3 F3 s3 hy hr3=>?_)
    · refine ⟨_,rfl,_,rfl,?_⟩
      refine sp_draw_i F' M0 bM fun a H4 a0 a1 F4 s4=>?_
      refine ⟨_,rfl,?_⟩
      refine sp_draw_i F4 (by decide) (by decide +kernel) fun b H5 b0 b1 F5 s5=>?_
      refine ⟨_,_,rfl,rfl,IntMulOk.of_left (PySem.intBits_le_64 (by omega) (by omega)),?_⟩
      exact k' _ H5 F5 (s4.trans s5) ⟨_,rfl,Int.mul_nonneg a0 b0⟩
    · obtain ⟨ns,rfl,hn⟩:=ints_of (P:=fun _ n=>0≤n) hr3
      have npD:=F2.ne hD
      refine ⟨_,rfl,D,rfl,⟨_,SqL.of hD3⟩,?_⟩
      refine comp_mapL (fun _ y _=>∃ n,y=.int n∧0≤n∧n≤200) (fun _ _ _ _ _ h=>h) (by rw [hy]; omega) hD3 (fun i x H' Q' hx s' k'=>?_) (fun D2 ys H4 hD2 hD4 s4 hy4 hr4=>?_)
      · rw [List.getElem?_map] at hx
        obtain ⟨n,hn',rfl⟩:=(show ∃ n,ns[i]?=some n∧V.int n=x by
          cases q:ns[i]? with
          | none=>rw [q] at hx; cases hx
          | some n=>rw [q] at hx; cases hx; exact ⟨n,rfl,rfl⟩)
        refine ⟨_,rfl,_,rfl,_,_,rfl,rfl,_,_,rfl,rfl,(by show 0<M+1; omega),?_⟩
        have c0:=Int.emod_nonneg n (b:=M+1) (by omega)
        have c1:=Int.emod_lt_of_pos n (b:=M+1) (by omega)
        exact k' _ H' (Same.refl _) ⟨_,rfl,c0,by omega⟩
      · obtain ⟨ms,rfl,hm⟩:=ints_of (P:=fun _ n=>0≤n∧n≤200) hr4
        have F4:=F3.same s4
        have lms:ms.length=m:=by
          rw [List.length_map] at hy4 hy
          rw [List.length_map] at hy4
          omega
        have np2:=F3.ne hD2
        refine ⟨_,rfl,_,rfl,?_⟩
        refine sp_draw_i F4 M0 bM fun a H5 a0 a1 F5 s5=>?_
        refine ⟨_,_,rfl,rfl,?_⟩
        refine ⟨_,rfl,_,rfl,_,rfl,?_⟩
        refine sp_draw_i F5 (by omega) bm fun b H6 b0 b1 F6 s6=>?_
        have hD6:=s6.at np2 (s5.at np2 hD4)
        have hj:ixN (ms.map V.int).length b=some b.toNat:=by
          unfold ixN
          rw [if_pos b0,if_pos (by rw [List.length_map]; omega)]
        refine stG hD6 hj fun H7 e7 s7=>?_
        rw [← List.map_set] at e7
        have nL2:=F3.neL hD2
        have F7:=F6.but s7 np2 nL2
        have hb:b.toNat<ms.length:=by omega
        obtain ⟨hS,hS8,okS⟩:=parts_ok (ns:=ms.set b.toNat (1+a))
          (fun n hn=>by
            rcases List.mem_or_eq_of_mem_set hn with h | rfl
            · obtain ⟨i,hi⟩:=List.mem_iff_getElem?.mp h
              exact (hm i n hi).1
            · omega)
          (fun n hn=>by
            rcases List.mem_or_eq_of_mem_set hn with h | rfl
            · obtain ⟨i,hi⟩:=List.mem_iff_getElem?.mp h
              exact (hm i n hi).2
            · omega)
          ⟨1+a,List.mem_iff_getElem?.mpr ⟨b.toNat,by rw [List.getElem?_set_self hb]⟩,by omega⟩ (by rw [List.length_set]; omega)
        have lt:(ms.set b.toNat (1+a)).length=m:=by rw [List.length_set]; exact lms
        generalize ms.set b.toNat (1+a)=zs at *
        have SF:SameBut p H H7:=by
          refine SameBut.thru ?_ (((S2.trans s3).trans s4.but).trans (s5.trans s6)) s7
          exact SameBut.free (p:=p) (S2.trans s3) F3.there hD2
        refine ⟨_,rfl,D2,rfl,⟨_,SqL.of e7⟩,?_⟩
        refine comp_mapL (fun i y H'=>∃ n,zs[i]?=some n∧Rep H' (frD (lw n zs.sum)) y) (fun i y H1 H2 s ⟨n,h1,h2⟩=>⟨n,h1,h2.flat s (frD_flat _)⟩) (by rw [List.length_map]; omega) e7 (fun i x H' Q' hx s' k'=>?_) (fun D3 ys H8 hD3 hD8 s8 hy8 hr8=>?_)
        · rw [List.getElem?_map] at hx
          obtain ⟨n,hn',rfl⟩:=(show ∃ n,zs[i]?=some n∧V.int n=x by
            cases q:zs[i]? with
            | none=>rw [q] at hx; cases hx
            | some n=>rw [q] at hx; cases hx; exact ⟨n,rfl,rfl⟩)
          refine ⟨_,rfl,_,rfl,?_⟩
          refine rsI (SqL.of (s' _ _ e7)) ?_
          refine sp_low_i hS (Nat.lt_of_lt_of_le (show zs.sum.natAbs<2^10 by show zs.sum.natAbs<1024; omega) (Nat.pow_le_pow_right (by decide) (by decide))) ?_
          intro q9 H9 hq9 e9 s9
          exact k' _ H9 s9 ⟨n,hn',frD_of e9⟩
        · refine ⟨D3,ys,rfl,.inl ⟨SqL.of hD8,fun l hl=>?_⟩⟩
          have sl:=Same.upd (o:=.tup ys) hl
          have el:(upd H8 l (.tup ys)) l=some (.tup ys):=upd_same
          generalize upd H8 l (.tup ys)=H9 at sl el
          refine k _ (zs.map fun n=>lw n zs.sum) H9 ((F7.same s8).same sl) (SF.trans (s8.trans sl).but) (Rep.tup el ?_) (lt ▸ okS)
          refine RepL.ofIdx (by rw [hy8,List.length_map,List.length_map,List.length_map]) fun i y hi=>?_
          obtain ⟨n,h1,h2⟩:=hr8 i y hi
          exact ⟨frD (lw n zs.sum),by rw [List.getElem?_map,List.getElem?_map,h1]; rfl,h2.same sl⟩
theorem nat_of {x:Int} (h:0≤x):∃ t:Nat,x=(t:Int):=⟨x.toNat,by omega⟩
set_option maxHeartbeats 4000000 in
theorem ok__law_trial {f:Addr} {fd:FuncData} (F:Fun K "_law_trial" "_law_trial" s__law_trial f fd) (T:Txt K mg c)
    (F__law_draw:FnC CX0 P w K mg base 1 "_law_draw" ["_law_feed_here", "_law_many"] sp_draw) (F__law_shares:FnC CX0 P w K mg base 2 "_law_shares" ["_law_feed_here", "_law_many"] sp_shares):FnOk P w K mg base CX0 3 f fd ["_law_feed_here"] sp_trial:=by
  refine F.okw sc__law_trial (fun vs H Q E h=>?_) (fun cdv A outer s H vs Q E hr h=>?_)
  · unfold sp_trial at h
    obtain ⟨p,L,rfl,_⟩:=h
    rfl
  · unfold sp_trial at h
    obtain ⟨p,L,rfl,F,k⟩:=h
    refine ⟨_,(wss_cons (ws_set (i:=1) sc__law_trial.nd rfl (Or.inl rfl) (we_lst (wa_k we_str (wa_k we_str (wa_k we_str (wa_k we_str (wa_k we_str (wa_k we_str (wa_k we_str (wa_k we_str (wa_k we_str (wa_k we_str (wa_k we_str (wa_k we_str wa_nil))))))))))))))
      (wss_cons (ws_set (i:=2) sc__law_trial.nd rfl (Or.inl rfl) (we_fn F__law_draw (hr.mono (by decide)) (wa_k (we_v 0) (wa_k we_int wa_nil))))
      (wss_cons (ws_set (i:=1) sc__law_trial.nd rfl (Or.inl rfl) (we_op op_cat (we_slice (sl_listN K) (we_v 1) (wo_some (we_v 2)) wo_none) (we_slice (sl_listN K) (we_v 1) wo_none (wo_some (we_v 2)))))
      (wss_cons (ws_set (i:=3) sc__law_trial.nd rfl (Or.inr rfl) (we_slice (sl_listN K) (we_v 1) wo_none (wo_some (we_ix ix_seq (we_lst (wa_k we_int (wa_k we_int (wa_k we_int (wa_k we_int wa_nil))))) (we_fn F__law_draw (hr.mono (by decide)) (wa_k (we_v 0) (wa_k we_int wa_nil))) (fun _ _=>rfl)))))
      (wss_cons (ws_set (i:=4) sc__law_trial.nd rfl (Or.inl rfl) (we_slice (sl_listN K) (we_slice (sl_listN K) (we_v 1) (wo_some (we_ix ix_seq (we_lst (wa_k we_int (wa_k we_int (wa_k we_int wa_nil)))) (we_fn F__law_draw (hr.mono (by decide)) (wa_k (we_v 0) (wa_k we_int wa_nil))) (fun _ _=>rfl))) wo_none) wo_none (wo_some (we_ix ix_seq (we_lst (wa_k we_int (wa_k we_int (wa_k we_int (wa_k we_int wa_nil))))) (we_fn F__law_draw (hr.mono (by decide)) (wa_k (we_v 0) (wa_k we_int wa_nil))) (fun _ _=>rfl)))))
      (wss_one (ws_ret (we_tup (wa_k (we_cT call_tuple_of (by rfl) T.b_tuple (by decide +kernel) (wa_k (we_v 3) wa_nil)) (wa_k (we_cT call_tuple_of (by rfl) T.b_tuple (by decide +kernel) (wa_k (we_comp (CScope.of (psc:=defScope s__law_trial) (N:=["_law_feed_here", "_law_pool", "_law_turn", "_law_faces_here", "_law_ways"]) (N':=["_law_name", "_law_feed_here", "_law_faces_here"]) (js:=[0,3]) (by decide +kernel) rfl rfl rfl) (wi_list (we_v 4)) (fun _ _ _ _=>wts_nil) (fun _ _ _ _=>(we_tup (wa_k (we_v 0) (wa_k (we_fn F__law_shares (hr.mono (by decide)) (wa_k (we_v 1) (wa_k (we_cB (cl_lenK K) (by rfl) T.b_len (by decide +kernel) (wa_k (we_v 2) wa_nil)) wa_nil))) wa_nil))))) wa_nil)) wa_nil)))))))))),?_⟩
    refine nwL (by show 12≤64; decide) fun q1 H1 hq1 e1 s1=>?_
    have e1':H1 q1=some (.lst (pool.map V.str)):=e1
    refine ⟨_,rfl,?_⟩
    refine sp_draw_i (F.same s1) (by decide) (by decide +kernel) fun x H2 x0 x1 F2 s2=>?_
    obtain ⟨t,rfl⟩:=nat_of x0
    have e2:=s2.at (F.ne hq1) e1'
    have S2:SameBut p H H2:=s1.but.trans s2
    refine ⟨_,rfl,_,rfl,_,rfl,?_⟩
    refine slL e2 (ys:=(pool.drop t).map V.str) (by rw [cutV_lo,List.map_drop]) fun q3 H3 hq3 e3 s3=>?_
    refine ⟨_,rfl,_,rfl,_,rfl,?_⟩
    refine slL (s3 _ _ e2) (ys:=(pool.take t).map V.str) (by rw [cutV_hi,List.map_take]) fun q4 H4 hq4 e4 s4=>?_
    have hp12:pool.length=12:=rfl
    refine catL (s4 _ _ e3) e4 (by rw [List.length_map,List.length_map,List.length_drop,List.length_take]; omega) fun q5 H5 hq5 e5 s5=>?_
    have e5':H5 q5=some (.lst ((rot t).map V.str)):=by rw [e5]; unfold rot; rw [List.map_append]
    have ht:t<12:=by omega
    have S5:SameBut p H H5:=S2.trans ((s3.trans s4).trans s5).but
    have F5:=((F2.same s3).same s4).same s5
    have n5:q5≠p:=((F2.same s3).same s4).ne hq5
    clear e1 e1' e2 e3 e4 e5 s3 s4 s5 hq3 hq4 hq1 s1 s2
    refine ⟨_,rfl,?_⟩
    refine nwL (by show 4≤64; decide) fun q6 H6 hq6 e6 s6=>?_
    refine ⟨_,rfl,?_⟩
    refine sp_draw_i (F5.same s6) (by decide) (by decide +kernel) fun y H7 y0 y1 F7 s7=>?_
    obtain ⟨v,hat,hmem,_⟩:=atI_mem (xs:=[V.int 2,V.int 2,V.int 3,V.int 4]) y0 y1
    refine ixL (s7.at (F5.ne hq6) e6) hat ?_
    have hv:∃ n:Nat,v=.int (n:Int)∧(n=2∨n=3∨n=4):=by
      simp only [List.mem_cons,List.not_mem_nil,or_false] at hmem
      rcases hmem with rfl | rfl | rfl | rfl
      · exact ⟨2,rfl,by decide⟩
      · exact ⟨2,rfl,by decide⟩
      · exact ⟨3,rfl,by decide⟩
      · exact ⟨4,rfl,by decide⟩
    obtain ⟨nF,rfl,hF⟩:=hv
    have e7:=s7.at n5 (s6 _ _ e5')
    refine ⟨_,rfl,?_⟩
    refine slL e7 (ys:=((rot t).take nF).map V.str) (by rw [cutV_hi,List.map_take]) fun q8 H8 hq8 e8 s8=>?_
    have S8:SameBut p H H8:=((S5.trans s6.but).trans s7).trans s8.but
    have F8:=F7.same s8
    have n8:q8≠p:=F7.ne hq8
    have e8p:=s8 _ _ e7
    clear e6 hq6 s6 s7 hat hmem e7 e5'
    refine ⟨_,rfl,?_⟩
    refine nwL (by show 3≤64; decide) fun q9 H9 hq9 e9 s9=>?_
    refine ⟨_,rfl,?_⟩
    refine sp_draw_i (F8.same s9) (by decide) (by decide +kernel) fun z H10 z0 z1 F10 s10=>?_
    obtain ⟨v,hat,hmem,_⟩:=atI_mem (xs:=[V.int 0,V.int 2,V.int 5]) z0 z1
    refine ixL (s10.at (F8.ne hq9) e9) hat ?_
    have hv:∃ n:Nat,v=.int (n:Int)∧(n=0∨n=2∨n=5):=by
      simp only [List.mem_cons,List.not_mem_nil,or_false] at hmem
      rcases hmem with rfl | rfl | rfl
      · exact ⟨0,rfl,by decide⟩
      · exact ⟨2,rfl,by decide⟩
      · exact ⟨5,rfl,by decide⟩
    obtain ⟨o,rfl,ho⟩:=hv
    refine ⟨_,rfl,?_⟩
    refine slL (s10.at n5 (s9 _ _ e8p)) (ys:=((rot t).drop o).map V.str) (by rw [cutV_lo,List.map_drop]) fun q11 H11 hq11 e11 s11=>?_
    have F11:=F10.same s11
    have n11:q11≠p:=F10.ne hq11
    have e11f:=s11 _ _ (s10.at n8 (s9 _ _ e8))
    have S11:SameBut p H H11:=((S8.trans s9.but).trans s10).trans s11.but
    clear e9 hq9 s9 s10 hat hmem
    refine nwL (by show 4≤64; decide) fun q12 H12 hq12 e12 s12=>?_
    refine ⟨_,rfl,?_⟩
    refine sp_draw_i (F11.same s12) (by decide) (by decide +kernel) fun y H13 y0 y1 F13 s13=>?_
    obtain ⟨v,hat,hmem,_⟩:=atI_mem (xs:=[V.int 2,V.int 2,V.int 3,V.int 4]) y0 y1
    refine ixL (s13.at (F11.ne hq12) e12) hat ?_
    have hv:∃ n:Nat,v=.int (n:Int)∧(n=2∨n=3∨n=4):=by
      simp only [List.mem_cons,List.not_mem_nil,or_false] at hmem
      rcases hmem with rfl | rfl | rfl | rfl
      · exact ⟨2,rfl,by decide⟩
      · exact ⟨2,rfl,by decide⟩
      · exact ⟨3,rfl,by decide⟩
      · exact ⟨4,rfl,by decide⟩
    obtain ⟨nW,rfl,hW⟩:=hv
    refine ⟨_,rfl,?_⟩
    refine slL (s13.at n11 (s12 _ _ e11)) (ys:=(((rot t).drop o).take nW).map V.str) (by rw [cutV_hi,List.map_take]) fun q14 H14 hq14 e14 s14=>?_
    have F14:=F13.same s14
    have n14:q14≠p:=F13.ne hq14
    have e14f:=s14 _ _ (s13.at n8 (s12 _ _ e11f))
    have S14:SameBut p H H14:=((S11.trans s12.but).trans s13).trans s14.but
    clear e12 hq12 s12 s13 hat hmem e11 e11f
    have lr:=rot_len ht
    refine ⟨_,rfl,q8,_,rfl,.inl ⟨SqL.of e14f,fun l hl=>?_⟩⟩
    have sl:=Same.upd (o:=.tup (((rot t).take nF).map V.str)) hl
    have el:(upd H14 l (.tup (((rot t).take nF).map V.str))) l=some (.tup (((rot t).take nF).map V.str)):=upd_same
    generalize upd H14 l (.tup (((rot t).take nF).map V.str))=H15 at sl el
    have F15:=F14.same sl
    refine ⟨_,rfl,q14,rfl,⟨_,SqL.of (sl _ _ e14)⟩,?_⟩
    refine comp_fdL (FeedAt.like p L) F15 (fun i y H'=>∃ w:Str × List Fr,(((rot t).drop o).take nW)[i]?=some w.1∧ShOk nF w.2∧Rep H' (wD w) y) (fun i y H1 H2 s ⟨w,h1,h2,h3⟩=>⟨w,h1,h2,h3.flat s (wD_flat _)⟩) (by rw [List.length_map,List.length_take]; omega) n14 (sl _ _ e14) (fun i x H' Q' hx F' s' k'=>?_) (fun D ys H16 hD hD16 F16 s16 hy16 hr16=>?_)
    · rw [List.getElem?_map] at hx
      obtain ⟨nm,hn',rfl⟩:=(show ∃ n,(((rot t).drop o).take nW)[i]?=some n∧V.str n=x by
        cases q:(((rot t).drop o).take nW)[i]? with
        | none=>rw [q] at hx; cases hx
        | some n=>rw [q] at hx; cases hx; exact ⟨n,rfl,rfl⟩)
      refine ⟨_,rfl,_,rfl,_,rfl,?_⟩
      refine rlL (s'.at n8 (sl _ _ e14f)) ?_
      have lf:(((rot t).take nF).map V.str).length=nF:=by rw [List.length_map,List.length_take]; omega
      rw [lf]
      refine sp_shares_i F' (by omega) (by omega) fun v fs H17 F17 s17 r17 ok17=>?_
      refine nwT (by show 2≤64; decide) fun q18 H18 hq18 e18 s18=>?_
      exact k' _ H18 (F17.same s18) (s17.trans s18.but) ⟨(nm,fs),hn',ok17,Rep.tup e18 (RepL.cons (Rep.str _) (RepL.cons (r17.same s18) RepL.nil))⟩
    · refine ⟨D,ys,rfl,.inl ⟨SqL.of hD16,fun l2 hl2=>?_⟩⟩
      have sl2:=Same.upd (o:=.tup ys) hl2
      have el2:(upd H16 l2 (.tup ys)) l2=some (.tup ys):=upd_same
      generalize upd H16 l2 (.tup ys)=H17 at sl2 el2
      have elf:H17 l=some (.tup (((rot t).take nF).map V.str)):=sl2 _ _ (s16.at (F14.ne hl) el)
      refine nwT (by show 2≤64; decide) fun q18 H18 hq18 e18 s18=>?_
      have hws:∀ (n:Nat) (ys:List V),ys.length=n→(∀ (i:Nat) y,ys[i]?=some y→∃ w:Str × List Fr,(((rot t).drop o).take nW)[i]?=some w.1∧ShOk nF w.2∧Rep H16 (wD w) y) →
          ∃ ws:List (Str × List Fr),ws.length=n∧RepL H16 (ws.map wD) ys∧(∀ (i:Nat) w,ws[i]?=some w→(((rot t).drop o).take nW)[i]?=some w.1)∧∀ w∈ws,ShOk nF w.2:=by
        generalize ((rot t).drop o).take nW=nl
        intro n
        induction n generalizing nl with
        | zero =>
          intro ys hl _
          cases ys with
          | nil=>exact ⟨[],rfl,RepL.nil,fun i w h=>by simp at h,fun w h=>by cases h⟩
          | cons _ _=>simp at hl
        | succ n ih =>
          intro ys hl h
          cases ys with
          | nil=>simp at hl
          | cons y ys =>
            obtain ⟨w,h1,h2,h3⟩:=h 0 y rfl
            obtain ⟨ws,i1,i2,i3,i4⟩:=ih nl.tail ys (by simpa using hl) fun i z hz=>by
              obtain ⟨w,h1,h2,h3⟩:=h (i+1) z (by simpa using hz)
              exact ⟨w,by rw [List.getElem?_tail]; exact h1,h2,h3⟩
            refine ⟨w::ws,by simp [i1],RepL.cons h3 i2,fun i v hv=>?_,fun v hv=>?_⟩
            · cases i with
              | zero=>cases (show w=v by simpa using hv); exact h1
              | succ i =>
                have:=i3 i v (by simpa using hv)
                rw [List.getElem?_tail] at this
                exact this
            · rcases List.mem_cons.mp hv with rfl | hv
              · exact h2
              · exact i4 v hv
      obtain ⟨ws,w1,w2,w3,w4⟩:=hws _ ys rfl hr16
      have lnl:(((rot t).drop o).take nW).length=nW:=by
        rw [List.length_take,List.length_drop,lr]
        omega
      have lws:ws.length=nW:=by rw [w1,hy16,List.length_map,lnl]
      refine k _ t o nF nW ((rot t).take nF) ws H18 ((F16.same sl2).same s18) ?_ ?_ ⟨ht,ho,hF,hW,rfl,?_,w4⟩
      · exact (S14.trans sl.but).trans (s16.trans (sl2.trans s18).but)
      · exact Rep.tup e18 (RepL.cons (Rep.tup (s18 _ _ elf) (RepL_strs _)) (RepL.cons (Rep.tup (s18 _ _ el2) (w2.same (sl2.trans s18))) RepL.nil))
      · apply List.ext_getElem?
        intro i
        rw [List.getElem?_map]
        cases q:ws[i]? with
        | none =>
          have:nW≤i:=by rw [← lws]; exact List.getElem?_eq_none_iff.mp q
          rw [List.getElem?_eq_none (by omega)]; rfl
        | some w=>rw [w3 i w q]; rfl
end
end Kw
set_option Elab.async false
set_option linter.all false
set_option maxRecDepth 100000
namespace Kw
open PySem L2 Mf Mt
def optV:Option Int→V
  | none=>.non
  | some n=>.int n
def optD:Option Int→PyData
  | none=>.none
  | some n=>.int n
theorem optR {H:Hp}:∀ o:Option Int,Rep H (optD o) (optV o)
  | none=>Rep.non
  | some n=>Rep.int n
@[irreducible] def sp_whole:Sp:=fun vs H Q _=>∃ o,vs=[optV o]∧Q (.bl o.isSome) H
theorem sp_whole_i {o:Option Int} {H:Hp} {Q:VK} {E:XK} (q:Q (.bl o.isSome) H):sp_whole [optV o] H Q E:=by unfold sp_whole; exact ⟨o,rfl,q⟩
@[irreducible] def sp_aref:Sp:=fun vs H Q _=>∃ t,vs=[.str t]∧t.length≤20000∧∀ H',Same H H'→Q (.bl (decide (1≤t.length)&&decide (t.length≤4000)&&figs t)) H'
theorem sp_aref_i {t:Str} {H:Hp} {Q:VK} {E:XK} (z:t.length≤20000) (q:∀ H',Same H H'→Q (.bl (decide (1≤t.length)&&decide (t.length≤4000)&&figs t)) H'):sp_aref [.str t] H Q E:=by unfold sp_aref; exact ⟨t,rfl,z,q⟩
@[irreducible] def sp_readw:Sp:=fun vs H Q _=>∃ t,vs=[.str t]∧t.length≤20000∧∀ H',Same H H'→Q (optV (rd t)) H'
theorem sp_readw_i {t:Str} {H:Hp} {Q:VK} {E:XK} (z:t.length≤20000) (q:∀ H',Same H H'→Q (optV (rd t)) H'):sp_readw [.str t] H Q E:=by unfold sp_readw; exact ⟨t,rfl,z,q⟩
theorem line20 {n:Nat} (h:n≤20000):n≤sizeLine:=Nat.le_trans h (by decide)
theorem iteNE {a b:Str} {A B:Prop} (h:a≠b) (x:A):if (!decide (V.str a=V.str b))=true then A else B:=by
  rw [decide_eq_false (fun z=>h (by injection z))]
  exact x
theorem rlS {K:PySem.W.Frag} {H:Hp} {Q:VK} {t:Str} (z:t.length≤sizeLine) (q:Q (.int t.length) H):rLen K [V.str t] H Q:=by
  unfold rLen
  refine ⟨_,_,rfl,?_,q⟩
  first | exact ⟨z,rfl⟩ | exact ⟨rfl,z⟩ | exact z | exact .inl ⟨z,rfl⟩ | exact rfl
section
variable {P:Program} {w:World} {K:PySem.W.Frag} {mg:Str→Option Value} {base:Heap} {c:Cl}
theorem ok_is_whole {f:Addr} {fd:FuncData} (F:Fun K "is_whole" "is_whole" s_is_whole f fd) (T:Txt K mg c):FnOk P w K mg base CX0 1 f fd ["thing"] sp_whole:=by
  refine F.okw sc_is_whole (fun vs H Q E h=>?_) (fun cdv A outer s H vs Q E hr h=>?_)
  · unfold sp_whole at h
    obtain ⟨o,rfl,_⟩:=h
    rfl
  · unfold sp_whole at h
    obtain ⟨o,rfl,q⟩:=h
    refine ⟨_,(wss_one (ws_ret (we_and (we_cB cl_isi (by rfl) T.b_isinstance (by decide +kernel) (wa_k (we_v 0) (wa_k (we_bltn (v:=.ty "int") (u:=.type "int") rfl T.b_int (by decide +kernel) rfl) wa_nil))) (we_one (we_not (we_cB cl_isi (by rfl) T.b_isinstance (by decide +kernel) (wa_k (we_v 0) (wa_k (we_bltn (v:=.ty "bool") (u:=.type "bool") rfl T.b_bool (by decide +kernel) rfl) wa_nil)))))))),?_⟩
    cases o with
    | none =>
      refine ⟨_,rfl,?_⟩
      refine riI Rep.non ?_
      refine ⟨_,rfl,?_⟩
      refine iteF ?_
      exact q
    | some n =>
      refine ⟨_,rfl,?_⟩
      refine riI (Rep.int n) ?_
      refine ⟨_,rfl,?_⟩
      refine iteT ?_
      refine ⟨_,rfl,?_⟩
      refine riI (Rep.int n) ?_
      refine ⟨_,rfl,?_⟩
      exact q
theorem ok_are_figures {f:Addr} {fd:FuncData} (F:Fun K "are_figures" "are_figures" s_are_figures f fd) (T:Txt K mg c):FnOk P w K mg base CX0 1 f fd ["text"] sp_aref:=by
  refine F.okw sc_are_figures (fun vs H Q E h=>?_) (fun cdv A outer s H vs Q E hr h=>?_)
  · unfold sp_aref at h
    obtain ⟨t,rfl,_⟩:=h
    rfl
  · unfold sp_aref at h
    obtain ⟨t,rfl,z,q⟩:=h
    refine ⟨_,(wss_one (ws_ret (we_and (we_chain op_le op_le we_int (we_cB cl_len (by rfl) T.b_len (by decide +kernel) (wa_k (we_v 0) wa_nil)) (we_glob (v:=.int 4000) rfl T.g_MOST_FIGURES ⟨_,rfl⟩)) (we_one (we_cB (cl_all rfl) (by rfl) T.b_all (by decide +kernel) (wa_k (we_comp (CScope.of (psc:=defScope s_are_figures) (N:=["text"]) (N':=["sign"]) (js:=[]) (by decide +kernel) rfl rfl rfl) (wi_str (we_v 0)) (fun _ _ _ _=>wts_nil) (fun _ _ _ _=>(we_cmp op_in_str (we_v 0) (we_glob (v:=.str (Str.ofString "0123456789")) rfl T.g_FIGURES ⟨_,rfl⟩) (by with_unfolding_all rfl)))) wa_nil)))))),?_⟩
    refine ⟨_,rfl,?_⟩
    refine rlS (line20 z) ?_
    refine ⟨_,_,rfl,rfl,_,rfl,?_⟩
    refine iteD (fun h1=>?_) (fun h1=>?_)
    · refine ⟨_,_,rfl,rfl,_,rfl,?_⟩
      refine iteD (fun h2=>?_) (fun h2=>?_)
      · refine ⟨_,rfl,_,rfl,?_⟩
        refine comp_str (x:=t) (fun _=>true) (fun x=>V.bl (dig x)) (by omega) (fun x H' Q' _ q=>q) (fun x H' Q' _ q=>?_) fun D H1 hD e s1=>?_
        · refine ⟨_,rfl,_,_,rfl,rfl,?_⟩
          rw [in_figs]
          exact q
        · have e:H1 D=some (.lst ((t.cps.toList.map dig).map V.bl)):=by
            rw [e,List.filter_eq_self.mpr (fun _ _=>rfl),List.map_map]
            rfl
          refine rall e ?_
          have q1:=q H1 s1
          rw [decide_eq_true (show 1≤t.length by omega),decide_eq_true (show t.length≤4000 by omega)] at q1
          have e2:(t.cps.toList.map dig).all id=figs t:=by unfold figs; rw [List.all_map]; rfl
          rw [e2]
          exact q1
      · have q1:=q H (Same.refl _)
        rw [decide_eq_false (show ¬ t.length≤4000 by omega),Bool.and_false,Bool.false_and] at q1
        exact q1
    · have q1:=q H (Same.refl _)
      rw [decide_eq_false (show ¬ 1≤t.length by omega),Bool.false_and,Bool.false_and] at q1
      refine ⟨_,rfl,?_⟩
      refine iteF ?_
      exact q1
theorem ok_read_whole {f:Addr} {fd:FuncData} (F:Fun K "read_whole" "read_whole" s_read_whole f fd) (T:Txt K mg c) (F_are_figures:FnC CX0 P w K mg base 1 "are_figures" ["text"] sp_aref):FnOk P w K mg base CX0 2 f fd ["text"] sp_readw:=by
  refine F.okw sc_read_whole (fun vs H Q E h=>?_) (fun cdv A outer s H vs Q E hr h=>?_)
  · unfold sp_readw at h
    obtain ⟨t,rfl,_⟩:=h
    rfl
  · unfold sp_readw at h
    obtain ⟨t,rfl,z,q⟩:=h
    refine ⟨_,(wss_cons (ws_cut (ws_set (i:=1) sc_read_whole.nd rfl (Or.inl rfl) (we_ifExp (wt_val (we_bm PySem.F.plainAttrs_str PySem.F.slot_str_startswith PySem.F.type_str_startswith mt_starts (we_v 0) (wa_k we_str wa_nil))) (we_slice sl_str (we_v 0) (wo_some we_int) wo_none) (we_v 0))))
      (wss_cons (ws_if (wt_not (wt_val (we_fn F_are_figures (hr.mono (by decide)) (wa_k (we_v 1) wa_nil)))) (wss_one (ws_ret we_non)) wss_nil)
      (wss_cons (ws_if (wt_w (ww_and (wt_val (we_bm PySem.F.plainAttrs_str PySem.F.slot_str_startswith PySem.F.type_str_startswith mt_starts (we_v 1) (wa_k we_str wa_nil))) (ww_and1 (wt_cmp op_ne (we_v 0) we_str (nomark _))))) (wss_one (ws_ret we_non)) wss_nil)
      (wss_one (ws_ret (we_cT (cl_intT T.nd) (by rfl) T.b_int (by decide +kernel) (wa_k (we_v 0) wa_nil))))))),?_⟩
    have zf:=fg_len t
    have es:Txt.startswith t (Str.ofString "-")=neg t:=starts_one t 45
    have e0:Txt.startswith (fg t) (Str.ofString "0")=decide ((fg t).cps.toList.head?=some 48):=starts_one (fg t) 48
    refine ⟨fun σ H'=>σ=[some (.str t),some (.str (fg t))]∧H'=H,?_,?_⟩
    · rintro σ H1 ⟨rfl,rfl⟩
      refine ⟨_,rfl,?_⟩
      refine sp_aref_i (by omega) fun H2 s2=>?_
      refine ⟨_,rfl,?_⟩
      have q2:=q H2 s2
      by_cases h1:(decide (1≤(fg t).length)&&decide ((fg t).length≤4000)&&figs (fg t))=true
      · rw [h1]
        refine iteF ?_
        refine ⟨_,rfl,rfl,?_⟩
        refine rstarts ?_
        rw [e0]
        refine ⟨_,rfl,?_⟩
        have hd:rdB t=!(decide ((fg t).cps.toList.head?=some 48) && !decide (t=zero)):=by
          unfold rdB; rw [h1,Bool.true_and]
        have go:rdB t=true→tRet (tCB rIntT (tCons (tVar 0) tNil)) { nx:=fun x H'=>Q V.non H',rt:=Q } [some (.str t),some (.str (fg t))] H2:=by
          intro hb
          refine ⟨_,rfl,?_⟩
          have h2:figs (fg t)=true:=by
            simp only [Bool.and_eq_true] at h1
            exact h1.2
          have h3:1≤(fg t).length:=by
            simp only [Bool.and_eq_true] at h1
            exact of_decide_eq_true h1.1.1
          have h4:(fg t).length≤4000:=by
            simp only [Bool.and_eq_true] at h1
            exact of_decide_eq_true h1.1.2
          have hne:(fg t).cps.toList≠[]:=fun e=>by
            rw [← len_toList,e] at h3
            exact absurd h3 (by decide)
          unfold rd at q2
          rw [if_pos hb] at q2
          by_cases hn:neg t=true
          · have ec:t.cps.toList=45::(fg t).cps.toList:=by
              have hh:t.cps.toList.head?=some 45:=of_decide_eq_true hn
              unfold fg
              rw [if_pos hn]
              cases q3:t.cps.toList with
              | nil=>rw [q3] at hh; cases hh
              | cons x r=>rw [q3] at hh; cases hh; rfl
            have hl:t.length=(fg t).length+1:=by rw [← len_toList,ec,List.length_cons,len_toList]
            refine rintT (n:=rdV t) ?_ ?_ (line20 z) q2
            · intro x hx
              rw [ec] at hx
              rcases List.mem_cons.mp hx with rfl | hx
              · exact .inl rfl
              · exact .inr (figs_all h2 x hx)
            · unfold rdV
              rw [if_pos hn]
              exact PySem.intText_neg ec (figs_all h2) hne (by omega)
          · have ef:fg t=t:=by unfold fg; rw [if_neg hn]
            rw [ef] at h2 hne h4
            refine rintT (n:=rdV t) ?_ ?_ (line20 z) q2
            · exact fun x hx=>.inr (figs_all h2 x hx)
            · unfold rdV
              rw [if_neg hn,ef]
              exact PySem.intText_digits (figs_all h2) hne (by omega)
        by_cases c1:(fg t).cps.toList.head?=some 48
        · rw [decide_eq_true c1] at hd ⊢
          refine iteT ?_
          refine ⟨_,rfl,rfl,_,rfl,?_⟩
          by_cases c2:t=zero
          · rw [decide_eq_true c2] at hd
            refine iteNS (by rw [c2]; rfl) ?_
            exact go (by rw [hd]; rfl)
          · rw [decide_eq_false c2] at hd
            refine iteNE (fun z=>c2 z) ?_
            unfold rd at q2
            rw [hd] at q2
            exact q2
        · rw [decide_eq_false c1] at hd ⊢
          refine iteF ?_
          exact go (by rw [hd]; rfl)
      · have h1:(decide (1≤(fg t).length)&&decide ((fg t).length≤4000)&&figs (fg t))=false:=by simpa using h1
        rw [h1]
        refine iteT ?_
        have:rdB t=false:=by unfold rdB; rw [h1,Bool.false_and]
        unfold rd at q2
        rw [this] at q2
        exact q2
    · refine ⟨_,rfl,rfl,?_⟩
      refine rstarts ?_
      rw [es]
      refine ⟨_,rfl,?_⟩
      by_cases hn:neg t=true
      · rw [hn]
        refine iteT ?_
        have hh:t.cps.toList.head?=some 45:=of_decide_eq_true hn
        have h1:1≤t.length:=by
          rw [← len_toList]
          cases q3:t.cps.toList with
          | nil=>rw [q3] at hh; cases hh
          | cons x r=>simp
        have ef:Txt.slice t (some 1) none=fg t:=str_ext (by
          rw [slice_from (by decide) (by omega)]
          unfold fg
          rw [if_pos hn]
          rfl)
        refine ⟨_,rfl,_,rfl,t,rfl,line20 z,?_⟩
        rw [ef]
        exact ⟨rfl,rfl⟩
      · have ef:fg t=t:=by unfold fg; rw [if_neg hn]
        have hn:neg t=false:=by simpa using hn
        rw [hn]
        refine iteF ?_
        exact ⟨_,rfl,by rw [ef]; rfl,rfl⟩
end
end Kw
set_option Elab.async false
set_option linter.all false
set_option maxRecDepth 100000
namespace Kw
open PySem L2 Mf Mt
def isf:List (Option Int)→Bool
  | [some n,some d]=>decide (1≤d)&&decide (Int.gcd n d=1)
  | _=>false
theorem isf_len {os:List (Option Int)} (h:os.length≠2):isf os=false:=by
  match os,h with
  | [],_=>rfl
  | [a],_=>cases a <;> rfl
  | [a,b],h=>exact absurd rfl h
  | a::b::c::r,_=>cases a <;> cases b <;> rfl
theorem app_len (a b:Str):(a++b).length=a.length+b.length:=by
  rw [← len_toList,← len_toList,← len_toList,app_cps,List.length_append]
@[irreducible] def sp_isf:Sp:=fun vs H Q _=>∃ (a:Addr) (os:List (Option Int)),vs=[.ref a]∧H a=some (.tup (os.map optV))∧os.length≤20000∧Q (.bl (isf os)) H
theorem sp_isf_i {a:Addr} {os:List (Option Int)} {H:Hp} {Q:VK} {E:XK} (e:H a=some (.tup (os.map optV))) (z:os.length≤20000) (q:Q (.bl (isf os)) H):sp_isf [.ref a] H Q E:=by unfold sp_isf; exact ⟨a,os,rfl,e,z,q⟩
section
variable {P:Program} {w:World} {K:PySem.W.Frag} {mg:Str→Option Value} {base:Heap} {c:Cl}
theorem ok_is_fraction {f:Addr} {fd:FuncData} (F:Fun K "is_fraction" "is_fraction" s_is_fraction f fd) (T:Txt K mg c) (F_is_whole:FnC CX0 P w K mg base 1 "is_whole" ["thing"] sp_whole) (F_common_divisor:FnC CX0 P w K mg base 1 "common_divisor" ["number", "above_nought"] sp_cd):FnOk P w K mg base CX0 2 f fd ["thing"] sp_isf:=by
  refine F.okw sc_is_fraction (fun vs H Q E h=>?_) (fun cdv A outer s H vs Q E hr h=>?_)
  · unfold sp_isf at h
    obtain ⟨t,_,rfl,_⟩:=h
    rfl
  · unfold sp_isf at h
    obtain ⟨a,os,rfl,e,z,q⟩:=h
    have rp:Rep H (.tuple (os.map optD)) (.ref a):=Rep.tup e (by
      clear e q z
      induction os with
      | nil=>exact RepL.nil
      | cons o r ih=>exact RepL.cons (optR o) ih)
    refine ⟨_,(wss_cons (ws_if (wt_w (ww_or (wt_not (wt_val (we_cB cl_isi (by rfl) T.b_isinstance (by decide +kernel) (wa_k (we_v 0) (wa_k (we_bltn (v:=.ty "tuple") (u:=.type "tuple") rfl T.b_tuple (by decide +kernel) rfl) wa_nil))))) (ww_or1 (wt_cmp op_ne (we_cB cl_len (by rfl) T.b_len (by decide +kernel) (wa_k (we_v 0) wa_nil)) we_int (nomark _))))) (wss_one (ws_ret we_bl)) wss_nil)
      (wss_cons (ws_if (wt_w (ww_or (wt_not (wt_val (we_fn F_is_whole (hr.mono (by decide)) (wa_k (we_ix ix_seq (we_v 0) we_int (fun _ _=>rfl)) wa_nil)))) (ww_or1 (wt_not (wt_val (we_fn F_is_whole (hr.mono (by decide)) (wa_k (we_ix ix_seq (we_v 0) we_int (fun _ _=>rfl)) wa_nil))))))) (wss_one (ws_ret we_bl)) wss_nil)
      (wss_one (ws_ret (we_and (we_cmp op_ge (we_ix ix_seq (we_v 0) we_int (fun _ _=>rfl)) we_int (nomark _)) (we_one (we_cmp op_eq (we_fn F_common_divisor (hr.mono (by decide)) (wa_k (we_ix ix_seq (we_v 0) we_int (fun _ _=>rfl)) (wa_k (we_ix ix_seq (we_v 0) we_int (fun _ _=>rfl)) wa_nil))) we_int (nomark _)))))))),?_⟩
    refine ⟨_,rfl,?_⟩
    refine riI rp ?_
    refine ⟨_,rfl,?_⟩
    refine iteF ?_
    refine ⟨_,rfl,?_⟩
    refine rlT e ?_
    refine ⟨rfl,_,rfl,?_⟩
    by_cases hl:os.length=2
    · match os,hl with
      | [o1,o2],_ =>
      refine iteF ?_
      refine ⟨_,rfl,?_⟩
      refine ixT e rfl ?_
      refine sp_whole_i ?_
      refine ⟨_,rfl,?_⟩
      cases o1 with
      | none =>
        refine iteT ?_
        refine iteT ?_
        exact q
      | some n =>
        refine iteF ?_
        refine ⟨_,rfl,?_⟩
        refine ixT e rfl ?_
        refine sp_whole_i ?_
        refine ⟨_,rfl,?_⟩
        cases o2 with
        | none =>
          refine iteT ?_
          exact q
        | some d =>
          refine iteF ?_
          refine ⟨_,rfl,?_⟩
          refine ixT e rfl ?_
          refine ⟨_,_,rfl,rfl,_,rfl,?_⟩
          have eq:isf [some n,some d]=(decide (1≤d)&&decide (Int.gcd n d=1)):=rfl
          rw [eq] at q
          refine iteD (fun h1=>?_) (fun h1=>?_)
          · rw [decide_eq_true h1,Bool.true_and] at q
            refine ⟨_,rfl,?_⟩
            refine ixT e rfl ?_
            refine ⟨_,rfl,?_⟩
            refine ixT e rfl ?_
            refine sp_cd_i (by omega) ?_
            refine ⟨rfl,?_⟩
            have:decide (V.int (Int.gcd n d:Int)=V.int 1)=decide (Int.gcd n d=1):=decide_eq_decide.mpr ⟨fun z=>by injection z with z; omega,fun z=>by rw [z]; rfl⟩
            rw [this]
            exact q
          · rw [decide_eq_false h1,Bool.false_and] at q
            exact q
    · rw [decide_eq_false (fun z=>hl (by injection z with z; rw [List.length_map] at z; omega))]
      refine iteT ?_
      rw [isf_len hl] at q
      exact q
end
end Kw
set_option Elab.async false
set_option linter.all false
set_option maxRecDepth 100000
namespace Kw
open PySem L2 Mf Mt
def rdF:List (Option Int)→Option Fr
  | [some n]=>some (n,1)
  | [some n,some d]=>if (!decide (d=1)&&isf [some n,some d])=true then some (n,d) else none
  | _=>none
def words (t:Str):List Str:=Txt.split t sl
def rdT (t:Str):Option Fr:=rdF ((words t).map rd)
@[irreducible] def sp_readf (C:Addr):Sp:=fun vs H Q E=>∃ t,vs=[.str t]∧t.length≤10000∧(rdT t=none→∀ H',Same H H'→E (.ref C) none H')∧(∀ g,rdT t=some g→∀ a H',H' a=some (.tup [.int g.1,.int g.2])→Same H H'→Q (.ref a) H')
theorem sp_readf_i {C:Addr} {t:Str} {H:Hp} {Q:VK} {E:XK} (z:t.length≤10000) (e:rdT t=none→∀ H',Same H H'→E (.ref C) none H') (q:∀ g,rdT t=some g→∀ a H',H' a=some (.tup [.int g.1,.int g.2])→Same H H'→Q (.ref a) H'):sp_readf C [.str t] H Q E:=by
  unfold sp_readf; exact ⟨t,rfl,z,e,q⟩
theorem words_len (t:Str):(words t).length≤t.length+2:=PyProof.Rows.split_le t sl
theorem opts_of {ws:List Str} {ys:List V} (hl:ys.length=ws.length) (h:∀ (i:Nat) (y:V),ys[i]?=some y→∃ u,ws[i]?=some u∧y=optV (rd u)):ys=(ws.map rd).map optV:=by
  refine List.ext_getElem? fun i=>?_
  rw [List.getElem?_map,List.getElem?_map]
  cases q:ys[i]? with
  | none =>
    have:ws[i]?=none:=by
      rw [List.getElem?_eq_none_iff] at q ⊢
      omega
    rw [this]; rfl
  | some y =>
    obtain ⟨u,h1,h2⟩:=h i y q
    rw [h1,h2]; rfl
section
variable {P:Program} {w:World} {K:PySem.W.Frag} {mg:Str→Option Value} {base:Heap} {c:Cl}
set_option maxHeartbeats 4000000 in
theorem ok_read_fraction {f:Addr} {fd:FuncData} (F:Fun K "read_fraction" "read_fraction" s_read_fraction f fd) (T:Txt K mg c) (F_read_whole:FnC CX0 P w K mg base 2 "read_whole" ["text"] sp_readw) (F_is_fraction:FnC CX0 P w K mg base 2 "is_fraction" ["thing"] sp_isf) :
    FnOk P w K mg base (CX1 P w) 3 f fd ["text"] (sp_readf c.NoFraction):=by
  refine F.okx sc_read_fraction (fun vs H Q E h=>?_) (fun cdv A outer s H vs Q E hr h hx hmd=>?_)
  · unfold sp_readf at h
    obtain ⟨n,rfl,_⟩:=h
    rfl
  · unfold sp_readf at h
    obtain ⟨t,rfl,z,he,q⟩:=h
    have hw:=words_len t
    have hbl:∀ u∈words t,u.length≤20000:=fun u hu=>Nat.le_trans (part_len hu) (by omega)
    refine ⟨_,(wss_cons (ws_setComp (i:=1) (CScope.of (psc:=defScope s_read_fraction) (N:=["text", "numbers", "read"]) (N':=["part"]) (js:=[]) (by decide +kernel) rfl rfl rfl) sc_read_fraction.nd rfl rfl (wi_list (we_bm PySem.F.plainAttrs_str PySem.F.slot_str_split PySem.F.type_str_split mt_split (we_v 0) (wa_k we_str wa_nil))) (fun _ _ _ _=>wts_nil) (fun _ _ _ _=>(we_fn F_read_whole (hr.mono (by decide)) (wa_k (we_v 0) wa_nil))))
      (wss_cons (ws_cut (ws_if (wt_cmp op_eq (we_cB cl_len (by rfl) T.b_len (by decide +kernel) (wa_k (we_v 1) wa_nil)) we_int (nomark _)) (wss_one (ws_expr (we_bm PySem.F.plainAttrs_list PySem.F.slot_list_append PySem.F.type_list_append mt_app (we_v 1) (wa_k we_int wa_nil)))) (wss_one (ws_if (wt_cmp op_eq (we_ix ix_seq (we_v 1) we_int (fun _ _=>rfl)) we_int (nomark _)) (wss_one (ws_raise T.x_NoFraction T.g_NoFraction rfl hmd (wa_k we_str wa_nil))) wss_nil))))
      (wss_cons (ws_set (i:=2) sc_read_fraction.nd rfl (Or.inl rfl) (we_cT call_tuple_of (by rfl) T.b_tuple (by decide +kernel) (wa_k (we_v 1) wa_nil)))
      (wss_cons (ws_if (wt_not (wt_val (we_fn F_is_fraction (hr.mono (by decide)) (wa_k (we_v 2) wa_nil)))) (wss_one (ws_raise T.x_NoFraction T.g_NoFraction rfl hmd (wa_k we_str wa_nil))) wss_nil)
      (wss_one (ws_ret (we_v 2))))))),?_⟩
    refine ⟨_,rfl,rfl,?_⟩
    refine rsplit (by decide) (line20 (by omega)) (line20 (show (words t).length≤20000 by omega)) fun p1 H1 hp1 e1 s1=>?_
    have e1:H1 p1=some (.lst ((words t).map V.str)):=e1
    refine ⟨p1,rfl,⟨_,SqL.of e1⟩,?_⟩
    refine comp_map (xs:=(words t).map V.str) (fun i y=>∃ u,(words t)[i]?=some u∧y=optV (rd u)) (by rw [List.length_map]; omega) (SqL.of e1) ?_ ?_
    · intro i x H' Q' hx s' k
      rw [List.getElem?_map] at hx
      cases q3:(words t)[i]? with
      | none=>rw [q3] at hx; cases hx
      | some u =>
        rw [q3] at hx
        cases hx
        refine ⟨_,rfl,?_⟩
        exact sp_readw_i (hbl u (List.mem_of_getElem? q3)) fun H5 s5=>k _ H5 s5 ⟨u,q3,rfl⟩
    · intro D ys H2 hD e2 s2 hl hy
      have ey:=opts_of (by rw [hl,List.length_map]) hy
      subst ey
      have S2:=s1.trans s2
      generalize ho:(words t).map rd=os at e2
      have hos:rdT t=rdF os:=by unfold rdT; rw [ho]
      have hlo:os.length=(words t).length:=by rw [← ho,List.length_map]
      have hne:os≠[]:=fun e=>by
        rw [e] at hlo
        exact split_ne t (List.length_eq_zero_iff.mp hlo.symm)
      refine ⟨fun σ H'=>∃ os2:List (Option Int),σ=[some (.str t),some (.ref D),none]∧H' D=some (.lst (os2.map optV))∧Same H H'∧os2.length≤10010∧(isf os2=true→∃ n d,os2=[some n,some d]∧rdT t=some (n,d))∧(isf os2=false→rdT t=none),?_,?_⟩
      · rintro σ H3 ⟨os2,rfl,e3,s3,hl3,h1,h2⟩
        refine ⟨_,rfl,D,_,rfl,.inl ⟨SqL.of e3,fun l hl=>?_⟩⟩
        have e4:=upd_same (H:=H3) (a:=l) (o:=.tup (os2.map optV))
        have s4:=Same.upd (o:=.tup (os2.map optV)) hl
        generalize upd H3 l (.tup (os2.map optV))=H4 at e4 s4 ⊢
        refine ⟨_,rfl,?_⟩
        refine sp_isf_i e4 (by omega) ?_
        refine ⟨_,rfl,?_⟩
        cases hi:isf os2 with
        | true =>
          obtain ⟨n,d,eo,er⟩:=h1 hi
          refine iteF ?_
          refine ⟨_,rfl,?_⟩
          rw [eo] at e4
          exact q _ er l H4 e4 (s3.trans s4)
        | false =>
          refine iteT ?_
          exact ⟨by decide,he (h2 hi) H4 (s3.trans s4)⟩
      · refine ⟨_,rfl,?_⟩
        refine rlL e2 ?_
        refine ⟨rfl,_,rfl,?_⟩
        rw [List.length_map]
        match os,hne with
        | [o],_ =>
          refine iteT ?_
          refine ⟨_,rfl,tyL e2,?_⟩
          refine appL e2 (by simp) fun H3 e3 s3=>?_
          refine ⟨[o,some 1],rfl,e3,s1.trans (Same.thru hD s2 s3),by simp,?_,?_⟩
          · intro hi
            cases o with
            | none=>cases hi
            | some n=>exact ⟨n,1,rfl,by rw [hos]; rfl⟩
          · intro hi
            cases o with
            | none=>rw [hos]; rfl
            | some n =>
              have:isf [some n,some 1]=true:=by
                show (decide ((1:Int)≤1)&&decide (Int.gcd n 1=1))=true
                rw [Int.gcd_one_right]
                rfl
              rw [this] at hi
              cases hi
        | o1::o2::r,_ =>
          have hn1:¬ ((o1::o2::r).length:Int)=1:=by simp; omega
          rw [decide_eq_false (fun x=>hn1 (by injection x))]
          refine iteF ?_
          refine ⟨_,rfl,?_⟩
          refine ixL e2 (v:=optV o2) (atI_nat (j:=1) rfl) ?_
          have fin:o2≠some 1→∃ os2:List (Option Int),[some (V.str t),some (V.ref D),none]=[some (.str t),some (.ref D),none]∧H2 D=some (.lst (os2.map optV))∧Same H H2∧os2.length≤10010∧(isf os2=true→∃ n d,os2=[some n,some d]∧rdT t=some (n,d))∧(isf os2=false→rdT t=none):=by
            intro h2
            refine ⟨o1::o2::r,rfl,e2,S2,by rw [hlo]; omega,?_,?_⟩
            · intro hi
              cases o1 with
              | none=>cases hi
              | some n =>
                cases o2 with
                | none=>cases hi
                | some d =>
                  cases r with
                  | cons _ _=>cases hi
                  | nil =>
                    refine ⟨n,d,rfl,?_⟩
                    rw [hos]
                    show (if (!decide (d=1)&&isf [some n,some d])=true then some (n,d) else none)=_
                    rw [hi,decide_eq_false (fun x=>h2 (by rw [x]))]
                    rfl
            · intro hi
              rw [hos]
              cases o1 with
              | none=>cases r <;> rfl
              | some n =>
                cases o2 with
                | none=>cases r <;> rfl
                | some d =>
                  cases r with
                  | cons _ _=>rfl
                  | nil =>
                    show (if (!decide (d=1)&&isf [some n,some d])=true then some (n,d) else none)=_
                    rw [hi,Bool.and_false]
                    rfl
          have bad:o2=some 1→rdT t=none:=by
            intro h2
            rw [hos,h2]
            cases o1 with
            | none=>cases r <;> rfl
            | some n =>
              cases r with
              | cons _ _=>rfl
              | nil=>rfl
          cases o2 with
          | none =>
            refine ⟨rfl,_,rfl,?_⟩
            refine iteF ?_
            exact fin (by simp)
          | some d =>
            refine ⟨rfl,_,rfl,?_⟩
            refine iteD (fun h=>?_) (fun h=>?_)
            · have hd:d=1:=by injection h
              exact ⟨by decide,he (bad (by rw [hd])) H2 S2⟩
            · exact fin (fun x=>h (by injection x with x; rw [x]; rfl))
end
end Kw
set_option Elab.async false
set_option linter.all false
set_option maxRecDepth 100000
namespace Kw
open PySem L2 Mf Mt
structure FsB (B:Nat) (fs:List Fr):Prop where
  low:∀ f∈fs,LowF f
  up:∀ f∈fs,f.1.natAbs≤2^B
  dn:∀ f∈fs,f.2≤2^B
  sz:B*fs.length+B+fs.length≤3900
theorem FsB.take {B:Nat} {fs:List Fr} (h:FsB B fs) (n:Nat):FsB B (fs.take n) :=
  ⟨fun f hf=>h.low f (List.mem_of_mem_take hf),fun f hf=>h.up f (List.mem_of_mem_take hf),fun f hf=>h.dn f (List.mem_of_mem_take hf),by
    have h1:=h.sz
    have h2:(fs.take n).length≤fs.length:=by rw [List.length_take]; omega
    have h3:=Nat.mul_le_mul_left B h2
    omega⟩
theorem FsB.tot {B:Nat} {fs:List Fr} (h:FsB B fs):Szf (B*fs.length+B+fs.length+1) (totF fs):=by
  rw [← totF_eq fs h.low]
  have hw:=whole_pos fs h.low
  obtain ⟨h1,h2⟩:=lw_le (n:=sumN fs (Mf.whole fs)) hw
  have h3:=(lw_low (n:=sumN fs (Mf.whole fs)) hw).pos
  have h4:=whole_le fs (k:=B) fun f hf=>⟨h.low f hf,h.dn f hf⟩
  have h5:=sumN_le hw (k:=B) fs fun f hf=>⟨h.low f hf,h.up f hf⟩
  have e5:(2:Int)^(B*fs.length)=((2^(B*fs.length):Nat):Int):=by rw [Int.natCast_pow]; rfl
  rw [e5] at h4
  have h6:(Mf.whole fs).natAbs≤2^(B*fs.length):=by omega
  have h7:fs.length≤2^fs.length:=Nat.le_of_lt Nat.lt_two_pow_self
  have h8:fs.length*(2^B*(Mf.whole fs).natAbs)≤2^fs.length*(2^B*2^(B*fs.length)):=Nat.mul_le_mul h7 (Nat.mul_le_mul_left _ h6)
  have e8:2^fs.length*(2^B*2^(B*fs.length))=2^(B*fs.length+B+fs.length):=by rw [← Nat.pow_add,← Nat.pow_add]; congr 1; omega
  refine ⟨Nat.lt_of_le_of_lt (Nat.le_trans h2 (Nat.le_trans h5 (Nat.le_trans h8 (Nat.le_of_eq e8)))) (Nat.pow_lt_pow_right (by decide) (by omega)),?_⟩
  have h9:2^(B*fs.length)≤2^(B*fs.length+B+fs.length):=Nat.pow_le_pow_right (by decide) (by omega)
  have h10:2^(B*fs.length+B+fs.length)<2^(B*fs.length+B+fs.length+1):=Nat.pow_lt_pow_right (by decide) (by omega)
  omega
theorem Szf.mono {k m:Nat} {f:Fr} (h:Szf k f) (hk:k≤m):Szf m f:=⟨Nat.lt_of_lt_of_le h.1 (Nat.pow_le_pow_right (by decide) hk),Nat.lt_of_lt_of_le h.2 (Nat.pow_le_pow_right (by decide) hk)⟩
theorem FsB.szf {B:Nat} {fs:List Fr} (h:FsB B fs) {f:Fr} (hf:f∈fs):Szf 4000 f:=by
  have h1:=h.up f hf
  have h2:=h.dn f hf
  have h3:=(h.low f hf).pos
  have e5:(2:Int)^B=((2^B:Nat):Int):=by rw [Int.natCast_pow]; rfl
  rw [e5] at h2
  have e:(2:Nat)^B<2^4000:=Nat.pow_lt_pow_right (by decide) (by have:=h.sz; omega)
  exact ⟨Nat.lt_of_le_of_lt h1 e,by omega⟩
@[irreducible] def sp_totalT:Sp:=fun vs H Q _=>∃ x fs,∃ B:Nat,vs=[x]∧Rep H (.tuple (fs.map frD)) x∧FsB B fs∧∀ v H',Same H H'→Rep H' (frD (totF fs)) v→Q v H'
theorem sp_totalT_i {H:Hp} {Q:VK} {E:XK} {x:V} {fs:List Fr} {B:Nat} (r:Rep H (.tuple (fs.map frD)) x) (ok:FsB B fs) (q:∀ v H',Same H H'→Rep H' (frD (totF fs)) v→Q v H'):sp_totalT [x] H Q E:=by unfold sp_totalT; exact ⟨x,fs,B,rfl,r,ok,q⟩
section
variable {P:Program} {w:World} {K:PySem.W.Frag} {mg:Str→Option Value} {base:Heap} {c:Cl}
theorem ok_total {f:Addr} {fd:FuncData} (F:Fun K "total" "total" s_total f fd) (T:Txt K mg c)
    (F_plus:FnC CX0 P w K mg base 2 "plus" ["one", "other"] (sp_plus K)):FnOk P w K mg base CX0 3 f fd ["some"] sp_totalT:=by
  refine F.okw sc_total (fun vs H Q E h=>?_) (fun cdv A outer s H vs Q E hr h=>?_)
  · unfold sp_totalT at h
    obtain ⟨x,fs,B,rfl,_⟩:=h
    rfl
  · unfold sp_totalT at h
    obtain ⟨x,fs,B,rfl,rx,ok,q⟩:=h
    obtain ⟨a,vs,rfl,ha,hv⟩:=tup_at rx
    have hlen:=reps_len hv
    refine ⟨_,(wss_cons (ws_set (i:=1) sc_total.nd rfl (Or.inl rfl) (we_tup (wa_k we_int (wa_k we_int wa_nil))))
      (wss_cons (ws_for PassesOwn.never rfl (wi_tup (we_v 0)) (wg_name (i:=2) sc_total.nd rfl (Or.inl rfl)) (wss_one (ws_set (i:=1) sc_total.nd rfl (Or.inl rfl) (we_fn F_plus (hr.mono (by decide)) (wa_k (we_v 1) (wa_k (we_v 2) wa_nil))))))
      (wss_one (ws_ret (we_v 1))))),?_⟩
    refine nwT (by show 2≤64; decide) fun p0 H0 hp0 e0 s0=>?_
    refine ⟨_,rfl,a,rfl,⟨_,SqT.of (s0 _ _ ha)⟩,?_⟩
    refine for_tup (xs:=vs) (fun i σ H'=>∃ w o2,σ=[some (.ref a),some w,o2]∧Same H H'∧Rep H' (frD (totF (fs.take i))) w) ⟨_,_,rfl,s0,frD_of e0⟩ (fun i σ H' _ p=>?_) ?_ ?_
    · obtain ⟨w,o2,rfl,s1,_⟩:=p
      exact SqT.of (s1 _ _ ha)
    · rintro i x σ H1 hx ⟨w,o2,rfl,s1,r1⟩
      obtain ⟨g,hg,rg⟩:=reps_get hv hx
      have okt:=ok.take i
      have hm:=List.mem_of_getElem? hg
      refine ⟨_,rfl,_,rfl,?_⟩
      have zt:=okt.tot
      have zsz:=okt.sz
      refine sp_plus_i (FrV.of r1) (FrV.of (rg.same s1)) (totF_low _ okt.low) (ok.low _ hm) (zt.mono (by omega)) (ok.szf hm) ?_
      intro p2 H2 hp2 e2 s2
      refine ⟨_,_,rfl,s1.trans s2,?_⟩
      rw [take_snoc hg,totF_snoc]
      exact frD_of e2
    · rintro σ H1 ⟨w,o2,rfl,s1,r1⟩
      refine ⟨_,rfl,?_⟩
      rw [hlen,List.take_length] at r1
      exact q _ H1 s1 r1
end
def let1 (c:Nat):Bool:=!(Builtin.Str.occurrences letters ⟨#[c]⟩ 0 letters.length 1).isEmpty
def nameS (s:Str):Bool:=decide (1≤s.length)&&(decide (s.length≤8)&&((s.cps.toList.map let1).all id && !decide (s∈wordsL)))
theorem vstr_flat:∀ ss:List Str,(ss.map V.str).all flatV=true
  | []=>rfl
  | b::bs=>by show (flatV (V.str b)&&(bs.map V.str).all flatV)=true; rw [vstr_flat bs]; rfl
theorem inV_strs (t:Str):∀ ts:List Str,inV (.str t) (ts.map V.str)=decide (t∈ts)
  | []=>rfl
  | b::bs=>by
    have ih:=inV_strs t bs
    unfold inV at ih ⊢
    rw [List.map_cons,List.any_cons,ih]
    by_cases h:t=b
    · subst h; simp [eqV]
    · have:eqV (V.str t) (V.str b)=false:=by simp [eqV,h]
      by_cases h2:t∈bs
      · simp [h2]
      · simp [h2,h,eqV,Ne.symm h]
@[irreducible] def sp_istup:Sp:=fun vs H Q _=>∃ x ds,∃ m:Nat,vs=[x,.int (m:Int)]∧Rep H (.tuple ds) x∧ds.length=m∧Q (.bl true) H
theorem sp_istup_i {H:Hp} {Q:VK} {E:XK} {x:V} {ds:List PyData} {m:Nat} (r:Rep H (.tuple ds) x) (h:ds.length=m) (q:Q (.bl true) H):sp_istup [x,.int (m:Int)] H Q E:=by unfold sp_istup; exact ⟨x,ds,m,rfl,r,h,q⟩
theorem fr_shaped (f:Fr):SeqAt.shaped (frD f)=true:=by
  unfold SeqAt.shaped
  rw [Bool.and_eq_true]
  exact ⟨rfl,decide_eq_true (by simp [PyData.depth,PyData.depthAll])⟩
theorem all_true:∀ {bs:List Bool},(∀ b∈bs,b=true)→bs.all id=true
  | [],_=>rfl
  | b::bs,h=>by
    rw [List.all_cons,all_true fun c hc=>h c (List.mem_cons_of_mem _ hc),h b (by simp)]; rfl
theorem bls_true:∀ {ys:List V},(∀ (i:Nat) (y:V),ys[i]?=some y→y=.bl true)→∃ bs:List Bool,ys=bs.map V.bl∧∀ b∈bs,b=true
  | [],_=>⟨[],rfl,fun b hb=>by cases hb⟩
  | y::ys,h=>by
    obtain ⟨bs,rfl,hb⟩:=bls_true (ys:=ys) fun i z hz=>h (i+1) z (by simpa using hz)
    rw [h 0 y rfl]
    exact ⟨true::bs,rfl,fun b hb'=>by
      rcases List.mem_cons.mp hb' with rfl | hb'
      · rfl
      · exact hb b hb'⟩
structure ShF (f:Fr):Prop where
  low:LowF f
  pos:0≤f.1
  le:f.1≤f.2
  dn:f.2≤1000
theorem shf_fsb {fs:List Fr} (ok:∀ f∈fs,ShF f) (h4:fs.length≤6):FsB 10 fs:=by
  refine ⟨fun f hf=>(ok f hf).low,fun f hf=>?_,fun f hf=>?_,by omega⟩
  · have:=(ok f hf).le; have:=(ok f hf).pos; have:=(ok f hf).dn
    show f.1.natAbs≤1024; omega
  · have:=(ok f hf).dn
    show f.2≤1024; omega
@[irreducible] def sp_areshB:Sp:=fun vs H Q _=>∃ x fs,∃ m:Nat,vs=[x,.int (m:Int)]∧Rep H (shD fs) x∧(∀ f∈fs,ShF f)∧fs.length=m∧m≤6∧∀ H',Same H H'→Q (.bl true) H'
theorem sp_areshB_i {H:Hp} {Q:VK} {E:XK} {x:V} {fs:List Fr} {m:Nat} (r:Rep H (shD fs) x) (ok:∀ f∈fs,ShF f) (hl:fs.length=m) (h4:m≤6) (q:∀ H',Same H H'→Q (.bl true) H'):sp_areshB [x,.int (m:Int)] H Q E:=by unfold sp_areshB; exact ⟨x,fs,m,rfl,r,ok,hl,h4,q⟩
@[irreducible] def sp_arepB:Sp:=fun vs H Q _=>∃ x fs,∃ m:Nat,vs=[x,.int (m:Int)]∧Rep H (shD fs) x∧(∀ f∈fs,ShF f)∧fs.length=m∧m≤6∧∀ H',Same H H'→Q (.bl (decide (totF fs=(1,1)))) H'
theorem sp_arepB_i {H:Hp} {Q:VK} {E:XK} {x:V} {fs:List Fr} {m:Nat} (r:Rep H (shD fs) x) (ok:∀ f∈fs,ShF f) (hl:fs.length=m) (h4:m≤6) (q:∀ H',Same H H'→Q (.bl (decide (totF fs=(1,1)))) H'):sp_arepB [x,.int (m:Int)] H Q E:=by unfold sp_arepB; exact ⟨x,fs,m,rfl,r,ok,hl,h4,q⟩
@[irreducible] def sp_nmB:Sp:=fun vs H Q _=>∃ t,vs=[.str t]∧t.length≤10000∧∀ H',Same H H'→Q (.bl (nameS t)) H'
theorem sp_nmB_i {H:Hp} {Q:VK} {E:XK} {t:Str} (h:t.length≤10000) (q:∀ H',Same H H'→Q (.bl (nameS t)) H'):sp_nmB [.str t] H Q E:=by unfold sp_nmB; exact ⟨t,rfl,h,q⟩
@[irreducible] def sp_isshI:Sp:=fun vs H Q _=>∃ (a:Addr) (n d:Int),vs=[.ref a]∧H a=some (.tup [.int n,.int d])∧isf [some n,some d]=true∧Q (.bl (decide (0≤n)&&decide (n≤d))) H
theorem sp_isshI_i {H:Hp} {Q:VK} {E:XK} {a:Addr} {n d:Int} (ha:H a=some (.tup [.int n,.int d])) (h:isf [some n,some d]=true) (q:Q (.bl (decide (0≤n)&&decide (n≤d))) H):sp_isshI [.ref a] H Q E:=by unfold sp_isshI; exact ⟨a,n,d,rfl,ha,h,q⟩
theorem eqv_fr (f g:Fr):PyData.eqv (frD f) (frD g)=decide (f=g):=by
  show ((f.1 == g.1)&&((f.2 == g.2)&&true))=_
  rw [Bool.and_true]
  by_cases h:f=g
  · subst h; simp
  · rw [decide_eq_false h]
    by_cases h1:f.1=g.1
    · have h2:f.2≠g.2:=fun h2=>h (Prod.ext h1 h2)
      simp [h2]
    · simp [h1]
theorem eq_one08 (f:Fr):(true == PyData.eqv (frD f) (.tuple ([1,1].map PyData.int)))=decide (f=(1,1)):=by
  rw [Bool.true_beq]
  exact eqv_fr f (1,1)
section
variable {P:Program} {w:World} {K:PySem.W.Frag} {mg:Str→Option Value} {base:Heap} {c:Cl}
theorem ok_is_share {f:Addr} {fd:FuncData} (F:Fun K "is_share" "is_share" s_is_share f fd) (T:Txt K mg c) (F_is_fraction:FnC CX0 P w K mg base 2 "is_fraction" ["thing"] sp_isf):FnOk P w K mg base CX0 3 f fd ["thing"] sp_isshI:=by
  refine F.okw sc_is_share (fun vs H Q E h=>?_) (fun cdv A outer s H vs Q E hr h=>?_)
  · unfold sp_isshI at h
    obtain ⟨a,n,d,rfl,_⟩:=h
    rfl
  · unfold sp_isshI at h
    obtain ⟨a,n,d,rfl,ha,e,q⟩:=h
    refine ⟨_,(wss_one (ws_ret (we_and (we_fn F_is_fraction (hr.mono (by decide)) (wa_k (we_v 0) wa_nil)) (we_one (we_chain op_le op_le we_int (we_ix ix_seq (we_v 0) we_int (fun _ _=>rfl)) (we_ix ix_seq (we_v 0) we_int (fun _ _=>rfl))))))),?_⟩
    refine ⟨_,rfl,?_⟩
    refine sp_isf_i (os:=[some n,some d]) ha (by show 2≤20000; decide) ?_
    rw [e]
    refine ⟨_,rfl,?_⟩
    refine iteT ?_
    refine ⟨_,rfl,?_⟩
    refine ixT ha rfl ?_
    refine ⟨_,_,rfl,rfl,_,rfl,?_⟩
    refine iteD (fun e=>?_) (fun e=>?_)
    · rw [decide_eq_true e,Bool.true_and] at q
      refine ⟨_,rfl,?_⟩
      refine ixT ha rfl ?_
      exact ⟨_,_,rfl,rfl,q⟩
    · rw [decide_eq_false e,Bool.false_and] at q
      exact q
theorem ok_is_tuple_of {f:Addr} {fd:FuncData} (F:Fun K "is_tuple_of" "is_tuple_of" s_is_tuple_of f fd) (T:Txt K mg c):FnOk P w K mg base CX0 1 f fd ["thing", "many"] sp_istup:=by
  refine F.okw sc_is_tuple_of (fun vs H Q E h=>?_) (fun cdv A outer s H vs Q E hr h=>?_)
  · unfold sp_istup at h
    obtain ⟨x,ds,n,rfl,_⟩:=h
    rfl
  · unfold sp_istup at h
    obtain ⟨x,ds,n,rfl,r,hl,q⟩:=h
    refine ⟨_,(wss_one (ws_ret (we_and (we_cB cl_isi (by rfl) T.b_isinstance (by decide +kernel) (wa_k (we_v 0) (wa_k (we_bltn (v:=.ty "tuple") (u:=.type "tuple") rfl T.b_tuple (by decide +kernel) rfl) wa_nil))) (we_one (we_cmp op_eq (we_cB cl_len (by rfl) T.b_len (by decide +kernel) (wa_k (we_v 0) wa_nil)) (we_v 1) (nomark _)))))),?_⟩
    refine ⟨_,rfl,?_⟩
    refine riTup r ?_
    refine ⟨_,rfl,?_⟩
    obtain ⟨a,xs,rfl,ha,rds⟩:=tup_at r
    refine iteT ?_
    refine ⟨_,rfl,?_⟩
    refine rlT ha ?_
    refine ⟨_,rfl,rfl,?_⟩
    rw [decide_eq_true (show V.int (xs.length:Int)=V.int (n:Int) by rw [rds.len,hl])]
    exact q
theorem ok_are_shares {f:Addr} {fd:FuncData} (F:Fun K "are_shares" "are_shares" s_are_shares f fd) (T:Txt K mg c)
    (F_is_tuple_of:FnC CX0 P w K mg base 1 "is_tuple_of" ["thing", "many"] sp_istup) (F_is_share:FnC CX0 P w K mg base 3 "is_share" ["thing"] sp_isshI):FnOk P w K mg base CX0 4 f fd ["thing", "many"] sp_areshB:=by
  refine F.okw sc_are_shares (fun vs H Q E h=>?_) (fun cdv A outer s H vs Q E hr h=>?_)
  · unfold sp_areshB at h
    obtain ⟨x,fs,n,rfl,_⟩:=h
    rfl
  · unfold sp_areshB at h
    obtain ⟨x,fs,n,rfl,r,ok,hl,n4,q⟩:=h
    refine ⟨_,(wss_one (ws_ret (we_and (we_fn F_is_tuple_of (hr.mono (by decide)) (wa_k (we_v 0) (wa_k (we_v 1) wa_nil))) (we_one (we_cB (cl_all rfl) (by rfl) T.b_all (by decide +kernel) (wa_k (we_comp (CScope.of (psc:=defScope s_are_shares) (N:=["thing", "many"]) (N':=["one"]) (js:=[]) (by decide +kernel) rfl rfl rfl) (wi_tup (we_v 0)) (fun _ _ _ _=>wts_nil) (fun _ _ _ _=>(we_fn F_is_share (hr.mono (by decide)) (wa_k (we_v 0) wa_nil)))) wa_nil)))))),?_⟩
    refine ⟨_,rfl,_,rfl,?_⟩
    refine sp_istup_i r (by rw [List.length_map]; exact hl) ?_
    refine ⟨_,rfl,?_⟩
    refine iteT ?_
    obtain ⟨a,xs,rfl,ha,rds⟩:=tup_at r
    have hl2:=reps_len rds
    refine ⟨_,rfl,a,rfl,⟨_,SqT.of ha⟩,?_⟩
    refine comp_mapU (fun i y _=>y=.bl true) (fun _ _ _ _ _ h=>h) (by omega) ha (fun i y H' Q' hy s' k'=>?_) (fun D ys H1 hD hD1 s1 hy hr1=>?_)
    · obtain ⟨g,hg,rg⟩:=reps_get rds hy
      have gm:=ok g (List.mem_of_getElem? hg)
      obtain ⟨b,rfl,hb⟩:=frD_at (rg.same s')
      refine ⟨_,rfl,?_⟩
      refine sp_isshI_i hb ?_ ?_
      · show (decide (1≤g.2)&&decide (Int.gcd g.1 g.2=1))=true
        have hp:0<g.2:=gm.low.pos
        rw [decide_eq_true (show 1≤g.2 by omega),decide_eq_true (show Int.gcd g.1 g.2=1 from gm.low.low)]; rfl
      · rw [decide_eq_true gm.pos,decide_eq_true gm.le]
        exact k' _ H' (Same.refl _) rfl
    · obtain ⟨bs,rfl,hb⟩:=bls_true hr1
      refine rall hD1 ?_
      rw [all_true hb]
      exact q H1 s1
theorem ok_are_parts {f:Addr} {fd:FuncData} (F:Fun K "are_parts" "are_parts" s_are_parts f fd) (T:Txt K mg c)
    (F_are_shares:FnC CX0 P w K mg base 4 "are_shares" ["thing", "many"] sp_areshB) (F_total:FnC CX0 P w K mg base 3 "total" ["some"] sp_totalT):FnOk P w K mg base CX0 5 f fd ["thing", "many"] sp_arepB:=by
  refine F.okw sc_are_parts (fun vs H Q E h=>?_) (fun cdv A outer s H vs Q E hr h=>?_)
  · unfold sp_arepB at h
    obtain ⟨x,fs,n,rfl,_⟩:=h
    rfl
  · unfold sp_arepB at h
    obtain ⟨x,fs,n,rfl,r,ok,hl,n4,q⟩:=h
    refine ⟨_,(wss_one (ws_ret (we_and (we_fn F_are_shares (hr.mono (by decide)) (wa_k (we_v 0) (wa_k (we_v 1) wa_nil))) (we_one (we_cmp (op_eqK K hr.units) (we_fn F_total (hr.mono (by decide)) (wa_k (we_v 0) wa_nil)) (we_glob (v:=.ref c.ONE) rfl T.g_ONE rfl) (nomark _)))))),?_⟩
    refine ⟨_,rfl,_,rfl,?_⟩
    refine sp_areshB_i r ok hl n4 fun H1 s1=>?_
    refine ⟨_,rfl,?_⟩
    refine iteT ?_
    refine ⟨_,rfl,?_⟩
    refine sp_totalT_i (r.same s1) (shf_fsb ok (by omega)) fun tv H2 s2 r2=>?_
    have kt:=RepK.tup (K:=K) (sqT_ints (H:=H2) T.o_ONE) (RepKL.ints [1,1])
    refine reK r2.k kt (fr_shaped _) (fr_shaped (1,1)) ?_
    rw [show (true == PyData.eqv (frD (totF fs)) (.tuple ([1,1].map PyData.int)))=decide (totF fs=(1,1)) from eq_one08 _]
    exact q H2 (s1.trans s2)
theorem ok_is_name {f:Addr} {fd:FuncData} (F:Fun K "is_name" "is_name" s_is_name f fd) (T:Txt K mg c):FnOk P w K mg base CX0 1 f fd ["thing"] sp_nmB:=by
  refine F.okw sc_is_name (fun vs H Q E h=>?_) (fun cdv A outer s H vs Q E hr h=>?_)
  · unfold sp_nmB at h
    obtain ⟨t,rfl,_⟩:=h
    rfl
  · unfold sp_nmB at h
    obtain ⟨t,rfl,hz,q⟩:=h
    refine ⟨_,(wss_cons (ws_if (wt_mono (wt_w (ww_or (wt_not (wt_val (we_cB cl_isi (by rfl) T.b_isinstance (by decide +kernel) (wa_k (we_v 0) (wa_k (we_bltn (v:=.ty "str") (u:=.type "str") rfl T.b_str (by decide +kernel) rfl) wa_nil))))) (ww_or1 (wt_not (wt_chain op_le op_le we_int (we_cB cl_len (by rfl) T.b_len (by decide +kernel) (wa_k (we_v 0) wa_nil)) (we_glob (v:=.int 8) rfl T.g_MOST_LETTERS ⟨_,rfl⟩))))))) (wss_one (ws_ret we_bl)) wss_nil)
      (wss_one (ws_ret (we_and (we_cB (cl_all rfl) (by rfl) T.b_all (by decide +kernel) (wa_k (we_comp (CScope.of (psc:=defScope s_is_name) (N:=["thing"]) (N':=["sign"]) (js:=[]) (by decide +kernel) rfl rfl rfl) (wi_str (we_v 0)) (fun _ _ _ _=>wts_nil) (fun _ _ _ _=>(we_cmp op_in_str (we_v 0) (we_glob (v:=.str letters) rfl T.g_LETTERS ⟨_,rfl⟩) (by with_unfolding_all rfl)))) wa_nil)) (we_one (we_cmp (op_notInK (K:=K)) (we_v 0) (we_glob (v:=.ref c.WORDS_OF_LINES) rfl T.g_WORDS_OF_LINES rfl) (by with_unfolding_all rfl))))))),?_⟩
    refine ⟨fun b H'=>H'=H∧(b=true→nameS t=false)∧(b=false→1≤t.length∧t.length≤8),?_,?_⟩
    · refine ⟨_,rfl,?_⟩
      refine riStr (Rep.str t) ?_
      refine ⟨_,rfl,?_⟩
      refine iteF ?_
      refine ⟨_,rfl,?_⟩
      refine rlS (line20 (by omega)) ?_
      refine ⟨_,_,rfl,rfl,_,rfl,?_⟩
      refine iteD (fun h1=>?_) (fun h1=>?_)
      · refine ⟨_,_,rfl,rfl,_,rfl,rfl,fun e=>?_,fun e=>?_⟩
        · have e':¬ ((t.length:Int)≤8):=by simpa using e
          unfold nameS
          rw [decide_eq_false (show ¬ t.length≤8 by omega)]; simp
        · have e':(t.length:Int)≤8:=by simpa using e
          exact ⟨by omega,by omega⟩
      · refine ⟨_,rfl,rfl,fun _=>?_,fun e=>by cases e⟩
        unfold nameS
        rw [decide_eq_false (show ¬ 1≤t.length by omega)]; simp
    · rintro b H' ⟨rfl,hb1,hb2⟩
      cases b with
      | true =>
        refine iteT ?_
        have:=q H' (Same.refl _)
        rw [hb1 rfl] at this
        exact this
      | false =>
        refine iteF ?_
        obtain ⟨h1,h8⟩:=hb2 rfl
        have eq:nameS t=((t.cps.toList.map let1).all id && !decide (t∈wordsL)):=by
          unfold nameS
          rw [decide_eq_true h1,decide_eq_true h8,Bool.true_and,Bool.true_and]
        rw [eq] at q
        refine ⟨_,rfl,_,rfl,?_⟩
        refine comp_str (x:=t) (fun _=>true) (fun x=>V.bl (let1 x)) (by omega) (fun x H' Q' _ q=>q) (fun x H' Q' _ q=>?_) fun D H1 hD e s1=>?_
        · exact ⟨_,rfl,_,_,rfl,rfl,q⟩
        · have e:H1 D=some (.lst ((t.cps.toList.map let1).map V.bl)):=by
            rw [e,List.filter_eq_self.mpr (fun _ _=>rfl),List.map_map]
            rfl
          refine rall e ?_
          refine ⟨_,rfl,?_⟩
          by_cases ha:(t.cps.toList.map let1).all id=true
          · rw [ha] at q ⊢
            refine iteT ?_
            refine ⟨_,rfl,?_⟩
            refine ⟨c.WORDS_OF_LINES,_,rfl,.inr (sqT_strs T.o_WORDS),rfl,vstr_flat _,?_⟩
            rw [inV_strs]
            rw [Bool.true_and] at q
            exact q H1 s1
          · rw [show (t.cps.toList.map let1).all id=false by simpa using ha] at q ⊢
            exact iteF (q H1 s1)
end
end Kw
set_option Elab.async false
set_option linter.all false
set_option maxRecDepth 100000
namespace Kw
open PySem L2 Mf Mt
theorem pool_names:∀ t∈pool,nameS t=true∧t.length≤8∧32 ∉ t.cps.toList:=by decide +kernel
def bk:Str:=Str.ofString " "
theorem bk_cps:bk.cps.toList=[32]:=by decide +kernel
theorem cutB:∀ {p a s b:List Nat},32 ∉ p→32 ∉ a→p++32::s=a++32::b→p=a∧s=b
  | [],[],_,_,_,_,e=>by injection e with _ e; exact ⟨rfl,e⟩
  | [],x::a,_,_,_,ha,e=>by injection e with e _; exact absurd (by rw [e]; exact List.mem_cons_self) ha
  | y::p,[],_,_,hp,_,e=>by injection e with e _; exact absurd (by rw [← e]; exact List.mem_cons_self) hp
  | y::p,x::a,s,b,hp,ha,e=>by
    injection e with e1 e2
    obtain ⟨h1,h2⟩:=cutB (fun z=>hp (List.mem_cons_of_mem _ z)) (fun z=>ha (List.mem_cons_of_mem _ z)) e2
    exact ⟨by rw [e1,h1],h2⟩
theorem joinB (p q:Str) (r:List Str):(Str.join bk (p::q::r)).cps.toList=p.cps.toList++32::(Str.join bk (q::r)).cps.toList:=by
  show (p++bk++Str.join bk (q::r)).cps.toList=_
  rw [app_cps,app_cps,bk_cps]
  simp
theorem join_inj:∀ {a b:List Str},a≠[]→b≠[]→(∀ p∈a,32 ∉ p.cps.toList)→(∀ p∈b,32 ∉ p.cps.toList)→(Str.join bk a).cps.toList=(Str.join bk b).cps.toList→a=b
  | [],_,h,_,_,_,_=>absurd rfl h
  | _,[],_,h,_,_,_=>absurd rfl h
  | [x],[y],_,_,_,_,e=>by rw [str_ext (show x.cps.toList=y.cps.toList from e)]
  | [x],y::z::r,_,_,ha,_,e=>by
    rw [joinB] at e
    exact absurd (show 32∈x.cps.toList by rw [show x.cps.toList=_ from e]; simp) (ha x (by simp))
  | x::u::r,[y],_,_,_,hb,e=>by
    rw [joinB] at e
    exact absurd (show 32∈y.cps.toList by rw [show y.cps.toList=_ from e.symm]; simp) (hb y (by simp))
  | x::u::r,y::z::t,_,_,ha,hb,e=>by
    rw [joinB,joinB] at e
    obtain ⟨e1,e2⟩:=cutB (ha x (by simp)) (hb y (by simp)) e
    rw [str_ext e1,join_inj (a:=u::r) (b:=z::t) (by simp) (by simp) (fun p hp=>ha p (List.mem_cons_of_mem _ hp)) (fun p hp=>hb p (List.mem_cons_of_mem _ hp)) e2]
theorem join_is (ts:List Str):Txt.join bk ts=Str.join bk ts:=by unfold Txt.join; rw [StrLaws.glued_eq_join]
theorem split_back {ts:List Str} (hn:ts≠[]) (hf:∀ p∈ts,32 ∉ p.cps.toList):Txt.split (Txt.join bk ts) bk=ts:=by
  rw [join_is]
  refine join_inj ?_ hn ?_ hf ?_
  · intro h
    have:=PyProof.Rows.split_pos (Str.join bk ts) bk
    rw [h] at this
    exact absurd this (by decide)
  · have e:bk=⟨#[32]⟩:=str_ext bk_cps
    rw [e]
    exact StrLaws.split_free _ 32
  · rw [StrLaws.join_split]
theorem tx_len1 {n:Int} (h:n.natAbs≤1000):(tx n).length≤5:=by
  unfold tx
  rw [PySem.ofString_length]
  exact Nat.le_trans (int_text_length_le10 (k:=4) (by decide) (Nat.lt_of_le_of_lt h (by decide))) (by decide)
def TT (f:Fr):Str:=if f.2=1 then tx f.1 else tx f.1++sl++tx f.2
theorem ShF.sz {f:Fr} (h:ShF f):f.1.natAbs≤1000∧f.2.natAbs≤1000:=by
  have:=h.pos; have:=h.le; have:=h.dn
  omega
theorem ShOk.at {m:Nat} {fs:List Fr} (ok:ShOk m fs) {f:Fr} (hf:f∈fs):ShF f:=⟨ok.low _ hf,ok.pos _ hf,ok.le _ hf,ok.dn _ hf⟩
theorem tx_blank {n:Int} (x:Nat) (hx:x<45):x ∉ (tx n).cps.toList:=by
  intro h
  rcases Int.lt_or_le n 0 with hn | hn
  · obtain ⟨m,rfl⟩:∃ m:Nat,n=-((m+1:Nat):Int):=⟨(-n - 1).toNat,by omega⟩
    rw [tx_neg] at h
    rcases List.mem_cons.mp h with h | h
    · omega
    · have:=dg_all _ x h; omega
  · obtain ⟨m,rfl⟩:=Int.eq_ofNat_of_zero_le hn
    rw [tx_nat] at h
    have:=dg_all _ x h
    omega
theorem TT_free (f:Fr):32 ∉ (TT f).cps.toList:=by
  unfold TT
  split
  · exact tx_blank 32 (by decide)
  · rw [app_cps,app_cps]
    intro h
    rcases List.mem_append.mp h with h | h
    · rcases List.mem_append.mp h with h | h
      · exact tx_blank 32 (by decide) h
      · exact absurd h (by decide)
    · exact tx_blank 32 (by decide) h
theorem TT_len {f:Fr} (h:ShF f):(TT f).length≤11:=by
  have a1:=tx_len1 h.sz.1
  have a2:=tx_len1 h.sz.2
  have e:sl.length=1:=rfl
  unfold TT
  split
  · omega
  · rw [app_len,app_len,e]; omega
theorem TT_read {f:Fr} (h:ShF f):rdT (TT f)=some f:=by
  have a1:=tx_len1 h.sz.1
  have a2:=tx_len1 h.sz.2
  have l:=h.low
  obtain ⟨n,d⟩:=f
  have hp:0<d:=l.pos
  have hg:Int.gcd n d=1:=l.low
  unfold rdT words TT
  dsimp only at a1 a2 ⊢
  by_cases h:d=1
  · rw [if_pos h,split_one (tx_free n)]
    show rdF [rd (tx n)]=_
    rw [rd_tx (by omega),h]
    rfl
  · rw [if_neg h,split_two (tx_free n) (tx_free d)]
    show rdF [rd (tx n),rd (tx d)]=_
    rw [rd_tx (by omega),rd_tx (by omega)]
    show (if (!decide (d=1)&&(decide (1≤d)&&decide (Int.gcd n d=1)))=true then some (n,d) else none)=_
    rw [decide_eq_false h,decide_eq_true (show 1≤d by omega),decide_eq_true hg]
    rfl
def wFaces:Str:=Str.ofString "faces"
def wWay:Str:=Str.ofString "way"
def wd0 (fs:List Str):List Str:=wFaces::fs
def wdW (w:Str × List Fr):List Str:=wWay::w.1::w.2.map TT
def lns (fs:List Str) (ws:List (Str × List Fr)):List Str:=Txt.join bk (wd0 fs)::ws.map fun w=>Txt.join bk (wdW w)
structure NmOk (ns:List Str):Prop where
  two:2≤ns.length
  four:ns.length≤4
  pool:∀ n∈ns,n∈pool
  nd:ns.Nodup
structure TrL (fs:List Str) (ws:List (Str × List Fr)):Prop where
  f:NmOk fs
  w:NmOk (ws.map (·.1))
  sh:∀ w∈ws,ShOk fs.length w.2
theorem rot_nd:∀ t,t<12→(rot t).Nodup∧∀ n∈rot t,n∈pool:=by decide +kernel
theorem TrOk.trl {t o F W:Nat} {fs:List Str} {ws:List (Str × List Fr)} (h:TrOk t o F W fs ws):TrL fs ws:=by
  obtain ⟨h1,h2⟩:=rot_nd t h.ht
  have lF:=h.lenF
  have lW:=h.lenW
  have hF:=h.hF
  have hW:=h.hW
  refine ⟨⟨by omega,by omega,fun n hn=>?_,?_⟩,⟨by rw [List.length_map]; omega,by rw [List.length_map]; omega,fun n hn=>?_,?_⟩,fun w hw=>by rw [lF]; exact h.sh w hw⟩
  · rw [h.hfs] at hn
    exact h2 n (List.mem_of_mem_take hn)
  · rw [h.hfs]
    exact h1.sublist (List.take_sublist _ _)
  · rw [h.hns] at hn
    exact h2 n (List.mem_of_mem_drop (List.mem_of_mem_take hn))
  · rw [h.hns]
    exact (h1.sublist (List.drop_sublist _ _)).sublist (List.take_sublist _ _)
theorem NmOk.len {ns:List Str} (h:NmOk ns):∀ n∈ns,n.length≤8:=fun n hn=>(pool_names n (h.pool n hn)).2.1
theorem sumlen {B:Nat}:∀ {ts:List Str},(∀ t∈ts,t.length≤B)→(ts.map (·.length)).sum≤B*ts.length
  | [],_=>by simp
  | t::ts,h=>by
    have h1:=sumlen fun u hu=>h u (List.mem_cons_of_mem _ hu)
    have h2:=h t (by simp)
    rw [List.map_cons,List.sum_cons,List.length_cons,Nat.mul_add]; omega
theorem wd0_len {fs:List Str} (h:NmOk fs):(wd0 fs).length≤5∧∀ p∈wd0 fs,p.length≤11:=by
  refine ⟨by show fs.length+1≤5; have:=h.four; omega,fun p hp=>?_⟩
  rcases List.mem_cons.mp hp with rfl | hp
  · decide +kernel
  · have:=h.len p hp; omega
theorem wdW_len {m:Nat} {w:Str × List Fr} (h:w.1∈pool) (ok:ShOk m w.2) (h4:m≤4):(wdW w).length≤6∧∀ p∈wdW w,p.length≤11:=by
  refine ⟨by show (w.2.map TT).length+1+1≤6; rw [List.length_map,ok.len]; omega,fun p hp=>?_⟩
  rcases List.mem_cons.mp hp with rfl | hp
  · decide +kernel
  · rcases List.mem_cons.mp hp with rfl | hp
    · have:=(pool_names _ h).2.1; omega
    · obtain ⟨f,hf,rfl⟩:=List.mem_map.mp hp
      exact TT_len (ok.at hf)
theorem join_ok {ts:List Str} (h1:ts.length≤6) (h2:∀ p∈ts,p.length≤11):(ts.map (·.length)).sum+ts.length*bk.length≤16777216:=by
  have h3:=sumlen h2
  have e:bk.length=1:=by decide +kernel
  rw [e]; omega
theorem join_len:∀ (ts:List Str),(Str.join bk ts).length≤(ts.map (·.length)).sum+ts.length
  | []=>by decide
  | [x]=>by show x.length≤_; simp
  | x::y::r=>by
    have ih:=join_len (y::r)
    rw [← len_toList,joinB,List.length_append,List.length_cons,len_toList,len_toList]
    rw [List.map_cons,List.sum_cons,List.length_cons]
    omega
theorem line_len {ts:List Str} (h1:ts.length≤6) (h2:∀ p∈ts,p.length≤11):(Txt.join bk ts).length≤100:=by
  rw [join_is]
  have h3:=sumlen h2
  have:=join_len ts
  omega
end Kw
set_option Elab.async false
set_option linter.all false
set_option maxRecDepth 100000
namespace Kw
open PySem L2 Mf Mt
@[irreducible] def sp_ini2 (C:Addr):Sp:=fun vs H Q _=>∃ a x y,vs=[.ref a,x,y]∧H a=some (ExcN a C none)∧∀ d H',H d=none→d≠a→H' a=some (ExcN a C (some d))→H' d=some (XdO d [("line",x),("word",y)])→(∀ b o,b≠a→b≠d→H b=some o→H' b=some o)→Q .non H'
theorem sp_ini2_i {C:Addr} {H:Hp} {Q:VK} {E:XK} {a:Addr} {x y:V} (e:H a=some (ExcN a C none)) (q:∀ d H',H d=none→d≠a→H' a=some (ExcN a C (some d))→H' d=some (XdO d [("line",x),("word",y)])→(∀ b o,b≠a→b≠d→H b=some o→H' b=some o)→Q .non H'):sp_ini2 C [.ref a,x,y] H Q E:=by
  unfold sp_ini2; exact ⟨a,x,y,rfl,e,q⟩
section
variable {P:Program} {w:World} {K:PySem.W.Frag} {mg:Str→Option Value} {base:Heap} {c:Cl}
theorem ok_NoTrial___init__ {f:Addr} {fd:FuncData} (F:Fun K "__init__" "NoTrial.__init__" s_NoTrial___init__ f fd) (T:Txt K mg c):FnOk P w K mg base CX0 1 f fd ["self", "line", "word"] (sp_ini2 c.NoTrial):=by
  refine F.okw sc_NoTrial___init__ (fun vs H Q E h=>?_) (fun cdv A outer s H vs Q E hr h=>?_)
  · unfold sp_ini2 at h
    obtain ⟨a,x,y,rfl,_⟩:=h
    rfl
  · unfold sp_ini2 at h
    obtain ⟨a,x,y,rfl,ea,q⟩:=h
    refine ⟨_,(wss_cons (ws_expr (we_baseN T.bc_EarlyError T.g_EarlyError (wa_k (we_v 0) (wa_k (we_v 1) (wa_k (we_v 2) wa_nil)))))
      (wss_cons (ws_fldN (we_v 0) (we_v 1))
      (wss_one (ws_fldN (we_v 0) (we_v 2))))),?_⟩
    refine ⟨_,rfl,_,rfl,_,rfl,a,c.NoTrial,none,_,rfl,by show 3≤64; decide,ea,(setAll.shape T.st_NoTrial),?_⟩
    refine ⟨_,rfl,_,rfl,a,c.NoTrial,rfl,(setAll.set T.st_NoTrial),(setAll.no T.st_NoTrial (by simp)),.inl ⟨ea,fun d nd na=>?_⟩⟩
    refine ⟨_,rfl,_,rfl,a,c.NoTrial,rfl,(setAll.set T.st_NoTrial),(setAll.no T.st_NoTrial (by simp)),.inr ⟨d,_,(upd_ne (Ne.symm na)).trans upd_same,upd_same,?_,?_⟩⟩
    · show 1<1000; decide
    · refine q d _ nd na ?_ ?_ fun b o n1 n2 e=>?_
      · rw [upd_ne (Ne.symm na),upd_ne (Ne.symm na),upd_same]
      · rw [upd_same]; congr 2
      · rw [upd_ne n2,upd_ne n2,upd_ne n1]; exact e
end
abbrev Flt (C:Addr) (l p:Int) (H:Hp) (E:XK):Prop:=∀ H' d,Same H H'→H' d=some (XdO d [("line",.int l),("word",.int p)])→E (.ref C) (some d) H'
theorem rz08 {C:Addr} {l p:Int} {H1:Hp} {Ex:XK} (h:Flt C l p H1 Ex):[V.int l,V.int p].length≤64∧∀ a,H1 a=none→sp_ini2 C (.ref a::[.int l,.int p]) (upd H1 a (ExcN a C none)) (fun v H2=>v=.non∧∃ od,H2 a=some (ExcN a C od)∧Ex (.ref C) od (del H2 a)) E0:=by
  refine ⟨by show 2≤64; decide,fun ex hex=>?_⟩
  refine sp_ini2_i upd_same fun d H' hd hne ea ed hk=>?_
  refine ⟨rfl,some d,ea,h _ d (fun b o e=>?_) ((del_ne hne).trans ed)⟩
  have n1:b≠ex:=fun z=>by subst z; rw [hex] at e; cases e
  have hd2:H1 d=none:=by rw [upd_ne hne] at hd; exact hd
  have n2:b≠d:=fun z=>by subst z; rw [hd2] at e; cases e
  rw [del_ne n1]
  exact hk b o n1 n2 (by rw [upd_ne n1]; exact e)
def Low (t:Str):Prop:=∀ x∈t.cps.toList,x<128
structure RwOk (r:List Str):Prop where
  ne:r≠[]
  free:∀ p∈r,32 ∉ p.cps.toList
  len:r.length≤40
  sz:∀ p∈r,p.length≤20
  dn:∀ p∈r,∀ g,rdT p=some g→g.2≤1000
  lo:∀ p∈r,Low p
abbrev lnOf (r:List Str):Str:=Txt.join bk r
theorem RwOk.back {r:List Str} (h:RwOk r):Txt.split (lnOf r) bk=r:=split_back h.ne h.free
theorem sumlen20:∀ {ts:List Str},(∀ p∈ts,p.length≤20)→(ts.map (·.length)).sum≤ts.length*20
  | [],_=>by simp
  | t::ts,h=>by
    have:=sumlen20 fun p hp=>h p (List.mem_cons_of_mem t hp)
    have:=h t (List.mem_cons_self ..)
    rw [List.map_cons,List.sum_cons,List.length_cons]; omega
theorem RwOk.ll {r:List Str} (h:RwOk r):(lnOf r).length≤900:=by
  unfold lnOf
  rw [join_is]
  have h1:=join_len r
  have h2:=sumlen20 h.sz
  have:=h.len
  omega
def safB (ts:List Str) (t:Str):Bool:=if ts=[] then decide (t=wFaces) else decide (ts.length≤4)&&(nameS t && !decide (t∈ts))
def firstF (p:Nat→Bool) (n:Nat):Option Nat:=(List.range n).find? fun k=>!p k
theorem firstF_none {p:Nat→Bool} {n:Nat}:firstF p n=none ↔ ∀ k,k<n→p k=true:=by
  unfold firstF
  rw [List.find?_eq_none]
  constructor
  · intro h k hk
    have:=h k (List.mem_range.mpr hk)
    simpa using this
  · intro h k hk
    simpa using h k (List.mem_range.mp hk)
theorem firstF_some {p:Nat→Bool} {n k:Nat}:firstF p n=some k↔k<n∧p k=false∧∀ i,i<k→p i=true:=by
  unfold firstF
  rw [List.find?_range_eq_some]
  constructor
  · rintro ⟨h1,h2,h3⟩
    exact ⟨List.mem_range.mp h2,by simpa using h1,fun i hi=>by simpa using h3 i hi⟩
  · rintro ⟨h1,h2,h3⟩
    exact ⟨by simpa using h2,List.mem_range.mpr h1,fun i hi=>by simpa using h3 i hi⟩
def facF (r:List Str):Option Nat:=match firstF (fun k=>safB (r.take k) (r.getD k "")) r.length with
  | some k=>some k
  | none=>if r.length<3 then some r.length else none
def wsB (t:Str):Bool:=match rdT t with | some g=>decide (0≤g.1)&&decide (g.1≤g.2) | none=>false
def siwB (p:Nat) (t:Str) (F:Nat) (ns:List Str):Bool:=if p=0 then decide (t=wWay)&&decide (ns.length<4) else if p=1 then nameS t && !decide (t∈ns) else decide (p<2+F)&&wsB t
def wayF (r:List Str) (F:Nat) (ns:List Str):Option Nat:=match firstF (fun k=>siwB k (r.getD k "") F ns) r.length with
  | some k=>some k
  | none=>if r.length<2+F then some r.length else none
def shOf (t:Str):Fr:=(rdT t).getD (0,1)
theorem rdT_isf {t:Str} {g:Fr} (h:rdT t=some g):isf [some g.1,some g.2]=true:=by
  unfold rdT at h
  generalize (words t).map rd=os at h
  match os,h with
  | [some n],h =>
    cases h
    show (decide ((1:Int)≤1)&&decide (Int.gcd n 1=1))=true
    rw [Int.gcd_one]; rfl
  | [some n,some d],h =>
    have h:(if (!decide (d=1)&&isf [some n,some d])=true then some (n,d) else none)=some g:=h
    split at h
    · rename_i q
      cases h
      rw [Bool.and_eq_true] at q
      exact q.2
    · cases h
@[irreducible] def sp_safB:Sp:=fun vs H Q _=>∃ a ts t,vs=[.ref a,.str t]∧H a=some (.lst (ts.map V.str))∧ts.length≤60∧t.length≤10000∧∀ H',Same H H'→Q (.bl (safB ts t)) H'
theorem sp_safB_i {H:Hp} {Q:VK} {E:XK} {a:Addr} {ts:List Str} {t:Str} (ha:H a=some (.lst (ts.map V.str))) (h1:ts.length≤60) (h2:t.length≤10000) (q:∀ H',Same H H'→Q (.bl (safB ts t)) H'):sp_safB [.ref a,.str t] H Q E:=by unfold sp_safB; exact ⟨a,ts,t,rfl,ha,h1,h2,q⟩
@[irreducible] def sp_wsB:Sp:=fun vs H Q _=>∃ t,vs=[.str t]∧t.length≤10000∧∀ H',Same H H'→Q (.bl (wsB t)) H'
theorem sp_wsB_i {H:Hp} {Q:VK} {E:XK} {t:Str} (h:t.length≤10000) (q:∀ H',Same H H'→Q (.bl (wsB t)) H'):sp_wsB [.str t] H Q E:=by unfold sp_wsB; exact ⟨t,rfl,h,q⟩
@[irreducible] def sp_siwB:Sp:=fun vs H Q _=>∃ (p F:Nat) (t:Str) (b:Addr) (ns:List Str),vs=[.int (p:Int),.str t,.int (F:Int),.ref b]∧H b=some (.lst (ns.map V.str))∧t.length≤10000∧∀ H',Same H H'→Q (.bl (siwB p t F ns)) H'
theorem sp_siwB_i {H:Hp} {Q:VK} {E:XK} {p F:Nat} {t:Str} {b:Addr} {ns:List Str} (hb:H b=some (.lst (ns.map V.str))) (h:t.length≤10000) (q:∀ H',Same H H'→Q (.bl (siwB p t F ns)) H'):sp_siwB [.int (p:Int),.str t,.int (F:Int),.ref b] H Q E:=by unfold sp_siwB; exact ⟨p,F,t,b,ns,rfl,hb,h,q⟩
section
variable {P:Program} {w:World} {K:PySem.W.Frag} {mg:Str→Option Value} {base:Heap} {c:Cl}
theorem ok_stands_among_faces {f:Addr} {fd:FuncData} (F:Fun K "stands_among_faces" "stands_among_faces" s_stands_among_faces f fd) (T:Txt K mg c) (F_is_name:FnC CX0 P w K mg base 1 "is_name" ["thing"] sp_nmB):FnOk P w K mg base CX0 2 f fd ["ahead", "word"] sp_safB:=by
  refine F.okw sc_stands_among_faces (fun vs H Q E h=>?_) (fun cdv A outer s H vs Q E hr h=>?_)
  · unfold sp_safB at h
    obtain ⟨a,ts,t,rfl,_⟩:=h
    rfl
  · unfold sp_safB at h
    obtain ⟨a,ts,t,rfl,ha,h60,ht,q⟩:=h
    refine ⟨_,(wss_cons (ws_if (wt_cmp op_eq (we_cB cl_len (by rfl) T.b_len (by decide +kernel) (wa_k (we_v 0) wa_nil)) we_int (nomark _)) (wss_one (ws_ret (we_cmp op_eq (we_v 1) (we_glob (v:=.str (Str.ofString "faces")) rfl T.g_FACES_WORD ⟨_,rfl⟩) (nomark _)))) wss_nil)
      (wss_one (ws_ret (we_and (we_cmp op_le (we_cB cl_len (by rfl) T.b_len (by decide +kernel) (wa_k (we_v 0) wa_nil)) (we_glob (v:=.int 4) rfl T.g_MOST_NAMES ⟨_,rfl⟩) (nomark _)) (we_and (we_fn F_is_name (hr.mono (by decide)) (wa_k (we_v 1) wa_nil)) (we_one (we_cmp (op_notInK (K:=K)) (we_v 1) (we_v 0) (by with_unfolding_all rfl)))))))),?_⟩
    refine ⟨_,rfl,?_⟩
    refine rlL ha ?_
    refine ⟨rfl,_,rfl,?_⟩
    by_cases hz:ts=[]
    · subst hz
      refine iteT ?_
      refine ⟨_,rfl,rfl,?_⟩
      have:=q H (Same.refl _)
      rw [show safB [] t=decide (V.str t=V.str (Str.ofString "faces")) from decide_eq_decide.mpr ⟨fun z=>by rw [z]; rfl,fun z=>by injection z⟩] at this
      exact this
    · have hl:0<ts.length:=List.length_pos_iff.mpr hz
      have e0:safB ts t=(decide (ts.length≤4)&&(nameS t && !decide (t∈ts))):=if_neg hz
      rw [e0] at q
      rw [decide_eq_false (show ¬ V.int ((ts.map V.str).length:Int)=V.int 0 from fun z=>by injection z with z; rw [List.length_map] at z; omega)]
      refine iteF ?_
      refine ⟨_,rfl,?_⟩
      refine rlL ha ?_
      refine ⟨_,_,rfl,rfl,_,rfl,?_⟩
      refine iteD (fun z=>?_) (fun z=>?_)
      · rw [List.length_map] at z
        rw [decide_eq_true (show ts.length≤4 by omega),Bool.true_and] at q
        refine ⟨_,rfl,?_⟩
        refine sp_nmB_i ht fun H1 s1=>?_
        refine ⟨_,rfl,?_⟩
        by_cases hn:nameS t=true
        · rw [hn] at q ⊢
          rw [Bool.true_and] at q
          refine iteT ?_
          refine ⟨_,rfl,_,rfl,?_⟩
          refine ⟨a,_,rfl,.inl (SqL.of (s1 _ _ ha)),rfl,vstr_flat _,?_⟩
          rw [inV_strs]
          exact q H1 s1
        · rw [show nameS t=false by simpa using hn] at q ⊢
          exact iteF (q H1 s1)
      · rw [List.length_map] at z
        rw [decide_eq_false (show ¬ ts.length≤4 by omega),Bool.false_and] at q
        exact q H (Same.refl _)
theorem ok_writes_share {f:Addr} {fd:FuncData} (F:Fun K "writes_share" "writes_share" s_writes_share f fd) (T:Txt K mg c) (F_read_fraction:FnC (CX1 P w) P w K mg base 3 "read_fraction" ["text"] (sp_readf c.NoFraction)) (F_is_share:FnC CX0 P w K mg base 3 "is_share" ["thing"] sp_isshI) :
    FnOk P w K mg base CX0 4 f fd ["word"] sp_wsB:=by
  refine F.okw sc_writes_share (fun vs H Q E h=>?_) (fun cdv A outer s H vs Q E hr h=>?_)
  · unfold sp_wsB at h
    obtain ⟨t,rfl,_⟩:=h
    rfl
  · unfold sp_wsB at h
    obtain ⟨t,rfl,ht,q⟩:=h
    refine ⟨_,(wss_cons (ws_tryB rfl rfl rfl T.g_NoFraction T.c_NoFraction (fun _ _ _ hx=>(wss_one (ws_set (i:=1) sc_writes_share.nd rfl (Or.inl rfl) (we_fnX F_read_fraction (hr.mono (by decide)) hx (wa_k (we_v 0) wa_nil))))) (fun _=>(wss_one (ws_ret we_bl))))
      (wss_one (ws_ret (we_fn F_is_share (hr.mono (by decide)) (wa_k (we_v 1) wa_nil))))),?_⟩
    refine ⟨fun σ' cls od H'=>σ'=[some (.str t),none]∧cls=.ref c.NoFraction∧od=none∧Same H H'∧rdT t=none,?_,?_⟩
    · refine ⟨_,rfl,?_⟩
      refine sp_readf_i ht (fun e H' s'=>⟨rfl,rfl,rfl,s',e⟩) (fun g e a H' ea s'=>?_)
      refine ⟨_,rfl,?_⟩
      refine sp_isshI_i ea (rdT_isf e) ?_
      have:=q H' s'
      unfold wsB at this
      rw [e] at this
      exact this
    · rintro σ' cls od H' ⟨rfl,rfl,rfl,s',e⟩
      refine ⟨c.NoFraction,rfl,T.s1,fun a na=>?_⟩
      have:=q _ (s'.trans (Same.upd (o:=ExcO a c.NoFraction none) na))
      unfold wsB at this
      rw [e] at this
      exact this
theorem ok_stands_in_way {f:Addr} {fd:FuncData} (F:Fun K "stands_in_way" "stands_in_way" s_stands_in_way f fd) (T:Txt K mg c) (F_is_name:FnC CX0 P w K mg base 1 "is_name" ["thing"] sp_nmB) (F_writes_share:FnC CX0 P w K mg base 4 "writes_share" ["word"] sp_wsB) :
    FnOk P w K mg base CX0 5 f fd ["place", "word", "faces", "names"] sp_siwB:=by
  refine F.okw sc_stands_in_way (fun vs H Q E h=>?_) (fun cdv A outer s H vs Q E hr h=>?_)
  · unfold sp_siwB at h
    obtain ⟨p,F,t,b,ns,rfl,_⟩:=h
    rfl
  · unfold sp_siwB at h
    obtain ⟨p,F,t,b,ns,rfl,hb,ht,q⟩:=h
    refine ⟨_,(wss_cons (ws_if (wt_cmp op_eq (we_v 0) we_int (nomark _)) (wss_one (ws_ret (we_and (we_cmp op_eq (we_v 1) (we_glob (v:=.str (Str.ofString "way")) rfl T.g_WAY_WORD ⟨_,rfl⟩) (nomark _)) (we_one (we_cmp op_lt (we_cB cl_len (by rfl) T.b_len (by decide +kernel) (wa_k (we_v 3) wa_nil)) (we_glob (v:=.int 4) rfl T.g_MOST_NAMES ⟨_,rfl⟩) (nomark _)))))) wss_nil)
      (wss_cons (ws_if (wt_cmp op_eq (we_v 0) we_int (nomark _)) (wss_one (ws_ret (we_and (we_fn F_is_name (hr.mono (by decide)) (wa_k (we_v 1) wa_nil)) (we_one (we_cmp (op_notInK (K:=K)) (we_v 1) (we_v 3) (by with_unfolding_all rfl)))))) wss_nil)
      (wss_one (ws_ret (we_and (we_cmp op_lt (we_v 0) (we_op op_add we_int (we_v 2)) (nomark _)) (we_one (we_fn F_writes_share (hr.mono (by decide)) (wa_k (we_v 1) wa_nil)))))))),?_⟩
    refine ⟨_,rfl,rfl,_,rfl,?_⟩
    by_cases p0:p=0
    · subst p0
      refine iteT ?_
      rw [show siwB 0 t F ns=(decide (t=wWay)&&decide (ns.length<4)) from if_pos rfl] at q
      refine ⟨_,rfl,rfl,_,rfl,?_⟩
      by_cases hw:t=wWay
      · subst hw
        rw [show decide (V.str wWay=V.str (Str.ofString "way"))=true from decide_eq_true rfl]
        rw [decide_eq_true rfl,Bool.true_and] at q
        refine iteT ?_
        refine ⟨_,rfl,?_⟩
        refine rlL hb ?_
        refine ⟨_,_,rfl,rfl,?_⟩
        have:=q H (Same.refl _)
        rw [show decide (ns.length<4)=decide (((ns.map V.str).length:Int)<4) from decide_eq_decide.mpr (by rw [List.length_map]; omega)] at this
        exact this
      · rw [decide_eq_false (show ¬ V.str t=V.str (Str.ofString "way") from fun z=>hw (by injection z))]
        rw [decide_eq_false hw,Bool.false_and] at q
        exact iteF (q H (Same.refl _))
    · rw [decide_eq_false (show ¬ V.int (p:Int)=V.int 0 from fun z=>p0 (by injection z with z; omega))]
      refine iteF ?_
      refine ⟨_,rfl,rfl,_,rfl,?_⟩
      by_cases p1:p=1
      · subst p1
        refine iteT ?_
        rw [show siwB 1 t F ns=(nameS t && !decide (t∈ns)) from (if_neg (by decide)).trans (if_pos rfl)] at q
        refine ⟨_,rfl,?_⟩
        refine sp_nmB_i ht fun H1 s1=>?_
        refine ⟨_,rfl,?_⟩
        by_cases hn:nameS t=true
        · rw [hn] at q ⊢
          rw [Bool.true_and] at q
          refine iteT ?_
          refine ⟨_,rfl,_,rfl,?_⟩
          refine ⟨b,_,rfl,.inl (SqL.of (s1 _ _ hb)),rfl,vstr_flat _,?_⟩
          rw [inV_strs]
          exact q H1 s1
        · rw [show nameS t=false by simpa using hn] at q ⊢
          exact iteF (q H1 s1)
      · rw [decide_eq_false (show ¬ V.int (p:Int)=V.int 1 from fun z=>p1 (by injection z with z; omega))]
        rw [show siwB p t F ns=(decide (p<2+F)&&wsB t) from (if_neg p0).trans (if_neg p1)] at q
        refine iteF ?_
        refine ⟨_,rfl,_,rfl,_,_,rfl,rfl,_,_,rfl,rfl,_,rfl,?_⟩
        refine iteD (fun z=>?_) (fun z=>?_)
        · rw [decide_eq_true (show p<2+F by omega),Bool.true_and] at q
          refine ⟨_,rfl,?_⟩
          exact sp_wsB_i ht q
        · rw [decide_eq_false (show ¬ p<2+F by omega),Bool.false_and] at q
          exact q H (Same.refl _)
end
end Kw
set_option Elab.async false
set_option linter.all false
set_option maxRecDepth 100000
namespace Kw
open PySem L2 Mf Mt
theorem FnOk.calm {P:Program} {w:World} {K:PySem.W.Frag} {mg:Str→Option Value} {base:Heap} {k:Nat} {f:Addr} {fd:FuncData} {ps:List Str} {sp:Sp} (F:FnOk P w K mg base (CX1 P w) k f fd ps sp):FnOk P w K mg base CX0 k f fd ps (fun vs H Q _=>sp vs H Q E0) :=
  ⟨fun vs H Q E q=>F.len vs H Q E0 q,fun A outer s H args us vs Q E hr he hb hv hs=>codeAny_mono (F.run A outer s H args us vs Q E0 hr he hb hv hs) fun r s' h=>by
    cases r with
    | error e =>
      obtain ⟨_,_,_,_,_,_,_,_,_,_,_,_,_,_,_,z⟩:=h
      exact z.elim
    | ok fl=>cases fl <;> exact h⟩
theorem FnC.calm {P:Program} {w:World} {K:PySem.W.Frag} {mg:Str→Option Value} {base:Heap} {k:Nat} {n:Str} {ps:List Str} {sp:Sp} (F:FnC (CX1 P w) P w K mg base k n ps sp):FnC CX0 P w K mg base k n ps (fun vs H Q _=>sp vs H Q E0):=by
  obtain ⟨f,fd,h1,h2,h3,h4⟩:=F.ex
  exact ⟨f,fd,FnOk.calm h1,h2,h3,h4⟩
theorem str_at {ts:List Str} {i:Nat} {x:V} (hx:(ts.map V.str)[i]?=some x):∃ t,ts[i]?=some t∧x=V.str t:=by
  rw [List.getElem?_map] at hx
  cases q:ts[i]? with
  | none=>rw [q] at hx; cases hx
  | some t=>rw [q] at hx; cases hx; exact ⟨t,rfl,rfl⟩
theorem strs_idx {ts:List Str}:∀ {ys:List V},ys.length=ts.length→(∀ (i:Nat) (y:V),ys[i]?=some y→∃ t,ts[i]?=some t∧y=.str t)→ys=ts.map V.str:=by
  intro ys hl h
  apply List.ext_getElem?
  intro i
  rw [List.getElem?_map]
  cases q:ys[i]? with
  | none =>
    have:ts[i]?=none:=by
      rw [List.getElem?_eq_none_iff] at q ⊢
      omega
    rw [this]; rfl
  | some y =>
    obtain ⟨t,h1,rfl⟩:=h i y q
    rw [h1]; rfl
@[irreducible] def sp_rdfB (C:Addr):Sp:=fun vs H Q E=>∃ a rows,vs=[.ref a]∧H a=some (.lst ((rows.map lnOf).map V.str))∧(∀ r∈rows,RwOk r)∧(rows=[]→Flt C 0 0 H E)∧∀ r rest,rows=r::rest→(∀ k,facF r=some k→Flt C 0 (k:Int) H E)∧(facF r=none→∀ x H',Same H H'→Rep H' (.tuple ((r.drop 1).map .str)) x→Q x H')
theorem sp_rdfB_i {C:Addr} {H:Hp} {Q:VK} {E:XK} {a:Addr} {rows:List (List Str)} (ha:H a=some (.lst ((rows.map lnOf).map V.str))) (ok:∀ r∈rows,RwOk r) (e0:rows=[]→Flt C 0 0 H E) (q:∀ r rest,rows=r::rest→(∀ k,facF r=some k→Flt C 0 (k:Int) H E)∧(facF r=none→∀ x H',Same H H'→Rep H' (.tuple ((r.drop 1).map .str)) x→Q x H')):sp_rdfB C [.ref a] H Q E:=by unfold sp_rdfB; exact ⟨a,rows,rfl,ha,ok,e0,q⟩
@[irreducible] def sp_rdwB (C:Addr):Sp:=fun vs H Q E=>∃ (l:Int) (a b:Addr) (F:Nat) (ns r:List Str),vs=[.int l,.ref a,.int (F:Int),.ref b]∧H a=some (.lst (r.map V.str))∧RwOk r∧H b=some (.lst (ns.map V.str))∧ns.length≤60∧(∀ k,wayF r F ns=some k→Flt C l (k:Int) H E)∧(wayF r F ns=none→∀ x H',Same H H'→Rep H' (.tuple [.str (r.getD 1 ""),shD ((r.drop 2).map shOf)]) x→Q x H')
theorem sp_rdwB_i {C:Addr} {H:Hp} {Q:VK} {E:XK} {l:Int} {a b:Addr} {F:Nat} {ns r:List Str} (ha:H a=some (.lst (r.map V.str))) (ok:RwOk r) (hb:H b=some (.lst (ns.map V.str))) (hn:ns.length≤60) (e:∀ k,wayF r F ns=some k→Flt C l (k:Int) H E) (q:wayF r F ns=none→∀ x H',Same H H'→Rep H' (.tuple [.str (r.getD 1 ""),shD ((r.drop 2).map shOf)]) x→Q x H'):sp_rdwB C [.int l,.ref a,.int (F:Int),.ref b] H Q E:=by unfold sp_rdwB; exact ⟨l,a,b,F,ns,r,rfl,ha,ok,hb,hn,e,q⟩
theorem Flt.same {C:Addr} {l p:Int} {H H':Hp} {E:XK} (h:Flt C l p H E) (s:Same H H'):Flt C l p H' E:=fun H2 d s2 e=>h H2 d (s.trans s2) e
theorem facF_at {r:List Str} {k:Nat} (h:k<r.length) (hp:safB (r.take k) (r.getD k "")=false) (hb:∀ i,i<k→safB (r.take i) (r.getD i "")=true):facF r=some k:=by
  unfold facF
  rw [firstF_some.mpr ⟨h,hp,hb⟩]
theorem facF_end {r:List Str} (h:∀ i,i<r.length→safB (r.take i) (r.getD i "")=true):facF r=if r.length<3 then some r.length else none:=by
  unfold facF
  rw [firstF_none.mpr h]
theorem wayF_at {r:List Str} {F k:Nat} {ns:List Str} (h:k<r.length) (hp:siwB k (r.getD k "") F ns=false) (hb:∀ i,i<k→siwB i (r.getD i "") F ns=true):wayF r F ns=some k:=by
  unfold wayF
  rw [firstF_some.mpr ⟨h,hp,hb⟩]
theorem wayF_end {r:List Str} {F:Nat} {ns:List Str} (h:∀ i,i<r.length→siwB i (r.getD i "") F ns=true):wayF r F ns=if r.length<2+F then some r.length else none:=by
  unfold wayF
  rw [firstF_none.mpr h]
theorem getD_at {r:List Str} {i:Nat} {t:Str} (h:r[i]?=some t):r.getD i "" = t:=by rw [List.getD_eq_getElem?_getD,h]; rfl
section
variable {P:Program} {w:World} {K:PySem.W.Frag} {mg:Str→Option Value} {base:Heap} {c:Cl}
set_option maxHeartbeats 4000000 in
theorem ok_read_faces {f:Addr} {fd:FuncData} (F:Fun K "read_faces" "read_faces" s_read_faces f fd) (T:Txt K mg c) (F_NoTrial___init__:FnI P w K mg base 1 c.NoTrial ["self", "line", "word"] (sp_ini2 c.NoTrial)) (F_stands_among_faces:FnC CX0 P w K mg base 2 "stands_among_faces" ["ahead", "word"] sp_safB):FnOk P w K mg base (CX1 P w) 3 f fd ["lines"] (sp_rdfB c.NoTrial):=by
  refine F.okx sc_read_faces (fun vs H Q E h=>?_) (fun cdv A outer s H vs Q E hr h hx hmd=>?_)
  · unfold sp_rdfB at h
    obtain ⟨a,rows,rfl,_⟩:=h
    rfl
  · unfold sp_rdfB at h
    obtain ⟨a,rows,rfl,ha,ok,e0,q⟩:=h
    refine ⟨_,(wss_cons (ws_if (wt_cmp op_eq (we_cB cl_len (by rfl) T.b_len (by decide +kernel) (wa_k (we_v 0) wa_nil)) we_int (nomark _)) (wss_one (ws_raiseX F_NoTrial___init__ T.g_NoTrial rfl (hr.mono (by decide)) xmadeG_fn (wa_k we_int (wa_k we_int wa_nil)))) wss_nil)
      (wss_cons (ws_set (i:=1) sc_read_faces.nd rfl (Or.inl rfl) (we_bm PySem.F.plainAttrs_str PySem.F.slot_str_split PySem.F.type_str_split mt_split (we_ix ix_seq (we_v 0) we_int (fun _ _=>rfl)) (wa_k we_str wa_nil)))
      (wss_cons (ws_for PassesOwn.leaving rfl (wi_enum false rfl T.b_enumerate (wa_k (we_v 1) wa_nil)) (wg_tup rfl (wgs_cons (wg_name (i:=2) sc_read_faces.nd rfl (Or.inl rfl)) (wgs_cons (wg_name (i:=3) sc_read_faces.nd rfl (Or.inl rfl)) wgs_nil))) (wss_one (ws_if (wt_not (wt_val (we_fn F_stands_among_faces (hr.mono (by decide)) (wa_k (we_slice (sl_listN K) (we_v 1) wo_none (wo_some (we_v 2))) (wa_k (we_v 3) wa_nil))))) (wss_one (ws_raiseX F_NoTrial___init__ T.g_NoTrial rfl (hr.mono (by decide)) xmadeG_fn (wa_k we_int (wa_k (we_v 2) wa_nil)))) wss_nil)))
      (wss_cons (ws_if (wt_cmp op_lt (we_cB cl_len (by rfl) T.b_len (by decide +kernel) (wa_k (we_v 1) wa_nil)) (we_op op_add we_int (we_glob (v:=.int 2) rfl T.g_LEAST_NAMES ⟨_,rfl⟩)) (nomark _)) (wss_one (ws_raiseX F_NoTrial___init__ T.g_NoTrial rfl (hr.mono (by decide)) xmadeG_fn (wa_k we_int (wa_k (we_cB cl_len (by rfl) T.b_len (by decide +kernel) (wa_k (we_v 1) wa_nil)) wa_nil)))) wss_nil)
      (wss_one (ws_ret (we_cT call_tuple_of (by rfl) T.b_tuple (by decide +kernel) (wa_k (we_slice (sl_listN K) (we_v 1) (wo_some we_int) wo_none) wa_nil)))))))),?_⟩
    refine ⟨_,rfl,?_⟩
    refine rlL ha ?_
    refine ⟨rfl,_,rfl,?_⟩
    cases rows with
    | nil =>
      refine iteT ?_
      exact rz08 (e0 rfl)
    | cons r rest =>
      have okr:=ok r (List.mem_cons_self ..)
      obtain ⟨qf,qn⟩:=q r rest rfl
      have sb:=okr.back
      have ll:=okr.ll
      have lr:=okr.len
      rw [decide_eq_false (show ¬ V.int ((((r::rest).map lnOf).map V.str).length:Int)=V.int 0 from fun z=>by injection z with z; rw [List.length_map,List.length_map,List.length_cons] at z; omega)]
      refine iteF ?_
      refine ⟨_,rfl,?_⟩
      refine ixL ha (atI_nat (j:=0) rfl) ?_
      refine ⟨rfl,?_⟩
      refine rsplit (b:=bk) (by decide +kernel) (line20 (by omega)) (by rw [sb]; exact line20 (by omega)) fun p1 H1 hp1 e1 s1=>?_
      rw [sb] at e1
      refine ⟨_,rfl,p1,_,rfl,e1,?_⟩
      refine for_enum (n:=0) (xs:=r.map V.str) (fun i σ H'=>∃ o2 o3:Option V,σ=[some (.ref a),some (.ref p1),o2,o3]∧Same H1 H'∧∀ j,j<i→safB (r.take j) (r.getD j "")=true) ⟨_,_,rfl,Same.refl _,fun j hj=>by omega⟩ (fun i σ H' p=>?_) ?_ ?_
      · obtain ⟨o2,o3,_,s',_⟩:=p
        exact s' _ _ e1
      · rintro i x q3 σ H2 H3 hx ⟨o2,o3,rfl,s2,hb⟩ hq3 e3 s3
        obtain ⟨t,ht,rfl⟩:=str_at hx
        have hi:i<r.length:=(List.getElem?_eq_some_iff.mp ht).1
        have et:=getD_at ht
        have hz:=okr.sz t (List.mem_of_getElem? ht)
        refine ⟨q3,_,rfl,SqT.of e3,rfl,_,_,rfl,_,_,rfl,rfl,?_⟩
        refine ⟨_,rfl,_,rfl,_,rfl,?_⟩
        refine slL (s3 _ _ (s2 _ _ e1)) (ys:=(r.take i).map V.str) (by rw [show (0:Int)+(i:Nat)=((i:Nat):Int) by omega,cutV_hi,List.map_take]) fun q4 H4 hq4 e4 s4=>?_
        refine ⟨_,rfl,?_⟩
        refine sp_safB_i e4 (by rw [List.length_take]; omega) (by omega) fun H5 s5=>?_
        refine ⟨_,rfl,?_⟩
        have S5:=((s2.trans s3).trans s4).trans s5
        by_cases hs:safB (r.take i) t=true
        · rw [hs]
          refine iteF ?_
          refine ⟨_,_,rfl,S5,fun j hj=>?_⟩
          by_cases ej:j=i
          · subst ej; rw [et]; exact hs
          · exact hb j (by omega)
        · have hs':safB (r.take i) t=false:=by simpa using hs
          rw [hs']
          refine iteT ?_
          refine ⟨_,rfl,?_⟩
          have:=(qf i (facF_at hi (by rw [et]; exact hs') hb)).same (s1.trans S5)
          rw [show ((i:Nat):Int)=0+(i:Nat) by omega] at this
          exact rz08 this
      · rintro σ H2 ⟨o2,o3,rfl,s2,hb⟩
        rw [List.length_map] at hb
        have ef:=facF_end hb
        refine ⟨_,rfl,?_⟩
        refine rlL (s2 _ _ e1) ?_
        rw [List.length_map]
        refine ⟨_,_,rfl,rfl,_,_,rfl,rfl,_,rfl,?_⟩
        refine iteD (fun z=>?_) (fun z=>?_)
        · rw [if_pos (show r.length<3 by omega)] at ef
          refine ⟨_,rfl,?_⟩
          refine rlL (s2 _ _ e1) ?_
          rw [List.length_map]
          exact rz08 ((qf _ ef).same (s1.trans s2))
        · rw [if_neg (show ¬ r.length<3 by omega)] at ef
          refine ⟨_,rfl,_,rfl,?_⟩
          refine slL (s2 _ _ e1) (ys:=(r.drop 1).map V.str) (by rw [show (1:Int)=((1:Nat):Int) from rfl,cutV_lo,List.map_drop]) fun q4 H4 hq4 e4 s4=>?_
          refine ⟨q4,_,rfl,.inl ⟨SqL.of e4,fun l hl=>?_⟩⟩
          have sl:=Same.upd (o:=.tup ((r.drop 1).map V.str)) hl
          have el:(upd H4 l (.tup ((r.drop 1).map V.str))) l=some (.tup ((r.drop 1).map V.str)):=upd_same
          generalize upd H4 l (.tup ((r.drop 1).map V.str))=H5 at sl el
          exact qn ef _ H5 (((s1.trans s2).trans s4).trans sl) (Rep.tup el (RepL_strs _))
set_option maxHeartbeats 4000000 in
theorem ok_read_way {f:Addr} {fd:FuncData} (F:Fun K "read_way" "read_way" s_read_way f fd) (T:Txt K mg c) (F_NoTrial___init__:FnI P w K mg base 1 c.NoTrial ["self", "line", "word"] (sp_ini2 c.NoTrial)) (F_stands_in_way:FnC CX0 P w K mg base 5 "stands_in_way" ["place", "word", "faces", "names"] sp_siwB) (F_read_fraction:FnC (CX1 P w) P w K mg base 3 "read_fraction" ["text"] (sp_readf c.NoFraction)):FnOk P w K mg base (CX1 P w) 6 f fd ["line", "words", "faces", "names"] (sp_rdwB c.NoTrial):=by
  refine F.okx sc_read_way (fun vs H Q E h=>?_) (fun cdv A outer s H vs Q E hr h hx hmd=>?_)
  · unfold sp_rdwB at h
    obtain ⟨l,a,b,F,ns,r,rfl,_⟩:=h
    rfl
  · unfold sp_rdwB at h
    obtain ⟨l,a,b,F,ns,r,rfl,ha,ok,hb,hn,e,q⟩:=h
    have lr:=ok.len
    refine ⟨_,(wss_cons (ws_for PassesOwn.leaving rfl (wi_enum false rfl T.b_enumerate (wa_k (we_v 1) wa_nil)) (wg_tup rfl (wgs_cons (wg_name (i:=4) sc_read_way.nd rfl (Or.inl rfl)) (wgs_cons (wg_name (i:=5) sc_read_way.nd rfl (Or.inl rfl)) wgs_nil))) (wss_one (ws_if (wt_not (wt_val (we_fn F_stands_in_way (hr.mono (by decide)) (wa_k (we_v 4) (wa_k (we_v 5) (wa_k (we_v 2) (wa_k (we_v 3) wa_nil))))))) (wss_one (ws_raiseX F_NoTrial___init__ T.g_NoTrial rfl (hr.mono (by decide)) xmadeG_fn (wa_k (we_v 0) (wa_k (we_v 4) wa_nil)))) wss_nil)))
      (wss_cons (ws_if (wt_cmp op_lt (we_cB cl_len (by rfl) T.b_len (by decide +kernel) (wa_k (we_v 1) wa_nil)) (we_op op_add we_int (we_v 2)) (nomark _)) (wss_one (ws_raiseX F_NoTrial___init__ T.g_NoTrial rfl (hr.mono (by decide)) xmadeG_fn (wa_k (we_v 0) (wa_k (we_cB cl_len (by rfl) T.b_len (by decide +kernel) (wa_k (we_v 1) wa_nil)) wa_nil)))) wss_nil)
      (wss_one (ws_ret (we_tup (wa_k (we_ix ix_seq (we_v 1) we_int (fun _ _=>rfl)) (wa_k (we_cT call_tuple_of (by rfl) T.b_tuple (by decide +kernel) (wa_k (we_comp (CScope.of (psc:=defScope s_read_way) (N:=["line", "words", "faces", "names", "place", "word"]) (N':=["word"]) (js:=[]) (by decide +kernel) rfl rfl rfl) (wi_list (we_slice (sl_listN K) (we_v 1) (wo_some we_int) wo_none)) (fun _ _ _ _=>wts_nil) (fun _ _ _ _=>(we_fn (k:=3) (FnC.calm F_read_fraction) (hr.mono (by decide)) (wa_k (we_v 0) wa_nil)))) wa_nil)) wa_nil))))))),?_⟩
    refine ⟨_,rfl,a,_,rfl,ha,?_⟩
    refine for_enum (n:=0) (xs:=r.map V.str) (fun i σ H'=>∃ o2 o3:Option V,σ=[some (.int l),some (.ref a),some (.int (F:Int)),some (.ref b),o2,o3]∧Same H H'∧∀ j,j<i→siwB j (r.getD j "") F ns=true) ⟨_,_,rfl,Same.refl _,fun j hj=>by omega⟩ (fun i σ H' p=>?_) ?_ ?_
    · obtain ⟨o2,o3,_,s',_⟩:=p
      exact s' _ _ ha
    · rintro i x q3 σ H2 H3 hx ⟨o2,o3,rfl,s2,hbb⟩ hq3 e3 s3
      obtain ⟨t,ht,rfl⟩:=str_at hx
      have hi:i<r.length:=(List.getElem?_eq_some_iff.mp ht).1
      have et:=getD_at ht
      have hz:=ok.sz t (List.mem_of_getElem? ht)
      refine ⟨q3,_,rfl,SqT.of e3,rfl,_,_,rfl,_,_,rfl,rfl,?_⟩
      refine ⟨_,rfl,_,rfl,_,rfl,_,rfl,?_⟩
      rw [show (0:Int)+(i:Nat)=((i:Nat):Int) by omega]
      refine sp_siwB_i (s3 _ _ (s2 _ _ hb)) (by omega) fun H5 s5=>?_
      refine ⟨_,rfl,?_⟩
      have S5:=(s2.trans s3).trans s5
      by_cases hs:siwB i t F ns=true
      · rw [hs]
        refine iteF ?_
        refine ⟨_,_,rfl,S5,fun j hj=>?_⟩
        by_cases ej:j=i
        · subst ej; rw [et]; exact hs
        · exact hbb j (by omega)
      · have hs':siwB i t F ns=false:=by simpa using hs
        rw [hs']
        refine iteT ?_
        refine ⟨_,rfl,_,rfl,?_⟩
        exact rz08 ((e i (wayF_at hi (by rw [et]; exact hs') hbb)).same S5)
    · rintro σ H2 ⟨o2,o3,rfl,s2,hbb⟩
      rw [List.length_map] at hbb
      have ef:=wayF_end hbb
      refine ⟨_,rfl,?_⟩
      refine rlL (s2 _ _ ha) ?_
      rw [List.length_map]
      refine ⟨_,rfl,_,_,rfl,rfl,_,_,rfl,rfl,_,rfl,?_⟩
      refine iteD (fun z=>?_) (fun z=>?_)
      · rw [if_pos (show r.length<2+F by omega)] at ef
        refine ⟨_,rfl,_,rfl,?_⟩
        refine rlL (s2 _ _ ha) ?_
        rw [List.length_map]
        exact rz08 ((e _ ef).same s2)
      · rw [if_neg (show ¬ r.length<2+F by omega)] at ef
        have q:=q ef
        have l2:2≤r.length:=by omega
        refine ⟨_,rfl,?_⟩
        refine ixL (s2 _ _ ha) (v:=.str (r.getD 1 "")) (atI_nat (j:=1) (by rw [List.getElem?_map,List.getElem?_eq_getElem (show 1<r.length by omega),List.getD_eq_getElem?_getD,List.getElem?_eq_getElem (show 1<r.length by omega)]; rfl)) ?_
        refine ⟨_,rfl,_,rfl,?_⟩
        refine slL (s2 _ _ ha) (ys:=(r.drop 2).map V.str) (by rw [show (2:Int)=((2:Nat):Int) from rfl,cutV_lo,List.map_drop]) fun q4 H4 hq4 e4 s4=>?_
        refine ⟨q4,rfl,⟨_,SqL.of e4⟩,?_⟩
        refine comp_mapL (fun j y H'=>∃ g,((r.drop 2).map shOf)[j]?=some g∧Rep H' (frD g) y) (fun j y H1 H2 s ⟨g,h1,h2⟩=>⟨g,h1,h2.flat s (frD_flat _)⟩) (by rw [List.length_map,List.length_drop]; omega) e4 (fun j x H' Q' hx s' k'=>?_) (fun D ys H5 hD hD5 s5 hy hr5=>?_)
        · obtain ⟨t,ht,rfl⟩:=str_at hx
          have ht2:r[2+j]?=some t:=by rw [List.getElem?_drop] at ht; exact ht
          have hz:=ok.sz t (List.mem_of_getElem? ht2)
          have hw:=hbb (2+j) (List.getElem?_eq_some_iff.mp ht2).1
          rw [getD_at ht2,show siwB (2+j) t F ns=(decide (2+j<2+F)&&wsB t) from (if_neg (by omega)).trans (if_neg (by omega)),Bool.and_eq_true] at hw
          have hws:=hw.2
          unfold wsB at hws
          refine ⟨_,rfl,?_⟩
          show sp_readf c.NoFraction [.str t] H' _ E0
          refine sp_readf_i (by omega) (fun e=>by rw [e] at hws; cases hws) (fun g' e a' H6 ea s6=>?_)
          refine k' _ H6 s6 ⟨g',?_,frD_of ea⟩
          rw [List.getElem?_map,ht]
          show some (shOf t)=_
          unfold shOf
          rw [e]; rfl
        · refine ⟨D,ys,rfl,.inl ⟨SqL.of hD5,fun l2 hl2=>?_⟩⟩
          have sl:=Same.upd (o:=.tup ys) hl2
          have el:(upd H5 l2 (.tup ys)) l2=some (.tup ys):=upd_same
          generalize upd H5 l2 (.tup ys)=H6 at sl el
          refine nwT (by show 2≤64; decide) fun q7 H7 hq7 e7 s7=>?_
          refine q _ H7 ((((s2.trans s4).trans s5).trans sl).trans s7) (Rep.tup e7 (RepL.cons (Rep.str _) (RepL.cons (Rep.tup (s7 _ _ el) ?_) RepL.nil)))
          refine RepL.ofIdx (by rw [hy,List.length_map,List.length_map,List.length_map]) fun j y hj=>?_
          obtain ⟨g,h1,h2⟩:=hr5 j y hj
          exact ⟨_,by rw [List.getElem?_map,h1]; rfl,(h2.same sl).same s7⟩
end
end Kw
set_option Elab.async false
set_option linter.all false
set_option maxRecDepth 100000
namespace Kw
open PySem L2 Mf Mt
abbrev nm (r:List Str):Str:=r.getD 1 ""
abbrev shs (r:List Str):List Fr:=(r.drop 2).map shOf
abbrev wayO (r:List Str):Str × List Fr:=(nm r,shs r)
abbrev wayA (rest:List (List Str)) (F i:Nat):Option Nat:=wayF (rest.getD i []) F ((rest.take i).map nm)
def waysF (rest:List (List Str)) (F:Nat):Option (Nat × Nat):=(List.range rest.length).findSome? fun i=>(wayA rest F i).map fun k=>(i+1,k)
theorem waysF_none {rest:List (List Str)} {F:Nat}:waysF rest F=none ↔ ∀ i,i<rest.length→wayA rest F i=none:=by
  unfold waysF
  rw [List.findSome?_eq_none_iff]
  constructor
  · intro h i hi
    have:=h i (List.mem_range.mpr hi)
    simpa using this
  · intro h i hi
    rw [h i (List.mem_range.mp hi)]; rfl
theorem findSome_range {β:Type} {f:Nat→Option β} {i:Nat} {b:β} (h1:f i=some b):∀ {n:Nat},i<n→(∀ j,j<i→f j=none)→(List.range n).findSome? f=some b
  | 0,h,_=>by omega
  | n+1,h,hb=>by
    rw [List.range_succ,List.findSome?_append]
    by_cases e:i=n
    · subst e
      rw [List.findSome?_eq_none_iff.mpr fun j hj=>hb j (List.mem_range.mp hj)]
      simp [h1]
    · rw [findSome_range h1 (by omega) hb]; rfl
theorem waysF_at {rest:List (List Str)} {F i k:Nat} (hi:i<rest.length) (h:wayA rest F i=some k) (hb:∀ j,j<i→wayA rest F j=none):waysF rest F=some (i+1,k):=by
  unfold waysF
  exact findSome_range (by rw [h]; rfl) hi fun j hj=>by rw [hb j hj]; rfl
theorem takeK08 {α:Type} {l:List α} {i:Nat} {a:α} (h:l[i]?=some a):l.take (i+1)=l.take i++[a]:=by rw [List.take_add_one,h]; rfl
def sumF (rest:List (List Str)):Option Nat:=firstF (fun i=>decide (totF (shs (rest.getD i []))=(1,1))) rest.length
def resF:List (List Str)→Except (Nat × Nat) (List Str × List (Str × List Fr))
  | []=>.error (0,0)
  | r::rest=>match facF r with
    | some k=>.error (0,k)
    | none=>match waysF rest (r.length - 1) with
      | some e=>.error e
      | none=>if rest.length<2 then .error (rest.length+1,0) else match sumF rest with
        | some i=>.error (i+1,2)
        | none=>.ok (r.drop 1,rest.map wayO)
theorem facF_ok {r:List Str} (h:facF r=none):3≤r.length∧r.length≤5:=by
  unfold facF at h
  split at h
  · cases h
  · rename_i e
    split at h
    · cases h
    · rename_i hl
      have hb:=firstF_none.mp e (r.length - 1) (by omega)
      have hb:safB (r.take (r.length - 1)) (r.getD (r.length - 1) "")=true:=hb
      unfold safB at hb
      rw [if_neg (fun z=>by have:=congrArg List.length z; rw [List.length_take,List.length_nil] at this; omega),Bool.and_eq_true,decide_eq_true_eq,List.length_take] at hb
      omega
theorem wayF_ok {r:List Str} {F:Nat} {ns:List Str} (h:wayF r F ns=none) (ok:RwOk r):(shs r).length=F∧∀ f∈shs r,ShF f:=by
  unfold wayF at h
  split at h
  · cases h
  · rename_i e
    split at h
    · cases h
    · rename_i hl
      have hb:=firstF_none.mp e
      have at2:∀ k,2≤k→k<r.length→k<2+F∧wsB (r.getD k "")=true:=fun k h2 hk=>by
        have:=hb k hk
        have:siwB k (r.getD k "") F ns=true:=this
        rw [show siwB k (r.getD k "") F ns=(decide (k<2+F)&&wsB (r.getD k "")) from (if_neg (by omega)).trans (if_neg (by omega)),Bool.and_eq_true,decide_eq_true_eq] at this
        exact this
      refine ⟨?_,fun f hf=>?_⟩
      · show ((r.drop 2).map shOf).length=F
        rw [List.length_map,List.length_drop]
        rcases Nat.lt_or_ge (2+F) r.length with q | q
        · have:=(at2 (2+F) (by omega) q).1
          omega
        · omega
      · obtain ⟨t,ht,rfl⟩:=List.mem_map.mp hf
        obtain ⟨j,hj⟩:=List.mem_iff_getElem?.mp ht
        rw [List.getElem?_drop] at hj
        have hw:=(at2 (2+j) (by omega) (List.getElem?_eq_some_iff.mp hj).1).2
        rw [getD_at hj] at hw
        have hm:=List.mem_of_getElem? hj
        unfold wsB at hw
        unfold shOf
        cases hr:rdT t with
        | none=>rw [hr] at hw; cases hw
        | some g =>
          rw [hr] at hw
          have hw:(decide (0≤g.1)&&decide (g.1≤g.2))=true:=hw
          rw [Bool.and_eq_true,decide_eq_true_eq,decide_eq_true_eq] at hw
          have hi:=rdT_isf hr
          have hi:(decide (1≤g.2)&&decide (Int.gcd g.1 g.2=1))=true:=hi
          rw [Bool.and_eq_true,decide_eq_true_eq,decide_eq_true_eq] at hi
          exact ⟨⟨by show 0<g.2; omega,hi.2⟩,hw.1,hw.2,ok.dn t hm g hr⟩
@[irreducible] def sp_rdtB (C:Addr):Sp:=fun vs H Q E=>∃ a rows,vs=[.ref a]∧H a=some (.lst ((rows.map lnOf).map V.str))∧(∀ r∈rows,RwOk r)∧rows.length≤40∧(∀ l k,resF rows=.error (l,k)→Flt C (l:Int) (k:Int) H E)∧∀ fs ws,resF rows=.ok (fs,ws)→∀ x H',Same H H'→Rep H' (trD fs ws) x→Q x H'
theorem sp_rdtB_i {C:Addr} {H:Hp} {Q:VK} {E:XK} {a:Addr} {rows:List (List Str)} (ha:H a=some (.lst ((rows.map lnOf).map V.str))) (ok:∀ r∈rows,RwOk r) (hl:rows.length≤40) (e:∀ l k,resF rows=.error (l,k)→Flt C (l:Int) (k:Int) H E) (q:∀ fs ws,resF rows=.ok (fs,ws)→∀ x H',Same H H'→Rep H' (trD fs ws) x→Q x H'):sp_rdtB C [.ref a] H Q E:=by unfold sp_rdtB; exact ⟨a,rows,rfl,ha,ok,hl,e,q⟩
section
variable {P:Program} {w:World} {K:PySem.W.Frag} {mg:Str→Option Value} {base:Heap} {c:Cl}
set_option maxHeartbeats 8000000 in
theorem ok_read_trial {f:Addr} {fd:FuncData} (F:Fun K "read_trial" "read_trial" s_read_trial f fd) (T:Txt K mg c) (F_NoTrial___init__:FnI P w K mg base 1 c.NoTrial ["self", "line", "word"] (sp_ini2 c.NoTrial)) (F_read_faces:FnC (CX1 P w) P w K mg base 3 "read_faces" ["lines"] (sp_rdfB c.NoTrial)) (F_read_way:FnC (CX1 P w) P w K mg base 6 "read_way" ["line", "words", "faces", "names"] (sp_rdwB c.NoTrial)) (F_are_parts:FnC CX0 P w K mg base 5 "are_parts" ["thing", "many"] sp_arepB):FnOk P w K mg base (CX1 P w) 7 f fd ["lines"] (sp_rdtB c.NoTrial):=by
  refine F.okx sc_read_trial (fun vs H Q E h=>?_) (fun cdv A outer s H vs Q E hr h hx hmd=>?_)
  · unfold sp_rdtB at h
    obtain ⟨a,rows,rfl,_⟩:=h
    rfl
  · unfold sp_rdtB at h
    obtain ⟨a,rows,rfl,ha,ok,h40,e,q⟩:=h
    refine ⟨_,(wss_cons (ws_set (i:=1) sc_read_trial.nd rfl (Or.inl rfl) (we_fnX F_read_faces (hr.mono (by decide)) hx (wa_k (we_v 0) wa_nil)))
      (wss_cons (ws_set (i:=2) sc_read_trial.nd rfl (Or.inl rfl) (we_lst wa_nil))
      (wss_cons (ws_for PassesOwn.leaving rfl (wi_range2 rfl T.b_range (wa_k we_int (wa_k (we_cB cl_len (by rfl) T.b_len (by decide +kernel) (wa_k (we_v 0) wa_nil)) wa_nil))) (wg_name (i:=3) sc_read_trial.nd rfl (Or.inl rfl)) (wss_one (ws_expr (we_bm PySem.F.plainAttrs_list PySem.F.slot_list_append PySem.F.type_list_append mt_app (we_v 2) (wa_k (we_fnX F_read_way (hr.mono (by decide)) hx (wa_k (we_v 3) (wa_k (we_bm PySem.F.plainAttrs_str PySem.F.slot_str_split PySem.F.type_str_split mt_split (we_ix ix_seq (we_v 0) (we_v 3) (fun _ _=>rfl)) (wa_k we_str wa_nil)) (wa_k (we_cB cl_len (by rfl) T.b_len (by decide +kernel) (wa_k (we_v 1) wa_nil)) (wa_k (we_comp (CScope.of (psc:=defScope s_read_trial) (N:=["lines", "faces", "ways", "line", "way"]) (N':=["way"]) (js:=[]) (by decide +kernel) rfl rfl rfl) (wi_list (we_v 2)) (fun _ _ _ _=>wts_nil) (fun _ _ _ _=>(we_ix (ix_seqK K) (we_v 0) we_int (fun _ _=>rfl)))) wa_nil))))) wa_nil)))))
      (wss_cons (ws_if (wt_cmp op_lt (we_cB cl_len (by rfl) T.b_len (by decide +kernel) (wa_k (we_v 2) wa_nil)) (we_glob (v:=.int 2) rfl T.g_LEAST_NAMES ⟨_,rfl⟩) (nomark _)) (wss_one (ws_raiseX F_NoTrial___init__ T.g_NoTrial rfl (hr.mono (by decide)) xmadeG_fn (wa_k (we_cB cl_len (by rfl) T.b_len (by decide +kernel) (wa_k (we_v 0) wa_nil)) (wa_k we_int wa_nil)))) wss_nil)
      (wss_cons (ws_for PassesOwn.leaving rfl (wi_enumS false rfl T.b_enumerate (wa_k (we_v 2) wa_nil) we_int (fun _ _ _=>Iff.rfl)) (wg_tup rfl (wgs_cons (wg_name (i:=3) sc_read_trial.nd rfl (Or.inl rfl)) (wgs_cons (wg_name (i:=4) sc_read_trial.nd rfl (Or.inl rfl)) wgs_nil))) (wss_one (ws_if (wt_not (wt_val (we_fn F_are_parts (hr.mono (by decide)) (wa_k (we_ix ix_seq (we_v 4) we_int (fun _ _=>rfl)) (wa_k (we_cB cl_len (by rfl) T.b_len (by decide +kernel) (wa_k (we_v 1) wa_nil)) wa_nil))))) (wss_one (ws_raiseX F_NoTrial___init__ T.g_NoTrial rfl (hr.mono (by decide)) xmadeG_fn (wa_k (we_v 3) (wa_k we_int wa_nil)))) wss_nil)))
      (wss_one (ws_ret (we_tup (wa_k (we_v 1) (wa_k (we_cT call_tuple_of (by rfl) T.b_tuple (by decide +kernel) (wa_k (we_v 2) wa_nil)) wa_nil)))))))))),?_⟩
    refine ⟨_,rfl,?_⟩
    refine sp_rdfB_i ha ok (fun z=>by subst z; exact e 0 0 rfl) fun r rest er=>⟨fun k hk=>?_,fun hk x H1 s1 r1=>?_⟩
    · subst er
      exact e 0 k (by show (match facF r with | some k=>Except.error (0,k) | none=>_)=_; rw [hk])
    subst er
    obtain ⟨F3,F5⟩:=facF_ok hk
    obtain ⟨Fn,hFn⟩:∃ Fn,Fn=r.length - 1:=⟨_,rfl⟩
    have eres:resF (r::rest)=match waysF rest Fn with
      | some e=>.error e
      | none=>if rest.length<2 then .error (rest.length+1,0) else match sumF rest with
        | some i=>.error (i+1,2)
        | none=>.ok (r.drop 1,rest.map wayO):=by
      rw [hFn]
      show (match facF r with | some k=>Except.error (0,k) | none=>_)=_
      rw [hk]
    rw [eres] at e q
    have hrest:rest.length≤39:=by rw [List.length_cons] at h40; omega
    obtain ⟨af,xf,rfl,haf,rf⟩:=tup_at r1
    have lf:=reps_len rf
    rw [List.length_drop,← hFn] at lf
    refine nwL (by show 0≤64; decide) fun L H2 hL e2 s2=>?_
    have hL0:=s1.free hL
    refine ⟨_,rfl,?_⟩
    refine rlL (s2 _ _ (s1 _ _ ha)) ?_
    rw [List.length_map,List.length_map,List.length_cons]
    refine ⟨_,_,rfl,⟨by decide,by decide,by omega,by omega⟩,?_⟩
    rw [show (((rest.length+1:Nat):Int) - 1).toNat=rest.length by omega]
    refine for_range (fun i σ H'=>∃ (o3:Option V) (vs:List V),σ=[some (.ref a),some (.ref af),some (.ref L),o3,none]∧Same H1 H'∧H' L=some (.lst vs)∧RepL H' (((rest.take i).map wayO).map wD) vs∧∀ j,j<i→wayA rest Fn j=none) ⟨_,[],rfl,s2,e2,RepL.nil,fun j hj=>by omega⟩ ?_ ?_
    · rintro i σ H3 hi ⟨o3,vs,rfl,s3,e3,r3,hb⟩
      have lv:=reps_len r3
      rw [List.length_map,List.length_take] at lv
      have ew:rest[i]?=some rest[i]:=List.getElem?_eq_getElem hi
      generalize rest[i]=ri at ew
      have wm:=List.mem_of_getElem? ew
      have okr:=ok ri (List.mem_cons_of_mem _ wm)
      have sb:=okr.back
      have ll:=okr.ll
      have lr:=okr.len
      refine ⟨_,rfl,tyL e3,_,rfl,_,rfl,_,rfl,?_⟩
      have hat:atI (((r::rest).map lnOf).map V.str) (1+(i:Int))=some (V.str (lnOf ri)):=by
        rw [show (1:Int)+(i:Int)=((i+1:Nat):Int) by omega]
        refine atI_nat ?_
        rw [List.getElem?_map,List.getElem?_map,List.getElem?_cons_succ,ew]; rfl
      refine ixL (s3 _ _ (s1 _ _ ha)) hat ?_
      refine ⟨rfl,?_⟩
      refine rsplit (b:=bk) (by decide +kernel) (line20 (by omega)) (by rw [sb]; exact line20 (by omega)) fun p1 H4 hp1 e4 s4=>?_
      rw [sb] at e4
      refine ⟨_,rfl,?_⟩
      refine rlT (s4 _ _ (s3 _ _ haf)) ?_
      rw [lf]
      refine ⟨_,rfl,L,rfl,⟨_,SqL.of (s4 _ _ e3)⟩,?_⟩
      refine comp_mapL (fun j y _=>∃ t,((rest.take i).map nm)[j]?=some t∧y=.str t) (fun _ _ _ _ _ h=>h) (by omega) (s4 _ _ e3) (fun j x H' Q' hx s' k'=>?_) (fun D ys H5 hD hD5 s5 hy hr5=>?_)
      · obtain ⟨g,hg,rg⟩:=reps_get r3 hx
        obtain ⟨ag,xg,rfl,hag,rxg⟩:=tup_at ((rg.same s4).same s')
        obtain ⟨u,v,rfl,ru,rv⟩:=RepL_two rxg
        cases (show u=V.str g.1 from ru)
        refine ⟨_,rfl,?_⟩
        refine ixT hag rfl ?_
        refine k' _ H' (Same.refl _) ⟨g.1,?_,rfl⟩
        rw [List.getElem?_map] at hg ⊢
        obtain ⟨r0,h0,rfl⟩:=Option.map_eq_some_iff.mp hg
        rw [h0]; rfl
      · have ey:=strs_idx (ts:=(rest.take i).map nm) (by rw [hy,List.length_map,List.length_take]; omega) hr5
        subst ey
        have ewa:wayA rest Fn i=wayF ri Fn ((rest.take i).map nm):=by
          show wayF (rest.getD i []) Fn _=_
          rw [List.getD_eq_getElem?_getD,ew]; rfl
        refine sp_rdwB_i (s5 _ _ e4) okr hD5 (by rw [List.length_map,List.length_take]; omega) (fun k hk=>?_) fun hk x H6 s6 r6=>?_
        · have:=e (i+1) k (by rw [waysF_at hi (by rw [ewa]; exact hk) hb])
          rw [show ((i+1:Nat):Int)=1+(i:Int) by omega] at this
          exact this.same (((s1.trans s3).trans s4).trans s5)
        · have S6:=(s4.trans s5).trans s6
          refine appL (S6 _ _ e3) (by omega) fun H7 e7 s7=>?_
          have t7:=s7.t (S6 _ _ e3)
          refine ⟨_,_,rfl,Same.thru hL (s3.trans S6) s7,e7,?_,fun j hj=>?_⟩
          · rw [takeK08 ew,List.map_append,List.map_append]
            refine RepL.snoc ((r3.same S6).flat t7 (ws_flat _)) ?_
            exact Rep.flat t7 (wD_flat _) r6
          · by_cases ej:j=i
            · subst ej; rw [ewa]; exact hk
            · exact hb j (by omega)
    · rintro σ H3 ⟨o3,vs,rfl,s3,e3,r3,hb⟩
      rw [List.take_length] at r3
      have lv:=reps_len r3
      rw [List.length_map] at lv
      rw [waysF_none.mpr hb] at e q
      refine ⟨_,rfl,?_⟩
      refine rlL e3 ?_
      rw [lv]
      refine ⟨_,_,rfl,rfl,_,rfl,?_⟩
      refine iteD (fun z=>?_) (fun z=>?_)
      · refine ⟨_,rfl,?_⟩
        refine rlL (s3 _ _ (s1 _ _ ha)) ?_
        rw [List.length_map,List.length_map,List.length_cons]
        exact rz08 ((e (rest.length+1) 0 (if_pos (by omega))).same (s1.trans s3))
      · have hl2:¬ rest.length<2:=by omega
        rw [if_neg hl2] at e q
        refine ⟨_,rfl,L,_,rfl,e3,?_⟩
        refine for_enum (n:=1) (xs:=vs) (fun i σ H'=>∃ o3 o4:Option V,σ=[some (.ref a),some (.ref af),some (.ref L),o3,o4]∧Same H3 H'∧∀ j,j<i→decide (totF (shs (rest.getD j []))=(1,1))=true) ⟨_,_,rfl,Same.refl _,fun j hj=>by omega⟩ (fun i σ H' p=>?_) ?_ ?_
        · obtain ⟨_,_,_,s',_⟩:=p
          exact s' _ _ e3
        · rintro i x q4 σ H4 H5 hx ⟨o3,o4,rfl,s4,hs⟩ hq4 e5 s5
          have hi:i<rest.length:=by have:=(List.getElem?_eq_some_iff.mp hx).1; omega
          obtain ⟨g,hg,rg⟩:=reps_get r3 hx
          rw [List.getElem?_map] at hg
          obtain ⟨ri,hri,rfl⟩:=Option.map_eq_some_iff.mp hg
          have eri:rest.getD i []=ri:=by rw [List.getD_eq_getElem?_getD,hri]; rfl
          have okr:=ok ri (List.mem_cons_of_mem _ (List.mem_of_getElem? hri))
          have wn:=hb i hi
          rw [show wayA rest Fn i=wayF ri Fn ((rest.take i).map nm) by show wayF (rest.getD i []) Fn _=_; rw [eri]] at wn
          obtain ⟨w1,w2⟩:=wayF_ok wn okr
          obtain ⟨ag,xg,rfl,hag,rxg⟩:=tup_at ((rg.same s4).same s5)
          obtain ⟨u,v,rfl,ru,rv⟩:=RepL_two rxg
          refine ⟨q4,_,rfl,SqT.of e5,rfl,_,_,rfl,_,_,rfl,rfl,?_⟩
          refine ⟨_,rfl,?_⟩
          refine ixT hag rfl ?_
          refine ⟨_,rfl,?_⟩
          refine rlT (s5 _ _ (s4 _ _ (s3 _ _ haf))) ?_
          rw [lf]
          refine sp_arepB_i rv w2 w1 (by omega) fun H6 s6=>?_
          refine ⟨_,rfl,?_⟩
          have S6:=(s4.trans s5).trans s6
          by_cases ht:totF (shs ri)=(1,1)
          · rw [decide_eq_true ht]
            refine iteF ?_
            refine ⟨_,_,rfl,S6,fun j hj=>?_⟩
            by_cases ej:j=i
            · subst ej; rw [eri]; exact decide_eq_true ht
            · exact hs j (by omega)
          · rw [decide_eq_false ht]
            refine iteT ?_
            refine ⟨_,rfl,?_⟩
            have es:sumF rest=some i:=firstF_some.mpr ⟨hi,by rw [eri]; exact decide_eq_false ht,hs⟩
            have:=e (i+1) 2 (by rw [es])
            rw [show ((i+1:Nat):Int)=1+(i:Nat) by omega] at this
            exact rz08 (this.same ((s1.trans s3).trans S6))
        · rintro σ H4 ⟨o3,o4,rfl,s4,hs⟩
          rw [lv] at hs
          have es:sumF rest=none:=firstF_none.mpr hs
          rw [es] at q
          refine ⟨_,rfl,_,rfl,L,vs,rfl,.inl ⟨SqL.of (s4 _ _ e3),fun l hl=>?_⟩⟩
          have sl:=Same.upd (o:=.tup vs) hl
          have el:(upd H4 l (.tup vs)) l=some (.tup vs):=upd_same
          generalize upd H4 l (.tup vs)=H5 at sl el
          refine nwT (by show 2≤64; decide) fun q6 H6 hq6 e6 s6=>?_
          have S:=((s3.trans s4).trans sl).trans s6
          exact q _ _ rfl _ H6 (s1.trans S) (Rep.tup e6 (RepL.cons (r1.same S) (RepL.cons (Rep.tup (s6 _ _ el) (((r3.same s4).same sl).same s6)) RepL.nil)))
end
end Kw
set_option Elab.async false
set_option linter.all false
set_option maxRecDepth 100000
namespace Kw
open PySem L2 Mf Mt
abbrev s__law_is_name:Stmt:=(top 52)
theorem sc__law_is_name:FnScope ["_law_thing"] ["_law_thing"] (defScope s__law_is_name):=⟨rfl,rfl,rfl,by decide +kernel,rfl,by decide +kernel,by decide +kernel⟩
abbrev s__law_share:Stmt:=(top 54)
theorem sc__law_share:FnScope ["_law_word", "_law_words", "_law_text", "_law_n", "_law_d"] ["_law_word"] (defScope s__law_share):=⟨rfl,rfl,rfl,by decide +kernel,rfl,by decide +kernel,by decide +kernel⟩
def sgD (l:List Nat):PyData:=.list (l.map fun x=>PyData.str ⟨#[x]⟩)
theorem sg_rep {H:Hp}:∀ l:List Nat,RepL H (l.map fun x=>PyData.str ⟨#[x]⟩) (l.map fun x=>V.str ⟨#[x]⟩)
  | []=>RepL.nil
  | _::r=>RepL.cons (Rep.str _) (sg_rep r)
theorem one_ok {x:Nat} (h:x<128):PyData.canLay0 (.str ⟨#[x]⟩)=true:=by
  have:∀ y:Nat,y<128→PyData.canLay0 (.str ⟨#[y]⟩)=true:=by decide +kernel
  exact this x h
theorem sg_lay:∀ l:List Nat,(∀ x∈l,x<128)→PyData.canLayAll0 (l.map fun x=>PyData.str ⟨#[x]⟩)=true
  | [],_=>rfl
  | x::r,h=>by
    show (PyData.canLay0 (.str ⟨#[x]⟩)&&PyData.canLayAll0 (r.map fun x=>PyData.str ⟨#[x]⟩))=true
    rw [sg_lay r (fun y hy=>h y (List.mem_cons_of_mem _ hy)),one_ok (h x List.mem_cons_self)]
    rfl
theorem sg_depth:∀ l:List Nat,PyData.depthAll (l.map fun x=>PyData.str ⟨#[x]⟩)=0
  | []=>rfl
  | x::r=>by
    show max 0 (PyData.depthAll (r.map fun x=>PyData.str ⟨#[x]⟩))=0
    rw [sg_depth r]
    rfl
theorem sg_shaped (l:List Nat) (h:∀ x∈l,x<128):SeqAt.shaped (sgD l)=true:=by
  unfold SeqAt.shaped
  rw [Bool.and_eq_true]
  refine ⟨sg_lay l h,decide_eq_true ?_⟩
  show PyData.depthAll (l.map fun x=>PyData.str ⟨#[x]⟩)+1≤64
  rw [sg_depth]
  decide
theorem sg_eqv (l:List Nat):PyData.eqv (sgD l) (.list [])=l.isEmpty:=by
  cases l <;> rfl
@[irreducible] def sp_nmL:Sp:=fun vs H Q _=>∃ t,vs=[.str t]∧t.length≤10000∧Low t∧∀ H',Same H H'→Q (.bl (nameS t)) H'
theorem sp_nmL_i {H:Hp} {Q:VK} {E:XK} {t:Str} (h:t.length≤10000) (lo:Low t) (q:∀ H',Same H H'→Q (.bl (nameS t)) H'):sp_nmL [.str t] H Q E:=by unfold sp_nmL; exact ⟨t,rfl,h,lo,q⟩
theorem all_let {s:Str}:(s.cps.toList.map let1).all id=(s.cps.toList.filter fun x=>!let1 x).isEmpty:=by
  rw [Bool.eq_iff_iff,List.isEmpty_iff,List.filter_eq_nil_iff,List.all_map,List.all_eq_true]
  refine ⟨fun h x hx=>by simpa using h x hx,fun h x hx=>by simpa using h x hx⟩
theorem part_low {t p:Str} (lo:Low t) (h:p∈words t):Low p:=by
  have hj:=StrLaws.join_split t sl
  intro x hx
  refine lo x ?_
  rw [← hj]
  have:∀ l:List Str,p∈l→x∈(Str.join sl l).cps.toList:=by
    intro l
    induction l with
    | nil=>intro h; cases h
    | cons a r ih =>
      intro h
      cases r with
      | nil =>
        rcases List.mem_cons.mp h with rfl | h
        · exact hx
        · cases h
      | cons b r =>
        rw [join2]
        rcases List.mem_cons.mp h with rfl | h
        · exact List.mem_append_left _ hx
        · exact List.mem_append_right _ (List.mem_cons_of_mem _ (ih h))
  exact this _ h
theorem dv_lt:∀ {l:List Nat},NumText.AllDigits l→NumText.digitsVal l<10^l.length
  | [],_=>by decide
  | x::r,h=>by
    have h1:=dv_lt h.tail
    have h2:=h.head
    have e:NumText.digitsVal (x::r)=(x - 48)*10^r.length+NumText.digitsVal r:=by
      have:=dv_from r (0*10+(x - 48))
      have e2:NumText.digitsVal (x::r)=List.foldl (fun acc c=>acc*10+(c - 48)) (0*10+(x - 48)) r:=rfl
      rw [e2,this,Nat.zero_mul,Nat.zero_add]
    rw [e,List.length_cons,Nat.pow_succ]
    have h3:(x - 48)*10^r.length≤9*10^r.length:=Nat.mul_le_mul_right _ (by omega)
    omega
theorem val_lt {t:Str} (h:figs t=true) (z:t.length≤2500):((val t:Nat):Int).natAbs<2^9000:=by
  rw [Int.natAbs_natCast]
  have h1:val t<10^t.length:=by
    have:=dv_lt (figs_all h)
    rw [len_toList] at this
    exact this
  have h2:10^t.length≤10^2500:=Nat.pow_le_pow_right (by decide) z
  have h3:10^2500≤2^9000:=by decide +kernel
  exact Nat.lt_of_lt_of_le h1 (Nat.le_trans h2 h3)
theorem lw_self {n d:Int} (h:0<d):decide (lw n d=(n,d))=decide (Int.gcd n d=1):=by
  refine decide_eq_decide.mpr ⟨fun e=>?_,fun e=>?_⟩
  · have:=(lw_low (n:=n) h).low
    rw [e] at this
    exact this
  · unfold lw
    rw [e]
    simp
def lsF:List (Option Nat)→Option Fr
  | [some n]=>if n<2 then some ((n:Int),1) else none
  | [some n,some d]=>if d<2∨n > d∨Nat.gcd n d≠1 then none else some ((n:Int),(d:Int))
  | _=>none
theorem lsF_no {l:List (Option Nat)} (h:none∈l):lsF l=none:=by
  match l,h with
  | [none],_=>rfl
  | [some n],h=>simp at h
  | [none,none],_=>rfl
  | [none,some d],_=>rfl
  | [some n,none],_=>rfl
  | [some n,some d],h=>simp at h
  | a::b::_::_,_=>cases a <;> cases b <;> rfl
  | [],h=>cases h
theorem lsF_long {l:List (Option Nat)} (h:2<l.length):lsF l=none:=by
  match l,h with
  | a::b::_::_,_=>cases a <;> cases b <;> rfl
theorem wr_of {u:Str} (h:wrB u=true):wr u=some (val u)∧figs u=true∧u.cps.toList≠[]:=by
  refine ⟨by unfold wr; rw [if_pos h],?_,?_⟩
  · unfold wrB at h
    simp only [Bool.and_eq_true] at h
    exact h.1.2
  · unfold wrB at h
    simp only [Bool.and_eq_true] at h
    intro z
    rw [z] at h
    exact absurd h.1.1 (by decide)
theorem part_len {t u:Str} (h:u∈words t):u.length≤t.length:=by
  have hj:=StrLaws.join_split t sl
  have:∀ l:List Str,u∈l→u.cps.toList.length≤(Str.join sl l).cps.toList.length:=by
    intro l
    induction l with
    | nil=>intro h; cases h
    | cons a r ih =>
      intro h
      cases r with
      | nil =>
        rcases List.mem_cons.mp h with rfl | h
        · exact Nat.le_refl _
        · cases h
      | cons b r =>
        rw [join2,List.length_append,List.length_cons]
        rcases List.mem_cons.mp h with rfl | h
        · omega
        · have:=ih h; omega
  have h2:=this _ h
  rw [show Str.join sl (words t)=t from hj,len_toList,len_toList] at h2
  exact h2
theorem words_one {t u:Str} (h:words t=[u]):u=t:=by
  have:=StrLaws.join_split t sl
  rw [show Txt.split t sl=words t from rfl,h] at this
  exact this
def lsh (t:Str):Option Fr:=lsF ((words t).map wr)
def opFr (o:Option Fr):PyData:=match o with | some g=>frD g | none=>.none
@[irreducible] def sp_lsh:Sp:=fun vs H Q _=>∃ t,vs=[.str t]∧t.length≤2500∧Low t∧∀ v H',Same H H'→Rep H' (opFr (lsh t)) v→Q v H'
theorem sp_lsh_i {H:Hp} {Q:VK} {E:XK} {t:Str} (h:t.length≤2500) (lo:Low t) (q:∀ v H',Same H H'→Rep H' (opFr (lsh t)) v→Q v H'):sp_lsh [.str t] H Q E:=by unfold sp_lsh; exact ⟨t,rfl,h,lo,q⟩
section
variable {P:Program} {w:World} {K:PySem.W.Frag} {mg:Str→Option Value} {base:Heap} {c:Cl}
set_option maxHeartbeats 4000000 in
theorem ok__law_is_name {f:Addr} {fd:FuncData} (F:Fun K "_law_is_name" "_law_is_name" s__law_is_name f fd) (T:Txt K mg c):FnOk P w K mg base CX0 1 f fd ["_law_thing"] sp_nmL:=by
  refine F.okw sc__law_is_name (fun vs H Q E h=>?_) (fun cdv A outer s H vs Q E hr h=>?_)
  · unfold sp_nmL at h
    obtain ⟨s,rfl,_⟩:=h
    rfl
  · unfold sp_nmL at h
    obtain ⟨s,rfl,hz,lo,q⟩:=h
    have r:Rep H (.str s) (.str s):=Rep.str s
    refine ⟨_,(wss_cons (ws_if (wt_mono (wt_w (ww_or (wt_not (wt_val (we_cB cl_isi (by rfl) T.b_isinstance (by decide +kernel) (wa_k (we_v 0) (wa_k (we_bltn (v:=.ty "str") (u:=.type "str") rfl T.b_str (by decide +kernel) rfl) wa_nil))))) (ww_or1 (wt_not (wt_chain op_le op_le we_int (we_cB cl_len (by rfl) T.b_len (by decide +kernel) (wa_k (we_v 0) wa_nil)) we_int)))))) (wss_one (ws_ret we_bl)) wss_nil)
      (wss_cons (ws_if (wt_cmp (op_inK (K:=K)) (we_v 0) (we_tup (wa_k we_str (wa_k we_str (wa_k we_str (wa_k we_str (wa_k we_str (wa_k we_str (wa_k we_str (wa_k we_str wa_nil))))))))) (by with_unfolding_all rfl)) (wss_one (ws_ret we_bl)) wss_nil)
      (wss_one (ws_ret (we_cmp (op_eqD hr.units) (we_comp (CScope.of (psc:=defScope s__law_is_name) (N:=["_law_thing"]) (N':=["_law_sign"]) (js:=[]) (by decide +kernel) rfl rfl rfl) (wi_str (we_v 0)) (fun _ _ _ _=>wts_one (wt_cmp op_notin_str (we_v 0) we_str (by with_unfolding_all rfl))) (fun _ _ _ _=>(we_v 0))) (we_lst wa_nil) (nomark _)))))),?_⟩
    refine ⟨fun b H'=>H'=H∧(b=true→nameS s=false)∧(b=false→1≤s.length∧s.length≤8),?_,?_⟩
    · refine ⟨_,rfl,?_⟩
      refine riStr r ?_
      refine ⟨_,rfl,?_⟩
      · refine iteF ?_
        refine ⟨_,rfl,?_⟩
        refine rlS (line20 (by omega)) ?_
        refine ⟨_,_,rfl,rfl,_,rfl,?_⟩
        refine iteD (fun h1=>?_) (fun h1=>?_)
        · refine ⟨_,_,rfl,rfl,_,rfl,rfl,fun e=>?_,fun e=>?_⟩
          · have e':¬ ((s.length:Int)≤8):=by simpa using e
            show nameS s=false
            unfold nameS
            rw [decide_eq_false (show ¬ s.length≤8 by omega)]; simp
          · have e':(s.length:Int)≤8:=by simpa using e
            exact ⟨by omega,by omega⟩
        · refine ⟨_,rfl,rfl,fun _=>?_,fun e=>by cases e⟩
          show nameS s=false
          unfold nameS
          rw [decide_eq_false (show ¬ 1≤s.length by omega)]; simp
    · rintro b H' ⟨rfl,hb1,hb2⟩
      cases b with
      | true =>
        refine iteT ?_
        have:=q H' (Same.refl _)
        rw [hb1 rfl] at this
        exact this
      | false =>
        refine iteF ?_
        obtain ⟨h1,h8⟩:=hb2 rfl
        have eq:nameS s=((s.cps.toList.map let1).all id && !decide (s∈wordsL)):=by
          unfold nameS
          rw [decide_eq_true h1,decide_eq_true h8,Bool.true_and,Bool.true_and]
        rw [eq] at q
        refine ⟨_,rfl,?_⟩
        refine nwT (by show 8≤64; decide) fun p1 H1 hp1 e1 s1=>?_
        refine ⟨p1,wordsL.map V.str,rfl,.inr (SqT.of e1),rfl,vstr_flat _,?_⟩
        rw [inV_strs]
        refine ⟨_,rfl,?_⟩
        by_cases hw:s∈wordsL
        · simp only [hw,decide_true,Bool.not_true,Bool.and_false] at q
          show if decide (s∈wordsL)=true then _ else _
          rw [decide_eq_true hw]
          exact iteT (q H1 s1)
        · simp only [hw,decide_false,Bool.not_false,Bool.and_true] at q
          show if decide (s∈wordsL)=true then _ else _
          rw [decide_eq_false hw]
          refine iteF ?_
          refine ⟨_,rfl,_,rfl,?_⟩
          refine comp_str (x:=s) (fun x=>!let1 x) (fun x=>V.str ⟨#[x]⟩) (by omega) (fun x H' Q' _ q=>?_) (fun x H' Q' _ q=>⟨_,rfl,q⟩) fun D H2 hD e2 s2=>?_
          · exact ⟨_,rfl,_,_,rfl,rfl,_,rfl,q⟩
          · refine nwL (by show 0≤64; decide) fun q3 H3 hq3 e3 s3=>?_
            refine reD (Rep.lst (s3 _ _ e2) (sg_rep _)) (Rep.lst e3 RepL.nil) (sg_shaped _ (fun x hx=>lo x (List.mem_filter.mp hx).1)) rfl ?_
            rw [show PyData.list ((s.cps.toList.filter fun x=>!let1 x).map fun x=>PyData.str ⟨#[x]⟩)=sgD (s.cps.toList.filter fun x=>!let1 x) from rfl,sg_eqv,← all_let]
            have:=q H3 ((s1.trans s2).trans s3)
            cases ha:(s.cps.toList.map let1).all id <;> rw [ha] at this <;> exact this
set_option maxHeartbeats 4000000 in
theorem ok__law_share {f:Addr} {fd:FuncData} (F:Fun K "_law_share" "_law_share" s__law_share f fd) (T:Txt K mg c) (F__law_low:FnC CX0 P w K mg base 1 "_law_low" ["_law_n", "_law_d"] sp_low):FnOk P w K mg base CX0 2 f fd ["_law_word"] sp_lsh:=by
  refine F.okw sc__law_share (fun vs H Q E h=>?_) (fun cdv A outer s H vs Q E hr h=>?_)
  · unfold sp_lsh at h
    obtain ⟨t,rfl,_⟩:=h
    rfl
  · unfold sp_lsh at h
    obtain ⟨t,rfl,hz,lo,q⟩:=h
    refine ⟨_,(wss_cons (ws_set (i:=1) sc__law_share.nd rfl (Or.inl rfl) (we_bm PySem.F.plainAttrs_str PySem.F.slot_str_split PySem.F.type_str_split mt_split (we_v 0) (wa_k we_str wa_nil)))
      (wss_cons (ws_if (wt_cmp op_gt (we_cB cl_len (by rfl) T.b_len (by decide +kernel) (wa_k (we_v 1) wa_nil)) we_int (nomark _)) (wss_one (ws_ret we_non)) wss_nil)
      (wss_cons (ws_for PassesOwn.never rfl (wi_list (we_v 1)) (wg_name (i:=2) sc__law_share.nd rfl (Or.inl rfl)) (wss_one (ws_if (wt_mono (wt_w (ww_or (wt_cmp op_eq (we_v 2) we_str (nomark _)) (ww_or (wt_cmp (op_neD hr.units) (we_comp (CScope.of (psc:=defScope s__law_share) (N:=["_law_word", "_law_words", "_law_text", "_law_n", "_law_d"]) (N':=["_law_sign"]) (js:=[]) (by decide +kernel) rfl rfl rfl) (wi_str (we_v 2)) (fun _ _ _ _=>wts_one (wt_cmp op_notin_str (we_v 0) we_str (by with_unfolding_all rfl))) (fun _ _ _ _=>(we_v 0))) (we_lst wa_nil) (nomark _)) (ww_or1 (wt_w (ww_and (wt_cmp op_eq (we_ix ix_seq (we_v 2) we_int (fun _ _=>rfl)) we_str (nomark _)) (ww_and1 (wt_cmp op_ne (we_v 2) we_str (nomark _)))))))))) (wss_one (ws_ret we_non)) wss_nil)))
      (wss_cons (ws_if (wt_cmp op_eq (we_cB cl_len (by rfl) T.b_len (by decide +kernel) (wa_k (we_v 1) wa_nil)) we_int (nomark _)) (wss_one (ws_ret (we_ifExp (wt_cmp op_lt (we_cT (cl_intT T.nd) (by rfl) T.b_int (by decide +kernel) (wa_k (we_v 0) wa_nil)) we_int (nomark _)) (we_tup (wa_k (we_cT (cl_intT T.nd) (by rfl) T.b_int (by decide +kernel) (wa_k (we_v 0) wa_nil)) (wa_k we_int wa_nil))) we_non))) wss_nil)
      (wss_cons (ws_par (i:=3) (j:=4) rfl sc__law_share.nd rfl rfl (by decide) rfl rfl (wa_k (we_cT (cl_intT T.nd) (by rfl) T.b_int (by decide +kernel) (wa_k (we_ix ix_seq (we_v 1) we_int (fun _ _=>rfl)) wa_nil)) (wa_k (we_cT (cl_intT T.nd) (by rfl) T.b_int (by decide +kernel) (wa_k (we_ix ix_seq (we_v 1) we_int (fun _ _=>rfl)) wa_nil)) wa_nil)) rfl)
      (wss_cons (ws_if (wt_mono (wt_w (ww_or (wt_cmp op_lt (we_v 4) we_int (nomark _)) (ww_or (wt_cmp op_gt (we_v 3) (we_v 4) (nomark _)) (ww_or1 (wt_cmp (op_neD hr.units) (we_fn F__law_low (hr.mono (by decide)) (wa_k (we_v 3) (wa_k (we_v 4) wa_nil))) (we_tup (wa_k (we_v 3) (wa_k (we_v 4) wa_nil))) (nomark _))))))) (wss_one (ws_ret we_non)) wss_nil)
      (wss_one (ws_ret (we_tup (wa_k (we_v 3) (wa_k (we_v 4) wa_nil))))))))))),?_⟩
    have hw:=words_len t
    refine ⟨_,rfl,rfl,?_⟩
    refine rsplit (by decide) (line20 (by omega)) (line20 (show (words t).length≤20000 by omega)) fun p1 H1 hp1 e1 s1=>?_
    have e1:H1 p1=some (.lst ((words t).map V.str)):=e1
    have no:∀ H',Same H1 H'→lsh t=none→Q V.non H':=fun H' s' hb=>by
      refine q _ H' (s1.trans s') ?_
      rw [hb]; exact Rep.non
    refine ⟨_,rfl,?_⟩
    refine rlL e1 ?_
    rw [List.length_map]
    refine ⟨_,_,rfl,rfl,_,rfl,?_⟩
    refine iteD (fun z=>?_) (fun z=>?_)
    · exact no H1 (Same.refl _) (lsF_long (by rw [List.length_map]; omega))
    refine ⟨_,rfl,p1,rfl,⟨_,SqL.of e1⟩,?_⟩
    refine for_list (xs:=(words t).map V.str) (fun i σ H'=>∃ o2:Option V,σ=[some (.str t),some (.ref p1),o2,none,none]∧Same H1 H'∧∀ u∈(words t).take i,wrB u=true) ⟨_,rfl,Same.refl _,fun u hu=>by (rw [List.take_zero] at hu; cases hu)⟩ (fun i σ H' _ z=>?_) ?_ ?_
    · obtain ⟨_,_,s',_⟩:=z
      exact SqL.of (s' _ _ e1)
    · rintro i x σ H2 hx ⟨o2,rfl,s2,hb⟩
      obtain ⟨u,hu,rfl⟩:=str_at hx
      have hum:=List.mem_of_getElem? hu
      have ul:=part_low lo hum
      have uz:u.length≤2500:=Nat.le_trans (part_len hum) hz
      refine ⟨fun b H'=>Same H2 H'∧b=!wrB u,?_,?_⟩
      · refine ⟨_,rfl,rfl,_,rfl,?_⟩
        by_cases h0:u.cps.toList=[]
        · have:u=Str.ofString "" := str_ext h0
          rw [decide_eq_true (show V.str u=V.str (Str.ofString "") by rw [this])]
          refine iteT ⟨Same.refl _,?_⟩
          unfold wrB; rw [h0]; rfl
        · rw [decide_eq_false (fun x=>h0 (by injection x with x; rw [x]; rfl))]
          refine iteF ?_
          refine ⟨_,rfl,_,rfl,?_⟩
          refine comp_str (x:=u) (fun x=>!dig x) (fun x=>V.str ⟨#[x]⟩) (by omega) (fun x H' Q' _ q=>?_) (fun x H' Q' _ q=>⟨_,rfl,q⟩) fun D H3 hD e3 s3=>?_
          · refine ⟨_,rfl,_,_,rfl,rfl,?_⟩
            rw [in_figs]
            exact ⟨_,rfl,q⟩
          · refine nwL (by show 0≤64; decide) fun q2 H4 hq2 e4 s4=>?_
            refine reD (Rep.lst (s4 _ _ e3) (sg_rep _)) (Rep.lst e4 RepL.nil) (sg_shaped _ (fun x hx=>ul x (List.mem_filter.mp hx).1)) rfl ?_
            have S4:=s3.trans s4
            have ee:PyData.eqv (PyData.list ((u.cps.toList.filter fun x=>!dig x).map fun x=>PyData.str ⟨#[x]⟩)) (.list [])=figs u:=by
              rw [show PyData.list ((u.cps.toList.filter fun x=>!dig x).map fun x=>PyData.str ⟨#[x]⟩)=sgD (u.cps.toList.filter fun x=>!dig x) from rfl,sg_eqv]
              unfold figs
              rw [Bool.eq_iff_iff,List.isEmpty_iff,List.filter_eq_nil_iff,List.all_eq_true]
              refine ⟨fun h x hx=>by simpa using h x hx,fun h x hx=>by simpa using h x hx⟩
            rw [ee]
            refine ⟨_,rfl,?_⟩
            cases hf:figs u with
            | false =>
              refine iteT ⟨S4,?_⟩
              unfold wrB; rw [hf,Bool.and_false,Bool.false_and]; rfl
            | true =>
              refine iteF ?_
              obtain ⟨x0,r0,ec⟩:∃ x0 r0,u.cps.toList=x0::r0:=by
                cases q3:u.cps.toList with
                | nil=>exact absurd q3 h0
                | cons x y=>exact ⟨x,y,rfl⟩
              have hb':wrB u=!(decide (x0=48) && !decide (u=zero)):=by
                unfold wrB
                rw [hf,ec]
                simp
              refine ⟨_,rfl,?_⟩
              refine .inr (.inr ⟨u,0,x0,rfl,rfl,line20 (by omega),by rw [ec]; exact atI_nat (j:=0) rfl,?_⟩)
              refine ⟨rfl,_,rfl,?_⟩
              by_cases c1:x0=48
              · rw [decide_eq_true c1] at hb'
                rw [decide_eq_true (show V.str ⟨#[x0]⟩=V.str (Str.ofString "0") by rw [c1]; rfl)]
                refine iteT ?_
                refine ⟨_,rfl,rfl,_,rfl,S4,?_⟩
                rw [hb']
                show (!decide (V.str u=V.str (Str.ofString "0")))=_
                rw [show decide (V.str u=V.str (Str.ofString "0"))=decide (u=zero) from decide_eq_decide.mpr ⟨fun z=>by injection z,fun z=>by rw [z]; rfl⟩]
                cases decide (u=zero) <;> rfl
              · rw [decide_eq_false c1] at hb'
                have ne:¬ V.str ⟨#[x0]⟩=V.str (Str.ofString "0"):=fun x=>c1 (by
                  injection x with x
                  have h2:[x0]=zero.cps.toList:=congrArg (fun y:Str=>y.cps.toList) x
                  rw [zero_cps] at h2
                  injection h2)
                rw [decide_eq_false ne]
                refine iteF ⟨S4,?_⟩
                rw [hb']; rfl
      · rintro b H3 ⟨s3,rfl⟩
        cases hwb:wrB u with
        | true =>
          refine iteF ⟨_,rfl,s2.trans s3,fun v hv=>?_⟩
          rw [takeK08 hu] at hv
          rcases List.mem_append.mp hv with hv | hv
          · exact hb v hv
          · rw [List.mem_singleton.mp hv]; exact hwb
        | false =>
          refine iteT ?_
          refine no H3 (s2.trans s3) (lsF_no (List.mem_map.mpr ⟨u,hum,?_⟩))
          unfold wr
          rw [hwb]; rfl
    · rintro σ H2 ⟨o2,rfl,s2,hb⟩
      rw [List.length_map,List.take_length] at hb
      have hpos:=PyProof.Rows.split_pos t sl
      have hpos:0<(words t).length:=hpos
      refine ⟨_,rfl,?_⟩
      refine rlL (s2 _ _ e1) ?_
      rw [List.length_map]
      refine ⟨rfl,_,rfl,?_⟩
      have rint:∀ {u:Str} {Q':VK} {H':Hp},u∈words t→Q' (.int ((val u:Nat):Int)) H'→rIntT [.str u] H' Q':=fun {u Q' H'} hu q'=>by
        obtain ⟨w1,w2,w3⟩:=wr_of (hb u hu)
        have uz:=part_len hu
        exact rintT (fun x hx=>.inr (figs_all w2 x hx)) (PySem.intText_digits (figs_all w2) w3 (by omega)) (line20 (by omega)) q'
      by_cases L1:(words t).length=1
      · obtain ⟨u,hu⟩:=List.length_eq_one_iff.mp L1
        have eu:=words_one hu
        subst eu
        rw [L1]
        refine iteT ?_
        have hum:u∈words u:=by rw [hu]; exact List.mem_cons_self ..
        have el:lsh u=if val u<2 then some (((val u:Nat):Int),1) else none:=by
          show lsF ((words u).map wr)=_
          rw [hu]
          show lsF [wr u]=_
          rw [(wr_of (hb u hum)).1]; rfl
        refine ⟨_,rfl,?_⟩
        refine rint hum ?_
        refine ⟨_,_,rfl,rfl,_,rfl,?_⟩
        refine iteD (fun z2=>?_) (fun z2=>?_)
        · refine ⟨_,rfl,?_⟩
          refine rint hum ?_
          refine nwT (by show 2≤64; decide) fun q3 H3 hq3 e3 s3=>?_
          refine q _ H3 ((s1.trans s2).trans s3) ?_
          rw [el,if_pos (by omega)]
          exact frD_of (f:=(((val u:Nat):Int),1)) e3
        · exact no H2 s2 (by rw [el,if_neg (by omega)])
      · obtain ⟨u1,u2,hu⟩:∃ u1 u2,words t=[u1,u2]:=by
          match hh:words t,(show (words t).length=2 by omega) with
          | [a,b],_=>exact ⟨a,b,rfl⟩
        have m1:u1∈words t:=by rw [hu]; simp
        have m2:u2∈words t:=by rw [hu]; simp
        rw [decide_eq_false (show ¬ V.int ((words t).length:Int)=V.int 1 from fun z=>L1 (by injection z with z; omega))]
        refine iteF ?_
        have el:lsh t=if val u2<2∨val u1 > val u2∨Nat.gcd (val u1) (val u2)≠1 then none else some (((val u1:Nat):Int),((val u2:Nat):Int)):=by
          show lsF ((words t).map wr)=_
          rw [hu]
          show lsF [wr u1,wr u2]=_
          rw [(wr_of (hb u1 m1)).1,(wr_of (hb u2 m2)).1]; rfl
        have e2:=s2 _ _ e1
        rw [hu] at e2
        refine ⟨_,rfl,?_⟩
        refine ixL e2 rfl ?_
        refine rint m1 ?_
        refine ⟨_,rfl,?_⟩
        refine ixL e2 rfl ?_
        refine rint m2 ?_
        refine ⟨_,_,rfl,?_⟩
        have nz:∀ {u:Str},u∈words t→((val u:Nat):Int).natAbs<2^9000:=fun {u} hu=>val_lt (wr_of (hb u hu)).2.1 (by have:=part_len hu; omega)
        refine ⟨fun b H'=>Same H2 H'∧b=decide (val u2<2∨val u1 > val u2∨Nat.gcd (val u1) (val u2)≠1),?_,?_⟩
        · refine ⟨_,rfl,_,_,rfl,rfl,_,rfl,?_⟩
          refine iteD (fun c1=>⟨Same.refl _,(decide_eq_true (.inl (by omega))).symm⟩) (fun c1=>?_)
          refine ⟨_,rfl,_,rfl,_,_,rfl,rfl,_,rfl,?_⟩
          refine iteD (fun c2=>⟨Same.refl _,(decide_eq_true (.inr (.inl (by omega)))).symm⟩) (fun c2=>?_)
          refine ⟨_,rfl,_,rfl,?_⟩
          refine sp_low_i (by omega) (nz m2) ?_
          intro p3 H3 hp3 e3 s3
          refine ⟨_,rfl,_,rfl,?_⟩
          refine nwT (by show 2≤64; decide) fun q4 H4 hq4 e4 s4=>?_
          refine reD (d:=frD (lw (val u1:Nat) (val u2:Nat))) (d':=frD (((val u1:Nat):Int),((val u2:Nat):Int))) (frD_of (s4 _ _ e3)) (frD_of e4) (fr_shaped _) (fr_shaped _) ?_
          rw [eqv_fr,lw_self (show (0:Int)<(val u2:Nat) by omega)]
          refine ⟨_,rfl,s3.trans s4,?_⟩
          have eg:Int.gcd ((val u1:Nat):Int) ((val u2:Nat):Int)=Nat.gcd (val u1) (val u2):=rfl
          rw [eg]
          by_cases c3:Nat.gcd (val u1) (val u2)=1
          · rw [decide_eq_true c3,decide_eq_false (show ¬ (val u2<2∨val u1 > val u2∨Nat.gcd (val u1) (val u2)≠1) from fun z=>by rcases z with z | z | z; omega; omega; exact z c3)]; rfl
          · rw [decide_eq_false c3,decide_eq_true (show (val u2<2∨val u1 > val u2∨Nat.gcd (val u1) (val u2)≠1) from .inr (.inr c3))]; rfl
        · rintro b H3 ⟨s3,rfl⟩
          by_cases cc:val u2<2∨val u1 > val u2∨Nat.gcd (val u1) (val u2)≠1
          · rw [decide_eq_true cc]
            refine iteT ?_
            exact no H3 (s2.trans s3) (by rw [el,if_pos cc])
          · rw [decide_eq_false cc]
            refine iteF ?_
            refine ⟨_,rfl,_,rfl,?_⟩
            refine nwT (by show 2≤64; decide) fun q4 H4 hq4 e4 s4=>?_
            refine q _ H4 (((s1.trans s2).trans s3).trans s4) ?_
            rw [el,if_neg cc]
            exact frD_of (f:=(((val u1:Nat):Int),((val u2:Nat):Int))) e4
end
end Kw
set_option Elab.async false
set_option linter.all false
set_option maxRecDepth 100000
namespace Kw
open PySem L2 Mf Mt
abbrev s__law_faces:Stmt:=(top 55)
theorem sc__law_faces:FnScope ["_law_words", "_law_k"] ["_law_words"] (defScope s__law_faces):=⟨rfl,rfl,rfl,by decide +kernel,rfl,by decide +kernel,by decide +kernel⟩
theorem iteTe {b:Bool} {A B:Prop} (h:b=true) (k:A):if b=true then A else B:=by rw [h,if_pos rfl]; exact k
theorem iteFe {b:Bool} {A B:Prop} (h:b=false) (k:B):if b=true then A else B:=by rw [h,if_neg (by decide)]; exact k
theorem wr_neg {u:Str} (h:neg u=true):wr u=none:=by
  unfold wr
  rw [if_neg]
  intro hb
  unfold wrB at hb
  simp only [Bool.and_eq_true] at hb
  have hf:=hb.1.2
  have hh:u.cps.toList.head?=some 45:=of_decide_eq_true h
  cases q:u.cps.toList with
  | nil=>rw [q] at hh; cases hh
  | cons x r =>
    rw [q] at hh
    have hx:x=45:=by injection hh
    unfold figs at hf
    rw [q,List.all_cons,Bool.and_eq_true,hx] at hf
    exact absurd hf.1 (by decide)
theorem rd_neg' {u:Str} (h:neg u=true) (hl:u.length≤4000):rd u=none∨∃ n:Nat,0<n∧rd u=some (-(n:Int)):=by
  rw [rd_neg h hl]
  cases wr (fg u) with
  | none=>exact .inl rfl
  | some n =>
    cases n with
    | zero=>exact .inl rfl
    | succ n=>exact .inr ⟨n+1,by omega,rfl⟩
theorem lsh_eq {t:Str} (hz:t.length≤2500):lsh t=if wsB t=true then some (shOf t) else none:=by
  have pl:∀ u∈words t,u.length≤4000:=fun u hu=>by have:=part_len hu; omega
  unfold wsB shOf
  show lsF ((words t).map wr)=_
  have er:rdT t=rdF ((words t).map rd):=rfl
  generalize words t=ws at pl er
  rw [er]
  match ws,pl with
  | [],_=>rfl
  | [u],pl =>
    have hu:=pl u (by simp)
    show lsF [wr u]=if (match rdF [rd u] with | some g=>decide (0≤g.1)&&decide (g.1≤g.2) | none=>false)=true then some ((rdF [rd u]).getD (0,1)) else none
    by_cases hn:neg u=true
    · rw [wr_neg hn]
      rcases rd_neg' hn hu with e | ⟨n,hp,e⟩
      · rw [e]; rfl
      · rw [e]
        show none=if (decide ((0:Int)≤-(n:Int))&&_)=true then _ else none
        rw [decide_eq_false (show ¬ (0:Int)≤-(n:Int) by omega),Bool.false_and]; rfl
    · rw [rd_plain (by simpa using hn) hu]
      cases wr u with
      | none=>rfl
      | some n =>
        show (if n<2 then some ((n:Int),(1:Int)) else none)=if (decide ((0:Int)≤(n:Int))&&decide ((n:Int)≤1))=true then some ((n:Int),(1:Int)) else none
        rw [decide_eq_true (show (0:Int)≤(n:Int) by omega),Bool.true_and]
        by_cases h2:n<2
        · rw [if_pos h2,decide_eq_true (show (n:Int)≤1 by omega),if_pos rfl]
        · rw [if_neg h2,decide_eq_false (show ¬ (n:Int)≤1 by omega)]; rfl
  | [u,v],pl =>
    have hu:=pl u (by simp)
    have hv:=pl v (by simp)
    show lsF [wr u,wr v]=if (match rdF [rd u,rd v] with | some g=>decide (0≤g.1)&&decide (g.1≤g.2) | none=>false)=true then some ((rdF [rd u,rd v]).getD (0,1)) else none
    by_cases hn:neg u=true
    · rw [wr_neg hn]
      have e0:lsF [none,wr v]=none:=by cases wr v <;> rfl
      rw [e0]
      rcases rd_neg' hn hu with e | ⟨n,hp,e⟩
      · rw [e]
        cases rd v <;> rfl
      · rw [e]
        cases rd v with
        | none=>rfl
        | some d =>
          show none=if (match (if (!decide (d=1)&&isf [some (-(n:Int)),some d])=true then some (-(n:Int),d) else none) with | some g=>decide (0≤g.1)&&decide (g.1≤g.2) | none=>false)=true then _ else none
          by_cases q:(!decide (d=1)&&isf [some (-(n:Int)),some d])=true
          · rw [if_pos q]
            show none=if (decide ((0:Int)≤-(n:Int))&&_)=true then _ else none
            rw [decide_eq_false (show ¬ (0:Int)≤-(n:Int) by omega),Bool.false_and]; rfl
          · rw [if_neg q]; rfl
    · rw [rd_plain (by simpa using hn) hu]
      by_cases hm:neg v=true
      · rw [wr_neg hm]
        have e0:lsF [wr u,none]=none:=by cases wr u <;> rfl
        rw [e0]
        rcases rd_neg' hm hv with e | ⟨d,hp,e⟩
        · rw [e]
          cases wr u <;> rfl
        · rw [e]
          cases wr u with
          | none=>rfl
          | some n =>
            show none=if (match (if (!decide (-(d:Int)=1)&&(decide ((1:Int)≤-(d:Int))&&decide (Int.gcd (n:Int) (-(d:Int))=1)))=true then some ((n:Int),-(d:Int)) else none) with | some g=>decide (0≤g.1)&&decide (g.1≤g.2) | none=>false)=true then _ else none
            rw [decide_eq_false (show ¬ (1:Int)≤-(d:Int) by omega),Bool.false_and,Bool.and_false]; rfl
      · rw [rd_plain (by simpa using hm) hv]
        cases wr u with
        | none=>cases wr v <;> rfl
        | some n =>
          cases wr v with
          | none=>rfl
          | some d =>
            show (if d<2∨n > d∨Nat.gcd n d≠1 then none else some ((n:Int),(d:Int)))=if (match (if (!decide ((d:Int)=1)&&(decide ((1:Int)≤(d:Int))&&decide (Nat.gcd n d=1)))=true then some ((n:Int),(d:Int)) else none) with | some g=>decide (0≤g.1)&&decide (g.1≤g.2) | none=>false)=true then some ((if (!decide ((d:Int)=1)&&(decide ((1:Int)≤(d:Int))&&decide (Nat.gcd n d=1)))=true then some ((n:Int),(d:Int)) else none).getD (0,1)) else none
            by_cases c1:(!decide ((d:Int)=1)&&(decide ((1:Int)≤(d:Int))&&decide (Nat.gcd n d=1)))=true
            · rw [if_pos c1]
              simp only [Bool.and_eq_true,Bool.not_eq_true',decide_eq_false_iff_not,decide_eq_true_eq] at c1
              show _=if (decide ((0:Int)≤(n:Int))&&decide ((n:Int)≤(d:Int)))=true then some ((n:Int),(d:Int)) else none
              rw [decide_eq_true (show (0:Int)≤(n:Int) by omega),Bool.true_and]
              by_cases c2:n≤d
              · rw [if_neg (fun z=>by rcases z with z | z | z; omega; omega; exact z c1.2.2),decide_eq_true (show (n:Int)≤(d:Int) by omega),if_pos rfl]
              · rw [if_pos (.inr (.inl (by omega))),decide_eq_false (show ¬ (n:Int)≤(d:Int) by omega)]; rfl
            · rw [if_neg c1]
              rw [if_pos]
              · rfl
              · simp only [Bool.and_eq_true,Bool.not_eq_true',decide_eq_false_iff_not,decide_eq_true_eq] at c1
                by_cases c3:Nat.gcd n d=1
                · refine .inl ?_
                  refine Classical.byContradiction fun z=>c1 ⟨by omega,by omega,c3⟩
                · exact .inr (.inr c3)
  | u::v::x::r,_ =>
    have e1:lsF ((u::v::x::r).map wr)=none:=lsF_long (by rw [List.length_map]; simp)
    have e2:rdF ((u::v::x::r).map rd)=none:=by
      show rdF (rd u::rd v::rd x::r.map rd)=none
      cases rd u <;> cases rd v <;> rfl
    rw [e1,e2]; rfl
theorem cutV_mid08 (xs:List V) {a b:Nat} (h1:a≤b) (h2:b≤xs.length):cutV xs (some (a:Int)) (some (b:Int))=(xs.drop a).take (b - a):=by
  unfold cutV
  rw [HT.sIx_nat,HT.sIx_nat,Nat.min_eq_left (show a≤xs.length by omega),Nat.min_eq_left h2]
def fltD (l:Int):Option Nat→PyData
  | none=>.none
  | some k=>.tuple [.int l,.int (k:Int)]
theorem faces_noname:nameS wFaces=false:=by decide +kernel
@[irreducible] def sp_lfaces:Sp:=fun vs H Q _=>∃ a r,vs=[.ref a]∧H a=some (.lst (r.map V.str))∧RwOk r∧∀ v H',Same H H'→Rep H' (fltD 0 (facF r)) v→Q v H'
theorem sp_lfaces_i {H:Hp} {Q:VK} {E:XK} {a:Addr} {r:List Str} (ha:H a=some (.lst (r.map V.str))) (ok:RwOk r) (q:∀ v H',Same H H'→Rep H' (fltD 0 (facF r)) v→Q v H'):sp_lfaces [.ref a] H Q E:=by unfold sp_lfaces; exact ⟨a,r,rfl,ha,ok,q⟩
section
variable {P:Program} {w:World} {K:PySem.W.Frag} {mg:Str→Option Value} {base:Heap} {c:Cl}
set_option maxHeartbeats 4000000 in
theorem ok__law_faces {f:Addr} {fd:FuncData} (F:Fun K "_law_faces" "_law_faces" s__law_faces f fd) (T:Txt K mg c) (F__law_is_name:FnC CX0 P w K mg base 1 "_law_is_name" ["_law_thing"] sp_nmL):FnOk P w K mg base CX0 2 f fd ["_law_words"] sp_lfaces:=by
  refine F.okw sc__law_faces (fun vs H Q E h=>?_) (fun cdv A outer s H vs Q E hr h=>?_)
  · unfold sp_lfaces at h
    obtain ⟨a,r,rfl,_⟩:=h
    rfl
  · unfold sp_lfaces at h
    obtain ⟨a,r,rfl,ha,ok,q⟩:=h
    have lr:=ok.len
    obtain ⟨t0,r0,er⟩:=List.exists_cons_of_ne_nil ok.ne
    have tell:∀ {k:Nat} {H1:Hp} {q1:Addr},facF r=some k→Same H H1→H1 q1=some (.tup [.int 0,.int (k:Int)])→Q (.ref q1) H1:=fun {k H1 q1} hk s1 e1=>by
      refine q _ H1 s1 ?_
      rw [hk]
      exact Rep.tup e1 (RepL.cons (Rep.int _) (RepL.cons (Rep.int _) RepL.nil))
    refine ⟨_,(wss_cons (ws_if (wt_cmp op_ne (we_ix ix_seq (we_v 0) we_int (fun _ _=>rfl)) we_str (nomark _)) (wss_one (ws_ret (we_tup (wa_k we_int (wa_k we_int wa_nil))))) wss_nil)
      (wss_cons (ws_for PassesOwn.never rfl (wi_range2 rfl T.b_range (wa_k we_int (wa_k (we_cB cl_len (by rfl) T.b_len (by decide +kernel) (wa_k (we_v 0) wa_nil)) wa_nil))) (wg_name (i:=1) sc__law_faces.nd rfl (Or.inl rfl)) (wss_one (ws_if (wt_mono (wt_w (ww_or (wt_not (wt_val (we_fn F__law_is_name (hr.mono (by decide)) (wa_k (we_ix ix_seq (we_v 0) (we_v 1) (fun _ _=>rfl)) wa_nil)))) (ww_or (wt_cmp (op_inK (K:=K)) (we_ix ix_seq (we_v 0) (we_v 1) (fun _ _=>rfl)) (we_slice (sl_listN K) (we_v 0) (wo_some we_int) (wo_some (we_v 1))) (by with_unfolding_all rfl)) (ww_or1 (wt_cmp op_gt (we_v 1) we_int (nomark _))))))) (wss_one (ws_ret (we_tup (wa_k we_int (wa_k (we_v 1) wa_nil))))) wss_nil)))
      (wss_one (ws_ret (we_ifExp (wt_cmp op_gt (we_cB cl_len (by rfl) T.b_len (by decide +kernel) (wa_k (we_v 0) wa_nil)) we_int (nomark _)) we_non (we_tup (wa_k we_int (wa_k (we_cB cl_len (by rfl) T.b_len (by decide +kernel) (wa_k (we_v 0) wa_nil)) wa_nil)))))))),?_⟩
    refine ⟨_,rfl,?_⟩
    refine ixL ha (v:=.str t0) (by rw [er]; exact atI_nat (j:=0) rfl) ?_
    refine ⟨rfl,_,rfl,?_⟩
    by_cases hf:t0=wFaces
    · refine iteFe (by rw [hf]; simp; rfl) ?_
      subst hf
      have s0:safB (r.take 0) (r.getD 0 "")=true:=by rw [er]; exact decide_eq_true (show wFaces=wFaces from rfl)
      have sk:∀ {k:Nat} {t:Str},1≤k→r[k]?=some t→safB (r.take k) (r.getD k "")=(decide (k≤4)&&(nameS t && !decide (t∈(r.drop 1).take (k - 1)))):=fun {k t} h1 ht=>by
        have hk:k<r.length:=(List.getElem?_eq_some_iff.mp ht).1
        rw [getD_at ht]
        unfold safB
        rw [if_neg (fun z=>by have:=congrArg List.length z; rw [List.length_take,List.length_nil] at this; omega),List.length_take,Nat.min_eq_left (by omega)]
        by_cases hn:nameS t=true
        · rw [hn]
          have:decide (t∈r.take k)=decide (t∈(r.drop 1).take (k - 1)):=by
            refine decide_eq_decide.mpr ?_
            rw [er]
            obtain ⟨k',rfl⟩:∃ k',k=k' + 1:=⟨k - 1,by omega⟩
            rw [List.take_succ_cons,List.mem_cons]
            show t=wFaces∨t∈r0.take k' ↔ t∈r0.take (k' + 1 - 1)
            rw [show k' + 1 - 1=k' by omega]
            exact ⟨(fun z=>z.resolve_left fun z=>by (rw [z,faces_noname] at hn; cases hn)),Or.inr⟩
          rw [this]
        · rw [show nameS t=false by simpa using hn]; rfl
      refine ⟨_,rfl,?_⟩
      refine rlL ha ?_
      rw [List.length_map]
      have hl1:1≤r.length:=by rw [er]; simp
      refine ⟨_,_,rfl,⟨by decide,by decide,by omega,by omega⟩,?_⟩
      rw [show ((r.length:Int) - 1).toNat=r.length - 1 by omega]
      refine for_range (fun i σ H'=>∃ o1:Option V,σ=[some (.ref a),o1]∧Same H H'∧∀ j,j<i+1→safB (r.take j) (r.getD j "")=true) ⟨_,rfl,Same.refl _,fun j hj=>by rw [show j=0 by omega]; exact s0⟩ ?_ ?_
      · rintro i σ H2 hi ⟨o1,rfl,s2,hb⟩
        obtain ⟨t,ht⟩:∃ t,r[i+1]?=some t:=⟨_,List.getElem?_eq_getElem (by omega)⟩
        have hm:=List.mem_of_getElem? ht
        have hz:=ok.sz t hm
        have es:=sk (k:=i+1) (by omega) ht
        rw [show (1:Int)+(i:Int)=((i+1:Nat):Int) by omega]
        have hat:atI (r.map V.str) ((i+1:Nat):Int)=some (.str t):=atI_nat (by rw [List.getElem?_map,ht]; rfl)
        refine ⟨fun b H'=>Same H2 H'∧b=!safB (r.take (i+1)) (r.getD (i+1) ""),?_,?_⟩
        · refine ⟨_,rfl,_,rfl,?_⟩
          refine ixL (s2 _ _ ha) hat ?_
          refine sp_nmL_i (by omega) (ok.lo t hm) fun H3 s3=>?_
          refine ⟨_,rfl,?_⟩
          rw [es]
          by_cases hn:nameS t=true
          · rw [hn]
            refine iteF ?_
            refine ⟨_,rfl,_,rfl,?_⟩
            refine ixL (s3 _ _ (s2 _ _ ha)) hat ?_
            refine ⟨_,rfl,_,rfl,?_⟩
            refine ⟨_,rfl,_,rfl,?_⟩
            refine slL (s3 _ _ (s2 _ _ ha)) (ys:=((r.drop 1).take i).map V.str) (by rw [show (1:Int)=((1:Nat):Int) from rfl,cutV_mid08 _ (by omega) (by rw [List.length_map]; omega),List.map_take,List.map_drop,show i+1 - 1=i by omega]) fun q4 H4 hq4 e4 s4=>?_
            refine ⟨q4,_,rfl,.inl (SqL.of e4),rfl,vstr_flat _,?_⟩
            rw [inV_strs,show i+1 - 1=i by omega]
            refine ⟨_,rfl,?_⟩
            have S4:=s3.trans s4
            by_cases hmm:t∈(r.drop 1).take i
            · rw [decide_eq_true hmm]
              refine iteT ⟨S4,?_⟩
              rw [Bool.and_comm]; rfl
            · rw [decide_eq_false hmm]
              refine iteF ?_
              refine ⟨_,rfl,_,_,rfl,rfl,_,rfl,S4,?_⟩
              show decide ((4:Int)<((i+1:Nat):Int))=!(decide (i+1≤4)&&(true && !false))
              by_cases h4:i+1≤4
              · rw [decide_eq_true h4,decide_eq_false (by omega)]; rfl
              · rw [decide_eq_false h4,decide_eq_true (by omega)]; rfl
          · rw [show nameS t=false by simpa using hn]
            refine iteT ⟨s3,?_⟩
            rw [Bool.false_and,Bool.and_false]; rfl
        · rintro b H3 ⟨s3,rfl⟩
          cases hs:safB (r.take (i+1)) (r.getD (i+1) "") with
          | true =>
            refine iteF ⟨_,rfl,s2.trans s3,fun j hj=>?_⟩
            by_cases ej:j=i+1
            · subst ej; exact hs
            · exact hb j (by omega)
          | false =>
            refine iteT ?_
            refine ⟨_,rfl,?_⟩
            refine nwT (by show 2≤64; decide) fun q1 H4 hq1 e1 s4=>?_
            exact tell (k:=i+1) (facF_at (by omega) hs hb) ((s2.trans s3).trans s4) e1
      · rintro σ H2 ⟨o1,rfl,s2,hb⟩
        rw [show r.length - 1+1=r.length by omega] at hb
        have ef:=facF_end hb
        refine ⟨_,rfl,?_⟩
        refine rlL (s2 _ _ ha) ?_
        rw [List.length_map]
        refine ⟨_,_,rfl,rfl,_,rfl,?_⟩
        refine iteD (fun z=>?_) (fun z=>?_)
        · refine q _ H2 s2 ?_
          rw [ef,if_neg (by omega)]
          exact Rep.non
        · refine ⟨_,rfl,?_⟩
          refine rlL (s2 _ _ ha) ?_
          rw [List.length_map]
          refine nwT (by show 2≤64; decide) fun q1 H4 hq1 e1 s4=>?_
          exact tell (k:=r.length) (by rw [ef,if_pos (by omega)]) (s2.trans s4) e1
    · refine iteTe (by simp; exact hf) ?_
      refine nwT (by show 2≤64; decide) fun q1 H1 hq1 e1 s1=>?_
      refine tell (k:=0) (facF_at (by rw [er]; simp) ?_ (fun i hi=>by omega)) s1 e1
      rw [er]
      exact decide_eq_false hf
end
end Kw
set_option Elab.async false
set_option linter.all false
set_option maxRecDepth 100000
namespace Kw
open PySem L2 Mf Mt
abbrev s__law_way:Stmt:=(top 56)
theorem sc__law_way:FnScope ["_law_line", "_law_words", "_law_many", "_law_names", "_law_k"] ["_law_line", "_law_words", "_law_many", "_law_names"] (defScope s__law_way):=⟨rfl,rfl,rfl,by decide +kernel,rfl,by decide +kernel,by decide +kernel⟩
@[irreducible] def sp_lway:Sp:=fun vs H Q _=>∃ (l:Int) (a b:Addr) (F:Nat) (r ns:List Str),vs=[.int l,.ref a,.int (F:Int),.ref b]∧H a=some (.lst (r.map V.str))∧RwOk r∧H b=some (.lst (ns.map V.str))∧ns.length≤4∧∀ v H',Same H H'→Rep H' (fltD l (wayF r F ns)) v→Q v H'
theorem sp_lway_i {H:Hp} {Q:VK} {E:XK} {l:Int} {a b:Addr} {F:Nat} {r ns:List Str} (ha:H a=some (.lst (r.map V.str))) (ok:RwOk r) (hb:H b=some (.lst (ns.map V.str))) (hn:ns.length≤4) (q:∀ v H',Same H H'→Rep H' (fltD l (wayF r F ns)) v→Q v H'):sp_lway [.int l,.ref a,.int (F:Int),.ref b] H Q E:=by unfold sp_lway; exact ⟨l,a,b,F,r,ns,rfl,ha,ok,hb,hn,q⟩
section
variable {P:Program} {w:World} {K:PySem.W.Frag} {mg:Str→Option Value} {base:Heap} {c:Cl}
set_option maxHeartbeats 4000000 in
theorem ok__law_way {f:Addr} {fd:FuncData} (F:Fun K "_law_way" "_law_way" s__law_way f fd) (T:Txt K mg c) (F__law_is_name:FnC CX0 P w K mg base 1 "_law_is_name" ["_law_thing"] sp_nmL) (F__law_share:FnC CX0 P w K mg base 2 "_law_share" ["_law_word"] sp_lsh):FnOk P w K mg base CX0 3 f fd ["_law_line", "_law_words", "_law_many", "_law_names"] sp_lway:=by
  refine F.okw sc__law_way (fun vs H Q E h=>?_) (fun cdv A outer s H vs Q E hr h=>?_)
  · unfold sp_lway at h
    obtain ⟨l,a,b,F,r,ns,rfl,_⟩:=h
    rfl
  · unfold sp_lway at h
    obtain ⟨l,a,b,F,r,ns,rfl,ha,ok,hb,h4,q⟩:=h
    have lr:=ok.len
    obtain ⟨t0,r0,er⟩:=List.exists_cons_of_ne_nil ok.ne
    have tell:∀ {k:Nat} {H1:Hp} {q1:Addr},wayF r F ns=some k→Same H H1→H1 q1=some (.tup [.int l,.int (k:Int)])→Q (.ref q1) H1:=fun {k H1 q1} hk s1 e1=>by
      refine q _ H1 s1 ?_
      rw [hk]
      exact Rep.tup e1 (RepL.cons (Rep.int _) (RepL.cons (Rep.int _) RepL.nil))
    have eg0:r.getD 0 "" = t0:=by rw [er]; rfl
    have l1:1≤r.length:=by rw [er]; simp
    have e0:siwB 0 (r.getD 0 "") F ns=(decide (t0=wWay)&&decide (ns.length<4)):=by rw [eg0]; exact if_pos rfl
    refine ⟨_,(wss_cons (ws_if (wt_mono (wt_w (ww_or (wt_cmp op_ne (we_ix ix_seq (we_v 1) we_int (fun _ _=>rfl)) we_str (nomark _)) (ww_or1 (wt_cmp op_eq (we_cB cl_len (by rfl) T.b_len (by decide +kernel) (wa_k (we_v 3) wa_nil)) we_int (nomark _)))))) (wss_one (ws_ret (we_tup (wa_k (we_v 0) (wa_k we_int wa_nil))))) wss_nil)
      (wss_cons (ws_if (wt_mono (wt_w (ww_or (wt_cmp op_eq (we_cB cl_len (by rfl) T.b_len (by decide +kernel) (wa_k (we_v 1) wa_nil)) we_int (nomark _)) (ww_or (wt_not (wt_val (we_fn F__law_is_name (hr.mono (by decide)) (wa_k (we_ix ix_seq (we_v 1) we_int (fun _ _=>rfl)) wa_nil)))) (ww_or1 (wt_cmp (op_inK (K:=K)) (we_ix ix_seq (we_v 1) we_int (fun _ _=>rfl)) (we_v 3) (by with_unfolding_all rfl))))))) (wss_one (ws_ret (we_tup (wa_k (we_v 0) (wa_k we_int wa_nil))))) wss_nil)
      (wss_cons (ws_for PassesOwn.never rfl (wi_range2 rfl T.b_range (wa_k we_int (wa_k (we_cB cl_len (by rfl) T.b_len (by decide +kernel) (wa_k (we_v 1) wa_nil)) wa_nil))) (wg_name (i:=4) sc__law_way.nd rfl (Or.inl rfl)) (wss_one (ws_if (wt_mono (wt_w (ww_or (wt_cmp op_isN (we_fn F__law_share (hr.mono (by decide)) (wa_k (we_ix ix_seq (we_v 1) (we_v 4) (fun _ _=>rfl)) wa_nil)) we_non (nomark _)) (ww_or1 (wt_cmp op_gt (we_v 4) (we_op op_add (we_v 2) we_int) (nomark _)))))) (wss_one (ws_ret (we_tup (wa_k (we_v 0) (wa_k (we_v 4) wa_nil))))) wss_nil)))
      (wss_one (ws_ret (we_ifExp (wt_cmp op_eq (we_cB cl_len (by rfl) T.b_len (by decide +kernel) (wa_k (we_v 1) wa_nil)) (we_op op_add (we_v 2) we_int) (nomark _)) we_non (we_tup (wa_k (we_v 0) (wa_k (we_cB cl_len (by rfl) T.b_len (by decide +kernel) (wa_k (we_v 1) wa_nil)) wa_nil))))))))),?_⟩
    refine ⟨fun bb H'=>Same H H'∧bb=!siwB 0 (r.getD 0 "") F ns,?_,?_⟩
    · refine ⟨_,rfl,?_⟩
      refine ixL ha (v:=.str t0) (by rw [er]; exact atI_nat (j:=0) rfl) ?_
      refine ⟨rfl,_,rfl,?_⟩
      rw [e0]
      by_cases hf:t0=wWay
      · refine iteFe (by rw [hf]; simp; rfl) ?_
        refine ⟨_,rfl,?_⟩
        refine rlL hb ?_
        rw [List.length_map]
        refine ⟨rfl,_,rfl,Same.refl _,?_⟩
        rw [decide_eq_true hf,Bool.true_and]
        by_cases h3:ns.length<4
        · rw [decide_eq_true h3,decide_eq_false (fun z=>by have z:=V.int.inj z; omega)]; rfl
        · rw [decide_eq_false h3,decide_eq_true (by rw [show ns.length=4 by omega]; rfl)]; rfl
      · refine iteTe (by simp; exact hf) ⟨Same.refl _,?_⟩
        rw [decide_eq_false hf]; rfl
    · rintro bb H1 ⟨s1,rfl⟩
      cases hs0:siwB 0 (r.getD 0 "") F ns with
      | false =>
        refine iteT ?_
        refine ⟨_,rfl,?_⟩
        refine nwT (by show 2≤64; decide) fun q1 H2 hq1 e1 s2=>?_
        exact tell (k:=0) (wayF_at (by omega) hs0 (fun i hi=>by omega)) (s1.trans s2) e1
      | true =>
        refine iteF ?_
        by_cases L1:r.length=1
        · refine ⟨fun bb H'=>Same H1 H'∧bb=true,?_,?_⟩
          · refine ⟨_,rfl,?_⟩
            refine rlL (s1 _ _ ha) ?_
            rw [List.length_map,L1]
            refine ⟨rfl,_,rfl,?_⟩
            exact iteT ⟨Same.refl _,rfl⟩
          · rintro bb H2 ⟨s2,rfl⟩
            refine iteT ?_
            refine ⟨_,rfl,?_⟩
            refine nwT (by show 2≤64; decide) fun q1 H3 hq1 e1 s3=>?_
            refine tell (k:=1) ?_ ((s1.trans s2).trans s3) e1
            rw [wayF_end (fun i hi=>by rw [show i=0 by omega]; exact hs0),if_pos (by omega),L1]
        obtain ⟨t1,ht1⟩:∃ t1,r[1]?=some t1:=⟨_,List.getElem?_eq_getElem (by omega)⟩
        have hm1:=List.mem_of_getElem? ht1
        have hz1:=ok.sz t1 hm1
        have hat1:atI (r.map V.str) 1=some (.str t1):=atI_nat (j:=1) (by rw [List.getElem?_map,ht1]; rfl)
        have e1':siwB 1 (r.getD 1 "") F ns=(nameS t1 && !decide (t1∈ns)):=by rw [getD_at ht1]; exact (if_neg (by decide)).trans (if_pos rfl)
        refine ⟨fun bb H'=>Same H1 H'∧bb=!siwB 1 (r.getD 1 "") F ns,?_,?_⟩
        · refine ⟨_,rfl,?_⟩
          refine rlL (s1 _ _ ha) ?_
          rw [List.length_map]
          refine ⟨rfl,_,rfl,?_⟩
          refine iteFe (decide_eq_false fun z=>L1 (by have z:=V.int.inj z; omega)) ?_
          refine ⟨_,rfl,?_⟩
          refine ixL (s1 _ _ ha) hat1 ?_
          refine sp_nmL_i (by omega) (ok.lo t1 hm1) fun H2 s2=>?_
          refine ⟨_,rfl,?_⟩
          rw [e1']
          by_cases hn:nameS t1=true
          · rw [hn]
            refine iteF ?_
            refine ⟨_,rfl,?_⟩
            refine ixL (s2 _ _ (s1 _ _ ha)) hat1 ?_
            refine ⟨_,rfl,?_⟩
            refine ⟨b,_,rfl,.inl (SqL.of (s2 _ _ (s1 _ _ hb))),rfl,vstr_flat _,?_⟩
            rw [inV_strs]
            refine ⟨_,rfl,s2,?_⟩
            cases decide (t1∈ns) <;> rfl
          · rw [show nameS t1=false by simpa using hn]
            refine iteT ⟨s2,rfl⟩
        · rintro bb H2 ⟨s2,rfl⟩
          have S2:=s1.trans s2
          cases hs1:siwB 1 (r.getD 1 "") F ns with
          | false =>
            refine iteT ?_
            refine ⟨_,rfl,?_⟩
            refine nwT (by show 2≤64; decide) fun q1 H3 hq1 e1 s3=>?_
            exact tell (k:=1) (wayF_at (by omega) hs1 (fun i hi=>by rw [show i=0 by omega]; exact hs0)) (S2.trans s3) e1
          | true =>
            refine iteF ?_
            refine ⟨_,rfl,?_⟩
            refine rlL (S2 _ _ ha) ?_
            rw [List.length_map]
            refine ⟨_,_,rfl,⟨by decide,by decide,by omega,by omega⟩,?_⟩
            rw [show ((r.length:Int) - 2).toNat=r.length - 2 by omega]
            refine for_range (fun i σ H'=>∃ o4:Option V,σ=[some (.int l),some (.ref a),some (.int (F:Int)),some (.ref b),o4]∧Same H H'∧∀ j,j<i+2→siwB j (r.getD j "") F ns=true) ⟨_,rfl,S2,fun j hj=>by rcases (show j=0∨j=1 by omega) with rfl | rfl; exact hs0; exact hs1⟩ ?_ ?_
            · rintro i σ H3 hi ⟨o4,rfl,s3,hbb⟩
              obtain ⟨t,ht⟩:∃ t,r[i+2]?=some t:=⟨_,List.getElem?_eq_getElem (by omega)⟩
              have hm:=List.mem_of_getElem? ht
              have hz:=ok.sz t hm
              have es:siwB (i+2) (r.getD (i+2) "") F ns=(decide (i+2<2+F)&&wsB t):=by rw [getD_at ht]; exact (if_neg (by omega)).trans (if_neg (by omega))
              rw [show (2:Int)+(i:Int)=((i+2:Nat):Int) by omega]
              have hat:atI (r.map V.str) ((i+2:Nat):Int)=some (.str t):=atI_nat (by rw [List.getElem?_map,ht]; rfl)
              refine ⟨fun bb H'=>Same H3 H'∧bb=!siwB (i+2) (r.getD (i+2) "") F ns,?_,?_⟩
              · refine ⟨_,rfl,_,rfl,?_⟩
                refine ixL (s3 _ _ ha) hat ?_
                refine sp_lsh_i (by omega) (ok.lo t hm) fun v H4 s4 r4=>?_
                rw [lsh_eq (by omega)] at r4
                rw [es]
                refine ⟨rfl,_,rfl,?_⟩
                cases hw:wsB t with
                | false =>
                  rw [hw] at r4
                  cases r4
                  refine iteTe (by simp) ⟨s4,?_⟩
                  rw [Bool.and_false]; rfl
                | true =>
                  rw [hw,if_pos rfl] at r4
                  refine iteFe (decide_eq_false fun z=>by rw [z] at r4; obtain ⟨_,e4,_⟩:=frD_at r4; cases e4) ?_
                  refine ⟨_,rfl,_,rfl,_,_,rfl,rfl,_,_,rfl,rfl,_,rfl,s4,?_⟩
                  rw [Bool.and_true]
                  by_cases hq:i+2<2+F
                  · rw [decide_eq_true hq,decide_eq_false (by omega)]; rfl
                  · rw [decide_eq_false hq,decide_eq_true (by omega)]; rfl
              · rintro bb H4 ⟨s4,rfl⟩
                cases hs:siwB (i+2) (r.getD (i+2) "") F ns with
                | true =>
                  refine iteF ⟨_,rfl,s3.trans s4,fun j hj=>?_⟩
                  by_cases ej:j=i+2
                  · subst ej; exact hs
                  · exact hbb j (by omega)
                | false =>
                  refine iteT ?_
                  refine ⟨_,rfl,_,rfl,?_⟩
                  refine nwT (by show 2≤64; decide) fun q1 H5 hq1 e1 s5=>?_
                  exact tell (k:=i+2) (wayF_at (by omega) hs hbb) ((s3.trans s4).trans s5) e1
            · rintro σ H3 ⟨o4,rfl,s3,hbb⟩
              rw [show r.length - 2+2=r.length by omega] at hbb
              have ef:=wayF_end hbb
              have hle:r.length≤2+F:=by
                rcases Nat.lt_or_ge 2 r.length with q2 | q2
                · have:=hbb (r.length - 1) (by omega)
                  rw [show siwB (r.length - 1) (r.getD (r.length - 1) "") F ns=(decide (r.length - 1<2+F)&&wsB (r.getD (r.length - 1) "")) from (if_neg (by omega)).trans (if_neg (by omega)),Bool.and_eq_true,decide_eq_true_eq] at this
                  omega
                · omega
              refine ⟨_,rfl,?_⟩
              refine rlL (s3 _ _ ha) ?_
              rw [List.length_map]
              refine ⟨_,rfl,_,_,rfl,rfl,rfl,_,rfl,?_⟩
              by_cases hq:r.length=F+2
              · refine iteTe (decide_eq_true (by rw [hq]; rfl)) ?_
                refine q _ H3 s3 ?_
                rw [ef,if_neg (by omega)]
                exact Rep.non
              · refine iteFe (decide_eq_false fun z=>hq (by have z:=V.int.inj z; omega)) ?_
                refine ⟨_,rfl,_,rfl,?_⟩
                refine rlL (s3 _ _ ha) ?_
                rw [List.length_map]
                refine nwT (by show 2≤64; decide) fun q1 H5 hq1 e1 s5=>?_
                refine tell (k:=r.length) ?_ (s3.trans s5) e1
                rw [ef,if_pos (by omega)]
end
end Kw
set_option Elab.async false
set_option linter.all false
set_option maxRecDepth 100000
namespace Kw
open PySem L2 Mf Mt
theorem wi_listK {X:Cx} {tg l:Expr} {tl:TE} (K:PySem.W.Frag) (hl:PEw X l tl) (hK:X.K=K:=by rfl):PIw X tg l (iList K tl):=by subst hK; exact wi_list hl
theorem comp_newL {σ:St} {js:List Nat} {te:TE} {H:Hp} {Q:VK} {K:PySem.W.Frag} {a:Addr} {xs:List V} (R:Nat→Addr→Hp→Prop) (hR:∀ i p H1 H2,Same H1 H2→R i p H1→R i p H2) (hR2:∀ i p H1 H2 D,p≠D→SameBut D H1 H2→R i p H1→R i p H2) (hz:xs.length≤100000) (hl:H a=some (.lst xs))
    (hs:∀ i x H' (Q':VK),xs[i]?=some x→Same H H'→(∀ p H5,H' p=none→Same H' H5→R i p H5→Q' (.ref p) H5)→te (some x::slots σ js) H' Q')
    (hd:∀ D ys H',H D=none→H' D=some (.lst ys)→Same H H'→ys.length=xs.length→(∀ (i:Nat) (y:V),ys[i]?=some y→∃ p,y=.ref p∧p≠D∧R i p H')→Q (.ref D) H'):CompB (Itl K a) σ js tYes te H Q:=by
  refine comp_any (J:=Itl K a) (n:=xs.length) (fun i x=>xs[i]?=some x) hz (fun D i ys H'=>H D=none∧Same H H'∧∀ (i:Nat) (y:V),ys[i]?=some y→∃ p,y=.ref p∧p≠D∧R i p H') (fun D H1 hD _ s=>⟨hD,s,fun i y h=>by simp at h⟩)
    (fun D i ys H' hi _ p=>⟨⟨xs,xs[i],SqL.of (p.2.1 _ _ hl),by simp [hi]⟩,fun x H3 y=>⟨y.1,y.2 xs (SqL.of (p.2.1 _ _ hl))⟩⟩) (fun D ys H' _ p=>⟨xs,SqL.of (p.2.1 _ _ hl),Nat.le_refl _⟩) (fun D i x ys H' hx hi hy hD p=>?_) (fun D ys H' hy hD hD' p=>hd D ys H' hD hD' p.2.1 hy p.2.2)
  refine hs i x H' _ hx p.2.1 fun q H5 hq s5 r=>?_
  have nq:q≠D:=fun z=>by rw [z,hD] at hq; cases hq
  refine ⟨s5 _ _ hD,fun H6 hD6 s6=>⟨p.1,Same.thru p.1 (p.2.1.trans s5) s6,?_⟩⟩
  exact snoc_all (R:=fun j z=>∃ p,z=.ref p∧p≠D∧R j p H6) (fun j z hj=>by obtain ⟨p',h1,h2,h3⟩:=p.2.2 j z hj; exact ⟨p',h1,h2,hR2 _ _ _ _ D h2 s6 (hR _ _ _ _ s5 h3)⟩) (by rw [hy]; exact ⟨q,rfl,nq,hR2 _ _ _ _ D nq s6 r⟩)
def Shp (n:Nat) (d:PyData):Prop:=PyData.canLay0 d=true∧PyData.depth d≤n
theorem Shp.all {n:Nat}:∀ {ds:List PyData},(∀ d∈ds,Shp n d)→PyData.canLayAll0 ds=true∧PyData.depthAll ds≤n
  | [],_=>⟨rfl,Nat.zero_le _⟩
  | d::ds,h=>by
    obtain ⟨h1,h2⟩:=h d (List.mem_cons_self ..)
    obtain ⟨h3,h4⟩:=Shp.all fun e he=>h e (List.mem_cons_of_mem _ he)
    refine ⟨?_,?_⟩
    · show (PyData.canLay0 d&&PyData.canLayAll0 ds)=true
      rw [h1,h3]; rfl
    · show max (PyData.depth d) (PyData.depthAll ds)≤n
      omega
theorem Shp.tup {n:Nat} {ds:List PyData} (h:∀ d∈ds,Shp n d):Shp (n+1) (.tuple ds):=⟨(Shp.all h).1,by have:=(Shp.all h).2; show PyData.depthAll ds+1≤n+1; omega⟩
theorem Shp.lst {n:Nat} {ds:List PyData} (h:∀ d∈ds,Shp n d):Shp (n+1) (.list ds):=⟨(Shp.all h).1,by have:=(Shp.all h).2; show PyData.depthAll ds+1≤n+1; omega⟩
theorem Shp.int (i:Int):Shp 1 (.int i):=⟨rfl,by simp [PyData.depth]⟩
theorem Shp.ok {n:Nat} {d:PyData} (h:Shp n d) (hn:n≤64:=by decide):SeqAt.shaped d=true:=by
  unfold SeqAt.shaped
  rw [h.1,Bool.true_and]
  exact decide_eq_true (by have:=h.2; omega)
theorem Shp.str {t:Str} (h:Low t):Shp 1 (.str t):=by
  refine ⟨?_,by simp [PyData.depth]⟩
  show PySem.PyData.strOk t=true
  unfold PySem.PyData.strOk
  rw [← Array.all_toList,List.all_eq_true]
  intro x hx
  have:=h x hx
  exact decide_eq_true (by omega)
abbrev rwD (rows:List (List Str)):PyData:=.list (rows.map fun r=>.list (r.map PyData.str))
theorem rw_shaped {rows:List (List Str)} (ok:∀ r∈rows,RwOk r):SeqAt.shaped (rwD rows)=true:=(Shp.lst (n:=2) fun d hd=>by
  obtain ⟨r,hr,rfl⟩:=List.mem_map.mp hd
  exact Shp.lst fun e he=>by
    obtain ⟨t,ht,rfl⟩:=List.mem_map.mp he
    exact Shp.str ((ok r hr).lo t ht)).ok
theorem rw_eqv (rows:List (List Str)):PyData.eqv (rwD rows) (.list [])=rows.isEmpty:=by cases rows <;> rfl
def RwsAt (H:Hp) (rows:List (List Str)) (ys:List V):Prop:=ys.length=rows.length∧∀ (i:Nat) (r:List Str),rows[i]?=some r→∃ p,ys[i]?=some (.ref p)∧H p=some (.lst (r.map V.str))
theorem RwsAt.same {H H':Hp} {rows:List (List Str)} {ys:List V} (h:RwsAt H rows ys) (s:Same H H'):RwsAt H' rows ys:=⟨h.1,fun i r hr=>by obtain ⟨p,h1,h2⟩:=h.2 i r hr; exact ⟨p,h1,s _ _ h2⟩⟩
theorem RwsAt.rep {H:Hp} {rows:List (List Str)} {ys:List V} {a:Addr} (h:RwsAt H rows ys) (ha:H a=some (.lst ys)):Rep H (rwD rows) (.ref a):=by
  refine Rep.lst ha (RepL.ofIdx (by rw [h.1,List.length_map]) fun i y hi=>?_)
  have hl:i<rows.length:=by rw [← h.1]; exact (List.getElem?_eq_some_iff.mp hi).1
  obtain ⟨p,h1,h2⟩:=h.2 i _ (List.getElem?_eq_getElem hl)
  rw [hi] at h1
  injection h1 with h1
  subst h1
  exact ⟨_,by rw [List.getElem?_map,List.getElem?_eq_getElem hl]; rfl,Rep.lst h2 (RepL_strs _)⟩
theorem RwsAt.at {H:Hp} {rows:List (List Str)} {ys:List V} (h:RwsAt H rows ys) {i:Nat} {r:List Str} (hr:rows[i]?=some r):∃ p,atI ys (i:Int)=some (.ref p)∧H p=some (.lst (r.map V.str)):=by
  obtain ⟨p,h1,h2⟩:=h.2 i r hr
  exact ⟨p,atI_nat h1,h2⟩
def fltU (r:List Str) (rest:List (List Str)) (i:Nat):Option (Nat × Nat):=match facF r with
  | some k=>some (0,k)
  | none=>(List.range i).findSome? fun j=>(wayA rest (r.length - 1) j).map fun k=>(j+1,k)
theorem fltU_zero (r:List Str) (rest:List (List Str)):fltU r rest 0=(facF r).map fun k=>(0,k):=by
  unfold fltU; cases facF r <;> rfl
theorem fltU_some {r:List Str} {rest:List (List Str)} {i:Nat} {e:Nat × Nat} (h:fltU r rest i=some e):fltU r rest (i+1)=some e:=by
  unfold fltU at h ⊢
  cases hf:facF r with
  | some k=>rw [hf] at h; exact h
  | none =>
    rw [hf] at h
    have h:(List.range i).findSome? (fun j=>(wayA rest (r.length - 1) j).map fun k=>(j+1,k))=some e:=h
    show (List.range (i+1)).findSome? (fun j=>(wayA rest (r.length - 1) j).map fun k=>(j+1,k))=some e
    rw [List.range_succ,List.findSome?_append,h]; rfl
theorem fltU_step {r:List Str} {rest:List (List Str)} {i:Nat} (h:fltU r rest i=none):fltU r rest (i+1)=(wayA rest (r.length - 1) i).map fun k=>(i+1,k):=by
  unfold fltU at h ⊢
  cases hf:facF r with
  | some k=>rw [hf] at h; cases h
  | none =>
    rw [hf] at h
    have h:(List.range i).findSome? (fun j=>(wayA rest (r.length - 1) j).map fun k=>(j+1,k))=none:=h
    show (List.range (i+1)).findSome? (fun j=>(wayA rest (r.length - 1) j).map fun k=>(j+1,k))=_
    rw [List.range_succ,List.findSome?_append,h,List.findSome?_singleton]; rfl
theorem fltU_none {r:List Str} {rest:List (List Str)} {i:Nat} (h:fltU r rest i=none):facF r=none∧∀ j,j<i→wayA rest (r.length - 1) j=none:=by
  unfold fltU at h
  cases hf:facF r with
  | some k=>rw [hf] at h; cases h
  | none =>
    rw [hf] at h
    have h:(List.range i).findSome? (fun j=>(wayA rest (r.length - 1) j).map fun k=>(j+1,k))=none:=h
    refine ⟨rfl,fun j hj=>?_⟩
    have:=List.findSome?_eq_none_iff.mp h j (List.mem_range.mpr hj)
    simpa using this
theorem resF_flt (r:List Str) (rest:List (List Str)):resF (r::rest)=match fltU r rest rest.length with
    | some e=>.error e
    | none=>if rest.length<2 then .error (rest.length+1,0) else match sumF rest with
      | some i=>.error (i+1,2)
      | none=>.ok (r.drop 1,rest.map wayO):=by
  show (match facF r with | some k=>Except.error (0,k) | none=>_)=_
  unfold fltU
  cases facF r <;> rfl
def opD:Option (Nat × Nat)→PyData
  | none=>.none
  | some e=>.tuple [.int (e.1:Int),.int (e.2:Int)]
theorem opD_flt (l:Nat) (o:Option Nat):fltD (l:Int) o=opD (o.map fun k=>(l,k)):=by cases o <;> rfl
theorem opD_non {H:Hp} {o:Option (Nat × Nat)} {v:V} (h:Rep H (opD o) v):decide (v=.non)=o.isNone:=by
  cases o with
  | none=>cases h; rfl
  | some e =>
    obtain ⟨a,xs,rfl,_⟩:=tup_at h
    rfl
theorem wayF_two {r:List Str} {F:Nat} {ns:List Str} (h:wayF r F ns=none) (ok:RwOk r):r.length=F+2∧ns.length<4∧∀ t∈r.drop 2,wsB t=true:=by
  have h0:=h
  unfold wayF at h
  split at h
  · cases h
  · rename_i e
    split at h
    · cases h
    · rename_i hl
      have hb:=firstF_none.mp e
      have at2:∀ k,2≤k→k<r.length→k<2+F∧wsB (r.getD k "")=true:=fun k h2 hk=>by
        have:=hb k hk
        have:siwB k (r.getD k "") F ns=true:=this
        rw [show siwB k (r.getD k "") F ns=(decide (k<2+F)&&wsB (r.getD k "")) from (if_neg (by omega)).trans (if_neg (by omega)),Bool.and_eq_true,decide_eq_true_eq] at this
        exact this
      refine ⟨?_,?_,fun t ht=>?_⟩
      · rcases Nat.lt_or_ge (2+F) r.length with q | q
        · have:=(at2 (2+F) (by omega) q).1
          omega
        · omega
      · have hl0:=List.length_pos_iff.mpr ok.ne
        have:=hb 0 hl0
        have:siwB 0 (r.getD 0 "") F ns=true:=this
        rw [show siwB 0 (r.getD 0 "") F ns=(decide (r.getD 0 "" = wWay)&&decide (ns.length<4)) from if_pos rfl,Bool.and_eq_true,decide_eq_true_eq,decide_eq_true_eq] at this
        exact this.2
      · obtain ⟨j,hj⟩:=List.mem_iff_getElem?.mp ht
        rw [List.getElem?_drop] at hj
        have hw:=(at2 (2+j) (by omega) (List.getElem?_eq_some_iff.mp hj).1).2
        rw [getD_at hj] at hw
        exact hw
theorem one_iff {fs:List Fr} (h:∀ f∈fs,LowF f):(sumN fs (Mf.whole fs)=Mf.whole fs)↔totF fs=(1,1):=by
  have hw:=whole_pos fs h
  have e:=totF_eq fs h
  constructor
  · intro z
    rw [← e,z,lw_one hw]
  · intro z
    have c:=lw_cross (n:=sumN fs (Mf.whole fs)) (d:=Mf.whole fs)
    rw [e,z] at c
    have:(1:Int)*Mf.whole fs=sumN fs (Mf.whole fs)*1:=c
    omega
end Kw
set_option Elab.async false
set_option linter.all false
set_option maxRecDepth 100000
namespace Kw
open PySem L2 Mf Mt
abbrev s__law_due:Stmt:=(top 57)
theorem sc__law_due:FnScope ["_law_lines_here", "_law_rows", "_law_fault", "_law_many", "_law_line", "_law_ways", "_law_k", "_law_whole", "_law_one"] ["_law_lines_here"] (defScope s__law_due):=⟨rfl,rfl,rfl,by decide +kernel,rfl,by decide +kernel,by decide +kernel⟩
def dueD (rows:List (List Str)):PyData:=match resF rows with
  | .error e=>opD (some e)
  | .ok (fs,ws)=>trD fs ws
@[irreducible] def sp_ldue:Sp:=fun vs H Q _=>∃ a rows,vs=[.ref a]∧H a=some (.lst ((rows.map lnOf).map V.str))∧(∀ r∈rows,RwOk r)∧rows.length≤40∧∀ v H',Same H H'→Rep H' (dueD rows) v→Q v H'
theorem sp_ldue_i {H:Hp} {Q:VK} {E:XK} {a:Addr} {rows:List (List Str)} (ha:H a=some (.lst ((rows.map lnOf).map V.str))) (ok:∀ r∈rows,RwOk r) (hl:rows.length≤40) (q:∀ v H',Same H H'→Rep H' (dueD rows) v→Q v H'):sp_ldue [.ref a] H Q E:=by unfold sp_ldue; exact ⟨a,rows,rfl,ha,ok,hl,q⟩
theorem whole08 {fs:List Fr} (ok:∀ f∈fs,ShF f) (h:fs.length≤6):0<Mf.whole fs∧(Mf.whole fs).natAbs<2^100:=by
  have hB:=shf_fsb ok h
  have hw:=whole_pos fs hB.low
  have h4:=whole_le fs (k:=10) fun f hf=>⟨hB.low f hf,hB.dn f hf⟩
  have h5:((2:Int)^(10*fs.length))=(((2:Nat)^(10*fs.length):Nat):Int):=by rw [Int.natCast_pow]; rfl
  rw [h5] at h4
  have h6:(Mf.whole fs).natAbs≤2^(10*fs.length):=by omega
  exact ⟨hw,Nat.lt_of_le_of_lt h6 (Nat.pow_lt_pow_right (by decide) (by omega))⟩
section
variable {P:Program} {w:World} {K:PySem.W.Frag} {mg:Str→Option Value} {base:Heap} {c:Cl}
set_option maxHeartbeats 8000000 in
theorem ok__law_due {f:Addr} {fd:FuncData} (F:Fun K "_law_due" "_law_due" s__law_due f fd) (T:Txt K mg c) (F__law_faces:FnC CX0 P w K mg base 2 "_law_faces" ["_law_words"] sp_lfaces) (F__law_way:FnC CX0 P w K mg base 3 "_law_way" ["_law_line", "_law_words", "_law_many", "_law_names"] sp_lway) (F__law_share:FnC CX0 P w K mg base 2 "_law_share" ["_law_word"] sp_lsh):FnOk P w K mg base CX0 4 f fd ["_law_lines_here"] sp_ldue:=by
  refine F.okw sc__law_due (fun vs H Q E h=>?_) (fun cdv A outer s H vs Q E hr h=>?_)
  · unfold sp_ldue at h
    obtain ⟨a,rows,rfl,_⟩:=h
    rfl
  · unfold sp_ldue at h
    obtain ⟨a,rows,rfl,ha,ok,h40,q⟩:=h
    refine ⟨_,(wss_cons (ws_setComp (i:=1) (CScope.of (psc:=defScope s__law_due) (N:=["_law_lines_here", "_law_rows", "_law_fault", "_law_many", "_law_line", "_law_ways", "_law_k", "_law_whole", "_law_one"]) (N':=["_law_line"]) (js:=[]) (by decide +kernel) rfl rfl rfl) sc__law_due.nd rfl rfl (wi_list (we_v 0)) (fun _ _ _ _=>wts_nil) (fun _ _ _ _=>(we_bmK K PySem.F.plainAttrs_str PySem.F.slot_str_split PySem.F.type_str_split mt_split (we_v 0) (wa_k we_str wa_nil))))
      (wss_cons (ws_if (wt_cmp (op_eqD hr.units) (we_v 1) (we_lst wa_nil) (nomark _)) (wss_one (ws_ret (we_tup (wa_k we_int (wa_k we_int wa_nil))))) wss_nil)
      (wss_cons (ws_set (i:=2) sc__law_due.nd rfl (Or.inl rfl) (we_fn F__law_faces (hr.mono (by decide)) (wa_k (we_ix ix_seq (we_v 1) we_int (fun _ _=>rfl)) wa_nil)))
      (wss_cons (ws_set (i:=3) sc__law_due.nd rfl (Or.inl rfl) (we_op op_sub (we_cB cl_len (by rfl) T.b_len (by decide +kernel) (wa_k (we_ix ix_seq (we_v 1) we_int (fun _ _=>rfl)) wa_nil)) we_int))
      (wss_cons (ws_for PassesOwn.never rfl (wi_range2 rfl T.b_range (wa_k we_int (wa_k (we_cB cl_len (by rfl) T.b_len (by decide +kernel) (wa_k (we_v 1) wa_nil)) wa_nil))) (wg_name (i:=4) sc__law_due.nd rfl (Or.inl rfl)) (wss_one (ws_if (wt_cmp op_isN (we_v 2) we_non (nomark _)) (wss_one (ws_set (i:=2) sc__law_due.nd rfl (Or.inl rfl) (we_fn F__law_way (hr.mono (by decide)) (wa_k (we_v 4) (wa_k (we_ix ix_seq (we_v 1) (we_v 4) (fun _ _=>rfl)) (wa_k (we_v 3) (wa_k (we_comp (CScope.of (psc:=defScope s__law_due) (N:=["_law_lines_here", "_law_rows", "_law_fault", "_law_many", "_law_line", "_law_ways", "_law_k", "_law_whole", "_law_one"]) (N':=["_law_row"]) (js:=[]) (by decide +kernel) rfl rfl rfl) (wi_list (we_slice (sl_listN K) (we_v 1) (wo_some we_int) (wo_some (we_v 4)))) (fun _ _ _ _=>wts_nil) (fun _ _ _ _=>(we_ix (ix_seqK K) (we_v 0) we_int (fun _ _=>rfl)))) wa_nil))))))) wss_nil)))
      (wss_cons (ws_cut (ws_if (wt_mono (wt_w (ww_and (wt_cmp op_isN (we_v 2) we_non (nomark _)) (ww_and1 (wt_cmp op_lt (we_cB cl_len (by rfl) T.b_len (by decide +kernel) (wa_k (we_v 1) wa_nil)) we_int (nomark _)))))) (wss_one (ws_set (i:=2) sc__law_due.nd rfl (Or.inl rfl) (we_tup (wa_k (we_cB cl_len (by rfl) T.b_len (by decide +kernel) (wa_k (we_v 1) wa_nil)) (wa_k we_int wa_nil))))) wss_nil))
      (wss_cons (ws_if (wt_cmp op_notN (we_v 2) we_non (nomark _)) (wss_one (ws_ret (we_v 2))) wss_nil)
      (wss_cons (ws_setComp (i:=5) (CScope.of (psc:=defScope s__law_due) (N:=["_law_lines_here", "_law_rows", "_law_fault", "_law_many", "_law_line", "_law_ways", "_law_k", "_law_whole", "_law_one"]) (N':=["_law_row"]) (js:=[]) (by decide +kernel) rfl rfl rfl) sc__law_due.nd rfl rfl (wi_list (we_slice (sl_listN K) (we_v 1) (wo_some we_int) wo_none)) (fun _ _ _ _=>wts_nil) (fun _ _ _ _=>(we_tup (wa_k (we_ix (ix_seqK K) (we_v 0) we_int (fun _ _=>rfl)) (wa_k (we_cT (cl_tupK K) (by rfl) T.b_tuple (by decide +kernel) (wa_k (we_comp (CScope.of (N:=["_law_row"]) (N':=["_law_word"]) (js:=[]) (by kernel_rfl) rfl rfl rfl) (wi_listK K (we_slice (sl_listN K) (we_v 0) (wo_some we_int) wo_none)) (fun _ _ _ _=>wts_nil) (fun _ _ _ _=>(we_fn F__law_share (hr.mono (by decide)) (wa_k (we_v 0) wa_nil)))) wa_nil)) wa_nil)))))
      (wss_cons (ws_for PassesOwn.never rfl (wi_range1 rfl T.b_range (wa_k (we_cB cl_len (by rfl) T.b_len (by decide +kernel) (wa_k (we_v 5) wa_nil)) wa_nil)) (wg_name (i:=6) sc__law_due.nd rfl (Or.inl rfl)) (wss_cons (ws_set (i:=7) sc__law_due.nd rfl (Or.inr rfl) we_int)
      (wss_cons (ws_for PassesOwn.never rfl (wi_tup (we_ix ix_seq (we_ix ix_seq (we_v 5) (we_v 6) (fun _ _=>rfl)) we_int (fun _ _=>rfl))) (wg_name (i:=8) sc__law_due.nd rfl (Or.inl rfl)) (wss_one (ws_set (i:=7) sc__law_due.nd rfl (Or.inr rfl) (we_op op_mulB (we_v 7) (we_ix ix_seq (we_v 8) we_int (fun _ _=>rfl))))))
      (wss_one (ws_if (wt_cmp op_ne (we_cB (cl_sum rfl) (by rfl) T.b_sum (by decide +kernel) (wa_k (we_comp (CScope.of (psc:=defScope s__law_due) (N:=["_law_lines_here", "_law_rows", "_law_fault", "_law_many", "_law_line", "_law_ways", "_law_k", "_law_whole", "_law_one"]) (N':=["_law_one", "_law_whole"]) (js:=[7]) (by decide +kernel) rfl rfl rfl) (wi_tup (we_ix ix_seq (we_ix ix_seq (we_v 5) (we_v 6) (fun _ _=>rfl)) we_int (fun _ _=>rfl))) (fun _ _ _ _=>wts_nil) (fun _ _ _ _=>(we_op op_mulB (we_ix (ix_seqK K) (we_v 0) we_int (fun _ _=>rfl)) (we_op op_fdivB (we_v 1) (we_ix (ix_seqK K) (we_v 0) we_int (fun _ _=>rfl)))))) wa_nil)) (we_v 7) (nomark _)) (wss_one (ws_ret (we_tup (wa_k (we_op op_add we_int (we_v 6)) (wa_k we_int wa_nil))))) wss_nil)))))
      (wss_one (ws_ret (we_tup (wa_k (we_cT call_tuple_of (by rfl) T.b_tuple (by decide +kernel) (wa_k (we_slice (sl_listN K) (we_ix ix_seq (we_v 1) we_int (fun _ _=>rfl)) (wo_some we_int) wo_none) wa_nil)) (wa_k (we_cT call_tuple_of (by rfl) T.b_tuple (by decide +kernel) (wa_k (we_v 5) wa_nil)) wa_nil)))))))))))))),?_⟩
    refine ⟨_,rfl,a,rfl,⟨_,SqL.of ha⟩,?_⟩
    refine comp_newL (fun i p H'=>∃ r,rows[i]?=some r∧H' p=some (.lst (r.map V.str))) (fun i p H1 H2 s ⟨r,h1,h2⟩=>⟨r,h1,s _ _ h2⟩) (fun i p H1 H2 D n s ⟨r,h1,h2⟩=>⟨r,h1,s.at n h2⟩) (by rw [List.length_map,List.length_map]; omega) ha (fun i x H' Q' hx s' k'=>?_) (fun L ys H1 hL e1 s1 hy hr1=>?_)
    · rw [List.getElem?_map,List.getElem?_map] at hx
      obtain ⟨_,hx',rfl⟩:=Option.map_eq_some_iff.mp hx
      obtain ⟨r,hr',rfl⟩:=Option.map_eq_some_iff.mp hx'
      have okr:=ok r (List.mem_of_getElem? hr')
      have sb:=okr.back
      have ll:=okr.ll
      have lr:=okr.len
      refine ⟨_,rfl,rfl,?_⟩
      refine rsplit (a:=lnOf r) (b:=bk) (by decide +kernel) (line20 (by omega)) (by rw [sb]; exact line20 (by omega)) fun p1 H5 hp1 e1 s1=>?_
      rw [sb] at e1
      exact k' p1 H5 hp1 s1 ⟨r,hr',e1⟩
    have R1:RwsAt H1 rows ys:=by
      rw [List.length_map,List.length_map] at hy
      refine ⟨hy,fun i r hi=>?_⟩
      have hl:i<ys.length:=by rw [hy]; exact (List.getElem?_eq_some_iff.mp hi).1
      obtain ⟨p,h1,_,r',h2,h3⟩:=hr1 i _ (List.getElem?_eq_getElem hl)
      rw [hi] at h2
      injection h2 with h2
      subst h2
      exact ⟨p,by rw [List.getElem?_eq_getElem hl,h1],h3⟩
    clear hr1 hy
    refine ⟨_,rfl,?_⟩
    refine nwL (by show 0≤64; decide) fun p2 H2 hp2 e2 s2=>?_
    refine reD ((R1.same s2).rep (s2 _ _ e1)) (Rep.lst e2 RepL.nil) (rw_shaped ok) rfl ?_
    rw [rw_eqv]
    refine ⟨_,rfl,?_⟩
    have S2:=s1.trans s2
    have R2:=R1.same s2
    have e1:=s2 _ _ e1
    clear R1 s1 s2 hp2 e2
    cases rows with
    | nil =>
      refine iteT ?_
      refine nwT (by show 2≤64; decide) fun q1 H3 hq1 e3 s3=>?_
      exact q _ H3 (S2.trans s3) (Rep.tup e3 (RepL.cons (Rep.int _) (RepL.cons (Rep.int _) RepL.nil)))
    | cons r rest =>
      refine iteF ?_
      obtain ⟨p0,a0,h0⟩:=R2.at (i:=0) (r:=r) rfl
      have okr:=ok r (List.mem_cons_self ..)
      have lr:=okr.len
      have lr1:1≤r.length:=List.length_pos_iff.mpr okr.ne
      have hrest:rest.length≤39:=by rw [List.length_cons] at h40; omega
      have lys:ys.length=rest.length+1:=R2.1
      refine ⟨_,rfl,?_⟩
      refine ixL e1 a0 ?_
      refine sp_lfaces_i h0 okr fun v H3 s3 r3=>?_
      have r3:Rep H3 (opD (fltU r rest 0)) v:=by rw [fltU_zero,← opD_flt]; exact r3
      have S3:=S2.trans s3
      have R3:=R2.same s3
      have e1:=s3 _ _ e1
      have h0:=s3 _ _ h0
      refine ⟨_,rfl,?_⟩
      refine ixL e1 a0 ?_
      refine rlL h0 ?_
      rw [List.length_map]
      refine ⟨_,_,rfl,rfl,?_⟩
      refine ⟨_,rfl,?_⟩
      refine rlL e1 ?_
      rw [lys]
      refine ⟨_,_,rfl,⟨by decide,by decide,by omega,by omega⟩,?_⟩
      rw [show (((rest.length+1:Nat):Int) - 1).toNat=rest.length by omega]
      refine for_range (fun i σ H'=>∃ (v:V) (o4:Option V),σ=[some (.ref a),some (.ref L),some v,some (.int ((r.length:Int) - 1)),o4,none,none,none,none]∧Same H3 H'∧Rep H' (opD (fltU r rest i)) v) ⟨_,_,rfl,Same.refl _,r3⟩ ?_ ?_
      · rintro i σ H4 hi ⟨v,o4,rfl,s4,r4⟩
        refine ⟨_,rfl,rfl,?_⟩
        rw [opD_non r4]
        refine ⟨_,rfl,?_⟩
        cases hU:fltU r rest i with
        | some e =>
          refine iteF ?_
          refine ⟨v,_,rfl,s4,?_⟩
          rw [fltU_some hU,← hU]; exact r4
        | none =>
          refine iteT ?_
          obtain ⟨_,hb⟩:=fltU_none hU
          have ew:rest[i]?=some rest[i]:=List.getElem?_eq_getElem hi
          generalize rest[i]=ri at ew
          have wm:=List.mem_of_getElem? ew
          have oki:=ok ri (List.mem_cons_of_mem _ wm)
          have R4:=R3.same s4
          have e4:=s4 _ _ e1
          obtain ⟨pi,ai,hi4⟩:=R4.at (i:=i+1) (r:=ri) (by rw [List.getElem?_cons_succ]; exact ew)
          have two:∀ (j:Nat) (rj:List Str),j<i→rest[j]?=some rj→rj.length=r.length - 1+2∧((rest.take j).map nm).length<4:=fun j rj hj hr'=>by
            have h1:=hb j hj
            have h1:wayF (rest.getD j []) (r.length - 1) ((rest.take j).map nm)=none:=h1
            rw [List.getD_eq_getElem?_getD,hr'] at h1
            have:=wayF_two h1 (ok rj (List.mem_cons_of_mem _ (List.mem_of_getElem? hr')))
            exact ⟨this.1,this.2.1⟩
          have i4:i≤4:=by
            rcases Nat.eq_zero_or_pos i with z | z
            · omega
            · have:=(two (i - 1) _ (by omega) (List.getElem?_eq_getElem (by omega))).2
              rw [List.length_map,List.length_take] at this
              omega
          refine ⟨_,rfl,?_⟩
          refine ⟨_,rfl,_,rfl,?_⟩
          refine ixL e4 (by rw [show (1:Int)+(i:Int)=((i+1:Nat):Int) by omega]; exact ai) ?_
          refine ⟨_,rfl,?_⟩
          refine ⟨_,rfl,_,rfl,_,rfl,_,rfl,?_⟩
          refine slL (lo:=some 1) (hi:=some (1+(i:Int))) e4 (ys:=(ys.drop 1).take i) (by rw [show (1:Int)+(i:Int)=((i+1:Nat):Int) by omega,show (1:Int)=((1:Nat):Int) from rfl,cutV_mid08 _ (by omega) (by omega),show i+1 - 1=i by omega]) fun q5 H5 hq5 e5 s5=>?_
          refine ⟨q5,rfl,⟨_,SqL.of e5⟩,?_⟩
          have R5:=R4.same s5
          have lt:((ys.drop 1).take i).length=i:=by rw [List.length_take,List.length_drop]; omega
          refine comp_mapL (fun j y _=>∃ rj,(rest.take i)[j]?=some rj∧y=.str (nm rj)) (fun _ _ _ _ _ h=>h) (by omega) e5 (fun j x H' Q' hx s' k'=>?_) (fun D zs H6 hD e6 s6 hz hr6=>?_)
          · have hj:j<i:=by rw [← lt]; exact (List.getElem?_eq_some_iff.mp hx).1
            have er:rest[j]?=some rest[j]:=List.getElem?_eq_getElem (by omega)
            generalize rest[j]=rj at er
            obtain ⟨pj,aj,hj5⟩:=R5.2 (j+1) rj (by rw [List.getElem?_cons_succ]; exact er)
            rw [List.getElem?_take,if_pos hj,List.getElem?_drop,Nat.add_comm,aj] at hx
            injection hx with hx
            subst hx
            have l2:=(two j rj hj er).1
            refine ⟨_,rfl,?_⟩
            refine ixL (s' _ _ hj5) (v:=.str (nm rj)) (atI_nat (j:=1) (by rw [List.getElem?_map,List.getElem?_eq_getElem (show 1<rj.length by omega)]; show _=some (V.str (rj.getD 1 "")); rw [List.getD_eq_getElem?_getD,List.getElem?_eq_getElem (show 1<rj.length by omega)]; rfl)) ?_
            exact k' _ H' (Same.refl _) ⟨rj,by rw [List.getElem?_take,if_pos hj]; exact er,rfl⟩
          · have ez:zs=((rest.take i).map nm).map V.str:=by
              apply List.ext_getElem?
              intro j
              rw [List.getElem?_map,List.getElem?_map]
              cases e:zs[j]? with
              | none =>
                have:i≤j:=by rw [← lt,← hz]; exact List.getElem?_eq_none_iff.mp e
                rw [List.getElem?_eq_none (by rw [List.length_take]; omega)]; rfl
              | some y =>
                obtain ⟨g,h1,rfl⟩:=hr6 j y e
                rw [h1]; rfl
            subst ez
            have S6:=s5.trans s6
            show sp_lway [.int (1+(i:Int)),.ref pi,.int ((r.length:Int) - 1),.ref D] H6 _ _
            rw [show (1:Int)+(i:Int)=((i+1:Nat):Int) by omega,show (r.length:Int) - 1=((r.length - 1:Nat):Int) by omega]
            refine sp_lway_i (S6 _ _ hi4) oki e6 (by rw [List.length_map,List.length_take]; omega) fun v7 H7 s7 r7=>?_
            refine ⟨v7,_,rfl,(s4.trans S6).trans s7,?_⟩
            rw [fltU_step hU,← opD_flt]
            show Rep H7 (fltD ((i+1:Nat):Int) (wayF (rest.getD i []) (r.length - 1) ((rest.take i).map nm))) v7
            rw [List.getD_eq_getElem?_getD,ew]
            exact r7
      · rintro σ H4 ⟨v,o4,rfl,s4,r4⟩
        have R4:=R3.same s4
        have e4:=s4 _ _ e1
        have S4:=S3.trans s4
        obtain ⟨U,hU⟩:∃ U,U=fltU r rest rest.length:=⟨_,rfl⟩
        rw [← hU] at r4
        refine ⟨fun σ H'=>∃ v',σ=[some (.ref a),some (.ref L),some v',some (.int ((r.length:Int) - 1)),o4,none,none,none,none]∧Same H4 H'∧Rep H' (opD (U.or (if rest.length<2 then some (rest.length+1,0) else none))) v',?_,?_⟩
        rotate_left
        · refine ⟨fun bb H'=>Same H4 H'∧bb=(U.isNone&&decide (rest.length<2)),?_,?_⟩
          · refine ⟨_,rfl,rfl,?_⟩
            rw [opD_non r4]
            refine ⟨_,rfl,?_⟩
            cases U with
            | some e=>exact iteF ⟨Same.refl _,rfl⟩
            | none =>
              refine iteT ?_
              refine ⟨_,rfl,?_⟩
              refine rlL e4 ?_
              rw [lys]
              refine ⟨_,_,rfl,rfl,_,rfl,Same.refl _,?_⟩
              show decide (((rest.length+1:Nat):Int)<3)=decide (rest.length<2)
              exact decide_eq_decide.mpr (by omega)
          · rintro bb H5 ⟨s5,rfl⟩
            cases U with
            | some e=>exact iteF ⟨v,rfl,s5,r4.same s5⟩
            | none =>
              by_cases h2:rest.length<2
              · rw [decide_eq_true h2]
                refine iteT ?_
                refine ⟨_,rfl,?_⟩
                refine rlL (s5 _ _ e4) ?_
                rw [lys]
                refine nwT (by show 2≤64; decide) fun q6 H6 hq6 e6 s6=>?_
                refine ⟨_,rfl,s5.trans s6,?_⟩
                rw [if_pos h2]
                exact Rep.tup e6 (RepL.cons (Rep.int _) (RepL.cons (Rep.int _) RepL.nil))
              · rw [decide_eq_false h2]
                refine iteF ⟨v,rfl,s5,?_⟩
                rw [if_neg h2]
                exact r4.same s5
        · rintro σ H5 ⟨v',rfl,s5,r5⟩
          refine ⟨_,rfl,rfl,?_⟩
          rw [opD_non r5]
          refine ⟨_,rfl,?_⟩
          have eres:=resF_flt r rest
          rw [← hU] at eres
          cases hV:U.or (if rest.length<2 then some (rest.length+1,0) else none) with
          | some e =>
            refine iteT ?_
            refine ⟨_,rfl,q _ H5 (S4.trans s5) ?_⟩
            rw [hV] at r5
            have:resF (r::rest)=.error e:=by
              rw [eres]
              cases U with
              | some e'=>cases hV; rfl
              | none =>
                by_cases h2:rest.length<2
                · rw [if_pos h2] at hV; cases hV; exact if_pos h2
                · rw [if_neg h2] at hV; cases hV
            unfold dueD
            rw [this]
            exact r5
          | none =>
            refine iteF ?_
            have hU':fltU r rest rest.length=none∧¬ rest.length<2:=by
              rw [← hU]
              cases U with
              | some e=>cases hV
              | none =>
                refine ⟨rfl,fun h2=>?_⟩
                rw [if_pos h2] at hV; cases hV
            obtain ⟨hU0,h2⟩:=hU'
            rw [hU,hU0] at eres
            have eres:resF (r::rest)=match sumF rest with
              | some i=>.error (i+1,2)
              | none=>.ok (r.drop 1,rest.map wayO):=by rw [eres]; exact if_neg h2
            obtain ⟨hf,hb⟩:=fltU_none hU0
            obtain ⟨F3,F5⟩:=facF_ok hf
            have R5:=R4.same s5
            have e5:=s5 _ _ e4
            have S5:=S4.trans s5
            have good:∀ (j:Nat) (rj:List Str),rest[j]?=some rj→RwOk rj∧rj.length=r.length - 1+2∧(∀ t∈rj.drop 2,wsB t=true)∧(shs rj).length=r.length - 1∧∀ f∈shs rj,ShF f:=fun j rj hr'=>by
              have hj:=(List.getElem?_eq_some_iff.mp hr').1
              have h1:=hb j hj
              have h1:wayF (rest.getD j []) (r.length - 1) ((rest.take j).map nm)=none:=h1
              rw [List.getD_eq_getElem?_getD,hr'] at h1
              have okj:=ok rj (List.mem_cons_of_mem _ (List.mem_of_getElem? hr'))
              have h2:=wayF_two h1 okj
              have h3:=wayF_ok h1 okj
              exact ⟨okj,h2.1,h2.2.2,h3.1,h3.2⟩
            have r4:rest.length≤4:=by
              have h1:=hb (rest.length - 1) (by omega)
              have h1:wayF (rest.getD (rest.length - 1) []) (r.length - 1) ((rest.take (rest.length - 1)).map nm)=none:=h1
              rw [List.getD_eq_getElem?_getD,List.getElem?_eq_getElem (by omega)] at h1
              have:=(wayF_two h1 (ok _ (List.mem_cons_of_mem _ (List.getElem_mem _)))).2.1
              rw [List.length_map,List.length_take] at this
              omega
            refine ⟨_,rfl,_,rfl,?_⟩
            refine slL (lo:=some 1) (hi:=none) e5 (ys:=ys.drop 1) (by rw [show (1:Int)=((1:Nat):Int) from rfl,cutV_lo]) fun q6 H6 hq6 e6 s6=>?_
            refine ⟨q6,rfl,⟨_,SqL.of e6⟩,?_⟩
            have R6:=R5.same s6
            have ld:(ys.drop 1).length=rest.length:=by rw [List.length_drop]; omega
            refine comp_mapL (fun j y H'=>∃ rj,rest[j]?=some rj∧Rep H' (wD (wayO rj)) y) (fun j y Ha Hb s ⟨rj,h1,h2⟩=>⟨rj,h1,h2.flat s (wD_flat _)⟩) (by omega) e6 (fun j x H' Q' hx s' k'=>?_) (fun D zs H7 hD e7 s7 hz hr7=>?_)
            · have hj:j<rest.length:=by rw [← ld]; exact (List.getElem?_eq_some_iff.mp hx).1
              have er:rest[j]?=some rest[j]:=List.getElem?_eq_getElem hj
              generalize rest[j]=rj at er
              obtain ⟨pj,aj,hj6⟩:=R6.2 (j+1) rj (by rw [List.getElem?_cons_succ]; exact er)
              rw [List.getElem?_drop,Nat.add_comm,aj] at hx
              injection hx with hx
              subst hx
              obtain ⟨okj,lj,wsj,shl,shf⟩:=good j rj er
              have hj6:=s' _ _ hj6
              refine ⟨_,rfl,?_⟩
              refine ixL hj6 (v:=.str (nm rj)) (atI_nat (j:=1) (by rw [List.getElem?_map,List.getElem?_eq_getElem (show 1<rj.length by omega)]; show _=some (V.str (rj.getD 1 "")); rw [List.getD_eq_getElem?_getD,List.getElem?_eq_getElem (show 1<rj.length by omega)]; rfl)) ?_
              refine ⟨_,rfl,_,rfl,?_⟩
              refine slL (lo:=some 2) (hi:=none) hj6 (ys:=(rj.drop 2).map V.str) (by rw [show (2:Int)=((2:Nat):Int) from rfl,cutV_lo,List.map_drop]) fun q7 H7 hq7 e7 s7=>?_
              refine ⟨q7,rfl,⟨_,SqL.of e7⟩,?_⟩
              refine comp_mapL (fun k y H'=>∃ t,(rj.drop 2)[k]?=some t∧Rep H' (frD (shOf t)) y) (fun k y Ha Hb s ⟨t,h1,h2⟩=>⟨t,h1,h2.flat s (frD_flat _)⟩) (by rw [List.length_map,List.length_drop]; omega) e7 (fun k y H' Q' hy s' k'=>?_) (fun D us H8 hD e8 s8 hz hr8=>?_)
              · rw [List.getElem?_map] at hy
                obtain ⟨t,ht,rfl⟩:=Option.map_eq_some_iff.mp hy
                have hm:=List.mem_of_getElem? ht
                have hm':=List.mem_of_mem_drop hm
                have hsz:=okj.sz t hm'
                refine ⟨_,rfl,?_⟩
                refine sp_lsh_i (by omega) (okj.lo t hm') fun v H9 s9 r9=>?_
                rw [lsh_eq (by omega),if_pos (wsj t hm)] at r9
                exact k' _ H9 s9 ⟨t,ht,r9⟩
              · refine ⟨D,us,rfl,.inl ⟨SqL.of e8,fun l hl=>?_⟩⟩
                have sl:=Same.upd (o:=.tup us) hl
                have el:(upd H8 l (.tup us)) l=some (.tup us):=upd_same
                generalize upd H8 l (.tup us)=H9 at sl el
                have ru:RepL H9 ((shs rj).map frD) us:=by
                  refine RepL.ofIdx (by rw [hz,List.length_map,List.length_map,List.length_map]) fun k y hk=>?_
                  obtain ⟨t,h1,h2⟩:=hr8 k y hk
                  exact ⟨_,by rw [List.getElem?_map,List.getElem?_map,h1]; rfl,h2.same sl⟩
                refine nwT (by show 2≤64; decide) fun q10 H10 hq10 e10 s10=>?_
                exact k' _ H10 (((s7.trans s8).trans sl).trans s10) ⟨rj,er,Rep.tup e10 (RepL.cons (Rep.str _) (RepL.cons ((Rep.tup el ru).same s10) RepL.nil))⟩
            · have lz:zs.length=rest.length:=by rw [hz,ld]
              have S7:=(S5.trans s6).trans s7
              have rz:RepL H7 ((rest.map wayO).map wD) zs:=by
                refine RepL.ofIdx (by rw [lz,List.length_map,List.length_map]) fun k y hk=>?_
                obtain ⟨t,h1,h2⟩:=hr7 k y hk
                exact ⟨_,by rw [List.getElem?_map,List.getElem?_map,h1]; rfl,h2⟩
              refine ⟨_,rfl,?_⟩
              refine rlL e7 ?_
              rw [lz]
              refine ⟨_,rfl,by omega,by omega,?_⟩
              rw [show ((rest.length:Nat):Int).toNat=rest.length by omega]
              refine for_range (fun i σ H'=>∃ o6 o7 o8:Option V,σ=[some (.ref a),some (.ref L),some v',some (.int ((r.length:Int) - 1)),o4,some (.ref D),o6,o7,o8]∧Same H7 H'∧∀ j,j<i→decide (totF (shs (rest.getD j []))=(1,1))=true) ⟨_,_,_,rfl,Same.refl _,fun j hj=>by omega⟩ ?_ ?_
              · rintro i σ H8 hi ⟨o6,o7,o8,rfl,s8,hs⟩
                rw [show (0:Int)+(i:Int)=((i:Nat):Int) by omega]
                have er:rest[i]?=some rest[i]:=List.getElem?_eq_getElem hi
                generalize rest[i]=ri at er
                have eri:rest.getD i []=ri:=by rw [List.getD_eq_getElem?_getD,er]; rfl
                obtain ⟨okj,lj,wsj,shl,shf⟩:=good i ri er
                obtain ⟨vi,hvi,rvi⟩:=reps_get' (rz.same s8) (show (rest.map wayO)[i]?=some (wayO ri) by rw [List.getElem?_map,er]; rfl)
                obtain ⟨ag,xg,rfl,hag,rxg⟩:=tup_at rvi
                obtain ⟨u,v,rfl,ru,rv⟩:=RepL_two rxg
                obtain ⟨as,xs,rfl,has,rds⟩:=tup_at rv
                obtain ⟨fs,hfs⟩:∃ fs,fs=shs ri:=⟨_,rfl⟩
                rw [← hfs] at shl shf
                have rds:RepL H8 (fs.map frD) xs:=by rw [hfs]; exact rds
                have hlen:=reps_len rds
                have hat:atI zs ((i:Nat):Int)=some (.ref ag):=atI_nat hvi
                have fl:fs.length≤6:=by omega
                obtain ⟨hw,hwz⟩:=whole08 shf fl
                have low:∀ f∈fs,LowF f:=fun f hf=>(shf f hf).low
                have gz:∀ g∈fs,g.2.natAbs<2^100∧g.1.natAbs<2^100∧0<g.2:=fun g gm=>by
                  have h1:=(shf g gm).pos
                  have h2:=(shf g gm).le
                  have h3:=(shf g gm).dn
                  have h4:=(shf g gm).low.pos
                  have:(1000:Nat)<2^100:=by decide
                  exact ⟨by omega,by omega,h4⟩
                refine ⟨_,rfl,_,rfl,?_⟩
                refine ixL (s8 _ _ e7) hat ?_
                refine ixT hag rfl ?_
                refine ⟨as,rfl,⟨_,SqT.of has⟩,?_⟩
                refine for_tup (xs:=xs) (fun k σ H'=>∃ o8:Option V,σ=[some (.ref a),some (.ref L),some v',some (.int ((r.length:Int) - 1)),o4,some (.ref D),some (.int ((i:Nat):Int)),some (.int (Mf.whole (fs.take k))),o8]∧H'=H8) ⟨_,rfl,rfl⟩ (fun k σ H' _ p=>by obtain ⟨o8,_,rfl⟩:=p; exact SqT.of has) ?_ ?_
                · rintro k x σ H9 hx ⟨o8,rfl,rfl⟩
                  obtain ⟨g,hg,rg⟩:=reps_get rds hx
                  have gm:=List.mem_of_getElem? hg
                  obtain ⟨pg,rfl,eg'⟩:=frD_at rg
                  refine ⟨_,rfl,_,rfl,?_⟩
                  refine ixT eg' rfl ?_
                  have hti:=(whole08 (fs:=fs.take k) (fun f hf=>shf f (List.mem_of_mem_take hf)) (by rw [List.length_take]; omega)).2
                  refine ⟨_,_,rfl,rfl,mulB hti (gz g gm).1,?_⟩
                  refine ⟨some (.ref pg),?_,rfl⟩
                  rw [take_snoc hg,whole_snoc]
                  rfl
                · rintro σ H9 ⟨o8,rfl,rfl⟩
                  rw [show xs.length=fs.length from hlen,List.take_length]
                  refine ⟨_,rfl,_,rfl,?_⟩
                  refine ixL (s8 _ _ e7) hat ?_
                  refine ixT hag rfl ?_
                  refine ⟨as,rfl,⟨_,SqT.of has⟩,?_⟩
                  refine comp_mapU (fun k y _=>∃ g,fs[k]?=some g∧y=.int (g.1*(Mf.whole fs / g.2))) (fun _ _ _ _ _ h=>h) (by omega) has (fun k x H' Q' hx s' k'=>?_) (fun D2 us H10 hD2 e10 s10 hy2 hr10=>?_)
                  · obtain ⟨g,hg,rg⟩:=reps_get rds hx
                    have gm:=List.mem_of_getElem? hg
                    obtain ⟨pg,rfl,eg'⟩:=frD_at (rg.same s')
                    obtain ⟨g2,g1,gp⟩:=gz g gm
                    have gd:=ediv_le_self hw gp
                    refine ⟨_,rfl,?_⟩
                    refine ixT eg' rfl ?_
                    refine ⟨_,rfl,_,rfl,?_⟩
                    refine ixT eg' rfl ?_
                    refine ⟨_,_,rfl,rfl,divOk gp (Nat.lt_of_lt_of_le g2 (Nat.pow_le_pow_right (by decide) (by decide))),?_⟩
                    refine ⟨_,_,rfl,rfl,mulB g1 (Nat.lt_of_le_of_lt (show (Mf.whole fs / g.2).natAbs≤(Mf.whole fs).natAbs by omega) hwz),?_⟩
                    exact k' _ H' (Same.refl _) ⟨g,hg,rfl⟩
                  · have eus:us=(fs.map fun f=>f.1*(Mf.whole fs / f.2)).map V.int:=by
                      apply List.ext_getElem?
                      intro k
                      rw [List.getElem?_map,List.getElem?_map]
                      cases e:us[k]? with
                      | none =>
                        have:fs.length≤k:=by rw [← hlen,← hy2]; exact List.getElem?_eq_none_iff.mp e
                        rw [List.getElem?_eq_none this]; rfl
                      | some y =>
                        obtain ⟨g,h1,rfl⟩:=hr10 k y e
                        rw [h1]; rfl
                    subst eus
                    refine rsI (SqL.of e10) ?_
                    refine ⟨_,rfl,rfl,?_⟩
                    have e3:decide (V.int (fs.map fun f=>f.1*(Mf.whole fs / f.2)).sum=V.int (Mf.whole fs))=decide (totF fs=(1,1)):=by
                      have esum:(fs.map fun f=>f.1*(Mf.whole fs / f.2)).sum=sumN fs (Mf.whole fs):=rfl
                      rw [esum]
                      by_cases h:totF fs=(1,1)
                      · rw [decide_eq_true h,decide_eq_true (by rw [(one_iff low).mpr h])]
                      · rw [decide_eq_false h,decide_eq_false (fun z=>h ((one_iff low).mp (by injection z)))]
                    refine ⟨_,rfl,?_⟩
                    by_cases ht:totF fs=(1,1)
                    · refine iteFe (by rw [e3,decide_eq_true ht]; rfl) ⟨_,_,_,rfl,s8.trans s10,fun j hj=>?_⟩
                      by_cases ej:j=i
                      · subst ej; rw [eri,← hfs]; exact decide_eq_true ht
                      · exact hs j (by omega)
                    · refine iteTe (by rw [e3,decide_eq_false ht]; rfl) ?_
                      have es:sumF rest=some i:=firstF_some.mpr ⟨hi,by rw [eri,← hfs]; exact decide_eq_false ht,hs⟩
                      rw [es] at eres
                      refine ⟨_,rfl,_,_,rfl,rfl,?_⟩
                      refine nwT (by show 2≤64; decide) fun q11 H11 hq11 e11 s11=>?_
                      refine q _ H11 (((S7.trans s8).trans s10).trans s11) ?_
                      unfold dueD
                      rw [eres]
                      show Rep H11 (.tuple [.int ((i+1:Nat):Int),.int 2]) (.ref q11)
                      rw [show ((i+1:Nat):Int)=1+(i:Int) by omega]
                      exact Rep.tup e11 (RepL.cons (Rep.int _) (RepL.cons (Rep.int _) RepL.nil))
              · rintro σ H8 ⟨o6,o7,o8,rfl,s8,hs⟩
                have es:sumF rest=none:=firstF_none.mpr hs
                rw [es] at eres
                have T8:Same H3 H8:=(((s4.trans s5).trans s6).trans s7).trans s8
                refine ⟨_,rfl,?_⟩
                refine ixL (T8 _ _ e1) a0 ?_
                refine ⟨_,rfl,?_⟩
                refine slL (lo:=some 1) (hi:=none) (T8 _ _ h0) (ys:=(r.drop 1).map V.str) (by rw [show (1:Int)=((1:Nat):Int) from rfl,cutV_lo,List.map_drop]) fun q9 H9 hq9 e9 s9=>?_
                refine ⟨q9,_,rfl,.inl ⟨SqL.of e9,fun l hl=>?_⟩⟩
                have sl:=Same.upd (o:=.tup ((r.drop 1).map V.str)) hl
                have el:(upd H9 l (.tup ((r.drop 1).map V.str))) l=some (.tup ((r.drop 1).map V.str)):=upd_same
                generalize upd H9 l (.tup ((r.drop 1).map V.str))=H10 at sl el
                have S10:Same H7 H10:=(s8.trans s9).trans sl
                refine ⟨_,rfl,D,zs,rfl,.inl ⟨SqL.of (S10 _ _ e7),fun l2 hl2=>?_⟩⟩
                have sl2:=Same.upd (o:=.tup zs) hl2
                have el2:(upd H10 l2 (.tup zs)) l2=some (.tup zs):=upd_same
                generalize upd H10 l2 (.tup zs)=H11 at sl2 el2
                refine nwT (by show 2≤64; decide) fun q12 H12 hq12 e12 s12=>?_
                refine q _ H12 (((S7.trans S10).trans sl2).trans s12) ?_
                unfold dueD
                rw [eres]
                exact Rep.tup e12 (RepL.cons (Rep.tup (s12 _ _ (sl2 _ _ el)) (RepL_strs _)) (RepL.cons (Rep.tup (s12 _ _ el2) (((rz.same S10).same sl2).same s12)) RepL.nil))
end
end Kw
set_option Elab.async false
set_option linter.all false
set_option maxRecDepth 100000
namespace Kw
open PySem L2 Mf Mt
abbrev s__law_told:Stmt:=(top 58)
theorem sc__law_told:FnScope ["_law_lines_here", "_law_caught", "_law_found", "e"] ["_law_lines_here"] (defScope s__law_told):=⟨rfl,rfl,rfl,by decide +kernel,rfl,by decide +kernel,by decide +kernel⟩
@[irreducible] def sp_ltold:Sp:=fun vs H Q _=>∃ a rows,vs=[.ref a]∧H a=some (.lst ((rows.map lnOf).map V.str))∧(∀ r∈rows,RwOk r)∧rows.length≤40∧∀ v H',Same H H'→Rep H' (dueD rows) v→Q v H'
theorem sp_ltold_i {H:Hp} {Q:VK} {E:XK} {a:Addr} {rows:List (List Str)} (ha:H a=some (.lst ((rows.map lnOf).map V.str))) (ok:∀ r∈rows,RwOk r) (hl:rows.length≤40) (q:∀ v H',Same H H'→Rep H' (dueD rows) v→Q v H'):sp_ltold [.ref a] H Q E:=by unfold sp_ltold; exact ⟨a,rows,rfl,ha,ok,hl,q⟩
section
variable {P:Program} {w:World} {K:PySem.W.Frag} {mg:Str→Option Value} {base:Heap} {c:Cl}
set_option maxHeartbeats 4000000 in
theorem ok__law_told {f:Addr} {fd:FuncData} (F:Fun K "_law_told" "_law_told" s__law_told f fd) (T:Txt K mg c) (F_read_trial:FnC (CX1 P w) P w K mg base 7 "read_trial" ["lines"] (sp_rdtB c.NoTrial)):FnOk P w K mg base CX0 8 f fd ["_law_lines_here"] sp_ltold:=by
  refine F.okw sc__law_told (fun vs H Q E h=>?_) (fun cdv A outer s H vs Q E hr h=>?_)
  · unfold sp_ltold at h
    obtain ⟨a,rows,rfl,_⟩:=h
    rfl
  · unfold sp_ltold at h
    obtain ⟨a,rows,rfl,ha,ok,h40,q⟩:=h
    refine ⟨_,(wss_cons (ws_set (i:=1) sc__law_told.nd rfl (Or.inl rfl) we_non)
      (wss_cons (ws_set (i:=2) sc__law_told.nd rfl (Or.inl rfl) we_non)
      (wss_cons (ws_try (i:=3) rfl rfl rfl T.g_EarlyError T.c_EarlyError sc__law_told.nd rfl rfl (fun _ _ _ hx=>(wss_one (ws_set (i:=2) sc__law_told.nd rfl (Or.inl rfl) (we_fnX F_read_trial (hr.mono (by decide)) hx (wa_k (we_v 0) wa_nil))))) (fun _=>(wss_one (ws_set (i:=1) sc__law_told.nd rfl (Or.inl rfl) (we_v 3)))))
      (wss_cons (ws_if (wt_cmp op_isN (we_v 1) we_non (nomark _)) (wss_one (ws_ret (we_v 2))) wss_nil)
      (wss_cons (ws_if (wt_val (we_cB (cl_isiW K) (by rfl) T.b_isinstance (by decide +kernel) (wa_k (we_v 1) (wa_k (we_tup (wa_k (we_glob (v:=.ref c.NoBack) rfl T.g_NoBack rfl) (wa_k (we_glob (v:=.ref c.NoBounds) rfl T.g_NoBounds rfl) (wa_k (we_glob (v:=.ref c.NoFraction) rfl T.g_NoFraction rfl) (wa_k (we_glob (v:=.ref c.NoLines) rfl T.g_NoLines rfl) (wa_k (we_glob (v:=.ref c.NoLook) rfl T.g_NoLook rfl) (wa_k (we_glob (v:=.ref c.NoOrder) rfl T.g_NoOrder rfl) (wa_k (we_glob (v:=.ref c.NoPaper) rfl T.g_NoPaper rfl) (wa_k (we_glob (v:=.ref c.NoRow) rfl T.g_NoRow rfl) (wa_k (we_glob (v:=.ref c.NoRule) rfl T.g_NoRule rfl) wa_nil)))))))))) wa_nil)))) (wss_one (ws_ret we_str)) wss_nil)
      (wss_cons (ws_if (wt_w (ww_or (wt_not (wt_val (we_cB cl_isiY (by rfl) T.b_isinstance (by decide +kernel) (wa_k (we_v 1) (wa_k (we_glob (v:=.ref c.NoTrial) rfl T.g_NoTrial rfl) wa_nil))))) (ww_or1 (wt_not (wt_val (we_cB cl_isiY (by rfl) T.b_isinstance (by decide +kernel) (wa_k (we_v 1) (wa_k (we_bltn (v:=.ty "ValueError") (u:=.type "ValueError") rfl T.b_ValueError (by decide +kernel) rfl) wa_nil)))))))) (wss_one (ws_ret we_str)) wss_nil)
      (wss_one (ws_ret (we_tup (wa_k (we_fldX (we_v 1)) (wa_k (we_fldX (we_v 1)) wa_nil))))))))))),?_⟩
    refine ⟨fun σ' cls od H'=>∃ l k,resF rows=.error (l,k)∧σ'=[some (.ref a),some .non,some .non,none]∧cls=.ref c.NoTrial∧Same H H'∧∃ d,od=some d∧H' d=some (XdO d [("line",.int (l:Int)),("word",.int (k:Int))]),?_,?_⟩
    · refine ⟨_,rfl,?_⟩
      refine sp_rdtB_i ha ok h40 (fun l k he H' d s1 ed=>⟨l,k,he,rfl,rfl,s1,d,rfl,ed⟩) fun fs ws he v H1 s1 r1=>?_
      refine ⟨_,rfl,rfl,_,rfl,?_⟩
      refine iteT ?_
      refine ⟨_,rfl,?_⟩
      refine q v H1 s1 ?_
      unfold dueD
      rw [he]
      exact r1
    · rintro σ' cls od H' ⟨l,k,he,rfl,rfl,s1,d,rfl,ed⟩
      refine ⟨c.NoTrial,rfl,T.s2,fun b na=>?_⟩
      have ea:(upd H' b (ExcO b c.NoTrial (some d))) b=some (ExcO b c.NoTrial (some d)):=upd_same
      have sa:=Same.upd (o:=ExcO b c.NoTrial (some d)) na
      generalize upd H' b (ExcO b c.NoTrial (some d))=H1 at ea sa
      have ed:=sa _ _ ed
      have ec:=excAll.cls T.ec_NoTrial
      have hx:∀ H2,Same H1 H2→XHas H2 (some d):=fun H2 s'=>⟨_,s' _ _ ed⟩
      refine ⟨_,rfl,?_⟩
      refine ⟨_,rfl,rfl,_,rfl,?_⟩
      refine iteF ?_
      refine ⟨_,rfl,?_⟩
      refine nwT (by show 9≤64; decide) fun tp H2 htp e2 s2=>?_
      refine rwI (b:=false) (s2 _ _ ea) (hx H2 s2) ec e2 (fun us hv=>?_) ?_
      · cases hv with | cons r1 hv=>cases hv with | cons r2 hv=>cases hv with | cons r3 hv=>cases hv with | cons r4 hv=>cases hv with | cons r5 hv=>cases hv with | cons r6 hv=>cases hv with | cons r7 hv=>cases hv with | cons r8 hv=>cases hv with | cons r9 hv=>cases hv; cases r1; cases r2; cases r3; cases r4; cases r5; cases r6; cases r7; cases r8; cases r9; exact T.k1
      refine ⟨_,rfl,?_⟩
      refine iteF ?_
      refine ⟨_,rfl,?_⟩
      refine ryI (b:=true) (s2 _ _ ea) (hx H2 s2) ec _ rfl T.k2 ?_
      refine ⟨_,rfl,?_⟩
      refine iteF ?_
      refine ⟨_,rfl,?_⟩
      refine ryI (b:=true) (s2 _ _ ea) (hx H2 s2) ec _ rfl T.k3 ?_
      refine ⟨_,rfl,?_⟩
      refine iteF ?_
      refine ⟨_,rfl,b,c.NoTrial,d,_,_,rfl,s2 _ _ ea,s2 _ _ ed,ec,(setAll.set T.st_NoTrial).hd,setAll.no T.st_NoTrial (by simp),rfl,?_⟩
      refine ⟨_,rfl,b,c.NoTrial,d,_,_,rfl,s2 _ _ ea,s2 _ _ ed,ec,(setAll.set T.st_NoTrial).hd,setAll.no T.st_NoTrial (by simp),rfl,?_⟩
      refine nwT (by show 2≤64; decide) fun q3 H3 hq3 e3 s3=>?_
      refine q _ H3 ((s1.trans sa).trans (s2.trans s3)) ?_
      unfold dueD
      rw [he]
      exact Rep.tup e3 (RepL.cons (Rep.int _) (RepL.cons (Rep.int _) RepL.nil))
end
end Kw
set_option Elab.async false
set_option linter.all false
set_option maxRecDepth 100000
namespace Kw
open PySem L2 Mf Mt
theorem TrL.mem {fs:List Str} {ws:List (Str × List Fr)} (h:TrL fs ws) {w:Str × List Fr} (hw:w∈ws):w.1∈pool:=h.w.pool _ (List.mem_map_of_mem (f:=(·.1)) hw)
theorem join_cons {a b:Str} {r:List Str}:Txt.join bk (a::b::r)=a++bk++Txt.join bk (b::r):=by rw [join_is,join_is]; rfl
theorem app_as (a b c:Str):a++b++c=a++(b++c):=str_ext (by rw [app_cps,app_cps,app_cps,app_cps,List.append_assoc])
theorem tr_at {H:Hp} {fs:List Str} {ws:List (Str × List Fr)} {v:V} (h:Rep H (trD fs ws) v):∃ a af aw xf xw,v=.ref a∧H a=some (.tup [.ref af,.ref aw])∧H af=some (.tup xf)∧H aw=some (.tup xw)∧RepL H (fs.map .str) xf∧RepL H (ws.map wD) xw:=by
  obtain ⟨a,xs,rfl,ha,hr⟩:=tup_at h
  obtain ⟨x,y,rfl,hx,hy⟩:=RepL_two hr
  obtain ⟨af,xf,rfl,h1,h2⟩:=tup_at hx
  obtain ⟨aw,xw,rfl,h3,h4⟩:=tup_at hy
  exact ⟨a,af,aw,xf,xw,rfl,ha,h1,h3,h2,h4⟩
theorem strs_eq {H:Hp} {fs:List Str} {xs:List V} (r:RepL H (fs.map PyData.str) xs):xs=fs.map V.str:=strs_idx (reps_len r) fun i y hi=>by
  obtain ⟨f,h1,h2⟩:=reps_get r hi
  exact ⟨f,h1,h2⟩
theorem lns_snoc (fs:List Str) (ws:List (Str × List Fr)) (w:Str × List Fr):(lns fs (ws++[w])).map V.str=(lns fs ws).map V.str++[V.str (Txt.join bk (wdW w))]:=by
  unfold lns
  simp
theorem lt43 {n:Int} (h:n.natAbs≤1000):n.natAbs<10^4300:=Nat.lt_of_lt_of_le (show n.natAbs<10^4 by show n.natAbs<10000; omega) (Nat.pow_le_pow_right (by decide) (by decide))
theorem faces_sp:Str.ofString "faces " = wFaces++bk:=str_ext (by decide +kernel)
theorem way_sp:Str.ofString "way " = wWay++bk:=str_ext (by decide +kernel)
theorem line0 {fs:List Str} (h:2≤fs.length):Str.ofString "faces " ++ Txt.join bk fs=Txt.join bk (wd0 fs):=by
  match fs,h with
  | a::r,_ =>
    show _=Txt.join bk (wFaces::a::r)
    rw [join_cons,faces_sp]
theorem lineW {w:Str × List Fr} (h:1≤w.2.length):Str.ofString "way " ++ w.1++Str.ofString " " ++ Txt.join bk (w.2.map TT)=Txt.join bk (wdW w):=by
  obtain ⟨n,l⟩:=w
  match l,h with
  | a::r,_ =>
    show Str.ofString "way " ++ n++bk++Txt.join bk (TT a::r.map TT)=Txt.join bk (wWay::n::TT a::r.map TT)
    rw [join_cons,join_cons,way_sp]
    exact str_ext (by simp only [app_cps,List.append_assoc])
theorem TT_text (f:Fr):TT f=tx f.1++(if f.2=1 then Str.ofString "" else Str.ofString "/" ++ tx f.2):=by
  unfold TT
  split
  · exact str_ext (by rw [app_cps]; show _=_++[]; rw [List.append_nil])
  · rw [app_as]; rfl
@[irreducible] def sp_lns:Sp:=fun vs H Q _=>∃ v fs ws,vs=[v]∧Rep H (trD fs ws) v∧TrL fs ws∧∀ a H',Same H H'→H a=none→H' a=some (.lst ((lns fs ws).map V.str))→Q (.ref a) H'
theorem sp_lns_i {H:Hp} {Q:VK} {E:XK} {v:V} {fs:List Str} {ws:List (Str × List Fr)} (r:Rep H (trD fs ws) v) (ok:TrL fs ws) (q:∀ a H',Same H H'→H a=none→H' a=some (.lst ((lns fs ws).map V.str))→Q (.ref a) H'):sp_lns [v] H Q E:=by unfold sp_lns; exact ⟨v,fs,ws,rfl,r,ok,q⟩
section
variable {P:Program} {w:World} {K:PySem.W.Frag} {mg:Str→Option Value} {base:Heap} {c:Cl}
set_option maxHeartbeats 8000000 in
theorem ok__law_lines {f:Addr} {fd:FuncData} (F:Fun K "_law_lines" "_law_lines" s__law_lines f fd) (T:Txt K mg c):FnOk P w K mg base CX0 1 f fd ["_law_trial_here"] sp_lns:=by
  refine F.okw sc__law_lines (fun vs H Q E h=>?_) (fun cdv A outer s H vs Q E hr h=>?_)
  · unfold sp_lns at h
    obtain ⟨v,fs,ws,rfl,_⟩:=h
    rfl
  · unfold sp_lns at h
    obtain ⟨v,fs,ws,rfl,r,ok,q⟩:=h
    obtain ⟨a,af,aw,xf,xw,rfl,ha,hf,hw,rf,rw'⟩:=tr_at r
    have exf:=strs_eq rf
    subst exf
    have lw:=reps_len rw'
    have f2:=ok.f.two
    have f4:=ok.f.four
    have w4:=ok.w.four
    rw [List.length_map] at w4
    obtain ⟨z1,z2⟩:=wd0_len ok.f
    have zf:∀ p∈fs,p.length≤11:=fun p hp=>z2 p (List.mem_cons_of_mem _ hp)
    have jl:=line_len (ts:=fs) (by omega) zf
    refine ⟨_,(wss_cons (ws_set (i:=1) sc__law_lines.nd rfl (Or.inl rfl) (we_lst (wa_k (we_op op_add_str we_str (we_bm PySem.F.plainAttrs_str PySem.F.slot_str_join PySem.F.type_str_join (mt_join K) we_str (wa_k (we_ix ix_seq (we_v 0) we_int (fun _ _=>rfl)) wa_nil))) wa_nil)))
      (wss_cons (ws_for PassesOwn.never rfl (wi_tup (we_ix ix_seq (we_v 0) we_int (fun _ _=>rfl))) (wg_tup rfl (wgs_cons (wg_name (i:=2) sc__law_lines.nd rfl (Or.inl rfl)) (wgs_cons (wg_name (i:=3) sc__law_lines.nd rfl (Or.inl rfl)) wgs_nil))) (wss_cons (ws_setComp (i:=4) (CScope.of (psc:=defScope s__law_lines) (N:=["_law_trial_here", "_law_lines_here", "_law_name", "_law_shares_here", "_law_words"]) (N':=["_law_one"]) (js:=[]) (by decide +kernel) rfl rfl rfl) sc__law_lines.nd rfl rfl (wi_tup (we_v 3)) (fun _ _ _ _=>wts_nil) (fun _ _ _ _=>(we_op op_add_str (we_cT (cl_strI rfl T.nd) (by rfl) T.b_str (by decide +kernel) (wa_k (we_ix (ix_seqK K) (we_v 0) we_int (fun _ _=>rfl)) wa_nil)) (we_ifExp (wt_cmp op_eq (we_ix (ix_seqK K) (we_v 0) we_int (fun _ _=>rfl)) we_int (nomark _)) we_str (we_op op_add_str we_str (we_cT (cl_strI rfl T.nd) (by rfl) T.b_str (by decide +kernel) (wa_k (we_ix (ix_seqK K) (we_v 0) we_int (fun _ _=>rfl)) wa_nil)))))))
      (wss_one (ws_expr (we_bm PySem.F.plainAttrs_list PySem.F.slot_list_append PySem.F.type_list_append mt_app (we_v 1) (wa_k (we_op op_add_str (we_op op_add_str (we_op op_add_str we_str (we_v 2)) we_str) (we_bm PySem.F.plainAttrs_str PySem.F.slot_str_join PySem.F.type_str_join (mt_join K) we_str (wa_k (we_v 4) wa_nil))) wa_nil))))))
      (wss_one (ws_ret (we_v 1))))),?_⟩
    refine ⟨rfl,_,rfl,?_⟩
    refine ixT ha rfl ?_
    refine rjoin (ts:=fs) (sep:=bk) (.inr (SqT.of hf)) (join_ok (by omega) zf) ?_
    refine ⟨_,_,rfl,rfl,?_,?_⟩
    · have e6:(Str.ofString "faces ").length=6:=by decide +kernel
      rw [e6,sizeLine_eq]; omega
    rw [line0 f2]
    refine nwL (by show 1≤64; decide) fun L H4 hL e4 s4=>?_
    refine ⟨_,rfl,?_⟩
    refine ixT (s4 _ _ ha) rfl ?_
    refine ⟨aw,rfl,⟨_,SqT.of (s4 _ _ hw)⟩,?_⟩
    refine for_tup (xs:=xw) (fun i σ H'=>∃ o2 o3 o4:Option V,σ=[some (.ref a),some (.ref L),o2,o3,o4]∧Same H H'∧H' L=some (.lst ((lns fs (ws.take i)).map V.str))) ⟨_,_,_,rfl,s4,e4⟩ (fun i σ H' _ p=>?_) ?_ ?_
    · obtain ⟨o2,o3,o4,_,s',_⟩:=p
      exact SqT.of (s' _ _ hw)
    · rintro i x σ H5 hx ⟨o2,o3,o4,rfl,s5,e5⟩
      obtain ⟨wy,ew,rx⟩:=reps_get rw' hx
      have wm:=List.mem_of_getElem? ew
      have wp:=ok.mem wm
      have oks:=ok.sh _ wm
      obtain ⟨y1,y2⟩:=wdW_len wp oks (by omega)
      have yf:∀ p∈wy.2.map TT,p.length≤11:=fun p hp=>y2 p (List.mem_cons_of_mem _ (List.mem_cons_of_mem _ hp))
      have jl2:=line_len (ts:=wy.2.map TT) (by rw [List.length_map,oks.len]; omega) yf
      have nl:=(pool_names _ wp).2.1
      obtain ⟨ag,xg,rfl,hag,rxg⟩:=tup_at (rx.same s5)
      obtain ⟨u,v,rfl,ru,rv⟩:=RepL_two rxg
      cases (show u=V.str wy.1 from ru)
      obtain ⟨as,xs,rfl,has,rxs⟩:=tup_at rv
      have lxs:=reps_len rxs
      have lo:=oks.len
      refine ⟨ag,_,rfl,SqT.of hag,rfl,_,_,rfl,_,_,rfl,rfl,?_⟩
      refine ⟨_,rfl,as,rfl,⟨_,SqT.of has⟩,?_⟩
      refine comp_mapU (fun j y _=>∃ t,(wy.2.map TT)[j]?=some t∧y=.str t) (fun _ _ _ _ _ h=>h) (by omega) has (fun j x H' Q' hx s' k'=>?_) (fun D ys H7 hD hD7 s7 hy hr7=>?_)
      · obtain ⟨g,hg,rg⟩:=reps_get rxs hx
        have sg:=oks.at (List.mem_of_getElem? hg)
        have l1:=tx_len1 sg.sz.1
        have l2:=tx_len1 sg.sz.2
        obtain ⟨pg,rfl,eg⟩:=frD_at (rg.same s')
        refine ⟨_,rfl,?_⟩
        refine ixT eg rfl ?_
        refine rstrI (lt43 sg.sz.1) ?_
        refine ⟨_,rfl,?_⟩
        refine ixT eg rfl ?_
        refine ⟨rfl,_,rfl,?_⟩
        have fin:∀ t,t=(if g.2=1 then Str.ofString "" else Str.ofString "/" ++ tx g.2)→Q' (.str (tx g.1++t)) H':=fun t et=>by
          rw [et,← TT_text]
          exact k' _ H' (Same.refl _) ⟨TT g,by rw [List.getElem?_map,hg]; rfl,rfl⟩
        refine iteD (fun e=>?_) (fun e=>?_)
        · have e1:g.2=1:=by injection e
          refine ⟨_,_,rfl,rfl,?_,fin _ (by rw [if_pos e1])⟩
          rw [sizeLine_eq]
          show (tx g.1).length+0≤_
          omega
        · have e1:¬ g.2=1:=fun z=>e (by rw [z])
          refine ⟨_,rfl,?_⟩
          refine ixT eg rfl ?_
          refine rstrI (lt43 sg.sz.2) ?_
          refine ⟨_,_,rfl,rfl,?_,?_⟩
          · rw [sizeLine_eq]
            show 1+(tx g.2).length≤_
            omega
          · refine ⟨_,_,rfl,rfl,?_,fin _ (by rw [if_neg e1]; rfl)⟩
            rw [sizeLine_eq,app_len]
            show (tx g.1).length+(1+(tx g.2).length)≤_
            omega
      · have ey:=strs_idx (ts:=wy.2.map TT) (by rw [hy,List.length_map]; omega) hr7
        subst ey
        refine ⟨_,rfl,tyL (s7 _ _ e5),_,rfl,_,_,rfl,rfl,?_,_,_,rfl,rfl,?_,rfl,_,rfl,?_⟩
        · have e6:(Str.ofString "way ").length=4:=by decide +kernel
          rw [e6,sizeLine_eq]; omega
        · have e6:(Str.ofString "way ").length=4:=by decide +kernel
          have e7:(Str.ofString " ").length=1:=by decide +kernel
          rw [app_len,e6,e7,sizeLine_eq]; omega
        refine rjoin (ts:=wy.2.map TT) (sep:=bk) (.inl (SqL.of hD7)) (join_ok (by rw [List.length_map]; omega) yf) ?_
        refine ⟨_,_,rfl,rfl,?_,?_⟩
        · have e6:(Str.ofString "way ").length=4:=by decide +kernel
          have e7:(Str.ofString " ").length=1:=by decide +kernel
          rw [app_len,app_len,e6,e7,sizeLine_eq]; omega
        rw [lineW (by rw [lo]; omega)]
        refine appL (s7 _ _ e5) (by rw [List.length_map]; unfold lns; rw [List.length_cons,List.length_map,List.length_take]; omega) fun H9 e9 s9=>?_
        refine ⟨_,_,_,rfl,Same.thru hL (s5.trans s7) s9,?_⟩
        rw [take_snoc ew,lns_snoc]
        exact e9
    · rintro σ H5 ⟨o2,o3,o4,rfl,s5,e5⟩
      refine ⟨_,rfl,?_⟩
      rw [lw,List.take_length] at e5
      exact q L H5 s5 hL e5
end
end Kw
set_option Elab.async false
set_option linter.all false
set_option maxRecDepth 100000
namespace L2
open PySem PySem.Spec PyProof.Rows
def tOrL (K:PySem.W.Frag) (ta tb:TE):TE:=fun σ H Q=>ta σ H fun x H1=>∃ k,TruV K x H1 k∧if k=true then Q x H1 else tb σ H1 Q
section
variable {X:Cx} {a b:Expr} {rest:List Expr} {ta tb:TE} {pos:Pos}
theorem pe_orL (ha:PE X a ta) (hb:PE X (.BoolOp .Or (b::rest) pos) tb):PE X (.BoolOp .Or (a::b::rest) pos) (tOrL X.K ta tb):=by
  intro pins s σ H Q I h
  refine BoolOp_or (thn (ha pins s σ H _ I h) fun v s1 ⟨x,H1,I1,r1,q1⟩=>?_)
  obtain ⟨k,e,q1⟩:=q1
  refine thn (tru_ok pins s1 σ H1 x v (fun c H2=>if c=true then Q x H2 else tb σ H2 Q) I1 r1 ⟨k,e,q1⟩) fun c s2 ⟨H2,I2,q2⟩=>?_
  cases c with
  | true=>exact ⟨x,H2,I2,r1,q2⟩
  | false=>exact hb pins s2 σ H2 Q I2 q2
theorem we_orL (K:PySem.W.Frag) (ha:PEw X a ta) (hb:PEw X (.BoolOp .Or (b::rest) pos) tb) (hK:X.K=K:=by rfl):PEw X (.BoolOp .Or (a::b::rest) pos) (tOrL K ta tb):=by subst hK; exact ⟨pe_orL ha.p hb.p⟩
end
end L2
set_option Elab.async false
set_option linter.all false
set_option maxRecDepth 100000
namespace Kw
open PySem L2 Mf Mt
structure WdOk (t:Str):Prop where
  free:32 ∉ t.cps.toList
  sz:t.length≤20
  lo:Low t
  dn:∀ g,rdT t=some g→g.2≤1000
structure SpOk (n m:Nat) (rows:List (List Str)):Prop where
  len:rows.length≤n
  row:∀ r∈rows,r≠[]∧r.length≤m∧∀ t∈r,WdOk t
theorem SpOk.ok {n m:Nat} {rows:List (List Str)} (h:SpOk n m rows) (hm:m≤40):∀ r∈rows,RwOk r:=fun r hr=>by
  obtain ⟨h1,h2,h3⟩:=h.row r hr
  exact ⟨h1,fun t ht=>(h3 t ht).free,by omega,fun t ht=>(h3 t ht).sz,fun t ht=>(h3 t ht).dn,fun t ht=>(h3 t ht).lo⟩
@[irreducible] def sp_spoilt:Sp:=fun vs H Q _=>∃ (p L a:Addr) (rows:List (List Str)) (n m:Nat),vs=[.ref p,.ref a]∧FeedAt H p L∧H a=some (.lst ((rows.map lnOf).map V.str))∧a≠p∧rows≠[]∧SpOk n m rows∧n≤10∧m≤20∧∀ D rows' H',H D=none→FeedAt H' p L→SameBut p H H'→H' D=some (.lst ((rows'.map lnOf).map V.str))→SpOk (n+1) (m+3) rows'→Q (.ref D) H'
def wdB (t:Str):Bool:=!(t.cps.toList.contains 32)&&(decide (t.length≤20)&&(t.cps.toList.all (fun x=>decide (x<128))&&(match rdT t with | some g=>decide (g.2≤1000) | none=>true)))
theorem wdB_ok {t:Str} (h:wdB t=true):WdOk t:=by
  unfold wdB at h
  rw [Bool.and_eq_true,Bool.and_eq_true,Bool.and_eq_true,decide_eq_true_eq] at h
  obtain ⟨h1,h2,h3,h4⟩:=h
  refine ⟨by simpa using h1,h2,fun x hx=>by simpa using List.all_eq_true.mp h3 x hx,fun g hg=>?_⟩
  rw [hg] at h4
  simpa using h4
abbrev odd1:List Str:=["", "faces", "way", "on", "q", "Q", "a", "ab", "1", "0", "1/2", "2/4", "3/2", "-1", "1/3", "none"]
abbrev odd2:List Str:=["01", "abcdefghi", "+1", "1_0", "1/+2", "1/1_0"]
theorem odd_all:(odd1++odd2++[Str.ofString "qq"]).all wdB=true:=by decide +kernel
theorem odd_ok:∀ t∈odd1++odd2++[Str.ofString "qq"],WdOk t:=fun t ht=>wdB_ok (List.all_eq_true.mp odd_all t ht)
abbrev fsts (prs:List (List Str × Addr)):List (List Str):=prs.map fun e=>e.1
abbrev refs (prs:List (List Str × Addr)):List V:=prs.map fun e=>V.ref e.2
structure RA (H:Hp) (p LR:Addr) (prs:List (List Str × Addr)):Prop where
  lst:H LR=some (.lst (refs prs))
  np:LR≠p
  row:∀ e∈prs,e.2≠p∧e.2≠LR∧H e.2=some (.lst (e.1.map V.str))
theorem RA.same {H H':Hp} {p LR:Addr} {prs:List (List Str × Addr)} (h:RA H p LR prs) (s:Same H H'):RA H' p LR prs:=⟨s _ _ h.lst,h.np,fun e he=>⟨(h.row e he).1,(h.row e he).2.1,s _ _ (h.row e he).2.2⟩⟩
theorem RA.but {H H':Hp} {p LR:Addr} {prs:List (List Str × Addr)} (h:RA H p LR prs) (s:SameBut p H H'):RA H' p LR prs:=⟨s.at h.np h.lst,h.np,fun e he=>⟨(h.row e he).1,(h.row e he).2.1,s.at (h.row e he).1 (h.row e he).2.2⟩⟩
theorem RA.new {H H':Hp} {p LR D:Addr} {prs prs':List (List Str × Addr)} (h:RA H p LR prs) (hD:H D=none) (nD:D≠p) (e:H' D=some (.lst (refs prs'))) (s:Same H H') (sub:∀ e∈prs',e∈prs):RA H' p D prs' :=
  ⟨e,nD,fun e he=>⟨(h.row e (sub e he)).1,(fun z=>by have:=(h.row e (sub e he)).2.2; rw [z,hD] at this; cases this),s _ _ (h.row e (sub e he)).2.2⟩⟩
theorem RA.put {H H':Hp} {p LR q:Addr} {prs prs':List (List Str × Addr)} {r:List Str} (h:RA H p LR prs) (hq:H q=some (.lst (r.map V.str))) (nq:q≠p) (nL:q≠LR) (e:H' LR=some (.lst (refs prs'))) (s:SameBut LR H H') (sub:∀ e∈prs',e∈prs∨e=(r,q)):RA H' p LR prs' :=
  ⟨e,h.np,fun e he=>by
    rcases sub e he with h1 | rfl
    · obtain ⟨a1,a2,a3⟩:=h.row e h1
      exact ⟨a1,a2,s.at a2 a3⟩
    · exact ⟨nq,nL,s.at nL hq⟩⟩
theorem pairs_of {R:List Str→Addr→Prop}:∀ {rows:List (List Str)} {ys:List V},ys.length=rows.length→(∀ (i:Nat) (y:V),ys[i]?=some y→∃ q r,y=.ref q∧rows[i]?=some r∧R r q)→∃ prs,fsts prs=rows∧refs prs=ys∧∀ e∈prs,R e.1 e.2
  | [],[],_,_=>⟨[],rfl,rfl,fun e he=>by cases he⟩
  | [],_::_,hl,_=>by simp at hl
  | _::_,[],hl,_=>by simp at hl
  | r::rows,y::ys,hl,h=>by
    obtain ⟨q,r',rfl,h1,h2⟩:=h 0 _ rfl
    cases h1
    obtain ⟨prs,p1,p2,p3⟩:=pairs_of (rows:=rows) (ys:=ys) (R:=R) (by simpa using hl) fun i y hi=>h (i+1) y hi
    refine ⟨(r,q)::prs,by rw [← p1]; rfl,by rw [← p2]; rfl,fun e he=>?_⟩
    rcases List.mem_cons.mp he with rfl | he
    · exact h2
    · exact p3 e he
theorem ixN_at {n j:Nat} {z:Int} (hz:z=(j:Int)) (h:j<n):ixN n z=some j:=by
  subst hz
  unfold ixN
  rw [if_pos (by omega),if_pos (by omega),Int.toNat_natCast]
theorem repN {H:Hp} {Q:VK} {l:Addr} {z:V} {i:Int} {k:Nat} (hi:i.toNat=k) (h1:-100≤i) (h:H l=some (.lst [z])) (hk:k≤64) (q:∀ c H',H c=none→H' c=some (.lst (List.replicate k z))→Same H H'→Q (.ref c) H'):rRep (.ref l) (.int i) H Q:=by
  refine ⟨l,i,[z],rfl,rfl,h,by omega,by omega,?_,fun p hp=>?_⟩
  · show 1*i.toNat≤sizeLine
    rw [Nat.one_mul,hi]; exact line20 (by omega)
  · rw [hi]
    have e:∀ k:Nat,(List.replicate k [z]).flatten=List.replicate k z:=fun k=>by
      induction k with
      | zero=>rfl
      | succ k ih=>rw [List.replicate_succ,List.flatten_cons,ih]; rfl
    rw [e]
    exact q p _ hp upd_same (Same.upd hp)
theorem SpOk.set {n m:Nat} {prs:List (List Str × Addr)} {j:Nat} {r:List Str} {q:Addr} (h:SpOk n m (fsts prs)) (h1:r≠[]) (h2:r.length≤m+3) (h3:∀ t∈r,WdOk t):SpOk (n+1) (m+3) (fsts (prs.set j (r,q))):=by
  refine ⟨by have:=h.len; rw [List.length_map] at this ⊢; rw [List.length_set]; omega,fun r' hr'=>?_⟩
  obtain ⟨e,he,rfl⟩:=List.mem_map.mp hr'
  rcases List.mem_or_eq_of_mem_set he with he | rfl
  · obtain ⟨a1,a2,a3⟩:=h.row e.1 (List.mem_map_of_mem (f:=fun e=>e.1) he)
    exact ⟨a1,by omega,a3⟩
  · exact ⟨h1,h2,h3⟩
theorem SpOk.sub {n m n':Nat} {prs prs':List (List Str × Addr)} (h:SpOk n m (fsts prs)) (hl:prs'.length≤n') (s:∀ e∈prs',e∈prs):SpOk n' (m+3) (fsts prs'):=by
  refine ⟨by rw [List.length_map]; exact hl,fun r' hr'=>?_⟩
  obtain ⟨e,he,rfl⟩:=List.mem_map.mp hr'
  obtain ⟨a1,a2,a3⟩:=h.row e.1 (List.mem_map_of_mem (f:=fun e=>e.1) (s e he))
  exact ⟨a1,by omega,a3⟩
end Kw
set_option Elab.async false
set_option linter.all false
set_option maxRecDepth 100000
namespace Kw
open PySem L2 Mf Mt
abbrev s__law_spoilt:Stmt:=(top 59)
theorem sc__law_spoilt:FnScope ["_law_feed_here", "_law_lines_here", "_law_rows", "_law_at", "_law_row", "_law_spot", "_law_some", "_law_other", "_law_way_here"] ["_law_feed_here", "_law_lines_here"] (defScope s__law_spoilt):=⟨rfl,rfl,rfl,by decide +kernel,rfl,by decide +kernel,by decide +kernel⟩
section
variable {P:Program} {w:World} {K:PySem.W.Frag} {mg:Str→Option Value} {base:Heap} {c:Cl}
set_option maxHeartbeats 8000000 in
theorem ok__law_spoilt {f:Addr} {fd:FuncData} (F:Fun K "_law_spoilt" "_law_spoilt" s__law_spoilt f fd) (T:Txt K mg c) (F__law_draw:FnC CX0 P w K mg base 1 "_law_draw" ["_law_feed_here", "_law_many"] sp_draw):FnOk P w K mg base CX0 2 f fd ["_law_feed_here", "_law_lines_here"] sp_spoilt:=by
  refine F.okw sc__law_spoilt (fun vs H Q E h=>?_) (fun cdv A outer s H vs Q E hr h=>?_)
  · unfold sp_spoilt at h
    obtain ⟨p,L,a,rows,n,m,rfl,_⟩:=h
    rfl
  · unfold sp_spoilt at h
    obtain ⟨p,L,a,rows,n,m,rfl,Fd,ha,nap,hne,ok,hn,hm,q⟩:=h
    refine ⟨_,(wss_cons (ws_setComp (i:=2) (CScope.of (psc:=defScope s__law_spoilt) (N:=["_law_feed_here", "_law_lines_here", "_law_rows", "_law_at", "_law_row", "_law_spot", "_law_some", "_law_other", "_law_way_here"]) (N':=["_law_line"]) (js:=[]) (by decide +kernel) rfl rfl rfl) sc__law_spoilt.nd rfl rfl (wi_list (we_v 1)) (fun _ _ _ _=>wts_nil) (fun _ _ _ _=>(we_bmK K PySem.F.plainAttrs_str PySem.F.slot_str_split PySem.F.type_str_split mt_split (we_v 0) (wa_k we_str wa_nil))))
      (wss_cons (ws_set (i:=3) sc__law_spoilt.nd rfl (Or.inl rfl) (we_fn F__law_draw (hr.mono (by decide)) (wa_k (we_v 0) (wa_k (we_cB cl_len (by rfl) T.b_len (by decide +kernel) (wa_k (we_v 2) wa_nil)) wa_nil))))
      (wss_cons (ws_set (i:=4) sc__law_spoilt.nd rfl (Or.inl rfl) (we_ix ix_seq (we_v 2) (we_v 3) (fun _ _=>rfl)))
      (wss_cons (ws_set (i:=5) sc__law_spoilt.nd rfl (Or.inl rfl) (we_fn F__law_draw (hr.mono (by decide)) (wa_k (we_v 0) (wa_k (we_cB cl_len (by rfl) T.b_len (by decide +kernel) (wa_k (we_v 4) wa_nil)) wa_nil))))
      (wss_cons (ws_set (i:=6) sc__law_spoilt.nd rfl (Or.inl rfl) (we_lst (wa_k we_str (wa_k we_str (wa_k we_str (wa_k we_str (wa_k we_str (wa_k we_str (wa_k we_str (wa_k we_str (wa_k we_str (wa_k we_str (wa_k we_str (wa_k we_str (wa_k we_str (wa_k we_str (wa_k we_str (wa_k we_str wa_nil))))))))))))))))))
      (wss_cons (ws_set (i:=6) sc__law_spoilt.nd rfl (Or.inl rfl) (we_op op_cat (we_v 6) (we_lst (wa_k we_str (wa_k we_str (wa_k we_str (wa_k we_str (wa_k we_str (wa_k we_str wa_nil)))))))))
      (wss_cons (ws_set (i:=7) sc__law_spoilt.nd rfl (Or.inl rfl) (we_ix ix_seq (we_v 2) (we_fn F__law_draw (hr.mono (by decide)) (wa_k (we_v 0) (wa_k (we_cB cl_len (by rfl) T.b_len (by decide +kernel) (wa_k (we_v 2) wa_nil)) wa_nil))) (fun _ _=>rfl)))
      (wss_cons (ws_set (i:=8) sc__law_spoilt.nd rfl (Or.inl rfl) (we_fn F__law_draw (hr.mono (by decide)) (wa_k (we_v 0) (wa_k we_int wa_nil))))
      (wss_cons (ws_cut (ws_if (wt_cmp op_lt (we_v 8) we_int (nomark _)) (wss_cons (ws_set (i:=6) sc__law_spoilt.nd rfl (Or.inl rfl) (we_lst (wa_k (we_ix ix_seq (we_v 6) (we_fn F__law_draw (hr.mono (by decide)) (wa_k (we_v 0) (wa_k we_int wa_nil))) (fun _ _=>rfl)) (wa_k (we_ix ix_seq (we_v 7) (we_fn F__law_draw (hr.mono (by decide)) (wa_k (we_v 0) (wa_k (we_cB cl_len (by rfl) T.b_len (by decide +kernel) (wa_k (we_v 7) wa_nil)) wa_nil))) (fun _ _=>rfl)) wa_nil))))
      (wss_one (ws_asg (we_op op_cat (we_op op_cat (we_slice (sl_listN K) (we_v 4) wo_none (wo_some (we_v 5))) (we_lst (wa_k (we_ix ix_seq (we_v 6) (we_fn F__law_draw (hr.mono (by decide)) (wa_k (we_v 0) (wa_k we_int wa_nil))) (fun _ _=>rfl)) wa_nil))) (we_slice (sl_listN K) (we_v 4) (wo_some (we_op op_add (we_v 5) (we_cT call_int1 (by rfl) T.b_int (by decide +kernel) (wa_k (we_cmp op_gt (we_v 8) we_int (nomark _)) wa_nil)))) wo_none)) (wg_sub (we_v 2) (we_v 3) set_list)))) (wss_one (ws_if (wt_cmp op_eq (we_v 8) we_int (nomark _)) (wss_one (ws_asg (we_orL K (we_op op_cat (we_slice (sl_listN K) (we_v 4) wo_none (wo_some (we_v 5))) (we_slice (sl_listN K) (we_v 4) (wo_some (we_op op_add (we_v 5) we_int)) wo_none)) (we_one (we_lst (wa_k we_str wa_nil)))) (wg_sub (we_v 2) (we_v 3) set_list))) (wss_one (ws_if (wt_cmp op_eq (we_v 8) we_int (nomark _)) (wss_one (ws_asg (we_op op_cat (we_v 4) (we_op op_rep (we_lst (wa_k (we_ix ix_seq (we_v 4) (we_v 5) (fun _ _=>rfl)) wa_nil)) (we_op op_add we_int (we_fn F__law_draw (hr.mono (by decide)) (wa_k (we_v 0) (wa_k we_int wa_nil)))))) (wg_sub (we_v 2) (we_v 3) set_list))) (wss_one (ws_if (wt_cmp op_eq (we_v 8) we_int (nomark _)) (wss_one (ws_set (i:=2) sc__law_spoilt.nd rfl (Or.inl rfl) (we_op op_cat (we_slice (sl_listN K) (we_v 2) wo_none (wo_some (we_v 3))) (we_slice (sl_listN K) (we_v 2) (wo_some (we_op op_add (we_v 3) we_int)) wo_none)))) (wss_one (ws_if (wt_cmp op_eq (we_v 8) we_int (nomark _)) (wss_one (ws_expr (we_bm PySem.F.plainAttrs_list PySem.F.slot_list_insert PySem.F.type_list_insert mt_ins (we_v 2) (wa_k (we_fn F__law_draw (hr.mono (by decide)) (wa_k (we_v 0) (wa_k (we_op op_add (we_cB cl_len (by rfl) T.b_len (by decide +kernel) (wa_k (we_v 2) wa_nil)) we_int) wa_nil))) (wa_k (we_op op_cat (we_lst (wa_k we_str (wa_k we_str wa_nil))) (we_slice (sl_listN K) (we_v 4) (wo_some we_int) wo_none)) wa_nil))))) (wss_one (ws_if (wt_cmp op_eq (we_v 8) we_int (nomark _)) (wss_one (ws_set (i:=2) sc__law_spoilt.nd rfl (Or.inl rfl) (we_op op_cat (we_slice (sl_listN K) (we_v 2) (wo_some (we_v 3)) wo_none) (we_slice (sl_listN K) (we_v 2) wo_none (wo_some (we_v 3)))))) (wss_one (ws_asg (we_op op_cat (we_slice (sl_listN K) (we_v 4) wo_none (wo_some we_int)) (we_op op_rep (we_lst (wa_k we_str wa_nil)) (we_op op_sub (we_cB cl_len (by rfl) T.b_len (by decide +kernel) (wa_k (we_v 4) wa_nil)) we_int))) (wg_sub (we_v 2) (we_v 3) set_list)))))))))))))))
      (wss_one (ws_ret (we_comp (CScope.of (psc:=defScope s__law_spoilt) (N:=["_law_feed_here", "_law_lines_here", "_law_rows", "_law_at", "_law_row", "_law_spot", "_law_some", "_law_other", "_law_way_here"]) (N':=["_law_one"]) (js:=[]) (by decide +kernel) rfl rfl rfl) (wi_list (we_v 2)) (fun _ _ _ _=>wts_nil) (fun _ _ _ _=>(we_bmK K PySem.F.plainAttrs_str PySem.F.slot_str_join PySem.F.type_str_join (mt_join K) we_str (wa_k (we_v 0) wa_nil))))))))))))))),?_⟩
    have hlen:=ok.len
    have okR:=ok.ok (by omega)
    refine ⟨_,rfl,a,rfl,⟨_,SqL.of ha⟩,?_⟩
    refine comp_newL (fun i q H'=>q≠p∧∃ r,rows[i]?=some r∧H' q=some (.lst (r.map V.str))) (fun i q H1 H2 s ⟨n,r,h1,h2⟩=>⟨n,r,h1,s _ _ h2⟩) (fun i q H1 H2 D n s ⟨n2,r,h1,h2⟩=>⟨n2,r,h1,s.at n h2⟩) (by rw [List.length_map,List.length_map]; omega) ha (fun i x H' Q' hx s' k'=>?_) (fun LR ys H1 hL e1 s1 hy hr1=>?_)
    · rw [List.getElem?_map,List.getElem?_map] at hx
      obtain ⟨_,hx',rfl⟩:=Option.map_eq_some_iff.mp hx
      obtain ⟨r,hr',rfl⟩:=Option.map_eq_some_iff.mp hx'
      have okr:=okR r (List.mem_of_getElem? hr')
      have sb:=okr.back
      have ll:=okr.ll
      have lr:=okr.len
      refine ⟨_,rfl,rfl,?_⟩
      refine rsplit (a:=lnOf r) (b:=bk) (by decide +kernel) (line20 (by omega)) (by rw [sb]; exact line20 (by omega)) fun p1 H5 hp1 e1 s1=>?_
      rw [sb] at e1
      exact k' p1 H5 hp1 s1 ⟨(Fd.same s').ne hp1,r,hr',e1⟩
    have nL:LR≠p:=Fd.ne hL
    have nLL:LR≠L:=Fd.neL hL
    rw [List.length_map,List.length_map] at hy
    obtain ⟨prs,ep1,ep2,hp⟩:=pairs_of (R:=fun r q=>q≠p∧q≠LR∧H1 q=some (.lst (r.map V.str))) hy fun i y hi=>by
      obtain ⟨q,h1,h2,h3,r,h4,h5⟩:=hr1 i y hi
      exact ⟨q,r,h1,h4,h3,h2,h5⟩
    have R1:RA H1 p LR prs:=⟨by rw [ep2]; exact e1,nL,hp⟩
    have F1:=Fd.same s1
    have B1:SameBut p H H1:=s1.but
    have lp:prs.length=rows.length:=by rw [← ep1,List.length_map]
    have lp1:1≤prs.length:=by rw [lp]; exact List.length_pos_iff.mpr hne
    rw [← ep1] at ok
    have rowOf:∀ {j:Nat} {e:List Str × Addr},prs[j]?=some e→e.1≠[]∧e.1.length≤m∧∀ t∈e.1,WdOk t:=fun {j e} he=>ok.row e.1 (List.mem_map_of_mem (f:=fun e=>e.1) (List.mem_of_getElem? he))
    clear hr1 hp e1 hy
    refine ⟨_,rfl,?_⟩
    refine ⟨_,rfl,?_⟩
    refine rlL R1.lst ?_
    rw [List.length_map]
    refine sp_draw_i F1 (by omega) (bitsle (n:=9000) (Nat.lt_of_lt_of_le (show ((prs.length:Nat):Int).natAbs<2^10 by show _<1024; omega) (Nat.pow_le_pow_right (by decide) (by decide)))) fun x2 H2 x20 x21 F2 b2=>?_
    have small:∀ {z:Nat},z≤1000→bits ((z:Nat):Int)≤9000:=fun {z} hz=>bitsle (n:=9000) (Nat.lt_of_lt_of_le (show ((z:Nat):Int).natAbs<2^10 by show _<1024; omega) (Nat.pow_le_pow_right (by decide) (by decide)))
    obtain ⟨j,rfl⟩:=Int.eq_ofNat_of_zero_le x20
    have hj:j<prs.length:=by omega
    have ej:prs[j]?=some prs[j]:=List.getElem?_eq_getElem hj
    generalize prs[j]=e at ej
    obtain ⟨r,qr⟩:=e
    have R2:=R1.but b2
    have hem:=List.mem_of_getElem? ej
    obtain ⟨rne,rlen,rwd⟩:=rowOf ej
    have rl1:=List.length_pos_iff.mpr rne
    have rl1:1≤r.length:=rl1
    have rlen:r.length≤m:=rlen
    have rwd:∀ t∈r,WdOk t:=rwd
    refine ⟨_,rfl,_,rfl,?_⟩
    refine ixL R2.lst (v:=.ref qr) (atI_nat (by rw [List.getElem?_map,ej]; rfl)) ?_
    refine ⟨_,rfl,?_⟩
    refine ⟨_,rfl,?_⟩
    refine rlL (R2.row _ hem).2.2 ?_
    rw [List.length_map]
    refine sp_draw_i F2 (by show (0:Int)<((r.length:Nat):Int); omega) (small (by show r.length≤1000; omega)) fun x3 H3 x30 x31 F3 b3=>?_
    obtain ⟨k,rfl⟩:=Int.eq_ofNat_of_zero_le x30
    have x31:((k:Nat):Int)<((r.length:Nat):Int):=x31
    have hk:k<r.length:=by omega
    have R3:=R2.but b3
    refine nwL (by show 16≤64; decide) fun m1 H4 hm1 e4 s4=>?_
    refine ⟨_,rfl,?_⟩
    refine nwL (by show 6≤64; decide) fun m2 H5 hm2 e5 s5=>?_
    refine catL (s5 _ _ e4) e5 (by decide) fun sm H6 hsm e6 s6=>?_
    have e6:H6 sm=some (.lst ((odd1++odd2).map V.str)):=e6
    have s36:=(s4.trans s5).trans s6
    have F6:=F3.same s36
    have R6:=R3.same s36
    have nsm:sm≠p:=((F3.same s4).same s5).ne hsm
    refine ⟨_,rfl,?_⟩
    refine ⟨_,rfl,?_⟩
    refine ⟨_,rfl,?_⟩
    refine rlL R6.lst ?_
    rw [List.length_map]
    refine sp_draw_i F6 (by omega) (small (by omega)) fun x4 H7 x40 x41 F7 b7=>?_
    obtain ⟨o,rfl⟩:=Int.eq_ofNat_of_zero_le x40
    have ho:o<prs.length:=by omega
    have eo:prs[o]?=some prs[o]:=List.getElem?_eq_getElem ho
    generalize prs[o]=e at eo
    obtain ⟨ro,qo⟩:=e
    have R7:=R6.but b7
    have e7:=b7.at nsm e6
    have hom:=List.mem_of_getElem? eo
    obtain ⟨one,olen,owd⟩:=rowOf eo
    have ol1:1≤ro.length:=List.length_pos_iff.mpr one
    have olen:ro.length≤m:=olen
    have owd:∀ t∈ro,WdOk t:=owd
    refine ixL R7.lst (v:=.ref qo) (atI_nat (by rw [List.getElem?_map,eo]; rfl)) ?_
    refine ⟨_,rfl,?_⟩
    refine sp_draw_i F7 (by decide) (by decide +kernel) fun w8 H8 w80 w81 F8 b8=>?_
    obtain ⟨wy,rfl⟩:=Int.eq_ofNat_of_zero_le w80
    have R8:=R7.but b8
    have e8:=b8.at nsm e7
    have B8:SameBut p H H8:=((((B1.trans b2).trans b3).trans s36.but).trans b7).trans b8
    have hq8:H8 qr=some (.lst (r.map V.str)):=(R8.row _ hem).2.2
    have qp:qr≠p:=(R8.row _ hem).1
    have ho8:H8 qo=some (.lst (ro.map V.str)):=(R8.row _ hom).2.2
    have op:qo≠p:=(R8.row _ hom).1
    have nfL:∀ {H9:Hp} {c:Addr},RA H9 p LR prs→H9 c=none→c≠LR:=fun {H9 c} R9 hc z=>by rw [z,R9.lst] at hc; cases hc
    have hat:atI (r.map V.str) ((k:Nat):Int)=some (.str (r.getD k "")):=atI_nat (by rw [List.getElem?_map,List.getD_eq_getElem?_getD,List.getElem?_eq_getElem hk]; rfl)
    have wdk:WdOk (r.getD k ""):=rwd _ (by rw [List.getD_eq_getElem?_getD,List.getElem?_eq_getElem hk]; exact List.getElem_mem _)
    have put:∀ {H9 H10:Hp} {c:Addr} {r':List Str} {u4 u5 u6 u7 u8:Option V},FeedAt H9 p L→SameBut p H H9→RA H9 p LR prs→H9 c=some (.lst (r'.map V.str))→c≠p→c≠LR→r' ≠ []→r'.length≤m+3→(∀ t∈r',WdOk t)→H10=upd H9 LR (.lst ((refs prs).set j (.ref c)))→∃ (LR':Addr) (prs':List (List Str × Addr)) (o3 o4 o5 o6 o7 o8:Option V),[some (.ref p),some (.ref a),some (.ref LR),some (.int ((j:Nat):Int)),u4,u5,u6,u7,u8]=[some (.ref p),some (.ref a),some (.ref LR'),o3,o4,o5,o6,o7,o8]∧FeedAt H10 p L∧SameBut p H H10∧RA H10 p LR' prs'∧SpOk (n+1) (m+3) (fsts prs'):=by
      intro H9 H10 c r' u4 u5 u6 u7 u8 F9 B9 R9 hc ncp ncL h1 h2 h3 e10
      have b10:SameBut LR H9 H10:=by rw [e10]; exact SameBut.self
      refine ⟨LR,prs.set j (r',c),_,_,_,_,_,_,rfl,F9.but b10 nL nLL,SameBut.thru hL B9 b10,?_,ok.set h1 h2 h3⟩
      refine R9.put hc ncp ncL (by rw [e10,upd_same]; simp only [refs,List.map_set]) b10 fun e he=>List.mem_or_eq_of_mem_set he
    refine ⟨fun σ H'=>∃ (LR':Addr) (prs':List (List Str × Addr)) (o3 o4 o5 o6 o7 o8:Option V),σ=[some (.ref p),some (.ref a),some (.ref LR'),o3,o4,o5,o6,o7,o8]∧FeedAt H' p L∧SameBut p H H'∧RA H' p LR' prs'∧SpOk (n+1) (m+3) (fsts prs'),?_,?_⟩
    · rintro σ H9 ⟨LR',prs',o3,o4,o5,o6,o7,o8,rfl,F9,B9,R9,K9⟩
      have ok9:=K9.ok (by omega)
      have l9:=K9.len
      rw [List.length_map] at l9
      refine ⟨_,rfl,LR',rfl,⟨_,SqL.of R9.lst⟩,?_⟩
      refine comp_mapL (fun i y _=>∃ e,prs'[i]?=some e∧y=.str (lnOf e.1)) (fun _ _ _ _ _ h=>h) (by rw [List.length_map]; omega) R9.lst (fun i x H' Q' hx s' k'=>?_) (fun D zs H10 hD e10 s10 hz hr10=>?_)
      · rw [List.getElem?_map] at hx
        obtain ⟨e,he,rfl⟩:=Option.map_eq_some_iff.mp hx
        have hm':=List.mem_of_getElem? he
        have oke:=ok9 e.1 (List.mem_map_of_mem (f:=fun e=>e.1) hm')
        have lle:=oke.len
        have sze:=sumlen20 oke.sz
        refine ⟨rfl,_,rfl,?_⟩
        refine rjoin (ts:=e.1) (sep:=bk) (.inl (SqL.of (s' _ _ (R9.row e hm').2.2))) (by rw [show bk.length=1 from by decide +kernel]; omega) ?_
        exact k' _ H' (Same.refl _) ⟨e,he,rfl⟩
      · have ez:zs=((fsts prs').map lnOf).map V.str:=by
          apply List.ext_getElem?
          intro i
          rw [List.getElem?_map,List.getElem?_map,List.getElem?_map]
          cases h:zs[i]? with
          | none =>
            have:prs'.length≤i:=by rw [List.length_map] at hz; rw [← hz]; exact List.getElem?_eq_none_iff.mp h
            rw [List.getElem?_eq_none this]; rfl
          | some y =>
            obtain ⟨e,h1,rfl⟩:=hr10 i y h
            rw [h1]; rfl
        subst ez
        exact q D (fsts prs') H10 (B9.free F9.there hD) (F9.same s10) (B9.trans s10.but) e10 K9
    · refine ⟨_,rfl,_,_,rfl,rfl,_,rfl,?_⟩
      by_cases w3:wy<3
      · refine iteTe (decide_eq_true (by omega)) ?_
        refine ⟨_,rfl,?_⟩
        refine ⟨_,rfl,?_⟩
        refine sp_draw_i F8 (by decide) (by decide +kernel) fun y1 H9 y10 y11 F9 b9=>?_
        obtain ⟨i1,rfl⟩:=Int.eq_ofNat_of_zero_le y10
        obtain ⟨t1,ht1⟩:∃ t,(odd1++odd2)[i1]?=some t:=⟨_,List.getElem?_eq_getElem (by show i1<22; omega)⟩
        refine ixL (b9.at nsm e8) (v:=.str t1) (atI_nat (by rw [List.getElem?_map,ht1]; rfl)) ?_
        refine ⟨_,rfl,?_⟩
        refine ⟨_,rfl,?_⟩
        refine ⟨_,rfl,?_⟩
        refine rlL (b9.at op ho8) ?_
        rw [List.length_map]
        refine sp_draw_i F9 (by omega) (small (by omega)) fun y2 H10 y20 y21 F10 b10=>?_
        obtain ⟨i2,rfl⟩:=Int.eq_ofNat_of_zero_le y20
        obtain ⟨t2,ht2⟩:∃ t,ro[i2]?=some t:=⟨_,List.getElem?_eq_getElem (by omega)⟩
        refine ixL (b10.at op (b9.at op ho8)) (v:=.str t2) (atI_nat (by rw [List.getElem?_map,ht2]; rfl)) ?_
        refine nwL (by show 2≤64; decide) fun sn H11 hsn e11 s11=>?_
        have nsn:sn≠p:=F10.ne hsn
        have F11:=F10.same s11
        have B11:SameBut p H8 H11:=(b9.trans b10).trans s11.but
        have w1:WdOk t1:=odd_ok t1 (List.mem_append_left _ (List.mem_of_getElem? ht1))
        have w2:WdOk t2:=owd t2 (List.mem_of_getElem? ht2)
        refine ⟨_,rfl,_,rfl,_,rfl,?_⟩
        refine slL (lo:=none) (hi:=some (k:Int)) (B11.at qp hq8) (ys:=(r.take k).map V.str) (by rw [cutV_hi,List.map_take]) fun c1 H12 hc1 e12 s12=>?_
        have nc1:c1≠p:=F11.ne hc1
        have F12:=F11.same s12
        have B12:=B11.trans s12.but
        refine ⟨_,rfl,?_⟩
        refine ⟨_,rfl,?_⟩
        refine sp_draw_i F12 (by decide) (by decide +kernel) fun y3 H13 y30 y31 F13 b13=>?_
        obtain ⟨i3,rfl⟩:=Int.eq_ofNat_of_zero_le y30
        obtain ⟨t3,ht3⟩:∃ t,[t1,t2][i3]?=some t:=⟨_,List.getElem?_eq_getElem (by show i3<2; omega)⟩
        have w3':WdOk t3:=by
          have:=List.mem_of_getElem? ht3
          rcases List.mem_cons.mp this with rfl | h
          · exact w1
          · rw [List.mem_singleton.mp h]; exact w2
        refine ixL (b13.at nsn (s12 _ _ e11)) (v:=.str t3) (atI_nat (xs:=[t1,t2].map V.str) (by rw [List.getElem?_map,ht3]; rfl)) ?_
        refine nwL (by show 1≤64; decide) fun c2 H14 hc2 e14 s14=>?_
        have B14:=(B12.trans b13).trans s14.but
        have F14:=F13.same s14
        refine catL (s14 _ _ (b13.at nc1 e12)) e14 (by rw [List.length_map,List.length_take]; show _+1≤1000; omega) fun c3 H15 hc3 e15 s15=>?_
        have nc3:c3≠p:=F14.ne hc3
        have B15:SameBut p H8 H15:=B14.trans s15.but
        have F15:=F14.same s15
        refine ⟨_,rfl,_,rfl,_,rfl,_,_,rfl,rfl,.inr ⟨_,rfl,_,_,rfl,rfl,_,rfl,?_⟩⟩
        obtain ⟨z,hz1,hz⟩:∃ z:Nat,z≤1∧(if decide ((0:Int)<((wy:Nat):Int))=true then (1:Int) else 0)=((z:Nat):Int):=by
          by_cases h:(0:Int)<((wy:Nat):Int)
          · exact ⟨1,by omega,by rw [decide_eq_true h]; rfl⟩
          · exact ⟨0,by omega,by rw [decide_eq_false h]; rfl⟩
        refine slL (lo:=some ((k:Int)+(if decide ((0:Int)<((wy:Nat):Int))=true then (1:Int) else 0))) (hi:=none) (B15.at qp hq8) (ys:=(r.drop (k+z)).map V.str) (by rw [hz,show (k:Int)+((z:Nat):Int)=((k+z:Nat):Int) by omega,cutV_lo,List.map_drop]) fun c4 H16 hc4 e16 s16=>?_
        refine catL (s16 _ _ e15) e16 (by rw [List.length_append,List.length_map,List.length_map,List.length_drop,List.length_take]; show _+1+_≤1000; omega) fun c5 H17 hc5 e17 s17=>?_
        have B16:=B15.trans s16.but
        have B17:=B16.trans s17.but
        have F16:=F15.same s16
        have F17:=F16.same s17
        refine ⟨_,rfl,_,rfl,?_⟩
        refine stL (R8.but B17).lst (ixN_at rfl (by rw [List.length_map]; exact hj)) ?_
        refine put (r':=r.take k++[t3]++r.drop (k+z)) F17 (B8.trans B17) (R8.but B17) (by rw [e17,List.map_append,List.map_append]; rfl) (F16.ne hc5) (nfL (R8.but B16) hc5) (fun z=>?_) (by rw [List.length_append,List.length_append,List.length_take,List.length_drop,List.length_singleton]; omega) (fun t ht=>?_) rfl
        · have:=congrArg List.length z
          rw [List.length_append,List.length_append,List.length_singleton,List.length_nil] at this
          omega
        · rcases List.mem_append.mp ht with h | h
          · rcases List.mem_append.mp h with h | h
            · exact rwd t (List.mem_of_mem_take h)
            · rw [List.mem_singleton.mp h]; exact w3'
          · exact rwd t (List.mem_of_mem_drop h)
      refine iteFe (decide_eq_false (by omega)) ?_
      refine ⟨_,rfl,rfl,_,rfl,?_⟩
      by_cases w3:wy=3
      · refine iteTe (by subst w3; rfl) ?_
        refine ⟨_,rfl,_,rfl,_,rfl,?_⟩
        refine slL (lo:=none) (hi:=some (k:Int)) hq8 (ys:=(r.take k).map V.str) (by rw [cutV_hi,List.map_take]) fun c1 H9 hc1 e9 s9=>?_
        refine ⟨_,rfl,_,rfl,_,_,rfl,rfl,_,rfl,?_⟩
        refine slL (lo:=some ((k:Int)+1)) (hi:=none) (s9 _ _ hq8) (ys:=(r.drop (k+1)).map V.str) (by rw [show (k:Int)+1=((k+1:Nat):Int) by omega,cutV_lo,List.map_drop]) fun c2 H10 hc2 e10 s10=>?_
        refine catL (s10 _ _ e9) e10 (by rw [List.length_map,List.length_map,List.length_drop,List.length_take]; omega) fun c3 H11 hc3 e11 s11=>?_
        rw [← List.map_append] at e11
        have S10:=s9.trans s10
        have S11:=S10.trans s11
        refine ⟨_,.inl ⟨_,SqL.of e11,rfl⟩,?_⟩
        by_cases l1:r.take k++r.drop (k+1)=[]
        · refine iteFe (by rw [l1]; rfl) ?_
          refine nwL (by show 1≤64; decide) fun c4 H12 hc4 e12 s12=>?_
          have S12:=S11.trans s12
          refine ⟨_,rfl,_,rfl,?_⟩
          refine stL (R8.same S12).lst (ixN_at rfl (by rw [List.length_map]; exact hj)) ?_
          exact put (r':=[Str.ofString ""]) (F8.same S12) (B8.trans S12.but) (R8.same S12) e12 ((F8.same S11).ne hc4) (nfL (R8.same S11) hc4) (fun z=>by cases z) (by show 1≤m+3; omega) (fun t ht=>by rw [List.mem_singleton.mp ht]; exact odd_ok _ (by decide +kernel)) rfl
        · refine iteTe (by cases h:r.take k++r.drop (k+1) with | nil=>exact absurd h l1 | cons x xs=>rfl) ?_
          refine ⟨_,rfl,_,rfl,?_⟩
          refine stL (R8.same S11).lst (ixN_at rfl (by rw [List.length_map]; exact hj)) ?_
          refine put (r':=r.take k++r.drop (k+1)) (F8.same S11) (B8.trans S11.but) (R8.same S11) e11 ((F8.same S10).ne hc3) (nfL (R8.same S10) hc3) l1 (by rw [List.length_append,List.length_take,List.length_drop]; omega) (fun t ht=>?_) rfl
          rcases List.mem_append.mp ht with h | h
          · exact rwd t (List.mem_of_mem_take h)
          · exact rwd t (List.mem_of_mem_drop h)
      refine iteFe (decide_eq_false (fun z=>w3 (by have z:=V.int.inj z; omega))) ?_
      refine ⟨_,rfl,rfl,_,rfl,?_⟩
      by_cases w4:wy=4
      · refine iteTe (by subst w4; rfl) ?_
        refine ⟨_,rfl,?_⟩
        refine ⟨_,rfl,_,rfl,?_⟩
        refine ixL hq8 hat ?_
        refine nwL (by show 1≤64; decide) fun c1 H9 hc1 e9 s9=>?_
        refine ⟨_,rfl,?_⟩
        refine sp_draw_i (F8.same s9) (by decide) (by decide +kernel) fun d H10 d0 d1 F10 b10=>?_
        refine ⟨_,_,rfl,rfl,?_⟩
        have nc1:c1≠p:=F8.ne hc1
        refine repN (i:=1+d) (k:=(1+d).toNat) rfl (by omega) (b10.at nc1 e9) (by omega) fun c2 H11 hc2 e11 s11=>?_
        have B11:SameBut p H8 H11:=(s9.but.trans b10).trans s11.but
        refine catL (B11.at qp hq8) e11 (by rw [List.length_map,List.length_replicate]; omega) fun c3 H12 hc3 e12 s12=>?_
        have B12:=B11.trans s12.but
        have F11:=F10.same s11
        refine ⟨_,rfl,_,rfl,?_⟩
        refine stL (R8.but B12).lst (ixN_at rfl (by rw [List.length_map]; exact hj)) ?_
        refine put (r':=r++List.replicate (1+d).toNat (r.getD k "")) (F11.same s12) (B8.trans B12) (R8.but B12) (by rw [e12,List.map_append,List.map_replicate]) (F11.ne hc3) (nfL (R8.but B11) hc3) (fun z=>?_) (by rw [List.length_append,List.length_replicate]; omega) (fun t ht=>?_) rfl
        · have:=congrArg List.length z
          rw [List.length_append,List.length_nil] at this
          omega
        · rcases List.mem_append.mp ht with h | h
          · exact rwd t h
          · rw [(List.mem_replicate.mp h).2]; exact wdk
      refine iteFe (decide_eq_false (fun z=>w4 (by have z:=V.int.inj z; omega))) ?_
      refine ⟨_,rfl,rfl,_,rfl,?_⟩
      by_cases w5:wy=5
      · refine iteTe (by subst w5; rfl) ?_
        refine ⟨_,rfl,_,rfl,_,rfl,?_⟩
        refine slL (lo:=none) (hi:=some (j:Int)) R8.lst (ys:=refs (prs.take j)) (by rw [cutV_hi]; simp only [refs,List.map_take]) fun c1 H9 hc1 e9 s9=>?_
        refine ⟨_,rfl,_,rfl,_,_,rfl,rfl,_,rfl,?_⟩
        refine slL (lo:=some ((j:Int)+1)) (hi:=none) (s9 _ _ R8.lst) (ys:=refs (prs.drop (j+1))) (by rw [show (j:Int)+1=((j+1:Nat):Int) by omega,cutV_lo]; simp only [refs,List.map_drop]) fun c2 H10 hc2 e10 s10=>?_
        refine catL (s10 _ _ e9) e10 (by rw [List.length_map,List.length_map,List.length_drop,List.length_take]; omega) fun c3 H11 hc3 e11 s11=>?_
        have s810:=s9.trans s10
        have S11:=s810.trans s11
        refine ⟨c3,prs.take j++prs.drop (j+1),_,_,_,_,_,_,rfl,F8.same S11,B8.trans S11.but,R8.new (s810.free hc3) (F8.ne (s810.free hc3)) (by rw [e11]; simp only [refs,List.map_append]) S11 (fun e he=>?_),ok.sub (by rw [List.length_append,List.length_drop,List.length_take]; omega) (fun e he=>?_)⟩
        · rcases List.mem_append.mp he with h | h
          · exact List.mem_of_mem_take h
          · exact List.mem_of_mem_drop h
        · rcases List.mem_append.mp he with h | h
          · exact List.mem_of_mem_take h
          · exact List.mem_of_mem_drop h
      refine iteFe (decide_eq_false (fun z=>w5 (by have z:=V.int.inj z; omega))) ?_
      refine ⟨_,rfl,rfl,_,rfl,?_⟩
      by_cases w6:wy=6
      · refine iteTe (by subst w6; rfl) ?_
        refine ⟨_,rfl,tyL R8.lst,?_⟩
        refine ⟨_,rfl,?_⟩
        refine ⟨_,rfl,?_⟩
        refine rlL R8.lst ?_
        rw [List.length_map]
        refine ⟨_,_,rfl,rfl,?_⟩
        refine sp_draw_i (m:=((prs.length:Nat):Int)+1) F8 (by omega) (by have:=small (z:=prs.length+1) (by omega); rw [show ((prs.length+1:Nat):Int)=((prs.length:Nat):Int)+1 by omega] at this; exact this) fun d H9 d0 d1 F9 b9=>?_
        obtain ⟨i,rfl⟩:=Int.eq_ofNat_of_zero_le d0
        refine nwL (by show 2≤64; decide) fun c1 H10 hc1 e10 s10=>?_
        have B10:SameBut p H8 H10:=b9.trans s10.but
        have F10:=F9.same s10
        refine ⟨_,rfl,_,rfl,?_⟩
        refine slL (lo:=some 2) (hi:=none) (B10.at qp hq8) (ys:=(r.drop 2).map V.str) (by rw [show (2:Int)=((2:Nat):Int) from rfl,cutV_lo,List.map_drop]) fun c2 H11 hc2 e11 s11=>?_
        refine catL (s11 _ _ e10) e11 (by rw [List.length_map,List.length_drop]; show 2+_≤1000; omega) fun c3 H12 hc3 e12 s12=>?_
        have B11:=B10.trans s11.but
        have B12:=B11.trans s12.but
        have F11:=F10.same s11
        have F12:=F11.same s12
        have R12:=R8.but B12
        have e12:H12 c3=some (.lst ((Str.ofString "way" :: Str.ofString "qq" :: r.drop 2).map V.str)):=e12
        refine insL (i:=i) R12.lst (by rw [List.length_map]; omega) (by rw [List.length_map]; omega) fun H13 e13 b13=>?_
        refine ⟨LR,prs.take i++(Str.ofString "way" :: Str.ofString "qq" :: r.drop 2,c3)::prs.drop i,_,_,_,_,_,_,rfl,F12.but b13 nL nLL,SameBut.thru hL (B8.trans B12) b13,R12.put e12 (F11.ne hc3) (nfL (R8.but B11) hc3) (by rw [e13]; simp only [refs,List.map_append,List.map_cons,List.map_take,List.map_drop]) b13 (fun e he=>?_),⟨?_,fun r' hr'=>?_⟩⟩
        · rcases List.mem_append.mp he with h | h
          · exact .inl (List.mem_of_mem_take h)
          · rcases List.mem_cons.mp h with h | h
            · exact .inr h
            · exact .inl (List.mem_of_mem_drop h)
        · rw [List.length_map,List.length_append,List.length_cons,List.length_take,List.length_drop]; omega
        · obtain ⟨e,he,rfl⟩:=List.mem_map.mp hr'
          have old:e∈prs→e.1≠[]∧e.1.length≤m+3∧∀ t∈e.1,WdOk t:=fun h=>by
            obtain ⟨a1,a2,a3⟩:=ok.row e.1 (List.mem_map_of_mem (f:=fun e=>e.1) h)
            exact ⟨a1,by omega,a3⟩
          rcases List.mem_append.mp he with h | h
          · exact old (List.mem_of_mem_take h)
          · rcases List.mem_cons.mp h with h | h
            · subst h
              refine ⟨fun z=>(by cases z),by show (r.drop 2).length+1+1≤m+3; rw [List.length_drop]; omega,fun t ht=>?_⟩
              rcases List.mem_cons.mp ht with rfl | ht
              · exact odd_ok _ (by decide +kernel)
              · rcases List.mem_cons.mp ht with rfl | ht
                · exact odd_ok _ (by decide +kernel)
                · exact rwd t (List.mem_of_mem_drop ht)
            · exact old (List.mem_of_mem_drop h)
      refine iteFe (decide_eq_false (fun z=>w6 (by have z:=V.int.inj z; omega))) ?_
      refine ⟨_,rfl,rfl,_,rfl,?_⟩
      by_cases w7:wy=7
      · refine iteTe (by subst w7; rfl) ?_
        refine ⟨_,rfl,_,rfl,_,rfl,?_⟩
        refine slL (lo:=some (j:Int)) (hi:=none) R8.lst (ys:=refs (prs.drop j)) (by rw [cutV_lo]; simp only [refs,List.map_drop]) fun c1 H9 hc1 e9 s9=>?_
        refine ⟨_,rfl,_,rfl,_,rfl,?_⟩
        refine slL (lo:=none) (hi:=some (j:Int)) (s9 _ _ R8.lst) (ys:=refs (prs.take j)) (by rw [cutV_hi]; simp only [refs,List.map_take]) fun c2 H10 hc2 e10 s10=>?_
        refine catL (s10 _ _ e9) e10 (by rw [List.length_map,List.length_map,List.length_drop,List.length_take]; omega) fun c3 H11 hc3 e11 s11=>?_
        have s810:=s9.trans s10
        have S11:=s810.trans s11
        refine ⟨c3,prs.drop j++prs.take j,_,_,_,_,_,_,rfl,F8.same S11,B8.trans S11.but,R8.new (s810.free hc3) (F8.ne (s810.free hc3)) (by rw [e11]; simp only [refs,List.map_append]) S11 (fun e he=>?_),ok.sub (by rw [List.length_append,List.length_drop,List.length_take]; omega) (fun e he=>?_)⟩
        · rcases List.mem_append.mp he with h | h
          · exact List.mem_of_mem_drop h
          · exact List.mem_of_mem_take h
        · rcases List.mem_append.mp he with h | h
          · exact List.mem_of_mem_drop h
          · exact List.mem_of_mem_take h
      refine iteFe (decide_eq_false (fun z=>w7 (by have z:=V.int.inj z; omega))) ?_
      refine ⟨_,rfl,_,rfl,?_⟩
      refine slL (lo:=none) (hi:=some 2) hq8 (ys:=(r.take 2).map V.str) (by rw [show (2:Int)=((2:Nat):Int) from rfl,cutV_hi,List.map_take]) fun c1 H9 hc1 e9 s9=>?_
      refine nwL (by show 1≤64; decide) fun c2 H10 hc2 e10 s10=>?_
      refine ⟨_,rfl,?_⟩
      refine rlL (s10 _ _ (s9 _ _ hq8)) ?_
      rw [List.length_map]
      refine ⟨_,_,rfl,rfl,?_⟩
      refine repN (i:=(r.length:Int) - 2) (k:=r.length - 2) (by omega) (by omega) e10 (by omega) fun c3 H11 hc3 e11 s11=>?_
      refine catL (s11 _ _ (s10 _ _ e9)) e11 (by rw [List.length_map,List.length_take,List.length_replicate]; omega) fun c4 H12 hc4 e12 s12=>?_
      have S11:=(s9.trans s10).trans s11
      have S12:=S11.trans s12
      refine ⟨_,rfl,_,rfl,?_⟩
      refine stL (R8.same S12).lst (ixN_at rfl (by rw [List.length_map]; exact hj)) ?_
      refine put (r':=r.take 2++List.replicate (r.length - 2) (Str.ofString "0")) (F8.same S12) (B8.trans S12.but) (R8.same S12) (by rw [e12,List.map_append,List.map_replicate]) ((F8.same S11).ne hc4) (nfL (R8.same S11) hc4) (fun z=>?_) (by rw [List.length_append,List.length_take,List.length_replicate]; omega) (fun t ht=>?_) rfl
      · have:=congrArg List.length z
        rw [List.length_append,List.length_take,List.length_nil] at this
        omega
      · rcases List.mem_append.mp ht with h | h
        · exact rwd t (List.mem_of_mem_take h)
        · rw [(List.mem_replicate.mp h).2]
          exact odd_ok _ (by decide +kernel)
end
end Kw
set_option Elab.async false
set_option linter.all false
set_option maxRecDepth 100000
namespace Kw
open PySem L2 Mf Mt
structure ShowOk (d:PyData):Prop where
  sh:d.showable=true
  nd:d.hasDict=false
  dp:d.depth≤60
  ln:d.shown.length≤sizeLine
theorem fr_show {f:Fr} (h:Szf 1062 f):PyData.showable (frD f)=true:=by
  show (PyData.showable (.int f.1)&&(PyData.showable (.int f.2)&&true))=true
  rw [showInt h.1,showInt h.2]; rfl
theorem frs_show:∀ {fs:List Fr},(∀ f∈fs,Szf 1062 f)→PyData.showableAll (fs.map frD)=true
  | [],_=>rfl
  | f::fs,h=>by show (PyData.showable (frD f)&&PyData.showableAll (fs.map frD))=true; rw [fr_show (h f (by simp)),frs_show fun g hg=>h g (List.mem_cons_of_mem _ hg)]; rfl
theorem frs_dict:∀ fs:List Fr,PyData.hasDictAll (fs.map frD)=false
  | []=>rfl
  | f::fs=>by show (PyData.hasDict (frD f) || PyData.hasDictAll (fs.map frD))=false; rw [frs_dict fs]; rfl
theorem frs_depth:∀ fs:List Fr,PyData.depthAll (fs.map frD)≤3
  | []=>by decide
  | f::fs=>by
    have:=frs_depth fs
    have e:PyData.depth (frD f)≤3:=by simp [PyData.depth,PyData.depthAll]
    show max (PyData.depth (frD f)) (PyData.depthAll (fs.map frD))≤3
    omega
theorem frs_shW:∀ fs:List Fr,shWs (fs.map frD)=fs.length*3852
  | []=>rfl
  | f::fs=>by
    show shW (frD f)+2+shWs (fs.map frD)=(fs.length+1)*3852
    rw [frs_shW fs,show shW (frD f)=3850 from rfl]
    omega
theorem rrS {H:Hp} {Q:VK} {x:V} {d:PyData} (r:Rep H d x) (h:ShowOk d) (q:Q (.str d.shown) H):rRepr [x] H Q:=rrI r h.sh h.nd h.dp h.ln q
theorem join_lo:∀ {ts:List Str},(∀ t∈ts,Low t)→Low (Str.join bk ts)
  | [],_=>fun x hx=>absurd (show x∈([]:List Nat) from hx) (by simp)
  | [a],h=>h a (by simp)
  | a::b::r,h=>fun x hx=>by
    rw [joinB] at hx
    rcases List.mem_append.mp hx with hx | hx
    · exact h a (by simp) x hx
    · rcases List.mem_cons.mp hx with rfl | hx
      · decide
      · exact join_lo (ts:=b::r) (fun t ht=>h t (List.mem_cons_of_mem _ ht)) x hx
theorem tx_lo (n:Int):Low (tx n):=by
  intro x hx
  rcases Int.lt_or_le n 0 with hn | hn
  · obtain ⟨m,rfl⟩:∃ m:Nat,n=-((m+1:Nat):Int):=⟨(-n - 1).toNat,by omega⟩
    rw [tx_neg] at hx
    rcases List.mem_cons.mp hx with h | h
    · omega
    · have:=dg_all _ x h; omega
  · obtain ⟨m,rfl⟩:=Int.eq_ofNat_of_zero_le hn
    rw [tx_nat] at hx
    have:=dg_all _ x hx
    omega
theorem TT_lo (f:Fr):Low (TT f):=by
  unfold TT
  split
  · exact tx_lo _
  · intro x hx
    rw [app_cps,app_cps] at hx
    rcases List.mem_append.mp hx with hx | hx
    · rcases List.mem_append.mp hx with hx | hx
      · exact tx_lo _ x hx
      · have:x=47:=by simpa [sl] using hx
        omega
    · exact tx_lo _ x hx
theorem strs_show:∀ ts:List Str,PyData.showableAll (ts.map PyData.str)=true
  | []=>rfl
  | t::ts=>by show (true&&PyData.showableAll (ts.map PyData.str))=true; rw [strs_show ts]; rfl
theorem strs_depth:∀ ts:List Str,PyData.depthAll (ts.map PyData.str)=0
  | []=>rfl
  | t::ts=>by
    show max 0 (PyData.depthAll (ts.map PyData.str))=0
    rw [strs_depth ts]; rfl
theorem strs_dict:∀ ts:List Str,PyData.hasDictAll (ts.map PyData.str)=false
  | []=>rfl
  | t::ts=>by show (false || PyData.hasDictAll (ts.map PyData.str))=false; rw [strs_dict ts]; rfl
theorem repr_le {t:Str} (h:Low t):(reprText t).length≤10*t.length+2:=StrLaws.reprText_len t fun c hc=>Nat.lt_of_lt_of_le (h c hc) (by decide)
theorem strs_shW {B:Nat}:∀ {ts:List Str},(∀ t∈ts,Low t∧t.length≤B)→shWs (ts.map PyData.str)≤ts.length*(10*B+4)
  | [],_=>by simp [shWs]
  | t::ts,h=>by
    have h1:=strs_shW fun u hu=>h u (List.mem_cons_of_mem _ hu)
    have h2:=repr_le (h t (by simp)).1
    have h3:=(h t (by simp)).2
    show (reprText t).length+2+shWs (ts.map PyData.str)≤_
    rw [List.length_cons,Nat.add_mul]
    omega
theorem ws_show:∀ {ws:List (Str × List Fr)},(∀ w∈ws,∀ f∈w.2,Szf 1062 f)→PyData.showableAll (ws.map wD)=true
  | [],_=>rfl
  | w::ws,h=>by
    show ((true&&(PyData.showableAll (w.2.map frD)&&true))&&PyData.showableAll (ws.map wD))=true
    rw [ws_show fun v hv=>h v (List.mem_cons_of_mem _ hv),frs_show (h w (by simp))]; rfl
theorem ws_dict:∀ ws:List (Str × List Fr),PyData.hasDictAll (ws.map wD)=false
  | []=>rfl
  | w::ws=>by
    show ((false || (PyData.hasDictAll (w.2.map frD) || false)) || PyData.hasDictAll (ws.map wD))=false
    rw [ws_dict ws,frs_dict]; rfl
theorem ws_depth:∀ ws:List (Str × List Fr),PyData.depthAll (ws.map wD)≤6
  | []=>by decide
  | w::ws=>by
    have h1:=ws_depth ws
    have h2:=frs_depth w.2
    show max (max 0 (max (PyData.depthAll (w.2.map frD)+1) 0)+1) (PyData.depthAll (ws.map wD))≤6
    omega
theorem ws_shW8:∀ {ws:List (Str × List Fr)},(∀ w∈ws,Low w.1∧w.1.length≤20∧w.2.length≤4)→shWs (ws.map wD)≤ws.length*20000
  | [],_=>by simp [shWs]
  | w::ws,h=>by
    have h1:=ws_shW8 fun v hv=>h v (List.mem_cons_of_mem _ hv)
    obtain ⟨hp,h3,hl⟩:=h w (by simp)
    have h2:=repr_le (t:=w.1) hp
    have h4:=frs_shW w.2
    show ((reprText w.1).length+2+((shWs (w.2.map frD)+4)+2+0)+4)+2+shWs (ws.map wD)≤_
    rw [List.length_cons,Nat.add_mul,h4]
    omega
abbrev rowsOf (fs:List Str) (ws:List (Str × List Fr)):List (List Str):=wd0 fs::ws.map wdW
theorem lns_rows (fs:List Str) (ws:List (Str × List Fr)):lns fs ws=(rowsOf fs ws).map lnOf:=by
  unfold lns
  rw [List.map_cons,List.map_map]; rfl
theorem pool_all:pool.all wdB=true:=by decide +kernel
theorem pool_wd:∀ t∈pool,WdOk t:=fun t ht=>wdB_ok (List.all_eq_true.mp pool_all t ht)
theorem TT_wd {f:Fr} (h:ShF f):WdOk (TT f):=by
  refine ⟨TT_free f,by have:=TT_len h; omega,TT_lo f,fun g hg=>?_⟩
  rw [TT_read h] at hg
  injection hg with hg
  subst hg
  exact h.dn
theorem wFaces_wd:WdOk wFaces:=odd_ok _ (by decide +kernel)
theorem wWay_wd:WdOk wWay:=odd_ok _ (by decide +kernel)
theorem good_ok {fs:List Str} {ws:List (Str × List Fr)} (h:TrL fs ws):SpOk 5 6 (rowsOf fs ws):=by
  have f4:=h.f.four
  have w4:=h.w.four
  rw [List.length_map] at w4
  refine ⟨by show (ws.map wdW).length+1≤5; rw [List.length_map]; omega,fun r hr=>?_⟩
  rcases List.mem_cons.mp hr with rfl | hr
  · refine ⟨(fun z=>by cases z),by show fs.length+1≤6; omega,fun t ht=>?_⟩
    rcases List.mem_cons.mp ht with rfl | ht
    · exact wFaces_wd
    · exact pool_wd t (h.f.pool t ht)
  · obtain ⟨w,hw,rfl⟩:=List.mem_map.mp hr
    have hs:=h.sh w hw
    refine ⟨(fun z=>by cases z),by show (w.2.map TT).length+1+1≤6; rw [List.length_map,hs.len]; omega,fun t ht=>?_⟩
    rcases List.mem_cons.mp ht with rfl | ht
    · exact wWay_wd
    · rcases List.mem_cons.mp ht with rfl | ht
      · exact pool_wd _ (h.mem hw)
      · obtain ⟨f,hf,rfl⟩:=List.mem_map.mp ht
        exact TT_wd (hs.at hf)
theorem facF_le {r:List Str} {k:Nat} (h:facF r=some k):k≤r.length:=by
  unfold facF at h
  split at h
  · rename_i e
    cases h
    exact Nat.le_of_lt (firstF_some.mp e).1
  · split at h
    · cases h; exact Nat.le_refl _
    · cases h
theorem wayF_le {r:List Str} {F k:Nat} {ns:List Str} (h:wayF r F ns=some k):k≤r.length:=by
  unfold wayF at h
  split at h
  · rename_i e
    cases h
    exact Nat.le_of_lt (firstF_some.mp e).1
  · split at h
    · cases h; exact Nat.le_refl _
    · cases h
theorem fltU_le {r:List Str} {rest:List (List Str)} (ok:∀ x∈r::rest,RwOk x):∀ {i:Nat} {e:Nat × Nat},i≤rest.length→fltU r rest i=some e→e.1≤rest.length∧e.2≤40
  | 0,e,_,h=>by
    rw [fltU_zero] at h
    obtain ⟨k,hk,rfl⟩:=Option.map_eq_some_iff.mp h
    have:=facF_le hk
    have:=(ok r (List.mem_cons_self ..)).len
    exact ⟨Nat.zero_le _,by show k≤40; omega⟩
  | i+1,e,hi,h=>by
    cases hp:fltU r rest i with
    | some e' =>
      rw [fltU_some hp] at h
      cases h
      exact fltU_le ok (by omega) hp
    | none =>
      rw [fltU_step hp] at h
      obtain ⟨k,hk,rfl⟩:=Option.map_eq_some_iff.mp h
      have hk:wayF (rest.getD i []) (r.length - 1) ((rest.take i).map nm)=some k:=hk
      rw [List.getD_eq_getElem?_getD,List.getElem?_eq_getElem (show i<rest.length by omega)] at hk
      have:=wayF_le hk
      have:=(ok _ (List.mem_cons_of_mem _ (List.getElem_mem (show i<rest.length by omega)))).len
      exact ⟨by show i+1≤rest.length; omega,by show k≤40; exact Nat.le_trans (wayF_le hk) this⟩
theorem res_ok {rows:List (List Str)} (ok:∀ r∈rows,RwOk r) (hl:rows.length≤40) {fs:List Str} {ws:List (Str × List Fr)} (h:resF rows=.ok (fs,ws)):fs.length≤4∧(∀ t∈fs,Low t∧t.length≤20)∧ws.length≤39∧∀ w∈ws,Low w.1∧w.1.length≤20∧w.2.length≤4∧∀ f∈w.2,ShF f:=by
  cases rows with
  | nil=>cases h
  | cons r rest =>
    rw [resF_flt] at h
    cases hU:fltU r rest rest.length with
    | some e=>rw [hU] at h; cases h
    | none =>
      rw [hU] at h
      obtain ⟨hf,hb⟩:=fltU_none hU
      obtain ⟨F3,F5⟩:=facF_ok hf
      have h:(if rest.length<2 then Except.error (rest.length+1,0) else match sumF rest with | some i=>.error (i+1,2) | none=>.ok (r.drop 1,rest.map wayO))=(.ok (fs,ws):Except (Nat × Nat) (List Str × List (Str × List Fr))):=h
      by_cases h2:rest.length<2
      · rw [if_pos h2] at h; cases h
      rw [if_neg h2] at h
      cases hs:sumF rest with
      | some i=>rw [hs] at h; cases h
      | none =>
        rw [hs] at h
        cases h
        have okr:=ok r (List.mem_cons_self ..)
        rw [List.length_cons] at hl
        refine ⟨by rw [List.length_drop]; omega,fun t ht=>⟨okr.lo t (List.mem_of_mem_drop ht),okr.sz t (List.mem_of_mem_drop ht)⟩,by rw [List.length_map]; omega,fun w hw=>?_⟩
        obtain ⟨rj,hrj,rfl⟩:=List.mem_map.mp hw
        have okj:=ok rj (List.mem_cons_of_mem _ hrj)
        obtain ⟨j,hj⟩:=List.mem_iff_getElem?.mp hrj
        have h1:=hb j (List.getElem?_eq_some_iff.mp hj).1
        have h1:wayF (rest.getD j []) (r.length - 1) ((rest.take j).map nm)=none:=h1
        rw [List.getD_eq_getElem?_getD,hj] at h1
        have h1:wayF rj (r.length - 1) ((rest.take j).map nm)=none:=h1
        obtain ⟨w1,w2⟩:=wayF_ok h1 okj
        have l2:=(wayF_two h1 okj).1
        have hn:nm rj∈rj:=by
          show rj.getD 1 "" ∈ rj
          rw [List.getD_eq_getElem?_getD,List.getElem?_eq_getElem (show 1<rj.length by omega)]
          exact List.getElem_mem _
        exact ⟨okj.lo _ hn,okj.sz _ hn,by show (shs rj).length≤4; omega,w2⟩
theorem res_err {rows:List (List Str)} (ok:∀ r∈rows,RwOk r) (hl:rows.length≤40) {e:Nat × Nat} (h:resF rows=.error e):e.1≤40∧e.2≤40:=by
  cases rows with
  | nil=>cases h; exact ⟨Nat.zero_le _,Nat.zero_le _⟩
  | cons r rest =>
    rw [resF_flt] at h
    rw [List.length_cons] at hl
    cases hU:fltU r rest rest.length with
    | some e' =>
      rw [hU] at h
      cases h
      have:=fltU_le ok (Nat.le_refl _) hU
      exact ⟨by omega,this.2⟩
    | none =>
      rw [hU] at h
      have h:(if rest.length<2 then Except.error (rest.length+1,0) else match sumF rest with | some i=>.error (i+1,2) | none=>.ok (r.drop 1,rest.map wayO))=(.error e:Except (Nat × Nat) (List Str × List (Str × List Fr))):=h
      by_cases h2:rest.length<2
      · rw [if_pos h2] at h
        cases h
        exact ⟨by show rest.length+1≤40; omega,Nat.zero_le _⟩
      rw [if_neg h2] at h
      cases hs:sumF rest with
      | some i =>
        rw [hs] at h
        cases h
        have:=(firstF_some.mp hs).1
        exact ⟨by show i+1≤40; omega,by show 2≤40; decide⟩
      | none=>rw [hs] at h; cases h
theorem frS_show {f:Fr} (h:Szf 1062 f):ShowOk (frD f):=by
  have h1:=fr_show h
  refine ⟨h1,rfl,by simp [PyData.depth,PyData.depthAll],Nat.le_trans (shown_le _ h1 rfl) ?_⟩
  rw [show shW (frD f)=3850 from rfl,sizeLine_eq]
  decide
theorem szf1k {f:Fr} (h:f.1.natAbs≤1000∧f.2.natAbs≤1000):Szf 1062 f:=⟨Nat.lt_of_le_of_lt h.1 (Nat.lt_of_lt_of_le (show 1000<2^10 by decide) (Nat.pow_le_pow_right (by decide) (by decide))),Nat.lt_of_le_of_lt h.2 (Nat.lt_of_lt_of_le (show 1000<2^10 by decide) (Nat.pow_le_pow_right (by decide) (by decide)))⟩
theorem due_show {rows:List (List Str)} (ok:∀ r∈rows,RwOk r) (hl:rows.length≤40):ShowOk (dueD rows):=by
  unfold dueD
  cases hr:resF rows with
  | error e =>
    obtain ⟨l1,l2⟩:=res_err ok hl hr
    exact frS_show (f:=((e.1:Int),(e.2:Int))) (szf1k ⟨by show e.1≤1000; omega,by show e.2≤1000; omega⟩)
  | ok v =>
    obtain ⟨fs,ws⟩:=v
    obtain ⟨f4,ft,w4,ww⟩:=res_ok ok hl hr
    show ShowOk (trD fs ws)
    have h1:PyData.showable (trD fs ws)=true:=by
      show (PyData.showableAll (fs.map PyData.str)&&(PyData.showableAll (ws.map wD)&&true))=true
      rw [strs_show,ws_show fun w hw f hf=>szf1k ((ww w hw).2.2.2 f hf).sz]; rfl
    have h2:PyData.hasDict (trD fs ws)=false:=by
      show (PyData.hasDictAll (fs.map PyData.str) || (PyData.hasDictAll (ws.map wD) || false))=false
      rw [strs_dict,ws_dict]; rfl
    refine ⟨h1,h2,?_,Nat.le_trans (shown_le _ h1 h2) ?_⟩
    · have:=ws_depth ws
      show max (PyData.depthAll (fs.map PyData.str)+1) (max (PyData.depthAll (ws.map wD)+1) 0)+1≤60
      rw [strs_depth]; omega
    · have a1:=strs_shW (B:=20) ft
      have a2:=ws_shW8 fun w hw=>⟨(ww w hw).1,(ww w hw).2.1,(ww w hw).2.2.1⟩
      show (shWs (fs.map PyData.str)+4)+2+((shWs (ws.map wD)+4)+2+0)+4≤sizeLine
      rw [sizeLine_eq]; omega
theorem Shp.fr (f:Fr):Shp 2 (frD f):=Shp.tup fun d hd'=>by
  rcases List.mem_cons.mp hd' with rfl | hd'
  · exact Shp.int _
  · rw [List.mem_singleton.mp hd']; exact Shp.int _
theorem Shp.up {n m:Nat} {d:PyData} (h:Shp n d) (hm:n≤m):Shp m d:=⟨h.1,Nat.le_trans h.2 hm⟩
theorem due_shaped {rows:List (List Str)} (ok:∀ r∈rows,RwOk r) (hl:rows.length≤40):SeqAt.shaped (dueD rows)=true:=by
  unfold dueD
  cases hr:resF rows with
  | error e=>exact (Shp.fr ((e.1:Int),(e.2:Int))).ok
  | ok v =>
    obtain ⟨fs,ws⟩:=v
    obtain ⟨f4,ft,w4,ww⟩:=res_ok ok hl hr
    refine (Shp.tup (n:=5) (ds:=[.tuple (fs.map .str),.tuple (ws.map wD)]) fun d hd=>?_).ok
    rcases List.mem_cons.mp hd with rfl | hd
    · exact (Shp.tup (n:=1) fun e he=>by obtain ⟨t,ht,rfl⟩:=List.mem_map.mp he; exact Shp.str (ft t ht).1).up (by decide)
    · rw [List.mem_singleton.mp hd]
      refine Shp.tup (n:=4) fun e he=>?_
      obtain ⟨w,hw,rfl⟩:=List.mem_map.mp he
      refine Shp.tup (n:=3) fun g hg=>?_
      rcases List.mem_cons.mp hg with rfl | hg
      · exact (Shp.str (ww w hw).1).up (by decide)
      · rw [List.mem_singleton.mp hg]
        exact Shp.tup (n:=2) fun x hx=>by obtain ⟨f,_,rfl⟩:=List.mem_map.mp hx; exact Shp.fr f
theorem due_self {rows:List (List Str)} (ok:∀ r∈rows,RwOk r) (hl:rows.length≤40):PyData.eqv (dueD rows) (dueD rows)=true:=eqv_refl _ (due_show ok hl).nd
theorem ln_lo {r:List Str} (h:RwOk r):Low (lnOf r):=by
  unfold lnOf
  rw [join_is]
  exact join_lo fun t ht=>h.lo t ht
theorem lines_shaped {rows:List (List Str)} (ok:∀ r∈rows,RwOk r):SeqAt.shaped (.list ((rows.map lnOf).map PyData.str))=true:=(Shp.lst (n:=1) fun d hd=>by
  obtain ⟨t,ht,rfl⟩:=List.mem_map.mp hd
  obtain ⟨r,hr,rfl⟩:=List.mem_map.mp ht
  exact Shp.str (ln_lo (ok r hr))).ok
theorem lines_self (ts:List Str):PyData.eqv (.list (ts.map PyData.str)) (.list (ts.map PyData.str))=true:=eqv_refl _ (strs_dict ts)
theorem lines_nil (ts:List Str):PyData.eqv (.list (ts.map PyData.str)) (.list [])=ts.isEmpty:=by cases ts <;> rfl
end Kw
set_option Elab.async false
set_option linter.all false
set_option maxRecDepth 100000
namespace Kw
open PySem L2 Mf Mt
theorem due_0:(dueD []).shown=Str.ofString "(0, 0)" := by decide +kernel
theorem ln_0:lnOf [Str.ofString ""]=Str.ofString "" := by decide +kernel
theorem ok_1:∀ r∈[[Str.ofString ""]],RwOk r:=(show SpOk 1 1 [[Str.ofString ""]] from ⟨by decide,fun r hr=>by
  rw [List.mem_singleton.mp hr]
  exact ⟨(fun z=>by cases z),by decide,fun t ht=>by rw [List.mem_singleton.mp ht]; exact odd_ok _ (by decide +kernel)⟩⟩).ok (by decide)
theorem due_1:(dueD [[Str.ofString ""]]).shown=Str.ofString "(0, 0)" := by decide +kernel
theorem sp_spoilt_i {H:Hp} {Q:VK} {E:XK} {p L a:Addr} {rows:List (List Str)} {n m:Nat} (Fd:FeedAt H p L) (ha:H a=some (.lst ((rows.map lnOf).map V.str))) (na:a≠p) (hne:rows≠[]) (ok:SpOk n m rows) (hn:n≤10) (hm:m≤20) (q:∀ D rows' H',H D=none→FeedAt H' p L→SameBut p H H'→H' D=some (.lst ((rows'.map lnOf).map V.str))→SpOk (n+1) (m+3) rows'→Q (.ref D) H'):sp_spoilt [.ref p,.ref a] H Q E:=by
  unfold sp_spoilt; exact ⟨p,L,a,rows,n,m,rfl,Fd,ha,na,hne,ok,hn,hm,q⟩
section
variable {P:Program} {w:World} {K:PySem.W.Frag} {mg:Str→Option Value} {base:Heap} {c:Cl}
set_option maxHeartbeats 16000000 in
theorem ok_law {f:Addr} {fd:FuncData} (F:Fun K "law" "law" s_law f fd) (T:Txt K mg c)
    (F__law_feed:FnC CX0 P w K mg base 1 "_law_feed" ["_law_script"] (sp_feed K)) (F__law_draw:FnC CX0 P w K mg base 1 "_law_draw" ["_law_feed_here", "_law_many"] sp_draw) (F__law_trial:FnC CX0 P w K mg base 3 "_law_trial" ["_law_feed_here"] sp_trial)
    (F__law_lines:FnC CX0 P w K mg base 1 "_law_lines" ["_law_trial_here"] sp_lns) (F__law_spoilt:FnC CX0 P w K mg base 2 "_law_spoilt" ["_law_feed_here", "_law_lines_here"] sp_spoilt) (F__law_told:FnC CX0 P w K mg base 8 "_law_told" ["_law_lines_here"] sp_ltold) (F__law_due:FnC CX0 P w K mg base 4 "_law_due" ["_law_lines_here"] sp_ldue) :
    FnOk P w K mg base CX0 9 f fd ["_law_script"] (sp_law K):=by
  refine F.okw sc_law (fun vs H Q E h=>?_) (fun cdv A outer s H vs Q E hr h=>?_)
  · unfold sp_law at h
    obtain ⟨a,ns,rfl,_⟩:=h
    rfl
  · unfold sp_law at h
    obtain ⟨a,ns,rfl,hS,hl,k⟩:=h
    refine ⟨_,(wss_cons (ws_set (i:=1) sc_law.nd rfl (Or.inl rfl) (we_fn F__law_feed (hr.mono (by decide)) (wa_k (we_v 0) wa_nil)))
      (wss_cons (ws_set (i:=2) sc_law.nd rfl (Or.inl rfl) (we_fn F__law_lines (hr.mono (by decide)) (wa_k (we_fn F__law_trial (hr.mono (by decide)) (wa_k (we_v 1) wa_nil)) wa_nil)))
      (wss_cons (ws_for PassesOwn.never rfl (wi_range1 rfl T.b_range (wa_k (we_op op_add we_int (we_fn F__law_draw (hr.mono (by decide)) (wa_k (we_v 1) (wa_k we_int wa_nil)))) wa_nil)) (wg_name (i:=3) sc_law.nd rfl (Or.inl rfl)) (wss_cons (ws_set (i:=4) sc_law.nd rfl (Or.inl rfl) (we_fn F__law_spoilt (hr.mono (by decide)) (wa_k (we_v 1) (wa_k (we_v 2) wa_nil))))
      (wss_cons (ws_cut (ws_if (wt_mono (wt_w (ww_and (wt_cmp (op_neD hr.units) (we_v 4) (we_lst wa_nil) (nomark _)) (ww_and1 (wt_cmp op_eq (we_fn F__law_draw (hr.mono (by decide)) (wa_k (we_v 1) (wa_k we_int wa_nil))) we_int (nomark _)))))) (wss_one (ws_set (i:=4) sc_law.nd rfl (Or.inl rfl) (we_fn F__law_spoilt (hr.mono (by decide)) (wa_k (we_v 1) (wa_k (we_v 4) wa_nil))))) wss_nil))
      (wss_cons (ws_set (i:=5) sc_law.nd rfl (Or.inl rfl) (we_cT call_list_of (by rfl) T.b_list (by decide +kernel) (wa_k (we_v 4) wa_nil)))
      (wss_one (ws_if (wt_mono (wt_w (ww_or (wt_cmp op_ne (we_cB (cl_repr hr.gd hr.units) (by rfl) T.b_repr (by decide +kernel) (wa_k (we_fn F__law_told (hr.mono (by decide)) (wa_k (we_v 4) wa_nil)) wa_nil)) (we_cB (cl_repr hr.gd hr.units) (by rfl) T.b_repr (by decide +kernel) (wa_k (we_fn F__law_due (hr.mono (by decide)) (wa_k (we_v 4) wa_nil)) wa_nil)) (nomark _)) (ww_or1 (wt_cmp (op_neD hr.units) (we_v 4) (we_v 5) (nomark _)))))) (wss_one (ws_ret we_bl)) wss_nil))))))
      (wss_one (ws_ret (we_and (we_cmp op_eq (we_cB (cl_repr hr.gd hr.units) (by rfl) T.b_repr (by decide +kernel) (wa_k (we_fn F__law_told (hr.mono (by decide)) (wa_k (we_lst wa_nil) wa_nil)) wa_nil)) we_str (nomark _)) (we_and (we_cmp op_eq (we_cB (cl_repr hr.gd hr.units) (by rfl) T.b_repr (by decide +kernel) (wa_k (we_fn F__law_told (hr.mono (by decide)) (wa_k (we_lst (wa_k we_str wa_nil)) wa_nil)) wa_nil)) we_str (nomark _)) (we_one (we_cmp (op_eqD hr.units) (we_fn F__law_told (hr.mono (by decide)) (wa_k (we_v 2) wa_nil)) (we_fn F__law_due (hr.mono (by decide)) (wa_k (we_v 2) wa_nil)) (nomark _)))))))))),?_⟩
    refine ⟨_,rfl,?_⟩
    refine sp_feed_i hS hl fun p L H1 F1 s1 n1 nL1=>?_
    refine ⟨_,rfl,?_⟩
    refine sp_trial_i F1 fun v t o cF cW fs ws H2 F2 s2 r2 ok2=>?_
    have trl:=ok2.trl
    have gok:=good_ok trl
    refine sp_lns_i r2 trl fun G H3 s3 hG e3=>?_
    rw [lns_rows] at e3
    have F3:=F2.same s3
    have nG:G≠p:=F2.ne hG
    refine ⟨_,rfl,?_⟩
    refine sp_draw_i F3 (by decide) (by decide +kernel) fun x H4 x0 x1 F4 s4=>?_
    have e4:=s4.at nG e3
    refine ⟨_,_,rfl,rfl,_,rfl,by omega,by omega,?_⟩
    have shape:∀ {H5:Hp} {D:Addr} {rows:List (List Str)},H5 D=some (.lst ((rows.map lnOf).map V.str))→Rep H5 (.list ((rows.map lnOf).map PyData.str)) (.ref D):=fun {H5 D rows} h=>Rep.lst h (RepL_strs _)
    refine for_range (fun i σ H'=>∃ o3 o4 o5:Option V,σ=[some (.ref a),some (.ref p),some (.ref G),o3,o4,o5]∧FeedAt H' p L∧SameBut p H4 H') ⟨_,_,_,rfl,F4,(Same.refl _).but⟩ ?_ ?_
    · rintro i σ H5 hi ⟨o3,o4,o5,rfl,F5,b5⟩
      have e5:=b5.at nG e4
      refine ⟨_,rfl,_,rfl,?_⟩
      refine sp_spoilt_i F5 e5 nG (fun z=>by cases z) gok (by decide) (by decide) fun D1 rows1 H6 hD1 F6 b6 e6 ok1=>?_
      have nD1:D1≠p:=F5.ne hD1
      refine ⟨fun σ H'=>∃ (D:Addr) (rows:List (List Str)),σ=[some (.ref a),some (.ref p),some (.ref G),some (.int (0+(i:Int))),some (.ref D),o5]∧FeedAt H' p L∧SameBut p H4 H'∧D≠p∧H' D=some (.lst ((rows.map lnOf).map V.str))∧SpOk 7 12 rows,?_,?_⟩
      rotate_left
      · refine ⟨fun bb H'=>FeedAt H' p L∧SameBut p H6 H'∧(bb=true→rows1≠[]),?_,?_⟩
        · refine ⟨_,rfl,?_⟩
          refine nwL (by show 0≤64; decide) fun q7 H7 hq7 e7 s7=>?_
          refine reD (shape (s7 _ _ e6)) (Rep.lst e7 RepL.nil) (lines_shaped (ok1.ok (by decide))) rfl ?_
          rw [lines_nil]
          refine ⟨_,rfl,?_⟩
          cases rows1 with
          | nil=>exact iteF ⟨F6.same s7,s7.but,fun z=>by cases z⟩
          | cons r1 rs1 =>
            refine iteT ?_
            refine ⟨_,rfl,?_⟩
            refine sp_draw_i (F6.same s7) (by decide) (by decide +kernel) fun x8 H8 x80 x81 F8 b8=>?_
            refine ⟨rfl,_,rfl,F8,s7.but.trans b8,fun _ z=>by cases z⟩
        · rintro bb H7 ⟨F7,b7,hbb⟩
          cases bb with
          | false=>exact iteF ⟨D1,rows1,rfl,F7,(b5.trans b6).trans b7,nD1,b7.at nD1 e6,⟨by have:=ok1.len; omega,fun r hr=>by obtain ⟨a1,a2,a3⟩:=ok1.row r hr; exact ⟨a1,by omega,a3⟩⟩⟩
          | true =>
            refine iteT ?_
            refine ⟨_,rfl,_,rfl,?_⟩
            refine sp_spoilt_i F7 (b7.at nD1 e6) nD1 (hbb rfl) ok1 (by decide) (by decide) fun D2 rows2 H8 hD2 F8 b8 e8 ok2=>?_
            exact ⟨D2,rows2,rfl,F8,((b5.trans b6).trans b7).trans b8,F7.ne hD2,e8,ok2⟩
      · rintro σ H7 ⟨D,rows,rfl,F7,b7,nD,e7,okD⟩
        have okr:=okD.ok (by decide)
        have l40:rows.length≤40:=by have:=okD.len; omega
        have shw:=due_show okr l40
        refine ⟨_,rfl,D,_,rfl,.inl (SqL.of e7),fun l hl=>?_⟩
        have sl:=Same.upd (o:=.lst ((rows.map lnOf).map V.str)) hl
        have el:(upd H7 l (.lst ((rows.map lnOf).map V.str))) l=some (.lst ((rows.map lnOf).map V.str)):=upd_same
        generalize upd H7 l (.lst ((rows.map lnOf).map V.str))=H8 at sl el
        have e8:=sl _ _ e7
        refine ⟨fun bb H'=>Same H8 H'∧bb=false,?_,?_⟩
        · refine ⟨_,rfl,?_⟩
          refine sp_ltold_i e8 okr l40 fun v1 H9 s9 r9=>?_
          refine rrS r9 shw ?_
          refine ⟨_,rfl,?_⟩
          refine sp_ldue_i (s9 _ _ e8) okr l40 fun v2 H10 s10 r10=>?_
          refine rrS r10 shw ?_
          refine ⟨rfl,_,rfl,?_⟩
          refine iteFe (by simp) ?_
          refine ⟨_,rfl,_,rfl,?_⟩
          have S10:=s9.trans s10
          refine reD (shape (S10 _ _ e8)) (shape (S10 _ _ el)) (lines_shaped okr) (lines_shaped okr) ?_
          rw [lines_self]
          exact ⟨_,rfl,S10,rfl⟩
        · rintro bb H9 ⟨s9,rfl⟩
          exact iteF ⟨_,_,_,rfl,(F7.same sl).same s9,(b7.trans sl.but).trans s9.but⟩
    · rintro σ H5 ⟨o3,o4,o5,rfl,F5,b5⟩
      have e5:=b5.at nG e4
      refine nwL (by show 0≤64; decide) fun q6 H6 hq6 e6 s6=>?_
      have ok0:∀ r∈([]:List (List Str)),RwOk r:=fun r hr=>by cases hr
      refine sp_ltold_i (rows:=[]) e6 ok0 (by decide) fun v7 H7 s7 r7=>?_
      refine rrS r7 (due_show ok0 (by decide)) ?_
      refine ⟨rfl,_,rfl,?_⟩
      refine iteTe (decide_eq_true (congrArg V.str due_0)) ?_
      refine nwL (by show 1≤64; decide) fun q8 H8 hq8 e8 s8=>?_
      refine sp_ltold_i (rows:=[[Str.ofString ""]]) (by rw [e8]; exact congrArg (fun z=>some (HO.lst [V.str z])) ln_0.symm) ok_1 (by decide) fun v9 H9 s9 r9=>?_
      refine rrS r9 (due_show ok_1 (by decide)) ?_
      refine ⟨rfl,_,rfl,?_⟩
      refine iteTe (decide_eq_true (congrArg V.str due_1)) ?_
      have S9:=((s6.trans s7).trans s8).trans s9
      have okg:=gok.ok (by decide)
      have lg:(rowsOf fs ws).length≤40:=Nat.le_trans gok.len (by decide)
      refine ⟨_,rfl,?_⟩
      refine sp_ltold_i (S9 _ _ e5) okg lg fun v10 H10 s10 r10=>?_
      refine ⟨_,rfl,?_⟩
      refine sp_ldue_i (s10 _ _ (S9 _ _ e5)) okg lg fun v11 H11 s11 r11=>?_
      refine reD (r10.same s11) r11 (due_shaped okg lg) (due_shaped okg lg) ?_
      rw [due_self okg lg]
      exact k H11
end
end Kw
set_option Elab.async false
set_option linter.all false
set_option maxRecDepth 100000
namespace Kw
open PySem L2 Mf
theorem len1 {α:Type} {us:List α} (h:us.length=1):∃ a,us=[a]:=match us,h with | [a],_=>⟨a,rfl⟩
theorem len2 {α:Type} {us:List α} (h:us.length=2):∃ a b,us=[a,b]:=match us,h with | [a,b],_=>⟨a,b,rfl⟩
theorem len3 {α:Type} {us:List α} (h:us.length=3):∃ a b c,us=[a,b,c]:=match us,h with | [a,b,c],_=>⟨a,b,c,rfl⟩
theorem len4 {α:Type} {us:List α} (h:us.length=4):∃ a b c d,us=[a,b,c,d]:=match us,h with | [a,b,c,d],_=>⟨a,b,c,d,rfl⟩
theorem fnc (l:PySem.W.OpenLaw) (w:World) {K:PySem.W.Frag} {h:Heap} {mg:Str→Option Value} (X:K.In h) (G:h.Ns mainGlobals mg) (base:Heap) {n:Str} {f:Addr} {fd:FuncData} {L:Nat} {ps:List Str} {sp:Sp} (a:PySem.W.nsIn K mainGlobals n=some (some (.ref f))) (k:PySem.W.keepIn K (.ref f)=true) (b:Binds K fd ps []) (o:FnOk l.prog w K mg base CX0 L f fd ps sp):FnC CX0 l.prog w K mg base L n ps sp:=⟨_,_,o,PySem.W.mg_of X G a,k,b⟩
set_option maxHeartbeats 0 in
theorem all_mk {l:PySem.W.OpenLaw} {w:World} {K:PySem.W.Frag} {h:Heap} {mg:Str→Option Value} {fa:Addr} {c_EarlyError:Addr} {c_NoTrial:Addr} {c_NoFraction:Addr} {c_NoBack:Addr} {c_NoBounds:Addr} {c_NoLines:Addr} {c_NoLook:Addr} {c_NoOrder:Addr} {c_NoPaper:Addr} {c_NoRow:Addr} {c_NoRule:Addr} {c_ONE:Addr} {c_WORDS_OF_LINES:Addr} {tok_FIGURES:Tok} {tok_MOST_FIGURES:Tok} {tok_LETTERS:Tok} {tok_MOST_LETTERS:Tok} {tok_LEAST_NAMES:Tok} {tok_MOST_NAMES:Tok} {tok_FACES_WORD:Tok} {tok_WAY_WORD:Tok} {cd_NoFraction:ClassData} {ce_NoFraction:ClassData} {ce_EarlyError:ClassData} (X:K.In h) (G:h.Ns mainGlobals mg) (hfa:mg "law" = some (.ref fa))
    (u_EarlyError:PySem.W.nsIn K mainGlobals "EarlyError" = some (some (.ref c_EarlyError)))
    (u_NoTrial:PySem.W.nsIn K mainGlobals "NoTrial" = some (some (.ref c_NoTrial)))
    (u_NoFraction:PySem.W.nsIn K mainGlobals "NoFraction" = some (some (.ref c_NoFraction)))
    (u_NoBack:PySem.W.nsIn K mainGlobals "NoBack" = some (some (.ref c_NoBack)))
    (u_NoBounds:PySem.W.nsIn K mainGlobals "NoBounds" = some (some (.ref c_NoBounds)))
    (u_NoLines:PySem.W.nsIn K mainGlobals "NoLines" = some (some (.ref c_NoLines)))
    (u_NoLook:PySem.W.nsIn K mainGlobals "NoLook" = some (some (.ref c_NoLook)))
    (u_NoOrder:PySem.W.nsIn K mainGlobals "NoOrder" = some (some (.ref c_NoOrder)))
    (u_NoPaper:PySem.W.nsIn K mainGlobals "NoPaper" = some (some (.ref c_NoPaper)))
    (u_NoRow:PySem.W.nsIn K mainGlobals "NoRow" = some (some (.ref c_NoRow)))
    (u_NoRule:PySem.W.nsIn K mainGlobals "NoRule" = some (some (.ref c_NoRule)))
    (u_ONE:PySem.W.nsIn K mainGlobals "ONE" = some (some (.ref c_ONE)))
    (u_WORDS_OF_LINES:PySem.W.nsIn K mainGlobals "WORDS_OF_LINES" = some (some (.ref c_WORDS_OF_LINES)))
    (u_FIGURES:PySem.W.nsIn K mainGlobals "FIGURES" = some (some (.str (Str.ofString "0123456789") tok_FIGURES)))
    (u_MOST_FIGURES:PySem.W.nsIn K mainGlobals "MOST_FIGURES" = some (some (.int 4000 tok_MOST_FIGURES)))
    (u_LETTERS:PySem.W.nsIn K mainGlobals "LETTERS" = some (some (.str letters tok_LETTERS)))
    (u_MOST_LETTERS:PySem.W.nsIn K mainGlobals "MOST_LETTERS" = some (some (.int 8 tok_MOST_LETTERS)))
    (u_LEAST_NAMES:PySem.W.nsIn K mainGlobals "LEAST_NAMES" = some (some (.int 2 tok_LEAST_NAMES)))
    (u_MOST_NAMES:PySem.W.nsIn K mainGlobals "MOST_NAMES" = some (some (.int 4 tok_MOST_NAMES)))
    (u_FACES_WORD:PySem.W.nsIn K mainGlobals "FACES_WORD" = some (some (.str (Str.ofString "faces") tok_FACES_WORD)))
    (u_WAY_WORD:PySem.W.nsIn K mainGlobals "WAY_WORD" = some (some (.str (Str.ofString "way") tok_WAY_WORD)))
    (x_NoFraction:PySem.W.excIn K c_NoFraction mroVE "ValueError.__new__" = true)
    (ga_NoFraction:PySem.W.findIn K (.ref c_NoFraction) "__getattribute__" = some (some (.builtin "BaseException.__getattribute__")))
    (gt_NoFraction:PySem.W.findIn K (.ref c_NoFraction) "__getattr__" = some none)
    (su_NoFraction:PySem.W.subIn K (.ref c_NoFraction) (.type "BaseException")=some true)
    (cl_NoFraction:PySem.W.clsIn K c_NoFraction=some cd_NoFraction)
    (kc_NoFraction:PySem.W.findIn K (.ref c_NoFraction) "__class__" = some (some (.builtin "object.__class__")))
    (kg_NoFraction:PySem.W.specialIn K (.builtin "object.__class__") "__get__" = some (some (.builtin "getset_descriptor.__get__")))
    (kt_NoFraction:PySem.W.takesIn K (.builtin "object.__class__")=some true)
    (ob_NoFraction:PySem.W.mroIn K c_NoFraction (.type "object")=some true)
    (ty_NoFraction:PySem.W.typeIn K (.ref c_NoFraction)=some (.type "type"))
    (cm_NoFraction:PySem.W.clsIn K c_NoFraction=some ce_NoFraction)
    (sb_NoFraction:PySem.W.subIn K (.ref c_NoFraction) (.type "BaseException")=some true)
    (ty_EarlyError:PySem.W.typeIn K (.ref c_EarlyError)=some (.type "type"))
    (cm_EarlyError:PySem.W.clsIn K c_EarlyError=some ce_EarlyError)
    (sb_EarlyError:PySem.W.subIn K (.ref c_EarlyError) (.type "BaseException")=some true)
    (t0:baseAll K c_EarlyError=true)
    (t1:setAll K c_NoTrial ["line", "word"]=true)
    (t2:excAll K c_NoTrial=true)
    (y0:PySem.W.subIn K (.ref c_NoFraction) (.ref c_NoFraction)=some true)
    (y1:PySem.W.subIn K (.ref c_NoTrial) (.ref c_EarlyError)=some true)
    (y2:PySem.W.kitAny K (.ref c_NoTrial) [.ref c_NoBack,.ref c_NoBounds,.ref c_NoFraction,.ref c_NoLines,.ref c_NoLook,.ref c_NoOrder,.ref c_NoPaper,.ref c_NoRow,.ref c_NoRule]=some false)
    (y3:PySem.W.kitOne K (.ref c_NoTrial) (.ref c_NoTrial)=some true)
    (y4:PySem.W.kitOne K (.ref c_NoTrial) (.type "ValueError")=some true)
    (o_ONE:intsIn K c_ONE [1,1]=true)
    (o_WORDS:strsIn K c_WORDS_OF_LINES wordsL=true)
    (y5:PySem.W.nsOkIn K cStatics=true)
    (y6:PySem.W.nsIn K cStatics "sys.int_max_str_digits" = some none)
    (a0:PySem.W.nsIn K mainGlobals "_law_feed" = some (some (.ref f0))) (l0:K.lookup f0=some ⟨oc0,od0,.func (PySem.W.fnOf "_law_feed" "_law_feed" (defArgs s__law_feed) (defBody s__law_feed) (defScope s__law_feed) .none kV0 dc0 pm0 an0 cd0 ct0),sl0⟩) (c0:PySem.W.codeIn K cd0 "_law_feed" = true) (k0:PySem.W.keepIn K (.ref f0)=true)
    (a1:PySem.W.nsIn K mainGlobals "_law_draw" = some (some (.ref f1))) (l1:K.lookup f1=some ⟨oc1,od1,.func (PySem.W.fnOf "_law_draw" "_law_draw" (defArgs s__law_draw) (defBody s__law_draw) (defScope s__law_draw) .none kV1 dc1 pm1 an1 cd1 ct1),sl1⟩) (c1:PySem.W.codeIn K cd1 "_law_draw" = true) (k1:PySem.W.keepIn K (.ref f1)=true)
    (a2:PySem.W.nsIn K mainGlobals "is_whole" = some (some (.ref f2))) (l2:K.lookup f2=some ⟨oc2,od2,.func (PySem.W.fnOf "is_whole" "is_whole" (defArgs s_is_whole) (defBody s_is_whole) (defScope s_is_whole) .none kV2 dc2 pm2 an2 cd2 ct2),sl2⟩) (c2:PySem.W.codeIn K cd2 "is_whole" = true) (k2:PySem.W.keepIn K (.ref f2)=true)
    (a3:PySem.W.nsIn K mainGlobals "common_divisor" = some (some (.ref f3))) (l3:K.lookup f3=some ⟨oc3,od3,.func (PySem.W.fnOf "common_divisor" "common_divisor" (defArgs s_common_divisor) (defBody s_common_divisor) (defScope s_common_divisor) .none kV3 dc3 pm3 an3 cd3 ct3),sl3⟩) (c3:PySem.W.codeIn K cd3 "common_divisor" = true) (k3:PySem.W.keepIn K (.ref f3)=true)
    (a4:PySem.W.nsIn K mainGlobals "are_figures" = some (some (.ref f4))) (l4:K.lookup f4=some ⟨oc4,od4,.func (PySem.W.fnOf "are_figures" "are_figures" (defArgs s_are_figures) (defBody s_are_figures) (defScope s_are_figures) .none kV4 dc4 pm4 an4 cd4 ct4),sl4⟩) (c4:PySem.W.codeIn K cd4 "are_figures" = true) (k4:PySem.W.keepIn K (.ref f4)=true)
    (a5:PySem.W.nsIn K mainGlobals "read_whole" = some (some (.ref f5))) (l5:K.lookup f5=some ⟨oc5,od5,.func (PySem.W.fnOf "read_whole" "read_whole" (defArgs s_read_whole) (defBody s_read_whole) (defScope s_read_whole) .none kV5 dc5 pm5 an5 cd5 ct5),sl5⟩) (c5:PySem.W.codeIn K cd5 "read_whole" = true) (k5:PySem.W.keepIn K (.ref f5)=true)
    (a6:PySem.W.nsIn K mainGlobals "is_fraction" = some (some (.ref f6))) (l6:K.lookup f6=some ⟨oc6,od6,.func (PySem.W.fnOf "is_fraction" "is_fraction" (defArgs s_is_fraction) (defBody s_is_fraction) (defScope s_is_fraction) .none kV6 dc6 pm6 an6 cd6 ct6),sl6⟩) (c6:PySem.W.codeIn K cd6 "is_fraction" = true) (k6:PySem.W.keepIn K (.ref f6)=true)
    (a7:PySem.W.nsIn K mainGlobals "is_share" = some (some (.ref f7))) (l7:K.lookup f7=some ⟨oc7,od7,.func (PySem.W.fnOf "is_share" "is_share" (defArgs s_is_share) (defBody s_is_share) (defScope s_is_share) .none kV7 dc7 pm7 an7 cd7 ct7),sl7⟩) (c7:PySem.W.codeIn K cd7 "is_share" = true) (k7:PySem.W.keepIn K (.ref f7)=true)
    (a8:PySem.W.nsIn K mainGlobals "plus" = some (some (.ref f8))) (l8:K.lookup f8=some ⟨oc8,od8,.func (PySem.W.fnOf "plus" "plus" (defArgs s_plus) (defBody s_plus) (defScope s_plus) .none kV8 dc8 pm8 an8 cd8 ct8),sl8⟩) (c8:PySem.W.codeIn K cd8 "plus" = true) (k8:PySem.W.keepIn K (.ref f8)=true)
    (a9:PySem.W.nsIn K mainGlobals "total" = some (some (.ref f9))) (l9:K.lookup f9=some ⟨oc9,od9,.func (PySem.W.fnOf "total" "total" (defArgs s_total) (defBody s_total) (defScope s_total) .none kV9 dc9 pm9 an9 cd9 ct9),sl9⟩) (c9:PySem.W.codeIn K cd9 "total" = true) (k9:PySem.W.keepIn K (.ref f9)=true)
    (a10:PySem.W.nsIn K mainGlobals "read_fraction" = some (some (.ref f10))) (l10:K.lookup f10=some ⟨oc10,od10,.func (PySem.W.fnOf "read_fraction" "read_fraction" (defArgs s_read_fraction) (defBody s_read_fraction) (defScope s_read_fraction) .none kV10 dc10 pm10 an10 cd10 ct10),sl10⟩) (c10:PySem.W.codeIn K cd10 "read_fraction" = true) (k10:PySem.W.keepIn K (.ref f10)=true)
    (a11:PySem.W.nsIn K mainGlobals "is_tuple_of" = some (some (.ref f11))) (l11:K.lookup f11=some ⟨oc11,od11,.func (PySem.W.fnOf "is_tuple_of" "is_tuple_of" (defArgs s_is_tuple_of) (defBody s_is_tuple_of) (defScope s_is_tuple_of) .none kV11 dc11 pm11 an11 cd11 ct11),sl11⟩) (c11:PySem.W.codeIn K cd11 "is_tuple_of" = true) (k11:PySem.W.keepIn K (.ref f11)=true)
    (a12:PySem.W.nsIn K mainGlobals "are_shares" = some (some (.ref f12))) (l12:K.lookup f12=some ⟨oc12,od12,.func (PySem.W.fnOf "are_shares" "are_shares" (defArgs s_are_shares) (defBody s_are_shares) (defScope s_are_shares) .none kV12 dc12 pm12 an12 cd12 ct12),sl12⟩) (c12:PySem.W.codeIn K cd12 "are_shares" = true) (k12:PySem.W.keepIn K (.ref f12)=true)
    (a13:PySem.W.nsIn K mainGlobals "are_parts" = some (some (.ref f13))) (l13:K.lookup f13=some ⟨oc13,od13,.func (PySem.W.fnOf "are_parts" "are_parts" (defArgs s_are_parts) (defBody s_are_parts) (defScope s_are_parts) .none kV13 dc13 pm13 an13 cd13 ct13),sl13⟩) (c13:PySem.W.codeIn K cd13 "are_parts" = true) (k13:PySem.W.keepIn K (.ref f13)=true)
    (a14:PySem.W.nsIn K mainGlobals "is_name" = some (some (.ref f14))) (l14:K.lookup f14=some ⟨oc14,od14,.func (PySem.W.fnOf "is_name" "is_name" (defArgs s_is_name) (defBody s_is_name) (defScope s_is_name) .none kV14 dc14 pm14 an14 cd14 ct14),sl14⟩) (c14:PySem.W.codeIn K cd14 "is_name" = true) (k14:PySem.W.keepIn K (.ref f14)=true)
    (a15:PySem.W.findIn K (.ref c_NoTrial) "__init__" = some (some (.ref f15))) (l15:K.lookup f15=some ⟨oc15,od15,.func (PySem.W.fnOf "__init__" "NoTrial.__init__" (defArgs s_NoTrial___init__) (defBody s_NoTrial___init__) (defScope s_NoTrial___init__) .none kV15 dc15 pm15 an15 cd15 ct15),sl15⟩) (c15:PySem.W.codeIn K cd15 "NoTrial.__init__" = true) (k15:PySem.W.keepIn K (.ref f15)=true) (fn15:PySem.W.isFn K (.ref f15)=true) (kp15:PySem.W.keepIn K (.ref c_NoTrial)=true)
    (a16:PySem.W.nsIn K mainGlobals "stands_among_faces" = some (some (.ref f16))) (l16:K.lookup f16=some ⟨oc16,od16,.func (PySem.W.fnOf "stands_among_faces" "stands_among_faces" (defArgs s_stands_among_faces) (defBody s_stands_among_faces) (defScope s_stands_among_faces) .none kV16 dc16 pm16 an16 cd16 ct16),sl16⟩) (c16:PySem.W.codeIn K cd16 "stands_among_faces" = true) (k16:PySem.W.keepIn K (.ref f16)=true)
    (a17:PySem.W.nsIn K mainGlobals "writes_share" = some (some (.ref f17))) (l17:K.lookup f17=some ⟨oc17,od17,.func (PySem.W.fnOf "writes_share" "writes_share" (defArgs s_writes_share) (defBody s_writes_share) (defScope s_writes_share) .none kV17 dc17 pm17 an17 cd17 ct17),sl17⟩) (c17:PySem.W.codeIn K cd17 "writes_share" = true) (k17:PySem.W.keepIn K (.ref f17)=true)
    (a18:PySem.W.nsIn K mainGlobals "stands_in_way" = some (some (.ref f18))) (l18:K.lookup f18=some ⟨oc18,od18,.func (PySem.W.fnOf "stands_in_way" "stands_in_way" (defArgs s_stands_in_way) (defBody s_stands_in_way) (defScope s_stands_in_way) .none kV18 dc18 pm18 an18 cd18 ct18),sl18⟩) (c18:PySem.W.codeIn K cd18 "stands_in_way" = true) (k18:PySem.W.keepIn K (.ref f18)=true)
    (a19:PySem.W.nsIn K mainGlobals "read_faces" = some (some (.ref f19))) (l19:K.lookup f19=some ⟨oc19,od19,.func (PySem.W.fnOf "read_faces" "read_faces" (defArgs s_read_faces) (defBody s_read_faces) (defScope s_read_faces) .none kV19 dc19 pm19 an19 cd19 ct19),sl19⟩) (c19:PySem.W.codeIn K cd19 "read_faces" = true) (k19:PySem.W.keepIn K (.ref f19)=true)
    (a20:PySem.W.nsIn K mainGlobals "read_way" = some (some (.ref f20))) (l20:K.lookup f20=some ⟨oc20,od20,.func (PySem.W.fnOf "read_way" "read_way" (defArgs s_read_way) (defBody s_read_way) (defScope s_read_way) .none kV20 dc20 pm20 an20 cd20 ct20),sl20⟩) (c20:PySem.W.codeIn K cd20 "read_way" = true) (k20:PySem.W.keepIn K (.ref f20)=true)
    (a21:PySem.W.nsIn K mainGlobals "read_trial" = some (some (.ref f21))) (l21:K.lookup f21=some ⟨oc21,od21,.func (PySem.W.fnOf "read_trial" "read_trial" (defArgs s_read_trial) (defBody s_read_trial) (defScope s_read_trial) .none kV21 dc21 pm21 an21 cd21 ct21),sl21⟩) (c21:PySem.W.codeIn K cd21 "read_trial" = true) (k21:PySem.W.keepIn K (.ref f21)=true)
    (a22:PySem.W.nsIn K mainGlobals "_law_low" = some (some (.ref f22))) (l22:K.lookup f22=some ⟨oc22,od22,.func (PySem.W.fnOf "_law_low" "_law_low" (defArgs s__law_low) (defBody s__law_low) (defScope s__law_low) .none kV22 dc22 pm22 an22 cd22 ct22),sl22⟩) (c22:PySem.W.codeIn K cd22 "_law_low" = true) (k22:PySem.W.keepIn K (.ref f22)=true)
    (a23:PySem.W.nsIn K mainGlobals "_law_shares" = some (some (.ref f23))) (l23:K.lookup f23=some ⟨oc23,od23,.func (PySem.W.fnOf "_law_shares" "_law_shares" (defArgs s__law_shares) (defBody s__law_shares) (defScope s__law_shares) .none kV23 dc23 pm23 an23 cd23 ct23),sl23⟩) (c23:PySem.W.codeIn K cd23 "_law_shares" = true) (k23:PySem.W.keepIn K (.ref f23)=true)
    (a24:PySem.W.nsIn K mainGlobals "_law_trial" = some (some (.ref f24))) (l24:K.lookup f24=some ⟨oc24,od24,.func (PySem.W.fnOf "_law_trial" "_law_trial" (defArgs s__law_trial) (defBody s__law_trial) (defScope s__law_trial) .none kV24 dc24 pm24 an24 cd24 ct24),sl24⟩) (c24:PySem.W.codeIn K cd24 "_law_trial" = true) (k24:PySem.W.keepIn K (.ref f24)=true)
    (a25:PySem.W.nsIn K mainGlobals "_law_is_name" = some (some (.ref f25))) (l25:K.lookup f25=some ⟨oc25,od25,.func (PySem.W.fnOf "_law_is_name" "_law_is_name" (defArgs s__law_is_name) (defBody s__law_is_name) (defScope s__law_is_name) .none kV25 dc25 pm25 an25 cd25 ct25),sl25⟩) (c25:PySem.W.codeIn K cd25 "_law_is_name" = true) (k25:PySem.W.keepIn K (.ref f25)=true)
    (a26:PySem.W.nsIn K mainGlobals "_law_lines" = some (some (.ref f26))) (l26:K.lookup f26=some ⟨oc26,od26,.func (PySem.W.fnOf "_law_lines" "_law_lines" (defArgs s__law_lines) (defBody s__law_lines) (defScope s__law_lines) .none kV26 dc26 pm26 an26 cd26 ct26),sl26⟩) (c26:PySem.W.codeIn K cd26 "_law_lines" = true) (k26:PySem.W.keepIn K (.ref f26)=true)
    (a27:PySem.W.nsIn K mainGlobals "_law_share" = some (some (.ref f27))) (l27:K.lookup f27=some ⟨oc27,od27,.func (PySem.W.fnOf "_law_share" "_law_share" (defArgs s__law_share) (defBody s__law_share) (defScope s__law_share) .none kV27 dc27 pm27 an27 cd27 ct27),sl27⟩) (c27:PySem.W.codeIn K cd27 "_law_share" = true) (k27:PySem.W.keepIn K (.ref f27)=true)
    (a28:PySem.W.nsIn K mainGlobals "_law_faces" = some (some (.ref f28))) (l28:K.lookup f28=some ⟨oc28,od28,.func (PySem.W.fnOf "_law_faces" "_law_faces" (defArgs s__law_faces) (defBody s__law_faces) (defScope s__law_faces) .none kV28 dc28 pm28 an28 cd28 ct28),sl28⟩) (c28:PySem.W.codeIn K cd28 "_law_faces" = true) (k28:PySem.W.keepIn K (.ref f28)=true)
    (a29:PySem.W.nsIn K mainGlobals "_law_way" = some (some (.ref f29))) (l29:K.lookup f29=some ⟨oc29,od29,.func (PySem.W.fnOf "_law_way" "_law_way" (defArgs s__law_way) (defBody s__law_way) (defScope s__law_way) .none kV29 dc29 pm29 an29 cd29 ct29),sl29⟩) (c29:PySem.W.codeIn K cd29 "_law_way" = true) (k29:PySem.W.keepIn K (.ref f29)=true)
    (a30:PySem.W.nsIn K mainGlobals "_law_due" = some (some (.ref f30))) (l30:K.lookup f30=some ⟨oc30,od30,.func (PySem.W.fnOf "_law_due" "_law_due" (defArgs s__law_due) (defBody s__law_due) (defScope s__law_due) .none kV30 dc30 pm30 an30 cd30 ct30),sl30⟩) (c30:PySem.W.codeIn K cd30 "_law_due" = true) (k30:PySem.W.keepIn K (.ref f30)=true)
    (a31:PySem.W.nsIn K mainGlobals "_law_told" = some (some (.ref f31))) (l31:K.lookup f31=some ⟨oc31,od31,.func (PySem.W.fnOf "_law_told" "_law_told" (defArgs s__law_told) (defBody s__law_told) (defScope s__law_told) .none kV31 dc31 pm31 an31 cd31 ct31),sl31⟩) (c31:PySem.W.codeIn K cd31 "_law_told" = true) (k31:PySem.W.keepIn K (.ref f31)=true)
    (a32:PySem.W.nsIn K mainGlobals "_law_spoilt" = some (some (.ref f32))) (l32:K.lookup f32=some ⟨oc32,od32,.func (PySem.W.fnOf "_law_spoilt" "_law_spoilt" (defArgs s__law_spoilt) (defBody s__law_spoilt) (defScope s__law_spoilt) .none kV32 dc32 pm32 an32 cd32 ct32),sl32⟩) (c32:PySem.W.codeIn K cd32 "_law_spoilt" = true) (k32:PySem.W.keepIn K (.ref f32)=true)
    (a33:PySem.W.nsIn K mainGlobals "law" = some (some (.ref f33))) (l33:K.lookup f33=some ⟨oc33,od33,.func (PySem.W.fnOf "law" "law" (defArgs s_law) (defBody s_law) (defScope s_law) .none kV33 dc33 pm33 an33 cd33 ct33),sl33⟩) (c33:PySem.W.codeIn K cd33 "law" = true) (k33:PySem.W.keepIn K (.ref f33)=true) (z0:PySem.W.nsIn K mainGlobals "list" = some none) (z1:PySem.W.nsIn K mainGlobals "len" = some none) (z2:PySem.W.nsIn K mainGlobals "abs" = some none) (z3:PySem.W.nsIn K mainGlobals "isinstance" = some none) (z4:PySem.W.nsIn K mainGlobals "repr" = some none) (z5:PySem.W.nsIn K mainGlobals "range" = some none) (z6:PySem.W.nsIn K mainGlobals "int" = some none) (z7:PySem.W.nsIn K mainGlobals "bool" = some none) (z8:PySem.W.nsIn K mainGlobals "tuple" = some none) (z9:PySem.W.nsIn K mainGlobals "str" = some none) (z10:PySem.W.nsIn K mainGlobals "all" = some none) (z11:PySem.W.nsIn K mainGlobals "sum" = some none) (z12:PySem.W.nsIn K mainGlobals "enumerate" = some none) (z13:PySem.W.nsIn K mainGlobals "ValueError" = some none) :
    ∃ fd:FuncData,(∀ (s:Shared) (v:Value),BindsTo s fd ⟨[v],[]⟩ [("_law_script",v)])∧∀ base:Heap,K.In base→base.Ns mainGlobals mg→FnOk l.prog w K mg base CX0 9 fa fd ["_law_script"] (sp_law K):=by
  have e:=hfa.symm.trans (PySem.W.mg_of X G a33)
  cases e
  generalize hcl:(⟨c_EarlyError,c_NoTrial,c_NoFraction,c_NoBack,c_NoBounds,c_NoLines,c_NoLook,c_NoOrder,c_NoPaper,c_NoRow,c_NoRule,c_ONE,c_WORDS_OF_LINES,tok_FIGURES,tok_MOST_FIGURES,tok_LETTERS,tok_MOST_LETTERS,tok_LEAST_NAMES,tok_MOST_NAMES,tok_FACES_WORD,tok_WAY_WORD⟩:Cl)=c
  have T:Txt K mg c:=by rw [← hcl]; exact ⟨PySem.W.mg_none_of X G z0,PySem.W.mg_none_of X G z1,PySem.W.mg_none_of X G z2,PySem.W.mg_none_of X G z3,PySem.W.mg_none_of X G z4,PySem.W.mg_none_of X G z5,PySem.W.mg_none_of X G z6,PySem.W.mg_none_of X G z7,PySem.W.mg_none_of X G z8,PySem.W.mg_none_of X G z9,PySem.W.mg_none_of X G z10,PySem.W.mg_none_of X G z11,PySem.W.mg_none_of X G z12,PySem.W.mg_none_of X G z13,PySem.W.mg_of X G u_EarlyError,PySem.W.mg_of X G u_NoTrial,PySem.W.mg_of X G u_NoFraction,PySem.W.mg_of X G u_NoBack,PySem.W.mg_of X G u_NoBounds,PySem.W.mg_of X G u_NoLines,PySem.W.mg_of X G u_NoLook,PySem.W.mg_of X G u_NoOrder,PySem.W.mg_of X G u_NoPaper,PySem.W.mg_of X G u_NoRow,PySem.W.mg_of X G u_NoRule,PySem.W.mg_of X G u_ONE,PySem.W.mg_of X G u_WORDS_OF_LINES,PySem.W.mg_of X G u_FIGURES,PySem.W.mg_of X G u_MOST_FIGURES,PySem.W.mg_of X G u_LETTERS,PySem.W.mg_of X G u_MOST_LETTERS,PySem.W.mg_of X G u_LEAST_NAMES,PySem.W.mg_of X G u_MOST_NAMES,PySem.W.mg_of X G u_FACES_WORD,PySem.W.mg_of X G u_WAY_WORD,x_NoFraction,⟨ga_NoFraction,gt_NoFraction,su_NoFraction,(by rw [cl_NoFraction]; rfl),kc_NoFraction,kg_NoFraction,kt_NoFraction,ob_NoFraction⟩,⟨ty_NoFraction,(by rw [cm_NoFraction]; rfl),sb_NoFraction⟩,⟨ty_EarlyError,(by rw [cm_EarlyError]; rfl),sb_EarlyError⟩,t0,t1,t2,y0,y1,y2,y3,y4,o_ONE,o_WORDS,y5,y6⟩
  have F0:=fun_mk (st:=s__law_feed) l0 c0 k0
  have b0:=F0.binds (ps:=["_law_script"]) fun _ _ _ _ _ _ us hl=>by obtain ⟨_,rfl⟩:=len1 hl; rfl
  have G__law_feed:=fun base=>fnc l w X G base a0 k0 b0 (ok__law_feed F0 T)
  have F1:=fun_mk (st:=s__law_draw) l1 c1 k1
  have b1:=F1.binds (ps:=["_law_feed_here", "_law_many"]) fun _ _ _ _ _ _ us hl=>by obtain ⟨_,_,rfl⟩:=len2 hl; rfl
  have G__law_draw:=fun base=>fnc l w X G base a1 k1 b1 (ok__law_draw F1 T)
  have F2:=fun_mk (st:=s_is_whole) l2 c2 k2
  have b2:=F2.binds (ps:=["thing"]) fun _ _ _ _ _ _ us hl=>by obtain ⟨_,rfl⟩:=len1 hl; rfl
  have G_is_whole:=fun base=>fnc l w X G base a2 k2 b2 (ok_is_whole F2 T)
  have F3:=fun_mk (st:=s_common_divisor) l3 c3 k3
  have b3:=F3.binds (ps:=["number", "above_nought"]) fun _ _ _ _ _ _ us hl=>by obtain ⟨_,_,rfl⟩:=len2 hl; rfl
  have G_common_divisor:=fun base=>fnc l w X G base a3 k3 b3 (ok_common_divisor F3 T)
  have F4:=fun_mk (st:=s_are_figures) l4 c4 k4
  have b4:=F4.binds (ps:=["text"]) fun _ _ _ _ _ _ us hl=>by obtain ⟨_,rfl⟩:=len1 hl; rfl
  have G_are_figures:=fun base=>fnc l w X G base a4 k4 b4 (ok_are_figures F4 T)
  have F5:=fun_mk (st:=s_read_whole) l5 c5 k5
  have b5:=F5.binds (ps:=["text"]) fun _ _ _ _ _ _ us hl=>by obtain ⟨_,rfl⟩:=len1 hl; rfl
  have G_read_whole:=fun base=>fnc l w X G base a5 k5 b5 (ok_read_whole F5 T (G_are_figures base))
  have F6:=fun_mk (st:=s_is_fraction) l6 c6 k6
  have b6:=F6.binds (ps:=["thing"]) fun _ _ _ _ _ _ us hl=>by obtain ⟨_,rfl⟩:=len1 hl; rfl
  have G_is_fraction:=fun base=>fnc l w X G base a6 k6 b6 (ok_is_fraction F6 T (G_is_whole base) (G_common_divisor base))
  have F7:=fun_mk (st:=s_is_share) l7 c7 k7
  have b7:=F7.binds (ps:=["thing"]) fun _ _ _ _ _ _ us hl=>by obtain ⟨_,rfl⟩:=len1 hl; rfl
  have G_is_share:=fun base=>fnc l w X G base a7 k7 b7 (ok_is_share F7 T (G_is_fraction base))
  have F8:=fun_mk (st:=s_plus) l8 c8 k8
  have b8:=F8.binds (ps:=["one", "other"]) fun _ _ _ _ _ _ us hl=>by obtain ⟨_,_,rfl⟩:=len2 hl; rfl
  have G_plus:=fun base=>fnc l w X G base a8 k8 b8 (ok_plus F8 T (G_common_divisor base))
  have F9:=fun_mk (st:=s_total) l9 c9 k9
  have b9:=F9.binds (ps:=["some"]) fun _ _ _ _ _ _ us hl=>by obtain ⟨_,rfl⟩:=len1 hl; rfl
  have G_total:=fun base=>fnc l w X G base a9 k9 b9 (ok_total F9 T (G_plus base))
  have F10:=fun_mk (st:=s_read_fraction) l10 c10 k10
  have b10:=F10.binds (ps:=["text"]) fun _ _ _ _ _ _ us hl=>by obtain ⟨_,rfl⟩:=len1 hl; rfl
  have G_read_fraction:∀ base:Heap,FnC (CX1 l.prog w) l.prog w K mg base 3 "read_fraction" ["text"] (sp_readf c.NoFraction):=fun base=>⟨_,_,ok_read_fraction F10 T (G_read_whole base) (G_is_fraction base),PySem.W.mg_of X G a10,k10,b10⟩
  have F11:=fun_mk (st:=s_is_tuple_of) l11 c11 k11
  have b11:=F11.binds (ps:=["thing", "many"]) fun _ _ _ _ _ _ us hl=>by obtain ⟨_,_,rfl⟩:=len2 hl; rfl
  have G_is_tuple_of:=fun base=>fnc l w X G base a11 k11 b11 (ok_is_tuple_of F11 T)
  have F12:=fun_mk (st:=s_are_shares) l12 c12 k12
  have b12:=F12.binds (ps:=["thing", "many"]) fun _ _ _ _ _ _ us hl=>by obtain ⟨_,_,rfl⟩:=len2 hl; rfl
  have G_are_shares:=fun base=>fnc l w X G base a12 k12 b12 (ok_are_shares F12 T (G_is_tuple_of base) (G_is_share base))
  have F13:=fun_mk (st:=s_are_parts) l13 c13 k13
  have b13:=F13.binds (ps:=["thing", "many"]) fun _ _ _ _ _ _ us hl=>by obtain ⟨_,_,rfl⟩:=len2 hl; rfl
  have G_are_parts:=fun base=>fnc l w X G base a13 k13 b13 (ok_are_parts F13 T (G_are_shares base) (G_total base))
  have F14:=fun_mk (st:=s_is_name) l14 c14 k14
  have b14:=F14.binds (ps:=["thing"]) fun _ _ _ _ _ _ us hl=>by obtain ⟨_,rfl⟩:=len1 hl; rfl
  have G_is_name:=fun base=>fnc l w X G base a14 k14 b14 (ok_is_name F14 T)
  have F15:=fun_mk (st:=s_NoTrial___init__) l15 c15 k15
  have b15:=F15.binds (ps:=["self", "line", "word"]) fun _ _ _ _ _ _ us hl=>by obtain ⟨_,_,_,rfl⟩:=len3 (show us.length=3 from hl); rfl
  have G_NoTrial___init__:∀ base:Heap,FnI l.prog w K mg base 1 c.NoTrial ["self", "line", "word"] (sp_ini2 c.NoTrial):=fun base=>⟨_,_,ok_NoTrial___init__ F15 T,⟨(setAll.shape T.st_NoTrial),(by rw [← hcl]; exact a15),fn15,(by rw [← hcl]; exact kp15)⟩,b15⟩
  have F16:=fun_mk (st:=s_stands_among_faces) l16 c16 k16
  have b16:=F16.binds (ps:=["ahead", "word"]) fun _ _ _ _ _ _ us hl=>by obtain ⟨_,_,rfl⟩:=len2 hl; rfl
  have G_stands_among_faces:=fun base=>fnc l w X G base a16 k16 b16 (ok_stands_among_faces F16 T (G_is_name base))
  have F17:=fun_mk (st:=s_writes_share) l17 c17 k17
  have b17:=F17.binds (ps:=["word"]) fun _ _ _ _ _ _ us hl=>by obtain ⟨_,rfl⟩:=len1 hl; rfl
  have G_writes_share:=fun base=>fnc l w X G base a17 k17 b17 (ok_writes_share F17 T (G_read_fraction base) (G_is_share base))
  have F18:=fun_mk (st:=s_stands_in_way) l18 c18 k18
  have b18:=F18.binds (ps:=["place", "word", "faces", "names"]) fun _ _ _ _ _ _ us hl=>by obtain ⟨_,_,_,_,rfl⟩:=len4 hl; rfl
  have G_stands_in_way:=fun base=>fnc l w X G base a18 k18 b18 (ok_stands_in_way F18 T (G_is_name base) (G_writes_share base))
  have F19:=fun_mk (st:=s_read_faces) l19 c19 k19
  have b19:=F19.binds (ps:=["lines"]) fun _ _ _ _ _ _ us hl=>by obtain ⟨_,rfl⟩:=len1 hl; rfl
  have G_read_faces:∀ base:Heap,FnC (CX1 l.prog w) l.prog w K mg base 3 "read_faces" ["lines"] (sp_rdfB c.NoTrial):=fun base=>⟨_,_,ok_read_faces F19 T (G_NoTrial___init__ base) (G_stands_among_faces base),PySem.W.mg_of X G a19,k19,b19⟩
  have F20:=fun_mk (st:=s_read_way) l20 c20 k20
  have b20:=F20.binds (ps:=["line", "words", "faces", "names"]) fun _ _ _ _ _ _ us hl=>by obtain ⟨_,_,_,_,rfl⟩:=len4 hl; rfl
  have G_read_way:∀ base:Heap,FnC (CX1 l.prog w) l.prog w K mg base 6 "read_way" ["line", "words", "faces", "names"] (sp_rdwB c.NoTrial):=fun base=>⟨_,_,ok_read_way F20 T (G_NoTrial___init__ base) (G_stands_in_way base) (G_read_fraction base),PySem.W.mg_of X G a20,k20,b20⟩
  have F21:=fun_mk (st:=s_read_trial) l21 c21 k21
  have b21:=F21.binds (ps:=["lines"]) fun _ _ _ _ _ _ us hl=>by obtain ⟨_,rfl⟩:=len1 hl; rfl
  have G_read_trial:∀ base:Heap,FnC (CX1 l.prog w) l.prog w K mg base 7 "read_trial" ["lines"] (sp_rdtB c.NoTrial):=fun base=>⟨_,_,ok_read_trial F21 T (G_NoTrial___init__ base) (G_read_faces base) (G_read_way base) (G_are_parts base),PySem.W.mg_of X G a21,k21,b21⟩
  have F22:=fun_mk (st:=s__law_low) l22 c22 k22
  have b22:=F22.binds (ps:=["_law_n", "_law_d"]) fun _ _ _ _ _ _ us hl=>by obtain ⟨_,_,rfl⟩:=len2 hl; rfl
  have G__law_low:=fun base=>fnc l w X G base a22 k22 b22 (ok__law_low F22 T)
  have F23:=fun_mk (st:=s__law_shares) l23 c23 k23
  have b23:=F23.binds (ps:=["_law_feed_here", "_law_many"]) fun _ _ _ _ _ _ us hl=>by obtain ⟨_,_,rfl⟩:=len2 hl; rfl
  have G__law_shares:=fun base=>fnc l w X G base a23 k23 b23 (ok__law_shares F23 T (G__law_draw base) (G__law_low base))
  have F24:=fun_mk (st:=s__law_trial) l24 c24 k24
  have b24:=F24.binds (ps:=["_law_feed_here"]) fun _ _ _ _ _ _ us hl=>by obtain ⟨_,rfl⟩:=len1 hl; rfl
  have G__law_trial:=fun base=>fnc l w X G base a24 k24 b24 (ok__law_trial F24 T (G__law_draw base) (G__law_shares base))
  have F25:=fun_mk (st:=s__law_is_name) l25 c25 k25
  have b25:=F25.binds (ps:=["_law_thing"]) fun _ _ _ _ _ _ us hl=>by obtain ⟨_,rfl⟩:=len1 hl; rfl
  have G__law_is_name:=fun base=>fnc l w X G base a25 k25 b25 (ok__law_is_name F25 T)
  have F26:=fun_mk (st:=s__law_lines) l26 c26 k26
  have b26:=F26.binds (ps:=["_law_trial_here"]) fun _ _ _ _ _ _ us hl=>by obtain ⟨_,rfl⟩:=len1 hl; rfl
  have G__law_lines:=fun base=>fnc l w X G base a26 k26 b26 (ok__law_lines F26 T)
  have F27:=fun_mk (st:=s__law_share) l27 c27 k27
  have b27:=F27.binds (ps:=["_law_word"]) fun _ _ _ _ _ _ us hl=>by obtain ⟨_,rfl⟩:=len1 hl; rfl
  have G__law_share:=fun base=>fnc l w X G base a27 k27 b27 (ok__law_share F27 T (G__law_low base))
  have F28:=fun_mk (st:=s__law_faces) l28 c28 k28
  have b28:=F28.binds (ps:=["_law_words"]) fun _ _ _ _ _ _ us hl=>by obtain ⟨_,rfl⟩:=len1 hl; rfl
  have G__law_faces:=fun base=>fnc l w X G base a28 k28 b28 (ok__law_faces F28 T (G__law_is_name base))
  have F29:=fun_mk (st:=s__law_way) l29 c29 k29
  have b29:=F29.binds (ps:=["_law_line", "_law_words", "_law_many", "_law_names"]) fun _ _ _ _ _ _ us hl=>by obtain ⟨_,_,_,_,rfl⟩:=len4 hl; rfl
  have G__law_way:=fun base=>fnc l w X G base a29 k29 b29 (ok__law_way F29 T (G__law_is_name base) (G__law_share base))
  have F30:=fun_mk (st:=s__law_due) l30 c30 k30
  have b30:=F30.binds (ps:=["_law_lines_here"]) fun _ _ _ _ _ _ us hl=>by obtain ⟨_,rfl⟩:=len1 hl; rfl
  have G__law_due:=fun base=>fnc l w X G base a30 k30 b30 (ok__law_due F30 T (G__law_faces base) (G__law_way base) (G__law_share base))
  have F31:=fun_mk (st:=s__law_told) l31 c31 k31
  have b31:=F31.binds (ps:=["_law_lines_here"]) fun _ _ _ _ _ _ us hl=>by obtain ⟨_,rfl⟩:=len1 hl; rfl
  have G__law_told:=fun base=>fnc l w X G base a31 k31 b31 (ok__law_told F31 T (G_read_trial base))
  have F32:=fun_mk (st:=s__law_spoilt) l32 c32 k32
  have b32:=F32.binds (ps:=["_law_feed_here", "_law_lines_here"]) fun _ _ _ _ _ _ us hl=>by obtain ⟨_,_,rfl⟩:=len2 hl; rfl
  have G__law_spoilt:=fun base=>fnc l w X G base a32 k32 b32 (ok__law_spoilt F32 T (G__law_draw base))
  have F33:=fun_mk (st:=s_law) l33 c33 k33
  exact ⟨_,fun s v=>.of_eq rfl,fun base _ _=>ok_law F33 T (G__law_feed base) (G__law_draw base) (G__law_trial base) (G__law_lines base) (G__law_spoilt base) (G__law_told base) (G__law_due base)⟩
end Kw
namespace PySem.W.Fast
def tw16802496178104734505 := ()
def tw14994268918572076933 := ()
def tw6587254062385806238 := ()
def tw2851083162640660736 := ()
def tw15541367270685423619 := ()
def tw2280127165844928876 := ()
def tw1325743530098324669 := ()
def tw8296576773182633688 := ()
def tw17230345686476132487 := ()
def tw11179461046524775684 := ()
def tw8404870299087817072 := ()
def tw13034025377188896388 := ()
def tw13494247090929051593 := ()
def tw10014370814282646470 := ()
def tw8394306463155213842 := ()
def tw4670403038377363714 := ()
def tw9128425870295869316 := ()
def tw2429807558166671282 := ()
def tw9605140922782844294 := ()
def tw16540918611016193761 := ()
def tw14777944773724812754 := ()
def tw1002866292852553893 := ()
def tw2939360418696704302 := ()
def tw16853411554265669390 := ()
def tw1190093765191484618 := ()
def tw16356854335559424649 := ()
def tw7313859511095466999 := ()
def tw6961517545117544323 := ()
def tw9521147682025764612 := ()
end PySem.W.Fast
open PySem PySem.W PyProof.Rows
set_option maxRecDepth 100000 in
set_option maxHeartbeats 0 in
theorem PySem.Challenge.cw_earlystop_k08_trial_lines_refused_holds : PySem.Challenge.rw_earlystop_k08_trial_lines_refused.Holds := by
  w_on; o_law; k_head; (case hw=>w_witness2)
  k_fill
  refine L2.walk_ofK (l:=PySem.Challenge.rw_earlystop_k08_trial_lines_refused) (n:=63) (k:=9) (x := "_law_script") (CX:=L2.CX0) (sp:=fun K=>Kw.sp_law K) rfl (by decide) rfl ⟨rfl,by decide,by decide,rfl⟩ (fun w h Y=>PySem.W.kIn_of Y) ?F (fun K H a ns hl _ hS=>Kw.sp_law_i hS hl) (fun _ _ _ _ z=>z)
  case F =>
    intro w mg fa h KX G hmg
    refine' Kw.all_mk KX G hmg ?u_EarlyError ?u_NoTrial ?u_NoFraction ?u_NoBack ?u_NoBounds ?u_NoLines ?u_NoLook ?u_NoOrder ?u_NoPaper ?u_NoRow ?u_NoRule ?u_ONE ?u_WORDS_OF_LINES ?u_FIGURES ?u_MOST_FIGURES ?u_LETTERS ?u_MOST_LETTERS ?u_LEAST_NAMES ?u_MOST_NAMES ?u_FACES_WORD ?u_WAY_WORD ?x_NoFraction ?ga_NoFraction ?gt_NoFraction ?su_NoFraction ?cl_NoFraction ?kc_NoFraction ?kg_NoFraction ?kt_NoFraction ?ob_NoFraction ?ty_NoFraction ?cm_NoFraction ?sb_NoFraction ?ty_EarlyError ?cm_EarlyError ?sb_EarlyError ?t0 ?t1 ?t2 ?y0 ?y1 ?y2 ?y3 ?y4 ?o_ONE ?o_WORDS ?y5 ?y6 ?a0 ?l0 ?c0 ?k0 ?a1 ?l1 ?c1 ?k1 ?a2 ?l2 ?c2 ?k2 ?a3 ?l3 ?c3 ?k3 ?a4 ?l4 ?c4 ?k4 ?a5 ?l5 ?c5 ?k5 ?a6 ?l6 ?c6 ?k6 ?a7 ?l7 ?c7 ?k7 ?a8 ?l8 ?c8 ?k8 ?a9 ?l9 ?c9 ?k9 ?a10 ?l10 ?c10 ?k10 ?a11 ?l11 ?c11 ?k11 ?a12 ?l12 ?c12 ?k12 ?a13 ?l13 ?c13 ?k13 ?a14 ?l14 ?c14 ?k14 ?a15 ?l15 ?c15 ?k15 ?fn15 ?kp15 ?a16 ?l16 ?c16 ?k16 ?a17 ?l17 ?c17 ?k17 ?a18 ?l18 ?c18 ?k18 ?a19 ?l19 ?c19 ?k19 ?a20 ?l20 ?c20 ?k20 ?a21 ?l21 ?c21 ?k21 ?a22 ?l22 ?c22 ?k22 ?a23 ?l23 ?c23 ?k23 ?a24 ?l24 ?c24 ?k24 ?a25 ?l25 ?c25 ?k25 ?a26 ?l26 ?c26 ?k26 ?a27 ?l27 ?c27 ?k27 ?a28 ?l28 ?c28 ?k28 ?a29 ?l29 ?c29 ?k29 ?a30 ?l30 ?c30 ?k30 ?a31 ?l31 ?c31 ?k31 ?a32 ?l32 ?c32 ?k32 ?a33 ?l33 ?c33 ?k33 ?z0 ?z1 ?z2 ?z3 ?z4 ?z5 ?z6 ?z7 ?z8 ?z9 ?z10 ?z11 ?z12 ?z13
    (case u_EarlyError=>k_is); (case u_NoTrial=>k_is); (case u_NoFraction=>k_is); (case u_NoBack=>k_is); (case u_NoBounds=>k_is); (case u_NoLines=>k_is); (case u_NoLook=>k_is); (case u_NoOrder=>k_is); (case u_NoPaper=>k_is); (case u_NoRow=>k_is); (case u_NoRule=>k_is); (case u_ONE=>k_is); (case u_WORDS_OF_LINES=>k_is); (case u_FIGURES=>k_is); (case u_MOST_FIGURES=>k_is); (case u_LETTERS=>k_is); (case u_MOST_LETTERS=>k_is); (case u_LEAST_NAMES=>k_is); (case u_MOST_NAMES=>k_is); (case u_FACES_WORD=>k_is); (case u_WAY_WORD=>k_is); (case x_NoFraction=>k_exc); (case ga_NoFraction=>k_is); (case gt_NoFraction=>k_is); (case su_NoFraction=>k_is); (case cl_NoFraction=>k_is); (case kc_NoFraction=>k_is); (case kg_NoFraction=>k_is); (case kt_NoFraction=>k_is); (case ob_NoFraction=>k_is); (case ty_NoFraction=>k_is); (case cm_NoFraction=>k_is); (case sb_NoFraction=>k_is); (case ty_EarlyError=>k_is); (case cm_EarlyError=>k_is); (case sb_EarlyError=>k_is); (case t0=>kernel_rfl); (case t1=>kernel_rfl); (case t2=>kernel_rfl); (case y0=>k_is); (case y1=>k_is); (case y2=>kit_is); (case y3=>kit_is); (case y4=>kit_is); (case o_ONE=>kernel_rfl); (case o_WORDS=>kernel_rfl); (case y5=>kernel_rfl); (case y6=>k_is); (case a0=>k_is); (case l0=>k_is); (case c0=>k_is); (case k0=>k_is); (case a1=>k_is); (case l1=>k_is); (case c1=>k_is); (case k1=>k_is); (case a2=>k_is); (case l2=>k_is); (case c2=>k_is); (case k2=>k_is); (case a3=>k_is); (case l3=>k_is); (case c3=>k_is); (case k3=>k_is); (case a4=>k_is); (case l4=>k_is); (case c4=>k_is); (case k4=>k_is); (case a5=>k_is); (case l5=>k_is); (case c5=>k_is); (case k5=>k_is); (case a6=>k_is); (case l6=>k_is); (case c6=>k_is); (case k6=>k_is); (case a7=>k_is); (case l7=>k_is); (case c7=>k_is); (case k7=>k_is); (case a8=>k_is); (case l8=>k_is); (case c8=>k_is); (case k8=>k_is); (case a9=>k_is); (case l9=>k_is); (case c9=>k_is); (case k9=>k_is); (case a10=>k_is); (case l10=>k_is); (case c10=>k_is); (case k10=>k_is); (case a11=>k_is); (case l11=>k_is); (case c11=>k_is); (case k11=>k_is); (case a12=>k_is); (case l12=>k_is); (case c12=>k_is); (case k12=>k_is); (case a13=>k_is); (case l13=>k_is); (case c13=>k_is); (case k13=>k_is); (case a14=>k_is); (case l14=>k_is); (case c14=>k_is); (case k14=>k_is); (case a15=>k_is); (case l15=>k_is); (case c15=>k_is); (case k15=>k_is); (case fn15=>k_is); (case kp15=>k_is); (case a16=>k_is); (case l16=>k_is); (case c16=>k_is); (case k16=>k_is); (case a17=>k_is); (case l17=>k_is); (case c17=>k_is); (case k17=>k_is); (case a18=>k_is); (case l18=>k_is); (case c18=>k_is); (case k18=>k_is); (case a19=>k_is); (case l19=>k_is); (case c19=>k_is); (case k19=>k_is); (case a20=>k_is); (case l20=>k_is); (case c20=>k_is); (case k20=>k_is); (case a21=>k_is); (case l21=>k_is); (case c21=>k_is); (case k21=>k_is); (case a22=>k_is); (case l22=>k_is); (case c22=>k_is); (case k22=>k_is); (case a23=>k_is); (case l23=>k_is); (case c23=>k_is); (case k23=>k_is); (case a24=>k_is); (case l24=>k_is); (case c24=>k_is); (case k24=>k_is); (case a25=>k_is); (case l25=>k_is); (case c25=>k_is); (case k25=>k_is); (case a26=>k_is); (case l26=>k_is); (case c26=>k_is); (case k26=>k_is); (case a27=>k_is); (case l27=>k_is); (case c27=>k_is); (case k27=>k_is); (case a28=>k_is); (case l28=>k_is); (case c28=>k_is); (case k28=>k_is); (case a29=>k_is); (case l29=>k_is); (case c29=>k_is); (case k29=>k_is); (case a30=>k_is); (case l30=>k_is); (case c30=>k_is); (case k30=>k_is); (case a31=>k_is); (case l31=>k_is); (case c31=>k_is); (case k31=>k_is); (case a32=>k_is); (case l32=>k_is); (case c32=>k_is); (case k32=>k_is); (case a33=>k_is); (case l33=>k_is); (case c33=>k_is); (case k33=>k_is); (case z0=>k_is); (case z1=>k_is); (case z2=>k_is); (case z3=>k_is); (case z4=>k_is); (case z5=>k_is); (case z6=>k_is); (case z7=>k_is); (case z8=>k_is); (case z9=>k_is); (case z10=>k_is); (case z11=>k_is); (case z12=>k_is); (case z13=>k_is)
