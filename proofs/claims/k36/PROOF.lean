import PyProof.Rows.All
import Wide.All
import OpenK.AllK
import Wide.FinOn
import Lean
import PyProof.EqAt
import PyProof.EqKinds
import PyProof.TupleCall
import KE.IntBitsLaws
import PyProof.ZipIter
import PyProof.EnumMake
import PyProof.Rows.StrJoin2
import PyProof.Rows.CallKwBuiltin
import PyProof.ListMulRoad
import PyProof.AutoListH
import PyProof.Rows.SeqMore
import PyProof.StationsW
import PyProof.Rows.CatchBare
import OpenK.KRaise
import KE.KIsAll
import OpenK.KOwn
import PyProof.Rows.Digits
import PyProof.Rows.StrOr
import PyProof.StrCalls2
import PyProof.StrBlock2
import KE.KIntText
import KE.KRevIter
import KE.LcSums
import PyProof.SliceStr2
import PyProof.StrBlockG
import PyProof.JoinWalk
import PyProof.StrWalks
import PyProof.StrLawsIn
import PyProof.StrLawsIdx
import PyProof.StrLawsChain
import PyProof.Rows.StrSplitCount
import PyProof.Rows.StrSplitJoin
import KE.IntTextText
import PyProof.Rows.SumAny
import PyProof.WalksMore
import KE.KSortTup
import PyProof.AttrMissHeap
import PyProof.TupleIter
import KE.KDictOf
import PyProof.DictWalks
import PyProof.DictValues
import KE.KDictList
import PyProof.Rows.MinMaxN
import PySem.Challenge.RW_earlystop_k36_rules_written_and_read
set_option Elab.async false
set_option linter.all false
set_option maxRecDepth 100000
namespace L2
open PySem PySem.Spec PyProof.Rows
abbrev Key:=Sum Int Str
def keyIs:Key→Value→Bool
  | .inl k,v=>Value.isInt k v
  | .inr x,v=>Value.isStrOf x v
def keyH (w:World):Key→Int
  | .inl k=>hashInt k
  | .inr x=>hashStr w x
theorem keyIs_shape:∀ {k:Key} {v:Value},keyIs k v=true→(∃ i t,k=Sum.inl i∧v=Value.int i t)∨(∃ x t,k=Sum.inr x∧v=Value.str x t)
  | .inl i,v,h=>by
    obtain ⟨t,e⟩:=Value.isInt_shape (k:=i) (v:=v) h
    exact .inl ⟨i,t,rfl,e⟩
  | .inr x,v,h=>by
    obtain ⟨t,e⟩:=Value.isStrOf_shape (x:=x) (v:=v) h
    exact .inr ⟨x,t,rfl,e⟩
theorem keyIs_int (i:Int) (t:Tok):keyIs (.inl i) (.int i t)=true:=by simp [keyIs,Value.isInt]
theorem keyIs_str (x:Str) (t:Tok):keyIs (.inr x) (.str x t)=true:=by simp [keyIs,Value.isStrOf]
theorem key_ll (a b:Int):decide ((Sum.inl a:Key)=Sum.inl b)=(a == b):=by
  by_cases e:a=b
  · subst e; simp
  · have h:¬ (Sum.inl a:Key)=Sum.inl b:=fun q=>e (Sum.inl.inj q)
    rw [decide_eq_false h]
    exact (beq_eq_false_iff_ne.mpr e).symm
theorem key_rr (a b:Str):decide ((Sum.inr a:Key)=Sum.inr b)=decide (a=b):=by
  by_cases e:a=b
  · subst e; simp
  · have h:¬ (Sum.inr a:Key)=Sum.inr b:=fun q=>e (Sum.inr.inj q)
    rw [decide_eq_false h,decide_eq_false e]
theorem key_lr (a:Int) (b:Str):decide ((Sum.inl a:Key)=Sum.inr b)=false:=decide_eq_false (fun q=>nomatch q)
theorem key_rl (a:Str) (b:Int):decide ((Sum.inr a:Key)=Sum.inl b)=false:=decide_eq_false (fun q=>nomatch q)
def mixKind (prog:Program) (w:World):PySem.KeyKind prog w Key where
  is:=keyIs
  hash:=keyH w
  inj:=fun v a b ha hb=>by
    rcases keyIs_shape ha with ⟨i,t,rfl,rfl⟩ | ⟨x,t,rfl,rfl⟩
    · rcases keyIs_shape hb with ⟨j,u,rfl,e⟩ | ⟨y,u,rfl,e⟩
      · injection e with e1 _; rw [e1]
      · exact nomatch e
    · rcases keyIs_shape hb with ⟨j,u,rfl,e⟩ | ⟨y,u,rfl,e⟩
      · exact nomatch e
      · injection e with e1 _; rw [e1]
  byValue:=fun k v h=>by
    rcases keyIs_shape h with ⟨i,t,rfl,rfl⟩ | ⟨x,t,rfl,rfl⟩ <;> rfl
  pyHash:=fun hv h=>by
    rcases keyIs_shape hv with ⟨i,t,rfl,rfl⟩ | ⟨x,t,rfl,rfl⟩
    · exact wpAny_pyHash_int h
    · exact wpAny_pyHash_str h
  eqBool:=fun hu hv h=>by
    rcases keyIs_shape hu with ⟨i,t,rfl,rfl⟩ | ⟨x,t,rfl,rfl⟩
    · rcases keyIs_shape hv with ⟨j,u,rfl,rfl⟩ | ⟨y,u,rfl,rfl⟩
      · rw [key_ll] at h; exact wpAny_eqBool_int h
      · rw [key_lr] at h; exact SeqAt.EqAt.int_str i t y u _ _ _ _ h
    · rcases keyIs_shape hv with ⟨j,u,rfl,rfl⟩ | ⟨y,u,rfl,rfl⟩
      · rw [key_rl] at h; exact SeqAt.EqAt.str_int x t j u _ _ _ _ h
      · rw [key_rr] at h; exact wpAny_eqBool_str h
  «strs» := fun k x t v h=>by
    rcases keyIs_shape h with ⟨i,u,rfl,e⟩ | ⟨y,u,rfl,e⟩
    · exact nomatch e
    · injection e with e1 _
      subst e1
      cases v <;> rfl
theorem mixKind_int (prog:Program) (w:World) (i:Int) (t:Tok):(mixKind prog w).is (.inl i) (.int i t)=true:=keyIs_int i t
theorem mixKind_str (prog:Program) (w:World) (x:Str) (t:Tok):(mixKind prog w).is (.inr x) (.str x t)=true:=keyIs_str x t
end L2
namespace L2
open PySem PySem.Spec PyProof.Rows
inductive V where
  | non | bl (b:Bool) | int (i:Int) | str (x:Str) | byt (b:Array UInt8) | flt (b:UInt64) | ref (a:Addr) | ty (n:String)
  deriving DecidableEq
def RelV:V→Value→Prop
  | .non,u=>u=Value.none
  | .bl b,u=>u=Value.bool b
  | .int i,u=>∃ t,u=Value.int i t
  | .str x,u=>∃ t,u=Value.str x t
  | .byt b,u=>∃ t,u=Value.bytes b t
  | .flt b,u=>∃ t,u=Value.float b t
  | .ref a,u=>u=Value.ref a
  | .ty n,u=>u=Value.type n
abbrev Vals:List V→List Value→Prop:=Paired RelV
theorem Vals.length {xs:List V} {us:List Value} (r:Vals xs us):xs.length=us.length:=Paired.length r
theorem Vals.get:∀ {xs:List V} {us:List Value} {i:Nat} {x:V},Vals xs us→xs[i]?=some x→∃ u,us[i]?=some u∧RelV x u
  | _,_,_,_,.nil,e=>by simp at e
  | _,_,0,_,.cons r _,e=>by simp at e; subst e; exact ⟨_,rfl,r⟩
  | _,_,i+1,x,.cons _ t,e=>by
    obtain ⟨u,h1,h2⟩:=Vals.get (i:=i) (x:=x) t (by simpa using e)
    exact ⟨u,by simpa using h1,h2⟩
theorem Vals.set {x:V} {u:Value} (r:RelV x u):∀ {xs:List V} {us:List Value} (i:Nat),Vals xs us→Vals (xs.set i x) (us.set i u)
  | _,_,_,.nil=>.nil
  | _,_,0,.cons _ t=>.cons r t
  | _,_,i+1,.cons q t=>.cons q (Vals.set r i t)
theorem Vals.append:∀ {xs ys:List V} {us ws:List Value},Vals xs us→Vals ys ws→Vals (xs++ys) (us++ws)
  | _,_,_,_,.nil,s=>s
  | _,_,_,_,.cons r t,s=>.cons r (Vals.append t s)
theorem Vals.take:∀ {xs:List V} {us:List Value} (n:Nat),Vals xs us→Vals (xs.take n) (us.take n)
  | _,_,0,_=>.nil
  | _,_,_+1,.nil=>.nil
  | _,_,n+1,.cons r t=>.cons r (Vals.take n t)
theorem Vals.drop:∀ {xs:List V} {us:List Value} (n:Nat),Vals xs us→Vals (xs.drop n) (us.drop n)
  | _,_,0,r=>r
  | _,_,_+1,.nil=>.nil
  | _,_,n+1,.cons _ t=>Vals.drop n t
def RelO:Option V→Option Value→Prop
  | some v,some u=>RelV v u
  | none,none=>True
  | _,_=>False
def KV {κ:Type}:List (κ × V)→List (κ × Value)→Prop:=Paired fun (p:κ × V) (q:κ × Value)=>p.1=q.1∧RelV p.2 q.2
def kV:Key→V
  | .inl i=>.int i
  | .inr x=>.str x
inductive HO where
  /-- a list -/
  | lst (xs:List V)
  /-- a tuple (never changes) -/
  | tup (xs:List V)
  /-- a dict whose keys are ints and texts; one whose keys are tuples of ints and texts (the empty one is both) -/
  | dK (kvs:List (Key × V)) | dT (kvs:List (List Key × V))
  /-- a set of ints: its members,its size -/
  | set (S:Int→Bool) (n:Nat)
  /-- an instance of the class at C,its dict at dx,its attributes -/
  | ins (C dx:Addr) (fs:List (Str × V))
  /-- the dict of the instance at x -/
  | own (x:Addr)
  /-- the dict of an exception -/
  | xd (fs:List (Str × V))
  /-- a bound method,f of x -/
  | met (f x:Addr)
  /-- a range object lo,lo+1,.. below hi -/
  | rng (lo hi:Int)
  /-- a thing that is known to the object (the script; a dict while a loop walks it): read,never written while it is so -/
  | frz (o:Obj) (u:HO)
  /-- a code object's table -/
  | tbl (ps:Array Value)
  /-- any other thing,by what is true of its one object (a def of one's own: SetO a S n:=HO.ext fun h=>..) -/
  | ext (φ:Heap→Prop)
abbrev Hp:=Addr→Option HO
def upd (H:Hp) (a:Addr) (o:HO):Hp:=fun b=>if b=a then some o else H b
theorem upd_same {H:Hp} {a:Addr} {o:HO}:upd H a o a=some o:=by unfold upd; rw [if_pos rfl]
theorem upd_ne {H:Hp} {a b:Addr} {o:HO} (h:b≠a):upd H a o b=H b:=by unfold upd; rw [if_neg h]
theorem ne_of {H:Hp} {a b:Addr} {o u:HO} (h:H a=some o) (h':H b=some u) (d:o≠u):a≠b:=by
  intro e; subst e; rw [h] at h'; exact d (Option.some.inj h')
theorem ne_of_none {H:Hp} {a b:Addr} {o:HO} (h:H a=some o) (h':H b=none):a≠b:=by
  intro e; subst e; rw [h] at h'; cases h'
section
variable (P:Program) (w:World)
def ObjOk (H:Hp) (h:Heap) (a:Addr):HO→Prop
  | .lst xs=>xs.length≤sizeLine∧∃ (its:List Value) (n:Nat),Vals xs its∧h.get? a=some { cls:=.type "list",data:=.seq its.toArray n }
  | .tup xs=>(xs.length≤sizeLine∧∃ o,h.get? a=some o∧o.dict=none)∧∃ its:List Value,Vals xs its∧IsTup h a its.toArray
  | .dK kvs=>kvs.length≤sizeLine∧(a == sysModules)=false∧∃ vs,KV kvs vs∧h.DictOf (mixKind P w) a vs
  | .dT kvs=>kvs.length≤sizeLine∧(a == sysModules)=false∧∃ xs:List (List Key × Addr × Value),
      Paired (fun (p:List Key × V) (q:List Key × Addr × Value)=>p.1=q.1∧H q.2.1=some (.tup (p.1.map kV))∧RelV p.2 q.2.2) kvs xs ∧
      ∃ o es ep,h.get? a=some o∧o.ExactDict∧o.data=.dict es ep∧es.toList=xs.map (entryOfKey (tupleKind (mixKind P w)))∧(xs.map (·.1)).Nodup
  | .set S n=>h.SetOf (intKind P w) a S n
  | .ins C dx fs=>H dx=some (.own a)∧fs.length≤1000∧dx≠a∧h.get? a=some (PySem.W.instObj C dx) ∧
      ∃ mA,h.Ns1 dx mA∧(∀ f,RelO (fs.lookup f) (mA f))∧PySem.Within mA (fs.map (·.1))
  | .own _=>∃ o,h.get? a=some o
  | .xd fs=>∃ mA,h.Ns1 a mA∧∀ f,RelO (fs.lookup f) (mA f)
  | .rng lo hi=>∃ t u v,h.get? a=some { cls:=.type "range",data:=.fields #[.int lo t,.int hi u,.int 1 v] }
  | .frz o u=>h.get? a=some o∧ObjOk H h a u
  | .tbl ps=>h.get? a=some { cls:=.none,data:=.fields ps }
  | .met f x=>h.get? a=some (PySem.W.methodObj (.ref f) (.ref x))
  | .ext φ=>φ h∧(∃ o,h.get? a=some o)∧∀ h1 h2:Heap,φ h1→(∀ o,h1.get? a=some o→h2.get? a=some o)→φ h2
def HOk (H:Hp) (h:Heap):Prop:=∀ a o,H a=some o→ObjOk P w H h a o
end
section
variable {P:Program} {w:World} {H H':Hp} {h h':Heap} {a:Addr} {o:HO}
theorem ObjOk.lt (x:ObjOk P w H h a o):a<h.objs.size:=by
  cases o with
  | lst xs=>obtain ⟨_,_,_,_,e⟩:=x; exact Heap.lt_size e
  | tup xs=>obtain ⟨_,_,_,p⟩:=x; exact p.lt
  | dK kvs=>obtain ⟨_,_,_,_,o,_,_,e,_⟩:=x; exact Heap.lt_size e
  | dT kvs=>obtain ⟨_,_,_,_,o,_,_,e,_⟩:=x; exact Heap.lt_size e
  | set S n=>obtain ⟨o,_,_,_,e,_⟩:=x; exact Heap.lt_size e
  | ins C dx fs=>obtain ⟨_,_,_,e,_⟩:=x; exact Heap.lt_size e
  | own y=>obtain ⟨_,e⟩:=x; exact Heap.lt_size e
  | xd fs=>obtain ⟨_,⟨_,_,_,e,_⟩,_⟩:=x; exact Heap.lt_size e
  | rng lo hi=>obtain ⟨_,_,_,e⟩:=x; exact Heap.lt_size e
  | frz ob u=>obtain ⟨e,_⟩:=x; exact Heap.lt_size e
  | tbl ps=>exact Heap.lt_size (show h.get? a=some _ from x)
  | met f y=>exact Heap.lt_size (show h.get? a=some _ from x)
  | ext φ=>obtain ⟨_,⟨_,e⟩,_⟩:=x; exact Heap.lt_size e
theorem Paired.mapP {α β:Type} {F G:α→β→Prop}:∀ {l₁:List α} {l₂:List β},Paired F l₁ l₂→(∀ a b,F a b→G a b)→Paired G l₁ l₂
  | _,_,.nil,_=>.nil
  | _,_,.cons r t,f=>.cons (f _ _ r) (Paired.mapP t f)
theorem ObjOk.stay (x:ObjOk P w H h a o) (k:∀ b u,(b=a∨H b=some (.own a))→h.get? b=some u→h'.get? b=some u)
    (ho:∀ b,H b=some (.own a)→H' b=some (.own a)) (ht:∀ b xs,H b=some (.tup xs)→H' b=some (.tup xs)):ObjOk P w H' h' a o:=by
  induction o with
  | lst xs=>obtain ⟨z,its,n,r,e⟩:=x; exact ⟨z,its,n,r,k _ _ (.inl rfl) e⟩
  | tup xs=>obtain ⟨⟨z,on,en,dn⟩,its,r,ob,e,c⟩:=x; exact ⟨⟨z,on,k _ _ (.inl rfl) en,dn⟩,its,r,ob,k _ _ (.inl rfl) e,c⟩
  | dK kvs=>obtain ⟨z,y,vs,r,ob,es,ep,e,c⟩:=x; exact ⟨z,y,vs,r,ob,es,ep,k _ _ (.inl rfl) e,c⟩
  | dT kvs =>
    obtain ⟨z,y,xs,r,ob,es,ep,e,c⟩:=x
    exact ⟨z,y,xs,Paired.mapP r fun p q z=>⟨z.1,ht _ _ z.2.1,z.2.2⟩,ob,es,ep,k _ _ (.inl rfl) e,c⟩
  | set S n=>obtain ⟨ob,es,ep,t,e,c⟩:=x; exact ⟨ob,es,ep,t,k _ _ (.inl rfl) e,c⟩
  | ins C dx fs =>
    obtain ⟨d,z,ne,e,mA,⟨od,es,ep,e2,c⟩,r⟩:=x
    exact ⟨ho _ d,z,ne,k _ _ (.inl rfl) e,mA,⟨od,es,ep,k _ _ (.inr d) e2,c⟩,r⟩
  | own y=>obtain ⟨ob,e⟩:=x; exact ⟨ob,k _ _ (.inl rfl) e⟩
  | xd fs=>obtain ⟨mA,⟨od,es,ep,e,c⟩,r⟩:=x; exact ⟨mA,⟨od,es,ep,k _ _ (.inl rfl) e,c⟩,r⟩
  | rng lo hi=>obtain ⟨t,u,v,e⟩:=x; exact ⟨t,u,v,k _ _ (.inl rfl) e⟩
  | frz ob u ih=>obtain ⟨e,q⟩:=x; exact ⟨k _ _ (.inl rfl) e,ih q⟩
  | tbl ps =>
    have e:h.get? a=some { cls:=.none,data:=.fields ps }:=x
    show h'.get? a=some { cls:=.none,data:=.fields ps }
    exact k a _ (.inl rfl) e
  | met f y =>
    have e:h.get? a=some (PySem.W.methodObj (.ref f) (.ref y)):=x
    show h'.get? a=some (PySem.W.methodObj (.ref f) (.ref y))
    exact k a _ (.inl rfl) e
  | ext φ=>obtain ⟨p,⟨o,e⟩,st⟩:=x; exact ⟨st _ _ p fun o q=>k _ _ (.inl rfl) q,⟨o,k _ _ (.inl rfl) e⟩,st⟩
theorem HOk.lt (x:HOk P w H h) (e:H a=some o):a<h.objs.size:=(x a o e).lt
theorem HOk.fresh (x:HOk P w H h) (e:h.objs.size≤a):H a=none:=by
  cases q:H a with
  | none=>rfl
  | some u=>exact absurd (Nat.lt_of_lt_of_le (x.lt q) e) (Nat.lt_irrefl _)
theorem HOk.kept (x:HOk P w H h) (k:∀ b u,h.get? b=some u→h'.get? b=some u):HOk P w H h':=fun a o e =>
  (x a o e).stay (fun b u _ q=>k b u q) (fun _ q=>q) fun _ _ q=>q
theorem HOk.laid (x:HOk P w H h) (k:∀ b u,h.get? b=some u→h'.get? b=some u) (hp:h.objs.size≤a) (new:ObjOk P w (upd H a o) h' a o):HOk P w (upd H a o) h':=fun b u e=>by
  have hn:=x.fresh hp
  by_cases hb:b=a
  · subst hb; rw [upd_same] at e; cases e; exact new
  · rw [upd_ne hb] at e
    exact (x b u e).stay (fun c v _ q=>k c v q) (fun c q=>by rw [upd_ne (ne_of_none q hn)]; exact q) fun c xs q=>by rw [upd_ne (ne_of_none q hn)]; exact q
end
def Rd (H:Hp) (a:Addr) (u:HO):Prop:=H a=some u∨∃ o,H a=some (.frz o u)
theorem Rd.ok {P:Program} {w:World} {H:Hp} {h:Heap} {a:Addr} {u:HO} (r:Rd H a u) (x:HOk P w H h):ObjOk P w H h a u:=by
  rcases r with r | ⟨o,r⟩
  · exact x a u r
  · obtain ⟨_,q⟩:=x a _ r
    exact q
def Mut:Option HO→Prop
  | some (.lst _)=>True
  | some (.dK _)=>True
  | some (.dT _)=>True
  | some (.set _ _)=>True
  | some (.ins _ _ _)=>True
  | some (.ext _)=>True
  | _=>False
section
variable {P:Program} {w:World} {H:Hp} {h h':Heap} {x e:Addr} {o':HO}
theorem HOk.write (ok:HOk P w H h) (mu:Mut (H x)) (he:e=x∨H e=some (.own x)) (k:∀ b u,b≠e→h.get? b=some u→h'.get? b=some u) (heo:∃ u,h'.get? e=some u)
    (new:ObjOk P w (upd H x o') h' x o'):HOk P w (upd H x o') h':=fun b u q=>by
  have nown:∀ c y,H c=some (.own y)→c≠x:=fun c y r z=>by subst z; rw [r] at mu; exact mu
  have ntup:∀ c xs,H c=some (.tup xs)→c≠x:=fun c xs r z=>by subst z; rw [r] at mu; exact mu
  by_cases hb:b=x
  · subst hb; rw [upd_same] at q; cases q; exact new
  · rw [upd_ne hb] at q
    by_cases hbe:b=e
    · have q':H b=some (.own x):=by
        rcases he with z | z
        · exact absurd (hbe.trans z) hb
        · rw [hbe]; exact z
      rw [q] at q'; cases q'
      obtain ⟨v,hv⟩:=heo
      exact ⟨v,by rw [hbe]; exact hv⟩
    · refine (ok b u q).stay (fun c v hc r=>k c v ?_ r) (fun c r=>by rw [upd_ne (nown c b r)]; exact r) fun c xs r=>by rw [upd_ne (ntup c xs r)]; exact r
      rcases hc with rfl | hc
      · exact hbe
      · rintro rfl
        rcases he with z | z
        · exact nown c b hc z
        · rw [hc] at z; cases z; exact hb rfl
end
structure Un (fs ex:List Addr) (H H':Hp) (h h':Heap):Prop where
  keep:∀ b o,h.get? b=some o→H b=none→b ∉ fs→b ∉ ex→h'.get? b=some o
  slot:∀ b o,h.get? b=some o→H b=none→b∈fs→b ∉ ex→∃ sl,h'.get? b=some { o with slots:=sl }
  free:∀ b o,h.get? b=some o→H b=none→b ∉ ex→H' b=none
  there:∀ b o,h.get? b=some o→b ∉ ex→∃ o',h'.get? b=some o'
  tups:∀ b xs,H b=some (.tup xs)→H' b=some (.tup xs)
  frzs:∀ b o u,H b=some (.frz o u)→H' b=some (.frz o u)
  tbls:∀ b ps,H b=some (.tbl ps)→∃ more,H' b=some (.tbl (ps++more))
section
variable {fs fs' ex ex':List Addr} {H H1 H2:Hp} {h h1 h2 h':Heap} {a x e:Addr} {o:HO}
theorem Un.any (u:Un fs ex H H1 h h1) {b:Addr} {ob:Obj} (q:h.get? b=some ob) (n:H b=none) (hx:b ∉ ex):∃ sl,h1.get? b=some { ob with slots:=sl }:=by
  by_cases hb:b∈fs
  · exact u.slot b ob q n hb hx
  · exact ⟨ob.slots,u.keep b ob q n hb hx⟩
theorem Un.kept (k:∀ b u,h.get? b=some u→h'.get? b=some u):Un fs ex H H h h' :=
  ⟨fun b ob q _ _ _=>k b ob q,fun b ob q _ _ _=>⟨ob.slots,k b ob q⟩,fun _ _ _ n _=>n,fun b ob q _=>⟨ob,k b ob q⟩,fun _ _ q=>q,fun _ _ _ q=>q,fun _ ps q=>⟨#[],by rw [q]; simp⟩⟩
theorem Un.refl:Un fs ex H H h h:=Un.kept fun _ _ q=>q
theorem Un.laid (k:∀ b u,h.get? b=some u→h'.get? b=some u) (hp:h.objs.size≤a) (hn:H a=none):Un fs ex H (upd H a o) h h' where
  keep:=fun b u q _ _ _=>k b u q
  slot:=fun b u q _ _ _=>⟨u.slots,k b u q⟩
  free:=fun b u q n _=>by rw [upd_ne (Nat.ne_of_lt (Nat.lt_of_lt_of_le (Heap.lt_size q) hp))]; exact n
  there:=fun b u q _=>⟨u,k b u q⟩
  tups:=fun b xs q=>by rw [upd_ne (ne_of_none q hn)]; exact q
  frzs:=fun b u xs q=>by rw [upd_ne (ne_of_none q hn)]; exact q
  tbls:=fun b ps q=>⟨#[],by rw [upd_ne (ne_of_none q hn),q]; simp⟩
theorem Un.write (mu:Mut (H x)) (he:e=x∨H e=some (.own x)) (k:∀ b u,b≠e→h.get? b=some u→h'.get? b=some u) (heo:∃ u,h'.get? e=some u):Un fs ex H (upd H x o) h h':=by
  have hx:∀ b,H b=none→b≠x:=fun b n z=>by subst z; rw [n] at mu; exact mu
  have hb:∀ b,H b=none→b≠e:=fun b n z=>by
    subst z
    rcases he with r | r
    · exact hx b n r
    · rw [n] at r; cases r
  have hm:∀ b u,H b=some u→¬ Mut (some u)→b≠x:=fun b u q nm z=>by subst z; rw [q] at mu; exact nm mu
  refine ⟨fun b u q n _ _=>k b u (hb b n) q,fun b u q n _ _=>⟨u.slots,k b u (hb b n) q⟩,fun b u q n _=>by rw [upd_ne (hx b n)]; exact n,fun b u q _=>?_,
    fun b xs q=>by rw [upd_ne (hm b _ q fun z=>z)]; exact q,fun b u xs q=>by rw [upd_ne (hm b _ q fun z=>z)]; exact q,fun b ps q=>⟨#[],by rw [upd_ne (hm b _ q fun z=>z),q]; simp⟩⟩
  by_cases hbe:b=e
  · subst hbe; exact heo
  · exact ⟨u,k b u hbe q⟩
end
def trk (h:Heap) (H:Hp):List Addr:=(List.range h.objs.size).filter fun a=>(H a).isSome
def hidT (h:Heap) (H:Hp):Heap:=PySem.W.hideAll h (trk h H)
theorem hidT_size (h:Heap) (H:Hp):(hidT h H).objs.size=h.objs.size:=PySem.W.hideAll_size _ _
theorem hidT_get {h:Heap} {H:Hp} {b:Addr} {o:Obj} (e:h.get? b=some o) (n:H b=none):(hidT h H).get? b=some o :=
  PySem.W.hideAll_get _ e fun hm=>by
    have q:(H b).isSome=true:=(List.mem_filter.mp hm).2
    rw [n] at q; simp at q
theorem of_hidT {h:Heap} {H:Hp} {b:Addr} {o:Obj} (e:(hidT h H).get? b=some o):h.get? b=some o∧H b=none:=by
  have e':h.get? b=some o:=PySem.W.of_hideAll (trk h H) e
  refine ⟨e',?_⟩
  cases q:H b with
  | none=>rfl
  | some x =>
    have hm:b∈trk h H:=List.mem_filter.mpr ⟨List.mem_range.mpr (Heap.lt_size e'),by simp [q]⟩
    have z:(hidT h H).get? b=none:=PySem.W.hideAll_none (trk h H) hm
    rw [z] at e; cases e
end L2
namespace L2
open PySem PySem.Spec PyProof.Rows
structure Mod (K:PySem.W.Frag) (mg:Str→Option Value) (base:Heap):Prop where
  kin:K.In base
  glob:base.Ns mainGlobals mg
  blt:∃ mb,base.Ns builtinsNs mb∧∀ x:Str,x ≠ "__name__" → mb x=bootBuiltins x
  nolimit:base.NoLimit
/-- the context: a def's body (or a comprehension's block) running. base: fixed through the whole law; s₀,H₀: the entry; outer: the frames whose slots others may change (a def's callers); stack: all frames that run;
   ex: iterators that were made ahead of the entry and are walked here (a comprehension's); fn: the names whose cells were made at the entry (a def: all; a comprehension's block: its own); calm: not within an except suite; pn: pins that every state bears; xe: what is wanted of an exception that leaves the code -/
structure Cx where
  prog:Program
  w:World
  K:PySem.W.Frag
  mg:Str→Option Value
  base:Heap
  A:Around
  N:List Str
  s₀:Shared
  H₀:Hp
  env:Env
  outer:List Env
  stack:List Env
  ex:List Addr
  fn:Str→Bool
  calm:Bool
  pn:List (Addr × Obj)
  xe:Value→Shared→Prop
def frs (l:List Env):List Addr:=l.filterMap (·.frame)
abbrev Cx.fs (X:Cx):List Addr:=frs X.outer
def Vis (sc:Scope) (x:Str):Prop:=sc.names.lookup x=some .local∨sc.names.lookup x=some .cell∨sc.names.lookup x=some .free
def Loc (sc:Scope) (x:Str):Prop:=sc.names.lookup x=some .local∨sc.names.lookup x=some .cell
def Look (env:Env) (h:Heap) (m:Str→Option Value) (x:Str) (u:Value):Prop :=
  (env.kindOf x=some .local∧m x=some u)∨((env.kindOf x=some .cell∨env.kindOf x=some .free)∧∃ c,env.cells.lookup x=some c∧h.IsCell c (some u))
structure Cx.Ok (X:Cx):Prop where
  mod:Mod X.K X.mg X.base
  kind:X.env.scope.kind=.function
  glob:X.env.globals=mainGlobals
  blt:X.env.builtins=builtinsNs
  above:X.s₀.heap.objs.size≤X.env.locals
  inj:∀ x y c,X.env.cells.lookup x=some c→X.env.cells.lookup y=some c→x=y
  has:∀ x,(X.env.kindOf x=some .cell∨X.env.kindOf x=some .free)→∃ c,X.env.cells.lookup x=some c
  cab:∀ x c,X.fn x=true→X.env.cells.lookup x=some c→X.s₀.heap.objs.size≤c
  hd:X.calm=true→X.A.handled=none
  frames:X.A.frames=some X.stack
  stk:X.stack=X.outer∨(X.stack=X.env::X.outer∧X.env.frame=some X.env.locals)
  exf:∀ b∈X.ex,b≠X.env.locals∧∀ x c,X.env.cells.lookup x=some c→c≠b
  bs:∀ b o,X.base.get? b=some o→X.s₀.heap.get? b=some o∧X.H₀ b=none
  bsz:X.base.objs.size≤X.s₀.heap.objs.size
  noex:∀ b o,X.base.get? b=some o→b ∉ X.ex
  exfs:∀ b∈X.ex,b ∉ X.fs
  funs:X.s₀.heap.FunFrames X.base X.outer
  frf:∀ b∈X.fs,X.H₀ b=none
structure Inv (X:Cx) (pins:List (Addr × Obj)) (σ:List (Option V)) (H:Hp) (s:Shared):Prop where
  ok:X.Ok
  os:s.os=X.s₀.os
  bare:AllBare s.gens
  base:Un X.fs X.ex X.H₀ H X.s₀.heap s.heap
  loc:∃ m,s.heap.Ns X.env.locals m∧∀ (i:Nat) (x:Str) (v:V),X.N[i]?=some x→σ[i]?=some (some v)→Vis X.env.scope x→∃ u,RelV v u∧Look X.env s.heap m x u
  cell:∀ x c,X.env.cells.lookup x=some c→∃ v,s.heap.IsCell c v
  free:H X.env.locals=none
  freeC:∀ x c,X.env.cells.lookup x=some c→H c=none
  pin:∀ p∈X.pn++pins,s.heap.get? p.1=some p.2∧H p.1=none∧p.1≠X.env.locals∧p.1 ∉ X.fs∧∀ v,p.2.data ≠ .cell v
  hok:HOk X.prog X.w H s.heap
  len:σ.length=X.N.length
section
variable {X:Cx} {pins:List (Addr × Obj)} {σ:List (Option V)} {H H':Hp} {s:Shared} {h':Heap}
theorem Cx.Ok.nofr (ok:X.Ok) {b:Addr} {o:Obj} (e:X.base.get? b=some o):b ∉ X.fs:=fun hb=>by
  have:=(ok.funs.mem hb).1
  rw [e] at this; cases this
theorem Inv.bs (I:Inv X pins σ H s):∀ b o,X.base.get? b=some o→s.heap.get? b=some o∧H b=none:=fun b o e =>
  ⟨I.base.keep b o (I.ok.bs b o e).1 (I.ok.bs b o e).2 (I.ok.nofr e) (I.ok.noex b o e),I.base.free b o (I.ok.bs b o e).1 (I.ok.bs b o e).2 (I.ok.noex b o e)⟩
theorem Inv.bk (I:Inv X pins σ H s):∀ b o,X.base.get? b=some o→s.heap.get? b=some o:=fun b o e=>(I.bs b o e).1
theorem Inv.mod (I:Inv X pins σ H s):Mod X.K X.mg X.base:=I.ok.mod
theorem Inv.kIn (I:Inv X pins σ H s):X.K.In s.heap:=I.ok.mod.kin.keeps I.bk
theorem Inv.lt (I:Inv X pins σ H s):X.env.locals<s.heap.objs.size:=let ⟨_,hn,_⟩:=I.loc; hn.lt
theorem Inv.sz (I:Inv X pins σ H s):X.s₀.heap.objs.size≤s.heap.objs.size:=Nat.le_trans I.ok.above (Nat.le_of_lt I.lt)
theorem Inv.nofs (I:Inv X pins σ H s) {a:Addr} (h:s.heap.objs.size≤a):a ∉ X.fs:=fun hb=>by
  obtain ⟨_,o,ho,_⟩:=I.ok.funs.mem hb
  exact absurd (Nat.lt_of_lt_of_le (Heap.lt_size ho) (Nat.le_trans I.sz h)) (Nat.lt_irrefl _)
theorem Inv.cne (I:Inv X pins σ H s):∀ x c,X.env.cells.lookup x=some c→c≠X.env.locals:=fun x c e z=>by
  obtain ⟨v,o,ho,hd⟩:=I.cell x c e
  obtain ⟨m,⟨o',es,ep,ho',hd',_⟩,_⟩:=I.loc
  rw [z,ho'] at ho; cases ho; rw [hd'] at hd; cases hd
theorem Inv.funs (I:Inv X pins σ H s):s.heap.FunFrames X.base X.outer:=by
  have all:∀ (l:List Env),(∀ b∈frs l,b∈X.fs)→X.s₀.heap.FunFrames X.base l→s.heap.FunFrames X.base l:=by
    intro l
    induction l with
    | nil=>intro _ _; trivial
    | cons env r ih =>
      intro hs hl
      obtain ⟨hk,⟨L,o,hf,hn,ho,hd⟩,hr⟩:=hl
      have hL:L∈X.fs:=hs L (by unfold frs; rw [List.filterMap_cons,hf]; exact List.mem_cons_self)
      obtain ⟨sl,e⟩:=I.base.slot L o ho (I.ok.frf L hL) hL fun z=>I.ok.exfs L z hL
      exact ⟨hk,⟨L,_,hf,hn,e,hd⟩,ih (fun b hb=>hs b (by unfold frs; rw [List.filterMap_cons,hf]; exact List.mem_cons_of_mem _ hb)) hr⟩
  exact all X.outer (fun _ hb=>hb) I.ok.funs
theorem Inv.stack (I:Inv X pins σ H s):s.heap.FunFrames X.base X.stack:=by
  rcases I.ok.stk with e | ⟨e,hf⟩
  · rw [e]; exact I.funs
  · rw [e]
    obtain ⟨m,hn,_⟩:=I.loc
    refine .cons (by rw [I.ok.kind]; decide) hf hn ?_ I.funs
    exact Heap.get?_none_of_le (Nat.le_trans I.ok.bsz I.ok.above)
theorem Inv.stkSub (I:Inv X pins σ H s):∀ b∈frs X.stack,b∈X.env.locals::X.fs:=fun b hb=>by
  rcases I.ok.stk with e | ⟨e,hf⟩
  · rw [e] at hb; exact List.mem_cons_of_mem _ hb
  · rw [e] at hb
    unfold frs at hb
    rw [List.filterMap_cons,hf] at hb
    exact hb
theorem Inv.stkFree (I:Inv X pins σ H s):∀ b∈frs X.stack,H b=none:=fun b hb=>by
  rcases List.mem_cons.mp (I.stkSub b hb) with e | hb
  · rw [e]; exact I.free
  · obtain ⟨_,o,ho,_⟩:=I.ok.funs.mem hb
    exact I.base.free b o ho (I.ok.frf b hb) fun z=>I.ok.exfs b z hb
theorem Inv.step {g':Array GenState} {t':Nat} {d':Drawn} {ch:List Addr} (I:Inv X pins σ H s)
    (hch:∀ b∈ch,(b∈X.ex∨X.s₀.heap.objs.size≤b)∧b≠X.env.locals∧(∀ x c,X.env.cells.lookup x=some c→c≠b)∧∀ p∈X.pn++pins,p.1≠b)
    (keep:∀ b o,b≠X.env.locals→b ∉ X.fs→b ∉ ch→s.heap.get? b=some o→H b=none→h'.get? b=some o)
    (slot:∀ b o,b≠X.env.locals→b∈X.fs→b ∉ ch→s.heap.get? b=some o→H b=none→∃ sl,h'.get? b=some { o with slots:=sl }) (free:∀ b o,b ∉ ch→s.heap.get? b=some o→H b=none→H' b=none)
    (there:∀ b o,b ∉ ch→s.heap.get? b=some o→∃ o',h'.get? b=some o')
    (tups:∀ b xs,H b=some (.tup xs)→H' b=some (.tup xs)) (frzs:∀ b o u,H b=some (.frz o u)→H' b=some (.frz o u)) (tbls:∀ b ps,H b=some (.tbl ps)→∃ more,H' b=some (.tbl (ps++more)))
    (ns:∀ m,s.heap.Ns X.env.locals m→h'.Ns X.env.locals m) (hok:HOk X.prog X.w H' h') (hg:AllBare g') :
    Inv X pins σ H' { s with heap:=h',gens:=g',drawn:=d',toks:=t' }:=by
  have neL:∀ b o,X.s₀.heap.get? b=some o→b≠X.env.locals:=fun b o e=>Nat.ne_of_lt (Nat.lt_of_lt_of_le (Heap.lt_size e) I.ok.above)
  have neC:∀ b o,X.s₀.heap.get? b=some o→b ∉ X.ex→b ∉ ch:=fun b o e hx hb=>by
    rcases (hch b hb).1 with z | z
    · exact hx z
    · exact absurd (Nat.lt_of_lt_of_le (Heap.lt_size e) z) (Nat.lt_irrefl _)
  have cellK:∀ x c,X.env.cells.lookup x=some c→∀ v,s.heap.IsCell c v→h'.IsCell c v:=fun x c e v ⟨o,ho,hd⟩=>by
    have nch:c ∉ ch:=fun z=>(hch c z).2.2.1 x c e rfl
    by_cases hc:c∈X.fs
    · obtain ⟨sl,q⟩:=slot c o (I.cne x c e) hc nch ho (I.freeC x c e)
      exact ⟨_,q,hd⟩
    · exact ⟨o,keep c o (I.cne x c e) hc nch ho (I.freeC x c e),hd⟩
  refine ⟨I.ok,I.os,hg,⟨fun b o e n hb hx=>?_,fun b o e n hb hx=>?_,fun b o e n hx=>?_,fun b o e hx=>?_,fun b xs e=>tups b xs (I.base.tups b xs e),fun b o xs e=>frzs b o xs (I.base.frzs b o xs e),fun b ps e=>?_⟩,?_,fun x c e=>?_,?_,fun x c e=>?_,fun p hp=>?_,hok,I.len⟩
  · exact keep b o (neL b o e) hb (neC b o e hx) (I.base.keep b o e n hb hx) (I.base.free b o e n hx)
  · obtain ⟨sl,e1⟩:=I.base.slot b o e n hb hx
    obtain ⟨sl',e2⟩:=slot b _ (neL b o e) hb (neC b o e hx) e1 (I.base.free b o e n hx)
    exact ⟨sl',e2⟩
  · obtain ⟨o',e1⟩:=I.base.there b o e hx
    exact free b o' (neC b o e hx) e1 (I.base.free b o e n hx)
  · obtain ⟨o',e1⟩:=I.base.there b o e hx
    exact there b o' (neC b o e hx) e1
  · obtain ⟨m1,e1⟩:=I.base.tbls b ps e
    obtain ⟨m2,e2⟩:=tbls b _ e1
    exact ⟨m1++m2,by rw [e2,Array.append_assoc]⟩
  · obtain ⟨m,hn,hl⟩:=I.loc
    refine ⟨m,ns m hn,fun i x v e1 e2 e3=>?_⟩
    obtain ⟨u,r,l⟩:=hl i x v e1 e2 e3
    refine ⟨u,r,?_⟩
    rcases l with l | ⟨k,c,e,z⟩
    · exact .inl l
    · exact .inr ⟨k,c,e,cellK x c e _ z⟩
  · obtain ⟨v,z⟩:=I.cell x c e
    exact ⟨v,cellK x c e v z⟩
  · obtain ⟨m,⟨o,_,_,ho,_⟩,_⟩:=I.loc
    exact free _ o (fun z=>(hch _ z).2.1 rfl) ho I.free
  · obtain ⟨v,o,ho,hd⟩:=I.cell x c e
    exact free c o (fun z=>(hch c z).2.2.1 x c e rfl) ho (I.freeC x c e)
  · obtain ⟨e,n,ne,nf,d⟩:=I.pin p hp
    have nch:p.1 ∉ ch:=fun z=>(hch p.1 z).2.2.2 p hp rfl
    exact ⟨keep p.1 p.2 ne nf nch e n,free p.1 p.2 nch e n,ne,nf,d⟩
theorem Inv.un {t':Nat} (I:Inv X pins σ H s) (u:Un X.fs [] H H' s.heap h') (hok:HOk X.prog X.w H' h'):Inv X pins σ H' { s with heap:=h',toks:=t' }:=by
  obtain ⟨m,⟨o,es,ep,ho,r⟩,_⟩:=id I.loc
  obtain ⟨sl,hL⟩:=u.any ho I.free (by simp)
  exact I.step (g':=s.gens) (d':=s.drawn) (ch:=[]) (fun _ z=>nomatch z) (fun b o _ hb _ e n=>u.keep b o e n hb (by simp)) (fun b o _ hb _ e n=>u.slot b o e n hb (by simp)) (fun b o _ e n=>u.free b o e n (by simp)) (fun b o _ e=>u.there b o e (by simp)) u.tups u.frzs u.tbls (fun m' hm=>by
    obtain ⟨o',es',ep',ho',r'⟩:=hm
    rw [ho] at ho'; cases ho'
    exact ⟨_,es',ep',hL,r'⟩) hok I.bare
theorem Inv.call {g':Array GenState} {t':Nat} {d':Drawn} {ch:List Addr} (I:Inv X pins σ H s) (u:Un (frs X.stack) ch H H' s.heap h') (hok:HOk X.prog X.w H' h') (hg:AllBare g')
    (hch:∀ b∈ch,(b∈X.ex∨X.s₀.heap.objs.size≤b)∧b≠X.env.locals∧(∀ x c,X.env.cells.lookup x=some c→c≠b)∧∀ p∈X.pn++pins,p.1≠b) :
    Inv X pins σ H' { s with heap:=h',gens:=g',drawn:=d',toks:=t' }:=by
  obtain ⟨m,⟨o,es,ep,ho,r⟩,_⟩:=id I.loc
  obtain ⟨sl,hL⟩:=u.any ho I.free fun z=>(hch _ z).2.1 rfl
  exact I.step (ch:=ch) hch (fun b o hL hb hc e n=>u.keep b o e n (fun z=>(List.mem_cons.mp (I.stkSub b z)).elim hL hb) hc) (fun b o _ _ hc e n=>u.any e n hc) (fun b o hc e n=>u.free b o e n hc) (fun b o hc e=>u.there b o e hc) u.tups u.frzs u.tbls (fun m' hm=>by
    obtain ⟨o',es',ep',ho',r'⟩:=hm
    rw [ho] at ho'; cases ho'
    exact ⟨_,es',ep',hL,r'⟩) hok hg
theorem Inv.turned {t':Nat} {it:Addr} (I:Inv X pins σ H s) (k:∀ b o,b≠it→s.heap.get? b=some o→h'.get? b=some o) (hn:H it=none) (hL:it≠X.env.locals)
    (h1:it∈X.ex∨X.s₀.heap.objs.size≤it) (h2:∀ x c,X.env.cells.lookup x=some c→c≠it) (h3:∀ p∈X.pn++pins,p.1≠it):Inv X pins σ H { s with heap:=h',toks:=t' }:=by
  have nit:∀ b u,H b=some u→b≠it:=fun b u e z=>by rw [z,hn] at e; cases e
  refine I.step (g':=s.gens) (d':=s.drawn) (ch:=[it]) (fun b hb=>?_) (fun b o _ _ hc e _=>k b o (fun z=>hc (by simp [z])) e) (fun b o _ _ hc e _=>⟨o.slots,k b o (fun z=>hc (by simp [z])) e⟩) (fun _ _ _ _ n=>n)
    (fun b o hc e=>⟨o,k b o (fun z=>hc (by simp [z])) e⟩) (fun _ _ e=>e) (fun _ _ _ e=>e) (fun b ps e=>⟨#[],by rw [e]; simp⟩) (fun m hm=>?_) (fun b u e=>?_) I.bare
  · have e:b=it:=by simpa using hb
    subst e
    exact ⟨h1,hL,h2,h3⟩
  · obtain ⟨o,es,ep,ho,r⟩:=hm
    exact ⟨o,es,ep,k _ o (Ne.symm hL) ho,r⟩
  · refine (I.hok b u e).stay (fun c v hc q=>k c v ?_ q) (fun _ q=>q) fun _ _ q=>q
    rcases hc with z | z
    · rw [z]; exact nit b u e
    · exact nit c _ z
theorem Inv.tok (I:Inv X pins σ H s) (t:Nat):Inv X pins σ H { s with toks:=t }:=I.un (h':=s.heap) (t':=t) Un.refl I.hok
theorem Inv.kept {t':Nat} (I:Inv X pins σ H s) (k:∀ b u,s.heap.get? b=some u→h'.get? b=some u):Inv X pins σ H { s with heap:=h',toks:=t' }:=I.un (Un.kept k) (I.hok.kept k)
theorem Inv.laid {a:Addr} {o:HO} {t':Nat} (I:Inv X pins σ H s) (k:∀ b u,s.heap.get? b=some u→h'.get? b=some u) (hp:s.heap.objs.size≤a) (new:ObjOk X.prog X.w (upd H a o) h' a o) :
    Inv X pins σ (upd H a o) { s with heap:=h',toks:=t' }:=I.un (Un.laid k hp (I.hok.fresh hp)) (I.hok.laid k hp new)
theorem Inv.write {x e:Addr} {o:HO} {t':Nat} (I:Inv X pins σ H s) (mu:Mut (H x)) (he:e=x∨H e=some (.own x)) (k:∀ b u,b≠e→s.heap.get? b=some u→h'.get? b=some u) (heo:∃ u,h'.get? e=some u)
    (new:ObjOk X.prog X.w (upd H x o) h' x o):Inv X pins σ (upd H x o) { s with heap:=h',toks:=t' }:=I.un (Un.write mu he k heo) (I.hok.write mu he k heo new)
theorem Inv.pins_of {pins':List (Addr × Obj)} (I:Inv X pins σ H s) (h:∀ p∈pins',s.heap.get? p.1=some p.2∧H p.1=none∧p.1≠X.env.locals∧p.1 ∉ X.fs∧∀ v,p.2.data ≠ .cell v):Inv X pins' σ H s :=
  ⟨I.ok,I.os,I.bare,I.base,I.loc,I.cell,I.free,I.freeC,fun p hp=>(List.mem_append.mp hp).elim (fun z=>I.pin p (List.mem_append_left _ z)) (h p),I.hok,I.len⟩
theorem nodup_ix {N:List Str} (hN:N.Nodup) {i j:Nat} {x:Str} (a:N[i]?=some x) (b:N[j]?=some x):i=j:=by
  obtain ⟨h1,e1⟩:=List.getElem?_eq_some_iff.mp a
  obtain ⟨h2,e2⟩:=List.getElem?_eq_some_iff.mp b
  exact (List.getElem_inj hN).mp (e1.trans e2.symm)
theorem store_ok2 {M:Model} {A:Around} {E:Value→Shared→Prop} {i:Nat} {x:Str} {v:V} {u:Value} {Q:Unit→Shared→Prop} (I:Inv X pins σ H s) (hN:X.N.Nodup) (hi:X.N[i]?=some x) (hx:Loc X.env.scope x) (r:RelV v u)
    (h:∀ s',Inv X pins (σ.set i (some v)) H s'→(∃ a,Heap.SameBut a s.heap s'.heap∧(a=X.env.locals∨X.env.cells.lookup x=some a))→Q () s') (hf:X.fn x=true∨X.env.scope.names.lookup x=some .local:=by first | exact .inl rfl | exact .inr rfl | assumption):wpAny M A (storeName X.env x u) Q E s:=by
  obtain ⟨m,hn,hl⟩:=id I.loc
  have hcls:(X.env.scope.kind == .class || (X.env.scope.kind == .module&&X.env.locals != X.env.globals))=false:=by rw [I.ok.kind]; rfl
  have hiσ:i<σ.length:=by rw [I.len]; exact (List.getElem?_eq_some_iff.mp hi).1
  have cne:=I.cne
  have tracked:∀ {a:Addr} {h':Heap},(∃ o,s.heap.get? a=some o∧H a=none)→Heap.SameBut a s.heap h'→HOk X.prog X.w H h':=fun {a h'} ha hs b ob e=>by
    obtain ⟨_,_,hfree⟩:=ha
    refine (I.hok b ob e).stay (fun c w' hc q=>(hs.2 c ?_).trans q) (fun _ q=>q) fun _ _ q=>q
    rintro rfl
    rcases hc with rfl | hc
    · rw [hfree] at e; cases e
    · rw [hfree] at hc; cases hc
  rcases hx with hk | hk
  · refine wpAny_storeName_local hk hn (fun h' hn' hs=>?_) hcls
    obtain ⟨oL,_,_,hoL,_⟩:=id hn
    refine h _ ⟨I.ok,I.os,I.bare,⟨fun b o e n hb hx=>?_,fun b o e n hb hx=>?_,I.base.free,fun b o e hx=>?_,I.base.tups,I.base.frzs,I.base.tbls⟩,⟨_,hn',fun j y v' e1 e2 e3=>?_⟩,fun y c e=>?_,I.free,I.freeC,fun p hp=>?_,tracked ⟨oL,hoL,I.free⟩ hs,by simpa using I.len⟩ ⟨_,hs,.inl rfl⟩
    · exact (hs.2 b (Nat.ne_of_lt (Nat.lt_of_lt_of_le (Heap.lt_size e) I.ok.above))).trans (I.base.keep b o e n hb hx)
    · obtain ⟨sl,e1⟩:=I.base.slot b o e n hb hx
      exact ⟨sl,(hs.2 b (Nat.ne_of_lt (Nat.lt_of_lt_of_le (Heap.lt_size e) I.ok.above))).trans e1⟩
    · obtain ⟨o',e1⟩:=I.base.there b o e hx
      exact ⟨o',(hs.2 b (Nat.ne_of_lt (Nat.lt_of_lt_of_le (Heap.lt_size e) I.ok.above))).trans e1⟩
    · by_cases hj:j=i
      · subst hj
        rw [hi] at e1; cases e1
        rw [List.getElem?_set_self hiσ] at e2
        cases e2
        exact ⟨u,r,.inl ⟨hk,by simp⟩⟩
      · rw [List.getElem?_set_ne (Ne.symm hj)] at e2
        obtain ⟨u',r',q⟩:=hl j y v' e1 e2 e3
        refine ⟨u',r',?_⟩
        rcases q with ⟨k,e⟩ | ⟨k,c,e,z⟩
        · refine .inl ⟨k,?_⟩
          have:y≠x:=fun e=>hj (nodup_ix hN e1 (e ▸ hi))
          simp [this,e]
        · exact .inr ⟨k,c,e,z.sameBut hs (cne y c e)⟩
    · obtain ⟨w',z⟩:=I.cell y c e
      exact ⟨w',z.sameBut hs (cne y c e)⟩
    · obtain ⟨e,n,ne,nf,d⟩:=I.pin p hp
      exact ⟨(hs.2 p.1 ne).trans e,n,ne,nf,d⟩
  · have hfn:X.fn x=true:=by
      rcases hf with z | z
      · exact z
      · rw [z] at hk; cases hk
    obtain ⟨c,hc⟩:=I.ok.has x (.inl hk)
    obtain ⟨w',z⟩:=I.cell x c hc
    refine wpAny_storeName_cell I.ok.kind hk hc z (fun h' hc' hs=>?_)
    obtain ⟨oc,hoc,hocd⟩:=id z
    refine h { s with heap:=h' } ⟨I.ok,I.os,I.bare,⟨fun b o e n hb hx=>?_,fun b o e n hb hx=>?_,I.base.free,fun b o e hx=>?_,I.base.tups,I.base.frzs,I.base.tbls⟩,⟨m,hn.sameBut hs (Ne.symm (cne x c hc)),fun j y v' e1 e2 e3=>?_⟩,fun y c' e=>?_,I.free,I.freeC,fun p hp=>?_,tracked ⟨oc,hoc,I.freeC x c hc⟩ hs,by simpa using I.len⟩ ⟨c,hs,.inr hc⟩
    · exact (hs.2 b (Nat.ne_of_lt (Nat.lt_of_lt_of_le (Heap.lt_size e) (I.ok.cab x c hfn hc)))).trans (I.base.keep b o e n hb hx)
    · obtain ⟨sl,e1⟩:=I.base.slot b o e n hb hx
      exact ⟨sl,(hs.2 b (Nat.ne_of_lt (Nat.lt_of_lt_of_le (Heap.lt_size e) (I.ok.cab x c hfn hc)))).trans e1⟩
    · obtain ⟨o',e1⟩:=I.base.there b o e hx
      exact ⟨o',(hs.2 b (Nat.ne_of_lt (Nat.lt_of_lt_of_le (Heap.lt_size e) (I.ok.cab x c hfn hc)))).trans e1⟩
    · by_cases hj:j=i
      · subst hj
        rw [hi] at e1; cases e1
        rw [List.getElem?_set_self hiσ] at e2
        cases e2
        exact ⟨u,r,.inr ⟨.inl hk,c,hc,hc'⟩⟩
      · rw [List.getElem?_set_ne (Ne.symm hj)] at e2
        obtain ⟨u',r',q⟩:=hl j y v' e1 e2 e3
        refine ⟨u',r',?_⟩
        rcases q with q | ⟨k,c',e,z'⟩
        · exact .inl q
        · refine .inr ⟨k,c',e,z'.sameBut hs ?_⟩
          rintro rfl
          exact hj (nodup_ix hN e1 (I.ok.inj _ _ _ e hc ▸ hi))
    · by_cases hcc:c'=c
      · subst hcc; exact ⟨_,hc'⟩
      · obtain ⟨w2,z2⟩:=I.cell y c' e
        exact ⟨w2,z2.sameBut hs hcc⟩
    · obtain ⟨e,n,ne,nf,d⟩:=I.pin p hp
      refine ⟨(hs.2 p.1 ?_).trans e,n,ne,nf,d⟩
      intro q
      rw [q,hoc] at e
      have q':oc=p.2:=Option.some.inj e
      exact d w' (by rw [← q']; exact hocd)
theorem store_ok {M:Model} {A:Around} {E:Value→Shared→Prop} {i:Nat} {x:Str} {v:V} {u:Value} {Q:Unit→Shared→Prop} (I:Inv X pins σ H s) (hN:X.N.Nodup) (hi:X.N[i]?=some x) (hx:Loc X.env.scope x) (r:RelV v u)
    (h:∀ s',Inv X pins (σ.set i (some v)) H s'→Q () s') (hf:X.fn x=true∨X.env.scope.names.lookup x=some .local:=by first | exact .inl rfl | exact .inr rfl | assumption):wpAny M A (storeName X.env x u) Q E s :=
  store_ok2 I hN hi hx r (fun s' I' _=>h s' I') hf
theorem Inv.call' {s':Shared} {ch:List Addr} (I:Inv X pins σ H s) (ho:s'.os=s.os) (u:Un (frs X.stack) ch H H' s.heap s'.heap) (hok:HOk X.prog X.w H' s'.heap) (hg:AllBare s'.gens)
    (hch:∀ b∈ch,(b∈X.ex∨X.s₀.heap.objs.size≤b)∧b≠X.env.locals∧(∀ x c,X.env.cells.lookup x=some c→c≠b)∧∀ p∈X.pn++pins,p.1≠b):Inv X pins σ H' s':=by
  obtain ⟨h',g',d',t',o'⟩:=s'
  have e:o'=s.os:=ho
  subst e
  exact I.call (g':=g') (t':=t') (d':=d') u hok hg hch
end
abbrev XK:=Value→Option Addr→Hp→Prop
abbrev St:=List (Option V)
abbrev VK:=V→Hp→Prop
abbrev TE:=St→Hp→VK→Prop
abbrev TT:=St→Hp→(Bool→Hp→Prop)→Prop
abbrev TA:=St→Hp→(List V→Hp→Prop)→Prop
structure Ends where
  nx:St→Hp→Prop
  rt:VK
  bk:St→Hp→Prop:=fun _ _=>False
  ct:St→Hp→Prop:=fun _ _=>False
abbrev TS:=Ends→St→Hp→Prop
def EP (X:Cx) (pins:List (Addr × Obj)) (σ:St) (Q:VK) (u:Value) (s':Shared):Prop:=∃ v H',Inv X pins σ H' s'∧RelV v u∧Q v H'
def TP (X:Cx) (pins:List (Addr × Obj)) (σ:St) (Q:Bool→Hp→Prop) (b:Bool) (s':Shared):Prop:=∃ H',Inv X pins σ H' s'∧Q b H'
def AP (X:Cx) (pins:List (Addr × Obj)) (σ:St) (Q:List V→Hp→Prop) (us:List Value) (s':Shared):Prop:=∃ vs H',Inv X pins σ H' s'∧Vals vs us∧Q vs H'
def SP (X:Cx) (pins:List (Addr × Obj)) (D:Ends) (f:Flow) (s':Shared):Prop :=
  match f with
  | .next=>∃ σ' H',Inv X pins σ' H' s'∧D.nx σ' H'
  | .brk=>∃ σ' H',Inv X pins σ' H' s'∧D.bk σ' H'
  | .cont=>∃ σ' H',Inv X pins σ' H' s'∧D.ct σ' H'
  | .ret u=>∃ v σ' H',Inv X pins σ' H' s'∧RelV v u∧D.rt v H'
def PE (X:Cx) (e:Expr) (t:TE):Prop :=
  ∀ (pins:List (Addr × Obj)) (s:Shared) (σ:St) (H:Hp) (Q:VK),Inv X pins σ H s→t σ H Q→wpAny (model X.prog X.w) X.A (eval e X.env) (EP X pins σ Q) X.xe s
def PT (X:Cx) (e:Expr) (t:TT):Prop :=
  ∀ (pins:List (Addr × Obj)) (s:Shared) (σ:St) (H:Hp) (Q:Bool→Hp→Prop),Inv X pins σ H s→t σ H Q→wpAny (model X.prog X.w) X.A (isTrue e X.env (eval e X.env)) (TP X pins σ Q) X.xe s
def PW (X:Cx) (e:Expr) (t:TT):Prop :=
  ∀ (whole:Sem Value) (pins:List (Addr × Obj)) (s:Shared) (σ:St) (H:Hp) (Q:Bool→Hp→Prop),Inv X pins σ H s→t σ H Q→wpAny (model X.prog X.w) X.A (isTrue e X.env whole) (TP X pins σ Q) X.xe s
theorem PW.pt {X:Cx} {e:Expr} {t:TT} (h:PW X e t):PT X e t:=h _
def PA (X:Cx) (es:List Expr) (t:TA):Prop :=
  ∀ (pos:Pos) (pins:List (Addr × Obj)) (s:Shared) (σ:St) (H:Hp) (Q:List V→Hp→Prop),Inv X pins σ H s→t σ H Q→wpAny (model X.prog X.w) X.A (spliced (backTo pos (starEach es X.env))) (AP X pins σ Q) X.xe s
def PS (X:Cx) (st:Stmt) (t:TS):Prop :=
  ∀ (pins:List (Addr × Obj)) (s:Shared) (σ:St) (H:Hp) (D:Ends),Inv X pins σ H s→t D σ H→wpAny (model X.prog X.w) X.A (exec st X.env) (SP X pins D) X.xe s
def PSs (X:Cx) (st:List Stmt) (t:TS):Prop :=
  ∀ (pins:List (Addr × Obj)) (s:Shared) (σ:St) (H:Hp) (D:Ends),Inv X pins σ H s→t D σ H→wpAny (model X.prog X.w) X.A (execs st X.env) (SP X pins D) X.xe s
theorem thn {α:Type} {t:Sem α} {Q Q':α→Shared→Prop} {M:Model} {A:Around} {E:Value→Shared→Prop} {s:Shared} (h:wpAny M A t Q E s) (hQ:∀ a s,Q a s→Q' a s):wpAny M A t Q' E s:=wpAny_mono h hQ fun _ _ x=>x
end L2
namespace L2
open PySem PySem.Spec PyProof.Rows
section
variable {X:Cx}
def tVar (i:Nat):TE:=fun σ H Q=>∃ v,σ[i]?=some (some v)∧Q v H
def tC (v:V):TE:=fun _ H Q=>Q v H
theorem pe_var {i:Nat} {x:Str} {pos:Pos} (hN:X.N[i]?=some x) (hv:Vis X.env.scope x) (hd:(x == ("__debug__" : Str))=false:=by decide) (hcd:(x == ("__classdict__" : Str))=false:=by decide):PE X (.Name x pos) (tVar i):=by
  intro pins s σ H Q I h
  obtain ⟨v,e,h⟩:=h
  obtain ⟨m,hn,hl⟩:=I.loc
  obtain ⟨u,r,l⟩:=hl i x v hN e hv
  have fin:EP X pins σ Q u s:=⟨v,H,I,r,h⟩
  rcases l with ⟨hk,hm⟩ | ⟨hk,c,hc,hcell⟩
  · exact wpAny_Name (wpAny_loadName_local I.ok.kind hk hn hm fin) hd
  · rcases hk with hk | hk
    · exact wpAny_Name (wpAny_loadName_cell I.ok.kind hk hc hcell fin) hd
    · exact wpAny_Name (wpAny_loadName_free I.ok.kind hk hc hcell fin hcd) hd
theorem pe_int {i j pos}:PE X (.Constant (.int i) j pos) (tC (.int i)):=fun _ _ _ H _ I h=>wpAny_Constant_int ⟨.int i,H,I.tok _,⟨_,rfl⟩,h⟩
theorem pe_bl {b j pos}:PE X (.Constant (.bool b) j pos) (tC (.bl b)):=fun _ _ _ H _ I h=>Constant_bool ⟨.bl b,H,I,rfl,h⟩
theorem pe_non {j pos}:PE X (.Constant .none j pos) (tC .non):=fun _ _ _ H _ I h=>Constant_none ⟨.non,H,I,rfl,h⟩
theorem pe_str {x j pos}:PE X (.Constant (.str x) j pos) (tC (.str x)):=fun _ _ _ H _ I h=>Calls.Constant_str ⟨.str x,H,I.tok _,⟨_,rfl⟩,h⟩
def Gl (X:Cx) (x:Str):Prop:=X.env.kindOf x=some .globalImplicit
theorem ld_glob {E:Value→Shared→Prop} {pins:List (Addr × Obj)} {s:Shared} {σ:St} {H:Hp} {x:Str} {u:Value} {pos:Pos} {Q:Value→Shared→Prop} (I:Inv X pins σ H s) (hg:Gl X x) (hm:X.mg x=some u) (h:Q u s)
    (hd:(x == ("__debug__" : Str))=false:=by decide):wpAny (model X.prog X.w) X.A (eval (.Name x pos) X.env) Q E s :=
  Calls.Name_function_global I.ok.kind hg (Calls.loadGlobal_global (by rw [I.ok.glob]; exact I.mod.glob.keeps I.bk) hm h) hd
theorem ld_blt {E:Value→Shared→Prop} {pins:List (Addr × Obj)} {s:Shared} {σ:St} {H:Hp} {x:Str} {u:Value} {pos:Pos} {Q:Value→Shared→Prop} (I:Inv X pins σ H s) (hg:Gl X x) (hm:X.mg x=none) (hv:bootBuiltins x=some u) (h:Q u s)
    (hn:x ≠ "__name__" := by decide) (hd:(x == ("__debug__" : Str))=false:=by decide):wpAny (model X.prog X.w) X.A (eval (.Name x pos) X.env) Q E s:=by
  obtain ⟨mb,h1,h2⟩:=I.mod.blt
  exact Calls.Name_function_global I.ok.kind hg (Calls.loadGlobal_builtin (by rw [I.ok.glob]; exact I.mod.glob.keeps I.bk) hm (by rw [I.ok.blt]; exact h1.keeps I.bk) ((h2 x hn).trans hv) h) hd
theorem pe_glob {x:Str} {v:V} {u:Value} {pos:Pos} (hg:Gl X x) (hm:X.mg x=some u) (r:RelV v u) (hd:(x == ("__debug__" : Str))=false:=by decide):PE X (.Name x pos) (tC v) :=
  fun _ _ _ H _ I h=>ld_glob I hg hm ⟨v,H,I,r,h⟩ hd
theorem pe_bltn {x:Str} {v:V} {u:Value} {pos:Pos} (hg:Gl X x) (hm:X.mg x=none) (hv:bootBuiltins x=some u) (r:RelV v u) (hn:x ≠ "__name__" := by decide) (hd:(x == ("__debug__" : Str))=false:=by decide):PE X (.Name x pos) (tC v) :=
  fun _ _ _ H _ I h=>ld_blt I hg hm hv ⟨v,H,I,r,h⟩ hn hd
variable {a b:Expr} {ta tb:TE} {pos:Pos}
def tB (t:TE):TT:=fun σ H Q=>t σ H fun x H1=>∃ c,x=.bl c∧Q c H1
theorem pt_val {e:Expr} {t:TE} (h:PE X e t) (he:∀ whole,isTrue e X.env whole=(do let v ← whole; standAt e.pos; holding [v] (truthy v)):=by intro _; rfl):PT X e (tB t):=by
  intro pins s σ H Q I hw
  refine isTrue_plain (thn (h pins s σ H _ I hw) fun v s1 ⟨x,H1,I1,r1,q1⟩=>?_) (he _)
  obtain ⟨d,rfl,q⟩:=q1
  cases r1
  exact wpAny_truthy_bool ⟨H1,I1,q⟩
variable {tA tB':TT} {rest:List Expr}
def tAnd (t u:TT):TT:=fun σ H Q=>t σ H fun c H1=>if c=true then u σ H1 Q else Q false H1
def tOr (t u:TT):TT:=fun σ H Q=>t σ H fun c H1=>if c=true then Q true H1 else u σ H1 Q
def tNot (t:TT):TT:=fun σ H Q=>t σ H fun c H1=>Q (!c) H1
theorem pw_and1 (ha:PT X a tA):PW X (.BoolOp .And [a] pos) tA:=by
  intro wh pins s σ H Q I h
  refine isTrue_and (thn (ha pins s σ H Q I h) fun c s1 e=>?_)
  cases c with
  | true=>exact isTrue_and_nil e
  | false=>exact e
theorem pw_or1 (ha:PT X a tA):PW X (.BoolOp .Or [a] pos) tA:=by
  intro wh pins s σ H Q I h
  refine isTrue_or (thn (ha pins s σ H Q I h) fun c s1 e=>?_)
  cases c with
  | false=>exact isTrue_or_nil e
  | true=>exact e
theorem pw_and (ha:PT X a tA) (hb:PW X (.BoolOp .And (b::rest) pos) tB'):PW X (.BoolOp .And (a::b::rest) pos) (tAnd tA tB'):=by
  intro wh pins s σ H Q I h
  refine isTrue_and (thn (ha pins s σ H _ I h) fun c s1 ⟨H1,I1,q1⟩=>?_)
  cases c with
  | true=>exact hb wh pins s1 σ H1 Q I1 q1
  | false=>exact ⟨H1,I1,q1⟩
theorem pw_or (ha:PT X a tA) (hb:PW X (.BoolOp .Or (b::rest) pos) tB'):PW X (.BoolOp .Or (a::b::rest) pos) (tOr tA tB'):=by
  intro wh pins s σ H Q I h
  refine isTrue_or (thn (ha pins s σ H _ I h) fun c s1 ⟨H1,I1,q1⟩=>?_)
  cases c with
  | true=>exact ⟨H1,I1,q1⟩
  | false=>exact hb wh pins s1 σ H1 Q I1 q1
theorem pt_not (ha:PT X a tA):PT X (.UnaryOp .Not a pos) (tNot tA):=by
  intro pins s σ H Q I h
  exact isTrue_not (ha pins s σ H (fun c H1=>Q (!c) H1) I h)
def tAndV (ta tb:TE):TE:=fun σ H Q=>ta σ H fun x H1=>∃ c,x=.bl c∧if c=true then tb σ H1 Q else Q (.bl false) H1
def tNotV (ta:TE):TE:=fun σ H Q=>ta σ H fun x H1=>∃ c,x=.bl c∧Q (.bl (!c)) H1
theorem pe_one {op} {t:TE} (h:PE X a t):PE X (.BoolOp op [a] pos) t:=fun pins s σ H Q I hw=>BoolOp_one (h pins s σ H Q I hw)
theorem pe_and (ha:PE X a ta) (hb:PE X (.BoolOp .And (b::rest) pos) tb):PE X (.BoolOp .And (a::b::rest) pos) (tAndV ta tb):=by
  intro pins s σ H Q I h
  refine BoolOp_and (thn (ha pins s σ H _ I h) fun v s1 ⟨x,H1,I1,r1,q1⟩=>?_)
  obtain ⟨c,rfl,q1⟩:=q1
  cases r1
  refine wpAny_truthy_bool ?_
  cases c with
  | true=>exact hb pins s1 σ H1 Q I1 q1
  | false=>exact ⟨.bl false,H1,I1,rfl,q1⟩
theorem pe_not (ha:PE X a ta):PE X (.UnaryOp .Not a pos) (tNotV ta):=by
  intro pins s σ H Q I h
  refine UnaryOp_ (thn (ha pins s σ H _ I h) fun v s1 ⟨x,H1,I1,r1,q1⟩=>?_)
  obtain ⟨c,rfl,q1⟩:=q1
  cases r1
  exact not_of (wpAny_truthy_bool ⟨.bl (!c),H1,I1,rfl,q1⟩)
def tIf (t:TT) (ta tb:TE):TE:=fun σ H Q=>t σ H fun c H1=>if c=true then ta σ H1 Q else tb σ H1 Q
theorem pe_ifExp {c:Expr} (hc:PT X c tA) (ha:PE X a ta) (hb:PE X b tb):PE X (.IfExp c a b pos) (tIf tA ta tb):=by
  intro pins s σ H Q I h
  refine wpAny_IfExp (thn (hc pins s σ H _ I h) fun d s1 ⟨H1,I1,q1⟩=>?_)
  cases d with
  | true=>exact ha pins s1 σ H1 Q I1 q1
  | false=>exact hb pins s1 σ H1 Q I1 q1
end
end L2
namespace L2
open PySem PySem.Spec PyProof.Rows
def SqL (K:PySem.W.Frag) (H:Hp) (a:Addr) (xs:List V):Prop :=
  Rd H a (.lst xs) ∨
    ∃ (o:Obj) (its:Array Value) (n:Nat),K.lookup a=some o∧o.cls=.type "list" ∧ o.dict=none∧o.data=.seq its n∧its.size≤sizeLine∧Vals xs its.toList
def SqT (K:PySem.W.Frag) (H:Hp) (a:Addr) (xs:List V):Prop :=
  Rd H a (.tup xs) ∨
    ∃ (o:Obj) (its:Array Value) (n:Nat),K.lookup a=some o∧o.cls=.type "tuple" ∧ o.data=.seq its n∧its.size≤sizeLine∧Vals xs its.toList
def absV:Value→Option V
  | .none=>some .non
  | .bool b=>some (.bl b)
  | .int i _=>some (.int i)
  | .str x _=>some (.str x)
  | .bytes b _=>some (.byt b)
  | .float b _=>some (.flt b)
  | .ref a=>some (.ref a)
  | .type n=>some (.ty n)
  | _=>none
theorem RelV.abs {x:V} {u:Value} (r:RelV x u):absV u=some x:=by
  cases x with
  | non=>cases r; rfl
  | bl _=>cases r; rfl
  | int _=>obtain ⟨t,rfl⟩:=r; rfl
  | str _=>obtain ⟨t,rfl⟩:=r; rfl
  | byt _=>obtain ⟨t,rfl⟩:=r; rfl
  | flt _=>obtain ⟨t,rfl⟩:=r; rfl
  | ref _=>cases r; rfl
  | ty _=>cases r; rfl
theorem RelV.inj {x y:V} {u:Value} (r:RelV x u) (q:RelV y u):x=y:=Option.some.inj (r.abs.symm.trans q.abs)
theorem Vals.inj:∀ {xs ys:List V} {us:List Value},Vals xs us→Vals ys us→xs=ys
  | _,_,_,.nil,.nil=>rfl
  | _,_,_,.cons r t,.cons r' t'=>by rw [r.inj r',Vals.inj t t']
section
variable {X:Cx} {pins:List (Addr × Obj)} {σ:St} {H:Hp} {s:Shared} {a:Addr} {xs ys:List V}
theorem SqL.of {K:PySem.W.Frag} (h:H a=some (.lst xs)):SqL K H a xs:=.inl (.inl h)
theorem SqT.of {K:PySem.W.Frag} (h:H a=some (.tup xs)):SqT K H a xs:=.inl (.inl h)
theorem Inv.list (I:Inv X pins σ H s) (h:SqL X.K H a xs):∃ its:List Value,Vals xs its∧PlainL s.heap a its.toArray∧xs.length≤sizeLine:=by
  rcases h with h | ⟨o,its,n,hk,hc,hd,hs,hz,r⟩
  · obtain ⟨z,its,n,r,e⟩:=h.ok I.hok
    exact ⟨its,r,⟨_,n,e,rfl,rfl,rfl⟩,z⟩
  · refine ⟨its.toList,r,⟨o,n,I.kIn a o hk,hc,hd,by simpa using hs⟩,?_⟩
    have e:=r.length
    simp only [Array.length_toList] at e
    omega
theorem Inv.tuple (I:Inv X pins σ H s) (h:SqT X.K H a xs):∃ its:List Value,Vals xs its∧IsTup s.heap a its.toArray∧xs.length≤sizeLine:=by
  rcases h with h | ⟨o,its,n,hk,hc,hs,hz,r⟩
  · obtain ⟨⟨z,_⟩,its,r,p⟩:=h.ok I.hok
    exact ⟨its,r,p,z⟩
  · refine ⟨its.toList,r,⟨o,I.kIn a o hk,hc,n,by simpa using hs⟩,?_⟩
    have e:=r.length
    simp only [Array.length_toList] at e
    omega
theorem Inv.list_inj (I:Inv X pins σ H s) (h:SqL X.K H a xs) (h':SqL X.K H a ys):xs=ys:=by
  obtain ⟨its,r,⟨o,n,e,_,_,d⟩,_⟩:=I.list h
  obtain ⟨its',r',⟨o',n',e',_,_,d'⟩,_⟩:=I.list h'
  rw [e] at e'; cases e'
  rw [d] at d'
  injection d' with d1 _
  have:its=its':=by simpa using congrArg Array.toList d1
  subst this
  exact r.inj r'
theorem Inv.tuple_inj (I:Inv X pins σ H s) (h:SqT X.K H a xs) (h':SqT X.K H a ys):xs=ys:=by
  obtain ⟨its,r,⟨o,e,_,n,d⟩,_⟩:=I.tuple h
  obtain ⟨its',r',⟨o',e',_,n',d'⟩,_⟩:=I.tuple h'
  rw [e] at e'; cases e'
  rw [d] at d'
  injection d' with d1 _
  have:its=its':=by simpa using congrArg Array.toList d1
  subst this
  exact r.inj r'
end
abbrev Cx.wish (X:Cx) (E:Value→Shared→Prop):Cx:={ X with xe:=E }
abbrev Cx.nox (X:Cx):Cx:=X.wish fun _ _=>False
theorem Cx.Ok.wish {X:Cx} (ok:X.Ok) (E:Value→Shared→Prop):(X.wish E).Ok :=
  ⟨ok.mod,ok.kind,ok.glob,ok.blt,ok.above,ok.inj,ok.has,ok.cab,ok.hd,ok.frames,ok.stk,ok.exf,ok.bs,ok.bsz,ok.noex,ok.exfs,ok.funs,ok.frf⟩
theorem Cx.Ok.unwish {X:Cx} {E:Value→Shared→Prop} (ok:(X.wish E).Ok):X.Ok :=
  ⟨ok.mod,ok.kind,ok.glob,ok.blt,ok.above,ok.inj,ok.has,ok.cab,ok.hd,ok.frames,ok.stk,ok.exf,ok.bs,ok.bsz,ok.noex,ok.exfs,ok.funs,ok.frf⟩
section
variable {X:Cx} {pins:List (Addr × Obj)} {σ:St} {H:Hp} {s:Shared} {E:Value→Shared→Prop}
theorem Inv.wish (I:Inv X pins σ H s) (E:Value→Shared→Prop):Inv (X.wish E) pins σ H s:=⟨I.ok.wish E,I.os,I.bare,I.base,I.loc,I.cell,I.free,I.freeC,I.pin,I.hok,I.len⟩
theorem Inv.unwish (I:Inv (X.wish E) pins σ H s):Inv X pins σ H s:=⟨I.ok.unwish,I.os,I.bare,I.base,I.loc,I.cell,I.free,I.freeC,I.pin,I.hok,I.len⟩
theorem SP.unwish {D:Ends} {f:Flow} {s':Shared} (h:SP (X.wish E) pins D f s'):SP X pins D f s':=by
  cases f with
  | next=>obtain ⟨σ',H',I,q⟩:=h; exact ⟨σ',H',I.unwish,q⟩
  | brk=>obtain ⟨σ',H',I,q⟩:=h; exact ⟨σ',H',I.unwish,q⟩
  | cont=>obtain ⟨σ',H',I,q⟩:=h; exact ⟨σ',H',I.unwish,q⟩
  | ret u=>obtain ⟨v,σ',H',I,r,q⟩:=h; exact ⟨v,σ',H',I.unwish,r,q⟩
theorem PSs.nox {st:List Stmt} {t:TS} (h:PSs X.nox st t):PSs X st t:=fun pins s σ H D I hw =>
  wpAny_mono (h pins s σ H D (I.wish _) hw) (fun _ _ q=>q.unwish) fun _ _ z=>False.elim z
end
section
variable {X:Cx} {st:Stmt} {rest:List Stmt} {t u:TS} {e:Expr} {te:TE} {pos:Pos}
def tNext:TS:=fun D σ H=>D.nx σ H
def tSeq (t u:TS):TS:=fun D σ H=>t { D with nx:=u D } σ H
theorem pss_nil:PSs X [] tNext:=fun _ _ σ H _ I h=>wpAny_execs_nil ⟨σ,H,I,h⟩
theorem pss_cons (h1:PS X st t) (h2:PSs X rest u):PSs X (st::rest) (tSeq t u):=by
  intro pins s σ H D I h
  refine wpAny_execs_cons (thn (h1 pins s σ H { D with nx:=u D } I h) fun f s1 q=>?_)
  cases f with
  | next =>
    obtain ⟨σ',H',I',q⟩:=q
    exact h2 pins s1 σ' H' D I' q
  | ret v=>exact q
  | brk=>exact q
  | cont=>exact q
theorem pss_one (h1:PS X st t):PSs X [st] t:=by
  intro pins s σ H D I h
  refine wpAny_execs_cons (thn (h1 pins s σ H D I h) fun f s1 q=>?_)
  cases f with
  | next=>exact wpAny_execs_nil q
  | ret v=>exact q
  | brk=>exact q
  | cont=>exact q
theorem Inv.quiet {pins:List (Addr × Obj)} {σ:St} {H:Hp} {s:Shared} (I:Inv X pins σ H s):interactive X.env=false:=by simp [interactive,I.ok.kind]
def tDrop (te:TE):TS:=fun D σ H=>te σ H fun _ H1=>D.nx σ H1
theorem ps_expr (he:PE X e te) (hs:swapsWith e none pos.line X.env=pure false:=by rfl):PS X (.Expr e pos) (tDrop te):=by
  intro pins s σ H D I h
  exact wpAny_Expr_any (thn (he pins s σ H _ I h) fun v s1 ⟨x,H1,I1,r1,q1⟩=>⟨σ,H1,I1,q1⟩) I.quiet hs
def tRet (te:TE):TS:=fun D σ H=>te σ H D.rt
theorem ps_ret (he:PE X e te):PS X (.Return (some e) pos) (tRet te):=by
  intro pins s σ H D I h
  exact wpAny_Return_some (thn (he pins s σ H _ I h) fun v s1 ⟨x,H1,I1,r1,q1⟩=>⟨x,σ,H1,I1,r1,q1⟩)
def tIfS (c:TT) (t u:TS):TS:=fun D σ H=>c σ H fun b H1=>if b=true then t D σ H1 else u D σ H1
theorem ps_if {c:Expr} {a b:List Stmt} {tc:TT} (hc:PT X c tc) (ha:PSs X a t) (hb:PSs X b u):PS X (.If c a b pos) (tIfS tc t u):=by
  intro pins s σ H D I h
  refine wpAny_If (thn (hc pins s σ H _ I h) fun d s1 ⟨H1,I1,q1⟩=>?_)
  cases d with
  | true=>exact ha pins s1 σ H1 D I1 q1
  | false=>exact hb pins s1 σ H1 D I1 q1
end
abbrev TG:=V→St→Hp→(St→Hp→Prop)→Prop
abbrev TGs:=List V→St→Hp→(St→Hp→Prop)→Prop
def PG (X:Cx) (target:Expr) (t:TG):Prop :=
  ∀ (pins:List (Addr × Obj)) (s:Shared) (σ:St) (H:Hp) (v:V) (u:Value) (Q:St→Hp→Prop),Inv X pins σ H s→RelV v u→t v σ H Q →
    wpAny (model X.prog X.w) X.A (assign target X.env u) (fun _ s'=>∃ σ' H',Inv X pins σ' H' s'∧Q σ' H') X.xe s
def PGs (X:Cx) (ts:List Expr) (t:TGs):Prop :=
  ∀ (pins:List (Addr × Obj)) (s:Shared) (σ:St) (H:Hp) (vs:List V) (us:List Value) (Q:St→Hp→Prop),Inv X pins σ H s→Vals vs us→t vs σ H Q →
    wpAny (model X.prog X.w) X.A (assignInOrder ((assignEach ts X.env).map (·.2)) us) (fun _ s'=>∃ σ' H',Inv X pins σ' H' s'∧Q σ' H') X.xe s
abbrev TSet:=V→V→V→Hp→(Hp→Prop)→Prop
def PSet (X:Cx) (t:TSet):Prop :=
  ∀ (pins:List (Addr × Obj)) (s:Shared) (σ:St) (H:Hp) (o i v:V) (ov iv u:Value) (Q:Hp→Prop),Inv X pins σ H s→RelV o ov→RelV i iv→RelV v u→t o i v H Q →
    wpAny (model X.prog X.w) X.A (setItem ov iv u) (fun _ s'=>∃ H',Inv X pins σ H' s'∧Q H') X.xe s
section
variable {X:Cx} {pos:Pos}
def gName (i:Nat):TG:=fun v σ H Q=>Q (σ.set i (some v)) H
theorem pg_name {i:Nat} {x:Str} (hN:X.N.Nodup) (hi:X.N[i]?=some x) (hx:Loc X.env.scope x) (hf:X.fn x=true∨X.env.scope.names.lookup x=some .local:=by first | exact .inl rfl | exact .inr rfl | assumption):PG X (.Name x pos) (gName i):=by
  intro pins s σ H v u Q I r h
  exact wpAny_assign_Name (store_ok I hN hi hx r (fun s' I'=>⟨_,H,I',h⟩) hf)
def gNil:TGs:=fun vs σ H Q=>vs=[]∧Q σ H
def gCons (t:TG) (u:TGs):TGs:=fun vs σ H Q=>∃ v r,vs=v::r∧t v σ H fun σ' H'=>u r σ' H' Q
theorem pgs_nil:PGs X [] gNil:=by
  intro pins s σ H vs us Q I r h
  obtain ⟨e,h⟩:=h
  subst e
  cases r
  exact assignInOrder_nil ⟨σ,H,I,h⟩
theorem pgs_cons {e:Expr} {es:List Expr} {t:TG} {u:TGs} (h1:PG X e t) (h2:PGs X es u)
    (hs:(assignEach (e::es) X.env).map (·.2)=assign e X.env::(assignEach es X.env).map (·.2):=by rfl):PGs X (e::es) (gCons t u):=by
  intro pins s σ H vs us Q I r h
  obtain ⟨v,vr,e1,h⟩:=h
  subst e1
  cases r with
  | cons r rr =>
    rw [hs]
    refine assignInOrder_cons (thn (h1 pins s σ H _ _ _ I r h) fun _ s1 ⟨σ1,H1,I1,q1⟩=>?_)
    exact h2 pins s1 σ1 H1 _ _ Q I1 rr q1
def gTup (K:PySem.W.Frag) (n:Nat) (t:TGs):TG:=fun v σ H Q=>∃ a xs,v=.ref a∧SqT K H a xs∧xs.length=n∧t xs σ H Q
theorem pg_tup {es:List Expr} {k:Nat} {t:TGs} {n:Nat} (hc:X.calm=true) (h:PGs X es t)
    (hn:(assignEach es X.env).length=n:=by rfl) (hst:(assignEach es X.env).findIdx? (·.1)=none:=by rfl):PG X (.Tuple es k pos) (gTup X.K n t):=by
  intro pins s σ H v u Q I r hw
  obtain ⟨a,xs,e1,hq,hl,hw⟩:=hw
  subst e1
  cases r
  obtain ⟨its,rv,ht,hz⟩:=I.tuple hq
  refine assign_Tuple_tuple (I.ok.hd hc) ht (by simp [hn,← hl,rv.length]) hst fun h' hx=>?_
  have I1:Inv X pins σ H { s with heap:=h' }:=I.kept (t':=s.toks) fun b o e=>hx b o (Nat.ne_of_lt (Heap.lt_size e)) e
  exact h pins _ σ H xs _ Q I1 (by simpa using rv) hw
def gSub (to ti:TE) (t:TSet):TG:=fun v σ H Q=>to σ H fun o H1=>ti σ H1 fun i H2=>t o i v H2 fun H3=>Q σ H3
theorem pg_sub {o i:Expr} {to ti:TE} {t:TSet} (ho:PE X o to) (hi:PE X i ti) (hs:PSet X t)
    (ha:∀ v,assign (.Subscript o i pos) X.env v=(do
      let ov ← holding [v] (eval o X.env)
      let iv ← holding [v,ov] (eval i X.env)
      standAt pos
      holding [v,ov,iv] (setItem ov iv v)
      release [v,ov,iv] []):=by intro _; rfl):PG X (.Subscript o i pos) (gSub to ti t):=by
  intro pins s σ H v u Q I r h
  rw [ha]
  refine wpAny_bind (wpAny_holding (thn (ho pins s σ H _ I h) fun ov s1 ⟨x,H1,I1,r1,q1⟩=>?_))
  refine wpAny_bind (wpAny_holding (thn (hi pins s1 σ H1 _ I1 q1) fun iv s2 ⟨y,H2,I2,r2,q2⟩=>?_))
  refine wpAny_bind (wpAny_standAt (wpAny_bind (wpAny_holding (thn (hs pins s2 σ H2 x y v ov iv u _ I2 r1 r2 r q2) fun _ s3 ⟨H3,I3,q3⟩=>?_))))
  exact wpAny_release ⟨σ,H3,I3,q3⟩
def tAsg (te:TE) (g:TG):TS:=fun D σ H=>te σ H fun x H1=>g x σ H1 D.nx
theorem ps_asg {tg e:Expr} {te:TE} {g:TG} (he:PE X e te) (hg:PG X tg g) (hs:swapsWithSole [tg] e pos.line X.env=pure false:=by rfl) (hw:swappedStores [tg] e X.env=pure none:=by rfl)
    (h1:(assignEach [tg] X.env).map (·.2)=[assign tg X.env]:=by rfl):PS X (.Assign [tg] e pos) (tAsg te g):=by
  intro pins s σ H D I h
  refine wpAny_Assign_stores (thn (he pins s σ H _ I h) fun v s1 ⟨x,H1,I1,r1,q1⟩=>?_) hs hw
  rw [h1]
  exact thn (hg pins s1 σ H1 x v _ I1 r1 q1) fun _ s2 q=>q
theorem ps_set {i:Nat} {x:Str} {e:Expr} {te:TE} {pos':Pos} (hN:X.N.Nodup) (hi:X.N[i]?=some x) (hx:Loc X.env.scope x) (he:PE X e te) (hs:swapsWith e (some (.Name x pos')) pos.line X.env=pure false:=by rfl) (hf:X.fn x=true∨X.env.scope.names.lookup x=some .local:=by first | exact .inl rfl | exact .inr rfl | assumption) :
    PS X (.Assign [.Name x pos'] e pos) (tAsg te (gName i)):=by
  intro pins s σ H D I h
  refine wpAny_Assign_Name (thn (he pins s σ H _ I h) fun v s1 ⟨y,H1,I1,r1,q1⟩=>?_) hs
  exact store_ok I1 hN hi hx r1 (fun s2 I2=>⟨_,H1,I2,q1⟩) hf
def tPar (i j:Nat) (ta:TA):TS:=fun D σ H=>ta σ H fun vs H1=>∃ v w,vs=[v,w]∧D.nx ((σ.set i (some v)).set j (some w)) H1
theorem ps_par {i j:Nat} {x y:Str} {a b:Expr} {ta:TA} {px py pt:Pos} {kt k2 pt2} (hc:X.calm=true) (hN:X.N.Nodup) (hi:X.N[i]?=some x) (hj:X.N[j]?=some y) (hij:i≠j)
    (hx:X.env.scope.names.lookup x=some .local) (hy:X.env.scope.names.lookup y=some .local) (ha:PA X [a,b] ta)
    (hw:swappedStores [.Tuple [.Name x px,.Name y py] kt pt] (.Tuple [a,b] k2 pt2) X.env=pure (some [x,y]))
    (hs:swapsWithSole [.Tuple [.Name x px,.Name y py] kt pt] (.Tuple [a,b] k2 pt2) pos.line X.env=pure false:=by rfl) :
    PS X (.Assign [.Tuple [.Name x px,.Name y py] kt pt] (.Tuple [a,b] k2 pt2) pos) (tPar i j ta):=by
  intro pins s σ H D I h
  rw [exec_Assign_arm]
  refine wpAny_bind (wpAny_standAt ?_)
  rw [hs]
  refine wpAny_bind (wpAny_pure ?_)
  rw [if_neg (by decide)]
  refine wpAny_bind (Tuple_ (thn (ha _ pins s σ H _ I h) fun us s1 ⟨vs,H1,I1,r1,q1⟩=>?_))
  obtain ⟨v,w,e1,q1⟩:=q1
  subst e1
  obtain ⟨u1,u2,rfl,rv,rw'⟩:∃ u1 u2,us=[u1,u2]∧RelV v u1∧RelV w u2:=by
    cases r1 with
    | cons p q =>
      cases q with
      | cons p' q' =>
        cases q'
        exact ⟨_,_,rfl,p,p'⟩
  refine wpAny_newObj_type ?_ (by show 2≤sizeLine; decide)
  have I2:Inv X pins σ H1 { s1 with heap:=s1.heap.push { cls:=.type "tuple",data:=.seq [u1,u2].toArray } }:=I1.kept (t':=s1.toks) fun b o e=>Heap.get?_push_of_some _ e
  rw [hw]
  refine wpAny_bind (wpAny_pure ?_)
  show wpAny (model X.prog X.w) X.A (do rule "assign.swapped-stores"; let items ← unpackItems (.ref s1.heap.objs.size) 2 none; assignInOrder [fun v=>bindName X.env y v,fun v=>bindName X.env x v] items.reverse; pure Flow.next) _ _ _
  refine wpAny_bind (wpAny_rule (wpAny_bind (unpackItems_tuple (items:=#[u1,u2]) (I.ok.hd hc) (IsTup.new s1.heap _) fun h' hx'=>?_)))
  have I3:=I2.kept (h':=h') (t':=s1.toks) fun b o e=>hx' b o (Nat.ne_of_lt (Heap.lt_size e)) e
  show wpAny _ _ (assignInOrder [fun v=>bindName X.env y v,fun v=>bindName X.env x v] [u2,u1] >>= fun _=>pure Flow.next) _ _ _
  refine wpAny_bind (assignInOrder_cons (wpAny_bindName (store_ok I3 hN hj (.inl hy) rw' (fun s2 I4=>?_) (.inr hy))))
  refine assignInOrder_cons (wpAny_bindName (store_ok I4 hN hi (.inl hx) rv (fun s3 I5=>assignInOrder_nil (wpAny_pure ?_)) (.inr hx)))
  rw [List.set_comm _ _ (Ne.symm hij)] at I5
  exact ⟨_,H1,I5,q1⟩
end
section
variable {X:Cx} {pos:Pos}
def tWhile (c:TT) (tb:TS):TS:=fun D σ H=>∃ W:Nat→St→Hp→Prop,(∃ m,W m σ H)∧∀ m σ H,W m σ H →
  c σ H fun b H1=>if b=true then ∃ N:St→Hp→Prop,(∀ σ' H',N σ' H'→∃ m',m' < m∧W m' σ' H')∧tb { D with nx:=N,ct:=N,bk:=D.nx } σ H1 else D.nx σ H1
theorem ps_while {c:Expr} {body:List Stmt} {tc:TT} {tb:TS} (hp:PassesOwn (model X.prog X.w) X.A X.env X.xe) (hc:PT X c tc) (hb:PSs X body tb):PS X (.While c body [] pos) (tWhile tc tb):=by
  intro pins s σ H D I h
  obtain ⟨W,⟨m0,w0⟩,turn⟩:=h
  refine wpAny_While (codeAny_whileLoop (fun n s'=>∃ σ' H',Inv X pins σ' H' s'∧W n σ' H') ?_ m0 ⟨σ,H,I,w0⟩)
  rintro n s1 ⟨σ1,H1,I1,w1⟩
  refine wpAny_passesOwn hp (thn (hc pins s1 σ1 H1 _ I1 (turn n σ1 H1 w1)) fun b s2 ⟨H2,I2,q2⟩=>?_)
  cases b with
  | true =>
    obtain ⟨N,hN,q2⟩:=q2
    rw [if_pos rfl]
    refine wpAny_passesOwn hp (thn (hb pins s2 σ1 H2 _ I2 q2) fun f s3 q3=>?_)
    cases f with
    | next =>
      obtain ⟨σ3,H3,I3,n3⟩:=q3
      obtain ⟨m',hm,w3⟩:=hN σ3 H3 n3
      exact ⟨m',hm,σ3,H3,I3,w3⟩
    | cont =>
      obtain ⟨σ3,H3,I3,n3⟩:=q3
      obtain ⟨m',hm,w3⟩:=hN σ3 H3 n3
      exact ⟨m',hm,σ3,H3,I3,w3⟩
    | brk=>exact q3
    | ret v=>exact q3
  | false =>
    rw [if_neg Bool.false_ne_true]
    exact wpAny_execs_nil ⟨σ1,H2,I2,q2⟩
end
structure It where
  go:Nat→Hp→Prop
  yld:Nat→Hp→V→Hp→Prop
  stop:Nat→Hp→Prop
def FpOk (X:Cx) (pins:List (Addr × Obj)) (H:Hp) (b:Addr):Prop :=
  H b=none∧b≠X.env.locals∧b ∉ X.fs∧(b∈X.ex∨X.s₀.heap.objs.size≤b)∧(∀ x c,X.env.cells.lookup x=some c→c≠b)∧∀ p∈X.pn++pins,p.1≠b
theorem Inv.fpOk {X:Cx} {pins:List (Addr × Obj)} {σ:St} {H H':Hp} {s:Shared} {b:Addr} (I:Inv X pins σ H s) (hb:s.heap.objs.size≤b) (hn:H' b=none):FpOk X pins H' b:=by
  refine ⟨hn,Nat.ne_of_gt (Nat.lt_of_lt_of_le I.lt hb),I.nofs hb,.inr (Nat.le_trans I.sz hb),fun x c e z=>?_,fun p hp z=>?_⟩
  · obtain ⟨v,q⟩:=I.cell x c e
    exact absurd (Nat.lt_of_lt_of_le q.lt (by rw [z]; exact hb)) (Nat.lt_irrefl _)
  · exact absurd (Nat.lt_of_lt_of_le (Heap.lt_size (I.pin p hp).1) (by rw [z]; exact hb)) (Nat.lt_irrefl _)
structure Turn (P:Program) (w:World) (K:PySem.W.Frag) (tg:Expr) (J:It) (fp:List Addr) (it:Addr) (tn:Nat→Heap→Prop):Prop where
  mem:it∈fp
  obj:∀ i h,tn i h→∀ b∈fp,∃ o,h.get? b=some o∧∀ v,o.data ≠ .cell v
  keep:∀ i h h',tn i h→(∀ b∈fp,∀ o,h.get? b=some o→h'.get? b=some o)→tn i h'
  item:∀ (X:Cx),X.prog=P→X.w=w→X.K=K→X.calm=true→∀ (i:Nat) (pins:List (Addr × Obj)) (s:Shared) (σ:St) (H:Hp) (E:Value→Shared→Prop),Inv X pins σ H s→(∀ b∈fp,FpOk X pins H b)→tn i s.heap→J.go i H →
    wpAny (model P w) X.A (pyNext (.ref it)) (fun r s1=>∃ u,r=some u ∧
      wpAny (model P w) X.A (letOwnedTupleGo tg (.ref it) u) (fun _ s2=>∃ x H',Inv X pins σ H' s2∧RelV x u∧J.yld i H x H'∧tn (i+1) s2.heap∧∀ b∈fp,H' b=none) E s1) E s
  done:∀ (X:Cx),X.prog=P→X.w=w→X.K=K→X.calm=true→∀ (i:Nat) (pins:List (Addr × Obj)) (s:Shared) (σ:St) (H:Hp) (E:Value→Shared→Prop),Inv X pins σ H s→(∀ b∈fp,FpOk X pins H b)→tn i s.heap→J.stop i H →
    wpAny (model P w) X.A (pyNext (.ref it)) (fun r s1=>r=none∧Inv X pins σ H s1) E s
  self:∀ (A:Around) (i:Nat) (s:Shared) (Q:Value→Shared→Prop) (E:Value→Shared→Prop),tn i s.heap→Q (.ref it) s→wpAny (model P w) A (pyIter (.ref it)) Q E s
abbrev TI:=St→Hp→(It→Hp→Prop)→Prop
def PIE (X:Cx) (pins:List (Addr × Obj)) (σ:St) (tg:Expr) (R:It→Hp→Prop) (itv:Value) (s2:Shared):Prop :=
  ∃ (it:Addr) (fp:List Addr) (tn:Nat→Heap→Prop) (J:It) (H':Hp),itv=.ref it∧Inv X pins σ H' s2∧Turn X.prog X.w X.K tg J fp it tn∧tn 0 s2.heap∧(∀ b∈fp,FpOk X pins H' b)∧R J H'
def PI (X:Cx) (tg iter:Expr) (wi:TI):Prop :=
  ∀ (pins:List (Addr × Obj)) (s:Shared) (σ:St) (H:Hp) (R:It→Hp→Prop),Inv X pins σ H s→wi σ H R →
    wpAny (model X.prog X.w) X.A (eval iter X.env) (fun v s1=>wpAny (model X.prog X.w) X.A (pyIter v) (PIE X pins σ tg R) X.xe s1) X.xe s
theorem go_of {M:Model} {A:Around} {E:Value→Shared→Prop} {s:Shared} {tg:Expr} {it:Addr} {u:Value} {o:Obj} {n:String} {vs:Array Value} {Q:Unit→Shared→Prop} (ho:s.heap.get? it=some o) (hc:o.cls=.type n) (hd:o.data=.fields vs)
    (hn:["enumerate", "zip", "dict_itemiterator", "dict_reverseitemiterator", "odict_iterator", "itertools.zip_longest", "itertools.pairwise"].contains n=false) (hQ:Q () s):wpAny M A (letOwnedTupleGo tg (.ref it) u) Q E s:=by
  unfold letOwnedTupleGo
  cases tg <;> first
    | exact wpAny_pure hQ
    | (cases u <;> first
        | exact wpAny_pure hQ
        | (refine wpAny_bind (wpAny_load ho ?_)
           rw [hc,hd]
           show wpAny M A (if (["enumerate", "zip", "dict_itemiterator", "dict_reverseitemiterator", "odict_iterator", "itertools.zip_longest", "itertools.pairwise"].contains n&&vs[0]? == some (rawInt _))=true then _ else _) Q E s
           rw [if_neg (by intro h; rw [hn,Bool.false_and] at h; cases h)]
           exact wpAny_pure hQ))
def Itl (K:PySem.W.Frag) (a:Addr):It :=
  ⟨fun i H=>∃ xs x,SqL K H a xs∧xs[i]?=some x,fun i H x H'=>H'=H∧∀ xs,SqL K H a xs→xs[i]?=some x,fun i H=>∃ xs,SqL K H a xs∧xs.length≤i⟩
def Itt (K:PySem.W.Frag) (a:Addr):It :=
  ⟨fun i H=>∃ xs x,SqT K H a xs∧xs[i]?=some x,fun i H x H'=>H'=H∧∀ xs,SqT K H a xs→xs[i]?=some x,fun i H=>∃ xs,SqT K H a xs∧xs.length≤i⟩
def Itr (lo:Int) (n:Nat):It:=⟨fun i _=>i<n,fun i H x H'=>H'=H∧x=.int (lo+i),fun i _=>n≤i⟩
theorem turn_list {P:Program} {w:World} {K:PySem.W.Frag} {tg:Expr} (a it:Addr):Turn P w K tg (Itl K a) [it] it (fun i h=>h.IsListIter it a i) where
  mem:=by simp
  obj:=fun i h st b hb=>by
    have e:b=it:=by simpa using hb
    subst e
    obtain ⟨o,e,c,d⟩:=st
    exact ⟨o,e,fun v z=>by rw [d] at z; cases z⟩
  keep:=fun i h h' st k=>st.at fun o e=>k it (by simp) o e
  item:=by
    intro X hP hw hK hc i pins s σ H E I hf st hg
    subst hP hw hK
    obtain ⟨xs,x,hq,hx⟩:=hg
    obtain ⟨its,rv,p,hz⟩:=I.list hq
    obtain ⟨u,hu,ru⟩:=rv.get hx
    obtain ⟨f0,f1,f2,f3,f4,f5⟩:=hf it (by simp)
    refine wpAny_pyNext_list_item st p.isList (x:=u) (by simpa using hu) fun h' st' sb=>?_
    have I1:Inv X pins σ H { s with heap:=h' }:=I.turned (t':=s.toks) (fun b o hb e=>(sb.2 b hb).trans e) f0 f1 f3 f4 f5
    obtain ⟨o,e,c,d⟩:=id st'
    exact ⟨u,rfl,go_of (s:={ s with heap:=h' }) e c d (by decide) ⟨x,H,I1,ru,⟨rfl,fun ys hy=>by rw [I.list_inj hy hq]; exact hx⟩,st',fun b hb=>(hf b hb).1⟩⟩
  done:=by
    intro X hP hw hK hc i pins s σ H E I hf st hg
    subst hP hw hK
    obtain ⟨xs,hq,hx⟩:=hg
    obtain ⟨its,rv,p,hz⟩:=I.list hq
    obtain ⟨f0,f1,f2,f3,f4,f5⟩:=hf it (by simp)
    have hl:=rv.length
    exact wpAny_pyNext_list_end (I.ok.hd hc) st p.isList (by simp; omega) fun h' eb=>⟨rfl,I.turned (t':=s.toks) (fun b o hb e=>eb b o hb e) f0 f1 f3 f4 f5⟩
  self:=fun _ _ _ _ _ st h=>wpAny_pyIter_listiter st h
theorem turn_tuple {P:Program} {w:World} {K:PySem.W.Frag} {tg:Expr} (a it:Addr):Turn P w K tg (Itt K a) [it] it (fun i h=>h.IsTupleIter it a i) where
  mem:=by simp
  obj:=fun i h st b hb=>by
    have e:b=it:=by simpa using hb
    subst e
    obtain ⟨o,e,c,d⟩:=st
    exact ⟨o,e,fun v z=>by rw [d] at z; cases z⟩
  keep:=fun i h h' st k=>st.at fun o e=>k it (by simp) o e
  item:=by
    intro X hP hw hK hc i pins s σ H E I hf st hg
    subst hP hw hK
    obtain ⟨xs,x,hq,hx⟩:=hg
    obtain ⟨its,rv,p,hz⟩:=I.tuple hq
    obtain ⟨u,hu,ru⟩:=rv.get hx
    obtain ⟨f0,f1,f2,f3,f4,f5⟩:=hf it (by simp)
    refine wpAny_pyNext_tuple_item st (show s.heap.IsTuple a its.toArray from p) (x:=u) (by simpa using hu) fun h' st' sb=>?_
    have I1:Inv X pins σ H { s with heap:=h' }:=I.turned (t':=s.toks) (fun b o hb e=>(sb.2 b hb).trans e) f0 f1 f3 f4 f5
    obtain ⟨o,e,c,d⟩:=id st'
    exact ⟨u,rfl,go_of (s:={ s with heap:=h' }) e c d (by decide) ⟨x,H,I1,ru,⟨rfl,fun ys hy=>by rw [I.tuple_inj hy hq]; exact hx⟩,st',fun b hb=>(hf b hb).1⟩⟩
  done:=by
    intro X hP hw hK hc i pins s σ H E I hf st hg
    subst hP hw hK
    obtain ⟨xs,hq,hx⟩:=hg
    obtain ⟨its,rv,p,hz⟩:=I.tuple hq
    obtain ⟨f0,f1,f2,f3,f4,f5⟩:=hf it (by simp)
    have hl:=rv.length
    exact wpAny_pyNext_tuple_end (I.ok.hd hc) st (show s.heap.IsTuple a its.toArray from p) (by simp; omega) fun h' eb=>⟨rfl,I.turned (t':=s.toks) (fun b o hb e=>eb b o hb e) f0 f1 f3 f4 f5⟩
  self:=fun _ _ _ _ _ st h=>wpAny_pyIter_tupleiter st h
theorem turn_range {P:Program} {w:World} {K:PySem.W.Frag} {tg:Expr} (it:Addr) (lo:Int) (n:Nat):Turn P w K tg (Itr lo n) [it] it (fun i h=>IsRangeIter h it (lo+(i:Nat)*1) ((n:Int) - (i:Nat)) 1) where
  mem:=by simp
  obj:=fun i h st b hb=>by
    have e:b=it:=by simpa using hb
    subst e
    exact ⟨_,st,fun v z=>by
      have z':Data.fields _=Data.cell v:=z
      cases z'⟩
  keep:=fun i h h' st k=>k it (by simp) _ st
  item:=by
    intro X hP hw hK hc i pins s σ H E I hf st hg
    subst hP hw hK
    obtain ⟨f0,f1,f2,f3,f4,f5⟩:=hf it (by simp)
    have W:=Walks.range (prog:=X.prog) (w:=X.w) (I.ok.hd hc) it lo 1 n
    refine W.item i s _ _ hg st fun v h' tk hv st' kk=>?_
    obtain ⟨t,rfl⟩:=hv
    have I1:Inv X pins σ H { s with heap:=h',toks:=tk }:=I.turned (fun b o hb e=>kk b o (by simpa using hb) e) f0 f1 f3 f4 f5
    refine ⟨_,rfl,go_of (s:={ s with heap:=h',toks:=tk }) (n := "range_iterator") st' rfl rfl (by decide) ⟨.int (lo+i),H,I1,⟨t,?_⟩,⟨rfl,rfl⟩,st',fun b hb=>(hf b hb).1⟩⟩
    rw [Int.mul_one]
  done:=by
    intro X hP hw hK hc i pins s σ H E I hf st hg
    subst hP hw hK
    obtain ⟨f0,f1,f2,f3,f4,f5⟩:=hf it (by simp)
    exact wpAny_pyNext_range_end (I.ok.hd hc) st (by have:n≤i:=hg; omega) fun h' eb=>⟨rfl,I.turned (t':=s.toks) (fun b o hb e=>eb b o hb e) f0 f1 f3 f4 f5⟩
  self:=fun _ _ _ _ _ st h=>wpAny_pyIter_rangeiter st h
end L2
namespace L2
open PySem PySem.Spec PyProof.Rows
section
variable {X:Cx} {tg:Expr}
def iList (K:PySem.W.Frag) (tl:TE):TI:=fun σ H R=>tl σ H fun x H1=>∃ a,x=.ref a∧(∃ xs,SqL K H1 a xs)∧R (Itl K a) H1
def iTup (K:PySem.W.Frag) (tl:TE):TI:=fun σ H R=>tl σ H fun x H1=>∃ a,x=.ref a∧(∃ xs,SqT K H1 a xs)∧R (Itt K a) H1
theorem pi_list {l:Expr} {tl:TE} (hl:PE X l tl):PI X tg l (iList X.K tl):=by
  intro pins s σ H R I h
  refine thn (hl pins s σ H _ I h) fun v s1 ⟨x,H1,I1,r1,q1⟩=>?_
  obtain ⟨a,e,⟨xs,hq⟩,q⟩:=q1
  subst e
  cases r1
  obtain ⟨its,rv,p,hz⟩:=I1.list hq
  refine wpAny_pyIter_list p.isList ?_
  refine ⟨s1.heap.objs.size,[s1.heap.objs.size],_,_,H1,rfl,I1.kept (t':=s1.toks) fun b o e=>Heap.get?_push_of_some _ e,turn_list a _,⟨_,Heap.get?_push_size _ rfl,rfl,rfl⟩,fun b hb=>?_,q⟩
  have e:b=s1.heap.objs.size:=by simpa using hb
  subst e
  exact I1.fpOk (Nat.le_refl _) (I1.hok.fresh (Nat.le_refl _))
theorem pi_tup {l:Expr} {tl:TE} (hl:PE X l tl):PI X tg l (iTup X.K tl):=by
  intro pins s σ H R I h
  refine thn (hl pins s σ H _ I h) fun v s1 ⟨x,H1,I1,r1,q1⟩=>?_
  obtain ⟨a,e,⟨xs,hq⟩,q⟩:=q1
  subst e
  cases r1
  obtain ⟨its,rv,p,hz⟩:=I1.tuple hq
  refine wpAny_pyIter_tuple (show s1.heap.IsTuple a its.toArray from p) ?_
  refine ⟨s1.heap.objs.size,[s1.heap.objs.size],_,_,H1,rfl,I1.kept (t':=s1.toks) fun b o e=>Heap.get?_push_of_some _ e,turn_tuple a _,⟨_,Heap.get?_push_size _ rfl,rfl,rfl⟩,fun b hb=>?_,q⟩
  have e:b=s1.heap.objs.size:=by simpa using hb
  subst e
  exact I1.fpOk (Nat.le_refl _) (I1.hok.fresh (Nat.le_refl _))
theorem range_it {pins:List (Addr × Obj)} {σ:St} {H:Hp} {s:Shared} {R:It→Hp→Prop} {E:Value→Shared→Prop} {lo hi:Int} {t u v:Tok} {tk:Nat} (I:Inv X pins σ H s) (h1:-(2^62)≤lo) (h2:lo<2^62) (h3:-(2^62)≤hi) (h4:hi<2^62)
    (q:R (Itr lo (hi - lo).toNat) H):wpAny (model X.prog X.w) X.A (pyIter (.ref s.heap.objs.size)) (PIE X pins σ tg R) E { s with heap:=s.heap.push { cls:=.type "range",data:=.fields #[.int lo t,.int hi u,.int 1 v] },toks:=tk }:=by
  refine wpAny_pyIter_range (IsRange.new ..) (small_one h1 h2 h3 h4) ?_
  have I1:Inv X pins σ H { s with heap:=s.heap.push { cls:=.type "range",data:=.fields #[.int lo t,.int hi u,.int 1 v] },toks:=tk }:=I.kept fun b o e=>Heap.get?_push_of_some _ e
  refine ⟨(s.heap.push { cls:=.type "range",data:=.fields #[.int lo t,.int hi u,.int 1 v] }).objs.size,[(s.heap.push { cls:=.type "range",data:=.fields #[.int lo t,.int hi u,.int 1 v] }).objs.size],_,_,H,rfl,
    I1.kept (t':=tk) fun b o e=>Heap.get?_push_of_some _ e,turn_range _ lo (hi - lo).toNat,?_,fun b hb=>?_,q⟩
  · have e1:lo+((0:Nat):Int)*1=lo:=by simp
    have e2:(((hi - lo).toNat:Nat):Int) - ((0:Nat):Int)=Builtin.Range.rangeSize lo hi 1:=by rw [rangeSize_one]; split <;> omega
    show IsRangeIter _ _ (lo+((0:Nat):Int)*1) ((((hi - lo).toNat:Nat):Int) - ((0:Nat):Int)) 1
    rw [e1,e2]
    exact Heap.get?_push_size _ rfl
  · have e:b=(s.heap.push { cls:=.type "range",data:=.fields #[.int lo t,.int hi u,.int 1 v] }).objs.size:=by simpa using hb
    subst e
    exact I1.fpOk (Nat.le_refl _) (I1.hok.fresh (Nat.le_refl _))
def iRng1 (ta:TA):TI:=fun σ H R=>ta σ H fun vs H1=>∃ j:Int,vs=[.int j]∧-(2^62)≤j∧j<2^62∧R (Itr 0 j.toNat) H1
theorem pi_range1 {a:Expr} {ta:TA} {p pos:Pos} (hg:Gl X "range") (hm:X.mg "range" = none) (ha:PA X [a] ta) (hs:starEach [a] X.env=[(false,eval a X.env)]:=by rfl):PI X tg (.Call (.Name "range" p) [a] [] pos) (iRng1 ta):=by
  intro pins s σ H R I h
  refine Call_ (ld_blt I hg hm boot_range (PyProof.Rows.callWith_type1 (thn (ha pos pins s σ H _ I h) fun us s1 ⟨vs,H1,I1,r1,q1⟩=>?_) hs rfl))
  obtain ⟨j,e,q1,q2,q⟩:=q1
  subst e
  cases r1 with
  | cons r rr =>
    cases rr
    obtain ⟨t,rfl⟩:=r
    exact call_range_1 (range_it I1 (by omega) (by omega) q1 q2 (by simpa using q))
def tFor (wi:TI) (g:TG) (tb:TS):TS:=fun D σ H=>wi σ H fun J H1=>∃ W:Nat→Nat→St→Hp→Prop,(∃ m,W 0 m σ H1)∧∀ i m σ H,W i m σ H →
  (J.stop i H∧D.nx σ H)∨(J.go i H∧∃ N:St→Hp→Prop,(∀ σ' H',N σ' H'→∃ m',m' < m∧W (i+1) m' σ' H')∧∀ x H',J.yld i H x H'→g x σ H' fun σ2 H2=>tb { D with nx:=N,ct:=N,bk:=D.nx } σ2 H2)
def pinsAt (fp:List Addr) (h:Heap):List (Addr × Obj):=fp.filterMap fun b=>(h.get? b).map fun o=>(b,o)
theorem mem_pinsAt {fp:List Addr} {h:Heap} {b:Addr} {o:Obj} (hb:b∈fp) (e:h.get? b=some o):(b,o)∈pinsAt fp h:=List.mem_filterMap.mpr ⟨b,hb,by rw [e]; rfl⟩
theorem of_pinsAt {fp:List Addr} {h:Heap} {p:Addr × Obj} (hp:p∈pinsAt fp h):p.1∈fp∧h.get? p.1=some p.2:=by
  obtain ⟨b,hb,e⟩:=List.mem_filterMap.mp hp
  cases q:h.get? b with
  | none=>rw [q] at e; cases e
  | some o =>
    rw [q] at e
    have e':(b,o)=p:=Option.some.inj e
    subst e'
    exact ⟨hb,q⟩
theorem Inv.pinned {pins:List (Addr × Obj)} {σ:St} {H:Hp} {s:Shared} {fp:List Addr} (I:Inv X pins σ H s) (hf:∀ b∈fp,FpOk X pins H b) (ho:∀ b∈fp,∃ o,s.heap.get? b=some o∧∀ v,o.data ≠ .cell v):Inv X (pins++pinsAt fp s.heap) σ H s :=
  I.pins_of fun p hp=>(List.mem_append.mp hp).elim (fun z=>I.pin p (List.mem_append_right _ z)) fun z=>by
    obtain ⟨hb,e⟩:=of_pinsAt z
    obtain ⟨f0,f1,f2,_⟩:=hf p.1 hb
    obtain ⟨o,e',d⟩:=ho p.1 hb
    rw [e] at e'; cases e'
    exact ⟨e,f0,f1,f2,d⟩
theorem Inv.unpinned {pins pl:List (Addr × Obj)} {σ:St} {H:Hp} {s:Shared} (I:Inv X (pins++pl) σ H s):Inv X pins σ H s:=I.pins_of fun p hp=>I.pin p (List.mem_append_right _ (List.mem_append_left _ hp))
theorem ps_for {iter:Expr} {body:List Stmt} {wi:TI} {g:TG} {tb:TS} {pos:Pos} (hp:PassesOwn (model X.prog X.w) X.A X.env X.xe) (hc:X.calm=true) (hi:PI X tg iter wi) (hg:PG X tg g) (hb:PSs X body tb)
    (hs:∀ x,foldedSetIterable iter X.env x=pure x:=by intro _; rfl):PS X (.For tg iter body [] pos) (tFor wi g tb):=by
  intro pins s σ H D I h
  refine wpAny_For (thn (hi pins s σ H _ I h) fun v s1 h1=>thn h1 fun itv s2 h2=>?_) hs
  obtain ⟨it,fp,tn,J,H2,e,I2,T,st2,f2,W,⟨m0,w0⟩,turn⟩:=h2
  subst e
  have stat:∀ {H':Hp},(∀ b∈fp,H' b=none)→∀ b∈fp,FpOk X pins H' b:=fun hn b hb=>⟨hn b hb,(f2 b hb).2⟩
  refine codeAny_forLoop_any (fun n s'=>∃ i σ' H',Inv X pins σ' H' s'∧tn i s'.heap∧(∀ b∈fp,H' b=none)∧W i n σ' H') ?_ m0 ⟨0,σ,H2,I2,st2,fun b hb=>(f2 b hb).1,w0⟩
  rintro n s3 ⟨i,σ3,H3,I3,st3,fr3,w3⟩
  rcases turn i n σ3 H3 w3 with ⟨stop,qn⟩ | ⟨go,N,hN,step⟩
  · refine wpAny_passesOwn hp (thn (T.done X rfl rfl rfl hc i pins s3 σ3 H3 X.xe I3 (stat fr3) st3 stop) fun r s4 ⟨hr,I4⟩=>?_)
    subst hr
    exact wpAny_execs_nil ⟨σ3,H3,I4,qn⟩
  · refine wpAny_passesOwn hp (thn (T.item X rfl rfl rfl hc i pins s3 σ3 H3 X.xe I3 (stat fr3) st3 go) fun r s4 ⟨u,hr,h4⟩=>?_)
    subst hr
    refine wpAny_passesOwn hp (thn h4 fun _ s5 ⟨x,H5,I5,r5,y5,st5,fr5⟩=>?_)
    have I5':=I5.pinned (stat fr5) (T.obj _ _ st5)
    refine wpAny_passesOwn hp (thn (hg _ s5 σ3 H5 x u _ I5' r5 (step x H5 y5)) fun _ s6 ⟨σ6,H6,I6,q6⟩=>?_)
    refine wpAny_passesOwn hp (thn (hb _ s6 σ6 H6 _ I6 q6) fun f s7 q7=>?_)
    have again:∀ {σ7:St} {H7:Hp},Inv X (pins++pinsAt fp s5.heap) σ7 H7 s7→N σ7 H7→∃ m,m<n∧∃ i σ' H',Inv X pins σ' H' s7∧tn i s7.heap∧(∀ b∈fp,H' b=none)∧W i m σ' H':=fun {σ7 H7} I7 n7=>by
      obtain ⟨m',hm,w7⟩:=hN σ7 H7 n7
      refine ⟨m',hm,i+1,σ7,H7,I7.unpinned,T.keep _ _ _ st5 fun b hb o e=>(I7.pin (b,o) (List.mem_append_right _ (List.mem_append_right _ (mem_pinsAt hb e)))).1,fun b hb=>?_,w7⟩
      obtain ⟨o,e,d⟩:=T.obj _ _ st5 b hb
      exact (I7.pin (b,o) (List.mem_append_right _ (List.mem_append_right _ (mem_pinsAt hb e)))).2.1
    cases f with
    | next=>obtain ⟨σ7,H7,I7,n7⟩:=q7; exact again I7 n7
    | cont=>obtain ⟨σ7,H7,I7,n7⟩:=q7; exact again I7 n7
    | brk=>obtain ⟨σ7,H7,I7,q7⟩:=q7; exact ⟨σ7,H7,I7.unpinned,q7⟩
    | ret v=>obtain ⟨x7,σ7,H7,I7,r7,q7⟩:=q7; exact ⟨x7,σ7,H7,I7.unpinned,r7,q7⟩
end
theorem for_list {K:PySem.W.Frag} {a:Addr} {xs:List V} {g:TG} {tb:TS} {D:Ends} {σ:St} {H:Hp} (Pv:Nat→St→Hp→Prop) (h0:Pv 0 σ H) (hl:∀ i σ H,i≤xs.length→Pv i σ H→SqL K H a xs)
    (hs:∀ i x σ H,xs[i]?=some x→Pv i σ H→g x σ H fun σ2 H2=>tb { D with nx:=Pv (i+1),ct:=Pv (i+1),bk:=D.nx } σ2 H2) (hd:∀ σ H,Pv xs.length σ H→D.nx σ H) :
    ∃ W:Nat→Nat→St→Hp→Prop,(∃ m,W 0 m σ H)∧∀ i m σ H,W i m σ H →
      ((Itl K a).stop i H∧D.nx σ H)∨((Itl K a).go i H∧∃ N:St→Hp→Prop,(∀ σ' H',N σ' H'→∃ m',m' < m∧W (i+1) m' σ' H')∧∀ x H',(Itl K a).yld i H x H'→g x σ H' fun σ2 H2=>tb { D with nx:=N,ct:=N,bk:=D.nx } σ2 H2):=by
  refine ⟨fun i m σ H=>m=xs.length - i∧i≤xs.length∧Pv i σ H,⟨xs.length,by simp,Nat.zero_le _,h0⟩,?_⟩
  rintro i m σ H ⟨rfl,hi,p⟩
  have q:=hl i σ H hi p
  by_cases hlt:i<xs.length
  · refine .inr ⟨⟨xs,xs[i],q,by simp [hlt]⟩,Pv (i+1),fun σ' H' p'=>⟨xs.length - (i+1),by omega,rfl,hlt,p'⟩,fun x H' y=>?_⟩
    obtain ⟨e,y⟩:=y
    subst e
    exact hs i x σ _ (y xs q) p
  · have e:i=xs.length:=by omega
    subst e
    exact .inl ⟨⟨xs,q,Nat.le_refl _⟩,hd σ H p⟩
theorem for_tup {K:PySem.W.Frag} {a:Addr} {xs:List V} {g:TG} {tb:TS} {D:Ends} {σ:St} {H:Hp} (Pv:Nat→St→Hp→Prop) (h0:Pv 0 σ H) (hl:∀ i σ H,i≤xs.length→Pv i σ H→SqT K H a xs)
    (hs:∀ i x σ H,xs[i]?=some x→Pv i σ H→g x σ H fun σ2 H2=>tb { D with nx:=Pv (i+1),ct:=Pv (i+1),bk:=D.nx } σ2 H2) (hd:∀ σ H,Pv xs.length σ H→D.nx σ H) :
    ∃ W:Nat→Nat→St→Hp→Prop,(∃ m,W 0 m σ H)∧∀ i m σ H,W i m σ H →
      ((Itt K a).stop i H∧D.nx σ H)∨((Itt K a).go i H∧∃ N:St→Hp→Prop,(∀ σ' H',N σ' H'→∃ m',m' < m∧W (i+1) m' σ' H')∧∀ x H',(Itt K a).yld i H x H'→g x σ H' fun σ2 H2=>tb { D with nx:=N,ct:=N,bk:=D.nx } σ2 H2):=by
  refine ⟨fun i m σ H=>m=xs.length - i∧i≤xs.length∧Pv i σ H,⟨xs.length,by simp,Nat.zero_le _,h0⟩,?_⟩
  rintro i m σ H ⟨rfl,hi,p⟩
  have q:=hl i σ H hi p
  by_cases hlt:i<xs.length
  · refine .inr ⟨⟨xs,xs[i],q,by simp [hlt]⟩,Pv (i+1),fun σ' H' p'=>⟨xs.length - (i+1),by omega,rfl,hlt,p'⟩,fun x H' y=>?_⟩
    obtain ⟨e,y⟩:=y
    subst e
    exact hs i x σ _ (y xs q) p
  · have e:i=xs.length:=by omega
    subst e
    exact .inl ⟨⟨xs,q,Nat.le_refl _⟩,hd σ H p⟩
theorem for_range {lo:Int} {n:Nat} {g:TG} {tb:TS} {D:Ends} {σ:St} {H:Hp} (Pv:Nat→St→Hp→Prop) (h0:Pv 0 σ H)
    (hs:∀ i σ H,i<n→Pv i σ H→g (.int (lo+i)) σ H fun σ2 H2=>tb { D with nx:=Pv (i+1),ct:=Pv (i+1),bk:=D.nx } σ2 H2) (hd:∀ σ H,Pv n σ H→D.nx σ H) :
    ∃ W:Nat→Nat→St→Hp→Prop,(∃ m,W 0 m σ H)∧∀ i m σ H,W i m σ H →
      ((Itr lo n).stop i H∧D.nx σ H)∨((Itr lo n).go i H∧∃ N:St→Hp→Prop,(∀ σ' H',N σ' H'→∃ m',m' < m∧W (i+1) m' σ' H')∧∀ x H',(Itr lo n).yld i H x H'→g x σ H' fun σ2 H2=>tb { D with nx:=N,ct:=N,bk:=D.nx } σ2 H2):=by
  refine ⟨fun i m σ H=>m=n - i∧i≤n∧Pv i σ H,⟨n,by simp,Nat.zero_le _,h0⟩,?_⟩
  rintro i m σ H ⟨rfl,hi,p⟩
  by_cases hlt:i<n
  · refine .inr ⟨hlt,Pv (i+1),fun σ' H' p'=>⟨n - (i+1),by omega,rfl,hlt,p'⟩,fun x H' y=>?_⟩
    obtain ⟨e,y⟩:=y
    subst e y
    exact hs i σ _ hlt p
  · have e:i=n:=by omega
    subst e
    exact .inl ⟨Nat.le_refl _,hd σ H p⟩
end L2
namespace L2
open PySem PySem.Spec PyProof.Rows
abbrev R2:=V→V→Hp→VK→Prop
def OpR (X:Cx) (f:Value→Value→Sem Value) (r:R2):Prop :=
  ∀ (pins:List (Addr × Obj)) (s:Shared) (σ:St) (H:Hp) (x y:V) (v u:Value) (Q:VK),Inv X pins σ H s→RelV x v→RelV y u→r x y H Q →
    wpAny (model X.prog X.w) X.A (f v u) (EP X pins σ Q) X.xe s
def UnR (X:Cx) (f:Value→Sem Value) (r:V→Hp→VK→Prop):Prop :=
  ∀ (pins:List (Addr × Obj)) (s:Shared) (σ:St) (H:Hp) (x:V) (v:Value) (Q:VK),Inv X pins σ H s→RelV x v→r x H Q →
    wpAny (model X.prog X.w) X.A (f v) (EP X pins σ Q) X.xe s
def CallR (X:Cx) (f:Value) (r:List V→Hp→VK→Prop):Prop :=
  ∀ (pins:List (Addr × Obj)) (s:Shared) (σ:St) (H:Hp) (xs:List V) (us:List Value) (Q:VK),Inv X pins σ H s→Vals xs us→r xs H Q →
    wpAny (model X.prog X.w) X.A (call f us) (EP X pins σ Q) X.xe s
def tOp (r:R2) (ta tb:TE):TE:=fun σ H Q=>ta σ H fun x H1=>tb σ H1 fun y H2=>r x y H2 Q
def tUn (r:V→Hp→VK→Prop) (ta:TE):TE:=fun σ H Q=>ta σ H fun x H1=>r x H1 Q
def rI (C:Int→Int→Prop) (g:Int→Int→V):R2:=fun x y H Q=>∃ i j,x=.int i∧y=.int j∧C i j∧Q (g i j) H
def rI0 (g:Int→Int→V):R2:=fun x y H Q=>∃ i j,x=.int i∧y=.int j∧Q (g i j) H
def rU (g:Int→V):V→Hp→VK→Prop:=fun x H Q=>∃ i,x=.int i∧Q (g i) H
section
variable {X:Cx} {a b c:Expr} {ta tb tc:TE} {pos:Pos}
theorem binT (ha:PE X a ta) (hb:PE X b tb) {pins:List (Addr × Obj)} {s:Shared} {σ:St} {H:Hp} {R:V→V→Hp→Prop} (I:Inv X pins σ H s)
    (h:ta σ H fun x H1=>tb σ H1 fun y H2=>R x y H2) {Q:Value→Shared→Prop} {f:Value→Value→Sem Value}
    (hf:∀ v u s2 x y H2,Inv X pins σ H2 s2→RelV x v→RelV y u→R x y H2→wpAny (model X.prog X.w) X.A (f v u) Q X.xe s2) :
    wpAny (model X.prog X.w) X.A (eval a X.env) (fun v s₁=>wpAny (model X.prog X.w) X.A (eval b X.env) (fun u s₂=>wpAny (model X.prog X.w) X.A (f v u) Q X.xe s₂) X.xe s₁) X.xe s:=by
  refine thn (ha pins s σ H _ I h) fun v s1 ⟨x,H1,I1,r1,q1⟩=>?_
  refine thn (hb pins s1 σ H1 _ I1 q1) fun u s2 ⟨y,H2,I2,r2,q2⟩=>?_
  exact hf v u s2 x y H2 I2 r1 r2 q2
theorem pe_op {op:Operator} {r:R2} (ho:OpR X (binaryOp op) r) (ha:PE X a ta) (hb:PE X b tb):PE X (.BinOp a op b pos) (tOp r ta tb):=by
  intro pins s σ H Q I h
  exact wpAny_BinOp (binT ha hb I h fun v u s2 x y H2 I2 rx ry q=>ho pins s2 σ H2 x y v u Q I2 rx ry q)
theorem pe_un {op:UnaryOp} {r:V→Hp→VK→Prop} (ho:UnR X (unaryOp op) r) (ha:PE X a ta):PE X (.UnaryOp op a pos) (tUn r ta):=by
  intro pins s σ H Q I h
  exact UnaryOp_ (thn (ha pins s σ H _ I h) fun v s1 ⟨x,H1,I1,r1,q1⟩=>ho pins s1 σ H1 x v Q I1 r1 q1)
theorem opI {f:Value→Value→Sem Value} {C:Int→Int→Prop} {g:Int→Int→Int}
    (rule:∀ (i j:Int) (t u:Tok) (s:Shared) (Q:Value→Shared→Prop) (E:Value→Shared→Prop),C i j→Q (.int (g i j) s.toks) { s with toks:=s.toks+1 }→wpAny (model X.prog X.w) X.A (f (.int i t) (.int j u)) Q E s) :
    OpR X f (rI C fun i j=>.int (g i j)):=by
  intro pins s σ H x y v u Q I rx ry h
  obtain ⟨i,j,rfl,rfl,hc,q⟩:=h
  obtain ⟨t,rfl⟩:=rx
  obtain ⟨t',rfl⟩:=ry
  exact rule i j t t' s _ _ hc ⟨.int (g i j),H,I.tok _,⟨_,rfl⟩,q⟩
theorem opI0 {f:Value→Value→Sem Value} {g:Int→Int→Int}
    (rule:∀ (i j:Int) (t u:Tok) (s:Shared) (Q:Value→Shared→Prop) (E:Value→Shared→Prop),Q (.int (g i j) s.toks) { s with toks:=s.toks+1 }→wpAny (model X.prog X.w) X.A (f (.int i t) (.int j u)) Q E s) :
    OpR X f (rI0 fun i j=>.int (g i j)):=by
  intro pins s σ H x y v u Q I rx ry h
  obtain ⟨i,j,rfl,rfl,q⟩:=h
  obtain ⟨t,rfl⟩:=rx
  obtain ⟨t',rfl⟩:=ry
  exact rule i j t t' s _ _ ⟨.int (g i j),H,I.tok _,⟨_,rfl⟩,q⟩
theorem opB0 {f:Value→Value→Sem Value} {g:Int→Int→Bool}
    (rule:∀ (i j:Int) (t u:Tok) (s:Shared) (Q:Value→Shared→Prop) (E:Value→Shared→Prop),Q (.bool (g i j)) s→wpAny (model X.prog X.w) X.A (f (.int i t) (.int j u)) Q E s) :
    OpR X f (rI0 fun i j=>.bl (g i j)):=by
  intro pins s σ H x y v u Q I rx ry h
  obtain ⟨i,j,rfl,rfl,q⟩:=h
  obtain ⟨t,rfl⟩:=rx
  obtain ⟨t',rfl⟩:=ry
  exact rule i j t t' s _ _ ⟨.bl (g i j),H,I,rfl,q⟩
def CPow (i j:Int):Prop:=0≤j∧j≤1000000∧i.natAbs<2^64
theorem op_add:OpR X (binaryOp .Add) (rI0 fun i j=>.int (i+j)):=opI0 fun _ _ _ _ _ _ _ q=>add_int q
theorem op_sub:OpR X (binaryOp .Sub) (rI0 fun i j=>.int (i - j)):=opI0 fun _ _ _ _ _ _ _ q=>sub_int q
theorem op_mod:OpR X (binaryOp .Mod) (rI (fun _ j=>0<j) fun i j=>.int (i % j)):=opI fun i j _ _ _ _ _ hc q=>by
  have h1:(0:Int)<j:=hc
  exact mod_int' (by omega) (by rw [Int.fmod_eq_emod_of_nonneg i (by omega)]; exact q)
theorem op_pow:OpR X (binaryOp .Pow) (rI CPow fun i j=>.int (i^j.toNat)):=opI fun _ _ _ _ _ _ _ hc q=>pow_int_small hc.1 hc.2.1 hc.2.2 q
theorem unI {f:Value→Sem Value} {g:Int→Int}
    (rule:∀ (i:Int) (t:Tok) (s:Shared) (Q:Value→Shared→Prop) (E:Value→Shared→Prop),Q (.int (g i) s.toks) { s with toks:=s.toks+1 }→wpAny (model X.prog X.w) X.A (f (.int i t)) Q E s) :
    UnR X f (rU fun i=>.int (g i)):=by
  intro pins s σ H x v Q I rx h
  obtain ⟨i,rfl,q⟩:=h
  obtain ⟨t,rfl⟩:=rx
  exact rule i t s _ _ ⟨.int (g i),H,I.tok _,⟨_,rfl⟩,q⟩
theorem un_neg:UnR X (unaryOp .USub) (rU fun i=>.int (-i)):=unI fun _ _ _ _ _ q=>neg_int q
end
def scal:V→V→Bool
  | .non,.non=>true | .non,.int _=>true | .int _,.non=>true | .non,.bl _=>true | .bl _,.non=>true | .non,.str _=>true | .str _,.non=>true
  | .int _,.int _=>true | .bl _,.bl _=>true | .str _,.str _=>true | .byt _,.byt _=>true
  | .int _,.str _=>true | .str _,.int _=>true | .bl _,.str _=>true | .str _,.bl _=>true
  | _,_=>false
def rEq:R2:=fun x y H Q=>scal x y=true∧Q (.bl (decide (x=y))) H
def rNe:R2:=fun x y H Q=>scal x y=true∧Q (.bl (!decide (x=y))) H
theorem dec_int {i j:Int}:decide (V.int i=V.int j)=(i == j):=by
  rw [Bool.eq_iff_iff]
  simp
theorem dec_bl {i j:Bool}:decide (V.bl i=V.bl j)=(i == j):=by
  rw [Bool.eq_iff_iff]
  simp
theorem dec_str {i j:Str}:decide (V.str i=V.str j)=(i == j):=by
  rw [Bool.eq_iff_iff]
  simp
theorem dec_byt {i j:Array UInt8}:decide (V.byt i=V.byt j)=(i.toList == j.toList):=by
  rw [Bool.eq_iff_iff]
  cases i
  cases j
  simp
section
variable {X:Cx} {a b c:Expr} {ta tb tc:TE} {pos:Pos}
theorem fin_bl {pins:List (Addr × Obj)} {σ:St} {H:Hp} {s:Shared} {Q:VK} {k k':Bool} (I:Inv X pins σ H s) (q:Q (.bl k) H) (e:k=k'):EP X pins σ Q (.bool k') s:=by
  subst e
  exact ⟨.bl k,H,I,rfl,q⟩
theorem op_eq:OpR X (compareOp .Eq) rEq:=by
  intro pins s σ H x y v u Q I rx ry h
  obtain ⟨hs,q⟩:=h
  cases x with
  | non =>
    cases rx
    cases y with
    | non=>cases ry; exact PySem.EqNone.eq_none_none (fin_bl I q (by simp))
    | bl j=>cases ry; exact PySem.EqNone.eq_none_bool (fin_bl I q (by simp))
    | int j=>obtain ⟨t',rfl⟩:=ry; exact PySem.EqNone.eq_none_int (fin_bl I q (by simp))
    | str j=>obtain ⟨t',rfl⟩:=ry; exact PySem.EqNone.eq_none_str (fin_bl I q (by simp))
    | _=>exact absurd (show false=true from hs) Bool.false_ne_true
  | bl i =>
    cases rx
    cases y with
    | non=>cases ry; exact PySem.EqNone.eq_bool_none (fin_bl I q (by simp))
    | bl j=>cases ry; exact eq_bool (fin_bl I q dec_bl)
    | str j=>obtain ⟨t',rfl⟩:=ry; exact PySem.EqMixed.eq_bool_str (fin_bl I q (by simp))
    | _=>exact absurd (show false=true from hs) Bool.false_ne_true
  | int i =>
    obtain ⟨t,rfl⟩:=rx
    cases y with
    | non=>cases ry; exact PySem.EqNone.eq_int_none (fin_bl I q (by simp))
    | int j=>obtain ⟨t',rfl⟩:=ry; exact eq_int (fin_bl I q dec_int)
    | str j=>obtain ⟨t',rfl⟩:=ry; exact PySem.EqMixed.eq_int_str (fin_bl I q (by simp))
    | _=>exact absurd (show false=true from hs) Bool.false_ne_true
  | str i =>
    obtain ⟨t,rfl⟩:=rx
    cases y with
    | non=>cases ry; exact PySem.EqNone.eq_str_none (fin_bl I q (by simp))
    | bl j=>cases ry; exact PySem.EqMixed.eq_str_bool (fin_bl I q (by simp))
    | int j=>obtain ⟨t',rfl⟩:=ry; exact PySem.EqMixed.eq_str_int (fin_bl I q (by simp))
    | str j=>obtain ⟨t',rfl⟩:=ry; exact eq_str (fin_bl I q dec_str)
    | _=>exact absurd (show false=true from hs) Bool.false_ne_true
  | byt i =>
    obtain ⟨t,rfl⟩:=rx
    cases y with
    | byt j=>obtain ⟨t',rfl⟩:=ry; exact PySem.W.eq_bytes (fin_bl I q dec_byt)
    | _=>exact absurd (show false=true from hs) Bool.false_ne_true
  | _=>cases y <;> exact absurd (show false=true from hs) Bool.false_ne_true
theorem op_ne:OpR X (compareOp .NotEq) rNe:=by
  intro pins s σ H x y v u Q I rx ry h
  obtain ⟨hs,q⟩:=h
  cases x with
  | non =>
    cases rx
    cases y with
    | non=>cases ry; exact PySem.EqNone.ne_none_none (fin_bl I q (by simp))
    | bl j=>cases ry; exact PySem.EqNone.ne_none_bool (fin_bl I q (by simp))
    | int j=>obtain ⟨t',rfl⟩:=ry; exact PySem.EqNone.ne_none_int (fin_bl I q (by simp))
    | str j=>obtain ⟨t',rfl⟩:=ry; exact PySem.EqNone.ne_none_str (fin_bl I q (by simp))
    | _=>exact absurd (show false=true from hs) Bool.false_ne_true
  | bl i =>
    cases rx
    cases y with
    | non=>cases ry; exact PySem.EqNone.ne_bool_none (fin_bl I q (by simp))
    | bl j=>cases ry; exact ne_bool (fin_bl I q (congrArg not dec_bl))
    | str j=>obtain ⟨t',rfl⟩:=ry; exact PySem.EqMixed.ne_bool_str (fin_bl I q (by simp))
    | _=>exact absurd (show false=true from hs) Bool.false_ne_true
  | int i =>
    obtain ⟨t,rfl⟩:=rx
    cases y with
    | non=>cases ry; exact PySem.EqNone.ne_int_none (fin_bl I q (by simp))
    | int j=>obtain ⟨t',rfl⟩:=ry; exact ne_int (fin_bl I q (congrArg not dec_int))
    | str j=>obtain ⟨t',rfl⟩:=ry; exact PySem.EqMixed.ne_int_str (fin_bl I q (by simp))
    | _=>exact absurd (show false=true from hs) Bool.false_ne_true
  | str i =>
    obtain ⟨t,rfl⟩:=rx
    cases y with
    | non=>cases ry; exact PySem.EqNone.ne_str_none (fin_bl I q (by simp))
    | bl j=>cases ry; exact PySem.EqMixed.ne_str_bool (fin_bl I q (by simp))
    | int j=>obtain ⟨t',rfl⟩:=ry; exact PySem.EqMixed.ne_str_int (fin_bl I q (by simp))
    | str j=>obtain ⟨t',rfl⟩:=ry; exact ne_str (fin_bl I q (congrArg not dec_str))
    | _=>exact absurd (show false=true from hs) Bool.false_ne_true
  | byt i =>
    obtain ⟨t,rfl⟩:=rx
    cases y with
    | byt j=>obtain ⟨t',rfl⟩:=ry; exact PySem.W.ne_bytes (fin_bl I q (congrArg not dec_byt))
    | _=>exact absurd (show false=true from hs) Bool.false_ne_true
  | _=>cases y <;> exact absurd (show false=true from hs) Bool.false_ne_true
theorem op_lt:OpR X (compareOp .Lt) (rI0 fun i j=>.bl (decide (i<j))):=opB0 fun _ _ _ _ _ _ _ q=>lt_int q
theorem op_le:OpR X (compareOp .LtE) (rI0 fun i j=>.bl (decide (i≤j))):=opB0 fun _ _ _ _ _ _ _ q=>le_int q
theorem op_gt:OpR X (compareOp .Gt) (rI0 fun i j=>.bl (decide (j<i))):=opB0 fun _ _ _ _ _ _ _ q=>gt_int q
theorem op_ge:OpR X (compareOp .GtE) (rI0 fun i j=>.bl (decide (j≤i))):=opB0 fun _ _ _ _ _ _ _ q=>ge_int q
theorem op_in_str:OpR X (compareOp .In) (fun x y H Q=>∃ i j,x=.str i∧y=.str j∧Q (.bl (!(Builtin.Str.occurrences j i 0 j.length 1).isEmpty)) H):=by
  intro pins s σ H x y v u Q I rx ry h
  obtain ⟨i,j,rfl,rfl,q⟩:=h
  obtain ⟨t,rfl⟩:=rx
  obtain ⟨t',rfl⟩:=ry
  exact in_str (fin_bl I q rfl)
theorem op_isN:OpR X (compareOp .Is) (fun x y H Q=>y=.non∧Q (.bl (decide (x=.non))) H):=by
  intro pins s σ H x y v u Q I rx ry h
  obtain ⟨rfl,q⟩:=h
  cases ry
  refine is_none_gen (fin_bl I q ?_)
  cases x <;> first
    | (cases rx; rfl)
    | (obtain ⟨t,rfl⟩:=rx; rfl)
theorem op_notN:OpR X (compareOp .IsNot) (fun x y H Q=>y=.non∧Q (.bl (!decide (x=.non))) H):=by
  intro pins s σ H x y v u Q I rx ry h
  obtain ⟨rfl,q⟩:=h
  cases ry
  refine isnot_none_gen (fin_bl I q ?_)
  cases x <;> first
    | (cases rx; rfl)
    | (obtain ⟨t,rfl⟩:=rx; rfl)
theorem nomark (b:Expr) {op:CmpOp} (h:op ≠ .In:=by decide) (h2:op ≠ .NotIn:=by decide):behindInMarks op b=false:=by
  have e1:(op == CmpOp.In)=false:=by cases op <;> first | rfl | exact absurd rfl h
  have e2:(op == CmpOp.NotIn)=false:=by cases op <;> first | rfl | exact absurd rfl h2
  cases b <;> simp [behindInMarks,e1,e2]
theorem pe_cmpR {op:CmpOp} {r:R2} (ho:OpR X (compareOp op) r) (ha:PE X a ta) (hb:PE X b tb) (hm:behindInMarks op b=false):PE X (.Compare a [op] [b] pos) (tOp r ta tb):=by
  intro pins s σ H Q I h
  exact wpAny_Compare1 (binT ha hb I h fun v u s2 x y H2 I2 rx ry q=>ho pins s2 σ H2 x y v u Q I2 rx ry q) hm
def tTest (t:TE):TT:=fun σ H Q=>t σ H fun x H'=>∃ k,x=.bl k∧Q k H'
theorem pt_cmpR {op:CmpOp} {r:R2} (ho:OpR X (compareOp op) r) (ha:PE X a ta) (hb:PE X b tb) (hm:behindInMarks op b=false):PT X (.Compare a [op] [b] pos) (tTest (tOp r ta tb)):=by
  intro pins s σ H Q I h
  refine wpAny_isTrue_Compare1 (thn (ha pins s σ H _ I h) fun v s1 ⟨x,H1,I1,r1,q1⟩=>thn (hb pins s1 σ H1 _ I1 q1) fun u s2 ⟨y,H2,I2,r2,q2⟩ =>
    thn (ho pins s2 σ H2 x y v u _ I2 r1 r2 q2) fun c s3 ⟨z,H3,I3,r3,k,e,q3⟩=>?_) hm
  subst e
  cases r3
  exact wpAny_truthy_bool ⟨H3,I3,q3⟩
def tChain (r r':R2) (ta tb tc:TE):TE:=fun σ H Q=>ta σ H fun x H1=>tb σ H1 fun y H2=>r x y H2 fun z H3=>∃ k,z=.bl k ∧
  (if k=true then tc σ H3 fun w' H4=>r' y w' H4 Q else Q (.bl false) H3)
theorem pe_chain {op op':CmpOp} {r r':R2} (ho:OpR X (compareOp op) r) (ho':OpR X (compareOp op') r') (ha:PE X a ta) (hb:PE X b tb) (hc:PE X c tc)
    (hm:lastMarks [op,op'] [b,c]=false:=by with_unfolding_all rfl):PE X (.Compare a [op,op'] [b,c] pos) (tChain r r' ta tb tc):=by
  intro pins s σ H Q I h
  refine Compare_chain (thn (ha pins s σ H _ I h) fun v s1 ⟨x,H1,I1,r1,q1⟩=>chain_link (thn (hb pins s1 σ H1 _ I1 q1) fun u s2 ⟨y,H2,I2,r2,q2⟩ =>
    thn (ho pins s2 σ H2 x y v u _ I2 r1 r2 q2) fun d s3 ⟨z,H3,I3,r3,k,e,q3⟩=>?_)) hm
  subst e
  cases r3
  refine wpAny_truthy_bool ?_
  cases k with
  | false=>exact ite_ff ⟨.bl false,H3,I3,rfl,q3⟩
  | true=>exact ite_tt (chain_last (thn (hc pins s3 σ H3 _ I3 q3) fun w' s4 ⟨z',H4,I4,r4,q4⟩=>ho' pins s4 σ H4 y z' u w' Q I4 r2 r4 q4))
theorem line63:(sizeLine:Nat)<2^63:=by rw [sizeLine_eq]; decide
theorem op_add_str:OpR X (binaryOp .Add) (fun x y H Q=>∃ i j,x=.str i∧y=.str j∧i.length+j.length≤sizeLine∧Q (.str (i++j)) H):=by
  intro pins s σ H x y v u Q I rx ry h
  obtain ⟨i,j,rfl,rfl,hz,q⟩:=h
  obtain ⟨t,rfl⟩:=rx
  obtain ⟨t',rfl⟩:=ry
  exact add_str (fun t' tk=>⟨.str (i++j),H,I.tok _,⟨_,rfl⟩,q⟩) hz
theorem vals1 {x:V} {us:List Value} (r:Vals [x] us):∃ u,us=[u]∧RelV x u:=by
  cases r with
  | cons r1 r2=>cases r2; exact ⟨_,rfl,r1⟩
theorem vals2 {x y:V} {us:List Value} (r:Vals [x,y] us):∃ u w',us=[u,w']∧RelV x u∧RelV y w':=by
  cases r with
  | cons r1 r2 =>
    cases r2 with
    | cons r3 r4=>cases r4; exact ⟨_,_,rfl,r1,r3⟩
theorem call_abs:CallR X (.builtin "abs") (fun xs H Q=>∃ i,xs=[.int i]∧Q (.int (if i<0 then -i else i)) H):=by
  intro pins s σ H xs us Q I r h
  obtain ⟨i,rfl,q⟩:=h
  obtain ⟨u,rfl,t,rfl⟩:=vals1 r
  exact call_abs_int fun u tk=>⟨.int (if i<0 then -i else i),H,I.tok _,⟨_,rfl⟩,q⟩
theorem call_max2 (hc:X.calm=true):CallR X (.builtin "max") (fun xs H Q=>∃ i j,xs=[.int i,.int j]∧Q (.int (if j > i then j else i)) H):=by
  intro pins s σ H xs us Q I r h
  obtain ⟨i,j,rfl,q⟩:=h
  obtain ⟨u,w',rfl,⟨t,rfl⟩,⟨t',rfl⟩⟩:=vals2 r
  refine max_two_ints (I.ok.hd hc) fun h' tk k=>⟨_,H,I.kept k,?_,q⟩
  by_cases hj:j > i
  · rw [if_pos hj,if_pos hj]; exact ⟨_,rfl⟩
  · rw [if_neg hj,if_neg hj]; exact ⟨_,rfl⟩
theorem call_int1:CallR X (.type "int") (fun xs H Q=>(∃ i,xs=[.int i]∧Q (.int i) H)∨∃ k,xs=[.bl k]∧Q (.int (if k then 1 else 0)) H):=by
  intro pins s σ H xs us Q I r h
  rcases h with ⟨i,rfl,q⟩ | ⟨k,rfl,q⟩
  · obtain ⟨u,rfl,t,rfl⟩:=vals1 r
    exact call_int_int ⟨.int i,H,I,⟨_,rfl⟩,q⟩
  · obtain ⟨u,rfl,r1⟩:=vals1 r
    cases r1
    exact call_int_bool ⟨.int (if k then 1 else 0),H,I.tok _,⟨_,rfl⟩,q⟩
def LenV (K:PySem.W.Frag) (x:V) (H:Hp) (n:Nat):Prop :=
  match x with
  | .str y=>y.length≤sizeLine∧n=y.length
  | .byt y=>y.size≤sizeLine∧n=y.size
  | .ref p=>(∃ xs,SqL K H p xs∧n=xs.length)∨∃ xs,SqT K H p xs∧n=xs.length
  | _=>False
theorem call_len:CallR X (.builtin "len") (fun xs H Q=>∃ x n,xs=[x]∧LenV X.K x H n∧Q (.int n) H):=by
  intro pins s σ H xs us Q I r h
  obtain ⟨x,n,rfl,e,q⟩:=h
  obtain ⟨u,rfl,rx⟩:=vals1 r
  have hl:=line63
  have hs:sizeLine=16777216:=sizeLine_eq
  cases x with
  | str y =>
    obtain ⟨t,rfl⟩:=rx
    obtain ⟨hy,e'⟩:y.length≤sizeLine∧n=y.length:=e
    subst e'
    exact len_str (by omega) ⟨.int _,H,I.tok _,⟨_,rfl⟩,q⟩
  | byt y =>
    obtain ⟨t,rfl⟩:=rx
    obtain ⟨hy,e'⟩:y.size≤sizeLine∧n=y.size:=e
    subst e'
    exact PySem.W.len_bytes (by omega) ⟨.int _,H,I.tok _,⟨_,rfl⟩,q⟩
  | ref p =>
    cases rx
    have e':(∃ xs,SqL X.K H p xs∧n=xs.length)∨∃ xs,SqT X.K H p xs∧n=xs.length:=e
    rcases e' with ⟨xs,hx,e'⟩ | ⟨xs,hx,e'⟩
    · subst e'
      obtain ⟨its,r',pl,hz⟩:=I.list hx
      have hlen:=r'.length
      exact Calls.call_len_list pl.isList (by simp only [List.size_toArray]; omega) ⟨.int xs.length,H,I.tok _,⟨_,by simp only [List.size_toArray]; rw [hlen]⟩,q⟩
    · subst e'
      obtain ⟨its,r',pl,hz⟩:=I.tuple hx
      have hlen:=r'.length
      exact len_tuple pl (by simp only [List.size_toArray]; omega) ⟨.int xs.length,H,I.tok _,⟨_,by simp only [List.size_toArray]; rw [hlen]⟩,q⟩
  | _=>exact (show False from e).elim
end
end L2
namespace L2
open PySem PySem.Spec PyProof.Rows
structure ObjM (h:Heap) (x dx C:Addr) (mA:Str→Option Value):Prop where
  obj:h.get? x=some (PySem.W.instObj C dx)
  ns:h.Ns1 dx mA
  ne:dx≠x
theorem lookIn_ns {h:Heap} {dx:Addr} {mA:Str→Option Value} (n:h.Ns1 dx mA):∃ od,h.get? dx=some od∧∀ name,PySem.W.lookIn name od=some (mA name):=by
  obtain ⟨o,es,ep,ho,hd,hk,_,hm⟩:=n
  refine ⟨o,ho,fun name=>?_⟩
  have e:=hm name
  unfold nsFind findBy at e
  rw [← Array.find?_toList] at e
  unfold PySem.W.lookIn
  rw [hd]
  dsimp only
  split
  · rename_i y q
    rw [q] at e
    exact congrArg some e
  · rename_i q
    rw [q] at e
    have a:es.toList.any (·.refKey)=false:=by
      rw [List.any_eq_false]
      intro y hy
      obtain ⟨z,t,hkey⟩:=hk y (Array.mem_toList_iff.mp hy)
      simp [DictEntry.refKey,hkey]
    have a':¬ es.toList.any (·.refKey)=true:=by rw [a]; exact Bool.false_ne_true
    rw [if_neg a']
    exact congrArg some e
theorem ObjM.look {h:Heap} {x dx C:Addr} {mA:Str→Option Value} (I:ObjM h x dx C mA):∃ od,PySem.W.InstAt h x (PySem.W.instObj C dx) C (some od)∧∀ name,PySem.W.lookIn name od=some (mA name) :=
  let ⟨od,ho,hl⟩:=lookIn_ns I.ns
  ⟨od,⟨I.obj,rfl,rfl,ho⟩,hl⟩
section
variable {prog:Program} {w:World} {A:Around} {E:Value→Shared→Prop} {s:Shared} {K:PySem.W.Frag} {x dx C f:Addr} {mA:Str→Option Value} {name:Str} {v:Value}
end
theorem RelO.some_of {v:V} {o:Option Value} (r:RelO (some v) o):∃ u,o=some u∧RelV v u:=by
  cases o with
  | none=>exact (show False from r).elim
  | some u=>exact ⟨u,rfl,r⟩
section
variable {P:Program} {w:World} {H H':Hp} {h h':Heap} {a C dx:Addr} {fs fs':List (Str × V)}
theorem ins_get (hok:HOk P w H h) (e:H a=some (.ins C dx fs)):∃ mA,ObjM h a dx C mA∧(∀ f,RelO (fs.lookup f) (mA f))∧PySem.Within mA (fs.map (·.1))∧fs.length≤1000∧H dx=some (.own a):=by
  obtain ⟨d,z,ne,ob,mA,n,r,q⟩:=(show ObjOk P w H h a (.ins C dx fs) from hok a _ e)
  exact ⟨mA,⟨ob,n,ne⟩,r,q,z,d⟩
end
structure Cls (K:PySem.W.Frag) (C:Addr):Prop where
  pg:PySem.W.plainGet K C Str.empty=true
  hd:PySem.W.hasDictIn K C=true
  po:PySem.W.plainOver K C=true
  sa:PySem.W.findIn K (.ref C) "__setattr__" = some (some (.builtin "object.__setattr__"))
theorem Cls.get {K:PySem.W.Frag} {C:Addr} (c:Cls K C) (f:Str):PySem.W.plainGet K C f=true:=c.pg
section
variable {X:Cx} {pins:List (Addr × Obj)} {σ:St} {H:Hp} {s:Shared} {a C dx:Addr} {fs:List (Str × V)} {f:Str} {v:V} {A:Around} {E:Value→Shared→Prop}
end
section
variable {X:Cx} {o e value:Expr} {f:Str} {pos pos' tpos:Pos} {ta tv:TE}
end
section
variable {X:Cx} {pins:List (Addr × Obj)} {σ:St} {H:Hp} {s:Shared} {A:Around} {E:Value→Shared→Prop} {Q:Value→Shared→Prop} {c:Value} {b:Bool}
inductive TyOf (K:PySem.W.Frag) (H:Hp):V→Value→Prop where
  | non:TyOf K H .non (.type "NoneType")
  | bl (x:Bool):TyOf K H (.bl x) (.type "bool")
  | int (i:Int):TyOf K H (.int i) (.type "int")
  | str (x:Str):TyOf K H (.str x) (.type "str")
  | flt (x:UInt64):TyOf K H (.flt x) (.type "float")
  | lst {a:Addr} {xs:List V} (e:H a=some (.lst xs)):TyOf K H (.ref a) (.type "list")
  | frz {a:Addr} {o:Obj} {xs:List V} (e:H a=some (.frz o (.lst xs))):TyOf K H (.ref a) (.type "list")
  | tup {a:Addr} {xs:List V} (e:H a=some (.tup xs)):TyOf K H (.ref a) (.type "tuple")
  | dK {a:Addr} {kvs:List (Key × V)} (e:H a=some (.dK kvs)):TyOf K H (.ref a) (.type "dict")
  | dT {a:Addr} {kvs:List (List Key × V)} (e:H a=some (.dT kvs)):TyOf K H (.ref a) (.type "dict")
  | ins {a C dx:Addr} {fs:List (Str × V)} (e:H a=some (.ins C dx fs)) (cl:Cls K C) (ha:PySem.W.findIn K (.ref C) "__class__" = some (some (.builtin "object.__class__")))
      (hn:PySem.W.specialIn K (.builtin "object.__class__") "__get__" = some (some (.builtin "getset_descriptor.__get__"))) (htk:PySem.W.takesIn K (.builtin "object.__class__")=some true)
      (hm:PySem.W.mroIn K C (.type "object")=some true):TyOf K H (.ref a) (.ref C)
theorem isinst_ok {x:V} {u t:Value} (I:Inv X pins σ H s) (rx:RelV x u) (ty:TyOf X.K H x t) (e:PySem.W.kitOne X.K t c=some b) (h:∀ tk,Q (.bool b) { s with toks:=tk }) :
    wpAny (model X.prog X.w) A (call (.builtin "isinstance") [u,c]) Q E s:=by
  cases ty with
  | non=>cases (show u=Value.none from rx); exact PySem.W.kia_one PySem.W.kitx_none I.kIn True.intro e (fun z=>nomatch z) h
  | bl y=>cases (show u=Value.bool y from rx); exact PySem.W.kia_one PySem.W.kitx_bool I.kIn True.intro e (fun z=>nomatch z) h
  | int i=>obtain ⟨t,q⟩:=(show ∃ t,u=Value.int i t from rx); cases q; exact PySem.W.kia_one PySem.W.kitx_int I.kIn True.intro e (fun z=>nomatch z) h
  | str y=>obtain ⟨t,q⟩:=(show ∃ t,u=Value.str y t from rx); cases q; exact PySem.W.kia_one PySem.W.kitx_str I.kIn True.intro e (fun z=>nomatch z) h
  | flt y=>obtain ⟨t,q⟩:=(show ∃ t,u=Value.float y t from rx); cases q; exact PySem.W.kia_one PySem.W.kitx_float I.kIn True.intro e (fun z=>nomatch z) h
  | @lst a xs ea =>
    cases (show u=Value.ref a from rx)
    obtain ⟨_,_,n,_,h1⟩:=(show ObjOk X.prog X.w H s.heap a (.lst xs) from I.hok a _ ea)
    exact PySem.W.kia_one PySem.W.kitx_list I.kIn ⟨_,h1,rfl⟩ e (fun z=>nomatch z) h
  | @frz a ob xs ea =>
    cases (show u=Value.ref a from rx)
    obtain ⟨_,_,_,n,_,h1⟩:=(show ObjOk X.prog X.w H s.heap a (.frz ob (.lst xs)) from I.hok a _ ea)
    exact PySem.W.kia_one PySem.W.kitx_list I.kIn ⟨_,h1,rfl⟩ e (fun z=>nomatch z) h
  | @tup a xs ea =>
    cases (show u=Value.ref a from rx)
    obtain ⟨_,_,_,p⟩:=(show ObjOk X.prog X.w H s.heap a (.tup xs) from I.hok a _ ea)
    obtain ⟨o,h1,h2,_⟩:=p
    exact PySem.W.kia_one PySem.W.kitx_tuple I.kIn ⟨o,h1,h2⟩ e (fun z=>nomatch z) h
  | @dK a kvs ea =>
    cases (show u=Value.ref a from rx)
    obtain ⟨_,_,vs,_,p⟩:=(show ObjOk X.prog X.w H s.heap a (.dK kvs) from I.hok a _ ea)
    obtain ⟨o,es,ep,h1,h2,_⟩:=p
    exact PySem.W.kia_one PySem.W.kitx_dict I.kIn ⟨o,h1,h2.1⟩ e (fun z=>nomatch z) h
  | @dT a kvs ea =>
    cases (show u=Value.ref a from rx)
    obtain ⟨_,_,xs,_,o,es,ep,h1,h2,_⟩:=(show ObjOk X.prog X.w H s.heap a (.dT kvs) from I.hok a _ ea)
    exact PySem.W.kia_one PySem.W.kitx_dict I.kIn ⟨o,h1,h2.1⟩ e (fun z=>nomatch z) h
  | @ins a C dx fs ea cl ha hn htk hm =>
    cases (show u=Value.ref a from rx)
    obtain ⟨mA,O,_⟩:=ins_get I.hok ea
    obtain ⟨od,J,_⟩:=O.look
    exact PySem.W.kia_one (PySem.W.kitx_own (cl.get _) cl.hd ha hn htk hm) I.kIn J e (fun z=>nomatch z) h
end
end L2
namespace L2
open PySem PySem.Spec PyProof.Rows
structure Room (k:Nat) (A:Around):Prop where
  hd:A.handled=none
  dp:A.depth+3*k+5<recursionLimit
  un:A.units+16*k+200<cLine
  gd:A.guards=some []
theorem Room.mono {j k:Nat} {A:Around} (r:Room k A) (h:j≤k):Room j A:=⟨r.hd,by have:=r.dp; omega,by have:=r.un; omega,r.gd⟩
theorem Room.deeper {k:Nat} {A:Around} (r:Room (k+1) A) (env:Env):Room k (A.deeper env) :=
  ⟨r.hd,by have:=r.dp; show A.depth+1+3*k+5<_; omega,by have:=r.un; show A.units+3+16*k+200<_; omega,r.gd⟩
theorem Room.depth {k:Nat} {A:Around} (r:Room k A):A.depth<recursionLimit:=by have:=r.dp; omega
theorem Room.units {k:Nat} {A:Around} (r:Room k A):A.units+64<cLine:=by have:=r.un; omega
def tNil:TA:=fun _ H Q=>Q [] H
def tCons (ta:TE) (tr:TA):TA:=fun σ H Q=>ta σ H fun x H1=>tr σ H1 fun xs H2=>Q (x::xs) H2
section
variable {X:Cx} {e:Expr} {es:List Expr} {te:TE} {t:TA} {pos:Pos}
theorem pa_nil:PA X [] tNil:=fun _ _ _ _ H Q I h=>Calls.spliced_nil ⟨[],H,I,.nil,h⟩
theorem pa_cons (ha:PE X e te) (hr:PA X es t) (hs:starEach (e::es) X.env=(false,eval e X.env)::starEach es X.env:=by rfl):PA X (e::es) (tCons te t):=by
  intro pos pins s σ H Q I h
  rw [hs]
  show wpAny _ _ (spliced ((false,eval e X.env)::backTo pos (starEach es X.env))) _ _ s
  refine Calls.spliced_cons (thn (ha pins s σ H _ I h) fun u s1 ⟨x,H1,I1,r1,q1⟩=>?_)
  exact thn (hr pos pins s1 σ H1 _ I1 q1) fun us s2 ⟨xs,H2,I2,r2,q2⟩=>⟨x::xs,H2,I2,.cons r1 r2,q2⟩
def tTup (t:TA):TE:=fun σ H Q=>t σ H fun xs H1=>xs.length≤sizeLine∧∀ p,H1 p=none→Q (.ref p) (upd H1 p (.tup xs))
def tLst (t:TA):TE:=fun σ H Q=>t σ H fun xs H1=>xs.length≤sizeLine∧∀ p,H1 p=none→Q (.ref p) (upd H1 p (.lst xs))
theorem pe_tup {x1} (h:PA X es t):PE X (.Tuple es x1 pos) (tTup t):=by
  intro pins s σ H Q I hq
  refine wpAny_Tuple_spliced (thn (h pos pins s σ H _ I hq) fun us s1 ⟨xs,H1,I1,r,z,q⟩=>⟨by rw [← r.length]; exact z,?_⟩)
  have hf:H1 s1.heap.objs.size=none:=I1.hok.fresh (Nat.le_refl _)
  refine ⟨.ref s1.heap.objs.size,upd H1 s1.heap.objs.size (.tup xs),I1.laid (t':=s1.toks) (fun b u e=>Heap.get?_push_of_some _ e) (Nat.le_refl _) ?_,rfl,q _ hf⟩
  exact ⟨⟨z,_,Heap.get?_push_size _ rfl,rfl⟩,us,r,⟨_,Heap.get?_push_size _ rfl,rfl,_,rfl⟩⟩
theorem pe_lst (h:PA X es t):PE X (.List es pos) (tLst t):=by
  intro pins s σ H Q I hq
  refine wpAny_List_spliced (thn (h pos pins s σ H _ I hq) fun us s1 ⟨xs,H1,I1,r,z,q⟩=>⟨by rw [← r.length]; exact z,?_⟩)
  have hf:H1 s1.heap.objs.size=none:=I1.hok.fresh (Nat.le_refl _)
  refine ⟨.ref s1.heap.objs.size,upd H1 s1.heap.objs.size (.lst xs),I1.laid (t':=s1.toks) (fun b u e=>Heap.get?_push_of_some _ e) (Nat.le_refl _) ?_,rfl,q _ hf⟩
  exact ⟨z,us,0,r,Heap.get?_push_size _ rfl⟩
end
abbrev Sp:=List V→Hp→VK→XK→Prop
abbrev CXT:=List Env→Hp→Shared→XK→Value→Shared→Prop
structure Env0 (P:Program) (w:World) (K:PySem.W.Frag) (mg:Str→Option Value) (base:Heap) (A:Around) (outer:List Env) (s:Shared) (H:Hp):Prop where
  frames:A.frames=some outer
  mod:Mod K mg base
  bs:∀ b o,base.get? b=some o→s.heap.get? b=some o∧H b=none
  bsz:base.objs.size≤s.heap.objs.size
  funs:s.heap.FunFrames base outer
  frf:∀ b∈frs outer,H b=none
  hok:HOk P w H s.heap
  bare:AllBare s.gens
def CE (outer:List Env) (P:Program) (w:World) (H:Hp) (s:Shared) (Q:VK) (u:Value) (s':Shared):Prop :=
  ∃ v H',s'.os=s.os∧AllBare s'.gens∧Un (frs outer) [] H H' s.heap s'.heap∧HOk P w H' s'.heap∧RelV v u∧Q v H'
def CR (CX:CXT) (outer:List Env) (P:Program) (w:World) (H:Hp) (s:Shared) (Q:VK) (E:XK) (r:Result) (s':Shared):Prop :=
  match r with
  | .ok (.ret u)=>CE outer P w H s Q u s'
  | .ok _=>False
  | .error e=>CX outer H s E e s'
structure FnOk (P:Program) (w:World) (K:PySem.W.Frag) (mg:Str→Option Value) (base:Heap) (CX:CXT) (k:Nat) (f:Addr) (fd:FuncData) (ps:List Str) (sp:Sp):Prop where
  len:∀ vs H Q E,sp vs H Q E→vs.length=ps.length
  run:∀ (A:Around) (outer:List Env) (s:Shared) (H:Hp) (args:Args) (us:List Value) (vs:List V) (Q:VK) (E:XK),Room k A→Env0 P w K mg base A outer s H→BindsTo s fd args (ps.zip us)→Vals vs us→sp vs H Q E →
    codeAny (model P w) A (.call (.ref f) args) (CR CX outer P w H s Q E) s
section
variable {X:Cx} {pins:List (Addr × Obj)} {σ:St} {H:Hp} {s s':Shared}
theorem Inv.env0 (I:Inv X pins σ H s):Env0 X.prog X.w X.K X.mg X.base X.A X.stack s H :=
  ⟨I.ok.frames,I.ok.mod,I.bs,Nat.le_trans I.ok.bsz I.sz,I.stack,I.stkFree,I.hok,I.bare⟩
theorem Inv.after {Q:VK} {u:Value} (I:Inv X pins σ H s) (h:CE X.stack X.prog X.w H s Q u s'):EP X pins σ Q u s':=by
  obtain ⟨v,H',os,bare,un,hok,r,q⟩:=h
  obtain ⟨hh,g,d,t,os'⟩:=s'
  obtain rfl:os'=s.os:=os
  exact ⟨v,H',I.call (h':=hh) (g':=g) (d':=d) (t':=t) (ch:=[]) un hok bare (fun b z=>absurd z (by simp)),r,q⟩
end
def tCall (sp:Sp) (dvs:List V) (E:XK) (t:TA):TE:=fun σ H Q=>t σ H fun vs H1=>sp (vs++dvs) H1 Q E
def Binds (K:PySem.W.Frag) (fd:FuncData) (ps:List Str) (ds:List Value):Prop :=
  ∀ (s:Shared) (us:List Value),K.In s.heap→(us++ds).length=ps.length→BindsTo s fd ⟨us,[]⟩ (ps.zip (us++ds))
theorem Binds.all {K:PySem.W.Frag} {fd:FuncData} {ps:List Str} (h:∀ us:List Value,us.length=ps.length→bindArgs fd ⟨us,[]⟩=pure (ps.zip us)):Binds K fd ps []:=fun s us _ hl=>by
  rw [List.append_nil] at hl ⊢
  exact .of_eq (h us hl)
def Passes (CX:CXT) (X:Cx) (E:XK):Prop:=∀ (pins:List (Addr × Obj)) (σ:St) (H:Hp) (s:Shared) (e:Value) (s':Shared),Inv X pins σ H s→CX X.stack H s E e s'→X.xe e s'
section
variable {X:Cx} {CX:CXT} {k:Nat} {f C:Addr} {fd:FuncData} {ps:List Str} {sp:Sp} {dvs:List V} {ds:List Value} {E:XK} {x m:Str} {p pos apos:Pos} {e o:Expr} {es:List Expr} {ta:TE} {t:TA}
theorem run_fn {pins:List (Addr × Obj)} {σ:St} {H:Hp} {s:Shared} {Q:VK} {us:List Value} {vs:List V} (F:FnOk X.prog X.w X.K X.mg X.base CX k f fd ps sp) (hr:Room k X.A) (hb:Binds X.K fd ps ds) (hd:Vals dvs ds) (hx:Passes CX X E)
    (I:Inv X pins σ H s) (r:Vals vs us) (h:sp (vs++dvs) H Q E):wpAny (model X.prog X.w) X.A (call (.ref f) us) (EP X pins σ Q) X.xe s:=by
  have r2:Vals (vs++dvs) (us++ds):=r.append hd
  have hl:(us++ds).length=ps.length:=by rw [← r2.length]; exact F.len _ _ _ _ h
  refine wpAny_call (codeAny_mono (F.run X.A X.stack s H ⟨us,[]⟩ (us++ds) (vs++dvs) Q E hr I.env0 (hb s us I.kIn hl) r2 h) fun r s' hq=>?_)
  cases r with
  | error e=>exact hx pins σ H s e s' I hq
  | ok fl =>
    cases fl with
    | ret u=>exact I.after hq
    | next=>exact False.elim hq
    | brk=>exact False.elim hq
    | cont=>exact False.elim hq
theorem pe_call (F:FnOk X.prog X.w X.K X.mg X.base CX k f fd ps sp) (hr:Room k X.A) (hg:Gl X x) (hm:X.mg x=some (.ref f)) (hk:PySem.W.keepIn X.K (.ref f)=true) (hb:Binds X.K fd ps ds) (hd:Vals dvs ds) (hx:Passes CX X E)
    (ha:PA X (e::es) t) (hdb:(x == ("__debug__" : Str))=false:=by decide) (he:starEach (e::es) X.env=(false,eval e X.env)::starEach es X.env:=by rfl) (hpl:(backTo pos (starEach es X.env)).any (·.1)=false:=by rfl) :
    PE X (.Call (.Name x p) (e::es) [] pos) (tCall sp dvs E t):=by
  intro pins s σ H Q I h
  refine wpAny_Call_Name_kw (ld_glob I hg hm ?_ hdb)
  refine PySem.W.callWith_K (h₀:=X.base) I.ok.mod.kin hk (thn (ha pos pins s σ H _ I h) fun us s1 ⟨vs,H1,I1,r,q⟩=>⟨I1.kIn,?_⟩) he hpl
  exact run_fn F hr hb hd hx I1 r q
end
section
variable {X:Cx} {CX:CXT} {k:Nat} {f C:Addr} {fd:FuncData} {ps ks:List Str} {sp:Sp} {E:XK} {x m:Str} {p pos apos kpos:Pos} {e o:Expr} {es:List Expr} {kws:List Keyword} {te ta:TE} {t tk:TA} {nm:Option Str}
variable {g:List Value→List Value→List Value} {gV:List V→List V→List V}
end
structure FnScope (N P:List Str) (sc:Scope):Prop where
  kind:sc.kind=.function
  co:sc.isCoroutine=false
  gen:sc.isGenerator=false
  nd:N.Nodup
  pre:N.take P.length=P
  par:∀ x∈P,sc.names.lookup x=some .local∨sc.names.lookup x=some .cell
  nofree:∀ y∈sc.names,y.2 ≠ .free
theorem bindL_out {kindOf:Str→Option NameKind} {x:Str}:∀ {binds:List (Str × Value)} {m:Str→Option Value},(∀ v,(x,v) ∉ binds)→bindL kindOf binds m x=m x
  | [],_,_=>rfl
  | (n,v)::r,m,h=>by
    unfold bindL
    rw [bindL_out fun w hw=>h w (List.mem_cons_of_mem _ hw)]
    split
    · have:x≠n:=by rintro rfl; exact h v List.mem_cons_self
      simp [this]
    · rfl
theorem bindC_out {kindOf:Str→Option NameKind} {x:Str}:∀ {binds:List (Str × Value)} {m:Str→Option Value},(∀ v,(x,v) ∉ binds)→bindC kindOf binds m x=m x
  | [],_,_=>rfl
  | (n,v)::r,m,h=>by
    unfold bindC
    rw [bindC_out fun w hw=>h w (List.mem_cons_of_mem _ hw)]
    split
    · rfl
    · have:x≠n:=by rintro rfl; exact h v List.mem_cons_self
      simp [this]
theorem bindL_get {kindOf:Str→Option NameKind} {x:Str} {v:Value}:∀ {P:List Str} {vs:List Value} {i:Nat} {m:Str→Option Value},P.Nodup→P[i]?=some x→vs[i]?=some v→kindOf x=some .local →
    bindL kindOf (P.zip vs) m x=some v
  | [],_,_,_,_,h,_,_=>by simp at h
  | _::_,[],_,_,_,_,h,_=>by simp at h
  | p::P,w::vs,0,m,nd,h1,h2,hk=>by
    simp at h1 h2; subst h1; subst h2
    show bindL kindOf ((p,w)::P.zip vs) m p=_
    unfold bindL
    rw [bindL_out fun v hv=>(List.nodup_cons.mp nd).1 (List.of_mem_zip hv).1,if_pos hk]
    simp
  | p::P,w::vs,i+1,m,nd,h1,h2,hk=>by
    show bindL kindOf ((p,w)::P.zip vs) m x=_
    unfold bindL
    exact bindL_get (i:=i) (List.nodup_cons.mp nd).2 (by simpa using h1) (by simpa using h2) hk
theorem bindC_get {kindOf:Str→Option NameKind} {x:Str} {v:Value}:∀ {P:List Str} {vs:List Value} {i:Nat} {m:Str→Option Value},P.Nodup→P[i]?=some x→vs[i]?=some v→kindOf x≠some .local →
    bindC kindOf (P.zip vs) m x=some v
  | [],_,_,_,_,h,_,_=>by simp at h
  | _::_,[],_,_,_,_,h,_=>by simp at h
  | p::P,w::vs,0,m,nd,h1,h2,hk=>by
    simp at h1 h2; subst h1; subst h2
    show bindC kindOf ((p,w)::P.zip vs) m p=_
    unfold bindC
    rw [bindC_out fun v hv=>(List.nodup_cons.mp nd).1 (List.of_mem_zip hv).1,if_neg hk]
    simp
  | p::P,w::vs,i+1,m,nd,h1,h2,hk=>by
    show bindC kindOf ((p,w)::P.zip vs) m x=_
    unfold bindC
    exact bindC_get (i:=i) (List.nodup_cons.mp nd).2 (by simpa using h1) (by simpa using h2) hk
def start (N:List Str) (vs:List V):St:=vs.map some++List.replicate (N.length - vs.length) none
def cxOf (CX:CXT) (P:Program) (w:World) (K:PySem.W.Frag) (mg:Str→Option Value) (base:Heap) (N:List Str) (qual:Str) (scope:Scope) (f:Addr) (cd:Value) (A:Around) (outer:List Env) (s:Shared) (H:Hp) (E:XK):Cx where
  prog:=P
  w:=w
  K:=K
  mg:=mg
  base:=base
  A:=A.deeper (envOfC qual scope s.heap.objs.size f cd)
  N:=N
  s₀:=s
  H₀:=H
  env:=envOfC qual scope s.heap.objs.size f cd
  outer:=outer
  stack:=envOfC qual scope s.heap.objs.size f cd::outer
  ex:=[]
  calm:=true
  fn:=fun _=>true
  pn:=[]
  xe:=fun e s'=>wpAny (model P w) (A.deeper (envOfC qual scope s.heap.objs.size f cd)) (leaving (envOfC qual scope s.heap.objs.size f cd) e) (fun _ s''=>CX outer H s E e s'') (fun e' s''=>CX outer H s E e' s'') s'
theorem cell_has {sc:Scope} {n:Nat} {x:Str} (h:sc.names.lookup x=some .cell):∃ c,(cellsFrom n sc.names []).lookup x=some c:=by
  have q:=PySem.W.cellsFrom_some sc.names n [] (.inl h)
  exact Option.isSome_iff_exists.mp q
theorem inv_start {CX:CXT} {P:Program} {w:World} {K:PySem.W.Frag} {mg:Str→Option Value} {base:Heap} {N ps:List Str} {qual:Str} {scope:Scope} {f:Addr} {cd:Value} {A:Around} {outer:List Env} {s s1:Shared} {H:Hp} {E:XK} {us:List Value} {vs:List V}
    (S:FnScope N ps scope) (hd:A.handled=none) (e0:Env0 P w K mg base A outer s H) (hl:vs.length=ps.length) (r:Vals vs us)
    (x:InCallC s s.heap.objs.size (bindL (envOfC qual scope s.heap.objs.size f cd).kindOf (ps.zip us) fun _=>none) (cellsFrom (s.heap.objs.size+1) scope.names []) (bindC (envOfC qual scope s.heap.objs.size f cd).kindOf (ps.zip us) fun _=>none) s1) :
    Inv (cxOf CX P w K mg base N qual scope f cd A outer s H E) [] (start N vs) H s1:=by
  have hpl:ps.length≤N.length:=by have:=congrArg List.length S.pre; rw [List.length_take] at this; omega
  obtain ⟨h1,tk,rfl,hk⟩:=x.done
  have noA:∀ b:Addr,b ∉ (cxOf CX P w K mg base N qual scope f cd A outer s H E).ex:=fun b z=>absurd (show b∈([]:List Addr) from z) (by simp)
  refine ⟨⟨e0.mod,S.kind,rfl,rfl,Nat.le_refl _,fun y z c h1 h2=>?_,fun y hy=>?_,fun y c _ h=>?_,fun _=>hd,Around.frames_deeper e0.frames,.inr ⟨rfl,rfl⟩,fun b z=>absurd z (noA b),e0.bs,e0.bsz,fun b _ _=>noA b,fun b z=>absurd z (noA b),e0.funs,e0.frf⟩,
    rfl,e0.bare,Un.kept hk,⟨_,x.toInCall.ns,fun i y v h1 h2 h3=>?_⟩,fun y c h=>⟨_,x.cell y c h⟩,e0.hok.fresh (Nat.le_refl _),fun y c h=>?_,fun p hp=>absurd (show p∈([]:List (Addr × Obj)) from hp) (by simp),e0.hok.kept hk,?_⟩
  · exact name_of_addr x.apart (PySem.mem_of_lookup h1) (PySem.mem_of_lookup h2)
  · have hy:scope.names.lookup y=some .cell∨scope.names.lookup y=some .free:=hy
    rcases hy with hy | hy
    · exact cell_has hy
    · exact absurd rfl (S.nofree _ (PySem.mem_of_lookup hy))
  · exact Nat.le_of_lt (x.above y c (PySem.mem_of_lookup h))
  · have hi:i<vs.length:=by
      unfold start at h2
      by_cases hi:i<vs.length
      · exact hi
      · rw [List.getElem?_append_right (by simpa using hi)] at h2
        rw [List.getElem?_replicate] at h2
        split at h2 <;> cases h2
    have ha:vs[i]?=some v:=by
      unfold start at h2
      rw [List.getElem?_append_left (by simpa using hi),List.getElem?_map] at h2
      cases e:vs[i]? with
      | none=>rw [e] at h2; cases h2
      | some a=>rw [e] at h2; cases h2; rfl
    obtain ⟨u,hu,rv⟩:=r.get ha
    have hp:ps[i]?=some y:=by
      rw [← S.pre,List.getElem?_take_of_lt (by omega)]; exact h1
    have ndP:ps.Nodup:=by rw [← S.pre]; exact S.nd.sublist (List.take_sublist _ _)
    refine ⟨u,rv,?_⟩
    rcases S.par y (List.mem_of_getElem? hp) with k | k
    · exact .inl ⟨k,bindL_get ndP hp hu k⟩
    · obtain ⟨c,e⟩:=cell_has (n:=s.heap.objs.size+1) k
      refine .inr ⟨.inl k,c,e,?_⟩
      have q:=x.cell y c e
      rw [bindC_get ndP hp hu (by show scope.names.lookup y≠_; rw [k]; decide)] at q
      exact q
  · exact e0.hok.fresh (Nat.le_of_lt (x.above y c (PySem.mem_of_lookup h)))
  · unfold start
    show _=N.length
    rw [List.length_append,List.length_map,List.length_replicate]
    omega
theorem fn_of {CX:CXT} {P:Program} {w:World} {K:PySem.W.Frag} {mg:Str→Option Value} {base:Heap} {k:Nat} {f:Addr} {name qual:Str} {params:Arguments} {body:List Stmt} {scope:Scope} {dV kV doc pm cdv ct oc:Value} {an od:Option Addr}
    {osl:Array (Option Value)} {N ps:List Str} {sp:Sp} (lk:K.lookup f=some ⟨oc,od,.func (PySem.W.fnOf name qual params body scope dV kV doc pm an cdv ct),osl⟩) (hcd:PySem.W.codeIn K cdv qual=true) (S:FnScope N ps scope)
    (len:∀ vs H Q E,sp vs H Q E→vs.length=ps.length)
    (hbody:∀ (A:Around) (outer:List Env) (s:Shared) (H:Hp) (vs:List V) (Q:VK) (E:XK),Room k (A.deeper (envOfC qual scope s.heap.objs.size f cdv))→sp vs H Q E →
      ∃ t,PSs (cxOf CX P w K mg base N qual scope f cdv A outer s H E) body t∧t { nx:=fun _ H'=>Q .non H',rt:=Q } (start N vs) H) :
    FnOk P w K mg base CX (k+1) f (PySem.W.fnOf name qual params body scope dV kV doc pm an cdv ct) ps sp:=by
  refine ⟨len,fun A outer s H args us vs Q E hr e0 hb r hsp=>?_⟩
  have hl:=len _ _ _ _ hsp
  have KX:K.In s.heap:=e0.mod.kin.keeps fun b o e=>(e0.bs b o e).1
  have lim:s.heap.NoLimit:=e0.mod.nolimit.keeps fun b o e=>(e0.bs b o e).1
  have hkind:∀ y∈ps.zip us,scope.names.lookup y.1=some .local∨(scope.names.lookup y.1=some .cell∧((cellsFrom (s.heap.objs.size+1) scope.names []).lookup y.1).isSome=true):=fun ⟨n,v⟩ hy=>by
    rcases S.par n (List.of_mem_zip hy).1 with q | q
    · exact .inl q
    · exact .inr ⟨q,PySem.W.cellsFrom_some _ _ _ (.inl q)⟩
  refine codeAny_call_function hr.depth (KX _ _ lk) rfl S.co S.gen rfl (PySem.W.codeRec_of KX hcd) (hb _ _ _ _ ?_)
  refine wpAny_newFunctionEnv_cells S.kind hkind fun env he s1 x=>?_
  subst he
  refine ⟨lim.keeps x.toInCall.keep,codeAny_func ?_⟩
  obtain ⟨t,ht,hq⟩:=hbody A outer s H vs Q E (hr.deeper _) hsp
  have I:Inv (cxOf CX P w K mg base N qual scope f cdv A outer s H E) [] (start N vs) H s1:=inv_start S hr.hd e0 hl r x
  refine wpAny_mono (ht [] s1 (start N vs) H _ I hq) (fun fl s' hs=>?_) fun e s' hs=>hs
  have fin:∀ {σ':St} {H':Hp} {v:V} {u:Value},Inv (cxOf CX P w K mg base N qual scope f cdv A outer s H E) [] σ' H' s'→RelV v u→Q v H'→CE outer P w H s Q u s' :=
    fun {σ' H' v u} J rv q=>⟨v,H',J.os,J.bare,J.base,J.hok,rv,q⟩
  cases fl with
  | ret u =>
    obtain ⟨v,σ',H',J,rv,q⟩:=hs
    exact fin J rv q
  | next =>
    obtain ⟨σ',H',J,q⟩:=hs
    exact fin (v:=V.non) (u:=Value.none) J rfl q
  | brk =>
    obtain ⟨_,_,_,q⟩:=hs
    exact False.elim q
  | cont =>
    obtain ⟨_,_,_,q⟩:=hs
    exact False.elim q
end L2
namespace L2
open PySem PySem.Spec PyProof.Rows
section
variable {X:Cx} {x:Str} {p pos:Pos} {e:Expr} {es:List Expr} {t:TA} {id T:String} {r:List V→Hp→VK→Prop}
def tCB (r:List V→Hp→VK→Prop) (t:TA):TE:=fun σ H Q=>t σ H fun vs H1=>r vs H1 Q
theorem pe_callB (hc:CallR X (.builtin id) r) (hg:Gl X x) (hm:X.mg x=none) (hv:bootBuiltins x=some (.builtin id)) (ha:PA X (e::es) t) (hn:x ≠ "__name__" := by decide) (hdb:(x == ("__debug__" : Str))=false:=by decide)
    (he:starEach (e::es) X.env=(false,eval e X.env)::starEach es X.env:=by rfl) (hpl:(backTo pos (starEach es X.env)).any (·.1)=false:=by rfl):PE X (.Call (.Name x p) (e::es) [] pos) (tCB r t):=by
  intro pins s σ H Q I h
  refine wpAny_Call_Name_kw (ld_blt I hg hm hv ?_ hn hdb)
  exact PyProof.Rows.callWith_builtin1 (thn (ha pos pins s σ H _ I h) fun us s1 ⟨vs,H1,I1,r1,q1⟩=>hc pins s1 σ H1 vs us Q I1 r1 q1) he hpl
theorem pe_callTy (hc:CallR X (.type T) r) (hg:Gl X x) (hm:X.mg x=none) (hv:bootBuiltins x=some (.type T)) (ha:PA X (e::es) t) (hn:x ≠ "__name__" := by decide) (hdb:(x == ("__debug__" : Str))=false:=by decide)
    (he:starEach (e::es) X.env=(false,eval e X.env)::starEach es X.env:=by rfl) (hpl:(backTo pos (starEach es X.env)).any (·.1)=false:=by rfl):PE X (.Call (.Name x p) (e::es) [] pos) (tCB r t):=by
  intro pins s σ H Q I h
  refine wpAny_Call_Name_kw (ld_blt I hg hm hv ?_ hn hdb)
  exact PyProof.Rows.callWith_type1 (thn (ha pos pins s σ H _ I h) fun us s1 ⟨vs,H1,I1,r1,q1⟩=>hc pins s1 σ H1 vs us Q I1 r1 q1) he hpl
end
end L2
namespace HT
open PySem PyProof.Rows
section
open PySem.SeqAt
open PySem.AutoSeq1 (wpAny_loadPart')
open PySem.MeetsSeq PySem.MeetsSeq2 PySem.MeetsSeq3
end
section
variable {prog:Program} {w:World} {A:Around} {E:Value→Shared→Prop} {s:Shared}
theorem cat_tup {t b:Addr} {vs ws:List Value} {Q:Value→Shared→Prop} (ht:IsTup s.heap t vs.toArray) (hb:IsTup s.heap b ws.toArray) (hv:vs≠[])
    (h1:ws=[]→Q (.ref t) s) (h2:ws≠[]→Q (.ref s.heap.objs.size) { s with heap:=s.heap.push { cls:=.type "tuple",data:=.seq (vs++ws).toArray } })
    (hsz:vs.length+ws.length≤sizeLine):wpAny (model prog w) A (binaryOp .Add (.ref t) (.ref b)) Q E s:=by
  obtain ⟨⟨cls,dd,data,sl⟩,ho,hc,n,hd⟩:=id ht
  obtain ⟨⟨cls2,dd2,data2,sl2⟩,ho2,hc2,n2,hd2⟩:=id hb
  simp only at hc hd hc2 hd2
  subst hc hd hc2 hd2
  have e:vs.toArray++ws.toArray=(vs++ws).toArray:=by simp
  by_cases hw:ws=[]
  · exact concat_meets ⟨_,ho,rfl⟩ ⟨_,ho2,rfl⟩ noFill_tuple_add seq_tuple_add PySem.F.slot_tuple_add PySem.F.entry_tuple_add (PySem.F.args_tuple_add_2 _ _)
      (tuple_addW1 t b vs.toArray ws.toArray n n2 dd dd2 sl sl2 (by simpa using hv) (by simp [hw])) ⟨ho,ho2,h1 hw⟩
  · refine concat_meets ⟨_,ho,rfl⟩ ⟨_,ho2,rfl⟩ noFill_tuple_add seq_tuple_add PySem.F.slot_tuple_add PySem.F.entry_tuple_add (PySem.F.args_tuple_add_2 _ _)
      (tuple_addW2 t b vs.toArray ws.toArray n n2 dd dd2 sl sl2 (by simpa using hv) (by simpa using hw) (by rw [List.size_toArray,List.size_toArray]; exact hsz)) ⟨ho,ho2,?_⟩
    rw [e]
    exact h2 hw
def sIx (n d:Nat):Option Int→Nat
  | none=>d
  | some v=>if v<0 then (v+(n:Int)).toNat else min v.toNat n
theorem sIx_none (n d:Nat):sIx n d none=d:=rfl
theorem sIx_nat (n d k:Nat):sIx n d (some (k:Int))=min k n:=by
  show (if (k:Int)<0 then ((k:Int)+(n:Int)).toNat else min (k:Int).toNat n)=min k n
  rw [if_neg (by omega),Int.toNat_natCast]
theorem sIx_le (n d:Nat) (hd:d≤n) (o:Option Int):sIx n d o≤n:=by
  cases o with
  | none=>exact hd
  | some v =>
    show (if v<0 then (v+(n:Int)).toNat else min v.toNat n)≤n
    by_cases hv:v<0
    · rw [if_pos hv]; omega
    · rw [if_neg hv]; exact Nat.min_le_right _ _
theorem clip_eq (v:Int) (n d:Nat):(if v<0 then max (v+(n:Int)) 0 else min v (n:Int))=((sIx n d (some v):Nat):Int):=by
  show (if v<0 then max (v+(n:Int)) 0 else min v (n:Int))=(((if v<0 then (v+(n:Int)).toNat else min v.toNat n):Nat):Int)
  by_cases hv:v<0
  · simp only [if_pos hv]; omega
  · simp only [if_neg hv]; omega
theorem adjust_gen (lo hi:Option Int) (n:Nat):Builtin.Slice.sliceAdjust lo hi 1 (n:Int)=(((sIx n 0 lo:Nat):Int),((sIx n n hi:Nat):Int)):=by
  have h1:¬ ((1:Int)<0):=by omega
  unfold Builtin.Slice.sliceAdjust
  simp only [h1,if_false]
  refine Prod.ext ?_ ?_
  · cases lo with
    | none=>rfl
    | some v=>exact clip_eq v n 0
  · cases hi with
    | none=>rfl
    | some v=>exact clip_eq v n n
theorem places_gen (i j:Nat):Builtin.Slice.slicePlaces (i:Int) (j:Int) 1=j - i:=by
  unfold Builtin.Slice.slicePlaces
  have h1:(1:Int) > 0:=by omega
  simp only [h1,if_true,Int.ediv_one]
  split <;> omega
theorem slicePart_ {v:Value} {o:Option Int} {Q:Option Int→Shared→Prop} (p:IsPart v o) (h:Q o s):wpAny (model prog w) A (Builtin.Slice.slicePartIndex v) Q E s:=by
  cases p with
  | none=>exact slicePart_none h
  | int i t=>exact slicePart_int h
theorem sliceApplied_gen {sl:Addr} {vl vu:Value} {lo hi:Option Int} {n:Nat} {Q:Int × Int × Nat→Shared→Prop} (hs:s.heap.IsSliceOf sl vl vu .none) (pl:IsPart vl lo) (pu:IsPart vu hi)
    (h:Q (((sIx n 0 lo:Nat):Int),1,sIx n n hi - sIx n 0 lo) s):wpAny (model prog w) A (Builtin.Slice.sliceApplied (.ref sl) (pure (n:Int))) Q E s:=by
  obtain ⟨os,hos,hcs,hds⟩:=id hs
  unfold Builtin.Slice.sliceApplied Builtin.Slice.sliceFields
  refine wpAny_bind (wpAny_bind (wpAny_field hos hds (x:=vl) rfl (wpAny_bind (wpAny_field hos hds (x:=vu) rfl (wpAny_bind (wpAny_field hos hds (x:=.none) rfl (wpAny_pure ?_)))))))
  refine wpAny_bind (slicePart_none ?_)
  show wpAny _ _ (if ((1:Int) == 0)=true then _ else _) _ _ s
  rw [if_neg (by decide)]
  refine wpAny_bind (slicePart_ pl (wpAny_bind (slicePart_ pu (wpAny_bind (wpAny_pure ?_)))))
  show wpAny _ _ (match Builtin.Slice.sliceAdjust lo hi 1 (n:Int) with | (lo,hi)=>pure (lo,(1:Int),Builtin.Slice.slicePlaces lo hi 1)) _ _ s
  rw [adjust_gen lo hi n]
  show wpAny _ _ (pure (((sIx n 0 lo:Nat):Int),(1:Int),Builtin.Slice.slicePlaces ((sIx n 0 lo:Nat):Int) ((sIx n n hi:Nat):Int) 1)) _ _ s
  rw [places_gen]
  exact wpAny_pure h
theorem pick_gen (xs:Array Value) (i k:Nat):((List.range k).filterMap fun (m:Nat)=>xs[((i:Int)+(m:Int)*1).toNat]?).toArray=((xs.toList.drop i).take k).toArray:=by
  have e:(fun (m:Nat)=>xs[((i:Int)+(m:Int)*1).toNat]?)=fun m=>xs[i+m]?:=by
    funext m
    have:((i:Int)+(m:Int)*1).toNat=i+m:=by omega
    rw [this]
  rw [e]
  have:=pick_run xs i k
  rw [List.filterMap_map] at this
  have e2:((fun x=>xs[x]?) ∘ fun x=>i+x)=fun m=>xs[i+m]?:=rfl
  rw [e2] at this
  rw [this]
theorem getItem_tuple_cut {t sl:Addr} {items:Array Value} {vl vu:Value} {lo hi:Option Int} {Q:Value→Shared→Prop} (ht:IsTup s.heap t items) (hs:s.heap.IsSliceOf sl vl vu .none) (pl:IsPart vl lo) (pu:IsPart vu hi)
    (hw:¬ (sIx items.size 0 lo=0∧sIx items.size items.size hi=items.size))
    (h:Q (.ref s.heap.objs.size) { s with heap:=s.heap.push { cls:=.type "tuple",data:=.seq ((items.toList.drop (sIx items.size 0 lo)).take (sIx items.size items.size hi - sIx items.size 0 lo)).toArray } })
    (hsz:items.size≤sizeLine):wpAny (model prog w) A (getItem (.ref t) (.ref sl)) Q E s:=by
  have htake:sizeOk (.seq ((items.toList.drop (sIx items.size 0 lo)).take (sIx items.size items.size hi - sIx items.size 0 lo)).toArray):=by
    show ((items.toList.drop (sIx items.size 0 lo)).take (sIx items.size items.size hi - sIx items.size 0 lo)).toArray.size≤sizeLine
    rw [List.size_toArray,List.length_take,List.length_drop,Array.length_toList]
    omega
  have hj:sIx items.size items.size hi≤items.size:=sIx_le _ _ (Nat.le_refl _) hi
  obtain ⟨os,hos,hcs,hds⟩:=id hs
  have hTs:s.TypeIs (.ref sl) "slice" := ⟨os,hos,hcs⟩
  unfold getItem
  try with_reducible refine wpAny_holding ?_
  first | refine wpAny_bind (wpAny_pure ?_) | skip
  refine wpAny_bind (wpAny_sequenceKey ht.typeIs (by decide) ?_)
  refine wpAny_bind (wpAny_callSpecial?_slot (name:=Str.ofString "__getitem__") ht.typeIs PyProof.Rows.slot_tuple_getitem
    (wpAny_call_entry PyProof.Rows.slot_tuple_getitem ht.typeIs entry_tuple_getitem ?_ (args_tuple_getitem _ _)))
  show wpAny _ _ (Builtin.Tuple.tupleItemsOf (.ref t) >>= _) _ _ s
  refine wpAny_bind (tupleItemsOf_ ht ?_)
  refine wpAny_bind (wpAny_typeOf hTs ?_)
  rw [if_pos (by decide)]
  refine wpAny_bind (sliceApplied_gen hs pl pu ?_)
  have hno:¬ ((((sIx items.size 0 lo:Nat):Int) == 0&&(1:Int) == 1&&(sIx items.size items.size hi - sIx items.size 0 lo) == items.size)=true):=by
    intro q
    rw [Bool.and_eq_true,Bool.and_eq_true] at q
    have q1:((sIx items.size 0 lo:Nat):Int)=0:=eq_of_beq q.1.1
    have q2:sIx items.size items.size hi - sIx items.size 0 lo=items.size:=eq_of_beq q.2
    exact hw ⟨by omega,by omega⟩
  show wpAny _ _ (if (((sIx items.size 0 lo:Nat):Int) == 0&&(1:Int) == 1&&(sIx items.size items.size hi - sIx items.size 0 lo) == items.size)=true then _ else _) _ _ s
  rw [if_neg hno,pick_gen]
  first
    | exact wpAny_bind (m:=Builtin.Tuple.tupleExact _) (wpAny_newObj_type (wpAny_pure ⟨_,rfl,wpAny_pure h⟩) htake)
    | exact wpAny_bind (m:=Builtin.Tuple.tupleExact _) (wpAny_newObj_type (wpAny_bind (wpAny_pure (wpAny_pure ⟨_,rfl,wpAny_pure h⟩))) htake)
    | exact wpAny_bind (wpAny_bind (m:=Builtin.Tuple.tupleExact _) (wpAny_newObj_type (wpAny_pure (wpAny_pure ⟨_,rfl,wpAny_pure h⟩)) htake))
    | exact wpAny_bind (wpAny_bind (m:=Builtin.Tuple.tupleExact _) (wpAny_newObj_type (wpAny_pure ⟨_,rfl,wpAny_pure h⟩) htake))
end
end HT
namespace L2
open PySem PySem.Spec PyProof.Rows
abbrev TO:=St→Hp→(Option Int→Hp→Prop)→Prop
def PO (X:Cx) (e:Option Expr) (t:TO):Prop :=
  ∀ (pins:List (Addr × Obj)) (s:Shared) (σ:St) (H:Hp) (Q:Option Int→Hp→Prop),Inv X pins σ H s→t σ H Q →
    wpAny (model X.prog X.w) X.A (evalPart e X.env) (fun u s'=>∃ o H',Inv X pins σ H' s'∧IsPart u o∧Q o H') X.xe s
def tNoPart:TO:=fun _ H Q=>Q none H
def tPart (t:TE):TO:=fun σ H Q=>t σ H fun x H1=>∃ i,x=.int i∧Q (some i) H1
theorem intsAre_of {ns:List Int}:∀ {us:List Value},Vals (ns.map V.int) us→IntsAre us ns:=by
  induction ns with
  | nil=>intro us r; rw [List.map_nil] at r; cases r; exact .nil
  | cons n ns ih =>
    intro us r
    rw [List.map_cons] at r
    cases r with
    | cons r1 r2 =>
      obtain ⟨t,e⟩:=r1
      subst e
      exact .cons n t (ih r2)
section
variable {X:Cx} {e:Expr} {te:TE} {lo hi:Option Expr} {tl th:TO} {pos p2:Pos}
theorem po_none:PO X none tNoPart:=by
  intro pins s σ H Q I h
  rw [evalPart_none]
  exact wpAny_pure ⟨none,H,I,.none,h⟩
theorem po_some (h:PE X e te):PO X (some e) (tPart te):=by
  intro pins s σ H Q I hw
  rw [evalPart_some]
  refine thn (h pins s σ H _ I hw) fun u s1 ⟨x,H1,I1,r1,q1⟩=>?_
  obtain ⟨i,rfl,q⟩:=q1
  obtain ⟨t,rfl⟩:=r1
  exact ⟨some i,H1,I1,.int i t,q⟩
def SlR (X:Cx) (r:V→Option Int→Option Int→Hp→VK→Prop):Prop :=
  ∀ (pins:List (Addr × Obj)) (s:Shared) (σ:St) (H:Hp) (x:V) (v vl vu:Value) (lo hi:Option Int) (sl:Addr) (Q:VK),Inv X pins σ H s→RelV x v→s.heap.IsSliceOf sl vl vu .none→IsPart vl lo→IsPart vu hi→r x lo hi H Q →
    ∃ T id,typeLookup (.type T) "__getitem__" = pure (some (.builtin id))∧s.TypeIs v T∧wpAny (model X.prog X.w) X.A (getItem v (.ref sl)) (EP X pins σ Q) X.xe s
def tSl (r:V→Option Int→Option Int→Hp→VK→Prop) (te:TE) (tl th:TO):TE:=fun σ H Q=>te σ H fun x H1=>tl σ H1 fun l H2=>th σ H2 fun u H3=>r x l u H3 Q
theorem pe_slice {r:V→Option Int→Option Int→Hp→VK→Prop} (hr:SlR X r) (he:PE X e te) (hl:PO X lo tl) (hu:PO X hi th):PE X (.Subscript e (.Slice lo hi none p2) pos) (tSl r te tl th):=by
  intro pins s σ H Q I h
  refine Subscript_ (thn (he pins s σ H _ I h) fun v s1 ⟨x,H1,I1,r1,q1⟩=>?_)
  refine wpAny_Slice (thn (hl pins s1 σ H1 _ I1 q1) fun vl s2 ⟨l,H2,I2,pl,q2⟩=>thn (hu pins s2 σ H2 _ I2 q2) fun vu s3 ⟨u,H3,I3,pu,q3⟩=>?_)
  rw [evalPart_none]
  refine wpAny_pure ?_
  have I4:Inv X pins σ H3 { s3 with heap:=s3.heap.push { cls:=.type "slice",data:=.fields #[vl,vu,.none] } }:=I3.kept (t':=s3.toks) fun b ob q=>Heap.get?_push_of_some _ q
  obtain ⟨T,id,hT,ht,hg⟩:=hr pins { s3 with heap:=s3.heap.push { cls:=.type "slice",data:=.fields #[vl,vu,.none] } } σ H3 x v vl vu l u s3.heap.objs.size Q I4 r1 (Heap.IsSliceOf.new ..) pl pu q3
  show wpAny (model X.prog X.w) X.A (subscriptTail e (.Slice lo hi none p2) v (.ref s3.heap.objs.size)) (EP X pins σ Q) X.xe { s3 with heap:=s3.heap.push { cls:=.type "slice",data:=.fields #[vl,vu,.none] } }
  exact tail_any (ops:=[.ref s3.heap.objs.size,v]) ht hT hg (by with_unfolding_all rfl)
def cutV (xs:List V) (lo hi:Option Int):List V:=(xs.drop (HT.sIx xs.length 0 lo)).take (HT.sIx xs.length xs.length hi - HT.sIx xs.length 0 lo)
theorem cutV_length (xs:List V) (lo hi:Option Int):(cutV xs lo hi).length≤xs.length:=by
  unfold cutV
  rw [List.length_take,List.length_drop]
  omega
def rSlT (K:PySem.W.Frag):V→Option Int→Option Int→Hp→VK→Prop:=fun x lo hi H Q=>∃ a xs,x=.ref a∧SqT K H a xs ∧
  ¬ (HT.sIx xs.length 0 lo=0∧HT.sIx xs.length xs.length hi=xs.length)∧∀ p,H p=none→Q (.ref p) (upd H p (.tup (cutV xs lo hi)))
theorem sl_tup:SlR X (rSlT X.K):=by
  intro pins s σ H x v vl vu lo hi sl Q I rx hs pl pu h
  obtain ⟨a,xs,rfl,hx,hw,q⟩:=h
  cases rx
  obtain ⟨its,r,ht,hz⟩:=I.tuple hx
  have hlen:its.toArray.size=xs.length:=by rw [List.size_toArray]; exact r.length.symm
  refine ⟨"tuple",_,PyProof.Rows.slot_tuple_getitem.lookup,ht.typeIs,?_⟩
  refine HT.getItem_tuple_cut ht hs pl pu (by rw [hlen]; exact hw) ?_ (by rw [hlen]; exact hz)
  rw [hlen]
  refine ⟨.ref s.heap.objs.size,_,I.laid (t':=s.toks) (o:=.tup (cutV xs lo hi)) (fun b ob q=>Heap.get?_push_of_some _ q) (Nat.le_refl _) ?_,rfl,q _ (I.hok.fresh (Nat.le_refl _))⟩
  exact ⟨⟨Nat.le_trans (cutV_length xs lo hi) hz,_,Heap.get?_push_size _ rfl,rfl⟩,_,(r.drop (HT.sIx xs.length 0 lo)).take (HT.sIx xs.length xs.length hi - HT.sIx xs.length 0 lo),IsTup.new _ _⟩
def rCatT (K:PySem.W.Frag):R2:=fun x y H Q=>∃ a b xs ys,x=.ref a∧y=.ref b∧SqT K H a xs∧SqT K H b ys∧xs≠[]∧xs.length+ys.length≤sizeLine ∧
  (ys=[]→Q (.ref a) H)∧(ys≠[]→∀ p,H p=none→Q (.ref p) (upd H p (.tup (xs++ys))))
theorem Vals.nil_iff {xs:List V} {us:List Value} (r:Vals xs us):us=[]↔xs=[]:=by
  cases r with
  | nil=>simp
  | cons _ _=>simp
theorem op_catT:OpR X (binaryOp .Add) (rCatT X.K):=by
  intro pins s σ H x y v u Q I rx ry h
  obtain ⟨a,b,xs,ys,rfl,rfl,ha,hb,hx,hz,q1,q2⟩:=h
  cases rx
  cases ry
  obtain ⟨its,r1,p1,_⟩:=I.tuple ha
  obtain ⟨its2,r2,p2,_⟩:=I.tuple hb
  refine HT.cat_tup p1 p2 (fun z=>hx (r1.nil_iff.mp z)) (fun z=>⟨.ref a,H,I,rfl,q1 (r2.nil_iff.mp z)⟩) (fun z=>?_) (by rw [← r1.length,← r2.length]; exact hz)
  refine ⟨.ref s.heap.objs.size,_,I.laid (t':=s.toks) (o:=.tup (xs++ys)) (fun b ob q=>Heap.get?_push_of_some _ q) (Nat.le_refl _) ?_,rfl,q2 (fun w=>z (r2.nil_iff.mpr w)) _ (I.hok.fresh (Nat.le_refl _))⟩
  exact ⟨⟨by rw [List.length_append]; exact hz,_,Heap.get?_push_size _ rfl,rfl⟩,_,r1.append r2,IsTup.new _ _⟩
end
end L2
namespace L2
open PySem PySem.Spec PyProof.Rows
def ixN (n:Nat) (i:Int):Option Nat:=if 0≤i then (if i<n then some i.toNat else none) else if -(n:Int)≤i then some (i+n).toNat else none
def atI {α:Type} (xs:List α) (i:Int):Option α:=(ixN xs.length i).bind fun j=>xs[j]?
theorem ixN_seq {n:Nat} {i:Int} {j:Nat} (h:ixN n i=some j):seqIndex? i n=some j∧j<n∧-(n:Int)≤i∧i<n:=by
  unfold ixN at h
  by_cases h0:0≤i
  · rw [if_pos h0] at h
    by_cases h1:i<n
    · rw [if_pos h1] at h
      have e:i.toNat=j:=Option.some.inj h
      exact ⟨by rw [seqIndex_of h0 h1,e],by omega,by omega,h1⟩
    · rw [if_neg h1] at h; cases h
  · rw [if_neg h0] at h
    by_cases h1:-(n:Int)≤i
    · rw [if_pos h1] at h
      have e:(i+n).toNat=j:=Option.some.inj h
      exact ⟨by rw [seqIndex_neg (by omega) h1,e],by omega,h1,by omega⟩
    · rw [if_neg h1] at h; cases h
theorem atI_get {α:Type} {xs:List α} {i:Int} {v:α} (h:atI xs i=some v):∃ j,seqIndex? i xs.length=some j∧xs[j]?=some v∧j<xs.length∧-(xs.length:Int)≤i∧i<xs.length:=by
  unfold atI at h
  cases e:ixN xs.length i with
  | none=>rw [e] at h; cases h
  | some j =>
    rw [e] at h
    obtain ⟨h1,h2,h3,h4⟩:=ixN_seq e
    exact ⟨j,h1,h,h2,h3,h4⟩
theorem atI_nat {α:Type} {xs:List α} {j:Nat} {v:α} (h:xs[j]?=some v):atI xs (j:Int)=some v:=by
  have hj:j<xs.length:=(List.getElem?_eq_some_iff.mp h).1
  have e:ixN xs.length (j:Int)=some j:=by
    unfold ixN
    rw [if_pos (by omega),if_pos (by omega)]; simp
  unfold atI; rw [e]; exact h
def PlainIx (b:Expr):Prop:=∀ o i,subscripted b false o i=operate [o,i] (getItem o i)
def IxR (X:Cx) (r:R2):Prop :=
  ∀ (value slice:Expr) (pins:List (Addr × Obj)) (s:Shared) (σ:St) (H:Hp) (x y:V) (v u:Value) (Q:VK),Inv X pins σ H s→RelV x v→RelV y u→r x y H Q →
    subscripted slice false v u=operate [v,u] (getItem v u)→wpAny (model X.prog X.w) X.A (subscriptTail value slice v u) (EP X pins σ Q) X.xe s
def MtR (X:Cx) (id:String) (r:V→List V→Hp→VK→Prop):Prop :=
  ∀ (pins:List (Addr × Obj)) (s:Shared) (σ:St) (H:Hp) (x:V) (xs:List V) (v:Value) (us:List Value) (Q:VK),Inv X pins σ H s→RelV x v→Vals xs us→r x xs H Q →
    wpAny (model X.prog X.w) X.A (call (.builtin id) (v::us)) (EP X pins σ Q) X.xe s
section
variable {X:Cx} {a b:Expr} {ta tb:TE} {pos:Pos}
theorem IxR.or {r r':R2} (h:IxR X r) (h':IxR X r'):IxR X (fun x y H Q=>r x y H Q∨r' x y H Q):=by
  intro value slice pins s σ H x y v u Q I rx ry q hs
  rcases q with q | q
  · exact h value slice pins s σ H x y v u Q I rx ry q hs
  · exact h' value slice pins s σ H x y v u Q I rx ry q hs
theorem pe_ix {r:R2} (hr:IxR X r) (ha:PE X a ta) (hb:PE X b tb) (hs:PlainIx b):PE X (.Subscript a b pos) (tOp r ta tb):=by
  intro pins s σ H Q I h
  exact Subscript_ (binT ha hb I h fun v u s2 x y H2 I2 rx ry q=>hr a b pins s2 σ H2 x y v u Q I2 rx ry q (hs _ _))
def rIxL (K:PySem.W.Frag):R2:=fun x y H Q=>∃ p xs i v,x=.ref p∧y=.int i∧SqL K H p xs∧atI xs i=some v∧Q v H
def rIxT (K:PySem.W.Frag):R2:=fun x y H Q=>∃ p xs i v,x=.ref p∧y=.int i∧SqT K H p xs∧atI xs i=some v∧Q v H
def rIxS:R2:=fun x y H Q=>∃ z i c,x=.str z∧y=.int i∧z.length≤sizeLine∧atI z.cps.toList i=some c∧Q (.str ⟨#[c]⟩) H
theorem ix_list:IxR X (rIxL X.K):=by
  intro value slice pins s σ H x y v u Q I rx ry h hs
  obtain ⟨p,xs,i,z,rfl,rfl,hq,he,q⟩:=h
  cases rx
  obtain ⟨t,rfl⟩:=ry
  obtain ⟨its,r,pl,hz⟩:=I.list hq
  obtain ⟨j,h1,h2,h3,h4,h5⟩:=atI_get he
  obtain ⟨w,ew,rw'⟩:=r.get h2
  have hl:=r.length
  have hn:=line63
  have fin:EP X pins σ Q w s:=⟨z,H,I,rw',q⟩
  by_cases h0:0≤i
  · have hj:i.toNat=j:=by
      rw [seqIndex_of h0 h5] at h1
      exact Option.some.inj h1
    exact item_listR pl.isList h0 (by omega) (by rw [hj]; simpa using ew) fin hs
  · have hj:(i+(its.toArray.size:Int)).toNat=j:=by
      rw [seqIndex_neg (by omega) h4] at h1
      rw [List.size_toArray,← hl]
      exact Option.some.inj h1
    exact subscriptTail_builtinR (x:=w) pl.isList.typeIs slot_list_getitem.lookup
      (wpAny_getItem_list_neg (Q:=fun r s'=>r=w∧EP X pins σ Q r s') pl.isList (by omega) (by rw [List.size_toArray] <;> omega) (by omega) (by rw [hj]; simpa using ew) ⟨rfl,fin⟩) hs
theorem ix_tup:IxR X (rIxT X.K):=by
  intro value slice pins s σ H x y v u Q I rx ry h hs
  obtain ⟨p,xs,i,z,rfl,rfl,hq,he,q⟩:=h
  cases rx
  obtain ⟨t,rfl⟩:=ry
  obtain ⟨its,r,pl,hz⟩:=I.tuple hq
  obtain ⟨j,h1,h2,h3,h4,h5⟩:=atI_get he
  obtain ⟨w,ew,rw'⟩:=r.get h2
  have hl:=r.length
  have hn:=line63
  have fin:EP X pins σ Q w s:=⟨z,H,I,rw',q⟩
  exact subscriptTail_builtinR (x:=w) pl.typeIs slot_tuple_getitem.lookup
    (getItem_tuple (j:=j) (Q:=fun r s'=>r=w∧EP X pins σ Q r s') pl (by omega) (by omega) (by rw [List.size_toArray,← hl]; exact h1) (by simpa using ew) ⟨rfl,fin⟩) hs
theorem ix_str:IxR X rIxS:=by
  intro value slice pins s σ H x y v u Q I rx ry h hs
  obtain ⟨z,i,c,rfl,rfl,hz,he,q⟩:=h
  obtain ⟨t,rfl⟩:=rx
  obtain ⟨t',rfl⟩:=ry
  obtain ⟨j,h1,h2,h3,h4,h5⟩:=atI_get he
  have hl:z.cps.toList.length=z.length:=by simp [Str.length]
  rw [hl] at h1 h4 h5
  have hn:=line63
  exact tail_any (typeIs_str s z t) slot_str_getitem.lookup (getItem_str (c:=c) (by
    have e1:decide (i < -(2^63:Int))=false:=decide_eq_false (by omega)
    have e2:decide (i ≥ 2^63)=false:=decide_eq_false (by omega)
    rw [e1,e2,Bool.or_false]) (by rw [h1]; simpa using h2) ⟨.str ⟨#[c]⟩,H,I.tok _,⟨_,rfl⟩,q⟩) hs
def rIx (K:PySem.W.Frag):R2:=fun x y H Q=>rIxL K x y H Q∨rIxT K x y H Q∨rIxS x y H Q
theorem ix_seq:IxR X (rIx X.K):=ix_list.or (ix_tup.or ix_str)
theorem mapSeq_set (its:List Value) (n j:Nat) (u:Value):Obj.mapSeq (·.setIfInBounds j u) { cls:=.type "list",data:=.seq its.toArray n }={ cls:=.type "list",data:=.seq (its.set j u).toArray n }:=by
  simp [Obj.mapSeq]
theorem Inv.lst {pins:List (Addr × Obj)} {σ:St} {H:Hp} {s:Shared} {p:Addr} {xs:List V} (I:Inv X pins σ H s) (h:H p=some (.lst xs)) :
    ∃ (its:List Value) (n:Nat),Vals xs its∧s.heap.get? p=some { cls:=.type "list",data:=.seq its.toArray n }∧xs.length≤sizeLine:=by
  obtain ⟨z,its,n,r,e⟩:=I.hok p _ h
  exact ⟨its,n,r,e,z⟩
theorem Inv.lstUpd {pins:List (Addr × Obj)} {σ:St} {H:Hp} {s:Shared} {p:Addr} {xs ys:List V} {its its':List Value} {n n':Nat} {f:Obj→Obj} (I:Inv X pins σ H s) (h:H p=some (.lst xs))
    (ho:s.heap.get? p=some { cls:=.type "list",data:=.seq its.toArray n }) (hf:f { cls:=.type "list",data:=.seq its.toArray n }={ cls:=.type "list",data:=.seq its'.toArray n' }) (r:Vals ys its') (hz:ys.length≤sizeLine) (t:Nat) :
    Inv X pins σ (upd H p (.lst ys)) { s with heap:=s.heap.update p f,toks:=t }:=by
  have e:(s.heap.update p f).get? p=some { cls:=.type "list",data:=.seq its'.toArray n' }:=by
    rw [Heap.get?_update_self f ho (by rw [hf] <;> rfl),hf]
  refine I.write (x:=p) (e:=p) (by rw [h]; trivial) (.inl rfl) (fun b u hb q=>(Heap.get?_update_other _ _ (Ne.symm hb)).trans q) ⟨_,e⟩ ?_
  exact ⟨hz,its',n',r,e⟩
def rSetL:V→V→V→Hp→(Hp→Prop)→Prop:=fun o i v H Q=>∃ p xs k j,o=.ref p∧i=.int k∧H p=some (.lst xs)∧ixN xs.length k=some j∧Q (upd H p (.lst (xs.set j v)))
theorem set_list:PSet X rSetL:=by
  intro pins s σ H o i v ov iv u Q I ro ri rv h
  obtain ⟨p,xs,k,j,rfl,rfl,hp,hj,q⟩:=h
  cases ro
  obtain ⟨t,rfl⟩:=ri
  obtain ⟨its,n,r,ho,hz⟩:=I.lst hp
  obtain ⟨h1,h2,h3,h4⟩:=ixN_seq hj
  have hl:=r.length
  have hn:=line63
  have I':Inv X pins σ (upd H p (.lst (xs.set j v))) { s with heap:=s.heap.update p (Obj.mapSeq (·.setIfInBounds j u)) } :=
    I.lstUpd hp ho (mapSeq_set its n j u) (r.set rv j) (by rw [List.length_set]; exact hz) s.toks
  by_cases h0:0≤k
  · have hk:k.toNat=j:=by
      rw [seqIndex_of h0 h4] at h1
      exact Option.some.inj h1
    exact PySem.W.ki_setAt ho h0 (by omega) (by rw [List.size_toArray,← hl]; exact h4) (by rw [hk]; exact ⟨_,I',q⟩)
  · have hk:(k+(its.toArray.size:Int)).toNat=j:=by
      rw [seqIndex_neg (by omega) h3] at h1
      rw [List.size_toArray,← hl]
      exact Option.some.inj h1
    exact PySem.W.ki_setBack ho (by omega) (by rw [List.size_toArray,← hl]; exact h3) (by omega) (by rw [hk]; exact ⟨_,I',q⟩)
theorem slice_bounds (lo hi:Option Int) (n:Nat):(sliceBounds lo hi none n).1=((HT.sIx n 0 lo:Nat):Int)∧(sliceBounds lo hi none n).2.1=((HT.sIx n n hi:Nat):Int)∧(sliceBounds lo hi none n).2.2=1:=by
  refine ⟨?_,?_,rfl⟩
  · cases lo with
    | none=>simp [sliceBounds,HT.sIx]
    | some i =>
      simp only [sliceBounds,HT.sIx,Option.getD_none,show (1:Int) > 0 by decide,if_true]
      by_cases h:i<0
      · simp only [h,if_true] <;> omega
      · simp only [h,if_false] <;> omega
  · cases hi with
    | none=>simp [sliceBounds,HT.sIx]
    | some i =>
      simp only [sliceBounds,HT.sIx,Option.getD_none,show (1:Int) > 0 by decide,if_true]
      by_cases h:i<0
      · simp only [h,if_true] <;> omega
      · simp only [h,if_false] <;> omega
theorem slicePick_cut (its:List Value) (lo hi:Option Int):slicePick its.toArray lo hi none=((its.drop (HT.sIx its.length 0 lo)).take (HT.sIx its.length its.length hi - HT.sIx its.length 0 lo)).toArray:=by
  obtain ⟨h1,h2,h3⟩:=slice_bounds lo hi its.toArray.size
  unfold slicePick
  rw [h1,h2,h3]
  simp only [sliceRange_one,pick_run,List.size_toArray] <;> rfl
def rSlL (K:PySem.W.Frag):V→Option Int→Option Int→Hp→VK→Prop:=fun x lo hi H Q=>∃ a xs,x=.ref a∧SqL K H a xs∧∀ p,H p=none→Q (.ref p) (upd H p (.lst (cutV xs lo hi)))
theorem sl_list:SlR X (rSlL X.K):=by
  intro pins s σ H x v vl vu lo hi sl Q I rx hs pl pu h
  obtain ⟨a,xs,rfl,hx,q⟩:=h
  cases rx
  obtain ⟨its,r,ht,hz⟩:=I.list hx
  have hlen:=r.length
  refine ⟨"list",_,slot_list_getitem.lookup,ht.isList.typeIs,?_⟩
  refine wpAny_getItem_list_slice ht.isList hs pl pu .none (by simp) ?_ (by rw [List.size_toArray] <;> omega)
  rw [slicePick_cut,← hlen]
  refine ⟨.ref s.heap.objs.size,_,I.laid (t':=s.toks) (o:=.lst (cutV xs lo hi)) (fun b ob q=>Heap.get?_push_of_some _ q) (Nat.le_refl _) ?_,rfl,q _ (I.hok.fresh (Nat.le_refl _))⟩
  exact ⟨Nat.le_trans (cutV_length xs lo hi) hz,_,0,(r.drop (HT.sIx xs.length 0 lo)).take (HT.sIx xs.length xs.length hi - HT.sIx xs.length 0 lo),Heap.get?_push_size _ rfl⟩
theorem call_tuple_of:CallR X (.type "tuple") (fun xs H Q=>∃ p ys,xs=[.ref p]∧((SqL X.K H p ys∧∀ l,H l=none→Q (.ref l) (upd H l (.tup ys)))∨(SqT X.K H p ys∧Q (.ref p) H))):=by
  intro pins s σ H xs us Q I r h
  obtain ⟨p,ys,rfl,h⟩:=h
  obtain ⟨u,rfl,rx⟩:=vals1 r
  cases rx
  rcases h with ⟨hq,q⟩ | ⟨hq,q⟩
  · obtain ⟨its,r',pl,hz⟩:=I.list hq
    have hlen:=r'.length
    refine call_tuple_list pl.isList (fun h' kp=>?_) (by simp only [List.size_toArray] <;> omega)
    have I1:Inv X pins σ H { s with heap:=h' }:=I.kept (t':=s.toks) kp
    have I2:Inv X pins σ (upd H h'.objs.size (.tup ys)) { s with heap:=h'.push { cls:=.type "tuple",data:=.seq its.toArray } } :=
      I1.laid (t':=s.toks) (fun b o e=>Heap.get?_push_of_some _ e) (Nat.le_refl _) (show ObjOk X.prog X.w _ _ _ (.tup ys) from ⟨⟨hz,_,Heap.get?_push_size _ rfl,rfl⟩,its,r',IsTup.new _ _⟩)
    exact ⟨.ref h'.objs.size,_,I2,rfl,q _ (I1.hok.fresh (Nat.le_refl _))⟩
  · obtain ⟨its,r',pl,hz⟩:=I.tuple hq
    exact call_tuple_same pl ⟨.ref p,H,I,rfl,q⟩
def tyV (K:PySem.W.Frag) (T:String) (x:V) (H:Hp):Prop:=match x with
  | .str _=>T = "str"
  | .int _=>T = "int"
  | .ref p=>(T = "list" ∧ ∃ xs,SqL K H p xs)∨(T = "tuple" ∧ ((∃ o,K.lookup p=some o∧o.cls=.type "tuple" ∧ o.dict=none)∨∃ xs,H p=some (.tup xs))) ∨
      (T = "dict" ∧ ((∃ kvs,H p=some (.dK kvs))∨∃ kvs,H p=some (.dT kvs)))∨(T = "set" ∧ ∃ S n,H p=some (.set S n))
  | _=>False
theorem tyV_is {pins:List (Addr × Obj)} {σ:St} {H:Hp} {s:Shared} {T:String} {x:V} {v:Value} (I:Inv X pins σ H s) (r:RelV x v) (ty:tyV X.K T x H) :
    s.TypeIs v T∧∀ a,v=.ref a→∃ ob,s.heap.get? a=some ob∧ob.dict=none:=by
  cases x with
  | str z =>
    obtain ⟨t,rfl⟩:=r
    cases (show T = "str" from ty)
    exact ⟨typeIs_str s z t,fun _ e=>nomatch e⟩
  | int i =>
    obtain ⟨t,rfl⟩:=r
    cases (show T = "int" from ty)
    exact ⟨typeIs_int s i t,fun _ e=>nomatch e⟩
  | ref p =>
    cases r
    rcases ty with ⟨rfl,xs,hq⟩ | ⟨rfl,⟨o,hk,hc,hd⟩ | ⟨xs,hq⟩⟩ | ⟨rfl,hk⟩ | ⟨rfl,S,n,hk⟩
    · obtain ⟨its,_,pl,_⟩:=I.list hq
      refine ⟨pl.isList.typeIs,fun a e=>?_⟩
      cases e
      obtain ⟨o,n,e,c,hd,_⟩:=pl
      exact ⟨o,e,hd⟩
    · refine ⟨⟨o,I.kIn p o hk,hc⟩,fun a e=>?_⟩
      cases e
      exact ⟨o,I.kIn _ o hk,hd⟩
    · obtain ⟨⟨_,on,en,dn⟩,_,_,o,e1,e2,_⟩:=(show ObjOk X.prog X.w H s.heap p (.tup xs) from I.hok p _ hq)
      refine ⟨⟨o,e1,e2⟩,fun a e=>?_⟩
      cases e
      exact ⟨on,en,dn⟩
    · have z:∃ o,s.heap.get? p=some o∧o.ExactDict:=by
        rcases hk with ⟨kvs,hk⟩ | ⟨kvs,hk⟩
        · obtain ⟨_,_,_,_,o,_,_,e,ex,_⟩:=I.hok p _ hk
          exact ⟨o,e,ex⟩
        · obtain ⟨_,_,_,_,o,_,_,e,ex,_⟩:=I.hok p _ hk
          exact ⟨o,e,ex⟩
      obtain ⟨o,e,ex⟩:=z
      refine ⟨⟨o,e,ex.1⟩,fun a e2=>?_⟩
      cases e2
      exact ⟨o,e,ex.2.1⟩
    · obtain ⟨o,_,_,_,e,ex,_⟩:=I.hok p _ hk
      refine ⟨⟨o,e,ex.1⟩,fun a e2=>?_⟩
      cases e2
      exact ⟨o,e,ex.2.1⟩
  | _=>exact False.elim ty
def tBM0 (K:PySem.W.Frag) (T:String) (r:V→List V→Hp→VK→Prop) (to:TE):TE:=fun σ H Q=>to σ H fun x H1=>tyV K T x H1∧r x [] H1 Q
def tBM (K:PySem.W.Frag) (T:String) (r:V→List V→Hp→VK→Prop) (to:TE) (t:TA):TE:=fun σ H Q=>to σ H fun x H1=>tyV K T x H1∧t σ H1 fun xs H2=>r x xs H2 Q
variable {o e:Expr} {es:List Expr} {to:TE} {t:TA} {name:Str} {apos cpos:Pos} {T id:String} {r:V→List V→Hp→VK→Prop}
theorem pe_bm0 (pa:PlainAttrs T) (slot:Slot T name id) (hty:typeOf (.builtin id)=pure (.type "method_descriptor")) (hm:MtR X id r) (ho:PE X o to)
    (hbase:attributeBase o name X.env (eval o X.env)=eval o X.env:=by rfl) (hline:(apos.endLine == cpos.line)=true:=by rfl):PE X (.Call (.Attribute o name apos) [] [] cpos) (tBM0 X.K T r to):=by
  intro pins s σ H Q I h
  refine wpAny_Call_method0_late hbase hline (thn (ho pins s σ H _ I h) fun v s1 ⟨x,H1,I1,r1,ty,q1⟩=>?_)
  obtain ⟨h1,h2⟩:=tyV_is I1 r1 ty
  exact ⟨T,id,pa,slot,hty,h1,h2,Calls.callWith_builtin rfl (PySem.evalArgs_none (hm pins s1 σ H1 x [] v [] Q I1 r1 .nil q1))⟩
theorem pe_bm (pa:PlainAttrs T) (slot:Slot T name id) (hty:typeOf (.builtin id)=pure (.type "method_descriptor")) (hm:MtR X id r) (ho:PE X o to) (ha:PA X (e::es) t)
    (hbase:attributeBase o name X.env (eval o X.env)=eval o X.env:=by rfl)
    (hfew:((backTo cpos (starEach (e::es) X.env)).all (fun x=>!x.1)&&(backToKw cpos (keywordEach [] X.env)).all (fun x=>x.1.isSome)
      && decide ((e::es).length+([]:List Keyword).length+(if ([]:List Keyword).isEmpty then 0 else 1)<30))=true:=by rfl)
    (hline:(apos.endLine == cpos.line)=true:=by rfl) (hs:starEach (e::es) X.env=(false,eval e X.env)::starEach es X.env:=by rfl) (hplain:(backTo cpos (starEach es X.env)).any (·.1)=false:=by rfl) :
    PE X (.Call (.Attribute o name apos) (e::es) [] cpos) (tBM X.K T r to t):=by
  intro pins s σ H Q I h
  refine wpAny_Call_method_late hbase hfew hline rfl (thn (ho pins s σ H _ I h) fun v s1 ⟨x,H1,I1,r1,ty,q1⟩=>?_)
  obtain ⟨h1,h2⟩:=tyV_is I1 r1 ty
  refine ⟨T,id,pa,slot,hty,h1,h2,?_⟩
  have hA:=ha cpos pins s1 σ H1 _ I1 q1
  rw [hs] at hA ⊢
  refine Calls.callWith_builtin (by show (false || (backTo cpos (starEach es X.env)).any (·.1))=false; rw [hplain] <;> rfl) (Calls.evalArgs_plain ?_)
  exact thn hA fun us s2 ⟨vs,H2,I2,r2,q2⟩=>hm pins s2 σ H2 x vs v us Q I2 r1 r2 q2
/- xs.append(e),list.index on a module's tuple .. are MtR facts of 06m -/
end
end L2
namespace L2
open PySem PySem.Spec PyProof.Rows
def MtM (X:Cx) (id:String) (r:V→List V→Hp→VK→Prop):Prop :=
  ∀ (pins:List (Addr × Obj)) (s:Shared) (σ:St) (H:Hp) (x:V) (xs:List V) (v:Value) (us:List Value) (Q:VK),Inv X pins σ H s→RelV x v→Vals xs us→r x xs H Q →
    wpAny (model X.prog X.w) X.A (call (.builtin id) (v::us)) (EP X pins σ Q) X.xe s
theorem Vals.one:∀ {x:V} {us:List Value},Vals [x] us→∃ u,us=[u]∧RelV x u
  | _,_,.cons r .nil=>⟨_,rfl,r⟩
theorem Vals.rep {xs:List V} {us:List Value} (h:Vals xs us):∀ k:Nat,Vals (List.replicate k xs).flatten (List.replicate k us).flatten
  | 0=>.nil
  | k+1=>by
    rw [List.replicate_succ,List.replicate_succ,List.flatten_cons,List.flatten_cons]
    exact Vals.append h (Vals.rep h k)
theorem foldl_rep (its:List Value):∀ (k:Nat) (acc:List Value),
    List.foldl (fun x1 x2=>x1++x2) acc.toArray (List.replicate k its.toArray)=(acc++(List.replicate k its).flatten).toArray
  | 0,acc=>by simp
  | k+1,acc=>by
    have e:acc.toArray++its.toArray=(acc++its).toArray:=by simp
    have e2:(acc++its)++(List.replicate k its).flatten=acc++(List.replicate (k+1) its).flatten:=by
      rw [List.replicate_succ,List.flatten_cons,List.append_assoc]
    rw [← e2,← foldl_rep its k (acc++its),← e,List.replicate_succ,List.foldl_cons]
section
variable {X:Cx} {pins:List (Addr × Obj)} {σ:St} {H:Hp} {s:Shared} {l b:Addr} {xs ys zs:List V}
theorem Inv.lset {its its':List Value} {n:Nat} {f:Array Value→Array Value} {t':Nat} (I:Inv X pins σ H s) (hH:H l=some (.lst xs))
    (e:s.heap.get? l=some { cls:=.type "list",data:=.seq its.toArray n }) (hf:f its.toArray=its'.toArray) (hv:Vals ys its') (hz:ys.length≤sizeLine) :
    Inv X pins σ (upd H l (.lst ys)) { s with heap:=s.heap.update l (Obj.mapSeq f),toks:=t' }:=by
  have q:=PySem.IsL.update e f
  rw [hf] at q
  refine I.write (x:=l) (e:=l) (by rw [hH]; exact trivial) (.inl rfl) (fun b' u hb hu=>(Heap.get?_update_other s.heap (Obj.mapSeq f) (Ne.symm hb)).trans hu) ⟨_,q⟩ ?_
  exact ⟨hz,its',_,hv,q⟩
theorem Inv.lnew {its:List Value} {t':Nat} (I:Inv X pins σ H s) (hv:Vals ys its) (hz:ys.length≤sizeLine) :
    Inv X pins σ (upd H s.heap.objs.size (.lst ys)) { s with heap:=s.heap.push { cls:=.type "list",data:=.seq its.toArray },toks:=t' } :=
  I.laid (fun _ _ q=>Heap.get?_push_of_some _ q) (Nat.le_refl _) ⟨hz,its,0,hv,Heap.get?_push_size _ rfl⟩
theorem Inv.fresh (I:Inv X pins σ H s):H s.heap.objs.size=none:=I.hok.fresh (Nat.le_refl _)
theorem Inv.lstM (I:Inv X pins σ H s) (hH:H l=some (.lst xs)):xs.length≤sizeLine∧∃ (its:List Value) (n:Nat),Vals xs its∧xs.length=its.length∧s.heap.get? l=some { cls:=.type "list",data:=.seq its.toArray n }:=by
  obtain ⟨z,its,n,r,e⟩:=I.hok l _ hH
  exact ⟨z,its,n,r,r.length,e⟩
theorem notLongL {n:Nat} (h:n≤sizeLine):Builtin.List.listTooLong n=false:=by
  unfold Builtin.List.listTooLong
  exact decide_eq_false (by omega)
end
section
variable {X:Cx}
def rAppend:V→List V→Hp→VK→Prop:=fun x vs H Q=>∃ l xs y,x=.ref l∧vs=[y]∧H l=some (.lst xs)∧xs.length<sizeLine∧Q .non (upd H l (.lst (xs++[y])))
theorem mt_append:MtM X "list.append" rAppend:=by
  intro pins s σ H x vs v us Q I rx rv h
  obtain ⟨l,xs,y,rfl,rfl,hH,hz,q⟩:=h
  cases rx
  obtain ⟨u,rfl,ru⟩:=rv.one
  obtain ⟨z,its,n,r,hl,e⟩:=I.lstM hH
  refine call_meets F.slot_list_append ⟨_,e,rfl⟩ F.entry_list_append (F.args_list_append_2 _ _) (PySem.list_append l its.toArray n u (by rw [List.size_toArray]; omega)) ⟨e,?_⟩
  refine ⟨.non,_,I.lset (its':=its++[u]) hH e (by simp) (r.append (.cons ru .nil)) ?_,rfl,q⟩
  rw [List.length_append,List.length_singleton]
  omega
def rExtend:V→List V→Hp→VK→Prop:=fun x vs H Q=>∃ l b xs zs,x=.ref l∧vs=[.ref b]∧H l=some (.lst xs)∧H b=some (.lst zs)∧xs.length+zs.length≤sizeLine∧Q .non (upd H l (.lst (xs++zs)))
theorem mt_extend:MtM X "list.extend" rExtend:=by
  intro pins s σ H x vs v us Q I rx rv h
  obtain ⟨l,b,xs,zs,rfl,rfl,hH,hB,hz,q⟩:=h
  cases rx
  obtain ⟨u,rfl,ru⟩:=rv.one
  cases ru
  obtain ⟨z,its,n,r,hl,e⟩:=I.lstM hH
  obtain ⟨z2,its2,n2,r2,hl2,e2⟩:=I.lstM hB
  have hsz:its.toArray.size+its2.toArray.size≤sizeLine:=by rw [List.size_toArray,List.size_toArray]; omega
  have hlong:¬ (!its.toArray.isEmpty&&Builtin.List.listTooLong (its.toArray.size+its2.toArray.size))=true:=by
    rw [notLongL hsz,Bool.and_false]
    exact Bool.false_ne_true
  refine call_meets F.slot_list_extend ⟨_,e,rfl⟩ F.entry_list_extend (F.args_list_extend_2 _ _)
    (AutoSeq1.list_extend_list_list_0 l its.toArray n b its2.toArray n2 hlong (by rw [List.size_toArray]; omega) (by omega)) ⟨e,e2,?_⟩
  refine ⟨.non,_,I.lset (its':=its++its2) hH e (by simp) (r.append r2) ?_,rfl,q⟩
  rw [List.length_append]
  omega
def rCat:R2:=fun x y H Q=>∃ l b xs zs,x=.ref l∧y=.ref b∧H l=some (.lst xs)∧H b=some (.lst zs)∧xs.length+zs.length≤sizeLine∧∀ p,H p=none→Q (.ref p) (upd H p (.lst (xs++zs)))
theorem op_cat:OpR X (binaryOp .Add) rCat:=by
  intro pins s σ H x y v u Q I rx ry h
  obtain ⟨l,b,xs,zs,rfl,rfl,hH,hB,hz,q⟩:=h
  cases rx
  cases ry
  obtain ⟨z,its,n,r,hl,e⟩:=I.lstM hH
  obtain ⟨z2,its2,n2,r2,hl2,e2⟩:=I.lstM hB
  refine PySem.P.add_list e e2 ?_ (by rw [List.size_toArray,List.size_toArray]; omega)
  have ea:its.toArray++its2.toArray=(its++its2).toArray:=by simp
  rw [ea]
  exact ⟨.ref _,_,I.lnew (t':=s.toks) (r.append r2) (by rw [List.length_append]; omega),rfl,q _ I.fresh⟩
def rRep:R2:=fun x y H Q=>∃ l k xs,x=.ref l∧y=.int k∧H l=some (.lst xs)∧-(2^63)≤k∧k<2^63∧xs.length*k.toNat≤sizeLine ∧
  ∀ p,H p=none→Q (.ref p) (upd H p (.lst (List.replicate k.toNat xs).flatten))
theorem len_rep {α:Type} (xs:List α) (k:Nat):(List.replicate k xs).flatten.length=k*xs.length:=by
  induction k with
  | zero=>simp
  | succ k ih=>rw [List.replicate_succ,List.flatten_cons,List.length_append,ih,Nat.succ_mul,Nat.add_comm]
theorem op_rep:OpR X (binaryOp .Mult) rRep:=by
  intro pins s σ H x y v u Q I rx ry h
  obtain ⟨l,k,xs,rfl,rfl,hH,h1,h2,hz,q⟩:=h
  cases rx
  obtain ⟨t,rfl⟩:=ry
  obtain ⟨z,its,n,r,hl,e⟩:=I.lstM hH
  have hlen:its.toArray.size*k.toNat≤sizeLine:=by rw [List.size_toArray,← hl]; exact hz
  have hcap:¬ its.toArray.size*k.toNat > (2^63 - 1) / 8:=by
    have:(sizeLine:Nat)≤(2^63 - 1) / 8:=by decide
    omega
  have hfit:¬ (!Builtin.List.listFitsIndex k)=true:=by
    rw [fitsIndex_both h1 h2]
    exact Bool.false_ne_true
  have hlong:¬ Builtin.List.listTooLong (its.toArray.size*k.toNat)=true:=by
    rw [notLongL hlen]
    exact Bool.false_ne_true
  have hnew:List.foldl (fun x1 x2=>x1++x2) #[] (List.replicate (if its.toArray.isEmpty=true then 0 else k.toNat) its.toArray)=(List.replicate k.toNat its).flatten.toArray:=by
    have f0:∀ m:Nat,List.foldl (fun x1 x2=>x1++x2) #[] (List.replicate m its.toArray)=(List.replicate m its).flatten.toArray:=fun m=>by
      have:=foldl_rep its m []
      rw [List.nil_append] at this
      exact this
    rw [f0]
    cases its with
    | nil=>simp
    | cons a r'=>rw [if_neg (by simp)]
  refine wpAny_binaryOp_repeat_ref (T := "list") (U := "int") (by decide) ⟨_,e,rfl⟩ (fun s'=>typeIs_int s' k t) noFill_list_mul F.fills_int_mul F.slot_int_rmul repeat_list F.slot_int_index.lookup
    (call_meets F.slot_int_rmul (typeIs_int s k t) F.entry_int_rmul (F.args_int_rmul_2 _ _) (int___rmul___int_list k t l its.toArray n)
      ⟨e,rfl,⟨_,e,rfl⟩,call_meets F.slot_list_mul ⟨_,e,rfl⟩ F.entry_list_mul (F.args_list_mul_2 _ _) (AutoListH.list___mul___list_int_3 l its.toArray n k t hfit hcap hlong) ⟨e,?_⟩⟩)
  rw [hnew]
  exact ⟨.ref _,_,I.lnew (t':=s.toks) (r.rep k.toNat) (by rw [len_rep,Nat.mul_comm]; exact hz),rfl,q _ I.fresh⟩
end
section
variable {prog:Program} {w:World} {A:Around} {E:Value→Shared→Prop} {s:Shared}
end
section
variable {X:Cx}
end
end L2
namespace Att
open PySem PySem.W PySem.Calls PyProof.Rows
theorem ints_of_wellAll {P:Params} {h:Heap}:∀ (ns:List Int) (vs:List Value),WellAll P h vs (ns.map WData.int)→IntsAre vs ns:=by
  intro ns
  induction ns with
  | nil =>
    intro vs w
    rw [List.map_nil] at w
    cases w
    exact .nil
  | cons n ns ih =>
    intro vs w
    rw [List.map_cons] at w
    cases w with
    | cons a b =>
      cases a
      exact .cons _ _ (ih _ b)
theorem script_of {l:OpenLaw} {n:Nat} (hn:l.most=some n) {P:Params} {h:Heap} {args:List WData} {vals:List Value}
    (hpre:l.row.toRowW.claim.pre args=true) (hwl:WellAll P h vals args) :
    ∃ a vs ns,vals=[Value.ref a]∧args=[WData.list (ns.map WData.int)]∧h.get? a=some { cls:=.type "list",data:=.seq vs.toArray }∧IntsAre vs ns∧ns.length≤n:=by
  have hsh:WShape.hasAll [] args [.list .int]=true:=(pre_splitW hpre).1
  have hc:l.pre.holds [] { args:=args }=true:=(pre_splitW hpre).2
  obtain ⟨d,r,rfl,h1,h2⟩:=hasAllW_cons hsh
  obtain rfl:=hasAllW_nil h2
  obtain ⟨xs,rfl,h3⟩:=hasW_list h1
  obtain ⟨ns,rfl⟩:=items_int h3
  have hlen:ns.length≤n:=by
    unfold OpenLaw.pre at hc
    have h4:(WTm.not (.lt (.lit (.int (n:Int))) (.len (.arg 0)))).holds [] { args:=[.list (ns.map .int)] }=true:=by
      have h4:=(holds_andW hc).1
      rw [hn] at h4
      exact h4
    have h5:=condW_of h4 (w_not (w_lt w_lit (w_len_list (w_arg rfl))))
    rw [List.length_map] at h5
    refine Nat.le_of_not_lt fun q=>?_
    have q':(n:Int)<((ns.length:Nat):Int):=by omega
    first
      | (rw [decide_eq_true q'] at h5; exact absurd h5 (by decide))
      | (simp at h5; omega)
  cases hwl with
  | cons w1 w2 =>
    cases w2
    cases w1 with
    | list ho hall=>exact ⟨_,_,ns,rfl,rfl,ho,ints_of_wellAll ns _ hall,hlen⟩
theorem post_true (l:OpenLaw) (args:List WData):l.row.toRowW.claim.post args (.bool true) args=true :=
  postW_of (r:=l.row.toRowW) (X:=(true == true))
    (show WShape.has [] (.bool true) .bool=true by first | rfl | decide | simp [WShape.has,WShape.arms,WShape.armsAll])
    (show (WTm.eq .res (.lit (.bool true))).value [] { args:=args,res:=some (.bool true),after:=args }=some (.bool (true == true)) from w_eq_bool (w_res rfl) w_lit) rfl
theorem attach_call {l:OpenLaw} {n:Nat} {q:Program} {loose:List Str} {XP:(Str→Option Value)→Heap→Prop} {YP:World→Heap→Prop} {d:DefRec}
    (hn:l.most=some n) (hdf:d.params.defaults=[])
    (call:∀ (w:World) (s₀ s₁:Shared) (mg mb:Str→Option Value) (fa:Addr) (o:Obj) (pm cd doc:Value) (a:Addr) (vs:List Value) (ns:List Int),
      Ground q loose [] XP w s₀ mg mb s₁.heap→YP w s₁.heap →
      s₁.heap.get? fa=some o→o.data=.func (docDef d.name d.params d.body d.scope pm cd doc)→s₁.heap.CodeRec cd d.name→mg d.name=some (.ref fa) →
      s₁.heap.get? a=some { cls:=.type "list",data:=.seq vs.toArray }→IntsAre vs ns→ns.length≤n→s₁.gens=#[] →
      codeAny (model l.prog w) callerA (.call (.ref fa) ⟨[.ref a],[]⟩) (fun r s'=>r=.ok (.ret (.bool true))∧OldK s₁.heap s'.heap∧s'.os=s₁.os∧AllBare s'.gens) s₁) :
    WalkO q loose XP YP l.row.toRowW d [] (fun f vs=>PySem.call f vs):=by
  intro w s₀ s₁ mg mb G Y fa o pm cd doc dV kV ho hd hcd hD hmg hg args vals as hpre hlay hrd hwl hlo
  obtain rfl:dV=.none:=Dflts.none hD hdf
  obtain rfl:kV=.none:=Dflts.noKw hD
  obtain ⟨a,vs,ns,rfl,rfl,hobj,hints,hlen⟩:=script_of hn hpre hwl
  refine enter_call (codeAny_mono (call w s₀ s₁ mg mb fa o pm cd doc a vs ns G Y ho (fd_plain hd) hcd hmg hobj hints hlen hg) fun r s' hq=>?_)
  obtain ⟨rfl,h2,h3,h4⟩:=hq
  exact ⟨.inl ⟨.bool true,.bool true,[],rfl,fun _=>rfl,.bool true,post_true l _,fun _=>⟨List.Pairwise.nil,fun _ hm=>(nomatch hm)⟩⟩,h2,h3,h4⟩
section
variable {prog:Program} {w:World} {A:Around} {E:Value→Shared→Prop} {s:Shared} {K:Frag}
end
end Att
namespace L2
open PySem PySem.Spec PyProof.Rows
theorem vals_ints:∀ {vs:List Value} {ns:List Int},IntsAre vs ns→Vals (ns.map V.int) vs
  | _,_,.nil=>.nil
  | _,_,.cons n t h=>.cons ⟨t,rfl⟩ (vals_ints h)
def Only (H:Hp):Prop:=∀ b,H b=none∨∃ o xs,H b=some (.frz o (.lst xs))
theorem law_call {P:Program} {w:World} {K:PySem.W.Frag} {mg mb:Str→Option Value} {CX:CXT} {k:Nat} {fa a:Addr} {fd:FuncData} {x:Str} {sp:Sp} {s₁:Shared} {vs:List Value} {ns:List Int}
    (KX:K.In s₁.heap) (hns:s₁.heap.Ns mainGlobals mg) (hb:s₁.heap.Ns builtinsNs mb) (hbb:∀ x:Str,x ≠ "__name__" → mb x=bootBuiltins x) (hlim:s₁.heap.NoLimit) (hg:s₁.gens=#[])
    (ha:s₁.heap.get? a=some { cls:=.type "list",data:=.seq vs.toArray }) (hi:IntsAre vs ns) (hl:ns.length≤sizeLine) (hr:Room k callerA)
    (F:∀ base:Heap,K.In base→base.Ns mainGlobals mg→FnOk P w K mg base CX k fa fd [x] sp) (hbind:∀ (s:Shared) (u:Value),BindsTo s fd ⟨[u],[]⟩ [(x,u)])
    (hsp:∀ H:Hp,Only H→SqL K H a (ns.map V.int)→sp [.ref a] H (fun v _=>v=.bl true) fun _ _ _=>False)
    (hCX:∀ H e s',CX [] H s₁ (fun _ _ _=>False) e s'→False) :
    codeAny (model P w) callerA (.call (.ref fa) ⟨[.ref a],[]⟩) (fun r s'=>r=.ok (.ret (.bool true))∧OldK s₁.heap s'.heap∧s'.os=s₁.os∧AllBare s'.gens) s₁:=by
  have rv:=vals_ints hi
  have lenV:=hi.length
  have core:∀ H:Hp,Only H→SqL K H a (ns.map V.int)→HOk P w H s₁.heap→(∀ b,H b≠none→b=a)→(H a≠none→K.lookup a=none) →
      codeAny (model P w) callerA (.call (.ref fa) ⟨[.ref a],[]⟩) (fun r s'=>r=.ok (.ret (.bool true))∧OldK s₁.heap s'.heap∧s'.os=s₁.os∧AllBare s'.gens) s₁:=by
    intro H hO hS hok hA hK
    have base_of:∀ {b:Addr} {o:Obj},s₁.heap.get? b=some o→H b=none→(hidT s₁.heap H).get? b=some o:=fun e n=>hidT_get e n
    have noA:∀ {b:Addr} {o:Obj} {es:Array DictEntry} {ep:Nat},s₁.heap.get? b=some o→o.data=.dict es ep→H b=none:=fun {b o es ep} e d=>by
      cases q:H b with
      | none=>rfl
      | some u =>
        have e':b=a:=hA b (by rw [q]; simp)
        subst e'
        rw [ha] at e; cases e
        have d':Data.seq vs.toArray _=Data.dict es ep:=d
        cases d'
    have nsK:∀ {b:Addr} {m:Str→Option Value},s₁.heap.Ns b m→(hidT s₁.heap H).Ns b m:=fun {b m} ⟨o,es,ep,e,d,r⟩=>⟨o,es,ep,base_of e (noA e d),d,r⟩
    have hKb:K.In (hidT s₁.heap H):=fun b o e=>base_of (KX b o e) (by
      cases q:H b with
      | none=>rfl
      | some u =>
        have e':b=a:=hA b (by rw [q]; simp)
        subst e'
        rw [hK (by rw [q]; simp)] at e; cases e)
    have hM:Mod K mg (hidT s₁.heap H):=⟨hKb,nsK hns,⟨mb,nsK hb,hbb⟩,let ⟨mc,h1,h2⟩:=hlim; ⟨mc,nsK h1,h2⟩⟩
    have e0:Env0 P w K mg (hidT s₁.heap H) callerA [] s₁ H:=⟨rfl,hM,fun b o e=>of_hidT e,Nat.le_of_eq (hidT_size _ _),trivial,fun b hb=>absurd (show b∈([]:List Addr) from hb) (by simp),hok,.of_eq hg⟩
    refine codeAny_mono ((F _ hKb (nsK hns)).run callerA [] s₁ H ⟨[.ref a],[]⟩ [.ref a] [.ref a] _ _ hr e0 (hbind s₁ (.ref a)) (.cons rfl .nil) (hsp H hO hS)) fun r s' h=>?_
    cases r with
    | error e=>exact (hCX H e s' h).elim
    | ok fl =>
      cases fl with
      | next=>exact False.elim h
      | brk=>exact False.elim h
      | cont=>exact False.elim h
      | ret u =>
        obtain ⟨v,H',os,bare,un,hok',r',q⟩:=h
        have q':v=.bl true:=q
        subst q'
        obtain rfl:u=Value.bool true:=r'
        refine ⟨rfl,OldK.of_keep fun b o e=>?_,os,bare⟩
        cases q:H b with
        | none=>exact un.keep b o e q (by intro z; exact absurd (show b∈([]:List Addr) from z) (by simp)) (by simp)
        | some u =>
          rcases hO b with z | ⟨ob,xs,z⟩
          · rw [q] at z; cases z
          · have z2:=un.frzs b ob _ z
            obtain ⟨e1,_⟩:=hok b _ z
            obtain ⟨e2,_⟩:=hok' b _ z2
            rw [e] at e1; cases e1
            exact e2
  cases hk:K.lookup a with
  | some o =>
    have e:=KX a o hk
    rw [ha] at e
    cases e
    refine core (fun _=>none) (fun _=>.inl rfl) (.inr ⟨_,vs.toArray,_,hk,rfl,rfl,rfl,by rw [List.size_toArray,lenV]; exact hl,by simpa using rv⟩) (fun b u z=>by have z':(none:Option HO)=some u:=z; cases z') (fun b z=>absurd rfl z) fun z=>absurd rfl z
  | none =>
    refine core (fun b=>if b=a then some (.frz { cls:=.type "list",data:=.seq vs.toArray } (.lst (ns.map V.int))) else none) (fun b=>?_) (.inl (.inr ⟨{ cls:=.type "list",data:=.seq vs.toArray },if_pos rfl⟩)) (fun b u z=>?_) (fun b z=>?_) fun _=>hk
    · by_cases hb:b=a
      · exact .inr ⟨_,_,if_pos hb⟩
      · exact .inl (if_neg hb)
    · by_cases hb:b=a
      · have z':=(if_pos hb).symm.trans z
        cases z'
        subst hb
        exact ⟨ha,by rw [List.length_map]; exact hl,vs,_,rv,ha⟩
      · have z':=(if_neg hb).symm.trans z
        cases z'
    · by_cases hb:b=a
      · exact hb
      · exact absurd (if_neg hb) z
end L2
namespace L2
open PySem PySem.Spec PyProof.Rows
theorem walk_of {l:PySem.W.OpenLaw} {n k:Nat} {q:Program} {loose:List Str} {XP:(Str→Option Value)→Heap→Prop} {YP:World→Heap→Prop} {d:DefRec} {K:Params→PySem.W.Frag} {CX:World→CXT} {sp:World→Sp} {x:Str}
    (hn:l.most=some n) (hn2:n≤sizeLine) (hdf:d.params.defaults=[]) (hr:Room k callerA)
    (hY:∀ (w:World) (h:Heap),YP w h→(K w.params).In h)
    (F:∀ (w:World) (mg:Str→Option Value) (fa:Addr) (h:Heap),(K w.params).In h→h.Ns mainGlobals mg→mg d.name=some (.ref fa) →
      ∃ fd:FuncData,(∀ (s:Shared) (u:Value),BindsTo s fd ⟨[u],[]⟩ [(x,u)]) ∧
        ∀ base:Heap,(K w.params).In base→base.Ns mainGlobals mg→FnOk l.prog w (K w.params) mg base (CX w) k fa fd [x] (sp w))
    (hsp:∀ (w:World) (H:Hp) (a:Addr) (ns:List Int),ns.length≤n→Only H→SqL (K w.params) H a (ns.map V.int)→sp w [.ref a] H (fun v _=>v=.bl true) fun _ _ _=>False)
    (hCX:∀ (w:World) (H:Hp) (s:Shared) (e:Value) (s':Shared),CX w [] H s (fun _ _ _=>False) e s'→False) :
    PySem.W.WalkO q loose XP YP l.row.toRowW d [] (fun f vs=>PySem.call f vs):=by
  refine Att.attach_call hn hdf fun w s₀ s₁ mg mb fa o pm cd doc a vs ns G Y ho hd hcd hmg hobj hints hlen hg=>?_
  have KX:=hY w _ Y
  obtain ⟨fd,hb,hF⟩:=F w mg fa _ KX G.T.g hmg
  exact law_call KX G.T.g G.T.b G.T.builtins G.T.nolimit hg hobj hints (Nat.le_trans hlen hn2) hr hF hb (fun H hO hS=>hsp w H a ns hlen hO hS) fun H e s'=>hCX w H s₁ e s'
theorem walk_ofK {l:PySem.W.OpenLaw} {n k:Nat} {q:Program} {loose:List Str} {XP:(Str→Option Value)→Heap→Prop} {YP:World→Heap→Prop} {d:DefRec} {K:Params→PySem.W.Frag} {CX:CXT} {sp:PySem.W.Frag→Sp} {x:Str}
    (hn:l.most=some n) (hn2:n≤sizeLine) (hdf:d.params.defaults=[]) (hr:Room k callerA)
    (hY:∀ (w:World) (h:Heap),YP w h→(K w.params).In h)
    (F:∀ (w:World) (mg:Str→Option Value) (fa:Addr) (h:Heap),(K w.params).In h→h.Ns mainGlobals mg→mg d.name=some (.ref fa) →
      ∃ fd:FuncData,(∀ (s:Shared) (u:Value),BindsTo s fd ⟨[u],[]⟩ [(x,u)]) ∧
        ∀ base:Heap,(K w.params).In base→base.Ns mainGlobals mg→FnOk l.prog w (K w.params) mg base CX k fa fd [x] (sp (K w.params)))
    (hsp:∀ (K:PySem.W.Frag) (H:Hp) (a:Addr) (ns:List Int),ns.length≤n→Only H→SqL K H a (ns.map V.int)→sp K [.ref a] H (fun v _=>v=.bl true) fun _ _ _=>False)
    (hCX:∀ (H:Hp) (s:Shared) (e:Value) (s':Shared),CX [] H s (fun _ _ _=>False) e s'→False) :
    PySem.W.WalkO q loose XP YP l.row.toRowW d [] (fun f vs=>PySem.call f vs) :=
  walk_of (K:=K) (CX:=fun _=>CX) (sp:=fun w=>sp (K w.params)) hn hn2 hdf hr hY F (fun w H a ns h1 h2 h3=>hsp (K w.params) H a ns h1 h2 h3) fun _ H s e s'=>hCX H s e s'
end L2
/- THE LAST THEOREM (shape; LID,My.* are yours):
   My.Adr: a structure of the addresses that your layer names (classes,functions); My.Txt K t: a structure (Prop) of the equations over K;
   My.txt_mk:{K} {implicit addresses ..} (e1:nsIn K mainGlobals "law" = some (some (.ref f))) (e2:K.lookup f=some ⟨oc,od,.func (fnOf "law" "law" params body scope dV kV doc pm an cdv ct),sl⟩) (e3:codeIn K cdv "law" = true) .. : ∃ t,My.Txt K t
set_option maxRecDepth 100000 in
set_option maxHeartbeats 0 in
theorem PySem.Challenge.cw_LID_holds : PySem.Challenge.rw_LID.Holds := by
  w_on; o_law; k_head; (case hw=>w_witness2)
  k_fill
  refine L2.walk_of (l:=PySem.Challenge.rw_LID) (n:=63) (k:=40) (x := "script") (CX:=fun w=>..) (sp:=fun _=>My.sp_law) rfl (by decide) rfl ⟨rfl,by decide,by decide⟩ (fun w h Y=>PySem.W.kIn_of Y) ?F ?S ?C
  case F =>
    intro w mg fa h KX G hmg
    have T:∃ t,My.Txt (L2.KOf KX) t:=by
      dsimp only [L2.KOf]                          -- K must stand as «<heap const> w.params» for k_is
      refine' My.txt_mk ?e1 ?e2 ?e3 ..
      (case e1=>PySem.W.k_is)                    -- in the order: a name -> its address -> its object -> its parts
      (case e2=>PySem.W.k_is)
      ..
    obtain ⟨t,T⟩:=T
    have e0:=hmg.symm.trans (PySem.W.mg_of KX G T.law)
    cases e0                                       -- fa is the law's own address
    exact ⟨_,fun s u=>.of_eq rfl,fun base kb nb=>My.law_fn T kb nb⟩     -- if «.of_eq rfl» comes too early: refine' ⟨_,?b,fun base kb nb=>My.law_fn T kb nb⟩; exact fun s u=>.of_eq rfl
  case S=>exact fun w H a ns hl hO hS=>..
  case C=>exact ..
(the tactic k_is has no namespace: write k_is) -/
namespace L2
open PySem PySem.Spec PyProof.Rows
def defArgs (s:Stmt):Arguments:=match s with
  | .FunctionDef _ a _ _ _ _ _ _ _ _=>a
  | _=>{ posonlyargs:=[],args:=[],vararg:=none,kwonlyargs:=[],kw_defaults:=[],kwarg:=none,defaults:=[] }
def defBody (s:Stmt):List Stmt:=match s with
  | .FunctionDef _ _ b _ _ _ _ _ _ _=>b
  | _=>[]
def defScope (s:Stmt):Scope:=match s with
  | .FunctionDef _ _ _ _ _ _ sc _ _ _=>sc
  | _=>{ kind:=.function,names:=[],isGenerator:=false,isCoroutine:=false }
abbrev CX0:CXT:=fun _ _ _ _ _ _=>False
abbrev E0:XK:=fun _ _ _=>False
theorem pass0 {X:Cx}:Passes CX0 X E0:=fun _ _ _ _ _ _ _ h=>h.elim
structure Fun (K:PySem.W.Frag) (x qual:Str) (st:Stmt) (f:Addr) (fd:FuncData):Prop where
  ex:∃ (oc:Value) (od:Option Addr) (kV doc pm:Value) (an:Option Addr) (cdv ct:Value) (osl:Array (Option Value)),
    fd=PySem.W.fnOf x qual (defArgs st) (defBody st) (defScope st) .none kV doc pm an cdv ct∧K.lookup f=some ⟨oc,od,.func fd,osl⟩∧PySem.W.codeIn K cdv qual=true
  kp:PySem.W.keepIn K (.ref f)=true
section
variable {P:Program} {w:World} {K:PySem.W.Frag} {mg:Str→Option Value} {base:Heap}
theorem Fun.ok {x qual:Str} {st:Stmt} {f:Addr} {fd:FuncData} {N ps:List Str} {k:Nat} {sp:Sp} (F:Fun K x qual st f fd) (S:FnScope N ps (defScope st)) (len:∀ vs H Q E,sp vs H Q E→vs.length=ps.length)
    (hbody:∀ (cdv:Value) (A:Around) (outer:List Env) (s:Shared) (H:Hp) (vs:List V) (Q:VK) (E:XK),Room k (A.deeper (envOfC qual (defScope st) s.heap.objs.size f cdv))→sp vs H Q E →
      ∃ t,PSs (cxOf CX0 P w K mg base N qual (defScope st) f cdv A outer s H E).nox (defBody st) t∧t { nx:=fun _ H'=>Q .non H',rt:=Q } (start N vs) H):FnOk P w K mg base CX0 (k+1) f fd ps sp:=by
  obtain ⟨oc,od,kV,doc,pm,an,cdv,ct,osl,rfl,lk,hcd⟩:=F.ex
  refine fn_of lk hcd S len fun A outer s H vs Q E hr hsp=>?_
  obtain ⟨t,h,q⟩:=hbody cdv A outer s H vs Q E hr hsp
  exact ⟨t,h.nox,q⟩
theorem Fun.binds {x qual:Str} {st:Stmt} {f:Addr} {fd:FuncData} {ps:List Str} (F:Fun K x qual st f fd)
    (h:∀ (kV doc pm:Value) (an:Option Addr) (cdv ct:Value) (us:List Value),us.length=ps.length→bindArgs (PySem.W.fnOf x qual (defArgs st) (defBody st) (defScope st) .none kV doc pm an cdv ct) ⟨us,[]⟩=pure (ps.zip us)):Binds K fd ps []:=by
  obtain ⟨oc,od,kV,doc,pm,an,cdv,ct,osl,rfl,lk,hcd⟩:=F.ex
  exact .all (h kV doc pm an cdv ct)
theorem fun_mk {x qual:Str} {st:Stmt} {f:Addr} {oc:Value} {od an:Option Addr} {osl:Array (Option Value)} {kV doc pm cdv ct:Value} (l:K.lookup f=some ⟨oc,od,.func (PySem.W.fnOf x qual (defArgs st) (defBody st) (defScope st) .none kV doc pm an cdv ct),osl⟩)
    (c:PySem.W.codeIn K cdv qual=true) (k:PySem.W.keepIn K (.ref f)=true):Fun K x qual st f (PySem.W.fnOf x qual (defArgs st) (defBody st) (defScope st) .none kV doc pm an cdv ct):=⟨⟨oc,od,kV,doc,pm,an,cdv,ct,osl,rfl,l,c⟩,k⟩
end
theorem small1000 {n:Nat} (h:n≤1000):n<sizeLine:=Nat.lt_of_le_of_lt h (by decide)
section
variable {X:Cx}
theorem pv (i:Nat) {x:Str} {pos:Pos} (hN:X.N[i]?=some x:=by rfl) (hv:Vis X.env.scope x:=by first | exact Or.inl rfl | exact Or.inr (Or.inl rfl) | exact Or.inr (Or.inr rfl)) (hd:(x == ("__debug__" : Str))=false:=by decide)
    (hcd:(x == ("__classdict__" : Str))=false:=by decide):PE X (.Name x pos) (tVar i):=pe_var hN hv hd hcd
end
theorem iteF {A B:Prop} (h:B):if false=true then A else B:=by
  rw [if_neg Bool.false_ne_true]
  exact h
theorem iteT {A B:Prop} (h:A):if true=true then A else B:=by
  rw [if_pos rfl]
  exact h
theorem ite2 {c A B:Prop} [Decidable c] (h1:c→A) (h2:¬ c→B):if c then A else B:=by
  by_cases h:c
  · rw [if_pos h]
    exact h1 h
  · rw [if_neg h]
    exact h2 h
theorem iteNS {c A B:Prop} [Decidable c] (hc:c) (h:B):if (!decide c)=true then A else B:=by
  rw [decide_eq_true hc]
  exact iteF h
def Same (H H':Hp):Prop:=∀ b o,H b=some o→H' b=some o
theorem Same.refl (H:Hp):Same H H:=fun _ _ h=>h
theorem Same.trans {H H1 H2:Hp} (a:Same H H1) (b:Same H1 H2):Same H H2:=fun c o h=>b c o (a c o h)
theorem Same.free {H H':Hp} (e:Same H H') {l:Addr} (h:H' l=Option.none):H l=Option.none:=by
  cases q:H l with
  | none=>rfl
  | some o =>
    rw [e l o q] at h
    cases h
theorem Same.seq {K:PySem.W.Frag} {H H':Hp} {a:Addr} {xs:List V} (e:Same H H') (h:SqL K H a xs):SqL K H' a xs:=by
  rcases h with (h | ⟨o,h⟩) | h
  · exact .inl (.inl (e _ _ h))
  · exact .inl (.inr ⟨o,e _ _ h⟩)
  · exact .inr h
end L2
set_option Elab.async false
set_option linter.all false
set_option maxRecDepth 100000
namespace L2
open PySem PySem.Spec PyProof.Rows
section
variable {κ:Type} [DecidableEq κ]
def valV (kvs:List (κ × V)) (k:κ):Option V:=(kvs.find? fun kv=>decide (kv.1=k)).map (·.2)
def putK (kvs:List (κ × V)) (k:κ) (v:V):List (κ × V) :=
  if (kvs.any fun kv=>decide (kv.1=k))=true then kvs.map (fun kv=>if kv.1=k then (kv.1,v) else kv) else kvs++[(k,v)]
theorem valV_pos {p:κ × V} {r:List (κ × V)} {k:κ} (e:p.1=k):valV (p::r) k=some p.2:=by simp [valV,List.find?_cons,e]
theorem valV_neg {p:κ × V} {r:List (κ × V)} {k:κ} (e:¬ p.1=k):valV (p::r) k=valV r k:=by simp [valV,List.find?_cons,e]
theorem valV_any (k:κ):∀ kvs:List (κ × V),(kvs.any fun kv=>decide (kv.1=k))=(valV kvs k).isSome
  | []=>rfl
  | p::r=>by
    rw [List.any_cons]
    by_cases e:p.1=k
    · simp only [valV_pos e,decide_eq_true e,Bool.true_or,Option.isSome_some]
    · rw [valV_neg e,decide_eq_false e,Bool.false_or]; exact valV_any k r
theorem length_putK (kvs:List (κ × V)) (k:κ) (v:V):(putK kvs k v).length≤kvs.length+1:=by
  unfold putK
  split
  · rw [List.length_map]; omega
  · rw [List.length_append,List.length_cons,List.length_nil]; omega
theorem RelO.isSome_eq {o:Option V} {u:Option Value} (r:RelO o u):o.isSome=u.isSome:=by
  cases o with
  | none=>cases u with
    | none=>rfl
    | some _=>exact (show False from r).elim
  | some _=>cases u with
    | none=>exact (show False from r).elim
    | some _=>rfl
theorem KV.val {kvs:List (κ × V)} {vs:List (κ × Value)} (r:KV kvs vs) (k:κ):RelO (valV kvs k) (valueAt vs k):=by
  unfold KV at r
  induction r with
  | nil=>exact True.intro
  | @cons p q ps qs h t ih =>
    obtain ⟨h1,h2⟩:=h
    by_cases e:p.1=k
    · have e':q.1=k:=h1.symm.trans e
      have b:valueAt (q::qs) k=some q.2:=by simp [valueAt,List.find?_cons,e']
      rw [valV_pos e,b]; exact h2
    · have e':¬ q.1=k:=fun z=>e (h1.trans z)
      have b:valueAt (q::qs) k=valueAt qs k:=by simp [valueAt,List.find?_cons,e']
      rw [valV_neg e,b]; exact ih
theorem KV.any {kvs:List (κ × V)} {vs:List (κ × Value)} (r:KV kvs vs) (k:κ):(kvs.any fun kv=>decide (kv.1=k))=vs.any fun kv=>decide (kv.1=k):=by
  unfold KV at r
  induction r with
  | nil=>rfl
  | cons h t ih=>rw [List.any_cons,List.any_cons,ih,h.1]
theorem KV.repl {kvs:List (κ × V)} {vs:List (κ × Value)} (r:KV kvs vs) (k:κ) {y:V} {u:Value} (ry:RelV y u) :
    KV (kvs.map fun kv=>if kv.1=k then (kv.1,y) else kv) (vs.map fun kv=>if kv.1=k then (kv.1,u) else kv):=by
  unfold KV at r ⊢
  induction r with
  | nil=>exact .nil
  | @cons p q ps qs h t ih =>
    rw [List.map_cons,List.map_cons]
    refine .cons ?_ ih
    obtain ⟨h1,h2⟩:=h
    by_cases e:p.1=k
    · rw [if_pos e,if_pos (h1.symm.trans e)]; exact ⟨h1,ry⟩
    · rw [if_neg e,if_neg (fun z=>e (h1.trans z))]; exact ⟨h1,h2⟩
theorem KV.put {kvs:List (κ × V)} {vs:List (κ × Value)} (r:KV kvs vs) (k:κ) {y:V} {u:Value} (ry:RelV y u):KV (putK kvs k y) (stored vs k u):=by
  unfold putK stored
  rw [r.any k]
  by_cases e:(vs.any fun kv=>decide (kv.1=k))=true
  · rw [if_pos e,if_pos e]; exact r.repl k ry
  · rw [if_neg e,if_neg e]; exact Paired.snoc r ⟨rfl,ry⟩
theorem KV.length {kvs:List (κ × V)} {vs:List (κ × Value)} (r:KV kvs vs):kvs.length=vs.length:=Paired.length r
end
theorem kV_is {P:Program} {w:World} {k:Key} {u:Value} (r:RelV (kV k) u):(mixKind P w).is k u=true:=by
  cases k with
  | inl i=>obtain ⟨t,e⟩:=(show ∃ t,u=Value.int i t from r); subst e; exact mixKind_int P w i t
  | inr x=>obtain ⟨t,e⟩:=(show ∃ t,u=Value.str x t from r); subst e; exact mixKind_str P w x t
theorem items_are {P:Program} {w:World}:∀ {ks:List Key} {us:List Value},Vals (ks.map kV) us→ItemsAre (mixKind P w) ks us
  | [],_,r=>by rw [List.map_nil] at r; cases r; exact .nil
  | k::ks,_,r=>by
    rw [List.map_cons] at r
    cases r with
    | cons h t=>exact .cons (kV_is h) (items_are t)
abbrev KT (H:Hp):List (List Key × V)→List (List Key × Addr × Value)→Prop:=Paired fun p q=>p.1=q.1∧H q.2.1=some (.tup (p.1.map kV))∧RelV p.2 q.2.2
theorem KT.val {H:Hp} {kvs:List (List Key × V)} {xs:List (List Key × Addr × Value)} (r:KT H kvs xs) (k:List Key):RelO (valV kvs k) ((atKey xs k).map (·.2)):=by
  induction r with
  | nil=>exact True.intro
  | @cons p q ps qs h t ih =>
    obtain ⟨h1,_,h2⟩:=h
    by_cases e:p.1=k
    · have e':q.1=k:=h1.symm.trans e
      have b:atKey (q::qs) k=some q.2:=by simp [atKey,List.find?_cons,e']
      rw [valV_pos e,b]; exact h2
    · have e':¬ q.1=k:=fun z=>e (h1.trans z)
      have b:atKey (q::qs) k=atKey qs k:=by simp [atKey,List.find?_cons,e']
      rw [valV_neg e,b]; exact ih
theorem KT.repl {H:Hp} {kvs:List (List Key × V)} {xs:List (List Key × Addr × Value)} (r:KT H kvs xs) (k:List Key) {y:V} {u:Value} (ry:RelV y u) :
    KT H (kvs.map fun kv=>if kv.1=k then (kv.1,y) else kv) (xs.map (putAt k u)):=by
  induction r with
  | nil=>exact .nil
  | @cons p q ps qs h t ih =>
    rw [List.map_cons,List.map_cons]
    refine .cons ?_ ih
    obtain ⟨h1,h2,h3⟩:=h
    unfold putAt
    by_cases e:p.1=k
    · rw [if_pos e,if_pos (h1.symm.trans e)]; exact ⟨h1,h2,ry⟩
    · rw [if_neg e,if_neg (fun z=>e (h1.trans z))]; exact ⟨h1,h2,h3⟩
theorem KT.put {H:Hp} {kvs:List (List Key × V)} {xs:List (List Key × Addr × Value)} (r:KT H kvs xs) (k:List Key) {b:Addr} {y:V} {u:Value} (hb:H b=some (.tup (k.map kV))) (ry:RelV y u) :
    KT H (putK kvs k y) (storedH xs k b u):=by
  have e:(kvs.any fun kv=>decide (kv.1=k))=(atKey xs k).isSome:=by
    rw [valV_any,(r.val k).isSome_eq,Option.isSome_map]
  unfold putK storedH
  rw [e]
  by_cases q:(atKey xs k).isSome=true
  · rw [if_pos q,if_pos q]; exact r.repl k ry
  · rw [if_neg q,if_neg q]; exact Paired.snoc r ⟨rfl,hb,ry⟩
theorem KT.keeps {H H':Hp} {kvs:List (List Key × V)} {xs:List (List Key × Addr × Value)} (r:KT H kvs xs) (ht:∀ b ys,H b=some (.tup ys)→H' b=some (.tup ys)):KT H' kvs xs :=
  Paired.mapP r fun _ _ z=>⟨z.1,ht _ _ z.2.1,z.2.2⟩
section
variable {P:Program} {w:World} {H:Hp} {h:Heap} {a:Addr}
theorem rd_of {u:HO} (ok:HOk P w H h) (e:Rd H a u):ObjOk P w H h a u:=e.ok ok
theorem dk_rd {kvs:List (Key × V)} (ok:HOk P w H h) (e:Rd H a (.dK kvs)):kvs.length≤sizeLine∧(a == sysModules)=false∧∃ vs,KV kvs vs∧h.DictOf (mixKind P w) a vs :=
  show ObjOk P w H h a (.dK kvs) from rd_of ok e
theorem dk_of {kvs:List (Key × V)} (ok:HOk P w H h) (e:H a=some (.dK kvs)):kvs.length≤sizeLine∧(a == sysModules)=false∧∃ vs,KV kvs vs∧h.DictOf (mixKind P w) a vs:=dk_rd ok (.inl e)
theorem key_of {ks:List Key} (ok:HOk P w H h) (e:H a=some (.tup (ks.map kV))):(tupleKind (mixKind P w)).is h ks a:=by
  obtain ⟨_,its,r,o,h1,h2,n,h3⟩:=(show ObjOk P w H h a (.tup (ks.map kV)) from ok a _ e)
  exact ⟨o,its.toArray,n,h1,h2,h3,by simpa using items_are r⟩
theorem dt_rd {kvs:List (List Key × V)} (ok:HOk P w H h) (e:Rd H a (.dT kvs)):kvs.length≤sizeLine∧(a == sysModules)=false ∧
    ∃ xs,KT H kvs xs∧h.DictOfH (tupleKind (mixKind P w)) a xs:=by
  obtain ⟨z,y,xs,r,o,es,ep,h1,h2,h3,h4,h5⟩:=(show ObjOk P w H h a (.dT kvs) from rd_of ok e)
  refine ⟨z,y,xs,r,o,es,ep,h1,h2,h3,h4,fun x hx=>?_,h5⟩
  have all:∀ {l:List (List Key × V)} {m:List (List Key × Addr × Value)},KT H l m→∀ x∈m,(tupleKind (mixKind P w)).is h x.1 x.2.1:=by
    intro l m q
    induction q with
    | nil=>intro x hx; exact nomatch hx
    | @cons p q ps qs hq t ih =>
      intro x hx
      rcases List.mem_cons.mp hx with e | hx
      · subst e
        exact key_of ok (by rw [← hq.1]; exact hq.2.1)
      · exact ih x hx
  exact all r x hx
theorem dt_of {kvs:List (List Key × V)} (ok:HOk P w H h) (e:H a=some (.dT kvs)):kvs.length≤sizeLine∧(a == sysModules)=false ∧
    ∃ xs,KT H kvs xs∧h.DictOfH (tupleKind (mixKind P w)) a xs:=dt_rd ok (.inl e)
end
def DGet (H:Hp) (a:Addr) (y:V) (r:Option V):Prop :=
  (∃ kvs k,Rd H a (.dK kvs)∧y=kV k∧r=valV kvs k)∨∃ kvs k b,Rd H a (.dT kvs)∧y=.ref b∧H b=some (.tup (k.map kV))∧r=valV kvs k
def DPut (H:Hp) (a:Addr) (y v:V) (H':Hp):Prop :=
  (∃ kvs k,H a=some (.dK kvs)∧y=kV k∧kvs.length<sizeLine∧H'=upd H a (.dK (putK kvs k v))) ∨
  ∃ kvs k b,H a=some (.dT kvs)∧y=.ref b∧H b=some (.tup (k.map kV))∧kvs.length<sizeLine∧H'=upd H a (.dT (putK kvs k v))
theorem DGet.k {H:Hp} {a:Addr} {kvs:List (Key × V)} {k:Key} (e:H a=some (.dK kvs)):DGet H a (kV k) (valV kvs k):=.inl ⟨kvs,k,.inl e,rfl,rfl⟩
theorem DPut.k {H:Hp} {a:Addr} {kvs:List (Key × V)} {k:Key} {v:V} (e:H a=some (.dK kvs)) (hl:kvs.length<sizeLine):DPut H a (kV k) v (upd H a (.dK (putK kvs k v))):=.inl ⟨kvs,k,e,rfl,hl,rfl⟩
section
variable {X:Cx} {pins:List (Addr × Obj)} {σ:St} {H:Hp} {s:Shared} {a:Addr} {y v:V} {u r:Value} {o:Option V} {A:Around} {E:Value→Shared→Prop}
theorem Inv.big (I:Inv X pins σ H s):sysModules<s.heap.objs.size:=by
  have h:mainGlobals<s.heap.objs.size:=(I.mod.glob.keeps I.bk).lt
  exact Nat.lt_trans (by decide) h
theorem d_getItem {Q:Value→Shared→Prop} (hu:A.units+1<cLine) (I:Inv X pins σ H s) (g:DGet H a y (some v)) (ry:RelV y u) (h:∀ w' s',Inv X pins σ H s'→RelV v w'→Q w' s') :
    wpAny (model X.prog X.w) A (getItem (.ref a) u) Q E s:=by
  rcases g with ⟨kvs,k,e,ey,l⟩ | ⟨kvs,k,b,e,ey,eb,l⟩
  · subst ey
    obtain ⟨z,hd,vs,rel,dd⟩:=dk_rd I.hok e
    obtain ⟨w',hw,rw'⟩:=RelO.some_of (v:=v) (o:=valueAt vs k) (by rw [l]; exact rel.val k)
    exact wpAny_getItem_of (kV_is ry) dd.mapOf hw (h w' _ (I.tok _) rw')
  · subst ey
    cases (show u=Value.ref b from ry)
    obtain ⟨z,hd,xs,rel,dd⟩:=dt_rd I.hok e
    obtain ⟨w',hw,rw'⟩:=RelO.some_of (v:=v) (o:=(atKey xs k).map (·.2)) (by rw [l]; exact rel.val k)
    obtain ⟨p,hp,hp2⟩:=Option.map_eq_some_iff.mp hw
    refine wpAny_getItem_heap (tupleKind_room_in1 hu) (key_of I.hok eb) dd hp ?_
    rw [hp2]
    exact h w' _ (I.tok _) rw'
theorem d_write {h':Heap} {t':Nat} {ob:HO} (I:Inv X pins σ H s) (mu:Mut (H a)) (hs:Heap.SameBut a s.heap h') (he:∃ q,h'.get? a=some q) (new:ObjOk X.prog X.w (upd H a ob) h' a ob) :
    Inv X pins σ (upd H a ob) { s with heap:=h',toks:=t' } :=
  I.write (x:=a) (e:=a) mu (.inl rfl) (fun b q hb z=>(hs.2 b hb).trans z) he new
theorem dk_new {P:Program} {w:World} {H':Hp} {h':Heap} {kvs:List (Key × V)} {vs:List (Key × Value)} (z:kvs.length≤sizeLine) (hd:(a == sysModules)=false) (rel:KV kvs vs) (dd:h'.DictOf (mixKind P w) a vs) :
    ObjOk P w H' h' a (.dK kvs):=⟨z,hd,vs,rel,dd⟩
theorem d_setItem {H':Hp} {Q:Unit→Shared→Prop} (hu:A.units+1<cLine) (I:Inv X pins σ H s) (g:DPut H a y v H') (ry:RelV y u) (rv:RelV v r) (h:∀ s',Inv X pins σ H' s'→Q () s') :
    wpAny (model X.prog X.w) A (setItem (.ref a) u r) Q E s:=by
  rcases g with ⟨kvs,k,e,ey,l,eH⟩ | ⟨kvs,k,b,e,ey,eb,l,eH⟩
  · subst ey eH
    obtain ⟨z,hd,vs,rel,dd⟩:=dk_of I.hok e
    have hz:vs.length≤sizeLine:=by rw [← rel.length]; exact z
    have hl:(putK kvs k v).length≤sizeLine:=by have:=length_putK kvs k v; omega
    refine wpAny_setItem_pairs (hsz:=hz) (kV_is ry) dd fun h' dd' hs=>h _ ?_
    have he:∃ q,h'.get? a=some q:=let ⟨q,_,_,hq,_⟩:=dd'; ⟨q,hq⟩
    exact d_write I (by rw [e]; exact True.intro) hs he (dk_new hl hd (rel.put k rv) dd')
  · subst ey eH
    cases (show u=Value.ref b from ry)
    obtain ⟨z,hd,xs,rel,dd⟩:=dt_of I.hok e
    have hz:xs.length≤sizeLine:=by rw [← Paired.length rel]; exact z
    have hl:(putK kvs k v).length≤sizeLine:=by have:=length_putK kvs k v; omega
    refine wpAny_setItem_heap (hsz:=hz) (tupleKind_room_in1 hu) (key_of I.hok eb) dd fun h' dd' hs=>h _ ?_
    obtain ⟨q,es,ep,hq,h2,h3,h4,_,h5⟩:=dd'
    refine d_write I (by rw [e]; exact True.intro) hs ⟨q,hq⟩ ⟨hl,hd,_,(rel.put k eb rv).keeps fun c ys ec=>?_,q,es,ep,hq,h2,h3,h4,h5⟩
    rw [upd_ne (ne_of ec e (fun z=>nomatch z))]
    exact ec
end
section
variable {X:Cx} {pins:List (Addr × Obj)} {σ:St} {H:Hp} {s:Shared} {a:Addr} {kvs:List (Key × V)} {k:Key} {u:Value} {A:Around} {E:Value→Shared→Prop}
end
def NoSl (i:Expr):Prop:=∀ ov iv,subscripted i false ov iv=operate [ov,iv] (getItem ov iv)
theorem subD_of {prog:Program} {w:World} {A:Around} {E:Value→Shared→Prop} {s:Shared} {env:Env} {value slice:Expr} {pos:Pos} {T id:String} {Q:Value→Shared→Prop}
    (hl:typeLookup (.type T) "__getitem__" = pure (some (.builtin id))) (hs:NoSl slice)
    (h:wpAny (model prog w) A (eval value env) (fun o s₁=>wpAny (model prog w) A (eval slice env) (fun i s₂=>s₂.TypeIs o T∧wpAny (model prog w) A (getItem o i) Q E s₂) E s₁) E s) :
    wpAny (model prog w) A (eval (.Subscript value slice pos) env) Q E s:=by
  refine Subscript_ (wpAny_mono h (fun o s₁ h₁=>wpAny_mono h₁ (fun i s₂ h₂=>?_) fun _ _ x=>x) fun _ _ x=>x)
  obtain ⟨hT,h₂⟩:=h₂
  unfold subscriptTail
  refine wpAny_bind ?_
  rw [getitemInPython_of_ne hT.not_modules]
  refine wpAny_bind (wpAny_specialOf hT hl ?_)
  have fin:wpAny (model prog w) A (subscripted slice false o i) (fun r s₃=>wpAny (model prog w) A (letTemporaryGo value o r >>= fun _=>pure r) Q E s₃) E s₂:=by
    rw [hs o i]
    exact wpAny_operating (wpAny_mono h₂ (fun r s₃ h₃=>wpAny_bind (wpAny_letTemporaryGo (wpAny_pure h₃))) fun _ _ x=>x)
  first
    | exact wpAny_pure (wpAny_bind fin)
    | exact wpAny_bind (wpAny_pure (wpAny_bind fin))
    | exact wpAny_bind fin
theorem dict_typeIs {X:Cx} {pins:List (Addr × Obj)} {σ:St} {H:Hp} {s:Shared} {a:Addr} {y:V} {o:Option V} (I:Inv X pins σ H s) (g:DGet H a y o):s.TypeIs (.ref a) "dict" := by
  rcases g with ⟨kvs,k,e,_,_⟩ | ⟨kvs,k,b,e,_,_,_⟩
  · obtain ⟨_,_,vs,_,dd⟩:=dk_rd I.hok e
    exact dd.typeIs
  · obtain ⟨_,_,xs,_,dd⟩:=dt_rd I.hok e
    exact dd.typeIs
def tDGet (td ty:TE):TE:=fun σ H Q=>td σ H fun x H1=>ty σ H1 fun y H2=>∃ a v,x=.ref a∧DGet H2 a y (some v)∧Q v H2
def sDPut (td ty tv:TE):TS:=fun D σ H=>tv σ H fun v H1=>td σ H1 fun x H2=>ty σ H2 fun y H3=>∃ a H4,x=.ref a∧DPut H3 a y v H4∧D.nx σ H4
section
variable {X:Cx} {o i e value:Expr} {pos pos' tpos:Pos} {td ty tv:TE}
theorem pe_dget (hu:X.A.units+1<cLine) (ho:PE X o td) (hi:PE X i ty) (hs:NoSl i):PE X (.Subscript o i pos) (tDGet td ty):=by
  intro pins s σ H Q I h
  refine subD_of PySem.F.slot_dict_getitem.lookup hs (thn (ho pins s σ H _ I h) fun u s1 ⟨x,H1,I1,rx,q1⟩=>thn (hi pins s1 σ H1 _ I1 q1) fun iv s2 ⟨y,H2,I2,ry,a,v,ex,g,q2⟩=>?_)
  subst ex
  obtain rfl:u=Value.ref a:=rx
  exact ⟨dict_typeIs I2 g,d_getItem hu I2 g ry fun w' s3 I3 rw'=>⟨v,H2,I3,rw',q2⟩⟩
theorem ps_dput (hu:X.A.units+1<cLine) (ho:PE X o td) (hi:PE X i ty) (hv:PE X value tv) (hs:swapsWith value (some (.Subscript o i pos')) pos.line X.env=pure false) :
    PS X (.Assign [.Subscript o i pos'] value pos) (sDPut td ty tv):=by
  intro pins s σ H D I h
  refine wpAny_Assign_Subscript (thn (hv pins s σ H _ I h) fun r s1 ⟨v,H1,I1,rv,q1⟩=>thn (ho pins s1 σ H1 _ I1 q1) fun u s2 ⟨x,H2,I2,rx,q2⟩=>thn (hi pins s2 σ H2 _ I2 q2) fun iv s3 ⟨y,H3,I3,ry,a,H4,ex,g,q3⟩=>?_) hs
  subst ex
  obtain rfl:u=Value.ref a:=rx
  exact d_setItem hu I3 g ry rv fun s4 I4=>⟨σ,H4,I4,q3⟩
end
theorem dk_empty {P:Program} {w:World} {H:Hp} (h:Heap) (hb:sysModules<h.objs.size):ObjOk P w H (h.push { cls:=.type "dict",data:=.dict #[] }) h.objs.size (.dK []) :=
  ⟨Nat.zero_le _,beq_eq_false_iff_ne.mpr (Ne.symm (Nat.ne_of_lt hb)),[],.nil,Heap.DictOf.new h⟩
section
variable {X:Cx} {pos:Pos}
end
def tPairs:List (TE × TE)→St→Hp→(List (V × V)→Hp→Prop)→Prop
  | [],_,H,Q=>Q [] H
  | (tk,tv)::r,σ,H,Q=>tk σ H fun x H1=>tv σ H1 fun y H2=>tPairs r σ H2 fun ps H3=>Q ((x,y)::ps) H3
abbrev VV:List (V × V)→List (Value × Value)→Prop:=Paired fun p q=>RelV p.1 q.1∧RelV p.2 q.2
def PPs (X:Cx) (pos:Pos) (keys:List (Option Expr)) (values:List Expr) (trs:List (TE × TE)):Prop :=
  ∀ (pins:List (Addr × Obj)) (s:Shared) (σ:St) (H:Hp) (Q:List (V × V)→Hp→Prop),Inv X pins σ H s→tPairs trs σ H Q →
    wpAny (model X.prog X.w) X.A (evalPairs (pairTrees keys values X.env pos)) (fun vs s'=>∃ ps H',Inv X pins σ H' s'∧VV ps vs∧Q ps H') X.xe s
theorem pps_nil {X:Cx} {pos:Pos}:PPs X pos [] [] []:=fun pins s σ H Q I h=>pairTrees_nil_walk ⟨[],H,I,.nil,h⟩
theorem pps_cons {X:Cx} {pos:Pos} {k v:Expr} {ks:List (Option Expr)} {vs:List Expr} {tk tv:TE} {trs:List (TE × TE)} (hk:PE X k tk) (hv:PE X v tv) (hr:PPs X pos ks vs trs) :
    PPs X pos (some k::ks) (v::vs) ((tk,tv)::trs):=fun pins s σ H Q I h =>
  pairTrees_cons_walk (thn (hk pins s σ H _ I h) fun u s1 ⟨x,H1,I1,rx,q1⟩=>thn (hv pins s1 σ H1 _ I1 q1) fun w2 s2 ⟨y,H2,I2,ry,q2⟩ =>
    thn (hr pins s2 σ H2 _ I2 q2) fun ws s3 ⟨ps,H3,I3,rel,q3⟩=>⟨(x,y)::ps,H3,I3,.cons ⟨rx,ry⟩ rel,q3⟩)
def mergeK (kvs more:List (Key × V)):List (Key × V):=more.foldl (fun acc kv=>putK acc kv.1 kv.2) kvs
theorem KV.merge:∀ {more:List (Key × V)} {rs:List (Key × Value)} {kvs:List (Key × V)} {vs:List (Key × Value)},KV more rs→KV kvs vs→KV (mergeK kvs more) (merged vs rs):=by
  intro more rs kvs vs r
  unfold KV at r
  induction r generalizing kvs vs with
  | nil=>intro q; exact q
  | @cons p q ps qs h t ih =>
    intro r0
    have e:KV (putK kvs p.1 p.2) (stored vs q.1 q.2):=by
      have:=r0.put p.1 h.2
      rw [← h.1]; exact this
    exact ih e
theorem length_mergeK:∀ (more kvs:List (Key × V)),(mergeK kvs more).length≤kvs.length+more.length
  | [],kvs=>by show kvs.length≤kvs.length+0; omega
  | p::r,kvs=>by
    have h1:=length_mergeK r (putK kvs p.1 p.2)
    have h2:=length_putK kvs p.1 p.2
    show (mergeK (putK kvs p.1 p.2) r).length≤_
    rw [List.length_cons]; omega
theorem carries_of {P:Program} {w:World}:∀ {kvs:List (Key × V)} {ws:List (Value × Value)},VV (kvs.map fun kv=>(kV kv.1,kv.2)) ws→∃ rs,Carries (mixKind P w) ws rs∧KV kvs rs
  | [],_,r=>by rw [List.map_nil] at r; cases r; exact ⟨[],True.intro,.nil⟩
  | p::kvs,_,r=>by
    rw [List.map_cons] at r
    cases r with
    | @cons a b as bs h t =>
      obtain ⟨rs,c,q⟩:=carries_of (P:=P) (w:=w) t
      obtain ⟨b1,b2⟩:=b
      exact ⟨(p.1,b2)::rs,⟨kV_is h.1,rfl,c⟩,.cons ⟨rfl,h.2⟩ q⟩
def tDisp (trs:List (TE × TE)):TE:=fun σ H Q=>∀ p,H p=none→tPairs trs σ (upd H p (.dK [])) fun ps H2=>H2 p=some (.dK [])∧∃ kvs:List (Key × V),ps=kvs.map (fun kv=>(kV kv.1,kv.2))∧kvs.length≤15∧Q (.ref p) (upd H2 p (.dK (mergeK [] kvs)))
theorem pe_disp {X:Cx} {pos:Pos} {keys:List (Option Expr)} {values:List Expr} {trs:List (TE × TE)} (h:PPs X pos keys values trs) (hall:keys.all (·.isSome)=true) (hl:keys.length=values.length) (h0:keys≠[])
    (h15:keys.length≤15):PE X (.Dict keys values pos) (tDisp trs):=by
  intro pins s σ H Q I q
  have hn:=I.hok.fresh (Nat.le_refl s.heap.objs.size)
  have I1:=I.laid (a:=s.heap.objs.size) (o:=.dK []) (h':=s.heap.push { cls:=.type "dict",data:=.dict #[] }) (t':=s.toks) (fun _ _ q=>Heap.get?_push_of_some _ q) (Nat.le_refl _) (dk_empty s.heap I.big)
  refine wpAny_Dict_walk (knd:=mixKind X.prog X.w) hall hl h0 h15 (thn (h pins _ σ _ _ I1 (q _ hn)) fun ws s2 ⟨ps,H2,I2,rel,e,kvs,ep,lk,q2⟩=>?_)
  subst ep
  obtain ⟨rs,c,rk⟩:=carries_of (P:=X.prog) (w:=X.w) rel
  obtain ⟨z,hd,vs0,r0,dd⟩:=dk_of I2.hok e
  cases r0
  refine ⟨rs,c,dd,fun h' dd' hs=>⟨.ref s.heap.objs.size,_,?_,rfl,q2⟩⟩
  have hz:(mergeK [] kvs).length≤sizeLine:=by
    have h1:=length_mergeK kvs []
    rw [List.length_nil] at h1
    rw [sizeLine_eq]; omega
  have he:∃ q,h'.get? s.heap.objs.size=some q:=let ⟨q,_,_,hq,_⟩:=dd'; ⟨q,hq⟩
  exact d_write I2 (by rw [e]; exact True.intro) hs he (dk_new hz hd (rk.merge .nil) dd')
section
variable {X:Cx} {pins:List (Addr × Obj)} {σ:St} {H:Hp} {s:Shared} {a:Addr} {y d:V} {u r:Value} {o:Option V} {A:Around} {E:Value→Shared→Prop}
end
section
variable {X:Cx} {o e f:Expr} {apos cpos:Pos} {td ty tx:TE}
end
section
variable {X:Cx} {pins:List (Addr × Obj)} {σ:St} {H:Hp} {s:Shared} {a:Addr} {kvs:List (Key × V)} {A:Around} {E:Value→Shared→Prop}
end
section
variable {X:Cx} {pins:List (Addr × Obj)} {σ:St} {H:Hp} {s:Shared} {a:Addr} {y:V} {u:Value} {A:Around} {E:Value→Shared→Prop}
end
end L2
namespace L2
open PySem PySem.Spec PyProof.Rows
section
variable {κ:Type} [DecidableEq κ]
end
end L2
set_option Elab.async false
set_option linter.all false
set_option maxRecDepth 100000
namespace L2
open PySem PySem.Spec PyProof.Rows
abbrev bits (i:Int):Nat:=Builtin.Int.intBits i
def CDivB (i j:Int):Prop:=0<j∧bits j≤9000
theorem log_of_bits {j:Int} {n:Nat} (h:bits j≤n) (hn:0<n):j.natAbs.log2<n:=by
  unfold bits Builtin.Int.intBits at h
  by_cases hj:(j == 0)=true
  · have:j=0:=by simpa using hj
    subst this
    exact Nat.lt_of_le_of_lt (by decide +kernel:(0:Int).natAbs.log2≤0) hn
  · rw [if_neg hj] at h
    omega
section
variable {X:Cx}
theorem op_fdivB:OpR X (binaryOp .FloorDiv) (rI CDivB fun i j=>.int (i / j)):=opI fun i j _ _ _ _ _ hc q=>by
  refine floordiv_int (by have:=hc.1; omega) ?_ (.inl (PyProof.noPylong_of_log2 (log_of_bits hc.2 (by decide))))
  rw [Int.fdiv_eq_ediv_of_nonneg i (by have:=hc.1; omega)]
  exact q
theorem op_mulB:OpR X (binaryOp .Mult) (rI IntMulOk fun i j=>.int (i*j)):=opI fun _ _ _ _ _ _ _ hc q=>mul_int q hc
end
mutual
def Rep (H:Hp):PyData→V→Prop
  | .none,v=>v=.non
  | .bool b,v=>v=.bl b
  | .int i,v=>v=.int i
  | .str x,v=>v=.str x
  | .list ds,v=>∃ a xs,v=.ref a∧H a=some (.lst xs)∧RepL H ds xs
  | .tuple ds,v=>∃ a xs,v=.ref a∧H a=some (.tup xs)∧RepL H ds xs
  | .dict kvs,v=>kvs=[]∧∃ a,v=.ref a∧H a=some (.dK [])
def RepL (H:Hp):List PyData→List V→Prop
  | [],vs=>vs=[]
  | d::ds,vs=>∃ x xs,vs=x::xs∧Rep H d x∧RepL H ds xs
end
mutual
theorem Rep.same {H H':Hp} (e:Same H H'):∀ {d:PyData} {v:V},Rep H d v→Rep H' d v
  | .none,_,h=>h
  | .bool _,_,h=>h
  | .int _,_,h=>h
  | .str _,_,h=>h
  | .list ds,_,h=>by
    unfold Rep at h ⊢
    obtain ⟨a,xs,rfl,h1,h2⟩:=h
    exact ⟨a,xs,rfl,e _ _ h1,RepL.same e h2⟩
  | .tuple ds,_,h=>by
    unfold Rep at h ⊢
    obtain ⟨a,xs,rfl,h1,h2⟩:=h
    exact ⟨a,xs,rfl,e _ _ h1,RepL.same e h2⟩
  | .dict kvs,_,h=>by
    unfold Rep at h ⊢
    obtain ⟨h0,a,rfl,h1⟩:=h
    exact ⟨h0,a,rfl,e _ _ h1⟩
theorem RepL.same {H H':Hp} (e:Same H H'):∀ {ds:List PyData} {vs:List V},RepL H ds vs→RepL H' ds vs
  | [],_,h=>h
  | d::ds,_,h=>by
    unfold RepL at h ⊢
    obtain ⟨x,xs,rfl,h1,h2⟩:=h
    exact ⟨x,xs,rfl,Rep.same e h1,RepL.same e h2⟩
end
theorem Rep.tup {H:Hp} {a:Addr} {xs:List V} {ds:List PyData} (h:H a=some (.tup xs)) (r:RepL H ds xs):Rep H (.tuple ds) (.ref a):=by
  unfold Rep; exact ⟨a,xs,rfl,h,r⟩
theorem Rep.lst {H:Hp} {a:Addr} {xs:List V} {ds:List PyData} (h:H a=some (.lst xs)) (r:RepL H ds xs):Rep H (.list ds) (.ref a):=by
  unfold Rep; exact ⟨a,xs,rfl,h,r⟩
theorem Rep.int {H:Hp} (i:Int):Rep H (.int i) (.int i):=by unfold Rep; rfl
theorem Rep.str {H:Hp} (i:Str):Rep H (.str i) (.str i):=by unfold Rep; rfl
theorem Rep.non {H:Hp}:Rep H .none .non:=by unfold Rep; rfl
theorem RepL.nil {H:Hp}:RepL H [] []:=by unfold RepL; rfl
theorem RepL.cons {H:Hp} {d:PyData} {ds:List PyData} {x:V} {xs:List V} (h:Rep H d x) (hs:RepL H ds xs):RepL H (d::ds) (x::xs):=by
  unfold RepL; exact ⟨x,xs,rfl,h,hs⟩
section
variable {X:Cx} {pins:List (Addr × Obj)} {σ:St} {H:Hp} {s:Shared}
mutual
theorem Rep.reads (I:Inv X pins σ H s):∀ {d:PyData} {v:V} {u:Value},Rep H d v→RelV v u→∃ as,Reads s.heap u d as
  | .none,_,u,h,r=>by
    cases (show _=V.non from h); cases (show u=Value.none from r); exact ⟨_,.none⟩
  | .bool b,_,u,h,r=>by
    cases (show _=V.bl b from h); cases (show u=Value.bool b from r); exact ⟨_,.bool b⟩
  | .int b,_,u,h,r=>by
    cases (show _=V.int b from h); obtain ⟨t,q⟩:=(show ∃ t,u=Value.int b t from r); cases q; exact ⟨_,.int b t⟩
  | .str b,_,u,h,r=>by
    cases (show _=V.str b from h); obtain ⟨t,q⟩:=(show ∃ t,u=Value.str b t from r); cases q; exact ⟨_,.str b t⟩
  | .list ds,v,u,h,r=>by
    unfold Rep at h
    obtain ⟨a,xs,rfl,h1,h2⟩:=h
    cases (show u=Value.ref a from r)
    obtain ⟨_,its,n,r',e⟩:=(show ObjOk X.prog X.w H s.heap a (.lst xs) from I.hok a _ h1)
    obtain ⟨as,q⟩:=RepL.reads I h2 r'
    exact ⟨_,.list e rfl rfl (by simpa using q)⟩
  | .tuple ds,v,u,h,r=>by
    unfold Rep at h
    obtain ⟨a,xs,rfl,h1,h2⟩:=h
    cases (show u=Value.ref a from r)
    obtain ⟨_,its,r',o,e,hc,n,hd⟩:=(show ObjOk X.prog X.w H s.heap a (.tup xs) from I.hok a _ h1)
    obtain ⟨as,q⟩:=RepL.reads I h2 r'
    exact ⟨_,.tuple e hc hd (by simpa using q)⟩
  | .dict kvs,v,u,h,r=>by
    unfold Rep at h
    obtain ⟨rfl,a,rfl,h1⟩:=h
    cases (show u=Value.ref a from r)
    obtain ⟨_,_,vs,kv,o,es,ep,e,hx,hd,_,hes,_⟩:=(show ObjOk X.prog X.w H s.heap a (.dK []) from I.hok a _ h1)
    cases kv
    have he:es.toList=[]:=by
      cases q:es.toList with
      | nil=>rfl
      | cons y ys=>rw [q] at hes; cases hes
    exact ⟨_,.dict e hx.1 hd (by rw [he]; exact .nil) (by rw [he]; exact .nil)⟩
theorem RepL.reads (I:Inv X pins σ H s):∀ {ds:List PyData} {vs:List V} {us:List Value},RepL H ds vs→Vals vs us→∃ as,ReadsAll s.heap us ds as
  | [],_,us,h,r=>by
    cases (show _=[] from h); cases r; exact ⟨_,.nil⟩
  | d::ds,_,us,h,r=>by
    unfold RepL at h
    obtain ⟨x,xs,rfl,h1,h2⟩:=h
    cases r with
    | cons r1 r2 =>
      obtain ⟨as,q1⟩:=Rep.reads I h1 r1
      obtain ⟨bs,q2⟩:=RepL.reads I h2 r2
      exact ⟨_,.cons q1 q2⟩
end
end
section
variable {X:Cx}
theorem call_repr (hg:X.A.guards=some []) (hu:X.A.units+64<cLine):CallR X (.builtin "repr") (fun xs H Q=>∃ x d,xs=[x]∧Rep H d x∧d.showable=true∧d.hasDict=false∧d.depth≤60∧d.shown.length≤sizeLine∧Q (.str d.shown) H):=by
  intro pins s σ H xs us Q I r h
  obtain ⟨x,d,rfl,hr,hs,hnd,hdp,hz,q⟩:=h
  obtain ⟨u,rfl,ru⟩:=vals1 r
  obtain ⟨as,rd⟩:=hr.reads I ru
  cases rd with
  | none=>exact PySem.P.repr_of_none ⟨.str _,H,I.tok _,⟨_,rfl⟩,q⟩
  | bool b=>exact PySem.P.repr_of_bool ⟨.str _,H,I.tok _,⟨_,rfl⟩,q⟩
  | int i t=>exact PySem.P.repr_of_int (by simpa [PyData.showable] using hs) ⟨.str _,H,I.tok _,⟨_,rfl⟩,q⟩
  | str y t=>exact PySem.P.repr_of_str ⟨.str _,H,I.tok _,⟨_,rfl⟩,q⟩ hz
  | list a1 a2 a3 a4=>exact repr_of_reads' (.list a1 a2 a3 a4) hs (PyData.noDict_hsm hnd) hg (by omega) (fun _ _ e=>e) (fun h' u tk hk=>⟨.str _,H,I.kept hk,⟨_,rfl⟩,q⟩) hz
  | tuple a1 a2 a3 a4=>exact repr_of_reads' (.tuple a1 a2 a3 a4) hs (PyData.noDict_hsm hnd) hg (by omega) (fun _ _ e=>e) (fun h' u tk hk=>⟨.str _,H,I.kept hk,⟨_,rfl⟩,q⟩) hz
  | dict a1 a2 a3 a4 a5=>simp [PyData.hasDict] at hnd
end
def tyD:PyData→String
  | .none => "NoneType"
  | .bool _ => "bool"
  | .int _ => "int"
  | .str _ => "str"
  | .list _ => "list"
  | .tuple _ => "tuple"
  | .dict _ => "dict"
theorem Rep.ty {K:PySem.W.Frag} {H:Hp} {d:PyData} {v:V} (h:Rep H d v):TyOf K H v (.type (tyD d)):=by
  cases d with
  | none=>cases (show v=V.non from h); exact .non
  | bool b=>cases (show v=V.bl b from h); exact .bl b
  | int b=>cases (show v=V.int b from h); exact .int b
  | str b=>cases (show v=V.str b from h); exact .str b
  | list ds=>unfold Rep at h; obtain ⟨a,xs,rfl,h1,h2⟩:=h; exact .lst h1
  | tuple ds=>unfold Rep at h; obtain ⟨a,xs,rfl,h1,h2⟩:=h; exact .tup h1
  | dict ds=>unfold Rep at h; obtain ⟨_,a,rfl,h1⟩:=h; exact .dK h1
def isD (T:String) (d:PyData):Bool:=tyD d == T || (T == "int" && tyD d == "bool")
theorem kit_DT : ∀ T ∈ ["int", "bool", "tuple", "str", "list", "dict"], ∀ S ∈ ["NoneType", "bool", "int", "str", "list", "tuple", "dict"],
      PySem.W.kitOne [] (.type S) (.type T)=some (S == T || (T == "int" && S == "bool")):=by decide +kernel
theorem kit_noK (K:PySem.W.Frag) (S T:String):PySem.W.kitOne K (.type S) (.type T)=PySem.W.kitOne [] (.type S) (.type T):=rfl
theorem kit_D (K:PySem.W.Frag) (d:PyData) (T:String) (hT:T = "int" ∨ T = "bool" ∨ T = "tuple" ∨ T = "str" ∨ T = "list" ∨ T = "dict"):PySem.W.kitOne K (.type (tyD d)) (.type T)=some (isD T d):=by
  rw [kit_noK]
  refine kit_DT T ?_ (tyD d) ?_
  · rcases hT with rfl | rfl | rfl | rfl | rfl | rfl <;> decide
  · cases d <;> simp [tyD]
section
variable {X:Cx}
theorem call_isinst:CallR X (.builtin "isinstance") (fun xs H Q=>∃ x d T,xs=[x,.ty T]∧Rep H d x∧(T = "int" ∨ T = "bool" ∨ T = "tuple" ∨ T = "str" ∨ T = "list" ∨ T = "dict")∧Q (.bl (isD T d)) H):=by
  intro pins s σ H xs us Q I r h
  obtain ⟨x,d,T,rfl,hr,hT,q⟩:=h
  obtain ⟨u,w',rfl,r1,r2⟩:=vals2 r
  cases (show w'=Value.type T from r2)
  exact isinst_ok I r1 hr.ty (kit_D _ d T hT) fun tk=>⟨.bl _,H,I.tok _,rfl,q⟩
end
end L2
namespace L2
open PySem PySem.Spec PyProof.Rows
structure FnC (CX:CXT) (P:Program) (w:World) (K:PySem.W.Frag) (mg:Str→Option Value) (base:Heap) (k:Nat) (x:Str) (ps:List Str) (sp:Sp):Prop where
  ex:∃ (f:Addr) (fd:FuncData),FnOk P w K mg base CX k f fd ps sp∧mg x=some (.ref f)∧PySem.W.keepIn K (.ref f)=true∧Binds K fd ps []
section
variable {X:Cx} {k:Nat} {ps:List Str} {sp:Sp} {x:Str} {p pos:Pos} {e:Expr} {es:List Expr} {t:TA}
theorem pe_fn (F:FnC CX0 X.prog X.w X.K X.mg X.base k x ps sp) (hr:Room k X.A) (ha:PA X (e::es) t) (hg:Gl X x:=by rfl)
    (hdb:(x == ("__debug__" : Str))=false:=by decide) (he:starEach (e::es) X.env=(false,eval e X.env)::starEach es X.env:=by rfl) (hpl:(backTo pos (starEach es X.env)).any (·.1)=false:=by rfl) :
    PE X (.Call (.Name x p) (e::es) [] pos) (tCall sp [] E0 t):=by
  obtain ⟨f,fd,h1,h2,h3,h4⟩:=F.ex
  exact pe_call h1 hr hg h2 h3 h4 .nil pass0 ha hdb he hpl
end
section
variable {K:PySem.W.Frag} {H:Hp} {p:Addr} {xs:List V} {i:Int} {v:V} {Q:VK}
theorem ixL (h:H p=some (.lst xs)) (e:atI xs i=some v) (q:Q v H):rIx K (.ref p) (.int i) H Q:=.inl ⟨p,xs,i,v,rfl,rfl,SqL.of h,e,q⟩
theorem ixT (h:H p=some (.tup xs)) (e:atI xs i=some v) (q:Q v H):rIx K (.ref p) (.int i) H Q:=.inr (.inl ⟨p,xs,i,v,rfl,rfl,SqT.of h,e,q⟩)
theorem stL {u:V} {Q:Hp→Prop} {j:Nat} (h:H p=some (.lst xs)) (e:ixN xs.length i=some j) (q:Q (upd H p (.lst (xs.set j u)))):rSetL (.ref p) (.int i) u H Q:=⟨p,xs,i,j,rfl,rfl,h,e,q⟩
end
def Hide (p:Addr) (H:Hp):Hp:=fun b=>if b=p then none else H b
theorem Hide.at {p b:Addr} {H:Hp} (h:b≠p):Hide p H b=H b:=by unfold Hide; rw [if_neg h]
theorem Hide.self {p:Addr} {H:Hp}:Hide p H p=none:=by unfold Hide; rw [if_pos rfl]
theorem Hide.same {p:Addr} {H:Hp}:Same (Hide p H) H:=fun b o h=>by
  unfold Hide at h
  by_cases e:b=p
  · rw [if_pos e] at h; cases h
  · rw [if_neg e] at h; exact h
theorem Hide.ne {p b:Addr} {H:Hp} {o:HO} (h:Hide p H b=some o):b≠p:=fun e=>by
  subst e; rw [Hide.self] at h; cases h
theorem Hide.of {p b:Addr} {H:Hp} {o:HO} (n:b≠p) (h:H b=some o):Hide p H b=some o:=by rw [Hide.at n]; exact h
theorem Hide.upd_self {p:Addr} {H:Hp} {o:HO}:Hide p (upd H p o)=Hide p H:=by
  funext b
  by_cases e:b=p
  · subst e; rw [Hide.self,Hide.self]
  · rw [Hide.at e,Hide.at e,L2.upd_ne e]
abbrev SameBut (p:Addr) (H H':Hp):Prop:=Same (Hide p H) (Hide p H')
theorem Same.but {p:Addr} {H H':Hp} (h:Same H H'):SameBut p H H':=fun b o e=>by
  have n:=Hide.ne e
  exact Hide.of n (h _ _ (Hide.same _ _ e))
theorem Same.upd {H:Hp} {q:Addr} {o:HO} (h:H q=none):Same H (upd H q o):=fun b u e=>by
  rw [L2.upd_ne (ne_of_none e h)]; exact e
theorem SameBut.self {p:Addr} {H:Hp} {o:HO}:SameBut p H (upd H p o):=by unfold SameBut; rw [Hide.upd_self]; exact Same.refl _
theorem SameBut.free {p q:Addr} {H H':Hp} (e:SameBut p H H') (hp:∃ o,H' p=some o) (h:H' q=none):H q=none:=by
  cases k:H q with
  | none=>rfl
  | some o =>
    by_cases n:q=p
    · subst n; obtain ⟨o',h'⟩:=hp; rw [h'] at h; cases h
    · have:=Hide.same _ _ (e q o (Hide.of n k)); rw [this] at h; cases h
end L2
namespace L2
open PySem PySem.Spec PyProof.Rows
section
variable {K:PySem.W.Frag} {H:Hp} {p:Addr} {xs:List V} {i:Int} {v:V} {Q:VK}
theorem stG {u:V} {Q:Hp→Prop} {j:Nat} (h:H p=some (.lst xs)) (e:ixN xs.length i=some j) (k:∀ H',H' p=some (.lst (xs.set j u))→SameBut p H H'→Q H'):rSetL (.ref p) (.int i) u H Q :=
  stL h e (k _ upd_same SameBut.self)
theorem alT {Q:V→Hp→Prop} (hz:xs.length≤sizeLine) (k:∀ q H',H q=none→H' q=some (.tup xs)→Same H H'→Q (.ref q) H'):xs.length≤sizeLine∧∀ p,H p=none→Q (.ref p) (upd H p (.tup xs)) :=
  ⟨hz,fun q hq=>k q _ hq upd_same (Same.upd hq)⟩
theorem alL {Q:V→Hp→Prop} (hz:xs.length≤sizeLine) (k:∀ q H',H q=none→H' q=some (.lst xs)→Same H H'→Q (.ref q) H'):xs.length≤sizeLine∧∀ p,H p=none→Q (.ref p) (upd H p (.lst xs)) :=
  ⟨hz,fun q hq=>k q _ hq upd_same (Same.upd hq)⟩
theorem SameBut.at {p b:Addr} {H H':Hp} {o:HO} (s:SameBut p H H') (n:b≠p) (h:H b=some o):H' b=some o:=Hide.same _ _ (s _ _ (Hide.of n h))
end
theorem small64 {n:Nat} (h:n≤64):n≤sizeLine:=Nat.le_trans h (by decide)
theorem iteD {c A B:Prop} [Decidable c] (h1:c→A) (h2:¬ c→B):if decide c=true then A else B :=
  ite2 (fun h=>h1 (of_decide_eq_true h)) (fun h=>h2 (fun k=>h (decide_eq_true k)))
theorem iteDN {c A B:Prop} [Decidable c] (h1:¬ c→A) (h2:c→B):if (!decide c)=true then A else B :=
  ite2 (fun h=>h1 (fun k=>by rw [decide_eq_true k] at h; exact absurd h (by decide))) (fun h=>h2 (Decidable.of_not_not fun k=>h (by rw [decide_eq_false k]; rfl)))
end L2
namespace L2
open PySem PySem.Spec PyProof.Rows
def tMono (c:TT):TT:=fun σ H Q=>∃ Q':Bool→Hp→Prop,c σ H Q'∧∀ b H1,Q' b H1→Q b H1
theorem PT.mono {X:Cx} {e:Expr} {c:TT} (h:PT X e c):PT X e (tMono c):=fun pins s σ H Q I ⟨Q',h1,h2⟩ =>
  thn (h pins s σ H Q' I h1) fun b s' ⟨H',I',q⟩=>⟨H',I',h2 _ _ q⟩
theorem ps_whileM {X:Cx} {pos:Pos} {c:Expr} {body:List Stmt} {tc:TT} {tb:TS} (hp:PassesOwn (model X.prog X.w) X.A X.env X.xe) (hc:PT X c tc) (hb:PSs X body tb):PS X (.While c body [] pos) (tWhile (tMono tc) tb) :=
  ps_while hp hc.mono hb
end L2
namespace L2
open PySem PySem.Spec PyProof.Rows
@[irreducible] def rLen (K:PySem.W.Frag):List V→Hp→VK→Prop:=fun xs H Q=>∃ x n,xs=[x]∧LenV K x H n∧Q (.int n) H
@[irreducible] def rAbs:List V→Hp→VK→Prop:=fun xs H Q=>∃ i,xs=[.int i]∧Q (.int (i.natAbs:Int)) H
@[irreducible] def rIsi:List V→Hp→VK→Prop:=fun xs H Q=>∃ x d T,xs=[x,.ty T]∧Rep H d x∧(T = "int" ∨ T = "bool" ∨ T = "tuple" ∨ T = "str" ∨ T = "list" ∨ T = "dict")∧Q (.bl (isD T d)) H
@[irreducible] def rRepr:List V→Hp→VK→Prop:=fun xs H Q=>∃ x d,xs=[x]∧Rep H d x∧d.showable=true∧d.hasDict=false∧d.depth≤60∧d.shown.length≤sizeLine∧Q (.str d.shown) H
section
variable {X:Cx} {K:PySem.W.Frag} {H:Hp} {p:Addr} {xs:List V} {Q:VK}
theorem cl_len:CallR X (.builtin "len") (rLen X.K):=by unfold rLen; exact call_len
theorem cl_abs:CallR X (.builtin "abs") rAbs:=by
  unfold rAbs
  exact fun pins s σ H xs us Q I r ⟨i,e,q⟩=>call_abs pins s σ H xs us Q I r ⟨i,e,by
  have:(if i<0 then -i else i)=(i.natAbs:Int):=by split <;> omega
  rw [this]; exact q⟩
theorem cl_isi:CallR X (.builtin "isinstance") rIsi:=by unfold rIsi; exact call_isinst
theorem cl_repr (hg:X.A.guards=some []) (hu:X.A.units+64<cLine):CallR X (.builtin "repr") rRepr:=by unfold rRepr; exact call_repr hg hu
theorem rlL (h:H p=some (.lst xs)) (q:Q (.int xs.length) H):rLen K [V.ref p] H Q:=by unfold rLen; exact ⟨_,_,rfl,.inl ⟨xs,SqL.of h,rfl⟩,q⟩
theorem rlT (h:H p=some (.tup xs)) (q:Q (.int xs.length) H):rLen K [V.ref p] H Q:=by unfold rLen; exact ⟨_,_,rfl,.inr ⟨xs,SqT.of h,rfl⟩,q⟩
theorem raI {i:Int} (q:Q (.int (i.natAbs:Int)) H):rAbs [V.int i] H Q:=by unfold rAbs; exact ⟨i,rfl,q⟩
theorem rrI {x:V} {d:PyData} (r:Rep H d x) (h1:d.showable=true) (h2:d.hasDict=false) (h3:d.depth≤60) (h4:d.shown.length≤sizeLine) (q:Q (.str d.shown) H):rRepr [x] H Q:=by unfold rRepr; exact ⟨x,d,rfl,r,h1,h2,h3,h4,q⟩
theorem riI {x:V} {d:PyData} {T:String} (r:Rep H d x) (q:Q (.bl (isD T d)) H) (hT:(T = "int" ∨ T = "bool" ∨ T = "tuple" ∨ T = "str" ∨ T = "list" ∨ T = "dict"):=by decide):rIsi [x,.ty T] H Q:=by unfold rIsi; exact ⟨x,d,T,rfl,r,hT,q⟩
end
end L2
namespace L2
open PySem PySem.Spec PyProof.Rows
theorem while_r {c:TT} {tb:TS} {D:Ends} {σ:St} {H:Hp} (W:Nat→St→Hp→Prop) (R:St→Hp→Prop) (m:Nat) (h0:W m σ H)
    (hs:∀ m σ H,W m σ H→c σ H fun b H1=>if b=true then tb { D with nx:=fun σ' H'=>∃ m',m' < m∧W m' σ' H',ct:=fun σ' H'=>∃ m',m' < m∧W m' σ' H',bk:=D.nx } σ H1 else R σ H1)
    (hd:∀ σ H,R σ H→D.nx σ H):tWhile (tMono c) tb D σ H :=
  ⟨W,⟨m,h0⟩,fun m σ H hw=>⟨_,hs m σ H hw,fun b H1 q=>by
    by_cases hb:b=true
    · rw [if_pos hb] at q ⊢
      exact ⟨_,fun _ _ h=>h,q⟩
    · rw [if_neg hb] at q ⊢
      exact hd _ _ q⟩⟩
end L2
namespace L2
open PySem PySem.Spec PyProof.Rows
def tCut (t:TS):TS:=fun D σ H=>∃ R:St→Hp→Prop,(∀ σ' H',R σ' H'→D.nx σ' H')∧t { D with nx:=R } σ H
theorem ps_cut {X:Cx} {st:Stmt} {t:TS} (h:PS X st t):PS X st (tCut t):=fun pins s σ H D I ⟨R,hR,q⟩ =>
  thn (h pins s σ H _ I q) fun f s' z=>by
    cases f with
    | next=>obtain ⟨σ',H',I',r⟩:=z; exact ⟨σ',H',I',hR _ _ r⟩
    | brk=>exact z
    | cont=>exact z
    | ret u=>exact z
end L2
namespace L2
open PySem PySem.Spec PyProof.Rows
section
variable {es:List Expr} {env:Env}
theorem se_BinOp {a b c d}:starEach (.BinOp a b c d::es) env=(false,eval (.BinOp a b c d) env)::starEach es env:=by rw [starEach] <;> (intros; contradiction)
theorem se_UnaryOp {a b c}:starEach (.UnaryOp a b c::es) env=(false,eval (.UnaryOp a b c) env)::starEach es env:=by rw [starEach] <;> (intros; contradiction)
theorem se_ListComp {a b c d}:starEach (.ListComp a b c d::es) env=(false,eval (.ListComp a b c d) env)::starEach es env:=by rw [starEach] <;> (intros; contradiction)
theorem se_Compare {a b c d}:starEach (.Compare a b c d::es) env=(false,eval (.Compare a b c d) env)::starEach es env:=by rw [starEach] <;> (intros; contradiction)
theorem se_Call {a b c d}:starEach (.Call a b c d::es) env=(false,eval (.Call a b c d) env)::starEach es env:=by rw [starEach] <;> (intros; contradiction)
theorem se_Constant {a b c}:starEach (.Constant a b c::es) env=(false,eval (.Constant a b c) env)::starEach es env:=by rw [starEach] <;> (intros; contradiction)
theorem se_Subscript {a b c}:starEach (.Subscript a b c::es) env=(false,eval (.Subscript a b c) env)::starEach es env:=by rw [starEach] <;> (intros; contradiction)
theorem se_Name {a b}:starEach (.Name a b::es) env=(false,eval (.Name a b) env)::starEach es env:=by rw [starEach] <;> (intros; contradiction)
theorem se_List {a b}:starEach (.List a b::es) env=(false,eval (.List a b) env)::starEach es env:=by rw [starEach] <;> (intros; contradiction)
theorem se_Tuple {a b c}:starEach (.Tuple a b c::es) env=(false,eval (.Tuple a b c) env)::starEach es env:=by rw [starEach] <;> (intros; contradiction)
end
section
variable {X:Cx} {k:Nat} {ps:List Str} {sp:Sp} {x:Str} {p pos:Pos} {e:Expr} {es:List Expr} {te:TE} {t:TA} {id T:String} {r:List V→Hp→VK→Prop}
theorem ap_nil {env:Env}:(backTo pos (starEach [] env)).any (·.1)=false:=rfl
theorem ap_cons {env:Env} (hs:starEach (e::es) env=(false,eval e env)::starEach es env) (h:(backTo pos (starEach es env)).any (·.1)=false):(backTo pos (starEach (e::es) env)).any (·.1)=false:=by
  rw [hs]
  show (false || (backTo pos (starEach es env)).any (·.1))=false
  rw [h]; rfl
end
end L2
set_option Elab.async false
set_option linter.all false
set_option maxRecDepth 100000
namespace L2
open PySem PySem.Spec PyProof.Rows
structure PEw (X:Cx) (e:Expr) (t:TE):Prop where p:PE X e t
structure PTw (X:Cx) (e:Expr) (t:TT):Prop where p:PT X e t
structure PWw (X:Cx) (e:Expr) (t:TT):Prop where p:PW X e t
structure PAw (X:Cx) (es:List Expr) (t:TA):Prop where p:PA X es t
structure PSw (X:Cx) (st:Stmt) (t:TS):Prop where p:PS X st t
structure PSsw (X:Cx) (st:List Stmt) (t:TS):Prop where p:PSs X st t
structure PGw (X:Cx) (e:Expr) (t:TG):Prop where p:PG X e t
structure PGsw (X:Cx) (es:List Expr) (t:TGs):Prop where p:PGs X es t
structure PIw (X:Cx) (tg iter:Expr) (t:TI):Prop where p:PI X tg iter t
structure POw (X:Cx) (e:Option Expr) (t:TO):Prop where p:PO X e t
@[irreducible] def rNewT (xs:List V) (H:Hp) (Q:VK):Prop:=xs.length≤sizeLine∧∀ p,H p=none→Q (.ref p) (upd H p (.tup xs))
@[irreducible] def rNewL (xs:List V) (H:Hp) (Q:VK):Prop:=xs.length≤sizeLine∧∀ p,H p=none→Q (.ref p) (upd H p (.lst xs))
theorem nwT {xs:List V} {H:Hp} {Q:VK} (hz:xs.length≤64) (k:∀ q H',H q=none→H' q=some (.tup xs)→Same H H'→Q (.ref q) H'):rNewT xs H Q:=by unfold rNewT; exact alT (small64 hz) k
theorem nwL {xs:List V} {H:Hp} {Q:VK} (hz:xs.length≤64) (k:∀ q H',H q=none→H' q=some (.lst xs)→Same H H'→Q (.ref q) H'):rNewL xs H Q:=by unfold rNewL; exact alL (small64 hz) k
def tTu (t:TA):TE:=fun σ H Q=>t σ H fun xs H1=>rNewT xs H1 Q
def tLs (t:TA):TE:=fun σ H Q=>t σ H fun xs H1=>rNewL xs H1 Q
section
variable {X:Cx} {a b c e o tg:Expr} {es rest:List Expr} {ta tb tc te to:TE} {tA tB':TT} {t:TA} {pos p p2:Pos} {st:Stmt} {sts body orelse:List Stmt} {ts us:TS} {x:Str} {r r':R2} {id T:String} {rl:List V→Hp→VK→Prop} {k i j:Nat} {ps:List Str} {sp:Sp} {n:Nat}
theorem we_v (i:Nat) {x:Str} {pos:Pos} (hN:X.N[i]?=some x:=by rfl) (hv:Vis X.env.scope x:=by first | exact Or.inl rfl | exact Or.inr (Or.inl rfl) | exact Or.inr (Or.inr rfl)) (hd:(x == ("__debug__" : Str))=false:=by decide)
    (hcd:(x == ("__classdict__" : Str))=false:=by decide):PEw X (.Name x pos) (tVar i):=⟨pv i hN hv hd hcd⟩
theorem we_int {i j pos}:PEw X (.Constant (.int i) j pos) (tC (.int i)):=⟨pe_int⟩
theorem we_bl {b j pos}:PEw X (.Constant (.bool b) j pos) (tC (.bl b)):=⟨pe_bl⟩
theorem we_non {j pos}:PEw X (.Constant .none j pos) (tC .non):=⟨pe_non⟩
theorem we_str {x j pos}:PEw X (.Constant (.str x) j pos) (tC (.str x)):=⟨pe_str⟩
theorem we_glob {v:V} {u:Value} (hg:Gl X x) (hm:X.mg x=some u) (r:RelV v u) (hd:(x == ("__debug__" : Str))=false:=by decide):PEw X (.Name x pos) (tC v):=⟨pe_glob hg hm r hd⟩
theorem we_bltn {v:V} {u:Value} (hg:Gl X x) (hm:X.mg x=none) (hv:bootBuiltins x=some u) (r:RelV v u) (hn:x ≠ "__name__" := by decide) (hd:(x == ("__debug__" : Str))=false:=by decide):PEw X (.Name x pos) (tC v):=⟨pe_bltn hg hm hv r hn hd⟩
theorem we_op {op:Operator} (ho:OpR X (binaryOp op) r) (ha:PEw X a ta) (hb:PEw X b tb):PEw X (.BinOp a op b pos) (tOp r ta tb):=⟨pe_op ho ha.p hb.p⟩
theorem we_un {op:UnaryOp} {r:V→Hp→VK→Prop} (ho:UnR X (unaryOp op) r) (ha:PEw X a ta):PEw X (.UnaryOp op a pos) (tUn r ta):=⟨pe_un ho ha.p⟩
theorem we_cmp {op:CmpOp} (ho:OpR X (compareOp op) r) (ha:PEw X a ta) (hb:PEw X b tb) (hm:behindInMarks op b=false):PEw X (.Compare a [op] [b] pos) (tOp r ta tb):=⟨pe_cmpR ho ha.p hb.p hm⟩
theorem wt_cmp {op:CmpOp} (ho:OpR X (compareOp op) r) (ha:PEw X a ta) (hb:PEw X b tb) (hm:behindInMarks op b=false):PTw X (.Compare a [op] [b] pos) (tTest (tOp r ta tb)):=⟨pt_cmpR ho ha.p hb.p hm⟩
theorem we_chain {op op':CmpOp} (ho:OpR X (compareOp op) r) (ho':OpR X (compareOp op') r') (ha:PEw X a ta) (hb:PEw X b tb) (hc:PEw X c tc)
    (hm:lastMarks [op,op'] [b,c]=false:=by with_unfolding_all rfl):PEw X (.Compare a [op,op'] [b,c] pos) (tChain r r' ta tb tc):=⟨pe_chain ho ho' ha.p hb.p hc.p hm⟩
theorem wt_val (h:PEw X e te) (he:∀ whole,isTrue e X.env whole=(do let v ← whole; standAt e.pos; holding [v] (truthy v)):=by intro _; rfl):PTw X e (tB te):=⟨pt_val h.p he⟩
theorem ww_and1 (ha:PTw X a tA):PWw X (.BoolOp .And [a] pos) tA:=⟨pw_and1 ha.p⟩
theorem ww_or1 (ha:PTw X a tA):PWw X (.BoolOp .Or [a] pos) tA:=⟨pw_or1 ha.p⟩
theorem ww_and (ha:PTw X a tA) (hb:PWw X (.BoolOp .And (b::rest) pos) tB'):PWw X (.BoolOp .And (a::b::rest) pos) (tAnd tA tB'):=⟨pw_and ha.p hb.p⟩
theorem ww_or (ha:PTw X a tA) (hb:PWw X (.BoolOp .Or (b::rest) pos) tB'):PWw X (.BoolOp .Or (a::b::rest) pos) (tOr tA tB'):=⟨pw_or ha.p hb.p⟩
theorem wt_w (h:PWw X e tA):PTw X e tA:=⟨h.p.pt⟩
theorem wt_not (ha:PTw X a tA):PTw X (.UnaryOp .Not a pos) (tNot tA):=⟨pt_not ha.p⟩
theorem we_one {op} (h:PEw X a ta):PEw X (.BoolOp op [a] pos) ta:=⟨pe_one h.p⟩
theorem we_and (ha:PEw X a ta) (hb:PEw X (.BoolOp .And (b::rest) pos) tb):PEw X (.BoolOp .And (a::b::rest) pos) (tAndV ta tb):=⟨pe_and ha.p hb.p⟩
theorem we_not (ha:PEw X a ta):PEw X (.UnaryOp .Not a pos) (tNotV ta):=⟨pe_not ha.p⟩
theorem we_ifExp (hc:PTw X c tA) (ha:PEw X a ta) (hb:PEw X b tb):PEw X (.IfExp c a b pos) (tIf tA ta tb):=⟨pe_ifExp hc.p ha.p hb.p⟩
theorem wa_nil:PAw X [] tNil:=⟨pa_nil⟩
theorem wa_k (ha:PEw X e te) (hr:PAw X es t) (hs:starEach (e::es) X.env=(false,eval e X.env)::starEach es X.env:=by first | exact se_Name | exact se_Constant | exact se_BoolOp | exact se_BinOp | exact se_UnaryOp | exact se_IfExp | exact se_Dict | exact se_ListComp | exact se_Compare | exact se_Call | exact se_Attribute | exact se_Subscript | exact se_List | exact se_Tuple | exact se_JoinedStr | exact se_GeneratorExp):PAw X (e::es) (tCons te t):=⟨pa_cons ha.p hr.p hs⟩
theorem we_tup {x1} (h:PAw X es t):PEw X (.Tuple es x1 pos) (tTu t):=⟨by unfold tTu rNewT; exact pe_tup h.p⟩
theorem we_lst (h:PAw X es t):PEw X (.List es pos) (tLs t):=⟨by unfold tLs rNewL; exact pe_lst h.p⟩
theorem we_ix (hr:IxR X r) (ha:PEw X a ta) (hb:PEw X b tb) (hs:PlainIx b):PEw X (.Subscript a b pos) (tOp r ta tb):=⟨pe_ix hr ha.p hb.p hs⟩
theorem wo_none:POw X none tNoPart:=⟨po_none⟩
theorem wo_some (h:PEw X e te):POw X (some e) (tPart te):=⟨po_some h.p⟩
theorem we_slice {lo hi:Option Expr} {tl th:TO} {r:V→Option Int→Option Int→Hp→VK→Prop} (hr:SlR X r) (he:PEw X e te) (hl:POw X lo tl) (hu:POw X hi th):PEw X (.Subscript e (.Slice lo hi none p2) pos) (tSl r te tl th):=⟨pe_slice hr he.p hl.p hu.p⟩
theorem we_fn (F:FnC CX0 X.prog X.w X.K X.mg X.base k x ps sp) (hr:Room k X.A) (ha:PAw X (e::es) t) (hg:Gl X x:=by rfl)
    (hdb:(x == ("__debug__" : Str))=false:=by decide) (he:starEach (e::es) X.env=(false,eval e X.env)::starEach es X.env:=by first | exact se_Name | exact se_Constant | exact se_BoolOp | exact se_BinOp | exact se_UnaryOp | exact se_IfExp | exact se_Dict | exact se_ListComp | exact se_Compare | exact se_Call | exact se_Attribute | exact se_Subscript | exact se_List | exact se_Tuple | exact se_JoinedStr | exact se_GeneratorExp)
    (hpl:(backTo pos (starEach es X.env)).any (·.1)=false:=by repeat (first | exact ap_nil | refine ap_cons (by first | exact se_Name | exact se_Constant | exact se_BoolOp | exact se_BinOp | exact se_UnaryOp | exact se_IfExp | exact se_Dict | exact se_ListComp | exact se_Compare | exact se_Call | exact se_Attribute | exact se_Subscript | exact se_List | exact se_Tuple | exact se_JoinedStr | exact se_GeneratorExp) ?_)) :
    PEw X (.Call (.Name x p) (e::es) [] pos) (tCall sp [] E0 t):=⟨pe_fn F hr ha.p hg hdb he hpl⟩
theorem we_cB (hc:CallR X (.builtin id) rl) (hg:Gl X x) (hm:X.mg x=none) (hv:bootBuiltins x=some (.builtin id)) (ha:PAw X (e::es) t) (hn:x ≠ "__name__" := by decide) (hdb:(x == ("__debug__" : Str))=false:=by decide)
    (he:starEach (e::es) X.env=(false,eval e X.env)::starEach es X.env:=by first | exact se_Name | exact se_Constant | exact se_BoolOp | exact se_BinOp | exact se_UnaryOp | exact se_IfExp | exact se_Dict | exact se_ListComp | exact se_Compare | exact se_Call | exact se_Attribute | exact se_Subscript | exact se_List | exact se_Tuple | exact se_JoinedStr | exact se_GeneratorExp) (hpl:(backTo pos (starEach es X.env)).any (·.1)=false:=by repeat (first | exact ap_nil | refine ap_cons (by first | exact se_Name | exact se_Constant | exact se_BoolOp | exact se_BinOp | exact se_UnaryOp | exact se_IfExp | exact se_Dict | exact se_ListComp | exact se_Compare | exact se_Call | exact se_Attribute | exact se_Subscript | exact se_List | exact se_Tuple | exact se_JoinedStr | exact se_GeneratorExp) ?_)):PEw X (.Call (.Name x p) (e::es) [] pos) (tCB rl t) :=
  ⟨pe_callB hc hg hm hv ha.p hn hdb he hpl⟩
theorem we_cT (hc:CallR X (.type T) rl) (hg:Gl X x) (hm:X.mg x=none) (hv:bootBuiltins x=some (.type T)) (ha:PAw X (e::es) t) (hn:x ≠ "__name__" := by decide) (hdb:(x == ("__debug__" : Str))=false:=by decide)
    (he:starEach (e::es) X.env=(false,eval e X.env)::starEach es X.env:=by first | exact se_Name | exact se_Constant | exact se_BoolOp | exact se_BinOp | exact se_UnaryOp | exact se_IfExp | exact se_Dict | exact se_ListComp | exact se_Compare | exact se_Call | exact se_Attribute | exact se_Subscript | exact se_List | exact se_Tuple | exact se_JoinedStr | exact se_GeneratorExp) (hpl:(backTo pos (starEach es X.env)).any (·.1)=false:=by repeat (first | exact ap_nil | refine ap_cons (by first | exact se_Name | exact se_Constant | exact se_BoolOp | exact se_BinOp | exact se_UnaryOp | exact se_IfExp | exact se_Dict | exact se_ListComp | exact se_Compare | exact se_Call | exact se_Attribute | exact se_Subscript | exact se_List | exact se_Tuple | exact se_JoinedStr | exact se_GeneratorExp) ?_)):PEw X (.Call (.Name x p) (e::es) [] pos) (tCB rl t) :=
  ⟨pe_callTy hc hg hm hv ha.p hn hdb he hpl⟩
theorem we_bm {name:Str} {apos cpos:Pos} {r:V→List V→Hp→VK→Prop} (pa:PlainAttrs T) (slot:Slot T name id) (hty:typeOf (.builtin id)=pure (.type "method_descriptor")) (hm:MtR X id r) (ho:PEw X o to) (ha:PAw X (e::es) t)
    (hbase:attributeBase o name X.env (eval o X.env)=eval o X.env:=by rfl)
    (hfew:((backTo cpos (starEach (e::es) X.env)).all (fun x=>!x.1)&&(backToKw cpos (keywordEach [] X.env)).all (fun x=>x.1.isSome)
      && decide ((e::es).length+([]:List Keyword).length+(if ([]:List Keyword).isEmpty then 0 else 1)<30))=true:=by rfl)
    (hline:(apos.endLine == cpos.line)=true:=by rfl) (hs:starEach (e::es) X.env=(false,eval e X.env)::starEach es X.env:=by first | exact se_Name | exact se_Constant | exact se_BoolOp | exact se_BinOp | exact se_UnaryOp | exact se_IfExp | exact se_Dict | exact se_ListComp | exact se_Compare | exact se_Call | exact se_Attribute | exact se_Subscript | exact se_List | exact se_Tuple | exact se_JoinedStr | exact se_GeneratorExp) (hplain:(backTo cpos (starEach es X.env)).any (·.1)=false:=by repeat (first | exact ap_nil | refine ap_cons (by first | exact se_Name | exact se_Constant | exact se_BoolOp | exact se_BinOp | exact se_UnaryOp | exact se_IfExp | exact se_Dict | exact se_ListComp | exact se_Compare | exact se_Call | exact se_Attribute | exact se_Subscript | exact se_List | exact se_Tuple | exact se_JoinedStr | exact se_GeneratorExp) ?_)) :
    PEw X (.Call (.Attribute o name apos) (e::es) [] cpos) (tBM X.K T r to t):=⟨pe_bm pa slot hty hm ho.p ha.p hbase hfew hline hs hplain⟩
theorem we_bm0 {name:Str} {apos cpos:Pos} {r:V→List V→Hp→VK→Prop} (pa:PlainAttrs T) (slot:Slot T name id) (hty:typeOf (.builtin id)=pure (.type "method_descriptor")) (hm:MtR X id r) (ho:PEw X o to)
    (hbase:attributeBase o name X.env (eval o X.env)=eval o X.env:=by rfl) (hline:(apos.endLine == cpos.line)=true:=by rfl):PEw X (.Call (.Attribute o name apos) [] [] cpos) (tBM0 X.K T r to):=⟨pe_bm0 pa slot hty hm ho.p hbase hline⟩
theorem wss_nil:PSsw X [] tNext:=⟨pss_nil⟩
theorem wss_cons (h1:PSw X st ts) (h2:PSsw X sts us):PSsw X (st::sts) (tSeq ts us):=⟨pss_cons h1.p h2.p⟩
theorem wss_one (h1:PSw X st ts):PSsw X [st] ts:=⟨pss_one h1.p⟩
theorem ws_expr (he:PEw X e te) (hs:swapsWith e none pos.line X.env=pure false:=by rfl):PSw X (.Expr e pos) (tDrop te):=⟨ps_expr he.p hs⟩
theorem ws_ret (he:PEw X e te):PSw X (.Return (some e) pos) (tRet te):=⟨ps_ret he.p⟩
theorem ws_if {c:Expr} {a b:List Stmt} (hc:PTw X c tA) (ha:PSsw X a ts) (hb:PSsw X b us):PSw X (.If c a b pos) (tIfS tA ts us):=⟨ps_if hc.p ha.p hb.p⟩
theorem ws_cut (h:PSw X st ts):PSw X st (tCut ts):=⟨ps_cut h.p⟩
theorem wg_name {i:Nat} {x:Str} (hN:X.N.Nodup) (hi:X.N[i]?=some x) (hx:Loc X.env.scope x) (hf:X.fn x=true∨X.env.scope.names.lookup x=some .local:=by first | exact .inl rfl | exact .inr rfl | assumption):PGw X (.Name x pos) (gName i):=⟨pg_name hN hi hx hf⟩
theorem wgs_nil:PGsw X [] gNil:=⟨pgs_nil⟩
theorem wgs_cons {t:TG} {u:TGs} (h1:PGw X e t) (h2:PGsw X es u)
    (hs:(assignEach (e::es) X.env).map (·.2)=assign e X.env::(assignEach es X.env).map (·.2):=by rfl):PGsw X (e::es) (gCons t u):=⟨pgs_cons h1.p h2.p hs⟩
theorem wg_tup {k:Nat} {t:TGs} {n:Nat} (hc:X.calm=true) (h:PGsw X es t)
    (hn:(assignEach es X.env).length=n:=by rfl) (hst:(assignEach es X.env).findIdx? (·.1)=none:=by rfl):PGw X (.Tuple es k pos) (gTup X.K n t):=⟨pg_tup hc h.p hn hst⟩
theorem wg_sub {i:Expr} {ti:TE} {t:TSet} (ho:PEw X o to) (hi:PEw X i ti) (hs:PSet X t)
    (ha:∀ v,assign (.Subscript o i pos) X.env v=(do
      let ov ← holding [v] (eval o X.env)
      let iv ← holding [v,ov] (eval i X.env)
      standAt pos
      holding [v,ov,iv] (setItem ov iv v)
      release [v,ov,iv] []):=by intro _; rfl):PGw X (.Subscript o i pos) (gSub to ti t):=⟨pg_sub ho.p hi.p hs ha⟩
theorem ws_asg {g:TG} (he:PEw X e te) (hg:PGw X tg g) (hs:swapsWithSole [tg] e pos.line X.env=pure false:=by rfl) (hw:swappedStores [tg] e X.env=pure none:=by rfl) (h1:(assignEach [tg] X.env).map (·.2)=[assign tg X.env]:=by rfl):PSw X (.Assign [tg] e pos) (tAsg te g):=⟨ps_asg he.p hg.p hs hw h1⟩
theorem ws_set {i:Nat} {pos':Pos} (hN:X.N.Nodup) (hi:X.N[i]?=some x) (hx:Loc X.env.scope x) (he:PEw X e te) (hs:swapsWith e (some (.Name x pos')) pos.line X.env=pure false:=by rfl) (hf:X.fn x=true∨X.env.scope.names.lookup x=some .local:=by first | exact .inl rfl | exact .inr rfl | assumption) :
    PSw X (.Assign [.Name x pos'] e pos) (tAsg te (gName i)):=⟨ps_set hN hi hx he.p hs hf⟩
theorem ws_par {i j:Nat} {x y:Str} {ta:TA} {px py pt:Pos} {kt k2 pt2} (hc:X.calm=true) (hN:X.N.Nodup) (hi:X.N[i]?=some x) (hj:X.N[j]?=some y) (hij:i≠j)
    (hx:X.env.scope.names.lookup x=some .local) (hy:X.env.scope.names.lookup y=some .local) (ha:PAw X [a,b] ta)
    (hw:swappedStores [.Tuple [.Name x px,.Name y py] kt pt] (.Tuple [a,b] k2 pt2) X.env=pure (some [x,y]))
    (hs:swapsWithSole [.Tuple [.Name x px,.Name y py] kt pt] (.Tuple [a,b] k2 pt2) pos.line X.env=pure false:=by rfl) :
    PSw X (.Assign [.Tuple [.Name x px,.Name y py] kt pt] (.Tuple [a,b] k2 pt2) pos) (tPar i j ta):=⟨ps_par hc hN hi hj hij hx hy ha.p hw hs⟩
theorem ws_while {c:Expr} {tc:TT} {tb:TS} (hp:PassesOwn (model X.prog X.w) X.A X.env X.xe) (hc:PTw X c tc) (hb:PSsw X body tb):PSw X (.While c body [] pos) (tWhile (tMono tc) tb):=⟨ps_whileM hp hc.p hb.p⟩
theorem wi_list {l:Expr} {tl:TE} (hl:PEw X l tl):PIw X tg l (iList X.K tl):=⟨pi_list hl.p⟩
theorem wi_tup {l:Expr} {tl:TE} (hl:PEw X l tl):PIw X tg l (iTup X.K tl):=⟨pi_tup hl.p⟩
theorem wi_range1 {a:Expr} {ta:TA} {p pos:Pos} (hg:Gl X "range") (hm:X.mg "range" = none) (ha:PAw X [a] ta) (hs:starEach [a] X.env=[(false,eval a X.env)]:=by first | exact se_Name | exact se_Constant | exact se_BoolOp | exact se_BinOp | exact se_UnaryOp | exact se_IfExp | exact se_Dict | exact se_ListComp | exact se_Compare | exact se_Call | exact se_Attribute | exact se_Subscript | exact se_List | exact se_Tuple | exact se_JoinedStr | exact se_GeneratorExp):PIw X tg (.Call (.Name "range" p) [a] [] pos) (iRng1 ta):=⟨pi_range1 hg hm ha.p hs⟩
theorem ws_for {iter:Expr} {wi:TI} {g:TG} {tb:TS} {pos:Pos} (hp:PassesOwn (model X.prog X.w) X.A X.env X.xe) (hc:X.calm=true) (hi:PIw X tg iter wi) (hg:PGw X tg g) (hb:PSsw X body tb)
    (hs:∀ x,foldedSetIterable iter X.env x=pure x:=by intro _; rfl):PSw X (.For tg iter body [] pos) (tFor wi g tb):=⟨ps_for hp hc hi.p hg.p hb.p hs⟩
end
theorem Fun.okw {P:Program} {w:World} {K:PySem.W.Frag} {mg:Str→Option Value} {base:Heap} {x qual:Str} {st:Stmt} {f:Addr} {fd:FuncData} {N ps:List Str} {k:Nat} {sp:Sp} (F:Fun K x qual st f fd) (S:FnScope N ps (defScope st)) (len:∀ vs H Q E,sp vs H Q E→vs.length=ps.length)
    (hbody:∀ (cdv:Value) (A:Around) (outer:List Env) (s:Shared) (H:Hp) (vs:List V) (Q:VK) (E:XK),Room k (A.deeper (envOfC qual (defScope st) s.heap.objs.size f cdv))→sp vs H Q E →
      ∃ t,PSsw (cxOf CX0 P w K mg base N qual (defScope st) f cdv A outer s H E).nox (defBody st) t∧t { nx:=fun _ H'=>Q .non H',rt:=Q } (start N vs) H):FnOk P w K mg base CX0 (k+1) f fd ps sp :=
  F.ok S len fun cdv A outer s H vs Q E hr h=>by
    obtain ⟨t,h1,h2⟩:=hbody cdv A outer s H vs Q E hr h
    exact ⟨t,h1.p,h2⟩
end L2
set_option Elab.async false
set_option linter.all false
set_option maxRecDepth 100000
namespace L2
open PySem PySem.Spec PyProof.Rows
theorem gcd_step (a b:Int):Int.gcd b (a % b)=Int.gcd a b:=by
  have h:=Int.gcd_add_mul_right_right b (a % b) (a / b)
  rw [show a % b+a / b*b=a from by have:=Int.emod_add_mul_ediv a b; rw [Int.mul_comm]; exact this] at h
  rw [← h,Int.gcd_comm]
theorem gcd_end {a:Int} (h:0<a):(Int.gcd a 0:Int)=a:=by rw [Int.gcd_zero_right]; omega
section
variable {H:Hp} {x:V} {d:PyData} {Q:VK}
end
theorem RepL.len {H:Hp}:∀ {ds:List PyData} {vs:List V},RepL H ds vs→vs.length=ds.length
  | [],_,h=>by cases (show _=[] from h); rfl
  | d::ds,_,h=>by
    unfold RepL at h
    obtain ⟨x,xs,rfl,_,h2⟩:=h
    simp [RepL.len h2]
section
variable {p:Addr} {σ:St} {t:TE} {ta:TA} {d:PyData} {ds:List PyData}
end
theorem atI_mem {α:Type} {xs:List α} {x:Int} (h0:0≤x) (h1:x<xs.length):∃ v,atI xs x=some v∧v∈xs∧xs[x.toNat]?=some v:=by
  have h:x.toNat<xs.length:=by omega
  have e:=List.getElem?_eq_getElem h
  have:=atI_nat e
  rw [Int.toNat_of_nonneg h0] at this
  exact ⟨_,this,List.getElem_mem h,e⟩
theorem RepL.append {H:Hp} {es:List PyData} {ws:List V} (h':RepL H es ws):∀ {ds:List PyData} {vs:List V},RepL H ds vs→RepL H (ds++es) (vs++ws)
  | [],_,h=>by cases (show _=[] from h); exact h'
  | d::ds,_,h=>by
    unfold RepL at h
    obtain ⟨x,xs,rfl,h1,h2⟩:=h
    exact RepL.cons h1 (RepL.append h' h2)
end L2
namespace L2
end L2
namespace L2
open PySem PySem.Spec PyProof.Rows
theorem Same.thru {l:Addr} {H0 H1 H2:Hp} (hl:H0 l=none) (s:Same H0 H1) (b:SameBut l H1 H2):Same H0 H2:=fun c o e=>by
  have n:c≠l:=ne_of_none e hl
  exact b.at n (s _ _ e)
theorem catL {H:Hp} {l b:Addr} {xs zs:List V} {Q:VK} (h1:H l=some (.lst xs)) (h2:H b=some (.lst zs)) (hz:xs.length+zs.length≤1000) (k:∀ q H',H q=none→H' q=some (.lst (xs++zs))→Same H H'→Q (.ref q) H'):rCat (.ref l) (.ref b) H Q :=
  ⟨l,b,xs,zs,rfl,rfl,h1,h2,Nat.le_of_lt (small1000 hz),fun q hq=>k q _ hq upd_same (Same.upd hq)⟩
@[irreducible] def rApp:V→List V→Hp→VK→Prop:=rAppend
theorem mt_app {X:Cx}:MtR X "list.append" rApp:=by unfold rApp; exact mt_append
theorem appL {H:Hp} {l:Addr} {xs:List V} {y:V} {Q:VK} (h:H l=some (.lst xs)) (hz:xs.length≤1000) (k:∀ H',H' l=some (.lst (xs++[y]))→SameBut l H H'→Q .non H'):rApp (.ref l) [y] H Q:=by
  unfold rApp; exact ⟨l,xs,y,rfl,rfl,h,small1000 hz,k _ upd_same SameBut.self⟩
theorem tyL {K:PySem.W.Frag} {H:Hp} {l:Addr} {xs:List V} (h:H l=some (.lst xs)):tyV K "list" (.ref l) H:=.inl ⟨rfl,xs,SqL.of h⟩
end L2
set_option Elab.async false
set_option linter.all false
set_option maxRecDepth 100000
namespace L2
open PySem PySem.Spec PyProof.Rows
def closL (env:Env):List (Str × NameKind)→List (Str × Addr)→List (Str × Addr)
  | [],cs=>cs
  | (n,k)::r,cs=>if k == .free then closL env r ((n,(env.cells.lookup n).getD 0)::cs) else closL env r cs
theorem clos_eq (env:Env):∀ (l:List (Str × NameKind)) (cs:List (Str × Addr)),(∀ y∈l,y.2=.free→∃ c,env.cells.lookup y.1=some c) →
    (forIn l cs fun (x:Str × NameKind) r=>if x.2 == .free then (do let c ← cellOf env x.1; pure (ForInStep.yield ((x.1,c)::r)):Sem _) else pure (ForInStep.yield r))=pure (closL env l cs)
  | [],cs,_=>rfl
  | (n,k)::r,cs,h=>by
    rw [List.forIn_cons]
    have ih:=fun cs=>clos_eq env r cs fun y hy=>h y (List.mem_cons_of_mem _ hy)
    by_cases hk:(k == NameKind.free)=true
    · obtain ⟨c,hc⟩:=h (n,k) List.mem_cons_self (by simpa using hk)
      dsimp only at hc
      simp only [hk,if_true,closL,hc,Option.getD_some,cellOf,pure_bind]
      exact ih _
    · simp only [hk,closL,pure_bind]
      exact ih _
theorem closureFor_eq {env:Env} {scope:Scope} (h:∀ y∈scope.names,y.2=.free→∃ c,env.cells.lookup y.1=some c):closureFor scope env=pure (closL env scope.names []):=by
  have e:=clos_eq env scope.names [] h
  unfold closureFor
  simp only [bind_pure]
  exact e
theorem closL_mem {env:Env}:∀ (l:List (Str × NameKind)) (cs:List (Str × Addr)),(∀ y∈l,y.2=.free→∃ c,env.cells.lookup y.1=some c)→∀ p∈closL env l cs,p∈cs∨env.cells.lookup p.1=some p.2
  | [],cs,_,p,hp=>.inl hp
  | (n,k)::r,cs,h,p,hp=>by
    have h':∀ y∈r,y.2=.free→∃ c,env.cells.lookup y.1=some c:=fun y hy=>h y (List.mem_cons_of_mem _ hy)
    unfold closL at hp
    by_cases hk:(k == NameKind.free)=true
    · rw [if_pos hk] at hp
      obtain ⟨c,hc⟩:=h (n,k) List.mem_cons_self (by simpa using hk)
      rcases closL_mem r _ h' p hp with hm | hm
      · rcases List.mem_cons.mp hm with rfl | hm
        · exact .inr (by dsimp only at hc ⊢; rw [hc]; rfl)
        · exact .inl hm
      · exact .inr hm
    · rw [if_neg hk] at hp
      exact closL_mem r cs h' p hp
theorem closL_acc {env:Env}:∀ (l:List (Str × NameKind)) (cs:List (Str × Addr)),∀ p∈cs,p∈closL env l cs
  | [],_,_,hp=>hp
  | (n,k)::r,cs,p,hp=>by
    unfold closL
    by_cases hk:(k == NameKind.free)=true
    · rw [if_pos hk]; exact closL_acc r _ p (List.mem_cons_of_mem _ hp)
    · rw [if_neg hk]; exact closL_acc r _ p hp
theorem closL_has {env:Env}:∀ (l:List (Str × NameKind)) (cs:List (Str × Addr)) (y:Str),(y,NameKind.free)∈l→∃ a,(y,a)∈closL env l cs
  | (n,k)::r,cs,y,hy=>by
    unfold closL
    rcases List.mem_cons.mp hy with e | hm
    · cases e
      rw [if_pos (by rfl)]
      exact ⟨_,closL_acc r _ _ List.mem_cons_self⟩
    · by_cases hk:(k == NameKind.free)=true
      · rw [if_pos hk]; exact closL_has r _ y hm
      · rw [if_neg hk]; exact closL_has r _ y hm
theorem lookup_mem {α β:Type} [BEq α] [LawfulBEq α] {x:α} {c:β}:∀ {l:List (α × β)},l.lookup x=some c→(x,c)∈l
  | [],h=>by cases h
  | (a,b)::r,h=>by
    rw [List.lookup_cons] at h
    by_cases e:(x == a)=true
    · rw [e] at h
      have:x=a:=by simpa using e
      subst this
      cases h
      exact List.mem_cons_self
    · have e':(x == a)=false:=by simpa using e
      rw [e'] at h
      exact List.mem_cons_of_mem _ (lookup_mem h)
theorem mem_lookup {α β:Type} [BEq α] [LawfulBEq α] {x:α} {c:β}:∀ {l:List (α × β)},(x,c)∈l→∃ c',l.lookup x=some c'
  | (a,b)::r,h=>by
    rw [List.lookup_cons]
    by_cases e:(x == a)=true
    · rw [e]; exact ⟨_,rfl⟩
    · have e':(x == a)=false:=by simpa using e
      rw [e']
      rcases List.mem_cons.mp h with q | q
      · cases q; simp at e
      · exact mem_lookup q
def clOf (X:Cx) (scope:Scope):List (Str × Addr):=closL X.env scope.names []
theorem clOf_env {X:Cx} {scope:Scope} (h:∀ y∈scope.names,y.2=.free→∃ c,X.env.cells.lookup y.1=some c) {x:Str} {c:Addr} (e:(clOf X scope).lookup x=some c):X.env.cells.lookup x=some c:=by
  rcases closL_mem scope.names [] h _ (lookup_mem e) with hm | hm
  · cases hm
  · exact hm
theorem clOf_has {X:Cx} {scope:Scope} (h:∀ y∈scope.names,y.2=.free→∃ c,X.env.cells.lookup y.1=some c) {x:Str} (hx:(x,NameKind.free)∈scope.names) {c:Addr} (e:X.env.cells.lookup x=some c):(clOf X scope).lookup x=some c:=by
  obtain ⟨a,ha⟩:=closL_has (env:=X.env) scope.names [] x hx
  obtain ⟨c',hc'⟩:=mem_lookup ha
  have:=clOf_env h hc'
  rw [e] at this
  cases this
  exact hc'
def cxC (X:Cx) (scope:Scope) (C:Addr) (fp:List Addr) (s₀:Shared) (H₀:Hp) (N':List Str):Cx where
  prog:=X.prog
  w:=X.w
  K:=X.K
  mg:=X.mg
  base:=X.base
  A:=X.A
  N:=N'
  s₀:=s₀
  H₀:=H₀
  env:=compEnvC scope (clOf X scope) C X.env
  outer:=X.stack
  stack:=X.stack
  ex:=fp
  fn:=fun _=>false
  calm:=true
  pn:=[]
  xe:=fun _ _=>False
def slots (σ:St) (js:List Nat):St:=js.map fun j=>(σ[j]?).getD none
def PTs (X:Cx) (ifs:List Expr) (t:TT):Prop :=
  ∀ (pins:List (Addr × Obj)) (s:Shared) (σ:St) (H:Hp) (Q:Bool→Hp→Prop),Inv X pins σ H s→t σ H Q →
    wpAny (model X.prog X.w) X.A (forIn ifs true fun c r=>if r=true then do let ok ← isTrue c X.env (eval c X.env); pure (ForInStep.yield ok) else pure (ForInStep.yield r)) (TP X pins σ Q) X.xe s
def tYes:TT:=fun _ H Q=>Q true H
theorem pts_nil {X:Cx}:PTs X [] tYes:=fun pins s σ H Q I h=>wpAny_tests_nil ⟨H,I,h⟩
theorem pts_one {X:Cx} {c:Expr} {t:TT} (h:PT X c t):PTs X [c] t:=fun pins s σ H Q I q=>wpAny_tests_one (h pins s σ H Q I q)
def tComp (wi:TI) (js:List Nat) (tc:TT) (te:TE):TE:=fun σ H Q=>wi σ H fun J H1=>∀ D,H1 D=none→∃ W:Nat→Nat→List V→Hp→Prop,(∃ m,W 0 m [] (upd H1 D (.lst []))) ∧
  ∀ i m ys H2,W i m ys H2→H2 D=some (.lst ys)∧((J.stop i H2∧Q (.ref D) H2)∨(J.go i H2∧ys.length<sizeLine∧∀ x H3,J.yld i H2 x H3 →
    tc (some x::slots σ js) H3 fun b H4=>if b=true then te (some x::slots σ js) H4 fun y H5=>H5 D=some (.lst ys)∧∃ m',m' < m∧W (i+1) m' (ys++[y]) (upd H5 D (.lst (ys++[y])))
      else H4 D=some (.lst ys)∧∃ m',m' < m∧W (i+1) m' ys H4))
structure CScope (X:Cx) (scope:Scope) (x:Str) (N':List Str) (js:List Nat):Prop where
  calm:X.calm=true
  free:∀ y∈scope.names,y.2=.free→X.env.kindOf y.1=some .cell
  cell:∀ y∈scope.names,y.2 ≠ .cell
  kind:scope.kind=.function
  names:∀ y∈scope.names,y.2=.local→scope.names.lookup y.1=some .local
  own:scope.names.lookup x=some .local
  nofl:∀ y,(y,NameKind.free)∈scope.names→scope.names.lookup y=some .local→False
  len:N'.length=js.length+1
  zero:N'[0]?=some x
  nd:N'.Nodup
  slot:∀ (i:Nat) (j:Nat),js[i]?=some j→∃ y,N'[i+1]?=some y∧X.N[j]?=some y∧(y,NameKind.free)∈scope.names
end L2
set_option Elab.async false
set_option linter.all false
set_option maxRecDepth 100000
namespace L2
open PySem PySem.Spec PyProof.Rows
section
variable {X:Cx} {pins:List (Addr × Obj)} {σ:St} {H:Hp} {s:Shared} {scope:Scope} {x:Str} {N':List Str} {js:List Nat} {fp:List Addr}
theorem CScope.cells (S:CScope X scope x N' js) (ok:X.Ok):∀ y∈scope.names,y.2=.free→∃ c,X.env.cells.lookup y.1=some c:=fun y hy hf=>ok.has _ (.inl (S.free y hy hf))
theorem relabel_cases {env:Env}:∀ {names:List (Str × NameKind)} {y:Str} {k:NameKind},(names.map fun (n,k)=>if (k == NameKind.free&&env.scope.kind == .function&&env.kindOf n == some .cell) then (n,NameKind.cell) else (n,k)).lookup y=some k →
    (k=.cell∨k=.free)→(∀ z∈names,z.2 ≠ .cell)→(y,NameKind.free)∈names
  | [],_,_,h,_,_=>by cases h
  | (n,q)::r,y,k,h,hk,hc=>by
    rw [List.map_cons,List.lookup_cons] at h
    have ih:=fun h=>@relabel_cases env r y k h hk fun z hz=>hc z (List.mem_cons_of_mem _ hz)
    by_cases hq:(q == NameKind.free&&env.scope.kind == .function&&env.kindOf n == some .cell)=true
    · dsimp only at h
      rw [if_pos hq] at h
      have qf:q=.free:=by
        rw [Bool.and_eq_true,Bool.and_eq_true] at hq
        simpa using hq.1.1
      subst qf
      by_cases e:(y == n)=true
      · have:y=n:=by simpa using e
        subst this
        exact List.mem_cons_self
      · have e':(y == n)=false:=by simpa using e
        dsimp only at h
        rw [e'] at h
        exact List.mem_cons_of_mem _ (ih h)
    · dsimp only at h
      rw [if_neg hq] at h
      by_cases e:(y == n)=true
      · have:y=n:=by simpa using e
        subst this
        dsimp only at h
        rw [e] at h
        have hkq:k=q:=by injection h with h; exact h.symm
        subst hkq
        rcases hk with rfl | rfl
        · exact absurd rfl (hc _ List.mem_cons_self)
        · exact List.mem_cons_self
      · have e':(y == n)=false:=by simpa using e
        dsimp only at h
        rw [e'] at h
        exact List.mem_cons_of_mem _ (ih h)
theorem cxC_ok (S:CScope X scope x N' js) (I:Inv X pins σ H s) (hf:∀ b∈fp,FpOk X pins H b) (hb:∀ b∈fp,b<s.heap.objs.size):(cxC X scope s.heap.objs.size fp s H N').Ok where
  mod:=I.ok.mod
  kind:=S.kind
  glob:=I.ok.glob
  blt:=I.ok.blt
  above:=Nat.le_refl _
  inj:=fun y z c h1 h2=>I.ok.inj y z c (clOf_env (S.cells I.ok) h1) (clOf_env (S.cells I.ok) h2)
  has:=fun y hy=>by
    have hm:(y,NameKind.free)∈scope.names:=by
      rcases hy with hy | hy
      · exact relabel_cases (env:=X.env) hy (.inl rfl) S.cell
      · exact relabel_cases (env:=X.env) hy (.inr rfl) S.cell
    obtain ⟨c,hc⟩:=S.cells I.ok _ hm rfl
    exact ⟨c,clOf_has (S.cells I.ok) hm hc⟩
  cab:=fun _ _ h=>by cases h
  hd:=fun _=>I.ok.hd S.calm
  frames:=I.ok.frames
  stk:=.inl rfl
  exf:=fun b hb'=>⟨fun e=>by have:=hb b hb'; rw [e] at this; exact Nat.lt_irrefl _ this,fun y c h=>(hf b hb').2.2.2.2.1 y c (clOf_env (S.cells I.ok) h)⟩
  bs:=I.bs
  bsz:=Nat.le_trans I.ok.bsz I.sz
  noex:=fun b o e hb'=>by
    rcases (hf b hb').2.2.2.1 with h | h
    · exact I.ok.noex b o e h
    · exact absurd (Nat.lt_of_lt_of_le (Heap.lt_size e) (Nat.le_trans I.ok.bsz h)) (Nat.lt_irrefl _)
  exfs:=fun b hb' hs=>by
    have h2:=I.stkSub b hs
    rcases List.mem_cons.mp h2 with h2 | h2
    · exact (hf b hb').2.1 h2
    · exact (hf b hb').2.2.1 h2
  funs:=I.stack
  frf:=I.stkFree
theorem slots_get {i j:Nat} (h:js[i]?=some j):(slots σ js)[i]?=some ((σ[j]?).getD none):=by
  unfold slots; rw [List.getElem?_map,h]; rfl
theorem cxC_inv {h':Heap} {tk:Nat} (S:CScope X scope x N' js) (I:Inv X pins σ H s) (hf:∀ b∈fp,FpOk X pins H b) (hb:∀ b∈fp,b<s.heap.objs.size)
    (hn:h'.Ns s.heap.objs.size (fun _=>none)) (hk:∀ b o,s.heap.get? b=some o→h'.get? b=some o):Inv (cxC X scope s.heap.objs.size fp s H N') [] (none::slots σ js) H { s with heap:=h',toks:=tk } where
  ok:=cxC_ok S I hf hb
  os:=rfl
  bare:=I.bare
  base:=Un.kept hk
  loc:=by
    refine ⟨_,hn,fun i y v hi hv hvis=>?_⟩
    cases i with
    | zero=>cases hv
    | succ i =>
      have hv':(slots σ js)[i]?=some (some v):=hv
      have hlt:i<js.length:=by
        have:=(List.getElem?_eq_some_iff.mp hv').1
        unfold slots at this
        rwa [List.length_map] at this
      have hj:js[i]?=some js[i]:=List.getElem?_eq_getElem hlt
      obtain ⟨z,h1,h2,h3⟩:=S.slot i _ hj
      have hzy:z=y:=by
        have:N'[i+1]?=some y:=hi
        rw [h1] at this; cases this; rfl
      subst hzy
      rw [slots_get hj] at hv'
      have hσ:σ[js[i]]?=some (some v):=by
        cases q:σ[js[i]]? with
        | none=>rw [q] at hv'; cases hv'
        | some o=>rw [q] at hv'; cases hv'; rfl
      have hkc:X.env.kindOf z=some .cell:=S.free _ h3 rfl
      obtain ⟨m,hm,hl⟩:=I.loc
      obtain ⟨u,ru,lk⟩:=hl _ z v h2 hσ (.inr (.inl hkc))
      rcases lk with ⟨hk1,_⟩ | ⟨_,c,hc,hcell⟩
      · rw [hkc] at hk1; cases hk1
      · refine ⟨u,ru,.inr ⟨?_,c,clOf_has (S.cells I.ok) h3 hc,?_⟩⟩
        · rcases hvis with hvis | hvis | hvis
          · exfalso
            have hcl:=clOf_has (S.cells I.ok) h3 hc
            have hm2:=lookup_mem (l:=(relabel scope X.env).names) hvis
            unfold relabel at hm2
            obtain ⟨⟨n,k⟩,hmem,he⟩:=List.mem_map.mp hm2
            dsimp only at he
            by_cases hq:(k == NameKind.free&&X.env.scope.kind == .function&&X.env.kindOf n == some .cell)=true
            · rw [if_pos hq] at he; cases he
            · rw [if_neg hq] at he
              cases he
              have:=S.names _ hmem rfl
              have l2:=mem_lookup h3
              obtain ⟨c',l2⟩:=l2
              dsimp only at this
              rw [this] at l2
              have key:(relabel scope X.env).names.lookup z=some .local:=lookup_relabel_local this
              have hck:scope.names.lookup z=some .local:=this
              exact S.nofl z h3 hck
          · exact .inl hvis
          · exact .inr hvis
        · obtain ⟨o,e,r⟩:=hcell
          exact ⟨o,hk _ _ e,r⟩
  cell:=fun y c h=>by
    obtain ⟨v,o,e,r⟩:=I.cell y c (clOf_env (S.cells I.ok) h)
    exact ⟨v,o,hk _ _ e,r⟩
  free:=I.hok.fresh (Nat.le_refl _)
  freeC:=fun y c h=>I.freeC y c (clOf_env (S.cells I.ok) h)
  pin:=fun p hp=>by cases hp
  hok:=I.hok.kept hk
  len:=by
    show (slots σ js).length+1=N'.length
    unfold slots
    rw [List.length_map,S.len]
theorem HOk.but {P:Program} {w:World} {H:Hp} {h h':Heap} {C:Addr} (x:HOk P w H h) (hC:H C=none) (k:∀ b u,b≠C→h.get? b=some u→h'.get? b=some u):HOk P w H h':=fun a o e =>
  (x a o e).stay (fun b u hb q=>k b u (by
    rcases hb with rfl | hb
    · exact ne_of_none e hC
    · exact ne_of_none hb hC) q) (fun _ q=>q) fun _ _ q=>q
theorem cxC_back {H2:Hp} {σ':St} {s2:Shared} {h'':Heap} (S:CScope X scope x N' js) (I:Inv X pins σ H s) (hf:∀ b∈fp,FpOk X pins H b)
    (J:Inv (cxC X scope s.heap.objs.size fp s H N') [] σ' H2 s2) (hs:Heap.SameBut s.heap.objs.size s2.heap h''):Inv X pins σ H2 { s2 with heap:=h'' }:=by
  have hC:H2 s.heap.objs.size=none:=J.free
  have ne:∀ {b:Addr} {o:Obj},s.heap.get? b=some o→b≠s.heap.objs.size:=fun e q=>by
    have:=Heap.lt_size e; rw [q] at this; exact Nat.lt_irrefl _ this
  refine I.call' (s':={ s2 with heap:=h'' }) (ch:=fp) (by rw [show ({ s2 with heap:=h'' }:Shared).os=s2.os from rfl]; exact J.os) ?_ (J.hok.but hC fun b u hb q=>hs.extBut b u hb q) J.bare fun b hb=>⟨(hf b hb).2.2.2.1,(hf b hb).2.1,(hf b hb).2.2.2.2.1,(hf b hb).2.2.2.2.2⟩
  have U:=J.base
  exact {
    keep:=fun b o e n h1 h2=>hs.extBut b o (ne e) (U.keep b o e n h1 h2)
    slot:=fun b o e n h1 h2=>by
      obtain ⟨sl,q⟩:=U.slot b o e n h1 h2
      exact ⟨sl,hs.extBut b _ (ne e) q⟩
    free:=U.free
    there:=fun b o e h2=>by
      obtain ⟨o',q⟩:=U.there b o e h2
      exact ⟨o',hs.extBut b _ (ne e) q⟩
    tups:=U.tups
    frzs:=U.frzs
    tbls:=U.tbls }
end
end L2
set_option Elab.async false
set_option linter.all false
set_option maxRecDepth 100000
namespace L2
open PySem PySem.Spec PyProof.Rows
abbrev NoX:Value→Shared→Prop:=fun _ _=>False
theorem compLoop_gen {prog:Program} {w:World} {A:Around} {R:Result→Shared→Prop} {s:Shared} {elt target iter:Expr} {ifs:List Expr} {scope:Scope} {pos:Pos} {it acc:Value} {env:Env} (I:Nat→Shared→Prop)
    (turn:∀ n s,I n s→wpAny (model prog w) A (pyNext it) (fun r s₁=>match r with
      | none=>R (.ok .next) s₁
      | some v=>wpAny (model prog w) A (letOwnedTupleGo target it v) (fun _ s₁'=>wpAny (model prog w) A (assign target env v) (fun _ s₂ =>
          wpAny (model prog w) A (forIn ifs true fun c r=>if r=true then do let ok ← isTrue c env (eval c env); pure (ForInStep.yield ok) else pure (ForInStep.yield r)) (fun ok s₃ =>
            if ok=true then wpAny (model prog w) A (eval elt env) (fun x s₄=>wpAny (model prog w) A (call (.builtin "list.append") [acc,x]) (fun _ s₅=>∃ m,m<n∧I m s₅) NoX s₄) NoX s₃
            else ∃ m,m<n∧I m s₃) NoX s₂) NoX s₁') NoX s₁) NoX s)
    (n:Nat) (h:I n s):codeAny (model prog w) A (.compLoop (.ListComp elt [⟨target,iter,ifs,0⟩] scope pos) 0 it acc env) R s:=by
  refine codeAny_loop rfl I (fun n s hI=>?_) n h
  show wpAny _ A ((compTurn (.ListComp elt [⟨target,iter,ifs,0⟩] scope pos) 0 it acc env).onRaise (fun x=>do noteFrame x env; theTreesLotGoes x)) _ _ s
  refine wpAny_noted ?_
  rw [compTurn_list]
  refine wpAny_bind (wpAny_standAt (wpAny_bind (wpAny_mono (turn n s hI) (fun r s₁ h₁=>?_) fun _ _ h'=>h'.elim)))
  cases r with
  | none=>exact wpAny_pure h₁
  | some v =>
    refine wpAny_bind (wpAny_mono h₁ (fun _ s₁' h₁'=>?_) fun _ _ h'=>h'.elim)
    refine wpAny_bind (wpAny_mono h₁' (fun _ s₂ h₂=>wpAny_bind (wpAny_mono h₂ (fun ok s₃ h₃=>?_) fun _ _ h'=>h'.elim)) fun _ _ h'=>h'.elim)
    cases ok with
    | false=>exact wpAny_pure ⟨rfl,h₃⟩
    | true =>
      exact wpAny_bind (wpAny_bind (wpAny_mono h₃ (fun x s₄ h₄=>wpAny_bind (wpAny_mono h₄ (fun _ s₅ h₅=>wpAny_pure (wpAny_pure ⟨rfl,h₅⟩)) fun _ _ h'=>h'.elim)) fun _ _ h'=>h'.elim))
section
variable {X:Cx} {pins:List (Addr × Obj)} {σ:St} {H:Hp} {s:Shared} {scope:Scope} {x:Str} {N':List Str} {js:List Nat} {fp:List Addr} {elt iter:Expr} {px pos:Pos} {ifs:List Expr} {tc:TT} {te:TE}
theorem comp_block {J:It} {it:Addr} {tn:Nat→Heap→Prop} {RR:Value→Addr→Result→Shared→Prop} {E:Value→Shared→Prop} {Q:VK}
    (S:CScope X scope x N' js) (I:Inv X pins σ H s) (T:Turn X.prog X.w X.K (.Name x px) J fp it tn) (h0:tn 0 s.heap) (hf:∀ b∈fp,FpOk X pins H b)
    (ht:∀ C fp s₀ H₀,PTs (cxC X scope C fp s₀ H₀ N') ifs tc) (he:∀ C fp s₀ H₀,PE (cxC X scope C fp s₀ H₀ N') elt te)
    (R:∀ D,H D=none→∃ W:Nat→Nat→List V→Hp→Prop,(∃ m,W 0 m [] (upd H D (.lst []))) ∧
      ∀ i m ys H2,W i m ys H2→H2 D=some (.lst ys)∧((J.stop i H2∧Q (.ref D) H2)∨(J.go i H2∧ys.length<sizeLine∧∀ x H3,J.yld i H2 x H3 →
        tc (some x::slots σ js) H3 fun b H4=>if b=true then te (some x::slots σ js) H4 fun y H5=>H5 D=some (.lst ys)∧∃ m',m' < m∧W (i+1) m' (ys++[y]) (upd H5 D (.lst (ys++[y])))
          else H4 D=some (.lst ys)∧∃ m',m' < m∧W (i+1) m' ys H4)))
    (hRR:∀ (D:Addr) (H3:Hp) (s3:Shared) (σ':St) (H':Hp) (s':Shared),Inv X pins σ H3 s3→(∀ b∈fp,FpOk X pins H3 b)→Inv (cxC X scope s3.heap.objs.size fp s3 H3 N') [] σ' H' s'→Q (.ref D) H'→RR (.ref D) s3.heap.objs.size (.ok .next) s') :
    wpAny (model X.prog X.w) X.A (newList []) (fun acc s₃=>wpAny (model X.prog X.w) X.A (newFunctionEnv scope X.env.globals (clOf X scope) [] X.env.qual none .none (some X.env)) (fun cenv s₄ =>
      codeAny (model X.prog X.w) X.A (.compStart (.ListComp elt [⟨.Name x px,iter,ifs,0⟩] scope pos) 0 (.ref it) acc { cenv with scope:=relabel scope X.env }) (RR acc cenv.locals) s₄) E s₃) E s:=by
  have hb:∀ b∈fp,b<s.heap.objs.size:=fun b hb=>by
    obtain ⟨o,e,_⟩:=T.obj 0 _ h0 b hb
    exact Heap.lt_size e
  refine wpAny_newObj_type (wpAny_newFunctionEnv S.cell (by intro y hy; simp at hy) (fun h₁ hns₁ hsb₁=>?_) S.kind)
  have hDn:H s.heap.objs.size=none:=I.hok.fresh (Nat.le_refl _)
  obtain ⟨W,⟨m0,hw0⟩,hW⟩:=R _ hDn
  have I3:Inv X pins σ (upd H s.heap.objs.size (.lst [])) { s with heap:=s.heap.push { cls:=.type "list",dict:=none,data:=.seq ([]:List Value).toArray } }:=I.lnew (its:=[]) (ys:=[]) (t':=s.toks) .nil (Nat.zero_le _)
  have hf3:∀ b∈fp,FpOk X pins (upd H s.heap.objs.size (.lst [])) b:=fun b hb' =>
    ⟨by rw [upd_ne (fun e=>by have:=hb b hb'; rw [e] at this; exact Nat.lt_irrefl _ this)]; exact (hf b hb').1,(hf b hb').2⟩
  have hb3:∀ b∈fp,b<(s.heap.push { cls:=.type "list",dict:=none,data:=.seq ([]:List Value).toArray }).objs.size:=fun b hb'=>by
    rw [Heap.size_push]; exact Nat.lt_succ_of_lt (hb b hb')
  have hkeep:∀ b o,(s.heap.push { cls:=.type "list",dict:=none,data:=.seq ([]:List Value).toArray }).get? b=some o→h₁.get? b=some o:=fun b o e =>
    hsb₁.extBut b o (fun q=>by have:=Heap.lt_size e; rw [q] at this; exact Nat.lt_irrefl _ this) (Heap.get?_push_of_some _ e)
  have J4:=cxC_inv (h':=h₁) (tk:=s.toks+([]:List (Str × Value)).length) S I3 hf3 hb3 hns₁ hkeep
  have t4:tn 0 h₁:=T.keep 0 _ _ h0 fun b hb' o e=>hkeep b o (Heap.get?_push_of_some _ e)
  have loop:codeAny (model X.prog X.w) X.A (.compLoop (.ListComp elt [⟨.Name x px,iter,ifs,0⟩] scope pos) 0 (.ref it) (.ref s.heap.objs.size) (compEnvC scope (clOf X scope) (s.heap.push { cls:=.type "list",dict:=none,data:=.seq ([]:List Value).toArray }).objs.size X.env))
      (RR (.ref s.heap.objs.size) (s.heap.push { cls:=.type "list",dict:=none,data:=.seq ([]:List Value).toArray }).objs.size) { s with heap:=h₁,toks:=s.toks+([]:List (Str × Value)).length }:=by
    refine compLoop_gen (fun n s'=>∃ (i:Nat) (ys:List V) (H2:Hp) (o:Option V),Inv (cxC X scope _ fp _ _ N') [] (o::slots σ js) H2 s'∧tn i s'.heap∧(∀ b∈fp,H2 b=none)∧W i n ys H2) ?_ m0 ⟨0,[],_,none,J4,t4,fun b hb'=>(hf3 b hb').1,hw0⟩
    rintro n s' ⟨i,ys,H2,o,J2,t2,f2,w2⟩
    obtain ⟨hD,hcase⟩:=hW i n ys H2 w2
    have Fp:∀ b∈fp,FpOk (cxC X scope (s.heap.push { cls:=.type "list",dict:=none,data:=.seq ([]:List Value).toArray }).objs.size fp { s with heap:=s.heap.push { cls:=.type "list",dict:=none,data:=.seq ([]:List Value).toArray } } (upd H s.heap.objs.size (.lst [])) N') [] H2 b:=fun b hb' =>
      ⟨f2 b hb',(J2.ok.exf b hb').1,J2.ok.exfs b hb',.inl hb',(J2.ok.exf b hb').2,fun p hp=>by cases hp⟩
    rcases hcase with ⟨hstop,hq⟩ | ⟨hgo,hz,hturn⟩
    · refine wpAny_mono (T.done (cxC X scope _ fp _ _ N') rfl rfl rfl rfl i [] s' _ H2 NoX J2 Fp t2 hstop) (fun r s1 ⟨hr,J5⟩=>?_) fun _ _ f=>f
      subst hr
      exact hRR _ _ _ _ _ _ I3 hf3 J5 hq
    · refine wpAny_mono (T.item (cxC X scope _ fp _ _ N') rfl rfl rfl rfl i [] s' _ H2 NoX J2 Fp t2 hgo) (fun r s1 ⟨u,hr,hx⟩=>?_) fun _ _ f=>f
      subst hr
      refine wpAny_mono hx (fun _ s2 ⟨v,H3,J3,rv,hy,t3,f3⟩=>?_) fun _ _ f=>f
      have Fp3:∀ b∈fp,FpOk (cxC X scope (s.heap.push { cls:=.type "list",dict:=none,data:=.seq ([]:List Value).toArray }).objs.size fp { s with heap:=s.heap.push { cls:=.type "list",dict:=none,data:=.seq ([]:List Value).toArray } } (upd H s.heap.objs.size (.lst [])) N') [] H3 b:=fun b hb' =>
        ⟨f3 b hb',(J3.ok.exf b hb').1,J3.ok.exfs b hb',.inl hb',(J3.ok.exf b hb').2,fun p hp=>by cases hp⟩
      have P3:=J3.pinned Fp3 (T.obj (i+1) _ t3)
      have keepT:∀ {σ':St} {Hx:Hp} {sx:Shared},Inv (cxC X scope (s.heap.push { cls:=.type "list",dict:=none,data:=.seq ([]:List Value).toArray }).objs.size fp { s with heap:=s.heap.push { cls:=.type "list",dict:=none,data:=.seq ([]:List Value).toArray } } (upd H s.heap.objs.size (.lst [])) N') ([]++pinsAt fp s2.heap) σ' Hx sx→tn (i+1) sx.heap∧∀ b∈fp,Hx b=none:=fun Jx =>
        ⟨T.keep (i+1) _ _ t3 fun b hb' ob e=>(Jx.pin (b,ob) (List.mem_append_right _ (List.mem_append_right _ (mem_pinsAt hb' e)))).1,fun b hb'=>by
          obtain ⟨ob,e,_⟩:=T.obj (i+1) _ t3 b hb'
          exact (Jx.pin (b,ob) (List.mem_append_right _ (List.mem_append_right _ (mem_pinsAt hb' e)))).2.1⟩
      refine wpAny_assign_Name (store_ok P3 (i:=0) (x:=x) (v:=v) ?nd ?hi ?hx rv (fun s5 J5=>?_) ?hfn)
      case nd=>exact S.nd
      case hi=>exact S.zero
      case hx=>exact .inl (lookup_relabel_local S.own)
      case hfn=>exact .inr (lookup_relabel_local S.own)
      have J5':Inv _ _ (some v::slots σ js) H3 s5:=J5
      refine wpAny_mono (ht _ _ _ _ _ _ _ _ _ J5' (hturn v H3 hy)) (fun ok s6 ⟨H6,J6,q6⟩=>?_) fun _ _ f=>f
      dsimp only at q6
      by_cases hok:ok=true
      · rw [if_pos hok] at q6 ⊢
        refine wpAny_mono (he _ _ _ _ _ _ _ _ _ J6 q6) (fun y s7 ⟨w',H7,J7,r7,hD7,m',hm',w7⟩=>?_) fun _ _ f=>f
        refine wpAny_mono (mt_append (X:=cxC X scope _ fp _ _ N') _ _ _ _ (.ref s.heap.objs.size) [w'] (.ref s.heap.objs.size) [y] (fun _ H8=>H8=upd H7 s.heap.objs.size (.lst (ys++[w']))) J7 rfl (.cons r7 .nil) ⟨_,_,_,rfl,rfl,hD7,hz,rfl⟩) (fun _ s8 ⟨_,H8,J8,_,e8⟩=>?_) fun _ _ f=>f
        subst e8
        obtain ⟨k1,k2⟩:=keepT J8
        exact ⟨m',hm',i+1,ys++[w'],_,some v,J8.unpinned,k1,k2,w7⟩
      · rw [if_neg hok] at q6 ⊢
        obtain ⟨_,m',hm',w7⟩:=q6
        obtain ⟨k1,k2⟩:=keepT J6
        exact ⟨m',hm',i+1,ys,_,some v,J6.unpinned,k1,k2,w7⟩
  refine codeAny_compStart_list loop (T.self X.A 0 _ _ _ t4 loop)
theorem pe_comp {wi:TI} (S:CScope X scope x N' js) (hi:PI X (.Name x px) iter wi) (ht:∀ C fp s₀ H₀,PTs (cxC X scope C fp s₀ H₀ N') ifs tc) (he:∀ C fp s₀ H₀,PE (cxC X scope C fp s₀ H₀ N') elt te)
    (hs:∀ x,foldedSetIterable iter X.env x=pure x:=by intro _; rfl):PE X (.ListComp elt [⟨.Name x px,iter,ifs,0⟩] scope pos) (tComp wi js tc te):=by
  intro pins s σ H Q I h
  rw [eval_ListComp]
  refine wpAny_comprehension_free (use:=none) rfl hs (closureFor_eq (S.cells I.ok)) S.kind S.names (wpAny_mono (hi pins s σ H _ I h) (fun v s1 h1=>?_) fun _ _ e=>e)
  refine wpAny_mono h1 (fun itv s2 ⟨it,fp,tn,J,H2,e,I2,T,t0,hf,R⟩=>?_) fun _ _ e=>e
  subst e
  refine comp_block S I2 T t0 hf ht he R ?_
  intro D H3 s3 σ' H' s' I3 hf3 J3 q
  obtain ⟨m,hm,_⟩:=J3.loc
  exact ⟨m,hm,fun h' hs'=>⟨.ref D,H',cxC_back S I3 hf3 J3 hs',rfl,q⟩⟩
theorem ps_setComp {wi:TI} {y:Str} {py spos:Pos} {i:Nat} (S:CScope X scope x N' js) (hN:X.N.Nodup) (hiN:X.N[i]?=some y) (hy:X.env.kindOf y=some .local) (hi:PI X (.Name x px) iter wi) (ht:∀ C fp s₀ H₀,PTs (cxC X scope C fp s₀ H₀ N') ifs tc) (he:∀ C fp s₀ H₀,PE (cxC X scope C fp s₀ H₀ N') elt te)
    (hsw:swapsWith (.ListComp elt [⟨.Name x px,iter,ifs,0⟩] scope pos) (some (.Name y py)) spos.line X.env=pure true) (hs:∀ x,foldedSetIterable iter X.env x=pure x:=by intro _; rfl) :
    PS X (.Assign [.Name y py] (.ListComp elt [⟨.Name x px,iter,ifs,0⟩] scope pos) spos) (tAsg (tComp wi js tc te) (gName i)):=by
  intro pins s σ H D0 I h
  rw [exec_Assign_Name_used _ _ _ _ hsw]
  refine wpAny_bind (wpAny_standAt (wpAny_bind ?_))
  show wpAny _ X.A (do let _ ← comprehension (.ListComp elt [⟨.Name x px,iter,ifs,0⟩] scope pos) scope X.env _ (newList []) false (eval iter X.env) (some (assign (.Name y py) X.env))) _ _ s
  refine wpAny_bind (wpAny_mono (wpAny_comprehension_free (use:=some (assign (.Name y py) X.env)) (Q:=fun _ s'=>SP X pins D0 .next s') rfl hs (closureFor_eq (S.cells I.ok)) S.kind S.names (wpAny_mono (hi pins s σ H _ I h) (fun v s1 h1=>?_) fun _ _ e=>e)) (fun _ s' hq=>wpAny_pure (wpAny_pure hq)) fun _ _ e=>e)
  refine wpAny_mono h1 (fun itv s2 ⟨it,fp,tn,J,H2,e,I2,T,t0,hf,R⟩=>?_) fun _ _ e=>e
  subst e
  refine comp_block (Q:=fun v H'=>gName i v σ H' D0.nx) S I2 T t0 hf ht he R ?_
  intro D H3 s3 σ' H' s' I3 hf3 J3 q
  obtain ⟨m,hm,_⟩:=J3.loc
  have IX:Inv X pins σ H' s':=cxC_back S I3 hf3 J3 (Heap.SameBut.refl ..)
  have hCL:s3.heap.objs.size≠X.env.locals:=fun e=>by have:=I3.lt; rw [e] at this; exact Nat.lt_irrefl _ this
  show wpAny _ X.A (assign (.Name y py) X.env (.ref D)) _ _ _
  refine wpAny_assign_Name (store_ok2 IX hN hiN (.inl hy) (v:=.ref D) rfl (fun s5 I5 hsb=>?_) (.inr hy))
  obtain ⟨a,hsb,ha⟩:=hsb
  have hCa:s3.heap.objs.size≠a:=by
    rcases ha with rfl | ha
    · exact hCL
    · intro e
      obtain ⟨v,o,eo,_⟩:=I3.cell y a ha
      have:=Heap.lt_size eo
      rw [← e] at this
      exact Nat.lt_irrefl _ this
  refine ⟨m,hm.sameBut hsb hCa,fun h' hs'=>⟨_,H',?_,q⟩⟩
  exact I5.turned (it:=s3.heap.objs.size) (t':=s5.toks) (fun b o n e=>hs'.extBut b o n e) J3.free hCL (.inr I3.sz)
    (fun z c hz e=>by
      obtain ⟨v,o,eo,_⟩:=I3.cell z c hz
      have:=Heap.lt_size eo
      rw [e] at this
      exact Nat.lt_irrefl _ this)
    (fun p hp e=>by
      have:=Heap.lt_size (I3.pin p hp).1
      rw [e] at this
      exact Nat.lt_irrefl _ this)
end
end L2
set_option Elab.async false
set_option linter.all false
set_option maxRecDepth 100000
namespace L2
open PySem PySem.Spec PyProof.Rows
structure PTsw (X:Cx) (ifs:List Expr) (t:TT):Prop where p:PTs X ifs t
def tMonoE (t:TE):TE:=fun σ H Q=>∃ Q':VK,t σ H Q'∧∀ v H1,Q' v H1→Q v H1
theorem PE.mono {X:Cx} {e:Expr} {t:TE} (h:PE X e t):PE X e (tMonoE t):=fun pins s σ H Q I ⟨Q',h1,h2⟩ =>
  thn (h pins s σ H Q' I h1) fun b s' ⟨v,H',I',r,q⟩=>⟨v,H',I',r,h2 _ _ q⟩
theorem PTs.mono {X:Cx} {es:List Expr} {t:TT} (h:PTs X es t):PTs X es (tMono t):=fun pins s σ H Q I ⟨Q',h1,h2⟩ =>
  thn (h pins s σ H Q' I h1) fun b s' ⟨H',I',q⟩=>⟨H',I',h2 _ _ q⟩
@[irreducible] def CompB (J:It) (σ:St) (js:List Nat) (tc:TT) (te:TE) (H1:Hp) (Q:VK):Prop:=∀ D,H1 D=none→∃ W:Nat→Nat→List V→Hp→Prop,(∃ m,W 0 m [] (upd H1 D (.lst []))) ∧
  ∀ i m ys H2,W i m ys H2→H2 D=some (.lst ys)∧((J.stop i H2∧Q (.ref D) H2)∨(J.go i H2∧ys.length<sizeLine∧∀ x H3,J.yld i H2 x H3 →
    tMono tc (some x::slots σ js) H3 fun b H4=>if b=true then tMonoE te (some x::slots σ js) H4 fun y H5=>H5 D=some (.lst ys)∧∃ m',m' < m∧W (i+1) m' (ys++[y]) (upd H5 D (.lst (ys++[y])))
      else H4 D=some (.lst ys)∧∃ m',m' < m∧W (i+1) m' ys H4))
def tCompB (wi:TI) (js:List Nat) (tc:TT) (te:TE):TE:=fun σ H Q=>wi σ H fun J H1=>CompB J σ js tc te H1 Q
section
variable {X:Cx} {scope:Scope} {x y:Str} {N':List Str} {js:List Nat} {elt iter c:Expr} {px py pos spos:Pos} {ifs:List Expr} {tc:TT} {te:TE} {wi:TI} {i:Nat}
theorem wts_nil:PTsw X [] tYes:=⟨pts_nil⟩
theorem wts_one {t:TT} (h:PTw X c t):PTsw X [c] t:=⟨pts_one h.p⟩
theorem we_comp (S:CScope X scope x N' js) (hi:PIw X (.Name x px) iter wi) (ht:∀ C fp s₀ H₀,PTsw (cxC X scope C fp s₀ H₀ N') ifs tc) (he:∀ C fp s₀ H₀,PEw (cxC X scope C fp s₀ H₀ N') elt te)
    (hs:∀ x,foldedSetIterable iter X.env x=pure x:=by intro _; rfl):PEw X (.ListComp elt [⟨.Name x px,iter,ifs,0⟩] scope pos) (tCompB wi js tc te) :=
  ⟨by unfold tCompB CompB; exact pe_comp S hi.p (fun C fp s₀ H₀=>(ht C fp s₀ H₀).p.mono) (fun C fp s₀ H₀=>(he C fp s₀ H₀).p.mono) hs⟩
theorem ws_setComp (S:CScope X scope x N' js) (hN:X.N.Nodup) (hiN:X.N[i]?=some y) (hy:X.env.kindOf y=some .local) (hi:PIw X (.Name x px) iter wi) (ht:∀ C fp s₀ H₀,PTsw (cxC X scope C fp s₀ H₀ N') ifs tc) (he:∀ C fp s₀ H₀,PEw (cxC X scope C fp s₀ H₀ N') elt te)
    (hsw:swapsWith (.ListComp elt [⟨.Name x px,iter,ifs,0⟩] scope pos) (some (.Name y py)) spos.line X.env=pure true:=by rfl) (hs:∀ x,foldedSetIterable iter X.env x=pure x:=by intro _; rfl) :
    PSw X (.Assign [.Name y py] (.ListComp elt [⟨.Name x px,iter,ifs,0⟩] scope pos) spos) (tAsg (tCompB wi js tc te) (gName i)) :=
  ⟨by unfold tCompB CompB; exact ps_setComp S hN hiN hy hi.p (fun C fp s₀ H₀=>(ht C fp s₀ H₀).p.mono) (fun C fp s₀ H₀=>(he C fp s₀ H₀).p.mono) hsw hs⟩
end
def cscOk (psc scope:Scope) (N:List Str) (x:Str) (N':List Str) (js:List Nat):Bool :=
  (scope.names.all fun y=>!(y.2 == .free) || psc.names.lookup y.1 == some .cell)&&(scope.names.all fun y=>!(y.2 == .cell))&&scope.kind == .function &&
  (scope.names.all fun y=>!(y.2 == .local) || scope.names.lookup y.1 == some .local)&&scope.names.lookup x == some .local &&
  (scope.names.all fun y=>!(y.2 == .free) || !(scope.names.lookup y.1 == some .local))&&N'.length == js.length+1&&N'[0]? == some x&&decide N'.Nodup &&
  ((List.range js.length).all fun i=>match js[i]?,N'[i+1]? with
    | some j,some y=>N[j]? == some y&&scope.names.contains (y,NameKind.free)
    | _,_=>false)
theorem CScope.of {X:Cx} {psc scope:Scope} {N:List Str} {x:Str} {N':List Str} {js:List Nat} (h:cscOk psc scope N x N' js=true) (hX:X.env.scope=psc) (hN:X.N=N) (hc:X.calm=true):CScope X scope x N' js:=by
  unfold cscOk at h
  simp only [Bool.and_eq_true] at h
  obtain ⟨⟨⟨⟨⟨⟨⟨⟨⟨h1,h2⟩,h3⟩,h4⟩,h5⟩,h6⟩,h7⟩,h8⟩,h9⟩,h10⟩:=h
  rw [List.all_eq_true] at h1 h2 h4 h6 h10
  refine ⟨hc,fun y hy e=>?_,fun y hy e=>?_,by simpa using h3,fun y hy e=>?_,by simpa using h5,fun y hy e=>?_,by simpa using h7,by simpa using h8,of_decide_eq_true h9,fun i j hj=>?_⟩
  · have:=h1 y hy
    rw [e] at this
    show X.env.scope.names.lookup y.1=_
    rw [hX]
    simpa using this
  · have:=h2 y hy
    rw [e] at this
    simp at this
  · have:=h4 y hy
    rw [e] at this
    simpa using this
  · have:=h6 _ hy
    rw [e] at this
    simp at this
  · have hi:i<js.length:=(List.getElem?_eq_some_iff.mp hj).1
    have:=h10 i (List.mem_range.mpr hi)
    rw [hj] at this
    cases q:N'[i+1]? with
    | none=>rw [q] at this; simp at this
    | some y =>
      rw [q] at this
      simp only [Bool.and_eq_true] at this
      exact ⟨y,rfl,by rw [hN]; simpa using this.1,List.contains_iff_mem.mp this.2⟩
section
variable {js:List Nat} {te:TE} {tc:TT} {σ:St} {H:Hp} {Q:VK}
theorem comp_any {J:It} {n:Nat} (src:Nat→V→Prop) (hz:n≤100000) (Pv:Addr→Nat→List V→Hp→Prop)
    (h0:∀ D H1,H D=none→H1 D=some (.lst [])→Same H H1→Pv D 0 [] H1)
    (hg:∀ D i ys H',i<n→H' D=some (.lst ys)→Pv D i ys H'→J.go i H'∧∀ x H3,J.yld i H' x H3→H3=H'∧src i x)
    (hst:∀ D ys H',H' D=some (.lst ys)→Pv D n ys H'→J.stop n H')
    (hs:∀ D i x ys H',src i x→i<n→ys.length=i→H' D=some (.lst ys)→Pv D i ys H'→te (some x::slots σ js) H' fun y H5=>H5 D=some (.lst ys)∧∀ H6,H6 D=some (.lst (ys++[y]))→SameBut D H5 H6→Pv D (i+1) (ys++[y]) H6)
    (hd:∀ D ys H',ys.length=n→H D=none→H' D=some (.lst ys)→Pv D n ys H'→Q (.ref D) H') :
    CompB J σ js tYes te H Q:=by
  unfold CompB
  intro D hD
  refine ⟨fun i m ys H'=>m=n - i∧i≤n∧ys.length=i∧H' D=some (.lst ys)∧Pv D i ys H',⟨n,by simp,Nat.zero_le _,rfl,upd_same,h0 D _ hD upd_same (Same.upd hD)⟩,?_⟩
  rintro i m ys H2 ⟨rfl,hi,hy,hD2,p⟩
  refine ⟨hD2,?_⟩
  by_cases hlt:i<n
  · obtain ⟨g1,g2⟩:=hg D i ys H2 hlt hD2 p
    refine .inr ⟨g1,Nat.lt_of_le_of_lt (m:=100000) (by omega) (by decide),fun x H3 hy3=>?_⟩
    obtain ⟨rfl,hx⟩:=g2 x H3 hy3
    refine ⟨fun b H4=>b=true∧H4=H3,⟨rfl,rfl⟩,?_⟩
    rintro b H4 ⟨rfl,rfl⟩
    rw [if_pos rfl]
    refine ⟨_,hs D i x ys H4 hx hlt hy hD2 p,?_⟩
    rintro v H5 ⟨hD5,k⟩
    exact ⟨hD5,n - (i+1),by omega,rfl,hlt,by rw [List.length_append,hy]; rfl,upd_same,k _ upd_same SameBut.self⟩
  · have e:i=n:=by omega
    subst e
    exact .inl ⟨hst D ys H2 hD2 p,hd D ys H2 hy hD hD2 p⟩
theorem comp_list {K:PySem.W.Frag} {a:Addr} {xs:List V} (hz:xs.length≤100000) (Pv:Addr→Nat→List V→Hp→Prop)
    (h0:∀ D H1,H D=none→H1 D=some (.lst [])→Same H H1→Pv D 0 [] H1)
    (hl:∀ D i ys H',i≤xs.length→H' D=some (.lst ys)→Pv D i ys H'→SqL K H' a xs)
    (hs:∀ D i x ys H',xs[i]?=some x→i<xs.length→ys.length=i→H' D=some (.lst ys)→Pv D i ys H'→te (some x::slots σ js) H' fun y H5=>H5 D=some (.lst ys)∧∀ H6,H6 D=some (.lst (ys++[y]))→SameBut D H5 H6→Pv D (i+1) (ys++[y]) H6)
    (hd:∀ D ys H',ys.length=xs.length→H D=none→H' D=some (.lst ys)→Pv D xs.length ys H'→Q (.ref D) H') :
    CompB (Itl K a) σ js tYes te H Q :=
  comp_any (J:=Itl K a) (fun i x=>xs[i]?=some x) hz Pv h0
    (fun D i ys H' hi hD p=>by
      have q:=hl D i ys H' (Nat.le_of_lt hi) hD p
      exact ⟨⟨xs,xs[i],q,by simp [hi]⟩,fun x H3 y=>⟨y.1,y.2 xs q⟩⟩)
    (fun D ys H' hD p=>⟨xs,hl D _ ys H' (Nat.le_refl _) hD p,Nat.le_refl _⟩) hs hd
theorem comp_map {K:PySem.W.Frag} {a:Addr} {xs:List V} (R:Nat→V→Prop) (hz:xs.length≤100000) (hl:SqL K H a xs)
    (hs:∀ i x H' (Q':VK),xs[i]?=some x→Same H H'→(∀ y H5,Same H' H5→R i y→Q' y H5)→te (some x::slots σ js) H' Q')
    (hd:∀ D ys H',H D=none→H' D=some (.lst ys)→Same H H'→ys.length=xs.length→(∀ (i:Nat) (y:V),ys[i]?=some y→R i y)→Q (.ref D) H') :
    CompB (Itl K a) σ js tYes te H Q:=by
  refine comp_list hz (fun D i ys H'=>H D=none∧Same H H'∧∀ (i:Nat) (y:V),ys[i]?=some y→R i y) (fun D H1 hD _ s=>⟨hD,s,fun i y h=>by simp at h⟩) (fun D i ys H' _ _ p=>p.2.1.seq hl) (fun D i x ys H' hx _ hy hD p=>?_) (fun D ys H' hy hD hD' p=>hd D ys H' hD hD' p.2.1 hy p.2.2)
  refine hs i x H' _ hx p.2.1 fun y H5 s5 r=>?_
  refine ⟨s5 _ _ hD,fun H6 hD6 s6=>⟨p.1,?_,fun j z hj=>?_⟩⟩
  · exact Same.thru p.1 (p.2.1.trans s5) s6
  · by_cases hji:j<ys.length
    · rw [List.getElem?_append_left hji] at hj; exact p.2.2 j z hj
    · rw [List.getElem?_append_right (by omega)] at hj
      have:j - ys.length=0:=by
        by_cases q:j - ys.length=0
        · exact q
        · rw [List.getElem?_eq_none (by simp; omega)] at hj; cases hj
      rw [this] at hj
      have hj':y=z:=by simpa using hj
      have:j=i:=by omega
      subst this hj'
      exact r
end
@[irreducible] def rSum (K:PySem.W.Frag):List V→Hp→VK→Prop:=fun xs H Q=>∃ (p:Addr) (ns:List Int),xs=[.ref p]∧SqL K H p (ns.map V.int)∧Q (.int ns.sum) H
@[irreducible] def rEqD (b:Bool):R2:=fun x y H Q=>∃ d d',Rep H d x∧Rep H d' y∧SeqAt.shaped d=true∧SeqAt.shaped d'=true∧Q (.bl (b == PyData.eqv d d')) H
section
variable {X:Cx}
theorem cl_sum (hc:X.calm=true):CallR X (.builtin "sum") (rSum X.K):=by
  unfold rSum
  intro pins s σ H xs us Q I r h
  obtain ⟨p,ns,rfl,hq,q⟩:=h
  obtain ⟨u,rfl,rx⟩:=vals1 r
  cases rx
  obtain ⟨its,r',pl,hz⟩:=I.list hq
  have hi:=intsAre_of r'
  obtain ⟨xs',e⟩:=hi.allInts.items
  rw [e] at pl
  refine sum_intListG (I.ok.hd hc) pl.isList fun h' tk t' hk=>⟨.int ns.sum,H,I.kept hk,⟨t',?_⟩,q⟩
  rw [preSum_eq,List.take_of_length_le (by simp)]
  rw [← hi.numsOf]
  have e2:its=(intItems xs').toList:=by rw [← e]
  rw [e2,nums_intItems]
theorem rsI {K:PySem.W.Frag} {H:Hp} {p:Addr} {ns:List Int} {Q:VK} (h:SqL K H p (ns.map V.int)) (q:Q (.int ns.sum) H):rSum K [.ref p] H Q:=by unfold rSum; exact ⟨p,ns,rfl,h,q⟩
theorem op_eqD (hu:X.A.units+64<cLine):OpR X (compareOp .Eq) (rEqD true):=by
  unfold rEqD
  intro pins s σ H x y v u Q I rx ry h
  obtain ⟨d,d',h1,h2,s1,s2,q⟩:=h
  obtain ⟨as,ra⟩:=h1.reads I rx
  obtain ⟨bs,rb⟩:=h2.reads I ry
  exact SeqAt.compareEq_shaped ra rb s1 s2 hu ⟨.bl _,H,I,by show _=_; simp,q⟩
theorem op_neD (hu:X.A.units+64<cLine):OpR X (compareOp .NotEq) (rEqD false):=by
  unfold rEqD
  intro pins s σ H x y v u Q I rx ry h
  obtain ⟨d,d',h1,h2,s1,s2,q⟩:=h
  obtain ⟨as,ra⟩:=h1.reads I rx
  obtain ⟨bs,rb⟩:=h2.reads I ry
  exact SeqAt.compareNe_shaped ra rb s1 s2 hu ⟨.bl _,H,I,by show _=_; simp,q⟩
theorem reD {b:Bool} {x y:V} {d d':PyData} {H:Hp} {Q:VK} (h1:Rep H d x) (h2:Rep H d' y) (s1:SeqAt.shaped d=true) (s2:SeqAt.shaped d'=true) (q:Q (.bl (b == PyData.eqv d d')) H):rEqD b x y H Q:=by
  unfold rEqD; exact ⟨d,d',h1,h2,s1,s2,q⟩
end
mutual
def flatD:PyData→Bool
  | .list _=>false
  | .dict _=>false
  | .tuple ds=>flatDs ds
  | _=>true
def flatDs:List PyData→Bool
  | []=>true
  | d::ds=>flatD d&&flatDs ds
end
def SameT (H H':Hp):Prop:=∀ b xs,H b=some (.tup xs)→H' b=some (.tup xs)
theorem SameT.trans {H H1 H2:Hp} (a:SameT H H1) (b:SameT H1 H2):SameT H H2:=fun c o h=>b c o (a c o h)
theorem Same.t {H H':Hp} (s:Same H H'):SameT H H':=fun b xs h=>s _ _ h
theorem SameBut.t {H H':Hp} {p:Addr} (s:SameBut p H H') {xs:List V} (hp:H p=some (.lst xs)):SameT H H':=fun b ys h=>s.at (ne_of h hp (by intro z; cases z)) h
mutual
theorem Rep.flat {H H':Hp} (s:SameT H H'):∀ {d:PyData} {v:V},flatD d=true→Rep H d v→Rep H' d v
  | .none,_,_,h=>h
  | .bool _,_,_,h=>h
  | .int _,_,_,h=>h
  | .str _,_,_,h=>h
  | .list _,_,f,_=>by simp [flatD] at f
  | .dict _,_,f,_=>by simp [flatD] at f
  | .tuple ds,_,f,h=>by
    unfold Rep at h ⊢
    obtain ⟨a,ys,rfl,h1,h2⟩:=h
    exact ⟨a,ys,rfl,s _ _ h1,RepL.flat s (by simpa [flatD] using f) h2⟩
theorem RepL.flat {H H':Hp} (s:SameT H H'):∀ {ds:List PyData} {vs:List V},flatDs ds=true→RepL H ds vs→RepL H' ds vs
  | [],_,_,h=>h
  | d::ds,_,f,h=>by
    unfold RepL at h ⊢
    obtain ⟨x,ys,rfl,h1,h2⟩:=h
    simp only [flatDs,Bool.and_eq_true] at f
    exact ⟨x,ys,rfl,Rep.flat s f.1 h1,RepL.flat s f.2 h2⟩
end
theorem RepL.get {H:Hp}:∀ {ds:List PyData} {vs:List V} {i:Nat} {v:V},RepL H ds vs→vs[i]?=some v→∃ d,ds[i]?=some d∧Rep H d v
  | [],_,i,v,h,e=>by cases (show _=[] from h); simp at e
  | d::ds,_,i,v,h,e=>by
    unfold RepL at h
    obtain ⟨x,ys,rfl,h1,h2⟩:=h
    cases i with
    | zero=>simp at e; subst e; exact ⟨d,rfl,h1⟩
    | succ i =>
      rw [List.getElem?_cons_succ] at e ⊢
      exact RepL.get h2 e
theorem RepL.get' {H:Hp}:∀ {ds:List PyData} {vs:List V} {i:Nat} {d:PyData},RepL H ds vs→ds[i]?=some d→∃ v,vs[i]?=some v∧Rep H d v
  | [],_,i,d,h,e=>by simp at e
  | d' :: ds,_,i,d,h,e=>by
    unfold RepL at h
    obtain ⟨x,ys,rfl,h1,h2⟩:=h
    cases i with
    | zero=>simp at e; subst e; exact ⟨x,rfl,h1⟩
    | succ i =>
      rw [List.getElem?_cons_succ] at e ⊢
      exact RepL.get' h2 e
theorem RepL.snoc {H:Hp} {ds:List PyData} {vs:List V} {d:PyData} {v:V} (h:RepL H ds vs) (r:Rep H d v):RepL H (ds++[d]) (vs++[v]):=RepL.append (RepL.cons r RepL.nil) h
theorem bitsOf {i:Int} {n:Nat} (h:i.natAbs<2^n):bits i≤n:=PySem.intBits_le_iff.mpr h
theorem mulB {i j:Int} {n m:Nat} (h1:i.natAbs<2^n) (h2:j.natAbs<2^m) (hn:n≤1048576:=by decide) (hm:m≤1048576:=by decide):IntMulOk i j:=by
  refine IntMulOk.of_bits ?_ ?_
  · exact Nat.le_trans (bitsOf h1) hn
  · exact Nat.le_trans (bitsOf h2) hm
mutual
def shW:PyData→Nat
  | .none=>4
  | .bool _=>5
  | .int _=>1921
  | .str x=>(reprText x).length
  | .list xs=>shWs xs+4
  | .tuple xs=>shWs xs+4
  | .dict _=>0
def shWs:List PyData→Nat
  | []=>0
  | x::xs=>shW x+2+shWs xs
end
theorem textFrom_le:∀ (ts:List Str) (k:Nat) (acc:Str),(textFrom k acc ts).length≤acc.length+piled ts
  | [],k,acc=>by show acc.length≤_; omega
  | t::r,k,acc=>by
    have h:=textFrom_le r (k+1) (acc++(if k > 0 then ", " else "" : String)++t)
    have e:(acc++(if k > 0 then ", " else "" : String)++t).length=acc.length+(if k > 0 then 2 else 0)+t.length:=by
      rw [strLen_append,strLen_append]
      split <;> rfl
    rw [e] at h
    rw [piled_cons]
    show (textFrom (k+1) _ r).length≤_
    refine Nat.le_trans h ?_
    split <;> omega
theorem tupleText_le (ts:List Str):(tupleText ts).length≤piled ts+4:=by
  unfold tupleText
  rw [strLen_append,strLen_append]
  have e1:(("(" : Str)).length=1:=rfl
  have e2:((if ts.length == 1 then ",)" else ")" : String):Str).length≤2:=by split <;> decide
  rw [e1]
  by_cases h:ts=[]
  · subst h; have:(Str.join ", " []).length=0:=rfl
    omega
  · have:=join_length_add ts h
    omega
theorem listText_le (ts:List Str):(listText ts).length≤piled ts+4:=by
  unfold listText
  rw [strLen_append]
  have:=textFrom_le ts 0 "["
  have e1:(("[" : String):Str).length=1:=rfl
  have e2:(("]" : String):Str).length=1:=rfl
  rw [e1] at this
  rw [e2]
  omega
mutual
theorem shown_le:∀ d:PyData,d.showable=true→d.hasDict=false→d.shown.length≤shW d
  | .none,_,_=>by simp only [PyData.shown,shW]; decide
  | .bool b,_,_=>by cases b <;> (simp only [PyData.shown,shW]; decide)
  | .int i,h,_=>by
    simp only [PyData.shown,shW]
    exact int_text_len_1921 (by simpa [PyData.showable] using h)
  | .str x,_,_=>by simp only [PyData.shown,shW]; exact Nat.le_refl _
  | .list xs,h,h2=>by
    simp only [PyData.shown,shW]
    have:=shownAll_le xs (by simpa [PyData.showable] using h) (by simpa [PyData.hasDict] using h2)
    have:=listText_le (PyData.shownAll xs)
    omega
  | .tuple xs,h,h2=>by
    simp only [PyData.shown,shW]
    have:=shownAll_le xs (by simpa [PyData.showable] using h) (by simpa [PyData.hasDict] using h2)
    have:=tupleText_le (PyData.shownAll xs)
    omega
  | .dict _,_,h=>by simp [PyData.hasDict] at h
theorem shownAll_le:∀ ds:List PyData,PyData.showableAll ds=true→PyData.hasDictAll ds=false→piled (PyData.shownAll ds)≤shWs ds
  | [],_,_=>by simp only [PyData.shownAll,shWs]; exact Nat.le_refl _
  | d::ds,h,h2=>by
    simp only [PyData.showableAll,Bool.and_eq_true] at h
    simp only [PyData.hasDictAll,Bool.or_eq_false_iff] at h2
    have:=shown_le d h.1 h2.1
    have:=shownAll_le ds h.2 h2.2
    simp only [PyData.shownAll,shWs,piled_cons]
    omega
end
theorem showInt {i:Int} {n:Nat} (h:i.natAbs<2^n) (hn:n≤1920:=by decide):PyData.showable (.int i)=true:=by
  simp only [PyData.showable]
  refine decide_eq_true (log_of_bits (Nat.le_trans (bitsOf h) hn) (by decide))
section
variable {X:Cx} (K:PySem.W.Frag)
theorem ix_seqK (h:X.K=K:=by rfl):IxR X (rIx K):=by subst h; exact ix_seq
theorem cl_sumK (hc:X.calm=true) (h:X.K=K:=by rfl):CallR X (.builtin "sum") (rSum K):=by subst h; exact cl_sum hc
end
end L2
set_option Elab.async false
set_option linter.all false
set_option maxRecDepth 100000
namespace L2
open PySem
section
variable {prog:Program} {w:World} {A:Around} {E:Value→Shared→Prop} {s:Shared}
end
end L2
set_option Elab.async false
set_option linter.all false
set_option maxRecDepth 100000
namespace L2
open PySem PySem.Spec PyProof.Rows
section
variable {X:Cx} {pins:List (Addr × Obj)} {σ:St} {H:Hp} {s:Shared} {h':Heap}
end
section
variable {prog:Program} {w:World} {A:Around} {E:Value→Shared→Prop} {s:Shared}
end
section
variable {X:Cx}
end
end L2
set_option Elab.async false
set_option linter.all false
set_option maxRecDepth 100000
namespace L2
open PySem PySem.Spec PyProof.Rows
def tDead:TS:=fun _ _ _=>False
theorem ws_dead {X:Cx} {st:Stmt}:PSw X st tDead:=⟨fun _ _ _ _ _ _ h=>h.elim⟩
section
variable {prog:Program} {w:World} {A:Around} {E:Value→Shared→Prop} {s:Shared}
end
end L2
set_option Elab.async false
set_option linter.all false
set_option maxRecDepth 100000
namespace L2
open PySem PySem.Spec PyProof.Rows
section
variable {prog:Program} {w:World} {A:Around} {E:Value→Shared→Prop} {s:Shared}
end
section
variable {X:Cx}
end
@[irreducible] def rJoin (K:PySem.W.Frag):V→List V→Hp→VK→Prop:=fun x vs H Q=>∃ sep p ts,x=.str sep∧vs=[.ref p]∧(SqL K H p (ts.map V.str)∨SqT K H p (ts.map V.str))∧(ts.map (·.length)).sum+ts.length*sep.length≤16777216∧Q (.str (Txt.join sep ts)) H
theorem rjoin {K:PySem.W.Frag} {H:Hp} {Q:VK} {sep:Str} {p:Addr} {ts:List Str} (h:SqL K H p (ts.map V.str)∨SqT K H p (ts.map V.str)) (z:(ts.map (·.length)).sum+ts.length*sep.length≤16777216) (q:Q (.str (Txt.join sep ts)) H):rJoin K (.str sep) [.ref p] H Q:=by
  unfold rJoin; exact ⟨sep,p,ts,rfl,rfl,h,z,q⟩
theorem strs_vals:∀ {ts:List Str} {us:List Value},Vals (ts.map V.str) us→StrsAre us ts
  | [],_,h=>by cases h; exact .nil
  | t::ts,_,h=>by
    cases h with
    | cons r rr=>obtain ⟨tk,rfl⟩:=r; exact .cons t tk (strs_vals rr)
theorem mt_join {X:Cx} (K:PySem.W.Frag) (hK:X.K=K:=by rfl):MtR X "str.join" (rJoin K):=by
  subst hK
  unfold rJoin
  intro pins s σ H x vs v us Q I rx rv h
  obtain ⟨sep,p,ts,rfl,rfl,hp,z,q⟩:=h
  obtain ⟨t,rfl⟩:=rx
  obtain ⟨u,rfl,ru⟩:=vals1 rv
  cases ru
  rcases hp with hp | hp
  · obtain ⟨its,r,pl,_⟩:=I.list hp
    exact join_list pl.isList (strs_vals (by simpa using r)) z fun t' k=>⟨.str _,H,I.tok _,⟨_,rfl⟩,q⟩
  · obtain ⟨its,r,pl,_⟩:=I.tuple hp
    exact join_tuple pl (strs_vals (by simpa using r)) z fun t' k=>⟨.str _,H,I.tok _,⟨_,rfl⟩,q⟩
end L2
set_option Elab.async false
set_option linter.all false
set_option maxRecDepth 100000
namespace L2
open PySem PySem.Spec PyProof.Rows
section
variable {X:Cx}
end
end L2
set_option Elab.async false
set_option linter.all false
set_option maxRecDepth 100000
namespace L2
open PySem
mutual
def RepK (K:PySem.W.Frag) (H:Hp):PyData→V→Prop
  | .none,v=>v=.non
  | .bool b,v=>v=.bl b
  | .int i,v=>v=.int i
  | .str x,v=>v=.str x
  | .list ds,v=>∃ a xs,v=.ref a∧H a=some (.lst xs)∧RepKL K H ds xs
  | .tuple ds,v=>∃ a xs,v=.ref a∧SqT K H a xs∧RepKL K H ds xs
  | .dict kvs,v=>kvs=[]∧∃ a,v=.ref a∧H a=some (.dK [])
def RepKL (K:PySem.W.Frag) (H:Hp):List PyData→List V→Prop
  | [],vs=>vs=[]
  | d::ds,vs=>∃ x xs,vs=x::xs∧RepK K H d x∧RepKL K H ds xs
end
mutual
theorem Rep.k {K:PySem.W.Frag} {H:Hp}:∀ {d:PyData} {v:V},Rep H d v→RepK K H d v
  | .none,_,h=>h
  | .bool _,_,h=>h
  | .int _,_,h=>h
  | .str _,_,h=>h
  | .list ds,_,h=>by
    unfold Rep at h; unfold RepK
    obtain ⟨a,xs,rfl,h1,h2⟩:=h
    exact ⟨a,xs,rfl,h1,RepL.k h2⟩
  | .tuple ds,_,h=>by
    unfold Rep at h; unfold RepK
    obtain ⟨a,xs,rfl,h1,h2⟩:=h
    exact ⟨a,xs,rfl,SqT.of h1,RepL.k h2⟩
  | .dict kvs,_,h=>by unfold Rep at h; unfold RepK; exact h
theorem RepL.k {K:PySem.W.Frag} {H:Hp}:∀ {ds:List PyData} {vs:List V},RepL H ds vs→RepKL K H ds vs
  | [],_,h=>h
  | d::ds,_,h=>by
    unfold RepL at h; unfold RepKL
    obtain ⟨x,xs,rfl,h1,h2⟩:=h
    exact ⟨x,xs,rfl,Rep.k h1,RepL.k h2⟩
end
section
variable {X:Cx} {pins:List (Addr × Obj)} {σ:St} {H:Hp} {s:Shared}
mutual
theorem RepK.reads (I:Inv X pins σ H s):∀ {d:PyData} {v:V} {u:Value},RepK X.K H d v→RelV v u→∃ as,Reads s.heap u d as
  | .none,_,u,h,r=>by
    cases (show _=V.non from h); cases (show u=Value.none from r); exact ⟨_,.none⟩
  | .bool b,_,u,h,r=>by
    cases (show _=V.bl b from h); cases (show u=Value.bool b from r); exact ⟨_,.bool b⟩
  | .int b,_,u,h,r=>by
    cases (show _=V.int b from h); obtain ⟨t,q⟩:=(show ∃ t,u=Value.int b t from r); cases q; exact ⟨_,.int b t⟩
  | .str b,_,u,h,r=>by
    cases (show _=V.str b from h); obtain ⟨t,q⟩:=(show ∃ t,u=Value.str b t from r); cases q; exact ⟨_,.str b t⟩
  | .list ds,v,u,h,r=>by
    unfold RepK at h
    obtain ⟨a,xs,rfl,h1,h2⟩:=h
    cases (show u=Value.ref a from r)
    obtain ⟨_,its,n,r',e⟩:=(show ObjOk X.prog X.w H s.heap a (.lst xs) from I.hok a _ h1)
    obtain ⟨as,q⟩:=RepKL.reads I h2 r'
    exact ⟨_,.list e rfl rfl (by simpa using q)⟩
  | .tuple ds,v,u,h,r=>by
    unfold RepK at h
    obtain ⟨a,xs,rfl,h1,h2⟩:=h
    cases (show u=Value.ref a from r)
    obtain ⟨its,r',⟨o,e,hc,n,hd⟩,_⟩:=I.tuple h1
    obtain ⟨as,q⟩:=RepKL.reads I h2 r'
    exact ⟨_,.tuple e hc hd (by simpa using q)⟩
  | .dict kvs,v,u,h,r=>Rep.reads I (d:=.dict kvs) (by unfold Rep; unfold RepK at h; exact h) r
theorem RepKL.reads (I:Inv X pins σ H s):∀ {ds:List PyData} {vs:List V} {us:List Value},RepKL X.K H ds vs→Vals vs us→∃ as,ReadsAll s.heap us ds as
  | [],_,us,h,r=>by
    cases (show _=[] from h); cases r; exact ⟨_,.nil⟩
  | d::ds,_,us,h,r=>by
    unfold RepKL at h
    obtain ⟨x,xs,rfl,h1,h2⟩:=h
    cases r with
    | cons r1 r2 =>
      obtain ⟨as,q1⟩:=RepK.reads I h1 r1
      obtain ⟨bs,q2⟩:=RepKL.reads I h2 r2
      exact ⟨_,.cons q1 q2⟩
end
end
section
variable {X:Cx}
end
section
variable {K:PySem.W.Frag} {H:Hp} {p:Addr} {xs:List V} {i:Int} {v:V} {Q:VK}
end
theorem cutV_lo (xs:List V) (k:Nat):cutV xs (some (k:Int)) none=xs.drop k:=by
  unfold cutV
  rw [HT.sIx_nat,HT.sIx_none]
  by_cases h:k≤xs.length
  · rw [Nat.min_eq_left h]
    exact List.take_of_length_le (by rw [List.length_drop]; exact Nat.le_refl _)
  · rw [Nat.min_eq_right (by omega),List.drop_of_length_le (Nat.le_refl _),List.drop_of_length_le (by omega),List.take_nil]
theorem cutV_hi (xs:List V) (k:Nat):cutV xs none (some (k:Int))=xs.take k:=by
  unfold cutV
  rw [HT.sIx_nat,HT.sIx_none,List.drop_zero,Nat.sub_zero]
  by_cases h:k≤xs.length
  · rw [Nat.min_eq_left h]
  · rw [Nat.min_eq_right (by omega),List.take_of_length_le (Nat.le_refl _),List.take_of_length_le (by omega)]
@[irreducible] def rSlN (K:PySem.W.Frag):V→Option Int→Option Int→Hp→VK→Prop:=rSlL K
theorem sl_listN {X:Cx} (K:PySem.W.Frag) (h:X.K=K:=by rfl):SlR X (rSlN K):=by subst h; unfold rSlN; exact sl_list
theorem slL {K:PySem.W.Frag} {H:Hp} {a:Addr} {xs ys:List V} {lo hi:Option Int} {Q:VK} (h:H a=some (.lst xs)) (e:cutV xs lo hi=ys) (k:∀ q H',H q=none→H' q=some (.lst ys)→Same H H'→Q (.ref q) H'):rSlN K (.ref a) lo hi H Q:=by
  unfold rSlN; exact ⟨a,xs,rfl,SqL.of h,fun p hp=>by rw [e]; exact k p _ hp upd_same (Same.upd hp)⟩
end L2
set_option Elab.async false
set_option linter.all false
set_option maxRecDepth 100000
namespace L2
open PySem
section
variable {σ:St} {js:List Nat} {te:TE} {H:Hp} {Q:VK}
theorem snoc_all {R:Nat→V→Prop} {ys:List V} {y:V} (h:∀ (j:Nat) z,ys[j]?=some z→R j z) (r:R ys.length y):∀ (j:Nat) z,(ys++[y])[j]?=some z→R j z:=fun j z hj=>by
  by_cases hji:j<ys.length
  · rw [List.getElem?_append_left hji] at hj; exact h j z hj
  · rw [List.getElem?_append_right (by omega)] at hj
    have:j - ys.length=0:=by
      by_cases q:j - ys.length=0
      · exact q
      · rw [List.getElem?_eq_none (by simp; omega)] at hj; cases hj
    rw [this] at hj
    have hj':y=z:=by simpa using hj
    have:j=ys.length:=by omega
    subst this hj'
    exact r
theorem comp_mapT {J:It} {n:Nat} (src:Nat→V→Prop) (R:Nat→V→Hp→Prop) (hR:∀ i y H1 H2,SameT H1 H2→R i y H1→R i y H2) (hz:n≤100000)
    (hg:∀ i H',Same H H'→i<n→J.go i H'∧∀ x H3,J.yld i H' x H3→H3=H'∧src i x) (hst:∀ H',Same H H'→J.stop n H')
    (hs:∀ i x H' (Q':VK),src i x→i<n→Same H H'→(∀ y H5,Same H' H5→R i y H5→Q' y H5)→te (some x::slots σ js) H' Q')
    (hd:∀ D ys H',H D=none→H' D=some (.lst ys)→Same H H'→ys.length=n→(∀ (i:Nat) (y:V),ys[i]?=some y→R i y H')→Q (.ref D) H'):CompB J σ js tYes te H Q:=by
  refine comp_any (J:=J) (n:=n) src hz (fun D i ys H'=>H D=none∧Same H H'∧∀ (i:Nat) (y:V),ys[i]?=some y→R i y H') (fun D H1 hD _ s=>⟨hD,s,fun i y h=>by simp at h⟩)
    (fun D i ys H' hi _ p=>hg i H' p.2.1 hi) (fun D ys H' _ p=>hst H' p.2.1) (fun D i x ys H' hx hi hy hD p=>?_) (fun D ys H' hy hD hD' p=>hd D ys H' hD hD' p.2.1 hy p.2.2)
  refine hs i x H' _ hx hi p.2.1 fun y H5 s5 r=>?_
  refine ⟨s5 _ _ hD,fun H6 hD6 s6=>⟨p.1,Same.thru p.1 (p.2.1.trans s5) s6,?_⟩⟩
  have t6:=s6.t (s5 _ _ hD)
  exact snoc_all (R:=fun j z=>R j z H6) (fun j z hj=>hR j z _ _ (s5.t.trans t6) (p.2.2 j z hj)) (by rw [hy]; exact hR i y _ _ t6 r)
theorem comp_mapL {K:PySem.W.Frag} {a:Addr} {xs:List V} (R:Nat→V→Hp→Prop) (hR:∀ i y H1 H2,SameT H1 H2→R i y H1→R i y H2) (hz:xs.length≤100000) (hl:H a=some (.lst xs))
    (hs:∀ i x H' (Q':VK),xs[i]?=some x→Same H H'→(∀ y H5,Same H' H5→R i y H5→Q' y H5)→te (some x::slots σ js) H' Q')
    (hd:∀ D ys H',H D=none→H' D=some (.lst ys)→Same H H'→ys.length=xs.length→(∀ (i:Nat) (y:V),ys[i]?=some y→R i y H')→Q (.ref D) H'):CompB (Itl K a) σ js tYes te H Q :=
  comp_mapT (fun i x=>xs[i]?=some x) R hR hz (fun i H' s hi=>⟨⟨xs,xs[i],SqL.of (s _ _ hl),by simp [hi]⟩,fun x H3 y=>⟨y.1,y.2 xs (SqL.of (s _ _ hl))⟩⟩) (fun H' s=>⟨xs,SqL.of (s _ _ hl),Nat.le_refl _⟩)
    (fun i x H' Q' hx _ s k=>hs i x H' Q' hx s k) hd
theorem comp_mapU {K:PySem.W.Frag} {a:Addr} {xs:List V} (R:Nat→V→Hp→Prop) (hR:∀ i y H1 H2,SameT H1 H2→R i y H1→R i y H2) (hz:xs.length≤100000) (hl:H a=some (.tup xs))
    (hs:∀ i x H' (Q':VK),xs[i]?=some x→Same H H'→(∀ y H5,Same H' H5→R i y H5→Q' y H5)→te (some x::slots σ js) H' Q')
    (hd:∀ D ys H',H D=none→H' D=some (.lst ys)→Same H H'→ys.length=xs.length→(∀ (i:Nat) (y:V),ys[i]?=some y→R i y H')→Q (.ref D) H'):CompB (Itt K a) σ js tYes te H Q :=
  comp_mapT (fun i x=>xs[i]?=some x) R hR hz (fun i H' s hi=>⟨⟨xs,xs[i],SqT.of (s _ _ hl),by simp [hi]⟩,fun x H3 y=>⟨y.1,y.2 xs (SqT.of (s _ _ hl))⟩⟩) (fun H' s=>⟨xs,SqT.of (s _ _ hl),Nat.le_refl _⟩)
    (fun i x H' Q' hx _ s k=>hs i x H' Q' hx s k) hd
theorem comp_mapR {lo:Int} {n:Nat} (R:Nat→V→Hp→Prop) (hR:∀ i y H1 H2,SameT H1 H2→R i y H1→R i y H2) (hz:n≤100000)
    (hs:∀ i H' (Q':VK),i<n→Same H H'→(∀ y H5,Same H' H5→R i y H5→Q' y H5)→te (some (.int (lo+(i:Nat)))::slots σ js) H' Q')
    (hd:∀ D ys H',H D=none→H' D=some (.lst ys)→Same H H'→ys.length=n→(∀ (i:Nat) (y:V),ys[i]?=some y→R i y H')→Q (.ref D) H'):CompB (Itr lo n) σ js tYes te H Q :=
  comp_mapT (fun i x=>x=.int (lo+(i:Nat))) R hR hz (fun i H' s hi=>⟨hi,fun x H3 y=>y⟩) (fun H' s=>Nat.le_refl _)
    (fun i x H' Q' hx hi s k=>by subst hx; exact hs i H' Q' hi s k) hd
theorem SameBut.thru {p l:Addr} {H0 H1 H2:Hp} (hl:H0 l=none) (s:SameBut p H0 H1) (b:SameBut l H1 H2):SameBut p H0 H2:=fun c o e=>by
  have n:=Hide.ne e
  have e0:H0 c=some o:=by rw [Hide.at n] at e; exact e
  have nl:c≠l:=fun z=>by subst z; rw [hl] at e0; cases e0
  exact Hide.of n (b.at nl (s.at n e0))
end
theorem RepL.ofIdx {H:Hp}:∀ {ds:List PyData} {ys:List V},ys.length=ds.length→(∀ (i:Nat) (y:V),ys[i]?=some y→∃ d,ds[i]?=some d∧Rep H d y)→RepL H ds ys
  | [],[],_,_=>RepL.nil
  | d::ds,y::ys,hl,h=>by
    obtain ⟨d',e,r⟩:=h 0 y rfl
    cases (show d=d' by simpa using e)
    exact RepL.cons r (RepL.ofIdx (by simpa using hl) fun i z hz=>by simpa using h (i+1) z (by simpa using hz))
  | [],_::_,hl,_=>by simp at hl
  | _::_,[],hl,_=>by simp at hl
theorem ints_of {P:Nat→Int→Prop}:∀ {ys:List V},(∀ (i:Nat) (y:V),ys[i]?=some y→∃ n,y=.int n∧P i n)→∃ ns:List Int,ys=ns.map V.int∧∀ (i:Nat) n,ns[i]?=some n→P i n
  | [],_=>⟨[],rfl,fun i n h=>by simp at h⟩
  | y::ys,h=>by
    obtain ⟨n,rfl,hn⟩:=h 0 y rfl
    obtain ⟨ns,rfl,hs⟩:=ints_of (P:=fun i=>P (i+1)) (ys:=ys) fun i z hz=>h (i+1) z (by simpa using hz)
    refine ⟨n::ns,rfl,fun i m hm=>?_⟩
    cases i with
    | zero=>cases (show n=m by simpa using hm); exact hn
    | succ i=>exact hs i m (by simpa using hm)
end L2
set_option Elab.async false
set_option linter.all false
set_option maxRecDepth 100000
namespace L2
open PySem PySem.Spec PyProof.Rows
section
variable {X:Cx}
@[irreducible] def rCatU (K:PySem.W.Frag):R2:=fun x y H Q=>∃ a b xs ys,x=.ref a∧y=.ref b∧H a=some (.tup xs)∧H b=some (.tup ys)∧xs.length+ys.length≤1000∧∀ c H',Same H H'→H' c=some (.tup (xs++ys))→Q (.ref c) H'
theorem catU {K:PySem.W.Frag} {H:Hp} {Q:VK} {a b:Addr} {xs ys:List V} (h1:H a=some (.tup xs)) (h2:H b=some (.tup ys)) (hz:xs.length+ys.length≤1000) (k:∀ c H',Same H H'→H' c=some (.tup (xs++ys))→Q (.ref c) H'):rCatU K (.ref a) (.ref b) H Q:=by
  unfold rCatU; exact ⟨a,b,xs,ys,rfl,rfl,h1,h2,hz,k⟩
theorem op_catU (K:PySem.W.Frag) (hK:X.K=K:=by rfl):OpR X (binaryOp .Add) (rCatU K):=by
  subst hK
  unfold rCatU
  intro pins s σ H x y v u Q I rx ry h
  obtain ⟨a,b,xs,ys,rfl,rfl,ha,hb,hz,q⟩:=h
  by_cases hx:xs=[]
  · cases rx
    cases ry
    subst hx
    obtain ⟨its,r1,p1,_⟩:=I.tuple (SqT.of ha)
    obtain ⟨its2,r2,p2,_⟩:=I.tuple (SqT.of hb)
    cases r1
    obtain ⟨⟨cls,dd,data,sl⟩,ho,hc,n,hd⟩:=id p1
    obtain ⟨⟨cls2,dd2,data2,sl2⟩,ho2,hc2,n2,hd2⟩:=id p2
    simp only at hc hd hc2 hd2
    subst hc hd hc2 hd2
    exact concat_meets ⟨_,ho,rfl⟩ ⟨_,ho2,rfl⟩ noFill_tuple_add seq_tuple_add PySem.F.slot_tuple_add PySem.F.entry_tuple_add (PySem.F.args_tuple_add_2 _ _)
      (tuple_addW0 a b _ _ n n2 dd dd2 sl sl2 rfl) ⟨ho,ho2,⟨.ref b,H,I,rfl,q b H (Same.refl _) hb⟩⟩
  · refine op_catT pins s σ H _ _ v u Q I rx ry ⟨a,b,xs,ys,rfl,rfl,SqT.of ha,SqT.of hb,hx,Nat.le_trans hz (by decide),fun e=>?_,fun _ p hp=>q p _ (Same.upd hp) upd_same⟩
    subst e
    exact q a H (Same.refl _) (by rw [List.append_nil]; exact ha)
end
theorem int_rmul_tuple (a:Int) (t:Tok) (l:Addr) (items:Array Value) (n:Nat) (dd:Option Addr) (sl:Array (Option Value)) :
    Meets (Builtin.«int.__rmul__» ⟨[.int a t,.ref l],[]⟩) (fun _ R s=>s.heap.get? l=some { cls:=.type "tuple",dict:=dd,data:=.seq items n,slots:=sl }∧R (.ok (.ret Value.notImplemented)) s) :=
  .of_wp fun prog w A R s h=>by
    obtain ⟨hp,g,d,tk,os⟩:=s
    obtain ⟨hl,h⟩:=h
    wp_walk
    exact ⟨_,rfl,h⟩
theorem tuple_mulM (l:Addr) (items:Array Value) (n:Nat) (dd:Option Addr) (sl:Array (Option Value)) (k:Int) (u:Tok) (h0:2≤k) (h1:k≤64) (he:items.isEmpty=false) (hz:items.size≤64) (hsz:((List.replicate k.toNat items).foldl (· ++ ·) #[]).size≤sizeLine) :
    Meets (Builtin.«tuple.__mul__» ⟨[.ref l,.int k u],[]⟩) (fun _ R s=>s.heap.get? l=some { cls:=.type "tuple",dict:=dd,data:=.seq items n,slots:=sl }∧R (.ok (.ret (.ref s.heap.objs.size))) { s with heap:=s.heap.push { cls:=.type "tuple",data:=.seq ((List.replicate k.toNat items).foldl (· ++ ·) #[]) } }) :=
  .of_wp fun prog w A R s h=>by
    obtain ⟨hp,g,d,tk,os⟩:=s
    obtain ⟨hl,h⟩:=h
    have f1:=AutoSeq1.idx_int
    wp_walk using wpAny_loadPart' hl
    rw [if_neg (by simp; omega)]
    wp_walk using wpAny_loadPart' hl
    have he':¬ items=#[]:=fun z=>by simp [z] at he
    have hm:(items.size:Int)*k≤4096:=by
      have h2:(items.size:Int)*k≤64*64:=Int.mul_le_mul (by omega) h1 (by omega) (by omega)
      omega
    rw [if_neg (by simp; exact ⟨he',by omega⟩)]
    rw [if_neg (by simp; exact ⟨by omega,he'⟩)]
    show wpAny _ _ (if (items.size:Int)*k > (2^63 - 1) / 8 then _ else _) _ _ _
    rw [if_neg (by omega)]
    show wpAny _ _ (if Builtin.Tuple.tupleTooMany (items.size*k)=true then _ else _) _ _ _
    rw [if_neg (by unfold Builtin.Tuple.tupleTooMany; simp; exact Int.le_trans hm (by decide))]
    wp_walk
    exact ⟨_,rfl,h⟩
theorem noFill_tuple_mul:fillsNumberSlot (.type "tuple") "mul" = pure false:=PySem.fillsNumberSlot_seq (id := "tuple.__mul__") (r:=some (.builtin "tuple.__rmul__")) F.slot_tuple_mul.lookup (by decide +kernel) F.slot_tuple_rmul.lookup (by decide +kernel)
theorem repeat_tuple:seqRepeat? (.type "tuple")=pure (some (.builtin "tuple.__mul__")):=by
  unfold seqRepeat?; rw [PySem.seqSlot_of (T := "tuple") (name := "__mul__") (id := "tuple.__mul__") F.slot_tuple_mul.lookup (by decide +kernel),PySem.seqSlot_of (T := "tuple") (name := "__rmul__") (id := "tuple.__rmul__") F.slot_tuple_rmul.lookup (by decide +kernel)]; rfl
@[irreducible] def rMulT:R2:=fun x y H Q=>∃ a z,∃ k:Nat,x=.ref a∧y=.int (k:Int)∧H a=some (.tup [z])∧2≤k∧k≤64∧∀ c H',Same H H'→H' c=some (.tup (List.replicate k z))→Q (.ref c) H'
theorem mulT {H:Hp} {Q:VK} {a:Addr} {z:V} {k:Nat} (h:H a=some (.tup [z])) (h2:2≤k) (hk:k≤64) (q:∀ c H',Same H H'→H' c=some (.tup (List.replicate k z))→Q (.ref c) H'):rMulT (.ref a) (.int (k:Int)) H Q:=by
  unfold rMulT; exact ⟨a,z,k,rfl,rfl,h,h2,hk,q⟩
section
variable {X:Cx}
theorem op_mulT:OpR X (binaryOp .Mult) rMulT:=by
  unfold rMulT
  intro pins s σ H x y v u Q I rx ry h
  obtain ⟨a,z,k,rfl,rfl,hH,h2,hk,q⟩:=h
  cases rx
  obtain ⟨t,rfl⟩:=(show ∃ t,u=Value.int (k:Int) t from ry)
  obtain ⟨its,r,p,_⟩:=I.tuple (SqT.of hH)
  obtain ⟨w1,rfl,rw1⟩:=vals1 r
  obtain ⟨⟨cls,dd,data,sl⟩,ho,hc,n,hd⟩:=id p
  simp only at hc hd
  subst hc hd
  have flat1:∀ k:Nat,(List.replicate k [w1]).flatten=List.replicate k w1:=fun k=>by
    induction k with
    | zero=>rfl
    | succ k ih=>rw [List.replicate_succ,List.flatten_cons,ih,List.replicate_succ]; rfl
  have f0:List.foldl (fun x1 x2=>x1++x2) #[] (List.replicate k [w1].toArray)=(List.replicate k w1).toArray:=by
    have:=foldl_rep [w1] k []
    rw [List.nil_append,flat1] at this
    exact this
  have vr:∀ k:Nat,Vals (List.replicate k z) (List.replicate k w1):=fun k=>by
    induction k with
    | zero=>exact .nil
    | succ k ih=>exact .cons rw1 ih
  generalize hk':(k:Int)=kk
  have hkk:kk.toNat=k:=by omega
  refine wpAny_binaryOp_repeat_ref (T := "tuple") (U := "int") (by decide) ⟨_,ho,rfl⟩ (fun s'=>typeIs_int s' kk t) noFill_tuple_mul F.fills_int_mul F.slot_int_rmul repeat_tuple F.slot_int_index.lookup
    (call_meets F.slot_int_rmul (typeIs_int s kk t) F.entry_int_rmul (F.args_int_rmul_2 _ _) (int_rmul_tuple kk t a [w1].toArray n dd sl) ⟨ho,rfl,⟨_,ho,rfl⟩,?_⟩)
  refine call_meets F.slot_tuple_mul ⟨_,ho,rfl⟩ F.entry_tuple_mul (F.args_tuple_mul_2 _ _) (tuple_mulM a [w1].toArray n dd sl kk t (by omega) (by omega) rfl (by show 1≤64; decide) (by rw [hkk,f0,List.size_toArray,List.length_replicate]; exact Nat.le_trans hk (by decide))) ⟨ho,?_⟩
  rw [hkk,f0]
  refine ⟨.ref _,_,I.laid (t':=s.toks) (o:=.tup (List.replicate k z)) (fun b ob q=>Heap.get?_push_of_some _ q) (Nat.le_refl _) ?_,rfl,q _ _ (Same.upd (I.hok.fresh (Nat.le_refl _))) upd_same⟩
  exact ⟨⟨by rw [List.length_replicate]; exact small64 hk,_,Heap.get?_push_size _ rfl,rfl⟩,_,vr k,IsTup.new _ _⟩
end
end L2
set_option Elab.async false
set_option linter.all false
set_option maxRecDepth 100000
namespace L2
open PySem PySem.Spec PyProof.Rows
theorem wt_mono {X:Cx} {e:Expr} {t:TT} (h:PTw X e t):PTw X e (tMono t):=⟨h.p.mono⟩
end L2
set_option Elab.async false
set_option linter.all false
set_option maxRecDepth 100000
namespace L2
open PySem
def ExcAt (h:Heap) (a:Addr) (cls:Value) (od:Option Addr) (st:Option (Addr × Value)):Prop :=
  ∃ oe vs,h.get? a=some oe∧oe.cls=cls∧oe.dict=od∧oe.data=.fields vs∧1<vs.size ∧
    match st with
    | none=>vs[1]?=some .none
    | some (T,fl)=>vs[1]?=some (.ref T)∧T≠a∧∃ oT ts,h.get? T=some oT∧oT.data=.fields ts∧3<ts.size∧ts[3]?=some fl
structure Kp (fs ex:List Addr) (h h':Heap):Prop where
  keep:∀ b o,h.get? b=some o→b ∉ fs→b ∉ ex→h'.get? b=some o
  slot:∀ b o,h.get? b=some o→b∈fs→b ∉ ex→∃ sl,h'.get? b=some { o with slots:=sl }
theorem Kp.any {fs ex:List Addr} {h h':Heap} (k:Kp fs ex h h') {b:Addr} {o:Obj} (e:h.get? b=some o) (n:b ∉ ex):∃ sl,h'.get? b=some { o with slots:=sl }:=by
  by_cases m:b∈fs
  · exact k.slot b o e m n
  · exact ⟨o.slots,k.keep b o e m n⟩
def stT:Option (Addr × Value)→List Addr
  | none=>[]
  | some (T,_)=>[T]
section
variable {M:Model} {A:Around} {E:Value→Shared→Prop} {s:Shared} {env:Env} {outer:List Env} {base:Heap} {L a:Addr} {cls:Value} {od:Option Addr}
theorem entry_ok {oe:Obj} {vs:Array Value} {head:Value} {had:Bool} {Q:Unit→Shared→Prop} (hfr:A.frames=some (env::outer)) (hl:s.heap.FunFrames base (env::outer)) (hf:env.frame=some L)
    (he:s.heap.get? a=some oe) (hc:oe.cls=cls) (ho:oe.dict=od) (hd:oe.data=.fields vs) (hz:1<vs.size)
    (k:∀ h' T',ExcAt h' a cls od (some (T',rawInt L))→s.heap.get? T'=none→Kp ((env::outer).filterMap (·.frame)) [a] s.heap h'→Q () { s with heap:=h' }) :
    wpAny M A (do
      let fo ← frameOf env
      let pl ← entryPlaceOf L had
      let en ← EntryCells.newEntry head fo .none (rawInt L) .none pl
      setField (.ref a) 1 en) Q E s:=by
  have na:a ∉ (env::outer).filterMap (·.frame):=fun m=>by
    obtain ⟨_,o,e,nf⟩:=hl.mem m
    rw [he] at e
    cases e
    exact nf vs hd
  refine wpAny_bind (wpAny_frameOf_fun hfr hl hf fun h1 so=>?_)
  refine wpAny_bind (wpAny_entryPlaceOf fun pl ip=>?_)
  unfold EntryCells.newEntry newFields
  refine wpAny_bind (wpAny_newObj_type ?_ (ip.sizeOk5 ..))
  have e1:h1.get? a=some oe:=(so.2.1 a na).trans he
  generalize hT:({ cls:=.type "traceback",dict:=none,data:=.fields ([head,Value.ref L,Value.none,rawInt L,Value.none]++(if pl.isEmpty then List.replicate 6 Value.none else pl)).toArray }:Obj)=oT
  have e2:(h1.push oT).get? a=some oe:=Heap.get?_push_of_some _ e1
  refine wpAny_setField e2 hd hz (k _ h1.objs.size ?_ ?_ ?_)
  · have ne:h1.objs.size≠a:=Nat.ne_of_gt (Heap.lt_size e1)
    have d3:=Obj.data_mapFields hd (·.setIfInBounds 1 (Value.ref h1.objs.size))
    refine ⟨_,_,Heap.get?_update_self _ e2 (Obj.isFreed_of_fields d3),?_,?_,d3,by simpa using hz,by simp [hz],ne,oT,_,?_,by rw [← hT],?_,?_⟩
    · rw [Obj.cls_mapFields]; exact hc
    · rw [← ho]
      obtain ⟨_,_,dt,_⟩:=oe
      cases dt <;> rfl
    · rw [Heap.get?_update_other _ _ (Ne.symm ne)]
      exact Heap.get?_push_size h1 (by rw [← hT]; rfl)
    · simp only [List.size_toArray,List.length_append,List.length_cons,List.length_nil] <;> omega
    · simp
  · cases q:s.heap.get? h1.objs.size with
    | none=>rfl
    | some o=>exact absurd (Heap.lt_size q) (by rw [so.1]; exact Nat.lt_irrefl _)
  · refine ⟨fun b o e n1 n2=>?_,fun b o e n1 n2=>?_⟩
    · have e3:h1.get? b=some o:=(so.2.1 b n1).trans e
      have nb:a≠b:=fun z=>n2 (by rw [z]; exact List.mem_cons_self)
      rw [Heap.get?_update_other _ _ nb]
      exact Heap.get?_push_of_some _ e3
    · obtain ⟨sl,e3⟩:=so.2.2 b o e
      have nb:a≠b:=fun z=>n2 (by rw [z]; exact List.mem_cons_self)
      refine ⟨sl,?_⟩
      rw [Heap.get?_update_other _ _ nb]
      exact Heap.get?_push_of_some _ e3
theorem note_ok {st:Option (Addr × Value)} {Q:Unit→Shared→Prop} (hfr:A.frames=some (env::outer)) (hl:s.heap.FunFrames base (env::outer)) (hf:env.frame=some L)
    (x:ExcAt s.heap a cls od st) (hst:st=none∨∃ T,st=some (T,.none))
    (k:∀ h' T',ExcAt h' a cls od (some (T',rawInt L))→s.heap.get? T'=none→Kp ((env::outer).filterMap (·.frame)) (a::stT st) s.heap h'→Q () { s with heap:=h' }) :
    wpAny M A (noteFrame (.ref a) env) Q E s:=by
  obtain ⟨oe,vs,he,hc,ho,hd,hz,x⟩:=x
  unfold noteFrame
  simp only [hf]
  rcases hst with rfl | ⟨T,rfl⟩
  · refine wpAny_bind (wpAny_field he hd x ?_)
    rw [if_neg (by decide)]
    exact entry_ok hfr hl hf he hc ho hd hz k
  · obtain ⟨x1,nT,oT,ts,hT,dT,zT,x3⟩:=x
    refine wpAny_bind (wpAny_field he hd x1 ?_)
    rw [if_pos (by simp)]
    refine wpAny_bind (wpAny_field hT dT x3 ?_)
    rw [if_neg (by simp [rawInt])]
    refine wpAny_bind (wpAny_setField hT dT zT ?_)
    have other:∀ b,b≠T→(s.heap.update T (Obj.mapFields (·.setIfInBounds 3 Value.none))).get? b=s.heap.get? b:=fun b hb=>Heap.get?_update_other _ _ (Ne.symm hb)
    have nrec:∀ b o,s.heap.get? b=some o→(∀ ws,o.data ≠ .fields ws)→b≠T:=fun b o e nf z=>by
      subst z; rw [hT] at e; cases e; exact nf ts dT
    refine entry_ok (hfr:=hfr) (hl:=hl.of_keeps fun b o e nf=>⟨o,(other b (nrec b o e nf)).trans e,rfl⟩) hf ((other a (Ne.symm nT)).trans he) hc ho hd hz fun h' T' y1 y2 y3=>k h' T' y1 ?_ ?_
    · by_cases z:T'=T
      · subst z
        have:=Heap.get?_update_self (Obj.mapFields (·.setIfInBounds 3 Value.none)) hT (Obj.isFreed_of_fields (Obj.data_mapFields dT _))
        rw [this] at y2; cases y2
      · rw [← other T' z]; exact y2
    · refine ⟨fun b o e n1 n2=>y3.keep b o ((other b fun z=>n2 (by rw [z]; simp [stT])).trans e) n1 fun z=>n2 (List.mem_cons.mpr (.inl (List.mem_singleton.mp z))),fun b o e n1 n2=>y3.slot b o ((other b fun z=>n2 (by rw [z]; simp [stT])).trans e) n1 fun z=>n2 (List.mem_cons.mpr (.inl (List.mem_singleton.mp z)))⟩
theorem land_ok {T:Addr} {fl:Value} {Q:Unit→Shared→Prop} (x:ExcAt s.heap a cls od (some (T,fl)))
    (k:∀ h',ExcAt h' a cls od (some (T,.none))→(∀ b o,b≠T→s.heap.get? b=some o→h'.get? b=some o)→Q () { s with heap:=h' }):wpAny M A (setFlight (.ref a) none) Q E s:=by
  obtain ⟨oe,vs,he,hc,ho,hd,hz,x1,nT,oT,ts,hT,dT,zT,x3⟩:=x
  unfold setFlight
  refine wpAny_bind (wpAny_field he hd x1 ?_)
  rw [if_pos (by simp)]
  refine wpAny_setField hT dT zT (k _ ?_ fun b o hb e=>?_)
  · have d2:=Obj.data_mapFields dT (·.setIfInBounds 3 Value.none)
    exact ⟨oe,vs,by rw [Heap.get?_update_other _ _ nT]; exact he,hc,ho,hd,hz,x1,nT,_,_,Heap.get?_update_self _ hT (Obj.isFreed_of_fields d2),d2,by simpa using zT,by simp [zT]⟩
  · rw [Heap.get?_update_other _ _ (Ne.symm hb)]; exact e
theorem leave_ok {st:Option (Addr × Value)} {Q:Unit→Shared→Prop} (hfr:A.frames=some (env::outer)) (hl:s.heap.FunFrames base (env::outer)) (hf:env.frame=some L)
    (x:ExcAt s.heap a cls od st) (hst:st=none∨∃ T,st=some (T,.none))
    (k:∀ h' T',ExcAt h' a cls od (some (T',.none))→s.heap.get? T'=none→Kp ((env::outer).filterMap (·.frame)) (a::stT st) s.heap h'→Q () { s with heap:=h' }) :
    wpAny M A (leaving env (.ref a)) Q E s:=by
  unfold leaving
  refine wpAny_bind (note_ok hfr hl hf x hst fun h1 T1 y1 y2 y3=>?_)
  refine land_ok y1 fun h2 z1 z2=>?_
  refine k h2 T1 z1 y2 ⟨fun b o e n1 n2=>z2 b o (fun q=>?_) (y3.keep b o e n1 n2),fun b o e n1 n2=>?_⟩
  · subst q; rw [y2] at e; cases e
  · obtain ⟨sl,e1⟩:=y3.slot b o e n1 n2
    exact ⟨sl,z2 b _ (fun q=>by subst q; rw [y2] at e; cases e) e1⟩
end
end L2
set_option Elab.async false
set_option linter.all false
set_option maxRecDepth 100000
namespace L2
open PySem PySem.Spec PyProof.Rows
section
variable {P:Program} {w:World} {H H1 H2:Hp} {h h1 h2 base:Heap} {fs fs2 ex:List Addr} {a:Addr} {o:HO}
theorem ObjOk.get (x:ObjOk P w H h a o):∃ ob,h.get? a=some ob:=by
  cases o with
  | lst xs=>obtain ⟨_,_,_,_,e⟩:=x; exact ⟨_,e⟩
  | tup xs=>obtain ⟨_,_,_,o,e,_⟩:=x; exact ⟨_,e⟩
  | dK kvs=>obtain ⟨_,_,_,_,o,_,_,e,_⟩:=x; exact ⟨_,e⟩
  | dT kvs=>obtain ⟨_,_,_,_,o,_,_,e,_⟩:=x; exact ⟨_,e⟩
  | set S n=>obtain ⟨o,_,_,_,e,_⟩:=x; exact ⟨_,e⟩
  | ins C dx fs=>obtain ⟨_,_,_,e,_⟩:=x; exact ⟨_,e⟩
  | own y=>obtain ⟨_,e⟩:=x; exact ⟨_,e⟩
  | xd fs=>obtain ⟨_,⟨_,_,_,e,_⟩,_⟩:=x; exact ⟨_,e⟩
  | rng lo hi=>obtain ⟨_,_,_,e⟩:=x; exact ⟨_,e⟩
  | frz ob u=>obtain ⟨e,_⟩:=x; exact ⟨_,e⟩
  | tbl ps=>exact ⟨_,(show h.get? a=some _ from x)⟩
  | met f y=>exact ⟨_,(show h.get? a=some _ from x)⟩
  | ext φ=>obtain ⟨_,e,_⟩:=x; exact e
theorem HOk.kp (x:HOk P w H h) (k:Kp fs ex h h1) (hf:∀ b∈fs,H b=none) (he:∀ b∈ex,H b=none):HOk P w H h1:=fun a o e =>
  (x a o e).stay (fun b u hb q=>by
    have nb:H b≠none:=by
      rcases hb with rfl | hb
      · rw [e]; simp
      · rw [hb]; simp
    exact k.keep b u q (fun z=>nb (hf b z)) fun z=>nb (he b z)) (fun _ q=>q) fun _ _ q=>q
theorem Un.tr (u:Un fs [] H H1 h h1) (v:Un fs2 [] H1 H2 h1 h2) (hf:∀ b∈fs2,b∈fs∨h.get? b=none):Un fs [] H H2 h h2 where
  keep:=fun b o e n m _=>v.keep b o (u.keep b o e n m (by simp)) (u.free b o e n (by simp)) (fun z=>(hf b z).elim m fun q=>by rw [e] at q; cases q) (by simp)
  slot:=fun b o e n m _=>by
    obtain ⟨s1,e1⟩:=u.slot b o e n m (by simp)
    obtain ⟨s2,e2⟩:=v.any e1 (u.free b o e n (by simp)) (by simp)
    exact ⟨s2,e2⟩
  free:=fun b o e n _=>by
    obtain ⟨o1,e1⟩:=u.there b o e (by simp)
    exact v.free b o1 e1 (u.free b o e n (by simp)) (by simp)
  there:=fun b o e _=>by
    obtain ⟨o1,e1⟩:=u.there b o e (by simp)
    exact v.there b o1 e1 (by simp)
  tups:=fun b xs e=>v.tups b xs (u.tups b xs e)
  frzs:=fun b ob xs e=>v.frzs b ob xs (u.frzs b ob xs e)
  tbls:=fun b ps e=>by
    obtain ⟨m1,e1⟩:=u.tbls b ps e
    obtain ⟨m2,e2⟩:=v.tbls b _ e1
    exact ⟨m1++m2,by rw [e2,Array.append_assoc]⟩
theorem Un.kp (u:Un fs [] H H1 h h1) (k:Kp fs2 ex h1 h2) (hf:∀ b∈fs2,b∈fs∨h.get? b=none) (he:∀ b∈ex,h.get? b=none):Un fs [] H H1 h h2 where
  keep:=fun b o e n m _=>k.keep b o (u.keep b o e n m (by simp)) (fun z=>(hf b z).elim m fun q=>by rw [e] at q; cases q) fun z=>by rw [he b z] at e; cases e
  slot:=fun b o e n m _=>by
    obtain ⟨s1,e1⟩:=u.slot b o e n m (by simp)
    obtain ⟨s2,e2⟩:=k.any e1 fun z=>by rw [he b z] at e; cases e
    exact ⟨s2,e2⟩
  free:=u.free
  there:=fun b o e _=>by
    obtain ⟨o1,e1⟩:=u.there b o e (by simp)
    obtain ⟨s2,e2⟩:=k.any e1 fun z=>by rw [he b z] at e; cases e
    exact ⟨_,e2⟩
  tups:=u.tups
  frzs:=u.frzs
  tbls:=u.tbls
theorem Un.put {u:HO} (x:Un fs [] H H1 h h1) (ha:h.get? a=none) (hn:H1 a=none):Un fs [] H (upd H1 a u) h h1 where
  keep:=x.keep
  slot:=x.slot
  free:=fun b ob e n m=>by rw [upd_ne (fun z=>by subst z; rw [ha] at e; cases e)]; exact x.free b ob e n m
  there:=x.there
  tups:=fun b xs e=>by rw [upd_ne (ne_of_none (x.tups b xs e) hn)]; exact x.tups b xs e
  frzs:=fun b ob xs e=>by rw [upd_ne (ne_of_none (x.frzs b ob xs e) hn)]; exact x.frzs b ob xs e
  tbls:=fun b ps e=>by
    obtain ⟨m,q⟩:=x.tbls b ps e
    exact ⟨m,by rw [upd_ne (ne_of_none q hn)]; exact q⟩
theorem HOk.put {u:HO} (x:HOk P w H h) (hn:H a=none) (new:ObjOk P w (upd H a u) h a u):HOk P w (upd H a u) h:=fun b v e=>by
  by_cases hb:b=a
  · subst hb; rw [upd_same] at e; cases e; exact new
  · rw [upd_ne hb] at e
    exact (x b v e).stay (fun c q _ r=>r) (fun c q=>by rw [upd_ne (ne_of_none q hn)]; exact q) fun c xs q=>by rw [upd_ne (ne_of_none q hn)]; exact q
theorem funFrames_kp:∀ {l:List Env},(∀ b∈frs l,∀ o,h.get? b=some o→∃ sl,h1.get? b=some { o with slots:=sl })→h.FunFrames base l→h1.FunFrames base l
  | [],_,_=>trivial
  | env::r,k,⟨hk,⟨L,o,hf,hn,ho,hd⟩,hr⟩=>by
    have hL:L∈frs (env::r):=List.mem_filterMap.mpr ⟨env,List.mem_cons_self,hf⟩
    obtain ⟨sl,e⟩:=k L hL o ho
    refine ⟨hk,⟨L,_,hf,hn,e,hd⟩,funFrames_kp (fun b hb=>k b ?_) hr⟩
    obtain ⟨e',m,q⟩:=List.mem_filterMap.mp hb
    exact List.mem_filterMap.mpr ⟨e',List.mem_cons_of_mem _ m,q⟩
end
def CX1 (P:Program) (w:World):CXT:=fun outer H s E e s'=>∃ (a T:Addr) (cls:Value) (od:Option Addr) (H':Hp),e=.ref a∧s'.os=s.os∧AllBare s'.gens∧Un (frs outer) [] H H' s.heap s'.heap∧HOk P w H' s'.heap ∧
  s.heap.get? a=none∧s.heap.get? T=none∧H' a=none∧H' T=none∧ExcAt s'.heap a cls od (some (T,.none))∧E cls od H'
structure XPass (X:Cx) (Ex:St→XK):Prop where
  p:∀ (pins:List (Addr × Obj)) (σ:St) (H:Hp) (s:Shared) (e:Value) (s':Shared),Inv X pins σ H s→CX1 X.prog X.w X.stack H s (Ex σ) e s'→X.xe e s'
structure XMade (X:Cx) (Ex:St→XK):Prop where
  p:∀ (pins:List (Addr × Obj)) (σ:St) (H:Hp) (s:Shared) (h':Heap) (tk:Nat) (a:Addr) (cls:Value) (od:Option Addr),Inv X pins σ H s→(∀ b o,s.heap.get? b=some o→h'.get? b=some o)→s.heap.get? a=none→H a=none →
    ExcAt h' a cls od none→Ex σ cls od H→X.xe (.ref a) { s with heap:=h',toks:=tk }
section
variable {P:Program} {w:World} {K:PySem.W.Frag} {mg:Str→Option Value} {base:Heap} {N:List Str} {qual:Str} {scope:Scope} {f:Addr} {cd:Value} {A:Around} {outer:List Env} {s:Shared} {H:Hp} {E:XK}
theorem leave_fn {pins:List (Addr × Obj)} {σ:St} {H1 H2:Hp} {s1 s2:Shared} {a:Addr} {cls:Value} {od:Option Addr} {st:Option (Addr × Value)}
    (I:Inv (cxOf (CX1 P w) P w K mg base N qual scope f cd A outer s H E) pins σ H1 s1) (os:s2.os=s1.os) (bare:AllBare s2.gens)
    (un:Un (frs (cxOf (CX1 P w) P w K mg base N qual scope f cd A outer s H E).stack) [] H1 H2 s1.heap s2.heap) (hok:HOk P w H2 s2.heap) (x:ExcAt s2.heap a cls od st) (hst:st=none∨∃ T,st=some (T,.none))
    (fa:s1.heap.get? a=none) (na:H2 a=none) (fT:∀ T∈stT st,s1.heap.get? T=none) (nT:∀ T∈stT st,H2 T=none) (q:E cls od H2) :
    (cxOf (CX1 P w) P w K mg base N qual scope f cd A outer s H E).xe (.ref a) s2:=by
  have hff:s2.heap.FunFrames (cxOf (CX1 P w) P w K mg base N qual scope f cd A outer s H E).base (cxOf (CX1 P w) P w K mg base N qual scope f cd A outer s H E).stack :=
    funFrames_kp (fun b hb o e=>un.any e (I.stkFree b hb) (by simp)) I.stack
  have old:∀ b,s1.heap.get? b=none→s.heap.get? b=none:=fun b e=>by
    cases q:s.heap.get? b with
    | none=>rfl
    | some o =>
      obtain ⟨o',e'⟩:=I.base.there b o q (by intro z; cases z)
      rw [e] at e'; cases e'
  have old2:∀ b,s2.heap.get? b=none→s1.heap.get? b=none:=fun b e=>by
    cases q:s1.heap.get? b with
    | none=>rfl
    | some o =>
      obtain ⟨o',e'⟩:=un.there b o q (by simp)
      rw [e] at e'; cases e'
  have hfs:∀ b∈frs (cxOf (CX1 P w) P w K mg base N qual scope f cd A outer s H E).stack,b∈frs outer∨s.heap.get? b=none:=fun b hb=>by
    have hb':b∈s.heap.objs.size::frs outer:=hb
    rcases List.mem_cons.mp hb' with z | z
    · right
      rw [z]
      exact Heap.get?_none_of_le (Nat.le_refl _)
    · exact .inl z
  show wpAny (model P w) (A.deeper (envOfC qual scope s.heap.objs.size f cd)) (leaving (envOfC qual scope s.heap.objs.size f cd) (.ref a)) _ _ s2
  refine leave_ok I.ok.frames hff rfl x hst fun h3 T3 y1 y2 y3=>?_
  have hfree:∀ b∈frs (cxOf (CX1 P w) P w K mg base N qual scope f cd A outer s H E).stack,H2 b=none:=fun b hb=>by
    have ff:=I.stack
    obtain ⟨_,o,ho,_⟩:=ff.mem hb
    exact un.free b o ho (I.stkFree b hb) (by simp)
  have hex:∀ b∈a::stT st,s1.heap.get? b=none:=fun b hb=>by
    rcases List.mem_cons.mp hb with rfl | hb
    · exact fa
    · exact fT b hb
  refine ⟨a,T3,cls,od,H2,rfl,os.trans I.os,bare,((I.base.tr un hfs).kp y3 hfs fun b hb=>old b (hex b hb)),hok.kp y3 hfree (fun b hb=>?_),old a fa,old T3 (old2 T3 y2),na,?_,y1,q⟩
  · rcases List.mem_cons.mp hb with rfl | hb
    · exact na
    · exact nT b hb
  · cases z:H2 T3 with
    | none=>rfl
    | some u =>
      obtain ⟨ob,e⟩:=(hok T3 u z).get
      rw [y2] at e; cases e
theorem xpass_fn:XPass (cxOf (CX1 P w) P w K mg base N qual scope f cd A outer s H E) (fun _=>E):=⟨fun pins σ H1 s1 e s2 I hc=>by
  obtain ⟨a,T,cls,od,H2,rfl,os,bare,un,hok,fa,fT,na,nT,x,q⟩:=hc
  exact leave_fn I os bare un hok x (.inr ⟨T,rfl⟩) fa na (fun b hb=>by cases List.mem_singleton.mp hb; exact fT) (fun b hb=>by cases List.mem_singleton.mp hb; exact nT) q⟩
theorem xmade_fn:XMade (cxOf (CX1 P w) P w K mg base N qual scope f cd A outer s H E) (fun _=>E):=⟨fun pins σ H1 s1 h' tk a cls od I k fa na x q =>
  leave_fn (s2:={ s1 with heap:=h',toks:=tk }) I rfl I.bare (Un.kept k) (I.hok.kept k) x (.inl rfl) fa na (fun b hb=>by cases hb) (fun b hb=>by cases hb) q⟩
end
section
variable {X:Cx} {k:Nat} {f C:Addr} {fd:FuncData} {ps:List Str} {sp:Sp} {Ex:St→XK} {x:Str} {p pos np cpos:Pos} {e:Expr} {es:List Expr} {t:TA}
end
theorem Fun.okx {P:Program} {w:World} {K:PySem.W.Frag} {mg:Str→Option Value} {base:Heap} {x qual:Str} {st:Stmt} {f:Addr} {fd:FuncData} {N ps:List Str} {k:Nat} {sp:Sp} (F:Fun K x qual st f fd) (S:FnScope N ps (defScope st)) (len:∀ vs H Q E,sp vs H Q E→vs.length=ps.length)
    (hbody:∀ (cdv:Value) (A:Around) (outer:List Env) (s:Shared) (H:Hp) (vs:List V) (Q:VK) (E:XK),Room k (A.deeper (envOfC qual (defScope st) s.heap.objs.size f cdv))→sp vs H Q E →
      XPass (cxOf (CX1 P w) P w K mg base N qual (defScope st) f cdv A outer s H E) (fun _=>E)→XMade (cxOf (CX1 P w) P w K mg base N qual (defScope st) f cdv A outer s H E) (fun _=>E) →
      ∃ t,PSsw (cxOf (CX1 P w) P w K mg base N qual (defScope st) f cdv A outer s H E) (defBody st) t∧t { nx:=fun _ H'=>Q .non H',rt:=Q } (start N vs) H):FnOk P w K mg base (CX1 P w) (k+1) f fd ps sp:=by
  obtain ⟨oc,od,kV,doc,pm,an,cdv,ct,osl,rfl,lk,hcd⟩:=F.ex
  refine fn_of lk hcd S len fun A outer s H vs Q E hr hsp=>?_
  obtain ⟨t,h,q⟩:=hbody cdv A outer s H vs Q E hr hsp xpass_fn xmade_fn
  exact ⟨t,h.p,q⟩
theorem exc_obj {K:PySem.W.Frag} {h:Heap} {C:Addr} {bmB:List Value} {newId:String} (X:K.In h) (q:PySem.W.excIn K C bmB newId=true) :
    ∃ bm N nm qn bs hdct sn sub ab col dd k0 k1 k2 k3 k5 mN,h.get? C=some (excClassObj nm qn C N bs bm hdct sn sub ab col dd k0 k1 k2 k3 k5 newId)∧h.Ns N mN∧mN "__init__" = none∧OwnTail h bmB bm:=by
  unfold PySem.W.excIn at q
  cases e:K.lookup C with
  | none=>rw [e] at q; cases q
  | some o =>
    rw [e] at q
    obtain ⟨oc,dd,dt,sl⟩:=o
    split at q
    · rename_i _ dd' cd sl' ho
      cases ho
      split at q
      · rename_i C' bm k0 k1 k2 k3 n k5 hm hs
        rw [Bool.and_eq_true,Bool.and_eq_true,Bool.and_eq_true,Bool.and_eq_true,Bool.and_eq_true] at q
        obtain ⟨⟨⟨⟨⟨q1,q2⟩,q3⟩,q4⟩,q5⟩,q6⟩:=q
        have q1:C'=C:=by simpa using q1
        have q2:n=newId:=by simpa using q2
        have q3:cd.hasDel=false:=by simpa using q3
        have q6:PySem.W.nsIn K cd.ns "__init__" = some none:=by simpa using q6
        subst q1 q2
        obtain ⟨nm,bs,mro,ns,qn,hd,sn,sub,ab,col,del⟩:=cd
        cases hm
        cases q3
        obtain ⟨l⟩:=sl
        cases hs
        exact ⟨bm,ns,nm,qn,bs,hd,sn,sub,ab,col,dd,k0,k1,k2,k3,k5,_,X _ _ e,.of_isNs (PySem.W.isNs_of_in X q5),PySem.W.nsMap_none_of_in X q5 q6,PySem.W.tail_of_in X q4⟩
      · cases q
    · cases q
theorem MadeExcOf.at {h h':Heap} {a:Addr} {cls:Value} {args:List Value} (x:Heap.MadeExcOf h h' a cls args):ExcAt h' a cls none none:=by
  obtain ⟨t,e,_,_⟩:=x.there
  exact ⟨_,_,e,rfl,rfl,rfl,by show 1<6; decide,rfl⟩
def tRaise (cls:Value) (Ex:St→XK) (t:TA):TS:=fun _ σ H=>t σ H fun vs H1=>vs.length≤64∧Ex σ cls none H1
abbrev mroVE:List Value:=[.type "ValueError",.type "Exception",.type "BaseException",.type "object"]
section
variable {X:Cx} {C:Addr} {Ex:St→XK} {x:Str} {pos np cpos:Pos} {e:Expr} {es:List Expr} {t:TA}
theorem ws_raise (q:PySem.W.excIn X.K C mroVE "ValueError.__new__" = true) (hm:X.mg x=some (.ref C)) (hc:X.calm=true) (hx:XMade X Ex) (ha:PAw X (e::es) t) (hg:Gl X x:=by rfl)
    (hdb:(x == ("__debug__" : Str))=false:=by decide) (he:starEach (e::es) X.env=(false,eval e X.env)::starEach es X.env:=by first | exact se_Name | exact se_Constant | exact se_BoolOp | exact se_BinOp | exact se_UnaryOp | exact se_IfExp | exact se_Dict | exact se_ListComp | exact se_Compare | exact se_Call | exact se_Attribute | exact se_Subscript | exact se_List | exact se_Tuple | exact se_JoinedStr | exact se_GeneratorExp)
    (hpl:(backTo cpos (starEach es X.env)).any (·.1)=false:=by repeat (first | exact ap_nil | refine ap_cons (by first | exact se_Name | exact se_Constant | exact se_BoolOp | exact se_BinOp | exact se_UnaryOp | exact se_IfExp | exact se_Dict | exact se_ListComp | exact se_Compare | exact se_Call | exact se_Attribute | exact se_Subscript | exact se_List | exact se_Tuple | exact se_JoinedStr | exact se_GeneratorExp) ?_)) :
    PSw X (.Raise (some (.Call (.Name x np) (e::es) [] cpos)) none pos) (tRaise (.ref C) Ex t):=⟨by
  intro pins s σ H D I h
  obtain ⟨bm,N,nm,qn,bs,hdct,sn,sub,ab,col,dd,k0,k1,k2,k3,k5,mN,hC,hN,hni,TL⟩:=exc_obj I.ok.mod.kin q
  have FB:=PySem.F.excBase_ValueError
  refine wpAny_Raise_call_subT (C:=C) (nm:=nm) (q:=qn) (N:=N) (bs:=bs) (bm:=bm) (hdct:=hdct) (sn:=sn) (sub:=sub) (ab:=ab) (col:=col) (dd:=dd) (k0:=k0) (k1:=k1) (k2:=k2) (k3:=k3) (k5:=k5) FB (mN:=mN)
    (TL.hasType FB.hasBase) (I.ok.hd hc) ?_ hni (ld_glob I hg hm ⟨rfl,?_⟩ hdb)
  · rw [he]
    show (false || (backTo cpos (starEach es X.env)).any (·.1))=false
    rw [hpl]; rfl
  · have hA:=ha.p cpos pins s σ H _ I h
    rw [he] at hA ⊢
    refine Calls.evalArgs_plain (thn hA fun us s1 ⟨vs,H1,I1,r,hz,q⟩=>⟨rfl,?_,I1.bk _ _ hC,hN.keeps I1.bk,TL.keeps I1.bk,fun h' a x=>?_⟩)
    · rw [← r.length]; exact small64 hz
    · have fresh:=x.new
      have na:H1 a=none:=by
        cases z:H1 a with
        | none=>rfl
        | some u=>obtain ⟨ob,e⟩:=(I1.hok a u z).get; rw [fresh] at e; cases e
      exact hx.p pins σ H1 s1 h' s1.toks a _ none I1 x.keeps fresh na (MadeExcOf.at x) q⟩
end
end L2
set_option Elab.async false
set_option linter.all false
set_option maxRecDepth 100000
namespace L2
open PySem PySem.W PySem.Spec PySem.Calls PyProof.Rows
structure ExcCls (K:Frag) (C:Addr):Prop where
  ga:findIn K (.ref C) "__getattribute__" = some (some (.builtin "BaseException.__getattribute__"))
  gt:findIn K (.ref C) "__getattr__" = some none
  sub:subIn K (.ref C) (.type "BaseException")=some true
  cls:(clsIn K C).isSome=true
  kc:findIn K (.ref C) "__class__" = some (some (.builtin "object.__class__"))
  kg:specialIn K (.builtin "object.__class__") "__get__" = some (some (.builtin "getset_descriptor.__get__"))
  kt:takesIn K (.builtin "object.__class__")=some true
  ob:mroIn K C (.type "object")=some true
section
variable {prog:Program} {w:World} {A:Around} {E:Value→Shared→Prop} {s:Shared} {K:Frag} {x C:Addr} {ox:Obj} {od:Option Obj} {name:Str}
end
end L2
set_option Elab.async false
set_option linter.all false
set_option maxRecDepth 100000
namespace L2
open PySem PySem.Spec PyProof.Rows
def ExcO (a C:Addr) (od:Option Addr):HO:=.ext fun h=>∃ oe vs,h.get? a=some oe∧oe.cls=.ref C∧oe.dict=od∧oe.data=.fields vs∧1<vs.size
theorem ExcO.ok {P:Program} {w:World} {H:Hp} {h:Heap} {a C:Addr} {od:Option Addr} {st:Option (Addr × Value)} (x:ExcAt h a (.ref C) od st):ObjOk P w H h a (ExcO a C od):=by
  obtain ⟨oe,vs,h1,h2,h3,h4,h5,_⟩:=x
  refine ⟨⟨oe,vs,h1,h2,h3,h4,h5⟩,⟨oe,h1⟩,?_⟩
  rintro g1 g2 ⟨oe,vs,e1,e2,e3,e4,e5⟩ k
  exact ⟨oe,vs,k _ e1,e2,e3,e4,e5⟩
def Cx.tryW (X:Cx) (pins:List (Addr × Obj)) (xe:Value→Shared→Prop):Cx:={ X with pn:=X.pn++pins,xe:=xe }
def Cx.suite (X:Cx) (a:Addr):Cx:={ X with A:=X.A.mark (some (.ref a)),calm:=false,xe:=fun _ _=>False }
structure Catch (K:PySem.W.Frag) (C2:Addr):Prop where
  ty:PySem.W.typeIn K (.ref C2)=some (.type "type")
  cls:(PySem.W.clsIn K C2).isSome=true
  sub:PySem.W.subIn K (.ref C2) (.type "BaseException")=some true
section
variable {X:Cx} {pins:List (Addr × Obj)} {σ:St} {H:Hp} {s:Shared}
theorem Inv.tryW (I:Inv X pins σ H s) (xe:Value→Shared→Prop):Inv (X.tryW pins xe) [] σ H s :=
  ⟨⟨I.ok.mod,I.ok.kind,I.ok.glob,I.ok.blt,I.ok.above,I.ok.inj,I.ok.has,I.ok.cab,I.ok.hd,I.ok.frames,I.ok.stk,I.ok.exf,I.ok.bs,I.ok.bsz,I.ok.noex,I.ok.exfs,I.ok.funs,I.ok.frf⟩,I.os,I.bare,I.base,I.loc,I.cell,I.free,I.freeC,
    fun p hp=>I.pin p (by have:p∈(X.pn++pins)++[]:=hp; rwa [List.append_nil] at this),I.hok,I.len⟩
theorem Inv.untry {xe:Value→Shared→Prop} {pins':List (Addr × Obj)} (I:Inv (X.tryW pins xe) pins' σ H s):Inv X pins σ H s :=
  ⟨⟨I.ok.mod,I.ok.kind,I.ok.glob,I.ok.blt,I.ok.above,I.ok.inj,I.ok.has,I.ok.cab,I.ok.hd,I.ok.frames,I.ok.stk,I.ok.exf,I.ok.bs,I.ok.bsz,I.ok.noex,I.ok.exfs,I.ok.funs,I.ok.frf⟩,I.os,I.bare,I.base,I.loc,I.cell,I.free,I.freeC,
    fun p hp=>I.pin p (List.mem_append_left _ hp),I.hok,I.len⟩
theorem Inv.suite (I:Inv X pins σ H s) (a:Addr):Inv (X.suite a) pins σ H s :=
  ⟨⟨I.ok.mod,I.ok.kind,I.ok.glob,I.ok.blt,I.ok.above,I.ok.inj,I.ok.has,I.ok.cab,(fun z=>by cases z),I.ok.frames,I.ok.stk,I.ok.exf,I.ok.bs,I.ok.bsz,I.ok.noex,I.ok.exfs,I.ok.funs,I.ok.frf⟩,I.os,I.bare,I.base,I.loc,I.cell,I.free,I.freeC,I.pin,I.hok,I.len⟩
theorem Inv.unsuite {a:Addr} (I:Inv (X.suite a) pins σ H s) (ok:X.Ok):Inv X pins σ H s:=⟨ok,I.os,I.bare,I.base,I.loc,I.cell,I.free,I.freeC,I.pin,I.hok,I.len⟩
theorem Inv.landed {a T:Addr} {C:Addr} {od:Option Addr} {H2:Hp} {s2:Shared} {h':Heap} {st:Option (Addr × Value)} (I:Inv X pins σ H s) (os:s2.os=s.os) (bare:AllBare s2.gens) (un:Un (frs X.stack) [] H H2 s.heap s2.heap) (hok:HOk X.prog X.w H2 s2.heap)
    (fa:s.heap.get? a=none) (fT:s.heap.get? T=none) (na:H2 a=none) (nT:H2 T=none) (k:Kp (frs X.stack) [a,T] s2.heap h') (x:ExcAt h' a (.ref C) od st):Inv X pins σ (upd H2 a (ExcO a C od)) { s2 with heap:=h' }:=by
  have hfree:∀ b∈frs X.stack,H2 b=none:=fun b hb=>by
    have ff:=I.stack
    obtain ⟨_,o,ho,_⟩:=ff.mem hb
    exact un.free b o ho (I.stkFree b hb) (by simp)
  have hex:∀ b∈[a,T],s.heap.get? b=none:=fun b hb=>by
    rcases List.mem_cons.mp hb with rfl | hb
    · exact fa
    · cases List.mem_singleton.mp hb; exact fT
  have hex2:∀ b∈[a,T],H2 b=none:=fun b hb=>by
    rcases List.mem_cons.mp hb with rfl | hb
    · exact na
    · cases List.mem_singleton.mp hb; exact nT
  exact I.call' (s':={ s2 with heap:=h' }) (ch:=[]) os ((un.kp k (fun b hb=>.inl hb) hex).put fa na) ((hok.kp k hfree hex2).put na (ExcO.ok x)) bare fun b hb=>by cases hb
end
section
variable {M:Model} {A:Around} {E:Value→Shared→Prop} {K:PySem.W.Frag} {s:Shared} {a C C2:Addr} {ox:Obj} {od:Option Obj}
theorem exc_hits' {Q:Bool→Shared→Prop} (X:K.In s.heap) (L4:PySem.W.Looks M s.heap (typeOf (.ref a)) (.ref C)) (c2:Catch K C2) (hsub:PySem.W.subIn K (.ref C) (.ref C2)=some true) (h:Q true s):wpAny M A (excMatches (.ref a) (.ref C2)) Q E s:=by
  have L1:=PySem.W.looks_typeIn (M:=M) X c2.ty
  have L2:=PySem.W.looks_subIn (M:=M) X c2.sub
  have L3:=PySem.W.looks_subIn (M:=M) X hsub
  have L5:PySem.W.Looks M s.heap (isType (.ref C2)) true:=by
    have e:=c2.cls
    unfold PySem.W.clsIn at e
    split at e
    · rename_i ho
      intro A' Q' E' s' k q
      unfold isType loadHead
      exact wpAny_bind (wpAny_loadPart (k _ _ (X _ _ ho)) (wpAny_pure q))
    · cases e
  have f:=tc_notTuple
  obtain ⟨hh,g,d,t,os⟩:=s
  unfold excMatches
  repeat (any_goals (first | assumption | (refine L1.at ?_) | (refine L2.at ?_) | (refine L3.at ?_) | (refine L4.at ?_) | (refine L5.at ?_) | wp_step))
end
end L2
set_option Elab.async false
set_option linter.all false
set_option maxRecDepth 100000
namespace L2
open PySem PySem.Spec PyProof.Rows
section
variable {X:Cx} {x n:Str} {np hpos pos:Pos} {b₀:Stmt} {body suite:List Stmt} {i:Nat} {C2:Addr} {tb:(St→XK)→TS} {th:TS}
end
end L2
set_option Elab.async false
set_option linter.all false
set_option maxRecDepth 100000
namespace L2
open PySem PySem.Spec PyProof.Rows
def tTryB (K:PySem.W.Frag) (C2:Addr) (tb:(St→XK)→TS) (th:TS):TS:=fun D σ H=>∃ Ex:St→XK,tb Ex D σ H ∧
  ∀ σ' cls od H',Ex σ' cls od H'→∃ C,cls=.ref C∧PySem.W.subIn K (.ref C) (.ref C2)=some true∧∀ a,H' a=none→th D σ' (upd H' a (ExcO a C od))
section
variable {X:Cx} {x:Str} {np hpos pos:Pos} {b₀:Stmt} {body suite:List Stmt} {C2:Addr} {tb:(St→XK)→TS} {th:TS}
theorem ws_tryB (hst:X.stack=X.env::X.outer) (hfm:X.env.frame=some X.env.locals) (hg:Gl X x) (hm:X.mg x=some (.ref C2)) (c2:Catch X.K C2)
    (hb:∀ pins xe Ex,XPass (X.tryW pins xe) Ex→PSsw (X.tryW pins xe) body (tb Ex)) (hs:∀ a,PSsw (X.suite a) (b₀::suite) th) (hd:(x == ("__debug__" : Str))=false:=by decide) :
    PSw X (.Try body [.ExceptHandler (some (.Name x np)) none (b₀::suite) hpos] [] [] pos) (tTryB X.K C2 tb th):=⟨by
  intro pins s σ H D I h
  obtain ⟨Ex,h1,h2⟩:=h
  refine wpAny_Try_except ?_
  generalize hxe:(fun (e:Value) (s₁:Shared)=>wpAny (model X.prog X.w) X.A (noteFrame e X.env) (fun _ s₂=>wpAny (model X.prog X.w) X.A (setFlight e none) (fun _ s₃ =>
    wpAny (model X.prog X.w) X.A (handleBy e X.env [.ExceptHandler (some (.Name x np)) none (b₀::suite) hpos]) (SP X pins D) X.xe s₃) X.xe s₂) X.xe s₁)=xe
  have hx:XPass (X.tryW pins xe) Ex:=⟨fun pins' σ' H1 s1 e s2 I' hc=>by
    obtain ⟨a,T,cls,od,H2,rfl,os,bare,un,hok,fa,fT,na,nT,x0,q⟩:=hc
    obtain ⟨C,rfl,hsub,k⟩:=h2 σ' cls od H2 q
    have I1:Inv X pins σ' H1 s1:=I'.untry
    have un:Un (frs X.stack) [] H1 H2 s1.heap s2.heap:=un
    have hff:s2.heap.FunFrames X.base (X.env::X.outer):=by
      rw [← hst]
      exact funFrames_kp (fun b hb o e=>un.any e (I1.stkFree b hb) (by simp)) I1.stack
    show xe (.ref a) s2
    rw [← hxe]
    refine note_ok (by rw [← hst]; exact I1.ok.frames) hff hfm x0 (.inr ⟨T,rfl⟩) fun h3 T3 y1 y2 y3=>?_
    refine land_ok y1 fun h4 z1 z2=>?_
    have k4:Kp (frs X.stack) [a,T] s2.heap h4:=by
      rw [hst]
      refine ⟨fun b o e n1 n2=>z2 b o (fun q=>by subst q; rw [y2] at e; cases e) (y3.keep b o e n1 n2),fun b o e n1 n2=>?_⟩
      obtain ⟨sl,e1⟩:=y3.slot b o e n1 n2
      exact ⟨sl,z2 b _ (fun q=>by subst q; rw [y2] at e; cases e) e1⟩
    have I4:=I1.landed (h':=h4) os bare un hok fa fT na nT k4 z1
    refine wpAny_handleBy_cons (codeAny_handlers_test ?_) (by intro q; cases q)
    refine Calls.Name_function_global I4.ok.kind hg (Calls.loadGlobal_global (by rw [I4.ok.glob]; exact I4.mod.glob.keeps I4.bk) hm ?_) hd
    have LT:PySem.W.Looks (model X.prog X.w) h4 (typeOf (.ref a)) (.ref C):=by
      obtain ⟨oe,vs,e1,e2,_⟩:=z1
      exact e2 ▸ (PySem.W.Looks.ld e1).andThen .now
    refine exc_hits' I4.kIn LT c2 hsub ?_
    refine codeAny_handlers_suite ?_
    refine land_ok z1 fun h5 w1 w2=>?_
    have k5:Kp (frs X.stack) [a,T] s2.heap h5:=by
      refine ⟨fun b o e n1 n2=>w2 b o (fun q=>by subst q; rw [y2] at e; cases e) (k4.keep b o e n1 n2),fun b o e n1 n2=>?_⟩
      obtain ⟨sl,e1⟩:=k4.slot b o e n1 n2
      exact ⟨sl,w2 b _ (fun q=>by subst q; rw [y2] at e; cases e) e1⟩
    have I5:=(I1.landed (h':=h5) os bare un hok fa fT na nT k5 w1).suite a
    refine wpAny_mono ((hs a).p pins _ _ _ D I5 (k a na)) (fun f s7 q7=>?_) fun _ _ z=>False.elim z
    cases f with
    | next=>obtain ⟨σ8,H8,J,q⟩:=q7; exact ⟨σ8,H8,J.unsuite I1.ok,q⟩
    | brk=>obtain ⟨σ8,H8,J,q⟩:=q7; exact ⟨σ8,H8,J.unsuite I1.ok,q⟩
    | cont=>obtain ⟨σ8,H8,J,q⟩:=q7; exact ⟨σ8,H8,J.unsuite I1.ok,q⟩
    | ret u=>obtain ⟨v,σ8,H8,J,r,q⟩:=q7; exact ⟨v,σ8,H8,J.unsuite I1.ok,r,q⟩⟩
  refine wpAny_mono ((hb pins xe Ex hx).p [] s σ H D (I.tryW xe) h1) (fun f s' q=>?_) fun e s' q=>q
  cases f with
  | next=>obtain ⟨σ',H',J,q⟩:=q; exact wpAny_execs_nil ⟨σ',H',J.untry,q⟩
  | brk=>obtain ⟨σ',H',J,q⟩:=q; exact ⟨σ',H',J.untry,q⟩
  | cont=>obtain ⟨σ',H',J,q⟩:=q; exact ⟨σ',H',J.untry,q⟩
  | ret u=>obtain ⟨v,σ',H',J,r,q⟩:=q; exact ⟨v,σ',H',J.untry,r,q⟩⟩
end
end L2
set_option Elab.async false
set_option linter.all false
set_option maxRecDepth 100000
namespace L2
open PySem
end L2
set_option Elab.async false
set_option linter.all false
set_option maxRecDepth 100000
namespace L2
open PySem PySem.Spec PyProof.Rows
end L2
set_option Elab.async false
set_option linter.all false
set_option maxRecDepth 100000
namespace L2
open PySem PySem.W PySem.Spec PySem.Calls PyProof.Rows
structure NoDig (K:Frag):Prop where
  ok:nsOkIn K cStatics=true
  no:nsIn K cStatics "sys.int_max_str_digits" = some none
theorem NoDig.at {K:Frag} {h:Heap} (n:NoDig K) (X:K.In h):h.NoDigits:=⟨_,.of_isNs (isNs_of_in X n.ok),nsMap_none_of_in X n.ok n.no⟩
section
variable {X:Cx}
@[irreducible] def rStrI:List V→Hp→VK→Prop:=fun xs H Q=>∃ i:Int,xs=[.int i]∧i.natAbs<10^4300∧Q (.str (toString i)) H
theorem rstrI {i:Int} {H:Hp} {Q:VK} (h:i.natAbs<10^4300) (q:Q (.str (toString i)) H):rStrI [.int i] H Q:=by unfold rStrI; exact ⟨i,rfl,h,q⟩
theorem cl_strI (hc:X.calm=true) (nd:NoDig X.K):CallR X (.type "str") rStrI:=by
  unfold rStrI
  intro pins s σ H xs us Q I r h
  obtain ⟨i,rfl,hz,q⟩:=h
  obtain ⟨u,rfl,t,rfl⟩:=vals1 r
  exact PyProof.Rows.str_of_int_or (I.ok.hd hc) (nd.at I.kIn) (fun _=>⟨.str _,H,I.tok _,⟨_,rfl⟩,q⟩) (fun h=>absurd hz (Nat.not_lt.mpr h))
@[irreducible] def rStarts:V→List V→Hp→VK→Prop:=fun x xs H Q=>∃ a b,x=.str a∧xs=[.str b]∧Q (.bl (Txt.startswith a b)) H
theorem rstarts {a b:Str} {H:Hp} {Q:VK} (q:Q (.bl (Txt.startswith a b)) H):rStarts (.str a) [.str b] H Q:=by unfold rStarts; exact ⟨a,b,rfl,rfl,q⟩
theorem mt_starts:MtR X "str.startswith" rStarts:=by
  unfold rStarts
  intro pins s σ H x xs v us Q I rx rv h
  obtain ⟨a,b,rfl,rfl,q⟩:=h
  obtain ⟨t,rfl⟩:=rx
  obtain ⟨u,rfl,t',rfl⟩:=vals1 rv
  exact SC.startswith ⟨.bl _,H,I,rfl,q⟩
@[irreducible] def rZfill:V→List V→Hp→VK→Prop:=fun x xs H Q=>∃ a i,x=.str a∧xs=[.int i]∧PadOk i=true∧Q (.str (Txt.zfill a i)) H
theorem rzfill {a:Str} {i:Int} {H:Hp} {Q:VK} (h:PadOk i=true) (q:Q (.str (Txt.zfill a i)) H):rZfill (.str a) [.int i] H Q:=by unfold rZfill; exact ⟨a,i,rfl,rfl,h,q⟩
theorem mt_zfill:MtR X "str.zfill" rZfill:=by
  unfold rZfill
  intro pins s σ H x xs v us Q I rx rv h
  obtain ⟨a,i,rfl,rfl,hp,q⟩:=h
  obtain ⟨t,rfl⟩:=rx
  obtain ⟨u,rfl,t',rfl⟩:=vals1 rv
  exact SC.zfill hp fun t' k=>⟨.str _,H,I.tok _,⟨_,rfl⟩,q⟩
theorem vals_strs:∀ (l:List (Str × Tok)),Vals (l.map fun p=>V.str p.1) (strValues l)
  | []=>.nil
  | (x,t)::r=>.cons ⟨t,rfl⟩ (vals_strs r)
@[irreducible] def rSplit:V→List V→Hp→VK→Prop:=fun x xs H Q=>∃ a b,x=.str a∧xs=[.str b]∧(b.length == 0)=false∧a.length≤sizeLine∧(Txt.split a b).length≤sizeLine∧∀ p,H p=none→Q (.ref p) (upd H p (.lst ((Txt.split a b).map V.str)))
theorem rsplit {a b:Str} {H:Hp} {Q:VK} (h1:(b.length == 0)=false) (h2:a.length≤sizeLine) (h3:(Txt.split a b).length≤sizeLine) (q:∀ p H',H p=none→H' p=some (.lst ((Txt.split a b).map V.str))→Same H H'→Q (.ref p) H'):rSplit (.str a) [.str b] H Q:=by
  unfold rSplit; exact ⟨a,b,rfl,rfl,h1,h2,h3,fun p hp=>q p _ hp upd_same (Same.upd hp)⟩
theorem mt_split:MtR X "str.split" rSplit:=by
  unfold rSplit
  intro pins s σ H x xs v us Q I rx rv h
  obtain ⟨x,y,rfl,rfl,hy,hsz,hz,q⟩:=h
  obtain ⟨t,rfl⟩:=rx
  obtain ⟨_,rfl,u,rfl⟩:=vals1 rv
  unfold Txt.split at hz q
  cases h1:(decide (x.length<y.length) || decide (Builtin.Str.strKind x<Builtin.Str.strKind y))
  · rw [h1,if_neg Bool.false_ne_true] at hz q
    cases hf:(Builtin.Str.occurrences x y 0 x.length (x.length+1)).isEmpty
    · rw [hf,if_neg Bool.false_ne_true] at hz q
      refine call_meets F.slot_str_split (typeIs_str _ _ _) F.entry_str_split (F.args_str_split_2 _ _) (meets_str_split_sep x y t u h1 hy hf hsz hz) ?_
      rw [strsFrom_eq]
      refine ⟨.ref _,_,I.lnew (t':=_) (ys:=_) ?_ ?_,rfl,q _ I.fresh⟩
      · have e:=numbered_texts s.toks (Builtin.Str.partsBetween x (Builtin.Str.occurrences x y 0 x.length (x.length+1)) y.length)
        have v:=vals_strs (numbered s.toks (Builtin.Str.partsBetween x (Builtin.Str.occurrences x y 0 x.length (x.length+1)) y.length))
        rw [show (fun p:Str × Tok=>V.str p.1)=V.str ∘ Prod.fst from rfl,← List.map_map,e] at v
        exact v
      · rw [List.length_map]; exact hz
    · rw [hf,if_pos rfl] at hz q
      exact call_meets F.slot_str_split (typeIs_str _ _ _) F.entry_str_split (F.args_str_split_2 _ _) (meets_str_split_not_found x y t u h1 hy hf)
        ⟨.ref _,_,I.lnew (t':=s.toks) (its:=[.str x t]) (ys:=[V.str x]) (.cons ⟨t,rfl⟩ .nil) (by show 1≤sizeLine; decide),rfl,q _ I.fresh⟩
  · rw [h1,if_pos rfl] at hz q
    exact call_meets F.slot_str_split (typeIs_str _ _ _) F.entry_str_split (F.args_str_split_2 _ _) (meets_str_split_cannot_occur x y t u h1)
      ⟨.ref _,_,I.lnew (t':=s.toks) (its:=[.str x t]) (ys:=[V.str x]) (.cons ⟨t,rfl⟩ .nil) (by show 1≤sizeLine; decide),rfl,q _ I.fresh⟩
def Signs (t:Str):Prop:=∀ c∈t.cps.toList,c=45∨(48≤c∧c≤57)
@[irreducible] def rIntT:List V→Hp→VK→Prop:=fun xs H Q=>∃ t n,xs=[.str t]∧Signs t∧PySem.intText? t=some n∧t.length≤sizeLine∧Q (.int n) H
theorem rintT {t:Str} {n:Int} {H:Hp} {Q:VK} (hs:Signs t) (h:PySem.intText? t=some n) (z:t.length≤sizeLine) (q:Q (.int n) H):rIntT [.str t] H Q:=by unfold rIntT; exact ⟨t,n,rfl,hs,h,z,q⟩
end
section
open PySem.NumText
theorem wpAny_intMax {M:Model} {A:Around} {E:Value→Shared→Prop} {s:Shared} {Q:Nat→Shared→Prop} (nd:s.heap.NoDigits) (h:Q 4300 s):wpAny M A Builtin.intMaxStrDigits Q E s:=by
  obtain ⟨mc,hns,hnone⟩:=nd
  unfold Builtin.intMaxStrDigits
  refine wpAny_bind (wpAny_nsGet hns ?_)
  rw [hnone]
  exact wpAny_pure h
theorem wp_textB {M:Model} {A:Around} {E:Value→Shared→Prop} {s:Shared} {Q:Value→Shared→Prop} {v:Value} {text:List Nat} {n:Int} (nd:s.heap.NoDigits)
    (hs:¬ (text.takeWhile (· != 0)).length≤640) (hr:(int_private% "readNumeral") 4300 10 (text.takeWhile (· != 0))=(int_private% "Numeral.value") n)
    (ha:((text.takeWhile (· != 0)).length == text.length)=true) (h:Q (.int n s.toks) { s with toks:=s.toks+1 }) :
    wpAny M A ((int_private% "intFromText") v text 10) Q E s:=by
  obtain ⟨hp,g,d,tk,os⟩:=s
  repeat (any_goals (first
    | assumption
    | (with_reducible refine wpAny_intMax nd ?_)
    | (with_reducible refine wpAny_ite_false (decide_eq_false hs) ?_)
    | (with_reducible refine wpAny_ite_true (decide_eq_true ha) ?_)
    | wp_step))
  all_goals (try rw [hr])
  all_goals (try dsimp only)
  repeat (any_goals (first
    | assumption
    | (with_reducible refine wpAny_intMax nd ?_)
    | (with_reducible refine wpAny_ite_false (decide_eq_false hs) ?_)
    | (with_reducible refine wpAny_ite_true (decide_eq_true ha) ?_)
    | wp_step))
open PySem.W.KIN in
set_option maxHeartbeats 4000000 in
theorem meets_textB {x:PySem.Str} {u:Tok} {n:Int} (hx:x.length≤sizeLine) (hl:¬ (numSeenOf x).length≤640) (hn:PySem.intText? x=some n) :
    Meets (Builtin.«int.__new__» ⟨[.type "int",.str x u],[]⟩) (fun A R s=>s.heap.NoDigits∧R (.ok (.ret (.int n s.toks))) { s with toks:=s.toks+1 }) :=
  .of_wp fun prog w A R s h=>by
    obtain ⟨nd,h⟩:=h
    obtain ⟨hp,g,d,tk,os⟩:=s
    have f1:=F.conv_sub_int
    have f2:=F.madeHere_int
    have f3:=str_int
    have f4:=str_idx
    have f5:=str_trunc
    have f6:typeOf (.str x u)=pure (.type "str"):=rfl
    have hr:(int_private% "readNumeral") 4300 10 (numSeenOf x)=(int_private% "Numeral.value") n∧((numSeenOf x).length == (numTextOf x).length)=true:=by
      rcases read4300 x hx with ⟨m,h1,h2,h3⟩ | ⟨h1,_⟩
      · rw [hn] at h1
        injection h1 with h1
        subst h1
        exact ⟨h3,h2⟩
      · rw [hn] at h1
        cases h1
    have hk:=KIN.Hid.mk (And.intro hl hr)
    clear hr hl hn hx
    repeat (any_goals (first
      | assumption
      | ((with_reducible show wpAny _ _ ((int_private% "intFromText") _ _ _) _ _ _); refine wp_textB nd hk.out.1 hk.out.2.1 hk.out.2.2 ?_)
      | wp_step))
    all_goals first | exact ⟨_,rfl,h⟩ | skip
end
section
open PySem.NumText
variable {X:Cx}
theorem cl_intT (nd:NoDig X.K):CallR X (.type "int") rIntT:=by
  unfold rIntT
  intro pins s σ H xs us Q I r h
  obtain ⟨x,n,rfl,hs,hn,hz,q⟩:=h
  obtain ⟨_,rfl,t,rfl⟩:=vals1 r
  have e:=(numText_signs hs).2
  have el:(numSeenOf x).length=x.length:=by rw [e]; exact Array.length_toList
  by_cases hl:x.length≤640
  · exact KIN.call_text hn hl ⟨.int n,H,I.tok _,⟨_,rfl⟩,q⟩
  · exact call_int_1 (meets_textB hz (by rw [el]; exact hl) hn) ⟨nd.at I.kIn,typeIs_int _ _ _,⟨.int n,H,I.tok _,⟨_,rfl⟩,q⟩⟩
end
end L2
set_option Elab.async false
set_option linter.all false
set_option maxRecDepth 100000
namespace L2
open PySem PySem.W PySem.Spec PySem.Calls PyProof.Rows
section
variable {X:Cx}
def rSlS:V→Option Int→Option Int→Hp→VK→Prop:=fun x lo hi H Q=>∃ a,x=.str a∧a.length≤sizeLine∧Q (.str (Txt.slice a lo hi)) H
theorem sl_str:SlR X rSlS:=by
  intro pins s σ H x v vl vu lo hi sl Q I rx hs pl pu h
  obtain ⟨a,rfl,hz,q⟩:=h
  obtain ⟨t,rfl⟩:=rx
  refine ⟨"str",_,F.slot_str_getitem.lookup,typeIs_str _ _ _,?_⟩
  have fin:∀ (l u:Option (Int × Tok)),l.map (·.1)=lo→u.map (·.1)=hi→s.heap.IsSlice sl l u none→wpAny (model X.prog X.w) X.A (getItem (.str a t) (.ref sl)) (EP X pins σ Q) X.xe s:=by
    intro l u el eu hsl
    refine wpAny_getItem_str_slice (st:=none) hsl rfl ?_
    refine post_val_or_str ⟨?_,fun t' k=>⟨.str (Txt.slice a lo hi),H,I.tok _,⟨t',?_⟩,q⟩⟩
    · have:=Txt.slice_le a lo hi
      unfold Txt.slice at this
      rw [← el,← eu] at this
      exact Nat.le_trans this hz
    · unfold Txt.slice
      rw [← el,← eu]
      rfl
  cases pl with
  | none =>
    cases pu with
    | none=>exact fin none none rfl rfl hs
    | int j tj=>exact fin none (some (j,tj)) rfl rfl hs
  | int i ti =>
    cases pu with
    | none=>exact fin (some (i,ti)) none rfl rfl hs
    | int j tj=>exact fin (some (i,ti)) (some (j,tj)) rfl rfl hs
@[irreducible] def rAll:List V→Hp→VK→Prop:=fun xs H Q=>∃ (p:Addr) (bs:List Bool),xs=[.ref p]∧H p=some (.lst (bs.map V.bl))∧Q (.bl (bs.all id)) H
theorem rall {p:Addr} {bs:List Bool} {H:Hp} {Q:VK} (e:H p=some (.lst (bs.map V.bl))) (q:Q (.bl (bs.all id)) H):rAll [.ref p] H Q:=by unfold rAll; exact ⟨p,bs,rfl,e,q⟩
theorem bools_of {bs:List Bool}:∀ {us:List Value},Vals (bs.map V.bl) us→LSm.BoolsAre us bs:=by
  induction bs with
  | nil=>intro us r; cases r; exact .nil
  | cons b bs ih =>
    intro us r
    cases r with
    | cons r t=>cases (show _=Value.bool b from r); exact .cons b (ih t)
theorem cl_all (hc:X.calm=true):CallR X (.builtin "all") rAll:=by
  unfold rAll
  intro pins s σ H xs us Q I r h
  obtain ⟨p,bs,rfl,e,q⟩:=h
  obtain ⟨_,rfl,r1⟩:=vals1 r
  cases r1
  obtain ⟨z,its,n,rv,hl,eo⟩:=I.lstM e
  have hL:s.heap.IsList p its.toArray:=⟨_,eo,rfl,n,rfl⟩
  have hb:=bools_of rv
  have hlt:p<s.heap.objs.size:=Heap.lt_size eo
  refine call_all_walk (wpAny_pyIter_list hL ?_)
  refine ⟨s.heap.objs.size,[s.heap.objs.size,p],[s.heap.objs.size],its.toArray.size,_,_,fun i=>(bs[i]?).getD true,rfl,Walks.list (A:=X.A.in1) (I.ok.hd hc) _ p (Nat.ne_of_lt hlt) its.toArray,
    ⟨⟨_,Heap.get?_push_size _ rfl,rfl,rfl⟩,hL.push _⟩,fun i v s' Q' E' hP hQ=>?_,fun h' tk hk=>?_⟩
  · obtain ⟨b,e,rfl⟩:=hb.get i v (by simpa using hP)
    simp only [e,Option.getD_some] at hQ
    exact wpAny_truthy_bool hQ
  · have e:((List.range its.toArray.size).all fun i=>(bs[i]?).getD true)=bs.all id:=by
      rw [List.size_toArray,hb.length]; exact LSm.range_all bs
    rw [e]
    exact ⟨.bl _,H,I.kept (LSm.kept_iter hk),rfl,q⟩
end
end L2
set_option Elab.async false
set_option linter.all false
set_option maxRecDepth 100000
namespace L2
open PySem PySem.W PySem.Spec PySem.Calls PyProof.Rows
theorem lri_no_len:typeLookup (.type "list_reverseiterator") "__len__" = pure none:=by rw [typeLookup_type,builtinLookup_eq_fast]; kernel_rfl
theorem lri_hint:typeLookup (.type "list_reverseiterator") "__length_hint__" = pure (some (.builtin "list_reverseiterator.__length_hint__")):=by rw [typeLookup_type,builtinLookup_eq_fast]; kernel_rfl
theorem lri_self:isSubtype (.type "list_reverseiterator") (.type "list_reverseiterator")=pure true:=by rw [isSubtype_type]; kernel_rfl
theorem lri_split:splitId "list_reverseiterator.__length_hint__" = some ("list_reverseiterator", "__length_hint__"):=by decide +kernel
theorem gives_made {sep:Str}:∀ {l:List (Str × Tok)},Builtin.Str.tooLong ((l.map (·.1)).toArray.foldl (· + ·.length+sep.length) 0)=false→Gives (joinTail sep (strValues l)) (joinMade sep l)
  | [],h=>gives_joinTail sep [] h
  | [p],h=>gives_joinTail sep [p] h
  | p::q::r,h=>gives_joinTail sep (p::q::r) h
section
variable {prog:Program} {w:World} {A:Around} {E:Value→Shared→Prop} {s:Shared} {I:Addr}
theorem hint_rev {Q:Bool→Shared→Prop} (hT:s.TypeIs (.ref I) "list_reverseiterator") (h:Q false s):wpAny (model prog w) A (Builtin.List.listLengthHint (.ref I)) Q E s:=by
  unfold Builtin.List.listLengthHint
  refine wpAny_bind (wpAny_specialOf hT lri_no_len ?_)
  refine wpAny_bind (m:=specialOf (Value.ref I) (Str.ofString "__length_hint__")) (wpAny_specialOf hT lri_hint ?_)
  dsimp only
  rw [lri_split]
  refine wpAny_bind (wpAny_isInstance hT lri_self ?_)
  exact wpAny_pure h
theorem collect_rev {l:Addr} {items:Array Value} {Q:List Value→Shared→Prop} (hh:A.handled=none) (hne:l≠I) (hit:s.heap.IsRevIter I l ((items.size:Int) - 1)) (hl:s.heap.IsList l items) (hz:items.size≤sizeLine)
    (hQ:∀ s' acc,Moved [I] (fun a b=>b=a) s s'→ItemsOf (fun i v=>items[items.size - 1 - i]?=some v) acc items.size→Q acc.toList s') :
    wpAny (model prog w) A (collect (.ref I)) Q E s:=by
  have W:=(Walks.listRev (prog:=prog) (w:=w) (A:=A.in1) hh I l hne items).toS
  have hI:I<s.heap.objs.size:=let ⟨o,e,_⟩:=hit; Heap.lt_size e
  have hL:l<s.heap.objs.size:=let ⟨o,e,_⟩:=hl; Heap.lt_size e
  have hSf:s.heap.objs.size ∉ [I,l]:=fun hm=>by
    rcases List.mem_cons.mp hm with z | z
    · exact absurd z (Nat.ne_of_gt hI)
    · exact absurd (List.mem_singleton.mp z) (Nat.ne_of_gt hL)
  have hSI:s.heap.objs.size≠I:=Nat.ne_of_gt hI
  have hst:(0≤items.size∧s.heap.IsRevIter I l ((items.size:Int) - 1 - ((0:Nat):Int))∧s.heap.IsList l items):=⟨Nat.zero_le _,by simpa using hit,hl⟩
  unfold collect
  refine wpAny_bind (wpAny_runValue (codeAny_builtin F.entry_proto_collect ?_))
  rw [Around.under_plainId F.plain_proto_collect _]
  show wpAny _ A.in1 (newList [] >>= fun l=>again (.builtin "list.__iadd__" ⟨[l,.ref I],[]⟩)) _ _ s
  refine wpAny_bind (wpAny_newObj_type ?_)
  refine wpAny_pure ⟨plainId_quiet F.plain_list_iadd _,codeAny_builtin F.entry_list_iadd ?_⟩
  rw [Around.under_plainId F.plain_list_iadd _]
  have kk:∀ b o,s.heap.get? b=some o→(s.heap.push { cls:=.type "list",data:=.seq ([]:List Value).toArray }).get? b=some o:=fun b o e=>Heap.get?_push_of_some _ e
  have hst₁:=W.frame 0 s (s.heap.push { cls:=.type "list",data:=.seq ([]:List Value).toArray }) s.toks hst (Nat.le_refl _) fun b _ o e=>kk b o e
  have hT:(⟨s.heap.push { cls:=.type "list",data:=.seq ([]:List Value).toArray },s.gens,s.drawn,s.toks,s.os⟩:Shared).TypeIs (.ref I) "list_reverseiterator" := (hit.at fun o e=>kk _ _ e).typeIs
  show wpAny _ A.in1 (Builtin.List.listExtendWith (.ref s.heap.objs.size) (.ref I) (.ref s.heap.objs.size)) _ _ _
  unfold Builtin.List.listExtendWith
  refine wpAny_bind (wpAny_typeOf hT ?_)
  have h1:Builtin.List.listSameRef (.ref s.heap.objs.size) (.ref I)=false:=by simp [Builtin.List.listSameRef,hSI]
  have h2:(Value.type "list_reverseiterator" == Value.type "list")=false:=by decide
  have h3:(Value.type "list_reverseiterator" == Value.type "tuple")=false:=by decide
  simp only [h1,h2,h3,Bool.or_false,Bool.false_eq_true,if_false]
  refine wpAny_bind (W.self 0 _ _ _ hst₁ ?_)
  refine wpAny_bind (wpAny_holding (hint_rev hT ?_))
  have hS₁:(s.heap.push { cls:=.type "list",data:=.seq ([]:List Value).toArray }).get? s.heap.objs.size=some { cls:=.type "list",data:=.seq ([]:List Value).toArray }:=Heap.get?_push_size _ rfl
  show wpAny _ A.in1 (again (.builtin "list.extend.loop" ⟨[.ref s.heap.objs.size,.ref I,.ref s.heap.objs.size],[]⟩)) _ _ _
  refine wpAny_pure ⟨plainId_quiet F.plain_extend_loop _,codeAny_extend_loopS W hz _ hSf _ items.size 0 _ _ _ rfl (Nat.zero_le _) hst₁ hS₁ (ItemsOf.nil _) fun s' acc' c' hm hS' hacc=>?_⟩
  show wpAny _ A (load s.heap.objs.size >>= _) _ _ s'
  refine wpAny_bind (wpAny_load hS' ?_)
  refine wpAny_pure (hQ s' acc' ⟨fun b o hb e=>hm.heap b o (fun z=>?_) (kk b o e),hm.gens,hm.drawn,hm.os,hm.toks⟩ hacc)
  rcases List.mem_cons.mp z with z | z
  · rw [z] at e; exact absurd (Heap.lt_size e) (Nat.lt_irrefl _)
  · exact hb z
theorem join_rev {sep:Str} {t:Tok} {l:Addr} {items:List (Str × Tok)} {Q:Value→Shared→Prop} (hh:A.handled=none) (hne:l≠I) (hit:s.heap.IsRevIter I l ((items.length:Int) - 1)) (hl:s.heap.IsList l (strValues items).toArray) (hz:items.length≤sizeLine)
    (hok:JoinOk sep (items.reverse.map (·.1))=true) (hQ:∀ s' t' k,Moved [I] (fun a b=>b=a) s s'→Q (.str (Txt.join sep (items.reverse.map (·.1))) t') { s' with toks:=k }) :
    wpAny (model prog w) A (call (.builtin "str.join") [.str sep t,.ref I]) Q E s:=by
  refine wpAny_call (codeAny_call_builtin F.slot_str_join.plain F.entry_str_join (F.slot_str_join.check _ _ _ _ _ _ _ _ (typeIs_str _ _ _) (F.args_str_join_2 _ _) ?_))
  rw [join_tree_other]
  have hsz:(strValues items).toArray.size=items.length:=by rw [List.size_toArray]; unfold strValues; rw [List.length_map]
  refine wpAny_bind (wpAny_typeOf hit.typeIs ?_)
  show wpAny _ A.in1 ((pyIter (.ref I)).tryCatch _ >>= fun it=>collect it >>= fun xs=>joinTail sep xs) _ _ s
  refine wpAny_bind (wpAny_tryCatch (wpAny_pyIter_revIter hit ?_))
  refine wpAny_bind (collect_rev (A:=A.in1) hh hne (items:=(strValues items).toArray) (by rw [hsz]; exact hit) hl (by rw [hsz]; exact hz) fun s' acc hm hacc=>?_)
  have e:acc.toList=strValues items.reverse:=by
    obtain ⟨h1,h2⟩:=hacc
    rw [hsz] at h1 h2
    refine List.ext_getElem? fun i=>?_
    have hr:strValues items.reverse=(strValues items).reverse:=by unfold strValues; rw [List.map_reverse]
    have hlen:(strValues items).length=items.length:=by unfold strValues; rw [List.length_map]
    rw [hr]
    by_cases hi:i<items.length
    · have ha:acc.toList[i]?=some acc[i]:=by simp [Array.getElem?_eq_getElem (show i<acc.size by omega)]
      have hb:=h2 i acc[i] (Array.getElem?_eq_getElem (by omega))
      rw [ha,List.getElem?_reverse (by rw [hlen]; exact hi),hlen]
      have hb':(strValues items)[items.length - 1 - i]?=some acc[i]:=by simpa using hb
      exact hb'.symm
    · rw [List.getElem?_eq_none (by rw [Array.length_toList,h1]; omega),List.getElem?_eq_none (by rw [List.length_reverse,hlen]; omega)]
  rw [e]
  unfold JoinOk at hok
  rw [Bool.not_eq_true'] at hok
  have g:=gives_made hok
  exact g prog w A (wants Q E) s' (post_join items.reverse ⟨joinFit_length hok,fun t' k=>hQ s' t' k hm⟩)
end
def tJoinRev (to:TE) (ta:TA):TE:=fun σ H Q=>to σ H fun x H1=>∃ sep,x=.str sep∧ta σ H1 fun vs H2=>∃ (l:Addr) (ts:List Str),vs=[.ref l]∧H2 l=some (.lst (ts.map V.str))∧JoinOk sep ts.reverse=true∧Q (.str (Txt.join sep ts.reverse)) H2
theorem vals_strs_of {ts:List Str}:∀ {us:List Value},Vals (ts.map V.str) us→∃ l:List (Str × Tok),us=strValues l∧l.map (·.1)=ts:=by
  induction ts with
  | nil=>intro us r; cases r; exact ⟨[],rfl,rfl⟩
  | cons t ts ih =>
    intro us r
    cases r with
    | cons r rr =>
      obtain ⟨k,rfl⟩:=r
      obtain ⟨l,rfl,e⟩:=ih rr
      exact ⟨(t,k)::l,rfl,by rw [List.map_cons,e]⟩
theorem boot_reversed:bootBuiltins (Str.ofString "reversed")=some (Value.type "reversed"):=by decide +kernel
section
variable {X:Cx} {o a:Expr} {to:TE} {ta:TA} {np p2 apos cpos:Pos}
theorem we_joinRev (hc:X.calm=true) (ho:PEw X o to) (hg:Gl X "reversed") (hm:X.mg "reversed" = none) (ha:PAw X [a] ta)
    (hbase:attributeBase o "join" X.env (eval o X.env)=eval o X.env:=by rfl) (hs:starEach [a] X.env=[(false,eval a X.env)]:=by first | exact se_Name | rfl)
    (hfew:((backTo cpos (starEach [.Call (.Name "reversed" np) [a] [] p2] X.env)).all (fun x=>!x.1)&&(backToKw cpos (keywordEach [] X.env)).all (fun x=>x.1.isSome)
      && decide (([.Call (.Name "reversed" np) [a] [] p2]:List Expr).length+([]:List Keyword).length+(if ([]:List Keyword).isEmpty then 0 else 1)<30))=true:=by rfl)
    (hline:(apos.endLine == cpos.line)=true:=by rfl) :
    PEw X (.Call (.Attribute o "join" apos) [.Call (.Name "reversed" np) [a] [] p2] [] cpos) (tJoinRev to ta):=⟨by
  intro pins s σ H Q I h
  refine wpAny_Call_method hbase hfew hline PySem.F.plainAttrs_str PySem.F.slot_str_join PySem.F.type_str_join (thn (ho.p pins s σ H _ I h) fun u s1 ⟨x,H1,I1,rx,sep,ex,q1⟩=>?_)
  subst ex
  obtain ⟨t,rfl⟩:=rx
  refine ⟨typeIs_str _ _ _,⟨(fun a e=>by cases e),?_⟩⟩
  have hst:starEach [.Call (.Name "reversed" np) [a] [] p2] X.env=[(false,eval (.Call (.Name "reversed" np) [a] [] p2) X.env)]:=rfl
  rw [hst]
  refine Calls.callWith_builtin rfl (Calls.evalArgs_plain (Calls.spliced_cons ?_))
  refine Call_ (ld_blt I1 hg hm boot_reversed (PyProof.Rows.callWith_type1 (thn (ha.p p2 pins s1 σ H1 _ I1 q1) fun us s2 ⟨vs,H2,I2,r2,l,ts,ev,el,hok,q2⟩=>?_) hs rfl))
  subst ev
  obtain ⟨_,rfl,r3⟩:=vals1 r2
  cases r3
  obtain ⟨z,its,n,rv,hl,eo⟩:=I2.lstM el
  obtain ⟨items,rfl,et⟩:=vals_strs_of rv
  refine call_reversed_list (items:=(strValues items).toArray) ⟨_,eo,rfl,n,rfl⟩ ?_
  have kk:∀ b u,s2.heap.get? b=some u→(s2.heap.push (revObj l (((strValues items).toArray.size:Int) - 1))).get? b=some u:=fun b u q=>Heap.get?_push_of_some _ q
  have I3:Inv X pins σ H2 { s2 with heap:=s2.heap.push (revObj l (((strValues items).toArray.size:Int) - 1)) }:=I2.kept (t':=s2.toks) kk
  have fo:=I2.fpOk (H':=H2) (Nat.le_refl _) I2.fresh
  have hlen:(strValues items).toArray.size=items.length:=by rw [List.size_toArray]; unfold strValues; rw [List.length_map]
  have hts:items.reverse.map (·.1)=ts.reverse:=by rw [List.map_reverse,et]
  refine Calls.spliced_nil ?_
  refine join_rev (l:=l) (items:=items) (I2.ok.hd hc) (Nat.ne_of_lt (Heap.lt_size eo)) ⟨_,Heap.get?_push_size _ rfl,rfl,by rw [hlen]; rfl⟩ ⟨_,kk _ _ eo,rfl,n,rfl⟩ (by rw [← et,List.length_map,List.length_map] at z; exact z) (by rw [hts]; exact hok) fun s' t' k hm=>?_
  obtain ⟨h',g',d',tk',o'⟩:=s'
  obtain ⟨m1,m2,m3,m4,m5⟩:=hm
  dsimp only at m1 m2 m3 m4
  subst m2 m3 m4
  rw [hts]
  refine ⟨.str _,H2,?_,⟨t',rfl⟩,q2⟩
  have I4:=I3.turned (h':=h') (t':=k) (it:=s2.heap.objs.size) (fun b o hb e=>m1 b o (fun z=>hb (List.mem_singleton.mp z)) e) I2.fresh
  obtain ⟨f1,f2,f3,f4,f5,f6⟩:=fo
  exact I4 f2 f4 f5 f6⟩
end
end L2
set_option Elab.async false
set_option linter.all false
set_option maxRecDepth 100000
namespace L2
open PySem PySem.W PySem.Spec PySem.Calls PyProof.Rows
def Its (x:Str):It:=⟨fun i _=>i<x.cps.size,fun i H v H'=>H'=H∧∃ c,x.cps[i]?=some c∧v=.str ⟨#[c]⟩,fun i _=>x.cps.size≤i⟩
theorem turn_str {P:Program} {w:World} {K:PySem.W.Frag} {tg:Expr} {x:Str} {t:Tok} {it:Addr}:Turn P w K tg (Its x) [it] it (fun i h=>h.IsStrIter it (strIterType x) x t i) where
  mem:=by simp
  obj:=fun i h st b hb=>by
    have e:b=it:=by simpa using hb
    subst e
    obtain ⟨o,e,c,d⟩:=st
    exact ⟨o,e,fun v z=>by rw [d] at z; cases z⟩
  keep:=fun i h h' st k=>let ⟨o,e,r⟩:=st; ⟨o,k it (by simp) o e,r⟩
  item:=by
    intro X hP hw hK hc i pins s σ H E I hf st hg
    subst hP hw hK
    obtain ⟨f0,f1,f2,f3,f4,f5⟩:=hf it (by simp)
    have hx:x.cps[i]?=some x.cps[i]:=Array.getElem?_eq_getElem hg
    have fin:∀ h',h'.IsStrIter it (strIterType x) x t (i+1)→Heap.SameBut it s.heap h'→∃ u,some (Value.str ⟨#[x.cps[i]]⟩ s.toks)=some u ∧
        wpAny (model X.prog X.w) X.A (letOwnedTupleGo tg (.ref it) u) (fun _ s2=>∃ v H',Inv X pins σ H' s2∧RelV v u∧(Its x).yld i H v H'∧s2.heap.IsStrIter it (strIterType x) x t (i+1)∧∀ b∈[it],H' b=none) E { s with heap:=h',toks:=s.toks+1 }:=by
      intro h' st' sb
      have I1:Inv X pins σ H { s with heap:=h',toks:=s.toks+1 }:=I.turned (t':=s.toks+1) (fun b o hb e=>(sb.2 b hb).trans e) f0 f1 f3 f4 f5
      obtain ⟨o,e,c,d⟩:=id st'
      refine ⟨_,rfl,go_of (s:={ s with heap:=h',toks:=s.toks+1 }) e c d ?_ ⟨.str ⟨#[x.cps[i]]⟩,H,I1,⟨_,rfl⟩,⟨rfl,_,hx,rfl⟩,st',fun b hb=>(hf b hb).1⟩⟩
      unfold strIterType
      split <;> decide
    cases ha:x.cps.all (· < 128)
    · have e:strIterType x = "str_iterator" := by unfold strIterType; rw [ha]; rfl
      rw [e] at st
      exact wpAny_pyNext_wide_item st hx fun h' st' sb=>fin h' (by rw [e]; exact st') sb
    · have e:strIterType x = "str_ascii_iterator" := by unfold strIterType; rw [ha]; rfl
      rw [e] at st
      exact wpAny_pyNext_ascii_item st hx fun h' st' sb=>fin h' (by rw [e]; exact st') sb
  done:=by
    intro X hP hw hK hc i pins s σ H E I hf st hg
    subst hP hw hK
    obtain ⟨f0,f1,f2,f3,f4,f5⟩:=hf it (by simp)
    have hx:x.cps[i]?=none:=Array.getElem?_eq_none hg
    unfold strIterType at st
    cases ha:x.cps.all (· < 128)
    · rw [ha] at st
      exact wpAny_pyNext_wide_end (I.ok.hd hc) st hx fun h' eb=>⟨rfl,I.turned (t':=s.toks) (fun b o hb e=>eb b o hb e) f0 f1 f3 f4 f5⟩
    · rw [ha] at st
      exact wpAny_pyNext_ascii_end (I.ok.hd hc) st hx fun h' eb=>⟨rfl,I.turned (t':=s.toks) (fun b o hb e=>eb b o hb e) f0 f1 f3 f4 f5⟩
  self:=fun A i s Q E st h=>by
    unfold strIterType at st
    cases ha:x.cps.all (· < 128)
    · rw [ha] at st; exact wpAny_pyIter_striter_wide st h
    · rw [ha] at st; exact wpAny_pyIter_striter_ascii st h
section
variable {X:Cx} {tg:Expr}
def iStr (tl:TE):TI:=fun σ H R=>tl σ H fun v H1=>∃ x,v=.str x∧R (Its x) H1
theorem wi_str {l:Expr} {tl:TE} (hl:PEw X l tl):PIw X tg l (iStr tl):=⟨by
  intro pins s σ H R I h
  refine thn (hl.p pins s σ H _ I h) fun v s1 ⟨x,H1,I1,r1,q1⟩=>?_
  obtain ⟨a,e,q⟩:=q1
  subst e
  obtain ⟨t,rfl⟩:=r1
  refine wpAny_pyIter_strU ?_
  refine ⟨s1.heap.objs.size,[s1.heap.objs.size],_,_,H1,rfl,I1.kept (t':=s1.toks) fun b o e=>Heap.get?_push_of_some _ e,turn_str,⟨_,Heap.get?_push_size _ rfl,rfl,rfl⟩,fun b hb=>?_,q⟩
  have e:b=s1.heap.objs.size:=by simpa using hb
  subst e
  exact I1.fpOk (Nat.le_refl _) (I1.hok.fresh (Nat.le_refl _))⟩
end
section
variable {js:List Nat} {te:TE} {tc:TT} {σ:St} {H:Hp} {Q:VK}
theorem comp_str {x:Str} (p:Nat→Bool) (f:Nat→V) (hz:x.length≤100000)
    (ht:∀ c H' (Q':Bool→Hp→Prop),c∈x.cps.toList→Q' (p c) H'→tc (some (.str ⟨#[c]⟩)::slots σ js) H' Q')
    (he:∀ c H' (Q':VK),c∈x.cps.toList→Q' (f c) H'→te (some (.str ⟨#[c]⟩)::slots σ js) H' Q')
    (hd:∀ D H',H D=none→H' D=some (.lst ((x.cps.toList.filter p).map f))→Same H H'→Q (.ref D) H'):CompB (Its x) σ js tc te H Q:=by
  unfold CompB
  intro D hD
  refine ⟨fun i m ys H'=>m=x.cps.size - i∧i≤x.cps.size∧ys=((x.cps.toList.take i).filter p).map f∧H' D=some (.lst ys)∧∀ b o,H b=some o→H' b=some o,⟨x.cps.size,by simp,Nat.zero_le _,rfl,upd_same,Same.upd hD⟩,?_⟩
  rintro i m ys H2 ⟨rfl,hi,hy,hD2,sm⟩
  refine ⟨hD2,?_⟩
  by_cases hlt:i<x.cps.size
  · have hl:ys.length≤i:=by
      rw [hy,List.length_map]
      refine Nat.le_trans (List.length_filter_le _ _) ?_
      rw [List.length_take]
      exact Nat.min_le_left _ _
    have hx:x.cps[i]?=some x.cps[i]:=Array.getElem?_eq_getElem hlt
    have hm:x.cps[i]∈x.cps.toList:=by simp
    have hti:x.cps.toList.take (i+1)=x.cps.toList.take i++[x.cps[i]]:=by
      rw [List.take_add_one]
      congr 1
      simp [hlt]
    refine .inr ⟨hlt,Nat.lt_of_le_of_lt (m:=100000) (by have:x.length=x.cps.size:=rfl; omega) (by decide),fun v H3 hy3=>?_⟩
    obtain ⟨rfl,c,hc,rfl⟩:=hy3
    rw [hx] at hc
    cases hc
    refine ⟨fun b H4=>b=p x.cps[i]∧H4=H3,ht _ _ _ hm ⟨rfl,rfl⟩,?_⟩
    rintro b H4 ⟨rfl,rfl⟩
    by_cases hp:p x.cps[i]=true
    · rw [if_pos hp]
      refine ⟨fun v H5=>v=f x.cps[i]∧H5=H4,he _ _ _ hm ⟨rfl,rfl⟩,?_⟩
      rintro v H5 ⟨rfl,rfl⟩
      refine ⟨hD2,x.cps.size - (i+1),by omega,rfl,hlt,?_,upd_same,fun b o hb=>?_⟩
      · rw [hti,List.filter_append,List.map_append,hy]
        simp [hp]
      · rw [upd_ne (ne_of_none hb hD)]
        exact sm b o hb
    · rw [if_neg hp]
      refine ⟨hD2,x.cps.size - (i+1),by omega,rfl,hlt,?_,hD2,sm⟩
      rw [hti,List.filter_append,List.map_append,hy]
      simp [hp]
  · have e:i=x.cps.size:=by omega
    subst e
    refine .inl ⟨Nat.le_refl _,hd D H2 hD ?_ sm⟩
    rw [hD2,hy,List.take_of_length_le (by simp)]
end
end L2
set_option Elab.async false
set_option linter.all false
set_option maxRecDepth 100000
namespace L2
open PySem PySem.W PySem.Spec PySem.Calls PyProof.Rows
section
variable {prog:Program} {w:World} {A:Around} {E:Value→Shared→Prop} {s:Shared}
end
section
variable {X:Cx}
end
end L2
set_option Elab.async false
set_option linter.all false
set_option maxRecDepth 100000
namespace Mt
open PySem PySem.NumText
abbrev dig (c:Nat):Bool:=decide (48≤c)&&decide (c≤57)
def figs (t:Str):Bool:=t.cps.toList.all dig
theorem figs_all {t:Str} (h:figs t=true):AllDigits t.cps.toList:=fun c hc=>by
  have:=List.all_eq_true.mp h c hc
  simpa [dig] using this
theorem in_figs (c:Nat):(!(Builtin.Str.occurrences (Str.ofString "0123456789") ⟨#[c]⟩ 0 (Str.ofString "0123456789").length 1).isEmpty)=dig c:=by
  rw [StrLaws.found_one]
  have e:(Str.ofString "0123456789").cps.toList=[48,49,50,51,52,53,54,55,56,57]:=by decide +kernel
  rw [e]
  unfold dig
  rw [← Bool.decide_and]
  refine decide_eq_decide.mpr ?_
  simp only [List.mem_cons,List.not_mem_nil,or_false]
  omega
theorem str_ext {a b:Str} (h:a.cps.toList=b.cps.toList):a=b:=by
  cases a; cases b
  congr 1
  exact Array.toList_inj.mp h
theorem len_toList (t:Str):t.cps.toList.length=t.length:=by simp [Str.length]
theorem starts_one (t:Str) (c:Nat):Txt.startswith t ⟨#[c]⟩=decide (t.cps.toList.head?=some c):=by
  unfold Txt.startswith
  cases h:t.cps.toList with
  | nil =>
    have e:t.length=0:=by rw [← len_toList,h]; rfl
    have e1:(⟨#[c]⟩:Str).length=1:=rfl
    rw [e,e1]
    simp
  | cons x r =>
    have e:t=⟨(x::r).toArray⟩:=str_ext (by rw [h])
    rw [e]
    have e1:(⟨#[c]⟩:Str).length=1:=rfl
    have e2:(⟨(x::r).toArray⟩:Str).length=r.length+1:=rfl
    unfold Builtin.Str.subAt
    rw [e1,e2]
    have e3:((x::r).toArray.extract 0 (0+1))=#[x]:=by simp
    rw [e3]
    simp [BEq.beq,List.isEqv]
theorem slice_from {t:Str} {i:Int} (h0:0≤i) (h:i≤t.length):(Txt.slice t (some i) none).cps.toList=t.cps.toList.drop i.toNat:=by
  have e:Txt.slice t (some i) none=StrLaws.sliceText t (some i) none:=rfl
  rw [e,StrLaws.sliceText_from ⟨h0,by rw [len_toList]; exact h⟩]
  show List.take _ (List.drop _ _)=_
  refine List.take_of_length_le ?_
  rw [List.length_drop,len_toList]
  omega
def val (t:Str):Nat:=digitsVal t.cps.toList
def zero:Str:=Str.ofString "0"
def wrB (t:Str):Bool:=!t.cps.toList.isEmpty&&figs t && !(decide (t.cps.toList.head?=some 48) && !decide (t=zero))
def wr (t:Str):Option Nat:=if wrB t=true then some (val t) else none
def neg (t:Str):Bool:=decide (t.cps.toList.head?=some 45)
def fg (t:Str):Str:=if neg t=true then ⟨(t.cps.toList.drop 1).toArray⟩ else t
def rdB (t:Str):Bool:=decide (1≤(fg t).length)&&decide ((fg t).length≤4000)&&figs (fg t) && !(decide ((fg t).cps.toList.head?=some 48) && !decide (t=zero))
def rdV (t:Str):Int:=if neg t=true then -((val (fg t):Nat):Int) else ((val (fg t):Nat):Int)
def rd (t:Str):Option Int:=if rdB t=true then some (rdV t) else none
theorem fg_len (t:Str):(fg t).length≤t.length:=by
  unfold fg
  split
  · rw [← len_toList,← len_toList]
    show (List.drop 1 _).length≤_
    rw [List.length_drop]; omega
  · exact Nat.le_refl _
theorem zero_cps:zero.cps.toList=[48]:=by decide +kernel
theorem rd_plain {t:Str} (h:neg t=false) (hl:t.length≤4000):rd t=(wr t).map Int.ofNat:=by
  have e:fg t=t:=by unfold fg; rw [h]; rfl
  have e2:decide (1≤t.length)=!t.cps.toList.isEmpty:=by
    cases q:t.cps.toList with
    | nil =>
      have:t.length=0:=by rw [← len_toList,q]; rfl
      rw [this]; rfl
    | cons c r =>
      have:t.length=r.length+1:=by rw [← len_toList,q]; rfl
      rw [this]; simp
  have hb:rdB t=wrB t:=by
    unfold rdB wrB
    rw [e,decide_eq_true hl,Bool.and_true,e2]
  unfold rd wr rdV
  rw [hb,e,h]
  cases wrB t <;> rfl
theorem rd_neg {t:Str} (h:neg t=true) (hl:t.length≤4000):rd t=match wr (fg t) with | some 0=>none | some n=>some (-(n:Int)) | none=>none:=by
  have hh:t.cps.toList.head?=some 45:=of_decide_eq_true h
  have hz:t≠zero:=fun e=>by rw [e,zero_cps] at hh; cases hh
  have hl':=fg_len t
  have e2:decide (1≤(fg t).length)=!(fg t).cps.toList.isEmpty:=by
    cases q:(fg t).cps.toList with
    | nil =>
      have:(fg t).length=0:=by rw [← len_toList,q]; rfl
      rw [this]; rfl
    | cons c r =>
      have:(fg t).length=r.length+1:=by rw [← len_toList,q]; rfl
      rw [this]; simp
  have hb:rdB t=(!(fg t).cps.toList.isEmpty&&figs (fg t) && !decide ((fg t).cps.toList.head?=some 48)):=by
    unfold rdB
    rw [decide_eq_false hz,decide_eq_true (show (fg t).length≤4000 by omega),e2]
    simp
  unfold rd rdV
  rw [hb,h,if_pos rfl]
  unfold wr wrB
  by_cases z:fg t=zero
  · rw [z]
    have e1:(zero.cps.toList.head?=some 48):=by rw [zero_cps]; rfl
    have e3:val zero=0:=by decide +kernel
    have e4:figs zero=true:=by decide +kernel
    have e5:zero.cps.toList.isEmpty=false:=by rw [zero_cps]; rfl
    rw [decide_eq_true e1,e3,e4,e5,decide_eq_true rfl]
    rfl
  · rw [decide_eq_false z]
    simp only [Bool.not_false,Bool.and_true]
    by_cases c:(!(fg t).cps.toList.isEmpty&&figs (fg t) && !decide ((fg t).cps.toList.head?=some 48))=true
    · rw [if_pos c,if_pos c]
      have hp:0<val (fg t):=by
        simp only [Bool.and_eq_true,Bool.not_eq_true',decide_eq_false_iff_not] at c
        obtain ⟨⟨c1,c2⟩,c3⟩:=c
        unfold val
        have hd:=figs_all c2
        cases q:(fg t).cps.toList with
        | nil=>rw [q] at c1; cases c1
        | cons x r =>
          rw [q] at c3 hd
          have:=hd.head
          exact digitsVal_pos (by
            have:x≠48:=fun z=>c3 (by rw [z]; rfl)
            omega)
      cases v:val (fg t) with
      | zero=>omega
      | succ n=>rfl
    · rw [if_neg c,if_neg c]
end Mt
set_option Elab.async false
set_option linter.all false
set_option maxRecDepth 100000
namespace Mt
open PySem PySem.NumText
theorem app_cps (a b:Str):(a++b).cps.toList=a.cps.toList++b.cps.toList:=by
  show (a.cps++b.cps).toList=_
  simp
def dg (m:Nat):List Nat:=(Nat.toDigits 10 m).map Char.toNat
def tx (n:Int):Str:=Str.ofString (toString n)
theorem tx_nat (m:Nat):(tx (m:Int)).cps.toList=dg m:=by
  unfold tx dg
  exact W.KIN.signs_num m
theorem tx_neg (m:Nat):(tx (-((m+1:Nat):Int))).cps.toList=45::dg (m+1):=by
  unfold tx dg
  have e:(-((m+1:Nat):Int))=Int.negSucc m:=rfl
  rw [e,PyProof.Rows.signs_ofString]
  show ("-" ++ Nat.repr (m+1)).toList.map Char.toNat=_
  rw [String.toList_append,List.map_append,Nat.toList_repr]
  rfl
theorem dg_all (m:Nat):AllDigits (dg m):=fun c hc=>by
  obtain ⟨ch,hch,e⟩:=List.mem_map.mp hc
  have r:=PyProof.Rows.digit_range (Nat.isDigit_of_mem_toDigits (by decide) (by decide) hch)
  rw [← e]
  exact r
theorem dg_val (m:Nat):digitsVal (dg m)=m:=W.KIN.val_back m
theorem dg_ne (m:Nat):dg m≠[]:=by
  unfold dg
  intro h
  have:=PyProof.Rows.tDigits_len_ge 10 m
  rw [List.map_eq_nil_iff] at h
  rw [h] at this
  simp at this
theorem ofNat_back {l:List Nat} (h:AllDigits l):(l.map Char.ofNat).map Char.toNat=l:=by
  induction l with
  | nil=>rfl
  | cons c r ih =>
    have hc:=h.head
    have:(Char.ofNat c).toNat=c:=by
      have:∀ d:Nat,d≤9→(Char.ofNat (48+d)).toNat=48+d:=by decide
      have:=this (c - 48) (by omega)
      rwa [show 48+(c - 48)=c by omega] at this
    rw [List.map_cons,List.map_cons,this,ih h.tail]
theorem dg_of {l:List Nat} (h:AllDigits l) (hn:l≠[]) (hh:l.length=1∨∃ c r,l=c::r∧49≤c):dg (digitsVal l)=l:=by
  unfold dg
  have hl:l.length=(l.length - 1)+1:=by
    cases l with
    | nil=>exact absurd rfl hn
    | cons c r=>simp
  rw [toDigits_digitsVal (l.length - 1) l hl h (by rcases hh with e | e; exact .inl (by omega); exact .inr e),ofNat_back h]
theorem dg_zero:dg 0=[48]:=by decide
theorem dg_head {m:Nat} (h:0<m):∃ c r,dg m=c::r∧49≤c:=by
  have ha:=dg_all m
  have hv:=dg_val m
  have t:=toDigits_all (dg m) ha
  rw [hv] at t
  cases q:dg m with
  | nil=>exact absurd q (dg_ne m)
  | cons c r =>
    rw [q] at ha t hv
    refine ⟨c,r,rfl,?_⟩
    have hc:=ha.head
    by_cases z:c=48
    · exfalso
      subst z
      rw [List.dropWhile_cons] at t
      simp only [beq_self_eq_true,if_true] at t
      have hlen:(Nat.toDigits 10 m).length=r.length+1:=by
        have:=congrArg List.length q
        unfold dg at this
        rw [List.length_map] at this
        rw [this]; rfl
      rw [t] at hlen
      cases q2:r.dropWhile (· == 48) with
      | nil =>
        rw [q2] at hlen
        simp at hlen
        have:r=[]:=by
          cases r with
          | nil=>rfl
          | cons _ _=>simp at hlen
        subst this
        have:digitsVal [48]=0:=rfl
        omega
      | cons x y =>
        rw [q2] at hlen
        have h1:(r.dropWhile (· == 48)).length≤r.length:=len_dropWhile _ _
        rw [q2] at h1
        simp at hlen h1
        omega
    · omega
theorem dv_from (b:List Nat):∀ a:Nat,b.foldl (fun acc c=>acc*10+(c - 48)) a=a*10^b.length+digitsVal b:=by
  induction b with
  | nil=>intro a; show a=a*1+0; omega
  | cons c r ih =>
    intro a
    show r.foldl (fun acc c=>acc*10+(c - 48)) (a*10+(c - 48))=_
    have e:digitsVal (c::r)=r.foldl (fun acc c=>acc*10+(c - 48)) (0*10+(c - 48)):=rfl
    rw [e,ih,ih,List.length_cons,Nat.pow_succ,Nat.zero_mul,Nat.zero_add,Nat.add_mul,Nat.mul_assoc,Nat.mul_comm 10 (10^r.length)]
    omega
theorem dv_append (a b:List Nat):digitsVal (a++b)=digitsVal a*10^b.length+digitsVal b:=by
  have e:digitsVal (a++b)=b.foldl (fun acc c=>acc*10+(c - 48)) (digitsVal a):=by unfold digitsVal; rw [List.foldl_append]
  rw [e,dv_from]
theorem dv_zeros:∀ (k:Nat) (l:List Nat),digitsVal (List.replicate k 48++l)=digitsVal l
  | 0,l=>rfl
  | k+1,l=>by rw [List.replicate_succ]; show digitsVal (48::(List.replicate k 48++l))=_; rw [digitsVal_zero]; exact dv_zeros k l
def sl:Str:=⟨#[47]⟩
theorem cut_inj:∀ {p a s b:List Nat},47 ∉ p→47 ∉ a→p++47::s=a++47::b→p=a∧s=b
  | [],[],_,_,_,_,e=>by injection e with _ e; exact ⟨rfl,e⟩
  | [],x::a,_,_,_,ha,e=>by injection e with e _; exact absurd (by rw [e]; exact List.mem_cons_self) ha
  | y::p,[],_,_,hp,_,e=>by injection e with e _; exact absurd (by rw [← e]; exact List.mem_cons_self) hp
  | y::p,x::a,s,b,hp,ha,e=>by
    injection e with e1 e2
    obtain ⟨h1,h2⟩:=cut_inj (fun z=>hp (List.mem_cons_of_mem _ z)) (fun z=>ha (List.mem_cons_of_mem _ z)) e2
    exact ⟨by rw [e1,h1],h2⟩
theorem join2 (p q:Str) (r:List Str):(Str.join sl (p::q::r)).cps.toList=p.cps.toList++47::(Str.join sl (q::r)).cps.toList:=by
  show (p++sl++Str.join sl (q::r)).cps.toList=_
  rw [app_cps,app_cps]
  show p.cps.toList++[47]++_=_
  simp
theorem split_ne (x:Str):Txt.split x sl≠[]:=fun h=>by
  have:=PyProof.Rows.split_pos x sl
  rw [h] at this
  exact absurd this (by decide)
theorem split_one {x:Str} (h:47 ∉ x.cps.toList):Txt.split x sl=[x]:=by
  have hj:=StrLaws.join_split x sl
  cases q:Txt.split x sl with
  | nil=>exact absurd q (split_ne x)
  | cons p r =>
    rw [q] at hj
    cases r with
    | nil=>rw [show p=x from hj]
    | cons q' r' =>
      exfalso
      apply h
      rw [← hj,join2]
      simp
theorem split_two {a b:Str} (ha:47 ∉ a.cps.toList) (hb:47 ∉ b.cps.toList):Txt.split (a++sl++b) sl=[a,b]:=by
  have hj:=StrLaws.join_split (a++sl++b) sl
  have hf:=StrLaws.split_free (a++sl++b) 47
  have ex:(a++sl++b).cps.toList=a.cps.toList++47::b.cps.toList:=by
    rw [app_cps,app_cps]
    show a.cps.toList++[47]++_=_
    simp
  have hf:∀ p∈Txt.split (a++sl++b) sl,47 ∉ p.cps.toList:=hf
  cases q:Txt.split (a++sl++b) sl with
  | nil=>exact absurd q (split_ne _)
  | cons p r =>
    rw [q] at hj hf
    have hp:=hf p List.mem_cons_self
    cases r with
    | nil =>
      exfalso
      apply hp
      have:p=a++sl++b:=hj
      rw [this,ex]
      simp
    | cons q' r' =>
      have e:=congrArg (fun t:Str=>t.cps.toList) hj
      rw [join2,ex] at e
      obtain ⟨e1,e2⟩:=cut_inj hp ha e
      cases r' with
      | nil=>rw [str_ext e1,str_ext (show q'.cps.toList=b.cps.toList from e2)]
      | cons q2 r2 =>
        exfalso
        apply hb
        rw [← e2,join2]
        simp
theorem le_sum {p:Str}:∀ {l:List Str},p∈l→p.length≤(l.map (·.length)).sum
  | [],h=>by cases h
  | q::r,h=>by
    rw [List.map_cons,List.sum_cons]
    rcases List.mem_cons.mp h with rfl | h
    · omega
    · have:=le_sum h; omega
theorem part_len {x p:Str} (h:p∈Txt.split x sl):p.length≤x.length:=by
  have:=PyProof.Rows.split_weight x sl (by decide)
  have h1:p.length≤((Txt.split x sl).map (·.length)).sum:=le_sum h
  have h2:=PyProof.Rows.split_pos x sl
  omega
theorem tx_free (n:Int):47 ∉ (tx n).cps.toList:=by
  intro h
  rcases Int.lt_or_le n 0 with hn | hn
  · obtain ⟨m,rfl⟩:∃ m:Nat,n=-((m+1:Nat):Int):=⟨(-n - 1).toNat,by omega⟩
    rw [tx_neg] at h
    rcases List.mem_cons.mp h with h | h
    · omega
    · have:=dg_all _ 47 h; omega
  · obtain ⟨m,rfl⟩:=Int.eq_ofNat_of_zero_le hn
    rw [tx_nat] at h
    have:=dg_all _ 47 h
    omega
theorem figs_of {t:Str} (h:AllDigits t.cps.toList):figs t=true:=by
  unfold figs
  refine List.all_eq_true.mpr fun c hc=>?_
  have:=h c hc
  simp [dig,this.1,this.2]
theorem wrB_dg {t:Str} {m:Nat} (e:t.cps.toList=dg m):wrB t=true∧val t=m:=by
  refine ⟨?_,by unfold val; rw [e,dg_val]⟩
  unfold wrB
  rw [figs_of (by rw [e]; exact dg_all m)]
  have h1:t.cps.toList.isEmpty=false:=by
    rw [e]
    cases q:dg m with
    | nil=>exact absurd q (dg_ne m)
    | cons _ _=>rfl
  rw [h1]
  by_cases hm:m=0
  · subst hm
    have:t=zero:=str_ext (by rw [e,dg_zero,zero_cps])
    rw [decide_eq_true this]
    simp
  · obtain ⟨c,r,e2,hc⟩:=dg_head (Nat.pos_of_ne_zero hm)
    have:¬ t.cps.toList.head?=some 48:=by
      rw [e,e2]
      intro z
      injection z with z
      omega
    rw [decide_eq_false this]
    rfl
theorem rd_tx {n:Int} (h:(tx n).length≤4000):rd (tx n)=some n:=by
  rcases Int.lt_or_le n 0 with hn | hn
  · obtain ⟨m,rfl⟩:∃ m:Nat,n=-((m+1:Nat):Int):=⟨(-n - 1).toNat,by omega⟩
    have hneg:neg (tx (-((m+1:Nat):Int)))=true:=by
      unfold neg
      rw [tx_neg]; rfl
    have e:(fg (tx (-((m+1:Nat):Int)))).cps.toList=dg (m+1):=by
      unfold fg
      rw [if_pos hneg,tx_neg]
      rfl
    rw [rd_neg hneg h]
    obtain ⟨h1,h2⟩:=wrB_dg e
    unfold wr
    rw [if_pos h1,h2]
    rfl
  · obtain ⟨m,rfl⟩:=Int.eq_ofNat_of_zero_le hn
    have hneg:neg (tx (m:Int))=false:=by
      unfold neg
      rw [tx_nat]
      refine decide_eq_false fun z=>?_
      cases q:dg m with
      | nil=>exact absurd q (dg_ne m)
      | cons c r =>
        rw [q] at z
        injection z with z
        have:=dg_all m c (by rw [q]; exact List.mem_cons_self)
        omega
    rw [rd_plain hneg h]
    obtain ⟨h1,h2⟩:=wrB_dg (tx_nat m)
    unfold wr
    rw [if_pos h1,h2]
    rfl
end Mt
set_option linter.all false
namespace Mf
def lw (n d:Int):Int × Int:=(n / (Int.gcd n d:Int),d / (Int.gcd n d:Int))
structure Low (n d:Int):Prop where
  pos:0<d
  low:Int.gcd n d=1
theorem gcd_pos {n d:Int} (h:0<d):0<(Int.gcd n d:Int):=by
  have:=Int.gcd_pos_of_ne_zero_right n (Int.ne_of_gt h)
  omega
theorem lw_low {n d:Int} (h:0<d):Low (lw n d).1 (lw n d).2:=by
  have g:=gcd_pos (n:=n) h
  refine ⟨?_,?_⟩
  · exact Int.ediv_pos_of_pos_of_dvd h (Int.le_of_lt g) (Int.gcd_dvd_right n d)
  · exact Int.gcd_ediv_gcd_ediv_gcd (by omega)
theorem lw_eq {n d:Int}:(lw n d).1*(Int.gcd n d:Int)=n∧(lw n d).2*(Int.gcd n d:Int)=d :=
  ⟨Int.ediv_mul_cancel (Int.gcd_dvd_left n d),Int.ediv_mul_cancel (Int.gcd_dvd_right n d)⟩
end Mf
set_option linter.all false
namespace Mf
abbrev Fr:=Int × Int
def LowF (f:Fr):Prop:=Low f.1 f.2
theorem lw_le {n d:Int} (h:0<d):(lw n d).2≤d∧(lw n d).1.natAbs≤n.natAbs:=by
  obtain ⟨e1,e2⟩:=lw_eq (n:=n) (d:=d)
  have g:=gcd_pos (n:=n) h
  have p:=(lw_low (n:=n) h).pos
  generalize (lw n d).1=a at *
  generalize (lw n d).2=b at *
  generalize (Int.gcd n d:Int)=G at *
  refine ⟨?_,?_⟩
  · rw [← e2]; have:=Int.mul_le_mul_of_nonneg_left (show (1:Int)≤G by omega) (Int.le_of_lt p); simpa using this
  · rw [← e1,Int.natAbs_mul]
    exact Nat.le_mul_of_pos_right _ (by omega)
end Mf
set_option Elab.async false
set_option linter.all false
namespace Mf
end Mf
set_option Elab.async false
set_option linter.all false
set_option maxRecDepth 100000
namespace L2
open PySem PySem.Spec PyProof.Rows
theorem Room.u1 {k:Nat} {A:Around} (r:Room k A):A.units+1<cLine:=by have:=r.units; omega
@[irreducible] def rDG:R2:=fun x y H Q=>∃ a v,x=.ref a∧DGet H a y (some v)∧Q v H
@[irreducible] def rDP (D:Ends) (σ:St) (x y v:V) (H:Hp):Prop:=∃ a H4,x=.ref a∧DPut H a y v H4∧D.nx σ H4
def tDPut (td ty tv:TE):TS:=fun D σ H=>tv σ H fun v H1=>td σ H1 fun x H2=>ty σ H2 fun y H3=>rDP D σ x y v H3
structure PPsw (X:Cx) (pos:Pos) (keys:List (Option Expr)) (values:List Expr) (trs:List (TE × TE)):Prop where p:PPs X pos keys values trs
section
variable {X:Cx} {o i value k v:Expr} {td ty tv tk:TE} {pos pos':Pos} {ks:List (Option Expr)} {vs:List Expr} {trs:List (TE × TE)}
theorem we_dget (hu:X.A.units+1<cLine) (ho:PEw X o td) (hi:PEw X i ty) (hs:NoSl i:=by intro _ _; rfl):PEw X (.Subscript o i pos) (tOp rDG td ty):=⟨by unfold rDG; exact pe_dget hu ho.p hi.p hs⟩
theorem ws_dput (hu:X.A.units+1<cLine) (ho:PEw X o td) (hi:PEw X i ty) (hv:PEw X value tv) (hs:swapsWith value (some (.Subscript o i pos')) pos.line X.env=pure false:=by rfl) :
    PSw X (.Assign [.Subscript o i pos'] value pos) (tDPut td ty tv):=⟨by unfold tDPut rDP; exact ps_dput hu ho.p hi.p hv.p hs⟩
theorem wpp_nil:PPsw X pos [] [] []:=⟨pps_nil⟩
theorem wpp_cons (hk:PEw X k tk) (hv:PEw X v tv) (hr:PPsw X pos ks vs trs):PPsw X pos (some k::ks) (v::vs) ((tk,tv)::trs):=⟨pps_cons hk.p hv.p hr.p⟩
theorem we_disp (h:PPsw X pos ks vs trs) (hall:ks.all (·.isSome)=true:=by rfl) (hl:ks.length=vs.length:=by rfl) (h0:ks≠[]:=by intro h; cases h) (h15:ks.length≤15:=by decide):PEw X (.Dict ks vs pos) (tDisp trs):=⟨pe_disp h.p hall hl h0 h15⟩
end
theorem dgS {H:Hp} {p:Addr} {kvs:List (Key × V)} {x:Str} {v:V} {Q:VK} (e:H p=some (.dK kvs)) (hv:valV kvs (.inr x)=some v) (q:Q v H):rDG (.ref p) (.str x) H Q:=by
  unfold rDG; exact ⟨p,v,rfl,hv ▸ DGet.k (k:=.inr x) e,q⟩
theorem dpS {H:Hp} {p:Addr} {kvs kvs2:List (Key × V)} {x:Str} {v:V} {D:Ends} {σ:St} (e:H p=some (.dK kvs)) (hl:kvs.length≤64) (hk:putK kvs (.inr x) v=kvs2) (q:∀ H',H' p=some (.dK kvs2)→SameBut p H H'→D.nx σ H') :
    rDP D σ (.ref p) (.str x) v H:=by
  unfold rDP
  exact ⟨p,_,rfl,DPut.k (k:=.inr x) e (Nat.lt_of_le_of_lt hl (by decide)),q _ (by rw [hk]; exact upd_same) SameBut.self⟩
theorem SameBut.tD {H H':Hp} {p:Addr} (s:SameBut p H H') {xs:List (Key × V)} (hp:H p=some (.dK xs)):SameT H H':=fun b ys h=>s.at (ne_of h hp (by intro z; cases z)) h
structure TapeLike (p:Addr) (Fd:Nat→Hp→Prop):Prop where
  but:∀ n D H1 H2,D≠p→SameBut D H1 H2→Fd n H1→Fd n H2
  same:∀ n H1 H2,Same H1 H2→Fd n H1→Fd n H2
  dic:∀ n H',Fd n H'→∃ xs,H' p=some (.dK xs)
section
variable {σ:St} {js:List Nat} {te:TE} {H:Hp} {Q:VK}
theorem TapeLike.np {p:Addr} {Fd:Nat→Hp→Prop} (fl:TapeLike p Fd) {n:Nat} {H':Hp} {D:Addr} (F:Fd n H') (h:H' D=none):D≠p:=fun e=>by
  obtain ⟨xs,hp⟩:=fl.dic n H' F
  subst e; rw [hp] at h; cases h
theorem comp_tp {J:It} {n:Nat} {p:Addr} {Fd:Nat→Hp→Prop} (fl:TapeLike p Fd) (F0:Fd 0 H) (src:Nat→V→Prop) (R:Nat→V→Hp→Prop) (hR:∀ i y H1 H2,SameT H1 H2→R i y H1→R i y H2) (hz:n≤100000)
    (hg:∀ i H',SameBut p H H'→i<n→J.go i H'∧∀ x H3,J.yld i H' x H3→H3=H'∧src i x) (hst:∀ H',SameBut p H H'→J.stop n H')
    (hs:∀ i x H' (Q':VK),src i x→i<n→Fd i H'→SameBut p H H'→(∀ y H5,Fd (i+1) H5→SameBut p H' H5→R i y H5→Q' y H5)→te (some x::slots σ js) H' Q')
    (hd:∀ D ys H',H D=none→H' D=some (.lst ys)→Fd n H'→SameBut p H H'→ys.length=n→(∀ (i:Nat) (y:V),ys[i]?=some y→R i y H')→Q (.ref D) H'):CompB J σ js tYes te H Q:=by
  refine comp_any (J:=J) (n:=n) src hz (fun D i ys H'=>H D=none∧Fd i H'∧SameBut p H H'∧∀ (i:Nat) (y:V),ys[i]?=some y→R i y H') (fun D H1 hD _ s=>⟨hD,fl.same _ _ _ s F0,s.but,fun i y h=>by simp at h⟩)
    (fun D i ys H' hi _ q=>hg i H' q.2.2.1 hi) (fun D ys H' _ q=>hst H' q.2.2.1) (fun D i x ys H' hx hi hy hD q=>?_) (fun D ys H' hy hD hD' q=>hd D ys H' hD hD' q.2.1 q.2.2.1 hy q.2.2.2)
  have np:=fl.np F0 q.1
  refine hs i x H' _ hx hi q.2.1 q.2.2.1 fun y H5 F5 s5 r=>?_
  obtain ⟨xs,hp⟩:=fl.dic _ H' q.2.1
  have hD5:=s5.at np hD
  refine ⟨hD5,fun H6 hD6 s6=>⟨q.1,fl.but _ D _ _ np s6 F5,SameBut.thru q.1 (q.2.2.1.trans s5) s6,?_⟩⟩
  have t6:=s6.t hD5
  exact snoc_all (R:=fun j z=>R j z H6) (fun j z hj=>hR j z _ _ ((s5.tD hp).trans t6) (q.2.2.2 j z hj)) (by rw [hy]; exact hR i y _ _ t6 r)
theorem comp_tpR {lo:Int} {n:Nat} {p:Addr} {Fd:Nat→Hp→Prop} (fl:TapeLike p Fd) (F0:Fd 0 H) (R:Nat→V→Hp→Prop) (hR:∀ i y H1 H2,SameT H1 H2→R i y H1→R i y H2) (hz:n≤100000)
    (hs:∀ i H' (Q':VK),i<n→Fd i H'→SameBut p H H'→(∀ y H5,Fd (i+1) H5→SameBut p H' H5→R i y H5→Q' y H5)→te (some (.int (lo+(i:Nat)))::slots σ js) H' Q')
    (hd:∀ D ys H',H D=none→H' D=some (.lst ys)→Fd n H'→SameBut p H H'→ys.length=n→(∀ (i:Nat) (y:V),ys[i]?=some y→R i y H')→Q (.ref D) H'):CompB (Itr lo n) σ js tYes te H Q :=
  comp_tp fl F0 (fun i x=>x=.int (lo+(i:Nat))) R hR hz (fun i H' s hi=>⟨hi,fun x H3 y=>y⟩) (fun H' s=>Nat.le_refl _)
    (fun i x H' Q' hx hi f s k=>by subst hx; exact hs i H' Q' hi f s k) hd
end
end L2
set_option Elab.async false
set_option linter.all false
set_option maxRecDepth 100000
namespace L2
open PySem PySem.Spec PyProof.Rows
@[irreducible] def rExt:V→List V→Hp→VK→Prop:=rExtend
theorem mt_ext {X:Cx}:MtR X "list.extend" rExt:=by unfold rExt; exact mt_extend
theorem extL {H:Hp} {l b:Addr} {xs zs:List V} {Q:VK} (h:H l=some (.lst xs)) (h2:H b=some (.lst zs)) (hz:xs.length+zs.length≤1000) (k:∀ H',H' l=some (.lst (xs++zs))→SameBut l H H'→Q .non H'):rExt (.ref l) [.ref b] H Q:=by
  unfold rExt; exact ⟨l,b,xs,zs,rfl,rfl,h,h2,Nat.le_of_lt (small1000 hz),k _ upd_same SameBut.self⟩
section
variable {prog:Program} {w:World} {A:Around} {E:Value→Shared→Prop} {s:Shared} {l:Addr} {xs:Array (Int × Tok)}
theorem sum_tupG {Q:Value→Shared→Prop} (hh:A.handled=none) (hl:s.heap.IsTuple l (intItems xs))
    (h:∀ h' tk t',(∀ b o,s.heap.get? b=some o→h'.get? b=some o)→Q (.int (preSum (numAt xs) xs.size) t') { s with heap:=h',toks:=tk }) :
    wpAny (model prog w) A (call (.builtin "sum") [.ref l]) Q E s:=by
  have hlt:l<s.heap.objs.size:=by obtain ⟨_,e,_⟩:=hl; exact Heap.lt_size e
  refine call_sum_walkG (wpAny_pyIter_tuple hl ?_)
  refine ⟨_,[_,l],[_],_,_,_,numAt xs,rfl,Walks.tuple (A:=A.in1) hh _ l (Nat.ne_of_lt hlt) (intItems xs),⟨⟨_,Heap.get?_push_size _ rfl,rfl,rfl⟩,hl.push _⟩,fun c hc=>?_,(fun _ _=>intItems_at),fun h' tk t' hk=>?_⟩
  · show c<(s.heap.push _).objs.size
    rw [Heap.size_push]
    rcases List.mem_cons.mp hc with rfl | hc
    · exact Nat.lt_succ_self _
    · rcases List.mem_cons.mp hc with rfl | hc
      · exact Nat.lt_succ_of_lt hlt
      · cases hc
  · have:=h h' tk t' fun c o e=>by
      refine hk c o (fun hm=>?_) (Heap.get?_push_of_some _ e)
      rcases List.mem_cons.mp hm with e1 | hm
      · exact absurd (e1 ▸ Heap.lt_size e) (Nat.lt_irrefl _)
      · cases hm
    simpa [intItems] using this
end
@[irreducible] def rSumT (K:PySem.W.Frag):List V→Hp→VK→Prop:=fun xs H Q=>∃ (p:Addr) (ns:List Int),xs=[.ref p]∧SqT K H p (ns.map V.int)∧Q (.int ns.sum) H
theorem rsT {K:PySem.W.Frag} {H:Hp} {p:Addr} {ns:List Int} {Q:VK} (h:SqT K H p (ns.map V.int)) (q:Q (.int ns.sum) H):rSumT K [.ref p] H Q:=by unfold rSumT; exact ⟨p,ns,rfl,h,q⟩
theorem cl_sumT {X:Cx} (K:PySem.W.Frag) (hc:X.calm=true) (hK:X.K=K:=by rfl):CallR X (.builtin "sum") (rSumT K):=by
  subst hK
  unfold rSumT
  intro pins s σ H xs us Q I r h
  obtain ⟨p,ns,rfl,hq,q⟩:=h
  obtain ⟨u,rfl,rx⟩:=vals1 r
  cases rx
  obtain ⟨its,r',pl,hz⟩:=I.tuple hq
  have hi:=intsAre_of r'
  obtain ⟨xs',e⟩:=hi.allInts.items
  rw [e] at pl
  refine sum_tupG (I.ok.hd hc) pl fun h' tk t' hk=>⟨.int ns.sum,H,I.kept hk,⟨t',?_⟩,q⟩
  rw [preSum_eq,List.take_of_length_le (by simp)]
  rw [← hi.numsOf]
  have e2:its=(intItems xs').toList:=by rw [← e]
  rw [e2,nums_intItems]
section
variable {js:List Nat} {te:TE} {tc:TT} {σ:St} {H:Hp} {Q:VK}
theorem RepL.atI {α:Type} {g:α→PyData}:∀ {as:List α} {xs:List V},RepL H (as.map g) xs→∀ {i:Nat} {x:V},xs[i]?=some x→∃ a,as[i]?=some a∧Rep H (g a) x:=by
  intro as xs r i x e
  obtain ⟨d,h1,h2⟩:=r.get e
  rw [List.getElem?_map] at h1
  cases q:as[i]? with
  | none=>rw [q] at h1; cases h1
  | some a=>rw [q] at h1; cases h1; exact ⟨a,rfl,h2⟩
theorem comp_fltD {K:PySem.W.Frag} {a:Addr} {xs:List V} {α:Type} {g:α→PyData} {as:List α} (r:RepL H (as.map g) xs) (p:α→Bool) (hz:xs.length≤100000) (hl:H a=some (.lst xs))
    (ht:∀ x c H' (Q':Bool→Hp→Prop),c∈as→Rep H' (g c) x→Same H H'→(∀ H5,Same H' H5→Q' (p c) H5)→tc (some x::slots σ js) H' Q')
    (he:∀ x H' (Q':VK),Q' x H'→te (some x::slots σ js) H' Q')
    (hd:∀ D ys H',H D=none→H' D=some (.lst ys)→Same H H'→RepL H' ((as.filter p).map g) ys→Q (.ref D) H'):CompB (Itl K a) σ js tc te H Q:=by
  unfold CompB
  intro D hD
  have hlen:xs.length=as.length:=by rw [r.len,List.length_map]
  refine ⟨fun i m ys H'=>m=xs.length - i∧i≤xs.length∧H' D=some (.lst ys)∧Same H H'∧RepL H (((as.take i).filter p).map g) ys∧ys.length≤i,⟨xs.length,by simp,Nat.zero_le _,upd_same,Same.upd hD,RepL.nil,Nat.le_refl _⟩,?_⟩
  rintro i m ys H2 ⟨rfl,hi,hD2,s2,ry,hy⟩
  refine ⟨hD2,?_⟩
  by_cases hlt:i<xs.length
  · have hx:xs[i]?=some xs[i]:=List.getElem?_eq_getElem hlt
    refine .inr ⟨⟨xs,_,SqL.of (s2 _ _ hl),hx⟩,Nat.lt_of_le_of_lt (m:=100000) (by omega) (by decide),fun x H3 hy3=>?_⟩
    obtain ⟨rfl,hx3⟩:=hy3
    have hx3:=hx3 xs (SqL.of (s2 _ _ hl))
    obtain ⟨c,hc,rc⟩:=r.atI hx3
    have hti:as.take (i+1)=as.take i++[c]:=by rw [List.take_add_one,hc]; rfl
    refine ⟨fun b H4=>b=p c∧Same H3 H4,ht x c H3 _ (List.mem_of_getElem? hc) (rc.same s2) s2 fun H5 s5=>⟨rfl,s5⟩,?_⟩
    rintro b H4 ⟨rfl,s4⟩
    by_cases hp:p c=true
    · rw [if_pos hp]
      refine ⟨fun y H5=>y=x∧H5=H4,he x H4 _ ⟨rfl,rfl⟩,?_⟩
      rintro y H5 ⟨rfl,rfl⟩
      refine ⟨s4 _ _ hD2,_,?_,rfl,hlt,upd_same,Same.thru hD (s2.trans s4) SameBut.self,?_,?_⟩
      · omega
      · rw [hti,List.filter_append,List.map_append]
        have:List.filter p [c]=[c]:=by simp [hp]
        rw [this]
        exact RepL.snoc ry rc
      · rw [List.length_append,List.length_singleton]; omega
    · rw [if_neg hp]
      refine ⟨s4 _ _ hD2,_,?_,rfl,hlt,s4 _ _ hD2,s2.trans s4,?_,?_⟩
      · omega
      · rw [hti,List.filter_append]
        have:List.filter p [c]=[]:=by simp [hp]
        rw [this,List.append_nil]
        exact ry
      · omega
  · have e:i=xs.length:=by omega
    subst e
    refine .inl ⟨⟨xs,SqL.of (s2 _ _ hl),Nat.le_refl _⟩,hd D ys H2 hD hD2 s2 ?_⟩
    rw [hlen,List.take_length] at ry
    exact ry.same s2
end
end L2
set_option Elab.async false
set_option linter.all false
namespace Mf
end Mf
set_option Elab.async false
set_option linter.all false
namespace Mf
end Mf
set_option Elab.async false
set_option linter.all false
set_option maxRecDepth 100000
namespace HT
open PySem PyProof.Rows
section
variable {prog:Program} {w:World} {A:Around} {E:Value→Shared→Prop} {s:Shared}
theorem getItem_tuple_whole {t sl:Addr} {items:Array Value} {vl vu:Value} {lo hi:Option Int} {Q:Value→Shared→Prop} (ht:IsTup s.heap t items) (hs:s.heap.IsSliceOf sl vl vu .none) (pl:IsPart vl lo) (pu:IsPart vu hi)
    (h0:sIx items.size 0 lo=0) (h1:sIx items.size items.size hi=items.size) (h:Q (.ref t) s):wpAny (model prog w) A (getItem (.ref t) (.ref sl)) Q E s:=by
  obtain ⟨os,hos,hcs,hds⟩:=id hs
  have hTs:s.TypeIs (.ref sl) "slice" := ⟨os,hos,hcs⟩
  have hTt:s.TypeIs (.ref t) "tuple" := ht.typeIs
  unfold getItem
  try with_reducible refine wpAny_holding ?_
  first | refine wpAny_bind (wpAny_pure ?_) | skip
  refine wpAny_bind (wpAny_sequenceKey ht.typeIs (by decide) ?_)
  refine wpAny_bind (wpAny_callSpecial?_slot (name:=Str.ofString "__getitem__") ht.typeIs PyProof.Rows.slot_tuple_getitem
    (wpAny_call_entry PyProof.Rows.slot_tuple_getitem ht.typeIs entry_tuple_getitem ?_ (args_tuple_getitem _ _)))
  show wpAny _ _ (Builtin.Tuple.tupleItemsOf (.ref t) >>= _) _ _ s
  refine wpAny_bind (tupleItemsOf_ ht ?_)
  refine wpAny_bind (wpAny_typeOf hTs ?_)
  rw [if_pos (by decide)]
  refine wpAny_bind (sliceApplied_gen hs pl pu ?_)
  have hyes:(((sIx items.size 0 lo:Nat):Int) == 0&&(1:Int) == 1&&(sIx items.size items.size hi - sIx items.size 0 lo) == items.size)=true:=by
    rw [h0,h1]; simp
  show wpAny _ _ (if (((sIx items.size 0 lo:Nat):Int) == 0&&(1:Int) == 1&&(sIx items.size items.size hi - sIx items.size 0 lo) == items.size)=true then _ else _) _ _ s
  rw [if_pos hyes]
  unfold Builtin.Tuple.tupleIsExact
  refine wpAny_bind (wpAny_bind (wpAny_typeOf hTt (wpAny_pure ?_)))
  rw [if_pos (by decide)]
  refine wpAny_bind (wpAny_rule ?_)
  first
    | exact wpAny_pure ⟨_,rfl,wpAny_pure h⟩
    | exact wpAny_bind (wpAny_pure (wpAny_pure ⟨_,rfl,wpAny_pure h⟩))
end
end HT
namespace L2
open PySem PySem.W PySem.Spec PySem.Calls PyProof.Rows
theorem cutV_whole {xs:List V} {lo hi:Option Int} (h0:HT.sIx xs.length 0 lo=0) (h1:HT.sIx xs.length xs.length hi=xs.length):cutV xs lo hi=xs:=by
  unfold cutV
  rw [h0,h1]; simp
section
variable {X:Cx}
@[irreducible] def rSlA (K:PySem.W.Frag):V→Option Int→Option Int→Hp→VK→Prop:=fun x lo hi H Q=>∃ a xs,x=.ref a∧H a=some (.tup xs)∧∀ c H',Same H H'→H' c=some (.tup (cutV xs lo hi))→Q (.ref c) H'
theorem sl_tupA (K:PySem.W.Frag) (hK:X.K=K:=by rfl):SlR X (rSlA K):=by
  unfold rSlA
  subst hK
  intro pins s σ H x v vl vu lo hi sl Q I rx hs pl pu h
  obtain ⟨a,xs,rfl,hx,q⟩:=h
  by_cases hw:HT.sIx xs.length 0 lo=0∧HT.sIx xs.length xs.length hi=xs.length
  · cases rx
    obtain ⟨its,r,ht,hz⟩:=I.tuple (SqT.of hx)
    have hlen:its.toArray.size=xs.length:=by rw [List.size_toArray]; exact r.length.symm
    refine ⟨"tuple",_,PyProof.Rows.slot_tuple_getitem.lookup,ht.typeIs,?_⟩
    refine HT.getItem_tuple_whole ht hs pl pu (by rw [hlen]; exact hw.1) (by rw [hlen]; exact hw.2) ?_
    exact ⟨.ref a,H,I,rfl,q a H (Same.refl _) (by rw [cutV_whole hw.1 hw.2]; exact hx)⟩
  · exact sl_tup pins s σ H (.ref a) v vl vu lo hi sl Q I rx hs pl pu ⟨a,xs,rfl,SqT.of hx,hw,fun p hp=>q p _ (Same.upd hp) upd_same⟩
theorem slA_hi {K:PySem.W.Frag} {H:Hp} {a:Addr} {xs:List V} {k:Nat} {Q:VK} (h:H a=some (.tup xs)) (q:∀ c H',Same H H'→H' c=some (.tup (xs.take k))→Q (.ref c) H'):rSlA K (.ref a) none (some (k:Int)) H Q:=by
  unfold rSlA
  exact ⟨a,xs,rfl,h,fun c H' s e=>q c H' s (by rw [e,cutV_hi])⟩
theorem slA_lo {K:PySem.W.Frag} {H:Hp} {a:Addr} {xs:List V} {k:Nat} {Q:VK} (h:H a=some (.tup xs)) (q:∀ c H',Same H H'→H' c=some (.tup (xs.drop k))→Q (.ref c) H'):rSlA K (.ref a) (some (k:Int)) none H Q:=by
  unfold rSlA
  exact ⟨a,xs,rfl,h,fun c H' s e=>q c H' s (by rw [e,cutV_lo])⟩
end
end L2
set_option Elab.async false
set_option linter.all false
set_option maxRecDepth 100000
namespace HT
open PySem PySem.W PyProof.Rows
def KasAll {α:Type} (n:Nat) (lt:Nat→Nat→Bool) (R:α→Prop):KasT α→Prop
  | .ret a=>R a
  | .ask i j k=>i<n∧j<n∧KasAll n lt R (k (lt i j))
section
variable {n:Nat} {lt:Nat→Nat→Bool}
theorem KasAll.bind {α β:Type} {R:α→Prop} {S:β→Prop} {f:α→KasT β}:∀ {t:KasT α},KasAll n lt R t→(∀ a,R a→KasAll n lt S (f a))→KasAll n lt S (t.bind f)
  | .ret a,h,k=>k a h
  | .ask i j t,⟨h1,h2,h3⟩,k=>⟨h1,h2,KasAll.bind (t:=t (lt i j)) h3 k⟩
theorem KasAll.wp {α:Type} {R:α→Prop} {cmp:Nat→Nat→(Bool→Shared→Prop)→Shared→Prop} {Q:α→Shared→Prop} {s:Shared} (hc:∀ i j C,i<n→j<n→C (lt i j) s→cmp i j C s) (q:∀ a,R a→Q a s) :
    ∀ {t:KasT α},KasAll n lt R t→t.kasWp cmp Q s
  | .ret a,h=>q a h
  | .ask i j t,⟨h1,h2,h3⟩=>hc i j _ h1 h2 (KasAll.wp (t:=t (lt i j)) hc q h3)
def Good (n:Nat) (p:Array Nat):Prop:=p.Perm (List.toArray (List.range n))
theorem Good.bd {p:Array Nat} (g:Good n p) (hn:0<n) (i:Nat):p.getD i 0<n:=by
  by_cases hi:i<p.size
  · have e:p.getD i 0=p[i]:=by simp [Array.getD,hi]
    rw [e]
    have m:p[i]∈List.toArray (List.range n):=(Array.Perm.mem_iff g).mp (Array.getElem_mem hi)
    simpa using m
  · have e:p.getD i 0=0:=by simp [Array.getD,hi]
    rw [e]; exact hn
theorem Good.rev {p:Array Nat} (g:Good n p) (i j:Nat):Good n (kas_rev p i j):=(mirror_perm p i j _).trans g
theorem Good.bub {p:Array Nat} (g:Good n p) (i j:Nat):Good n (bubble p i j):=(bubble_perm p i j).trans g
theorem all_asc {p:Array Nat} (g:Good n p) (hn:0<n):∀ (f m:Nat),KasAll n lt (fun _=>True) (kas_asc p f m)
  | 0,m=>True.intro
  | f+1,m=>⟨g.bd hn _,g.bd hn _,by
    cases lt (p.getD m 0) (p.getD (m - 1) 0) with
    | true=>exact True.intro
    | false=>exact all_asc g hn f (m+1)⟩
theorem all_desc (hn:0<n):∀ (f:Nat) {p:Array Nat} (g:Good n p) (m q:Nat),KasAll n lt (fun r=>Good n r.1) (kas_desc f p m q)
  | 0,p,g,m,q=>g
  | f+1,p,g,m,q=>by
    refine ⟨g.bd hn _,g.bd hn _,?_⟩
    cases lt (p.getD m 0) (p.getD (m - 1) 0) with
    | true =>
      show KasAll n lt _ (if q > 0 then _ else _)
      split
      · exact all_desc hn f (g.rev _ _) _ _
      · exact all_desc hn f g _ _
    | false =>
      refine ⟨g.bd hn _,g.bd hn _,?_⟩
      cases lt (p.getD (m - 1) 0) (p.getD m 0) with
      | true=>exact g
      | false=>exact all_desc hn f g _ _
theorem all_tail3 {p:Array Nat} (g:Good n p) (hn:0<n) (m r:Nat):KasAll n lt (fun r=>Good n r.2) (kas_tail3 m r p):=by
  unfold kas_tail3
  exact (all_asc (g.rev 0 m) hn _ _).bind fun _ _=>g.rev 0 m
theorem all_descPart {p:Array Nat} (g:Good n p) (hn:0<n) (m r:Nat):KasAll n lt (fun r=>Good n r.2) (kas_descPart m r p):=by
  unfold kas_descPart
  refine (all_desc hn _ g _ _).bind fun r hr=>?_
  split
  · exact all_tail3 (Good.rev hr _ _) hn _ _
  · exact all_tail3 hr hn _ _
theorem all_count {p:Array Nat} (g:Good n p) (hn:0<n) (m:Nat):KasAll n lt (fun r=>Good n r.2) (kas_count m p):=by
  unfold kas_count
  refine (all_asc g hn _ _).bind fun k _=>?_
  split
  · exact g
  · split
    · refine ⟨g.bd hn _,g.bd hn _,?_⟩
      cases lt (p.getD 0 0) (p.getD (k - 1) 0) with
      | true=>exact g
      | false=>exact all_descPart (g.rev _ _) hn _ _
    · exact all_descPart g hn _ _
theorem all_place {p:Array Nat} (g:Good n p) (hn:0<n) (k:Nat):∀ (f l r:Nat),KasAll n lt (fun _=>True) (kas_place p k f l r)
  | 0,l,r=>True.intro
  | f+1,l,r=>by
    unfold kas_place
    split
    · exact True.intro
    · refine ⟨g.bd hn _,g.bd hn _,?_⟩
      cases lt (p.getD k 0) (p.getD ((l+r) / 2) 0) with
      | true=>exact all_place g hn k f _ _
      | false=>exact all_place g hn k f _ _
theorem all_bin (hn:0<n):∀ (f:Nat) {p:Array Nat} (g:Good n p) (k:Nat),KasAll n lt (Good n) (kas_bin f p k)
  | 0,p,g,k=>g
  | f+1,p,g,k=>by
    unfold kas_bin
    exact (all_place g hn k _ _ _).bind fun l _=>all_bin hn f (g.bub _ _) _
theorem all_sort (hn:0<n):KasAll n lt (Good n) (kas_sort n):=by
  unfold kas_sort
  refine (all_count (Array.Perm.refl _) hn n).bind fun r hr=>?_
  split
  · exact all_bin hn _ hr _
  · exact hr
end
end HT
set_option Elab.async false
set_option linter.all false
set_option maxRecDepth 100000
namespace HT
open PySem PySem.W PyProof.Rows
structure Ord (n:Nat) (lt:Nat→Nat→Bool):Prop where
  tot:∀ i j,i<n→j<n→i≠j→lt i j=false→lt j i=true
  tra:∀ i j k,lt i j=true→lt j k=true→lt i k=true
def Asc (lt:Nat→Nat→Bool) (p:Array Nat) (m:Nat):Prop:=∀ a b,a<b→b<m→lt (p.getD a 0) (p.getD b 0)=true
def Dsc (lt:Nat→Nat→Bool) (p:Array Nat) (m:Nat):Prop:=∀ a b,a<b→b<m→lt (p.getD b 0) (p.getD a 0)=true
section
variable {n:Nat} {lt:Nat→Nat→Bool}
theorem KasAll.mono {α:Type} {R S:α→Prop} (k:∀ a,R a→S a):∀ {t:KasT α},KasAll n lt R t→KasAll n lt S t
  | .ret a,h=>k a h
  | .ask i j t,⟨h1,h2,h3⟩=>⟨h1,h2,KasAll.mono k (t:=t (lt i j)) h3⟩
theorem Good.size {p:Array Nat} (g:Good n p):p.size=n:=by
  have:=(Array.perm_iff_toList_perm.mp g).length_eq
  simpa using this
theorem Good.ne {p:Array Nat} (g:Good n p) {i j:Nat} (hi:i<n) (hj:j<n) (h:i≠j):p.getD i 0≠p.getD j 0:=by
  have hn:p.toList.Nodup:=(Array.perm_iff_toList_perm.mp g).nodup_iff.mpr (by simpa using List.nodup_range)
  have hs:=g.size
  have e1:p.getD i 0=p.toList[i]'(by simpa [hs] using hi):=by simp [Array.getD,hs,hi]
  have e2:p.getD j 0=p.toList[j]'(by simpa [hs] using hj):=by simp [Array.getD,hs,hj]
  rw [e1,e2]
  intro e
  exact h ((List.getElem_inj hn).mp e)
theorem Asc.one {p:Array Nat}:Asc lt p 1:=fun a b h1 h2=>by omega
theorem Asc.more (O:Ord n lt) {p:Array Nat} (g:Good n p) {m:Nat} (h:Asc lt p m) (h1:1≤m) (hm:m<n) (e:lt (p.getD m 0) (p.getD (m - 1) 0)=false):Asc lt p (m+1):=fun a b hab hb=>by
  by_cases q:b<m
  · exact h a b hab q
  · have e':b=m:=by omega
    subst e'
    have l1:lt (p.getD (b - 1) 0) (p.getD b 0)=true:=O.tot _ _ (g.bd (by omega) _) (g.bd (by omega) _) (g.ne (by omega) (by omega) (by omega)) e
    by_cases r:a=b - 1
    · rw [r]; exact l1
    · exact O.tra _ _ _ (h a (b - 1) (by omega) (by omega)) l1
theorem asc_run (O:Ord n lt) {p:Array Nat} (g:Good n p):∀ (f m:Nat),1≤m→m+f≤n→Asc lt p m→KasAll n lt (fun k=>m≤k∧k≤m+f∧Asc lt p k∧(k<m+f→lt (p.getD k 0) (p.getD (k - 1) 0)=true)) (kas_asc p f m)
  | 0,m,_,_,h=>⟨Nat.le_refl _,Nat.le_refl _,h,fun q=>by omega⟩
  | f+1,m,h1,hm,h=>by
    refine ⟨g.bd (by omega) _,g.bd (by omega) _,?_⟩
    cases e:lt (p.getD m 0) (p.getD (m - 1) 0) with
    | true=>exact ⟨Nat.le_refl _,by omega,h,fun _=>e⟩
    | false =>
      refine (show KasAll n lt _ (kas_asc p f (m+1)) from ?_)
      have ih:=asc_run O g f (m+1) (by omega) (by omega) (h.more O g h1 (by omega) e)
      exact KasAll.mono (fun k ⟨a1,a2,a3,a4⟩=>⟨by omega,by omega,a3,fun q=>a4 (by omega)⟩) ih
theorem Dsc.more (O:Ord n lt) {p:Array Nat} {m:Nat} (h:Dsc lt p m) (h1:1≤m) (e:lt (p.getD m 0) (p.getD (m - 1) 0)=true):Dsc lt p (m+1):=fun a b hab hb=>by
  by_cases q:b<m
  · exact h a b hab q
  · have e':b=m:=by omega
    subst e'
    by_cases r:a=b - 1
    · rw [r]; exact e
    · exact O.tra _ _ _ e (h a (b - 1) (by omega) (by omega))
theorem desc_run (O:Ord n lt) {p:Array Nat} (g:Good n p):∀ (f m:Nat),1≤m→m+f≤n→Dsc lt p m→KasAll n lt (fun r=>r.1=p∧r.2.2=0∧m≤r.2.1∧r.2.1≤m+f∧Dsc lt p r.2.1) (kas_desc f p m 0)
  | 0,m,_,_,h=>⟨rfl,rfl,Nat.le_refl _,Nat.le_refl _,h⟩
  | f+1,m,h1,hm,h=>by
    refine ⟨g.bd (by omega) _,g.bd (by omega) _,?_⟩
    cases e:lt (p.getD m 0) (p.getD (m - 1) 0) with
    | true =>
      refine (show KasAll n lt _ (kas_desc f p (m+1) 0) from ?_)
      exact KasAll.mono (fun r ⟨a1,a2,a3,a4,a5⟩=>⟨a1,a2,by omega,by omega,a5⟩) (desc_run O g f (m+1) (by omega) (by omega) (h.more O h1 e))
    | false =>
      refine ⟨g.bd (by omega) _,g.bd (by omega) _,?_⟩
      rw [O.tot _ _ (g.bd (by omega) _) (g.bd (by omega) _) (g.ne (by omega) (by omega) (by omega)) e]
      exact ⟨rfl,rfl,Nat.le_refl _,(show m≤m+(f+1) by omega),h⟩
theorem rev_at {p:Array Nat} {m i:Nat} (hm:m≤p.size):(kas_rev p 0 m).getD i 0=if i<m then p.getD (m - 1 - i) 0 else p.getD i 0:=by
  have e:=getElem?_mirror (xs:=p) (i:=0) (j:=m) hm (m / 2) (by omega) i
  have e':(kas_rev p 0 m)[i]?=if (0≤i∧i<0+m / 2)∨(m - m / 2≤i∧i<m) then p[0+m - 1 - i]? else p[i]?:=e
  have g:∀ (q:Array Nat) (k:Nat),q.getD k 0=q[k]?.getD 0:=fun q k=>by simp [Array.getD_eq_getD_getElem?]
  rw [g,e',g,g]
  by_cases h:i<m
  · rw [if_pos h]
    by_cases h2:(0≤i∧i<0+m / 2)∨(m - m / 2≤i∧i<m)
    · rw [if_pos h2,show 0+m - 1 - i=m - 1 - i by omega]
    · rw [if_neg h2,show m - 1 - i=i by omega]
  · rw [if_neg h,if_neg (by omega)]
theorem Dsc.rev {p:Array Nat} {m:Nat} (h:Dsc lt p m) (hm:m≤p.size):Asc lt (kas_rev p 0 m) m:=fun a b hab hb=>by
  rw [rev_at hm,rev_at hm,if_pos (by omega),if_pos hb]
  exact h _ _ (by omega) (by omega)
theorem count_run (O:Ord n lt) {p:Array Nat} (g:Good n p) (hn:2≤n):KasAll n lt (fun r=>Good n r.2∧1≤r.1∧r.1≤n∧Asc lt r.2 r.1) (kas_count n p):=by
  unfold kas_count
  refine (asc_run O g (n - 1) 1 (Nat.le_refl _) (by omega) Asc.one).bind fun k ⟨k1,k2,k3,k4⟩=>?_
  split
  · exact ⟨g,k1,by show k≤n; omega,k3⟩
  · rename_i hk
    have hkn:k≠n:=fun e=>hk (by simp [e])
    split
    · refine ⟨g.bd (by omega) _,g.bd (by omega) _,?_⟩
      rw [k3 0 (k - 1) (by omega) (by omega)]
      exact ⟨g,k1,by show k≤n; omega,k3⟩
    · have e1:k=1:=by omega
      subst e1
      unfold kas_descPart
      have d2:Dsc lt p 2:=fun a b hab hb=>by
        have e:a=0∧b=1:=by omega
        rw [e.1,e.2]; exact k4 (by omega)
      refine (desc_run O g (n - 2) 2 (by omega) (by omega) d2).bind fun r ⟨r1,r2,r3,r4,r5⟩=>?_
      obtain ⟨p',m,q⟩:=r
      dsimp only at r1 r2 r3 r4 r5 ⊢
      subst r1 r2
      rw [if_neg (by decide)]
      unfold kas_tail3
      have hs:=g.size
      refine (asc_run O (g.rev 0 m) (n - m) m (by omega) (by omega) (r5.rev (by omega))).bind fun k' ⟨a1,a2,a3,_⟩=>?_
      exact ⟨g.rev 0 m,(show 1≤k' by omega),(show k'≤n by omega),a3⟩
theorem place_run (O:Ord n lt) {p:Array Nat} (g:Good n p) {k:Nat} (hk:k<n) (h:Asc lt p k):∀ (f l r:Nat),l≤r→r≤k→r - l≤f→(∀ a,a<l→lt (p.getD a 0) (p.getD k 0)=true)→(∀ a,r≤a→a<k→lt (p.getD k 0) (p.getD a 0)=true) →
    KasAll n lt (fun m=>m≤k∧(∀ a,a<m→lt (p.getD a 0) (p.getD k 0)=true)∧∀ a,m≤a→a<k→lt (p.getD k 0) (p.getD a 0)=true) (kas_place p k f l r)
  | 0,l,r,h1,h2,h3,h4,h5=>⟨by omega,h4,fun a q1 q2=>h5 a (by omega) q2⟩
  | f+1,l,r,h1,h2,h3,h4,h5=>by
    unfold kas_place
    split
    · exact ⟨by omega,h4,fun a q1 q2=>h5 a (by omega) q2⟩
    · refine ⟨g.bd (by omega) _,g.bd (by omega) _,?_⟩
      cases e:lt (p.getD k 0) (p.getD ((l+r) / 2) 0) with
      | true =>
        refine (show KasAll n lt _ (kas_place p k f l ((l+r) / 2)) from ?_)
        refine place_run O g hk h f l ((l+r) / 2) (by omega) (by omega) (by omega) h4 fun a q1 q2=>?_
        by_cases q:a=(l+r) / 2
        · rw [q]; exact e
        · exact O.tra _ _ _ e (h _ _ (by omega) q2)
      | false =>
        refine (show KasAll n lt _ (kas_place p k f ((l+r) / 2+1) r) from ?_)
        have e2:=O.tot _ _ (g.bd (by omega) _) (g.bd (by omega) _) (g.ne hk (by omega) (by omega)) e
        refine place_run O g hk h f ((l+r) / 2+1) r (by omega) (by omega) (by omega) (fun a q1=>?_) h5
        by_cases q:a=(l+r) / 2
        · rw [q]; exact e2
        · exact O.tra _ _ _ (h a ((l+r) / 2) (by omega) (by omega)) e2
theorem bub_at {p:Array Nat} {k m i:Nat} (hk:k<p.size) (hm:m≤k):(bubble p k (k - m)).getD i 0=if i=m then p.getD k 0 else if m<i∧i≤k then p.getD (i - 1) 0 else p.getD i 0:=by
  have e:=getElem?_bubble (xs:=p) hk (k - m) (by omega) i
  have g:∀ (q:Array Nat) (k:Nat),q.getD k 0=q[k]?.getD 0:=fun q k=>by simp [Array.getD_eq_getD_getElem?]
  rw [g,e,g,g,g,show k - (k - m)=m by omega]
  by_cases h:i=m
  · rw [if_pos h,if_pos h]
  · rw [if_neg h,if_neg h]
    by_cases h2:m<i∧i≤k
    · rw [if_pos h2,if_pos h2]
    · rw [if_neg h2,if_neg h2]
theorem bin_run (O:Ord n lt):∀ (f:Nat) {p:Array Nat} (g:Good n p) (k:Nat),k+f=n→Asc lt p k→KasAll n lt (fun p=>Good n p∧Asc lt p n) (kas_bin f p k)
  | 0,p,g,k,hk,h=>⟨g,by rw [← hk]; exact h⟩
  | f+1,p,g,k,hk,h=>by
    unfold kas_bin
    refine (place_run O g (by omega) h k 0 k (by omega) (by omega) (by omega) (fun a q=>by omega) (fun a q1 q2=>by omega)).bind fun m ⟨m1,m2,m3⟩=>?_
    have hs:=g.size
    refine bin_run O f (g.bub _ _) (k+1) (by omega) fun a b hab hb=>?_
    rw [bub_at (by omega) m1,bub_at (by omega) m1]
    by_cases ha:a=m
    · rw [if_pos ha,if_neg (by omega),if_pos (by omega)]
      exact m3 _ (by omega) (by omega)
    · rw [if_neg ha]
      by_cases hb':b=m
      · rw [if_pos hb',if_neg (by omega)]
        exact m2 a (by omega)
      · rw [if_neg hb']
        by_cases q1:m<a∧a≤k
        · rw [if_pos q1,if_pos (by omega)]
          exact h _ _ (by omega) (by omega)
        · rw [if_neg q1]
          by_cases q2:m<b∧b≤k
          · rw [if_pos q2]
            exact h _ _ (by omega) (by omega)
          · rw [if_neg q2]
            exact h _ _ hab (by omega)
theorem sort_run (O:Ord n lt) (hn:2≤n):KasAll n lt (fun p=>Good n p∧Asc lt p n) (kas_sort n):=by
  unfold kas_sort
  refine (count_run O (Array.Perm.refl _) hn).bind fun r ⟨h1,h2,h3,h4⟩=>?_
  split
  · rename_i q
    rw [Nat.max_eq_left h2]
    exact bin_run O _ h1 _ (by omega) h4
  · rename_i q
    have e:r.1=n:=by omega
    exact ⟨h1,e ▸ h4⟩
end
end HT
set_option Elab.async false
set_option linter.all false
set_option maxRecDepth 100000
namespace L2
open PySem PySem.Spec PySem.W PyProof.Rows HT
theorem valsC {x:V} {xs:List V} {us:List Value} (r:Vals (x::xs) us):∃ u us',us=u::us'∧RelV x u∧Vals xs us':=by
  cases r with
  | cons h t=>exact ⟨_,_,rfl,h,t⟩
def lexF (fin:Bool):List Int→List Int→Bool
  | x::a,y::b=>if x=y then lexF fin a b else decide (x<y)
  | _,_=>fin
def lexB (a b:List Int):Bool:=lexF (decide (a.length<b.length)) a b
theorem lexB_nil (a:List Int):lexB a []=false:=by
  unfold lexB; cases a <;> rfl
theorem lexB_nc (y:Int) (b:List Int):lexB [] (y::b)=true:=by unfold lexB; rfl
theorem lexB_cc (x y:Int) (a b:List Int):lexB (x::a) (y::b)=if x=y then lexB a b else decide (x<y):=by
  show (if x=y then lexF (decide ((x::a).length<(y::b).length)) a b else decide (x<y))=_
  rw [List.length_cons,List.length_cons,show decide (a.length+1<b.length+1)=decide (a.length<b.length) by simp]
  rfl
theorem lex_tot:∀ {a b:List Int},a≠b→lexB a b=false→lexB b a=true
  | [],[],h,_=>absurd rfl h
  | [],y::b,_,e=>by rw [lexB_nc] at e; cases e
  | x::a,[],_,_=>lexB_nc _ _
  | x::a,y::b,h,e=>by
    rw [lexB_cc] at e ⊢
    by_cases q:x=y
    · subst q
      rw [if_pos rfl] at e ⊢
      exact lex_tot (fun z=>h (by rw [z])) e
    · rw [if_neg q] at e
      rw [if_neg (Ne.symm q)]
      have:=of_decide_eq_false e
      exact decide_eq_true (by omega)
theorem lex_tra:∀ {a b c:List Int},lexB a b=true→lexB b c=true→lexB a c=true
  | a,b,[],_,h=>by rw [lexB_nil] at h; cases h
  | [],b,z::c,_,_=>lexB_nc _ _
  | x::a,[],z::c,h,_=>by rw [lexB_nil] at h; cases h
  | x::a,y::b,z::c,h1,h2=>by
    rw [lexB_cc] at h1 h2 ⊢
    by_cases q1:x=y
    · subst q1
      rw [if_pos rfl] at h1
      by_cases q2:x=z
      · subst q2
        rw [if_pos rfl] at h2 ⊢
        exact lex_tra h1 h2
      · rw [if_neg q2] at h2 ⊢; exact h2
    · rw [if_neg q1] at h1
      have h1:=of_decide_eq_true h1
      by_cases q2:y=z
      · subst q2
        rw [if_neg q1]; exact decide_eq_true h1
      · rw [if_neg q2] at h2
        have h2:=of_decide_eq_true h2
        rw [if_neg (by omega)]; exact decide_eq_true (by omega)
abbrev ltC (cs:List (List Int)):Nat→Nat→Bool:=fun i j=>lexB (cs.getD i []) (cs.getD j [])
theorem ord_of {cs:List (List Int)} (h:cs.Nodup):Ord cs.length (ltC cs):=⟨fun i j hi hj ne e=>lex_tot (fun z=>by
    have e1:cs.getD i []=cs[i]:=by simp [hi]
    have e2:cs.getD j []=cs[j]:=by simp [hj]
    rw [e1,e2] at z
    exact ne ((List.getElem_inj h).mp z)) e,fun i j k h1 h2=>lex_tra h1 h2⟩
section
variable {prog:Program} {w:World} {A:Around} {E:Value→Shared→Prop} {s:Shared} {Q:Bool→Shared→Prop}
theorem katLex_ints {fin:Bool}:∀ {a b:List Int} {us vs:List Value} {i:Nat},Vals (a.map V.int) us→Vals (b.map V.int) vs→Q (lexF fin a b) s→KatLex prog w A true fin Q (us.zip vs) i s
  | [],b,us,vs,i,ha,hb,q=>by cases ha; exact kat_nil (by unfold lexF at q; exact q)
  | x::a,[],us,vs,i,ha,hb,q=>by
    cases hb
    cases us with
    | nil=>exact kat_nil (by unfold lexF at q; exact q)
    | cons u us=>exact kat_nil (by unfold lexF at q; exact q)
  | x::a,y::b,us,vs,i,ha,hb,q=>by
    rw [List.map_cons] at ha hb
    obtain ⟨u,us',rfl,⟨t,rfl⟩,ra⟩:=valsC ha
    obtain ⟨v,vs',rfl,⟨t',rfl⟩,rb⟩:=valsC hb
    rw [List.zip_cons_cons]
    refine kat_cons (wpAny_eqBool_int ?_)
    unfold lexF at q
    by_cases h:x=y
    · rw [if_pos h] at q
      rw [show (x == y)=true by simp [h]]
      exact kat_yes (katLex_ints ra rb q)
    · rw [if_neg h] at q
      rw [show (x == y)=false by simp [h]]
      refine kat_no ?_
      cases (true&&i == 0) with
      | true=>exact oneLt_int q
      | false=>exact kat_one _ _ (lt_int q)
def TupAt (h:Heap) (v:Value) (c:List Int):Prop:=∃ b its,v=.ref b∧IsTup h b (List.toArray its)∧Vals (c.map V.int) its∧c≠[]
abbrev TupsAt (h:Heap):List Value→List (List Int)→Prop:=Paired (TupAt h)
theorem TupsAt.get {h:Heap}:∀ {vs:List Value} {cs:List (List Int)} {i:Nat},TupsAt h vs cs→i<vs.length→TupAt h (vs.getD i Value.none) (cs.getD i [])
  | _,_,_,.nil,hi=>by simp at hi
  | _,_,0,.cons t r,hi=>t
  | v::vs,c::cs,i+1,.cons t r,hi=>by
    have:=TupsAt.get (i:=i) r (by simpa using hi)
    simpa using this
theorem TupsAt.firsts {h:Heap}:∀ {vs:List Value} {cs:List (List Int)},TupsAt h vs cs→∃ fs,KatTups h vs fs∧fs.length=vs.length∧∀ v∈fs,∃ i t,v=Value.int i t
  | _,_,.nil=>⟨[],KatTups.nil,rfl,fun v hv=>by cases hv⟩
  | v::vs,c::cs,.cons t r=>by
    obtain ⟨fs,h1,h2,h3⟩:=TupsAt.firsts r
    obtain ⟨b,its,rfl,⟨o,ho,hc,n,hd⟩,hv,hne⟩:=t
    cases c with
    | nil=>exact absurd rfl hne
    | cons x c =>
      rw [List.map_cons] at hv
      obtain ⟨u,us,rfl,⟨t,rfl⟩,_⟩:=valsC hv
      exact ⟨.int x t::fs,KatTups.cons ho hc hd (by simp) h1,by simp [h2],fun v hv=>by
        rcases List.mem_cons.mp hv with rfl | hv
        · exact ⟨_,_,rfl⟩
        · exact h3 v hv⟩
theorem TupsAt.keep {h h':Heap} (k:∀ b o,h.get? b=some o→o.cls=.type "tuple" → h'.get? b=some o):∀ {vs:List Value} {cs:List (List Int)},TupsAt h vs cs→TupsAt h' vs cs
  | _,_,.nil=>.nil
  | _,_,.cons ⟨b,its,e,⟨o,ho,hc,hd⟩,hv,hne⟩ r=>.cons ⟨b,its,e,⟨o,k b o ho hc,hc,hd⟩,hv,hne⟩ (TupsAt.keep k r)
theorem sort_any {n:Nat} {lt:Nat→Nat→Bool} (hn:2≤n):KasAll n lt (fun p=>Good n p∧(Ord n lt→Asc lt p n)) (kas_sort n):=by
  by_cases O:Ord n lt
  · exact KasAll.mono (fun p h=>⟨h.1,fun _=>h.2⟩) (sort_run O hn)
  · exact KasAll.mono (fun p h=>⟨h,fun z=>absurd z O⟩) (all_sort (by omega))
theorem sort_tups {a:Addr} {vs:List Value} {cs:List (List Int)} {n:Nat} {P:PySem.Fin→Shared→Prop} (ho:s.heap.get? a=some (seqObj "list" vs.toArray n)) (ht:TupsAt s.heap vs cs) (h64:vs.length<64)
    (h:∀ p:Array Nat,Good vs.length p→(Ord vs.length (ltC cs)→Asc (ltC cs) p vs.length)→P (.done (.ret .none)) { s with heap:=sortedHeap s.heap a vs (List.toArray (p.toList.map fun i=>vs.getD i Value.none)) }) :
    wpAny (model prog w) A (Builtin.«list.sort» ⟨[.ref a],[]⟩) P E s:=by
  rw [list_sort_plain]
  have ha:a<s.heap.objs.size:=Heap.lt_size ho
  refine wpAny_bind (listItems_at ho rfl ?_)
  refine wpAny_bind (listUpdate_at ho rfl ?_ (by rw [List.size_toArray,sizeLine_eq]; omega) (Nat.zero_le _))
  obtain ⟨e1,ho1⟩:∃ e1,(s.heap.update a (Obj.mapSeq fun _=>#[])).get? a=some (seqObj "list" #[] e1):=⟨_,get?_update_seq ho (fun _=>#[])⟩
  refine wpAny_bind (seqEpoch_at ho1 rfl ?_)
  refine wpAny_bind (wpAny_newTuple ?_ (by show vs.length≤_; rw [sizeLine_eq]; omega))
  refine wpAny_bind (wpAny_newList ?_ (Nat.zero_le _))
  refine wpAny_holding ?_
  have ho6:(((s.heap.update a (Obj.mapSeq fun _=>#[])).push (seqObj "tuple" vs.toArray 0)).push (seqObj "list" #[] 0)).get? a=some (seqObj "list" #[] e1):=by
    rw [Heap.get?_push_ne _ _ _ (by rw [size_push',Heap.size_update]; exact Nat.ne_of_lt (Nat.lt_succ_of_lt ha)),Heap.get?_push_ne _ _ _ (by rw [Heap.size_update]; exact Nat.ne_of_lt ha)]
    exact ho1
  show wpAny (model prog w) A _ P E { s with heap:=((s.heap.update a (Obj.mapSeq fun _=>#[])).push (seqObj "tuple" vs.toArray 0)).push (seqObj "list" #[] 0) }
  dsimp only
  have fin:∀ st':SortSt,∀ p:Array Nat,Good vs.length p→(Ord vs.length (ltC cs)→Asc (ltC cs) p vs.length)→(arrOf st').map (·.2)=List.toArray (p.toList.map fun i=>vs.getD i Value.none) →
      P (.done (.ret .none)) { s with heap:=sortedHeap s.heap a vs ((arrOf st').map (·.2)) }:=by
    intro st' p hp ho hs
    rw [hs]; exact h p hp ho
  have ht6:TupsAt (((s.heap.update a (Obj.mapSeq fun _=>#[])).push (seqObj "tuple" vs.toArray 0)).push (seqObj "list" #[] 0)) vs cs:=ht.keep fun b o hb hc=>by
    have hne:b≠a:=fun e=>by
      subst e; rw [ho] at hb; cases hb
      exact absurd (show Value.type "list" = Value.type "tuple" from hc) (by decide)
    exact Heap.get?_push_of_some _ (Heap.get?_push_of_some _ (by rw [Heap.get?_update_ne _ _ _ _ hne]; exact hb))
  by_cases h2:vs.toArray.size<2
  · rw [if_pos h2,if_pos h2]
    refine wpAny_bind (wpAny_pure ?_)
    rw [StateT.run_pure]
    refine wpAny_bind (wpAny_pure ?_)
    dsimp only
    refine wpAny_bind (seqEpoch_at ho6 rfl ?_)
    refine wpAny_bind (listUpdate_at ho6 rfl ?_ (hsz2:=by rw [Array.size_map]; show (pairsOf vs).size≤_; rw [pairsOf_size,sizeLine_eq]; omega))
    simp only [bne_self_eq_false,Bool.false_eq_true,if_false]
    refine wpAny_pure (fin (SortSt.mk' general' (vs.toArray.zip vs.toArray) #[] 7 none) (List.toArray (List.range vs.length)) (Array.Perm.refl _) (fun _ a b h1 h3=>by rw [List.size_toArray] at h2; omega) ?_)
    have e:=kat_snds (ks:=vs) (vs:=vs) (st:=SortSt.mk' general' (vs.toArray.zip vs.toArray) #[] 7 none) (p:=List.toArray (List.range vs.length)) rfl (by
      have e:=kas_range (vs.toArray.zip vs.toArray)
      rw [show (vs.toArray.zip vs.toArray).size=vs.length by simp] at e
      exact e.symm)
    exact e
  · rw [if_neg h2,if_neg h2]
    have hl2:2≤vs.length:=by rw [List.size_toArray] at h2; omega
    obtain ⟨fs,k1,k2,k3⟩:=ht6.firsts
    refine wpAny_bind (kat_kind (T:=.type "int") k1 (by omega) (fun v hv=>?_) rfl ?_)
    · obtain ⟨i,t,rfl⟩:=k3 v hv
      exact .now
    refine wpAny_bind (wpAny_mono (kat_run (ks:=vs) (vs:=vs) (G:=fun p s'=>s'={ s with heap:=((s.heap.update a (Obj.mapSeq fun _=>#[])).push (seqObj "tuple" vs.toArray 0)).push (seqObj "list" #[] 0) }∧Good vs.length p∧(Ord vs.length (ltC cs)→Asc (ltC cs) p vs.length))
      (Q:=fun st' s'=>s'={ s with heap:=((s.heap.update a (Obj.mapSeq fun _=>#[])).push (seqObj "tuple" vs.toArray 0)).push (seqObj "list" #[] 0) }∧failedOf st'=none∧∃ p:Array Nat,p.size=vs.length∧(Good vs.length p∧(Ord vs.length (ltC cs)→Asc (ltC cs) p vs.length))∧arrOf st'=p.map (kas_item (vs.toArray.zip vs.toArray)))
      rfl hl2 h64 (fun p' st' s' a1 a2 a3 a4=>⟨a4.1,a3,p',a1,a4.2,a2⟩)
      (KasAll.wp (n:=vs.length) (lt:=ltC cs) (R:=fun p=>Good vs.length p∧(Ord vs.length (ltC cs)→Asc (ltC cs) p vs.length)) (fun i j C hi hj hC=>?_) (fun p hp=>⟨rfl,hp⟩) (sort_any hl2))) ?_ fun _ _ e=>e)
    · obtain ⟨b,its,e1',⟨o,hb,hc,n',hd⟩,hv,_⟩:=ht6.get hi
      obtain ⟨b2,its2,e2',⟨o2,hb2,hc2,n2,hd2⟩,hv2,_⟩:=ht6.get hj
      unfold kas_ask
      rw [e1',e2']
      refine kat_lt hb hd hb2 hd2 ?_
      refine katLex_ints hv hv2 ?_
      have l1:=hv.length
      have l2:=hv2.length
      rw [List.length_map] at l1 l2
      rw [List.size_toArray,List.size_toArray,← l1,← l2]
      exact hC
    rintro ⟨⟨⟩,st'⟩ s' ⟨rfl,hf,p,hp,hg,har⟩
    dsimp only
    have hout:=kat_snds rfl har
    refine wpAny_bind (seqEpoch_at ho6 rfl ?_)
    refine wpAny_bind (listUpdate_at ho6 rfl ?_ (hsz2:=by rw [hout,List.size_toArray,List.length_map,Array.length_toList,hp,sizeLine_eq]; omega))
    rw [hf]
    simp only [bne_self_eq_false,Bool.false_eq_true,if_false]
    exact wpAny_pure (fin st' p hg.1 hg.2 hout)
theorem sorted_tups {l:Addr} {vs:List Value} {cs:List (List Int)} {Q:Value→Shared→Prop} (hl:s.heap.IsList l vs.toArray) (ht:TupsAt s.heap vs cs) (h64:vs.length<64)
    (h:∀ (p:Array Nat) (h':Heap) (D:Addr) (c:Nat),Good vs.length p→(Ord vs.length (ltC cs)→Asc (ltC cs) p vs.length)→(∀ b o,s.heap.get? b=some o→h'.get? b=some o)→s.heap.objs.size≤D→h'.get? D=some (seqObj "list" (List.toArray (p.toList.map fun i=>vs.getD i Value.none)) c)→Q (.ref D) { s with heap:=h' }) :
    wpAny (model prog w) A (call (.builtin "sorted") [.ref l]) Q E s:=by
  refine Calls.call_function_entry kind_sorted plain_sorted entry_sorted (args_sorted1 _) ?_
  unfold Builtin.«sorted»
  refine wpAny_bind (m:=checkCount "sorted" 1 1 _) (wpAny_pure ?_)
  refine wpAny_bind (collect_list hl ?_ (by rw [sizeLine_eq]; omega))
  refine wpAny_bind (wpAny_newList ?_ (by rw [sizeLine_eq]; omega))
  have hsz:((s.heap.push (seqObj "list" #[] 0)).update s.heap.objs.size (Obj.mapSeq (· ++ vs.toArray))).objs.size=s.heap.objs.size+1:=by
    rw [Heap.size_update,size_push']
  have hoL:(((s.heap.push (seqObj "list" #[] 0)).update s.heap.objs.size (Obj.mapSeq (· ++ vs.toArray))).push (seqObj "list" vs.toArray 0)).get? (s.heap.objs.size+1)=some (seqObj "list" vs.toArray 0):=by
    rw [← hsz]; exact Heap.get?_push_size _ rfl
  have keep:∀ b o,s.heap.get? b=some o→(((s.heap.push (seqObj "list" #[] 0)).update s.heap.objs.size (Obj.mapSeq (· ++ vs.toArray))).push (seqObj "list" vs.toArray 0)).get? b=some o:=fun b o q=>by
    have hlt:b<s.heap.objs.size:=Heap.lt_size q
    rw [Heap.get?_push_ne _ _ _ (by rw [hsz]; exact Nat.ne_of_lt (Nat.lt_succ_of_lt hlt)),Heap.get?_update_ne _ _ _ _ (Nat.ne_of_lt hlt),Heap.get?_push_ne _ _ _ (Nat.ne_of_lt hlt)]
    exact q
  show wpAny _ _ _ _ _ { s with heap:=((s.heap.push (seqObj "list" #[] 0)).update s.heap.objs.size (Obj.mapSeq (· ++ vs.toArray))).push (seqObj "list" vs.toArray 0) }
  rw [hsz]
  refine wpAny_bind (wpAny_holding (wpAny_call_entry slot_list_sort ⟨_,hoL,rfl⟩ entry_list_sort ?body (args_list_sort _)))
  generalize hH:((s.heap.push (seqObj "list" #[] 0)).update s.heap.objs.size (Obj.mapSeq (· ++ vs.toArray))).push (seqObj "list" vs.toArray 0)=h1 at *
  refine sort_tups (s:={ s with heap:=h1 }) hoL (ht.keep fun b o hb _=>keep b o hb) h64 fun p hp ho=>⟨_,rfl,wpAny_pure ⟨_,rfl,?_⟩⟩
  have hD:s.heap.objs.size+1<h1.objs.size:=Heap.lt_size hoL
  unfold sortedHeap
  have o1:(h1.update (s.heap.objs.size+1) (Obj.mapSeq fun _=>#[])).get? (s.heap.objs.size+1)=some (seqObj "list" #[] _):=get?_update_seq hoL (fun _=>#[])
  have o2:=Heap.get?_push_of_some (seqObj "list" #[] 0) (Heap.get?_push_of_some (seqObj "tuple" vs.toArray 0) o1)
  refine h p _ (s.heap.objs.size+1) _ hp ho (fun b o q=>?_) (Nat.le_succ _) (get?_update_seq o2 fun _=>List.toArray (p.toList.map fun i=>vs.getD i Value.none))
  have hlt:b<s.heap.objs.size:=Heap.lt_size q
  have hne:b≠s.heap.objs.size+1:=Nat.ne_of_lt (Nat.lt_succ_of_lt hlt)
  rw [Heap.get?_update_ne _ _ _ _ hne]
  exact Heap.get?_push_of_some _ (Heap.get?_push_of_some _ (by rw [Heap.get?_update_ne _ _ _ _ hne]; exact keep b o q))
end
@[irreducible] def rSorted (K:PySem.W.Frag):List V→Hp→VK→Prop:=fun xs H Q=>∃ (p:Addr) (ys:List V) (cs:List (List Int)),xs=[.ref p]∧SqL K H p ys∧RepL H (cs.map fun c=>PyData.tuple (c.map .int)) ys∧(∀ c∈cs,c≠[])∧ys.length<64 ∧
  ∀ q (ix:List Nat) H',ix.Perm (List.range ys.length)→(cs.Nodup→(ix.map fun i=>cs.getD i []).Pairwise fun a b=>lexB a b=true)→H q=none→H' q=some (.lst (ix.map fun i=>ys.getD i .non))→Same H H'→Q (.ref q) H'
theorem rsrt {K:PySem.W.Frag} {H:Hp} {Q:VK} {p:Addr} {ys:List V} {cs:List (List Int)} (h:SqL K H p ys) (r:RepL H (cs.map fun c=>PyData.tuple (c.map .int)) ys) (hc:∀ c∈cs,c≠[]) (hz:ys.length<64)
    (q:∀ q (ix:List Nat) H',ix.Perm (List.range ys.length)→(cs.Nodup→(ix.map fun i=>cs.getD i []).Pairwise fun a b=>lexB a b=true)→H q=none→H' q=some (.lst (ix.map fun i=>ys.getD i .non))→Same H H'→Q (.ref q) H'):rSorted K [.ref p] H Q:=by
  unfold rSorted; exact ⟨p,ys,cs,rfl,h,r,hc,hz,q⟩
theorem tups_of {X:Cx} {pins:List (Addr × Obj)} {σ:St} {H:Hp} {s:Shared} (I:Inv X pins σ H s):∀ {cs:List (List Int)} {ys:List V} {us:List Value},RepL H (cs.map fun c=>PyData.tuple (c.map .int)) ys→(∀ c∈cs,c≠[])→Vals ys us→TupsAt s.heap us cs
  | [],ys,us,r,hc,v=>by
    unfold RepL at r
    cases (show ys=[] from r)
    cases v
    exact .nil
  | c::cs,ys,us,r,hc,v=>by
    rw [List.map_cons] at r
    unfold RepL at r
    obtain ⟨y,ys',rfl,r1,r2⟩:=r
    obtain ⟨u,us',rfl,rv,v'⟩:=valsC v
    refine .cons ?_ (tups_of I r2 (fun c h=>hc c (List.mem_cons_of_mem _ h)) v')
    unfold Rep at r1
    obtain ⟨a,xs,rfl,h1,h2⟩:=r1
    cases rv
    obtain ⟨its,rr,pl,hzz⟩:=I.tuple (SqT.of h1)
    have hx:xs=c.map V.int:=by
      clear rr h1 hc hzz
      induction c generalizing xs with
      | nil=>unfold RepL at h2; exact h2
      | cons z c ih =>
        rw [List.map_cons] at h2
        unfold RepL at h2
        obtain ⟨x,xs',rfl,h3,h4⟩:=h2
        cases (show x=V.int z from h3)
        rw [ih _ h4]; rfl
    subst hx
    exact ⟨a,its,rfl,pl,rr,hc c (List.mem_cons_self ..)⟩
theorem vals_ix {ys:List V} {us:List Value} (v:Vals ys us):∀ ix:List Nat,(∀ i∈ix,i<ys.length)→Vals (ix.map fun i=>ys.getD i .non) (ix.map fun i=>us.getD i Value.none)
  | [],_=>.nil
  | i::ix,h=>by
    have hi:=h i (List.mem_cons_self ..)
    obtain ⟨u,hu,ru⟩:=v.get (i:=i) (x:=ys[i]) (by simp [hi])
    refine .cons ?_ (vals_ix v ix fun j hj=>h j (List.mem_cons_of_mem _ hj))
    have e1:ys.getD i .non=ys[i]:=by simp [hi]
    have e2:us.getD i Value.none=u:=by rw [List.getD_eq_getElem?_getD,hu]; rfl
    show RelV (ys.getD i .non) (us.getD i Value.none)
    rw [e1,e2]; exact ru
theorem cl_srt {X:Cx} (K:PySem.W.Frag) (hK:X.K=K:=by rfl):CallR X (.builtin "sorted") (rSorted K):=by
  subst hK
  unfold rSorted
  intro pins s σ H xs us Q I r h
  obtain ⟨p,ys,cs,rfl,hq,rep,hc,hz,q⟩:=h
  obtain ⟨u,rfl,rx⟩:=vals1 r
  cases rx
  obtain ⟨its,r',pl,hz'⟩:=I.list hq
  have hlen:=r'.length
  obtain ⟨o,n,ho,hcl,hdd,hd⟩:=pl
  refine sorted_tups ⟨o,ho,hcl,n,hd⟩ (tups_of I rep hc r') (by omega) fun pm h' D c hg ho keep hD hget=>?_
  have hperm:pm.toList.Perm (List.range ys.length):=by
    have:=(Array.perm_iff_toList_perm.mp hg)
    rw [hlen]; simpa using this
  have hlt:∀ i∈pm.toList,i<ys.length:=fun i hi=>by
    have:=hperm.mem_iff.mp hi
    simpa using this
  have hl2:(pm.toList.map fun i=>ys.getD i .non).length=ys.length:=by rw [List.length_map,hperm.length_eq,List.length_range]
  refine ⟨.ref D,upd H D (.lst (pm.toList.map fun i=>ys.getD i .non)),I.laid (t':=s.toks) keep hD ⟨by rw [hl2]; exact hz',_,c,vals_ix r' _ hlt,hget⟩,rfl,?_⟩
  have hn:=I.hok.fresh hD
  refine q D pm.toList _ hperm (fun hnd=>?_) hn upd_same (Same.upd hn)
  have lcs:cs.length=its.length:=by rw [← hlen,rep.len,List.length_map]
  have ha:=ho (lcs ▸ ord_of hnd)
  have hsz:=hg.size
  rw [List.pairwise_map,List.pairwise_iff_getElem]
  intro i j hi hj hij
  have hi':i<pm.size:=by simpa using hi
  have hj':j<pm.size:=by simpa using hj
  have e1:pm.toList[i]=pm.getD i 0:=by rw [Array.getElem_toList]; exact (by simp [Array.getD,hi']:pm.getD i 0=pm[i]).symm
  have e2:pm.toList[j]=pm.getD j 0:=by rw [Array.getElem_toList]; exact (by simp [Array.getD,hj']:pm.getD j 0=pm[j]).symm
  rw [e1,e2]
  exact ha i j hij (by rw [← hsz]; simpa using hj)
end L2
set_option Elab.async false
set_option linter.all false
set_option maxRecDepth 100000
namespace L2
open PySem PySem.Spec PySem.W PyProof.Rows HT
abbrev cD (c:List Int):PyData:=.tuple (c.map .int)
theorem eqvI (x y:Int):PyData.eqv (.int x) (.int y)=decide (x=y):=by
  show (x == y)=_
  rw [Bool.beq_eq_decide_eq]
theorem eqvIs:∀ a b:List Int,PyData.eqvAll (a.map PyData.int) (b.map PyData.int)=decide (a=b)
  | [],[]=>by simp [PyData.eqvAll]
  | [],_::_=>by simp [PyData.eqvAll]
  | _::_,[]=>by simp [PyData.eqvAll]
  | x::a,y::b=>by
    have ih:=eqvIs a b
    rw [List.map_cons,List.map_cons]
    show (PyData.eqv (.int x) (.int y)&&PyData.eqvAll _ _)=_
    rw [ih,eqvI]
    by_cases h:x=y <;> by_cases h':a=b <;> simp [h,h']
theorem eqvC (a b:List Int):PyData.eqv (cD a) (cD b)=decide (a=b):=eqvIs a b
theorem layIs:∀ a:List Int,PyData.canLayAll0 (a.map PyData.int)=true
  | []=>rfl
  | x::a=>by
    show (PyData.canLay0 (.int x)&&PyData.canLayAll0 (a.map PyData.int))=true
    rw [layIs a]; rfl
theorem depIs:∀ a:List Int,PyData.depthAll (a.map PyData.int)≤1
  | []=>by show 0≤1; omega
  | x::a=>by
    have:=depIs a
    show max (PyData.depth (.int x)) (PyData.depthAll (a.map PyData.int))≤1
    have:PyData.depth (.int x)≤1:=by simp [PyData.depth]
    omega
theorem cD_rep {H:Hp} {c:List Int} {v:V} (h:Rep H (cD c) v):∃ a,v=.ref a∧H a=some (.tup (c.map V.int)):=by
  unfold Rep at h
  obtain ⟨a,xs,rfl,h1,h2⟩:=h
  have hx:xs=c.map V.int:=by
    clear h1
    induction c generalizing xs with
    | nil=>unfold RepL at h2; exact h2
    | cons z c ih =>
      rw [List.map_cons] at h2
      unfold RepL at h2
      obtain ⟨x,xs',rfl,h3,h4⟩:=h2
      cases (show x=V.int z from h3)
      rw [ih _ h4]; rfl
  subst hx
  exact ⟨a,rfl,h1⟩
theorem map_int_inj {a b:List Int} (h:a.map V.int=b.map V.int):a=b:=by
  induction a generalizing b with
  | nil=>cases b with
    | nil=>rfl
    | cons _ _=>cases h
  | cons x a ih=>cases b with
    | nil=>cases h
    | cons y b =>
      rw [List.map_cons,List.map_cons] at h
      injection h with h1 h2
      injection h1 with h1
      rw [h1,ih h2]
open Classical in
noncomputable def eqC (H:Hp) (c:List Int) (u:Value):Bool:=decide (∃ b,u=.ref b∧H b=some (.tup (c.map V.int)))
section
variable {X:Cx} {pins:List (Addr × Obj)} {σ:St} {H:Hp} {s:Shared}
theorem eqC_at {c c':List Int} {y:V} {u:Value} (h:Rep H (cD c') y) (r:RelV y u):eqC H c u=decide (c'=c):=by
  obtain ⟨a,rfl,ha⟩:=cD_rep h
  cases r
  unfold eqC
  rw [Bool.eq_iff_iff]
  simp only [decide_eq_true_eq]
  constructor
  · rintro ⟨b,e2,hb⟩
    cases e2
    rw [ha] at hb
    injection hb with hb
    injection hb with hb
    exact map_int_inj hb
  · rintro rfl
    exact ⟨a,rfl,ha⟩
theorem eqC_any {c:List Int}:∀ {cs:List (List Int)} {ys:List V} {us:List Value},RepL H (cs.map cD) ys→Vals ys us→us.any (eqC H c)=decide (c∈cs)
  | [],ys,us,r,v=>by
    unfold RepL at r
    cases (show ys=[] from r)
    cases v
    rfl
  | c' :: cs,ys,us,r,v=>by
    rw [List.map_cons] at r
    unfold RepL at r
    obtain ⟨y,ys',rfl,r1,r2⟩:=r
    obtain ⟨u,us',rfl,rv,v'⟩:=valsC v
    rw [List.any_cons,eqC_at r1 rv,eqC_any r2 v']
    by_cases h:c'=c
    · subst h; simp
    · have h':¬ c=c':=fun e=>h e.symm
      simp [h,h']
theorem eqC_mem (I:Inv X pins σ H s) (hu:X.A.units+64<cLine) {c:List Int} {v:Value} {as:List Addr} (rc:Reads s.heap v (cD c) as):∀ {cs:List (List Int)} {ys:List V} {us:List Value},RepL H (cs.map cD) ys→Vals ys us →
    ∀ u∈us,SeqAt.EqAt X.A.in1 s u v (eqC H c u)
  | [],ys,us,r,vv=>by
    unfold RepL at r
    cases (show ys=[] from r)
    cases vv
    exact fun u hu=>by cases hu
  | c' :: cs,ys,us,r,vv=>by
    rw [List.map_cons] at r
    unfold RepL at r
    obtain ⟨y,ys',rfl,r1,r2⟩:=r
    obtain ⟨u,us',rfl,rv,v'⟩:=valsC vv
    intro u' hu'
    rcases List.mem_cons.mp hu' with rfl | hu'
    · obtain ⟨bs,rb⟩:=r1.reads I rv
      rw [eqC_at r1 rv,← eqvC]
      refine SeqAt.eqAt_reads (cD c') (cD c) _ s _ _ bs as rb rc (layIs c') (layIs c) ?_
      have h1:(cD c').depth≤2:=by
        have:=depIs c'
        simp only [PyData.depth]
        omega
      have:X.A.in1.units≤X.A.units+1:=by
        first
          | exact Nat.le_refl _
          | (unfold Around.in1; simp)
      omega
    · exact eqC_mem I hu rc r2 v' u' hu'
end
@[irreducible] def rInT (K:PySem.W.Frag) (neg:Bool):R2:=fun x y H Q=>∃ (p:Addr) (ys:List V) (cs:List (List Int)) (c:List Int),y=.ref p∧(SqL K H p ys∨SqT K H p ys)∧RepL H (cs.map cD) ys∧RepK K H (cD c) x∧Q (.bl (if neg then !decide (c∈cs) else decide (c∈cs))) H
theorem riT {K:PySem.W.Frag} {neg:Bool} {x:V} {p:Addr} {ys:List V} {cs:List (List Int)} {c:List Int} {H:Hp} {Q:VK} (h:SqL K H p ys∨SqT K H p ys) (r:RepL H (cs.map cD) ys) (rx:RepK K H (cD c) x) (q:Q (.bl (if neg then !decide (c∈cs) else decide (c∈cs))) H):rInT K neg x (.ref p) H Q:=by
  unfold rInT; exact ⟨p,ys,cs,c,rfl,h,r,rx,q⟩
section
variable {X:Cx}
theorem op_notinT (K:PySem.W.Frag) (hu:X.A.units+64<cLine) (hK:X.K=K:=by rfl):OpR X (compareOp .NotIn) (rInT K true):=by
  subst hK
  unfold rInT
  intro pins s σ H x y v u Q I rx ry h
  obtain ⟨p,ys,cs,c,rfl,hq,r,rc,q⟩:=h
  cases ry
  obtain ⟨as,ra⟩:=rc.reads I rx
  rcases hq with hq | hq
  · obtain ⟨its,r',pl,hz⟩:=I.list hq
    refine SeqAt.notIn_listAt (eqC H c) pl.isList (fun w hw=>eqC_mem I hu ra r r' w (by simpa using hw)) ⟨.bl _,H,I,rfl,?_⟩
    rw [show its.toArray.any (eqC H c)=its.any (eqC H c) by simp,eqC_any r r']
    exact q
  · obtain ⟨its,r',pl,hz⟩:=I.tuple hq
    refine SeqAt.notIn_tupleAt (eqC H c) pl (fun w hw=>eqC_mem I hu ra r r' w (by simpa using hw)) ⟨.bl _,H,I,rfl,?_⟩
    rw [show its.toArray.any (eqC H c)=its.any (eqC H c) by simp,eqC_any r r']
    exact q
end
end L2
set_option Elab.async false
set_option linter.all false
set_option maxRecDepth 100000
namespace Kw
open PySem L2 Mf
def top (i:Nat):Stmt:=PySem.Challenge.pw_earlystop_k36_rules_written_and_read.main.body.getD i (.Pass ⟨0,0,0,0⟩)
structure Cl where
  NoFraction:Addr
  tok_FIGURES:Tok
  tok_MOST_FIGURES:Tok
  tok_PIECE_FIGURES:Tok
  tok_LEAST_NAMES:Tok
  tok_MOST_NAMES:Tok
  tok_RULE_WORD:Tok
  tok_ENTRY_WORD:Tok
  tok_SAYS_WORD:Tok
structure Txt (K:PySem.W.Frag) (mg:Str→Option Value) (c:Cl):Prop where
  b_list:mg "list" = none
  b_len:mg "len" = none
  b_abs:mg "abs" = none
  b_isinstance:mg "isinstance" = none
  b_repr:mg "repr" = none
  b_range:mg "range" = none
  b_int:mg "int" = none
  b_bool:mg "bool" = none
  b_tuple:mg "tuple" = none
  b_str:mg "str" = none
  b_reversed:mg "reversed" = none
  b_all:mg "all" = none
  b_sum:mg "sum" = none
  b_max:mg "max" = none
  b_sorted:mg "sorted" = none
  g_NoFraction:mg "NoFraction" = some (.ref c.NoFraction)
  g_FIGURES:mg "FIGURES" = some (.str (Str.ofString "0123456789") c.tok_FIGURES)
  g_MOST_FIGURES:mg "MOST_FIGURES" = some (.int 4000 c.tok_MOST_FIGURES)
  g_PIECE_FIGURES:mg "PIECE_FIGURES" = some (.int 64 c.tok_PIECE_FIGURES)
  g_LEAST_NAMES:mg "LEAST_NAMES" = some (.int 2 c.tok_LEAST_NAMES)
  g_MOST_NAMES:mg "MOST_NAMES" = some (.int 4 c.tok_MOST_NAMES)
  g_RULE_WORD:mg "RULE_WORD" = some (.str (Str.ofString "rule") c.tok_RULE_WORD)
  g_ENTRY_WORD:mg "ENTRY_WORD" = some (.str (Str.ofString "on") c.tok_ENTRY_WORD)
  g_SAYS_WORD:mg "SAYS_WORD" = some (.str (Str.ofString "say") c.tok_SAYS_WORD)
  x_NoFraction:PySem.W.excIn K c.NoFraction mroVE "ValueError.__new__" = true
  e_NoFraction:ExcCls K c.NoFraction
  c_NoFraction:Catch K c.NoFraction
  s1:PySem.W.subIn K (.ref c.NoFraction) (.ref c.NoFraction)=some true
  n1:PySem.W.nsOkIn K cStatics=true
  n2:PySem.W.nsIn K cStatics "sys.int_max_str_digits" = some none
theorem Txt.nd {K:PySem.W.Frag} {mg:Str→Option Value} {c:Cl} (T:Txt K mg c):NoDig K:=⟨T.n1,T.n2⟩
abbrev s__law_tape:Stmt:=(top 39)
theorem sc__law_tape:FnScope ["_law_script", "_law_at", "_law_cell"] ["_law_script", "_law_at"] (defScope s__law_tape):=⟨rfl,rfl,rfl,by decide +kernel,rfl,by decide +kernel,by decide +kernel⟩
abbrev s__law_pick:Stmt:=(top 40)
theorem sc__law_pick:FnScope ["_law_tape_here", "_law_many", "_law_turn", "_law_found", "_law_stirred"] ["_law_tape_here", "_law_many"] (defScope s__law_pick):=⟨rfl,rfl,rfl,by decide +kernel,rfl,by decide +kernel,by decide +kernel⟩
abbrev s__law_frac:Stmt:=(top 41)
theorem sc__law_frac:FnScope ["_law_n", "_law_d", "_law_one", "_law_other_here"] ["_law_n", "_law_d"] (defScope s__law_frac):=⟨rfl,rfl,rfl,by decide +kernel,rfl,by decide +kernel,by decide +kernel⟩
abbrev s__law_shares:Stmt:=(top 42)
theorem sc__law_shares:FnScope ["_law_tape_here", "_law_many", "_law_parts"] ["_law_tape_here", "_law_many"] (defScope s__law_shares):=⟨rfl,rfl,rfl,by decide +kernel,rfl,by decide +kernel,by decide +kernel⟩
abbrev s__law_says:Stmt:=(top 43)
theorem sc__law_says:FnScope ["_law_tape_here", "_law_ways", "_law_stops", "_law_plain", "_law_place"] ["_law_tape_here", "_law_ways", "_law_stops", "_law_plain"] (defScope s__law_says):=⟨rfl,rfl,rfl,by decide +kernel,rfl,by decide +kernel,by decide +kernel⟩
abbrev s__law_next:Stmt:=(top 44)
theorem sc__law_next:FnScope ["_law_counts", "_law_says_here"] ["_law_counts", "_law_says_here"] (defScope s__law_next):=⟨rfl,rfl,rfl,by decide +kernel,rfl,by decide +kernel,by decide +kernel⟩
abbrev s__law_rule:Stmt:=(top 45)
theorem sc__law_rule:FnScope ["_law_tape_here", "_law_faces", "_law_ways", "_law_most", "_law_plain", "_law_found", "_law_level", "_law_later", "_law_counts", "_law_says_here"] ["_law_tape_here", "_law_faces", "_law_ways", "_law_most", "_law_plain"] (defScope s__law_rule):=⟨rfl,rfl,rfl,by decide +kernel,rfl,by decide +kernel,by decide +kernel⟩
abbrev s__law_sizes:Stmt:=(top 46)
theorem sc__law_sizes:FnScope ["_law_tape_here", "_law_faces", "_law_most"] ["_law_tape_here"] (defScope s__law_sizes):=⟨rfl,rfl,rfl,by decide +kernel,rfl,by decide +kernel,by decide +kernel⟩
abbrev tpD (c l t:Int):List (Key × V):=[(.inr "cell",.int c),(.inr "left",.int l),(.inr "turn",.int t)]
structure TapeAt (H:Hp) (p:Addr) (n:Nat):Prop where
  ex:∃ c l t:Int,H p=some (.dK (tpD c l t))∧0≤l∧0≤t∧t+n≤1000000000000
theorem TapeAt.ne {H:Hp} {p q:Addr} {n:Nat} (F:TapeAt H p n) (hq:H q=none):q≠p:=fun e=>by
  subst e; obtain ⟨c,l,t,h,_⟩:=F.ex; rw [h] at hq; cases hq
theorem TapeAt.there {H:Hp} {p:Addr} {n:Nat} (F:TapeAt H p n):∃ o,H p=some o:=by obtain ⟨c,l,t,h,_⟩:=F.ex; exact ⟨_,h⟩
theorem TapeAt.neL {H:Hp} {p q:Addr} {n:Nat} {xs:List V} (F:TapeAt H p n) (hq:H q=some (.lst xs)):q≠p:=fun e=>by
  subst e; obtain ⟨c,l,t,h,_⟩:=F.ex; rw [h] at hq; cases hq
theorem TapeAt.neT {H:Hp} {p q:Addr} {n:Nat} {xs:List V} (F:TapeAt H p n) (hq:H q=some (.tup xs)):q≠p:=fun e=>by
  subst e; obtain ⟨c,l,t,h,_⟩:=F.ex; rw [h] at hq; cases hq
theorem TapeAt.same {H H':Hp} {p:Addr} {n:Nat} (F:TapeAt H p n) (s:Same H H'):TapeAt H' p n:=by
  obtain ⟨c,l,t,h,r⟩:=F.ex
  exact ⟨c,l,t,s _ _ h,r⟩
theorem TapeAt.but {H H':Hp} {p D:Addr} {n:Nat} (F:TapeAt H p n) (s:SameBut D H H') (n1:D≠p):TapeAt H' p n:=by
  obtain ⟨c,l,t,h,r⟩:=F.ex
  exact ⟨c,l,t,s.at (Ne.symm n1) h,r⟩
theorem TapeAt.less {H:Hp} {p:Addr} {n m:Nat} (F:TapeAt H p n) (h:m≤n):TapeAt H p m:=by
  obtain ⟨c,l,t,e,l0,t0,r⟩:=F.ex
  exact ⟨c,l,t,e,l0,t0,by omega⟩
theorem TapeAt.t {H H':Hp} {p:Addr} {n:Nat} (F:TapeAt H p n) (s:SameBut p H H'):SameT H H':=by
  obtain ⟨c,l,t,h,_⟩:=F.ex
  exact s.tD h
theorem TapeAt.like {p:Addr} {n:Nat} (f:Nat→Nat):TapeLike p (fun i H=>TapeAt H p (f i)) :=
  ⟨fun _ D H1 H2 n1 s F=>F.but s n1,fun _ H1 H2 s F=>F.same s,fun _ H' F=>by obtain ⟨c,l,t,h,_⟩:=F.ex; exact ⟨_,h⟩⟩
@[irreducible] def sp_tape (K:PySem.W.Frag):Sp:=fun vs H Q _=>∃ (a:Addr) (ns:List Int) (k:Int),vs=[.ref a,.int k]∧SqL K H a (ns.map V.int)∧ns.length≤63∧0≤k∧∀ p H',TapeAt H' p 1000000000000→Same H H'→H p=none→Q (.ref p) H'
theorem sp_tape_i {K:PySem.W.Frag} {H:Hp} {Q:VK} {E:XK} {a:Addr} {ns:List Int} {k:Int} (h:SqL K H a (ns.map V.int)) (hl:ns.length≤63) (hk:0≤k) (q:∀ p H',TapeAt H' p 1000000000000→Same H H'→H p=none→Q (.ref p) H'):sp_tape K [.ref a,.int k] H Q E:=by
  unfold sp_tape; exact ⟨a,ns,k,rfl,h,hl,hk,q⟩
@[irreducible] def sp_pick:Sp:=fun vs H Q _=>∃ (p:Addr) (n:Nat) (m:Int),vs=[.ref p,.int m]∧TapeAt H p (n+1)∧0<m∧bits m≤64∧∀ x H',0≤x→x<m→TapeAt H' p n→SameBut p H H'→Q (.int x) H'
theorem sp_pick_i {H:Hp} {Q:VK} {E:XK} {p:Addr} {n:Nat} {m:Int} (F:TapeAt H p (n+1)) (h:0<m) (hb:bits m≤64) (k:∀ x H',0≤x→x<m→TapeAt H' p n→SameBut p H H'→Q (.int x) H'):sp_pick [.ref p,.int m] H Q E:=by
  unfold sp_pick; exact ⟨p,n,m,rfl,F,h,hb,k⟩
theorem bitsle {i:Int} {n:Nat} (h:i.natAbs<2^n):bits i≤n:=PySem.intBits_le_iff.mpr h
@[irreducible] def sp_law (K:PySem.W.Frag):Sp:=fun vs H Q _=>∃ (a:Addr) (ns:List Int),vs=[.ref a]∧SqL K H a (ns.map V.int)∧ns.length≤63∧∀ H',Q (.bl true) H'
theorem sp_law_i {K:PySem.W.Frag} {H:Hp} {a:Addr} {ns:List Int} (h:SqL K H a (ns.map V.int)) (hl:ns.length≤63):sp_law K [.ref a] H (fun v _=>v=.bl true) (fun _ _ _=>False):=by
  unfold sp_law; exact ⟨a,ns,rfl,h,hl,fun _=>rfl⟩
theorem rlQ {K:PySem.W.Frag} {H:Hp} {p:Addr} {xs:List V} {Q:VK} (h:SqL K H p xs) (q:Q (.int xs.length) H):rLen K [V.ref p] H Q:=by unfold rLen; exact ⟨_,_,rfl,.inl ⟨xs,h,rfl⟩,q⟩
section
variable {P:Program} {w:World} {K:PySem.W.Frag} {mg:Str→Option Value} {base:Heap} {c:Cl}
theorem ok__law_tape {f:Addr} {fd:FuncData} (F:Fun K "_law_tape" "_law_tape" s__law_tape f fd) (T:Txt K mg c):FnOk P w K mg base CX0 1 f fd ["_law_script", "_law_at"] (sp_tape K):=by
  refine F.okw sc__law_tape (fun vs H Q E h=>?_) (fun cdv A outer s H vs Q E hr h=>?_)
  · unfold sp_tape at h
    obtain ⟨a,ns,i,rfl,_⟩:=h
    rfl
  · unfold sp_tape at h
    obtain ⟨a,ns,i,rfl,hS,hl,hi,k⟩:=h
    refine ⟨_,(wss_cons (ws_set (i:=2) sc__law_tape.nd rfl (Or.inl rfl) (we_v 1))
      (wss_cons (ws_cut (ws_if (wt_cmp op_gt (we_cB cl_len (by rfl) T.b_len (by decide +kernel) (wa_k (we_v 0) wa_nil)) we_int (nomark _)) (wss_one (ws_set (i:=2) sc__law_tape.nd rfl (Or.inl rfl) (we_op op_add (we_ix ix_seq (we_v 0) (we_op op_mod (we_v 1) (we_cB cl_len (by rfl) T.b_len (by decide +kernel) (wa_k (we_v 0) wa_nil))) (fun _ _=>rfl)) (we_op op_fdivB (we_v 1) (we_cB cl_len (by rfl) T.b_len (by decide +kernel) (wa_k (we_v 0) wa_nil)))))) wss_nil))
      (wss_one (ws_ret (we_disp (wpp_cons we_str (we_v 2) (wpp_cons we_str (we_cB (call_max2 rfl) (by rfl) T.b_max (by decide +kernel) (wa_k we_int (wa_k (we_op op_sub (we_v 2) (we_op op_pow we_int we_int)) wa_nil))) (wpp_cons we_str we_int wpp_nil)))))))),?_⟩
    refine ⟨_,rfl,?_⟩
    refine ⟨fun σ H3=>∃ c:Int,σ=[some (.ref a),some (.int i),some (.int c)]∧H3=H,?_,?_⟩
    · rintro σ H3 ⟨c,rfl,rfl⟩
      intro p hp
      refine ⟨_,rfl,?_⟩
      refine ⟨_,rfl,_,_,rfl,rfl,⟨by decide,by decide,by decide⟩,_,_,rfl,rfl,_,_,rfl,?_⟩
      refine ⟨upd_same,tpD c (if c - 10^18 > 0 then c - 10^18 else 0) 0,rfl,by show 3≤15; decide,?_⟩
      refine k p _ ⟨c,(if c - 10^18 > 0 then c - 10^18 else 0),0,?_,by split <;> omega,by decide,by decide⟩ ?_ hp
      · rw [upd_same]; rfl
      · intro b o h
        have nb:b≠p:=fun e=>by subst e; rw [hp] at h; cases h
        rw [L2.upd_ne nb,L2.upd_ne nb]; exact h
    · refine ⟨_,rfl,?_⟩
      refine rlQ hS ?_
      refine ⟨_,_,rfl,rfl,_,rfl,?_⟩
      rw [List.length_map]
      refine iteD (fun e1=>?_) (fun e1=>?_)
      · refine ⟨_,rfl,_,rfl,_,rfl,?_⟩
        refine rlQ hS ?_
        rw [List.length_map]
        refine ⟨_,_,rfl,rfl,e1,?_⟩
        have g0:=Int.emod_nonneg i (b:=(ns.length:Int)) (by omega)
        have g1:=Int.emod_lt_of_pos i e1
        have hj:∃ z,ns[(i % (ns.length:Int)).toNat]?=some z:=⟨_,List.getElem?_eq_getElem (by omega)⟩
        obtain ⟨z,hz⟩:=hj
        have hat:atI (ns.map V.int) (i % (ns.length:Int))=some (.int z):=by
          have:=atI_nat (xs:=ns.map V.int) (j:=(i % (ns.length:Int)).toNat) (v:=V.int z) (by rw [List.getElem?_map,hz]; rfl)
          rwa [Int.toNat_of_nonneg g0] at this
        refine .inl ⟨a,_,_,_,rfl,rfl,hS,hat,?_⟩
        refine ⟨_,rfl,_,rfl,?_⟩
        refine rlQ hS ?_
        rw [List.length_map]
        refine ⟨_, _, rfl, rfl, ⟨e1, bitsle (by have : ((ns.length : Int)).natAbs ≤ 63 := by omega
                                                exact Nat.lt_of_le_of_lt this (Nat.lt_of_lt_of_le (show 63<2^6 by decide) (Nat.pow_le_pow_right (by decide) (by decide))))⟩,?_⟩
        refine ⟨_,_,rfl,rfl,?_⟩
        exact ⟨_,rfl,rfl⟩
      · exact ⟨_,rfl,rfl⟩
theorem ok__law_pick {f:Addr} {fd:FuncData} (F:Fun K "_law_pick" "_law_pick" s__law_pick f fd) (T:Txt K mg c):FnOk P w K mg base CX0 1 f fd ["_law_tape_here", "_law_many"] sp_pick:=by
  refine F.okw sc__law_pick (fun vs H Q E h=>?_) (fun cdv A outer s H vs Q E hr h=>?_)
  · unfold sp_pick at h
    obtain ⟨p,n,m,rfl,_⟩:=h
    rfl
  · unfold sp_pick at h
    obtain ⟨p,n,m,rfl,F,hm,hb,k⟩:=h
    obtain ⟨c,l,t,hp,h0,h1,h2⟩:=F.ex
    refine ⟨_,(wss_cons (ws_set (i:=2) sc__law_pick.nd rfl (Or.inl rfl) (we_op op_add (we_dget hr.u1 (we_v 0) we_str) we_int))
      (wss_cons (ws_dput hr.u1 (we_v 0) we_str (we_v 2))
      (wss_cons (ws_if (wt_cmp op_gt (we_dget hr.u1 (we_v 0) we_str) we_int (nomark _)) (wss_cons (ws_set (i:=3) sc__law_pick.nd rfl (Or.inl rfl) (we_op op_mod (we_dget hr.u1 (we_v 0) we_str) (we_v 1)))
      (wss_cons (ws_dput hr.u1 (we_v 0) we_str (we_op op_fdivB (we_dget hr.u1 (we_v 0) we_str) (we_v 1)))
      (wss_one (ws_ret (we_v 3))))) wss_nil)
      (wss_cons (ws_set (i:=4) sc__law_pick.nd rfl (Or.inl rfl) (we_op op_mulB (we_op op_add (we_op op_add (we_op op_mod (we_dget hr.u1 (we_v 0) we_str) we_int) (we_op op_mulB (we_op op_mulB we_int (we_v 2)) (we_v 2))) we_int) we_int))
      (wss_cons (ws_set (i:=4) sc__law_pick.nd rfl (Or.inl rfl) (we_op op_mulB (we_op op_add (we_op op_mod (we_v 4) we_int) (we_op op_mulB we_int (we_v 2))) we_int))
      (wss_one (ws_ret (we_op op_mod (we_op op_fdivB (we_op op_mod (we_v 4) we_int) we_int) (we_v 1))))))))),?_⟩
    refine ⟨_,rfl,?_⟩
    refine dgS hp rfl ?_
    refine ⟨_,_,rfl,rfl,?_⟩
    refine ⟨_,rfl,_,rfl,?_⟩
    refine dpS (kvs2:=tpD c l (t+1)) hp (by show 3≤64; decide) rfl fun H1 hp1 s1=>?_
    refine ⟨_,rfl,?_⟩
    refine dgS hp1 rfl ?_
    refine ⟨_,_,rfl,rfl,_,rfl,?_⟩
    refine iteD (fun e0=>?_) (fun e0=>?_)
    · refine ⟨_,rfl,?_⟩
      refine dgS hp1 rfl ?_
      refine ⟨_,rfl,_,_,rfl,rfl,hm,?_⟩
      refine ⟨_,rfl,?_⟩
      refine dgS hp1 rfl ?_
      refine ⟨_,rfl,_,_,rfl,rfl,⟨hm,Nat.le_trans hb (by decide)⟩,?_⟩
      refine ⟨_,rfl,?_⟩
      refine dpS (kvs2:=tpD c (l / m) (t+1)) hp1 (by show 3≤64; decide) rfl fun H2 hp2 s2=>?_
      refine ⟨_,rfl,?_⟩
      exact k _ H2 (Int.emod_nonneg _ (by omega)) (Int.emod_lt_of_pos _ hm) ⟨c,l / m,t+1,hp2,Int.ediv_nonneg h0 (by omega),by omega,by omega⟩ (s1.trans s2)
    · have bt:bits (t+1)≤64:=PySem.intBits_le_64 (by omega) (by omega)
      refine ⟨_,rfl,?_⟩
      refine dgS hp1 rfl ?_
      have c0:=Int.emod_nonneg c (b:=2147483647) (by decide)
      have c1:=Int.emod_lt_of_pos c (b:=2147483647) (by decide)
      refine ⟨_,_,rfl,rfl,(by show (0:Int)<2147483647; decide),?_⟩
      refine ⟨_,rfl,_,_,rfl,rfl,IntMulOk.of_left (by decide +kernel),_,rfl,_,_,rfl,rfl,IntMulOk.of_right bt,_,_,rfl,rfl,_,_,rfl,rfl,_,_,rfl,rfl,IntMulOk.of_right (by decide +kernel),?_⟩
      generalize hz:(c % 2147483647+31*(t+1)*(t+1)+1)*48271=z
      refine ⟨_,rfl,_,_,rfl,rfl,(by show (0:Int)<2147483629; decide),_,rfl,_,_,rfl,rfl,IntMulOk.of_left (by decide +kernel),_,_,rfl,rfl,_,_,rfl,rfl,IntMulOk.of_right (by decide +kernel),?_⟩
      generalize hy:(z % 2147483629+7*(t+1))*69621=y
      refine ⟨_,rfl,_,_,rfl,rfl,(by show (0:Int)<2147483587; decide),_,_,rfl,rfl,⟨by decide,by decide +kernel⟩,_,rfl,_,_,rfl,rfl,hm,?_⟩
      exact k _ H1 (Int.emod_nonneg _ (by omega)) (Int.emod_lt_of_pos _ hm) ⟨c,l,t+1,hp1,h0,by omega,by omega⟩ s1
end
abbrev frD (f:Fr):PyData:=.tuple [.int f.1,.int f.2]
theorem frD_at {H:Hp} {f:Fr} {v:V} (h:Rep H (frD f) v):∃ a,v=.ref a∧H a=some (.tup [.int f.1,.int f.2]):=by
  unfold Rep RepL RepL RepL at h
  obtain ⟨a,_,rfl,h1,x,_,rfl,r1,y,_,rfl,r2,rfl⟩:=h
  cases (show x=V.int f.1 from r1)
  cases (show y=V.int f.2 from r2)
  exact ⟨a,rfl,h1⟩
theorem frD_of {H:Hp} {f:Fr} {a:Addr} (h:H a=some (.tup [.int f.1,.int f.2])):Rep H (frD f) (.ref a):=Rep.tup h (RepL.cons (Rep.int _) (RepL.cons (Rep.int _) RepL.nil))
theorem frD_flat (f:Fr):flatD (frD f)=true:=rfl
@[irreducible] def sp_cd:Sp:=fun vs H Q _=>∃ n d:Int,vs=[.int n,.int d]∧0<d∧Q (.int (Int.gcd n d)) H
theorem sp_cd_i {H:Hp} {Q:VK} {E:XK} {n d:Int} (h:0<d) (q:Q (.int (Int.gcd n d)) H):sp_cd [.int n,.int d] H Q E:=by unfold sp_cd; exact ⟨n,d,rfl,h,q⟩
def NewF (H:Hp) (Q:VK) (f:Fr):Prop:=∀ q H',H q=none→H' q=some (.tup [.int f.1,.int f.2])→Same H H'→Q (.ref q) H'
theorem gcd_le {n d:Int} (h:0<d):(Int.gcd n d:Int)≤d:=Int.le_of_dvd h (Int.gcd_dvd_right n d)
theorem gcd_sz {n d:Int} {k:Nat} (h:0<d) (z:d.natAbs<2^k):(Int.gcd n d:Int).natAbs<2^k:=by
  have:=gcd_le (n:=n) h
  have:=gcd_pos (n:=n) h
  omega
theorem divOk {n d:Int} (h:0<d) (z:d.natAbs<2^9000):CDivB n d:=⟨h,bitsOf z⟩
abbrev shD (fs:List Fr):PyData:=.tuple (fs.map frD)
theorem frs_flat:∀ fs:List Fr,flatDs (fs.map frD)=true
  | []=>rfl
  | f::fs=>by show (flatD (frD f)&&flatDs (fs.map frD))=true; rw [frs_flat fs]; rfl
theorem shD_flat (fs:List Fr):flatD (shD fs)=true:=frs_flat fs
structure SyOk (n:Nat) (fs:List Fr):Prop where
  ex:∃ ns:List Int,ns.length=n∧(∀ x∈ns,0≤x∧x≤7)∧0<ns.sum∧fs=ns.map fun x=>lw x ns.sum
theorem sum_le7:∀ {ns:List Int},(∀ x∈ns,0≤x∧x≤7)→0≤ns.sum∧ns.sum≤7*(ns.length:Int)
  | [],_=>by simp
  | n::ns,h=>by
    have h1:=sum_le7 (ns:=ns) fun x hx=>h x (List.mem_cons_of_mem _ hx)
    have h2:=h n (List.mem_cons_self ..)
    rw [List.sum_cons,List.length_cons]
    omega
theorem sum_pos {ns:List Int} (h:∀ x∈ns,0≤x∧x≤7) {n:Int} (hn:n∈ns) (p:0<n):0<ns.sum:=by
  induction ns with
  | nil=>cases hn
  | cons a r ih =>
    have h1:=sum_le7 (ns:=r) fun x hx=>h x (List.mem_cons_of_mem _ hx)
    have h2:=h a (List.mem_cons_self ..)
    rw [List.sum_cons]
    rcases List.mem_cons.mp hn with rfl | hr
    · omega
    · have:=ih (fun x hx=>h x (List.mem_cons_of_mem _ hx)) hr
      omega
theorem SyOk.len {n:Nat} {fs:List Fr} (h:SyOk n fs):fs.length=n:=by
  obtain ⟨ns,h1,_,_,rfl⟩:=h.ex
  rw [List.length_map,h1]
theorem SyOk.zero {n:Nat} {fs:List Fr} (h:SyOk n fs):SyOk (1+n) ((0,1)::fs):=by
  obtain ⟨ns,h1,h2,h3,rfl⟩:=h.ex
  refine ⟨0::ns,by rw [List.length_cons]; omega,fun x hx=>?_,by rw [List.sum_cons]; omega,?_⟩
  · rcases List.mem_cons.mp hx with rfl | hx
    · omega
    · exact h2 x hx
  · rw [List.sum_cons,List.map_cons,Int.zero_add]
    have:lw 0 ns.sum=(0,1):=by
      unfold lw
      rw [Int.gcd_zero_left]
      have hn:((ns.sum.natAbs:Nat):Int)=ns.sum:=by omega
      rw [hn,Int.zero_ediv,Int.ediv_self (by omega)]
    rw [this]
def ind (p:Nat) (n:Nat):List Int:=(List.range n).map fun k:Nat=>if (k:Int)=(p:Int) then 1 else 0
theorem ind_len (p n:Nat):(ind p n).length=n:=by unfold ind; rw [List.length_map,List.length_range]
theorem ind_mem {p n:Nat}:∀ x∈ind p n,0≤x∧x≤1:=fun x hx=>by
  unfold ind at hx
  obtain ⟨k,_,rfl⟩:=List.mem_map.mp hx
  split <;> omega
theorem ind_sum (p:Nat):∀ n:Nat,(ind p n).sum=if p<n then 1 else 0
  | 0=>by simp [ind]
  | n+1=>by
    have ih:=ind_sum p n
    have e:ind p (n+1)=ind p n++[if (n:Int)=(p:Int) then 1 else 0]:=by
      unfold ind; rw [List.range_succ,List.map_append]; rfl
    rw [e,List.sum_append,ih,List.sum_singleton]
    by_cases h:p<n
    · rw [if_pos h,if_neg (by omega),if_pos (by omega)]; rfl
    · rw [if_neg h]
      by_cases h2:p=n
      · subst h2; rw [if_pos rfl,if_pos (by omega)]; rfl
      · rw [if_neg (by omega),if_neg (by omega)]; rfl
theorem lw_1 (x:Int):lw x 1=(x,1):=by
  unfold lw
  rw [Int.gcd_one_right]
  simp
theorem SyOk.one {p n:Nat} (h:p<n):SyOk n ((ind p n).map fun x=>(x,1)):=by
  have e:=ind_sum p n
  rw [if_pos h] at e
  refine ⟨ind p n,ind_len p n,fun x hx=>?_,by omega,?_⟩
  · have:=ind_mem x hx; omega
  · rw [e]; exact List.map_congr_left fun x _=>(lw_1 x).symm
@[irreducible] def sp_lfrac:Sp:=fun vs H Q _=>∃ n d:Int,vs=[.int n,.int d]∧0<d∧d.natAbs<2^9000∧NewF H Q (lw n d)
theorem sp_lfrac_i {H:Hp} {Q:VK} {E:XK} {n d:Int} (h:0<d) (z:d.natAbs<2^9000) (q:NewF H Q (lw n d)):sp_lfrac [.int n,.int d] H Q E:=by unfold sp_lfrac; exact ⟨n,d,rfl,h,z,q⟩
@[irreducible] def sp_shares:Sp:=fun vs H Q _=>∃ (p:Addr) (n m:Nat),vs=[.ref p,.int (m:Int)]∧TapeAt H p (n+8)∧0<m∧m≤5∧∀ v fs H',TapeAt H' p n→SameBut p H H'→Rep H' (shD fs) v→SyOk m fs→Q v H'
theorem sp_shares_i {H:Hp} {Q:VK} {E:XK} {p:Addr} {n m:Nat} (F:TapeAt H p (n+8)) (m0:0<m) (m5:m≤5) (k:∀ v fs H',TapeAt H' p n→SameBut p H H'→Rep H' (shD fs) v→SyOk m fs→Q v H'):sp_shares [.ref p,.int (m:Int)] H Q E:=by
  unfold sp_shares; exact ⟨p,n,m,rfl,F,m0,m5,k⟩
theorem repN {H:Hp} {Q:VK} {l:Addr} {z:V} {k:Nat} (h:H l=some (.lst [z])) (hk:k≤64) (q:∀ c H',H c=none→H' c=some (.lst (List.replicate k z))→Same H H'→Q (.ref c) H'):rRep (.ref l) (.int (k:Int)) H Q:=by
  refine ⟨l,k,[z],rfl,rfl,h,by omega,by omega,?_,fun p hp=>?_⟩
  · show 1*((k:Int)).toNat≤sizeLine
    rw [Nat.one_mul,Int.toNat_natCast]; exact small64 hk
  · rw [Int.toNat_natCast]
    have e:∀ k:Nat,(List.replicate k [z]).flatten=List.replicate k z:=fun k=>by
      induction k with
      | zero=>rfl
      | succ k ih=>rw [List.replicate_succ,List.flatten_cons,ih,List.replicate_succ]; rfl
    rw [e]
    exact q p _ hp upd_same (Same.upd hp)
theorem mem_setZ {k:Nat} {b:Nat} (hb:b<k):(∀ x∈(List.replicate k (0:Int)).set b 1,0≤x∧x≤7)∧0<((List.replicate k (0:Int)).set b 1).sum:=by
  have h1:∀ x∈(List.replicate k (0:Int)).set b 1,0≤x∧x≤7:=fun x hx=>by
    rcases List.mem_or_eq_of_mem_set hx with h | rfl
    · have:=List.eq_of_mem_replicate h; omega
    · omega
  exact ⟨h1,sum_pos h1 (n:=1) (List.mem_iff_getElem?.mpr ⟨b,by rw [List.getElem?_set_self (by simpa using hb)]⟩) (by decide)⟩
section
variable {P:Program} {w:World} {K:PySem.W.Frag} {mg:Str→Option Value} {base:Heap} {c:Cl}
theorem ok__law_frac {f:Addr} {fd:FuncData} (F:Fun K "_law_frac" "_law_frac" s__law_frac f fd) (T:Txt K mg c):FnOk P w K mg base CX0 1 f fd ["_law_n", "_law_d"] sp_lfrac:=by
  refine F.okw sc__law_frac (fun vs H Q E h=>?_) (fun cdv A outer s H vs Q E hr h=>?_)
  · unfold sp_lfrac at h
    obtain ⟨n,d,rfl,_⟩:=h
    rfl
  · unfold sp_lfrac at h
    obtain ⟨n,d,rfl,hd,hz,q⟩:=h
    refine ⟨_,(wss_cons (ws_set (i:=2) sc__law_frac.nd rfl (Or.inl rfl) (we_cB cl_abs (by rfl) T.b_abs (by decide +kernel) (wa_k (we_v 0) wa_nil)))
      (wss_cons (ws_set (i:=3) sc__law_frac.nd rfl (Or.inl rfl) (we_v 1))
      (wss_cons (ws_while PassesOwn.never (wt_cmp op_gt (we_v 3) we_int (nomark _)) (wss_one (ws_par (i:=2) (j:=3) rfl sc__law_frac.nd rfl rfl (by decide) rfl rfl (wa_k (we_v 3) (wa_k (we_op op_mod (we_v 2) (we_v 3)) wa_nil)) rfl)))
      (wss_one (ws_ret (we_tup (wa_k (we_op op_fdivB (we_v 0) (we_v 2)) (wa_k (we_op op_fdivB (we_v 1) (we_v 2)) wa_nil)))))))),?_⟩
    refine ⟨_,rfl,?_⟩
    refine raI ?_
    refine ⟨_,rfl,?_⟩
    refine while_r (fun m σ H'=>∃ (u v:Int),σ=[some (.int n),some (.int d),some (.int u),some (.int v)]∧0≤v∧Int.gcd u v=Int.gcd n d∧(v=0→0<u)∧H'=H∧m=v.toNat)
      (fun σ H'=>σ=[some (.int n),some (.int d),some (.int (Int.gcd n d)),some (.int 0)]∧H'=H)
      _ ⟨(n.natAbs:Int),d,rfl,by omega,by rw [Int.gcd_eq_natAbs_gcd_natAbs,Int.gcd_eq_natAbs_gcd_natAbs,Int.natAbs_natCast],by omega,rfl,rfl⟩ ?_ ?_
    · rintro m σ H2 ⟨u,v,rfl,hb,hg,h0,rfl,rfl⟩
      refine ⟨_,rfl,_,_,rfl,rfl,_,rfl,?_⟩
      refine iteD (fun e=>?_) (fun e=>?_)
      · refine ⟨_,rfl,_,rfl,_,rfl,_,_,rfl,rfl,e,_,_,rfl,?_⟩
        have e1:=Int.emod_lt_of_pos u e
        have e2:=Int.emod_nonneg u (b:=v) (by omega)
        exact ⟨_,by omega,v,u % v,rfl,e2,by rw [gcd_step,hg],fun _=>e,rfl,rfl⟩
      · have hb0:v=0:=by omega
        subst hb0
        have hu:=h0 rfl
        have e1:=gcd_end hu
        rw [hg] at e1
        rw [e1]
        exact ⟨rfl,rfl⟩
    · rintro σ H2 ⟨rfl,rfl⟩
      have hg:=gcd_pos (n:=n) hd
      have zg:CDivB n (Int.gcd n d:Int):=divOk hg (gcd_sz hd hz)
      refine ⟨_,rfl,_,rfl,_,_,rfl,rfl,zg,?_⟩
      refine ⟨_,rfl,_,rfl,_,_,rfl,rfl,zg,?_⟩
      refine nwT (by show 2≤64; decide) fun p H3 hp e3 s3=>?_
      exact q p H3 hp e3 s3
set_option maxHeartbeats 4000000 in
theorem ok__law_shares {f:Addr} {fd:FuncData} (F:Fun K "_law_shares" "_law_shares" s__law_shares f fd) (T:Txt K mg c)
    (F__law_pick:FnC CX0 P w K mg base 1 "_law_pick" ["_law_tape_here", "_law_many"] sp_pick) (F__law_frac:FnC CX0 P w K mg base 1 "_law_frac" ["_law_n", "_law_d"] sp_lfrac):FnOk P w K mg base CX0 2 f fd ["_law_tape_here", "_law_many"] sp_shares:=by
  refine F.okw sc__law_shares (fun vs H Q E h=>?_) (fun cdv A outer s H vs Q E hr h=>?_)
  · unfold sp_shares at h
    obtain ⟨p,n,m,rfl,_⟩:=h
    rfl
  · unfold sp_shares at h
    obtain ⟨p,n,m,rfl,F,m0,m5,k⟩:=h
    refine ⟨_,(wss_cons (ws_set (i:=2) sc__law_shares.nd rfl (Or.inr rfl) (we_comp (CScope.of (psc:=defScope s__law_shares) (N:=["_law_tape_here", "_law_many", "_law_parts"]) (N':=["_law_k", "_law_tape_here"]) (js:=[0]) (by decide +kernel) rfl rfl rfl) (wi_range1 rfl T.b_range (wa_k (we_v 1) wa_nil)) (fun _ _ _ _=>wts_nil) (fun _ _ _ _=>(we_ix (ix_seqK K) (we_lst (wa_k we_int (wa_k we_int (wa_k we_int (wa_k we_int (wa_k we_int (wa_k we_int wa_nil))))))) (we_fn F__law_pick (hr.mono (by decide)) (wa_k (we_v 1) (wa_k we_int wa_nil))) (fun _ _=>rfl)))))
      (wss_cons (ws_cut (ws_if (wt_mono (wt_w (ww_or (wt_cmp op_eq (we_cB (cl_sum rfl) (by rfl) T.b_sum (by decide +kernel) (wa_k (we_v 2) wa_nil)) we_int (nomark _)) (ww_or1 (wt_cmp op_eq (we_fn F__law_pick (hr.mono (by decide)) (wa_k (we_v 0) (wa_k we_int wa_nil))) we_int (nomark _)))))) (wss_cons (ws_set (i:=2) sc__law_shares.nd rfl (Or.inr rfl) (we_op op_rep (we_lst (wa_k we_int wa_nil)) (we_v 1)))
      (wss_one (ws_asg we_int (wg_sub (we_v 2) (we_fn F__law_pick (hr.mono (by decide)) (wa_k (we_v 0) (wa_k (we_v 1) wa_nil))) set_list)))) wss_nil))
      (wss_one (ws_ret (we_cT call_tuple_of (by rfl) T.b_tuple (by decide +kernel) (wa_k (we_comp (CScope.of (psc:=defScope s__law_shares) (N:=["_law_tape_here", "_law_many", "_law_parts"]) (N':=["_law_part", "_law_parts"]) (js:=[2]) (by decide +kernel) rfl rfl rfl) (wi_list (we_v 2)) (fun _ _ _ _=>wts_nil) (fun _ _ _ _=>(we_fn F__law_frac (hr.mono (by decide)) (wa_k (we_v 0) (wa_k (we_cB (cl_sumK K rfl) (by rfl) T.b_sum (by decide +kernel) (wa_k (we_v 1) wa_nil)) wa_nil))))) wa_nil)))))),?_⟩
    refine ⟨_,rfl,_,rfl,by omega,by omega,?_⟩
    refine comp_tpR (TapeAt.like (n:=n) fun i=>n+8 - i) F (fun _ y _=>∃ x,y=.int x∧0≤x∧x≤7) (fun _ _ _ _ _ h=>h) (by omega) (fun i H' Q' hi F' s' k'=>?_) (fun D ys H1 hD hD1 F1 s1 hy hr1=>?_)
    · refine nwL (by show 6≤64; decide) fun q1 H2 hq1 e1 s1=>?_
      refine ⟨_,rfl,?_⟩
      refine sp_pick_i (n:=n+8 - (i+1)) ((F'.same s1).less (by omega)) (by decide) (by decide +kernel) fun x H3 x0 x1 F3 s3=>?_
      obtain ⟨v,hat,hmem,_⟩:=atI_mem (xs:=[V.int 0,V.int 1,V.int 1,V.int 2,V.int 3,V.int 7]) x0 x1
      refine ixL (s3.at (F'.ne hq1) e1) hat ?_
      refine k' _ H3 F3 (s1.but.trans s3) ?_
      simp only [List.mem_cons,List.not_mem_nil,or_false] at hmem
      rcases hmem with rfl | rfl | rfl | rfl | rfl | rfl <;> exact ⟨_,rfl,by decide,by decide⟩
    · obtain ⟨ns,rfl,hn⟩:=ints_of (P:=fun _ x=>0≤x∧x≤7) hr1
      rw [List.length_map] at hy
      have npD:=F.ne hD
      have hn':∀ x∈ns,0≤x∧x≤7:=fun x hx=>by
        obtain ⟨i,hi⟩:=List.mem_iff_getElem?.mp hx
        exact hn i x hi
      refine ⟨fun σ H3=>∃ (D:Addr) (ns:List Int),σ=[some (.ref p),some (.int (m:Int)),some (.ref D)]∧H3 D=some (.lst (ns.map V.int))∧ns.length=m∧(∀ x∈ns,0≤x∧x≤7)∧0<ns.sum∧TapeAt H3 p n∧SameBut p H H3,?_,?_⟩
      · clear hD hD1 hr1 hn hn' hy npD F1 s1
        rintro σ H3 ⟨D,ns,rfl,hD3,hl,hn,hS,F3,s3⟩
        refine ⟨_,rfl,D,rfl,⟨_,SqL.of hD3⟩,?_⟩
        have h35:=sum_le7 hn
        refine comp_mapL (fun i y H'=>∃ n,ns[i]?=some n∧Rep H' (frD (lw n ns.sum)) y) (fun i y H1 H2 s ⟨n,h1,h2⟩=>⟨n,h1,h2.flat s (frD_flat _)⟩) (by rw [List.length_map]; omega) hD3 (fun i x H' Q' hx s' k'=>?_) (fun D3 ys H8 hD3' hD8 s8 hy8 hr8=>?_)
        · rw [List.getElem?_map] at hx
          obtain ⟨n',hn',rfl⟩:=(show ∃ n,ns[i]?=some n∧V.int n=x by
            cases q:ns[i]? with
            | none=>rw [q] at hx; cases hx
            | some n=>rw [q] at hx; cases hx; exact ⟨n,rfl,rfl⟩)
          refine ⟨_,rfl,_,rfl,?_⟩
          refine rsI (SqL.of (s' _ _ hD3)) ?_
          refine sp_lfrac_i hS (Nat.lt_of_lt_of_le (show ns.sum.natAbs<2^10 by show ns.sum.natAbs<1024; omega) (Nat.pow_le_pow_right (by decide) (by decide))) ?_
          intro q9 H9 hq9 e9 s9
          exact k' _ H9 s9 ⟨n',hn',frD_of e9⟩
        · refine ⟨D3,ys,rfl,.inl ⟨SqL.of hD8,fun l hl'=>?_⟩⟩
          have sl:=Same.upd (o:=.tup ys) hl'
          have el:(upd H8 l (.tup ys)) l=some (.tup ys):=upd_same
          generalize upd H8 l (.tup ys)=H9 at sl el
          refine k _ (ns.map fun n=>lw n ns.sum) H9 ((F3.same s8).same sl) (s3.trans (s8.trans sl).but) (Rep.tup el ?_) ⟨ns,hl,hn,hS,rfl⟩
          refine RepL.ofIdx (by rw [hy8,List.length_map,List.length_map,List.length_map]) fun i y hi=>?_
          obtain ⟨n,h1,h2⟩:=hr8 i y hi
          exact ⟨frD (lw n ns.sum),by rw [List.getElem?_map,List.getElem?_map,h1]; rfl,h2.same sl⟩
      · refine ⟨fun b H4=>TapeAt H4 p (n+1)∧SameBut p H H4∧H4 D=some (.lst (ns.map V.int))∧(b=false→0<ns.sum),?_,?_⟩
        · refine ⟨_,rfl,?_⟩
          refine rsI (SqL.of hD1) ?_
          refine ⟨rfl,_,rfl,?_⟩
          refine iteD (fun e0=>?_) (fun e0=>?_)
          · exact ⟨F1.less (by omega),s1,hD1,fun h=>by cases h⟩
          · refine ⟨_,rfl,?_⟩
            refine sp_pick_i (n:=n+1) (F1.less (by omega)) (by decide) (by decide +kernel) fun x H2 x0 x1 F2 s2=>?_
            refine ⟨rfl,_,rfl,F2,s1.trans s2,s2.at npD hD1,fun _=>?_⟩
            have:=(sum_le7 hn').1
            have:ns.sum≠0:=fun h=>e0 (congrArg V.int h)
            omega
        · rintro b H2 ⟨F2,s2,hD2,hS⟩
          cases b with
          | false=>exact iteF ⟨D,ns,rfl,hD2,by omega,hn',hS rfl,F2.less (by omega),s2⟩
          | true =>
            refine iteT ?_
            refine nwL (by show 1≤64; decide) fun q1 H3 hq1 e1 s3=>?_
            refine ⟨_,rfl,?_⟩
            refine repN e1 (by omega) fun q2 H4 hq2 e2 s4=>?_
            have F4:=(F2.same s3).same s4
            have n2:q2≠p:=(F2.same s3).ne hq2
            refine ⟨_,rfl,_,rfl,_,rfl,?_⟩
            refine sp_pick_i F4 (by omega) (bitsle (Nat.lt_of_le_of_lt (show ((m:Int)).natAbs≤5 by omega) (by decide))) fun x H5 x0 x1 F5 s5=>?_
            obtain ⟨b,rfl⟩:∃ b:Nat,x=(b:Int):=⟨x.toNat,by omega⟩
            have hD5:=s5.at n2 e2
            have hj:ixN (List.replicate m (V.int 0)).length (b:Int)=some b:=by
              unfold ixN
              rw [if_pos x0,if_pos (by rw [List.length_replicate]; omega)]; rfl
            refine stG hD5 hj fun H6 e6 s6=>?_
            have e7:(List.replicate m (V.int 0)).set b (V.int 1)=(((List.replicate m (0:Int)).set b 1).map V.int):=by
              rw [List.map_set,List.map_replicate]
            have hm:=mem_setZ (k:=m) (b:=b) (by omega)
            have h2:H q2=none:=SameBut.free s2 F2.there (s3.free hq2)
            exact ⟨q2,(List.replicate m (0:Int)).set b 1,rfl,by rw [e6,e7],by rw [List.length_set,List.length_replicate],hm.1,hm.2,F5.but s6 n2,
              SameBut.thru h2 ((s2.trans (s3.trans s4).but).trans s5) s6⟩
end
@[irreducible] def sp_says:Sp:=fun vs H Q _=>∃ (p:Addr) (n W:Nat) (st pl:Bool),vs=[.ref p,.int (W:Int),.bl st,.bl pl]∧TapeAt H p (n+16)∧2≤W∧W≤4∧∀ v fs H',TapeAt H' p n→SameBut p H H'→Rep H' (shD fs) v→SyOk (1+W) fs→(st=true→fs.head?=some (0,1))→Q v H'
theorem sp_says_i {H:Hp} {Q:VK} {E:XK} {p:Addr} {n W:Nat} {st pl:Bool} (F:TapeAt H p (n+16)) (h2:2≤W) (h4:W≤4) (k:∀ v fs H',TapeAt H' p n→SameBut p H H'→Rep H' (shD fs) v→SyOk (1+W) fs→(st=true→fs.head?=some (0,1))→Q v H'):sp_says [.ref p,.int (W:Int),.bl st,.bl pl] H Q E:=by
  unfold sp_says; exact ⟨p,n,W,st,pl,rfl,F,h2,h4,k⟩
theorem ind_head {p n:Nat} (hp:0<p):((ind p (1+n)).map fun x=>((x,1):Fr)).head?=some (0,1):=by
  unfold ind
  rw [Nat.add_comm,List.range_succ_eq_map,List.map_cons,List.map_cons,List.head?_cons,if_neg (by omega)]
theorem ind_at {p n i:Nat} (h:i<n):(ind p n)[i]?=some (if (i:Int)=(p:Int) then 1 else 0):=by
  unfold ind
  rw [List.getElem?_map,List.getElem?_range h]; rfl
abbrev ctD (cs:List Int):PyData:=.tuple (cs.map .int)
theorem ints_flat:∀ fs:List Int,flatDs (fs.map PyData.int)=true
  | []=>rfl
  | f::fs=>by show (flatD (.int f)&&flatDs (fs.map PyData.int))=true; rw [ints_flat fs]; rfl
theorem ctD_flat (cs:List Int):flatD (ctD cs)=true:=ints_flat cs
theorem RepL_ints {H:Hp}:∀ {ns:List Int} {vs:List V},RepL H (ns.map PyData.int) vs→vs=ns.map V.int
  | [],vs,h=>by unfold RepL at h; exact h
  | n::ns,vs,h=>by
    unfold RepL at h
    obtain ⟨x,xs,rfl,h1,h2⟩:=h
    cases (show x=V.int n from h1)
    rw [RepL_ints h2]; rfl
theorem ctD_at {H:Hp} {cs:List Int} {v:V} (h:Rep H (ctD cs) v):∃ a,v=.ref a∧H a=some (.tup (cs.map V.int)):=by
  unfold Rep at h
  obtain ⟨a,xs,rfl,h1,h2⟩:=h
  cases RepL_ints h2
  exact ⟨a,rfl,h1⟩
theorem RepL.ofInts {H:Hp}:∀ ns:List Int,RepL H (ns.map PyData.int) (ns.map V.int)
  | []=>RepL.nil
  | n::ns=>RepL.cons (Rep.int _) (RepL.ofInts ns)
theorem ctD_of {H:Hp} {cs:List Int} {a:Addr} (h:H a=some (.tup (cs.map V.int))):Rep H (ctD cs) (.ref a):=Rep.tup h (RepL.ofInts cs)
structure SzOk (F W M:Nat):Prop where
  w:2≤W∧W≤4
  f:F=2∧M≤4∨F=3∧M≤3∨F=4∧M≤2
@[irreducible] def sp_sizes:Sp:=fun vs H Q _=>∃ (p:Addr) (n:Nat),vs=[.ref p]∧TapeAt H p (n+3)∧∀ q F W M H',SzOk F W M→TapeAt H' p n→SameBut p H H'→H' q=some (.tup [.int (F:Nat),.int (W:Nat),.int (M:Nat)])→Q (.ref q) H'
theorem sp_sizes_i {H:Hp} {Q:VK} {E:XK} {p:Addr} {n:Nat} (F:TapeAt H p (n+3)) (k:∀ q F W M H',SzOk F W M→TapeAt H' p n→SameBut p H H'→H' q=some (.tup [.int (F:Nat),.int (W:Nat),.int (M:Nat)])→Q (.ref q) H'):sp_sizes [.ref p] H Q E:=by
  unfold sp_sizes; exact ⟨p,n,rfl,F,k⟩
section
variable {P:Program} {w:World} {K:PySem.W.Frag} {mg:Str→Option Value} {base:Heap} {c:Cl}
set_option maxHeartbeats 4000000 in
theorem ok__law_says {f:Addr} {fd:FuncData} (F:Fun K "_law_says" "_law_says" s__law_says f fd) (T:Txt K mg c)
    (F__law_pick:FnC CX0 P w K mg base 1 "_law_pick" ["_law_tape_here", "_law_many"] sp_pick) (F__law_shares:FnC CX0 P w K mg base 2 "_law_shares" ["_law_tape_here", "_law_many"] sp_shares):FnOk P w K mg base CX0 3 f fd ["_law_tape_here", "_law_ways", "_law_stops", "_law_plain"] sp_says:=by
  refine F.okw sc__law_says (fun vs H Q E h=>?_) (fun cdv A outer s H vs Q E hr h=>?_)
  · unfold sp_says at h
    obtain ⟨p,n,W,st,pl,rfl,_⟩:=h
    rfl
  · unfold sp_says at h
    obtain ⟨p,n,W,st,pl,rfl,F,W2,W4,k⟩:=h
    refine ⟨_,(wss_cons (ws_if (wt_mono (wt_w (ww_or (wt_val (we_v 3)) (ww_or1 (wt_cmp op_eq (we_fn F__law_pick (hr.mono (by decide)) (wa_k (we_v 0) (wa_k we_int wa_nil))) we_int (nomark _)))))) (wss_cons (ws_set (i:=4) sc__law_says.nd rfl (Or.inr rfl) (we_op op_add we_int (we_fn F__law_pick (hr.mono (by decide)) (wa_k (we_v 0) (wa_k (we_v 1) wa_nil)))))
      (wss_cons (ws_cut (ws_if (wt_mono (wt_w (ww_and (wt_not (wt_val (we_v 2))) (ww_and1 (wt_cmp op_gt (we_fn F__law_pick (hr.mono (by decide)) (wa_k (we_v 0) (wa_k we_int wa_nil))) we_int (nomark _)))))) (wss_one (ws_set (i:=4) sc__law_says.nd rfl (Or.inr rfl) we_int)) wss_nil))
      (wss_one (ws_ret (we_cT call_tuple_of (by rfl) T.b_tuple (by decide +kernel) (wa_k (we_comp (CScope.of (psc:=defScope s__law_says) (N:=["_law_tape_here", "_law_ways", "_law_stops", "_law_plain", "_law_place"]) (N':=["_law_k", "_law_place"]) (js:=[4]) (by decide +kernel) rfl rfl rfl) (wi_range1 rfl T.b_range (wa_k (we_op op_add we_int (we_v 1)) wa_nil)) (fun _ _ _ _=>wts_nil) (fun _ _ _ _=>(we_tup (wa_k (we_cT call_int1 (by rfl) T.b_int (by decide +kernel) (wa_k (we_cmp op_eq (we_v 0) (we_v 1) (nomark _)) wa_nil)) (wa_k we_int wa_nil))))) wa_nil)))))) wss_nil)
      (wss_cons (ws_if (wt_val (we_v 2)) (wss_one (ws_ret (we_op (op_catU K) (we_tup (wa_k (we_tup (wa_k we_int (wa_k we_int wa_nil))) wa_nil)) (we_fn F__law_shares (hr.mono (by decide)) (wa_k (we_v 0) (wa_k (we_v 1) wa_nil)))))) wss_nil)
      (wss_one (ws_ret (we_fn F__law_shares (hr.mono (by decide)) (wa_k (we_v 0) (wa_k (we_op op_add we_int (we_v 1)) wa_nil))))))),?_⟩
    refine ⟨fun b H1=>TapeAt H1 p (n+15)∧SameBut p H H1,?_,?_⟩
    · refine ⟨_,rfl,_,rfl,?_⟩
      cases pl with
      | true=>exact iteT ⟨F.less (by omega),(Same.refl _).but⟩
      | false =>
        refine iteF ?_
        refine ⟨_,rfl,?_⟩
        refine sp_pick_i (n:=n+15) F (by decide) (by decide +kernel) fun x H2 x0 x1 F2 s2=>?_
        exact ⟨rfl,_,rfl,F2,s2⟩
    · rintro b H1 ⟨F1,s1⟩
      cases b with
      | true =>
        refine iteT ?_
        refine ⟨_,rfl,_,rfl,?_⟩
        refine sp_pick_i (n:=n+14) F1 (by omega) (bitsle (Nat.lt_of_le_of_lt (show ((W:Int)).natAbs≤5 by omega) (by decide))) fun x H2 x0 x1 F2 s2=>?_
        refine ⟨_,_,rfl,rfl,?_⟩
        refine ⟨fun σ H3=>∃ a:Nat,σ=[some (.ref p),some (.int (W:Int)),some (.bl st),some (.bl pl),some (.int (a:Int))]∧a<1+W∧(st=true→0<a)∧TapeAt H3 p n∧SameBut p H H3,?_,?_⟩
        · rintro σ H3 ⟨a,rfl,ha,hs,F3,s3⟩
          refine ⟨_,rfl,_,_,rfl,rfl,_,rfl,by omega,by omega,?_⟩
          refine comp_mapR (fun i y H'=>∃ z,(ind a (1+W))[i]?=some z∧Rep H' (frD (z,1)) y) (fun i y H1 H2 s ⟨z,h1,h2⟩=>⟨z,h1,h2.flat s (frD_flat _)⟩) (by omega) (fun i H' Q' hi s' k'=>?_) (fun D ys H4 hD hD4 s4 hy4 hr4=>?_)
          · refine ⟨_,rfl,_,rfl,rfl,?_⟩
            refine .inr ⟨_,rfl,?_⟩
            refine nwT (by show 2≤64; decide) fun q5 H5 hq5 e5 s5=>?_
            refine k' _ H5 s5 ⟨_,ind_at (by omega),?_⟩
            refine frD_of (f:=(if (i:Int)=(a:Int) then 1 else 0,1)) ?_
            rw [e5,Int.zero_add]
            by_cases h:(i:Int)=(a:Int)
            · rw [if_pos h,if_pos (decide_eq_true (congrArg V.int h))]
            · rw [if_neg h,if_neg (by rw [decide_eq_true_eq]; exact fun z=>h (by injection z))]
          · refine ⟨D,ys,rfl,.inl ⟨SqL.of hD4,fun l hl=>?_⟩⟩
            have sl:=Same.upd (o:=.tup ys) hl
            have el:(upd H4 l (.tup ys)) l=some (.tup ys):=upd_same
            generalize upd H4 l (.tup ys)=H5 at sl el
            refine k _ ((ind a (1+W)).map fun x=>(x,1)) H5 ((F3.same s4).same sl) (s3.trans (s4.trans sl).but) (Rep.tup el ?_) (SyOk.one ha) (fun h=>ind_head (hs h))
            refine RepL.ofIdx (by rw [hy4,List.length_map,List.length_map,ind_len]; omega) fun i y hi=>?_
            obtain ⟨n,h1,h2⟩:=hr4 i y hi
            exact ⟨frD (n,1),by rw [List.getElem?_map,List.getElem?_map,h1]; rfl,h2.same sl⟩
        · refine ⟨fun b H3=>TapeAt H3 p n∧SameBut p H H3∧(b=true→st=false),?_,?_⟩
          · refine ⟨_,rfl,_,rfl,?_⟩
            cases st with
            | true=>exact iteF ⟨F2.less (by omega),s1.trans s2,fun h=>by cases h⟩
            | false =>
              refine iteT ?_
              refine ⟨_,rfl,?_⟩
              refine sp_pick_i (n:=n) (F2.less (by omega)) (by decide) (by decide +kernel) fun y H3 y0 y1 F3 s3=>?_
              exact ⟨_,_,rfl,rfl,_,rfl,F3,(s1.trans s2).trans s3,fun _=>rfl⟩
          · rintro b H3 ⟨F3,s3,hb⟩
            cases b with
            | true =>
              refine iteT ?_
              exact ⟨0,rfl,by omega,(fun h=>by rw [hb rfl] at h; cases h),F3,s3⟩
            | false =>
              refine iteF ?_
              exact ⟨(1+x).toNat,by rw [show (((1+x).toNat:Nat):Int)=1+x by omega]; rfl,by omega,fun _=>by omega,F3,s3⟩
      | false =>
        refine iteF ?_
        refine ⟨_,rfl,_,rfl,?_⟩
        cases st with
        | true =>
          refine iteT ?_
          refine nwT (by show 2≤64; decide) fun q2 H2 hq2 e2 s2=>?_
          refine nwT (by show 1≤64; decide) fun q3 H3 hq3 e3 s3=>?_
          refine ⟨_,rfl,_,rfl,?_⟩
          have n3:q3≠p:=(F1.same s2).ne hq3
          have n2:q2≠p:=F1.ne hq2
          refine sp_shares_i (n:=n) (m:=W) (((F1.same s2).same s3).less (by omega)) (by omega) (by omega) fun v fs H4 F4 s4 r4 ok4=>?_
          obtain ⟨a,xs,rfl,ha,rxs⟩:=(by unfold Rep at r4; exact r4)
          have e4:=s4.at n3 e3
          have e5:=s4.at n2 (s3 _ _ e2)
          refine catU e4 ha (by rw [show ([V.ref q2]:List V).length=1 from rfl,rxs.len,List.length_map,ok4.len]; omega) fun c H5 s5 e6=>?_
          refine k _ ((0,1)::fs) H5 (F4.same s5) (((s1.trans (s2.trans s3).but).trans s4).trans s5.but) (Rep.tup e6 (RepL.cons (frD_of (f:=(0,1)) (s5 _ _ e5)) (rxs.same s5))) ok4.zero (fun _=>rfl)
        | false =>
          refine iteF ?_
          refine ⟨_,rfl,_,rfl,_,_,rfl,rfl,?_⟩
          have e1:(1+(W:Int))=((1+W:Nat):Int):=by omega
          show sp_shares [.ref p,.int (1+(W:Int))] _ _ _
          rw [e1]
          refine sp_shares_i (n:=n) (m:=1+W) (F1.less (by omega)) (by omega) (by omega) fun v fs H4 F4 s4 r4 ok4=>?_
          exact k v fs H4 F4 (s1.trans s4) r4 ok4 (fun h=>by cases h)
set_option maxHeartbeats 4000000 in
theorem ok__law_sizes {f:Addr} {fd:FuncData} (F:Fun K "_law_sizes" "_law_sizes" s__law_sizes f fd) (T:Txt K mg c)
    (F__law_pick:FnC CX0 P w K mg base 1 "_law_pick" ["_law_tape_here", "_law_many"] sp_pick):FnOk P w K mg base CX0 2 f fd ["_law_tape_here"] sp_sizes:=by
  refine F.okw sc__law_sizes (fun vs H Q E h=>?_) (fun cdv A outer s H vs Q E hr h=>?_)
  · unfold sp_sizes at h
    obtain ⟨p,n,rfl,_⟩:=h
    rfl
  · unfold sp_sizes at h
    obtain ⟨p,n,rfl,F,k⟩:=h
    refine ⟨_,(wss_cons (ws_set (i:=1) sc__law_sizes.nd rfl (Or.inl rfl) (we_ix ix_seq (we_lst (wa_k we_int (wa_k we_int (wa_k we_int (wa_k we_int (wa_k we_int (wa_k we_int wa_nil))))))) (we_fn F__law_pick (hr.mono (by decide)) (wa_k (we_v 0) (wa_k we_int wa_nil))) (fun _ _=>rfl)))
      (wss_cons (ws_set (i:=2) sc__law_sizes.nd rfl (Or.inl rfl) (we_ix ix_seq (we_ix ix_seq (we_lst (wa_k (we_lst (wa_k we_int (wa_k we_int (wa_k we_int (wa_k we_int (wa_k we_int (wa_k we_int wa_nil))))))) (wa_k (we_lst (wa_k we_int (wa_k we_int (wa_k we_int (wa_k we_int (wa_k we_int (wa_k we_int wa_nil))))))) (wa_k (we_lst (wa_k we_int (wa_k we_int (wa_k we_int (wa_k we_int (wa_k we_int (wa_k we_int wa_nil))))))) wa_nil)))) (we_op op_sub (we_v 1) we_int) (fun _ _=>rfl)) (we_fn F__law_pick (hr.mono (by decide)) (wa_k (we_v 0) (wa_k we_int wa_nil))) (fun _ _=>rfl)))
      (wss_one (ws_ret (we_tup (wa_k (we_v 1) (wa_k (we_ix ix_seq (we_lst (wa_k we_int (wa_k we_int (wa_k we_int (wa_k we_int wa_nil))))) (we_fn F__law_pick (hr.mono (by decide)) (wa_k (we_v 0) (wa_k we_int wa_nil))) (fun _ _=>rfl)) (wa_k (we_v 2) wa_nil)))))))),?_⟩
    refine nwL (by show 6≤64; decide) fun q1 H1 hq1 e1 s1=>?_
    refine ⟨_,rfl,?_⟩
    refine sp_pick_i (n:=n+2) (F.same s1) (by decide) (by decide +kernel) fun x H2 x0 x1 F2 s2=>?_
    obtain ⟨v,hat,hmem,_⟩:=atI_mem (xs:=[V.int 2,V.int 2,V.int 2,V.int 3,V.int 3,V.int 4]) x0 x1
    refine ixL (s2.at (F.ne hq1) e1) hat ?_
    have S2:SameBut p H H2:=s1.but.trans s2
    have hv:∃ nF:Nat,v=.int (nF:Int)∧(nF=2∨nF=3∨nF=4):=by
      simp only [List.mem_cons,List.not_mem_nil,or_false] at hmem
      rcases hmem with rfl | rfl | rfl | rfl | rfl | rfl
      · exact ⟨2,rfl,by decide⟩
      · exact ⟨2,rfl,by decide⟩
      · exact ⟨2,rfl,by decide⟩
      · exact ⟨3,rfl,by decide⟩
      · exact ⟨3,rfl,by decide⟩
      · exact ⟨4,rfl,by decide⟩
    obtain ⟨nF,rfl,hF⟩:=hv
    clear hat hmem e1 hq1 s1 s2
    refine nwL (by show 6≤64; decide) fun q2 H3 hq2 e2 s3=>?_
    refine nwL (by show 6≤64; decide) fun q3 H4 hq3 e3 s4=>?_
    refine nwL (by show 6≤64; decide) fun q4 H5 hq4 e4 s5=>?_
    refine nwL (by show 3≤64; decide) fun q5 H6 hq5 e5 s6=>?_
    refine ⟨_,rfl,_,_,rfl,rfl,?_⟩
    have F6:=(((F2.same s3).same s4).same s5).same s6
    have S6:SameBut p H H6:=S2.trans (((s3.trans s4).trans s5).trans s6).but
    have g2:=s6 _ _ (s5 _ _ (s4 _ _ e2))
    have g3:=s6 _ _ (s5 _ _ e3)
    have g4:=s6 _ _ e4
    have hrow:∃ (qq:Addr) (ms:List Int),atI [V.ref q2,V.ref q3,V.ref q4] ((nF:Int) - 2)=some (.ref qq)∧H6 qq=some (.lst (ms.map V.int))∧ms.length=6∧∀ m∈ms,∃ M:Nat,m=(M:Int)∧(nF=2∧M≤4∨nF=3∧M≤3∨nF=4∧M≤2):=by
      rcases hF with rfl | rfl | rfl
      · refine ⟨q2,[1,2,3,4,0,3],rfl,g2,rfl,fun m hm=>⟨m.toNat,?_⟩⟩
        simp only [List.mem_cons,List.not_mem_nil,or_false] at hm
        omega
      · refine ⟨q3,[1,2,3,2,0,2],rfl,g3,rfl,fun m hm=>⟨m.toNat,?_⟩⟩
        simp only [List.mem_cons,List.not_mem_nil,or_false] at hm
        omega
      · refine ⟨q4,[1,2,2,1,0,2],rfl,g4,rfl,fun m hm=>⟨m.toNat,?_⟩⟩
        simp only [List.mem_cons,List.not_mem_nil,or_false] at hm
        omega
    obtain ⟨qq,ms,hat,hqq,hms,hall⟩:=hrow
    refine ixL e5 hat ?_
    refine ⟨_,rfl,?_⟩
    refine sp_pick_i (n:=n+1) F6 (by decide) (by decide +kernel) fun y H7 y0 y1 F7 s7=>?_
    obtain ⟨m,hm⟩:∃ m,ms[y.toNat]?=some m:=⟨_,List.getElem?_eq_getElem (by omega)⟩
    have hat2:atI (ms.map V.int) y=some (.int m):=by
      have:=atI_nat (xs:=ms.map V.int) (j:=y.toNat) (v:=V.int m) (by rw [List.getElem?_map,hm]; rfl)
      rwa [Int.toNat_of_nonneg y0] at this
    obtain ⟨M,rfl,hM⟩:=hall m (List.mem_iff_getElem?.mpr ⟨_,hm⟩)
    refine ixL (s7.at (F6.neL hqq) hqq) hat2 ?_
    refine ⟨_,rfl,?_⟩
    refine nwL (by show 4≤64; decide) fun q8 H8 hq8 e8 s8=>?_
    refine ⟨_,rfl,?_⟩
    refine sp_pick_i (n:=n) (F7.same s8) (by decide) (by decide +kernel) fun z H9 z0 z1 F9 s9=>?_
    obtain ⟨v,hat3,hmem3,_⟩:=atI_mem (xs:=[V.int 2,V.int 2,V.int 3,V.int 4]) z0 z1
    refine ixL (s9.at (F7.ne hq8) e8) hat3 ?_
    have hv:∃ nW:Nat,v=.int (nW:Int)∧(2≤nW∧nW≤4):=by
      simp only [List.mem_cons,List.not_mem_nil,or_false] at hmem3
      rcases hmem3 with rfl | rfl | rfl | rfl
      · exact ⟨2,rfl,by decide⟩
      · exact ⟨2,rfl,by decide⟩
      · exact ⟨3,rfl,by decide⟩
      · exact ⟨4,rfl,by decide⟩
    obtain ⟨nW,rfl,hW⟩:=hv
    refine ⟨_,rfl,?_⟩
    refine nwT (by show 3≤64; decide) fun q10 H10 hq10 e10 s10=>?_
    exact k q10 nF nW M H10 ⟨hW,hM⟩ (F9.same s10) ((((S6.trans s7).trans s8.but).trans s9).trans s10.but) e10
end
def bump (cs:List Int) (i:Nat):List Int:=cs.take i++[cs.getD i 0+1]++cs.drop (i+1)
def nexts (cs:List Int) (f:Fr):List (List Int):=if f=(0,1) then [] else (List.range cs.length).map (bump cs)
theorem RepL.atX {H:Hp} {α:Type} {g:α→PyData} {as:List α} {xs:List V} (r:RepL H (as.map g) xs) {i:Nat} {a:α} (h:as[i]?=some a):∃ x,xs[i]?=some x∧Rep H (g a) x:=by
  induction as generalizing xs i with
  | nil=>simp at h
  | cons b as ih =>
    rw [List.map_cons] at r
    unfold RepL at r
    obtain ⟨x,xs',rfl,r1,r2⟩:=r
    cases i with
    | zero=>cases (show b=a by simpa using h); exact ⟨x,rfl,r1⟩
    | succ i=>exact ih r2 (by simpa using h)
theorem shD_at {H:Hp} {fs:List Fr} {v:V} (h:Rep H (shD fs) v):∃ a xs,v=.ref a∧H a=some (.tup xs)∧RepL H (fs.map frD) xs:=by
  unfold Rep at h; exact h
theorem slA_loE {K:PySem.W.Frag} {H:Hp} {a:Addr} {xs:List V} {k:Nat} {z:Int} {Q:VK} (hz:z=(k:Int)) (h:H a=some (.tup xs)) (q:∀ c H',Same H H'→H' c=some (.tup (xs.drop k))→Q (.ref c) H'):rSlA K (.ref a) (some z) none H Q:=by
  subst hz; exact slA_lo h q
@[irreducible] def sp_next:Sp:=fun vs H Q _=>∃ (x y:V) (cs:List Int) (f:Fr) (fs:List Fr),vs=[x,y]∧Rep H (ctD cs) x∧Rep H (shD (f::fs)) y∧cs.length≤4∧fs.length≤4 ∧
  ∀ D ys H',H D=none→H' D=some (.lst ys)→RepL H' ((nexts cs f).map ctD) ys→Same H H'→Q (.ref D) H'
theorem sp_next_i {H:Hp} {Q:VK} {E:XK} {x y:V} {cs:List Int} {f:Fr} {fs:List Fr} (h1:Rep H (ctD cs) x) (h2:Rep H (shD (f::fs)) y) (h3:cs.length≤4) (h4:fs.length≤4)
    (k:∀ D ys H',H D=none→H' D=some (.lst ys)→RepL H' ((nexts cs f).map ctD) ys→Same H H'→Q (.ref D) H'):sp_next [x,y] H Q E:=by
  unfold sp_next; exact ⟨x,y,cs,f,fs,rfl,h1,h2,h3,h4,k⟩
theorem eqv_int (x y:Int):PyData.eqv (.int x) (.int y)=decide (x=y):=by
  show (x == y)=_
  rw [Bool.beq_eq_decide_eq]
theorem eqv_ints:∀ a b:List Int,PyData.eqvAll (a.map PyData.int) (b.map PyData.int)=decide (a=b)
  | [],[]=>by simp [PyData.eqvAll]
  | [],_::_=>by simp [PyData.eqvAll]
  | _::_,[]=>by simp [PyData.eqvAll]
  | x::a,y::b=>by
    have ih:=eqv_ints a b
    rw [List.map_cons,List.map_cons]
    show (PyData.eqv (.int x) (.int y)&&PyData.eqvAll _ _)=_
    rw [ih,eqv_int]
    by_cases h:x=y <;> by_cases h':a=b <;> simp [h,h']
theorem eqv_ct (a b:List Int):PyData.eqv (ctD a) (ctD b)=decide (a=b):=eqv_ints a b
theorem eqv_fr (f g:Fr):PyData.eqv (frD f) (frD g)=decide (f=g):=by
  have h:=eqv_ct [f.1,f.2] [g.1,g.2]
  refine (show PyData.eqv (frD f) (frD g)=_ from h).trans ?_
  obtain ⟨f1,f2⟩:=f
  obtain ⟨g1,g2⟩:=g
  simp
section
variable {P:Program} {w:World} {K:PySem.W.Frag} {mg:Str→Option Value} {base:Heap} {c:Cl}
set_option maxHeartbeats 4000000 in
theorem ok__law_next {f:Addr} {fd:FuncData} (F:Fun K "_law_next" "_law_next" s__law_next f fd) (T:Txt K mg c):FnOk P w K mg base CX0 1 f fd ["_law_counts", "_law_says_here"] sp_next:=by
  refine F.okw sc__law_next (fun vs H Q E h=>?_) (fun cdv A outer s H vs Q E hr h=>?_)
  · unfold sp_next at h
    obtain ⟨x,y,cs,f,fs,rfl,_⟩:=h
    rfl
  · unfold sp_next at h
    obtain ⟨x,y,cs,g,fs,rfl,rx,ry,h4,h5,k⟩:=h
    obtain ⟨a,rfl,ha⟩:=ctD_at rx
    obtain ⟨b,xs,rfl,hb,rxs⟩:=shD_at ry
    obtain ⟨z,hz,rz⟩:=RepL.atX (as:=g::fs) rxs (i:=0) (a:=g) rfl
    refine ⟨_,(wss_cons (ws_if (wt_cmp (op_eqD hr.units) (we_ix ix_seq (we_v 1) we_int (fun _ _=>rfl)) (we_tup (wa_k we_int (wa_k we_int wa_nil))) (nomark _)) (wss_one (ws_ret (we_lst wa_nil))) wss_nil)
      (wss_one (ws_ret (we_comp (CScope.of (psc:=defScope s__law_next) (N:=["_law_counts", "_law_says_here"]) (N':=["_law_face", "_law_counts"]) (js:=[0]) (by decide +kernel) rfl rfl rfl) (wi_range1 rfl T.b_range (wa_k (we_cB cl_len (by rfl) T.b_len (by decide +kernel) (wa_k (we_v 0) wa_nil)) wa_nil)) (fun _ _ _ _=>wts_nil) (fun _ _ _ _=>(we_op (op_catU K) (we_op (op_catU K) (we_slice (sl_tupA K) (we_v 1) wo_none (wo_some (we_v 0))) (we_tup (wa_k (we_op op_add (we_ix (ix_seqK K) (we_v 1) (we_v 0) (fun _ _=>rfl)) we_int) wa_nil))) (we_slice (sl_tupA K) (we_v 1) (wo_some (we_op op_add (we_v 0) we_int)) wo_none))))))),?_⟩
    refine ⟨_,rfl,?_⟩
    refine ixT hb (v:=z) (by
      have:=atI_nat (xs:=xs) (j:=0) (v:=z) hz
      exact this) ?_
    refine nwT (by show 2≤64; decide) fun q1 H1 hq1 e1 s1=>?_
    have r1:Rep H1 (frD (0,1)) (.ref q1):=frD_of e1
    refine reD (rz.same s1) r1 rfl rfl ?_
    rw [eqv_fr]
    refine ⟨_,rfl,?_⟩
    rw [Bool.true_beq]
    refine iteD (fun eg=>?_) (fun eg=>?_)
    · refine nwL (by show 0≤64; decide) fun q2 H2 hq2 e2 s2=>?_
      refine k q2 [] H2 (s1.free hq2) e2 ?_ (s1.trans s2)
      unfold nexts
      rw [if_pos eg]
      exact RepL.nil
    · refine ⟨_,rfl,?_⟩
      refine rlT (s1 _ _ ha) ?_
      rw [List.length_map]
      refine ⟨_,rfl,by omega,by omega,?_⟩
      refine comp_mapR (fun i y H'=>i<cs.length∧Rep H' (ctD (bump cs i)) y) (fun i y H1 H2 s ⟨h1,h2⟩=>⟨h1,h2.flat s (ctD_flat _)⟩) (by omega) (fun i H' Q' hi s' k'=>?_) (fun D ys H4 hD hD4 s4 hy4 hr4=>?_)
      · rw [Int.zero_add]
        have hi':i<cs.length:=by omega
        have ha':=s' _ _ (s1 _ _ ha)
        refine ⟨_,rfl,_,rfl,_,rfl,?_⟩
        refine slA_hi ha' fun c2 H2 s2 e2=>?_
        refine ⟨_,rfl,_,rfl,?_⟩
        have hat:atI (cs.map V.int) (i:Int)=some (.int (cs.getD i 0)):=atI_nat (by rw [List.getElem?_map,List.getD_eq_getElem?_getD,List.getElem?_eq_getElem hi']; rfl)
        refine ixT (s2 _ _ ha') hat ?_
        refine ⟨_,_,rfl,rfl,?_⟩
        refine nwT (by show 1≤64; decide) fun c3 H3 hc3 e3 s3=>?_
        refine catU (s3 _ _ e2) e3 (by rw [List.length_take,List.length_map]; show min i cs.length+1≤1000; omega) fun c4 H4 s4 e4=>?_
        refine ⟨_,rfl,_,rfl,_,_,rfl,rfl,?_⟩
        refine ⟨_,rfl,?_⟩
        refine slA_loE (k:=i+1) (by omega) (s4 _ _ (s3 _ _ (s2 _ _ ha'))) fun c5 H5 s5 e5=>?_
        refine catU (s5 _ _ e4) e5 (by rw [List.length_append,List.length_take,List.length_drop,List.length_map]; show min i cs.length+1+(cs.length - (i+1))≤1000; omega) fun c6 H6 s6 e6=>?_
        refine k' _ H6 ((((s2.trans s3).trans s4).trans s5).trans s6) ⟨hi',ctD_of ?_⟩
        rw [e6]
        unfold bump
        rw [List.map_append,List.map_append,List.map_take,List.map_drop]
        rfl
      · refine k D ys H4 (s1.free hD) hD4 ?_ (s1.trans s4)
        unfold nexts
        rw [if_neg eg]
        refine RepL.ofIdx (by rw [hy4,List.length_map,List.length_map,List.length_range]; omega) fun i y hi=>?_
        obtain ⟨h1,h2⟩:=hr4 i y hi
        exact ⟨ctD (bump cs i),by rw [List.getElem?_map,List.getElem?_map,List.getElem?_range h1]; rfl,h2⟩
end
theorem nodup_len {α:Type} [DecidableEq α]:∀ {l m:List α},l.Nodup→(∀ x∈l,x∈m)→l.length≤m.length
  | [],m,_,_=>Nat.zero_le _
  | x::l,m,h,hs=>by
    rw [List.nodup_cons] at h
    have hx:=hs x (List.mem_cons_self ..)
    have h1:=nodup_len (l:=l) (m:=m.erase x) h.2 fun y hy=>(List.mem_erase_of_ne (fun e=>by subst e; exact h.1 hy)).mpr (hs y (List.mem_cons_of_mem _ hy))
    rw [List.length_erase_of_mem hx] at h1
    have:0<m.length:=List.length_pos_of_mem hx
    rw [List.length_cons]
    omega
def allC:Nat→Nat→List (List Int)
  | 0,m=>if m=0 then [[]] else []
  | F+1,m=>(List.range (m+1)).flatMap fun k=>(allC F (m - k)).map fun c=>((k:Nat):Int)::c
theorem nn_sum:∀ {c:List Int},(∀ x∈c,0≤x)→0≤c.sum
  | [],_=>by simp
  | x::c,h=>by
    have h1:=nn_sum (c:=c) fun y hy=>h y (List.mem_cons_of_mem _ hy)
    have h2:=h x (List.mem_cons_self ..)
    rw [List.sum_cons]; omega
theorem allC_mem:∀ {F m:Nat} {c:List Int},c.length=F→(∀ x∈c,0≤x)→c.sum=(m:Int)→c∈allC F m
  | 0,m,c,hl,_,hs=>by
    cases c with
    | nil =>
      rw [List.sum_nil] at hs
      unfold allC
      rw [if_pos (by omega)]
      exact List.mem_cons_self ..
    | cons _ _=>simp at hl
  | F+1,m,c,hl,hn,hs=>by
    cases c with
    | nil=>simp at hl
    | cons x c =>
      have h2:=hn x (List.mem_cons_self ..)
      have hn':∀ y∈c,0≤y:=fun y hy=>hn y (List.mem_cons_of_mem _ hy)
      have h1:=nn_sum hn'
      rw [List.sum_cons] at hs
      unfold allC
      refine List.mem_flatMap.mpr ⟨x.toNat,List.mem_range.mpr (by omega),List.mem_map.mpr ⟨c,allC_mem (by simpa using hl) hn' (by omega),?_⟩⟩
      rw [show ((x.toNat:Nat):Int)=x by omega]
structure CtOk (F:Nat) (j:Nat) (c:List Int):Prop where
  len:c.length=F
  nn:∀ x∈c,0≤x
  sum:c.sum=(j:Int)
structure LvOk (F:Nat) (j:Nat) (cs:List (List Int)):Prop where
  nd:cs.Nodup
  each:∀ c∈cs,CtOk F j c
theorem lens_ok:(∀ m≤4,(allC 2 m).length<64)∧(∀ m≤3,(allC 3 m).length<64)∧(∀ m≤2,(allC 4 m).length<64):=by decide
theorem LvOk.few {F W M j:Nat} {cs:List (List Int)} (h:LvOk F j cs) (z:SzOk F W M) (hj:j≤M):cs.length<64:=by
  have h1:=nodup_len h.nd fun c hc=>allC_mem (h.each c hc).len (h.each c hc).nn (h.each c hc).sum
  obtain ⟨l2,l3,l4⟩:=lens_ok
  rcases z.f with ⟨rfl,hM⟩ | ⟨rfl,hM⟩ | ⟨rfl,hM⟩
  · exact Nat.lt_of_le_of_lt h1 (l2 j (by omega))
  · exact Nat.lt_of_le_of_lt h1 (l3 j (by omega))
  · exact Nat.lt_of_le_of_lt h1 (l4 j (by omega))
theorem bump_set {cs:List Int} {i:Nat} (h:i<cs.length):bump cs i=cs.set i (cs.getD i 0+1):=by
  unfold bump
  rw [List.set_eq_take_append_cons_drop,if_pos h,List.append_assoc]; rfl
theorem bump_ok {F j:Nat} {c:List Int} (h:CtOk F j c) {i:Nat} (hi:i<c.length):CtOk F (j+1) (bump c i):=by
  have hg:c.getD i 0∈c:=by
    rw [List.getD_eq_getElem?_getD,List.getElem?_eq_getElem hi]; exact List.getElem_mem hi
  refine ⟨by rw [bump_set hi,List.length_set]; exact h.len,fun x hx=>?_,?_⟩
  · rw [bump_set hi] at hx
    rcases List.mem_or_eq_of_mem_set hx with hx | rfl
    · exact h.nn x hx
    · have:=h.nn _ hg; omega
  · have e:c=c.take i++[c.getD i 0]++c.drop (i+1):=by
      have e1:c.getD i 0=c[i]:=by rw [List.getD_eq_getElem?_getD,List.getElem?_eq_getElem hi]; rfl
      rw [e1,List.append_assoc,List.singleton_append,← List.drop_eq_getElem_cons hi,List.take_append_drop]
    have hs:=h.sum
    have e2:c.sum=(c.take i).sum+c.getD i 0+(c.drop (i+1)).sum:=by
      conv=>lhs; rw [e]
      rw [List.sum_append,List.sum_append,List.sum_singleton]
    unfold bump
    rw [List.sum_append,List.sum_append,List.sum_singleton]
    omega
theorem bump_inj {c:List Int} {i k:Nat} (hi:i<c.length) (hk:k<c.length) (e:bump c i=bump c k):i=k:=by
  by_cases h:i=k
  · exact h
  · rw [bump_set hi,bump_set hk] at e
    have e1:=congrArg (fun l=>l[i]?) e
    rw [List.getElem?_set_self (by simpa using hi),List.getElem?_set_ne (Ne.symm h),List.getElem?_eq_getElem hi,List.getD_eq_getElem?_getD,List.getElem?_eq_getElem hi] at e1
    injection e1 with e1
    exact absurd e1 (by show ¬ (c[i]+1=c[i]); omega)
theorem nodup_map_on {α β:Type} {f:α→β}:∀ {l:List α},l.Nodup→(∀ x∈l,∀ y∈l,f x=f y→x=y)→(l.map f).Nodup
  | [],_,_=>List.nodup_nil
  | x::l,h,k=>by
    rw [List.nodup_cons] at h
    rw [List.map_cons,List.nodup_cons]
    refine ⟨fun hm=>?_,nodup_map_on h.2 fun a ha b hb=>k a (List.mem_cons_of_mem _ ha) b (List.mem_cons_of_mem _ hb)⟩
    obtain ⟨y,hy,e⟩:=List.mem_map.mp hm
    have:=k y (List.mem_cons_of_mem _ hy) x (List.mem_cons_self ..) e
    subst this
    exact h.1 hy
theorem nexts_ok {F j:Nat} {c:List Int} (h:CtOk F j c) (f:Fr):LvOk F (j+1) (nexts c f):=by
  unfold nexts
  split
  · exact ⟨List.nodup_nil,fun c hc=>by cases hc⟩
  · refine ⟨nodup_map_on List.nodup_range fun x hx y hy e=>bump_inj (by simpa using hx) (by simpa using hy) e,fun d hd=>?_⟩
    obtain ⟨i,hi,rfl⟩:=List.mem_map.mp hd
    exact bump_ok h (by simpa using hi)
theorem LvOk.more {F j:Nat} {ls ms:List (List Int)} (h1:LvOk F j ls) (h2:LvOk F j ms):LvOk F j (ls++ms.filter fun c=>!decide (c∈ls)):=by
  refine ⟨List.nodup_append.mpr ⟨h1.nd,h2.nd.filter _,fun a ha b hb e=>?_⟩,fun c hc=>?_⟩
  · subst e
    have:=(List.mem_filter.mp hb).2
    simp [ha] at this
  · rcases List.mem_append.mp hc with hc | hc
    · exact h1.each c hc
    · exact h2.each c (List.mem_filter.mp hc).1
theorem LvOk.perm {F j:Nat} {ls ms:List (List Int)} (h:LvOk F j ls) (p:ms.Perm ls):LvOk F j ms:=⟨p.nodup_iff.mpr h.nd,fun c hc=>h.each c (p.mem_iff.mp hc)⟩
theorem perm_ix {α:Type} (d:α) {cs:List α} {ix:List Nat} (h:ix.Perm (List.range cs.length)):(ix.map fun i=>cs.getD i d).Perm cs:=by
  have h1:=h.map fun i=>cs.getD i d
  have e:(List.range cs.length).map (fun i=>cs.getD i d)=cs:=by
    apply List.ext_getElem?
    intro i
    rw [List.getElem?_map]
    by_cases hi:i<cs.length
    · rw [List.getElem?_range hi,List.getElem?_eq_getElem hi,Option.map_some,List.getD_eq_getElem?_getD,List.getElem?_eq_getElem hi]; rfl
    · rw [List.getElem?_eq_none (by simpa using hi),List.getElem?_eq_none (by omega)]; rfl
  rwa [e] at h1
abbrev Ent:=List Int × List Fr
abbrev enD (e:Ent):PyData:=.tuple [ctD e.1,shD e.2]
abbrev ruD (es:List Ent):PyData:=.tuple (es.map enD)
theorem enD_flat (e:Ent):flatD (enD e)=true:=by
  show (flatD (ctD e.1)&&(flatD (shD e.2)&&true))=true
  rw [ctD_flat,shD_flat]; rfl
def hd (fs:List Fr):Fr:=fs.headD (0,1)
structure Clo (F:Nat) (es:List Ent) (cs:List (List Int)):Prop where
  fwd:∀ e∈es,∀ c∈nexts e.1 (hd e.2),c∈es.map (·.1)∨c∈cs
  bwd:∀ c,c∈es.map (·.1)∨c∈cs→c=List.replicate F 0∨∃ e∈es,c∈nexts e.1 (hd e.2)
  zero:List.replicate F 0∈es.map (·.1)∨List.replicate F 0∈cs
def LvFrom (ls:List (List Int)) (ne:List Ent):Prop:=∀ c,c∈ls ↔ ∃ e∈ne,c∈nexts e.1 (hd e.2)
theorem LvFrom.more {ls:List (List Int)} {ne:List Ent} {e:Ent} (h:LvFrom ls ne):LvFrom (ls++(nexts e.1 (hd e.2)).filter fun c=>!decide (c∈ls)) (ne++[e]):=fun c=>by
  rw [List.mem_append,List.mem_filter]
  constructor
  · rintro (hl | ⟨hc,_⟩)
    · obtain ⟨a,ha,hc⟩:=(h c).mp hl
      exact ⟨a,List.mem_append_left _ ha,hc⟩
    · exact ⟨e,List.mem_append_right _ (List.mem_singleton.mpr rfl),hc⟩
  · rintro ⟨a,ha,hc⟩
    rcases List.mem_append.mp ha with ha | ha
    · exact .inl ((h c).mpr ⟨a,ha,hc⟩)
    · rw [List.mem_singleton] at ha
      subst ha
      by_cases hl:c∈ls
      · exact .inl hl
      · exact .inr ⟨hc,by simp [hl]⟩
theorem Clo.step {F:Nat} {es ne:List Ent} {cs cs2 ls:List (List Int)} (h:Clo F es cs) (hp:cs2.Perm cs) (hm:ne.map (·.1)=cs2) (hl:LvFrom ls ne):Clo F (es++ne) ls:=by
  have hk:∀ c,c∈(es++ne).map (·.1)↔c∈es.map (·.1)∨c∈cs:=fun c=>by rw [List.map_append,List.mem_append,hm,hp.mem_iff]
  refine ⟨fun e he c hc=>?_,fun c hc=>?_,.inl ((hk _).mpr h.zero)⟩
  · rcases List.mem_append.mp he with he | he
    · exact .inl ((hk c).mpr (h.fwd e he c hc))
    · exact .inr ((hl c).mpr ⟨e,he,hc⟩)
  · rcases hc with hc | hc
    · rcases h.bwd c ((hk c).mp hc) with h0 | ⟨e,he,h1⟩
      · exact .inl h0
      · exact .inr ⟨e,List.mem_append_left _ he,h1⟩
    · obtain ⟨e,he,h1⟩:=(hl c).mp hc
      exact .inr ⟨e,List.mem_append_right _ he,h1⟩
structure RuOk (F W M:Nat) (es:List Ent):Prop where
  ne:es≠[]
  nd:(es.map (·.1)).Nodup
  each:∀ e∈es,e.1.length=F∧(∀ x∈e.1,0≤x)∧e.1.sum≤(M:Int)∧SyOk (1+W) e.2
  asc:(es.map fun e=>e.1.sum).Pairwise (· ≤ ·)
  len:es.length≤320
  clo:Clo F es []
structure RuTo (F W M j:Nat) (es:List Ent):Prop where
  nd:(es.map (·.1)).Nodup
  each:∀ e∈es,e.1.length=F∧(∀ x∈e.1,0≤x)∧e.1.sum<(j:Int)∧e.1.sum≤(M:Int)∧SyOk (1+W) e.2
  asc:(es.map fun e=>e.1.sum).Pairwise (· ≤ ·)
  len:es.length≤64*j
structure RuIn (F W M j:Nat) (es0 es:List Ent) (cs:List (List Int)):Prop where
  ex:∃ ne:List Ent,es=es0++ne∧ne.map (·.1)=cs∧∀ e∈ne,SyOk (1+W) e.2
theorem RuIn.done {F W M j:Nat} {es0 es:List Ent} {cs:List (List Int)} (h0:RuTo F W M j es0) (h:RuIn F W M j es0 es cs) (l:LvOk F j cs) (hj:j≤M) (hl:cs.length≤64):RuTo F W M (j+1) es:=by
  obtain ⟨ne,rfl,hm,hs⟩:=h.ex
  have hin:∀ e∈ne,CtOk F j e.1:=fun e he=>l.each e.1 (hm ▸ List.mem_map_of_mem he)
  refine ⟨?_,fun e he=>?_,?_,?_⟩
  · rw [List.map_append]
    refine List.nodup_append.mpr ⟨h0.nd,hm ▸ l.nd,fun a ha b hb e=>?_⟩
    subst e
    obtain ⟨e1,m1,rfl⟩:=List.mem_map.mp ha
    have:=(h0.each e1 m1).2.2.1
    rw [hm] at hb
    have:=(l.each _ hb).sum
    omega
  · rcases List.mem_append.mp he with he | he
    · obtain ⟨a1,a2,a3,a4,a5⟩:=h0.each e he
      exact ⟨a1,a2,by omega,a4,a5⟩
    · have c:=hin e he
      have:=c.sum
      exact ⟨c.len,c.nn,by omega,by omega,hs e he⟩
  · rw [List.map_append]
    refine List.pairwise_append.mpr ⟨h0.asc,?_,fun a ha b hb=>?_⟩
    · have:∀ x∈ne.map (fun e=>e.1.sum),x=(j:Int):=fun x hx=>by
        obtain ⟨e,he,rfl⟩:=List.mem_map.mp hx
        exact (hin e he).sum
      exact List.pairwise_of_forall_mem_list fun a ha b hb=>by rw [this a ha,this b hb]; exact Int.le_refl _
    · obtain ⟨e1,m1,rfl⟩:=List.mem_map.mp ha
      obtain ⟨e2,m2,rfl⟩:=List.mem_map.mp hb
      have:=(h0.each e1 m1).2.2.1
      have:=(hin e2 m2).sum
      omega
  · have hne:ne.length=cs.length:=by rw [← hm,List.length_map]
    have:=h0.len
    rw [List.length_append]
    omega
theorem RuTo.rule {F W M j:Nat} {es:List Ent} (h:RuTo F W M j es) (hj:j≤5) (hne:es≠[]) (cl:Clo F es []):RuOk F W M es :=
  ⟨hne,h.nd,fun e he=>⟨(h.each e he).1,(h.each e he).2.1,(h.each e he).2.2.2.1,(h.each e he).2.2.2.2⟩,h.asc,by have:=h.len; omega,cl⟩
@[irreducible] def sp_rule:Sp:=fun vs H Q _=>∃ (p:Addr) (n F W M:Nat) (pl:Bool),vs=[.ref p,.int (F:Int),.int (W:Int),.int (M:Int),.bl pl]∧TapeAt H p (n+8192)∧SzOk F W M∧∀ v es H',TapeAt H' p n→SameBut p H H'→Rep H' (ruD es) v→RuOk F W M es→Q v H'
theorem sp_rule_i {H:Hp} {Q:VK} {E:XK} {p:Addr} {n F W M:Nat} {pl:Bool} (T:TapeAt H p (n+8192)) (z:SzOk F W M) (k:∀ v es H',TapeAt H' p n→SameBut p H H'→Rep H' (ruD es) v→RuOk F W M es→Q v H'):sp_rule [.ref p,.int (F:Int),.int (W:Int),.int (M:Int),.bl pl] H Q E:=by
  unfold sp_rule; exact ⟨p,n,F,W,M,pl,rfl,T,z,k⟩
theorem cs_shaped (cs:List (List Int)):SeqAt.shaped (.list (cs.map ctD))=true:=by
  have hl:∀ cs:List (List Int),PyData.canLayAll0 (cs.map ctD)=true:=fun cs=>by
    induction cs with
    | nil=>rfl
    | cons c cs ih =>
      show (PyData.canLay0 (ctD c)&&PyData.canLayAll0 (cs.map ctD))=true
      rw [ih,show PyData.canLay0 (ctD c)=PyData.canLayAll0 (c.map .int) from rfl,layIs]; rfl
  have hd:∀ cs:List (List Int),PyData.depthAll (cs.map ctD)≤2:=fun cs=>by
    induction cs with
    | nil=>show 0≤2; omega
    | cons c cs ih =>
      show max (PyData.depth (ctD c)) (PyData.depthAll (cs.map ctD))≤2
      have:=depIs c
      have:PyData.depth (ctD c)≤2:=by simp only [PyData.depth]; omega
      omega
  unfold SeqAt.shaped
  rw [show PyData.canLay0 (.list (cs.map ctD))=PyData.canLayAll0 (cs.map ctD) from rfl,hl,Bool.true_and,decide_eq_true_eq]
  have:=hd cs
  simp only [PyData.depth]
  omega
theorem eqv_nil (cs:List (List Int)):PyData.eqv (.list (cs.map ctD)) (.list [])=decide (cs=[]):=by
  cases cs with
  | nil=>rfl
  | cons c cs=>show PyData.eqvAll (ctD c::cs.map ctD) []=_; simp [PyData.eqvAll]
theorem cts_flat:∀ cs:List (List Int),flatDs (cs.map ctD)=true
  | []=>rfl
  | c::cs=>by show (flatD (ctD c)&&flatDs (cs.map ctD))=true; rw [ctD_flat,cts_flat cs]; rfl
theorem ens_flat:∀ es:List Ent,flatDs (es.map enD)=true
  | []=>rfl
  | e::es=>by show (flatD (enD e)&&flatDs (es.map enD))=true; rw [enD_flat,ens_flat es]; rfl
theorem repl_ix {H:Hp} {cs:List (List Int)} {ws:List V} (r:RepL H (cs.map ctD) ws):∀ ix:List Nat,(∀ i∈ix,i<cs.length)→RepL H ((ix.map fun i=>cs.getD i []).map ctD) (ix.map fun i=>ws.getD i .non)
  | [],_=>RepL.nil
  | i::ix,h=>by
    have hi:=h i (List.mem_cons_self ..)
    obtain ⟨x,hx,rx⟩:=RepL.atX r (i:=i) (a:=cs[i]) (by simp [hi])
    have e1:cs.getD i []=cs[i]:=by simp [hi]
    have e2:ws.getD i .non=x:=by rw [List.getD_eq_getElem?_getD,hx]; rfl
    refine RepL.cons ?_ (repl_ix r ix fun j hj=>h j (List.mem_cons_of_mem _ hj))
    show Rep H (ctD (cs.getD i [])) (ws.getD i .non)
    rw [e1,e2]; exact rx
theorem RuIn.snoc {F W M j:Nat} {es0 es:List Ent} {cs:List (List Int)} {c:List Int} {fs:List Fr} (h:RuIn F W M j es0 es cs) (ok:SyOk (1+W) fs):RuIn F W M j es0 (es++[(c,fs)]) (cs++[c]):=by
  obtain ⟨ne,rfl,hm,hs⟩:=h.ex
  refine ⟨ne++[(c,fs)],by rw [List.append_assoc],by rw [List.map_append,hm]; rfl,fun e he=>?_⟩
  rcases List.mem_append.mp he with he | he
  · exact hs e he
  · rw [List.mem_singleton] at he; subst he; exact ok
theorem RuIn.len {F W M j:Nat} {es0 es:List Ent} {cs:List (List Int)} (h:RuIn F W M j es0 es cs):es.length=es0.length+cs.length:=by
  obtain ⟨ne,rfl,hm,hs⟩:=h.ex
  rw [List.length_append,← hm,List.length_map]
section
variable {P:Program} {w:World} {K:PySem.W.Frag} {mg:Str→Option Value} {base:Heap} {c:Cl}
set_option maxHeartbeats 4000000 in
theorem ok__law_rule {f:Addr} {fd:FuncData} (F:Fun K "_law_rule" "_law_rule" s__law_rule f fd) (T:Txt K mg c)
    (F__law_says:FnC CX0 P w K mg base 3 "_law_says" ["_law_tape_here", "_law_ways", "_law_stops", "_law_plain"] sp_says) (F__law_next:FnC CX0 P w K mg base 1 "_law_next" ["_law_counts", "_law_says_here"] sp_next):FnOk P w K mg base CX0 4 f fd ["_law_tape_here", "_law_faces", "_law_ways", "_law_most", "_law_plain"] sp_rule:=by
  refine F.okw sc__law_rule (fun vs H Q E h=>?_) (fun cdv A outer s H vs Q E hr h=>?_)
  · unfold sp_rule at h
    obtain ⟨p,n,F,W,M,pl,rfl,_⟩:=h
    rfl
  · unfold sp_rule at h
    obtain ⟨p,n,F,W,M,pl,rfl,TP,Z,k⟩:=h
    refine ⟨_,(wss_cons (ws_set (i:=5) sc__law_rule.nd rfl (Or.inl rfl) (we_lst wa_nil))
      (wss_cons (ws_set (i:=6) sc__law_rule.nd rfl (Or.inl rfl) (we_lst (wa_k (we_op op_mulT (we_tup (wa_k we_int wa_nil)) (we_v 1)) wa_nil)))
      (wss_cons (ws_while PassesOwn.never (wt_cmp (op_neD hr.units) (we_v 6) (we_lst wa_nil) (nomark _)) (wss_cons (ws_set (i:=7) sc__law_rule.nd rfl (Or.inr rfl) (we_lst wa_nil))
      (wss_cons (ws_for PassesOwn.never rfl (wi_list (we_cB (cl_srt K) (by rfl) T.b_sorted (by decide +kernel) (wa_k (we_v 6) wa_nil))) (wg_name (i:=8) sc__law_rule.nd rfl (Or.inl rfl)) (wss_cons (ws_set (i:=9) sc__law_rule.nd rfl (Or.inl rfl) (we_fn F__law_says (hr.mono (by decide)) (wa_k (we_v 0) (wa_k (we_v 2) (wa_k (we_cmp op_eq (we_cB (cl_sumT K rfl) (by rfl) T.b_sum (by decide +kernel) (wa_k (we_v 8) wa_nil)) (we_v 3) (nomark _)) (wa_k (we_v 4) wa_nil))))))
      (wss_cons (ws_expr (we_bm PySem.F.plainAttrs_list PySem.F.slot_list_append PySem.F.type_list_append mt_app (we_v 5) (wa_k (we_tup (wa_k (we_v 8) (wa_k (we_v 9) wa_nil))) wa_nil)))
      (wss_one (ws_expr (we_bm PySem.F.plainAttrs_list PySem.F.slot_list_extend PySem.F.type_list_extend mt_ext (we_v 7) (wa_k (we_comp (CScope.of (psc:=defScope s__law_rule) (N:=["_law_tape_here", "_law_faces", "_law_ways", "_law_most", "_law_plain", "_law_found", "_law_level", "_law_later", "_law_counts", "_law_says_here"]) (N':=["_law_one", "_law_later"]) (js:=[7]) (by decide +kernel) rfl rfl rfl) (wi_list (we_fn F__law_next (hr.mono (by decide)) (wa_k (we_v 8) (wa_k (we_v 9) wa_nil)))) (fun _ _ _ _=>wts_one (wt_cmp (op_notinT K hr.units) (we_v 0) (we_v 1) (by with_unfolding_all rfl))) (fun _ _ _ _=>(we_v 0))) wa_nil)))))))
      (wss_one (ws_set (i:=6) sc__law_rule.nd rfl (Or.inl rfl) (we_v 7))))))
      (wss_one (ws_ret (we_cT call_tuple_of (by rfl) T.b_tuple (by decide +kernel) (wa_k (we_v 5) wa_nil))))))),?_⟩
    refine nwL (by show 0≤64; decide) fun fo H1 hfo e1 s1=>?_
    refine nwT (by show 1≤64; decide) fun q2 H2 hq2 e2 s2=>?_
    refine ⟨_,rfl,?_⟩
    have hF:2≤F∧F≤4:=by have:=Z.f; omega
    refine mulT e2 hF.1 (by omega) fun q3 H3 s3 e3=>?_
    refine nwL (by show 1≤64; decide) fun le H4 hle e4 s4=>?_
    have nlf:fo≠p:=TP.ne hfo
    have F4:=(((TP.same s1).same s2).same s3).same s4
    have S4:SameBut p H H4:=((((s1.trans s2).trans s3).trans s4)).but
    have rz:Rep H4 (ctD (List.replicate F 0)) (.ref q3):=ctD_of (by rw [s4 _ _ e3,List.map_replicate])
    have ok0:CtOk F 0 (List.replicate F 0):=⟨List.length_replicate,fun x hx=>by have:=List.eq_of_mem_replicate hx; omega,by
      have:∀ k:Nat,(List.replicate k (0:Int)).sum=0:=fun k=>by
        induction k with
        | zero=>rfl
        | succ k ih=>rw [List.replicate_succ,List.sum_cons,ih]; rfl
      rw [this]; rfl⟩
    have e1':=s4 _ _ (s3 _ _ (s2 _ _ e1))
    have hle0:H le=none:=((s1.trans s2).trans s3).free hle
    have nlp:le≠p:=TP.ne hle0
    have nfl:le≠fo:=fun e=>by subst e; rw [s3 _ _ (s2 _ _ e1)] at hle; cases hle
    refine while_r (fun m σ H'=>∃ (j:Nat) (le:Addr) (o7 o8 o9:Option V) (vs ws:List V) (es:List Ent) (cs:List (List Int)),σ=[some (.ref p),some (.int (F:Int)),some (.int (W:Int)),some (.int (M:Int)),some (.bl pl),some (.ref fo),some (.ref le),o7,o8,o9] ∧
        m=6 - j∧j≤M+1∧(j≤M∨cs=[])∧(j=0→cs≠[])∧(0<j→es≠[])∧TapeAt H' p (n+1024*(6 - j))∧SameBut p H H'∧H' fo=some (.lst vs)∧RepL H' (es.map enD) vs∧H' le=some (.lst ws)∧RepL H' (cs.map ctD) ws∧H le=none∧le≠fo∧LvOk F j cs∧RuTo F W M j es∧Clo F es cs)
      (fun σ H'=>∃ (le:Addr) (o7 o8 o9:Option V) (vs:List V) (es:List Ent),σ=[some (.ref p),some (.int (F:Int)),some (.int (W:Int)),some (.int (M:Int)),some (.bl pl),some (.ref fo),some (.ref le),o7,o8,o9]∧TapeAt H' p n∧SameBut p H H'∧H' fo=some (.lst vs)∧RepL H' (es.map enD) vs∧RuOk F W M es)
      6 ⟨0,le,none,none,none,[],_,[],[List.replicate F 0],rfl,rfl,by omega,.inl (by omega),fun _ h=>by (cases h),fun h=>by omega,F4.less (by omega),S4,e1',RepL.nil,e4,RepL.cons rz RepL.nil,hle0,nfl,⟨by simp,fun c hc=>by (rw [List.mem_singleton] at hc; subst hc; exact ok0)⟩,⟨List.nodup_nil,fun e he=>by (cases he),List.Pairwise.nil,Nat.zero_le _⟩,⟨fun e he=>by (cases he),fun c hc=>.inl (by simpa using hc),.inr (by simp)⟩⟩ ?_ ?_
    · clear e1 e2 e3 e4 s1 s2 s3 s4 F4 S4 rz ok0 e1' hle0 nlp nfl hle hq2
      rintro m σ H1 ⟨j,le,o7,o8,o9,vs,ws,es,cs,rfl,rfl,hj,hjc,hj0,hes,F1,S1,hfo1,rfo,hle1,rle,hle0,nfl,LV,RT,CL⟩
      have nlp:le≠p:=TP.ne hle0
      refine ⟨_,rfl,?_⟩
      refine nwL (by show 0≤64; decide) fun q5 H5 hq5 e5 s5=>?_
      refine reD (Rep.lst (s5 _ _ hle1) (rle.same s5)) (Rep.lst e5 RepL.nil) (cs_shaped cs) rfl ?_
      rw [eqv_nil]
      refine ⟨_,rfl,?_⟩
      have hM:M≤4:=by have:=Z.f; omega
      by_cases hc:cs=[]
      · rw [decide_eq_true hc]
        refine iteF ⟨le,o7,o8,o9,vs,es,rfl,(F1.same s5).less (by omega),S1.trans s5.but,s5 _ _ hfo1,rfo.same s5,RT.rule (by omega) (hes ?_) (hc ▸ CL)⟩
        have:j≠0:=fun e=>hj0 e hc
        omega
      · rw [decide_eq_false hc]
        refine iteT ?_
        have hjM:j≤M:=by
          rcases hjc with h | h
          · exact h
          · exact absurd h hc
        have few:=LV.few Z hjM
        have lw':ws.length=cs.length:=by rw [rle.len,List.length_map]
        refine nwL (by show 0≤64; decide) fun la H6 hla e6 s6=>?_
        refine ⟨_,rfl,?_⟩
        have s16:=s5.trans s6
        refine rsrt (cs:=cs) (SqL.of (s16 _ _ hle1)) (rle.same s16) (fun c hc' h=>by have:=(LV.each c hc').len; rw [h] at this; simp at this; omega) (by omega) fun so ix H7 hix _ hso e7 s7=>?_
        rw [lw'] at hix
        have hixl:∀ i∈ix,i<cs.length:=fun i hi=>by have:=hix.mem_iff.mp hi; simpa using this
        have lix:ix.length=cs.length:=by rw [hix.length_eq,List.length_range]
        have LV2:LvOk F j (ix.map fun i=>cs.getD i []):=LV.perm (perm_ix [] hix)
        have hpm:=perm_ix [] hix
        have s17:=s16.trans s7
        have rso:RepL H7 ((ix.map fun i=>cs.getD i []).map ctD) (ix.map fun i=>ws.getD i .non):=repl_ix (rle.same s17) ix hixl
        have lcs:(ix.map fun i=>cs.getD i []).length=cs.length:=by rw [List.length_map,lix]
        generalize hcs2:(ix.map fun i=>cs.getD i [])=cs2 at *
        generalize hys2:(ix.map fun i=>ws.getD i V.non)=ys2 at *
        have lys:ys2.length=cs2.length:=by rw [rso.len,List.length_map]
        have hla0:H la=none:=SameBut.free S1 F1.there (s5.free hla)
        have hso0:H so=none:=SameBut.free S1 F1.there (s16.free hso)
        have nla:la≠p:=TP.ne hla0
        have nso:so≠p:=TP.ne hso0
        have nlf':la≠fo:=fun e=>by subst e; rw [s5 _ _ hfo1] at hla; cases hla
        have nsf:so≠fo:=fun e=>by subst e; rw [s16 _ _ hfo1] at hso; cases hso
        have nsl:so≠la:=fun e=>by subst e; rw [e6] at hso; cases hso
        refine ⟨so,rfl,⟨_,SqL.of e7⟩,?_⟩
        refine for_list (xs:=ys2) (fun i σ H'=>∃ (o8 o9:Option V) (vs2 us:List V) (es2:List Ent) (ls:List (List Int)),σ=[some (.ref p),some (.int (F:Int)),some (.int (W:Int)),some (.int (M:Int)),some (.bl pl),some (.ref fo),some (.ref le),some (.ref la),o8,o9] ∧
            TapeAt H' p (n+1024*(6 - j) - 16*i)∧SameBut p H H'∧H' so=some (.lst ys2)∧H' fo=some (.lst vs2)∧RepL H' (es2.map enD) vs2∧H' la=some (.lst us)∧RepL H' (ls.map ctD) us∧RuIn F W M j es es2 (cs2.take i)∧LvOk F (j+1) ls∧(j=M→ls=[])∧RepL H' (cs2.map ctD) ys2∧LvFrom ls (es2.drop es.length))
          ⟨_,_,vs,[],es,[],rfl,(F1.same s17).less (by omega),S1.trans s17.but,e7,s17 _ _ hfo1,rfo.same s17,s7 _ _ e6,RepL.nil,⟨[],by rw [List.append_nil],rfl,fun e he=>by cases he⟩,⟨List.nodup_nil,fun c hc=>by cases hc⟩,fun _=>rfl,rso,fun c=>⟨(fun h=>by cases h),(fun ⟨e,he,_⟩=>by rw [List.drop_length] at he; cases he)⟩⟩ (fun i σ H' _ q=>?_) ?_ ?_
        · obtain ⟨_,_,_,_,_,_,_,_,_,h,_⟩:=q
          exact SqL.of h
        · rintro i x σ H' hx ⟨o8,o9,vs2,us,es2,ls,rfl,F',S',hso',hfo',rfo',hla',rla',RI,LS,hjm,rso',LF⟩
          obtain ⟨c,hci,rx⟩:=rso'.atI hx
          have hi:i<cs2.length:=(List.getElem?_eq_some_iff.mp hci).1
          have okc:=LV2.each c (List.mem_of_getElem? hci)
          obtain ⟨ax,rfl,hax⟩:=ctD_at rx
          refine ⟨_,rfl,_,rfl,_,rfl,?_⟩
          refine rsT (SqT.of hax) ?_
          refine ⟨_,rfl,rfl,_,rfl,?_⟩
          refine sp_says_i (n:=n+1024*(6 - j) - 16*(i+1)) (F'.less (by omega)) Z.w.1 Z.w.2 fun v fs H8 F8 s8 r8 ok8 st8=>?_
          have t8:=F'.t s8
          have hso8:=s8.at nso hso'
          have hfo8:=s8.at nlf hfo'
          have hla8:=s8.at nla hla'
          have rfo8:=rfo'.flat t8 (ens_flat _)
          have rla8:=rla'.flat t8 (cts_flat _)
          have rso8:=rso'.flat t8 (cts_flat _)
          have rx8:=rx.flat t8 (ctD_flat _)
          have hlen:vs2.length≤500:=by
            rw [rfo8.len,List.length_map,RI.len,List.length_take]
            have:=RT.len
            have:64*j≤64*5:=Nat.mul_le_mul_left _ (by omega)
            omega
          refine ⟨_,rfl,tyL hfo8,_,rfl,_,rfl,?_⟩
          refine nwT (by show 2≤64; decide) fun q9 H9 hq9 e9 s9=>?_
          refine appL (s9 _ _ hfo8) (by omega) fun H10 e10 s10=>?_
          have t10:=s10.t (s9 _ _ hfo8)
          have t910:=s9.t.trans t10
          have hso10:=s10.at nsf (s9 _ _ hso8)
          have hla10:=s10.at nlf' (s9 _ _ hla8)
          have rx10:=rx8.flat t910 (ctD_flat _)
          have r10:=r8.flat t910 (shD_flat _)
          have ren:Rep H10 (enD (c,fs)) (.ref q9):=Rep.tup (t10 _ _ e9) (RepL.cons rx10 (RepL.cons r10 RepL.nil))
          have rfo10:RepL H10 ((es2++[(c,fs)]).map enD) (vs2++[.ref q9]):=by
            rw [List.map_append]
            exact RepL.append (RepL.cons ren RepL.nil) (rfo8.flat t910 (ens_flat _))
          have F10:=(F8.same s9).but s10 nlf
          have S10:SameBut p H H10:=SameBut.thru hfo ((S'.trans s8).trans s9.but) s10
          obtain ⟨f0,fr,rfl⟩:∃ f0 fr,fs=f0::fr:=by
            cases fs with
            | nil=>exact absurd (ok8.len) (by rw [List.length_nil]; omega)
            | cons f0 fr=>exact ⟨f0,fr,rfl⟩
          have lfr:fr.length≤4:=by have:=ok8.len; rw [List.length_cons] at this; have:=Z.w; omega
          refine ⟨_,rfl,tyL hla10,_,rfl,_,rfl,?_⟩
          refine sp_next_i rx10 r10 (by rw [okc.len]; omega) lfr fun D ys H11 hD hD11 rD s11=>?_
          refine ⟨D,rfl,⟨_,SqL.of hD11⟩,?_⟩
          have NX:=nexts_ok okc f0
          have lnx:(nexts c f0).length≤4:=by
            unfold nexts
            split
            · exact Nat.zero_le _
            · rw [List.length_map,List.length_range,okc.len]; omega
          have rla11:=(rla8.flat t910 (cts_flat _)).same s11
          have llen:ls.length<64:=by
            by_cases h:j=M
            · rw [hjm h]; decide
            · exact LS.few Z (by omega)
          refine comp_fltD rD (fun d=>!decide (d∈ls)) (by rw [rD.len,List.length_map]; omega) hD11 (fun x' d H' Q' hd rx' s' k'=>?_) (fun x' H' Q' q=>⟨_,rfl,q⟩) (fun D2 ys2 H12 hD2 e12 s12 r12=>?_)
          · refine ⟨_,rfl,_,rfl,?_⟩
            refine riT (.inl (SqL.of (s' _ _ (s11 _ _ hla10)))) (rla11.same s') rx'.k ?_
            exact ⟨_,rfl,k' H' (Same.refl _)⟩
          · have s1112:=s11.trans s12
            refine extL (s1112 _ _ hla10) e12 (by rw [rla8.len,r12.len,List.length_map,List.length_map]; have:=List.length_filter_le (fun d=>!decide (d∈ls)) (nexts c f0); omega) fun H13 e13 s13=>?_
            have t13:=s13.t (s1112 _ _ hla10)
            have tt:=s1112.t.trans t13
            refine ⟨_,_,vs2++[.ref q9],us++ys2,es2++[(c,f0::fr)],ls++(nexts c f0).filter (fun d=>!decide (d∈ls)),rfl,(F10.same s1112).but s13 nla,SameBut.thru hla0 (S10.trans s1112.but) s13,s13.at nsl (s1112 _ _ hso10),s13.at (Ne.symm nlf') (s1112 _ _ e10),rfo10.flat tt (ens_flat _),e13,?_,?_,LS.more NX,fun h=>?_,(rso8.flat t910 (cts_flat _)).flat tt (cts_flat _),?_⟩
            · rw [List.map_append]
              exact RepL.append (r12.flat t13 (cts_flat _)) ((rla11.same s12).flat t13 (cts_flat _))
            · rw [List.take_succ,hci]
              exact RI.snoc ok8
            · have hsum:=okc.sum
              have:=st8 (decide_eq_true (by rw [hsum,h]))
              cases (show f0=(0,1) by simpa using this)
              rw [hjm h]
              rfl
            · have hle2:es.length≤es2.length:=by rw [RI.len]; omega
              rw [List.drop_append_of_le_length hle2]
              exact LvFrom.more (e:=(c,f0::fr)) LF
        · rintro σ H8 ⟨o8,o9,vs2,us,es2,ls,rfl,F8,S8,hso8,hfo8,rfo8,hla8,rla8,RI,LS,hjm,_,LF⟩
          rw [lys,List.take_length] at RI
          have RT2:=RI.done RT LV2 hjM (by omega)
          have CL2:Clo F es2 ls:=by
            obtain ⟨ne,e1,e2,_⟩:=RI.ex
            subst e1
            rw [List.drop_left] at LF
            exact CL.step hpm e2 LF
          refine ⟨_,rfl,6 - (j+1),by omega,j+1,la,_,_,_,vs2,us,es2,ls,rfl,rfl,by omega,?_,fun h=>by omega,fun _ h=>?_,F8.less (by rw [lys]; omega),S8,hfo8,rfo8,hla8,rla8,hla0,nlf',LS,RT2,CL2⟩
          · by_cases h:j=M
            · exact .inr (hjm h)
            · exact .inl (by omega)
          · have:=RI.len
            rw [h] at this
            have h0:cs.length≠0:=fun e=>hc (List.length_eq_zero_iff.mp e)
            simp at this
            omega
    · rintro σ H1 ⟨le,o7,o8,o9,vs,es,rfl,F1,S1,hfo1,rfo,RO⟩
      refine ⟨_,rfl,fo,vs,rfl,.inl ⟨SqL.of hfo1,fun l hl=>?_⟩⟩
      have sl:=Same.upd (o:=.tup vs) hl
      have el:(upd H1 l (.tup vs)) l=some (.tup vs):=upd_same
      generalize upd H1 l (.tup vs)=H2 at sl el
      exact k _ es H2 (F1.same sl) (S1.trans sl.but) (Rep.tup el (rfo.same sl)) RO
end
end Kw
set_option Elab.async false
set_option linter.all false
set_option maxRecDepth 100000
namespace Kw
open PySem L2 Mf Mt PySem.NumText
abbrev s_is_whole:Stmt:=(top 8)
theorem sc_is_whole:FnScope ["thing"] ["thing"] (defScope s_is_whole):=⟨rfl,rfl,rfl,by decide +kernel,rfl,by decide +kernel,by decide +kernel⟩
abbrev s_common_divisor:Stmt:=(top 9)
theorem sc_common_divisor:FnScope ["number", "above_nought", "divided", "divisor", "rest"] ["number", "above_nought"] (defScope s_common_divisor):=⟨rfl,rfl,rfl,by decide +kernel,rfl,by decide +kernel,by decide +kernel⟩
abbrev s_shown_whole:Stmt:=(top 10)
theorem sc_shown_whole:FnScope ["number", "piece", "rest", "pieces"] ["number"] (defScope s_shown_whole):=⟨rfl,rfl,rfl,by decide +kernel,rfl,by decide +kernel,by decide +kernel⟩
abbrev s_are_figures:Stmt:=(top 11)
theorem sc_are_figures:FnScope ["text"] ["text"] (defScope s_are_figures):=⟨rfl,rfl,rfl,by decide +kernel,rfl,by decide +kernel,by decide +kernel⟩
abbrev s_read_whole:Stmt:=(top 12)
theorem sc_read_whole:FnScope ["text", "figures"] ["text"] (defScope s_read_whole):=⟨rfl,rfl,rfl,by decide +kernel,rfl,by decide +kernel,by decide +kernel⟩
abbrev s_is_fraction:Stmt:=(top 14)
theorem sc_is_fraction:FnScope ["thing"] ["thing"] (defScope s_is_fraction):=⟨rfl,rfl,rfl,by decide +kernel,rfl,by decide +kernel,by decide +kernel⟩
abbrev s_shown_fraction:Stmt:=(top 15)
theorem sc_shown_fraction:FnScope ["one"] ["one"] (defScope s_shown_fraction):=⟨rfl,rfl,rfl,by decide +kernel,rfl,by decide +kernel,by decide +kernel⟩
abbrev s_read_fraction:Stmt:=(top 16)
theorem sc_read_fraction:FnScope ["text", "numbers", "read"] ["text"] (defScope s_read_fraction):=⟨rfl,rfl,rfl,by decide +kernel,rfl,by decide +kernel,by decide +kernel⟩
theorem ok_common_divisor {f:Addr} {fd:FuncData} (F:Fun K "common_divisor" "common_divisor" s_common_divisor f fd) (T:Txt K mg c):FnOk P w K mg base CX0 1 f fd ["number", "above_nought"] sp_cd:=by
  refine F.okw sc_common_divisor (fun vs H Q E h=>?_) (fun cdv A outer s H vs Q E hr h=>?_)
  · unfold sp_cd at h
    obtain ⟨n,d,rfl,_⟩:=h
    rfl
  · unfold sp_cd at h
    obtain ⟨n,d,rfl,hd,q⟩:=h
    refine ⟨_,(wss_cons (ws_set (i:=2) sc_common_divisor.nd rfl (Or.inl rfl) (we_v 0))
      (wss_cons (ws_set (i:=3) sc_common_divisor.nd rfl (Or.inl rfl) (we_v 1))
      (wss_cons (ws_while PassesOwn.never (wt_cmp op_ne (we_v 3) we_int (nomark _)) (wss_cons (ws_set (i:=4) sc_common_divisor.nd rfl (Or.inl rfl) (we_op op_mod (we_v 2) (we_v 3)))
      (wss_cons (ws_set (i:=2) sc_common_divisor.nd rfl (Or.inl rfl) (we_v 3))
      (wss_one (ws_set (i:=3) sc_common_divisor.nd rfl (Or.inl rfl) (we_v 4))))))
      (wss_one (ws_ret (we_v 2)))))),?_⟩
    refine ⟨_,rfl,_,rfl,?_⟩
    refine while_r (fun m σ H'=>∃ (a b:Int) (c:Option V),σ=[some (.int n),some (.int d),some (.int a),some (.int b),c]∧0≤b∧Int.gcd a b=Int.gcd n d∧(b=0→0<a)∧H'=H∧m=b.toNat)
      (fun σ H'=>∃ (c:Option V),σ=[some (.int n),some (.int d),some (.int (Int.gcd n d)),some (.int 0),c]∧H'=H)
      _ ⟨n,d,none,rfl,by omega,rfl,by omega,rfl,rfl⟩ ?_ ?_
    · rintro m σ H2 ⟨a,b,c,rfl,hb,hg,h0,rfl,rfl⟩
      refine ⟨_,rfl,rfl,_,rfl,?_⟩
      refine iteDN (fun e=>?_) (fun e=>?_)
      · have hb':0<b:=by
          rcases Int.lt_or_eq_of_le hb with h | h
          · exact h
          · exact absurd (congrArg V.int h.symm) e
        refine ⟨_,rfl,_,rfl,_,_,rfl,rfl,hb',_,rfl,_,rfl,?_⟩
        have e1:=Int.emod_lt_of_pos a hb'
        have e2:=Int.emod_nonneg a (b:=b) (by omega)
        exact ⟨_,by omega,b,a % b,_,rfl,e2,by rw [gcd_step,hg],fun _=>hb',rfl,rfl⟩
      · have hb0:b=0:=by injection e
        subst hb0
        have ha:=h0 rfl
        have e1:=gcd_end ha
        rw [hg] at e1
        rw [e1]
        exact ⟨c,rfl,rfl⟩
    · rintro σ H2 ⟨c,rfl,rfl⟩
      exact ⟨_,rfl,q⟩
def optV:Option Int→V
  | none=>.non
  | some n=>.int n
def optD:Option Int→PyData
  | none=>.none
  | some n=>.int n
theorem optR {H:Hp}:∀ o:Option Int,Rep H (optD o) (optV o)
  | none=>Rep.non
  | some n=>Rep.int n
@[irreducible] def sp_whole:Sp:=fun vs H Q _=>∃ o,vs=[optV o]∧Q (.bl o.isSome) H
theorem sp_whole_i {o:Option Int} {H:Hp} {Q:VK} {E:XK} (q:Q (.bl o.isSome) H):sp_whole [optV o] H Q E:=by unfold sp_whole; exact ⟨o,rfl,q⟩
@[irreducible] def sp_aref:Sp:=fun vs H Q _=>∃ t,vs=[.str t]∧t.length≤20000∧∀ H',Same H H'→Q (.bl (decide (1≤t.length)&&decide (t.length≤4000)&&figs t)) H'
theorem sp_aref_i {t:Str} {H:Hp} {Q:VK} {E:XK} (z:t.length≤20000) (q:∀ H',Same H H'→Q (.bl (decide (1≤t.length)&&decide (t.length≤4000)&&figs t)) H'):sp_aref [.str t] H Q E:=by unfold sp_aref; exact ⟨t,rfl,z,q⟩
@[irreducible] def sp_readw:Sp:=fun vs H Q _=>∃ t,vs=[.str t]∧t.length≤20000∧∀ H',Same H H'→Q (optV (rd t)) H'
theorem sp_readw_i {t:Str} {H:Hp} {Q:VK} {E:XK} (z:t.length≤20000) (q:∀ H',Same H H'→Q (optV (rd t)) H'):sp_readw [.str t] H Q E:=by unfold sp_readw; exact ⟨t,rfl,z,q⟩
theorem line20 {n:Nat} (h:n≤20000):n≤sizeLine:=Nat.le_trans h (by decide)
theorem iteNE {a b:Str} {A B:Prop} (h:a≠b) (x:A):if (!decide (V.str a=V.str b))=true then A else B:=by
  rw [decide_eq_false (fun z=>h (by injection z))]
  exact x
theorem rlS {K:PySem.W.Frag} {H:Hp} {Q:VK} {t:Str} (z:t.length≤sizeLine) (q:Q (.int t.length) H):rLen K [V.str t] H Q:=by
  unfold rLen
  refine ⟨_,_,rfl,?_,q⟩
  first | exact ⟨z,rfl⟩ | exact ⟨rfl,z⟩ | exact z | exact .inl ⟨z,rfl⟩ | exact rfl
section
variable {P:Program} {w:World} {K:PySem.W.Frag} {mg:Str→Option Value} {base:Heap} {c:Cl}
theorem ok_is_whole {f:Addr} {fd:FuncData} (F:Fun K "is_whole" "is_whole" s_is_whole f fd) (T:Txt K mg c):FnOk P w K mg base CX0 1 f fd ["thing"] sp_whole:=by
  refine F.okw sc_is_whole (fun vs H Q E h=>?_) (fun cdv A outer s H vs Q E hr h=>?_)
  · unfold sp_whole at h
    obtain ⟨o,rfl,_⟩:=h
    rfl
  · unfold sp_whole at h
    obtain ⟨o,rfl,q⟩:=h
    refine ⟨_,(wss_one (ws_ret (we_and (we_cB cl_isi (by rfl) T.b_isinstance (by decide +kernel) (wa_k (we_v 0) (wa_k (we_bltn (v:=.ty "int") (u:=.type "int") rfl T.b_int (by decide +kernel) rfl) wa_nil))) (we_one (we_not (we_cB cl_isi (by rfl) T.b_isinstance (by decide +kernel) (wa_k (we_v 0) (wa_k (we_bltn (v:=.ty "bool") (u:=.type "bool") rfl T.b_bool (by decide +kernel) rfl) wa_nil)))))))),?_⟩
    cases o with
    | none =>
      refine ⟨_,rfl,?_⟩
      refine riI Rep.non ?_
      refine ⟨_,rfl,?_⟩
      refine iteF ?_
      exact q
    | some n =>
      refine ⟨_,rfl,?_⟩
      refine riI (Rep.int n) ?_
      refine ⟨_,rfl,?_⟩
      refine iteT ?_
      refine ⟨_,rfl,?_⟩
      refine riI (Rep.int n) ?_
      refine ⟨_,rfl,?_⟩
      exact q
theorem ok_are_figures {f:Addr} {fd:FuncData} (F:Fun K "are_figures" "are_figures" s_are_figures f fd) (T:Txt K mg c):FnOk P w K mg base CX0 1 f fd ["text"] sp_aref:=by
  refine F.okw sc_are_figures (fun vs H Q E h=>?_) (fun cdv A outer s H vs Q E hr h=>?_)
  · unfold sp_aref at h
    obtain ⟨t,rfl,_⟩:=h
    rfl
  · unfold sp_aref at h
    obtain ⟨t,rfl,z,q⟩:=h
    refine ⟨_,(wss_one (ws_ret (we_and (we_chain op_le op_le we_int (we_cB cl_len (by rfl) T.b_len (by decide +kernel) (wa_k (we_v 0) wa_nil)) (we_glob (v:=.int 4000) rfl T.g_MOST_FIGURES ⟨_,rfl⟩)) (we_one (we_cB (cl_all rfl) (by rfl) T.b_all (by decide +kernel) (wa_k (we_comp (CScope.of (psc:=defScope s_are_figures) (N:=["text"]) (N':=["sign"]) (js:=[]) (by decide +kernel) rfl rfl rfl) (wi_str (we_v 0)) (fun _ _ _ _=>wts_nil) (fun _ _ _ _=>(we_cmp op_in_str (we_v 0) (we_glob (v:=.str (Str.ofString "0123456789")) rfl T.g_FIGURES ⟨_,rfl⟩) (by with_unfolding_all rfl)))) wa_nil)))))),?_⟩
    refine ⟨_,rfl,?_⟩
    refine rlS (line20 z) ?_
    refine ⟨_,_,rfl,rfl,_,rfl,?_⟩
    refine iteD (fun h1=>?_) (fun h1=>?_)
    · refine ⟨_,_,rfl,rfl,_,rfl,?_⟩
      refine iteD (fun h2=>?_) (fun h2=>?_)
      · refine ⟨_,rfl,_,rfl,?_⟩
        refine comp_str (x:=t) (fun _=>true) (fun x=>V.bl (dig x)) (by omega) (fun x H' Q' _ q=>q) (fun x H' Q' _ q=>?_) fun D H1 hD e s1=>?_
        · refine ⟨_,rfl,_,_,rfl,rfl,?_⟩
          rw [in_figs]
          exact q
        · have e:H1 D=some (.lst ((t.cps.toList.map dig).map V.bl)):=by
            rw [e,List.filter_eq_self.mpr (fun _ _=>rfl),List.map_map]
            rfl
          refine rall e ?_
          have q1:=q H1 s1
          rw [decide_eq_true (show 1≤t.length by omega),decide_eq_true (show t.length≤4000 by omega)] at q1
          have e2:(t.cps.toList.map dig).all id=figs t:=by unfold figs; rw [List.all_map]; rfl
          rw [e2]
          exact q1
      · have q1:=q H (Same.refl _)
        rw [decide_eq_false (show ¬ t.length≤4000 by omega),Bool.and_false,Bool.false_and] at q1
        exact q1
    · have q1:=q H (Same.refl _)
      rw [decide_eq_false (show ¬ 1≤t.length by omega),Bool.false_and,Bool.false_and] at q1
      refine ⟨_,rfl,?_⟩
      refine iteF ?_
      exact q1
theorem ok_read_whole {f:Addr} {fd:FuncData} (F:Fun K "read_whole" "read_whole" s_read_whole f fd) (T:Txt K mg c) (F_are_figures:FnC CX0 P w K mg base 1 "are_figures" ["text"] sp_aref):FnOk P w K mg base CX0 2 f fd ["text"] sp_readw:=by
  refine F.okw sc_read_whole (fun vs H Q E h=>?_) (fun cdv A outer s H vs Q E hr h=>?_)
  · unfold sp_readw at h
    obtain ⟨t,rfl,_⟩:=h
    rfl
  · unfold sp_readw at h
    obtain ⟨t,rfl,z,q⟩:=h
    refine ⟨_,(wss_cons (ws_cut (ws_set (i:=1) sc_read_whole.nd rfl (Or.inl rfl) (we_ifExp (wt_val (we_bm PySem.F.plainAttrs_str PySem.F.slot_str_startswith PySem.F.type_str_startswith mt_starts (we_v 0) (wa_k we_str wa_nil))) (we_slice sl_str (we_v 0) (wo_some we_int) wo_none) (we_v 0))))
      (wss_cons (ws_if (wt_not (wt_val (we_fn F_are_figures (hr.mono (by decide)) (wa_k (we_v 1) wa_nil)))) (wss_one (ws_ret we_non)) wss_nil)
      (wss_cons (ws_if (wt_w (ww_and (wt_val (we_bm PySem.F.plainAttrs_str PySem.F.slot_str_startswith PySem.F.type_str_startswith mt_starts (we_v 1) (wa_k we_str wa_nil))) (ww_and1 (wt_cmp op_ne (we_v 0) we_str (nomark _))))) (wss_one (ws_ret we_non)) wss_nil)
      (wss_one (ws_ret (we_cT (cl_intT T.nd) (by rfl) T.b_int (by decide +kernel) (wa_k (we_v 0) wa_nil))))))),?_⟩
    have zf:=fg_len t
    have es:Txt.startswith t (Str.ofString "-")=neg t:=starts_one t 45
    have e0:Txt.startswith (fg t) (Str.ofString "0")=decide ((fg t).cps.toList.head?=some 48):=starts_one (fg t) 48
    refine ⟨fun σ H'=>σ=[some (.str t),some (.str (fg t))]∧H'=H,?_,?_⟩
    · rintro σ H1 ⟨rfl,rfl⟩
      refine ⟨_,rfl,?_⟩
      refine sp_aref_i (by omega) fun H2 s2=>?_
      refine ⟨_,rfl,?_⟩
      have q2:=q H2 s2
      by_cases h1:(decide (1≤(fg t).length)&&decide ((fg t).length≤4000)&&figs (fg t))=true
      · rw [h1]
        refine iteF ?_
        refine ⟨_,rfl,rfl,?_⟩
        refine rstarts ?_
        rw [e0]
        refine ⟨_,rfl,?_⟩
        have hd:rdB t=!(decide ((fg t).cps.toList.head?=some 48) && !decide (t=zero)):=by
          unfold rdB; rw [h1,Bool.true_and]
        have go:rdB t=true→tRet (tCB rIntT (tCons (tVar 0) tNil)) { nx:=fun x H'=>Q V.non H',rt:=Q } [some (.str t),some (.str (fg t))] H2:=by
          intro hb
          refine ⟨_,rfl,?_⟩
          have h2:figs (fg t)=true:=by
            simp only [Bool.and_eq_true] at h1
            exact h1.2
          have h3:1≤(fg t).length:=by
            simp only [Bool.and_eq_true] at h1
            exact of_decide_eq_true h1.1.1
          have h4:(fg t).length≤4000:=by
            simp only [Bool.and_eq_true] at h1
            exact of_decide_eq_true h1.1.2
          have hne:(fg t).cps.toList≠[]:=fun e=>by
            rw [← len_toList,e] at h3
            exact absurd h3 (by decide)
          unfold rd at q2
          rw [if_pos hb] at q2
          by_cases hn:neg t=true
          · have ec:t.cps.toList=45::(fg t).cps.toList:=by
              have hh:t.cps.toList.head?=some 45:=of_decide_eq_true hn
              unfold fg
              rw [if_pos hn]
              cases q3:t.cps.toList with
              | nil=>rw [q3] at hh; cases hh
              | cons x r=>rw [q3] at hh; cases hh; rfl
            have hl:t.length=(fg t).length+1:=by rw [← len_toList,ec,List.length_cons,len_toList]
            refine rintT (n:=rdV t) ?_ ?_ (line20 z) q2
            · intro x hx
              rw [ec] at hx
              rcases List.mem_cons.mp hx with rfl | hx
              · exact .inl rfl
              · exact .inr (figs_all h2 x hx)
            · unfold rdV
              rw [if_pos hn]
              exact PySem.intText_neg ec (figs_all h2) hne (by omega)
          · have ef:fg t=t:=by unfold fg; rw [if_neg hn]
            rw [ef] at h2 hne h4
            refine rintT (n:=rdV t) ?_ ?_ (line20 z) q2
            · exact fun x hx=>.inr (figs_all h2 x hx)
            · unfold rdV
              rw [if_neg hn,ef]
              exact PySem.intText_digits (figs_all h2) hne (by omega)
        by_cases c1:(fg t).cps.toList.head?=some 48
        · rw [decide_eq_true c1] at hd ⊢
          refine iteT ?_
          refine ⟨_,rfl,rfl,_,rfl,?_⟩
          by_cases c2:t=zero
          · rw [decide_eq_true c2] at hd
            refine iteNS (by rw [c2]; rfl) ?_
            exact go (by rw [hd]; rfl)
          · rw [decide_eq_false c2] at hd
            refine iteNE (fun z=>c2 z) ?_
            unfold rd at q2
            rw [hd] at q2
            exact q2
        · rw [decide_eq_false c1] at hd ⊢
          refine iteF ?_
          exact go (by rw [hd]; rfl)
      · have h1:(decide (1≤(fg t).length)&&decide ((fg t).length≤4000)&&figs (fg t))=false:=by simpa using h1
        rw [h1]
        refine iteT ?_
        have:rdB t=false:=by unfold rdB; rw [h1,Bool.false_and]
        unfold rd at q2
        rw [this] at q2
        exact q2
    · refine ⟨_,rfl,rfl,?_⟩
      refine rstarts ?_
      rw [es]
      refine ⟨_,rfl,?_⟩
      by_cases hn:neg t=true
      · rw [hn]
        refine iteT ?_
        have hh:t.cps.toList.head?=some 45:=of_decide_eq_true hn
        have h1:1≤t.length:=by
          rw [← len_toList]
          cases q3:t.cps.toList with
          | nil=>rw [q3] at hh; cases hh
          | cons x r=>simp
        have ef:Txt.slice t (some 1) none=fg t:=str_ext (by
          rw [slice_from (by decide) (by omega)]
          unfold fg
          rw [if_pos hn]
          rfl)
        refine ⟨_,rfl,_,rfl,t,rfl,line20 z,?_⟩
        rw [ef]
        exact ⟨rfl,rfl⟩
      · have ef:fg t=t:=by unfold fg; rw [if_neg hn]
        have hn:neg t=false:=by simpa using hn
        rw [hn]
        refine iteF ?_
        exact ⟨_,rfl,by rw [ef]; rfl,rfl⟩
end
@[irreducible] def sp_shw:Sp:=fun vs H Q _=>∃ n:Int,vs=[.int n]∧n.natAbs<2^8000∧∀ H',Same H H'→Q (.str (tx n)) H'
theorem sp_shw_i {n:Int} {H:Hp} {Q:VK} {E:XK} (z:n.natAbs<2^8000) (q:∀ H',Same H H'→Q (.str (tx n)) H'):sp_shw [.int n] H Q E:=by unfold sp_shw; exact ⟨n,rfl,z,q⟩
def isf:List (Option Int)→Bool
  | [some n,some d]=>decide (1≤d)&&decide (Int.gcd n d=1)
  | _=>false
theorem isf_len {os:List (Option Int)} (h:os.length≠2):isf os=false:=by
  match os,h with
  | [],_=>rfl
  | [a],_=>cases a <;> rfl
  | [a,b],h=>exact absurd rfl h
  | a::b::c::r,_=>cases a <;> cases b <;> rfl
theorem big8 {n:Int} (h:n.natAbs<2^8000):n.natAbs<10^4300:=Nat.lt_of_lt_of_le h (Nat.le_trans (Nat.pow_le_pow_right (by decide) (by decide)) PyProof.Rows.pow_lo)
theorem tx_len {n:Int} (h:n.natAbs<10^4300):(tx n).length≤4301:=by
  unfold tx
  rw [PySem.ofString_length]
  exact int_text_length_le10 (k:=4300) (by decide) h
theorem app_len (a b:Str):(a++b).length=a.length+b.length:=by
  rw [← len_toList,← len_toList,← len_toList,app_cps,List.length_append]
@[irreducible] def sp_isf:Sp:=fun vs H Q _=>∃ (a:Addr) (os:List (Option Int)),vs=[.ref a]∧H a=some (.tup (os.map optV))∧os.length≤20000∧Q (.bl (isf os)) H
theorem sp_isf_i {a:Addr} {os:List (Option Int)} {H:Hp} {Q:VK} {E:XK} (e:H a=some (.tup (os.map optV))) (z:os.length≤20000) (q:Q (.bl (isf os)) H):sp_isf [.ref a] H Q E:=by unfold sp_isf; exact ⟨a,os,rfl,e,z,q⟩
@[irreducible] def sp_shf:Sp:=fun vs H Q _=>∃ (a:Addr) (n d:Int),vs=[.ref a]∧H a=some (.tup [.int n,.int d])∧n.natAbs<2^8000∧d.natAbs<2^8000∧∀ H',Same H H'→Q (.str (if d=1 then tx n else tx n++sl++tx d)) H'
theorem sp_shf_i {a:Addr} {n d:Int} {H:Hp} {Q:VK} {E:XK} (e:H a=some (.tup [.int n,.int d])) (z1:n.natAbs<2^8000) (z2:d.natAbs<2^8000) (q:∀ H',Same H H'→Q (.str (if d=1 then tx n else tx n++sl++tx d)) H'):sp_shf [.ref a] H Q E:=by unfold sp_shf; exact ⟨a,n,d,rfl,e,z1,z2,q⟩
section
variable {P:Program} {w:World} {K:PySem.W.Frag} {mg:Str→Option Value} {base:Heap} {c:Cl}
theorem ok_is_fraction {f:Addr} {fd:FuncData} (F:Fun K "is_fraction" "is_fraction" s_is_fraction f fd) (T:Txt K mg c) (F_is_whole:FnC CX0 P w K mg base 1 "is_whole" ["thing"] sp_whole) (F_common_divisor:FnC CX0 P w K mg base 1 "common_divisor" ["number", "above_nought"] sp_cd):FnOk P w K mg base CX0 2 f fd ["thing"] sp_isf:=by
  refine F.okw sc_is_fraction (fun vs H Q E h=>?_) (fun cdv A outer s H vs Q E hr h=>?_)
  · unfold sp_isf at h
    obtain ⟨t,_,rfl,_⟩:=h
    rfl
  · unfold sp_isf at h
    obtain ⟨a,os,rfl,e,z,q⟩:=h
    have rp:Rep H (.tuple (os.map optD)) (.ref a):=Rep.tup e (by
      clear e q z
      induction os with
      | nil=>exact RepL.nil
      | cons o r ih=>exact RepL.cons (optR o) ih)
    refine ⟨_,(wss_cons (ws_if (wt_w (ww_or (wt_not (wt_val (we_cB cl_isi (by rfl) T.b_isinstance (by decide +kernel) (wa_k (we_v 0) (wa_k (we_bltn (v:=.ty "tuple") (u:=.type "tuple") rfl T.b_tuple (by decide +kernel) rfl) wa_nil))))) (ww_or1 (wt_cmp op_ne (we_cB cl_len (by rfl) T.b_len (by decide +kernel) (wa_k (we_v 0) wa_nil)) we_int (nomark _))))) (wss_one (ws_ret we_bl)) wss_nil)
      (wss_cons (ws_if (wt_w (ww_or (wt_not (wt_val (we_fn F_is_whole (hr.mono (by decide)) (wa_k (we_ix ix_seq (we_v 0) we_int (fun _ _=>rfl)) wa_nil)))) (ww_or1 (wt_not (wt_val (we_fn F_is_whole (hr.mono (by decide)) (wa_k (we_ix ix_seq (we_v 0) we_int (fun _ _=>rfl)) wa_nil))))))) (wss_one (ws_ret we_bl)) wss_nil)
      (wss_one (ws_ret (we_and (we_cmp op_ge (we_ix ix_seq (we_v 0) we_int (fun _ _=>rfl)) we_int (nomark _)) (we_one (we_cmp op_eq (we_fn F_common_divisor (hr.mono (by decide)) (wa_k (we_ix ix_seq (we_v 0) we_int (fun _ _=>rfl)) (wa_k (we_ix ix_seq (we_v 0) we_int (fun _ _=>rfl)) wa_nil))) we_int (nomark _)))))))),?_⟩
    refine ⟨_,rfl,?_⟩
    refine riI rp ?_
    refine ⟨_,rfl,?_⟩
    refine iteF ?_
    refine ⟨_,rfl,?_⟩
    refine rlT e ?_
    refine ⟨rfl,_,rfl,?_⟩
    by_cases hl:os.length=2
    · match os,hl with
      | [o1,o2],_ =>
      refine iteF ?_
      refine ⟨_,rfl,?_⟩
      refine ixT e rfl ?_
      refine sp_whole_i ?_
      refine ⟨_,rfl,?_⟩
      cases o1 with
      | none =>
        refine iteT ?_
        refine iteT ?_
        exact q
      | some n =>
        refine iteF ?_
        refine ⟨_,rfl,?_⟩
        refine ixT e rfl ?_
        refine sp_whole_i ?_
        refine ⟨_,rfl,?_⟩
        cases o2 with
        | none =>
          refine iteT ?_
          exact q
        | some d =>
          refine iteF ?_
          refine ⟨_,rfl,?_⟩
          refine ixT e rfl ?_
          refine ⟨_,_,rfl,rfl,_,rfl,?_⟩
          have eq:isf [some n,some d]=(decide (1≤d)&&decide (Int.gcd n d=1)):=rfl
          rw [eq] at q
          refine iteD (fun h1=>?_) (fun h1=>?_)
          · rw [decide_eq_true h1,Bool.true_and] at q
            refine ⟨_,rfl,?_⟩
            refine ixT e rfl ?_
            refine ⟨_,rfl,?_⟩
            refine ixT e rfl ?_
            refine sp_cd_i (by omega) ?_
            refine ⟨rfl,?_⟩
            have:decide (V.int (Int.gcd n d:Int)=V.int 1)=decide (Int.gcd n d=1):=decide_eq_decide.mpr ⟨fun z=>by injection z with z; omega,fun z=>by rw [z]; rfl⟩
            rw [this]
            exact q
          · rw [decide_eq_false h1,Bool.false_and] at q
            exact q
    · rw [decide_eq_false (fun z=>hl (by injection z with z; rw [List.length_map] at z; omega))]
      refine iteT ?_
      rw [isf_len hl] at q
      exact q
theorem ok_shown_fraction {f:Addr} {fd:FuncData} (F:Fun K "shown_fraction" "shown_fraction" s_shown_fraction f fd) (T:Txt K mg c) (F_shown_whole:FnC CX0 P w K mg base 1 "shown_whole" ["number"] sp_shw):FnOk P w K mg base CX0 2 f fd ["one"] sp_shf:=by
  refine F.okw sc_shown_fraction (fun vs H Q E h=>?_) (fun cdv A outer s H vs Q E hr h=>?_)
  · unfold sp_shf at h
    obtain ⟨t,_,_,rfl,_⟩:=h
    rfl
  · unfold sp_shf at h
    obtain ⟨a,n,d,rfl,e,z1,z2,q⟩:=h
    refine ⟨_,(wss_cons (ws_if (wt_cmp op_eq (we_ix ix_seq (we_v 0) we_int (fun _ _=>rfl)) we_int (nomark _)) (wss_one (ws_ret (we_fn F_shown_whole (hr.mono (by decide)) (wa_k (we_ix ix_seq (we_v 0) we_int (fun _ _=>rfl)) wa_nil)))) wss_nil)
      (wss_one (ws_ret (we_op op_add_str (we_op op_add_str (we_fn F_shown_whole (hr.mono (by decide)) (wa_k (we_ix ix_seq (we_v 0) we_int (fun _ _=>rfl)) wa_nil)) we_str) (we_fn F_shown_whole (hr.mono (by decide)) (wa_k (we_ix ix_seq (we_v 0) we_int (fun _ _=>rfl)) wa_nil)))))),?_⟩
    refine ⟨_,rfl,?_⟩
    refine ixT e rfl ?_
    refine ⟨rfl,_,rfl,?_⟩
    refine iteD (fun h=>?_) (fun h=>?_)
    · have hd:d=1:=by injection h
      rw [if_pos hd] at q
      refine ⟨_,rfl,?_⟩
      refine ixT e rfl ?_
      exact sp_shw_i z1 q
    · have hd:d≠1:=fun x=>h (by rw [x])
      rw [if_neg hd] at q
      refine ⟨_,rfl,?_⟩
      refine ixT e rfl ?_
      refine sp_shw_i z1 fun H1 s1=>?_
      have l1:=tx_len (big8 z1)
      have l2:=tx_len (big8 z2)
      have ls:(Str.ofString "/").length=1:=rfl
      refine ⟨_,_,rfl,rfl,by rw [ls,sizeLine_eq]; omega,?_⟩
      refine ⟨_,rfl,?_⟩
      refine ixT (s1 _ _ e) rfl ?_
      refine sp_shw_i z2 fun H2 s2=>?_
      refine ⟨_,_,rfl,rfl,by rw [app_len,ls,sizeLine_eq]; omega,?_⟩
      exact q H2 (s1.trans s2)
end
def cat (ps:List Str):List Nat:=(ps.reverse.map fun p:Str=>p.cps.toList).flatten
theorem cat_snoc (ps:List Str) (p:Str):cat (ps++[p])=p.cps.toList++cat ps:=by unfold cat; simp
structure Pieces (n:Int) (ps:List Str) (r:Nat):Prop where
  all:AllDigits (cat ps)
  len:(cat ps).length=64*ps.length
  sum:r*10^(64*ps.length)+digitsVal (cat ps)=n.natAbs
  pos:ps=[]∨0<r
theorem Pieces.nil (n:Int):Pieces n [] n.natAbs:=⟨(fun _ h=>by cases h),rfl,(by show n.natAbs*1+0=_; omega),.inl rfl⟩
theorem Pieces.few {n:Int} {ps:List Str} {r:Nat} (h:Pieces n ps r) (z:n.natAbs<2^8000):ps.length≤500:=by
  rcases h.pos with e | hr
  · rw [e]; exact Nat.zero_le _
  · refine Nat.le_of_not_lt fun hl=>?_
    have h1:10^(64*ps.length)≤n.natAbs:=by
      have:=h.sum
      have h2:10^(64*ps.length)≤r*10^(64*ps.length):=Nat.le_mul_of_pos_left _ hr
      omega
    have h3:2^8000≤10^(64*ps.length):=Nat.le_trans (Nat.pow_le_pow_right (by decide) (by omega)) (Nat.pow_le_pow_left (by decide) _)
    exact absurd (Nat.lt_of_lt_of_le z (Nat.le_trans h3 h1)) (Nat.lt_irrefl _)
def pc (r:Nat):Str:=Txt.zfill (tx (r:Int)) 64
theorem dg_short {r:Nat} (h:r<10^64):(dg r).length≤64:=by
  unfold dg
  rw [List.length_map]
  exact PyProof.Rows.digits10_le (by decide) h
theorem pc_cps {r:Nat} (h:r<10^64):(pc r).cps.toList=List.replicate (64 - (dg r).length) 48++dg r:=by
  have hl:(tx (r:Int)).length=(dg r).length:=by rw [← len_toList,tx_nat]
  have hs:=dg_short h
  unfold pc Txt.zfill
  rw [hl]
  by_cases e:(64:Int)≤((dg r).length:Nat)
  · rw [if_pos e,tx_nat,show 64 - (dg r).length=0 by omega]
    rfl
  · rw [if_neg e]
    obtain ⟨c0,r0,e0⟩:∃ c0 r0,dg r=c0::r0:=by
      cases q:dg r with
      | nil=>exact absurd q (dg_ne r)
      | cons x y=>exact ⟨x,y,rfl⟩
    have hc:=dg_all r c0 (by rw [e0]; exact List.mem_cons_self)
    have ht:(tx (r:Int)).cps[0]?=some c0:=by
      have:(tx (r:Int)).cps.toList[0]?=some c0:=by rw [tx_nat,e0]; rfl
      simpa using this
    have ez:zfilled (tx (r:Int)) ((64:Int).toNat - (dg r).length)=Builtin.Str.padded (tx (r:Int)) ((64:Int).toNat - (dg r).length) 0 48:=by
      unfold zfilled
      rw [ht]
      split
      · rename_i q; injection q with q; omega
      · rename_i q; injection q with q; omega
      · rfl
    rw [ez]
    unfold Builtin.Str.padded
    simp only [Array.toList_append,Array.toList_replicate]
    rw [tx_nat]
    simp
theorem Pieces.more {n:Int} {ps:List Str} {r:Nat} (h:Pieces n ps r) (hr:10^64≤r):Pieces n (ps++[pc (r % 10^64)]) (r / 10^64):=by
  have hm:r % 10^64<10^64:=Nat.mod_lt _ (Nat.pow_pos (by decide))
  have hs:=dg_short hm
  have ec:=pc_cps hm
  have el:(pc (r % 10^64)).cps.toList.length=64:=by rw [ec,List.length_append,List.length_replicate]; omega
  refine ⟨?_,?_,?_,.inr (Nat.div_pos hr (Nat.pow_pos (by decide)))⟩
  · rw [cat_snoc,ec]
    intro x hx
    rcases List.mem_append.mp hx with hx | hx
    · rcases List.mem_append.mp hx with hx | hx
      · have:=List.eq_of_mem_replicate hx; omega
      · exact dg_all _ x hx
    · exact h.all x hx
  · rw [cat_snoc,List.length_append,el,h.len,List.length_append,List.length_singleton]; omega
  · rw [cat_snoc,dv_append,ec,dv_zeros,dg_val,h.len,List.length_append,List.length_singleton,← h.sum]
    have e:10^(64*(ps.length+1))=10^64*10^(64*ps.length):=by rw [← Nat.pow_add]; congr 1; omega
    rw [e,← Nat.mul_assoc,← Nat.add_assoc,← Nat.add_mul,Nat.div_add_mod']
theorem Pieces.shown {n:Int} {ps:List Str} {r:Nat} (h:Pieces n ps r) (hr:r<10^64):dg r++cat ps=dg n.natAbs:=by
  have ha:AllDigits (dg r++cat ps):=fun x hx=>by
    rcases List.mem_append.mp hx with hx | hx
    · exact dg_all _ x hx
    · exact h.all x hx
  have hv:digitsVal (dg r++cat ps)=n.natAbs:=by rw [dv_append,dg_val,h.len,h.sum]
  rw [← hv]
  refine (dg_of ha (fun e=>dg_ne r (List.append_eq_nil_iff.mp e).1) ?_).symm
  rcases Nat.eq_zero_or_pos r with e | hp
  · rcases h.pos with e2 | hp
    · subst e e2
      exact .inl (by rw [dg_zero]; rfl)
    · omega
  · obtain ⟨x,y,e,hx⟩:=dg_head hp
    exact .inr ⟨x,y++cat ps,by rw [e]; rfl,hx⟩
theorem flat_le {t:Str}:∀ {l:List Str},t∈l→t.length≤((l.map fun p:Str=>p.cps.toList).flatten).length
  | [],h=>by cases h
  | a::r,h=>by
    rw [List.map_cons,List.flatten_cons,List.length_append,len_toList]
    rcases List.mem_cons.mp h with rfl | h
    · omega
    · have:=flat_le h; omega
theorem fold_le (B:Nat):∀ (l:List Str) (a:Nat),(∀ t∈l,t.length≤B)→l.foldl (fun x y=>x+y.length+0) a≤a+l.length*B
  | [],a,_=>by simp
  | x::r,a,h=>by
    have h1:=h x List.mem_cons_self
    have h2:=fold_le B r (a+x.length+0) (fun t ht=>h t (List.mem_cons_of_mem _ ht))
    rw [List.foldl_cons,List.length_cons,Nat.succ_mul]
    omega
theorem joinOk {ts:List Str} (h:ts.length≤502) (hb:∀ t∈ts,t.length≤5000):JoinOk (Str.ofString "") ts=true:=by
  unfold JoinOk
  have e:ts.toArray.foldl (· + ·.length+(Str.ofString "").length) 0=ts.foldl (fun x y=>x+y.length+0) 0:=by
    rw [List.foldl_toArray]
    rfl
  have h1:=fold_le 5000 ts 0 hb
  have h2:ts.length*5000≤502*5000:=Nat.mul_le_mul_right _ h
  rw [e]
  unfold Builtin.Str.tooLong
  generalize List.foldl (fun x y=>x+y.length+0) 0 ts=m at h1
  rw [sizeLine_eq,decide_eq_false (by omega)]
  rfl
theorem hP:(10:Int)^(64:Int).toNat=((10^64:Nat):Int):=by decide
theorem join_cps:∀ ts:List Str,(Txt.join (Str.ofString "") ts).cps.toList=(ts.map fun p:Str=>p.cps.toList).flatten:=by
  intro ts
  unfold Txt.join
  rw [StrLaws.glued_eq_join]
  induction ts with
  | nil=>rfl
  | cons a r ih =>
    cases r with
    | nil=>show a.cps.toList=_; simp
    | cons b r =>
      show (a++Str.ofString "" ++ Str.join (Str.ofString "") (b::r)).cps.toList=_
      rw [app_cps,app_cps,ih]
      show a.cps.toList++[]++_=_
      simp
section
variable {P:Program} {w:World} {K:PySem.W.Frag} {mg:Str→Option Value} {base:Heap} {c:Cl}
set_option maxHeartbeats 4000000 in
theorem ok_shown_whole {f:Addr} {fd:FuncData} (F:Fun K "shown_whole" "shown_whole" s_shown_whole f fd) (T:Txt K mg c):FnOk P w K mg base CX0 1 f fd ["number"] sp_shw:=by
  refine F.okw sc_shown_whole (fun vs H Q E h=>?_) (fun cdv A outer s H vs Q E hr h=>?_)
  · unfold sp_shw at h
    obtain ⟨n,rfl,_⟩:=h
    rfl
  · unfold sp_shw at h
    obtain ⟨n,rfl,z,q⟩:=h
    refine ⟨_,(wss_cons (ws_set (i:=1) sc_shown_whole.nd rfl (Or.inl rfl) (we_op op_pow we_int we_int))
      (wss_cons (ws_set (i:=2) sc_shown_whole.nd rfl (Or.inl rfl) (we_cB cl_abs (by rfl) T.b_abs (by decide +kernel) (wa_k (we_v 0) wa_nil)))
      (wss_cons (ws_set (i:=3) sc_shown_whole.nd rfl (Or.inl rfl) (we_lst wa_nil))
      (wss_cons (ws_while PassesOwn.never (wt_cmp op_ge (we_v 2) (we_v 1) (nomark _)) (wss_cons (ws_expr (we_bm PySem.F.plainAttrs_list PySem.F.slot_list_append PySem.F.type_list_append mt_app (we_v 3) (wa_k (we_bm PySem.F.plainAttrs_str PySem.F.slot_str_zfill PySem.F.type_str_zfill mt_zfill (we_cT (cl_strI rfl T.nd) (by rfl) T.b_str (by decide +kernel) (wa_k (we_op op_mod (we_v 2) (we_v 1)) wa_nil)) (wa_k (we_glob (v:=.int 64) rfl T.g_PIECE_FIGURES ⟨_,rfl⟩) wa_nil)) wa_nil)))
      (wss_one (ws_set (i:=2) sc_shown_whole.nd rfl (Or.inl rfl) (we_op op_fdivB (we_v 2) (we_v 1))))))
      (wss_cons (ws_expr (we_bm PySem.F.plainAttrs_list PySem.F.slot_list_append PySem.F.type_list_append mt_app (we_v 3) (wa_k (we_cT (cl_strI rfl T.nd) (by rfl) T.b_str (by decide +kernel) (wa_k (we_v 2) wa_nil)) wa_nil)))
      (wss_cons (ws_cut (ws_if (wt_cmp op_lt (we_v 0) we_int (nomark _)) (wss_one (ws_expr (we_bm PySem.F.plainAttrs_list PySem.F.slot_list_append PySem.F.type_list_append mt_app (we_v 3) (wa_k we_str wa_nil)))) wss_nil))
      (wss_one (ws_ret (we_joinRev rfl we_str rfl T.b_reversed (wa_k (we_v 3) wa_nil)))))))))),?_⟩
    refine ⟨_,_,rfl,rfl,⟨by decide,by decide,by decide⟩,?_⟩
    refine ⟨_,rfl,?_⟩
    refine raI ?_
    refine nwL (by show 0≤64; decide) fun L H1 hL e1 s1=>?_
    refine while_r (fun m σ H'=>∃ (ps:List Str) (r:Nat),σ=[some (.int n),some (.int (10^(64:Int).toNat)),some (.int (r:Int)),some (.ref L)]∧Pieces n ps r∧H' L=some (.lst (ps.map V.str))∧Same H H'∧m=r)
      (fun σ H'=>∃ (ps:List Str) (r:Nat),σ=[some (.int n),some (.int (10^(64:Int).toNat)),some (.int (r:Int)),some (.ref L)]∧Pieces n ps r∧H' L=some (.lst (ps.map V.str))∧Same H H'∧r<10^64)
      _ ⟨[],n.natAbs,rfl,Pieces.nil n,e1,s1,rfl⟩ ?_ ?_
    · rintro m σ H2 ⟨ps,r,rfl,pz,e2,s2,rfl⟩
      refine ⟨_,rfl,_,rfl,_,_,rfl,rfl,_,rfl,?_⟩
      refine iteD (fun h=>?_) (fun h=>?_)
      · have hr:10^64≤m:=by rw [hP] at h; omega
        have hm:m % 10^64<10^64:=Nat.mod_lt _ (Nat.pow_pos (by decide))
        have hp:(0:Int)<10^(64:Int).toNat:=by decide
        refine ⟨_,rfl,tyL e2,?_⟩
        refine ⟨_,rfl,_,rfl,_,_,rfl,rfl,hp,?_⟩
        have em:(m:Int) % 10^(64:Int).toNat=((m % 10^64:Nat):Int):=by rw [hP]; rfl
        have ed:(m:Int) / 10^(64:Int).toNat=((m / 10^64:Nat):Int):=by rw [hP]; rfl
        refine rstrI (by
          rw [em,Int.natAbs_natCast]
          exact Nat.lt_of_lt_of_le hm (Nat.pow_le_pow_right (by decide) (by decide))) ?_
        refine ⟨rfl,?_⟩
        refine rzfill (by decide +kernel) ?_
        refine appL e2 (by rw [List.length_map]; have:=pz.few z; omega) fun H3 e3 s3=>?_
        refine ⟨_,rfl,_,rfl,_,_,rfl,rfl,⟨hp,by decide +kernel⟩,?_⟩
        rw [em] at e3
        refine ⟨m / 10^64,Nat.div_lt_self (Nat.lt_of_lt_of_le (Nat.pow_pos (by decide)) hr) (by decide),ps++[pc (m % 10^64)],m / 10^64,by rw [← ed]; rfl,pz.more hr,?_,Same.thru hL s2 s3,rfl⟩
        rw [List.map_append]
        exact e3
      · exact ⟨ps,m,rfl,pz,e2,s2,by rw [hP] at h; omega⟩
    · rintro σ H2 ⟨ps,r,rfl,pz,e2,s2,hr⟩
      refine ⟨_,rfl,tyL e2,?_⟩
      refine ⟨_,rfl,?_⟩
      refine rstrI (by
          rw [Int.natAbs_natCast]
          exact Nat.lt_of_lt_of_le hr (Nat.pow_le_pow_right (by decide) (by decide))) ?_
      have hf:=pz.few z
      refine appL e2 (by rw [List.length_map]; omega) fun H3 e3 s3=>?_
      have e3:H3 L=some (.lst ((ps++[tx (r:Int)]).map V.str)):=by rw [List.map_append]; exact e3
      have s3:=Same.thru hL s2 s3
      refine ⟨fun σ H'=>σ=[some (.int n),some (.int (10^(64:Int).toNat)),some (.int (r:Int)),some (.ref L)]∧∃ ts:List Str,H' L=some (.lst (ts.map V.str))∧ts.length≤502∧(∀ t∈ts,t.length≤5000)∧(ts.reverse.map fun p:Str=>p.cps.toList).flatten=(tx n).cps.toList∧Same H H',?_,?_⟩
      · rintro σ H4 ⟨rfl,ts,e4,hl,hb,et,s4⟩
        refine ⟨_,rfl,?_⟩
        refine ⟨_,rfl,L,ts,rfl,e4,?_,?_⟩
        · exact joinOk (by simpa using hl) fun t ht=>hb t (List.mem_reverse.mp ht)
        · have:Txt.join (Str.ofString "") ts.reverse=tx n:=str_ext (by rw [join_cps]; exact et)
          rw [this]
          exact q H4 s4
      · have hcat:((ps++[tx (r:Int)]).reverse.map fun p:Str=>p.cps.toList).flatten=dg n.natAbs:=by
          have:=pz.shown hr
          rw [← this]
          show cat (ps++[tx (r:Int)])=_
          rw [cat_snoc,tx_nat]
        have hbt:∀ t∈ps++[tx (r:Int)],t.length≤5000:=by
          intro t ht
          have h1:t.length≤(((ps++[tx (r:Int)]).reverse.map fun p:Str=>p.cps.toList).flatten).length:=by
            refine flat_le ?_
            exact List.mem_reverse.mpr ht
          rw [hcat] at h1
          have h2:(dg n.natAbs).length≤4301:=by
            have:=tx_len (big8 (n:=(n.natAbs:Int)) (by rw [Int.natAbs_natCast]; exact z))
            rw [← len_toList,tx_nat] at this
            exact this
          omega
        refine ⟨_,rfl,_,_,rfl,rfl,_,rfl,?_⟩
        refine iteD (fun h=>?_) (fun h=>?_)
        · refine ⟨_,rfl,tyL e3,?_⟩
          refine appL e3 (by rw [List.length_map,List.length_append,List.length_singleton]; omega) fun H4 e4 s4=>?_
          obtain ⟨k,hk⟩:∃ k:Nat,n=-((k+1:Nat):Int):=⟨(-n - 1).toNat,by omega⟩
          refine ⟨rfl,ps++[tx (r:Int)]++[Str.ofString "-"],by rw [List.map_append]; exact e4,by simp; omega,?_,?_,Same.thru hL s3 s4⟩
          · intro t ht
            rcases List.mem_append.mp ht with ht | ht
            · exact hbt t ht
            · rw [List.mem_singleton.mp ht]; decide
          · rw [List.reverse_append,List.map_append,List.flatten_append,hcat,hk,tx_neg]
            have:(-((k+1:Nat):Int)).natAbs=k+1:=by omega
            rw [this]
            rfl
        · refine ⟨rfl,ps++[tx (r:Int)],e3,by simp; omega,hbt,?_,s3⟩
          rw [hcat]
          obtain ⟨k,hk⟩:=Int.eq_ofNat_of_zero_le (show 0≤n by omega)
          rw [hk,Int.natAbs_natCast,tx_nat]
end
def rdF:List (Option Int)→Option Fr
  | [some n]=>some (n,1)
  | [some n,some d]=>if (!decide (d=1)&&isf [some n,some d])=true then some (n,d) else none
  | _=>none
def words (t:Str):List Str:=Txt.split t sl
def rdT (t:Str):Option Fr:=rdF ((words t).map rd)
@[irreducible] def sp_readf (C:Addr):Sp:=fun vs H Q E=>∃ t,vs=[.str t]∧t.length≤10000∧(rdT t=none→∀ H',Same H H'→E (.ref C) none H')∧(∀ g,rdT t=some g→∀ a H',H' a=some (.tup [.int g.1,.int g.2])→Same H H'→Q (.ref a) H')
theorem sp_readf_i {C:Addr} {t:Str} {H:Hp} {Q:VK} {E:XK} (z:t.length≤10000) (e:rdT t=none→∀ H',Same H H'→E (.ref C) none H') (q:∀ g,rdT t=some g→∀ a H',H' a=some (.tup [.int g.1,.int g.2])→Same H H'→Q (.ref a) H'):sp_readf C [.str t] H Q E:=by
  unfold sp_readf; exact ⟨t,rfl,z,e,q⟩
theorem words_len (t:Str):(words t).length≤t.length+2:=PyProof.Rows.split_le t sl
theorem opts_of {ws:List Str} {ys:List V} (hl:ys.length=ws.length) (h:∀ (i:Nat) (y:V),ys[i]?=some y→∃ u,ws[i]?=some u∧y=optV (rd u)):ys=(ws.map rd).map optV:=by
  refine List.ext_getElem? fun i=>?_
  rw [List.getElem?_map,List.getElem?_map]
  cases q:ys[i]? with
  | none =>
    have:ws[i]?=none:=by
      rw [List.getElem?_eq_none_iff] at q ⊢
      omega
    rw [this]; rfl
  | some y =>
    obtain ⟨u,h1,h2⟩:=h i y q
    rw [h1,h2]; rfl
section
variable {P:Program} {w:World} {K:PySem.W.Frag} {mg:Str→Option Value} {base:Heap} {c:Cl}
set_option maxHeartbeats 4000000 in
theorem ok_read_fraction {f:Addr} {fd:FuncData} (F:Fun K "read_fraction" "read_fraction" s_read_fraction f fd) (T:Txt K mg c) (F_read_whole:FnC CX0 P w K mg base 2 "read_whole" ["text"] sp_readw) (F_is_fraction:FnC CX0 P w K mg base 2 "is_fraction" ["thing"] sp_isf) :
    FnOk P w K mg base (CX1 P w) 3 f fd ["text"] (sp_readf c.NoFraction):=by
  refine F.okx sc_read_fraction (fun vs H Q E h=>?_) (fun cdv A outer s H vs Q E hr h hx hmd=>?_)
  · unfold sp_readf at h
    obtain ⟨n,rfl,_⟩:=h
    rfl
  · unfold sp_readf at h
    obtain ⟨t,rfl,z,he,q⟩:=h
    have hw:=words_len t
    have hbl:∀ u∈words t,u.length≤20000:=fun u hu=>Nat.le_trans (part_len hu) (by omega)
    refine ⟨_,(wss_cons (ws_setComp (i:=1) (CScope.of (psc:=defScope s_read_fraction) (N:=["text", "numbers", "read"]) (N':=["part"]) (js:=[]) (by decide +kernel) rfl rfl rfl) sc_read_fraction.nd rfl rfl (wi_list (we_bm PySem.F.plainAttrs_str PySem.F.slot_str_split PySem.F.type_str_split mt_split (we_v 0) (wa_k we_str wa_nil))) (fun _ _ _ _=>wts_nil) (fun _ _ _ _=>(we_fn F_read_whole (hr.mono (by decide)) (wa_k (we_v 0) wa_nil))))
      (wss_cons (ws_cut (ws_if (wt_cmp op_eq (we_cB cl_len (by rfl) T.b_len (by decide +kernel) (wa_k (we_v 1) wa_nil)) we_int (nomark _)) (wss_one (ws_expr (we_bm PySem.F.plainAttrs_list PySem.F.slot_list_append PySem.F.type_list_append mt_app (we_v 1) (wa_k we_int wa_nil)))) (wss_one (ws_if (wt_cmp op_eq (we_ix ix_seq (we_v 1) we_int (fun _ _=>rfl)) we_int (nomark _)) (wss_one (ws_raise T.x_NoFraction T.g_NoFraction rfl hmd (wa_k we_str wa_nil))) wss_nil))))
      (wss_cons (ws_set (i:=2) sc_read_fraction.nd rfl (Or.inl rfl) (we_cT call_tuple_of (by rfl) T.b_tuple (by decide +kernel) (wa_k (we_v 1) wa_nil)))
      (wss_cons (ws_if (wt_not (wt_val (we_fn F_is_fraction (hr.mono (by decide)) (wa_k (we_v 2) wa_nil)))) (wss_one (ws_raise T.x_NoFraction T.g_NoFraction rfl hmd (wa_k we_str wa_nil))) wss_nil)
      (wss_one (ws_ret (we_v 2))))))),?_⟩
    refine ⟨_,rfl,rfl,?_⟩
    refine rsplit (by decide) (line20 (by omega)) (line20 (show (words t).length≤20000 by omega)) fun p1 H1 hp1 e1 s1=>?_
    have e1:H1 p1=some (.lst ((words t).map V.str)):=e1
    refine ⟨p1,rfl,⟨_,SqL.of e1⟩,?_⟩
    refine comp_map (xs:=(words t).map V.str) (fun i y=>∃ u,(words t)[i]?=some u∧y=optV (rd u)) (by rw [List.length_map]; omega) (SqL.of e1) ?_ ?_
    · intro i x H' Q' hx s' k
      rw [List.getElem?_map] at hx
      cases q3:(words t)[i]? with
      | none=>rw [q3] at hx; cases hx
      | some u =>
        rw [q3] at hx
        cases hx
        refine ⟨_,rfl,?_⟩
        exact sp_readw_i (hbl u (List.mem_of_getElem? q3)) fun H5 s5=>k _ H5 s5 ⟨u,q3,rfl⟩
    · intro D ys H2 hD e2 s2 hl hy
      have ey:=opts_of (by rw [hl,List.length_map]) hy
      subst ey
      have S2:=s1.trans s2
      generalize ho:(words t).map rd=os at e2
      have hos:rdT t=rdF os:=by unfold rdT; rw [ho]
      have hlo:os.length=(words t).length:=by rw [← ho,List.length_map]
      have hne:os≠[]:=fun e=>by
        rw [e] at hlo
        exact split_ne t (List.length_eq_zero_iff.mp hlo.symm)
      refine ⟨fun σ H'=>∃ os2:List (Option Int),σ=[some (.str t),some (.ref D),none]∧H' D=some (.lst (os2.map optV))∧Same H H'∧os2.length≤10010∧(isf os2=true→∃ n d,os2=[some n,some d]∧rdT t=some (n,d))∧(isf os2=false→rdT t=none),?_,?_⟩
      · rintro σ H3 ⟨os2,rfl,e3,s3,hl3,h1,h2⟩
        refine ⟨_,rfl,D,_,rfl,.inl ⟨SqL.of e3,fun l hl=>?_⟩⟩
        have e4:=upd_same (H:=H3) (a:=l) (o:=.tup (os2.map optV))
        have s4:=Same.upd (o:=.tup (os2.map optV)) hl
        generalize upd H3 l (.tup (os2.map optV))=H4 at e4 s4 ⊢
        refine ⟨_,rfl,?_⟩
        refine sp_isf_i e4 (by omega) ?_
        refine ⟨_,rfl,?_⟩
        cases hi:isf os2 with
        | true =>
          obtain ⟨n,d,eo,er⟩:=h1 hi
          refine iteF ?_
          refine ⟨_,rfl,?_⟩
          rw [eo] at e4
          exact q _ er l H4 e4 (s3.trans s4)
        | false =>
          refine iteT ?_
          exact ⟨by decide,he (h2 hi) H4 (s3.trans s4)⟩
      · refine ⟨_,rfl,?_⟩
        refine rlL e2 ?_
        refine ⟨rfl,_,rfl,?_⟩
        rw [List.length_map]
        match os,hne with
        | [o],_ =>
          refine iteT ?_
          refine ⟨_,rfl,tyL e2,?_⟩
          refine appL e2 (by simp) fun H3 e3 s3=>?_
          refine ⟨[o,some 1],rfl,e3,s1.trans (Same.thru hD s2 s3),by simp,?_,?_⟩
          · intro hi
            cases o with
            | none=>cases hi
            | some n=>exact ⟨n,1,rfl,by rw [hos]; rfl⟩
          · intro hi
            cases o with
            | none=>rw [hos]; rfl
            | some n =>
              have:isf [some n,some 1]=true:=by
                show (decide ((1:Int)≤1)&&decide (Int.gcd n 1=1))=true
                rw [Int.gcd_one_right]
                rfl
              rw [this] at hi
              cases hi
        | o1::o2::r,_ =>
          have hn1:¬ ((o1::o2::r).length:Int)=1:=by simp; omega
          rw [decide_eq_false (fun x=>hn1 (by injection x))]
          refine iteF ?_
          refine ⟨_,rfl,?_⟩
          refine ixL e2 (v:=optV o2) (atI_nat (j:=1) rfl) ?_
          have fin:o2≠some 1→∃ os2:List (Option Int),[some (V.str t),some (V.ref D),none]=[some (.str t),some (.ref D),none]∧H2 D=some (.lst (os2.map optV))∧Same H H2∧os2.length≤10010∧(isf os2=true→∃ n d,os2=[some n,some d]∧rdT t=some (n,d))∧(isf os2=false→rdT t=none):=by
            intro h2
            refine ⟨o1::o2::r,rfl,e2,S2,by rw [hlo]; omega,?_,?_⟩
            · intro hi
              cases o1 with
              | none=>cases hi
              | some n =>
                cases o2 with
                | none=>cases hi
                | some d =>
                  cases r with
                  | cons _ _=>cases hi
                  | nil =>
                    refine ⟨n,d,rfl,?_⟩
                    rw [hos]
                    show (if (!decide (d=1)&&isf [some n,some d])=true then some (n,d) else none)=_
                    rw [hi,decide_eq_false (fun x=>h2 (by rw [x]))]
                    rfl
            · intro hi
              rw [hos]
              cases o1 with
              | none=>cases r <;> rfl
              | some n =>
                cases o2 with
                | none=>cases r <;> rfl
                | some d =>
                  cases r with
                  | cons _ _=>rfl
                  | nil =>
                    show (if (!decide (d=1)&&isf [some n,some d])=true then some (n,d) else none)=_
                    rw [hi,Bool.and_false]
                    rfl
          have bad:o2=some 1→rdT t=none:=by
            intro h2
            rw [hos,h2]
            cases o1 with
            | none=>cases r <;> rfl
            | some n =>
              cases r with
              | cons _ _=>rfl
              | nil=>rfl
          cases o2 with
          | none =>
            refine ⟨rfl,_,rfl,?_⟩
            refine iteF ?_
            exact fin (by simp)
          | some d =>
            refine ⟨rfl,_,rfl,?_⟩
            refine iteD (fun h=>?_) (fun h=>?_)
            · have hd:d=1:=by injection h
              exact ⟨by decide,he (bad (by rw [hd])) H2 S2⟩
            · exact fin (fun x=>h (by injection x with x; rw [x]; rfl))
end
end Kw
set_option Elab.async false
set_option linter.all false
set_option maxRecDepth 100000
namespace L2
open PySem PySem.Spec PyProof.Rows
section
variable {X:Cx} {pins:List (Addr × Obj)} {σ:St} {H:Hp} {s:Shared} {scope:Scope} {xs:List Str} {N':List Str} {js:List Nat} {fp:List Addr}
end
section
variable {X:Cx} {pins:List (Addr × Obj)} {σ:St} {H:Hp} {s:Shared} {scope:Scope} {xs:List Str} {N':List Str} {js:List Nat} {fp:List Addr} {elt iter:Expr} {px pos:Pos} {tg:Expr} {ifs:List Expr} {tc:TT} {te:TE}
end
section
variable {X:Cx} {scope:Scope} {x1 x2 x3 y:Str} {N':List Str} {js:List Nat} {elt iter tg:Expr} {ifs:List Expr} {py pos spos:Pos} {tc:TT} {te:TE} {wi:TI} {i:Nat}
end
section
variable {js:List Nat} {te:TE} {tc:TT} {σ:St} {H:Hp} {Q:VK}
end
end L2
set_option Elab.async false
set_option linter.all false
set_option maxRecDepth 100000
namespace L2
open PySem
section
variable {js:List Nat} {te:TE} {σ:St} {H:Hp} {Q:VK}
end
end L2
set_option Elab.async false
set_option linter.all false
set_option maxRecDepth 100000
namespace L2
open PySem
section
variable {X:Cx} {scope:Scope} {x1 x2 x3 y:Str} {N':List Str} {js:List Nat} {elt iter tg:Expr} {ifs:List Expr} {py pos spos:Pos} {tc:TT} {te:TE} {wi wj:TI} {i:Nat}
def iOr (wi wj:TI):TI:=fun σ H R=>wi σ H R∨wj σ H R
theorem wi_or (h1:PIw X tg iter wi) (h2:PIw X tg iter wj):PIw X tg iter (iOr wi wj):=⟨fun pins s σ H R I h=>h.elim (h1.p pins s σ H R I) (h2.p pins s σ H R I)⟩
end
end L2
set_option Elab.async false
set_option linter.all false
set_option maxRecDepth 100000
namespace Kw
open PySem L2 Mf Mt
def bk:Str:=Str.ofString " "
theorem bk_cps:bk.cps.toList=[32]:=by decide +kernel
theorem cutB:∀ {p a s b:List Nat},32 ∉ p→32 ∉ a→p++32::s=a++32::b→p=a∧s=b
  | [],[],_,_,_,_,e=>by injection e with _ e; exact ⟨rfl,e⟩
  | [],x::a,_,_,_,ha,e=>by injection e with e _; exact absurd (by rw [e]; exact List.mem_cons_self) ha
  | y::p,[],_,_,hp,_,e=>by injection e with e _; exact absurd (by rw [← e]; exact List.mem_cons_self) hp
  | y::p,x::a,s,b,hp,ha,e=>by
    injection e with e1 e2
    obtain ⟨h1,h2⟩:=cutB (fun z=>hp (List.mem_cons_of_mem _ z)) (fun z=>ha (List.mem_cons_of_mem _ z)) e2
    exact ⟨by rw [e1,h1],h2⟩
theorem joinB (p q:Str) (r:List Str):(Str.join bk (p::q::r)).cps.toList=p.cps.toList++32::(Str.join bk (q::r)).cps.toList:=by
  show (p++bk++Str.join bk (q::r)).cps.toList=_
  rw [app_cps,app_cps,bk_cps]
  simp
theorem join_inj:∀ {a b:List Str},a≠[]→b≠[]→(∀ p∈a,32 ∉ p.cps.toList)→(∀ p∈b,32 ∉ p.cps.toList)→(Str.join bk a).cps.toList=(Str.join bk b).cps.toList→a=b
  | [],_,h,_,_,_,_=>absurd rfl h
  | _,[],_,h,_,_,_=>absurd rfl h
  | [x],[y],_,_,_,_,e=>by rw [str_ext (show x.cps.toList=y.cps.toList from e)]
  | [x],y::z::r,_,_,ha,_,e=>by
    rw [joinB] at e
    exact absurd (show 32∈x.cps.toList by rw [show x.cps.toList=_ from e]; simp) (ha x (by simp))
  | x::u::r,[y],_,_,_,hb,e=>by
    rw [joinB] at e
    exact absurd (show 32∈y.cps.toList by rw [show y.cps.toList=_ from e.symm]; simp) (hb y (by simp))
  | x::u::r,y::z::t,_,_,ha,hb,e=>by
    rw [joinB,joinB] at e
    obtain ⟨e1,e2⟩:=cutB (ha x (by simp)) (hb y (by simp)) e
    rw [str_ext e1,join_inj (a:=u::r) (b:=z::t) (by simp) (by simp) (fun p hp=>ha p (List.mem_cons_of_mem _ hp)) (fun p hp=>hb p (List.mem_cons_of_mem _ hp)) e2]
theorem join_is (ts:List Str):Txt.join bk ts=Str.join bk ts:=by unfold Txt.join; rw [StrLaws.glued_eq_join]
theorem split_back {ts:List Str} (hn:ts≠[]) (hf:∀ p∈ts,32 ∉ p.cps.toList):Txt.split (Txt.join bk ts) bk=ts:=by
  rw [join_is]
  refine join_inj ?_ hn ?_ hf ?_
  · intro h
    have:=PyProof.Rows.split_pos (Str.join bk ts) bk
    rw [h] at this
    exact absurd this (by decide)
  · have e:bk=⟨#[32]⟩:=str_ext bk_cps
    rw [e]
    exact StrLaws.split_free _ 32
  · rw [StrLaws.join_split]
def TT (f:Fr):Str:=if f.2=1 then tx f.1 else tx f.1++sl++tx f.2
theorem tx_blank {n:Int} (x:Nat) (hx:x<45):x ∉ (tx n).cps.toList:=by
  intro h
  rcases Int.lt_or_le n 0 with hn | hn
  · obtain ⟨m,rfl⟩:∃ m:Nat,n=-((m+1:Nat):Int):=⟨(-n - 1).toNat,by omega⟩
    rw [tx_neg] at h
    rcases List.mem_cons.mp h with h | h
    · omega
    · have:=dg_all _ x h; omega
  · obtain ⟨m,rfl⟩:=Int.eq_ofNat_of_zero_le hn
    rw [tx_nat] at h
    have:=dg_all _ x h
    omega
theorem TT_free (f:Fr):32 ∉ (TT f).cps.toList:=by
  unfold TT
  split
  · exact tx_blank 32 (by decide)
  · rw [app_cps,app_cps]
    intro h
    rcases List.mem_append.mp h with h | h
    · rcases List.mem_append.mp h with h | h
      · exact tx_blank 32 (by decide) h
      · exact absurd h (by decide)
    · exact tx_blank 32 (by decide) h
theorem sumlen {B:Nat}:∀ {ts:List Str},(∀ t∈ts,t.length≤B)→(ts.map (·.length)).sum≤B*ts.length
  | [],_=>by simp
  | t::ts,h=>by
    have h1:=sumlen fun u hu=>h u (List.mem_cons_of_mem _ hu)
    have h2:=h t (by simp)
    rw [List.map_cons,List.sum_cons,List.length_cons,Nat.mul_add]; omega
theorem join_len:∀ (ts:List Str),(Str.join bk ts).length≤(ts.map (·.length)).sum+ts.length
  | []=>by decide
  | [x]=>by show x.length≤_; simp
  | x::y::r=>by
    have ih:=join_len (y::r)
    rw [← len_toList,joinB,List.length_append,List.length_cons,len_toList,len_toList]
    rw [List.map_cons,List.sum_cons,List.length_cons]
    omega
theorem tx_lenG {n:Int} (h:n.natAbs<10^50):(tx n).length≤51:=by
  unfold tx
  rw [PySem.ofString_length]
  exact Nat.le_trans (int_text_length_le10 (k:=50) (by decide) h) (by decide)
structure FrT (f:Fr):Prop where
  low:LowF f
  n:f.1.natAbs<10^50
  d:f.2.natAbs<10^50
theorem TT_len {f:Fr} (h:FrT f):(TT f).length≤103:=by
  have a1:=tx_lenG h.n
  have a2:=tx_lenG h.d
  have e:sl.length=1:=rfl
  unfold TT
  split
  · omega
  · rw [app_len,app_len,e]; omega
theorem TT_read {f:Fr} (h:FrT f):rdT (TT f)=some f:=by
  have a1:=tx_lenG h.n
  have a2:=tx_lenG h.d
  have l:=h.low
  obtain ⟨n,d⟩:=f
  have hp:0<d:=l.pos
  have hg:Int.gcd n d=1:=l.low
  unfold rdT words TT
  dsimp only at a1 a2 ⊢
  by_cases h:d=1
  · rw [if_pos h,split_one (tx_free n)]
    show rdF [rd (tx n)]=_
    rw [rd_tx (by omega),h]
    rfl
  · rw [if_neg h,split_two (tx_free n) (tx_free d)]
    show rdF [rd (tx n),rd (tx d)]=_
    rw [rd_tx (by omega),rd_tx (by omega)]
    show (if (!decide (d=1)&&(decide (1≤d)&&decide (Int.gcd n d=1)))=true then some (n,d) else none)=_
    rw [decide_eq_false h,decide_eq_true (show 1≤d by omega),decide_eq_true hg]
    rfl
def wOn:Str:=Str.ofString "on"
def wSay:Str:=Str.ofString "say"
def wRule:Str:=Str.ofString "rule"
def wdE (e:Ent):List Str:=wOn::(e.1.map tx++wSay::e.2.map TT)
def wdH (F W:Nat):List Str:=[wRule,tx (F:Int),tx (W:Int)]
def lnE (e:Ent):Str:=Txt.join bk (wdE e)
def lnR (F W:Nat) (es:List Ent):List Str:=Txt.join bk (wdH F W)::es.map lnE
structure EnT (F W:Nat) (e:Ent):Prop where
  c:e.1.length=F
  s:e.2.length=1+W
  n:∀ x∈e.1,0≤x∧x.natAbs<10^50
  f:∀ f∈e.2,FrT f
theorem wdE_free (e:Ent):∀ p∈wdE e,32 ∉ p.cps.toList:=fun p hp=>by
  rcases List.mem_cons.mp hp with rfl | hp
  · decide +kernel
  rcases List.mem_append.mp hp with hp | hp
  · obtain ⟨x,_,rfl⟩:=List.mem_map.mp hp
    exact tx_blank 32 (by decide)
  rcases List.mem_cons.mp hp with rfl | hp
  · decide +kernel
  · obtain ⟨x,_,rfl⟩:=List.mem_map.mp hp
    exact TT_free x
theorem wdH_free (F W:Nat):∀ p∈wdH F W,32 ∉ p.cps.toList:=fun p hp=>by
  simp only [wdH,List.mem_cons,List.not_mem_nil,or_false] at hp
  rcases hp with rfl | rfl | rfl
  · decide +kernel
  · exact tx_blank 32 (by decide)
  · exact tx_blank 32 (by decide)
theorem wdE_len {F W:Nat} {e:Ent} (h:EnT F W e) (f4:F≤4) (w4:W≤4):(wdE e).length≤11∧∀ p∈wdE e,p.length≤103:=by
  have h1:=h.c
  have h2:=h.s
  refine ⟨by unfold wdE; simp only [List.length_cons,List.length_append,List.length_map]; omega,fun p hp=>?_⟩
  rcases List.mem_cons.mp hp with rfl | hp
  · decide +kernel
  rcases List.mem_append.mp hp with hp | hp
  · obtain ⟨x,hx,rfl⟩:=List.mem_map.mp hp
    have:=tx_lenG (h.n x hx).2
    omega
  rcases List.mem_cons.mp hp with rfl | hp
  · decide +kernel
  · obtain ⟨x,hx,rfl⟩:=List.mem_map.mp hp
    exact TT_len (h.f x hx)
theorem wdH_len {F W:Nat} (f4:F≤4) (w4:W≤4):(wdH F W).length≤11∧∀ p∈wdH F W,p.length≤103:=by
  refine ⟨by show 3≤11; decide,fun p hp=>?_⟩
  simp only [wdH,List.mem_cons,List.not_mem_nil,or_false] at hp
  rcases hp with rfl | rfl | rfl
  · decide +kernel
  · have:=tx_lenG (n:=(F:Int)) (Nat.lt_of_le_of_lt (show (F:Int).natAbs≤4 by omega) (by decide))
    omega
  · have:=tx_lenG (n:=(W:Int)) (Nat.lt_of_le_of_lt (show (W:Int).natAbs≤4 by omega) (by decide))
    omega
theorem join_ok {ts:List Str} (h1:ts.length≤11) (h2:∀ p∈ts,p.length≤103):(ts.map (·.length)).sum+ts.length*bk.length≤16777216:=by
  have h3:=sumlen h2
  have e:bk.length=1:=by decide +kernel
  rw [e]; omega
theorem line_len {ts:List Str} (h1:ts.length≤11) (h2:∀ p∈ts,p.length≤103):(Txt.join bk ts).length≤1200:=by
  rw [join_is]
  have h3:=sumlen h2
  have:=join_len ts
  omega
end Kw
set_option Elab.async false
set_option linter.all false
set_option maxRecDepth 100000
namespace Kw
open PySem L2 Mf Mt
abbrev s_shown_counts:Stmt:=(top 18)
theorem sc_shown_counts:FnScope ["counts"] ["counts"] (defScope s_shown_counts):=⟨rfl,rfl,rfl,by decide +kernel,rfl,by decide +kernel,by decide +kernel⟩
abbrev s_shown_fractions:Stmt:=(top 19)
theorem sc_shown_fractions:FnScope ["some"] ["some"] (defScope s_shown_fractions):=⟨rfl,rfl,rfl,by decide +kernel,rfl,by decide +kernel,by decide +kernel⟩
abbrev s_rule_faces:Stmt:=(top 25)
theorem sc_rule_faces:FnScope ["rule"] ["rule"] (defScope s_rule_faces):=⟨rfl,rfl,rfl,by decide +kernel,rfl,by decide +kernel,by decide +kernel⟩
abbrev s_rule_ways:Stmt:=(top 26)
theorem sc_rule_ways:FnScope ["rule"] ["rule"] (defScope s_rule_ways):=⟨rfl,rfl,rfl,by decide +kernel,rfl,by decide +kernel,by decide +kernel⟩
abbrev s_shown_rule:Stmt:=(top 31)
theorem sc_shown_rule:FnScope ["rule"] ["rule"] (defScope s_shown_rule):=⟨rfl,rfl,rfl,by decide +kernel,rfl,by decide +kernel,by decide +kernel⟩
abbrev s_shown_head:Stmt:=(top 32)
theorem sc_shown_head:FnScope ["words", "faces", "ways"] ["words", "faces", "ways"] (defScope s_shown_head):=⟨rfl,rfl,rfl,by decide +kernel,rfl,by decide +kernel,by decide +kernel⟩
abbrev s_shown_entries:Stmt:=(top 33)
theorem sc_shown_entries:FnScope ["rule", "lines", "counts", "says"] ["rule"] (defScope s_shown_entries):=⟨rfl,rfl,rfl,by decide +kernel,rfl,by decide +kernel,by decide +kernel⟩
theorem tup_at {H:Hp} {ds:List PyData} {v:V} (h:Rep H (.tuple ds) v):∃ a xs,v=.ref a∧H a=some (.tup xs)∧RepL H ds xs:=by unfold Rep at h; exact h
theorem RepL_two {H:Hp} {d e:PyData} {xs:List V} (h:RepL H [d,e] xs):∃ x y,xs=[x,y]∧Rep H d x∧Rep H e y:=by
  unfold RepL RepL RepL at h
  obtain ⟨x,_,rfl,h1,y,_,rfl,h2,rfl⟩:=h
  exact ⟨x,y,rfl,h1,h2⟩
theorem reps_get {α:Type} {H:Hp} {g:α→PyData} {fs:List α} {vs:List V} (h:RepL H (fs.map g) vs) {i:Nat} {v:V} (e:vs[i]?=some v):∃ f,fs[i]?=some f∧Rep H (g f) v:=by
  obtain ⟨d,h1,h2⟩:=h.get e
  rw [List.getElem?_map] at h1
  cases q:fs[i]? with
  | none=>rw [q] at h1; cases h1
  | some f=>rw [q] at h1; cases h1; exact ⟨f,rfl,h2⟩
theorem reps_get' {α:Type} {H:Hp} {g:α→PyData} {fs:List α} {vs:List V} (h:RepL H (fs.map g) vs) {i:Nat} {f:α} (e:fs[i]?=some f):∃ v,vs[i]?=some v∧Rep H (g f) v :=
  h.get' (by rw [List.getElem?_map,e]; rfl)
theorem reps_len {α:Type} {H:Hp} {g:α→PyData} {fs:List α} {vs:List V} (h:RepL H (fs.map g) vs):vs.length=fs.length:=by rw [h.len,List.length_map]
theorem take_snoc {α:Type} {l:List α} {i:Nat} {x:α} (h:l[i]?=some x):l.take (i+1)=l.take i++[x]:=by
  rw [List.take_add_one,h]; rfl
theorem cnts_at {H:Hp} {ns:List Int} {v:V} (h:Rep H (ctD ns) v):∃ a,v=.ref a∧H a=some (.tup (ns.map V.int)):=cD_rep h
@[irreducible] def sp_shc (K:PySem.W.Frag):Sp:=fun vs H Q _=>∃ (a:Addr) (ns:List Int),vs=[.ref a]∧(H a=some (.lst (ns.map V.int))∨H a=some (.tup (ns.map V.int)))∧ns.length≤4∧(∀ x∈ns,x.natAbs<10^50)∧∀ D H',Same H H'→H D=none→H' D=some (.lst ((ns.map tx).map V.str))→Q (.ref D) H'
theorem sp_shc_i {K:PySem.W.Frag} {H:Hp} {Q:VK} {E:XK} {a:Addr} {ns:List Int} (h1:H a=some (.lst (ns.map V.int))∨H a=some (.tup (ns.map V.int))) (h2:ns.length≤4) (h3:∀ x∈ns,x.natAbs<10^50) (k:∀ D H',Same H H'→H D=none→H' D=some (.lst ((ns.map tx).map V.str))→Q (.ref D) H'):sp_shc K [.ref a] H Q E:=by
  unfold sp_shc; exact ⟨a,ns,rfl,h1,h2,h3,k⟩
@[irreducible] def sp_shs:Sp:=fun vs H Q _=>∃ (v:V) (fs:List Fr),vs=[v]∧Rep H (shD fs) v∧fs.length≤5∧(∀ f∈fs,FrT f)∧∀ D H',Same H H'→H D=none→H' D=some (.lst ((fs.map TT).map V.str))→Q (.ref D) H'
theorem sp_shs_i {H:Hp} {Q:VK} {E:XK} {v:V} {fs:List Fr} (h1:Rep H (shD fs) v) (h2:fs.length≤5) (h3:∀ f∈fs,FrT f) (k:∀ D H',Same H H'→H D=none→H' D=some (.lst ((fs.map TT).map V.str))→Q (.ref D) H'):sp_shs [v] H Q E:=by
  unfold sp_shs; exact ⟨v,fs,rfl,h1,h2,h3,k⟩
@[irreducible] def sp_rfc:Sp:=fun vs H Q _=>∃ (v:V) (e:Ent) (es:List Ent),vs=[v]∧Rep H (ruD (e::es)) v∧Q (.int (e.1.length:Nat)) H
theorem sp_rfc_i {H:Hp} {Q:VK} {E:XK} {v:V} {e:Ent} {es:List Ent} (h:Rep H (ruD (e::es)) v) (k:Q (.int (e.1.length:Nat)) H):sp_rfc [v] H Q E:=by
  unfold sp_rfc; exact ⟨v,e,es,rfl,h,k⟩
@[irreducible] def sp_rws:Sp:=fun vs H Q _=>∃ (v:V) (e:Ent) (es:List Ent),vs=[v]∧Rep H (ruD (e::es)) v∧Q (.int ((e.2.length:Nat) - 1)) H
theorem sp_rws_i {H:Hp} {Q:VK} {E:XK} {v:V} {e:Ent} {es:List Ent} (h:Rep H (ruD (e::es)) v) (k:Q (.int ((e.2.length:Nat) - 1)) H):sp_rws [v] H Q E:=by
  unfold sp_rws; exact ⟨v,e,es,rfl,h,k⟩
@[irreducible] def sp_shh:Sp:=fun vs H Q _=>∃ (a:Addr) (F W:Nat),vs=[.ref a,.int (F:Int),.int (W:Int)]∧H a=some (.lst [.str wRule])∧F≤4∧W≤4∧∀ H',Same H H'→Q (.str (Txt.join bk (wdH F W))) H'
theorem sp_shh_i {H:Hp} {Q:VK} {E:XK} {a:Addr} {F W:Nat} (h:H a=some (.lst [.str wRule])) (f4:F≤4) (w4:W≤4) (k:∀ H',Same H H'→Q (.str (Txt.join bk (wdH F W))) H'):sp_shh [.ref a,.int (F:Int),.int (W:Int)] H Q E:=by
  unfold sp_shh; exact ⟨a,F,W,rfl,h,f4,w4,k⟩
@[irreducible] def sp_she:Sp:=fun vs H Q _=>∃ (v:V) (F W:Nat) (es:List Ent),vs=[v]∧Rep H (ruD es) v∧(∀ e∈es,EnT F W e)∧F≤4∧W≤4∧es.length≤400∧∀ D H',Same H H'→H D=none→H' D=some (.lst ((es.map lnE).map V.str))→Q (.ref D) H'
theorem sp_she_i {H:Hp} {Q:VK} {E:XK} {v:V} {F W:Nat} {es:List Ent} (h1:Rep H (ruD es) v) (h2:∀ e∈es,EnT F W e) (f4:F≤4) (w4:W≤4) (hz:es.length≤400) (k:∀ D H',Same H H'→H D=none→H' D=some (.lst ((es.map lnE).map V.str))→Q (.ref D) H'):sp_she [v] H Q E:=by
  unfold sp_she; exact ⟨v,F,W,es,rfl,h1,h2,f4,w4,hz,k⟩
@[irreducible] def sp_shr:Sp:=fun vs H Q _=>∃ (v:V) (F W:Nat) (es:List Ent),vs=[v]∧Rep H (ruD es) v∧es≠[]∧(∀ e∈es,EnT F W e)∧F≤4∧W≤4∧es.length≤400∧∀ D H',Same H H'→H D=none→H' D=some (.lst ((lnR F W es).map V.str))→Q (.ref D) H'
theorem sp_shr_i {H:Hp} {Q:VK} {E:XK} {v:V} {F W:Nat} {es:List Ent} (h1:Rep H (ruD es) v) (hn:es≠[]) (h2:∀ e∈es,EnT F W e) (f4:F≤4) (w4:W≤4) (hz:es.length≤400) (k:∀ D H',Same H H'→H D=none→H' D=some (.lst ((lnR F W es).map V.str))→Q (.ref D) H'):sp_shr [v] H Q E:=by
  unfold sp_shr; exact ⟨v,F,W,es,rfl,h1,hn,h2,f4,w4,hz,k⟩
theorem p50 {x:Int} (h:x.natAbs<10^50):x.natAbs<2^8000:=Nat.lt_of_lt_of_le h (Nat.le_trans (show 10^50≤2^200 by decide) (Nat.pow_le_pow_right (by decide) (by decide)))
theorem strs_of_map {α:Type} {l:List α} {f:α→Str} {ys:List V} (hl:ys.length=l.length) (h:∀ (i:Nat) (y:V),ys[i]?=some y→∃ x,l[i]?=some x∧y=.str (f x)):ys=(l.map f).map V.str:=by
  refine List.ext_getElem? fun i=>?_
  rw [List.getElem?_map,List.getElem?_map]
  by_cases z:i<ys.length
  · obtain ⟨x,h1,h2⟩:=h i _ (List.getElem?_eq_getElem z)
    rw [List.getElem?_eq_getElem z,h2,h1]; rfl
  · rw [List.getElem?_eq_none (by omega),List.getElem?_eq_none (by omega)]; rfl
section
variable {P:Program} {w:World} {K:PySem.W.Frag} {mg:Str→Option Value} {base:Heap} {c:Cl}
theorem ok_shown_counts {f:Addr} {fd:FuncData} (F:Fun K "shown_counts" "shown_counts" s_shown_counts f fd) (T:Txt K mg c) (F_shown_whole:FnC CX0 P w K mg base 1 "shown_whole" ["number"] sp_shw):FnOk P w K mg base CX0 2 f fd ["counts"] (sp_shc K):=by
  refine F.okw sc_shown_counts (fun vs H Q E h=>?_) (fun cdv A outer s H vs Q E hr h=>?_)
  · unfold sp_shc at h
    obtain ⟨a,ns,rfl,_⟩:=h
    rfl
  · unfold sp_shc at h
    obtain ⟨a,ns,rfl,ha,h4,hz,k⟩:=h
    refine ⟨_,(wss_one (ws_ret (we_comp (CScope.of (psc:=defScope s_shown_counts) (N:=["counts"]) (N':=["count"]) (js:=[]) (by decide +kernel) rfl rfl rfl) (wi_or (wi_list (we_v 0)) (wi_tup (we_v 0))) (fun _ _ _ _=>wts_nil) (fun _ _ _ _=>(we_fn F_shown_whole (hr.mono (by decide)) (wa_k (we_v 0) wa_nil)))))),?_⟩
    have fin:∀ (D:Addr) (ys:List V) (H1:Hp),H D=none→H1 D=some (.lst ys)→Same H H1→ys.length=ns.length→(∀ (i:Nat) (y:V),ys[i]?=some y→∃ x,ns[i]?=some x∧y=.str (tx x))→Q (.ref D) H1:=fun D ys H1 hD e1 s1 hy hr1=>by
      have:=strs_of_map (f:=tx) hy hr1
      subst this
      exact k D H1 s1 hD e1
    rcases ha with ha | ha
    · refine .inl ⟨_,rfl,a,rfl,⟨_,SqL.of ha⟩,?_⟩
      refine comp_mapL (fun i y _=>∃ x,ns[i]?=some x∧y=.str (tx x)) (fun _ _ _ _ _ h=>h) (by rw [List.length_map]; omega) ha (fun i y H' Q' hy s' k'=>?_) (fun D ys H1 hD e1 s1 hy hr1=>fin D ys H1 hD e1 s1 (by rw [hy,List.length_map]) hr1)
      rw [List.getElem?_map] at hy
      obtain ⟨x,hx,rfl⟩:=Option.map_eq_some_iff.mp hy
      refine ⟨_,rfl,?_⟩
      exact sp_shw_i (p50 (hz x (List.mem_of_getElem? hx))) fun H2 s2=>k' _ H2 s2 ⟨x,hx,rfl⟩
    · refine .inr ⟨_,rfl,a,rfl,⟨_,SqT.of ha⟩,?_⟩
      refine comp_mapU (fun i y _=>∃ x,ns[i]?=some x∧y=.str (tx x)) (fun _ _ _ _ _ h=>h) (by rw [List.length_map]; omega) ha (fun i y H' Q' hy s' k'=>?_) (fun D ys H1 hD e1 s1 hy hr1=>fin D ys H1 hD e1 s1 (by rw [hy,List.length_map]) hr1)
      rw [List.getElem?_map] at hy
      obtain ⟨x,hx,rfl⟩:=Option.map_eq_some_iff.mp hy
      refine ⟨_,rfl,?_⟩
      exact sp_shw_i (p50 (hz x (List.mem_of_getElem? hx))) fun H2 s2=>k' _ H2 s2 ⟨x,hx,rfl⟩
theorem ok_shown_fractions {f:Addr} {fd:FuncData} (F:Fun K "shown_fractions" "shown_fractions" s_shown_fractions f fd) (T:Txt K mg c) (F_shown_fraction:FnC CX0 P w K mg base 2 "shown_fraction" ["one"] sp_shf):FnOk P w K mg base CX0 3 f fd ["some"] sp_shs:=by
  refine F.okw sc_shown_fractions (fun vs H Q E h=>?_) (fun cdv A outer s H vs Q E hr h=>?_)
  · unfold sp_shs at h
    obtain ⟨v,fs,rfl,_⟩:=h
    rfl
  · unfold sp_shs at h
    obtain ⟨v,fs,rfl,rv,h5,hz,k⟩:=h
    refine ⟨_,(wss_one (ws_ret (we_comp (CScope.of (psc:=defScope s_shown_fractions) (N:=["some"]) (N':=["one"]) (js:=[]) (by decide +kernel) rfl rfl rfl) (wi_tup (we_v 0)) (fun _ _ _ _=>wts_nil) (fun _ _ _ _=>(we_fn F_shown_fraction (hr.mono (by decide)) (wa_k (we_v 0) wa_nil)))))),?_⟩
    obtain ⟨a,xs,rfl,ha,rxs⟩:=shD_at rv
    have lx:=reps_len rxs
    refine ⟨_,rfl,a,rfl,⟨_,SqT.of ha⟩,?_⟩
    refine comp_mapU (fun i y _=>∃ f,fs[i]?=some f∧y=.str (TT f)) (fun _ _ _ _ _ h=>h) (by omega) ha (fun i y H' Q' hy s' k'=>?_) (fun D ys H1 hD e1 s1 hy hr1=>?_)
    · obtain ⟨f,hf,rf⟩:=reps_get rxs hy
      obtain ⟨b,rfl,hb⟩:=frD_at rf
      have:=hz f (List.mem_of_getElem? hf)
      refine ⟨_,rfl,?_⟩
      exact sp_shf_i (s' _ _ hb) (p50 this.n) (p50 this.d) fun H2 s2=>k' _ H2 s2 ⟨f,hf,rfl⟩
    · have:=strs_of_map (f:=TT) (by omega) hr1
      subst this
      exact k D H1 s1 hD e1
theorem ok_rule_faces {f:Addr} {fd:FuncData} (F:Fun K "rule_faces" "rule_faces" s_rule_faces f fd) (T:Txt K mg c):FnOk P w K mg base CX0 1 f fd ["rule"] sp_rfc:=by
  refine F.okw sc_rule_faces (fun vs H Q E h=>?_) (fun cdv A outer s H vs Q E hr h=>?_)
  · unfold sp_rfc at h
    obtain ⟨v,e,es,rfl,_⟩:=h
    rfl
  · unfold sp_rfc at h
    obtain ⟨v,e,es,rfl,rv,k⟩:=h
    obtain ⟨a,xs,rfl,ha,rxs⟩:=tup_at rv
    obtain ⟨x,hx,rx⟩:=reps_get' rxs (i:=0) (f:=e) rfl
    obtain ⟨b,ys,rfl,hb,rb⟩:=tup_at rx
    obtain ⟨y,z,rfl,ry,rz⟩:=RepL_two rb
    obtain ⟨d,rfl,hd⟩:=cnts_at ry
    refine ⟨_,(wss_one (ws_ret (we_cB cl_len (by rfl) T.b_len (by decide +kernel) (wa_k (we_ix ix_seq (we_ix ix_seq (we_v 0) we_int (fun _ _=>rfl)) we_int (fun _ _=>rfl)) wa_nil)))),?_⟩
    refine ⟨_,rfl,?_⟩
    refine ixT ha (atI_nat (j:=0) hx) ?_
    refine ixT hb rfl ?_
    refine rlT hd ?_
    rw [List.length_map]
    exact k
theorem ok_rule_ways {f:Addr} {fd:FuncData} (F:Fun K "rule_ways" "rule_ways" s_rule_ways f fd) (T:Txt K mg c):FnOk P w K mg base CX0 1 f fd ["rule"] sp_rws:=by
  refine F.okw sc_rule_ways (fun vs H Q E h=>?_) (fun cdv A outer s H vs Q E hr h=>?_)
  · unfold sp_rws at h
    obtain ⟨v,e,es,rfl,_⟩:=h
    rfl
  · unfold sp_rws at h
    obtain ⟨v,e,es,rfl,rv,k⟩:=h
    obtain ⟨a,xs,rfl,ha,rxs⟩:=tup_at rv
    obtain ⟨x,hx,rx⟩:=reps_get' rxs (i:=0) (f:=e) rfl
    obtain ⟨b,ys,rfl,hb,rb⟩:=tup_at rx
    obtain ⟨y,z,rfl,ry,rz⟩:=RepL_two rb
    obtain ⟨d,zs,rfl,hd,rzs⟩:=shD_at rz
    refine ⟨_,(wss_one (ws_ret (we_op op_sub (we_cB cl_len (by rfl) T.b_len (by decide +kernel) (wa_k (we_ix ix_seq (we_ix ix_seq (we_v 0) we_int (fun _ _=>rfl)) we_int (fun _ _=>rfl)) wa_nil)) we_int))),?_⟩
    refine ⟨_,rfl,?_⟩
    refine ixT ha (atI_nat (j:=0) hx) ?_
    refine ixT hb rfl ?_
    refine rlT hd ?_
    rw [reps_len rzs]
    exact ⟨_,_,rfl,rfl,k⟩
theorem ok_shown_head {f:Addr} {fd:FuncData} (F:Fun K "shown_head" "shown_head" s_shown_head f fd) (T:Txt K mg c) (F_shown_counts:FnC CX0 P w K mg base 2 "shown_counts" ["counts"] (sp_shc K)):FnOk P w K mg base CX0 3 f fd ["words", "faces", "ways"] sp_shh:=by
  refine F.okw sc_shown_head (fun vs H Q E h=>?_) (fun cdv A outer s H vs Q E hr h=>?_)
  · unfold sp_shh at h
    obtain ⟨a,F,W,rfl,_⟩:=h
    rfl
  · unfold sp_shh at h
    obtain ⟨a,F,W,rfl,ha,f4,w4,k⟩:=h
    obtain ⟨z1,z2⟩:=wdH_len f4 w4
    refine ⟨_,(wss_one (ws_ret (we_bm PySem.F.plainAttrs_str PySem.F.slot_str_join PySem.F.type_str_join (mt_join K) we_str (wa_k (we_op op_cat (we_v 0) (we_fn F_shown_counts (hr.mono (by decide)) (wa_k (we_lst (wa_k (we_v 1) (wa_k (we_v 2) wa_nil))) wa_nil))) wa_nil)))),?_⟩
    refine ⟨rfl,_,rfl,_,rfl,_,rfl,?_⟩
    refine nwL (by show 2≤64; decide) fun q1 H1 hq1 e1 s1=>?_
    refine sp_shc_i (ns:=[(F:Int),(W:Int)]) (.inl e1) (by show 2≤4; decide) (fun x hx=>?_) fun D H2 s2 hD e2=>?_
    · simp only [List.mem_cons,List.not_mem_nil,or_false] at hx
      rcases hx with rfl | rfl
      · exact Nat.lt_of_le_of_lt (show (F:Int).natAbs≤4 by omega) (by decide)
      · exact Nat.lt_of_le_of_lt (show (W:Int).natAbs≤4 by omega) (by decide)
    refine catL ((s1.trans s2) _ _ ha) e2 (by simp) fun q3 H3 hq3 e3 s3=>?_
    refine rjoin (ts:=wdH F W) (sep:=bk) (.inl (SqL.of e3)) (join_ok z1 z2) ?_
    exact k H3 ((s1.trans s2).trans s3)
theorem ok_shown_entries {f:Addr} {fd:FuncData} (F:Fun K "shown_entries" "shown_entries" s_shown_entries f fd) (T:Txt K mg c) (F_shown_counts:FnC CX0 P w K mg base 2 "shown_counts" ["counts"] (sp_shc K)) (F_shown_fractions:FnC CX0 P w K mg base 3 "shown_fractions" ["some"] sp_shs):FnOk P w K mg base CX0 4 f fd ["rule"] sp_she:=by
  refine F.okw sc_shown_entries (fun vs H Q E h=>?_) (fun cdv A outer s H vs Q E hr h=>?_)
  · unfold sp_she at h
    obtain ⟨v,F,W,es,rfl,_⟩:=h
    rfl
  · unfold sp_she at h
    obtain ⟨v,F,W,es,rfl,rv,en,f4,w4,hz,k⟩:=h
    obtain ⟨a,xs,rfl,ha,rxs⟩:=tup_at rv
    have lx:=reps_len rxs
    refine ⟨_,(wss_cons (ws_set (i:=1) sc_shown_entries.nd rfl (Or.inl rfl) (we_lst wa_nil))
      (wss_cons (ws_for PassesOwn.never rfl (wi_tup (we_v 0)) (wg_tup rfl (wgs_cons (wg_name (i:=2) sc_shown_entries.nd rfl (Or.inl rfl)) (wgs_cons (wg_name (i:=3) sc_shown_entries.nd rfl (Or.inl rfl)) wgs_nil))) (wss_one (ws_expr (we_bm PySem.F.plainAttrs_list PySem.F.slot_list_append PySem.F.type_list_append mt_app (we_v 1) (wa_k (we_bm PySem.F.plainAttrs_str PySem.F.slot_str_join PySem.F.type_str_join (mt_join K) we_str (wa_k (we_op op_cat (we_op op_cat (we_op op_cat (we_lst (wa_k (we_glob (v:=.str (Str.ofString "on")) rfl T.g_ENTRY_WORD ⟨_,rfl⟩) wa_nil)) (we_fn F_shown_counts (hr.mono (by decide)) (wa_k (we_v 2) wa_nil))) (we_lst (wa_k (we_glob (v:=.str (Str.ofString "say")) rfl T.g_SAYS_WORD ⟨_,rfl⟩) wa_nil))) (we_fn F_shown_fractions (hr.mono (by decide)) (wa_k (we_v 3) wa_nil))) wa_nil)) wa_nil)))))
      (wss_one (ws_ret (we_v 1))))),?_⟩
    refine nwL (by show 0≤64; decide) fun L H1 hL e1 s1=>?_
    refine ⟨_,rfl,a,rfl,⟨_,SqT.of (s1 _ _ ha)⟩,?_⟩
    refine for_tup (xs:=xs) (fun i σ H'=>∃ (o2 o3:Option V),σ=[some (.ref a),some (.ref L),o2,o3]∧Same H H'∧H' L=some (.lst (((es.take i).map lnE).map V.str))) ⟨_,_,rfl,s1,e1⟩ (fun i σ H' _ q=>?_) ?_ ?_
    · obtain ⟨_,_,_,s',_⟩:=q
      exact SqT.of (s' _ _ ha)
    · rintro i x σ H2 hx ⟨o2,o3,rfl,s2,e2⟩
      obtain ⟨e,he,re⟩:=reps_get rxs hx
      have hi:=(List.getElem?_eq_some_iff.mp he).1
      have E1:=en e (List.mem_of_getElem? he)
      obtain ⟨z1,z2⟩:=wdE_len E1 f4 w4
      obtain ⟨b,ys,rfl,hb,rb⟩:=tup_at (re.same s2)
      obtain ⟨y,z,rfl,ry,rz⟩:=RepL_two rb
      obtain ⟨d,rfl,hd⟩:=cnts_at ry
      have c1:=E1.c
      have c2:=E1.s
      refine ⟨b,[.ref d,z],rfl,SqT.of hb,rfl,.ref d,[z],rfl,z,[],rfl,rfl,?_⟩
      refine ⟨_,rfl,tyL e2,?_⟩
      refine ⟨rfl,?_⟩
      refine nwL (by show 1≤64; decide) fun q3 H3 hq3 e3 s3=>?_
      refine ⟨_,rfl,?_⟩
      refine sp_shc_i (ns:=e.1) (.inr (s3 _ _ hd)) (by omega) (fun x hx=>(E1.n x hx).2) fun D4 H4 s4 hD4 e4=>?_
      refine catL (s4 _ _ e3) e4 (by simp; omega) fun q5 H5 hq5 e5 s5=>?_
      refine nwL (by show 1≤64; decide) fun q6 H6 hq6 e6 s6=>?_
      refine catL (s6 _ _ e5) e6 (by simp; omega) fun q7 H7 hq7 e7 s7=>?_
      have S37:=(((s3.trans s4).trans s5).trans s6).trans s7
      refine ⟨_,rfl,?_⟩
      refine sp_shs_i (rz.same S37) (by omega) E1.f fun D8 H8 s8 hD8 e8=>?_
      refine catL (s8 _ _ e7) e8 (by simp; omega) fun q9 H9 hq9 e9 s9=>?_
      have S9:=(S37.trans s8).trans s9
      have ew:([V.str wOn]++(e.1.map tx).map V.str++[V.str wSay])++(e.2.map TT).map V.str=(wdE e).map V.str:=by
        unfold wdE
        simp
      refine rjoin (ts:=wdE e) (sep:=bk) (.inl (SqL.of (by rw [← ew]; exact e9))) (join_ok z1 z2) ?_
      refine appL (S9 _ _ e2) (by simp; omega) fun H10 e10 b10=>?_
      refine ⟨_,_,rfl,Same.thru hL (s2.trans S9) b10,?_⟩
      rw [take_snoc he,List.map_append,List.map_append]
      exact e10
    · rintro σ H2 ⟨o2,o3,rfl,s2,e2⟩
      rw [lx,List.take_length] at e2
      refine ⟨_,rfl,?_⟩
      exact k L H2 s2 hL e2
theorem ok_shown_rule {f:Addr} {fd:FuncData} (F:Fun K "shown_rule" "shown_rule" s_shown_rule f fd) (T:Txt K mg c) (F_shown_head:FnC CX0 P w K mg base 3 "shown_head" ["words", "faces", "ways"] sp_shh) (F_rule_faces:FnC CX0 P w K mg base 1 "rule_faces" ["rule"] sp_rfc) (F_rule_ways:FnC CX0 P w K mg base 1 "rule_ways" ["rule"] sp_rws) (F_shown_entries:FnC CX0 P w K mg base 4 "shown_entries" ["rule"] sp_she):FnOk P w K mg base CX0 5 f fd ["rule"] sp_shr:=by
  refine F.okw sc_shown_rule (fun vs H Q E h=>?_) (fun cdv A outer s H vs Q E hr h=>?_)
  · unfold sp_shr at h
    obtain ⟨v,F,W,es,rfl,_⟩:=h
    rfl
  · unfold sp_shr at h
    obtain ⟨v,F,W,es,rfl,rv,hn,en,f4,w4,hz,k⟩:=h
    obtain ⟨e,es,rfl⟩:∃ e r,es=e::r:=by
      cases es with
      | nil=>exact absurd rfl hn
      | cons e r=>exact ⟨e,r,rfl⟩
    have E1:=en e (List.mem_cons_self ..)
    have c1:=E1.c
    have c2:=E1.s
    refine ⟨_,(wss_one (ws_ret (we_op op_cat (we_lst (wa_k (we_fn F_shown_head (hr.mono (by decide)) (wa_k (we_lst (wa_k (we_glob (v:=.str (Str.ofString "rule")) rfl T.g_RULE_WORD ⟨_,rfl⟩) wa_nil)) (wa_k (we_fn F_rule_faces (hr.mono (by decide)) (wa_k (we_v 0) wa_nil)) (wa_k (we_fn F_rule_ways (hr.mono (by decide)) (wa_k (we_v 0) wa_nil)) wa_nil)))) wa_nil)) (we_fn F_shown_entries (hr.mono (by decide)) (wa_k (we_v 0) wa_nil))))),?_⟩
    refine nwL (by show 1≤64; decide) fun q1 H1 hq1 e1 s1=>?_
    refine ⟨_,rfl,?_⟩
    refine sp_rfc_i (rv.same s1) ?_
    refine ⟨_,rfl,?_⟩
    refine sp_rws_i (rv.same s1) ?_
    rw [c1,c2,show ((1+W:Nat):Int) - 1=(W:Int) by omega]
    refine sp_shh_i e1 f4 w4 fun H2 s2=>?_
    refine nwL (by show 1≤64; decide) fun q3 H3 hq3 e3 s3=>?_
    have S3:=(s1.trans s2).trans s3
    refine ⟨_,rfl,?_⟩
    refine sp_she_i (rv.same S3) en f4 w4 hz fun D H4 s4 hD e4=>?_
    refine catL (s4 _ _ e3) e4 (by simp at hz ⊢; omega) fun q5 H5 hq5 e5 s5=>?_
    have S5:=(S3.trans s4).trans s5
    exact k q5 H5 S5 ((S3.trans s4).free hq5) e5
end
end Kw
set_option Elab.async false
set_option linter.all false
set_option maxRecDepth 100000
namespace HT
open PySem PySem.W PyProof.Rows
section
variable {prog:Program} {w:World} {A:Around} {E:Value→Shared→Prop} {s:Shared}
theorem applied_rev {sl:Addr} {tk:Tok} {n:Nat} {Q:Int × Int × Nat→Shared→Prop} (hs:s.heap.IsSliceOf sl .none .none (.int (-1) tk)) (h:Q ((n:Int) - 1,-1,n) s):wpAny (model prog w) A (Builtin.Slice.sliceApplied (.ref sl) (pure (n:Int))) Q E s:=by
  obtain ⟨os,hos,hcs,hds⟩:=id hs
  unfold Builtin.Slice.sliceApplied Builtin.Slice.sliceFields
  refine wpAny_bind (wpAny_bind (wpAny_field hos hds (x:=.none) rfl (wpAny_bind (wpAny_field hos hds (x:=.none) rfl (wpAny_bind (wpAny_field hos hds (x:=.int (-1) tk) rfl (wpAny_pure ?_)))))))
  refine wpAny_bind (slicePart_int ?_)
  show wpAny _ _ (if ((-1:Int) == 0)=true then _ else _) _ _ s
  rw [if_neg (by decide)]
  refine wpAny_bind (slicePart_none (wpAny_bind (slicePart_none (wpAny_bind (wpAny_pure ?_)))))
  show wpAny _ _ (pure ((n:Int) - 1,(-1:Int),Builtin.Slice.slicePlaces ((n:Int) - 1) (-1) (-1))) _ _ s
  have e:Builtin.Slice.slicePlaces ((n:Int) - 1) (-1) (-1)=n:=by
    unfold Builtin.Slice.slicePlaces
    rw [if_neg (by decide)]
    by_cases z:(n:Int) - 1 > -1
    · rw [if_pos z,show (-(-1:Int))=1 from rfl,Int.ediv_one]; omega
    · rw [if_neg z]; omega
  rw [e]
  exact wpAny_pure h
theorem fm_map {α β:Type} {f:α→Option β} {g:α→β}:∀ {l:List α},(∀ m∈l,f m=some (g m))→l.filterMap f=l.map g
  | [],_=>rfl
  | a::l,h=>by rw [List.filterMap_cons,h a (List.mem_cons_self ..),List.map_cons,fm_map fun m hm=>h m (List.mem_cons_of_mem _ hm)]
theorem pick_rev (xs:Array Value):((List.range xs.size).filterMap fun (m:Nat)=>xs[(((xs.size:Int) - 1)+(m:Int)*(-1)).toNat]?).toArray=xs.toList.reverse.toArray:=by
  congr 1
  have e:∀ m∈List.range xs.size,xs[(((xs.size:Int) - 1)+(m:Int)*(-1)).toNat]?=some (xs.toList.reverse.getD m Value.none):=fun m hm=>by
    have hm:=List.mem_range.mp hm
    rw [show (((xs.size:Int) - 1)+(m:Int)*(-1)).toNat=xs.size - 1 - m by omega,Array.getElem?_eq_getElem (by omega),List.getD_eq_getElem?_getD,List.getElem?_reverse (by simpa using hm)]
    simp [Array.getElem?_eq_getElem (show xs.size - 1 - m<xs.size by omega)]
  rw [fm_map e]
  refine List.ext_getElem? fun i=>?_
  rw [List.getElem?_map]
  by_cases z:i<xs.size
  · rw [List.getElem?_range z]
    show some (xs.toList.reverse.getD i Value.none)=_
    rw [List.getD_eq_getElem?_getD,List.getElem?_eq_getElem (by simpa using z)]; rfl
  · rw [List.getElem?_eq_none (by rw [List.length_range]; omega),List.getElem?_eq_none (by simp; omega)]; rfl
theorem getItem_tuple_rev {t sl:Addr} {items:Array Value} {tk:Tok} {Q:Value→Shared→Prop} (ht:IsTup s.heap t items) (hs:s.heap.IsSliceOf sl .none .none (.int (-1) tk))
    (h:Q (.ref s.heap.objs.size) { s with heap:=s.heap.push { cls:=.type "tuple",data:=.seq items.toList.reverse.toArray } }) (hsz:items.size≤sizeLine):wpAny (model prog w) A (getItem (.ref t) (.ref sl)) Q E s:=by
  have htake:sizeOk (.seq items.toList.reverse.toArray):=by
    show items.toList.reverse.toArray.size≤sizeLine
    simpa using hsz
  obtain ⟨os,hos,hcs,hds⟩:=id hs
  have hTs:s.TypeIs (.ref sl) "slice" := ⟨os,hos,hcs⟩
  unfold getItem
  try with_reducible refine wpAny_holding ?_
  first | refine wpAny_bind (wpAny_pure ?_) | skip
  refine wpAny_bind (wpAny_sequenceKey ht.typeIs (by decide) ?_)
  refine wpAny_bind (wpAny_callSpecial?_slot (name:=Str.ofString "__getitem__") ht.typeIs PyProof.Rows.slot_tuple_getitem
    (wpAny_call_entry PyProof.Rows.slot_tuple_getitem ht.typeIs entry_tuple_getitem ?_ (args_tuple_getitem _ _)))
  show wpAny _ _ (Builtin.Tuple.tupleItemsOf (.ref t) >>= _) _ _ s
  refine wpAny_bind (tupleItemsOf_ ht ?_)
  refine wpAny_bind (wpAny_typeOf hTs ?_)
  rw [if_pos (by decide)]
  refine wpAny_bind (applied_rev hs ?_)
  have hno:¬ ((((items.size:Int) - 1) == 0&&(-1:Int) == 1&&items.size == items.size)=true):=by simp
  show wpAny _ _ (if ((((items.size:Int) - 1) == 0&&(-1:Int) == 1&&items.size == items.size)=true) then _ else _) _ _ s
  rw [if_neg hno,pick_rev]
  first
    | exact wpAny_bind (m:=Builtin.Tuple.tupleExact _) (wpAny_newObj_type (wpAny_pure ⟨_,rfl,wpAny_pure h⟩) htake)
    | exact wpAny_bind (m:=Builtin.Tuple.tupleExact _) (wpAny_newObj_type (wpAny_bind (wpAny_pure (wpAny_pure ⟨_,rfl,wpAny_pure h⟩))) htake)
    | exact wpAny_bind (wpAny_bind (m:=Builtin.Tuple.tupleExact _) (wpAny_newObj_type (wpAny_pure (wpAny_pure ⟨_,rfl,wpAny_pure h⟩)) htake))
    | exact wpAny_bind (wpAny_bind (m:=Builtin.Tuple.tupleExact _) (wpAny_newObj_type (wpAny_pure ⟨_,rfl,wpAny_pure h⟩) htake))
end
end HT
namespace L2
open PySem PySem.Spec PyProof.Rows
@[irreducible] def rRevT (K:PySem.W.Frag) (x:V) (H:Hp) (Q:VK):Prop:=∃ a xs,x=.ref a∧SqT K H a xs∧∀ p H',Same H H'→H p=none→H' p=some (.tup xs.reverse)→Q (.ref p) H'
theorem revT {K:PySem.W.Frag} {H:Hp} {a:Addr} {xs:List V} {Q:VK} (h:H a=some (.tup xs)) (q:∀ p H',Same H H'→H p=none→H' p=some (.tup xs.reverse)→Q (.ref p) H'):rRevT K (.ref a) H Q:=by
  unfold rRevT; exact ⟨a,xs,rfl,SqT.of h,q⟩
def tRevT (K:PySem.W.Frag) (te:TE):TE:=fun σ H Q=>te σ H fun x H1=>rRevT K x H1 Q
theorem Vals.rev {xs:List V} {us:List Value} (h:Vals xs us):Vals xs.reverse us.reverse:=by
  induction h with
  | nil=>exact .nil
  | cons r _ ih=>rw [List.reverse_cons,List.reverse_cons]; exact ih.append (.cons r .nil)
section
variable {X:Cx} {e st:Expr} {te ts:TE} {pos p2:Pos}
theorem we_revT (K:PySem.W.Frag) (he:PEw X e te) (hst:PEw X st ts) (ht:∀ σ H Q,ts σ H Q↔Q (.int (-1)) H) (hK:X.K=K:=by rfl):PEw X (.Subscript e (.Slice none none (some st) p2) pos) (tRevT K te):=⟨by
  subst hK
  intro pins s σ H Q I h
  refine Subscript_ (thn (he.p pins s σ H _ I h) fun v s1 ⟨x,H1,I1,r1,q1⟩=>?_)
  unfold rRevT at q1
  obtain ⟨a,xs,rfl,hx,q⟩:=q1
  cases r1
  refine wpAny_Slice ?_
  rw [evalPart_none]
  refine wpAny_pure (wpAny_pure ?_)
  rw [evalPart_some]
  refine thn (hst.p pins s1 σ H1 (fun w H'=>w=.int (-1)∧H'=H1) I1 ((ht _ _ _).mpr ⟨rfl,rfl⟩)) fun u3 s3 ⟨w3,H3,I3,rw3,ew,eH⟩=>?_
  subst ew eH
  obtain ⟨tk,rfl⟩:=rw3
  have I4:Inv X pins σ H3 { s3 with heap:=s3.heap.push { cls:=.type "slice",data:=.fields #[.none,.none,.int (-1) tk] } }:=I3.kept (t':=s3.toks) fun b ob q=>Heap.get?_push_of_some _ q
  obtain ⟨its,r,htu,hz⟩:=I4.tuple hx
  have hlen:=r.length
  show wpAny (model X.prog X.w) X.A (subscriptTail e (.Slice none none (some st) p2) (.ref a) (.ref s3.heap.objs.size)) (EP X pins σ Q) X.xe { s3 with heap:=s3.heap.push { cls:=.type "slice",data:=.fields #[.none,.none,.int (-1) tk] } }
  refine tail_any (ops:=[.ref a,.ref s3.heap.objs.size]) htu.typeIs PyProof.Rows.slot_tuple_getitem.lookup ?_ (by with_unfolding_all rfl)
  refine HT.getItem_tuple_rev htu (Heap.IsSliceOf.new ..) ?_ (by rw [List.size_toArray]; omega)
  have hn:=I4.hok.fresh (Nat.le_refl _)
  refine ⟨.ref _,_,I4.laid (t':=s3.toks) (o:=.tup xs.reverse) (fun b ob q=>Heap.get?_push_of_some _ q) (Nat.le_refl _) ?_,rfl,q _ _ (Same.upd hn) hn upd_same⟩
  exact ⟨⟨by rw [List.length_reverse]; omega,_,Heap.get?_push_size _ rfl,rfl⟩,_,r.rev,IsTup.new _ _⟩⟩
@[irreducible] def rRevL:V→List V→Hp→VK→Prop:=fun x vs H Q=>∃ l xs,x=.ref l∧vs=[]∧H l=some (.lst xs)∧∀ H',H' l=some (.lst xs.reverse)→SameBut l H H'→Q .non H'
theorem revL {H:Hp} {l:Addr} {xs:List V} {Q:VK} (h:H l=some (.lst xs)) (q:∀ H',H' l=some (.lst xs.reverse)→SameBut l H H'→Q .non H'):rRevL (.ref l) [] H Q:=by
  unfold rRevL; exact ⟨l,xs,rfl,rfl,h,q⟩
theorem mt_rev:MtR X "list.reverse" rRevL:=by
  unfold rRevL
  intro pins s σ H x vs v us Q I rx rv h
  obtain ⟨l,xs,rfl,rfl,hH,q⟩:=h
  cases rx
  cases rv
  obtain ⟨z,its,n,r,hl,e⟩:=I.lstM hH
  refine call_meets F.slot_list_reverse ⟨_,e,rfl⟩ F.entry_list_reverse (F.args_list_reverse_1 _) (S:=fun _ R s=>s.heap.get? l=some { cls:=.type "list",data:=.seq its.toArray n }∧R (.ok (.ret .none)) { s with heap:=s.heap.update l (Obj.mapSeq fun x=>x.reverse) }) ?_ ⟨e,?_⟩
  · intro prog w A R s ⟨h1,h2⟩
    unfold Builtin.«list.reverse»
    refine wpAny_bind (m:=selfOnly _ _) (wpAny_pure ?_)
    exact wpAny_bind (listUpdate_at h1 rfl (wpAny_pure h2) (by rw [List.size_toArray]; omega) (by rw [Array.size_reverse,List.size_toArray]; omega))
  · exact ⟨.non,_,I.lset (its':=its.reverse) (t':=s.toks) hH e (by simp) r.rev (by rw [List.length_reverse]; omega),rfl,q _ upd_same SameBut.self⟩
end
end L2
set_option Elab.async false
set_option linter.all false
set_option maxRecDepth 100000
namespace HT
open PySem PySem.Spec PyProof.Rows PySem.Builtin
section
variable {prog:Program} {w:World} {A:Around} {E:Value→Shared→Prop} {s:Shared}
end
end HT
set_option Elab.async false
set_option linter.all false
set_option maxRecDepth 100000
namespace HT
open PySem PySem.Spec PyProof.Rows PySem.Builtin
section
variable {prog:Program} {w:World} {A:Around} {E:Value→Shared→Prop} {s:Shared} {K:Type} [DecidableEq K] {knd:HeapKind prog w K}
end
end HT
set_option Elab.async false
set_option linter.all false
set_option maxRecDepth 100000
namespace L2
open PySem PySem.Spec PySem.W PyProof.Rows HT
section
variable {X:Cx} {pins:List (Addr × Obj)} {σ:St} {H:Hp}
end
end L2
set_option Elab.async false
set_option linter.all false
set_option maxRecDepth 100000
namespace HT
open PySem PySem.Spec PyProof.Rows
section
variable {prog:Program} {w:World} {A:Around} {E:Value→Shared→Prop} {s:Shared} {it d:Addr} {es:Array DictEntry} {ep i:Nat} {od:Obj}
end
end HT
set_option Elab.async false
set_option linter.all false
set_option maxRecDepth 100000
namespace L2
open PySem PySem.Spec PySem.W PyProof.Rows HT
section
variable {X:Cx} {pins:List (Addr × Obj)} {σ:St} {H:Hp} {s:Shared}
end
section
variable {X:Cx} {tg:Expr}
end
end L2
set_option Elab.async false
set_option linter.all false
set_option maxRecDepth 100000
namespace HT
open PySem PySem.Spec PyProof.Rows PySem.W
section
variable {prog:Program} {w:World} {A:Around} {d:Addr} {o:Obj} {es:Array DictEntry} {ep:Nat}
end
end HT
namespace L2
open PySem PySem.Spec PySem.W PyProof.Rows HT
end L2
set_option Elab.async false
set_option linter.all false
set_option maxRecDepth 100000
namespace HT
open PySem PySem.Spec PyProof.Rows PySem.W
section
variable {prog:Program} {w:World} {A:Around} {E:Value→Shared→Prop} {s:Shared} {it d:Addr} {es:Array DictEntry} {ep i:Nat} {od:Obj}
end
end HT
set_option Elab.async false
set_option linter.all false
set_option maxRecDepth 100000
namespace L2
open PySem PySem.Spec PySem.W PyProof.Rows HT
section
variable {X:Cx} {tg:Expr}
end
section
variable {X:Cx} {o e:Expr} {apos cpos:Pos} {td ty:TE}
end
end L2
namespace L2
open PySem PySem.Spec PySem.W PyProof.Rows HT
end L2
namespace L2
open PySem
theorem cl_tupK {X:Cx} (K:PySem.W.Frag) (hK:X.K=K:=by rfl):CallR X (.type "tuple") (fun xs H Q=>∃ p ys,xs=[.ref p]∧((SqL K H p ys∧∀ l,H l=none→Q (.ref l) (upd H l (.tup ys)))∨(SqT K H p ys∧Q (.ref p) H))):=by
  subst hK; exact call_tuple_of
end L2
set_option Elab.async false
set_option linter.all false
set_option maxRecDepth 100000
namespace Kw
open PySem L2 Mf Mt
abbrev s_read_counts:Stmt:=(top 20)
theorem sc_read_counts:FnScope ["words", "many", "numbers"] ["words", "many"] (defScope s_read_counts):=⟨rfl,rfl,rfl,by decide +kernel,rfl,by decide +kernel,by decide +kernel⟩
abbrev s_read_fractions:Stmt:=(top 21)
theorem sc_read_fractions:FnScope ["words", "many"] ["words", "many"] (defScope s_read_fractions):=⟨rfl,rfl,rfl,by decide +kernel,rfl,by decide +kernel,by decide +kernel⟩
abbrev s_read_entry:Stmt:=(top 37)
theorem sc_read_entry:FnScope ["words", "sizes", "place", "counts", "says"] ["words", "sizes"] (defScope s_read_entry):=⟨rfl,rfl,rfl,by decide +kernel,rfl,by decide +kernel,by decide +kernel⟩
abbrev s_entries_behind:Stmt:=(top 36)
theorem sc_entries_behind:FnScope ["lines", "line", "sizes", "found", "text", "entry"] ["lines", "line", "sizes"] (defScope s_entries_behind):=⟨rfl,rfl,rfl,by decide +kernel,rfl,by decide +kernel,by decide +kernel⟩
abbrev s_read_head:Stmt:=(top 35)
theorem sc_read_head:FnScope ["lines", "words", "found", "sizes"] ["lines", "words"] (defScope s_read_head):=⟨rfl,rfl,rfl,by decide +kernel,rfl,by decide +kernel,by decide +kernel⟩
abbrev s_read_rule:Stmt:=(top 34)
theorem sc_read_rule:FnScope ["lines", "sizes", "entries"] ["lines"] (defScope s_read_rule):=⟨rfl,rfl,rfl,by decide +kernel,rfl,by decide +kernel,by decide +kernel⟩
theorem iteTe {b:Bool} {A B:Prop} (h:b=true) (k:A):if b=true then A else B:=by rw [h,if_pos rfl]; exact k
theorem iteFe {b:Bool} {A B:Prop} (h:b=false) (k:B):if b=true then A else B:=by rw [h,if_neg (by decide)]; exact k
theorem FnOk.calm {P:Program} {w:World} {K:PySem.W.Frag} {mg:Str→Option Value} {base:Heap} {k:Nat} {f:Addr} {fd:FuncData} {ps:List Str} {sp:Sp} (F:FnOk P w K mg base (CX1 P w) k f fd ps sp):FnOk P w K mg base CX0 k f fd ps (fun vs H Q _=>sp vs H Q E0) :=
  ⟨fun vs H Q E q=>F.len vs H Q E0 q,fun A outer s H args us vs Q E hr he hb hv hs=>codeAny_mono (F.run A outer s H args us vs Q E0 hr he hb hv hs) fun r s' h=>by
    cases r with
    | error e =>
      obtain ⟨_,_,_,_,_,_,_,_,_,_,_,_,_,_,_,z⟩:=h
      exact z.elim
    | ok fl=>cases fl <;> exact h⟩
theorem FnC.calm {P:Program} {w:World} {K:PySem.W.Frag} {mg:Str→Option Value} {base:Heap} {k:Nat} {n:Str} {ps:List Str} {sp:Sp} (F:FnC (CX1 P w) P w K mg base k n ps sp):FnC CX0 P w K mg base k n ps (fun vs H Q _=>sp vs H Q E0):=by
  obtain ⟨f,fd,h1,h2,h3,h4⟩:=F.ex
  exact ⟨f,fd,FnOk.calm h1,h2,h3,h4⟩
theorem wi_listK {X:Cx} {l tg:Expr} {tl:TE} (K:PySem.W.Frag) (hl:PEw X l tl) (hK:X.K=K:=by rfl):PIw X tg l (iList K tl):=by subst hK; exact wi_list hl
theorem we_compX {X:Cx} {Ex:St→XK} {scope:Scope} {x:Str} {N':List Str} {js:List Nat} {px pos:Pos} {iter elt:Expr} {ifs:List Expr} {wi:TI} {tc:L2.TT} {te:TE} (hx:XPass X Ex) (S:CScope X scope x N' js) (hi:PIw X (.Name x px) iter wi) (ht:∀ C fp s₀ H₀,PTsw (cxC X scope C fp s₀ H₀ N') ifs tc) (he:∀ C fp s₀ H₀,PEw (cxC X scope C fp s₀ H₀ N') elt te)
    (hs:∀ x,foldedSetIterable iter X.env x=pure x:=by intro _; rfl):PEw X (.ListComp elt [⟨.Name x px,iter,ifs,0⟩] scope pos) (tCompB wi js tc te):=we_comp S hi ht he hs
@[irreducible] def sp_rdc:Sp:=fun vs H Q _=>∃ (a:Addr) (ns:List Int) (m:Nat),vs=[.ref a,.int (m:Int)]∧ns.length=m∧H a=some (.lst ((ns.map tx).map V.str))∧ns.length≤4∧(∀ x∈ns,0≤x∧x.natAbs<10^50)∧∀ v H',Same H H'→Rep H' (ctD ns) v→Q v H'
theorem sp_rdc_i {H:Hp} {Q:VK} {E:XK} {a:Addr} {ns:List Int} {m:Nat} (hm:ns.length=m) (h1:H a=some (.lst ((ns.map tx).map V.str))) (h2:ns.length≤4) (h3:∀ x∈ns,0≤x∧x.natAbs<10^50) (k:∀ v H',Same H H'→Rep H' (ctD ns) v→Q v H'):sp_rdc [.ref a,.int (m:Int)] H Q E:=by
  unfold sp_rdc; exact ⟨a,ns,m,rfl,hm,h1,h2,h3,k⟩
@[irreducible] def sp_rds:Sp:=fun vs H Q _=>∃ (a:Addr) (fs:List Fr) (m:Nat),vs=[.ref a,.int (m:Int)]∧fs.length=m∧H a=some (.lst ((fs.map TT).map V.str))∧fs.length≤5∧(∀ f∈fs,FrT f)∧∀ v H',Same H H'→Rep H' (shD fs) v→Q v H'
theorem sp_rds_i {H:Hp} {Q:VK} {E:XK} {a:Addr} {fs:List Fr} {m:Nat} (hm:fs.length=m) (h1:H a=some (.lst ((fs.map TT).map V.str))) (h2:fs.length≤5) (h3:∀ f∈fs,FrT f) (k:∀ v H',Same H H'→Rep H' (shD fs) v→Q v H'):sp_rds [.ref a,.int (m:Int)] H Q E:=by
  unfold sp_rds; exact ⟨a,fs,m,rfl,hm,h1,h2,h3,k⟩
theorem reps_of {α:Type} {H:Hp} {g:α→PyData}:∀ {fs:List α} {ys:List V},ys.length=fs.length→(∀ (i:Nat) (y:V),ys[i]?=some y→∃ f,fs[i]?=some f∧Rep H (g f) y)→RepL H (fs.map g) ys
  | [],[],_,_=>RepL.nil
  | [],y::ys,hl,_=>by simp at hl
  | f::fs,[],hl,_=>by simp at hl
  | f::fs,y::ys,hl,h=>by
    obtain ⟨f',h1,h2⟩:=h 0 y rfl
    cases h1
    exact RepL.cons h2 (reps_of (by simpa using hl) fun i y hy=>h (i+1) y (by simpa using hy))
theorem cutN {xs:List V} {i j:Nat} (h:i≤j) (hj:j≤xs.length):cutV xs (some (i:Int)) (some (j:Int))=(xs.drop i).take (j - i):=by
  unfold cutV
  have e:∀ (d:Nat) (k:Nat),k≤xs.length→HT.sIx xs.length d (some (k:Int))=k:=fun d k hk=>by
    show (if (k:Int)<0 then ((k:Int)+(xs.length:Int)).toNat else min (k:Int).toNat xs.length)=k
    rw [if_neg (by omega)]; omega
  rw [e 0 i (by omega),e xs.length j hj]
@[irreducible] def sp_rde:Sp:=fun vs H Q _=>∃ (a z:Addr) (F W:Nat) (e:Ent),vs=[.ref a,.ref z]∧H a=some (.lst ((wdE e).map V.str))∧H z=some (.tup [.int (F:Int),.int (W:Int)])∧EnT F W e∧F≤4∧W≤4∧∀ v H',Same H H'→Rep H' (enD e) v→Q v H'
theorem sp_rde_i {H:Hp} {Q:VK} {E:XK} {a z:Addr} {F W:Nat} {e:Ent} (h1:H a=some (.lst ((wdE e).map V.str))) (h2:H z=some (.tup [.int (F:Int),.int (W:Int)])) (h3:EnT F W e) (f4:F≤4) (w4:W≤4) (k:∀ v H',Same H H'→Rep H' (enD e) v→Q v H'):sp_rde [.ref a,.ref z] H Q E:=by
  unfold sp_rde; exact ⟨a,z,F,W,e,rfl,h1,h2,h3,f4,w4,k⟩
@[irreducible] def sp_ebh:Sp:=fun vs H Q _=>∃ (a z:Addr) (F W:Nat) (t:V) (es:List Ent),vs=[.ref a,.int 1,.ref z]∧H a=some (.lst (t::(es.map lnE).map V.str))∧H z=some (.tup [.int (F:Int),.int (W:Int)])∧(∀ e∈es,EnT F W e)∧F≤4∧W≤4∧es.length≤400∧∀ v H',Same H H'→Rep H' (ruD es) v→Q v H'
theorem sp_ebh_i {H:Hp} {Q:VK} {E:XK} {a z:Addr} {F W:Nat} {t:V} {es:List Ent} (h1:H a=some (.lst (t::(es.map lnE).map V.str))) (h2:H z=some (.tup [.int (F:Int),.int (W:Int)])) (h3:∀ e∈es,EnT F W e) (f4:F≤4) (w4:W≤4) (hl:es.length≤400) (k:∀ v H',Same H H'→Rep H' (ruD es) v→Q v H'):sp_ebh [.ref a,.int 1,.ref z] H Q E:=by
  unfold sp_ebh; exact ⟨a,z,F,W,t,es,rfl,h1,h2,h3,f4,w4,hl,k⟩
@[irreducible] def sp_rdh:Sp:=fun vs H Q _=>∃ (a z:Addr) (F W:Nat) (xs:List V),vs=[.ref a,.ref z]∧H a=some (.lst (.str (Txt.join bk (wdH F W))::xs))∧H z=some (.lst [.str wRule])∧2≤F∧F≤4∧2≤W∧W≤4∧∀ v H',Same H H'→H' v=some (.tup [.int (F:Int),.int (W:Int)])→Q (.ref v) H'
theorem sp_rdh_i {H:Hp} {Q:VK} {E:XK} {a z:Addr} {F W:Nat} {xs:List V} (h1:H a=some (.lst (.str (Txt.join bk (wdH F W))::xs))) (h2:H z=some (.lst [.str wRule])) (f2:2≤F) (f4:F≤4) (w2:2≤W) (w4:W≤4) (k:∀ v H',Same H H'→H' v=some (.tup [.int (F:Int),.int (W:Int)])→Q (.ref v) H'):sp_rdh [.ref a,.ref z] H Q E:=by
  unfold sp_rdh; exact ⟨a,z,F,W,xs,rfl,h1,h2,f2,f4,w2,w4,k⟩
theorem en_flat (e:Ent):flatD (enD e)=true:=by
  show (flatD (ctD e.1)&&(flatD (shD e.2)&&true))=true
  rw [show flatD (ctD e.1)=true from ints_flat e.1,shD_flat]; rfl
theorem ru_flat:∀ es:List Ent,flatDs (es.map enD)=true
  | []=>rfl
  | e::es=>by show (flatD (enD e)&&flatDs (es.map enD))=true; rw [ru_flat es,en_flat]; rfl
@[irreducible] def sp_rdr:Sp:=fun vs H Q _=>∃ (a:Addr) (F W:Nat) (es:List Ent),vs=[.ref a]∧H a=some (.lst ((lnR F W es).map V.str))∧(∀ e∈es,EnT F W e)∧2≤F∧F≤4∧2≤W∧W≤4∧es.length≤400∧∀ v H',Same H H'→Rep H' (ruD es) v→Q v H'
theorem sp_rdr_i {H:Hp} {Q:VK} {E:XK} {a:Addr} {F W:Nat} {es:List Ent} (h1:H a=some (.lst ((lnR F W es).map V.str))) (h3:∀ e∈es,EnT F W e) (f2:2≤F) (f4:F≤4) (w2:2≤W) (w4:W≤4) (hl:es.length≤400) (k:∀ v H',Same H H'→Rep H' (ruD es) v→Q v H'):sp_rdr [.ref a] H Q E:=by
  unfold sp_rdr; exact ⟨a,F,W,es,rfl,h1,h3,f2,f4,w2,w4,hl,k⟩
theorem ints_rep {H:Hp}:∀ ns:List Int,RepL H (ns.map PyData.int) (ns.map V.int)
  | []=>RepL.nil
  | n::ns=>RepL.cons (Rep.int n) (ints_rep ns)
theorem ints_map {l:List Int} {ys:List V} (hl:ys.length=l.length) (h:∀ (i:Nat) (y:V),ys[i]?=some y→∃ x,l[i]?=some x∧y=.int x):ys=l.map V.int:=by
  refine List.ext_getElem? fun i=>?_
  rw [List.getElem?_map]
  by_cases z:i<ys.length
  · obtain ⟨x,h1,h2⟩:=h i _ (List.getElem?_eq_getElem z)
    rw [List.getElem?_eq_getElem z,h2,h1]; rfl
  · rw [List.getElem?_eq_none (by omega),List.getElem?_eq_none (by omega)]; rfl
section
variable {P:Program} {w:World} {K:PySem.W.Frag} {mg:Str→Option Value} {base:Heap} {c:Cl}
theorem ok_read_counts {f:Addr} {fd:FuncData} (F:Fun K "read_counts" "read_counts" s_read_counts f fd) (T:Txt K mg c) (F_read_whole:FnC CX0 P w K mg base 2 "read_whole" ["text"] sp_readw):FnOk P w K mg base CX0 3 f fd ["words", "many"] sp_rdc:=by
  refine F.okw sc_read_counts (fun vs H Q E h=>?_) (fun cdv A outer s H vs Q E hr h=>?_)
  · unfold sp_rdc at h
    obtain ⟨a,ns,m,rfl,_⟩:=h
    rfl
  · unfold sp_rdc at h
    obtain ⟨a,ns,m,rfl,rfl,ha,h4,hz,k⟩:=h
    refine ⟨_,(wss_cons (ws_setComp (i:=2) (CScope.of (psc:=defScope s_read_counts) (N:=["words", "many", "numbers"]) (N':=["word"]) (js:=[]) (by decide +kernel) rfl rfl rfl) sc_read_counts.nd rfl rfl (wi_list (we_v 0)) (fun _ _ _ _=>wts_nil) (fun _ _ _ _=>(we_fn F_read_whole (hr.mono (by decide)) (wa_k (we_v 0) wa_nil))))
      (wss_cons (ws_if (wt_mono (wt_w (ww_or (wt_cmp op_ne (we_cB cl_len (by rfl) T.b_len (by decide +kernel) (wa_k (we_v 2) wa_nil)) (we_v 1) (nomark _)) (ww_or1 (wt_not (wt_val (we_cB (cl_all rfl) (by rfl) T.b_all (by decide +kernel) (wa_k (we_comp (CScope.of (psc:=defScope s_read_counts) (N:=["words", "many", "numbers"]) (N':=["number"]) (js:=[]) (by decide +kernel) rfl rfl rfl) (wi_list (we_v 2)) (fun _ _ _ _=>wts_nil) (fun _ _ _ _=>(we_and (we_cmp op_notN (we_v 0) we_non (nomark _)) (we_one (we_cmp op_ge (we_v 0) we_int (nomark _)))))) wa_nil)))))))) (wss_one (ws_ret we_non)) wss_nil)
      (wss_one (ws_ret (we_cT call_tuple_of (by rfl) T.b_tuple (by decide +kernel) (wa_k (we_v 2) wa_nil)))))),?_⟩
    refine ⟨_,rfl,a,rfl,⟨_,SqL.of ha⟩,?_⟩
    refine comp_mapL (fun i y _=>∃ x,ns[i]?=some x∧y=.int x) (fun _ _ _ _ _ h=>h) (by rw [List.length_map,List.length_map]; omega) ha (fun i y H' Q' hy s' k'=>?_) (fun D ys H1 hD e1 s1 hy hr1=>?_)
    · rw [List.getElem?_map,List.getElem?_map] at hy
      obtain ⟨t,ht,rfl⟩:=Option.map_eq_some_iff.mp hy
      obtain ⟨x,hx,rfl⟩:=Option.map_eq_some_iff.mp ht
      have lx:=tx_lenG (hz x (List.mem_of_getElem? hx)).2
      refine ⟨_,rfl,?_⟩
      refine sp_readw_i (by omega) fun H2 s2=>?_
      rw [rd_tx (by omega)]
      exact k' _ H2 s2 ⟨x,hx,rfl⟩
    have ey:=ints_map (by rw [hy,List.length_map,List.length_map]) hr1
    subst ey
    refine ⟨fun b H'=>Same H1 H'∧b=false,?_,?_⟩
    · refine ⟨_,rfl,?_⟩
      refine rlL e1 ?_
      rw [List.length_map]
      refine ⟨_,rfl,rfl,_,rfl,?_⟩
      refine iteFe (by simp) ?_
      refine ⟨_,rfl,D,rfl,⟨_,SqL.of e1⟩,?_⟩
      refine comp_mapL (fun i y _=>y=.bl true) (fun _ _ _ _ _ h=>h) (by rw [List.length_map]; omega) e1 (fun i y H' Q' hy s' k'=>?_) (fun D2 ys H2 hD2 e2 s2 hy2 hr2=>?_)
      · rw [List.getElem?_map] at hy
        obtain ⟨x,hx,rfl⟩:=Option.map_eq_some_iff.mp hy
        have:=(hz x (List.mem_of_getElem? hx)).1
        refine ⟨_,rfl,rfl,?_⟩
        refine ⟨_,rfl,?_⟩
        refine iteTe (by simp) ?_
        refine ⟨_,rfl,_,_,rfl,rfl,?_⟩
        exact k' _ H' (Same.refl _) (by show V.bl (decide (0≤x))=_; rw [decide_eq_true this])
      have ey:ys=(List.replicate ns.length true).map V.bl:=by
        rw [List.map_replicate]
        rw [List.length_map] at hy2
        exact List.eq_replicate_iff.mpr ⟨hy2,fun y hy=>by
          obtain ⟨i,hi⟩:=List.mem_iff_getElem?.mp hy
          exact hr2 i y hi⟩
      subst ey
      refine rall e2 ?_
      refine ⟨_,rfl,s2,?_⟩
      simp
    rintro b H2 ⟨s2,rfl⟩
    refine iteF ?_
    refine ⟨_,rfl,?_⟩
    refine ⟨D,_,rfl,.inl ⟨SqL.of (s2 _ _ e1),fun l hl=>?_⟩⟩
    exact k _ _ ((s1.trans s2).trans (Same.upd hl)) (Rep.tup upd_same (ints_rep ns))
theorem ok_read_fractions {f:Addr} {fd:FuncData} (F:Fun K "read_fractions" "read_fractions" s_read_fractions f fd) (T:Txt K mg c) (F_read_fraction:FnC (CX1 P w) P w K mg base 3 "read_fraction" ["text"] (sp_readf c.NoFraction)):FnOk P w K mg base CX0 4 f fd ["words", "many"] sp_rds:=by
  refine F.okw sc_read_fractions (fun vs H Q E h=>?_) (fun cdv A outer s H vs Q E hr h=>?_)
  · unfold sp_rds at h
    obtain ⟨a,fs,m,rfl,_⟩:=h
    rfl
  · unfold sp_rds at h
    obtain ⟨a,fs,m,rfl,rfl,ha,h5,hz,k⟩:=h
    have F0_read_fraction:=FnC.calm F_read_fraction
    refine ⟨_,(wss_cons (ws_if (wt_cmp op_ne (we_cB cl_len (by rfl) T.b_len (by decide +kernel) (wa_k (we_v 0) wa_nil)) (we_v 1) (nomark _)) (wss_one (ws_ret we_non)) wss_nil)
      (wss_one (ws_tryB rfl rfl rfl T.g_NoFraction T.c_NoFraction (fun _ _ _ hx=>(wss_one (ws_ret (we_cT (cl_tupK K) (by rfl) T.b_tuple (by decide +kernel) (wa_k (we_compX hx (CScope.of (psc:=defScope s_read_fractions) (N:=["words", "many"]) (N':=["word"]) (js:=[]) (by decide +kernel) rfl rfl rfl) (wi_listK K (we_v 0)) (fun _ _ _ _=>wts_nil) (fun _ _ _ _=>(we_fn F0_read_fraction (hr.mono (by decide)) (wa_k (we_v 0) wa_nil)))) wa_nil))))) (fun _=>(wss_one (ws_ret we_non)))))),?_⟩
    refine ⟨_,rfl,?_⟩
    refine rlL ha ?_
    rw [List.length_map,List.length_map]
    refine ⟨_,rfl,rfl,_,rfl,?_⟩
    refine iteFe (by simp) ?_
    refine ⟨fun _ _ _ _=>False,?_,fun _ _ _ _ z=>z.elim⟩
    refine ⟨_,rfl,a,rfl,⟨_,SqL.of ha⟩,?_⟩
    refine comp_mapL (fun i y H'=>∃ f,fs[i]?=some f∧Rep H' (frD f) y) (fun i y Ha Hb s ⟨f,h1,h2⟩=>⟨f,h1,h2.flat s (frD_flat f)⟩) (by rw [List.length_map,List.length_map]; omega) ha (fun i y H' Q' hy s' k'=>?_) (fun D ys H1 hD e1 s1 hy hr1=>?_)
    · rw [List.getElem?_map,List.getElem?_map] at hy
      obtain ⟨t,ht,rfl⟩:=Option.map_eq_some_iff.mp hy
      obtain ⟨f,hf,rfl⟩:=Option.map_eq_some_iff.mp ht
      have ft:=hz f (List.mem_of_getElem? hf)
      have lx:=TT_len ft
      have rx:=TT_read ft
      refine ⟨_,rfl,?_⟩
      refine sp_readf_i (by omega) (fun z=>by rw [rx] at z; cases z) fun g hg b H2 e2 s2=>?_
      rw [rx] at hg
      cases hg
      exact k' _ H2 s2 ⟨f,hf,frD_of e2⟩
    rw [List.length_map,List.length_map] at hy
    refine ⟨D,_,rfl,.inl ⟨SqL.of e1,fun l hl=>?_⟩⟩
    exact k _ _ (s1.trans (Same.upd hl)) (Rep.tup upd_same ((reps_of hy hr1).same (Same.upd hl)))
theorem ok_read_entry {f:Addr} {fd:FuncData} (F:Fun K "read_entry" "read_entry" s_read_entry f fd) (T:Txt K mg c) (F_read_counts:FnC CX0 P w K mg base 3 "read_counts" ["words", "many"] sp_rdc) (F_read_fractions:FnC CX0 P w K mg base 4 "read_fractions" ["words", "many"] sp_rds):FnOk P w K mg base CX0 5 f fd ["words", "sizes"] sp_rde:=by
  refine F.okw sc_read_entry (fun vs H Q E h=>?_) (fun cdv A outer s H vs Q E hr h=>?_)
  · unfold sp_rde at h
    obtain ⟨a,z,F,W,e,rfl,_⟩:=h
    rfl
  · unfold sp_rde at h
    obtain ⟨a,z,F,W,e,rfl,ha,hz,en,f4,w4,k⟩:=h
    have c1:=en.c
    have c2:=en.s
    have l1:(wdE e).length=3+F+W:=by unfold wdE; simp only [List.length_cons,List.length_append,List.length_map]; omega
    have cut1:cutV ((wdE e).map V.str) (some 1) (some ((1:Int)+(F:Int)))=(e.1.map tx).map V.str:=by
      rw [show ((1:Int)+(F:Int))=((1+F:Nat):Int) by omega,show (some (1:Int))=some ((1:Nat):Int) from rfl,cutN (by omega) (by rw [List.length_map]; omega)]
      unfold wdE
      rw [List.map_cons,List.drop_succ_cons,List.drop_zero,List.map_append,show 1+F - 1=((e.1.map tx).map V.str).length by simp; omega,List.take_left]
    have cut2:cutV ((wdE e).map V.str) (some ((1:Int)+(F:Int)+1)) none=(e.2.map TT).map V.str:=by
      rw [show ((1:Int)+(F:Int)+1)=((2+F:Nat):Int) by omega,cutV_lo]
      unfold wdE
      have e3:(e.1.map tx++wSay::e.2.map TT).map V.str=((e.1.map tx).map V.str++[V.str wSay])++(e.2.map TT).map V.str:=by simp
      rw [List.map_cons,show 2+F=(F+1)+1 by omega,List.drop_succ_cons,e3,show F+1=((e.1.map tx).map V.str++[V.str wSay]).length by simp; omega]
      exact List.drop_left
    have at0:atI ((wdE e).map V.str) 0=some (V.str wOn):=by unfold wdE; exact atI_nat (j:=0) rfl
    have atp:atI ((wdE e).map V.str) ((1:Int)+(F:Int))=some (V.str wSay):=by
      rw [show ((1:Int)+(F:Int))=((1+F:Nat):Int) by omega]
      refine atI_nat ?_
      unfold wdE
      rw [List.map_cons,show 1+F=F+1 by omega,List.getElem?_cons_succ,List.map_append,List.getElem?_append_right (by simp; omega)]
      simp [c1]
    refine ⟨_,(wss_cons (ws_set (i:=2) sc_read_entry.nd rfl (Or.inl rfl) (we_op op_add we_int (we_ix ix_seq (we_v 1) we_int (fun _ _=>rfl))))
      (wss_cons (ws_set (i:=3) sc_read_entry.nd rfl (Or.inl rfl) (we_fn F_read_counts (hr.mono (by decide)) (wa_k (we_slice (sl_listN K) (we_v 0) (wo_some we_int) (wo_some (we_v 2))) (wa_k (we_ix ix_seq (we_v 1) we_int (fun _ _=>rfl)) wa_nil))))
      (wss_cons (ws_set (i:=4) sc_read_entry.nd rfl (Or.inl rfl) (we_fn F_read_fractions (hr.mono (by decide)) (wa_k (we_slice (sl_listN K) (we_v 0) (wo_some (we_op op_add (we_v 2) we_int)) wo_none) (wa_k (we_op op_add we_int (we_ix ix_seq (we_v 1) we_int (fun _ _=>rfl))) wa_nil))))
      (wss_cons (ws_if (wt_mono (wt_w (ww_or (wt_cmp op_ne (we_ix ix_seq (we_v 0) we_int (fun _ _=>rfl)) (we_glob (v:=.str (Str.ofString "on")) rfl T.g_ENTRY_WORD ⟨_,rfl⟩) (nomark _)) (ww_or (wt_cmp op_isN (we_v 3) we_non (nomark _)) (ww_or (wt_cmp op_isN (we_v 4) we_non (nomark _)) (ww_or1 (wt_cmp op_ne (we_ix ix_seq (we_v 0) (we_v 2) (fun _ _=>rfl)) (we_glob (v:=.str (Str.ofString "say")) rfl T.g_SAYS_WORD ⟨_,rfl⟩) (nomark _)))))))) (wss_one (ws_ret we_non)) wss_nil)
      (wss_one (ws_ret (we_tup (wa_k (we_v 3) (wa_k (we_v 4) wa_nil))))))))),?_⟩
    refine ⟨_,rfl,?_⟩
    refine ixT hz rfl ?_
    refine ⟨_,_,rfl,rfl,?_⟩
    refine ⟨_,rfl,_,rfl,_,rfl,_,rfl,?_⟩
    refine slL (ys:=(e.1.map tx).map V.str) ha cut1 fun q1 H1 hq1 e1 s1=>?_
    refine ⟨_,rfl,?_⟩
    refine ixT (s1 _ _ hz) rfl ?_
    refine sp_rdc_i c1 e1 (by omega) en.n fun v2 H2 s2 r2=>?_
    have s02:=s1.trans s2
    refine ⟨_,rfl,_,rfl,_,_,rfl,rfl,_,rfl,?_⟩
    refine slL (ys:=(e.2.map TT).map V.str) (s02 _ _ ha) cut2 fun q3 H3 hq3 e3 s3=>?_
    have s03:=s02.trans s3
    refine ⟨_,rfl,?_⟩
    refine ixT (s03 _ _ hz) rfl ?_
    refine ⟨_,_,rfl,rfl,?_⟩
    have eW:((fun i j=>V.int (i+j)) (1:Int) (W:Int))=V.int ((1+W:Nat):Int):=by show V.int (1+(W:Int))=_; congr 1
    rw [eW]
    refine sp_rds_i c2 e3 (by omega) en.f fun v4 H4 s4 r4=>?_
    have s04:=s03.trans s4
    obtain ⟨d2,rfl,hd2⟩:=cnts_at r2
    obtain ⟨d4,x4,rfl,hd4,rx4⟩:=shD_at r4
    refine ⟨fun b H'=>H'=H4∧b=false,?_,?_⟩
    · refine ⟨_,rfl,?_⟩
      refine ixL (s04 _ _ ha) at0 ?_
      refine ⟨rfl,_,rfl,?_⟩
      refine iteFe (by simp [wOn]) ?_
      refine ⟨_,rfl,rfl,_,rfl,?_⟩
      refine iteFe (by simp) ?_
      refine ⟨_,rfl,rfl,_,rfl,?_⟩
      refine iteFe (by simp) ?_
      refine ⟨_,rfl,_,rfl,?_⟩
      refine ixL (s04 _ _ ha) atp ?_
      refine ⟨rfl,_,rfl,rfl,?_⟩
      simp [wSay]
    rintro b H5 ⟨rfl,rfl⟩
    refine iteF ?_
    refine ⟨_,rfl,_,rfl,?_⟩
    refine nwT (by show 2≤64; decide) fun q6 H6 hq6 e6 s6=>?_
    exact k _ H6 (s04.trans s6) (Rep.tup e6 (RepL.cons (r2.same ((s3.trans s4).trans s6)) (RepL.cons (r4.same s6) RepL.nil)))
theorem ok_entries_behind {f:Addr} {fd:FuncData} (F:Fun K "entries_behind" "entries_behind" s_entries_behind f fd) (T:Txt K mg c) (F_read_entry:FnC CX0 P w K mg base 5 "read_entry" ["words", "sizes"] sp_rde):FnOk P w K mg base CX0 6 f fd ["lines", "line", "sizes"] sp_ebh:=by
  refine F.okw sc_entries_behind (fun vs H Q E h=>?_) (fun cdv A outer s H vs Q E hr h=>?_)
  · unfold sp_ebh at h
    obtain ⟨a,z,F,W,t,es,rfl,_⟩:=h
    rfl
  · unfold sp_ebh at h
    obtain ⟨a,z,F,W,t,es,rfl,ha,hz,en,f4,w4,hl,k⟩:=h
    refine ⟨_,(wss_cons (ws_set (i:=3) sc_entries_behind.nd rfl (Or.inl rfl) (we_lst wa_nil))
      (wss_cons (ws_for PassesOwn.never rfl (wi_list (we_slice (sl_listN K) (we_v 0) (wo_some (we_v 1)) wo_none)) (wg_name (i:=4) sc_entries_behind.nd rfl (Or.inl rfl)) (wss_cons (ws_set (i:=5) sc_entries_behind.nd rfl (Or.inl rfl) (we_fn F_read_entry (hr.mono (by decide)) (wa_k (we_bm PySem.F.plainAttrs_str PySem.F.slot_str_split PySem.F.type_str_split mt_split (we_v 4) (wa_k we_str wa_nil)) (wa_k (we_v 2) wa_nil))))
      (wss_cons (ws_if (wt_cmp op_isN (we_v 5) we_non (nomark _)) (wss_one ws_dead) wss_nil)
      (wss_one (ws_expr (we_bm PySem.F.plainAttrs_list PySem.F.slot_list_append PySem.F.type_list_append mt_app (we_v 3) (wa_k (we_v 5) wa_nil)))))))
      (wss_one (ws_ret (we_cT call_tuple_of (by rfl) T.b_tuple (by decide +kernel) (wa_k (we_v 3) wa_nil)))))),?_⟩
    refine nwL (by show 0≤64; decide) fun L H1 hL e1 s1=>?_
    refine ⟨_,rfl,_,rfl,_,rfl,?_⟩
    refine slL (ys:=(es.map lnE).map V.str) (s1 _ _ ha) (by rw [show (some (1:Int))=some ((1:Nat):Int) from rfl,cutV_lo]; rfl) fun q2 H2 hq2 e2 s2=>?_
    have nL:q2≠L:=fun z=>by rw [z,e1] at hq2; cases hq2
    refine ⟨q2,rfl,⟨_,SqL.of e2⟩,?_⟩
    refine for_list (xs:=(es.map lnE).map V.str) (fun i σ H'=>∃ (o4 o5:Option V) (ys:List V),σ=[some (.ref a),some (.int 1),some (.ref z),some (.ref L),o4,o5]∧Same H H'∧H' q2=some (.lst ((es.map lnE).map V.str))∧H' L=some (.lst ys)∧RepL H' ((es.take i).map enD) ys) ⟨_,_,[],rfl,s1.trans s2,e2,s2 _ _ e1,RepL.nil⟩ (fun i σ H' _ q=>?_) ?_ ?_
    · obtain ⟨_,_,_,_,_,e',_⟩:=q
      exact SqL.of e'
    · rintro i y σ H3 hy ⟨o4,o5,ys,rfl,s3,e3,eL3,r3⟩
      rw [List.getElem?_map,List.getElem?_map] at hy
      obtain ⟨u,hu,rfl⟩:=Option.map_eq_some_iff.mp hy
      obtain ⟨e,he,rfl⟩:=Option.map_eq_some_iff.mp hu
      have hi:=(List.getElem?_eq_some_iff.mp he).1
      have E1:=en e (List.mem_of_getElem? he)
      obtain ⟨z1,z2⟩:=wdE_len E1 f4 w4
      have ll:=line_len (ts:=wdE e) z1 z2
      have sb:=split_back (ts:=wdE e) (by simp [wdE]) (wdE_free e)
      have lys:=reps_len r3
      rw [List.length_take] at lys
      refine ⟨_,rfl,?_⟩
      refine ⟨rfl,?_⟩
      refine rsplit (b:=bk) (by decide +kernel) (line20 (by unfold lnE; omega)) (by unfold lnE; rw [sb]; exact line20 (by omega)) fun p1 H4 hp1 e4 s4=>?_
      unfold lnE at e4
      rw [sb] at e4
      refine ⟨_,rfl,?_⟩
      refine sp_rde_i e4 ((s3.trans s4) _ _ hz) E1 f4 w4 fun v5 H5 s5 r5=>?_
      obtain ⟨d5,x5,rfl,hd5,rx5⟩:=tup_at r5
      have s35:=s4.trans s5
      refine ⟨_,rfl,rfl,_,rfl,?_⟩
      refine iteFe (by simp) ?_
      refine ⟨_,rfl,tyL (s35 _ _ eL3),_,rfl,?_⟩
      refine appL (s35 _ _ eL3) (by omega) fun H6 e6 b6=>?_
      have t6:=b6.t (s35 _ _ eL3)
      refine ⟨_,_,_,rfl,Same.thru hL (s3.trans s35) b6,b6.at nL (s35 _ _ e3),e6,?_⟩
      rw [take_snoc he,List.map_append]
      exact RepL.snoc ((r3.same s35).flat t6 (ru_flat _)) (r5.flat t6 (en_flat _))
    · rintro σ H3 ⟨o4,o5,ys,rfl,s3,e3,eL3,r3⟩
      rw [List.length_map,List.length_map,List.take_length] at r3
      refine ⟨_,rfl,?_⟩
      refine ⟨L,_,rfl,.inl ⟨SqL.of eL3,fun l hl=>?_⟩⟩
      exact k _ _ (s3.trans (Same.upd hl)) (Rep.tup upd_same (r3.same (Same.upd hl)))
theorem ok_read_head {f:Addr} {fd:FuncData} (F:Fun K "read_head" "read_head" s_read_head f fd) (T:Txt K mg c) (F_read_counts:FnC CX0 P w K mg base 3 "read_counts" ["words", "many"] sp_rdc):FnOk P w K mg base CX0 4 f fd ["lines", "words"] sp_rdh:=by
  refine F.okw sc_read_head (fun vs H Q E h=>?_) (fun cdv A outer s H vs Q E hr h=>?_)
  · unfold sp_rdh at h
    obtain ⟨a,z,F,W,xs,rfl,_⟩:=h
    rfl
  · unfold sp_rdh at h
    obtain ⟨a,z,F,W,xs,rfl,ha,hz,f2,f4,w2,w4,k⟩:=h
    refine ⟨_,(wss_cons (ws_if (wt_cmp op_eq (we_cB cl_len (by rfl) T.b_len (by decide +kernel) (wa_k (we_v 0) wa_nil)) we_int (nomark _)) (wss_one ws_dead) wss_nil)
      (wss_cons (ws_set (i:=2) sc_read_head.nd rfl (Or.inl rfl) (we_bm PySem.F.plainAttrs_str PySem.F.slot_str_split PySem.F.type_str_split mt_split (we_ix ix_seq (we_v 0) we_int (fun _ _=>rfl)) (wa_k we_str wa_nil)))
      (wss_cons (ws_set (i:=3) sc_read_head.nd rfl (Or.inl rfl) (we_fn F_read_counts (hr.mono (by decide)) (wa_k (we_slice (sl_listN K) (we_v 2) (wo_some (we_cB cl_len (by rfl) T.b_len (by decide +kernel) (wa_k (we_v 1) wa_nil))) wo_none) (wa_k we_int wa_nil))))
      (wss_cons (ws_if (wt_mono (wt_w (ww_or (wt_cmp (op_neD hr.units) (we_slice (sl_listN K) (we_v 2) wo_none (wo_some (we_cB cl_len (by rfl) T.b_len (by decide +kernel) (wa_k (we_v 1) wa_nil)))) (we_v 1) (nomark _)) (ww_or (wt_cmp op_isN (we_v 3) we_non (nomark _)) (ww_or1 (wt_not (wt_val (we_cB (cl_all rfl) (by rfl) T.b_all (by decide +kernel) (wa_k (we_comp (CScope.of (psc:=defScope s_read_head) (N:=["lines", "words", "found", "sizes"]) (N':=["one"]) (js:=[]) (by decide +kernel) rfl rfl rfl) (wi_tup (we_v 3)) (fun _ _ _ _=>wts_nil) (fun _ _ _ _=>(we_chain op_le op_le (we_glob (v:=.int 2) rfl T.g_LEAST_NAMES ⟨_,rfl⟩) (we_v 0) (we_glob (v:=.int 4) rfl T.g_MOST_NAMES ⟨_,rfl⟩)))) wa_nil))))))))) (wss_one ws_dead) wss_nil)
      (wss_one (ws_ret (we_v 3))))))),?_⟩
    obtain ⟨z1,z2⟩:=wdH_len f4 w4
    have ll:=line_len (ts:=wdH F W) z1 z2
    have sb:=split_back (ts:=wdH F W) (by simp [wdH]) (wdH_free F W)
    refine ⟨_,rfl,?_⟩
    refine rlL ha ?_
    refine ⟨rfl,_,rfl,?_⟩
    rw [decide_eq_false (show ¬ V.int ((V.str (Txt.join bk (wdH F W))::xs).length:Int)=V.int 0 from fun z=>by injection z with z; rw [List.length_cons] at z; omega)]
    refine iteF ?_
    refine ⟨_,rfl,?_⟩
    refine ixL ha (atI_nat (j:=0) rfl) ?_
    refine ⟨rfl,?_⟩
    refine rsplit (b:=bk) (by decide +kernel) (line20 (by omega)) (by rw [sb]; exact line20 (by omega)) fun p1 H1 hp1 e1 s1=>?_
    rw [sb] at e1
    refine ⟨_,rfl,_,rfl,?_⟩
    refine rlL (s1 _ _ hz) ?_
    refine ⟨_,rfl,?_⟩
    refine slL (ys:=[V.str (tx (F:Int)),V.str (tx (W:Int))]) e1 rfl fun q2 H2 hq2 e2 s2=>?_
    have hb:∀ x∈[(F:Int),(W:Int)],0≤x∧x.natAbs<10^50:=fun x hx=>by
      simp only [List.mem_cons,List.not_mem_nil,or_false] at hx
      rcases hx with rfl | rfl
      · exact ⟨by omega,Nat.lt_of_le_of_lt (show (F:Int).natAbs≤4 by omega) (by decide)⟩
      · exact ⟨by omega,Nat.lt_of_le_of_lt (show (W:Int).natAbs≤4 by omega) (by decide)⟩
    refine sp_rdc_i (ns:=[(F:Int),(W:Int)]) (m:=2) rfl e2 (by show 2≤4; decide) hb fun v3 H3 s3 r3=>?_
    obtain ⟨d3,rfl,hd3⟩:=cnts_at r3
    have s13:=s2.trans s3
    have s03:=s1.trans s13
    refine ⟨fun b H'=>Same H3 H'∧b=false,?_,?_⟩
    · refine ⟨_,rfl,_,rfl,?_⟩
      refine rlL (s03 _ _ hz) ?_
      refine ⟨_,rfl,?_⟩
      refine slL (ys:=[V.str wRule]) (s13 _ _ e1) rfl fun q4 H4 hq4 e4 s4=>?_
      refine ⟨_,rfl,?_⟩
      refine reD (d:=.list [.str wRule]) (d':=.list [.str wRule]) (Rep.lst e4 (RepL.cons (Rep.str _) RepL.nil)) (Rep.lst ((s03.trans s4) _ _ hz) (RepL.cons (Rep.str _) RepL.nil)) (by decide +kernel) (by decide +kernel) ?_
      refine ⟨_,rfl,?_⟩
      refine iteFe (by decide +kernel) ?_
      refine ⟨_,rfl,rfl,_,rfl,?_⟩
      refine iteFe (by simp) ?_
      refine ⟨_,rfl,d3,rfl,⟨_,SqT.of (s4 _ _ hd3)⟩,?_⟩
      refine comp_mapU (fun i y _=>y=.bl true) (fun _ _ _ _ _ h=>h) (by show 2≤_; decide) (s4 _ _ hd3) (fun i y H' Q' hy s' k'=>?_) (fun D2 ys H5 hD2 e5 s5 hy5 hr5=>?_)
      · rw [List.getElem?_map] at hy
        obtain ⟨x,hx,rfl⟩:=Option.map_eq_some_iff.mp hy
        have hx4:2≤x∧x≤4:=by
          have:=List.mem_of_getElem? hx
          simp only [List.mem_cons,List.not_mem_nil,or_false] at this
          rcases this with rfl | rfl <;> omega
        refine ⟨_,rfl,_,_,rfl,rfl,_,rfl,?_⟩
        refine iteTe (decide_eq_true hx4.1) ?_
        refine ⟨_,_,rfl,rfl,?_⟩
        exact k' _ H' (Same.refl _) (by show V.bl (decide (x≤4))=_; rw [decide_eq_true hx4.2])
      have ey:ys=[true,true].map V.bl:=by
        have:ys=List.replicate 2 (V.bl true):=List.eq_replicate_iff.mpr ⟨hy5,fun y hy=>by
          obtain ⟨i,hi⟩:=List.mem_iff_getElem?.mp hy
          exact hr5 i y hi⟩
        rw [this]; rfl
      subst ey
      refine rall e5 ?_
      exact ⟨_,rfl,s4.trans s5,rfl⟩
    rintro b H4 ⟨s4,rfl⟩
    refine iteF ?_
    refine ⟨_,rfl,?_⟩
    exact k d3 H4 (s03.trans s4) (s4 _ _ hd3)
theorem ok_read_rule {f:Addr} {fd:FuncData} (F:Fun K "read_rule" "read_rule" s_read_rule f fd) (T:Txt K mg c) (F_read_head:FnC CX0 P w K mg base 4 "read_head" ["lines", "words"] sp_rdh) (F_entries_behind:FnC CX0 P w K mg base 6 "entries_behind" ["lines", "line", "sizes"] sp_ebh):FnOk P w K mg base CX0 7 f fd ["lines"] sp_rdr:=by
  refine F.okw sc_read_rule (fun vs H Q E h=>?_) (fun cdv A outer s H vs Q E hr h=>?_)
  · unfold sp_rdr at h
    obtain ⟨a,F,W,es,rfl,_⟩:=h
    rfl
  · unfold sp_rdr at h
    obtain ⟨a,F,W,es,rfl,ha,en,f2,f4,w2,w4,hl,k⟩:=h
    refine ⟨_,(wss_cons (ws_set (i:=1) sc_read_rule.nd rfl (Or.inl rfl) (we_fn F_read_head (hr.mono (by decide)) (wa_k (we_v 0) (wa_k (we_lst (wa_k (we_glob (v:=.str (Str.ofString "rule")) rfl T.g_RULE_WORD ⟨_,rfl⟩) wa_nil)) wa_nil))))
      (wss_cons (ws_set (i:=2) sc_read_rule.nd rfl (Or.inl rfl) (we_fn F_entries_behind (hr.mono (by decide)) (wa_k (we_v 0) (wa_k we_int (wa_k (we_v 1) wa_nil)))))
      (wss_cons (ws_if (wt_cmp op_lt (we_op op_add we_int (we_cB cl_len (by rfl) T.b_len (by decide +kernel) (wa_k (we_v 2) wa_nil))) (we_cB cl_len (by rfl) T.b_len (by decide +kernel) (wa_k (we_v 0) wa_nil)) (nomark _)) (wss_one ws_dead) wss_nil)
      (wss_one (ws_ret (we_v 2)))))),?_⟩
    refine ⟨_,rfl,?_⟩
    refine nwL (by show 1≤64; decide) fun q1 H1 hq1 e1 s1=>?_
    refine sp_rdh_i (s1 _ _ ha) e1 f2 f4 w2 w4 fun v2 H2 s2 e2=>?_
    have s02:=s1.trans s2
    refine ⟨_,rfl,_,rfl,?_⟩
    refine sp_ebh_i (s02 _ _ ha) e2 en f4 w4 hl fun v3 H3 s3 r3=>?_
    obtain ⟨d3,x3,rfl,hd3,rx3⟩:=tup_at r3
    have s03:=s02.trans s3
    have lx:=reps_len rx3
    refine ⟨_,rfl,?_⟩
    refine rlT hd3 ?_
    refine ⟨_,_,rfl,rfl,?_⟩
    refine ⟨_,rfl,?_⟩
    refine rlL (s03 _ _ ha) ?_
    refine ⟨_,_,rfl,rfl,_,rfl,?_⟩
    refine iteFe (decide_eq_false (by simp only [lnR,List.length_map,List.length_cons]; omega)) ?_
    refine ⟨_,rfl,?_⟩
    exact k _ H3 s03 r3
end
end Kw
set_option Elab.async false
set_option linter.all false
set_option maxRecDepth 100000
namespace Kw
open PySem L2 Mf Mt
abbrev s__law_shown:Stmt:=(top 47)
theorem sc__law_shown:FnScope ["_law_one"] ["_law_one"] (defScope s__law_shown):=⟨rfl,rfl,rfl,by decide +kernel,rfl,by decide +kernel,by decide +kernel⟩
abbrev s__law_lines:Stmt:=(top 48)
theorem sc__law_lines:FnScope ["_law_rule_here", "_law_faces", "_law_lines_here", "_law_counts", "_law_says_here", "_law_words"] ["_law_rule_here"] (defScope s__law_lines):=⟨rfl,rfl,rfl,by decide +kernel,rfl,by decide +kernel,by decide +kernel⟩
abbrev s__law_other:Stmt:=(top 49)
theorem sc__law_other:FnScope ["_law_tape_here", "_law_rule_here", "_law_found", "_law_k", "_law_counts", "_law_says_here", "_law_odd", "_law_more"] ["_law_tape_here", "_law_rule_here"] (defScope s__law_other):=⟨rfl,rfl,rfl,by decide +kernel,rfl,by decide +kernel,by decide +kernel⟩
@[irreducible] def sp_lsn:Sp:=fun vs H Q _=>∃ (v:V) (f:Fr),vs=[v]∧Rep H (frD f) v∧FrT f∧∀ H',Same H H'→Q (.str (TT f)) H'
theorem sp_lsn_i {H:Hp} {Q:VK} {E:XK} {v:V} {f:Fr} (h1:Rep H (frD f) v) (h2:FrT f) (k:∀ H',Same H H'→Q (.str (TT f)) H'):sp_lsn [v] H Q E:=by
  unfold sp_lsn; exact ⟨v,f,rfl,h1,h2,k⟩
@[irreducible] def sp_lln:Sp:=fun vs H Q _=>∃ (v:V) (F W:Nat) (es:List Ent),vs=[v]∧Rep H (ruD es) v∧es≠[]∧(∀ e∈es,EnT F W e)∧F≤4∧W≤4∧es.length≤400∧∀ D H',Same H H'→H D=none→H' D=some (.lst ((lnR F W es).map V.str))→Q (.ref D) H'
theorem sp_lln_i {H:Hp} {Q:VK} {E:XK} {v:V} {F W:Nat} {es:List Ent} (h1:Rep H (ruD es) v) (hn:es≠[]) (h2:∀ e∈es,EnT F W e) (f4:F≤4) (w4:W≤4) (hz:es.length≤400) (k:∀ D H',Same H H'→H D=none→H' D=some (.lst ((lnR F W es).map V.str))→Q (.ref D) H'):sp_lln [v] H Q E:=by
  unfold sp_lln; exact ⟨v,F,W,es,rfl,h1,hn,h2,f4,w4,hz,k⟩
@[irreducible] def sp_lot:Sp:=fun vs H Q _=>∃ (p:Addr) (v:V) (n F W:Nat) (es:List Ent),vs=[.ref p,v]∧TapeAt H p (n+100)∧Rep H (ruD es) v∧es≠[]∧(∀ e∈es,EnT F W e)∧F≤4∧W≤4∧es.length≤320∧∀ u gs H',TapeAt H' p n→SameBut p H H'→Rep H' (ruD gs) u→(∀ e∈gs,EnT F W e)→gs.length≤330→Q u H'
theorem sp_lot_i {H:Hp} {Q:VK} {E:XK} {p:Addr} {v:V} {n F W:Nat} {es:List Ent} (h0:TapeAt H p (n+100)) (h1:Rep H (ruD es) v) (hn:es≠[]) (h2:∀ e∈es,EnT F W e) (f4:F≤4) (w4:W≤4) (hz:es.length≤320) (k:∀ u gs H',TapeAt H' p n→SameBut p H H'→Rep H' (ruD gs) u→(∀ e∈gs,EnT F W e)→gs.length≤330→Q u H'):sp_lot [.ref p,v] H Q E:=by
  unfold sp_lot; exact ⟨p,v,n,F,W,es,rfl,h0,h1,hn,h2,f4,w4,hz,k⟩
theorem rule_sp:(Str.ofString "rule ").cps.toList=wRule.cps.toList++[32]:=by decide +kernel
theorem lineH (F W:Nat):Str.ofString "rule " ++ tx (F:Int)++Str.ofString " " ++ tx (W:Int)=Txt.join bk (wdH F W):=by
  rw [join_is]
  refine str_ext ?_
  unfold wdH
  rw [joinB,joinB,app_cps,app_cps,app_cps,rule_sp,show (Str.ofString " ").cps.toList=[32] from bk_cps,show (Str.join bk [tx (W:Int)]).cps.toList=(tx (W:Int)).cps.toList from rfl]
  simp
theorem atI_mem' {xs:List V} {x:Int} {y:V} (h:atI xs x=some y):y∈xs:=by
  unfold atI at h
  obtain ⟨j,_,h⟩:=Option.bind_eq_some_iff.mp h
  exact List.mem_of_getElem? h
theorem RepL.rev' {H:Hp}:∀ {ds:List PyData} {xs:List V},RepL H ds xs→RepL H ds.reverse xs.reverse
  | [],xs,h=>by unfold RepL at h; subst h; exact RepL.nil
  | d::ds,xs,h=>by
    unfold RepL at h
    obtain ⟨x,ys,rfl,h1,h2⟩:=h
    rw [List.reverse_cons,List.reverse_cons]
    exact RepL.snoc (RepL.rev' h2) h1
theorem RepL.cat' {H:Hp}:∀ {ds es:List PyData} {xs ys:List V},RepL H ds xs→RepL H es ys→RepL H (ds++es) (xs++ys)
  | [],es,xs,ys,h,g=>by unfold RepL at h; subst h; exact g
  | d::ds,es,xs,ys,h,g=>by
    unfold RepL at h
    obtain ⟨x,zs,rfl,h1,h2⟩:=h
    exact RepL.cons h1 (RepL.cat' h2 g)
theorem frs_ex {H:Hp}:∀ {ys:List V},(∀ (i:Nat) (y:V),ys[i]?=some y→∃ f:Fr,Rep H (frD f) y∧FrT f)→∃ fs:List Fr,fs.length=ys.length∧RepL H (fs.map frD) ys∧∀ f∈fs,FrT f
  | [],_=>⟨[],rfl,RepL.nil,fun f hf=>by cases hf⟩
  | y::ys,h=>by
    obtain ⟨f,h1,h2⟩:=h 0 y rfl
    obtain ⟨fs,g1,g2,g3⟩:=frs_ex (ys:=ys) fun i y hy=>h (i+1) y (by simpa using hy)
    exact ⟨f::fs,by rw [List.length_cons,List.length_cons,g1],RepL.cons h1 g2,fun g hg=>by
      rcases List.mem_cons.mp hg with rfl | hg
      · exact h2
      · exact g3 g hg⟩
theorem ints_ex {P:Int→Prop}:∀ {ys:List V},(∀ (i:Nat) (y:V),ys[i]?=some y→∃ x,y=.int x∧P x)→∃ ns:List Int,ys=ns.map V.int∧∀ x∈ns,P x
  | [],_=>⟨[],rfl,fun f hf=>by cases hf⟩
  | y::ys,h=>by
    obtain ⟨x,rfl,h2⟩:=h 0 y rfl
    obtain ⟨ns,rfl,g3⟩:=ints_ex (ys:=ys) fun i y hy=>h (i+1) y (by simpa using hy)
    exact ⟨x::ns,rfl,fun g hg=>by
      rcases List.mem_cons.mp hg with rfl | hg
      · exact h2
      · exact g3 g hg⟩
theorem p4300 {x:Int} (h:x.natAbs<10^50):x.natAbs<10^4300:=Nat.lt_of_lt_of_le h (Nat.pow_le_pow_right (by decide) (by decide))
theorem comp_tpU {σ:St} {js:List Nat} {te:TE} {H:Hp} {Q:VK} {K:PySem.W.Frag} {a:Addr} {xs:List V} {p:Addr} {Fd:Nat→Hp→Prop} (fl:TapeLike p Fd) (F0:Fd 0 H) (R:Nat→V→Hp→Prop) (hR:∀ i y H1 H2,SameT H1 H2→R i y H1→R i y H2) (hz:xs.length≤100000) (hl:H a=some (.tup xs))
    (hs:∀ i x H' (Q':VK),xs[i]?=some x→Fd i H'→SameBut p H H'→(∀ y H5,Fd (i+1) H5→SameBut p H' H5→R i y H5→Q' y H5)→te (some x::slots σ js) H' Q')
    (hd:∀ D ys H',H D=none→H' D=some (.lst ys)→Fd xs.length H'→SameBut p H H'→ys.length=xs.length→(∀ (i:Nat) (y:V),ys[i]?=some y→R i y H')→Q (.ref D) H'):CompB (Itt K a) σ js tYes te H Q:=by
  have na:a≠p:=fun z=>by
    obtain ⟨ys,h⟩:=fl.dic _ H F0
    rw [z,h] at hl; cases hl
  exact comp_tp fl F0 (fun i x=>xs[i]?=some x) R hR hz (fun i H' s hi=>⟨⟨xs,xs[i],SqT.of (s.at na hl),by simp [hi]⟩,fun x H3 y=>⟨y.1,y.2 xs (SqT.of (s.at na hl))⟩⟩) (fun H' s=>⟨xs,SqT.of (s.at na hl),Nat.le_refl _⟩)
    (fun i x H' Q' hx _ f s k=>hs i x H' Q' hx f s k) hd
section
variable {P:Program} {w:World} {K:PySem.W.Frag} {mg:Str→Option Value} {base:Heap} {c:Cl}
theorem ok__law_shown {f:Addr} {fd:FuncData} (F:Fun K "_law_shown" "_law_shown" s__law_shown f fd) (T:Txt K mg c):FnOk P w K mg base CX0 1 f fd ["_law_one"] sp_lsn:=by
  refine F.okw sc__law_shown (fun vs H Q E h=>?_) (fun cdv A outer s H vs Q E hr h=>?_)
  · unfold sp_lsn at h
    obtain ⟨v,f,rfl,_⟩:=h
    rfl
  · unfold sp_lsn at h
    obtain ⟨v,f,rfl,rv,ft,k⟩:=h
    obtain ⟨a,rfl,ha⟩:=frD_at rv
    refine ⟨_,(wss_cons (ws_if (wt_cmp op_eq (we_ix ix_seq (we_v 0) we_int (fun _ _=>rfl)) we_int (nomark _)) (wss_one (ws_ret (we_cT (cl_strI rfl T.nd) (by rfl) T.b_str (by decide +kernel) (wa_k (we_ix ix_seq (we_v 0) we_int (fun _ _=>rfl)) wa_nil)))) wss_nil)
      (wss_one (ws_ret (we_op op_add_str (we_op op_add_str (we_cT (cl_strI rfl T.nd) (by rfl) T.b_str (by decide +kernel) (wa_k (we_ix ix_seq (we_v 0) we_int (fun _ _=>rfl)) wa_nil)) we_str) (we_cT (cl_strI rfl T.nd) (by rfl) T.b_str (by decide +kernel) (wa_k (we_ix ix_seq (we_v 0) we_int (fun _ _=>rfl)) wa_nil)))))),?_⟩
    refine ⟨_,rfl,?_⟩
    refine ixT ha rfl ?_
    refine ⟨rfl,_,rfl,?_⟩
    refine iteD (fun hl=>?_) (fun hl=>?_)
    · have hd:f.2=1:=by injection hl
      refine ⟨_,rfl,?_⟩
      refine ixT ha rfl ?_
      refine rstrI (p4300 ft.n) ?_
      have:=k H (Same.refl _)
      unfold TT at this
      rw [if_pos hd] at this
      exact this
    · have hd:¬ f.2=1:=fun z=>hl (by rw [z])
      refine ⟨_,rfl,?_⟩
      refine ixT ha rfl ?_
      refine rstrI (p4300 ft.n) ?_
      refine ⟨_,_,rfl,rfl,?_,?_⟩
      · have:=tx_lenG ft.n
        exact line20 (show (tx f.1).length+(Str.ofString "/").length≤20000 by rw [show (Str.ofString "/").length=1 by decide +kernel]; omega)
      refine ⟨_,rfl,?_⟩
      refine ixT ha rfl ?_
      refine rstrI (p4300 ft.d) ?_
      refine ⟨_,_,rfl,rfl,?_,?_⟩
      · have h1:=tx_lenG ft.n
        have h2:=tx_lenG ft.d
        exact line20 (show (tx f.1++Str.ofString "/").length+(tx f.2).length≤20000 by rw [app_len,show (Str.ofString "/").length=1 by decide +kernel]; omega)
      have:=k H (Same.refl _)
      unfold TT at this
      rw [if_neg hd] at this
      exact this
theorem ok__law_lines {f:Addr} {fd:FuncData} (F:Fun K "_law_lines" "_law_lines" s__law_lines f fd) (T:Txt K mg c) (F__law_shown:FnC CX0 P w K mg base 1 "_law_shown" ["_law_one"] sp_lsn):FnOk P w K mg base CX0 2 f fd ["_law_rule_here"] sp_lln:=by
  refine F.okw sc__law_lines (fun vs H Q E h=>?_) (fun cdv A outer s H vs Q E hr h=>?_)
  · unfold sp_lln at h
    obtain ⟨v,F,W,es,rfl,_⟩:=h
    rfl
  · unfold sp_lln at h
    obtain ⟨v,F,W,es,rfl,rv,hn,en,f4,w4,hz,k⟩:=h
    refine ⟨_,(wss_cons (ws_set (i:=1) sc__law_lines.nd rfl (Or.inl rfl) (we_cB cl_len (by rfl) T.b_len (by decide +kernel) (wa_k (we_ix ix_seq (we_ix ix_seq (we_v 0) we_int (fun _ _=>rfl)) we_int (fun _ _=>rfl)) wa_nil)))
      (wss_cons (ws_set (i:=2) sc__law_lines.nd rfl (Or.inl rfl) (we_lst (wa_k (we_op op_add_str (we_op op_add_str (we_op op_add_str we_str (we_cT (cl_strI rfl T.nd) (by rfl) T.b_str (by decide +kernel) (wa_k (we_v 1) wa_nil))) we_str) (we_cT (cl_strI rfl T.nd) (by rfl) T.b_str (by decide +kernel) (wa_k (we_op op_sub (we_cB cl_len (by rfl) T.b_len (by decide +kernel) (wa_k (we_ix ix_seq (we_ix ix_seq (we_v 0) we_int (fun _ _=>rfl)) we_int (fun _ _=>rfl)) wa_nil)) we_int) wa_nil))) wa_nil)))
      (wss_cons (ws_for PassesOwn.never rfl (wi_tup (we_v 0)) (wg_tup rfl (wgs_cons (wg_name (i:=3) sc__law_lines.nd rfl (Or.inl rfl)) (wgs_cons (wg_name (i:=4) sc__law_lines.nd rfl (Or.inl rfl)) wgs_nil))) (wss_cons (ws_set (i:=5) sc__law_lines.nd rfl (Or.inl rfl) (we_op op_cat (we_op op_cat (we_lst (wa_k we_str wa_nil)) (we_comp (CScope.of (psc:=defScope s__law_lines) (N:=["_law_rule_here", "_law_faces", "_law_lines_here", "_law_counts", "_law_says_here", "_law_words"]) (N':=["_law_one"]) (js:=[]) (by decide +kernel) rfl rfl rfl) (wi_tup (we_v 3)) (fun _ _ _ _=>wts_nil) (fun _ _ _ _=>(we_cT (cl_strI rfl T.nd) (by rfl) T.b_str (by decide +kernel) (wa_k (we_v 0) wa_nil))))) (we_lst (wa_k we_str wa_nil))))
      (wss_one (ws_expr (we_bm PySem.F.plainAttrs_list PySem.F.slot_list_append PySem.F.type_list_append mt_app (we_v 2) (wa_k (we_bm PySem.F.plainAttrs_str PySem.F.slot_str_join PySem.F.type_str_join (mt_join K) we_str (wa_k (we_op op_cat (we_v 5) (we_comp (CScope.of (psc:=defScope s__law_lines) (N:=["_law_rule_here", "_law_faces", "_law_lines_here", "_law_counts", "_law_says_here", "_law_words"]) (N':=["_law_one"]) (js:=[]) (by decide +kernel) rfl rfl rfl) (wi_tup (we_v 4)) (fun _ _ _ _=>wts_nil) (fun _ _ _ _=>(we_fn F__law_shown (hr.mono (by decide)) (wa_k (we_v 0) wa_nil))))) wa_nil)) wa_nil))))))
      (wss_one (ws_ret (we_v 2)))))),?_⟩
    obtain ⟨e0,es,rfl⟩:∃ e r,es=e::r:=by
      cases es with
      | nil=>exact absurd rfl hn
      | cons e r=>exact ⟨e,r,rfl⟩
    have E0':=en e0 (List.mem_cons_self ..)
    obtain ⟨a,xs,rfl,ha,rxs⟩:=tup_at rv
    have lx:=reps_len rxs
    obtain ⟨x0,hx0,rx0⟩:=reps_get' rxs (i:=0) (f:=e0) rfl
    obtain ⟨b0,ys0,rfl,hb0,rb0⟩:=tup_at rx0
    obtain ⟨y0,z0,rfl,ry0,rz0⟩:=RepL_two rb0
    obtain ⟨d0,rfl,hd0⟩:=cnts_at ry0
    obtain ⟨g0,zs0,rfl,hg0,rzs0⟩:=shD_at rz0
    have c1:=E0'.c
    have c2:=E0'.s
    have hF50:(F:Int).natAbs<10^50:=Nat.lt_of_le_of_lt (show (F:Int).natAbs≤4 by omega) (by decide)
    have hW50:(W:Int).natAbs<10^50:=Nat.lt_of_le_of_lt (show (W:Int).natAbs≤4 by omega) (by decide)
    have lF:=tx_lenG hF50
    have lW:=tx_lenG hW50
    have l5:(Str.ofString "rule ").length=5:=by decide +kernel
    have l1:(Str.ofString " ").length=1:=by decide +kernel
    refine ⟨_,rfl,?_⟩
    refine ixT ha (atI_nat (j:=0) hx0) ?_
    refine ixT hb0 rfl ?_
    refine rlT hd0 ?_
    rw [List.length_map,c1]
    refine ⟨_,rfl,?_⟩
    refine rstrI (p4300 hF50) ?_
    refine ⟨_,_,rfl,rfl,line20 (show (Str.ofString "rule ").length+(tx (F:Int)).length≤20000 by omega),?_⟩
    refine ⟨_,_,rfl,rfl,line20 (show (Str.ofString "rule " ++ tx (F:Int)).length+(Str.ofString " ").length≤20000 by rw [app_len]; omega),?_⟩
    refine ⟨_,rfl,?_⟩
    refine ixT ha (atI_nat (j:=0) hx0) ?_
    refine ixT hb0 rfl ?_
    refine rlT hg0 ?_
    rw [reps_len rzs0,c2]
    refine ⟨_,_,rfl,rfl,?_⟩
    have eW:((fun i j=>V.int (i - j)) (((1+W:Nat):Int)) (1:Int))=V.int (W:Int):=by show V.int (((1+W:Nat):Int) - 1)=_; congr 1; omega
    rw [eW]
    refine rstrI (p4300 hW50) ?_
    refine ⟨_,_,rfl,rfl,line20 (show (Str.ofString "rule " ++ tx (F:Int)++Str.ofString " ").length+(tx (W:Int)).length≤20000 by rw [app_len,app_len]; omega),?_⟩
    refine nwL (by show 1≤64; decide) fun L H1 hL e1 s1=>?_
    have eH:H1 L=some (.lst ((lnR F W ((e0::es).take 0)).map V.str)):=by
      rw [List.take_zero]
      unfold lnR
      rw [← lineH]; exact e1
    refine ⟨_,rfl,a,rfl,⟨_,SqT.of (s1 _ _ ha)⟩,?_⟩
    refine for_tup (xs:=xs) (fun i σ H'=>∃ (o3 o4 o5:Option V),σ=[some (.ref a),some (.int (F:Int)),some (.ref L),o3,o4,o5]∧Same H H'∧H' L=some (.lst ((lnR F W ((e0::es).take i)).map V.str))) ⟨_,_,_,rfl,s1,eH⟩ (fun i σ H' _ q=>?_) ?_ ?_
    · obtain ⟨_,_,_,_,s',_⟩:=q
      exact SqT.of (s' _ _ ha)
    · rintro i x σ H2 hx ⟨o3,o4,o5,rfl,s2,e2⟩
      obtain ⟨e,he,re⟩:=reps_get rxs hx
      have hi:=(List.getElem?_eq_some_iff.mp he).1
      have E1:=en e (List.mem_of_getElem? he)
      obtain ⟨z1,z2⟩:=wdE_len E1 f4 w4
      obtain ⟨b,ys,rfl,hb,rb⟩:=tup_at (re.same s2)
      obtain ⟨y,z,rfl,ry,rz⟩:=RepL_two rb
      obtain ⟨d,rfl,hd⟩:=cnts_at ry
      obtain ⟨g,zs,rfl,hg,rzs⟩:=shD_at rz
      have lzs:=reps_len rzs
      have c1:=E1.c
      have c2:=E1.s
      refine ⟨b,[.ref d,.ref g],rfl,SqT.of hb,rfl,.ref d,[.ref g],rfl,.ref g,[],rfl,rfl,?_⟩
      refine nwL (by show 1≤64; decide) fun q3 H3 hq3 e3 s3=>?_
      refine ⟨_,rfl,d,rfl,⟨_,SqT.of (s3 _ _ hd)⟩,?_⟩
      refine comp_mapU (fun i y _=>∃ x,e.1[i]?=some x∧y=.str (tx x)) (fun _ _ _ _ _ h=>h) (by rw [List.length_map]; omega) (s3 _ _ hd) (fun i y H' Q' hy s' k'=>?_) (fun D4 ys H4 hD4 e4 s4 hy hr4=>?_)
      · rw [List.getElem?_map] at hy
        obtain ⟨x,hx,rfl⟩:=Option.map_eq_some_iff.mp hy
        refine ⟨_,rfl,?_⟩
        exact rstrI (p4300 (E1.n x (List.mem_of_getElem? hx)).2) (k' _ H' (Same.refl _) ⟨x,hx,rfl⟩)
      have ey:=strs_of_map (f:=tx) (by rw [hy,List.length_map]) hr4
      subst ey
      refine catL (s4 _ _ e3) e4 (by simp; omega) fun q5 H5 hq5 e5 s5=>?_
      refine nwL (by show 1≤64; decide) fun q6 H6 hq6 e6 s6=>?_
      refine catL (s6 _ _ e5) e6 (by simp; omega) fun q7 H7 hq7 e7 s7=>?_
      have S37:=(((s3.trans s4).trans s5).trans s6).trans s7
      refine ⟨_,rfl,tyL (S37 _ _ e2),?_⟩
      refine ⟨rfl,?_⟩
      refine ⟨_,rfl,?_⟩
      refine ⟨_,rfl,g,rfl,⟨_,SqT.of (S37 _ _ hg)⟩,?_⟩
      refine comp_mapU (fun i y _=>∃ x,e.2[i]?=some x∧y=.str (TT x)) (fun _ _ _ _ _ h=>h) (by omega) (S37 _ _ hg) (fun i y H' Q' hy s' k'=>?_) (fun D8 ys8 H8 hD8 e8 s8 hy8 hr8=>?_)
      · obtain ⟨f,hf,rf⟩:=reps_get rzs hy
        refine ⟨_,rfl,?_⟩
        exact sp_lsn_i ((rf.same S37).same s') (E1.f f (List.mem_of_getElem? hf)) fun H9 s9=>k' _ H9 s9 ⟨f,hf,rfl⟩
      have ey8:=strs_of_map (f:=TT) (by omega) hr8
      subst ey8
      refine catL (s8 _ _ e7) e8 (by simp; omega) fun q9 H9 hq9 e9 s9=>?_
      have S9:=(S37.trans s8).trans s9
      have ew:([V.str wOn]++(e.1.map tx).map V.str++[V.str wSay])++(e.2.map TT).map V.str=(wdE e).map V.str:=by
        unfold wdE
        simp
      refine rjoin (ts:=wdE e) (sep:=bk) (.inl (SqL.of (by rw [← ew]; exact e9))) (join_ok z1 z2) ?_
      refine appL (S9 _ _ e2) (by simp [lnR]; simp at hz hi; omega) fun H10 e10 b10=>?_
      refine ⟨_,_,_,rfl,Same.thru hL (s2.trans S9) b10,?_⟩
      rw [take_snoc he]
      unfold lnR at e10 ⊢
      rw [List.map_append]
      simpa [lnE] using e10
    · rintro σ H2 ⟨o3,o4,o5,rfl,s2,e2⟩
      rw [lx,List.take_length] at e2
      refine ⟨_,rfl,?_⟩
      exact k L H2 s2 hL e2
theorem ok__law_other {f:Addr} {fd:FuncData} (F:Fun K "_law_other" "_law_other" s__law_other f fd) (T:Txt K mg c) (F__law_pick:FnC CX0 P w K mg base 1 "_law_pick" ["_law_tape_here", "_law_many"] sp_pick):FnOk P w K mg base CX0 2 f fd ["_law_tape_here", "_law_rule_here"] sp_lot:=by
  refine F.okw sc__law_other (fun vs H Q E h=>?_) (fun cdv A outer s H vs Q E hr h=>?_)
  · unfold sp_lot at h
    obtain ⟨p,v,n,F,W,es,rfl,_⟩:=h
    rfl
  · unfold sp_lot at h
    obtain ⟨p,v,n,F,W,es,rfl,tp,rv,hn,en,f4,w4,hz,k⟩:=h
    refine ⟨_,(wss_cons (ws_set (i:=2) sc__law_other.nd rfl (Or.inl rfl) (we_lst wa_nil))
      (wss_cons (ws_for PassesOwn.never rfl (wi_range1 rfl T.b_range (wa_k (we_fn F__law_pick (hr.mono (by decide)) (wa_k (we_v 0) (wa_k we_int wa_nil))) wa_nil)) (wg_name (i:=3) sc__law_other.nd rfl (Or.inl rfl)) (wss_cons (ws_asg (we_ix ix_seq (we_v 1) (we_fn F__law_pick (hr.mono (by decide)) (wa_k (we_v 0) (wa_k (we_cB cl_len (by rfl) T.b_len (by decide +kernel) (wa_k (we_v 1) wa_nil)) wa_nil))) (fun _ _=>rfl)) (wg_tup rfl (wgs_cons (wg_name (i:=4) sc__law_other.nd rfl (Or.inl rfl)) (wgs_cons (wg_name (i:=5) sc__law_other.nd rfl (Or.inl rfl)) wgs_nil))))
      (wss_cons (ws_set (i:=6) sc__law_other.nd rfl (Or.inr rfl) (we_lst (wa_k (we_tup (wa_k (we_un un_neg we_int) (wa_k we_int wa_nil))) (wa_k (we_tup (wa_k (we_op op_pow we_int we_int) (wa_k we_int wa_nil))) (wa_k (we_tup (wa_k we_int (wa_k we_int wa_nil))) (wa_k (we_tup (wa_k we_int (wa_k we_int wa_nil))) (wa_k (we_tup (wa_k we_int (wa_k (we_op op_pow we_int we_int) wa_nil))) (wa_k (we_tup (wa_k (we_un un_neg we_int) (wa_k we_int wa_nil))) wa_nil))))))))
      (wss_cons (ws_set (i:=7) sc__law_other.nd rfl (Or.inl rfl) (we_cT call_tuple_of (by rfl) T.b_tuple (by decide +kernel) (wa_k (we_comp (CScope.of (psc:=defScope s__law_other) (N:=["_law_tape_here", "_law_rule_here", "_law_found", "_law_k", "_law_counts", "_law_says_here", "_law_odd", "_law_more"]) (N':=["_law_share", "_law_tape_here", "_law_odd"]) (js:=[0,6]) (by decide +kernel) rfl rfl rfl) (wi_tup (we_v 5)) (fun _ _ _ _=>wts_nil) (fun _ _ _ _=>(we_ix (ix_seqK K) (we_v 2) (we_fn F__law_pick (hr.mono (by decide)) (wa_k (we_v 1) (wa_k we_int wa_nil))) (fun _ _=>rfl)))) wa_nil)))
      (wss_one (ws_expr (we_bm PySem.F.plainAttrs_list PySem.F.slot_list_append PySem.F.type_list_append mt_app (we_v 2) (wa_k (we_tup (wa_k (we_cT call_tuple_of (by rfl) T.b_tuple (by decide +kernel) (wa_k (we_comp (CScope.of (psc:=defScope s__law_other) (N:=["_law_tape_here", "_law_rule_here", "_law_found", "_law_k", "_law_counts", "_law_says_here", "_law_odd", "_law_more"]) (N':=["_law_one", "_law_tape_here"]) (js:=[0]) (by decide +kernel) rfl rfl rfl) (wi_tup (we_v 4)) (fun _ _ _ _=>wts_nil) (fun _ _ _ _=>(we_op op_mulB (we_fn F__law_pick (hr.mono (by decide)) (wa_k (we_v 1) (wa_k we_int wa_nil))) (we_op op_pow we_int we_int)))) wa_nil)) (wa_k (we_v 7) wa_nil))) wa_nil))))))))
      (wss_one (ws_ret (we_op (op_catU K) (we_revT K (we_slice (sl_tupA K) (we_v 1) wo_none (wo_some (we_fn F__law_pick (hr.mono (by decide)) (wa_k (we_v 0) (wa_k (we_op op_add (we_cB cl_len (by rfl) T.b_len (by decide +kernel) (wa_k (we_v 1) wa_nil)) we_int) wa_nil))))) (we_un un_neg we_int) (fun _ _ _=>⟨fun ⟨i,h,q⟩=>by cases h; exact q,fun q=>⟨1,rfl,q⟩⟩)) (we_cT call_tuple_of (by rfl) T.b_tuple (by decide +kernel) (wa_k (we_v 2) wa_nil))))))),?_⟩
    obtain ⟨a,xs,rfl,ha,rxs⟩:=tup_at rv
    have lx:=reps_len rxs
    have np:a≠p:=tp.neT ha
    have hpos:0<es.length:=List.length_pos_iff.mpr hn
    refine nwL (by show 0≤64; decide) fun L H1 hL e1 s1=>?_
    have nL:L≠p:=tp.ne hL
    refine ⟨_,rfl,?_⟩
    refine sp_pick_i (n:=n+99) (tp.same s1) (by decide) (by decide +kernel) fun x2 H2 a2 b2 F2 s2=>?_
    refine ⟨_,rfl,by omega,by omega,?_⟩
    refine for_range (fun i σ H'=>∃ (o3 o4 o5 o6 o7:Option V) (ys:List V) (gs:List Ent),σ=[some (.ref p),some (.ref a),some (.ref L),o3,o4,o5,o6,o7]∧TapeAt H' p (n+90 - 20*i)∧SameBut p H H'∧H' L=some (.lst ys)∧RepL H' (gs.map enD) ys∧(∀ e∈gs,EnT F W e)∧gs.length=i)
      ⟨_,_,_,_,_,[],[],rfl,F2.less (by omega),s1.but.trans s2,s2.at nL e1,RepL.nil,(fun e he=>by cases he),rfl⟩ ?_ ?_
    · rintro i σ H3 hi ⟨o3,o4,o5,o6,o7,ys,gs,rfl,F3,S3,eL3,r3,en3,l3⟩
      have hi3:i<3:=by omega
      have ha3:=S3.at np ha
      refine ⟨_,rfl,_,rfl,_,rfl,?_⟩
      refine rlT ha3 ?_
      refine sp_pick_i (n:=n+90 - 20*i - 1) (F3.less (by omega)) (by omega) (bitsle (Nat.lt_of_le_of_lt (show ((xs.length:Nat):Int).natAbs≤320 by omega) (by decide))) fun x4 H4 a4 b4 F4 s4=>?_
      obtain ⟨j,rfl⟩:∃ b:Nat,x4=(b:Int):=⟨x4.toNat,by omega⟩
      have hj:j<xs.length:=by omega
      obtain ⟨e,he,re⟩:=reps_get rxs (List.getElem?_eq_getElem hj)
      have E1:=en e (List.mem_of_getElem? he)
      have c1:=E1.c
      have c2:=E1.s
      have t4:SameT H H4:=(tp.t S3).trans (F3.t s4)
      refine ixT (s4.at np ha3) (atI_nat (List.getElem?_eq_getElem hj)) ?_
      obtain ⟨b,zs,hb0,hb,rb⟩:=tup_at (re.flat t4 (en_flat _))
      obtain ⟨y,z,rfl,ry,rz⟩:=RepL_two rb
      obtain ⟨d,rfl,hd⟩:=cnts_at ry
      obtain ⟨g,fz,rfl,hg,rfz⟩:=shD_at rz
      have lfz:=reps_len rfz
      rw [hb0]
      refine ⟨b,[.ref d,.ref g],rfl,SqT.of hb,rfl,.ref d,[.ref g],rfl,.ref g,[],rfl,rfl,?_⟩
      refine ⟨_,rfl,?_⟩
      refine nwT (by show 2≤64; decide) fun q1 K1 hq1 u1 w1=>?_
      refine ⟨_,_,rfl,rfl,⟨by decide,by decide,by decide⟩,?_⟩
      refine nwT (by show 2≤64; decide) fun q2 K2 hq2 u2 w2=>?_
      refine nwT (by show 2≤64; decide) fun q3 K3 hq3 u3 w3=>?_
      refine nwT (by show 2≤64; decide) fun q4 K4 hq4 u4 w4'=>?_
      refine ⟨_,_,rfl,rfl,⟨by decide,by decide,by decide⟩,?_⟩
      refine nwT (by show 2≤64; decide) fun q5 K5 hq5 u5 w5=>?_
      refine ⟨_,rfl,?_⟩
      refine nwT (by show 2≤64; decide) fun q6 K6 hq6 u6 w6=>?_
      refine nwL (by show 6≤64; decide) fun od K7 hod u7 w7=>?_
      have w67:=w6.trans w7
      have w57:=w5.trans w67
      have w47:=w4'.trans w57
      have w37:=w3.trans w47
      have w27:=w2.trans w37
      have w17:=w1.trans w27
      have odd:∀ (x:Int) (y:V),atI [V.ref q1,.ref q2,.ref q3,.ref q4,.ref q5,.ref q6] x=some y→∃ f:Fr,Rep K7 (frD f) y∧FrT f:=fun x y hy=>by
        have hm:y∈[V.ref q1,.ref q2,.ref q3,.ref q4,.ref q5,.ref q6]:=(atI_mem' hy)
        simp only [List.mem_cons,List.not_mem_nil,or_false] at hm
        rcases hm with rfl | rfl | rfl | rfl | rfl | rfl
        · exact ⟨(-7,3),frD_of (f:=(-7,3)) (w27 _ _ u1),⟨by decide,by decide⟩,by decide,by decide⟩
        · exact ⟨(10^30,1),frD_of (f:=(10^30,1)) (w37 _ _ u2),⟨by decide,by decide +kernel⟩,by decide,by decide⟩
        · exact ⟨(0,1),frD_of (f:=(0,1)) (w47 _ _ u3),⟨by decide,by decide⟩,by decide,by decide⟩
        · exact ⟨(5,4),frD_of (f:=(5,4)) (w57 _ _ u4),⟨by decide,by decide⟩,by decide,by decide⟩
        · exact ⟨(1,10^40),frD_of (f:=(1,10^40)) (w67 _ _ u5),⟨by decide,by decide +kernel⟩,by decide,by decide⟩
        · exact ⟨(-1,1),frD_of (f:=(-1,1)) (w7 _ _ u6),⟨by decide,by decide⟩,by decide,by decide⟩
      have F7:=F4.same w17
      have nod:od≠p:=(F4.same (w1.trans (w2.trans (w3.trans (w4'.trans (w5.trans w6)))))).ne hod
      refine ⟨_,rfl,g,rfl,⟨_,SqT.of (w17 _ _ hg)⟩,?_⟩
      refine comp_tpU (TapeAt.like (n:=n) fun q=>n+90 - 20*i - 1 - q) (F7.less (by omega)) (fun _ y H'=>∃ f:Fr,Rep H' (frD f) y∧FrT f) (fun _ y Ha Hb s ⟨f,h1,h2⟩=>⟨f,h1.flat s (frD_flat f),h2⟩) (by omega) (w17 _ _ hg) (fun q x H' Q' hx F' s' k'=>?_) (fun D5 ys5 H5 hD5 e5 F5 s5 hy5 hr5=>?_)
      · have hq:q<fz.length:=(List.getElem?_eq_some_iff.mp hx).1
        refine ⟨_,rfl,_,rfl,?_⟩
        refine sp_pick_i (n:=n+90 - 20*i - 1 - (q+1)) (F'.less (by omega)) (by decide) (by decide +kernel) fun x6 H6 a6 b6 F6 s6=>?_
        obtain ⟨v,hv⟩:∃ v,atI [V.ref q1,.ref q2,.ref q3,.ref q4,.ref q5,.ref q6] x6=some v:=by
          obtain ⟨m,rfl⟩:∃ b:Nat,x6=(b:Int):=⟨x6.toNat,by omega⟩
          exact ⟨_,atI_nat (List.getElem?_eq_getElem (show m<6 by omega))⟩
        refine ixL (s6.at nod (s'.at nod u7)) hv ?_
        obtain ⟨f,h1,h2⟩:=odd x6 v hv
        exact k' _ H6 F6 s6 ⟨f,h1.flat ((F7.t s').trans (F'.t s6)) (frD_flat f),h2⟩
      obtain ⟨fs,lfs,rfs,hfs⟩:∃ fs:List Fr,fs.length=ys5.length∧RepL H5 (fs.map frD) ys5∧∀ f∈fs,FrT f:=frs_ex hr5
      refine ⟨D5,_,rfl,.inl ⟨SqL.of e5,fun l6 hl6=>?_⟩⟩
      have s6:=Same.upd (o:=.tup ys5) hl6
      have e6:(upd H5 l6 (.tup ys5)) l6=some (.tup ys5):=upd_same
      generalize upd H5 l6 (.tup ys5)=H6 at s6 e6
      have F6:=F5.same s6
      have S36:SameBut p H3 H6:=((s4.trans w17.but).trans s5).trans s6.but
      have eL6:=S36.at nL eL3
      have t46:SameT H4 H6:=(w17.t.trans (F7.t s5)).trans s6.t
      refine ⟨_,rfl,tyL eL6,?_⟩
      refine ⟨_,rfl,d,rfl,⟨_,SqT.of (t46 _ _ hd)⟩,?_⟩
      refine comp_tpU (TapeAt.like (n:=n) fun q=>n+90 - 20*i - 1 - fz.length - q) (F6.less (by omega)) (fun _ y _=>∃ x,y=.int x∧(0≤x∧x.natAbs<10^50)) (fun _ y Ha Hb s h=>h) (by rw [List.length_map]; omega) (t46 _ _ hd) (fun q x H' Q' hx F' s' k'=>?_) (fun D7 ys7 H7 hD7 e7 F7' s7 hy7 hr7=>?_)
      · have hq:q<e.1.length:=by have:=(List.getElem?_eq_some_iff.mp hx).1; rwa [List.length_map] at this
        refine ⟨_,rfl,?_⟩
        refine sp_pick_i (n:=n+90 - 20*i - 1 - fz.length - (q+1)) (F'.less (by omega)) (by decide) (by decide +kernel) fun x8 H8 a8 b8 F8 s8=>?_
        refine ⟨_,_,rfl,rfl,⟨by decide,by decide,by decide⟩,?_⟩
        obtain ⟨m,rfl⟩:∃ b:Nat,x8=(b:Int):=⟨x8.toNat,by omega⟩
        refine ⟨_,_,rfl,rfl,?_,?_⟩
        · exact mulB (n:=2) (m:=70) (show (m:Int).natAbs<2^2 by omega) (by decide)
        refine k' _ H8 F8 s8 ⟨_,rfl,?_⟩
        have:m=0∨m=1∨m=2:=by omega
        rcases this with rfl | rfl | rfl <;> exact ⟨by decide,by decide⟩
      obtain ⟨ns,rfl,hns⟩:∃ ns:List Int,ys7=ns.map V.int∧∀ x∈ns,0≤x∧x.natAbs<10^50:=ints_ex hr7
      rw [List.length_map,List.length_map] at hy7
      refine ⟨D7,_,rfl,.inl ⟨SqL.of e7,fun l8 hl8=>?_⟩⟩
      have s8:=Same.upd (o:=.tup (ns.map V.int)) hl8
      have e8:(upd H7 l8 (.tup (ns.map V.int))) l8=some (.tup (ns.map V.int)):=upd_same
      generalize upd H7 l8 (.tup (ns.map V.int))=H8 at s8 e8
      refine ⟨_,rfl,?_⟩
      refine nwT (by show 2≤64; decide) fun q9 H9 hq9 e9 s9=>?_
      have s89:=s8.trans s9
      have S39:SameBut p H3 H9:=(S36.trans s7).trans s89.but
      refine appL (S39.at nL eL3) (by have:=reps_len r3; omega) fun H10 e10 b10=>?_
      have F9:TapeAt H9 p (n+90 - 20*(i+1)):=(F7'.same s89).less (by rw [List.length_map]; omega)
      have t10:=b10.t (S39.at nL eL3)
      have t310:SameT H3 H10:=(F3.t S39).trans t10
      refine ⟨_,_,_,_,_,_,gs++[(ns,fs)],rfl,F9.but b10 nL,SameBut.thru hL (S3.trans S39) b10,e10,?_,?_,by rw [List.length_append,l3]; rfl⟩
      · rw [List.map_append]
        refine RepL.snoc (r3.flat t310 (ru_flat _)) ?_
        refine Rep.tup (t10 _ _ e9) (RepL.cons (Rep.tup (t10 _ _ (s9 _ _ e8)) (ints_rep ns)) (RepL.cons (Rep.tup (t10 _ _ (s89 _ _ (F6.t s7 _ _ e6))) (rfs.flat ((((s6.t).trans (F6.t s7)).trans s89.t).trans t10) (frs_flat _))) RepL.nil))
      · intro e' he'
        rcases List.mem_append.mp he' with he' | he'
        · exact en3 e' he'
        · rw [List.mem_singleton.mp he']
          exact ⟨by show ns.length=F; omega,by show fs.length=1+W; omega,hns,hfs⟩
    · rintro σ H3 ⟨o3,o4,o5,o6,o7,ys,gs,rfl,F3,S3,eL3,r3,en3,l3⟩
      have ha3:=S3.at np ha
      refine ⟨_,rfl,_,rfl,_,rfl,?_⟩
      refine rlT ha3 ?_
      refine ⟨_,_,rfl,rfl,?_⟩
      refine sp_pick_i (n:=n) (F3.less (by omega)) (by omega) (bitsle (Nat.lt_of_le_of_lt (show ((xs.length:Int)+1).natAbs≤321 by omega) (by decide))) fun x4 H4 a4 b4 F4 s4=>?_
      obtain ⟨j,rfl⟩:∃ b:Nat,x4=(b:Int):=⟨x4.toNat,by omega⟩
      refine ⟨_,rfl,?_⟩
      refine slA_hi (k:=j) (s4.at np ha3) fun c5 H5 s5 e5=>?_
      refine revT e5 fun c6 H6 s6 hc6 e6=>?_
      have s46:=s5.trans s6
      have eL6:=s46 _ _ (s4.at nL eL3)
      refine ⟨_,rfl,?_⟩
      refine ⟨L,_,rfl,.inl ⟨SqL.of eL6,fun l7 hl7=>?_⟩⟩
      have s7:=Same.upd (o:=.tup ys) hl7
      have e7:(upd H6 l7 (.tup ys)) l7=some (.tup ys):=upd_same
      generalize upd H6 l7 (.tup ys)=H7 at s7 e7
      have lys:=reps_len r3
      refine catU (s7 _ _ e6) e7 (by rw [List.length_reverse,List.length_take]; omega) fun c8 H8 s8 e8=>?_
      have s48:=(s46.trans s7).trans s8
      have t8:SameT H H8:=((tp.t S3).trans (F3.t s4)).trans s48.t
      refine k _ ((es.take j).reverse++gs) H8 (F4.same s48) ((S3.trans s4).trans s48.but) ?_ ?_ ?_
      · refine Rep.tup e8 ?_
        rw [List.map_append,List.map_reverse]
        refine RepL.cat' (RepL.rev' ?_) (r3.flat ((F3.t s4).trans s48.t) (ru_flat _))
        have r8:=rxs.flat t8 (ru_flat _)
        refine reps_of (by rw [List.length_take,List.length_take,lx]) fun i y hy=>?_
        have hij:i<j:=by
          have:=(List.getElem?_eq_some_iff.mp hy).1
          rw [List.length_take] at this; omega
        rw [List.getElem?_take_of_lt hij] at hy ⊢
        exact reps_get r8 hy
      · intro e he
        rcases List.mem_append.mp he with he | he
        · exact en e (List.mem_of_mem_take (List.mem_reverse.mp he))
        · exact en3 e he
      · rw [List.length_append,List.length_reverse,List.length_take]; omega
end
end Kw
set_option Elab.async false
set_option linter.all false
set_option maxRecDepth 100000
namespace Kw
open PySem L2 Mf Mt
abbrev s_law:Stmt:=(top 50)
theorem sc_law:FnScope ["_law_script", "_law_k", "_law_tape_here", "_law_faces", "_law_ways", "_law_most", "_law_rule_here", "_law_kept", "_law_due", "_law_turn", "_law_lines_here", "_law_other_here"] ["_law_script"] (defScope s_law):=⟨rfl,rfl,rfl,by decide +kernel,rfl,by decide +kernel,by decide +kernel⟩
structure Sw (n w:Nat) (d:PyData):Prop where
  sh:PyData.showable d=true
  nd:PyData.hasDict d=false
  dp:PyData.depth d≤n
  wd:shW d≤w
theorem Sw.all {n w:Nat}:∀ {ds:List PyData},(∀ d∈ds,Sw n w d)→PyData.showableAll ds=true∧PyData.hasDictAll ds=false∧PyData.depthAll ds≤n∧shWs ds≤ds.length*(w+2)
  | [],_=>⟨rfl,rfl,Nat.zero_le _,Nat.zero_le _⟩
  | d::ds,h=>by
    obtain ⟨a,b,c,e⟩:=h d (List.mem_cons_self ..)
    obtain ⟨a',b',c',e'⟩:=Sw.all fun x hx=>h x (List.mem_cons_of_mem d hx)
    refine ⟨?_,?_,?_,?_⟩
    · show (PyData.showable d&&PyData.showableAll ds)=true
      rw [a,a']; rfl
    · show (PyData.hasDict d || PyData.hasDictAll ds)=false
      rw [b,b']; rfl
    · show max (PyData.depth d) (PyData.depthAll ds)≤n
      omega
    · show shW d+2+shWs ds≤(ds.length+1)*(w+2)
      rw [Nat.add_mul,Nat.one_mul]; omega
theorem Sw.tup {n w k:Nat} {ds:List PyData} (h:∀ d∈ds,Sw n w d) (hl:ds.length≤k):Sw (n+1) (k*(w+2)+4) (.tuple ds):=by
  obtain ⟨a,b,c,e⟩:=Sw.all h
  refine ⟨a,b,by show PyData.depthAll ds+1≤n+1; omega,?_⟩
  show shWs ds+4≤_
  have:=Nat.mul_le_mul_right (w+2) hl
  omega
theorem Sw.le {n w m v:Nat} {d:PyData} (h:Sw n w d) (hn:n≤m:=by decide) (hw:w≤v:=by decide):Sw m v d:=⟨h.sh,h.nd,Nat.le_trans h.dp hn,Nat.le_trans h.wd hw⟩
theorem Sw.int {x:Int} {k:Nat} (h:x.natAbs<2^k) (hk:k≤1900:=by decide):Sw 1 1921 (.int x) :=
  ⟨showInt (n:=1900) (Nat.lt_of_lt_of_le h (Nat.pow_le_pow_right (by decide) hk)),rfl,by simp [PyData.depth],Nat.le_refl _⟩
theorem rrW {H:Hp} {Q:VK} {x:V} {d:PyData} {n w:Nat} (r:Rep H d x) (h:Sw n w d) (hn:n≤60) (hw:w≤16000000) (q:Q (.str d.shown) H):rRepr [x] H Q :=
  rrI r h.sh h.nd (Nat.le_trans h.dp hn) (Nat.le_trans (shown_le _ h.sh h.nd) (Nat.le_trans h.wd (Nat.le_trans hw (by decide)))) q
def Shp (n:Nat) (d:PyData):Prop:=PyData.canLay0 d=true∧PyData.depth d≤n
theorem Shp.all {n:Nat}:∀ {ds:List PyData},(∀ d∈ds,Shp n d)→PyData.canLayAll0 ds=true∧PyData.depthAll ds≤n
  | [],_=>⟨rfl,Nat.zero_le _⟩
  | d::ds,h=>by
    obtain ⟨h1,h2⟩:=h d (List.mem_cons_self ..)
    obtain ⟨h3,h4⟩:=Shp.all fun e he=>h e (List.mem_cons_of_mem _ he)
    refine ⟨?_,?_⟩
    · show (PyData.canLay0 d&&PyData.canLayAll0 ds)=true
      rw [h1,h3]; rfl
    · show max (PyData.depth d) (PyData.depthAll ds)≤n
      omega
theorem Shp.lst {n:Nat} {ds:List PyData} (h:∀ d∈ds,Shp n d):Shp (n+1) (.list ds):=⟨(Shp.all h).1,by have:=(Shp.all h).2; show PyData.depthAll ds+1≤n+1; omega⟩
theorem Shp.ok {n:Nat} {d:PyData} (h:Shp n d) (hn:n≤64:=by decide):SeqAt.shaped d=true:=by
  unfold SeqAt.shaped
  rw [h.1,Bool.true_and]
  exact decide_eq_true (by have:=h.2; omega)
theorem EnT.sw {F W:Nat} {e:Ent} (h:EnT F W e) (f4:F≤4) (w4:W≤4):Sw 4 38536 (enD e):=by
  have p166:(10:Nat)^50≤2^170:=by decide
  have c1:=h.c
  have c2:=h.s
  refine (Sw.tup (n:=3) (w:=19264) (k:=2) (fun d hd=>?_) (Nat.le_refl _)).le
  simp only [List.mem_cons,List.not_mem_nil,or_false] at hd
  rcases hd with rfl | rfl
  · refine (Sw.tup (n:=1) (w:=1921) (k:=4) (fun d hd=>?_) (by rw [List.length_map]; omega)).le
    obtain ⟨x,hx,rfl⟩:=List.mem_map.mp hd
    exact Sw.int (k:=170) (Nat.lt_of_lt_of_le (h.n x hx).2 p166)
  · refine Sw.tup (n:=2) (w:=3850) (k:=5) (fun d hd=>?_) (by rw [List.length_map]; omega)
    obtain ⟨f,hf,rfl⟩:=List.mem_map.mp hd
    refine Sw.tup (k:=2) (n:=1) (w:=1921) (fun d hd=>?_) (Nat.le_refl _)
    simp only [List.mem_cons,List.not_mem_nil,or_false] at hd
    rcases hd with rfl | rfl
    · exact Sw.int (k:=170) (Nat.lt_of_lt_of_le (h.f f hf).n p166)
    · exact Sw.int (k:=170) (Nat.lt_of_lt_of_le (h.f f hf).d p166)
theorem rul_sw {F W:Nat} {es:List Ent} (h:∀ e∈es,EnT F W e) (f4:F≤4) (w4:W≤4) (hl:es.length≤400):Sw 5 15415204 (ruD es) :=
  Sw.tup (n:=4) (w:=38536) (k:=400) (fun d hd=>by
    obtain ⟨e,he,rfl⟩:=List.mem_map.mp hd
    exact (h e he).sw f4 w4) (by rw [List.length_map]; exact hl)
theorem strs_rep {H:Hp}:∀ ts:List Str,RepL H (ts.map PyData.str) (ts.map V.str)
  | []=>RepL.nil
  | t::ts=>RepL.cons (Rep.str t) (strs_rep ts)
def lowS (s:Str):Prop:=∀ c∈s.cps.toList,c<200
theorem join_low:∀ ts:List Str,(∀ p∈ts,lowS p)→lowS (Str.join bk ts)
  | [],_=>by
    have:(Str.join bk []).cps.toList=[]:=by decide
    intro c hc
    rw [this] at hc; cases hc
  | [x],h=>h x (by simp)
  | x::y::r,h=>by
    intro c hc
    rw [joinB] at hc
    rcases List.mem_append.mp hc with hc | hc
    · exact h x (by simp) c hc
    · rcases List.mem_cons.mp hc with rfl | hc
      · decide
      · exact join_low (y::r) (fun p hp=>h p (List.mem_cons_of_mem _ hp)) c hc
theorem tx_low (n:Int):lowS (tx n):=by
  intro c h
  rcases Int.lt_or_le n 0 with hn | hn
  · obtain ⟨m,rfl⟩:∃ m:Nat,n=-((m+1:Nat):Int):=⟨(-n - 1).toNat,by omega⟩
    rw [tx_neg] at h
    rcases List.mem_cons.mp h with h | h
    · omega
    · have:=dg_all _ c h; omega
  · obtain ⟨m,rfl⟩:=Int.eq_ofNat_of_zero_le hn
    rw [tx_nat] at h
    have:=dg_all _ c h
    omega
theorem TT_low (f:Fr):lowS (TT f):=by
  unfold TT
  split
  · exact tx_low _
  · intro c h
    rw [app_cps,app_cps] at h
    rcases List.mem_append.mp h with h | h
    · rcases List.mem_append.mp h with h | h
      · exact tx_low _ c h
      · have:c=47:=by simpa [sl] using h
        omega
    · exact tx_low _ c h
theorem word_low:lowS wOn∧lowS wSay∧lowS wRule:=by unfold lowS; decide +kernel
theorem lnR_low (F W:Nat) (es:List Ent):∀ t∈lnR F W es,PyData.strOk t=true:=fun t ht=>by
  obtain ⟨o1,o2,o3⟩:=word_low
  have:lowS t:=by
    rcases List.mem_cons.mp ht with rfl | ht
    · rw [join_is]
      refine join_low _ fun p hp=>?_
      simp only [wdH,List.mem_cons,List.not_mem_nil,or_false] at hp
      rcases hp with rfl | rfl | rfl
      · exact o3
      · exact tx_low _
      · exact tx_low _
    · obtain ⟨e,_,rfl⟩:=List.mem_map.mp ht
      unfold lnE
      rw [join_is]
      refine join_low _ fun p hp=>?_
      rcases List.mem_cons.mp hp with rfl | hp
      · exact o1
      rcases List.mem_append.mp hp with hp | hp
      · obtain ⟨x,_,rfl⟩:=List.mem_map.mp hp
        exact tx_low x
      rcases List.mem_cons.mp hp with rfl | hp
      · exact o2
      · obtain ⟨x,_,rfl⟩:=List.mem_map.mp hp
        exact TT_low x
  unfold PyData.strOk
  rw [← Array.all_toList]
  exact List.all_eq_true.mpr fun c hc=>decide_eq_true (by have:=this c hc; omega)
theorem strs_shaped {ts:List Str} (h:∀ t∈ts,PyData.strOk t=true):SeqAt.shaped (.list (ts.map PyData.str))=true:=(Shp.lst (n:=1) fun d hd=>by
  obtain ⟨t,ht,rfl⟩:=List.mem_map.mp hd
  exact ⟨by simp [PyData.canLay0,h t ht],by simp [PyData.depth]⟩).ok
theorem strs_eqv:∀ ts:List Str,PyData.eqvAll (ts.map PyData.str) (ts.map PyData.str)=true
  | []=>by simp [PyData.eqvAll]
  | t::ts=>by
    rw [List.map_cons]
    show (PyData.eqv (.str t) (.str t)&&PyData.eqvAll _ _)=true
    rw [strs_eqv ts]
    show ((t == t)&&true)=true
    simp
theorem le_sum:∀ {ns:List Int},(∀ x∈ns,0≤x)→∀ x∈ns,x≤ns.sum
  | [],_,x,hx=>by cases hx
  | n::ns,h,x,hx=>by
    have h0:=h n (List.mem_cons_self ..)
    have hs:0≤ns.sum:=by
      clear hx
      have h':=fun x hx=>h x (List.mem_cons_of_mem n hx)
      clear h h0
      induction ns with
      | nil=>simp
      | cons m ns ih =>
        have:=ih fun x hx=>h' x (List.mem_cons_of_mem _ hx)
        have:=h' m (List.mem_cons_self ..)
        rw [List.sum_cons]; omega
    rw [List.sum_cons]
    rcases List.mem_cons.mp hx with rfl | hx
    · omega
    · have:=le_sum (fun x hx=>h x (List.mem_cons_of_mem n hx)) x hx
      omega
theorem RuOk.en {F W M:Nat} {es:List Ent} (h:RuOk F W M es) (Z:SzOk F W M):∀ e∈es,EnT F W e:=fun e he=>by
  obtain ⟨h1,h2,h3,h4⟩:=h.each e he
  have hM:M≤4:=by have:=Z.f; omega
  have w4:=Z.w
  refine ⟨h1,h4.len,fun x hx=>⟨h2 x hx,?_⟩,fun f hf=>?_⟩
  · have:=le_sum h2 x hx
    have:=h2 x hx
    exact Nat.lt_of_le_of_lt (show x.natAbs≤4 by omega) (by decide)
  · obtain ⟨ns,g1,g2,g3,g4⟩:=h4.ex
    rw [g4] at hf
    obtain ⟨x,hx,rfl⟩:=List.mem_map.mp hf
    have b:=sum_le7 g2
    obtain ⟨l1,l2⟩:=lw_le (n:=x) g3
    have:=g2 x hx
    have lo:=lw_low (n:=x) g3
    have lp:=lo.pos
    exact ⟨lo,Nat.lt_of_le_of_lt (show (lw x ns.sum).1.natAbs≤7 by omega) (by decide),Nat.lt_of_le_of_lt (show (lw x ns.sum).2.natAbs≤35 by omega) (by decide)⟩
theorem sqL_keep {K:PySem.W.Frag} {H H':Hp} {a:Addr} {xs:List V} (s:Same H H') (h:SqL K H a xs):SqL K H' a xs:=by
  rcases h with (h | ⟨o,h⟩) | h
  · exact .inl (.inl (s _ _ h))
  · exact .inl (.inr ⟨o,s _ _ h⟩)
  · exact .inr h
section
variable {P:Program} {w:World} {K:PySem.W.Frag} {mg:Str→Option Value} {base:Heap} {c:Cl}
set_option maxHeartbeats 4000000 in
theorem ok_law {f:Addr} {fd:FuncData} (F:Fun K "law" "law" s_law f fd) (T:Txt K mg c)
    (F__law_tape:FnC CX0 P w K mg base 1 "_law_tape" ["_law_script", "_law_at"] (sp_tape K)) (F__law_pick:FnC CX0 P w K mg base 1 "_law_pick" ["_law_tape_here", "_law_many"] sp_pick) (F__law_sizes:FnC CX0 P w K mg base 2 "_law_sizes" ["_law_tape_here"] sp_sizes)
    (F__law_rule:FnC CX0 P w K mg base 4 "_law_rule" ["_law_tape_here", "_law_faces", "_law_ways", "_law_most", "_law_plain"] sp_rule) (F__law_lines:FnC CX0 P w K mg base 2 "_law_lines" ["_law_rule_here"] sp_lln) (F__law_other:FnC CX0 P w K mg base 2 "_law_other" ["_law_tape_here", "_law_rule_here"] sp_lot)
    (F_shown_rule:FnC CX0 P w K mg base 5 "shown_rule" ["rule"] sp_shr) (F_read_rule:FnC CX0 P w K mg base 7 "read_rule" ["lines"] sp_rdr):FnOk P w K mg base CX0 8 f fd ["_law_script"] (sp_law K):=by
  refine F.okw sc_law (fun vs H Q E h=>?_) (fun cdv A outer s H vs Q E hr h=>?_)
  · unfold sp_law at h
    obtain ⟨a,ns,rfl,_⟩:=h
    rfl
  · unfold sp_law at h
    obtain ⟨a,ns,rfl,hS,hl,k⟩:=h
    refine ⟨_,(wss_cons (ws_for PassesOwn.never rfl (wi_range1 rfl T.b_range (wa_k (we_op op_add we_int (we_cB cl_len (by rfl) T.b_len (by decide +kernel) (wa_k (we_slice sl_list (we_v 0) wo_none (wo_some we_int)) wa_nil))) wa_nil)) (wg_name (i:=1) sc_law.nd rfl (Or.inl rfl)) (wss_cons (ws_set (i:=2) sc_law.nd rfl (Or.inl rfl) (we_fn F__law_tape (hr.mono (by decide)) (wa_k (we_v 0) (wa_k (we_v 1) wa_nil))))
      (wss_cons (ws_asg (we_fn F__law_sizes (hr.mono (by decide)) (wa_k (we_v 2) wa_nil)) (wg_tup rfl (wgs_cons (wg_name (i:=3) sc_law.nd rfl (Or.inl rfl)) (wgs_cons (wg_name (i:=4) sc_law.nd rfl (Or.inl rfl)) (wgs_cons (wg_name (i:=5) sc_law.nd rfl (Or.inl rfl)) wgs_nil)))))
      (wss_cons (ws_set (i:=6) sc_law.nd rfl (Or.inl rfl) (we_fn F__law_rule (hr.mono (by decide)) (wa_k (we_v 2) (wa_k (we_v 3) (wa_k (we_v 4) (wa_k (we_v 5) (wa_k (we_cmp op_eq (we_fn F__law_pick (hr.mono (by decide)) (wa_k (we_v 2) (wa_k we_int wa_nil))) we_int (nomark _)) wa_nil)))))))
      (wss_cons (ws_set (i:=7) sc_law.nd rfl (Or.inl rfl) (we_cB (cl_repr hr.gd hr.units) (by rfl) T.b_repr (by decide +kernel) (wa_k (we_v 6) wa_nil)))
      (wss_cons (ws_set (i:=8) sc_law.nd rfl (Or.inl rfl) (we_fn F__law_lines (hr.mono (by decide)) (wa_k (we_v 6) wa_nil)))
      (wss_cons (ws_for PassesOwn.never rfl (wi_range1 rfl T.b_range (wa_k we_int wa_nil)) (wg_name (i:=9) sc_law.nd rfl (Or.inl rfl)) (wss_cons (ws_set (i:=10) sc_law.nd rfl (Or.inl rfl) (we_fn F_shown_rule (hr.mono (by decide)) (wa_k (we_v 6) wa_nil)))
      (wss_cons (ws_if (wt_mono (wt_w (ww_or (wt_not (wt_val (we_cB cl_isi (by rfl) T.b_isinstance (by decide +kernel) (wa_k (we_v 10) (wa_k (we_bltn (v:=.ty "list") (u:=.type "list") rfl T.b_list (by decide +kernel) rfl) wa_nil))))) (ww_or (wt_cmp (op_neD hr.units) (we_v 10) (we_v 8) (nomark _)) (ww_or1 (wt_cmp op_ne (we_cB (cl_repr hr.gd hr.units) (by rfl) T.b_repr (by decide +kernel) (wa_k (we_v 6) wa_nil)) (we_v 7) (nomark _))))))) (wss_one (ws_ret we_bl)) wss_nil)
      (wss_cons (ws_if (wt_mono (wt_w (ww_or (wt_cmp op_ne (we_cB (cl_repr hr.gd hr.units) (by rfl) T.b_repr (by decide +kernel) (wa_k (we_fn F_read_rule (hr.mono (by decide)) (wa_k (we_v 10) wa_nil)) wa_nil)) (we_v 7) (nomark _)) (ww_or1 (wt_cmp (op_neD hr.units) (we_v 10) (we_v 8) (nomark _)))))) (wss_one (ws_ret we_bl)) wss_nil)
      (wss_cons (ws_expr (we_bm PySem.F.plainAttrs_list PySem.F.slot_list_append PySem.F.type_list_append mt_app (we_v 10) (wa_k we_str wa_nil)))
      (wss_one (ws_expr (we_bm0 PySem.F.plainAttrs_list PySem.F.slot_list_reverse PySem.F.type_list_reverse mt_rev (we_v 10)))))))))
      (wss_cons (ws_set (i:=11) sc_law.nd rfl (Or.inl rfl) (we_fn F__law_other (hr.mono (by decide)) (wa_k (we_v 2) (wa_k (we_v 6) wa_nil))))
      (wss_cons (ws_set (i:=10) sc_law.nd rfl (Or.inl rfl) (we_op op_cat (we_slice sl_list (we_v 8) wo_none (wo_some we_int)) (we_slice sl_list (we_fn F__law_lines (hr.mono (by decide)) (wa_k (we_op (op_catU K) (we_slice (sl_tupA K) (we_v 6) wo_none (wo_some we_int)) (we_v 11)) wa_nil)) (wo_some we_int) wo_none)))
      (wss_one (ws_if (wt_cmp op_ne (we_cB (cl_repr hr.gd hr.units) (by rfl) T.b_repr (by decide +kernel) (wa_k (we_fn F_read_rule (hr.mono (by decide)) (wa_k (we_v 10) wa_nil)) wa_nil)) (we_cB (cl_repr hr.gd hr.units) (by rfl) T.b_repr (by decide +kernel) (wa_k (we_v 11) wa_nil)) (nomark _)) (wss_one (ws_ret we_bl)) wss_nil)))))))))))
      (wss_one (ws_ret we_bl))),?_⟩
    refine ⟨_,rfl,_,rfl,a,_,rfl,hS,fun q1 h1=>?_⟩
    refine rlL upd_same ?_
    have s1:=Same.upd (o:=.lst (cutV (ns.map V.int) none (some 14))) h1
    have l19:(cutV (ns.map V.int) none (some 14)).length≤63:=by
      rw [show (some (14:Int))=some ((14:Nat):Int) from rfl,cutV_hi,List.length_take,List.length_map]; omega
    generalize upd H q1 (.lst (cutV (ns.map V.int) none (some 14)))=H0 at s1
    generalize (cutV (ns.map V.int) none (some 14)).length=n0 at l19
    refine ⟨_,_,rfl,rfl,_,rfl,by omega,by omega,?_⟩
    refine for_range (fun i σ H'=>∃ o1 o2 o3 o4 o5 o6 o7 o8 o9 o10 o11:Option V,σ=[some (.ref a),o1,o2,o3,o4,o5,o6,o7,o8,o9,o10,o11]∧Same H H') ⟨_,_,_,_,_,_,_,_,_,_,_,rfl,s1⟩ ?_ ?_
    · rintro i σ H1 hi ⟨o1,o2,o3,o4,o5,o6,o7,o8,o9,o10,o11,rfl,S1⟩
      refine ⟨_,rfl,_,rfl,?_⟩
      refine sp_tape_i (sqL_keep S1 hS) hl (by omega) fun p H2 T2 s2 hp2=>?_
      refine ⟨_,rfl,?_⟩
      refine sp_sizes_i (n:=999999999997) (T2.less (by omega)) fun q3 nF nW nM H3 Z T3 s3 e3=>?_
      refine ⟨q3,_,rfl,SqT.of e3,rfl,?_⟩
      refine ⟨_,_,rfl,_,_,rfl,_,_,rfl,rfl,?_⟩
      refine ⟨_,rfl,_,rfl,_,rfl,_,rfl,_,rfl,?_⟩
      refine sp_pick_i (n:=999999999996) (T3.less (by omega)) (by decide) (by decide +kernel) fun x H4 x0 x1 T4 s4=>?_
      refine ⟨rfl,?_⟩
      refine sp_rule_i (n:=1000000) (T4.less (by omega)) Z fun v es H5 T5 s5 r5 RO=>?_
      have en:=RO.en Z
      have hw:=Z.w
      have hf:2≤nF∧nF≤4:=by have:=Z.f; omega
      have hne:=RO.ne
      have hlen:=RO.len
      have sw:=rul_sw en hf.2 hw.2 (by omega)
      have S15:Same H1 H5:=Same.thru hp2 (Same.thru hp2 (Same.thru hp2 s2 s3) s4) s5
      have S05:Same H H5:=S1.trans S15
      refine ⟨_,rfl,?_⟩
      refine rrW r5 sw (by decide) (by decide) ?_
      generalize hkept:PyData.shown (ruD es)=kept
      refine ⟨_,rfl,?_⟩
      refine sp_lln_i r5 hne en hf.2 hw.2 (by omega) fun D6 H6 s6 hD6 e6=>?_
      have low:=lnR_low nF nW es
      refine ⟨_,rfl,by decide,by decide,?_⟩
      refine for_range (fun j σ H'=>∃ o9 o10:Option V,σ=[some (.ref a),some (.int (0+(i:Nat))),some (.ref p),some (.int (nF:Nat)),some (.int (nW:Nat)),some (.int (nM:Nat)),some v,some (.str kept),some (.ref D6),o9,o10,o11]∧Same H6 H') ⟨_,_,rfl,Same.refl _⟩ ?_ ?_
      · rintro j σ H7 hj ⟨o9',o10',rfl,s7⟩
        refine ⟨_,rfl,?_⟩
        refine sp_shr_i ((r5.same s6).same s7) hne en hf.2 hw.2 (by omega) fun D8 H8 s8 hD8 e8=>?_
        have s68:=s7.trans s8
        have e6':=s68 _ _ e6
        refine ⟨fun b H'=>H'=H8∧b=false,?_,?_⟩
        · refine ⟨_,rfl,?_⟩
          refine riI (d:=.list ((lnR nF nW es).map PyData.str)) (Rep.lst e8 (strs_rep _)) ?_
          refine ⟨_,rfl,?_⟩
          refine iteFe rfl ?_
          refine ⟨_,rfl,_,rfl,?_⟩
          refine reD (d:=.list ((lnR nF nW es).map PyData.str)) (d':=.list ((lnR nF nW es).map PyData.str)) (Rep.lst e8 (strs_rep _)) (Rep.lst e6' (strs_rep _)) (strs_shaped low) (strs_shaped low) ?_
          refine ⟨_,rfl,?_⟩
          refine iteFe (by rw [show PyData.eqv (.list ((lnR nF nW es).map PyData.str)) (.list ((lnR nF nW es).map PyData.str))=PyData.eqvAll ((lnR nF nW es).map PyData.str) ((lnR nF nW es).map PyData.str) from rfl,strs_eqv]; rfl) ?_
          refine ⟨_,rfl,?_⟩
          refine rrW (((r5.same s6).same s7).same s8) sw (by decide) (by decide) ?_
          rw [hkept]
          refine ⟨_,rfl,rfl,_,rfl,rfl,?_⟩
          simp
        rintro b H9 ⟨rfl,rfl⟩
        refine iteF ?_
        refine ⟨fun b H'=>Same H9 H'∧b=false,?_,?_⟩
        · refine ⟨_,rfl,?_⟩
          refine sp_rdr_i e8 en hf.1 hf.2 hw.1 hw.2 (by omega) fun v10 H10 s10 r10=>?_
          refine rrW r10 sw (by decide) (by decide) ?_
          rw [hkept]
          refine ⟨_,rfl,rfl,_,rfl,?_⟩
          refine iteFe (by simp) ?_
          refine ⟨_,rfl,_,rfl,?_⟩
          refine reD (d:=.list ((lnR nF nW es).map PyData.str)) (d':=.list ((lnR nF nW es).map PyData.str)) (Rep.lst (s10 _ _ e8) (strs_rep _)) (Rep.lst (s10 _ _ e6') (strs_rep _)) (strs_shaped low) (strs_shaped low) ?_
          refine ⟨_,rfl,s10,?_⟩
          rw [show PyData.eqv (.list ((lnR nF nW es).map PyData.str)) (.list ((lnR nF nW es).map PyData.str))=PyData.eqvAll ((lnR nF nW es).map PyData.str) ((lnR nF nW es).map PyData.str) from rfl,strs_eqv]; rfl
        rintro b H10 ⟨s10,rfl⟩
        refine iteF ?_
        refine ⟨_,rfl,tyL (s10 _ _ e8),?_⟩
        refine appL (s10 _ _ e8) (by unfold lnR; simp; omega) fun H11 e11 b11=>?_
        refine ⟨_,rfl,tyL e11,?_⟩
        refine revL e11 fun H12 e12 b12=>?_
        have hD6':H6 D8=none:=s7.free hD8
        exact ⟨_,_,rfl,Same.thru hD6' (Same.thru hD6' (s68.trans s10) b11) b12⟩
      · rintro σ H7 ⟨o9',o10',rfl,s7⟩
        have s57:=s6.trans s7
        have T7:=T5.same s57
        have r7:=r5.same s57
        refine ⟨_,rfl,_,rfl,?_⟩
        refine sp_lot_i (n:=100) (T7.less (by omega)) r7 hne en hf.2 hw.2 (by omega) fun u8 gs H8 T8 s8 r8 en8 lg=>?_
        have nD:D6≠p:=T5.ne hD6
        have e8:=s8.at nD (s7 _ _ e6)
        obtain ⟨e0,er,rfl⟩:∃ e r,es=e::r:=by
          cases es with
          | nil=>exact absurd rfl hne
          | cons e r=>exact ⟨e,r,rfl⟩
        obtain ⟨av,xs,rfl,hav,rxs⟩:=tup_at (r7.flat (T7.t s8) (show flatD (ruD (e0::er))=true from ru_flat (e0::er)))
        obtain ⟨au,ys,rfl,hau,rys⟩:=tup_at r8
        have lx:=reps_len rxs
        have ly:=reps_len rys
        refine ⟨_,rfl,_,rfl,D6,_,rfl,SqL.of e8,fun q9 h9=>?_⟩
        have c9:cutV ((lnR nF nW (e0::er)).map V.str) none (some 1)=[V.str (Txt.join bk (wdH nF nW))]:=by
          rw [show (some (1:Int))=some ((1:Nat):Int) from rfl,cutV_hi]; rfl
        rw [c9]
        have s9:=Same.upd (o:=.lst [V.str (Txt.join bk (wdH nF nW))]) h9
        have e9:(upd H8 q9 (.lst [V.str (Txt.join bk (wdH nF nW))])) q9=some (.lst [V.str (Txt.join bk (wdH nF nW))]):=upd_same
        generalize upd H8 q9 (.lst [V.str (Txt.join bk (wdH nF nW))])=H9 at s9 e9
        refine ⟨_,rfl,_,rfl,?_⟩
        refine slA_hi (k:=1) (s9 _ _ hav) fun c10 H10 s10 e10=>?_
        refine ⟨_,rfl,?_⟩
        have s810:=s9.trans s10
        refine catU e10 (s810 _ _ hau) (by rw [List.length_take]; omega) fun c11 H11 s11 e11=>?_
        have s811:=s810.trans s11
        have en11:∀ e∈e0::gs,EnT nF nW e:=fun e he=>by
          rcases List.mem_cons.mp he with rfl | he
          · exact en _ (List.mem_cons_self ..)
          · exact en8 e he
        have r11:Rep H11 (ruD (e0::gs)) (.ref c11):=by
          refine Rep.tup e11 ?_
          rw [List.map_cons]
          rw [List.map_cons] at rxs
          unfold RepL at rxs
          obtain ⟨x0,xr,rfl,rx0,_⟩:=rxs
          exact RepL.cons (rx0.same s811) (rys.same s811)
        refine sp_lln_i r11 (by simp) en11 hf.2 hw.2 (by rw [List.length_cons]; omega) fun D12 H12 s12 hD12 e12=>?_
        refine ⟨_,rfl,D12,_,rfl,SqL.of e12,fun q13 h13=>?_⟩
        have c13:cutV ((lnR nF nW (e0::gs)).map V.str) (some 2) none=(gs.map lnE).map V.str:=by
          rw [show (some (2:Int))=some ((2:Nat):Int) from rfl,cutV_lo]; rfl
        rw [c13]
        have s13:=Same.upd (o:=.lst ((gs.map lnE).map V.str)) h13
        have e13:(upd H12 q13 (.lst ((gs.map lnE).map V.str))) q13=some (.lst ((gs.map lnE).map V.str)):=upd_same
        generalize upd H12 q13 (.lst ((gs.map lnE).map V.str))=H13 at s13 e13
        have s913:=((s10.trans s11).trans s12).trans s13
        refine catL (s913 _ _ e9) e13 (by simp; omega) fun q14 H14 hq14 e14 s14=>?_
        have s814:=(s9.trans s913).trans s14
        have sw8:=rul_sw en8 hf.2 hw.2 (by omega)
        refine ⟨_,rfl,?_⟩
        refine sp_rdr_i (es:=gs) e14 en8 hf.1 hf.2 hw.1 hw.2 (by omega) fun v15 H15 s15 r15=>?_
        refine rrW r15 sw8 (by decide) (by decide) ?_
        refine ⟨_,rfl,?_⟩
        refine rrW ((r8.same s814).same s15) sw8 (by decide) (by decide) ?_
        refine ⟨rfl,_,rfl,?_⟩
        refine iteFe (by simp) ?_
        exact ⟨_,_,_,_,_,_,_,_,_,_,_,rfl,Same.trans S1 (Same.trans (Same.thru hp2 (Same.trans S15 s57) s8) (s814.trans s15))⟩
    · rintro σ H2 ⟨o1,o2,o3,o4,o5,o6,o7,o8,o9,o10,o11,rfl,S2⟩
      exact k H2
end
end Kw
set_option Elab.async false
set_option linter.all false
set_option maxRecDepth 100000
namespace Kw
open PySem L2 Mf Mt
theorem len1 {α:Type} {us:List α} (h:us.length=1):∃ a,us=[a]:=match us,h with | [a],_=>⟨a,rfl⟩
theorem len2 {α:Type} {us:List α} (h:us.length=2):∃ a b,us=[a,b]:=match us,h with | [a,b],_=>⟨a,b,rfl⟩
theorem len3 {α:Type} {us:List α} (h:us.length=3):∃ a b c,us=[a,b,c]:=match us,h with | [a,b,c],_=>⟨a,b,c,rfl⟩
theorem len4 {α:Type} {us:List α} (h:us.length=4):∃ a b c d,us=[a,b,c,d]:=match us,h with | [a,b,c,d],_=>⟨a,b,c,d,rfl⟩
theorem len5 {α:Type} {us:List α} (h:us.length=5):∃ a b c d e,us=[a,b,c,d,e]:=match us,h with | [a,b,c,d,e],_=>⟨a,b,c,d,e,rfl⟩
theorem fnc (l:PySem.W.OpenLaw) (w:World) {K:PySem.W.Frag} {h:Heap} {mg:Str→Option Value} (X:K.In h) (G:h.Ns mainGlobals mg) (base:Heap) {n:Str} {f:Addr} {fd:FuncData} {L:Nat} {ps:List Str} {sp:Sp} (a:PySem.W.nsIn K mainGlobals n=some (some (.ref f))) (k:PySem.W.keepIn K (.ref f)=true) (b:Binds K fd ps []) (o:FnOk l.prog w K mg base CX0 L f fd ps sp):FnC CX0 l.prog w K mg base L n ps sp:=⟨_,_,o,PySem.W.mg_of X G a,k,b⟩
set_option maxHeartbeats 0 in
theorem all_mk {l:PySem.W.OpenLaw} {w:World} {K:PySem.W.Frag} {h:Heap} {mg:Str→Option Value} {fa:Addr} {c_NoFraction:Addr} {tok_FIGURES:Tok} {tok_MOST_FIGURES:Tok} {tok_PIECE_FIGURES:Tok} {tok_LEAST_NAMES:Tok} {tok_MOST_NAMES:Tok} {tok_RULE_WORD:Tok} {tok_ENTRY_WORD:Tok} {tok_SAYS_WORD:Tok} {cd_NoFraction:ClassData} {ce_NoFraction:ClassData} (X:K.In h) (G:h.Ns mainGlobals mg) (hfa:mg "law" = some (.ref fa))
    (u_NoFraction:PySem.W.nsIn K mainGlobals "NoFraction" = some (some (.ref c_NoFraction)))
    (u_FIGURES:PySem.W.nsIn K mainGlobals "FIGURES" = some (some (.str (Str.ofString "0123456789") tok_FIGURES)))
    (u_MOST_FIGURES:PySem.W.nsIn K mainGlobals "MOST_FIGURES" = some (some (.int 4000 tok_MOST_FIGURES)))
    (u_PIECE_FIGURES:PySem.W.nsIn K mainGlobals "PIECE_FIGURES" = some (some (.int 64 tok_PIECE_FIGURES)))
    (u_LEAST_NAMES:PySem.W.nsIn K mainGlobals "LEAST_NAMES" = some (some (.int 2 tok_LEAST_NAMES)))
    (u_MOST_NAMES:PySem.W.nsIn K mainGlobals "MOST_NAMES" = some (some (.int 4 tok_MOST_NAMES)))
    (u_RULE_WORD:PySem.W.nsIn K mainGlobals "RULE_WORD" = some (some (.str (Str.ofString "rule") tok_RULE_WORD)))
    (u_ENTRY_WORD:PySem.W.nsIn K mainGlobals "ENTRY_WORD" = some (some (.str (Str.ofString "on") tok_ENTRY_WORD)))
    (u_SAYS_WORD:PySem.W.nsIn K mainGlobals "SAYS_WORD" = some (some (.str (Str.ofString "say") tok_SAYS_WORD)))
    (x_NoFraction:PySem.W.excIn K c_NoFraction mroVE "ValueError.__new__" = true)
    (ga_NoFraction:PySem.W.findIn K (.ref c_NoFraction) "__getattribute__" = some (some (.builtin "BaseException.__getattribute__")))
    (gt_NoFraction:PySem.W.findIn K (.ref c_NoFraction) "__getattr__" = some none)
    (su_NoFraction:PySem.W.subIn K (.ref c_NoFraction) (.type "BaseException")=some true)
    (cl_NoFraction:PySem.W.clsIn K c_NoFraction=some cd_NoFraction)
    (kc_NoFraction:PySem.W.findIn K (.ref c_NoFraction) "__class__" = some (some (.builtin "object.__class__")))
    (kg_NoFraction:PySem.W.specialIn K (.builtin "object.__class__") "__get__" = some (some (.builtin "getset_descriptor.__get__")))
    (kt_NoFraction:PySem.W.takesIn K (.builtin "object.__class__")=some true)
    (ob_NoFraction:PySem.W.mroIn K c_NoFraction (.type "object")=some true)
    (ty_NoFraction:PySem.W.typeIn K (.ref c_NoFraction)=some (.type "type"))
    (cm_NoFraction:PySem.W.clsIn K c_NoFraction=some ce_NoFraction)
    (sb_NoFraction:PySem.W.subIn K (.ref c_NoFraction) (.type "BaseException")=some true)
    (y0:PySem.W.subIn K (.ref c_NoFraction) (.ref c_NoFraction)=some true)
    (y2:PySem.W.nsOkIn K cStatics=true)
    (y3:PySem.W.nsIn K cStatics "sys.int_max_str_digits" = some none)
    (a0:PySem.W.nsIn K mainGlobals "is_whole" = some (some (.ref f0))) (l0:K.lookup f0=some ⟨oc0,od0,.func (PySem.W.fnOf "is_whole" "is_whole" (defArgs s_is_whole) (defBody s_is_whole) (defScope s_is_whole) .none kV0 dc0 pm0 an0 cd0 ct0),sl0⟩) (c0:PySem.W.codeIn K cd0 "is_whole" = true) (k0:PySem.W.keepIn K (.ref f0)=true)
    (a1:PySem.W.nsIn K mainGlobals "common_divisor" = some (some (.ref f1))) (l1:K.lookup f1=some ⟨oc1,od1,.func (PySem.W.fnOf "common_divisor" "common_divisor" (defArgs s_common_divisor) (defBody s_common_divisor) (defScope s_common_divisor) .none kV1 dc1 pm1 an1 cd1 ct1),sl1⟩) (c1:PySem.W.codeIn K cd1 "common_divisor" = true) (k1:PySem.W.keepIn K (.ref f1)=true)
    (a2:PySem.W.nsIn K mainGlobals "shown_whole" = some (some (.ref f2))) (l2:K.lookup f2=some ⟨oc2,od2,.func (PySem.W.fnOf "shown_whole" "shown_whole" (defArgs s_shown_whole) (defBody s_shown_whole) (defScope s_shown_whole) .none kV2 dc2 pm2 an2 cd2 ct2),sl2⟩) (c2:PySem.W.codeIn K cd2 "shown_whole" = true) (k2:PySem.W.keepIn K (.ref f2)=true)
    (a3:PySem.W.nsIn K mainGlobals "are_figures" = some (some (.ref f3))) (l3:K.lookup f3=some ⟨oc3,od3,.func (PySem.W.fnOf "are_figures" "are_figures" (defArgs s_are_figures) (defBody s_are_figures) (defScope s_are_figures) .none kV3 dc3 pm3 an3 cd3 ct3),sl3⟩) (c3:PySem.W.codeIn K cd3 "are_figures" = true) (k3:PySem.W.keepIn K (.ref f3)=true)
    (a4:PySem.W.nsIn K mainGlobals "read_whole" = some (some (.ref f4))) (l4:K.lookup f4=some ⟨oc4,od4,.func (PySem.W.fnOf "read_whole" "read_whole" (defArgs s_read_whole) (defBody s_read_whole) (defScope s_read_whole) .none kV4 dc4 pm4 an4 cd4 ct4),sl4⟩) (c4:PySem.W.codeIn K cd4 "read_whole" = true) (k4:PySem.W.keepIn K (.ref f4)=true)
    (a5:PySem.W.nsIn K mainGlobals "is_fraction" = some (some (.ref f5))) (l5:K.lookup f5=some ⟨oc5,od5,.func (PySem.W.fnOf "is_fraction" "is_fraction" (defArgs s_is_fraction) (defBody s_is_fraction) (defScope s_is_fraction) .none kV5 dc5 pm5 an5 cd5 ct5),sl5⟩) (c5:PySem.W.codeIn K cd5 "is_fraction" = true) (k5:PySem.W.keepIn K (.ref f5)=true)
    (a6:PySem.W.nsIn K mainGlobals "shown_fraction" = some (some (.ref f6))) (l6:K.lookup f6=some ⟨oc6,od6,.func (PySem.W.fnOf "shown_fraction" "shown_fraction" (defArgs s_shown_fraction) (defBody s_shown_fraction) (defScope s_shown_fraction) .none kV6 dc6 pm6 an6 cd6 ct6),sl6⟩) (c6:PySem.W.codeIn K cd6 "shown_fraction" = true) (k6:PySem.W.keepIn K (.ref f6)=true)
    (a7:PySem.W.nsIn K mainGlobals "read_fraction" = some (some (.ref f7))) (l7:K.lookup f7=some ⟨oc7,od7,.func (PySem.W.fnOf "read_fraction" "read_fraction" (defArgs s_read_fraction) (defBody s_read_fraction) (defScope s_read_fraction) .none kV7 dc7 pm7 an7 cd7 ct7),sl7⟩) (c7:PySem.W.codeIn K cd7 "read_fraction" = true) (k7:PySem.W.keepIn K (.ref f7)=true)
    (a8:PySem.W.nsIn K mainGlobals "shown_counts" = some (some (.ref f8))) (l8:K.lookup f8=some ⟨oc8,od8,.func (PySem.W.fnOf "shown_counts" "shown_counts" (defArgs s_shown_counts) (defBody s_shown_counts) (defScope s_shown_counts) .none kV8 dc8 pm8 an8 cd8 ct8),sl8⟩) (c8:PySem.W.codeIn K cd8 "shown_counts" = true) (k8:PySem.W.keepIn K (.ref f8)=true)
    (a9:PySem.W.nsIn K mainGlobals "shown_fractions" = some (some (.ref f9))) (l9:K.lookup f9=some ⟨oc9,od9,.func (PySem.W.fnOf "shown_fractions" "shown_fractions" (defArgs s_shown_fractions) (defBody s_shown_fractions) (defScope s_shown_fractions) .none kV9 dc9 pm9 an9 cd9 ct9),sl9⟩) (c9:PySem.W.codeIn K cd9 "shown_fractions" = true) (k9:PySem.W.keepIn K (.ref f9)=true)
    (a10:PySem.W.nsIn K mainGlobals "read_counts" = some (some (.ref f10))) (l10:K.lookup f10=some ⟨oc10,od10,.func (PySem.W.fnOf "read_counts" "read_counts" (defArgs s_read_counts) (defBody s_read_counts) (defScope s_read_counts) .none kV10 dc10 pm10 an10 cd10 ct10),sl10⟩) (c10:PySem.W.codeIn K cd10 "read_counts" = true) (k10:PySem.W.keepIn K (.ref f10)=true)
    (a11:PySem.W.nsIn K mainGlobals "read_fractions" = some (some (.ref f11))) (l11:K.lookup f11=some ⟨oc11,od11,.func (PySem.W.fnOf "read_fractions" "read_fractions" (defArgs s_read_fractions) (defBody s_read_fractions) (defScope s_read_fractions) .none kV11 dc11 pm11 an11 cd11 ct11),sl11⟩) (c11:PySem.W.codeIn K cd11 "read_fractions" = true) (k11:PySem.W.keepIn K (.ref f11)=true)
    (a12:PySem.W.nsIn K mainGlobals "rule_faces" = some (some (.ref f12))) (l12:K.lookup f12=some ⟨oc12,od12,.func (PySem.W.fnOf "rule_faces" "rule_faces" (defArgs s_rule_faces) (defBody s_rule_faces) (defScope s_rule_faces) .none kV12 dc12 pm12 an12 cd12 ct12),sl12⟩) (c12:PySem.W.codeIn K cd12 "rule_faces" = true) (k12:PySem.W.keepIn K (.ref f12)=true)
    (a13:PySem.W.nsIn K mainGlobals "rule_ways" = some (some (.ref f13))) (l13:K.lookup f13=some ⟨oc13,od13,.func (PySem.W.fnOf "rule_ways" "rule_ways" (defArgs s_rule_ways) (defBody s_rule_ways) (defScope s_rule_ways) .none kV13 dc13 pm13 an13 cd13 ct13),sl13⟩) (c13:PySem.W.codeIn K cd13 "rule_ways" = true) (k13:PySem.W.keepIn K (.ref f13)=true)
    (a14:PySem.W.nsIn K mainGlobals "shown_head" = some (some (.ref f14))) (l14:K.lookup f14=some ⟨oc14,od14,.func (PySem.W.fnOf "shown_head" "shown_head" (defArgs s_shown_head) (defBody s_shown_head) (defScope s_shown_head) .none kV14 dc14 pm14 an14 cd14 ct14),sl14⟩) (c14:PySem.W.codeIn K cd14 "shown_head" = true) (k14:PySem.W.keepIn K (.ref f14)=true)
    (a15:PySem.W.nsIn K mainGlobals "shown_entries" = some (some (.ref f15))) (l15:K.lookup f15=some ⟨oc15,od15,.func (PySem.W.fnOf "shown_entries" "shown_entries" (defArgs s_shown_entries) (defBody s_shown_entries) (defScope s_shown_entries) .none kV15 dc15 pm15 an15 cd15 ct15),sl15⟩) (c15:PySem.W.codeIn K cd15 "shown_entries" = true) (k15:PySem.W.keepIn K (.ref f15)=true)
    (a16:PySem.W.nsIn K mainGlobals "shown_rule" = some (some (.ref f16))) (l16:K.lookup f16=some ⟨oc16,od16,.func (PySem.W.fnOf "shown_rule" "shown_rule" (defArgs s_shown_rule) (defBody s_shown_rule) (defScope s_shown_rule) .none kV16 dc16 pm16 an16 cd16 ct16),sl16⟩) (c16:PySem.W.codeIn K cd16 "shown_rule" = true) (k16:PySem.W.keepIn K (.ref f16)=true)
    (a17:PySem.W.nsIn K mainGlobals "read_head" = some (some (.ref f17))) (l17:K.lookup f17=some ⟨oc17,od17,.func (PySem.W.fnOf "read_head" "read_head" (defArgs s_read_head) (defBody s_read_head) (defScope s_read_head) .none kV17 dc17 pm17 an17 cd17 ct17),sl17⟩) (c17:PySem.W.codeIn K cd17 "read_head" = true) (k17:PySem.W.keepIn K (.ref f17)=true)
    (a18:PySem.W.nsIn K mainGlobals "read_entry" = some (some (.ref f18))) (l18:K.lookup f18=some ⟨oc18,od18,.func (PySem.W.fnOf "read_entry" "read_entry" (defArgs s_read_entry) (defBody s_read_entry) (defScope s_read_entry) .none kV18 dc18 pm18 an18 cd18 ct18),sl18⟩) (c18:PySem.W.codeIn K cd18 "read_entry" = true) (k18:PySem.W.keepIn K (.ref f18)=true)
    (a19:PySem.W.nsIn K mainGlobals "entries_behind" = some (some (.ref f19))) (l19:K.lookup f19=some ⟨oc19,od19,.func (PySem.W.fnOf "entries_behind" "entries_behind" (defArgs s_entries_behind) (defBody s_entries_behind) (defScope s_entries_behind) .none kV19 dc19 pm19 an19 cd19 ct19),sl19⟩) (c19:PySem.W.codeIn K cd19 "entries_behind" = true) (k19:PySem.W.keepIn K (.ref f19)=true)
    (a20:PySem.W.nsIn K mainGlobals "read_rule" = some (some (.ref f20))) (l20:K.lookup f20=some ⟨oc20,od20,.func (PySem.W.fnOf "read_rule" "read_rule" (defArgs s_read_rule) (defBody s_read_rule) (defScope s_read_rule) .none kV20 dc20 pm20 an20 cd20 ct20),sl20⟩) (c20:PySem.W.codeIn K cd20 "read_rule" = true) (k20:PySem.W.keepIn K (.ref f20)=true)
    (a21:PySem.W.nsIn K mainGlobals "_law_tape" = some (some (.ref f21))) (l21:K.lookup f21=some ⟨oc21,od21,.func (PySem.W.fnOf "_law_tape" "_law_tape" (defArgs s__law_tape) (defBody s__law_tape) (defScope s__law_tape) .none kV21 dc21 pm21 an21 cd21 ct21),sl21⟩) (c21:PySem.W.codeIn K cd21 "_law_tape" = true) (k21:PySem.W.keepIn K (.ref f21)=true)
    (a22:PySem.W.nsIn K mainGlobals "_law_pick" = some (some (.ref f22))) (l22:K.lookup f22=some ⟨oc22,od22,.func (PySem.W.fnOf "_law_pick" "_law_pick" (defArgs s__law_pick) (defBody s__law_pick) (defScope s__law_pick) .none kV22 dc22 pm22 an22 cd22 ct22),sl22⟩) (c22:PySem.W.codeIn K cd22 "_law_pick" = true) (k22:PySem.W.keepIn K (.ref f22)=true)
    (a23:PySem.W.nsIn K mainGlobals "_law_frac" = some (some (.ref f23))) (l23:K.lookup f23=some ⟨oc23,od23,.func (PySem.W.fnOf "_law_frac" "_law_frac" (defArgs s__law_frac) (defBody s__law_frac) (defScope s__law_frac) .none kV23 dc23 pm23 an23 cd23 ct23),sl23⟩) (c23:PySem.W.codeIn K cd23 "_law_frac" = true) (k23:PySem.W.keepIn K (.ref f23)=true)
    (a24:PySem.W.nsIn K mainGlobals "_law_shares" = some (some (.ref f24))) (l24:K.lookup f24=some ⟨oc24,od24,.func (PySem.W.fnOf "_law_shares" "_law_shares" (defArgs s__law_shares) (defBody s__law_shares) (defScope s__law_shares) .none kV24 dc24 pm24 an24 cd24 ct24),sl24⟩) (c24:PySem.W.codeIn K cd24 "_law_shares" = true) (k24:PySem.W.keepIn K (.ref f24)=true)
    (a25:PySem.W.nsIn K mainGlobals "_law_says" = some (some (.ref f25))) (l25:K.lookup f25=some ⟨oc25,od25,.func (PySem.W.fnOf "_law_says" "_law_says" (defArgs s__law_says) (defBody s__law_says) (defScope s__law_says) .none kV25 dc25 pm25 an25 cd25 ct25),sl25⟩) (c25:PySem.W.codeIn K cd25 "_law_says" = true) (k25:PySem.W.keepIn K (.ref f25)=true)
    (a26:PySem.W.nsIn K mainGlobals "_law_next" = some (some (.ref f26))) (l26:K.lookup f26=some ⟨oc26,od26,.func (PySem.W.fnOf "_law_next" "_law_next" (defArgs s__law_next) (defBody s__law_next) (defScope s__law_next) .none kV26 dc26 pm26 an26 cd26 ct26),sl26⟩) (c26:PySem.W.codeIn K cd26 "_law_next" = true) (k26:PySem.W.keepIn K (.ref f26)=true)
    (a27:PySem.W.nsIn K mainGlobals "_law_rule" = some (some (.ref f27))) (l27:K.lookup f27=some ⟨oc27,od27,.func (PySem.W.fnOf "_law_rule" "_law_rule" (defArgs s__law_rule) (defBody s__law_rule) (defScope s__law_rule) .none kV27 dc27 pm27 an27 cd27 ct27),sl27⟩) (c27:PySem.W.codeIn K cd27 "_law_rule" = true) (k27:PySem.W.keepIn K (.ref f27)=true)
    (a28:PySem.W.nsIn K mainGlobals "_law_sizes" = some (some (.ref f28))) (l28:K.lookup f28=some ⟨oc28,od28,.func (PySem.W.fnOf "_law_sizes" "_law_sizes" (defArgs s__law_sizes) (defBody s__law_sizes) (defScope s__law_sizes) .none kV28 dc28 pm28 an28 cd28 ct28),sl28⟩) (c28:PySem.W.codeIn K cd28 "_law_sizes" = true) (k28:PySem.W.keepIn K (.ref f28)=true)
    (a29:PySem.W.nsIn K mainGlobals "_law_shown" = some (some (.ref f29))) (l29:K.lookup f29=some ⟨oc29,od29,.func (PySem.W.fnOf "_law_shown" "_law_shown" (defArgs s__law_shown) (defBody s__law_shown) (defScope s__law_shown) .none kV29 dc29 pm29 an29 cd29 ct29),sl29⟩) (c29:PySem.W.codeIn K cd29 "_law_shown" = true) (k29:PySem.W.keepIn K (.ref f29)=true)
    (a30:PySem.W.nsIn K mainGlobals "_law_lines" = some (some (.ref f30))) (l30:K.lookup f30=some ⟨oc30,od30,.func (PySem.W.fnOf "_law_lines" "_law_lines" (defArgs s__law_lines) (defBody s__law_lines) (defScope s__law_lines) .none kV30 dc30 pm30 an30 cd30 ct30),sl30⟩) (c30:PySem.W.codeIn K cd30 "_law_lines" = true) (k30:PySem.W.keepIn K (.ref f30)=true)
    (a31:PySem.W.nsIn K mainGlobals "_law_other" = some (some (.ref f31))) (l31:K.lookup f31=some ⟨oc31,od31,.func (PySem.W.fnOf "_law_other" "_law_other" (defArgs s__law_other) (defBody s__law_other) (defScope s__law_other) .none kV31 dc31 pm31 an31 cd31 ct31),sl31⟩) (c31:PySem.W.codeIn K cd31 "_law_other" = true) (k31:PySem.W.keepIn K (.ref f31)=true)
    (a32:PySem.W.nsIn K mainGlobals "law" = some (some (.ref f32))) (l32:K.lookup f32=some ⟨oc32,od32,.func (PySem.W.fnOf "law" "law" (defArgs s_law) (defBody s_law) (defScope s_law) .none kV32 dc32 pm32 an32 cd32 ct32),sl32⟩) (c32:PySem.W.codeIn K cd32 "law" = true) (k32:PySem.W.keepIn K (.ref f32)=true) (z0:PySem.W.nsIn K mainGlobals "list" = some none) (z1:PySem.W.nsIn K mainGlobals "len" = some none) (z2:PySem.W.nsIn K mainGlobals "abs" = some none) (z3:PySem.W.nsIn K mainGlobals "isinstance" = some none) (z4:PySem.W.nsIn K mainGlobals "repr" = some none) (z5:PySem.W.nsIn K mainGlobals "range" = some none) (z6:PySem.W.nsIn K mainGlobals "int" = some none) (z7:PySem.W.nsIn K mainGlobals "bool" = some none) (z8:PySem.W.nsIn K mainGlobals "tuple" = some none) (z9:PySem.W.nsIn K mainGlobals "str" = some none) (z10:PySem.W.nsIn K mainGlobals "reversed" = some none) (z11:PySem.W.nsIn K mainGlobals "all" = some none) (z12:PySem.W.nsIn K mainGlobals "sum" = some none) (z13:PySem.W.nsIn K mainGlobals "max" = some none) (z14:PySem.W.nsIn K mainGlobals "sorted" = some none) :
    ∃ fd:FuncData,(∀ (s:Shared) (v:Value),BindsTo s fd ⟨[v],[]⟩ [("_law_script",v)])∧∀ base:Heap,K.In base→base.Ns mainGlobals mg→FnOk l.prog w K mg base CX0 8 fa fd ["_law_script"] (sp_law K):=by
  have e:=hfa.symm.trans (PySem.W.mg_of X G a32)
  cases e
  generalize hcl:(⟨c_NoFraction,tok_FIGURES,tok_MOST_FIGURES,tok_PIECE_FIGURES,tok_LEAST_NAMES,tok_MOST_NAMES,tok_RULE_WORD,tok_ENTRY_WORD,tok_SAYS_WORD⟩:Cl)=c
  have T:Txt K mg c:=by rw [← hcl]; exact ⟨PySem.W.mg_none_of X G z0,PySem.W.mg_none_of X G z1,PySem.W.mg_none_of X G z2,PySem.W.mg_none_of X G z3,PySem.W.mg_none_of X G z4,PySem.W.mg_none_of X G z5,PySem.W.mg_none_of X G z6,PySem.W.mg_none_of X G z7,PySem.W.mg_none_of X G z8,PySem.W.mg_none_of X G z9,PySem.W.mg_none_of X G z10,PySem.W.mg_none_of X G z11,PySem.W.mg_none_of X G z12,PySem.W.mg_none_of X G z13,PySem.W.mg_none_of X G z14,PySem.W.mg_of X G u_NoFraction,PySem.W.mg_of X G u_FIGURES,PySem.W.mg_of X G u_MOST_FIGURES,PySem.W.mg_of X G u_PIECE_FIGURES,PySem.W.mg_of X G u_LEAST_NAMES,PySem.W.mg_of X G u_MOST_NAMES,PySem.W.mg_of X G u_RULE_WORD,PySem.W.mg_of X G u_ENTRY_WORD,PySem.W.mg_of X G u_SAYS_WORD,x_NoFraction,⟨ga_NoFraction,gt_NoFraction,su_NoFraction,(by rw [cl_NoFraction]; rfl),kc_NoFraction,kg_NoFraction,kt_NoFraction,ob_NoFraction⟩,⟨ty_NoFraction,(by rw [cm_NoFraction]; rfl),sb_NoFraction⟩,y0,y2,y3⟩
  have F0:=fun_mk (st:=s_is_whole) l0 c0 k0
  have b0:=F0.binds (ps:=["thing"]) fun _ _ _ _ _ _ us hl=>by obtain ⟨_,rfl⟩:=len1 hl; rfl
  have G_is_whole:=fun base=>fnc l w X G base a0 k0 b0 (ok_is_whole F0 T)
  have F1:=fun_mk (st:=s_common_divisor) l1 c1 k1
  have b1:=F1.binds (ps:=["number", "above_nought"]) fun _ _ _ _ _ _ us hl=>by obtain ⟨_,_,rfl⟩:=len2 hl; rfl
  have G_common_divisor:=fun base=>fnc l w X G base a1 k1 b1 (ok_common_divisor F1 T)
  have F2:=fun_mk (st:=s_shown_whole) l2 c2 k2
  have b2:=F2.binds (ps:=["number"]) fun _ _ _ _ _ _ us hl=>by obtain ⟨_,rfl⟩:=len1 hl; rfl
  have G_shown_whole:=fun base=>fnc l w X G base a2 k2 b2 (ok_shown_whole F2 T)
  have F3:=fun_mk (st:=s_are_figures) l3 c3 k3
  have b3:=F3.binds (ps:=["text"]) fun _ _ _ _ _ _ us hl=>by obtain ⟨_,rfl⟩:=len1 hl; rfl
  have G_are_figures:=fun base=>fnc l w X G base a3 k3 b3 (ok_are_figures F3 T)
  have F4:=fun_mk (st:=s_read_whole) l4 c4 k4
  have b4:=F4.binds (ps:=["text"]) fun _ _ _ _ _ _ us hl=>by obtain ⟨_,rfl⟩:=len1 hl; rfl
  have G_read_whole:=fun base=>fnc l w X G base a4 k4 b4 (ok_read_whole F4 T (G_are_figures base))
  have F5:=fun_mk (st:=s_is_fraction) l5 c5 k5
  have b5:=F5.binds (ps:=["thing"]) fun _ _ _ _ _ _ us hl=>by obtain ⟨_,rfl⟩:=len1 hl; rfl
  have G_is_fraction:=fun base=>fnc l w X G base a5 k5 b5 (ok_is_fraction F5 T (G_is_whole base) (G_common_divisor base))
  have F6:=fun_mk (st:=s_shown_fraction) l6 c6 k6
  have b6:=F6.binds (ps:=["one"]) fun _ _ _ _ _ _ us hl=>by obtain ⟨_,rfl⟩:=len1 hl; rfl
  have G_shown_fraction:=fun base=>fnc l w X G base a6 k6 b6 (ok_shown_fraction F6 T (G_shown_whole base))
  have F7:=fun_mk (st:=s_read_fraction) l7 c7 k7
  have b7:=F7.binds (ps:=["text"]) fun _ _ _ _ _ _ us hl=>by obtain ⟨_,rfl⟩:=len1 hl; rfl
  have G_read_fraction:∀ base:Heap,FnC (CX1 l.prog w) l.prog w K mg base 3 "read_fraction" ["text"] (sp_readf c.NoFraction):=fun base=>⟨_,_,ok_read_fraction F7 T (G_read_whole base) (G_is_fraction base),PySem.W.mg_of X G a7,k7,b7⟩
  have F8:=fun_mk (st:=s_shown_counts) l8 c8 k8
  have b8:=F8.binds (ps:=["counts"]) fun _ _ _ _ _ _ us hl=>by obtain ⟨_,rfl⟩:=len1 hl; rfl
  have G_shown_counts:=fun base=>fnc l w X G base a8 k8 b8 (ok_shown_counts F8 T (G_shown_whole base))
  have F9:=fun_mk (st:=s_shown_fractions) l9 c9 k9
  have b9:=F9.binds (ps:=["some"]) fun _ _ _ _ _ _ us hl=>by obtain ⟨_,rfl⟩:=len1 hl; rfl
  have G_shown_fractions:=fun base=>fnc l w X G base a9 k9 b9 (ok_shown_fractions F9 T (G_shown_fraction base))
  have F10:=fun_mk (st:=s_read_counts) l10 c10 k10
  have b10:=F10.binds (ps:=["words", "many"]) fun _ _ _ _ _ _ us hl=>by obtain ⟨_,_,rfl⟩:=len2 hl; rfl
  have G_read_counts:=fun base=>fnc l w X G base a10 k10 b10 (ok_read_counts F10 T (G_read_whole base))
  have F11:=fun_mk (st:=s_read_fractions) l11 c11 k11
  have b11:=F11.binds (ps:=["words", "many"]) fun _ _ _ _ _ _ us hl=>by obtain ⟨_,_,rfl⟩:=len2 hl; rfl
  have G_read_fractions:=fun base=>fnc l w X G base a11 k11 b11 (ok_read_fractions F11 T (G_read_fraction base))
  have F12:=fun_mk (st:=s_rule_faces) l12 c12 k12
  have b12:=F12.binds (ps:=["rule"]) fun _ _ _ _ _ _ us hl=>by obtain ⟨_,rfl⟩:=len1 hl; rfl
  have G_rule_faces:=fun base=>fnc l w X G base a12 k12 b12 (ok_rule_faces F12 T)
  have F13:=fun_mk (st:=s_rule_ways) l13 c13 k13
  have b13:=F13.binds (ps:=["rule"]) fun _ _ _ _ _ _ us hl=>by obtain ⟨_,rfl⟩:=len1 hl; rfl
  have G_rule_ways:=fun base=>fnc l w X G base a13 k13 b13 (ok_rule_ways F13 T)
  have F14:=fun_mk (st:=s_shown_head) l14 c14 k14
  have b14:=F14.binds (ps:=["words", "faces", "ways"]) fun _ _ _ _ _ _ us hl=>by obtain ⟨_,_,_,rfl⟩:=len3 hl; rfl
  have G_shown_head:=fun base=>fnc l w X G base a14 k14 b14 (ok_shown_head F14 T (G_shown_counts base))
  have F15:=fun_mk (st:=s_shown_entries) l15 c15 k15
  have b15:=F15.binds (ps:=["rule"]) fun _ _ _ _ _ _ us hl=>by obtain ⟨_,rfl⟩:=len1 hl; rfl
  have G_shown_entries:=fun base=>fnc l w X G base a15 k15 b15 (ok_shown_entries F15 T (G_shown_counts base) (G_shown_fractions base))
  have F16:=fun_mk (st:=s_shown_rule) l16 c16 k16
  have b16:=F16.binds (ps:=["rule"]) fun _ _ _ _ _ _ us hl=>by obtain ⟨_,rfl⟩:=len1 hl; rfl
  have G_shown_rule:=fun base=>fnc l w X G base a16 k16 b16 (ok_shown_rule F16 T (G_shown_head base) (G_rule_faces base) (G_rule_ways base) (G_shown_entries base))
  have F17:=fun_mk (st:=s_read_head) l17 c17 k17
  have b17:=F17.binds (ps:=["lines", "words"]) fun _ _ _ _ _ _ us hl=>by obtain ⟨_,_,rfl⟩:=len2 hl; rfl
  have G_read_head:=fun base=>fnc l w X G base a17 k17 b17 (ok_read_head F17 T (G_read_counts base))
  have F18:=fun_mk (st:=s_read_entry) l18 c18 k18
  have b18:=F18.binds (ps:=["words", "sizes"]) fun _ _ _ _ _ _ us hl=>by obtain ⟨_,_,rfl⟩:=len2 hl; rfl
  have G_read_entry:=fun base=>fnc l w X G base a18 k18 b18 (ok_read_entry F18 T (G_read_counts base) (G_read_fractions base))
  have F19:=fun_mk (st:=s_entries_behind) l19 c19 k19
  have b19:=F19.binds (ps:=["lines", "line", "sizes"]) fun _ _ _ _ _ _ us hl=>by obtain ⟨_,_,_,rfl⟩:=len3 hl; rfl
  have G_entries_behind:=fun base=>fnc l w X G base a19 k19 b19 (ok_entries_behind F19 T (G_read_entry base))
  have F20:=fun_mk (st:=s_read_rule) l20 c20 k20
  have b20:=F20.binds (ps:=["lines"]) fun _ _ _ _ _ _ us hl=>by obtain ⟨_,rfl⟩:=len1 hl; rfl
  have G_read_rule:=fun base=>fnc l w X G base a20 k20 b20 (ok_read_rule F20 T (G_read_head base) (G_entries_behind base))
  have F21:=fun_mk (st:=s__law_tape) l21 c21 k21
  have b21:=F21.binds (ps:=["_law_script", "_law_at"]) fun _ _ _ _ _ _ us hl=>by obtain ⟨_,_,rfl⟩:=len2 hl; rfl
  have G__law_tape:=fun base=>fnc l w X G base a21 k21 b21 (ok__law_tape F21 T)
  have F22:=fun_mk (st:=s__law_pick) l22 c22 k22
  have b22:=F22.binds (ps:=["_law_tape_here", "_law_many"]) fun _ _ _ _ _ _ us hl=>by obtain ⟨_,_,rfl⟩:=len2 hl; rfl
  have G__law_pick:=fun base=>fnc l w X G base a22 k22 b22 (ok__law_pick F22 T)
  have F23:=fun_mk (st:=s__law_frac) l23 c23 k23
  have b23:=F23.binds (ps:=["_law_n", "_law_d"]) fun _ _ _ _ _ _ us hl=>by obtain ⟨_,_,rfl⟩:=len2 hl; rfl
  have G__law_frac:=fun base=>fnc l w X G base a23 k23 b23 (ok__law_frac F23 T)
  have F24:=fun_mk (st:=s__law_shares) l24 c24 k24
  have b24:=F24.binds (ps:=["_law_tape_here", "_law_many"]) fun _ _ _ _ _ _ us hl=>by obtain ⟨_,_,rfl⟩:=len2 hl; rfl
  have G__law_shares:=fun base=>fnc l w X G base a24 k24 b24 (ok__law_shares F24 T (G__law_pick base) (G__law_frac base))
  have F25:=fun_mk (st:=s__law_says) l25 c25 k25
  have b25:=F25.binds (ps:=["_law_tape_here", "_law_ways", "_law_stops", "_law_plain"]) fun _ _ _ _ _ _ us hl=>by obtain ⟨_,_,_,_,rfl⟩:=len4 hl; rfl
  have G__law_says:=fun base=>fnc l w X G base a25 k25 b25 (ok__law_says F25 T (G__law_pick base) (G__law_shares base))
  have F26:=fun_mk (st:=s__law_next) l26 c26 k26
  have b26:=F26.binds (ps:=["_law_counts", "_law_says_here"]) fun _ _ _ _ _ _ us hl=>by obtain ⟨_,_,rfl⟩:=len2 hl; rfl
  have G__law_next:=fun base=>fnc l w X G base a26 k26 b26 (ok__law_next F26 T)
  have F27:=fun_mk (st:=s__law_rule) l27 c27 k27
  have b27:=F27.binds (ps:=["_law_tape_here", "_law_faces", "_law_ways", "_law_most", "_law_plain"]) fun _ _ _ _ _ _ us hl=>by obtain ⟨_,_,_,_,_,rfl⟩:=len5 hl; rfl
  have G__law_rule:=fun base=>fnc l w X G base a27 k27 b27 (ok__law_rule F27 T (G__law_says base) (G__law_next base))
  have F28:=fun_mk (st:=s__law_sizes) l28 c28 k28
  have b28:=F28.binds (ps:=["_law_tape_here"]) fun _ _ _ _ _ _ us hl=>by obtain ⟨_,rfl⟩:=len1 hl; rfl
  have G__law_sizes:=fun base=>fnc l w X G base a28 k28 b28 (ok__law_sizes F28 T (G__law_pick base))
  have F29:=fun_mk (st:=s__law_shown) l29 c29 k29
  have b29:=F29.binds (ps:=["_law_one"]) fun _ _ _ _ _ _ us hl=>by obtain ⟨_,rfl⟩:=len1 hl; rfl
  have G__law_shown:=fun base=>fnc l w X G base a29 k29 b29 (ok__law_shown F29 T)
  have F30:=fun_mk (st:=s__law_lines) l30 c30 k30
  have b30:=F30.binds (ps:=["_law_rule_here"]) fun _ _ _ _ _ _ us hl=>by obtain ⟨_,rfl⟩:=len1 hl; rfl
  have G__law_lines:=fun base=>fnc l w X G base a30 k30 b30 (ok__law_lines F30 T (G__law_shown base))
  have F31:=fun_mk (st:=s__law_other) l31 c31 k31
  have b31:=F31.binds (ps:=["_law_tape_here", "_law_rule_here"]) fun _ _ _ _ _ _ us hl=>by obtain ⟨_,_,rfl⟩:=len2 hl; rfl
  have G__law_other:=fun base=>fnc l w X G base a31 k31 b31 (ok__law_other F31 T (G__law_pick base))
  have F32:=fun_mk (st:=s_law) l32 c32 k32
  exact ⟨_,fun s v=>.of_eq rfl,fun base _ _=>ok_law F32 T (G__law_tape base) (G__law_pick base) (G__law_sizes base) (G__law_rule base) (G__law_lines base) (G__law_other base) (G_shown_rule base) (G_read_rule base)⟩
end Kw
namespace PySem.W.Fast
def tw1556766474176942476 := ()
def tw10531882450553089624 := ()
def tw4770050428733966193 := ()
def tw1127662271847343919 := ()
def tw2740084755215335151 := ()
def tw1683412733399132567 := ()
def tw233045086307748376 := ()
def tw10157820613164202762 := ()
def tw6742838103330862946 := ()
def tw2442869917653005109 := ()
def tw445856909985022627 := ()
def tw15779715278557445291 := ()
def tw4014912475293337288 := ()
def tw9486970609671402341 := ()
def tw13609618679778810555 := ()
def tw17178588965817945633 := ()
def tw14918665935555485177 := ()
def tw12532513983083532459 := ()
def tw10181943274661858010 := ()
def tw7873499656908359964 := ()
def tw10539196404912076803 := ()
end PySem.W.Fast
open PySem PySem.W PyProof.Rows
set_option maxRecDepth 100000 in
set_option maxHeartbeats 0 in
theorem PySem.Challenge.cw_earlystop_k36_rules_written_and_read_holds : PySem.Challenge.rw_earlystop_k36_rules_written_and_read.Holds := by
  w_on; o_law; k_head; (case hw=>w_witness2)
  k_fill
  refine L2.walk_ofK (l:=PySem.Challenge.rw_earlystop_k36_rules_written_and_read) (n:=63) (k:=8) (x := "_law_script") (CX:=L2.CX0) (sp:=fun K=>Kw.sp_law K) rfl (by decide) rfl ⟨rfl,by decide,by decide,rfl⟩ (fun w h Y=>PySem.W.kIn_of Y) ?F (fun K H a ns hl _ hS=>Kw.sp_law_i hS hl) (fun _ _ _ _ z=>z)
  case F =>
    intro w mg fa h KX G hmg
    refine' Kw.all_mk KX G hmg ?u_NoFraction ?u_FIGURES ?u_MOST_FIGURES ?u_PIECE_FIGURES ?u_LEAST_NAMES ?u_MOST_NAMES ?u_RULE_WORD ?u_ENTRY_WORD ?u_SAYS_WORD ?x_NoFraction ?ga_NoFraction ?gt_NoFraction ?su_NoFraction ?cl_NoFraction ?kc_NoFraction ?kg_NoFraction ?kt_NoFraction ?ob_NoFraction ?ty_NoFraction ?cm_NoFraction ?sb_NoFraction ?y0 ?y2 ?y3 ?a0 ?l0 ?c0 ?k0 ?a1 ?l1 ?c1 ?k1 ?a2 ?l2 ?c2 ?k2 ?a3 ?l3 ?c3 ?k3 ?a4 ?l4 ?c4 ?k4 ?a5 ?l5 ?c5 ?k5 ?a6 ?l6 ?c6 ?k6 ?a7 ?l7 ?c7 ?k7 ?a8 ?l8 ?c8 ?k8 ?a9 ?l9 ?c9 ?k9 ?a10 ?l10 ?c10 ?k10 ?a11 ?l11 ?c11 ?k11 ?a12 ?l12 ?c12 ?k12 ?a13 ?l13 ?c13 ?k13 ?a14 ?l14 ?c14 ?k14 ?a15 ?l15 ?c15 ?k15 ?a16 ?l16 ?c16 ?k16 ?a17 ?l17 ?c17 ?k17 ?a18 ?l18 ?c18 ?k18 ?a19 ?l19 ?c19 ?k19 ?a20 ?l20 ?c20 ?k20 ?a21 ?l21 ?c21 ?k21 ?a22 ?l22 ?c22 ?k22 ?a23 ?l23 ?c23 ?k23 ?a24 ?l24 ?c24 ?k24 ?a25 ?l25 ?c25 ?k25 ?a26 ?l26 ?c26 ?k26 ?a27 ?l27 ?c27 ?k27 ?a28 ?l28 ?c28 ?k28 ?a29 ?l29 ?c29 ?k29 ?a30 ?l30 ?c30 ?k30 ?a31 ?l31 ?c31 ?k31 ?a32 ?l32 ?c32 ?k32 ?z0 ?z1 ?z2 ?z3 ?z4 ?z5 ?z6 ?z7 ?z8 ?z9 ?z10 ?z11 ?z12 ?z13 ?z14
    (case u_NoFraction=>k_is); (case u_FIGURES=>k_is); (case u_MOST_FIGURES=>k_is); (case u_PIECE_FIGURES=>k_is); (case u_LEAST_NAMES=>k_is); (case u_MOST_NAMES=>k_is); (case u_RULE_WORD=>k_is); (case u_ENTRY_WORD=>k_is); (case u_SAYS_WORD=>k_is); (case x_NoFraction=>k_exc); (case ga_NoFraction=>k_is); (case gt_NoFraction=>k_is); (case su_NoFraction=>k_is); (case cl_NoFraction=>k_is); (case kc_NoFraction=>k_is); (case kg_NoFraction=>k_is); (case kt_NoFraction=>k_is); (case ob_NoFraction=>k_is); (case ty_NoFraction=>k_is); (case cm_NoFraction=>k_is); (case sb_NoFraction=>k_is); (case y0=>k_is); (case y2=>kernel_rfl); (case y3=>k_is); (case a0=>k_is); (case l0=>k_is); (case c0=>k_is); (case k0=>k_is); (case a1=>k_is); (case l1=>k_is); (case c1=>k_is); (case k1=>k_is); (case a2=>k_is); (case l2=>k_is); (case c2=>k_is); (case k2=>k_is); (case a3=>k_is); (case l3=>k_is); (case c3=>k_is); (case k3=>k_is); (case a4=>k_is); (case l4=>k_is); (case c4=>k_is); (case k4=>k_is); (case a5=>k_is); (case l5=>k_is); (case c5=>k_is); (case k5=>k_is); (case a6=>k_is); (case l6=>k_is); (case c6=>k_is); (case k6=>k_is); (case a7=>k_is); (case l7=>k_is); (case c7=>k_is); (case k7=>k_is); (case a8=>k_is); (case l8=>k_is); (case c8=>k_is); (case k8=>k_is); (case a9=>k_is); (case l9=>k_is); (case c9=>k_is); (case k9=>k_is); (case a10=>k_is); (case l10=>k_is); (case c10=>k_is); (case k10=>k_is); (case a11=>k_is); (case l11=>k_is); (case c11=>k_is); (case k11=>k_is); (case a12=>k_is); (case l12=>k_is); (case c12=>k_is); (case k12=>k_is); (case a13=>k_is); (case l13=>k_is); (case c13=>k_is); (case k13=>k_is); (case a14=>k_is); (case l14=>k_is); (case c14=>k_is); (case k14=>k_is); (case a15=>k_is); (case l15=>k_is); (case c15=>k_is); (case k15=>k_is); (case a16=>k_is); (case l16=>k_is); (case c16=>k_is); (case k16=>k_is); (case a17=>k_is); (case l17=>k_is); (case c17=>k_is); (case k17=>k_is); (case a18=>k_is); (case l18=>k_is); (case c18=>k_is); (case k18=>k_is); (case a19=>k_is); (case l19=>k_is); (case c19=>k_is); (case k19=>k_is); (case a20=>k_is); (case l20=>k_is); (case c20=>k_is); (case k20=>k_is); (case a21=>k_is); (case l21=>k_is); (case c21=>k_is); (case k21=>k_is); (case a22=>k_is); (case l22=>k_is); (case c22=>k_is); (case k22=>k_is); (case a23=>k_is); (case l23=>k_is); (case c23=>k_is); (case k23=>k_is); (case a24=>k_is); (case l24=>k_is); (case c24=>k_is); (case k24=>k_is); (case a25=>k_is); (case l25=>k_is); (case c25=>k_is); (case k25=>k_is); (case a26=>k_is); (case l26=>k_is); (case c26=>k_is); (case k26=>k_is); (case a27=>k_is); (case l27=>k_is); (case c27=>k_is); (case k27=>k_is); (case a28=>k_is); (case l28=>k_is); (case c28=>k_is); (case k28=>k_is); (case a29=>k_is); (case l29=>k_is); (case c29=>k_is); (case k29=>k_is); (case a30=>k_is); (case l30=>k_is); (case c30=>k_is); (case k30=>k_is); (case a31=>k_is); (case l31=>k_is); (case c31=>k_is); (case k31=>k_is); (case a32=>k_is); (case l32=>k_is); (case c32=>k_is); (case k32=>k_is); (case z0=>k_is); (case z1=>k_is); (case z2=>k_is); (case z3=>k_is); (case z4=>k_is); (case z5=>k_is); (case z6=>k_is); (case z7=>k_is); (case z8=>k_is); (case z9=>k_is); (case z10=>k_is); (case z11=>k_is); (case z12=>k_is); (case z13=>k_is); (case z14=>k_is)
