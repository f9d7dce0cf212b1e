import PyProof.Rows.All
import Wide.All
import OpenK.AllK
import Wide.FinOn
import Lean
import PyProof.EqAt
import PyProof.EqKinds
import PyProof.TupleCall
import KE.IntBitsLaws
import PyProof.ZipIter
import PyProof.EnumMake
import PyProof.Rows.StrJoin2
import PyProof.Rows.CallKwBuiltin
import PyProof.ListMulRoad
import PyProof.AutoListH
import PyProof.Rows.SeqMore
import PyProof.StationsW
import PyProof.Rows.CatchBare
import OpenK.KRaise
import KE.KIsAll
import OpenK.KOwn
import PyProof.Rows.Digits
import PyProof.Rows.StrOr
import PyProof.StrCalls2
import PyProof.StrBlock2
import KE.KIntText
import KE.KRevIter
import KE.LcSums
import PyProof.SliceStr2
import PyProof.StrBlockG
import PyProof.JoinWalk
import PyProof.StrWalks
import PyProof.StrLawsIn
import PyProof.StrLawsIdx
import PyProof.StrLawsChain
import PyProof.Rows.StrSplitCount
import PyProof.Rows.StrSplitJoin
import KE.IntTextText
import PyProof.Rows.SumAny
import PyProof.WalksMore
import KE.KSortTup
import PyProof.ExcInit
import PyProof.AttrMissHeap
import PyProof.TupleIter
import KE.KDictOf
import PyProof.DictWalks
import PyProof.DictValues
import KE.KDictList
import PyProof.Rows.MinMaxN
import PyProof.Rows.TupDisplay
import PyProof.DictTruth
import PySem.Challenge.RW_earlystop_k37_lines_of_no_rule
set_option Elab.async false
set_option linter.all false
set_option maxRecDepth 100000
namespace L2
open PySem PySem.Spec PyProof.Rows
abbrev Key:=Sum Int Str
def keyIs:Key→Value→Bool
  | .inl k,v=>Value.isInt k v
  | .inr x,v=>Value.isStrOf x v
def keyH (w:World):Key→Int
  | .inl k=>hashInt k
  | .inr x=>hashStr w x
theorem keyIs_shape:∀ {k:Key} {v:Value},keyIs k v=true→(∃ i t,k=Sum.inl i∧v=Value.int i t)∨(∃ x t,k=Sum.inr x∧v=Value.str x t)
  | .inl i,v,h=>by
    obtain ⟨t,e⟩:=Value.isInt_shape (k:=i) (v:=v) h
    exact .inl ⟨i,t,rfl,e⟩
  | .inr x,v,h=>by
    obtain ⟨t,e⟩:=Value.isStrOf_shape (x:=x) (v:=v) h
    exact .inr ⟨x,t,rfl,e⟩
theorem keyIs_int (i:Int) (t:Tok):keyIs (.inl i) (.int i t)=true:=by simp [keyIs,Value.isInt]
theorem keyIs_str (x:Str) (t:Tok):keyIs (.inr x) (.str x t)=true:=by simp [keyIs,Value.isStrOf]
theorem key_ll (a b:Int):decide ((Sum.inl a:Key)=Sum.inl b)=(a == b):=by
  by_cases e:a=b
  · subst e; simp
  · have h:¬ (Sum.inl a:Key)=Sum.inl b:=fun q=>e (Sum.inl.inj q)
    rw [decide_eq_false h]
    exact (beq_eq_false_iff_ne.mpr e).symm
theorem key_rr (a b:Str):decide ((Sum.inr a:Key)=Sum.inr b)=decide (a=b):=by
  by_cases e:a=b
  · subst e; simp
  · have h:¬ (Sum.inr a:Key)=Sum.inr b:=fun q=>e (Sum.inr.inj q)
    rw [decide_eq_false h,decide_eq_false e]
theorem key_lr (a:Int) (b:Str):decide ((Sum.inl a:Key)=Sum.inr b)=false:=decide_eq_false (fun q=>nomatch q)
theorem key_rl (a:Str) (b:Int):decide ((Sum.inr a:Key)=Sum.inl b)=false:=decide_eq_false (fun q=>nomatch q)
def mixKind (prog:Program) (w:World):PySem.KeyKind prog w Key where
  is:=keyIs
  hash:=keyH w
  inj:=fun v a b ha hb=>by
    rcases keyIs_shape ha with ⟨i,t,rfl,rfl⟩ | ⟨x,t,rfl,rfl⟩
    · rcases keyIs_shape hb with ⟨j,u,rfl,e⟩ | ⟨y,u,rfl,e⟩
      · injection e with e1 _; rw [e1]
      · exact nomatch e
    · rcases keyIs_shape hb with ⟨j,u,rfl,e⟩ | ⟨y,u,rfl,e⟩
      · exact nomatch e
      · injection e with e1 _; rw [e1]
  byValue:=fun k v h=>by
    rcases keyIs_shape h with ⟨i,t,rfl,rfl⟩ | ⟨x,t,rfl,rfl⟩ <;> rfl
  pyHash:=fun hv h=>by
    rcases keyIs_shape hv with ⟨i,t,rfl,rfl⟩ | ⟨x,t,rfl,rfl⟩
    · exact wpAny_pyHash_int h
    · exact wpAny_pyHash_str h
  eqBool:=fun hu hv h=>by
    rcases keyIs_shape hu with ⟨i,t,rfl,rfl⟩ | ⟨x,t,rfl,rfl⟩
    · rcases keyIs_shape hv with ⟨j,u,rfl,rfl⟩ | ⟨y,u,rfl,rfl⟩
      · rw [key_ll] at h; exact wpAny_eqBool_int h
      · rw [key_lr] at h; exact SeqAt.EqAt.int_str i t y u _ _ _ _ h
    · rcases keyIs_shape hv with ⟨j,u,rfl,rfl⟩ | ⟨y,u,rfl,rfl⟩
      · rw [key_rl] at h; exact SeqAt.EqAt.str_int x t j u _ _ _ _ h
      · rw [key_rr] at h; exact wpAny_eqBool_str h
  «strs» := fun k x t v h=>by
    rcases keyIs_shape h with ⟨i,u,rfl,e⟩ | ⟨y,u,rfl,e⟩
    · exact nomatch e
    · injection e with e1 _
      subst e1
      cases v <;> rfl
theorem mixKind_int (prog:Program) (w:World) (i:Int) (t:Tok):(mixKind prog w).is (.inl i) (.int i t)=true:=keyIs_int i t
theorem mixKind_str (prog:Program) (w:World) (x:Str) (t:Tok):(mixKind prog w).is (.inr x) (.str x t)=true:=keyIs_str x t
end L2
namespace L2
open PySem PySem.Spec PyProof.Rows
inductive V where
  | non | bl (b:Bool) | int (i:Int) | str (x:Str) | byt (b:Array UInt8) | flt (b:UInt64) | ref (a:Addr) | ty (n:String)
  deriving DecidableEq
def RelV:V→Value→Prop
  | .non,u=>u=Value.none
  | .bl b,u=>u=Value.bool b
  | .int i,u=>∃ t,u=Value.int i t
  | .str x,u=>∃ t,u=Value.str x t
  | .byt b,u=>∃ t,u=Value.bytes b t
  | .flt b,u=>∃ t,u=Value.float b t
  | .ref a,u=>u=Value.ref a
  | .ty n,u=>u=Value.type n
abbrev Vals:List V→List Value→Prop:=Paired RelV
theorem Vals.length {xs:List V} {us:List Value} (r:Vals xs us):xs.length=us.length:=Paired.length r
theorem Vals.get:∀ {xs:List V} {us:List Value} {i:Nat} {x:V},Vals xs us→xs[i]?=some x→∃ u,us[i]?=some u∧RelV x u
  | _,_,_,_,.nil,e=>by simp at e
  | _,_,0,_,.cons r _,e=>by simp at e; subst e; exact ⟨_,rfl,r⟩
  | _,_,i+1,x,.cons _ t,e=>by
    obtain ⟨u,h1,h2⟩:=Vals.get (i:=i) (x:=x) t (by simpa using e)
    exact ⟨u,by simpa using h1,h2⟩
theorem Vals.set {x:V} {u:Value} (r:RelV x u):∀ {xs:List V} {us:List Value} (i:Nat),Vals xs us→Vals (xs.set i x) (us.set i u)
  | _,_,_,.nil=>.nil
  | _,_,0,.cons _ t=>.cons r t
  | _,_,i+1,.cons q t=>.cons q (Vals.set r i t)
theorem Vals.append:∀ {xs ys:List V} {us ws:List Value},Vals xs us→Vals ys ws→Vals (xs++ys) (us++ws)
  | _,_,_,_,.nil,s=>s
  | _,_,_,_,.cons r t,s=>.cons r (Vals.append t s)
theorem Vals.take:∀ {xs:List V} {us:List Value} (n:Nat),Vals xs us→Vals (xs.take n) (us.take n)
  | _,_,0,_=>.nil
  | _,_,_+1,.nil=>.nil
  | _,_,n+1,.cons r t=>.cons r (Vals.take n t)
theorem Vals.drop:∀ {xs:List V} {us:List Value} (n:Nat),Vals xs us→Vals (xs.drop n) (us.drop n)
  | _,_,0,r=>r
  | _,_,_+1,.nil=>.nil
  | _,_,n+1,.cons _ t=>Vals.drop n t
def RelO:Option V→Option Value→Prop
  | some v,some u=>RelV v u
  | none,none=>True
  | _,_=>False
def KV {κ:Type}:List (κ × V)→List (κ × Value)→Prop:=Paired fun (p:κ × V) (q:κ × Value)=>p.1=q.1∧RelV p.2 q.2
def kV:Key→V
  | .inl i=>.int i
  | .inr x=>.str x
inductive HO where
  /-- a list -/
  | lst (xs:List V)
  /-- a tuple (never changes) -/
  | tup (xs:List V)
  /-- a dict whose keys are ints and texts; one whose keys are tuples of ints and texts (the empty one is both) -/
  | dK (kvs:List (Key × V)) | dT (kvs:List (List Key × V))
  /-- a set of ints: its members,its size -/
  | set (S:Int→Bool) (n:Nat)
  /-- an instance of the class at C,its dict at dx,its attributes -/
  | ins (C dx:Addr) (fs:List (Str × V))
  /-- the dict of the instance at x -/
  | own (x:Addr)
  /-- the dict of an exception -/
  | xd (fs:List (Str × V))
  /-- a bound method,f of x -/
  | met (f x:Addr)
  /-- a range object lo,lo+1,.. below hi -/
  | rng (lo hi:Int)
  /-- a thing that is known to the object (the script; a dict while a loop walks it): read,never written while it is so -/
  | frz (o:Obj) (u:HO)
  /-- a code object's table -/
  | tbl (ps:Array Value)
  /-- any other thing,by what is true of its one object (a def of one's own: SetO a S n:=HO.ext fun h=>..) -/
  | ext (φ:Heap→Prop)
abbrev Hp:=Addr→Option HO
def upd (H:Hp) (a:Addr) (o:HO):Hp:=fun b=>if b=a then some o else H b
theorem upd_same {H:Hp} {a:Addr} {o:HO}:upd H a o a=some o:=by unfold upd; rw [if_pos rfl]
theorem upd_ne {H:Hp} {a b:Addr} {o:HO} (h:b≠a):upd H a o b=H b:=by unfold upd; rw [if_neg h]
theorem ne_of {H:Hp} {a b:Addr} {o u:HO} (h:H a=some o) (h':H b=some u) (d:o≠u):a≠b:=by
  intro e; subst e; rw [h] at h'; exact d (Option.some.inj h')
theorem ne_of_none {H:Hp} {a b:Addr} {o:HO} (h:H a=some o) (h':H b=none):a≠b:=by
  intro e; subst e; rw [h] at h'; cases h'
section
variable (P:Program) (w:World)
def ObjOk (H:Hp) (h:Heap) (a:Addr):HO→Prop
  | .lst xs=>xs.length≤sizeLine∧∃ (its:List Value) (n:Nat),Vals xs its∧h.get? a=some { cls:=.type "list",data:=.seq its.toArray n }
  | .tup xs=>(xs.length≤sizeLine∧∃ o,h.get? a=some o∧o.dict=none)∧∃ its:List Value,Vals xs its∧IsTup h a its.toArray
  | .dK kvs=>kvs.length≤sizeLine∧(a == sysModules)=false∧∃ vs,KV kvs vs∧h.DictOf (mixKind P w) a vs
  | .dT kvs=>kvs.length≤sizeLine∧(a == sysModules)=false∧∃ xs:List (List Key × Addr × Value),
      Paired (fun (p:List Key × V) (q:List Key × Addr × Value)=>p.1=q.1∧H q.2.1=some (.tup (p.1.map kV))∧RelV p.2 q.2.2) kvs xs ∧
      ∃ o es ep,h.get? a=some o∧o.ExactDict∧o.data=.dict es ep∧es.toList=xs.map (entryOfKey (tupleKind (mixKind P w)))∧(xs.map (·.1)).Nodup
  | .set S n=>h.SetOf (intKind P w) a S n
  | .ins C dx fs=>H dx=some (.own a)∧fs.length≤1000∧dx≠a∧h.get? a=some (PySem.W.instObj C dx) ∧
      ∃ mA,h.Ns1 dx mA∧(∀ f,RelO (fs.lookup f) (mA f))∧PySem.Within mA (fs.map (·.1))
  | .own _=>∃ o,h.get? a=some o
  | .xd fs=>∃ mA,h.Ns1 a mA∧∀ f,RelO (fs.lookup f) (mA f)
  | .rng lo hi=>∃ t u v,h.get? a=some { cls:=.type "range",data:=.fields #[.int lo t,.int hi u,.int 1 v] }
  | .frz o u=>h.get? a=some o∧ObjOk H h a u
  | .tbl ps=>h.get? a=some { cls:=.none,data:=.fields ps }
  | .met f x=>h.get? a=some (PySem.W.methodObj (.ref f) (.ref x))
  | .ext φ=>φ h∧(∃ o,h.get? a=some o)∧∀ h1 h2:Heap,φ h1→(∀ o,h1.get? a=some o→h2.get? a=some o)→φ h2
def HOk (H:Hp) (h:Heap):Prop:=∀ a o,H a=some o→ObjOk P w H h a o
end
section
variable {P:Program} {w:World} {H H':Hp} {h h':Heap} {a:Addr} {o:HO}
theorem ObjOk.lt (x:ObjOk P w H h a o):a<h.objs.size:=by
  cases o with
  | lst xs=>obtain ⟨_,_,_,_,e⟩:=x; exact Heap.lt_size e
  | tup xs=>obtain ⟨_,_,_,p⟩:=x; exact p.lt
  | dK kvs=>obtain ⟨_,_,_,_,o,_,_,e,_⟩:=x; exact Heap.lt_size e
  | dT kvs=>obtain ⟨_,_,_,_,o,_,_,e,_⟩:=x; exact Heap.lt_size e
  | set S n=>obtain ⟨o,_,_,_,e,_⟩:=x; exact Heap.lt_size e
  | ins C dx fs=>obtain ⟨_,_,_,e,_⟩:=x; exact Heap.lt_size e
  | own y=>obtain ⟨_,e⟩:=x; exact Heap.lt_size e
  | xd fs=>obtain ⟨_,⟨_,_,_,e,_⟩,_⟩:=x; exact Heap.lt_size e
  | rng lo hi=>obtain ⟨_,_,_,e⟩:=x; exact Heap.lt_size e
  | frz ob u=>obtain ⟨e,_⟩:=x; exact Heap.lt_size e
  | tbl ps=>exact Heap.lt_size (show h.get? a=some _ from x)
  | met f y=>exact Heap.lt_size (show h.get? a=some _ from x)
  | ext φ=>obtain ⟨_,⟨_,e⟩,_⟩:=x; exact Heap.lt_size e
theorem Paired.mapP {α β:Type} {F G:α→β→Prop}:∀ {l₁:List α} {l₂:List β},Paired F l₁ l₂→(∀ a b,F a b→G a b)→Paired G l₁ l₂
  | _,_,.nil,_=>.nil
  | _,_,.cons r t,f=>.cons (f _ _ r) (Paired.mapP t f)
theorem ObjOk.stay (x:ObjOk P w H h a o) (k:∀ b u,(b=a∨H b=some (.own a))→h.get? b=some u→h'.get? b=some u)
    (ho:∀ b,H b=some (.own a)→H' b=some (.own a)) (ht:∀ b xs,H b=some (.tup xs)→H' b=some (.tup xs)):ObjOk P w H' h' a o:=by
  induction o with
  | lst xs=>obtain ⟨z,its,n,r,e⟩:=x; exact ⟨z,its,n,r,k _ _ (.inl rfl) e⟩
  | tup xs=>obtain ⟨⟨z,on,en,dn⟩,its,r,ob,e,c⟩:=x; exact ⟨⟨z,on,k _ _ (.inl rfl) en,dn⟩,its,r,ob,k _ _ (.inl rfl) e,c⟩
  | dK kvs=>obtain ⟨z,y,vs,r,ob,es,ep,e,c⟩:=x; exact ⟨z,y,vs,r,ob,es,ep,k _ _ (.inl rfl) e,c⟩
  | dT kvs =>
    obtain ⟨z,y,xs,r,ob,es,ep,e,c⟩:=x
    exact ⟨z,y,xs,Paired.mapP r fun p q z=>⟨z.1,ht _ _ z.2.1,z.2.2⟩,ob,es,ep,k _ _ (.inl rfl) e,c⟩
  | set S n=>obtain ⟨ob,es,ep,t,e,c⟩:=x; exact ⟨ob,es,ep,t,k _ _ (.inl rfl) e,c⟩
  | ins C dx fs =>
    obtain ⟨d,z,ne,e,mA,⟨od,es,ep,e2,c⟩,r⟩:=x
    exact ⟨ho _ d,z,ne,k _ _ (.inl rfl) e,mA,⟨od,es,ep,k _ _ (.inr d) e2,c⟩,r⟩
  | own y=>obtain ⟨ob,e⟩:=x; exact ⟨ob,k _ _ (.inl rfl) e⟩
  | xd fs=>obtain ⟨mA,⟨od,es,ep,e,c⟩,r⟩:=x; exact ⟨mA,⟨od,es,ep,k _ _ (.inl rfl) e,c⟩,r⟩
  | rng lo hi=>obtain ⟨t,u,v,e⟩:=x; exact ⟨t,u,v,k _ _ (.inl rfl) e⟩
  | frz ob u ih=>obtain ⟨e,q⟩:=x; exact ⟨k _ _ (.inl rfl) e,ih q⟩
  | tbl ps =>
    have e:h.get? a=some { cls:=.none,data:=.fields ps }:=x
    show h'.get? a=some { cls:=.none,data:=.fields ps }
    exact k a _ (.inl rfl) e
  | met f y =>
    have e:h.get? a=some (PySem.W.methodObj (.ref f) (.ref y)):=x
    show h'.get? a=some (PySem.W.methodObj (.ref f) (.ref y))
    exact k a _ (.inl rfl) e
  | ext φ=>obtain ⟨p,⟨o,e⟩,st⟩:=x; exact ⟨st _ _ p fun o q=>k _ _ (.inl rfl) q,⟨o,k _ _ (.inl rfl) e⟩,st⟩
theorem HOk.lt (x:HOk P w H h) (e:H a=some o):a<h.objs.size:=(x a o e).lt
theorem HOk.fresh (x:HOk P w H h) (e:h.objs.size≤a):H a=none:=by
  cases q:H a with
  | none=>rfl
  | some u=>exact absurd (Nat.lt_of_lt_of_le (x.lt q) e) (Nat.lt_irrefl _)
theorem HOk.kept (x:HOk P w H h) (k:∀ b u,h.get? b=some u→h'.get? b=some u):HOk P w H h':=fun a o e =>
  (x a o e).stay (fun b u _ q=>k b u q) (fun _ q=>q) fun _ _ q=>q
theorem HOk.laid (x:HOk P w H h) (k:∀ b u,h.get? b=some u→h'.get? b=some u) (hp:h.objs.size≤a) (new:ObjOk P w (upd H a o) h' a o):HOk P w (upd H a o) h':=fun b u e=>by
  have hn:=x.fresh hp
  by_cases hb:b=a
  · subst hb; rw [upd_same] at e; cases e; exact new
  · rw [upd_ne hb] at e
    exact (x b u e).stay (fun c v _ q=>k c v q) (fun c q=>by rw [upd_ne (ne_of_none q hn)]; exact q) fun c xs q=>by rw [upd_ne (ne_of_none q hn)]; exact q
end
def Rd (H:Hp) (a:Addr) (u:HO):Prop:=H a=some u∨∃ o,H a=some (.frz o u)
theorem Rd.ok {P:Program} {w:World} {H:Hp} {h:Heap} {a:Addr} {u:HO} (r:Rd H a u) (x:HOk P w H h):ObjOk P w H h a u:=by
  rcases r with r | ⟨o,r⟩
  · exact x a u r
  · obtain ⟨_,q⟩:=x a _ r
    exact q
def Mut:Option HO→Prop
  | some (.lst _)=>True
  | some (.dK _)=>True
  | some (.dT _)=>True
  | some (.set _ _)=>True
  | some (.ins _ _ _)=>True
  | some (.ext _)=>True
  | _=>False
section
variable {P:Program} {w:World} {H:Hp} {h h':Heap} {x e:Addr} {o':HO}
theorem HOk.write (ok:HOk P w H h) (mu:Mut (H x)) (he:e=x∨H e=some (.own x)) (k:∀ b u,b≠e→h.get? b=some u→h'.get? b=some u) (heo:∃ u,h'.get? e=some u)
    (new:ObjOk P w (upd H x o') h' x o'):HOk P w (upd H x o') h':=fun b u q=>by
  have nown:∀ c y,H c=some (.own y)→c≠x:=fun c y r z=>by subst z; rw [r] at mu; exact mu
  have ntup:∀ c xs,H c=some (.tup xs)→c≠x:=fun c xs r z=>by subst z; rw [r] at mu; exact mu
  by_cases hb:b=x
  · subst hb; rw [upd_same] at q; cases q; exact new
  · rw [upd_ne hb] at q
    by_cases hbe:b=e
    · have q':H b=some (.own x):=by
        rcases he with z | z
        · exact absurd (hbe.trans z) hb
        · rw [hbe]; exact z
      rw [q] at q'; cases q'
      obtain ⟨v,hv⟩:=heo
      exact ⟨v,by rw [hbe]; exact hv⟩
    · refine (ok b u q).stay (fun c v hc r=>k c v ?_ r) (fun c r=>by rw [upd_ne (nown c b r)]; exact r) fun c xs r=>by rw [upd_ne (ntup c xs r)]; exact r
      rcases hc with rfl | hc
      · exact hbe
      · rintro rfl
        rcases he with z | z
        · exact nown c b hc z
        · rw [hc] at z; cases z; exact hb rfl
end
structure Un (fs ex:List Addr) (H H':Hp) (h h':Heap):Prop where
  keep:∀ b o,h.get? b=some o→H b=none→b ∉ fs→b ∉ ex→h'.get? b=some o
  slot:∀ b o,h.get? b=some o→H b=none→b∈fs→b ∉ ex→∃ sl,h'.get? b=some { o with slots:=sl }
  free:∀ b o,h.get? b=some o→H b=none→b ∉ ex→H' b=none
  there:∀ b o,h.get? b=some o→b ∉ ex→∃ o',h'.get? b=some o'
  tups:∀ b xs,H b=some (.tup xs)→H' b=some (.tup xs)
  frzs:∀ b o u,H b=some (.frz o u)→H' b=some (.frz o u)
  tbls:∀ b ps,H b=some (.tbl ps)→∃ more,H' b=some (.tbl (ps++more))
section
variable {fs fs' ex ex':List Addr} {H H1 H2:Hp} {h h1 h2 h':Heap} {a x e:Addr} {o:HO}
theorem Un.any (u:Un fs ex H H1 h h1) {b:Addr} {ob:Obj} (q:h.get? b=some ob) (n:H b=none) (hx:b ∉ ex):∃ sl,h1.get? b=some { ob with slots:=sl }:=by
  by_cases hb:b∈fs
  · exact u.slot b ob q n hb hx
  · exact ⟨ob.slots,u.keep b ob q n hb hx⟩
theorem Un.kept (k:∀ b u,h.get? b=some u→h'.get? b=some u):Un fs ex H H h h' :=
  ⟨fun b ob q _ _ _=>k b ob q,fun b ob q _ _ _=>⟨ob.slots,k b ob q⟩,fun _ _ _ n _=>n,fun b ob q _=>⟨ob,k b ob q⟩,fun _ _ q=>q,fun _ _ _ q=>q,fun _ ps q=>⟨#[],by rw [q]; simp⟩⟩
theorem Un.refl:Un fs ex H H h h:=Un.kept fun _ _ q=>q
theorem Un.laid (k:∀ b u,h.get? b=some u→h'.get? b=some u) (hp:h.objs.size≤a) (hn:H a=none):Un fs ex H (upd H a o) h h' where
  keep:=fun b u q _ _ _=>k b u q
  slot:=fun b u q _ _ _=>⟨u.slots,k b u q⟩
  free:=fun b u q n _=>by rw [upd_ne (Nat.ne_of_lt (Nat.lt_of_lt_of_le (Heap.lt_size q) hp))]; exact n
  there:=fun b u q _=>⟨u,k b u q⟩
  tups:=fun b xs q=>by rw [upd_ne (ne_of_none q hn)]; exact q
  frzs:=fun b u xs q=>by rw [upd_ne (ne_of_none q hn)]; exact q
  tbls:=fun b ps q=>⟨#[],by rw [upd_ne (ne_of_none q hn),q]; simp⟩
theorem Un.write (mu:Mut (H x)) (he:e=x∨H e=some (.own x)) (k:∀ b u,b≠e→h.get? b=some u→h'.get? b=some u) (heo:∃ u,h'.get? e=some u):Un fs ex H (upd H x o) h h':=by
  have hx:∀ b,H b=none→b≠x:=fun b n z=>by subst z; rw [n] at mu; exact mu
  have hb:∀ b,H b=none→b≠e:=fun b n z=>by
    subst z
    rcases he with r | r
    · exact hx b n r
    · rw [n] at r; cases r
  have hm:∀ b u,H b=some u→¬ Mut (some u)→b≠x:=fun b u q nm z=>by subst z; rw [q] at mu; exact nm mu
  refine ⟨fun b u q n _ _=>k b u (hb b n) q,fun b u q n _ _=>⟨u.slots,k b u (hb b n) q⟩,fun b u q n _=>by rw [upd_ne (hx b n)]; exact n,fun b u q _=>?_,
    fun b xs q=>by rw [upd_ne (hm b _ q fun z=>z)]; exact q,fun b u xs q=>by rw [upd_ne (hm b _ q fun z=>z)]; exact q,fun b ps q=>⟨#[],by rw [upd_ne (hm b _ q fun z=>z),q]; simp⟩⟩
  by_cases hbe:b=e
  · subst hbe; exact heo
  · exact ⟨u,k b u hbe q⟩
end
def trk (h:Heap) (H:Hp):List Addr:=(List.range h.objs.size).filter fun a=>(H a).isSome
def hidT (h:Heap) (H:Hp):Heap:=PySem.W.hideAll h (trk h H)
theorem hidT_size (h:Heap) (H:Hp):(hidT h H).objs.size=h.objs.size:=PySem.W.hideAll_size _ _
theorem hidT_get {h:Heap} {H:Hp} {b:Addr} {o:Obj} (e:h.get? b=some o) (n:H b=none):(hidT h H).get? b=some o :=
  PySem.W.hideAll_get _ e fun hm=>by
    have q:(H b).isSome=true:=(List.mem_filter.mp hm).2
    rw [n] at q; simp at q
theorem of_hidT {h:Heap} {H:Hp} {b:Addr} {o:Obj} (e:(hidT h H).get? b=some o):h.get? b=some o∧H b=none:=by
  have e':h.get? b=some o:=PySem.W.of_hideAll (trk h H) e
  refine ⟨e',?_⟩
  cases q:H b with
  | none=>rfl
  | some x =>
    have hm:b∈trk h H:=List.mem_filter.mpr ⟨List.mem_range.mpr (Heap.lt_size e'),by simp [q]⟩
    have z:(hidT h H).get? b=none:=PySem.W.hideAll_none (trk h H) hm
    rw [z] at e; cases e
end L2
namespace L2
open PySem PySem.Spec PyProof.Rows
structure Mod (K:PySem.W.Frag) (mg:Str→Option Value) (base:Heap):Prop where
  kin:K.In base
  glob:base.Ns mainGlobals mg
  blt:∃ mb,base.Ns builtinsNs mb∧∀ x:Str,x ≠ "__name__" → mb x=bootBuiltins x
  nolimit:base.NoLimit
/-- the context: a def's body (or a comprehension's block) running. base: fixed through the whole law; s₀,H₀: the entry; outer: the frames whose slots others may change (a def's callers); stack: all frames that run;
   ex: iterators that were made ahead of the entry and are walked here (a comprehension's); fn: the names whose cells were made at the entry (a def: all; a comprehension's block: its own); calm: not within an except suite; pn: pins that every state bears; xe: what is wanted of an exception that leaves the code -/
structure Cx where
  prog:Program
  w:World
  K:PySem.W.Frag
  mg:Str→Option Value
  base:Heap
  A:Around
  N:List Str
  s₀:Shared
  H₀:Hp
  env:Env
  outer:List Env
  stack:List Env
  ex:List Addr
  fn:Str→Bool
  calm:Bool
  pn:List (Addr × Obj)
  xe:Value→Shared→Prop
def frs (l:List Env):List Addr:=l.filterMap (·.frame)
abbrev Cx.fs (X:Cx):List Addr:=frs X.outer
def Vis (sc:Scope) (x:Str):Prop:=sc.names.lookup x=some .local∨sc.names.lookup x=some .cell∨sc.names.lookup x=some .free
def Loc (sc:Scope) (x:Str):Prop:=sc.names.lookup x=some .local∨sc.names.lookup x=some .cell
def Look (env:Env) (h:Heap) (m:Str→Option Value) (x:Str) (u:Value):Prop :=
  (env.kindOf x=some .local∧m x=some u)∨((env.kindOf x=some .cell∨env.kindOf x=some .free)∧∃ c,env.cells.lookup x=some c∧h.IsCell c (some u))
structure Cx.Ok (X:Cx):Prop where
  mod:Mod X.K X.mg X.base
  kind:X.env.scope.kind=.function
  glob:X.env.globals=mainGlobals
  blt:X.env.builtins=builtinsNs
  above:X.s₀.heap.objs.size≤X.env.locals
  inj:∀ x y c,X.env.cells.lookup x=some c→X.env.cells.lookup y=some c→x=y
  has:∀ x,(X.env.kindOf x=some .cell∨X.env.kindOf x=some .free)→∃ c,X.env.cells.lookup x=some c
  cab:∀ x c,X.fn x=true→X.env.cells.lookup x=some c→X.s₀.heap.objs.size≤c
  hd:X.calm=true→X.A.handled=none
  frames:X.A.frames=some X.stack
  stk:X.stack=X.outer∨(X.stack=X.env::X.outer∧X.env.frame=some X.env.locals)
  exf:∀ b∈X.ex,b≠X.env.locals∧∀ x c,X.env.cells.lookup x=some c→c≠b
  bs:∀ b o,X.base.get? b=some o→X.s₀.heap.get? b=some o∧X.H₀ b=none
  bsz:X.base.objs.size≤X.s₀.heap.objs.size
  noex:∀ b o,X.base.get? b=some o→b ∉ X.ex
  exfs:∀ b∈X.ex,b ∉ X.fs
  funs:X.s₀.heap.FunFrames X.base X.outer
  frf:∀ b∈X.fs,X.H₀ b=none
structure Inv (X:Cx) (pins:List (Addr × Obj)) (σ:List (Option V)) (H:Hp) (s:Shared):Prop where
  ok:X.Ok
  os:s.os=X.s₀.os
  bare:AllBare s.gens
  base:Un X.fs X.ex X.H₀ H X.s₀.heap s.heap
  loc:∃ m,s.heap.Ns X.env.locals m∧∀ (i:Nat) (x:Str) (v:V),X.N[i]?=some x→σ[i]?=some (some v)→Vis X.env.scope x→∃ u,RelV v u∧Look X.env s.heap m x u
  cell:∀ x c,X.env.cells.lookup x=some c→∃ v,s.heap.IsCell c v
  free:H X.env.locals=none
  freeC:∀ x c,X.env.cells.lookup x=some c→H c=none
  pin:∀ p∈X.pn++pins,s.heap.get? p.1=some p.2∧H p.1=none∧p.1≠X.env.locals∧p.1 ∉ X.fs∧∀ v,p.2.data ≠ .cell v
  hok:HOk X.prog X.w H s.heap
  len:σ.length=X.N.length
section
variable {X:Cx} {pins:List (Addr × Obj)} {σ:List (Option V)} {H H':Hp} {s:Shared} {h':Heap}
theorem Cx.Ok.nofr (ok:X.Ok) {b:Addr} {o:Obj} (e:X.base.get? b=some o):b ∉ X.fs:=fun hb=>by
  have:=(ok.funs.mem hb).1
  rw [e] at this; cases this
theorem Inv.bs (I:Inv X pins σ H s):∀ b o,X.base.get? b=some o→s.heap.get? b=some o∧H b=none:=fun b o e =>
  ⟨I.base.keep b o (I.ok.bs b o e).1 (I.ok.bs b o e).2 (I.ok.nofr e) (I.ok.noex b o e),I.base.free b o (I.ok.bs b o e).1 (I.ok.bs b o e).2 (I.ok.noex b o e)⟩
theorem Inv.bk (I:Inv X pins σ H s):∀ b o,X.base.get? b=some o→s.heap.get? b=some o:=fun b o e=>(I.bs b o e).1
theorem Inv.mod (I:Inv X pins σ H s):Mod X.K X.mg X.base:=I.ok.mod
theorem Inv.kIn (I:Inv X pins σ H s):X.K.In s.heap:=I.ok.mod.kin.keeps I.bk
theorem Inv.lt (I:Inv X pins σ H s):X.env.locals<s.heap.objs.size:=let ⟨_,hn,_⟩:=I.loc; hn.lt
theorem Inv.sz (I:Inv X pins σ H s):X.s₀.heap.objs.size≤s.heap.objs.size:=Nat.le_trans I.ok.above (Nat.le_of_lt I.lt)
theorem Inv.nofs (I:Inv X pins σ H s) {a:Addr} (h:s.heap.objs.size≤a):a ∉ X.fs:=fun hb=>by
  obtain ⟨_,o,ho,_⟩:=I.ok.funs.mem hb
  exact absurd (Nat.lt_of_lt_of_le (Heap.lt_size ho) (Nat.le_trans I.sz h)) (Nat.lt_irrefl _)
theorem Inv.cne (I:Inv X pins σ H s):∀ x c,X.env.cells.lookup x=some c→c≠X.env.locals:=fun x c e z=>by
  obtain ⟨v,o,ho,hd⟩:=I.cell x c e
  obtain ⟨m,⟨o',es,ep,ho',hd',_⟩,_⟩:=I.loc
  rw [z,ho'] at ho; cases ho; rw [hd'] at hd; cases hd
theorem Inv.funs (I:Inv X pins σ H s):s.heap.FunFrames X.base X.outer:=by
  have all:∀ (l:List Env),(∀ b∈frs l,b∈X.fs)→X.s₀.heap.FunFrames X.base l→s.heap.FunFrames X.base l:=by
    intro l
    induction l with
    | nil=>intro _ _; trivial
    | cons env r ih =>
      intro hs hl
      obtain ⟨hk,⟨L,o,hf,hn,ho,hd⟩,hr⟩:=hl
      have hL:L∈X.fs:=hs L (by unfold frs; rw [List.filterMap_cons,hf]; exact List.mem_cons_self)
      obtain ⟨sl,e⟩:=I.base.slot L o ho (I.ok.frf L hL) hL fun z=>I.ok.exfs L z hL
      exact ⟨hk,⟨L,_,hf,hn,e,hd⟩,ih (fun b hb=>hs b (by unfold frs; rw [List.filterMap_cons,hf]; exact List.mem_cons_of_mem _ hb)) hr⟩
  exact all X.outer (fun _ hb=>hb) I.ok.funs
theorem Inv.stack (I:Inv X pins σ H s):s.heap.FunFrames X.base X.stack:=by
  rcases I.ok.stk with e | ⟨e,hf⟩
  · rw [e]; exact I.funs
  · rw [e]
    obtain ⟨m,hn,_⟩:=I.loc
    refine .cons (by rw [I.ok.kind]; decide) hf hn ?_ I.funs
    exact Heap.get?_none_of_le (Nat.le_trans I.ok.bsz I.ok.above)
theorem Inv.stkSub (I:Inv X pins σ H s):∀ b∈frs X.stack,b∈X.env.locals::X.fs:=fun b hb=>by
  rcases I.ok.stk with e | ⟨e,hf⟩
  · rw [e] at hb; exact List.mem_cons_of_mem _ hb
  · rw [e] at hb
    unfold frs at hb
    rw [List.filterMap_cons,hf] at hb
    exact hb
theorem Inv.stkFree (I:Inv X pins σ H s):∀ b∈frs X.stack,H b=none:=fun b hb=>by
  rcases List.mem_cons.mp (I.stkSub b hb) with e | hb
  · rw [e]; exact I.free
  · obtain ⟨_,o,ho,_⟩:=I.ok.funs.mem hb
    exact I.base.free b o ho (I.ok.frf b hb) fun z=>I.ok.exfs b z hb
theorem Inv.step {g':Array GenState} {t':Nat} {d':Drawn} {ch:List Addr} (I:Inv X pins σ H s)
    (hch:∀ b∈ch,(b∈X.ex∨X.s₀.heap.objs.size≤b)∧b≠X.env.locals∧(∀ x c,X.env.cells.lookup x=some c→c≠b)∧∀ p∈X.pn++pins,p.1≠b)
    (keep:∀ b o,b≠X.env.locals→b ∉ X.fs→b ∉ ch→s.heap.get? b=some o→H b=none→h'.get? b=some o)
    (slot:∀ b o,b≠X.env.locals→b∈X.fs→b ∉ ch→s.heap.get? b=some o→H b=none→∃ sl,h'.get? b=some { o with slots:=sl }) (free:∀ b o,b ∉ ch→s.heap.get? b=some o→H b=none→H' b=none)
    (there:∀ b o,b ∉ ch→s.heap.get? b=some o→∃ o',h'.get? b=some o')
    (tups:∀ b xs,H b=some (.tup xs)→H' b=some (.tup xs)) (frzs:∀ b o u,H b=some (.frz o u)→H' b=some (.frz o u)) (tbls:∀ b ps,H b=some (.tbl ps)→∃ more,H' b=some (.tbl (ps++more)))
    (ns:∀ m,s.heap.Ns X.env.locals m→h'.Ns X.env.locals m) (hok:HOk X.prog X.w H' h') (hg:AllBare g') :
    Inv X pins σ H' { s with heap:=h',gens:=g',drawn:=d',toks:=t' }:=by
  have neL:∀ b o,X.s₀.heap.get? b=some o→b≠X.env.locals:=fun b o e=>Nat.ne_of_lt (Nat.lt_of_lt_of_le (Heap.lt_size e) I.ok.above)
  have neC:∀ b o,X.s₀.heap.get? b=some o→b ∉ X.ex→b ∉ ch:=fun b o e hx hb=>by
    rcases (hch b hb).1 with z | z
    · exact hx z
    · exact absurd (Nat.lt_of_lt_of_le (Heap.lt_size e) z) (Nat.lt_irrefl _)
  have cellK:∀ x c,X.env.cells.lookup x=some c→∀ v,s.heap.IsCell c v→h'.IsCell c v:=fun x c e v ⟨o,ho,hd⟩=>by
    have nch:c ∉ ch:=fun z=>(hch c z).2.2.1 x c e rfl
    by_cases hc:c∈X.fs
    · obtain ⟨sl,q⟩:=slot c o (I.cne x c e) hc nch ho (I.freeC x c e)
      exact ⟨_,q,hd⟩
    · exact ⟨o,keep c o (I.cne x c e) hc nch ho (I.freeC x c e),hd⟩
  refine ⟨I.ok,I.os,hg,⟨fun b o e n hb hx=>?_,fun b o e n hb hx=>?_,fun b o e n hx=>?_,fun b o e hx=>?_,fun b xs e=>tups b xs (I.base.tups b xs e),fun b o xs e=>frzs b o xs (I.base.frzs b o xs e),fun b ps e=>?_⟩,?_,fun x c e=>?_,?_,fun x c e=>?_,fun p hp=>?_,hok,I.len⟩
  · exact keep b o (neL b o e) hb (neC b o e hx) (I.base.keep b o e n hb hx) (I.base.free b o e n hx)
  · obtain ⟨sl,e1⟩:=I.base.slot b o e n hb hx
    obtain ⟨sl',e2⟩:=slot b _ (neL b o e) hb (neC b o e hx) e1 (I.base.free b o e n hx)
    exact ⟨sl',e2⟩
  · obtain ⟨o',e1⟩:=I.base.there b o e hx
    exact free b o' (neC b o e hx) e1 (I.base.free b o e n hx)
  · obtain ⟨o',e1⟩:=I.base.there b o e hx
    exact there b o' (neC b o e hx) e1
  · obtain ⟨m1,e1⟩:=I.base.tbls b ps e
    obtain ⟨m2,e2⟩:=tbls b _ e1
    exact ⟨m1++m2,by rw [e2,Array.append_assoc]⟩
  · obtain ⟨m,hn,hl⟩:=I.loc
    refine ⟨m,ns m hn,fun i x v e1 e2 e3=>?_⟩
    obtain ⟨u,r,l⟩:=hl i x v e1 e2 e3
    refine ⟨u,r,?_⟩
    rcases l with l | ⟨k,c,e,z⟩
    · exact .inl l
    · exact .inr ⟨k,c,e,cellK x c e _ z⟩
  · obtain ⟨v,z⟩:=I.cell x c e
    exact ⟨v,cellK x c e v z⟩
  · obtain ⟨m,⟨o,_,_,ho,_⟩,_⟩:=I.loc
    exact free _ o (fun z=>(hch _ z).2.1 rfl) ho I.free
  · obtain ⟨v,o,ho,hd⟩:=I.cell x c e
    exact free c o (fun z=>(hch c z).2.2.1 x c e rfl) ho (I.freeC x c e)
  · obtain ⟨e,n,ne,nf,d⟩:=I.pin p hp
    have nch:p.1 ∉ ch:=fun z=>(hch p.1 z).2.2.2 p hp rfl
    exact ⟨keep p.1 p.2 ne nf nch e n,free p.1 p.2 nch e n,ne,nf,d⟩
theorem Inv.un {t':Nat} (I:Inv X pins σ H s) (u:Un X.fs [] H H' s.heap h') (hok:HOk X.prog X.w H' h'):Inv X pins σ H' { s with heap:=h',toks:=t' }:=by
  obtain ⟨m,⟨o,es,ep,ho,r⟩,_⟩:=id I.loc
  obtain ⟨sl,hL⟩:=u.any ho I.free (by simp)
  exact I.step (g':=s.gens) (d':=s.drawn) (ch:=[]) (fun _ z=>nomatch z) (fun b o _ hb _ e n=>u.keep b o e n hb (by simp)) (fun b o _ hb _ e n=>u.slot b o e n hb (by simp)) (fun b o _ e n=>u.free b o e n (by simp)) (fun b o _ e=>u.there b o e (by simp)) u.tups u.frzs u.tbls (fun m' hm=>by
    obtain ⟨o',es',ep',ho',r'⟩:=hm
    rw [ho] at ho'; cases ho'
    exact ⟨_,es',ep',hL,r'⟩) hok I.bare
theorem Inv.call {g':Array GenState} {t':Nat} {d':Drawn} {ch:List Addr} (I:Inv X pins σ H s) (u:Un (frs X.stack) ch H H' s.heap h') (hok:HOk X.prog X.w H' h') (hg:AllBare g')
    (hch:∀ b∈ch,(b∈X.ex∨X.s₀.heap.objs.size≤b)∧b≠X.env.locals∧(∀ x c,X.env.cells.lookup x=some c→c≠b)∧∀ p∈X.pn++pins,p.1≠b) :
    Inv X pins σ H' { s with heap:=h',gens:=g',drawn:=d',toks:=t' }:=by
  obtain ⟨m,⟨o,es,ep,ho,r⟩,_⟩:=id I.loc
  obtain ⟨sl,hL⟩:=u.any ho I.free fun z=>(hch _ z).2.1 rfl
  exact I.step (ch:=ch) hch (fun b o hL hb hc e n=>u.keep b o e n (fun z=>(List.mem_cons.mp (I.stkSub b z)).elim hL hb) hc) (fun b o _ _ hc e n=>u.any e n hc) (fun b o hc e n=>u.free b o e n hc) (fun b o hc e=>u.there b o e hc) u.tups u.frzs u.tbls (fun m' hm=>by
    obtain ⟨o',es',ep',ho',r'⟩:=hm
    rw [ho] at ho'; cases ho'
    exact ⟨_,es',ep',hL,r'⟩) hok hg
theorem Inv.turned {t':Nat} {it:Addr} (I:Inv X pins σ H s) (k:∀ b o,b≠it→s.heap.get? b=some o→h'.get? b=some o) (hn:H it=none) (hL:it≠X.env.locals)
    (h1:it∈X.ex∨X.s₀.heap.objs.size≤it) (h2:∀ x c,X.env.cells.lookup x=some c→c≠it) (h3:∀ p∈X.pn++pins,p.1≠it):Inv X pins σ H { s with heap:=h',toks:=t' }:=by
  have nit:∀ b u,H b=some u→b≠it:=fun b u e z=>by rw [z,hn] at e; cases e
  refine I.step (g':=s.gens) (d':=s.drawn) (ch:=[it]) (fun b hb=>?_) (fun b o _ _ hc e _=>k b o (fun z=>hc (by simp [z])) e) (fun b o _ _ hc e _=>⟨o.slots,k b o (fun z=>hc (by simp [z])) e⟩) (fun _ _ _ _ n=>n)
    (fun b o hc e=>⟨o,k b o (fun z=>hc (by simp [z])) e⟩) (fun _ _ e=>e) (fun _ _ _ e=>e) (fun b ps e=>⟨#[],by rw [e]; simp⟩) (fun m hm=>?_) (fun b u e=>?_) I.bare
  · have e:b=it:=by simpa using hb
    subst e
    exact ⟨h1,hL,h2,h3⟩
  · obtain ⟨o,es,ep,ho,r⟩:=hm
    exact ⟨o,es,ep,k _ o (Ne.symm hL) ho,r⟩
  · refine (I.hok b u e).stay (fun c v hc q=>k c v ?_ q) (fun _ q=>q) fun _ _ q=>q
    rcases hc with z | z
    · rw [z]; exact nit b u e
    · exact nit c _ z
theorem Inv.tok (I:Inv X pins σ H s) (t:Nat):Inv X pins σ H { s with toks:=t }:=I.un (h':=s.heap) (t':=t) Un.refl I.hok
theorem Inv.kept {t':Nat} (I:Inv X pins σ H s) (k:∀ b u,s.heap.get? b=some u→h'.get? b=some u):Inv X pins σ H { s with heap:=h',toks:=t' }:=I.un (Un.kept k) (I.hok.kept k)
theorem Inv.laid {a:Addr} {o:HO} {t':Nat} (I:Inv X pins σ H s) (k:∀ b u,s.heap.get? b=some u→h'.get? b=some u) (hp:s.heap.objs.size≤a) (new:ObjOk X.prog X.w (upd H a o) h' a o) :
    Inv X pins σ (upd H a o) { s with heap:=h',toks:=t' }:=I.un (Un.laid k hp (I.hok.fresh hp)) (I.hok.laid k hp new)
theorem Inv.write {x e:Addr} {o:HO} {t':Nat} (I:Inv X pins σ H s) (mu:Mut (H x)) (he:e=x∨H e=some (.own x)) (k:∀ b u,b≠e→s.heap.get? b=some u→h'.get? b=some u) (heo:∃ u,h'.get? e=some u)
    (new:ObjOk X.prog X.w (upd H x o) h' x o):Inv X pins σ (upd H x o) { s with heap:=h',toks:=t' }:=I.un (Un.write mu he k heo) (I.hok.write mu he k heo new)
theorem Inv.pins_of {pins':List (Addr × Obj)} (I:Inv X pins σ H s) (h:∀ p∈pins',s.heap.get? p.1=some p.2∧H p.1=none∧p.1≠X.env.locals∧p.1 ∉ X.fs∧∀ v,p.2.data ≠ .cell v):Inv X pins' σ H s :=
  ⟨I.ok,I.os,I.bare,I.base,I.loc,I.cell,I.free,I.freeC,fun p hp=>(List.mem_append.mp hp).elim (fun z=>I.pin p (List.mem_append_left _ z)) (h p),I.hok,I.len⟩
theorem nodup_ix {N:List Str} (hN:N.Nodup) {i j:Nat} {x:Str} (a:N[i]?=some x) (b:N[j]?=some x):i=j:=by
  obtain ⟨h1,e1⟩:=List.getElem?_eq_some_iff.mp a
  obtain ⟨h2,e2⟩:=List.getElem?_eq_some_iff.mp b
  exact (List.getElem_inj hN).mp (e1.trans e2.symm)
theorem store_ok2 {M:Model} {A:Around} {E:Value→Shared→Prop} {i:Nat} {x:Str} {v:V} {u:Value} {Q:Unit→Shared→Prop} (I:Inv X pins σ H s) (hN:X.N.Nodup) (hi:X.N[i]?=some x) (hx:Loc X.env.scope x) (r:RelV v u)
    (h:∀ s',Inv X pins (σ.set i (some v)) H s'→(∃ a,Heap.SameBut a s.heap s'.heap∧(a=X.env.locals∨X.env.cells.lookup x=some a))→Q () s') (hf:X.fn x=true∨X.env.scope.names.lookup x=some .local:=by first | exact .inl rfl | exact .inr rfl | assumption):wpAny M A (storeName X.env x u) Q E s:=by
  obtain ⟨m,hn,hl⟩:=id I.loc
  have hcls:(X.env.scope.kind == .class || (X.env.scope.kind == .module&&X.env.locals != X.env.globals))=false:=by rw [I.ok.kind]; rfl
  have hiσ:i<σ.length:=by rw [I.len]; exact (List.getElem?_eq_some_iff.mp hi).1
  have cne:=I.cne
  have tracked:∀ {a:Addr} {h':Heap},(∃ o,s.heap.get? a=some o∧H a=none)→Heap.SameBut a s.heap h'→HOk X.prog X.w H h':=fun {a h'} ha hs b ob e=>by
    obtain ⟨_,_,hfree⟩:=ha
    refine (I.hok b ob e).stay (fun c w' hc q=>(hs.2 c ?_).trans q) (fun _ q=>q) fun _ _ q=>q
    rintro rfl
    rcases hc with rfl | hc
    · rw [hfree] at e; cases e
    · rw [hfree] at hc; cases hc
  rcases hx with hk | hk
  · refine wpAny_storeName_local hk hn (fun h' hn' hs=>?_) hcls
    obtain ⟨oL,_,_,hoL,_⟩:=id hn
    refine h _ ⟨I.ok,I.os,I.bare,⟨fun b o e n hb hx=>?_,fun b o e n hb hx=>?_,I.base.free,fun b o e hx=>?_,I.base.tups,I.base.frzs,I.base.tbls⟩,⟨_,hn',fun j y v' e1 e2 e3=>?_⟩,fun y c e=>?_,I.free,I.freeC,fun p hp=>?_,tracked ⟨oL,hoL,I.free⟩ hs,by simpa using I.len⟩ ⟨_,hs,.inl rfl⟩
    · exact (hs.2 b (Nat.ne_of_lt (Nat.lt_of_lt_of_le (Heap.lt_size e) I.ok.above))).trans (I.base.keep b o e n hb hx)
    · obtain ⟨sl,e1⟩:=I.base.slot b o e n hb hx
      exact ⟨sl,(hs.2 b (Nat.ne_of_lt (Nat.lt_of_lt_of_le (Heap.lt_size e) I.ok.above))).trans e1⟩
    · obtain ⟨o',e1⟩:=I.base.there b o e hx
      exact ⟨o',(hs.2 b (Nat.ne_of_lt (Nat.lt_of_lt_of_le (Heap.lt_size e) I.ok.above))).trans e1⟩
    · by_cases hj:j=i
      · subst hj
        rw [hi] at e1; cases e1
        rw [List.getElem?_set_self hiσ] at e2
        cases e2
        exact ⟨u,r,.inl ⟨hk,by simp⟩⟩
      · rw [List.getElem?_set_ne (Ne.symm hj)] at e2
        obtain ⟨u',r',q⟩:=hl j y v' e1 e2 e3
        refine ⟨u',r',?_⟩
        rcases q with ⟨k,e⟩ | ⟨k,c,e,z⟩
        · refine .inl ⟨k,?_⟩
          have:y≠x:=fun e=>hj (nodup_ix hN e1 (e ▸ hi))
          simp [this,e]
        · exact .inr ⟨k,c,e,z.sameBut hs (cne y c e)⟩
    · obtain ⟨w',z⟩:=I.cell y c e
      exact ⟨w',z.sameBut hs (cne y c e)⟩
    · obtain ⟨e,n,ne,nf,d⟩:=I.pin p hp
      exact ⟨(hs.2 p.1 ne).trans e,n,ne,nf,d⟩
  · have hfn:X.fn x=true:=by
      rcases hf with z | z
      · exact z
      · rw [z] at hk; cases hk
    obtain ⟨c,hc⟩:=I.ok.has x (.inl hk)
    obtain ⟨w',z⟩:=I.cell x c hc
    refine wpAny_storeName_cell I.ok.kind hk hc z (fun h' hc' hs=>?_)
    obtain ⟨oc,hoc,hocd⟩:=id z
    refine h { s with heap:=h' } ⟨I.ok,I.os,I.bare,⟨fun b o e n hb hx=>?_,fun b o e n hb hx=>?_,I.base.free,fun b o e hx=>?_,I.base.tups,I.base.frzs,I.base.tbls⟩,⟨m,hn.sameBut hs (Ne.symm (cne x c hc)),fun j y v' e1 e2 e3=>?_⟩,fun y c' e=>?_,I.free,I.freeC,fun p hp=>?_,tracked ⟨oc,hoc,I.freeC x c hc⟩ hs,by simpa using I.len⟩ ⟨c,hs,.inr hc⟩
    · exact (hs.2 b (Nat.ne_of_lt (Nat.lt_of_lt_of_le (Heap.lt_size e) (I.ok.cab x c hfn hc)))).trans (I.base.keep b o e n hb hx)
    · obtain ⟨sl,e1⟩:=I.base.slot b o e n hb hx
      exact ⟨sl,(hs.2 b (Nat.ne_of_lt (Nat.lt_of_lt_of_le (Heap.lt_size e) (I.ok.cab x c hfn hc)))).trans e1⟩
    · obtain ⟨o',e1⟩:=I.base.there b o e hx
      exact ⟨o',(hs.2 b (Nat.ne_of_lt (Nat.lt_of_lt_of_le (Heap.lt_size e) (I.ok.cab x c hfn hc)))).trans e1⟩
    · by_cases hj:j=i
      · subst hj
        rw [hi] at e1; cases e1
        rw [List.getElem?_set_self hiσ] at e2
        cases e2
        exact ⟨u,r,.inr ⟨.inl hk,c,hc,hc'⟩⟩
      · rw [List.getElem?_set_ne (Ne.symm hj)] at e2
        obtain ⟨u',r',q⟩:=hl j y v' e1 e2 e3
        refine ⟨u',r',?_⟩
        rcases q with q | ⟨k,c',e,z'⟩
        · exact .inl q
        · refine .inr ⟨k,c',e,z'.sameBut hs ?_⟩
          rintro rfl
          exact hj (nodup_ix hN e1 (I.ok.inj _ _ _ e hc ▸ hi))
    · by_cases hcc:c'=c
      · subst hcc; exact ⟨_,hc'⟩
      · obtain ⟨w2,z2⟩:=I.cell y c' e
        exact ⟨w2,z2.sameBut hs hcc⟩
    · obtain ⟨e,n,ne,nf,d⟩:=I.pin p hp
      refine ⟨(hs.2 p.1 ?_).trans e,n,ne,nf,d⟩
      intro q
      rw [q,hoc] at e
      have q':oc=p.2:=Option.some.inj e
      exact d w' (by rw [← q']; exact hocd)
theorem store_ok {M:Model} {A:Around} {E:Value→Shared→Prop} {i:Nat} {x:Str} {v:V} {u:Value} {Q:Unit→Shared→Prop} (I:Inv X pins σ H s) (hN:X.N.Nodup) (hi:X.N[i]?=some x) (hx:Loc X.env.scope x) (r:RelV v u)
    (h:∀ s',Inv X pins (σ.set i (some v)) H s'→Q () s') (hf:X.fn x=true∨X.env.scope.names.lookup x=some .local:=by first | exact .inl rfl | exact .inr rfl | assumption):wpAny M A (storeName X.env x u) Q E s :=
  store_ok2 I hN hi hx r (fun s' I' _=>h s' I') hf
theorem Inv.call' {s':Shared} {ch:List Addr} (I:Inv X pins σ H s) (ho:s'.os=s.os) (u:Un (frs X.stack) ch H H' s.heap s'.heap) (hok:HOk X.prog X.w H' s'.heap) (hg:AllBare s'.gens)
    (hch:∀ b∈ch,(b∈X.ex∨X.s₀.heap.objs.size≤b)∧b≠X.env.locals∧(∀ x c,X.env.cells.lookup x=some c→c≠b)∧∀ p∈X.pn++pins,p.1≠b):Inv X pins σ H' s':=by
  obtain ⟨h',g',d',t',o'⟩:=s'
  have e:o'=s.os:=ho
  subst e
  exact I.call (g':=g') (t':=t') (d':=d') u hok hg hch
end
abbrev XK:=Value→Option Addr→Hp→Prop
abbrev St:=List (Option V)
abbrev VK:=V→Hp→Prop
abbrev TE:=St→Hp→VK→Prop
abbrev TT:=St→Hp→(Bool→Hp→Prop)→Prop
abbrev TA:=St→Hp→(List V→Hp→Prop)→Prop
structure Ends where
  nx:St→Hp→Prop
  rt:VK
  bk:St→Hp→Prop:=fun _ _=>False
  ct:St→Hp→Prop:=fun _ _=>False
abbrev TS:=Ends→St→Hp→Prop
def EP (X:Cx) (pins:List (Addr × Obj)) (σ:St) (Q:VK) (u:Value) (s':Shared):Prop:=∃ v H',Inv X pins σ H' s'∧RelV v u∧Q v H'
def TP (X:Cx) (pins:List (Addr × Obj)) (σ:St) (Q:Bool→Hp→Prop) (b:Bool) (s':Shared):Prop:=∃ H',Inv X pins σ H' s'∧Q b H'
def AP (X:Cx) (pins:List (Addr × Obj)) (σ:St) (Q:List V→Hp→Prop) (us:List Value) (s':Shared):Prop:=∃ vs H',Inv X pins σ H' s'∧Vals vs us∧Q vs H'
def SP (X:Cx) (pins:List (Addr × Obj)) (D:Ends) (f:Flow) (s':Shared):Prop :=
  match f with
  | .next=>∃ σ' H',Inv X pins σ' H' s'∧D.nx σ' H'
  | .brk=>∃ σ' H',Inv X pins σ' H' s'∧D.bk σ' H'
  | .cont=>∃ σ' H',Inv X pins σ' H' s'∧D.ct σ' H'
  | .ret u=>∃ v σ' H',Inv X pins σ' H' s'∧RelV v u∧D.rt v H'
def PE (X:Cx) (e:Expr) (t:TE):Prop :=
  ∀ (pins:List (Addr × Obj)) (s:Shared) (σ:St) (H:Hp) (Q:VK),Inv X pins σ H s→t σ H Q→wpAny (model X.prog X.w) X.A (eval e X.env) (EP X pins σ Q) X.xe s
def PT (X:Cx) (e:Expr) (t:TT):Prop :=
  ∀ (pins:List (Addr × Obj)) (s:Shared) (σ:St) (H:Hp) (Q:Bool→Hp→Prop),Inv X pins σ H s→t σ H Q→wpAny (model X.prog X.w) X.A (isTrue e X.env (eval e X.env)) (TP X pins σ Q) X.xe s
def PW (X:Cx) (e:Expr) (t:TT):Prop :=
  ∀ (whole:Sem Value) (pins:List (Addr × Obj)) (s:Shared) (σ:St) (H:Hp) (Q:Bool→Hp→Prop),Inv X pins σ H s→t σ H Q→wpAny (model X.prog X.w) X.A (isTrue e X.env whole) (TP X pins σ Q) X.xe s
theorem PW.pt {X:Cx} {e:Expr} {t:TT} (h:PW X e t):PT X e t:=h _
def PA (X:Cx) (es:List Expr) (t:TA):Prop :=
  ∀ (pos:Pos) (pins:List (Addr × Obj)) (s:Shared) (σ:St) (H:Hp) (Q:List V→Hp→Prop),Inv X pins σ H s→t σ H Q→wpAny (model X.prog X.w) X.A (spliced (backTo pos (starEach es X.env))) (AP X pins σ Q) X.xe s
def PS (X:Cx) (st:Stmt) (t:TS):Prop :=
  ∀ (pins:List (Addr × Obj)) (s:Shared) (σ:St) (H:Hp) (D:Ends),Inv X pins σ H s→t D σ H→wpAny (model X.prog X.w) X.A (exec st X.env) (SP X pins D) X.xe s
def PSs (X:Cx) (st:List Stmt) (t:TS):Prop :=
  ∀ (pins:List (Addr × Obj)) (s:Shared) (σ:St) (H:Hp) (D:Ends),Inv X pins σ H s→t D σ H→wpAny (model X.prog X.w) X.A (execs st X.env) (SP X pins D) X.xe s
theorem thn {α:Type} {t:Sem α} {Q Q':α→Shared→Prop} {M:Model} {A:Around} {E:Value→Shared→Prop} {s:Shared} (h:wpAny M A t Q E s) (hQ:∀ a s,Q a s→Q' a s):wpAny M A t Q' E s:=wpAny_mono h hQ fun _ _ x=>x
end L2
namespace L2
open PySem PySem.Spec PyProof.Rows
section
variable {X:Cx}
def tVar (i:Nat):TE:=fun σ H Q=>∃ v,σ[i]?=some (some v)∧Q v H
def tC (v:V):TE:=fun _ H Q=>Q v H
theorem pe_var {i:Nat} {x:Str} {pos:Pos} (hN:X.N[i]?=some x) (hv:Vis X.env.scope x) (hd:(x == ("__debug__" : Str))=false:=by decide) (hcd:(x == ("__classdict__" : Str))=false:=by decide):PE X (.Name x pos) (tVar i):=by
  intro pins s σ H Q I h
  obtain ⟨v,e,h⟩:=h
  obtain ⟨m,hn,hl⟩:=I.loc
  obtain ⟨u,r,l⟩:=hl i x v hN e hv
  have fin:EP X pins σ Q u s:=⟨v,H,I,r,h⟩
  rcases l with ⟨hk,hm⟩ | ⟨hk,c,hc,hcell⟩
  · exact wpAny_Name (wpAny_loadName_local I.ok.kind hk hn hm fin) hd
  · rcases hk with hk | hk
    · exact wpAny_Name (wpAny_loadName_cell I.ok.kind hk hc hcell fin) hd
    · exact wpAny_Name (wpAny_loadName_free I.ok.kind hk hc hcell fin hcd) hd
theorem pe_int {i j pos}:PE X (.Constant (.int i) j pos) (tC (.int i)):=fun _ _ _ H _ I h=>wpAny_Constant_int ⟨.int i,H,I.tok _,⟨_,rfl⟩,h⟩
theorem pe_bl {b j pos}:PE X (.Constant (.bool b) j pos) (tC (.bl b)):=fun _ _ _ H _ I h=>Constant_bool ⟨.bl b,H,I,rfl,h⟩
theorem pe_non {j pos}:PE X (.Constant .none j pos) (tC .non):=fun _ _ _ H _ I h=>Constant_none ⟨.non,H,I,rfl,h⟩
theorem pe_str {x j pos}:PE X (.Constant (.str x) j pos) (tC (.str x)):=fun _ _ _ H _ I h=>Calls.Constant_str ⟨.str x,H,I.tok _,⟨_,rfl⟩,h⟩
def Gl (X:Cx) (x:Str):Prop:=X.env.kindOf x=some .globalImplicit
theorem ld_glob {E:Value→Shared→Prop} {pins:List (Addr × Obj)} {s:Shared} {σ:St} {H:Hp} {x:Str} {u:Value} {pos:Pos} {Q:Value→Shared→Prop} (I:Inv X pins σ H s) (hg:Gl X x) (hm:X.mg x=some u) (h:Q u s)
    (hd:(x == ("__debug__" : Str))=false:=by decide):wpAny (model X.prog X.w) X.A (eval (.Name x pos) X.env) Q E s :=
  Calls.Name_function_global I.ok.kind hg (Calls.loadGlobal_global (by rw [I.ok.glob]; exact I.mod.glob.keeps I.bk) hm h) hd
theorem ld_blt {E:Value→Shared→Prop} {pins:List (Addr × Obj)} {s:Shared} {σ:St} {H:Hp} {x:Str} {u:Value} {pos:Pos} {Q:Value→Shared→Prop} (I:Inv X pins σ H s) (hg:Gl X x) (hm:X.mg x=none) (hv:bootBuiltins x=some u) (h:Q u s)
    (hn:x ≠ "__name__" := by decide) (hd:(x == ("__debug__" : Str))=false:=by decide):wpAny (model X.prog X.w) X.A (eval (.Name x pos) X.env) Q E s:=by
  obtain ⟨mb,h1,h2⟩:=I.mod.blt
  exact Calls.Name_function_global I.ok.kind hg (Calls.loadGlobal_builtin (by rw [I.ok.glob]; exact I.mod.glob.keeps I.bk) hm (by rw [I.ok.blt]; exact h1.keeps I.bk) ((h2 x hn).trans hv) h) hd
theorem pe_glob {x:Str} {v:V} {u:Value} {pos:Pos} (hg:Gl X x) (hm:X.mg x=some u) (r:RelV v u) (hd:(x == ("__debug__" : Str))=false:=by decide):PE X (.Name x pos) (tC v) :=
  fun _ _ _ H _ I h=>ld_glob I hg hm ⟨v,H,I,r,h⟩ hd
theorem pe_bltn {x:Str} {v:V} {u:Value} {pos:Pos} (hg:Gl X x) (hm:X.mg x=none) (hv:bootBuiltins x=some u) (r:RelV v u) (hn:x ≠ "__name__" := by decide) (hd:(x == ("__debug__" : Str))=false:=by decide):PE X (.Name x pos) (tC v) :=
  fun _ _ _ H _ I h=>ld_blt I hg hm hv ⟨v,H,I,r,h⟩ hn hd
variable {a b:Expr} {ta tb:TE} {pos:Pos}
def tB (t:TE):TT:=fun σ H Q=>t σ H fun x H1=>∃ c,x=.bl c∧Q c H1
theorem pt_val {e:Expr} {t:TE} (h:PE X e t) (he:∀ whole,isTrue e X.env whole=(do let v ← whole; standAt e.pos; holding [v] (truthy v)):=by intro _; rfl):PT X e (tB t):=by
  intro pins s σ H Q I hw
  refine isTrue_plain (thn (h pins s σ H _ I hw) fun v s1 ⟨x,H1,I1,r1,q1⟩=>?_) (he _)
  obtain ⟨d,rfl,q⟩:=q1
  cases r1
  exact wpAny_truthy_bool ⟨H1,I1,q⟩
variable {tA tB':TT} {rest:List Expr}
def tAnd (t u:TT):TT:=fun σ H Q=>t σ H fun c H1=>if c=true then u σ H1 Q else Q false H1
def tOr (t u:TT):TT:=fun σ H Q=>t σ H fun c H1=>if c=true then Q true H1 else u σ H1 Q
def tNot (t:TT):TT:=fun σ H Q=>t σ H fun c H1=>Q (!c) H1
theorem pw_and1 (ha:PT X a tA):PW X (.BoolOp .And [a] pos) tA:=by
  intro wh pins s σ H Q I h
  refine isTrue_and (thn (ha pins s σ H Q I h) fun c s1 e=>?_)
  cases c with
  | true=>exact isTrue_and_nil e
  | false=>exact e
theorem pw_or1 (ha:PT X a tA):PW X (.BoolOp .Or [a] pos) tA:=by
  intro wh pins s σ H Q I h
  refine isTrue_or (thn (ha pins s σ H Q I h) fun c s1 e=>?_)
  cases c with
  | false=>exact isTrue_or_nil e
  | true=>exact e
theorem pw_and (ha:PT X a tA) (hb:PW X (.BoolOp .And (b::rest) pos) tB'):PW X (.BoolOp .And (a::b::rest) pos) (tAnd tA tB'):=by
  intro wh pins s σ H Q I h
  refine isTrue_and (thn (ha pins s σ H _ I h) fun c s1 ⟨H1,I1,q1⟩=>?_)
  cases c with
  | true=>exact hb wh pins s1 σ H1 Q I1 q1
  | false=>exact ⟨H1,I1,q1⟩
theorem pw_or (ha:PT X a tA) (hb:PW X (.BoolOp .Or (b::rest) pos) tB'):PW X (.BoolOp .Or (a::b::rest) pos) (tOr tA tB'):=by
  intro wh pins s σ H Q I h
  refine isTrue_or (thn (ha pins s σ H _ I h) fun c s1 ⟨H1,I1,q1⟩=>?_)
  cases c with
  | true=>exact ⟨H1,I1,q1⟩
  | false=>exact hb wh pins s1 σ H1 Q I1 q1
theorem pt_not (ha:PT X a tA):PT X (.UnaryOp .Not a pos) (tNot tA):=by
  intro pins s σ H Q I h
  exact isTrue_not (ha pins s σ H (fun c H1=>Q (!c) H1) I h)
def tAndV (ta tb:TE):TE:=fun σ H Q=>ta σ H fun x H1=>∃ c,x=.bl c∧if c=true then tb σ H1 Q else Q (.bl false) H1
def tOrV (ta tb:TE):TE:=fun σ H Q=>ta σ H fun x H1=>∃ c,x=.bl c∧if c=true then Q (.bl true) H1 else tb σ H1 Q
def tNotV (ta:TE):TE:=fun σ H Q=>ta σ H fun x H1=>∃ c,x=.bl c∧Q (.bl (!c)) H1
theorem pe_one {op} {t:TE} (h:PE X a t):PE X (.BoolOp op [a] pos) t:=fun pins s σ H Q I hw=>BoolOp_one (h pins s σ H Q I hw)
theorem pe_and (ha:PE X a ta) (hb:PE X (.BoolOp .And (b::rest) pos) tb):PE X (.BoolOp .And (a::b::rest) pos) (tAndV ta tb):=by
  intro pins s σ H Q I h
  refine BoolOp_and (thn (ha pins s σ H _ I h) fun v s1 ⟨x,H1,I1,r1,q1⟩=>?_)
  obtain ⟨c,rfl,q1⟩:=q1
  cases r1
  refine wpAny_truthy_bool ?_
  cases c with
  | true=>exact hb pins s1 σ H1 Q I1 q1
  | false=>exact ⟨.bl false,H1,I1,rfl,q1⟩
theorem pe_or (ha:PE X a ta) (hb:PE X (.BoolOp .Or (b::rest) pos) tb):PE X (.BoolOp .Or (a::b::rest) pos) (tOrV ta tb):=by
  intro pins s σ H Q I h
  refine BoolOp_or (thn (ha pins s σ H _ I h) fun v s1 ⟨x,H1,I1,r1,q1⟩=>?_)
  obtain ⟨c,rfl,q1⟩:=q1
  cases r1
  refine wpAny_truthy_bool ?_
  cases c with
  | false=>exact hb pins s1 σ H1 Q I1 q1
  | true=>exact ⟨.bl true,H1,I1,rfl,q1⟩
theorem pe_not (ha:PE X a ta):PE X (.UnaryOp .Not a pos) (tNotV ta):=by
  intro pins s σ H Q I h
  refine UnaryOp_ (thn (ha pins s σ H _ I h) fun v s1 ⟨x,H1,I1,r1,q1⟩=>?_)
  obtain ⟨c,rfl,q1⟩:=q1
  cases r1
  exact not_of (wpAny_truthy_bool ⟨.bl (!c),H1,I1,rfl,q1⟩)
def tIf (t:TT) (ta tb:TE):TE:=fun σ H Q=>t σ H fun c H1=>if c=true then ta σ H1 Q else tb σ H1 Q
theorem pe_ifExp {c:Expr} (hc:PT X c tA) (ha:PE X a ta) (hb:PE X b tb):PE X (.IfExp c a b pos) (tIf tA ta tb):=by
  intro pins s σ H Q I h
  refine wpAny_IfExp (thn (hc pins s σ H _ I h) fun d s1 ⟨H1,I1,q1⟩=>?_)
  cases d with
  | true=>exact ha pins s1 σ H1 Q I1 q1
  | false=>exact hb pins s1 σ H1 Q I1 q1
end
end L2
namespace L2
open PySem PySem.Spec PyProof.Rows
def SqL (K:PySem.W.Frag) (H:Hp) (a:Addr) (xs:List V):Prop :=
  Rd H a (.lst xs) ∨
    ∃ (o:Obj) (its:Array Value) (n:Nat),K.lookup a=some o∧o.cls=.type "list" ∧ o.dict=none∧o.data=.seq its n∧its.size≤sizeLine∧Vals xs its.toList
def SqT (K:PySem.W.Frag) (H:Hp) (a:Addr) (xs:List V):Prop :=
  Rd H a (.tup xs) ∨
    ∃ (o:Obj) (its:Array Value) (n:Nat),K.lookup a=some o∧o.cls=.type "tuple" ∧ o.data=.seq its n∧its.size≤sizeLine∧Vals xs its.toList
def absV:Value→Option V
  | .none=>some .non
  | .bool b=>some (.bl b)
  | .int i _=>some (.int i)
  | .str x _=>some (.str x)
  | .bytes b _=>some (.byt b)
  | .float b _=>some (.flt b)
  | .ref a=>some (.ref a)
  | .type n=>some (.ty n)
  | _=>none
theorem RelV.abs {x:V} {u:Value} (r:RelV x u):absV u=some x:=by
  cases x with
  | non=>cases r; rfl
  | bl _=>cases r; rfl
  | int _=>obtain ⟨t,rfl⟩:=r; rfl
  | str _=>obtain ⟨t,rfl⟩:=r; rfl
  | byt _=>obtain ⟨t,rfl⟩:=r; rfl
  | flt _=>obtain ⟨t,rfl⟩:=r; rfl
  | ref _=>cases r; rfl
  | ty _=>cases r; rfl
theorem RelV.inj {x y:V} {u:Value} (r:RelV x u) (q:RelV y u):x=y:=Option.some.inj (r.abs.symm.trans q.abs)
theorem Vals.inj:∀ {xs ys:List V} {us:List Value},Vals xs us→Vals ys us→xs=ys
  | _,_,_,.nil,.nil=>rfl
  | _,_,_,.cons r t,.cons r' t'=>by rw [r.inj r',Vals.inj t t']
section
variable {X:Cx} {pins:List (Addr × Obj)} {σ:St} {H:Hp} {s:Shared} {a:Addr} {xs ys:List V}
theorem SqL.of {K:PySem.W.Frag} (h:H a=some (.lst xs)):SqL K H a xs:=.inl (.inl h)
theorem SqT.of {K:PySem.W.Frag} (h:H a=some (.tup xs)):SqT K H a xs:=.inl (.inl h)
theorem Inv.list (I:Inv X pins σ H s) (h:SqL X.K H a xs):∃ its:List Value,Vals xs its∧PlainL s.heap a its.toArray∧xs.length≤sizeLine:=by
  rcases h with h | ⟨o,its,n,hk,hc,hd,hs,hz,r⟩
  · obtain ⟨z,its,n,r,e⟩:=h.ok I.hok
    exact ⟨its,r,⟨_,n,e,rfl,rfl,rfl⟩,z⟩
  · refine ⟨its.toList,r,⟨o,n,I.kIn a o hk,hc,hd,by simpa using hs⟩,?_⟩
    have e:=r.length
    simp only [Array.length_toList] at e
    omega
theorem Inv.tuple (I:Inv X pins σ H s) (h:SqT X.K H a xs):∃ its:List Value,Vals xs its∧IsTup s.heap a its.toArray∧xs.length≤sizeLine:=by
  rcases h with h | ⟨o,its,n,hk,hc,hs,hz,r⟩
  · obtain ⟨⟨z,_⟩,its,r,p⟩:=h.ok I.hok
    exact ⟨its,r,p,z⟩
  · refine ⟨its.toList,r,⟨o,I.kIn a o hk,hc,n,by simpa using hs⟩,?_⟩
    have e:=r.length
    simp only [Array.length_toList] at e
    omega
theorem Inv.list_inj (I:Inv X pins σ H s) (h:SqL X.K H a xs) (h':SqL X.K H a ys):xs=ys:=by
  obtain ⟨its,r,⟨o,n,e,_,_,d⟩,_⟩:=I.list h
  obtain ⟨its',r',⟨o',n',e',_,_,d'⟩,_⟩:=I.list h'
  rw [e] at e'; cases e'
  rw [d] at d'
  injection d' with d1 _
  have:its=its':=by simpa using congrArg Array.toList d1
  subst this
  exact r.inj r'
theorem Inv.tuple_inj (I:Inv X pins σ H s) (h:SqT X.K H a xs) (h':SqT X.K H a ys):xs=ys:=by
  obtain ⟨its,r,⟨o,e,_,n,d⟩,_⟩:=I.tuple h
  obtain ⟨its',r',⟨o',e',_,n',d'⟩,_⟩:=I.tuple h'
  rw [e] at e'; cases e'
  rw [d] at d'
  injection d' with d1 _
  have:its=its':=by simpa using congrArg Array.toList d1
  subst this
  exact r.inj r'
end
abbrev Cx.wish (X:Cx) (E:Value→Shared→Prop):Cx:={ X with xe:=E }
abbrev Cx.nox (X:Cx):Cx:=X.wish fun _ _=>False
theorem Cx.Ok.wish {X:Cx} (ok:X.Ok) (E:Value→Shared→Prop):(X.wish E).Ok :=
  ⟨ok.mod,ok.kind,ok.glob,ok.blt,ok.above,ok.inj,ok.has,ok.cab,ok.hd,ok.frames,ok.stk,ok.exf,ok.bs,ok.bsz,ok.noex,ok.exfs,ok.funs,ok.frf⟩
theorem Cx.Ok.unwish {X:Cx} {E:Value→Shared→Prop} (ok:(X.wish E).Ok):X.Ok :=
  ⟨ok.mod,ok.kind,ok.glob,ok.blt,ok.above,ok.inj,ok.has,ok.cab,ok.hd,ok.frames,ok.stk,ok.exf,ok.bs,ok.bsz,ok.noex,ok.exfs,ok.funs,ok.frf⟩
section
variable {X:Cx} {pins:List (Addr × Obj)} {σ:St} {H:Hp} {s:Shared} {E:Value→Shared→Prop}
theorem Inv.wish (I:Inv X pins σ H s) (E:Value→Shared→Prop):Inv (X.wish E) pins σ H s:=⟨I.ok.wish E,I.os,I.bare,I.base,I.loc,I.cell,I.free,I.freeC,I.pin,I.hok,I.len⟩
theorem Inv.unwish (I:Inv (X.wish E) pins σ H s):Inv X pins σ H s:=⟨I.ok.unwish,I.os,I.bare,I.base,I.loc,I.cell,I.free,I.freeC,I.pin,I.hok,I.len⟩
theorem SP.unwish {D:Ends} {f:Flow} {s':Shared} (h:SP (X.wish E) pins D f s'):SP X pins D f s':=by
  cases f with
  | next=>obtain ⟨σ',H',I,q⟩:=h; exact ⟨σ',H',I.unwish,q⟩
  | brk=>obtain ⟨σ',H',I,q⟩:=h; exact ⟨σ',H',I.unwish,q⟩
  | cont=>obtain ⟨σ',H',I,q⟩:=h; exact ⟨σ',H',I.unwish,q⟩
  | ret u=>obtain ⟨v,σ',H',I,r,q⟩:=h; exact ⟨v,σ',H',I.unwish,r,q⟩
theorem PSs.nox {st:List Stmt} {t:TS} (h:PSs X.nox st t):PSs X st t:=fun pins s σ H D I hw =>
  wpAny_mono (h pins s σ H D (I.wish _) hw) (fun _ _ q=>q.unwish) fun _ _ z=>False.elim z
end
section
variable {X:Cx} {st:Stmt} {rest:List Stmt} {t u:TS} {e:Expr} {te:TE} {pos:Pos}
def tNext:TS:=fun D σ H=>D.nx σ H
def tSeq (t u:TS):TS:=fun D σ H=>t { D with nx:=u D } σ H
theorem pss_nil:PSs X [] tNext:=fun _ _ σ H _ I h=>wpAny_execs_nil ⟨σ,H,I,h⟩
theorem pss_cons (h1:PS X st t) (h2:PSs X rest u):PSs X (st::rest) (tSeq t u):=by
  intro pins s σ H D I h
  refine wpAny_execs_cons (thn (h1 pins s σ H { D with nx:=u D } I h) fun f s1 q=>?_)
  cases f with
  | next =>
    obtain ⟨σ',H',I',q⟩:=q
    exact h2 pins s1 σ' H' D I' q
  | ret v=>exact q
  | brk=>exact q
  | cont=>exact q
theorem pss_one (h1:PS X st t):PSs X [st] t:=by
  intro pins s σ H D I h
  refine wpAny_execs_cons (thn (h1 pins s σ H D I h) fun f s1 q=>?_)
  cases f with
  | next=>exact wpAny_execs_nil q
  | ret v=>exact q
  | brk=>exact q
  | cont=>exact q
def tBreak:TS:=fun D σ H=>D.bk σ H
theorem ps_break:PS X (.Break pos) tBreak:=fun _ _ σ H _ I h=>wpAny_Break ⟨σ,H,I,h⟩
theorem Inv.quiet {pins:List (Addr × Obj)} {σ:St} {H:Hp} {s:Shared} (I:Inv X pins σ H s):interactive X.env=false:=by simp [interactive,I.ok.kind]
def tDrop (te:TE):TS:=fun D σ H=>te σ H fun _ H1=>D.nx σ H1
theorem ps_expr (he:PE X e te) (hs:swapsWith e none pos.line X.env=pure false:=by rfl):PS X (.Expr e pos) (tDrop te):=by
  intro pins s σ H D I h
  exact wpAny_Expr_any (thn (he pins s σ H _ I h) fun v s1 ⟨x,H1,I1,r1,q1⟩=>⟨σ,H1,I1,q1⟩) I.quiet hs
def tRet (te:TE):TS:=fun D σ H=>te σ H D.rt
theorem ps_ret (he:PE X e te):PS X (.Return (some e) pos) (tRet te):=by
  intro pins s σ H D I h
  exact wpAny_Return_some (thn (he pins s σ H _ I h) fun v s1 ⟨x,H1,I1,r1,q1⟩=>⟨x,σ,H1,I1,r1,q1⟩)
def tIfS (c:TT) (t u:TS):TS:=fun D σ H=>c σ H fun b H1=>if b=true then t D σ H1 else u D σ H1
theorem ps_if {c:Expr} {a b:List Stmt} {tc:TT} (hc:PT X c tc) (ha:PSs X a t) (hb:PSs X b u):PS X (.If c a b pos) (tIfS tc t u):=by
  intro pins s σ H D I h
  refine wpAny_If (thn (hc pins s σ H _ I h) fun d s1 ⟨H1,I1,q1⟩=>?_)
  cases d with
  | true=>exact ha pins s1 σ H1 D I1 q1
  | false=>exact hb pins s1 σ H1 D I1 q1
end
abbrev TG:=V→St→Hp→(St→Hp→Prop)→Prop
abbrev TGs:=List V→St→Hp→(St→Hp→Prop)→Prop
def PG (X:Cx) (target:Expr) (t:TG):Prop :=
  ∀ (pins:List (Addr × Obj)) (s:Shared) (σ:St) (H:Hp) (v:V) (u:Value) (Q:St→Hp→Prop),Inv X pins σ H s→RelV v u→t v σ H Q →
    wpAny (model X.prog X.w) X.A (assign target X.env u) (fun _ s'=>∃ σ' H',Inv X pins σ' H' s'∧Q σ' H') X.xe s
def PGs (X:Cx) (ts:List Expr) (t:TGs):Prop :=
  ∀ (pins:List (Addr × Obj)) (s:Shared) (σ:St) (H:Hp) (vs:List V) (us:List Value) (Q:St→Hp→Prop),Inv X pins σ H s→Vals vs us→t vs σ H Q →
    wpAny (model X.prog X.w) X.A (assignInOrder ((assignEach ts X.env).map (·.2)) us) (fun _ s'=>∃ σ' H',Inv X pins σ' H' s'∧Q σ' H') X.xe s
abbrev TSet:=V→V→V→Hp→(Hp→Prop)→Prop
def PSet (X:Cx) (t:TSet):Prop :=
  ∀ (pins:List (Addr × Obj)) (s:Shared) (σ:St) (H:Hp) (o i v:V) (ov iv u:Value) (Q:Hp→Prop),Inv X pins σ H s→RelV o ov→RelV i iv→RelV v u→t o i v H Q →
    wpAny (model X.prog X.w) X.A (setItem ov iv u) (fun _ s'=>∃ H',Inv X pins σ H' s'∧Q H') X.xe s
section
variable {X:Cx} {pos:Pos}
def gName (i:Nat):TG:=fun v σ H Q=>Q (σ.set i (some v)) H
theorem pg_name {i:Nat} {x:Str} (hN:X.N.Nodup) (hi:X.N[i]?=some x) (hx:Loc X.env.scope x) (hf:X.fn x=true∨X.env.scope.names.lookup x=some .local:=by first | exact .inl rfl | exact .inr rfl | assumption):PG X (.Name x pos) (gName i):=by
  intro pins s σ H v u Q I r h
  exact wpAny_assign_Name (store_ok I hN hi hx r (fun s' I'=>⟨_,H,I',h⟩) hf)
def gNil:TGs:=fun vs σ H Q=>vs=[]∧Q σ H
def gCons (t:TG) (u:TGs):TGs:=fun vs σ H Q=>∃ v r,vs=v::r∧t v σ H fun σ' H'=>u r σ' H' Q
theorem pgs_nil:PGs X [] gNil:=by
  intro pins s σ H vs us Q I r h
  obtain ⟨e,h⟩:=h
  subst e
  cases r
  exact assignInOrder_nil ⟨σ,H,I,h⟩
theorem pgs_cons {e:Expr} {es:List Expr} {t:TG} {u:TGs} (h1:PG X e t) (h2:PGs X es u)
    (hs:(assignEach (e::es) X.env).map (·.2)=assign e X.env::(assignEach es X.env).map (·.2):=by rfl):PGs X (e::es) (gCons t u):=by
  intro pins s σ H vs us Q I r h
  obtain ⟨v,vr,e1,h⟩:=h
  subst e1
  cases r with
  | cons r rr =>
    rw [hs]
    refine assignInOrder_cons (thn (h1 pins s σ H _ _ _ I r h) fun _ s1 ⟨σ1,H1,I1,q1⟩=>?_)
    exact h2 pins s1 σ1 H1 _ _ Q I1 rr q1
def gTup (K:PySem.W.Frag) (n:Nat) (t:TGs):TG:=fun v σ H Q=>∃ a xs,v=.ref a∧SqT K H a xs∧xs.length=n∧t xs σ H Q
theorem pg_tup {es:List Expr} {k:Nat} {t:TGs} {n:Nat} (hc:X.calm=true) (h:PGs X es t)
    (hn:(assignEach es X.env).length=n:=by rfl) (hst:(assignEach es X.env).findIdx? (·.1)=none:=by rfl):PG X (.Tuple es k pos) (gTup X.K n t):=by
  intro pins s σ H v u Q I r hw
  obtain ⟨a,xs,e1,hq,hl,hw⟩:=hw
  subst e1
  cases r
  obtain ⟨its,rv,ht,hz⟩:=I.tuple hq
  refine assign_Tuple_tuple (I.ok.hd hc) ht (by simp [hn,← hl,rv.length]) hst fun h' hx=>?_
  have I1:Inv X pins σ H { s with heap:=h' }:=I.kept (t':=s.toks) fun b o e=>hx b o (Nat.ne_of_lt (Heap.lt_size e)) e
  exact h pins _ σ H xs _ Q I1 (by simpa using rv) hw
def gSub (to ti:TE) (t:TSet):TG:=fun v σ H Q=>to σ H fun o H1=>ti σ H1 fun i H2=>t o i v H2 fun H3=>Q σ H3
theorem pg_sub {o i:Expr} {to ti:TE} {t:TSet} (ho:PE X o to) (hi:PE X i ti) (hs:PSet X t)
    (ha:∀ v,assign (.Subscript o i pos) X.env v=(do
      let ov ← holding [v] (eval o X.env)
      let iv ← holding [v,ov] (eval i X.env)
      standAt pos
      holding [v,ov,iv] (setItem ov iv v)
      release [v,ov,iv] []):=by intro _; rfl):PG X (.Subscript o i pos) (gSub to ti t):=by
  intro pins s σ H v u Q I r h
  rw [ha]
  refine wpAny_bind (wpAny_holding (thn (ho pins s σ H _ I h) fun ov s1 ⟨x,H1,I1,r1,q1⟩=>?_))
  refine wpAny_bind (wpAny_holding (thn (hi pins s1 σ H1 _ I1 q1) fun iv s2 ⟨y,H2,I2,r2,q2⟩=>?_))
  refine wpAny_bind (wpAny_standAt (wpAny_bind (wpAny_holding (thn (hs pins s2 σ H2 x y v ov iv u _ I2 r1 r2 r q2) fun _ s3 ⟨H3,I3,q3⟩=>?_))))
  exact wpAny_release ⟨σ,H3,I3,q3⟩
def tAsg (te:TE) (g:TG):TS:=fun D σ H=>te σ H fun x H1=>g x σ H1 D.nx
theorem ps_asg {tg e:Expr} {te:TE} {g:TG} (he:PE X e te) (hg:PG X tg g) (hs:swapsWithSole [tg] e pos.line X.env=pure false:=by rfl) (hw:swappedStores [tg] e X.env=pure none:=by rfl)
    (h1:(assignEach [tg] X.env).map (·.2)=[assign tg X.env]:=by rfl):PS X (.Assign [tg] e pos) (tAsg te g):=by
  intro pins s σ H D I h
  refine wpAny_Assign_stores (thn (he pins s σ H _ I h) fun v s1 ⟨x,H1,I1,r1,q1⟩=>?_) hs hw
  rw [h1]
  exact thn (hg pins s1 σ H1 x v _ I1 r1 q1) fun _ s2 q=>q
theorem ps_set {i:Nat} {x:Str} {e:Expr} {te:TE} {pos':Pos} (hN:X.N.Nodup) (hi:X.N[i]?=some x) (hx:Loc X.env.scope x) (he:PE X e te) (hs:swapsWith e (some (.Name x pos')) pos.line X.env=pure false:=by rfl) (hf:X.fn x=true∨X.env.scope.names.lookup x=some .local:=by first | exact .inl rfl | exact .inr rfl | assumption) :
    PS X (.Assign [.Name x pos'] e pos) (tAsg te (gName i)):=by
  intro pins s σ H D I h
  refine wpAny_Assign_Name (thn (he pins s σ H _ I h) fun v s1 ⟨y,H1,I1,r1,q1⟩=>?_) hs
  exact store_ok I1 hN hi hx r1 (fun s2 I2=>⟨_,H1,I2,q1⟩) hf
def tPar (i j:Nat) (ta:TA):TS:=fun D σ H=>ta σ H fun vs H1=>∃ v w,vs=[v,w]∧D.nx ((σ.set i (some v)).set j (some w)) H1
theorem ps_par {i j:Nat} {x y:Str} {a b:Expr} {ta:TA} {px py pt:Pos} {kt k2 pt2} (hc:X.calm=true) (hN:X.N.Nodup) (hi:X.N[i]?=some x) (hj:X.N[j]?=some y) (hij:i≠j)
    (hx:X.env.scope.names.lookup x=some .local) (hy:X.env.scope.names.lookup y=some .local) (ha:PA X [a,b] ta)
    (hw:swappedStores [.Tuple [.Name x px,.Name y py] kt pt] (.Tuple [a,b] k2 pt2) X.env=pure (some [x,y]))
    (hs:swapsWithSole [.Tuple [.Name x px,.Name y py] kt pt] (.Tuple [a,b] k2 pt2) pos.line X.env=pure false:=by rfl) :
    PS X (.Assign [.Tuple [.Name x px,.Name y py] kt pt] (.Tuple [a,b] k2 pt2) pos) (tPar i j ta):=by
  intro pins s σ H D I h
  rw [exec_Assign_arm]
  refine wpAny_bind (wpAny_standAt ?_)
  rw [hs]
  refine wpAny_bind (wpAny_pure ?_)
  rw [if_neg (by decide)]
  refine wpAny_bind (Tuple_ (thn (ha _ pins s σ H _ I h) fun us s1 ⟨vs,H1,I1,r1,q1⟩=>?_))
  obtain ⟨v,w,e1,q1⟩:=q1
  subst e1
  obtain ⟨u1,u2,rfl,rv,rw'⟩:∃ u1 u2,us=[u1,u2]∧RelV v u1∧RelV w u2:=by
    cases r1 with
    | cons p q =>
      cases q with
      | cons p' q' =>
        cases q'
        exact ⟨_,_,rfl,p,p'⟩
  refine wpAny_newObj_type ?_ (by show 2≤sizeLine; decide)
  have I2:Inv X pins σ H1 { s1 with heap:=s1.heap.push { cls:=.type "tuple",data:=.seq [u1,u2].toArray } }:=I1.kept (t':=s1.toks) fun b o e=>Heap.get?_push_of_some _ e
  rw [hw]
  refine wpAny_bind (wpAny_pure ?_)
  show wpAny (model X.prog X.w) X.A (do rule "assign.swapped-stores"; let items ← unpackItems (.ref s1.heap.objs.size) 2 none; assignInOrder [fun v=>bindName X.env y v,fun v=>bindName X.env x v] items.reverse; pure Flow.next) _ _ _
  refine wpAny_bind (wpAny_rule (wpAny_bind (unpackItems_tuple (items:=#[u1,u2]) (I.ok.hd hc) (IsTup.new s1.heap _) fun h' hx'=>?_)))
  have I3:=I2.kept (h':=h') (t':=s1.toks) fun b o e=>hx' b o (Nat.ne_of_lt (Heap.lt_size e)) e
  show wpAny _ _ (assignInOrder [fun v=>bindName X.env y v,fun v=>bindName X.env x v] [u2,u1] >>= fun _=>pure Flow.next) _ _ _
  refine wpAny_bind (assignInOrder_cons (wpAny_bindName (store_ok I3 hN hj (.inl hy) rw' (fun s2 I4=>?_) (.inr hy))))
  refine assignInOrder_cons (wpAny_bindName (store_ok I4 hN hi (.inl hx) rv (fun s3 I5=>assignInOrder_nil (wpAny_pure ?_)) (.inr hx)))
  rw [List.set_comm _ _ (Ne.symm hij)] at I5
  exact ⟨_,H1,I5,q1⟩
end
section
variable {X:Cx} {pos:Pos}
def tWhile (c:TT) (tb:TS):TS:=fun D σ H=>∃ W:Nat→St→Hp→Prop,(∃ m,W m σ H)∧∀ m σ H,W m σ H →
  c σ H fun b H1=>if b=true then ∃ N:St→Hp→Prop,(∀ σ' H',N σ' H'→∃ m',m' < m∧W m' σ' H')∧tb { D with nx:=N,ct:=N,bk:=D.nx } σ H1 else D.nx σ H1
theorem ps_while {c:Expr} {body:List Stmt} {tc:TT} {tb:TS} (hp:PassesOwn (model X.prog X.w) X.A X.env X.xe) (hc:PT X c tc) (hb:PSs X body tb):PS X (.While c body [] pos) (tWhile tc tb):=by
  intro pins s σ H D I h
  obtain ⟨W,⟨m0,w0⟩,turn⟩:=h
  refine wpAny_While (codeAny_whileLoop (fun n s'=>∃ σ' H',Inv X pins σ' H' s'∧W n σ' H') ?_ m0 ⟨σ,H,I,w0⟩)
  rintro n s1 ⟨σ1,H1,I1,w1⟩
  refine wpAny_passesOwn hp (thn (hc pins s1 σ1 H1 _ I1 (turn n σ1 H1 w1)) fun b s2 ⟨H2,I2,q2⟩=>?_)
  cases b with
  | true =>
    obtain ⟨N,hN,q2⟩:=q2
    rw [if_pos rfl]
    refine wpAny_passesOwn hp (thn (hb pins s2 σ1 H2 _ I2 q2) fun f s3 q3=>?_)
    cases f with
    | next =>
      obtain ⟨σ3,H3,I3,n3⟩:=q3
      obtain ⟨m',hm,w3⟩:=hN σ3 H3 n3
      exact ⟨m',hm,σ3,H3,I3,w3⟩
    | cont =>
      obtain ⟨σ3,H3,I3,n3⟩:=q3
      obtain ⟨m',hm,w3⟩:=hN σ3 H3 n3
      exact ⟨m',hm,σ3,H3,I3,w3⟩
    | brk=>exact q3
    | ret v=>exact q3
  | false =>
    rw [if_neg Bool.false_ne_true]
    exact wpAny_execs_nil ⟨σ1,H2,I2,q2⟩
end
structure It where
  go:Nat→Hp→Prop
  yld:Nat→Hp→V→Hp→Prop
  stop:Nat→Hp→Prop
def FpOk (X:Cx) (pins:List (Addr × Obj)) (H:Hp) (b:Addr):Prop :=
  H b=none∧b≠X.env.locals∧b ∉ X.fs∧(b∈X.ex∨X.s₀.heap.objs.size≤b)∧(∀ x c,X.env.cells.lookup x=some c→c≠b)∧∀ p∈X.pn++pins,p.1≠b
theorem Inv.fpOk {X:Cx} {pins:List (Addr × Obj)} {σ:St} {H H':Hp} {s:Shared} {b:Addr} (I:Inv X pins σ H s) (hb:s.heap.objs.size≤b) (hn:H' b=none):FpOk X pins H' b:=by
  refine ⟨hn,Nat.ne_of_gt (Nat.lt_of_lt_of_le I.lt hb),I.nofs hb,.inr (Nat.le_trans I.sz hb),fun x c e z=>?_,fun p hp z=>?_⟩
  · obtain ⟨v,q⟩:=I.cell x c e
    exact absurd (Nat.lt_of_lt_of_le q.lt (by rw [z]; exact hb)) (Nat.lt_irrefl _)
  · exact absurd (Nat.lt_of_lt_of_le (Heap.lt_size (I.pin p hp).1) (by rw [z]; exact hb)) (Nat.lt_irrefl _)
structure Turn (P:Program) (w:World) (K:PySem.W.Frag) (tg:Expr) (J:It) (fp:List Addr) (it:Addr) (tn:Nat→Heap→Prop):Prop where
  mem:it∈fp
  obj:∀ i h,tn i h→∀ b∈fp,∃ o,h.get? b=some o∧∀ v,o.data ≠ .cell v
  keep:∀ i h h',tn i h→(∀ b∈fp,∀ o,h.get? b=some o→h'.get? b=some o)→tn i h'
  item:∀ (X:Cx),X.prog=P→X.w=w→X.K=K→X.calm=true→∀ (i:Nat) (pins:List (Addr × Obj)) (s:Shared) (σ:St) (H:Hp) (E:Value→Shared→Prop),Inv X pins σ H s→(∀ b∈fp,FpOk X pins H b)→tn i s.heap→J.go i H →
    wpAny (model P w) X.A (pyNext (.ref it)) (fun r s1=>∃ u,r=some u ∧
      wpAny (model P w) X.A (letOwnedTupleGo tg (.ref it) u) (fun _ s2=>∃ x H',Inv X pins σ H' s2∧RelV x u∧J.yld i H x H'∧tn (i+1) s2.heap∧∀ b∈fp,H' b=none) E s1) E s
  done:∀ (X:Cx),X.prog=P→X.w=w→X.K=K→X.calm=true→∀ (i:Nat) (pins:List (Addr × Obj)) (s:Shared) (σ:St) (H:Hp) (E:Value→Shared→Prop),Inv X pins σ H s→(∀ b∈fp,FpOk X pins H b)→tn i s.heap→J.stop i H →
    wpAny (model P w) X.A (pyNext (.ref it)) (fun r s1=>r=none∧Inv X pins σ H s1) E s
  self:∀ (A:Around) (i:Nat) (s:Shared) (Q:Value→Shared→Prop) (E:Value→Shared→Prop),tn i s.heap→Q (.ref it) s→wpAny (model P w) A (pyIter (.ref it)) Q E s
abbrev TI:=St→Hp→(It→Hp→Prop)→Prop
def PIE (X:Cx) (pins:List (Addr × Obj)) (σ:St) (tg:Expr) (R:It→Hp→Prop) (itv:Value) (s2:Shared):Prop :=
  ∃ (it:Addr) (fp:List Addr) (tn:Nat→Heap→Prop) (J:It) (H':Hp),itv=.ref it∧Inv X pins σ H' s2∧Turn X.prog X.w X.K tg J fp it tn∧tn 0 s2.heap∧(∀ b∈fp,FpOk X pins H' b)∧R J H'
def PI (X:Cx) (tg iter:Expr) (wi:TI):Prop :=
  ∀ (pins:List (Addr × Obj)) (s:Shared) (σ:St) (H:Hp) (R:It→Hp→Prop),Inv X pins σ H s→wi σ H R →
    wpAny (model X.prog X.w) X.A (eval iter X.env) (fun v s1=>wpAny (model X.prog X.w) X.A (pyIter v) (PIE X pins σ tg R) X.xe s1) X.xe s
theorem go_of {M:Model} {A:Around} {E:Value→Shared→Prop} {s:Shared} {tg:Expr} {it:Addr} {u:Value} {o:Obj} {n:String} {vs:Array Value} {Q:Unit→Shared→Prop} (ho:s.heap.get? it=some o) (hc:o.cls=.type n) (hd:o.data=.fields vs)
    (hn:["enumerate", "zip", "dict_itemiterator", "dict_reverseitemiterator", "odict_iterator", "itertools.zip_longest", "itertools.pairwise"].contains n=false) (hQ:Q () s):wpAny M A (letOwnedTupleGo tg (.ref it) u) Q E s:=by
  unfold letOwnedTupleGo
  cases tg <;> first
    | exact wpAny_pure hQ
    | (cases u <;> first
        | exact wpAny_pure hQ
        | (refine wpAny_bind (wpAny_load ho ?_)
           rw [hc,hd]
           show wpAny M A (if (["enumerate", "zip", "dict_itemiterator", "dict_reverseitemiterator", "odict_iterator", "itertools.zip_longest", "itertools.pairwise"].contains n&&vs[0]? == some (rawInt _))=true then _ else _) Q E s
           rw [if_neg (by intro h; rw [hn,Bool.false_and] at h; cases h)]
           exact wpAny_pure hQ))
def Itl (K:PySem.W.Frag) (a:Addr):It :=
  ⟨fun i H=>∃ xs x,SqL K H a xs∧xs[i]?=some x,fun i H x H'=>H'=H∧∀ xs,SqL K H a xs→xs[i]?=some x,fun i H=>∃ xs,SqL K H a xs∧xs.length≤i⟩
def Itt (K:PySem.W.Frag) (a:Addr):It :=
  ⟨fun i H=>∃ xs x,SqT K H a xs∧xs[i]?=some x,fun i H x H'=>H'=H∧∀ xs,SqT K H a xs→xs[i]?=some x,fun i H=>∃ xs,SqT K H a xs∧xs.length≤i⟩
def Itr (lo:Int) (n:Nat):It:=⟨fun i _=>i<n,fun i H x H'=>H'=H∧x=.int (lo+i),fun i _=>n≤i⟩
theorem turn_list {P:Program} {w:World} {K:PySem.W.Frag} {tg:Expr} (a it:Addr):Turn P w K tg (Itl K a) [it] it (fun i h=>h.IsListIter it a i) where
  mem:=by simp
  obj:=fun i h st b hb=>by
    have e:b=it:=by simpa using hb
    subst e
    obtain ⟨o,e,c,d⟩:=st
    exact ⟨o,e,fun v z=>by rw [d] at z; cases z⟩
  keep:=fun i h h' st k=>st.at fun o e=>k it (by simp) o e
  item:=by
    intro X hP hw hK hc i pins s σ H E I hf st hg
    subst hP hw hK
    obtain ⟨xs,x,hq,hx⟩:=hg
    obtain ⟨its,rv,p,hz⟩:=I.list hq
    obtain ⟨u,hu,ru⟩:=rv.get hx
    obtain ⟨f0,f1,f2,f3,f4,f5⟩:=hf it (by simp)
    refine wpAny_pyNext_list_item st p.isList (x:=u) (by simpa using hu) fun h' st' sb=>?_
    have I1:Inv X pins σ H { s with heap:=h' }:=I.turned (t':=s.toks) (fun b o hb e=>(sb.2 b hb).trans e) f0 f1 f3 f4 f5
    obtain ⟨o,e,c,d⟩:=id st'
    exact ⟨u,rfl,go_of (s:={ s with heap:=h' }) e c d (by decide) ⟨x,H,I1,ru,⟨rfl,fun ys hy=>by rw [I.list_inj hy hq]; exact hx⟩,st',fun b hb=>(hf b hb).1⟩⟩
  done:=by
    intro X hP hw hK hc i pins s σ H E I hf st hg
    subst hP hw hK
    obtain ⟨xs,hq,hx⟩:=hg
    obtain ⟨its,rv,p,hz⟩:=I.list hq
    obtain ⟨f0,f1,f2,f3,f4,f5⟩:=hf it (by simp)
    have hl:=rv.length
    exact wpAny_pyNext_list_end (I.ok.hd hc) st p.isList (by simp; omega) fun h' eb=>⟨rfl,I.turned (t':=s.toks) (fun b o hb e=>eb b o hb e) f0 f1 f3 f4 f5⟩
  self:=fun _ _ _ _ _ st h=>wpAny_pyIter_listiter st h
theorem turn_tuple {P:Program} {w:World} {K:PySem.W.Frag} {tg:Expr} (a it:Addr):Turn P w K tg (Itt K a) [it] it (fun i h=>h.IsTupleIter it a i) where
  mem:=by simp
  obj:=fun i h st b hb=>by
    have e:b=it:=by simpa using hb
    subst e
    obtain ⟨o,e,c,d⟩:=st
    exact ⟨o,e,fun v z=>by rw [d] at z; cases z⟩
  keep:=fun i h h' st k=>st.at fun o e=>k it (by simp) o e
  item:=by
    intro X hP hw hK hc i pins s σ H E I hf st hg
    subst hP hw hK
    obtain ⟨xs,x,hq,hx⟩:=hg
    obtain ⟨its,rv,p,hz⟩:=I.tuple hq
    obtain ⟨u,hu,ru⟩:=rv.get hx
    obtain ⟨f0,f1,f2,f3,f4,f5⟩:=hf it (by simp)
    refine wpAny_pyNext_tuple_item st (show s.heap.IsTuple a its.toArray from p) (x:=u) (by simpa using hu) fun h' st' sb=>?_
    have I1:Inv X pins σ H { s with heap:=h' }:=I.turned (t':=s.toks) (fun b o hb e=>(sb.2 b hb).trans e) f0 f1 f3 f4 f5
    obtain ⟨o,e,c,d⟩:=id st'
    exact ⟨u,rfl,go_of (s:={ s with heap:=h' }) e c d (by decide) ⟨x,H,I1,ru,⟨rfl,fun ys hy=>by rw [I.tuple_inj hy hq]; exact hx⟩,st',fun b hb=>(hf b hb).1⟩⟩
  done:=by
    intro X hP hw hK hc i pins s σ H E I hf st hg
    subst hP hw hK
    obtain ⟨xs,hq,hx⟩:=hg
    obtain ⟨its,rv,p,hz⟩:=I.tuple hq
    obtain ⟨f0,f1,f2,f3,f4,f5⟩:=hf it (by simp)
    have hl:=rv.length
    exact wpAny_pyNext_tuple_end (I.ok.hd hc) st (show s.heap.IsTuple a its.toArray from p) (by simp; omega) fun h' eb=>⟨rfl,I.turned (t':=s.toks) (fun b o hb e=>eb b o hb e) f0 f1 f3 f4 f5⟩
  self:=fun _ _ _ _ _ st h=>wpAny_pyIter_tupleiter st h
theorem turn_range {P:Program} {w:World} {K:PySem.W.Frag} {tg:Expr} (it:Addr) (lo:Int) (n:Nat):Turn P w K tg (Itr lo n) [it] it (fun i h=>IsRangeIter h it (lo+(i:Nat)*1) ((n:Int) - (i:Nat)) 1) where
  mem:=by simp
  obj:=fun i h st b hb=>by
    have e:b=it:=by simpa using hb
    subst e
    exact ⟨_,st,fun v z=>by
      have z':Data.fields _=Data.cell v:=z
      cases z'⟩
  keep:=fun i h h' st k=>k it (by simp) _ st
  item:=by
    intro X hP hw hK hc i pins s σ H E I hf st hg
    subst hP hw hK
    obtain ⟨f0,f1,f2,f3,f4,f5⟩:=hf it (by simp)
    have W:=Walks.range (prog:=X.prog) (w:=X.w) (I.ok.hd hc) it lo 1 n
    refine W.item i s _ _ hg st fun v h' tk hv st' kk=>?_
    obtain ⟨t,rfl⟩:=hv
    have I1:Inv X pins σ H { s with heap:=h',toks:=tk }:=I.turned (fun b o hb e=>kk b o (by simpa using hb) e) f0 f1 f3 f4 f5
    refine ⟨_,rfl,go_of (s:={ s with heap:=h',toks:=tk }) (n := "range_iterator") st' rfl rfl (by decide) ⟨.int (lo+i),H,I1,⟨t,?_⟩,⟨rfl,rfl⟩,st',fun b hb=>(hf b hb).1⟩⟩
    rw [Int.mul_one]
  done:=by
    intro X hP hw hK hc i pins s σ H E I hf st hg
    subst hP hw hK
    obtain ⟨f0,f1,f2,f3,f4,f5⟩:=hf it (by simp)
    exact wpAny_pyNext_range_end (I.ok.hd hc) st (by have:n≤i:=hg; omega) fun h' eb=>⟨rfl,I.turned (t':=s.toks) (fun b o hb e=>eb b o hb e) f0 f1 f3 f4 f5⟩
  self:=fun _ _ _ _ _ st h=>wpAny_pyIter_rangeiter st h
end L2
namespace L2
open PySem PySem.Spec PyProof.Rows
section
variable {X:Cx} {tg:Expr}
def iList (K:PySem.W.Frag) (tl:TE):TI:=fun σ H R=>tl σ H fun x H1=>∃ a,x=.ref a∧(∃ xs,SqL K H1 a xs)∧R (Itl K a) H1
def iTup (K:PySem.W.Frag) (tl:TE):TI:=fun σ H R=>tl σ H fun x H1=>∃ a,x=.ref a∧(∃ xs,SqT K H1 a xs)∧R (Itt K a) H1
theorem pi_list {l:Expr} {tl:TE} (hl:PE X l tl):PI X tg l (iList X.K tl):=by
  intro pins s σ H R I h
  refine thn (hl pins s σ H _ I h) fun v s1 ⟨x,H1,I1,r1,q1⟩=>?_
  obtain ⟨a,e,⟨xs,hq⟩,q⟩:=q1
  subst e
  cases r1
  obtain ⟨its,rv,p,hz⟩:=I1.list hq
  refine wpAny_pyIter_list p.isList ?_
  refine ⟨s1.heap.objs.size,[s1.heap.objs.size],_,_,H1,rfl,I1.kept (t':=s1.toks) fun b o e=>Heap.get?_push_of_some _ e,turn_list a _,⟨_,Heap.get?_push_size _ rfl,rfl,rfl⟩,fun b hb=>?_,q⟩
  have e:b=s1.heap.objs.size:=by simpa using hb
  subst e
  exact I1.fpOk (Nat.le_refl _) (I1.hok.fresh (Nat.le_refl _))
theorem pi_tup {l:Expr} {tl:TE} (hl:PE X l tl):PI X tg l (iTup X.K tl):=by
  intro pins s σ H R I h
  refine thn (hl pins s σ H _ I h) fun v s1 ⟨x,H1,I1,r1,q1⟩=>?_
  obtain ⟨a,e,⟨xs,hq⟩,q⟩:=q1
  subst e
  cases r1
  obtain ⟨its,rv,p,hz⟩:=I1.tuple hq
  refine wpAny_pyIter_tuple (show s1.heap.IsTuple a its.toArray from p) ?_
  refine ⟨s1.heap.objs.size,[s1.heap.objs.size],_,_,H1,rfl,I1.kept (t':=s1.toks) fun b o e=>Heap.get?_push_of_some _ e,turn_tuple a _,⟨_,Heap.get?_push_size _ rfl,rfl,rfl⟩,fun b hb=>?_,q⟩
  have e:b=s1.heap.objs.size:=by simpa using hb
  subst e
  exact I1.fpOk (Nat.le_refl _) (I1.hok.fresh (Nat.le_refl _))
theorem range_it {pins:List (Addr × Obj)} {σ:St} {H:Hp} {s:Shared} {R:It→Hp→Prop} {E:Value→Shared→Prop} {lo hi:Int} {t u v:Tok} {tk:Nat} (I:Inv X pins σ H s) (h1:-(2^62)≤lo) (h2:lo<2^62) (h3:-(2^62)≤hi) (h4:hi<2^62)
    (q:R (Itr lo (hi - lo).toNat) H):wpAny (model X.prog X.w) X.A (pyIter (.ref s.heap.objs.size)) (PIE X pins σ tg R) E { s with heap:=s.heap.push { cls:=.type "range",data:=.fields #[.int lo t,.int hi u,.int 1 v] },toks:=tk }:=by
  refine wpAny_pyIter_range (IsRange.new ..) (small_one h1 h2 h3 h4) ?_
  have I1:Inv X pins σ H { s with heap:=s.heap.push { cls:=.type "range",data:=.fields #[.int lo t,.int hi u,.int 1 v] },toks:=tk }:=I.kept fun b o e=>Heap.get?_push_of_some _ e
  refine ⟨(s.heap.push { cls:=.type "range",data:=.fields #[.int lo t,.int hi u,.int 1 v] }).objs.size,[(s.heap.push { cls:=.type "range",data:=.fields #[.int lo t,.int hi u,.int 1 v] }).objs.size],_,_,H,rfl,
    I1.kept (t':=tk) fun b o e=>Heap.get?_push_of_some _ e,turn_range _ lo (hi - lo).toNat,?_,fun b hb=>?_,q⟩
  · have e1:lo+((0:Nat):Int)*1=lo:=by simp
    have e2:(((hi - lo).toNat:Nat):Int) - ((0:Nat):Int)=Builtin.Range.rangeSize lo hi 1:=by rw [rangeSize_one]; split <;> omega
    show IsRangeIter _ _ (lo+((0:Nat):Int)*1) ((((hi - lo).toNat:Nat):Int) - ((0:Nat):Int)) 1
    rw [e1,e2]
    exact Heap.get?_push_size _ rfl
  · have e:b=(s.heap.push { cls:=.type "range",data:=.fields #[.int lo t,.int hi u,.int 1 v] }).objs.size:=by simpa using hb
    subst e
    exact I1.fpOk (Nat.le_refl _) (I1.hok.fresh (Nat.le_refl _))
def iRng1 (ta:TA):TI:=fun σ H R=>ta σ H fun vs H1=>∃ j:Int,vs=[.int j]∧-(2^62)≤j∧j<2^62∧R (Itr 0 j.toNat) H1
def iRng2 (ta:TA):TI:=fun σ H R=>ta σ H fun vs H1=>∃ i j:Int,vs=[.int i,.int j]∧(-(2^62)≤i∧i<2^62∧-(2^62)≤j∧j<2^62)∧R (Itr i (j - i).toNat) H1
theorem pi_range1 {a:Expr} {ta:TA} {p pos:Pos} (hg:Gl X "range") (hm:X.mg "range" = none) (ha:PA X [a] ta) (hs:starEach [a] X.env=[(false,eval a X.env)]:=by rfl):PI X tg (.Call (.Name "range" p) [a] [] pos) (iRng1 ta):=by
  intro pins s σ H R I h
  refine Call_ (ld_blt I hg hm boot_range (PyProof.Rows.callWith_type1 (thn (ha pos pins s σ H _ I h) fun us s1 ⟨vs,H1,I1,r1,q1⟩=>?_) hs rfl))
  obtain ⟨j,e,q1,q2,q⟩:=q1
  subst e
  cases r1 with
  | cons r rr =>
    cases rr
    obtain ⟨t,rfl⟩:=r
    exact call_range_1 (range_it I1 (by omega) (by omega) q1 q2 (by simpa using q))
theorem pi_range2 {a b:Expr} {ta:TA} {p pos:Pos} (hg:Gl X "range") (hm:X.mg "range" = none) (ha:PA X [a,b] ta) (hs:starEach [a,b] X.env=[(false,eval a X.env),(false,eval b X.env)]:=by rfl) (hs2:starEach [b] X.env=[(false,eval b X.env)]:=by rfl) :
    PI X tg (.Call (.Name "range" p) [a,b] [] pos) (iRng2 ta):=by
  intro pins s σ H R I h
  refine Call_ (ld_blt I hg hm boot_range (PyProof.Rows.callWith_type1 (thn (ha pos pins s σ H _ I h) fun us s1 ⟨vs,H1,I1,r1,q1⟩=>?_) (by rw [hs,hs2]) (by rw [hs2]; rfl)))
  obtain ⟨i,j,e,⟨q1,q2,q3,q4⟩,q⟩:=q1
  subst e
  cases r1 with
  | cons r rr =>
    cases rr with
    | cons r' rr =>
      cases rr
      obtain ⟨t,rfl⟩:=r
      obtain ⟨t',rfl⟩:=r'
      exact call_range_2 (range_it I1 q1 q2 q3 q4 q)
def tFor (wi:TI) (g:TG) (tb:TS):TS:=fun D σ H=>wi σ H fun J H1=>∃ W:Nat→Nat→St→Hp→Prop,(∃ m,W 0 m σ H1)∧∀ i m σ H,W i m σ H →
  (J.stop i H∧D.nx σ H)∨(J.go i H∧∃ N:St→Hp→Prop,(∀ σ' H',N σ' H'→∃ m',m' < m∧W (i+1) m' σ' H')∧∀ x H',J.yld i H x H'→g x σ H' fun σ2 H2=>tb { D with nx:=N,ct:=N,bk:=D.nx } σ2 H2)
def pinsAt (fp:List Addr) (h:Heap):List (Addr × Obj):=fp.filterMap fun b=>(h.get? b).map fun o=>(b,o)
theorem mem_pinsAt {fp:List Addr} {h:Heap} {b:Addr} {o:Obj} (hb:b∈fp) (e:h.get? b=some o):(b,o)∈pinsAt fp h:=List.mem_filterMap.mpr ⟨b,hb,by rw [e]; rfl⟩
theorem of_pinsAt {fp:List Addr} {h:Heap} {p:Addr × Obj} (hp:p∈pinsAt fp h):p.1∈fp∧h.get? p.1=some p.2:=by
  obtain ⟨b,hb,e⟩:=List.mem_filterMap.mp hp
  cases q:h.get? b with
  | none=>rw [q] at e; cases e
  | some o =>
    rw [q] at e
    have e':(b,o)=p:=Option.some.inj e
    subst e'
    exact ⟨hb,q⟩
theorem Inv.pinned {pins:List (Addr × Obj)} {σ:St} {H:Hp} {s:Shared} {fp:List Addr} (I:Inv X pins σ H s) (hf:∀ b∈fp,FpOk X pins H b) (ho:∀ b∈fp,∃ o,s.heap.get? b=some o∧∀ v,o.data ≠ .cell v):Inv X (pins++pinsAt fp s.heap) σ H s :=
  I.pins_of fun p hp=>(List.mem_append.mp hp).elim (fun z=>I.pin p (List.mem_append_right _ z)) fun z=>by
    obtain ⟨hb,e⟩:=of_pinsAt z
    obtain ⟨f0,f1,f2,_⟩:=hf p.1 hb
    obtain ⟨o,e',d⟩:=ho p.1 hb
    rw [e] at e'; cases e'
    exact ⟨e,f0,f1,f2,d⟩
theorem Inv.unpinned {pins pl:List (Addr × Obj)} {σ:St} {H:Hp} {s:Shared} (I:Inv X (pins++pl) σ H s):Inv X pins σ H s:=I.pins_of fun p hp=>I.pin p (List.mem_append_right _ (List.mem_append_left _ hp))
theorem ps_for {iter:Expr} {body:List Stmt} {wi:TI} {g:TG} {tb:TS} {pos:Pos} (hp:PassesOwn (model X.prog X.w) X.A X.env X.xe) (hc:X.calm=true) (hi:PI X tg iter wi) (hg:PG X tg g) (hb:PSs X body tb)
    (hs:∀ x,foldedSetIterable iter X.env x=pure x:=by intro _; rfl):PS X (.For tg iter body [] pos) (tFor wi g tb):=by
  intro pins s σ H D I h
  refine wpAny_For (thn (hi pins s σ H _ I h) fun v s1 h1=>thn h1 fun itv s2 h2=>?_) hs
  obtain ⟨it,fp,tn,J,H2,e,I2,T,st2,f2,W,⟨m0,w0⟩,turn⟩:=h2
  subst e
  have stat:∀ {H':Hp},(∀ b∈fp,H' b=none)→∀ b∈fp,FpOk X pins H' b:=fun hn b hb=>⟨hn b hb,(f2 b hb).2⟩
  refine codeAny_forLoop_any (fun n s'=>∃ i σ' H',Inv X pins σ' H' s'∧tn i s'.heap∧(∀ b∈fp,H' b=none)∧W i n σ' H') ?_ m0 ⟨0,σ,H2,I2,st2,fun b hb=>(f2 b hb).1,w0⟩
  rintro n s3 ⟨i,σ3,H3,I3,st3,fr3,w3⟩
  rcases turn i n σ3 H3 w3 with ⟨stop,qn⟩ | ⟨go,N,hN,step⟩
  · refine wpAny_passesOwn hp (thn (T.done X rfl rfl rfl hc i pins s3 σ3 H3 X.xe I3 (stat fr3) st3 stop) fun r s4 ⟨hr,I4⟩=>?_)
    subst hr
    exact wpAny_execs_nil ⟨σ3,H3,I4,qn⟩
  · refine wpAny_passesOwn hp (thn (T.item X rfl rfl rfl hc i pins s3 σ3 H3 X.xe I3 (stat fr3) st3 go) fun r s4 ⟨u,hr,h4⟩=>?_)
    subst hr
    refine wpAny_passesOwn hp (thn h4 fun _ s5 ⟨x,H5,I5,r5,y5,st5,fr5⟩=>?_)
    have I5':=I5.pinned (stat fr5) (T.obj _ _ st5)
    refine wpAny_passesOwn hp (thn (hg _ s5 σ3 H5 x u _ I5' r5 (step x H5 y5)) fun _ s6 ⟨σ6,H6,I6,q6⟩=>?_)
    refine wpAny_passesOwn hp (thn (hb _ s6 σ6 H6 _ I6 q6) fun f s7 q7=>?_)
    have again:∀ {σ7:St} {H7:Hp},Inv X (pins++pinsAt fp s5.heap) σ7 H7 s7→N σ7 H7→∃ m,m<n∧∃ i σ' H',Inv X pins σ' H' s7∧tn i s7.heap∧(∀ b∈fp,H' b=none)∧W i m σ' H':=fun {σ7 H7} I7 n7=>by
      obtain ⟨m',hm,w7⟩:=hN σ7 H7 n7
      refine ⟨m',hm,i+1,σ7,H7,I7.unpinned,T.keep _ _ _ st5 fun b hb o e=>(I7.pin (b,o) (List.mem_append_right _ (List.mem_append_right _ (mem_pinsAt hb e)))).1,fun b hb=>?_,w7⟩
      obtain ⟨o,e,d⟩:=T.obj _ _ st5 b hb
      exact (I7.pin (b,o) (List.mem_append_right _ (List.mem_append_right _ (mem_pinsAt hb e)))).2.1
    cases f with
    | next=>obtain ⟨σ7,H7,I7,n7⟩:=q7; exact again I7 n7
    | cont=>obtain ⟨σ7,H7,I7,n7⟩:=q7; exact again I7 n7
    | brk=>obtain ⟨σ7,H7,I7,q7⟩:=q7; exact ⟨σ7,H7,I7.unpinned,q7⟩
    | ret v=>obtain ⟨x7,σ7,H7,I7,r7,q7⟩:=q7; exact ⟨x7,σ7,H7,I7.unpinned,r7,q7⟩
end
theorem for_list {K:PySem.W.Frag} {a:Addr} {xs:List V} {g:TG} {tb:TS} {D:Ends} {σ:St} {H:Hp} (Pv:Nat→St→Hp→Prop) (h0:Pv 0 σ H) (hl:∀ i σ H,i≤xs.length→Pv i σ H→SqL K H a xs)
    (hs:∀ i x σ H,xs[i]?=some x→Pv i σ H→g x σ H fun σ2 H2=>tb { D with nx:=Pv (i+1),ct:=Pv (i+1),bk:=D.nx } σ2 H2) (hd:∀ σ H,Pv xs.length σ H→D.nx σ H) :
    ∃ W:Nat→Nat→St→Hp→Prop,(∃ m,W 0 m σ H)∧∀ i m σ H,W i m σ H →
      ((Itl K a).stop i H∧D.nx σ H)∨((Itl K a).go i H∧∃ N:St→Hp→Prop,(∀ σ' H',N σ' H'→∃ m',m' < m∧W (i+1) m' σ' H')∧∀ x H',(Itl K a).yld i H x H'→g x σ H' fun σ2 H2=>tb { D with nx:=N,ct:=N,bk:=D.nx } σ2 H2):=by
  refine ⟨fun i m σ H=>m=xs.length - i∧i≤xs.length∧Pv i σ H,⟨xs.length,by simp,Nat.zero_le _,h0⟩,?_⟩
  rintro i m σ H ⟨rfl,hi,p⟩
  have q:=hl i σ H hi p
  by_cases hlt:i<xs.length
  · refine .inr ⟨⟨xs,xs[i],q,by simp [hlt]⟩,Pv (i+1),fun σ' H' p'=>⟨xs.length - (i+1),by omega,rfl,hlt,p'⟩,fun x H' y=>?_⟩
    obtain ⟨e,y⟩:=y
    subst e
    exact hs i x σ _ (y xs q) p
  · have e:i=xs.length:=by omega
    subst e
    exact .inl ⟨⟨xs,q,Nat.le_refl _⟩,hd σ H p⟩
theorem for_tup {K:PySem.W.Frag} {a:Addr} {xs:List V} {g:TG} {tb:TS} {D:Ends} {σ:St} {H:Hp} (Pv:Nat→St→Hp→Prop) (h0:Pv 0 σ H) (hl:∀ i σ H,i≤xs.length→Pv i σ H→SqT K H a xs)
    (hs:∀ i x σ H,xs[i]?=some x→Pv i σ H→g x σ H fun σ2 H2=>tb { D with nx:=Pv (i+1),ct:=Pv (i+1),bk:=D.nx } σ2 H2) (hd:∀ σ H,Pv xs.length σ H→D.nx σ H) :
    ∃ W:Nat→Nat→St→Hp→Prop,(∃ m,W 0 m σ H)∧∀ i m σ H,W i m σ H →
      ((Itt K a).stop i H∧D.nx σ H)∨((Itt K a).go i H∧∃ N:St→Hp→Prop,(∀ σ' H',N σ' H'→∃ m',m' < m∧W (i+1) m' σ' H')∧∀ x H',(Itt K a).yld i H x H'→g x σ H' fun σ2 H2=>tb { D with nx:=N,ct:=N,bk:=D.nx } σ2 H2):=by
  refine ⟨fun i m σ H=>m=xs.length - i∧i≤xs.length∧Pv i σ H,⟨xs.length,by simp,Nat.zero_le _,h0⟩,?_⟩
  rintro i m σ H ⟨rfl,hi,p⟩
  have q:=hl i σ H hi p
  by_cases hlt:i<xs.length
  · refine .inr ⟨⟨xs,xs[i],q,by simp [hlt]⟩,Pv (i+1),fun σ' H' p'=>⟨xs.length - (i+1),by omega,rfl,hlt,p'⟩,fun x H' y=>?_⟩
    obtain ⟨e,y⟩:=y
    subst e
    exact hs i x σ _ (y xs q) p
  · have e:i=xs.length:=by omega
    subst e
    exact .inl ⟨⟨xs,q,Nat.le_refl _⟩,hd σ H p⟩
theorem for_range {lo:Int} {n:Nat} {g:TG} {tb:TS} {D:Ends} {σ:St} {H:Hp} (Pv:Nat→St→Hp→Prop) (h0:Pv 0 σ H)
    (hs:∀ i σ H,i<n→Pv i σ H→g (.int (lo+i)) σ H fun σ2 H2=>tb { D with nx:=Pv (i+1),ct:=Pv (i+1),bk:=D.nx } σ2 H2) (hd:∀ σ H,Pv n σ H→D.nx σ H) :
    ∃ W:Nat→Nat→St→Hp→Prop,(∃ m,W 0 m σ H)∧∀ i m σ H,W i m σ H →
      ((Itr lo n).stop i H∧D.nx σ H)∨((Itr lo n).go i H∧∃ N:St→Hp→Prop,(∀ σ' H',N σ' H'→∃ m',m' < m∧W (i+1) m' σ' H')∧∀ x H',(Itr lo n).yld i H x H'→g x σ H' fun σ2 H2=>tb { D with nx:=N,ct:=N,bk:=D.nx } σ2 H2):=by
  refine ⟨fun i m σ H=>m=n - i∧i≤n∧Pv i σ H,⟨n,by simp,Nat.zero_le _,h0⟩,?_⟩
  rintro i m σ H ⟨rfl,hi,p⟩
  by_cases hlt:i<n
  · refine .inr ⟨hlt,Pv (i+1),fun σ' H' p'=>⟨n - (i+1),by omega,rfl,hlt,p'⟩,fun x H' y=>?_⟩
    obtain ⟨e,y⟩:=y
    subst e y
    exact hs i σ _ hlt p
  · have e:i=n:=by omega
    subst e
    exact .inl ⟨Nat.le_refl _,hd σ H p⟩
end L2
namespace L2
open PySem PySem.Spec PyProof.Rows
abbrev R2:=V→V→Hp→VK→Prop
def OpR (X:Cx) (f:Value→Value→Sem Value) (r:R2):Prop :=
  ∀ (pins:List (Addr × Obj)) (s:Shared) (σ:St) (H:Hp) (x y:V) (v u:Value) (Q:VK),Inv X pins σ H s→RelV x v→RelV y u→r x y H Q →
    wpAny (model X.prog X.w) X.A (f v u) (EP X pins σ Q) X.xe s
def CallR (X:Cx) (f:Value) (r:List V→Hp→VK→Prop):Prop :=
  ∀ (pins:List (Addr × Obj)) (s:Shared) (σ:St) (H:Hp) (xs:List V) (us:List Value) (Q:VK),Inv X pins σ H s→Vals xs us→r xs H Q →
    wpAny (model X.prog X.w) X.A (call f us) (EP X pins σ Q) X.xe s
def tOp (r:R2) (ta tb:TE):TE:=fun σ H Q=>ta σ H fun x H1=>tb σ H1 fun y H2=>r x y H2 Q
def rI (C:Int→Int→Prop) (g:Int→Int→V):R2:=fun x y H Q=>∃ i j,x=.int i∧y=.int j∧C i j∧Q (g i j) H
def rI0 (g:Int→Int→V):R2:=fun x y H Q=>∃ i j,x=.int i∧y=.int j∧Q (g i j) H
section
variable {X:Cx} {a b c:Expr} {ta tb tc:TE} {pos:Pos}
theorem binT (ha:PE X a ta) (hb:PE X b tb) {pins:List (Addr × Obj)} {s:Shared} {σ:St} {H:Hp} {R:V→V→Hp→Prop} (I:Inv X pins σ H s)
    (h:ta σ H fun x H1=>tb σ H1 fun y H2=>R x y H2) {Q:Value→Shared→Prop} {f:Value→Value→Sem Value}
    (hf:∀ v u s2 x y H2,Inv X pins σ H2 s2→RelV x v→RelV y u→R x y H2→wpAny (model X.prog X.w) X.A (f v u) Q X.xe s2) :
    wpAny (model X.prog X.w) X.A (eval a X.env) (fun v s₁=>wpAny (model X.prog X.w) X.A (eval b X.env) (fun u s₂=>wpAny (model X.prog X.w) X.A (f v u) Q X.xe s₂) X.xe s₁) X.xe s:=by
  refine thn (ha pins s σ H _ I h) fun v s1 ⟨x,H1,I1,r1,q1⟩=>?_
  refine thn (hb pins s1 σ H1 _ I1 q1) fun u s2 ⟨y,H2,I2,r2,q2⟩=>?_
  exact hf v u s2 x y H2 I2 r1 r2 q2
theorem pe_op {op:Operator} {r:R2} (ho:OpR X (binaryOp op) r) (ha:PE X a ta) (hb:PE X b tb):PE X (.BinOp a op b pos) (tOp r ta tb):=by
  intro pins s σ H Q I h
  exact wpAny_BinOp (binT ha hb I h fun v u s2 x y H2 I2 rx ry q=>ho pins s2 σ H2 x y v u Q I2 rx ry q)
theorem opI {f:Value→Value→Sem Value} {C:Int→Int→Prop} {g:Int→Int→Int}
    (rule:∀ (i j:Int) (t u:Tok) (s:Shared) (Q:Value→Shared→Prop) (E:Value→Shared→Prop),C i j→Q (.int (g i j) s.toks) { s with toks:=s.toks+1 }→wpAny (model X.prog X.w) X.A (f (.int i t) (.int j u)) Q E s) :
    OpR X f (rI C fun i j=>.int (g i j)):=by
  intro pins s σ H x y v u Q I rx ry h
  obtain ⟨i,j,rfl,rfl,hc,q⟩:=h
  obtain ⟨t,rfl⟩:=rx
  obtain ⟨t',rfl⟩:=ry
  exact rule i j t t' s _ _ hc ⟨.int (g i j),H,I.tok _,⟨_,rfl⟩,q⟩
theorem opI0 {f:Value→Value→Sem Value} {g:Int→Int→Int}
    (rule:∀ (i j:Int) (t u:Tok) (s:Shared) (Q:Value→Shared→Prop) (E:Value→Shared→Prop),Q (.int (g i j) s.toks) { s with toks:=s.toks+1 }→wpAny (model X.prog X.w) X.A (f (.int i t) (.int j u)) Q E s) :
    OpR X f (rI0 fun i j=>.int (g i j)):=by
  intro pins s σ H x y v u Q I rx ry h
  obtain ⟨i,j,rfl,rfl,q⟩:=h
  obtain ⟨t,rfl⟩:=rx
  obtain ⟨t',rfl⟩:=ry
  exact rule i j t t' s _ _ ⟨.int (g i j),H,I.tok _,⟨_,rfl⟩,q⟩
theorem opB0 {f:Value→Value→Sem Value} {g:Int→Int→Bool}
    (rule:∀ (i j:Int) (t u:Tok) (s:Shared) (Q:Value→Shared→Prop) (E:Value→Shared→Prop),Q (.bool (g i j)) s→wpAny (model X.prog X.w) X.A (f (.int i t) (.int j u)) Q E s) :
    OpR X f (rI0 fun i j=>.bl (g i j)):=by
  intro pins s σ H x y v u Q I rx ry h
  obtain ⟨i,j,rfl,rfl,q⟩:=h
  obtain ⟨t,rfl⟩:=rx
  obtain ⟨t',rfl⟩:=ry
  exact rule i j t t' s _ _ ⟨.bl (g i j),H,I,rfl,q⟩
def CPow (i j:Int):Prop:=0≤j∧j≤1000000∧i.natAbs<2^64
theorem op_add:OpR X (binaryOp .Add) (rI0 fun i j=>.int (i+j)):=opI0 fun _ _ _ _ _ _ _ q=>add_int q
theorem op_sub:OpR X (binaryOp .Sub) (rI0 fun i j=>.int (i - j)):=opI0 fun _ _ _ _ _ _ _ q=>sub_int q
theorem op_mod:OpR X (binaryOp .Mod) (rI (fun _ j=>0<j) fun i j=>.int (i % j)):=opI fun i j _ _ _ _ _ hc q=>by
  have h1:(0:Int)<j:=hc
  exact mod_int' (by omega) (by rw [Int.fmod_eq_emod_of_nonneg i (by omega)]; exact q)
theorem op_pow:OpR X (binaryOp .Pow) (rI CPow fun i j=>.int (i^j.toNat)):=opI fun _ _ _ _ _ _ _ hc q=>pow_int_small hc.1 hc.2.1 hc.2.2 q
end
def scal:V→V→Bool
  | .non,.non=>true | .non,.int _=>true | .int _,.non=>true | .non,.bl _=>true | .bl _,.non=>true | .non,.str _=>true | .str _,.non=>true
  | .int _,.int _=>true | .bl _,.bl _=>true | .str _,.str _=>true | .byt _,.byt _=>true
  | .int _,.str _=>true | .str _,.int _=>true | .bl _,.str _=>true | .str _,.bl _=>true
  | _,_=>false
def rEq:R2:=fun x y H Q=>scal x y=true∧Q (.bl (decide (x=y))) H
def rNe:R2:=fun x y H Q=>scal x y=true∧Q (.bl (!decide (x=y))) H
theorem dec_int {i j:Int}:decide (V.int i=V.int j)=(i == j):=by
  rw [Bool.eq_iff_iff]
  simp
theorem dec_bl {i j:Bool}:decide (V.bl i=V.bl j)=(i == j):=by
  rw [Bool.eq_iff_iff]
  simp
theorem dec_str {i j:Str}:decide (V.str i=V.str j)=(i == j):=by
  rw [Bool.eq_iff_iff]
  simp
theorem dec_byt {i j:Array UInt8}:decide (V.byt i=V.byt j)=(i.toList == j.toList):=by
  rw [Bool.eq_iff_iff]
  cases i
  cases j
  simp
section
variable {X:Cx} {a b c:Expr} {ta tb tc:TE} {pos:Pos}
theorem fin_bl {pins:List (Addr × Obj)} {σ:St} {H:Hp} {s:Shared} {Q:VK} {k k':Bool} (I:Inv X pins σ H s) (q:Q (.bl k) H) (e:k=k'):EP X pins σ Q (.bool k') s:=by
  subst e
  exact ⟨.bl k,H,I,rfl,q⟩
theorem op_eq:OpR X (compareOp .Eq) rEq:=by
  intro pins s σ H x y v u Q I rx ry h
  obtain ⟨hs,q⟩:=h
  cases x with
  | non =>
    cases rx
    cases y with
    | non=>cases ry; exact PySem.EqNone.eq_none_none (fin_bl I q (by simp))
    | bl j=>cases ry; exact PySem.EqNone.eq_none_bool (fin_bl I q (by simp))
    | int j=>obtain ⟨t',rfl⟩:=ry; exact PySem.EqNone.eq_none_int (fin_bl I q (by simp))
    | str j=>obtain ⟨t',rfl⟩:=ry; exact PySem.EqNone.eq_none_str (fin_bl I q (by simp))
    | _=>exact absurd (show false=true from hs) Bool.false_ne_true
  | bl i =>
    cases rx
    cases y with
    | non=>cases ry; exact PySem.EqNone.eq_bool_none (fin_bl I q (by simp))
    | bl j=>cases ry; exact eq_bool (fin_bl I q dec_bl)
    | str j=>obtain ⟨t',rfl⟩:=ry; exact PySem.EqMixed.eq_bool_str (fin_bl I q (by simp))
    | _=>exact absurd (show false=true from hs) Bool.false_ne_true
  | int i =>
    obtain ⟨t,rfl⟩:=rx
    cases y with
    | non=>cases ry; exact PySem.EqNone.eq_int_none (fin_bl I q (by simp))
    | int j=>obtain ⟨t',rfl⟩:=ry; exact eq_int (fin_bl I q dec_int)
    | str j=>obtain ⟨t',rfl⟩:=ry; exact PySem.EqMixed.eq_int_str (fin_bl I q (by simp))
    | _=>exact absurd (show false=true from hs) Bool.false_ne_true
  | str i =>
    obtain ⟨t,rfl⟩:=rx
    cases y with
    | non=>cases ry; exact PySem.EqNone.eq_str_none (fin_bl I q (by simp))
    | bl j=>cases ry; exact PySem.EqMixed.eq_str_bool (fin_bl I q (by simp))
    | int j=>obtain ⟨t',rfl⟩:=ry; exact PySem.EqMixed.eq_str_int (fin_bl I q (by simp))
    | str j=>obtain ⟨t',rfl⟩:=ry; exact eq_str (fin_bl I q dec_str)
    | _=>exact absurd (show false=true from hs) Bool.false_ne_true
  | byt i =>
    obtain ⟨t,rfl⟩:=rx
    cases y with
    | byt j=>obtain ⟨t',rfl⟩:=ry; exact PySem.W.eq_bytes (fin_bl I q dec_byt)
    | _=>exact absurd (show false=true from hs) Bool.false_ne_true
  | _=>cases y <;> exact absurd (show false=true from hs) Bool.false_ne_true
theorem op_ne:OpR X (compareOp .NotEq) rNe:=by
  intro pins s σ H x y v u Q I rx ry h
  obtain ⟨hs,q⟩:=h
  cases x with
  | non =>
    cases rx
    cases y with
    | non=>cases ry; exact PySem.EqNone.ne_none_none (fin_bl I q (by simp))
    | bl j=>cases ry; exact PySem.EqNone.ne_none_bool (fin_bl I q (by simp))
    | int j=>obtain ⟨t',rfl⟩:=ry; exact PySem.EqNone.ne_none_int (fin_bl I q (by simp))
    | str j=>obtain ⟨t',rfl⟩:=ry; exact PySem.EqNone.ne_none_str (fin_bl I q (by simp))
    | _=>exact absurd (show false=true from hs) Bool.false_ne_true
  | bl i =>
    cases rx
    cases y with
    | non=>cases ry; exact PySem.EqNone.ne_bool_none (fin_bl I q (by simp))
    | bl j=>cases ry; exact ne_bool (fin_bl I q (congrArg not dec_bl))
    | str j=>obtain ⟨t',rfl⟩:=ry; exact PySem.EqMixed.ne_bool_str (fin_bl I q (by simp))
    | _=>exact absurd (show false=true from hs) Bool.false_ne_true
  | int i =>
    obtain ⟨t,rfl⟩:=rx
    cases y with
    | non=>cases ry; exact PySem.EqNone.ne_int_none (fin_bl I q (by simp))
    | int j=>obtain ⟨t',rfl⟩:=ry; exact ne_int (fin_bl I q (congrArg not dec_int))
    | str j=>obtain ⟨t',rfl⟩:=ry; exact PySem.EqMixed.ne_int_str (fin_bl I q (by simp))
    | _=>exact absurd (show false=true from hs) Bool.false_ne_true
  | str i =>
    obtain ⟨t,rfl⟩:=rx
    cases y with
    | non=>cases ry; exact PySem.EqNone.ne_str_none (fin_bl I q (by simp))
    | bl j=>cases ry; exact PySem.EqMixed.ne_str_bool (fin_bl I q (by simp))
    | int j=>obtain ⟨t',rfl⟩:=ry; exact PySem.EqMixed.ne_str_int (fin_bl I q (by simp))
    | str j=>obtain ⟨t',rfl⟩:=ry; exact ne_str (fin_bl I q (congrArg not dec_str))
    | _=>exact absurd (show false=true from hs) Bool.false_ne_true
  | byt i =>
    obtain ⟨t,rfl⟩:=rx
    cases y with
    | byt j=>obtain ⟨t',rfl⟩:=ry; exact PySem.W.ne_bytes (fin_bl I q (congrArg not dec_byt))
    | _=>exact absurd (show false=true from hs) Bool.false_ne_true
  | _=>cases y <;> exact absurd (show false=true from hs) Bool.false_ne_true
theorem op_lt:OpR X (compareOp .Lt) (rI0 fun i j=>.bl (decide (i<j))):=opB0 fun _ _ _ _ _ _ _ q=>lt_int q
theorem op_le:OpR X (compareOp .LtE) (rI0 fun i j=>.bl (decide (i≤j))):=opB0 fun _ _ _ _ _ _ _ q=>le_int q
theorem op_gt:OpR X (compareOp .Gt) (rI0 fun i j=>.bl (decide (j<i))):=opB0 fun _ _ _ _ _ _ _ q=>gt_int q
theorem op_ge:OpR X (compareOp .GtE) (rI0 fun i j=>.bl (decide (j≤i))):=opB0 fun _ _ _ _ _ _ _ q=>ge_int q
theorem op_in_str:OpR X (compareOp .In) (fun x y H Q=>∃ i j,x=.str i∧y=.str j∧Q (.bl (!(Builtin.Str.occurrences j i 0 j.length 1).isEmpty)) H):=by
  intro pins s σ H x y v u Q I rx ry h
  obtain ⟨i,j,rfl,rfl,q⟩:=h
  obtain ⟨t,rfl⟩:=rx
  obtain ⟨t',rfl⟩:=ry
  exact in_str (fin_bl I q rfl)
theorem op_isN:OpR X (compareOp .Is) (fun x y H Q=>y=.non∧Q (.bl (decide (x=.non))) H):=by
  intro pins s σ H x y v u Q I rx ry h
  obtain ⟨rfl,q⟩:=h
  cases ry
  refine is_none_gen (fin_bl I q ?_)
  cases x <;> first
    | (cases rx; rfl)
    | (obtain ⟨t,rfl⟩:=rx; rfl)
theorem op_notN:OpR X (compareOp .IsNot) (fun x y H Q=>y=.non∧Q (.bl (!decide (x=.non))) H):=by
  intro pins s σ H x y v u Q I rx ry h
  obtain ⟨rfl,q⟩:=h
  cases ry
  refine isnot_none_gen (fin_bl I q ?_)
  cases x <;> first
    | (cases rx; rfl)
    | (obtain ⟨t,rfl⟩:=rx; rfl)
theorem op_notin_str:OpR X (compareOp .NotIn) (fun x y H Q=>∃ i j,x=.str i∧y=.str j∧Q (.bl (!(!(Builtin.Str.occurrences j i 0 j.length 1).isEmpty))) H):=by
  intro pins s σ H x y v u Q I rx ry h
  obtain ⟨i,j,rfl,rfl,q⟩:=h
  obtain ⟨t,rfl⟩:=rx
  obtain ⟨t',rfl⟩:=ry
  exact notIn_str (fin_bl I q rfl)
theorem nomark (b:Expr) {op:CmpOp} (h:op ≠ .In:=by decide) (h2:op ≠ .NotIn:=by decide):behindInMarks op b=false:=by
  have e1:(op == CmpOp.In)=false:=by cases op <;> first | rfl | exact absurd rfl h
  have e2:(op == CmpOp.NotIn)=false:=by cases op <;> first | rfl | exact absurd rfl h2
  cases b <;> simp [behindInMarks,e1,e2]
theorem pe_cmpR {op:CmpOp} {r:R2} (ho:OpR X (compareOp op) r) (ha:PE X a ta) (hb:PE X b tb) (hm:behindInMarks op b=false):PE X (.Compare a [op] [b] pos) (tOp r ta tb):=by
  intro pins s σ H Q I h
  exact wpAny_Compare1 (binT ha hb I h fun v u s2 x y H2 I2 rx ry q=>ho pins s2 σ H2 x y v u Q I2 rx ry q) hm
def tTest (t:TE):TT:=fun σ H Q=>t σ H fun x H'=>∃ k,x=.bl k∧Q k H'
theorem pt_cmpR {op:CmpOp} {r:R2} (ho:OpR X (compareOp op) r) (ha:PE X a ta) (hb:PE X b tb) (hm:behindInMarks op b=false):PT X (.Compare a [op] [b] pos) (tTest (tOp r ta tb)):=by
  intro pins s σ H Q I h
  refine wpAny_isTrue_Compare1 (thn (ha pins s σ H _ I h) fun v s1 ⟨x,H1,I1,r1,q1⟩=>thn (hb pins s1 σ H1 _ I1 q1) fun u s2 ⟨y,H2,I2,r2,q2⟩ =>
    thn (ho pins s2 σ H2 x y v u _ I2 r1 r2 q2) fun c s3 ⟨z,H3,I3,r3,k,e,q3⟩=>?_) hm
  subst e
  cases r3
  exact wpAny_truthy_bool ⟨H3,I3,q3⟩
def tChain (r r':R2) (ta tb tc:TE):TE:=fun σ H Q=>ta σ H fun x H1=>tb σ H1 fun y H2=>r x y H2 fun z H3=>∃ k,z=.bl k ∧
  (if k=true then tc σ H3 fun w' H4=>r' y w' H4 Q else Q (.bl false) H3)
theorem pe_chain {op op':CmpOp} {r r':R2} (ho:OpR X (compareOp op) r) (ho':OpR X (compareOp op') r') (ha:PE X a ta) (hb:PE X b tb) (hc:PE X c tc)
    (hm:lastMarks [op,op'] [b,c]=false:=by with_unfolding_all rfl):PE X (.Compare a [op,op'] [b,c] pos) (tChain r r' ta tb tc):=by
  intro pins s σ H Q I h
  refine Compare_chain (thn (ha pins s σ H _ I h) fun v s1 ⟨x,H1,I1,r1,q1⟩=>chain_link (thn (hb pins s1 σ H1 _ I1 q1) fun u s2 ⟨y,H2,I2,r2,q2⟩ =>
    thn (ho pins s2 σ H2 x y v u _ I2 r1 r2 q2) fun d s3 ⟨z,H3,I3,r3,k,e,q3⟩=>?_)) hm
  subst e
  cases r3
  refine wpAny_truthy_bool ?_
  cases k with
  | false=>exact ite_ff ⟨.bl false,H3,I3,rfl,q3⟩
  | true=>exact ite_tt (chain_last (thn (hc pins s3 σ H3 _ I3 q3) fun w' s4 ⟨z',H4,I4,r4,q4⟩=>ho' pins s4 σ H4 y z' u w' Q I4 r2 r4 q4))
theorem pt_chain {op op':CmpOp} {r r':R2} (ho:OpR X (compareOp op) r) (ho':OpR X (compareOp op') r') (ha:PE X a ta) (hb:PE X b tb) (hc:PE X c tc)
    (hm:lastMarks [op,op'] [b,c]=false:=by with_unfolding_all rfl):PT X (.Compare a [op,op'] [b,c] pos) (tTest (tChain r r' ta tb tc)):=by
  intro pins s σ H Q I h
  refine isTrue_chain (thn (ha pins s σ H _ I h) fun v s1 ⟨x,H1,I1,r1,q1⟩=>test_link (thn (hb pins s1 σ H1 _ I1 q1) fun u s2 ⟨y,H2,I2,r2,q2⟩ =>
    thn (ho pins s2 σ H2 x y v u _ I2 r1 r2 q2) fun d s3 ⟨z,H3,I3,r3,k,e,q3⟩=>?_)) hm
  subst e
  cases r3
  refine wpAny_truthy_bool ?_
  cases k with
  | false =>
    obtain ⟨k',e',q'⟩:=q3
    cases e'
    exact ite_ff ⟨H3,I3,q'⟩
  | true =>
    refine ite_tt (test_last (thn (hc pins s3 σ H3 _ I3 q3) fun w' s4 ⟨z',H4,I4,r4,q4⟩=>thn (ho' pins s4 σ H4 y z' u w' _ I4 r2 r4 q4) fun d' s5 ⟨z2,H5,I5,r5,k2,e2,q5⟩=>?_))
    subst e2
    cases r5
    exact wpAny_truthy_bool ⟨H5,I5,q5⟩
theorem line63:(sizeLine:Nat)<2^63:=by rw [sizeLine_eq]; decide
theorem op_add_str:OpR X (binaryOp .Add) (fun x y H Q=>∃ i j,x=.str i∧y=.str j∧i.length+j.length≤sizeLine∧Q (.str (i++j)) H):=by
  intro pins s σ H x y v u Q I rx ry h
  obtain ⟨i,j,rfl,rfl,hz,q⟩:=h
  obtain ⟨t,rfl⟩:=rx
  obtain ⟨t',rfl⟩:=ry
  exact add_str (fun t' tk=>⟨.str (i++j),H,I.tok _,⟨_,rfl⟩,q⟩) hz
theorem vals1 {x:V} {us:List Value} (r:Vals [x] us):∃ u,us=[u]∧RelV x u:=by
  cases r with
  | cons r1 r2=>cases r2; exact ⟨_,rfl,r1⟩
theorem vals2 {x y:V} {us:List Value} (r:Vals [x,y] us):∃ u w',us=[u,w']∧RelV x u∧RelV y w':=by
  cases r with
  | cons r1 r2 =>
    cases r2 with
    | cons r3 r4=>cases r4; exact ⟨_,_,rfl,r1,r3⟩
theorem call_abs:CallR X (.builtin "abs") (fun xs H Q=>∃ i,xs=[.int i]∧Q (.int (if i<0 then -i else i)) H):=by
  intro pins s σ H xs us Q I r h
  obtain ⟨i,rfl,q⟩:=h
  obtain ⟨u,rfl,t,rfl⟩:=vals1 r
  exact call_abs_int fun u tk=>⟨.int (if i<0 then -i else i),H,I.tok _,⟨_,rfl⟩,q⟩
theorem call_max2 (hc:X.calm=true):CallR X (.builtin "max") (fun xs H Q=>∃ i j,xs=[.int i,.int j]∧Q (.int (if j > i then j else i)) H):=by
  intro pins s σ H xs us Q I r h
  obtain ⟨i,j,rfl,q⟩:=h
  obtain ⟨u,w',rfl,⟨t,rfl⟩,⟨t',rfl⟩⟩:=vals2 r
  refine max_two_ints (I.ok.hd hc) fun h' tk k=>⟨_,H,I.kept k,?_,q⟩
  by_cases hj:j > i
  · rw [if_pos hj,if_pos hj]; exact ⟨_,rfl⟩
  · rw [if_neg hj,if_neg hj]; exact ⟨_,rfl⟩
theorem call_int1:CallR X (.type "int") (fun xs H Q=>(∃ i,xs=[.int i]∧Q (.int i) H)∨∃ k,xs=[.bl k]∧Q (.int (if k then 1 else 0)) H):=by
  intro pins s σ H xs us Q I r h
  rcases h with ⟨i,rfl,q⟩ | ⟨k,rfl,q⟩
  · obtain ⟨u,rfl,t,rfl⟩:=vals1 r
    exact call_int_int ⟨.int i,H,I,⟨_,rfl⟩,q⟩
  · obtain ⟨u,rfl,r1⟩:=vals1 r
    cases r1
    exact call_int_bool ⟨.int (if k then 1 else 0),H,I.tok _,⟨_,rfl⟩,q⟩
def LenV (K:PySem.W.Frag) (x:V) (H:Hp) (n:Nat):Prop :=
  match x with
  | .str y=>y.length≤sizeLine∧n=y.length
  | .byt y=>y.size≤sizeLine∧n=y.size
  | .ref p=>(∃ xs,SqL K H p xs∧n=xs.length)∨∃ xs,SqT K H p xs∧n=xs.length
  | _=>False
theorem call_len:CallR X (.builtin "len") (fun xs H Q=>∃ x n,xs=[x]∧LenV X.K x H n∧Q (.int n) H):=by
  intro pins s σ H xs us Q I r h
  obtain ⟨x,n,rfl,e,q⟩:=h
  obtain ⟨u,rfl,rx⟩:=vals1 r
  have hl:=line63
  have hs:sizeLine=16777216:=sizeLine_eq
  cases x with
  | str y =>
    obtain ⟨t,rfl⟩:=rx
    obtain ⟨hy,e'⟩:y.length≤sizeLine∧n=y.length:=e
    subst e'
    exact len_str (by omega) ⟨.int _,H,I.tok _,⟨_,rfl⟩,q⟩
  | byt y =>
    obtain ⟨t,rfl⟩:=rx
    obtain ⟨hy,e'⟩:y.size≤sizeLine∧n=y.size:=e
    subst e'
    exact PySem.W.len_bytes (by omega) ⟨.int _,H,I.tok _,⟨_,rfl⟩,q⟩
  | ref p =>
    cases rx
    have e':(∃ xs,SqL X.K H p xs∧n=xs.length)∨∃ xs,SqT X.K H p xs∧n=xs.length:=e
    rcases e' with ⟨xs,hx,e'⟩ | ⟨xs,hx,e'⟩
    · subst e'
      obtain ⟨its,r',pl,hz⟩:=I.list hx
      have hlen:=r'.length
      exact Calls.call_len_list pl.isList (by simp only [List.size_toArray]; omega) ⟨.int xs.length,H,I.tok _,⟨_,by simp only [List.size_toArray]; rw [hlen]⟩,q⟩
    · subst e'
      obtain ⟨its,r',pl,hz⟩:=I.tuple hx
      have hlen:=r'.length
      exact len_tuple pl (by simp only [List.size_toArray]; omega) ⟨.int xs.length,H,I.tok _,⟨_,by simp only [List.size_toArray]; rw [hlen]⟩,q⟩
  | _=>exact (show False from e).elim
end
end L2
namespace L2
open PySem PySem.Spec PyProof.Rows
structure ObjM (h:Heap) (x dx C:Addr) (mA:Str→Option Value):Prop where
  obj:h.get? x=some (PySem.W.instObj C dx)
  ns:h.Ns1 dx mA
  ne:dx≠x
theorem lookIn_ns {h:Heap} {dx:Addr} {mA:Str→Option Value} (n:h.Ns1 dx mA):∃ od,h.get? dx=some od∧∀ name,PySem.W.lookIn name od=some (mA name):=by
  obtain ⟨o,es,ep,ho,hd,hk,_,hm⟩:=n
  refine ⟨o,ho,fun name=>?_⟩
  have e:=hm name
  unfold nsFind findBy at e
  rw [← Array.find?_toList] at e
  unfold PySem.W.lookIn
  rw [hd]
  dsimp only
  split
  · rename_i y q
    rw [q] at e
    exact congrArg some e
  · rename_i q
    rw [q] at e
    have a:es.toList.any (·.refKey)=false:=by
      rw [List.any_eq_false]
      intro y hy
      obtain ⟨z,t,hkey⟩:=hk y (Array.mem_toList_iff.mp hy)
      simp [DictEntry.refKey,hkey]
    have a':¬ es.toList.any (·.refKey)=true:=by rw [a]; exact Bool.false_ne_true
    rw [if_neg a']
    exact congrArg some e
theorem ObjM.look {h:Heap} {x dx C:Addr} {mA:Str→Option Value} (I:ObjM h x dx C mA):∃ od,PySem.W.InstAt h x (PySem.W.instObj C dx) C (some od)∧∀ name,PySem.W.lookIn name od=some (mA name) :=
  let ⟨od,ho,hl⟩:=lookIn_ns I.ns
  ⟨od,⟨I.obj,rfl,rfl,ho⟩,hl⟩
section
variable {prog:Program} {w:World} {A:Around} {E:Value→Shared→Prop} {s:Shared} {K:PySem.W.Frag} {x dx C f:Addr} {mA:Str→Option Value} {name:Str} {v:Value}
end
def putF (f:Str) (v:V):List (Str × V)→List (Str × V)
  | []=>[(f,v)]
  | (g,x)::r=>if g=f then (g,v)::r else (g,x)::putF f v r
theorem lookup_putF (f g:Str) (v:V):∀ fs:List (Str × V),(putF f v fs).lookup g=if g=f then some v else fs.lookup g
  | []=>by
    show List.lookup g [(f,v)]=_
    by_cases h:g=f
    · have hb:(g == f)=true:=beq_iff_eq.mpr h
      simp only [List.lookup,hb,if_pos h]
    · have hb:(g == f)=false:=beq_eq_false_iff_ne.mpr h
      simp only [List.lookup,hb,if_neg h]
  | (k,x)::r=>by
    have ih:=lookup_putF f g v r
    rw [show putF f v ((k,x)::r)=(if k=f then (k,v)::r else (k,x)::putF f v r) from rfl]
    by_cases hk:k=f
    · rw [if_pos hk]
      by_cases h:g=k
      · have hb:(g == k)=true:=beq_iff_eq.mpr h
        simp only [List.lookup,hb,if_pos (h.trans hk)]
      · have hb:(g == k)=false:=beq_eq_false_iff_ne.mpr h
        simp only [List.lookup,hb,if_neg (fun e:g=f=>h (e.trans hk.symm))]
    · rw [if_neg hk]
      by_cases h:g=k
      · have hb:(g == k)=true:=beq_iff_eq.mpr h
        simp only [List.lookup,hb,if_neg (fun e:g=f=>hk (h.symm.trans e))]
      · have hb:(g == k)=false:=beq_eq_false_iff_ne.mpr h
        simp only [List.lookup,hb]
        exact ih
theorem keys_putF (f:Str) (v:V):∀ fs:List (Str × V),f∈(putF f v fs).map (·.1)∧∀ g,g∈fs.map (·.1)→g∈(putF f v fs).map (·.1)
  | []=>⟨by simp [putF],fun g h=>by simp at h⟩
  | (k,x)::r=>by
    obtain ⟨i1,i2⟩:=keys_putF f v r
    rw [show putF f v ((k,x)::r)=(if k=f then (k,v)::r else (k,x)::putF f v r) from rfl]
    by_cases hk:k=f
    · rw [if_pos hk]
      subst hk
      exact ⟨by simp,fun g h=>by simpa using h⟩
    · rw [if_neg hk]
      refine ⟨?_,fun g h=>?_⟩
      · rw [List.map_cons]
        exact List.mem_cons_of_mem _ i1
      · rw [List.map_cons] at h ⊢
        rcases List.mem_cons.mp h with e | e
        · exact List.mem_cons.mpr (.inl e)
        · exact List.mem_cons_of_mem _ (i2 g e)
theorem RelO.some_of {v:V} {o:Option Value} (r:RelO (some v) o):∃ u,o=some u∧RelV v u:=by
  cases o with
  | none=>exact (show False from r).elim
  | some u=>exact ⟨u,rfl,r⟩
theorem handed_of {v:V} {u:Value} (r:RelV v u):PySem.W.handedIn u=true:=by
  cases v with
  | non=>cases (show u=Value.none from r); rfl
  | bl b=>cases (show u=Value.bool b from r); rfl
  | int i=>obtain ⟨t,e⟩:=(show ∃ t,u=Value.int i t from r); cases e; rfl
  | str x=>obtain ⟨t,e⟩:=(show ∃ t,u=Value.str x t from r); cases e; rfl
  | byt b=>obtain ⟨t,e⟩:=(show ∃ t,u=Value.bytes b t from r); cases e; rfl
  | flt b=>obtain ⟨t,e⟩:=(show ∃ t,u=Value.float b t from r); cases e; rfl
  | ref a=>cases (show u=Value.ref a from r); rfl
  | ty n=>cases (show u=Value.type n from r); rfl
section
variable {P:Program} {w:World} {H H':Hp} {h h':Heap} {a C dx:Addr} {fs fs':List (Str × V)}
theorem ins_get (hok:HOk P w H h) (e:H a=some (.ins C dx fs)):∃ mA,ObjM h a dx C mA∧(∀ f,RelO (fs.lookup f) (mA f))∧PySem.Within mA (fs.map (·.1))∧fs.length≤1000∧H dx=some (.own a):=by
  obtain ⟨d,z,ne,ob,mA,n,r,q⟩:=(show ObjOk P w H h a (.ins C dx fs) from hok a _ e)
  exact ⟨mA,⟨ob,n,ne⟩,r,q,z,d⟩
end
structure Cls (K:PySem.W.Frag) (C:Addr):Prop where
  pg:PySem.W.plainGet K C Str.empty=true
  hd:PySem.W.hasDictIn K C=true
  po:PySem.W.plainOver K C=true
  sa:PySem.W.findIn K (.ref C) "__setattr__" = some (some (.builtin "object.__setattr__"))
theorem Cls.get {K:PySem.W.Frag} {C:Addr} (c:Cls K C) (f:Str):PySem.W.plainGet K C f=true:=c.pg
def NoAttr (K:PySem.W.Frag) (C:Addr) (f:Str):Prop:=PySem.W.findIn K (.ref C) f=some none
section
variable {X:Cx} {pins:List (Addr × Obj)} {σ:St} {H:Hp} {s:Shared} {a C dx:Addr} {fs:List (Str × V)} {f:Str} {v:V} {A:Around} {E:Value→Shared→Prop}
theorem attr_of {prog:Program} {w:World} {env:Env} {e:Expr} {f:Str} {pos:Pos} {s:Shared} {Q:Value→Shared→Prop} (hb:attributeBase e f env (eval e env)=eval e env)
    (h:wpAny (model prog w) A (eval e env) (fun o s₁=>wpAny (model prog w) A (getAttr o f true) Q E s₁) E s):wpAny (model prog w) A (eval (.Attribute e f pos) env) Q E s :=
  Attribute_any_ h (by rw [arm_eval_Attribute,hb])
end
section
variable {X:Cx} {o e value:Expr} {f:Str} {pos pos' tpos:Pos} {ta tv:TE}
end
section
variable {X:Cx} {pins:List (Addr × Obj)} {σ:St} {H:Hp} {s:Shared} {A:Around} {E:Value→Shared→Prop} {Q:Value→Shared→Prop} {c:Value} {b:Bool}
inductive TyOf (K:PySem.W.Frag) (H:Hp):V→Value→Prop where
  | non:TyOf K H .non (.type "NoneType")
  | bl (x:Bool):TyOf K H (.bl x) (.type "bool")
  | int (i:Int):TyOf K H (.int i) (.type "int")
  | str (x:Str):TyOf K H (.str x) (.type "str")
  | flt (x:UInt64):TyOf K H (.flt x) (.type "float")
  | lst {a:Addr} {xs:List V} (e:H a=some (.lst xs)):TyOf K H (.ref a) (.type "list")
  | frz {a:Addr} {o:Obj} {xs:List V} (e:H a=some (.frz o (.lst xs))):TyOf K H (.ref a) (.type "list")
  | tup {a:Addr} {xs:List V} (e:H a=some (.tup xs)):TyOf K H (.ref a) (.type "tuple")
  | dK {a:Addr} {kvs:List (Key × V)} (e:H a=some (.dK kvs)):TyOf K H (.ref a) (.type "dict")
  | dT {a:Addr} {kvs:List (List Key × V)} (e:H a=some (.dT kvs)):TyOf K H (.ref a) (.type "dict")
  | ins {a C dx:Addr} {fs:List (Str × V)} (e:H a=some (.ins C dx fs)) (cl:Cls K C) (ha:PySem.W.findIn K (.ref C) "__class__" = some (some (.builtin "object.__class__")))
      (hn:PySem.W.specialIn K (.builtin "object.__class__") "__get__" = some (some (.builtin "getset_descriptor.__get__"))) (htk:PySem.W.takesIn K (.builtin "object.__class__")=some true)
      (hm:PySem.W.mroIn K C (.type "object")=some true):TyOf K H (.ref a) (.ref C)
theorem isinst_ok {x:V} {u t:Value} (I:Inv X pins σ H s) (rx:RelV x u) (ty:TyOf X.K H x t) (e:PySem.W.kitOne X.K t c=some b) (h:∀ tk,Q (.bool b) { s with toks:=tk }) :
    wpAny (model X.prog X.w) A (call (.builtin "isinstance") [u,c]) Q E s:=by
  cases ty with
  | non=>cases (show u=Value.none from rx); exact PySem.W.kia_one PySem.W.kitx_none I.kIn True.intro e (fun z=>nomatch z) h
  | bl y=>cases (show u=Value.bool y from rx); exact PySem.W.kia_one PySem.W.kitx_bool I.kIn True.intro e (fun z=>nomatch z) h
  | int i=>obtain ⟨t,q⟩:=(show ∃ t,u=Value.int i t from rx); cases q; exact PySem.W.kia_one PySem.W.kitx_int I.kIn True.intro e (fun z=>nomatch z) h
  | str y=>obtain ⟨t,q⟩:=(show ∃ t,u=Value.str y t from rx); cases q; exact PySem.W.kia_one PySem.W.kitx_str I.kIn True.intro e (fun z=>nomatch z) h
  | flt y=>obtain ⟨t,q⟩:=(show ∃ t,u=Value.float y t from rx); cases q; exact PySem.W.kia_one PySem.W.kitx_float I.kIn True.intro e (fun z=>nomatch z) h
  | @lst a xs ea =>
    cases (show u=Value.ref a from rx)
    obtain ⟨_,_,n,_,h1⟩:=(show ObjOk X.prog X.w H s.heap a (.lst xs) from I.hok a _ ea)
    exact PySem.W.kia_one PySem.W.kitx_list I.kIn ⟨_,h1,rfl⟩ e (fun z=>nomatch z) h
  | @frz a ob xs ea =>
    cases (show u=Value.ref a from rx)
    obtain ⟨_,_,_,n,_,h1⟩:=(show ObjOk X.prog X.w H s.heap a (.frz ob (.lst xs)) from I.hok a _ ea)
    exact PySem.W.kia_one PySem.W.kitx_list I.kIn ⟨_,h1,rfl⟩ e (fun z=>nomatch z) h
  | @tup a xs ea =>
    cases (show u=Value.ref a from rx)
    obtain ⟨_,_,_,p⟩:=(show ObjOk X.prog X.w H s.heap a (.tup xs) from I.hok a _ ea)
    obtain ⟨o,h1,h2,_⟩:=p
    exact PySem.W.kia_one PySem.W.kitx_tuple I.kIn ⟨o,h1,h2⟩ e (fun z=>nomatch z) h
  | @dK a kvs ea =>
    cases (show u=Value.ref a from rx)
    obtain ⟨_,_,vs,_,p⟩:=(show ObjOk X.prog X.w H s.heap a (.dK kvs) from I.hok a _ ea)
    obtain ⟨o,es,ep,h1,h2,_⟩:=p
    exact PySem.W.kia_one PySem.W.kitx_dict I.kIn ⟨o,h1,h2.1⟩ e (fun z=>nomatch z) h
  | @dT a kvs ea =>
    cases (show u=Value.ref a from rx)
    obtain ⟨_,_,xs,_,o,es,ep,h1,h2,_⟩:=(show ObjOk X.prog X.w H s.heap a (.dT kvs) from I.hok a _ ea)
    exact PySem.W.kia_one PySem.W.kitx_dict I.kIn ⟨o,h1,h2.1⟩ e (fun z=>nomatch z) h
  | @ins a C dx fs ea cl ha hn htk hm =>
    cases (show u=Value.ref a from rx)
    obtain ⟨mA,O,_⟩:=ins_get I.hok ea
    obtain ⟨od,J,_⟩:=O.look
    exact PySem.W.kia_one (PySem.W.kitx_own (cl.get _) cl.hd ha hn htk hm) I.kIn J e (fun z=>nomatch z) h
end
end L2
namespace L2
open PySem PySem.Spec PyProof.Rows
structure Room (k:Nat) (A:Around):Prop where
  hd:A.handled=none
  dp:A.depth+3*k+5<recursionLimit
  un:A.units+16*k+200<cLine
  gd:A.guards=some []
theorem Room.mono {j k:Nat} {A:Around} (r:Room k A) (h:j≤k):Room j A:=⟨r.hd,by have:=r.dp; omega,by have:=r.un; omega,r.gd⟩
theorem Room.deeper {k:Nat} {A:Around} (r:Room (k+1) A) (env:Env):Room k (A.deeper env) :=
  ⟨r.hd,by have:=r.dp; show A.depth+1+3*k+5<_; omega,by have:=r.un; show A.units+3+16*k+200<_; omega,r.gd⟩
theorem make_depth {A:Around} {C:Addr} {us:List Value} {kw:List (Str × Value)}:(A.under (.builtin "type.__call__" ⟨.ref C::us,kw⟩)).depth=A.depth+1:=by
  first | rfl | simp [Around.under,Code.weight,Code.isCreation,Code.isGuard,Code.isCaller,Code.frames,Code.isFrame,guardIds]
theorem make_units {A:Around} {C:Addr} {us:List Value} {kw:List (Str × Value)}:(A.under (.builtin "type.__call__" ⟨.ref C::us,kw⟩)).units=A.units+1:=by
  first | rfl | simp [Around.under,Code.cUnits,Code.frames,Code.isFrame]
theorem Room.make {k:Nat} {A:Around} (r:Room (k+1) A) (C:Addr) (us:List Value) (kw:List (Str × Value)):Room k (A.under (.builtin "type.__call__" ⟨.ref C::us,kw⟩)) :=
  ⟨r.hd,by have:=r.dp; rw [make_depth]; omega,by have:=r.un; rw [make_units]; omega,by first | exact r.gd | (simpa [Around.under,Code.guards,Code.isGuard,guardIds,pushGuards] using r.gd)⟩
theorem Room.depth {k:Nat} {A:Around} (r:Room k A):A.depth<recursionLimit:=by have:=r.dp; omega
theorem Room.units {k:Nat} {A:Around} (r:Room k A):A.units+64<cLine:=by have:=r.un; omega
def tNil:TA:=fun _ H Q=>Q [] H
def tCons (ta:TE) (tr:TA):TA:=fun σ H Q=>ta σ H fun x H1=>tr σ H1 fun xs H2=>Q (x::xs) H2
section
variable {X:Cx} {e:Expr} {es:List Expr} {te:TE} {t:TA} {pos:Pos}
theorem pa_nil:PA X [] tNil:=fun _ _ _ _ H Q I h=>Calls.spliced_nil ⟨[],H,I,.nil,h⟩
theorem pa_cons (ha:PE X e te) (hr:PA X es t) (hs:starEach (e::es) X.env=(false,eval e X.env)::starEach es X.env:=by rfl):PA X (e::es) (tCons te t):=by
  intro pos pins s σ H Q I h
  rw [hs]
  show wpAny _ _ (spliced ((false,eval e X.env)::backTo pos (starEach es X.env))) _ _ s
  refine Calls.spliced_cons (thn (ha pins s σ H _ I h) fun u s1 ⟨x,H1,I1,r1,q1⟩=>?_)
  exact thn (hr pos pins s1 σ H1 _ I1 q1) fun us s2 ⟨xs,H2,I2,r2,q2⟩=>⟨x::xs,H2,I2,.cons r1 r2,q2⟩
def tTup (t:TA):TE:=fun σ H Q=>t σ H fun xs H1=>xs.length≤sizeLine∧∀ p,H1 p=none→Q (.ref p) (upd H1 p (.tup xs))
def tLst (t:TA):TE:=fun σ H Q=>t σ H fun xs H1=>xs.length≤sizeLine∧∀ p,H1 p=none→Q (.ref p) (upd H1 p (.lst xs))
theorem pe_tup {x1} (h:PA X es t):PE X (.Tuple es x1 pos) (tTup t):=by
  intro pins s σ H Q I hq
  refine wpAny_Tuple_spliced (thn (h pos pins s σ H _ I hq) fun us s1 ⟨xs,H1,I1,r,z,q⟩=>⟨by rw [← r.length]; exact z,?_⟩)
  have hf:H1 s1.heap.objs.size=none:=I1.hok.fresh (Nat.le_refl _)
  refine ⟨.ref s1.heap.objs.size,upd H1 s1.heap.objs.size (.tup xs),I1.laid (t':=s1.toks) (fun b u e=>Heap.get?_push_of_some _ e) (Nat.le_refl _) ?_,rfl,q _ hf⟩
  exact ⟨⟨z,_,Heap.get?_push_size _ rfl,rfl⟩,us,r,⟨_,Heap.get?_push_size _ rfl,rfl,_,rfl⟩⟩
theorem pe_lst (h:PA X es t):PE X (.List es pos) (tLst t):=by
  intro pins s σ H Q I hq
  refine wpAny_List_spliced (thn (h pos pins s σ H _ I hq) fun us s1 ⟨xs,H1,I1,r,z,q⟩=>⟨by rw [← r.length]; exact z,?_⟩)
  have hf:H1 s1.heap.objs.size=none:=I1.hok.fresh (Nat.le_refl _)
  refine ⟨.ref s1.heap.objs.size,upd H1 s1.heap.objs.size (.lst xs),I1.laid (t':=s1.toks) (fun b u e=>Heap.get?_push_of_some _ e) (Nat.le_refl _) ?_,rfl,q _ hf⟩
  exact ⟨z,us,0,r,Heap.get?_push_size _ rfl⟩
end
abbrev Sp:=List V→Hp→VK→XK→Prop
abbrev CXT:=List Env→Hp→Shared→XK→Value→Shared→Prop
structure Env0 (P:Program) (w:World) (K:PySem.W.Frag) (mg:Str→Option Value) (base:Heap) (A:Around) (outer:List Env) (s:Shared) (H:Hp):Prop where
  frames:A.frames=some outer
  mod:Mod K mg base
  bs:∀ b o,base.get? b=some o→s.heap.get? b=some o∧H b=none
  bsz:base.objs.size≤s.heap.objs.size
  funs:s.heap.FunFrames base outer
  frf:∀ b∈frs outer,H b=none
  hok:HOk P w H s.heap
  bare:AllBare s.gens
def CE (outer:List Env) (P:Program) (w:World) (H:Hp) (s:Shared) (Q:VK) (u:Value) (s':Shared):Prop :=
  ∃ v H',s'.os=s.os∧AllBare s'.gens∧Un (frs outer) [] H H' s.heap s'.heap∧HOk P w H' s'.heap∧RelV v u∧Q v H'
def CR (CX:CXT) (outer:List Env) (P:Program) (w:World) (H:Hp) (s:Shared) (Q:VK) (E:XK) (r:Result) (s':Shared):Prop :=
  match r with
  | .ok (.ret u)=>CE outer P w H s Q u s'
  | .ok _=>False
  | .error e=>CX outer H s E e s'
structure FnOk (P:Program) (w:World) (K:PySem.W.Frag) (mg:Str→Option Value) (base:Heap) (CX:CXT) (k:Nat) (f:Addr) (fd:FuncData) (ps:List Str) (sp:Sp):Prop where
  len:∀ vs H Q E,sp vs H Q E→vs.length=ps.length
  run:∀ (A:Around) (outer:List Env) (s:Shared) (H:Hp) (args:Args) (us:List Value) (vs:List V) (Q:VK) (E:XK),Room k A→Env0 P w K mg base A outer s H→BindsTo s fd args (ps.zip us)→Vals vs us→sp vs H Q E →
    codeAny (model P w) A (.call (.ref f) args) (CR CX outer P w H s Q E) s
theorem Env0.make {P:Program} {w:World} {K:PySem.W.Frag} {mg:Str→Option Value} {base:Heap} {A:Around} {outer:List Env} {s:Shared} {H:Hp} (e:Env0 P w K mg base A outer s H) (C:Addr) (us:List Value) (kw:List (Str × Value)) :
    Env0 P w K mg base (A.under (.builtin "type.__call__" ⟨.ref C::us,kw⟩)) outer s H:=⟨by first | exact e.frames | (simpa [Around.under,Code.envs,Code.isFrame,pushEnvs] using e.frames),e.mod,e.bs,e.bsz,e.funs,e.frf,e.hok,e.bare⟩
section
variable {X:Cx} {pins:List (Addr × Obj)} {σ:St} {H:Hp} {s s':Shared}
theorem Inv.env0 (I:Inv X pins σ H s):Env0 X.prog X.w X.K X.mg X.base X.A X.stack s H :=
  ⟨I.ok.frames,I.ok.mod,I.bs,Nat.le_trans I.ok.bsz I.sz,I.stack,I.stkFree,I.hok,I.bare⟩
theorem Inv.after {Q:VK} {u:Value} (I:Inv X pins σ H s) (h:CE X.stack X.prog X.w H s Q u s'):EP X pins σ Q u s':=by
  obtain ⟨v,H',os,bare,un,hok,r,q⟩:=h
  obtain ⟨hh,g,d,t,os'⟩:=s'
  obtain rfl:os'=s.os:=os
  exact ⟨v,H',I.call (h':=hh) (g':=g) (d':=d) (t':=t) (ch:=[]) un hok bare (fun b z=>absurd z (by simp)),r,q⟩
end
def tCall (sp:Sp) (dvs:List V) (E:XK) (t:TA):TE:=fun σ H Q=>t σ H fun vs H1=>sp (vs++dvs) H1 Q E
def Binds (K:PySem.W.Frag) (fd:FuncData) (ps:List Str) (ds:List Value):Prop :=
  ∀ (s:Shared) (us:List Value),K.In s.heap→(us++ds).length=ps.length→BindsTo s fd ⟨us,[]⟩ (ps.zip (us++ds))
theorem Binds.all {K:PySem.W.Frag} {fd:FuncData} {ps:List Str} (h:∀ us:List Value,us.length=ps.length→bindArgs fd ⟨us,[]⟩=pure (ps.zip us)):Binds K fd ps []:=fun s us _ hl=>by
  rw [List.append_nil] at hl ⊢
  exact .of_eq (h us hl)
def Passes (CX:CXT) (X:Cx) (E:XK):Prop:=∀ (pins:List (Addr × Obj)) (σ:St) (H:Hp) (s:Shared) (e:Value) (s':Shared),Inv X pins σ H s→CX X.stack H s E e s'→X.xe e s'
section
variable {X:Cx} {CX:CXT} {k:Nat} {f C:Addr} {fd:FuncData} {ps:List Str} {sp:Sp} {dvs:List V} {ds:List Value} {E:XK} {x m:Str} {p pos apos:Pos} {e o:Expr} {es:List Expr} {ta:TE} {t:TA}
theorem run_fn {pins:List (Addr × Obj)} {σ:St} {H:Hp} {s:Shared} {Q:VK} {us:List Value} {vs:List V} (F:FnOk X.prog X.w X.K X.mg X.base CX k f fd ps sp) (hr:Room k X.A) (hb:Binds X.K fd ps ds) (hd:Vals dvs ds) (hx:Passes CX X E)
    (I:Inv X pins σ H s) (r:Vals vs us) (h:sp (vs++dvs) H Q E):wpAny (model X.prog X.w) X.A (call (.ref f) us) (EP X pins σ Q) X.xe s:=by
  have r2:Vals (vs++dvs) (us++ds):=r.append hd
  have hl:(us++ds).length=ps.length:=by rw [← r2.length]; exact F.len _ _ _ _ h
  refine wpAny_call (codeAny_mono (F.run X.A X.stack s H ⟨us,[]⟩ (us++ds) (vs++dvs) Q E hr I.env0 (hb s us I.kIn hl) r2 h) fun r s' hq=>?_)
  cases r with
  | error e=>exact hx pins σ H s e s' I hq
  | ok fl =>
    cases fl with
    | ret u=>exact I.after hq
    | next=>exact False.elim hq
    | brk=>exact False.elim hq
    | cont=>exact False.elim hq
theorem pe_call (F:FnOk X.prog X.w X.K X.mg X.base CX k f fd ps sp) (hr:Room k X.A) (hg:Gl X x) (hm:X.mg x=some (.ref f)) (hk:PySem.W.keepIn X.K (.ref f)=true) (hb:Binds X.K fd ps ds) (hd:Vals dvs ds) (hx:Passes CX X E)
    (ha:PA X (e::es) t) (hdb:(x == ("__debug__" : Str))=false:=by decide) (he:starEach (e::es) X.env=(false,eval e X.env)::starEach es X.env:=by rfl) (hpl:(backTo pos (starEach es X.env)).any (·.1)=false:=by rfl) :
    PE X (.Call (.Name x p) (e::es) [] pos) (tCall sp dvs E t):=by
  intro pins s σ H Q I h
  refine wpAny_Call_Name_kw (ld_glob I hg hm ?_ hdb)
  refine PySem.W.callWith_K (h₀:=X.base) I.ok.mod.kin hk (thn (ha pos pins s σ H _ I h) fun us s1 ⟨vs,H1,I1,r,q⟩=>⟨I1.kIn,?_⟩) he hpl
  exact run_fn F hr hb hd hx I1 r q
end
section
variable {X:Cx} {CX:CXT} {k:Nat} {f C:Addr} {fd:FuncData} {ps ks:List Str} {sp:Sp} {E:XK} {x m:Str} {p pos apos kpos:Pos} {e o:Expr} {es:List Expr} {kws:List Keyword} {te ta:TE} {t tk:TA} {nm:Option Str}
variable {g:List Value→List Value→List Value} {gV:List V→List V→List V}
end
structure FnScope (N P:List Str) (sc:Scope):Prop where
  kind:sc.kind=.function
  co:sc.isCoroutine=false
  gen:sc.isGenerator=false
  nd:N.Nodup
  pre:N.take P.length=P
  par:∀ x∈P,sc.names.lookup x=some .local∨sc.names.lookup x=some .cell
  nofree:∀ y∈sc.names,y.2 ≠ .free
theorem bindL_out {kindOf:Str→Option NameKind} {x:Str}:∀ {binds:List (Str × Value)} {m:Str→Option Value},(∀ v,(x,v) ∉ binds)→bindL kindOf binds m x=m x
  | [],_,_=>rfl
  | (n,v)::r,m,h=>by
    unfold bindL
    rw [bindL_out fun w hw=>h w (List.mem_cons_of_mem _ hw)]
    split
    · have:x≠n:=by rintro rfl; exact h v List.mem_cons_self
      simp [this]
    · rfl
theorem bindC_out {kindOf:Str→Option NameKind} {x:Str}:∀ {binds:List (Str × Value)} {m:Str→Option Value},(∀ v,(x,v) ∉ binds)→bindC kindOf binds m x=m x
  | [],_,_=>rfl
  | (n,v)::r,m,h=>by
    unfold bindC
    rw [bindC_out fun w hw=>h w (List.mem_cons_of_mem _ hw)]
    split
    · rfl
    · have:x≠n:=by rintro rfl; exact h v List.mem_cons_self
      simp [this]
theorem bindL_get {kindOf:Str→Option NameKind} {x:Str} {v:Value}:∀ {P:List Str} {vs:List Value} {i:Nat} {m:Str→Option Value},P.Nodup→P[i]?=some x→vs[i]?=some v→kindOf x=some .local →
    bindL kindOf (P.zip vs) m x=some v
  | [],_,_,_,_,h,_,_=>by simp at h
  | _::_,[],_,_,_,_,h,_=>by simp at h
  | p::P,w::vs,0,m,nd,h1,h2,hk=>by
    simp at h1 h2; subst h1; subst h2
    show bindL kindOf ((p,w)::P.zip vs) m p=_
    unfold bindL
    rw [bindL_out fun v hv=>(List.nodup_cons.mp nd).1 (List.of_mem_zip hv).1,if_pos hk]
    simp
  | p::P,w::vs,i+1,m,nd,h1,h2,hk=>by
    show bindL kindOf ((p,w)::P.zip vs) m x=_
    unfold bindL
    exact bindL_get (i:=i) (List.nodup_cons.mp nd).2 (by simpa using h1) (by simpa using h2) hk
theorem bindC_get {kindOf:Str→Option NameKind} {x:Str} {v:Value}:∀ {P:List Str} {vs:List Value} {i:Nat} {m:Str→Option Value},P.Nodup→P[i]?=some x→vs[i]?=some v→kindOf x≠some .local →
    bindC kindOf (P.zip vs) m x=some v
  | [],_,_,_,_,h,_,_=>by simp at h
  | _::_,[],_,_,_,_,h,_=>by simp at h
  | p::P,w::vs,0,m,nd,h1,h2,hk=>by
    simp at h1 h2; subst h1; subst h2
    show bindC kindOf ((p,w)::P.zip vs) m p=_
    unfold bindC
    rw [bindC_out fun v hv=>(List.nodup_cons.mp nd).1 (List.of_mem_zip hv).1,if_neg hk]
    simp
  | p::P,w::vs,i+1,m,nd,h1,h2,hk=>by
    show bindC kindOf ((p,w)::P.zip vs) m x=_
    unfold bindC
    exact bindC_get (i:=i) (List.nodup_cons.mp nd).2 (by simpa using h1) (by simpa using h2) hk
def start (N:List Str) (vs:List V):St:=vs.map some++List.replicate (N.length - vs.length) none
def cxOf (CX:CXT) (P:Program) (w:World) (K:PySem.W.Frag) (mg:Str→Option Value) (base:Heap) (N:List Str) (qual:Str) (scope:Scope) (f:Addr) (cd:Value) (A:Around) (outer:List Env) (s:Shared) (H:Hp) (E:XK):Cx where
  prog:=P
  w:=w
  K:=K
  mg:=mg
  base:=base
  A:=A.deeper (envOfC qual scope s.heap.objs.size f cd)
  N:=N
  s₀:=s
  H₀:=H
  env:=envOfC qual scope s.heap.objs.size f cd
  outer:=outer
  stack:=envOfC qual scope s.heap.objs.size f cd::outer
  ex:=[]
  calm:=true
  fn:=fun _=>true
  pn:=[]
  xe:=fun e s'=>wpAny (model P w) (A.deeper (envOfC qual scope s.heap.objs.size f cd)) (leaving (envOfC qual scope s.heap.objs.size f cd) e) (fun _ s''=>CX outer H s E e s'') (fun e' s''=>CX outer H s E e' s'') s'
theorem cell_has {sc:Scope} {n:Nat} {x:Str} (h:sc.names.lookup x=some .cell):∃ c,(cellsFrom n sc.names []).lookup x=some c:=by
  have q:=PySem.W.cellsFrom_some sc.names n [] (.inl h)
  exact Option.isSome_iff_exists.mp q
theorem inv_start {CX:CXT} {P:Program} {w:World} {K:PySem.W.Frag} {mg:Str→Option Value} {base:Heap} {N ps:List Str} {qual:Str} {scope:Scope} {f:Addr} {cd:Value} {A:Around} {outer:List Env} {s s1:Shared} {H:Hp} {E:XK} {us:List Value} {vs:List V}
    (S:FnScope N ps scope) (hd:A.handled=none) (e0:Env0 P w K mg base A outer s H) (hl:vs.length=ps.length) (r:Vals vs us)
    (x:InCallC s s.heap.objs.size (bindL (envOfC qual scope s.heap.objs.size f cd).kindOf (ps.zip us) fun _=>none) (cellsFrom (s.heap.objs.size+1) scope.names []) (bindC (envOfC qual scope s.heap.objs.size f cd).kindOf (ps.zip us) fun _=>none) s1) :
    Inv (cxOf CX P w K mg base N qual scope f cd A outer s H E) [] (start N vs) H s1:=by
  have hpl:ps.length≤N.length:=by have:=congrArg List.length S.pre; rw [List.length_take] at this; omega
  obtain ⟨h1,tk,rfl,hk⟩:=x.done
  have noA:∀ b:Addr,b ∉ (cxOf CX P w K mg base N qual scope f cd A outer s H E).ex:=fun b z=>absurd (show b∈([]:List Addr) from z) (by simp)
  refine ⟨⟨e0.mod,S.kind,rfl,rfl,Nat.le_refl _,fun y z c h1 h2=>?_,fun y hy=>?_,fun y c _ h=>?_,fun _=>hd,Around.frames_deeper e0.frames,.inr ⟨rfl,rfl⟩,fun b z=>absurd z (noA b),e0.bs,e0.bsz,fun b _ _=>noA b,fun b z=>absurd z (noA b),e0.funs,e0.frf⟩,
    rfl,e0.bare,Un.kept hk,⟨_,x.toInCall.ns,fun i y v h1 h2 h3=>?_⟩,fun y c h=>⟨_,x.cell y c h⟩,e0.hok.fresh (Nat.le_refl _),fun y c h=>?_,fun p hp=>absurd (show p∈([]:List (Addr × Obj)) from hp) (by simp),e0.hok.kept hk,?_⟩
  · exact name_of_addr x.apart (PySem.mem_of_lookup h1) (PySem.mem_of_lookup h2)
  · have hy:scope.names.lookup y=some .cell∨scope.names.lookup y=some .free:=hy
    rcases hy with hy | hy
    · exact cell_has hy
    · exact absurd rfl (S.nofree _ (PySem.mem_of_lookup hy))
  · exact Nat.le_of_lt (x.above y c (PySem.mem_of_lookup h))
  · have hi:i<vs.length:=by
      unfold start at h2
      by_cases hi:i<vs.length
      · exact hi
      · rw [List.getElem?_append_right (by simpa using hi)] at h2
        rw [List.getElem?_replicate] at h2
        split at h2 <;> cases h2
    have ha:vs[i]?=some v:=by
      unfold start at h2
      rw [List.getElem?_append_left (by simpa using hi),List.getElem?_map] at h2
      cases e:vs[i]? with
      | none=>rw [e] at h2; cases h2
      | some a=>rw [e] at h2; cases h2; rfl
    obtain ⟨u,hu,rv⟩:=r.get ha
    have hp:ps[i]?=some y:=by
      rw [← S.pre,List.getElem?_take_of_lt (by omega)]; exact h1
    have ndP:ps.Nodup:=by rw [← S.pre]; exact S.nd.sublist (List.take_sublist _ _)
    refine ⟨u,rv,?_⟩
    rcases S.par y (List.mem_of_getElem? hp) with k | k
    · exact .inl ⟨k,bindL_get ndP hp hu k⟩
    · obtain ⟨c,e⟩:=cell_has (n:=s.heap.objs.size+1) k
      refine .inr ⟨.inl k,c,e,?_⟩
      have q:=x.cell y c e
      rw [bindC_get ndP hp hu (by show scope.names.lookup y≠_; rw [k]; decide)] at q
      exact q
  · exact e0.hok.fresh (Nat.le_of_lt (x.above y c (PySem.mem_of_lookup h)))
  · unfold start
    show _=N.length
    rw [List.length_append,List.length_map,List.length_replicate]
    omega
theorem fn_of {CX:CXT} {P:Program} {w:World} {K:PySem.W.Frag} {mg:Str→Option Value} {base:Heap} {k:Nat} {f:Addr} {name qual:Str} {params:Arguments} {body:List Stmt} {scope:Scope} {dV kV doc pm cdv ct oc:Value} {an od:Option Addr}
    {osl:Array (Option Value)} {N ps:List Str} {sp:Sp} (lk:K.lookup f=some ⟨oc,od,.func (PySem.W.fnOf name qual params body scope dV kV doc pm an cdv ct),osl⟩) (hcd:PySem.W.codeIn K cdv qual=true) (S:FnScope N ps scope)
    (len:∀ vs H Q E,sp vs H Q E→vs.length=ps.length)
    (hbody:∀ (A:Around) (outer:List Env) (s:Shared) (H:Hp) (vs:List V) (Q:VK) (E:XK),Room k (A.deeper (envOfC qual scope s.heap.objs.size f cdv))→sp vs H Q E →
      ∃ t,PSs (cxOf CX P w K mg base N qual scope f cdv A outer s H E) body t∧t { nx:=fun _ H'=>Q .non H',rt:=Q } (start N vs) H) :
    FnOk P w K mg base CX (k+1) f (PySem.W.fnOf name qual params body scope dV kV doc pm an cdv ct) ps sp:=by
  refine ⟨len,fun A outer s H args us vs Q E hr e0 hb r hsp=>?_⟩
  have hl:=len _ _ _ _ hsp
  have KX:K.In s.heap:=e0.mod.kin.keeps fun b o e=>(e0.bs b o e).1
  have lim:s.heap.NoLimit:=e0.mod.nolimit.keeps fun b o e=>(e0.bs b o e).1
  have hkind:∀ y∈ps.zip us,scope.names.lookup y.1=some .local∨(scope.names.lookup y.1=some .cell∧((cellsFrom (s.heap.objs.size+1) scope.names []).lookup y.1).isSome=true):=fun ⟨n,v⟩ hy=>by
    rcases S.par n (List.of_mem_zip hy).1 with q | q
    · exact .inl q
    · exact .inr ⟨q,PySem.W.cellsFrom_some _ _ _ (.inl q)⟩
  refine codeAny_call_function hr.depth (KX _ _ lk) rfl S.co S.gen rfl (PySem.W.codeRec_of KX hcd) (hb _ _ _ _ ?_)
  refine wpAny_newFunctionEnv_cells S.kind hkind fun env he s1 x=>?_
  subst he
  refine ⟨lim.keeps x.toInCall.keep,codeAny_func ?_⟩
  obtain ⟨t,ht,hq⟩:=hbody A outer s H vs Q E (hr.deeper _) hsp
  have I:Inv (cxOf CX P w K mg base N qual scope f cdv A outer s H E) [] (start N vs) H s1:=inv_start S hr.hd e0 hl r x
  refine wpAny_mono (ht [] s1 (start N vs) H _ I hq) (fun fl s' hs=>?_) fun e s' hs=>hs
  have fin:∀ {σ':St} {H':Hp} {v:V} {u:Value},Inv (cxOf CX P w K mg base N qual scope f cdv A outer s H E) [] σ' H' s'→RelV v u→Q v H'→CE outer P w H s Q u s' :=
    fun {σ' H' v u} J rv q=>⟨v,H',J.os,J.bare,J.base,J.hok,rv,q⟩
  cases fl with
  | ret u =>
    obtain ⟨v,σ',H',J,rv,q⟩:=hs
    exact fin J rv q
  | next =>
    obtain ⟨σ',H',J,q⟩:=hs
    exact fin (v:=V.non) (u:=Value.none) J rfl q
  | brk =>
    obtain ⟨_,_,_,q⟩:=hs
    exact False.elim q
  | cont =>
    obtain ⟨_,_,_,q⟩:=hs
    exact False.elim q
end L2
namespace L2
open PySem PySem.Spec PyProof.Rows
section
variable {X:Cx} {x:Str} {p pos:Pos} {e:Expr} {es:List Expr} {t:TA} {id T:String} {r:List V→Hp→VK→Prop}
def tCB (r:List V→Hp→VK→Prop) (t:TA):TE:=fun σ H Q=>t σ H fun vs H1=>r vs H1 Q
theorem pe_callB (hc:CallR X (.builtin id) r) (hg:Gl X x) (hm:X.mg x=none) (hv:bootBuiltins x=some (.builtin id)) (ha:PA X (e::es) t) (hn:x ≠ "__name__" := by decide) (hdb:(x == ("__debug__" : Str))=false:=by decide)
    (he:starEach (e::es) X.env=(false,eval e X.env)::starEach es X.env:=by rfl) (hpl:(backTo pos (starEach es X.env)).any (·.1)=false:=by rfl):PE X (.Call (.Name x p) (e::es) [] pos) (tCB r t):=by
  intro pins s σ H Q I h
  refine wpAny_Call_Name_kw (ld_blt I hg hm hv ?_ hn hdb)
  exact PyProof.Rows.callWith_builtin1 (thn (ha pos pins s σ H _ I h) fun us s1 ⟨vs,H1,I1,r1,q1⟩=>hc pins s1 σ H1 vs us Q I1 r1 q1) he hpl
theorem pe_callTy (hc:CallR X (.type T) r) (hg:Gl X x) (hm:X.mg x=none) (hv:bootBuiltins x=some (.type T)) (ha:PA X (e::es) t) (hn:x ≠ "__name__" := by decide) (hdb:(x == ("__debug__" : Str))=false:=by decide)
    (he:starEach (e::es) X.env=(false,eval e X.env)::starEach es X.env:=by rfl) (hpl:(backTo pos (starEach es X.env)).any (·.1)=false:=by rfl):PE X (.Call (.Name x p) (e::es) [] pos) (tCB r t):=by
  intro pins s σ H Q I h
  refine wpAny_Call_Name_kw (ld_blt I hg hm hv ?_ hn hdb)
  exact PyProof.Rows.callWith_type1 (thn (ha pos pins s σ H _ I h) fun us s1 ⟨vs,H1,I1,r1,q1⟩=>hc pins s1 σ H1 vs us Q I1 r1 q1) he hpl
end
end L2
namespace HT
open PySem PyProof.Rows
section
open PySem.SeqAt
open PySem.AutoSeq1 (wpAny_loadPart')
open PySem.MeetsSeq PySem.MeetsSeq2 PySem.MeetsSeq3
end
section
variable {prog:Program} {w:World} {A:Around} {E:Value→Shared→Prop} {s:Shared}
theorem cat_tup {t b:Addr} {vs ws:List Value} {Q:Value→Shared→Prop} (ht:IsTup s.heap t vs.toArray) (hb:IsTup s.heap b ws.toArray) (hv:vs≠[])
    (h1:ws=[]→Q (.ref t) s) (h2:ws≠[]→Q (.ref s.heap.objs.size) { s with heap:=s.heap.push { cls:=.type "tuple",data:=.seq (vs++ws).toArray } })
    (hsz:vs.length+ws.length≤sizeLine):wpAny (model prog w) A (binaryOp .Add (.ref t) (.ref b)) Q E s:=by
  obtain ⟨⟨cls,dd,data,sl⟩,ho,hc,n,hd⟩:=id ht
  obtain ⟨⟨cls2,dd2,data2,sl2⟩,ho2,hc2,n2,hd2⟩:=id hb
  simp only at hc hd hc2 hd2
  subst hc hd hc2 hd2
  have e:vs.toArray++ws.toArray=(vs++ws).toArray:=by simp
  by_cases hw:ws=[]
  · exact concat_meets ⟨_,ho,rfl⟩ ⟨_,ho2,rfl⟩ noFill_tuple_add seq_tuple_add PySem.F.slot_tuple_add PySem.F.entry_tuple_add (PySem.F.args_tuple_add_2 _ _)
      (tuple_addW1 t b vs.toArray ws.toArray n n2 dd dd2 sl sl2 (by simpa using hv) (by simp [hw])) ⟨ho,ho2,h1 hw⟩
  · refine concat_meets ⟨_,ho,rfl⟩ ⟨_,ho2,rfl⟩ noFill_tuple_add seq_tuple_add PySem.F.slot_tuple_add PySem.F.entry_tuple_add (PySem.F.args_tuple_add_2 _ _)
      (tuple_addW2 t b vs.toArray ws.toArray n n2 dd dd2 sl sl2 (by simpa using hv) (by simpa using hw) (by rw [List.size_toArray,List.size_toArray]; exact hsz)) ⟨ho,ho2,?_⟩
    rw [e]
    exact h2 hw
def sIx (n d:Nat):Option Int→Nat
  | none=>d
  | some v=>if v<0 then (v+(n:Int)).toNat else min v.toNat n
theorem sIx_none (n d:Nat):sIx n d none=d:=rfl
theorem sIx_nat (n d k:Nat):sIx n d (some (k:Int))=min k n:=by
  show (if (k:Int)<0 then ((k:Int)+(n:Int)).toNat else min (k:Int).toNat n)=min k n
  rw [if_neg (by omega),Int.toNat_natCast]
theorem sIx_le (n d:Nat) (hd:d≤n) (o:Option Int):sIx n d o≤n:=by
  cases o with
  | none=>exact hd
  | some v =>
    show (if v<0 then (v+(n:Int)).toNat else min v.toNat n)≤n
    by_cases hv:v<0
    · rw [if_pos hv]; omega
    · rw [if_neg hv]; exact Nat.min_le_right _ _
theorem clip_eq (v:Int) (n d:Nat):(if v<0 then max (v+(n:Int)) 0 else min v (n:Int))=((sIx n d (some v):Nat):Int):=by
  show (if v<0 then max (v+(n:Int)) 0 else min v (n:Int))=(((if v<0 then (v+(n:Int)).toNat else min v.toNat n):Nat):Int)
  by_cases hv:v<0
  · simp only [if_pos hv]; omega
  · simp only [if_neg hv]; omega
theorem adjust_gen (lo hi:Option Int) (n:Nat):Builtin.Slice.sliceAdjust lo hi 1 (n:Int)=(((sIx n 0 lo:Nat):Int),((sIx n n hi:Nat):Int)):=by
  have h1:¬ ((1:Int)<0):=by omega
  unfold Builtin.Slice.sliceAdjust
  simp only [h1,if_false]
  refine Prod.ext ?_ ?_
  · cases lo with
    | none=>rfl
    | some v=>exact clip_eq v n 0
  · cases hi with
    | none=>rfl
    | some v=>exact clip_eq v n n
theorem places_gen (i j:Nat):Builtin.Slice.slicePlaces (i:Int) (j:Int) 1=j - i:=by
  unfold Builtin.Slice.slicePlaces
  have h1:(1:Int) > 0:=by omega
  simp only [h1,if_true,Int.ediv_one]
  split <;> omega
theorem slicePart_ {v:Value} {o:Option Int} {Q:Option Int→Shared→Prop} (p:IsPart v o) (h:Q o s):wpAny (model prog w) A (Builtin.Slice.slicePartIndex v) Q E s:=by
  cases p with
  | none=>exact slicePart_none h
  | int i t=>exact slicePart_int h
theorem sliceApplied_gen {sl:Addr} {vl vu:Value} {lo hi:Option Int} {n:Nat} {Q:Int × Int × Nat→Shared→Prop} (hs:s.heap.IsSliceOf sl vl vu .none) (pl:IsPart vl lo) (pu:IsPart vu hi)
    (h:Q (((sIx n 0 lo:Nat):Int),1,sIx n n hi - sIx n 0 lo) s):wpAny (model prog w) A (Builtin.Slice.sliceApplied (.ref sl) (pure (n:Int))) Q E s:=by
  obtain ⟨os,hos,hcs,hds⟩:=id hs
  unfold Builtin.Slice.sliceApplied Builtin.Slice.sliceFields
  refine wpAny_bind (wpAny_bind (wpAny_field hos hds (x:=vl) rfl (wpAny_bind (wpAny_field hos hds (x:=vu) rfl (wpAny_bind (wpAny_field hos hds (x:=.none) rfl (wpAny_pure ?_)))))))
  refine wpAny_bind (slicePart_none ?_)
  show wpAny _ _ (if ((1:Int) == 0)=true then _ else _) _ _ s
  rw [if_neg (by decide)]
  refine wpAny_bind (slicePart_ pl (wpAny_bind (slicePart_ pu (wpAny_bind (wpAny_pure ?_)))))
  show wpAny _ _ (match Builtin.Slice.sliceAdjust lo hi 1 (n:Int) with | (lo,hi)=>pure (lo,(1:Int),Builtin.Slice.slicePlaces lo hi 1)) _ _ s
  rw [adjust_gen lo hi n]
  show wpAny _ _ (pure (((sIx n 0 lo:Nat):Int),(1:Int),Builtin.Slice.slicePlaces ((sIx n 0 lo:Nat):Int) ((sIx n n hi:Nat):Int) 1)) _ _ s
  rw [places_gen]
  exact wpAny_pure h
theorem pick_gen (xs:Array Value) (i k:Nat):((List.range k).filterMap fun (m:Nat)=>xs[((i:Int)+(m:Int)*1).toNat]?).toArray=((xs.toList.drop i).take k).toArray:=by
  have e:(fun (m:Nat)=>xs[((i:Int)+(m:Int)*1).toNat]?)=fun m=>xs[i+m]?:=by
    funext m
    have:((i:Int)+(m:Int)*1).toNat=i+m:=by omega
    rw [this]
  rw [e]
  have:=pick_run xs i k
  rw [List.filterMap_map] at this
  have e2:((fun x=>xs[x]?) ∘ fun x=>i+x)=fun m=>xs[i+m]?:=rfl
  rw [e2] at this
  rw [this]
theorem getItem_tuple_cut {t sl:Addr} {items:Array Value} {vl vu:Value} {lo hi:Option Int} {Q:Value→Shared→Prop} (ht:IsTup s.heap t items) (hs:s.heap.IsSliceOf sl vl vu .none) (pl:IsPart vl lo) (pu:IsPart vu hi)
    (hw:¬ (sIx items.size 0 lo=0∧sIx items.size items.size hi=items.size))
    (h:Q (.ref s.heap.objs.size) { s with heap:=s.heap.push { cls:=.type "tuple",data:=.seq ((items.toList.drop (sIx items.size 0 lo)).take (sIx items.size items.size hi - sIx items.size 0 lo)).toArray } })
    (hsz:items.size≤sizeLine):wpAny (model prog w) A (getItem (.ref t) (.ref sl)) Q E s:=by
  have htake:sizeOk (.seq ((items.toList.drop (sIx items.size 0 lo)).take (sIx items.size items.size hi - sIx items.size 0 lo)).toArray):=by
    show ((items.toList.drop (sIx items.size 0 lo)).take (sIx items.size items.size hi - sIx items.size 0 lo)).toArray.size≤sizeLine
    rw [List.size_toArray,List.length_take,List.length_drop,Array.length_toList]
    omega
  have hj:sIx items.size items.size hi≤items.size:=sIx_le _ _ (Nat.le_refl _) hi
  obtain ⟨os,hos,hcs,hds⟩:=id hs
  have hTs:s.TypeIs (.ref sl) "slice" := ⟨os,hos,hcs⟩
  unfold getItem
  try with_reducible refine wpAny_holding ?_
  first | refine wpAny_bind (wpAny_pure ?_) | skip
  refine wpAny_bind (wpAny_sequenceKey ht.typeIs (by decide) ?_)
  refine wpAny_bind (wpAny_callSpecial?_slot (name:=Str.ofString "__getitem__") ht.typeIs PyProof.Rows.slot_tuple_getitem
    (wpAny_call_entry PyProof.Rows.slot_tuple_getitem ht.typeIs entry_tuple_getitem ?_ (args_tuple_getitem _ _)))
  show wpAny _ _ (Builtin.Tuple.tupleItemsOf (.ref t) >>= _) _ _ s
  refine wpAny_bind (tupleItemsOf_ ht ?_)
  refine wpAny_bind (wpAny_typeOf hTs ?_)
  rw [if_pos (by decide)]
  refine wpAny_bind (sliceApplied_gen hs pl pu ?_)
  have hno:¬ ((((sIx items.size 0 lo:Nat):Int) == 0&&(1:Int) == 1&&(sIx items.size items.size hi - sIx items.size 0 lo) == items.size)=true):=by
    intro q
    rw [Bool.and_eq_true,Bool.and_eq_true] at q
    have q1:((sIx items.size 0 lo:Nat):Int)=0:=eq_of_beq q.1.1
    have q2:sIx items.size items.size hi - sIx items.size 0 lo=items.size:=eq_of_beq q.2
    exact hw ⟨by omega,by omega⟩
  show wpAny _ _ (if (((sIx items.size 0 lo:Nat):Int) == 0&&(1:Int) == 1&&(sIx items.size items.size hi - sIx items.size 0 lo) == items.size)=true then _ else _) _ _ s
  rw [if_neg hno,pick_gen]
  first
    | exact wpAny_bind (m:=Builtin.Tuple.tupleExact _) (wpAny_newObj_type (wpAny_pure ⟨_,rfl,wpAny_pure h⟩) htake)
    | exact wpAny_bind (m:=Builtin.Tuple.tupleExact _) (wpAny_newObj_type (wpAny_bind (wpAny_pure (wpAny_pure ⟨_,rfl,wpAny_pure h⟩))) htake)
    | exact wpAny_bind (wpAny_bind (m:=Builtin.Tuple.tupleExact _) (wpAny_newObj_type (wpAny_pure (wpAny_pure ⟨_,rfl,wpAny_pure h⟩)) htake))
    | exact wpAny_bind (wpAny_bind (m:=Builtin.Tuple.tupleExact _) (wpAny_newObj_type (wpAny_pure ⟨_,rfl,wpAny_pure h⟩) htake))
end
end HT
namespace L2
open PySem PySem.Spec PyProof.Rows
abbrev TO:=St→Hp→(Option Int→Hp→Prop)→Prop
def PO (X:Cx) (e:Option Expr) (t:TO):Prop :=
  ∀ (pins:List (Addr × Obj)) (s:Shared) (σ:St) (H:Hp) (Q:Option Int→Hp→Prop),Inv X pins σ H s→t σ H Q →
    wpAny (model X.prog X.w) X.A (evalPart e X.env) (fun u s'=>∃ o H',Inv X pins σ H' s'∧IsPart u o∧Q o H') X.xe s
def tNoPart:TO:=fun _ H Q=>Q none H
def tPart (t:TE):TO:=fun σ H Q=>t σ H fun x H1=>∃ i,x=.int i∧Q (some i) H1
theorem intsAre_of {ns:List Int}:∀ {us:List Value},Vals (ns.map V.int) us→IntsAre us ns:=by
  induction ns with
  | nil=>intro us r; rw [List.map_nil] at r; cases r; exact .nil
  | cons n ns ih =>
    intro us r
    rw [List.map_cons] at r
    cases r with
    | cons r1 r2 =>
      obtain ⟨t,e⟩:=r1
      subst e
      exact .cons n t (ih r2)
section
variable {X:Cx} {e:Expr} {te:TE} {lo hi:Option Expr} {tl th:TO} {pos p2:Pos}
theorem po_none:PO X none tNoPart:=by
  intro pins s σ H Q I h
  rw [evalPart_none]
  exact wpAny_pure ⟨none,H,I,.none,h⟩
theorem po_some (h:PE X e te):PO X (some e) (tPart te):=by
  intro pins s σ H Q I hw
  rw [evalPart_some]
  refine thn (h pins s σ H _ I hw) fun u s1 ⟨x,H1,I1,r1,q1⟩=>?_
  obtain ⟨i,rfl,q⟩:=q1
  obtain ⟨t,rfl⟩:=r1
  exact ⟨some i,H1,I1,.int i t,q⟩
def SlR (X:Cx) (r:V→Option Int→Option Int→Hp→VK→Prop):Prop :=
  ∀ (pins:List (Addr × Obj)) (s:Shared) (σ:St) (H:Hp) (x:V) (v vl vu:Value) (lo hi:Option Int) (sl:Addr) (Q:VK),Inv X pins σ H s→RelV x v→s.heap.IsSliceOf sl vl vu .none→IsPart vl lo→IsPart vu hi→r x lo hi H Q →
    ∃ T id,typeLookup (.type T) "__getitem__" = pure (some (.builtin id))∧s.TypeIs v T∧wpAny (model X.prog X.w) X.A (getItem v (.ref sl)) (EP X pins σ Q) X.xe s
def tSl (r:V→Option Int→Option Int→Hp→VK→Prop) (te:TE) (tl th:TO):TE:=fun σ H Q=>te σ H fun x H1=>tl σ H1 fun l H2=>th σ H2 fun u H3=>r x l u H3 Q
theorem pe_slice {r:V→Option Int→Option Int→Hp→VK→Prop} (hr:SlR X r) (he:PE X e te) (hl:PO X lo tl) (hu:PO X hi th):PE X (.Subscript e (.Slice lo hi none p2) pos) (tSl r te tl th):=by
  intro pins s σ H Q I h
  refine Subscript_ (thn (he pins s σ H _ I h) fun v s1 ⟨x,H1,I1,r1,q1⟩=>?_)
  refine wpAny_Slice (thn (hl pins s1 σ H1 _ I1 q1) fun vl s2 ⟨l,H2,I2,pl,q2⟩=>thn (hu pins s2 σ H2 _ I2 q2) fun vu s3 ⟨u,H3,I3,pu,q3⟩=>?_)
  rw [evalPart_none]
  refine wpAny_pure ?_
  have I4:Inv X pins σ H3 { s3 with heap:=s3.heap.push { cls:=.type "slice",data:=.fields #[vl,vu,.none] } }:=I3.kept (t':=s3.toks) fun b ob q=>Heap.get?_push_of_some _ q
  obtain ⟨T,id,hT,ht,hg⟩:=hr pins { s3 with heap:=s3.heap.push { cls:=.type "slice",data:=.fields #[vl,vu,.none] } } σ H3 x v vl vu l u s3.heap.objs.size Q I4 r1 (Heap.IsSliceOf.new ..) pl pu q3
  show wpAny (model X.prog X.w) X.A (subscriptTail e (.Slice lo hi none p2) v (.ref s3.heap.objs.size)) (EP X pins σ Q) X.xe { s3 with heap:=s3.heap.push { cls:=.type "slice",data:=.fields #[vl,vu,.none] } }
  exact tail_any (ops:=[.ref s3.heap.objs.size,v]) ht hT hg (by with_unfolding_all rfl)
def cutV (xs:List V) (lo hi:Option Int):List V:=(xs.drop (HT.sIx xs.length 0 lo)).take (HT.sIx xs.length xs.length hi - HT.sIx xs.length 0 lo)
theorem cutV_length (xs:List V) (lo hi:Option Int):(cutV xs lo hi).length≤xs.length:=by
  unfold cutV
  rw [List.length_take,List.length_drop]
  omega
def rSlT (K:PySem.W.Frag):V→Option Int→Option Int→Hp→VK→Prop:=fun x lo hi H Q=>∃ a xs,x=.ref a∧SqT K H a xs ∧
  ¬ (HT.sIx xs.length 0 lo=0∧HT.sIx xs.length xs.length hi=xs.length)∧∀ p,H p=none→Q (.ref p) (upd H p (.tup (cutV xs lo hi)))
theorem sl_tup:SlR X (rSlT X.K):=by
  intro pins s σ H x v vl vu lo hi sl Q I rx hs pl pu h
  obtain ⟨a,xs,rfl,hx,hw,q⟩:=h
  cases rx
  obtain ⟨its,r,ht,hz⟩:=I.tuple hx
  have hlen:its.toArray.size=xs.length:=by rw [List.size_toArray]; exact r.length.symm
  refine ⟨"tuple",_,PyProof.Rows.slot_tuple_getitem.lookup,ht.typeIs,?_⟩
  refine HT.getItem_tuple_cut ht hs pl pu (by rw [hlen]; exact hw) ?_ (by rw [hlen]; exact hz)
  rw [hlen]
  refine ⟨.ref s.heap.objs.size,_,I.laid (t':=s.toks) (o:=.tup (cutV xs lo hi)) (fun b ob q=>Heap.get?_push_of_some _ q) (Nat.le_refl _) ?_,rfl,q _ (I.hok.fresh (Nat.le_refl _))⟩
  exact ⟨⟨Nat.le_trans (cutV_length xs lo hi) hz,_,Heap.get?_push_size _ rfl,rfl⟩,_,(r.drop (HT.sIx xs.length 0 lo)).take (HT.sIx xs.length xs.length hi - HT.sIx xs.length 0 lo),IsTup.new _ _⟩
def rCatT (K:PySem.W.Frag):R2:=fun x y H Q=>∃ a b xs ys,x=.ref a∧y=.ref b∧SqT K H a xs∧SqT K H b ys∧xs≠[]∧xs.length+ys.length≤sizeLine ∧
  (ys=[]→Q (.ref a) H)∧(ys≠[]→∀ p,H p=none→Q (.ref p) (upd H p (.tup (xs++ys))))
theorem Vals.nil_iff {xs:List V} {us:List Value} (r:Vals xs us):us=[]↔xs=[]:=by
  cases r with
  | nil=>simp
  | cons _ _=>simp
theorem op_catT:OpR X (binaryOp .Add) (rCatT X.K):=by
  intro pins s σ H x y v u Q I rx ry h
  obtain ⟨a,b,xs,ys,rfl,rfl,ha,hb,hx,hz,q1,q2⟩:=h
  cases rx
  cases ry
  obtain ⟨its,r1,p1,_⟩:=I.tuple ha
  obtain ⟨its2,r2,p2,_⟩:=I.tuple hb
  refine HT.cat_tup p1 p2 (fun z=>hx (r1.nil_iff.mp z)) (fun z=>⟨.ref a,H,I,rfl,q1 (r2.nil_iff.mp z)⟩) (fun z=>?_) (by rw [← r1.length,← r2.length]; exact hz)
  refine ⟨.ref s.heap.objs.size,_,I.laid (t':=s.toks) (o:=.tup (xs++ys)) (fun b ob q=>Heap.get?_push_of_some _ q) (Nat.le_refl _) ?_,rfl,q2 (fun w=>z (r2.nil_iff.mpr w)) _ (I.hok.fresh (Nat.le_refl _))⟩
  exact ⟨⟨by rw [List.length_append]; exact hz,_,Heap.get?_push_size _ rfl,rfl⟩,_,r1.append r2,IsTup.new _ _⟩
end
end L2
namespace L2
open PySem PySem.Spec PyProof.Rows
def ixN (n:Nat) (i:Int):Option Nat:=if 0≤i then (if i<n then some i.toNat else none) else if -(n:Int)≤i then some (i+n).toNat else none
def atI {α:Type} (xs:List α) (i:Int):Option α:=(ixN xs.length i).bind fun j=>xs[j]?
theorem ixN_seq {n:Nat} {i:Int} {j:Nat} (h:ixN n i=some j):seqIndex? i n=some j∧j<n∧-(n:Int)≤i∧i<n:=by
  unfold ixN at h
  by_cases h0:0≤i
  · rw [if_pos h0] at h
    by_cases h1:i<n
    · rw [if_pos h1] at h
      have e:i.toNat=j:=Option.some.inj h
      exact ⟨by rw [seqIndex_of h0 h1,e],by omega,by omega,h1⟩
    · rw [if_neg h1] at h; cases h
  · rw [if_neg h0] at h
    by_cases h1:-(n:Int)≤i
    · rw [if_pos h1] at h
      have e:(i+n).toNat=j:=Option.some.inj h
      exact ⟨by rw [seqIndex_neg (by omega) h1,e],by omega,h1,by omega⟩
    · rw [if_neg h1] at h; cases h
theorem atI_get {α:Type} {xs:List α} {i:Int} {v:α} (h:atI xs i=some v):∃ j,seqIndex? i xs.length=some j∧xs[j]?=some v∧j<xs.length∧-(xs.length:Int)≤i∧i<xs.length:=by
  unfold atI at h
  cases e:ixN xs.length i with
  | none=>rw [e] at h; cases h
  | some j =>
    rw [e] at h
    obtain ⟨h1,h2,h3,h4⟩:=ixN_seq e
    exact ⟨j,h1,h,h2,h3,h4⟩
theorem atI_nat {α:Type} {xs:List α} {j:Nat} {v:α} (h:xs[j]?=some v):atI xs (j:Int)=some v:=by
  have hj:j<xs.length:=(List.getElem?_eq_some_iff.mp h).1
  have e:ixN xs.length (j:Int)=some j:=by
    unfold ixN
    rw [if_pos (by omega),if_pos (by omega)]; simp
  unfold atI; rw [e]; exact h
def PlainIx (b:Expr):Prop:=∀ o i,subscripted b false o i=operate [o,i] (getItem o i)
def IxR (X:Cx) (r:R2):Prop :=
  ∀ (value slice:Expr) (pins:List (Addr × Obj)) (s:Shared) (σ:St) (H:Hp) (x y:V) (v u:Value) (Q:VK),Inv X pins σ H s→RelV x v→RelV y u→r x y H Q →
    subscripted slice false v u=operate [v,u] (getItem v u)→wpAny (model X.prog X.w) X.A (subscriptTail value slice v u) (EP X pins σ Q) X.xe s
def MtR (X:Cx) (id:String) (r:V→List V→Hp→VK→Prop):Prop :=
  ∀ (pins:List (Addr × Obj)) (s:Shared) (σ:St) (H:Hp) (x:V) (xs:List V) (v:Value) (us:List Value) (Q:VK),Inv X pins σ H s→RelV x v→Vals xs us→r x xs H Q →
    wpAny (model X.prog X.w) X.A (call (.builtin id) (v::us)) (EP X pins σ Q) X.xe s
section
variable {X:Cx} {a b:Expr} {ta tb:TE} {pos:Pos}
theorem IxR.or {r r':R2} (h:IxR X r) (h':IxR X r'):IxR X (fun x y H Q=>r x y H Q∨r' x y H Q):=by
  intro value slice pins s σ H x y v u Q I rx ry q hs
  rcases q with q | q
  · exact h value slice pins s σ H x y v u Q I rx ry q hs
  · exact h' value slice pins s σ H x y v u Q I rx ry q hs
theorem pe_ix {r:R2} (hr:IxR X r) (ha:PE X a ta) (hb:PE X b tb) (hs:PlainIx b):PE X (.Subscript a b pos) (tOp r ta tb):=by
  intro pins s σ H Q I h
  exact Subscript_ (binT ha hb I h fun v u s2 x y H2 I2 rx ry q=>hr a b pins s2 σ H2 x y v u Q I2 rx ry q (hs _ _))
def rIxL (K:PySem.W.Frag):R2:=fun x y H Q=>∃ p xs i v,x=.ref p∧y=.int i∧SqL K H p xs∧atI xs i=some v∧Q v H
def rIxT (K:PySem.W.Frag):R2:=fun x y H Q=>∃ p xs i v,x=.ref p∧y=.int i∧SqT K H p xs∧atI xs i=some v∧Q v H
def rIxS:R2:=fun x y H Q=>∃ z i c,x=.str z∧y=.int i∧z.length≤sizeLine∧atI z.cps.toList i=some c∧Q (.str ⟨#[c]⟩) H
theorem ix_list:IxR X (rIxL X.K):=by
  intro value slice pins s σ H x y v u Q I rx ry h hs
  obtain ⟨p,xs,i,z,rfl,rfl,hq,he,q⟩:=h
  cases rx
  obtain ⟨t,rfl⟩:=ry
  obtain ⟨its,r,pl,hz⟩:=I.list hq
  obtain ⟨j,h1,h2,h3,h4,h5⟩:=atI_get he
  obtain ⟨w,ew,rw'⟩:=r.get h2
  have hl:=r.length
  have hn:=line63
  have fin:EP X pins σ Q w s:=⟨z,H,I,rw',q⟩
  by_cases h0:0≤i
  · have hj:i.toNat=j:=by
      rw [seqIndex_of h0 h5] at h1
      exact Option.some.inj h1
    exact item_listR pl.isList h0 (by omega) (by rw [hj]; simpa using ew) fin hs
  · have hj:(i+(its.toArray.size:Int)).toNat=j:=by
      rw [seqIndex_neg (by omega) h4] at h1
      rw [List.size_toArray,← hl]
      exact Option.some.inj h1
    exact subscriptTail_builtinR (x:=w) pl.isList.typeIs slot_list_getitem.lookup
      (wpAny_getItem_list_neg (Q:=fun r s'=>r=w∧EP X pins σ Q r s') pl.isList (by omega) (by rw [List.size_toArray] <;> omega) (by omega) (by rw [hj]; simpa using ew) ⟨rfl,fin⟩) hs
theorem ix_tup:IxR X (rIxT X.K):=by
  intro value slice pins s σ H x y v u Q I rx ry h hs
  obtain ⟨p,xs,i,z,rfl,rfl,hq,he,q⟩:=h
  cases rx
  obtain ⟨t,rfl⟩:=ry
  obtain ⟨its,r,pl,hz⟩:=I.tuple hq
  obtain ⟨j,h1,h2,h3,h4,h5⟩:=atI_get he
  obtain ⟨w,ew,rw'⟩:=r.get h2
  have hl:=r.length
  have hn:=line63
  have fin:EP X pins σ Q w s:=⟨z,H,I,rw',q⟩
  exact subscriptTail_builtinR (x:=w) pl.typeIs slot_tuple_getitem.lookup
    (getItem_tuple (j:=j) (Q:=fun r s'=>r=w∧EP X pins σ Q r s') pl (by omega) (by omega) (by rw [List.size_toArray,← hl]; exact h1) (by simpa using ew) ⟨rfl,fin⟩) hs
theorem ix_str:IxR X rIxS:=by
  intro value slice pins s σ H x y v u Q I rx ry h hs
  obtain ⟨z,i,c,rfl,rfl,hz,he,q⟩:=h
  obtain ⟨t,rfl⟩:=rx
  obtain ⟨t',rfl⟩:=ry
  obtain ⟨j,h1,h2,h3,h4,h5⟩:=atI_get he
  have hl:z.cps.toList.length=z.length:=by simp [Str.length]
  rw [hl] at h1 h4 h5
  have hn:=line63
  exact tail_any (typeIs_str s z t) slot_str_getitem.lookup (getItem_str (c:=c) (by
    have e1:decide (i < -(2^63:Int))=false:=decide_eq_false (by omega)
    have e2:decide (i ≥ 2^63)=false:=decide_eq_false (by omega)
    rw [e1,e2,Bool.or_false]) (by rw [h1]; simpa using h2) ⟨.str ⟨#[c]⟩,H,I.tok _,⟨_,rfl⟩,q⟩) hs
def rIx (K:PySem.W.Frag):R2:=fun x y H Q=>rIxL K x y H Q∨rIxT K x y H Q∨rIxS x y H Q
theorem ix_seq:IxR X (rIx X.K):=ix_list.or (ix_tup.or ix_str)
theorem mapSeq_set (its:List Value) (n j:Nat) (u:Value):Obj.mapSeq (·.setIfInBounds j u) { cls:=.type "list",data:=.seq its.toArray n }={ cls:=.type "list",data:=.seq (its.set j u).toArray n }:=by
  simp [Obj.mapSeq]
theorem Inv.lst {pins:List (Addr × Obj)} {σ:St} {H:Hp} {s:Shared} {p:Addr} {xs:List V} (I:Inv X pins σ H s) (h:H p=some (.lst xs)) :
    ∃ (its:List Value) (n:Nat),Vals xs its∧s.heap.get? p=some { cls:=.type "list",data:=.seq its.toArray n }∧xs.length≤sizeLine:=by
  obtain ⟨z,its,n,r,e⟩:=I.hok p _ h
  exact ⟨its,n,r,e,z⟩
theorem Inv.lstUpd {pins:List (Addr × Obj)} {σ:St} {H:Hp} {s:Shared} {p:Addr} {xs ys:List V} {its its':List Value} {n n':Nat} {f:Obj→Obj} (I:Inv X pins σ H s) (h:H p=some (.lst xs))
    (ho:s.heap.get? p=some { cls:=.type "list",data:=.seq its.toArray n }) (hf:f { cls:=.type "list",data:=.seq its.toArray n }={ cls:=.type "list",data:=.seq its'.toArray n' }) (r:Vals ys its') (hz:ys.length≤sizeLine) (t:Nat) :
    Inv X pins σ (upd H p (.lst ys)) { s with heap:=s.heap.update p f,toks:=t }:=by
  have e:(s.heap.update p f).get? p=some { cls:=.type "list",data:=.seq its'.toArray n' }:=by
    rw [Heap.get?_update_self f ho (by rw [hf] <;> rfl),hf]
  refine I.write (x:=p) (e:=p) (by rw [h]; trivial) (.inl rfl) (fun b u hb q=>(Heap.get?_update_other _ _ (Ne.symm hb)).trans q) ⟨_,e⟩ ?_
  exact ⟨hz,its',n',r,e⟩
def rSetL:V→V→V→Hp→(Hp→Prop)→Prop:=fun o i v H Q=>∃ p xs k j,o=.ref p∧i=.int k∧H p=some (.lst xs)∧ixN xs.length k=some j∧Q (upd H p (.lst (xs.set j v)))
theorem set_list:PSet X rSetL:=by
  intro pins s σ H o i v ov iv u Q I ro ri rv h
  obtain ⟨p,xs,k,j,rfl,rfl,hp,hj,q⟩:=h
  cases ro
  obtain ⟨t,rfl⟩:=ri
  obtain ⟨its,n,r,ho,hz⟩:=I.lst hp
  obtain ⟨h1,h2,h3,h4⟩:=ixN_seq hj
  have hl:=r.length
  have hn:=line63
  have I':Inv X pins σ (upd H p (.lst (xs.set j v))) { s with heap:=s.heap.update p (Obj.mapSeq (·.setIfInBounds j u)) } :=
    I.lstUpd hp ho (mapSeq_set its n j u) (r.set rv j) (by rw [List.length_set]; exact hz) s.toks
  by_cases h0:0≤k
  · have hk:k.toNat=j:=by
      rw [seqIndex_of h0 h4] at h1
      exact Option.some.inj h1
    exact PySem.W.ki_setAt ho h0 (by omega) (by rw [List.size_toArray,← hl]; exact h4) (by rw [hk]; exact ⟨_,I',q⟩)
  · have hk:(k+(its.toArray.size:Int)).toNat=j:=by
      rw [seqIndex_neg (by omega) h3] at h1
      rw [List.size_toArray,← hl]
      exact Option.some.inj h1
    exact PySem.W.ki_setBack ho (by omega) (by rw [List.size_toArray,← hl]; exact h3) (by omega) (by rw [hk]; exact ⟨_,I',q⟩)
theorem slice_bounds (lo hi:Option Int) (n:Nat):(sliceBounds lo hi none n).1=((HT.sIx n 0 lo:Nat):Int)∧(sliceBounds lo hi none n).2.1=((HT.sIx n n hi:Nat):Int)∧(sliceBounds lo hi none n).2.2=1:=by
  refine ⟨?_,?_,rfl⟩
  · cases lo with
    | none=>simp [sliceBounds,HT.sIx]
    | some i =>
      simp only [sliceBounds,HT.sIx,Option.getD_none,show (1:Int) > 0 by decide,if_true]
      by_cases h:i<0
      · simp only [h,if_true] <;> omega
      · simp only [h,if_false] <;> omega
  · cases hi with
    | none=>simp [sliceBounds,HT.sIx]
    | some i =>
      simp only [sliceBounds,HT.sIx,Option.getD_none,show (1:Int) > 0 by decide,if_true]
      by_cases h:i<0
      · simp only [h,if_true] <;> omega
      · simp only [h,if_false] <;> omega
theorem slicePick_cut (its:List Value) (lo hi:Option Int):slicePick its.toArray lo hi none=((its.drop (HT.sIx its.length 0 lo)).take (HT.sIx its.length its.length hi - HT.sIx its.length 0 lo)).toArray:=by
  obtain ⟨h1,h2,h3⟩:=slice_bounds lo hi its.toArray.size
  unfold slicePick
  rw [h1,h2,h3]
  simp only [sliceRange_one,pick_run,List.size_toArray] <;> rfl
def rSlL (K:PySem.W.Frag):V→Option Int→Option Int→Hp→VK→Prop:=fun x lo hi H Q=>∃ a xs,x=.ref a∧SqL K H a xs∧∀ p,H p=none→Q (.ref p) (upd H p (.lst (cutV xs lo hi)))
theorem sl_list:SlR X (rSlL X.K):=by
  intro pins s σ H x v vl vu lo hi sl Q I rx hs pl pu h
  obtain ⟨a,xs,rfl,hx,q⟩:=h
  cases rx
  obtain ⟨its,r,ht,hz⟩:=I.list hx
  have hlen:=r.length
  refine ⟨"list",_,slot_list_getitem.lookup,ht.isList.typeIs,?_⟩
  refine wpAny_getItem_list_slice ht.isList hs pl pu .none (by simp) ?_ (by rw [List.size_toArray] <;> omega)
  rw [slicePick_cut,← hlen]
  refine ⟨.ref s.heap.objs.size,_,I.laid (t':=s.toks) (o:=.lst (cutV xs lo hi)) (fun b ob q=>Heap.get?_push_of_some _ q) (Nat.le_refl _) ?_,rfl,q _ (I.hok.fresh (Nat.le_refl _))⟩
  exact ⟨Nat.le_trans (cutV_length xs lo hi) hz,_,0,(r.drop (HT.sIx xs.length 0 lo)).take (HT.sIx xs.length xs.length hi - HT.sIx xs.length 0 lo),Heap.get?_push_size _ rfl⟩
def flatV:V→Bool
  | .non=>true
  | .bl _=>true
  | .int _=>true
  | .str _=>true
  | _=>false
def eqV:V→V→Bool
  | .non,.non=>true
  | .bl a,.bl b=>a == b
  | .bl a,.int b=>(if a then 1 else 0) == b
  | .int a,.bl b=>a == (if b then 1 else 0)
  | .int a,.int b=>a == b
  | .str a,.str b=>a == b
  | _,_=>false
theorem eqAt_V {A:Around} {s:Shared} {y x:V} {u v:Value} (ry:RelV y u) (rx:RelV x v) (fy:flatV y=true) (fx:flatV x=true):SeqAt.EqAt A s u v (eqV y x):=by
  cases y with
  | non =>
    cases ry
    cases x with
    | non=>cases rx; exact SeqAt.EqAt.same _
    | bl b=>cases rx; exact SeqAt.EqAt.none_bool b
    | int b=>obtain ⟨t,rfl⟩:=rx; exact SeqAt.EqAt.none_int b t
    | str b=>obtain ⟨t,rfl⟩:=rx; exact SeqAt.EqAt.none_str b t
    | _=>exact absurd (show false=true from fx) Bool.false_ne_true
  | bl a =>
    cases ry
    cases x with
    | non=>cases rx; exact SeqAt.EqAt.bool_none a
    | bl b=>cases rx; exact SeqAt.EqAt.bool_bool a b
    | int b=>obtain ⟨t,rfl⟩:=rx; exact SeqAt.EqAt.bool_int a b t
    | str b=>obtain ⟨t,rfl⟩:=rx; exact SeqAt.EqAt.bool_str a b t
    | _=>exact absurd (show false=true from fx) Bool.false_ne_true
  | int a =>
    obtain ⟨t',rfl⟩:=ry
    cases x with
    | non=>cases rx; exact SeqAt.EqAt.int_none a t'
    | bl b=>cases rx; exact SeqAt.EqAt.int_bool a t' b
    | int b=>obtain ⟨t,rfl⟩:=rx; exact SeqAt.EqAt.int_int a t' b t
    | str b=>obtain ⟨t,rfl⟩:=rx; exact SeqAt.EqAt.int_str a t' b t
    | _=>exact absurd (show false=true from fx) Bool.false_ne_true
  | str a =>
    obtain ⟨t',rfl⟩:=ry
    cases x with
    | non=>cases rx; exact SeqAt.EqAt.str_none a t'
    | bl b=>cases rx; exact SeqAt.EqAt.str_bool a t' b
    | int b=>obtain ⟨t,rfl⟩:=rx; exact SeqAt.EqAt.str_int a t' b t
    | str b=>obtain ⟨t,rfl⟩:=rx; exact SeqAt.EqAt.str_str a t' b t
    | _=>exact absurd (show false=true from fx) Bool.false_ne_true
  | _=>exact absurd (show false=true from fy) Bool.false_ne_true
def eqU (x:V) (u:Value):Bool:=match u with
  | .none=>eqV .non x
  | .bool b=>eqV (.bl b) x
  | .int i _=>eqV (.int i) x
  | .str z _=>eqV (.str z) x
  | _=>false
theorem eqU_of {x y:V} {u:Value} (r:RelV y u) (f:flatV y=true):eqU x u=eqV y x:=by
  cases y with
  | non=>cases r; rfl
  | bl b=>cases r; rfl
  | int i=>obtain ⟨t,rfl⟩:=r; rfl
  | str z=>obtain ⟨t,rfl⟩:=r; rfl
  | _=>exact absurd (show false=true from f) Bool.false_ne_true
theorem any_eqU {x:V}:∀ {xs:List V} {us:List Value},Vals xs us→xs.all flatV=true→us.any (eqU x)=xs.any fun y=>eqV y x
  | _,_,.nil,_=>rfl
  | y::xs,u::us,.cons r t,f=>by
    rw [List.all_cons,Bool.and_eq_true] at f
    rw [List.any_cons,List.any_cons,eqU_of r f.1,any_eqU t f.2]
theorem mem_eqAt {A:Around} {s:Shared} {x:V} {v:Value} (rx:RelV x v) (fx:flatV x=true):∀ {xs:List V} {us:List Value},Vals xs us→xs.all flatV=true→∀ u∈us,SeqAt.EqAt A s u v (eqU x u)
  | _,_,.nil,_=>fun u hu=>by cases hu
  | y::xs,u::us,.cons r t,f=>fun u' hu=>by
    rw [List.all_cons,Bool.and_eq_true] at f
    rcases List.mem_cons.mp hu with rfl | hu
    · rw [eqU_of r f.1]; exact eqAt_V r rx f.1 fx
    · exact mem_eqAt rx fx t f.2 u' hu
def inV (x:V) (xs:List V):Bool:=xs.any fun y=>eqV y x
def rIn (K:PySem.W.Frag) (neg:Bool):R2:=fun x y H Q=>∃ p xs,y=.ref p∧(SqL K H p xs∨SqT K H p xs)∧flatV x=true∧xs.all flatV=true∧Q (.bl (if neg then !inV x xs else inV x xs)) H
theorem op_notIn_seq:OpR X (compareOp .NotIn) (rIn X.K true):=by
  intro pins s σ H x y v u Q I rx ry h
  obtain ⟨p,xs,rfl,hq,fx,fs,q⟩:=h
  cases ry
  rcases hq with hq | hq
  · obtain ⟨its,r,pl,hz⟩:=I.list hq
    refine SeqAt.notIn_listAt (eqU x) pl.isList (fun w hw=>mem_eqAt rx fx r fs w (by simpa using hw)) ⟨.bl _,H,I,rfl,?_⟩
    rw [show its.toArray.any (eqU x)=its.any (eqU x) by simp,any_eqU r fs]
    exact q
  · obtain ⟨its,r,pl,hz⟩:=I.tuple hq
    refine SeqAt.notIn_tupleAt (eqU x) pl (fun w hw=>mem_eqAt rx fx r fs w (by simpa using hw)) ⟨.bl _,H,I,rfl,?_⟩
    rw [show its.toArray.any (eqU x)=its.any (eqU x) by simp,any_eqU r fs]
    exact q
theorem call_list_of:CallR X (.type "list") (fun xs H Q=>∃ p ys,xs=[.ref p]∧(SqL X.K H p ys∨SqT X.K H p ys)∧∀ l,H l=none→Q (.ref l) (upd H l (.lst ys))):=by
  intro pins s σ H xs us Q I r h
  obtain ⟨p,ys,rfl,hq,q⟩:=h
  obtain ⟨u,rfl,rx⟩:=vals1 r
  cases rx
  have fin:∀ (its:List Value),Vals ys its→ys.length≤sizeLine→∀ (h':Heap) (c':Nat),(∀ b o',s.heap.get? b=some o'→h'.get? b=some o') →
      h'.get? s.heap.objs.size=some { cls:=.type "list",dict:=none,data:=.seq its.toArray c',slots:=#[] }→EP X pins σ Q (.ref s.heap.objs.size) { s with heap:=h' }:=fun its r' hz h' c' kp e =>
    ⟨.ref s.heap.objs.size,_,I.laid (t':=s.toks) kp (Nat.le_refl _) (show ObjOk X.prog X.w _ h' _ (.lst ys) from ⟨hz,its,c',r',e⟩),rfl,q _ (I.hok.fresh (Nat.le_refl _))⟩
  rcases hq with hq | hq
  · obtain ⟨its,r',pl,hz⟩:=I.list hq
    have hlen:=r'.length
    obtain ⟨o,ho,hc,n,hd⟩:=pl.isList
    exact call_list_seq p (.inl rfl) ho hc hd (fun h' c' kp e=>fin its r' hz h' c' kp e) (by simp only [List.size_toArray] <;> omega)
  · obtain ⟨its,r',pl,hz⟩:=I.tuple hq
    have hlen:=r'.length
    obtain ⟨o,ho,hc,n,hd⟩:=pl
    exact call_list_seq p (.inr rfl) ho hc hd (fun h' c' kp e=>fin its r' hz h' c' kp e) (by simp only [List.size_toArray] <;> omega)
theorem call_tuple_of:CallR X (.type "tuple") (fun xs H Q=>∃ p ys,xs=[.ref p]∧((SqL X.K H p ys∧∀ l,H l=none→Q (.ref l) (upd H l (.tup ys)))∨(SqT X.K H p ys∧Q (.ref p) H))):=by
  intro pins s σ H xs us Q I r h
  obtain ⟨p,ys,rfl,h⟩:=h
  obtain ⟨u,rfl,rx⟩:=vals1 r
  cases rx
  rcases h with ⟨hq,q⟩ | ⟨hq,q⟩
  · obtain ⟨its,r',pl,hz⟩:=I.list hq
    have hlen:=r'.length
    refine call_tuple_list pl.isList (fun h' kp=>?_) (by simp only [List.size_toArray] <;> omega)
    have I1:Inv X pins σ H { s with heap:=h' }:=I.kept (t':=s.toks) kp
    have I2:Inv X pins σ (upd H h'.objs.size (.tup ys)) { s with heap:=h'.push { cls:=.type "tuple",data:=.seq its.toArray } } :=
      I1.laid (t':=s.toks) (fun b o e=>Heap.get?_push_of_some _ e) (Nat.le_refl _) (show ObjOk X.prog X.w _ _ _ (.tup ys) from ⟨⟨hz,_,Heap.get?_push_size _ rfl,rfl⟩,its,r',IsTup.new _ _⟩)
    exact ⟨.ref h'.objs.size,_,I2,rfl,q _ (I1.hok.fresh (Nat.le_refl _))⟩
  · obtain ⟨its,r',pl,hz⟩:=I.tuple hq
    exact call_tuple_same pl ⟨.ref p,H,I,rfl,q⟩
def tyV (K:PySem.W.Frag) (T:String) (x:V) (H:Hp):Prop:=match x with
  | .str _=>T = "str"
  | .int _=>T = "int"
  | .ref p=>(T = "list" ∧ ∃ xs,SqL K H p xs)∨(T = "tuple" ∧ ((∃ o,K.lookup p=some o∧o.cls=.type "tuple" ∧ o.dict=none)∨∃ xs,H p=some (.tup xs))) ∨
      (T = "dict" ∧ ((∃ kvs,H p=some (.dK kvs))∨∃ kvs,H p=some (.dT kvs)))∨(T = "set" ∧ ∃ S n,H p=some (.set S n))
  | _=>False
theorem tyV_is {pins:List (Addr × Obj)} {σ:St} {H:Hp} {s:Shared} {T:String} {x:V} {v:Value} (I:Inv X pins σ H s) (r:RelV x v) (ty:tyV X.K T x H) :
    s.TypeIs v T∧∀ a,v=.ref a→∃ ob,s.heap.get? a=some ob∧ob.dict=none:=by
  cases x with
  | str z =>
    obtain ⟨t,rfl⟩:=r
    cases (show T = "str" from ty)
    exact ⟨typeIs_str s z t,fun _ e=>nomatch e⟩
  | int i =>
    obtain ⟨t,rfl⟩:=r
    cases (show T = "int" from ty)
    exact ⟨typeIs_int s i t,fun _ e=>nomatch e⟩
  | ref p =>
    cases r
    rcases ty with ⟨rfl,xs,hq⟩ | ⟨rfl,⟨o,hk,hc,hd⟩ | ⟨xs,hq⟩⟩ | ⟨rfl,hk⟩ | ⟨rfl,S,n,hk⟩
    · obtain ⟨its,_,pl,_⟩:=I.list hq
      refine ⟨pl.isList.typeIs,fun a e=>?_⟩
      cases e
      obtain ⟨o,n,e,c,hd,_⟩:=pl
      exact ⟨o,e,hd⟩
    · refine ⟨⟨o,I.kIn p o hk,hc⟩,fun a e=>?_⟩
      cases e
      exact ⟨o,I.kIn _ o hk,hd⟩
    · obtain ⟨⟨_,on,en,dn⟩,_,_,o,e1,e2,_⟩:=(show ObjOk X.prog X.w H s.heap p (.tup xs) from I.hok p _ hq)
      refine ⟨⟨o,e1,e2⟩,fun a e=>?_⟩
      cases e
      exact ⟨on,en,dn⟩
    · have z:∃ o,s.heap.get? p=some o∧o.ExactDict:=by
        rcases hk with ⟨kvs,hk⟩ | ⟨kvs,hk⟩
        · obtain ⟨_,_,_,_,o,_,_,e,ex,_⟩:=I.hok p _ hk
          exact ⟨o,e,ex⟩
        · obtain ⟨_,_,_,_,o,_,_,e,ex,_⟩:=I.hok p _ hk
          exact ⟨o,e,ex⟩
      obtain ⟨o,e,ex⟩:=z
      refine ⟨⟨o,e,ex.1⟩,fun a e2=>?_⟩
      cases e2
      exact ⟨o,e,ex.2.1⟩
    · obtain ⟨o,_,_,_,e,ex,_⟩:=I.hok p _ hk
      refine ⟨⟨o,e,ex.1⟩,fun a e2=>?_⟩
      cases e2
      exact ⟨o,e,ex.2.1⟩
  | _=>exact False.elim ty
def tBM (K:PySem.W.Frag) (T:String) (r:V→List V→Hp→VK→Prop) (to:TE) (t:TA):TE:=fun σ H Q=>to σ H fun x H1=>tyV K T x H1∧t σ H1 fun xs H2=>r x xs H2 Q
variable {o e:Expr} {es:List Expr} {to:TE} {t:TA} {name:Str} {apos cpos:Pos} {T id:String} {r:V→List V→Hp→VK→Prop}
theorem pe_bm (pa:PlainAttrs T) (slot:Slot T name id) (hty:typeOf (.builtin id)=pure (.type "method_descriptor")) (hm:MtR X id r) (ho:PE X o to) (ha:PA X (e::es) t)
    (hbase:attributeBase o name X.env (eval o X.env)=eval o X.env:=by rfl)
    (hfew:((backTo cpos (starEach (e::es) X.env)).all (fun x=>!x.1)&&(backToKw cpos (keywordEach [] X.env)).all (fun x=>x.1.isSome)
      && decide ((e::es).length+([]:List Keyword).length+(if ([]:List Keyword).isEmpty then 0 else 1)<30))=true:=by rfl)
    (hline:(apos.endLine == cpos.line)=true:=by rfl) (hs:starEach (e::es) X.env=(false,eval e X.env)::starEach es X.env:=by rfl) (hplain:(backTo cpos (starEach es X.env)).any (·.1)=false:=by rfl) :
    PE X (.Call (.Attribute o name apos) (e::es) [] cpos) (tBM X.K T r to t):=by
  intro pins s σ H Q I h
  refine wpAny_Call_method_late hbase hfew hline rfl (thn (ho pins s σ H _ I h) fun v s1 ⟨x,H1,I1,r1,ty,q1⟩=>?_)
  obtain ⟨h1,h2⟩:=tyV_is I1 r1 ty
  refine ⟨T,id,pa,slot,hty,h1,h2,?_⟩
  have hA:=ha cpos pins s1 σ H1 _ I1 q1
  rw [hs] at hA ⊢
  refine Calls.callWith_builtin (by show (false || (backTo cpos (starEach es X.env)).any (·.1))=false; rw [hplain] <;> rfl) (Calls.evalArgs_plain ?_)
  exact thn hA fun us s2 ⟨vs,H2,I2,r2,q2⟩=>hm pins s2 σ H2 x vs v us Q I2 r1 r2 q2
/- xs.append(e),list.index on a module's tuple .. are MtR facts of 06m -/
end
end L2
namespace L2
open PySem PySem.Spec PyProof.Rows
def MtM (X:Cx) (id:String) (r:V→List V→Hp→VK→Prop):Prop :=
  ∀ (pins:List (Addr × Obj)) (s:Shared) (σ:St) (H:Hp) (x:V) (xs:List V) (v:Value) (us:List Value) (Q:VK),Inv X pins σ H s→RelV x v→Vals xs us→r x xs H Q →
    wpAny (model X.prog X.w) X.A (call (.builtin id) (v::us)) (EP X pins σ Q) X.xe s
theorem Vals.one:∀ {x:V} {us:List Value},Vals [x] us→∃ u,us=[u]∧RelV x u
  | _,_,.cons r .nil=>⟨_,rfl,r⟩
theorem Vals.rep {xs:List V} {us:List Value} (h:Vals xs us):∀ k:Nat,Vals (List.replicate k xs).flatten (List.replicate k us).flatten
  | 0=>.nil
  | k+1=>by
    rw [List.replicate_succ,List.replicate_succ,List.flatten_cons,List.flatten_cons]
    exact Vals.append h (Vals.rep h k)
theorem foldl_rep (its:List Value):∀ (k:Nat) (acc:List Value),
    List.foldl (fun x1 x2=>x1++x2) acc.toArray (List.replicate k its.toArray)=(acc++(List.replicate k its).flatten).toArray
  | 0,acc=>by simp
  | k+1,acc=>by
    have e:acc.toArray++its.toArray=(acc++its).toArray:=by simp
    have e2:(acc++its)++(List.replicate k its).flatten=acc++(List.replicate (k+1) its).flatten:=by
      rw [List.replicate_succ,List.flatten_cons,List.append_assoc]
    rw [← e2,← foldl_rep its k (acc++its),← e,List.replicate_succ,List.foldl_cons]
section
variable {X:Cx} {pins:List (Addr × Obj)} {σ:St} {H:Hp} {s:Shared} {l b:Addr} {xs ys zs:List V}
theorem Inv.lset {its its':List Value} {n:Nat} {f:Array Value→Array Value} {t':Nat} (I:Inv X pins σ H s) (hH:H l=some (.lst xs))
    (e:s.heap.get? l=some { cls:=.type "list",data:=.seq its.toArray n }) (hf:f its.toArray=its'.toArray) (hv:Vals ys its') (hz:ys.length≤sizeLine) :
    Inv X pins σ (upd H l (.lst ys)) { s with heap:=s.heap.update l (Obj.mapSeq f),toks:=t' }:=by
  have q:=PySem.IsL.update e f
  rw [hf] at q
  refine I.write (x:=l) (e:=l) (by rw [hH]; exact trivial) (.inl rfl) (fun b' u hb hu=>(Heap.get?_update_other s.heap (Obj.mapSeq f) (Ne.symm hb)).trans hu) ⟨_,q⟩ ?_
  exact ⟨hz,its',_,hv,q⟩
theorem Inv.lnew {its:List Value} {t':Nat} (I:Inv X pins σ H s) (hv:Vals ys its) (hz:ys.length≤sizeLine) :
    Inv X pins σ (upd H s.heap.objs.size (.lst ys)) { s with heap:=s.heap.push { cls:=.type "list",data:=.seq its.toArray },toks:=t' } :=
  I.laid (fun _ _ q=>Heap.get?_push_of_some _ q) (Nat.le_refl _) ⟨hz,its,0,hv,Heap.get?_push_size _ rfl⟩
theorem Inv.fresh (I:Inv X pins σ H s):H s.heap.objs.size=none:=I.hok.fresh (Nat.le_refl _)
theorem Inv.lstM (I:Inv X pins σ H s) (hH:H l=some (.lst xs)):xs.length≤sizeLine∧∃ (its:List Value) (n:Nat),Vals xs its∧xs.length=its.length∧s.heap.get? l=some { cls:=.type "list",data:=.seq its.toArray n }:=by
  obtain ⟨z,its,n,r,e⟩:=I.hok l _ hH
  exact ⟨z,its,n,r,r.length,e⟩
theorem notLongL {n:Nat} (h:n≤sizeLine):Builtin.List.listTooLong n=false:=by
  unfold Builtin.List.listTooLong
  exact decide_eq_false (by omega)
end
section
variable {X:Cx}
def rAppend:V→List V→Hp→VK→Prop:=fun x vs H Q=>∃ l xs y,x=.ref l∧vs=[y]∧H l=some (.lst xs)∧xs.length<sizeLine∧Q .non (upd H l (.lst (xs++[y])))
theorem mt_append:MtM X "list.append" rAppend:=by
  intro pins s σ H x vs v us Q I rx rv h
  obtain ⟨l,xs,y,rfl,rfl,hH,hz,q⟩:=h
  cases rx
  obtain ⟨u,rfl,ru⟩:=rv.one
  obtain ⟨z,its,n,r,hl,e⟩:=I.lstM hH
  refine call_meets F.slot_list_append ⟨_,e,rfl⟩ F.entry_list_append (F.args_list_append_2 _ _) (PySem.list_append l its.toArray n u (by rw [List.size_toArray]; omega)) ⟨e,?_⟩
  refine ⟨.non,_,I.lset (its':=its++[u]) hH e (by simp) (r.append (.cons ru .nil)) ?_,rfl,q⟩
  rw [List.length_append,List.length_singleton]
  omega
def rExtend:V→List V→Hp→VK→Prop:=fun x vs H Q=>∃ l b xs zs,x=.ref l∧vs=[.ref b]∧H l=some (.lst xs)∧H b=some (.lst zs)∧xs.length+zs.length≤sizeLine∧Q .non (upd H l (.lst (xs++zs)))
theorem mt_extend:MtM X "list.extend" rExtend:=by
  intro pins s σ H x vs v us Q I rx rv h
  obtain ⟨l,b,xs,zs,rfl,rfl,hH,hB,hz,q⟩:=h
  cases rx
  obtain ⟨u,rfl,ru⟩:=rv.one
  cases ru
  obtain ⟨z,its,n,r,hl,e⟩:=I.lstM hH
  obtain ⟨z2,its2,n2,r2,hl2,e2⟩:=I.lstM hB
  have hsz:its.toArray.size+its2.toArray.size≤sizeLine:=by rw [List.size_toArray,List.size_toArray]; omega
  have hlong:¬ (!its.toArray.isEmpty&&Builtin.List.listTooLong (its.toArray.size+its2.toArray.size))=true:=by
    rw [notLongL hsz,Bool.and_false]
    exact Bool.false_ne_true
  refine call_meets F.slot_list_extend ⟨_,e,rfl⟩ F.entry_list_extend (F.args_list_extend_2 _ _)
    (AutoSeq1.list_extend_list_list_0 l its.toArray n b its2.toArray n2 hlong (by rw [List.size_toArray]; omega) (by omega)) ⟨e,e2,?_⟩
  refine ⟨.non,_,I.lset (its':=its++its2) hH e (by simp) (r.append r2) ?_,rfl,q⟩
  rw [List.length_append]
  omega
def rCat:R2:=fun x y H Q=>∃ l b xs zs,x=.ref l∧y=.ref b∧H l=some (.lst xs)∧H b=some (.lst zs)∧xs.length+zs.length≤sizeLine∧∀ p,H p=none→Q (.ref p) (upd H p (.lst (xs++zs)))
theorem op_cat:OpR X (binaryOp .Add) rCat:=by
  intro pins s σ H x y v u Q I rx ry h
  obtain ⟨l,b,xs,zs,rfl,rfl,hH,hB,hz,q⟩:=h
  cases rx
  cases ry
  obtain ⟨z,its,n,r,hl,e⟩:=I.lstM hH
  obtain ⟨z2,its2,n2,r2,hl2,e2⟩:=I.lstM hB
  refine PySem.P.add_list e e2 ?_ (by rw [List.size_toArray,List.size_toArray]; omega)
  have ea:its.toArray++its2.toArray=(its++its2).toArray:=by simp
  rw [ea]
  exact ⟨.ref _,_,I.lnew (t':=s.toks) (r.append r2) (by rw [List.length_append]; omega),rfl,q _ I.fresh⟩
def rRep:R2:=fun x y H Q=>∃ l k xs,x=.ref l∧y=.int k∧H l=some (.lst xs)∧-(2^63)≤k∧k<2^63∧xs.length*k.toNat≤sizeLine ∧
  ∀ p,H p=none→Q (.ref p) (upd H p (.lst (List.replicate k.toNat xs).flatten))
theorem len_rep {α:Type} (xs:List α) (k:Nat):(List.replicate k xs).flatten.length=k*xs.length:=by
  induction k with
  | zero=>simp
  | succ k ih=>rw [List.replicate_succ,List.flatten_cons,List.length_append,ih,Nat.succ_mul,Nat.add_comm]
theorem op_rep:OpR X (binaryOp .Mult) rRep:=by
  intro pins s σ H x y v u Q I rx ry h
  obtain ⟨l,k,xs,rfl,rfl,hH,h1,h2,hz,q⟩:=h
  cases rx
  obtain ⟨t,rfl⟩:=ry
  obtain ⟨z,its,n,r,hl,e⟩:=I.lstM hH
  have hlen:its.toArray.size*k.toNat≤sizeLine:=by rw [List.size_toArray,← hl]; exact hz
  have hcap:¬ its.toArray.size*k.toNat > (2^63 - 1) / 8:=by
    have:(sizeLine:Nat)≤(2^63 - 1) / 8:=by decide
    omega
  have hfit:¬ (!Builtin.List.listFitsIndex k)=true:=by
    rw [fitsIndex_both h1 h2]
    exact Bool.false_ne_true
  have hlong:¬ Builtin.List.listTooLong (its.toArray.size*k.toNat)=true:=by
    rw [notLongL hlen]
    exact Bool.false_ne_true
  have hnew:List.foldl (fun x1 x2=>x1++x2) #[] (List.replicate (if its.toArray.isEmpty=true then 0 else k.toNat) its.toArray)=(List.replicate k.toNat its).flatten.toArray:=by
    have f0:∀ m:Nat,List.foldl (fun x1 x2=>x1++x2) #[] (List.replicate m its.toArray)=(List.replicate m its).flatten.toArray:=fun m=>by
      have:=foldl_rep its m []
      rw [List.nil_append] at this
      exact this
    rw [f0]
    cases its with
    | nil=>simp
    | cons a r'=>rw [if_neg (by simp)]
  refine wpAny_binaryOp_repeat_ref (T := "list") (U := "int") (by decide) ⟨_,e,rfl⟩ (fun s'=>typeIs_int s' k t) noFill_list_mul F.fills_int_mul F.slot_int_rmul repeat_list F.slot_int_index.lookup
    (call_meets F.slot_int_rmul (typeIs_int s k t) F.entry_int_rmul (F.args_int_rmul_2 _ _) (int___rmul___int_list k t l its.toArray n)
      ⟨e,rfl,⟨_,e,rfl⟩,call_meets F.slot_list_mul ⟨_,e,rfl⟩ F.entry_list_mul (F.args_list_mul_2 _ _) (AutoListH.list___mul___list_int_3 l its.toArray n k t hfit hcap hlong) ⟨e,?_⟩⟩)
  rw [hnew]
  exact ⟨.ref _,_,I.lnew (t':=s.toks) (r.rep k.toNat) (by rw [len_rep,Nat.mul_comm]; exact hz),rfl,q _ I.fresh⟩
end
section
variable {prog:Program} {w:World} {A:Around} {E:Value→Shared→Prop} {s:Shared}
end
section
variable {X:Cx}
end
end L2
namespace Att
open PySem PySem.W PySem.Calls PyProof.Rows
theorem ints_of_wellAll {P:Params} {h:Heap}:∀ (ns:List Int) (vs:List Value),WellAll P h vs (ns.map WData.int)→IntsAre vs ns:=by
  intro ns
  induction ns with
  | nil =>
    intro vs w
    rw [List.map_nil] at w
    cases w
    exact .nil
  | cons n ns ih =>
    intro vs w
    rw [List.map_cons] at w
    cases w with
    | cons a b =>
      cases a
      exact .cons _ _ (ih _ b)
theorem script_of {l:OpenLaw} {n:Nat} (hn:l.most=some n) {P:Params} {h:Heap} {args:List WData} {vals:List Value}
    (hpre:l.row.toRowW.claim.pre args=true) (hwl:WellAll P h vals args) :
    ∃ a vs ns,vals=[Value.ref a]∧args=[WData.list (ns.map WData.int)]∧h.get? a=some { cls:=.type "list",data:=.seq vs.toArray }∧IntsAre vs ns∧ns.length≤n:=by
  have hsh:WShape.hasAll [] args [.list .int]=true:=(pre_splitW hpre).1
  have hc:l.pre.holds [] { args:=args }=true:=(pre_splitW hpre).2
  obtain ⟨d,r,rfl,h1,h2⟩:=hasAllW_cons hsh
  obtain rfl:=hasAllW_nil h2
  obtain ⟨xs,rfl,h3⟩:=hasW_list h1
  obtain ⟨ns,rfl⟩:=items_int h3
  have hlen:ns.length≤n:=by
    unfold OpenLaw.pre at hc
    have h4:(WTm.not (.lt (.lit (.int (n:Int))) (.len (.arg 0)))).holds [] { args:=[.list (ns.map .int)] }=true:=by
      have h4:=(holds_andW hc).1
      rw [hn] at h4
      exact h4
    have h5:=condW_of h4 (w_not (w_lt w_lit (w_len_list (w_arg rfl))))
    rw [List.length_map] at h5
    refine Nat.le_of_not_lt fun q=>?_
    have q':(n:Int)<((ns.length:Nat):Int):=by omega
    first
      | (rw [decide_eq_true q'] at h5; exact absurd h5 (by decide))
      | (simp at h5; omega)
  cases hwl with
  | cons w1 w2 =>
    cases w2
    cases w1 with
    | list ho hall=>exact ⟨_,_,ns,rfl,rfl,ho,ints_of_wellAll ns _ hall,hlen⟩
theorem post_true (l:OpenLaw) (args:List WData):l.row.toRowW.claim.post args (.bool true) args=true :=
  postW_of (r:=l.row.toRowW) (X:=(true == true))
    (show WShape.has [] (.bool true) .bool=true by first | rfl | decide | simp [WShape.has,WShape.arms,WShape.armsAll])
    (show (WTm.eq .res (.lit (.bool true))).value [] { args:=args,res:=some (.bool true),after:=args }=some (.bool (true == true)) from w_eq_bool (w_res rfl) w_lit) rfl
theorem attach_call {l:OpenLaw} {n:Nat} {q:Program} {loose:List Str} {XP:(Str→Option Value)→Heap→Prop} {YP:World→Heap→Prop} {d:DefRec}
    (hn:l.most=some n) (hdf:d.params.defaults=[])
    (call:∀ (w:World) (s₀ s₁:Shared) (mg mb:Str→Option Value) (fa:Addr) (o:Obj) (pm cd doc:Value) (a:Addr) (vs:List Value) (ns:List Int),
      Ground q loose [] XP w s₀ mg mb s₁.heap→YP w s₁.heap →
      s₁.heap.get? fa=some o→o.data=.func (docDef d.name d.params d.body d.scope pm cd doc)→s₁.heap.CodeRec cd d.name→mg d.name=some (.ref fa) →
      s₁.heap.get? a=some { cls:=.type "list",data:=.seq vs.toArray }→IntsAre vs ns→ns.length≤n→s₁.gens=#[] →
      codeAny (model l.prog w) callerA (.call (.ref fa) ⟨[.ref a],[]⟩) (fun r s'=>r=.ok (.ret (.bool true))∧OldK s₁.heap s'.heap∧s'.os=s₁.os∧AllBare s'.gens) s₁) :
    WalkO q loose XP YP l.row.toRowW d [] (fun f vs=>PySem.call f vs):=by
  intro w s₀ s₁ mg mb G Y fa o pm cd doc dV kV ho hd hcd hD hmg hg args vals as hpre hlay hrd hwl hlo
  obtain rfl:dV=.none:=Dflts.none hD hdf
  obtain rfl:kV=.none:=Dflts.noKw hD
  obtain ⟨a,vs,ns,rfl,rfl,hobj,hints,hlen⟩:=script_of hn hpre hwl
  refine enter_call (codeAny_mono (call w s₀ s₁ mg mb fa o pm cd doc a vs ns G Y ho (fd_plain hd) hcd hmg hobj hints hlen hg) fun r s' hq=>?_)
  obtain ⟨rfl,h2,h3,h4⟩:=hq
  exact ⟨.inl ⟨.bool true,.bool true,[],rfl,fun _=>rfl,.bool true,post_true l _,fun _=>⟨List.Pairwise.nil,fun _ hm=>(nomatch hm)⟩⟩,h2,h3,h4⟩
section
variable {prog:Program} {w:World} {A:Around} {E:Value→Shared→Prop} {s:Shared} {K:Frag}
end
end Att
namespace L2
open PySem PySem.Spec PyProof.Rows
theorem vals_ints:∀ {vs:List Value} {ns:List Int},IntsAre vs ns→Vals (ns.map V.int) vs
  | _,_,.nil=>.nil
  | _,_,.cons n t h=>.cons ⟨t,rfl⟩ (vals_ints h)
def Only (H:Hp):Prop:=∀ b,H b=none∨∃ o xs,H b=some (.frz o (.lst xs))
theorem law_call {P:Program} {w:World} {K:PySem.W.Frag} {mg mb:Str→Option Value} {CX:CXT} {k:Nat} {fa a:Addr} {fd:FuncData} {x:Str} {sp:Sp} {s₁:Shared} {vs:List Value} {ns:List Int}
    (KX:K.In s₁.heap) (hns:s₁.heap.Ns mainGlobals mg) (hb:s₁.heap.Ns builtinsNs mb) (hbb:∀ x:Str,x ≠ "__name__" → mb x=bootBuiltins x) (hlim:s₁.heap.NoLimit) (hg:s₁.gens=#[])
    (ha:s₁.heap.get? a=some { cls:=.type "list",data:=.seq vs.toArray }) (hi:IntsAre vs ns) (hl:ns.length≤sizeLine) (hr:Room k callerA)
    (F:∀ base:Heap,K.In base→base.Ns mainGlobals mg→FnOk P w K mg base CX k fa fd [x] sp) (hbind:∀ (s:Shared) (u:Value),BindsTo s fd ⟨[u],[]⟩ [(x,u)])
    (hsp:∀ H:Hp,Only H→SqL K H a (ns.map V.int)→sp [.ref a] H (fun v _=>v=.bl true) fun _ _ _=>False)
    (hCX:∀ H e s',CX [] H s₁ (fun _ _ _=>False) e s'→False) :
    codeAny (model P w) callerA (.call (.ref fa) ⟨[.ref a],[]⟩) (fun r s'=>r=.ok (.ret (.bool true))∧OldK s₁.heap s'.heap∧s'.os=s₁.os∧AllBare s'.gens) s₁:=by
  have rv:=vals_ints hi
  have lenV:=hi.length
  have core:∀ H:Hp,Only H→SqL K H a (ns.map V.int)→HOk P w H s₁.heap→(∀ b,H b≠none→b=a)→(H a≠none→K.lookup a=none) →
      codeAny (model P w) callerA (.call (.ref fa) ⟨[.ref a],[]⟩) (fun r s'=>r=.ok (.ret (.bool true))∧OldK s₁.heap s'.heap∧s'.os=s₁.os∧AllBare s'.gens) s₁:=by
    intro H hO hS hok hA hK
    have base_of:∀ {b:Addr} {o:Obj},s₁.heap.get? b=some o→H b=none→(hidT s₁.heap H).get? b=some o:=fun e n=>hidT_get e n
    have noA:∀ {b:Addr} {o:Obj} {es:Array DictEntry} {ep:Nat},s₁.heap.get? b=some o→o.data=.dict es ep→H b=none:=fun {b o es ep} e d=>by
      cases q:H b with
      | none=>rfl
      | some u =>
        have e':b=a:=hA b (by rw [q]; simp)
        subst e'
        rw [ha] at e; cases e
        have d':Data.seq vs.toArray _=Data.dict es ep:=d
        cases d'
    have nsK:∀ {b:Addr} {m:Str→Option Value},s₁.heap.Ns b m→(hidT s₁.heap H).Ns b m:=fun {b m} ⟨o,es,ep,e,d,r⟩=>⟨o,es,ep,base_of e (noA e d),d,r⟩
    have hKb:K.In (hidT s₁.heap H):=fun b o e=>base_of (KX b o e) (by
      cases q:H b with
      | none=>rfl
      | some u =>
        have e':b=a:=hA b (by rw [q]; simp)
        subst e'
        rw [hK (by rw [q]; simp)] at e; cases e)
    have hM:Mod K mg (hidT s₁.heap H):=⟨hKb,nsK hns,⟨mb,nsK hb,hbb⟩,let ⟨mc,h1,h2⟩:=hlim; ⟨mc,nsK h1,h2⟩⟩
    have e0:Env0 P w K mg (hidT s₁.heap H) callerA [] s₁ H:=⟨rfl,hM,fun b o e=>of_hidT e,Nat.le_of_eq (hidT_size _ _),trivial,fun b hb=>absurd (show b∈([]:List Addr) from hb) (by simp),hok,.of_eq hg⟩
    refine codeAny_mono ((F _ hKb (nsK hns)).run callerA [] s₁ H ⟨[.ref a],[]⟩ [.ref a] [.ref a] _ _ hr e0 (hbind s₁ (.ref a)) (.cons rfl .nil) (hsp H hO hS)) fun r s' h=>?_
    cases r with
    | error e=>exact (hCX H e s' h).elim
    | ok fl =>
      cases fl with
      | next=>exact False.elim h
      | brk=>exact False.elim h
      | cont=>exact False.elim h
      | ret u =>
        obtain ⟨v,H',os,bare,un,hok',r',q⟩:=h
        have q':v=.bl true:=q
        subst q'
        obtain rfl:u=Value.bool true:=r'
        refine ⟨rfl,OldK.of_keep fun b o e=>?_,os,bare⟩
        cases q:H b with
        | none=>exact un.keep b o e q (by intro z; exact absurd (show b∈([]:List Addr) from z) (by simp)) (by simp)
        | some u =>
          rcases hO b with z | ⟨ob,xs,z⟩
          · rw [q] at z; cases z
          · have z2:=un.frzs b ob _ z
            obtain ⟨e1,_⟩:=hok b _ z
            obtain ⟨e2,_⟩:=hok' b _ z2
            rw [e] at e1; cases e1
            exact e2
  cases hk:K.lookup a with
  | some o =>
    have e:=KX a o hk
    rw [ha] at e
    cases e
    refine core (fun _=>none) (fun _=>.inl rfl) (.inr ⟨_,vs.toArray,_,hk,rfl,rfl,rfl,by rw [List.size_toArray,lenV]; exact hl,by simpa using rv⟩) (fun b u z=>by have z':(none:Option HO)=some u:=z; cases z') (fun b z=>absurd rfl z) fun z=>absurd rfl z
  | none =>
    refine core (fun b=>if b=a then some (.frz { cls:=.type "list",data:=.seq vs.toArray } (.lst (ns.map V.int))) else none) (fun b=>?_) (.inl (.inr ⟨{ cls:=.type "list",data:=.seq vs.toArray },if_pos rfl⟩)) (fun b u z=>?_) (fun b z=>?_) fun _=>hk
    · by_cases hb:b=a
      · exact .inr ⟨_,_,if_pos hb⟩
      · exact .inl (if_neg hb)
    · by_cases hb:b=a
      · have z':=(if_pos hb).symm.trans z
        cases z'
        subst hb
        exact ⟨ha,by rw [List.length_map]; exact hl,vs,_,rv,ha⟩
      · have z':=(if_neg hb).symm.trans z
        cases z'
    · by_cases hb:b=a
      · exact hb
      · exact absurd (if_neg hb) z
end L2
namespace L2
open PySem PySem.Spec PyProof.Rows
theorem walk_of {l:PySem.W.OpenLaw} {n k:Nat} {q:Program} {loose:List Str} {XP:(Str→Option Value)→Heap→Prop} {YP:World→Heap→Prop} {d:DefRec} {K:Params→PySem.W.Frag} {CX:World→CXT} {sp:World→Sp} {x:Str}
    (hn:l.most=some n) (hn2:n≤sizeLine) (hdf:d.params.defaults=[]) (hr:Room k callerA)
    (hY:∀ (w:World) (h:Heap),YP w h→(K w.params).In h)
    (F:∀ (w:World) (mg:Str→Option Value) (fa:Addr) (h:Heap),(K w.params).In h→h.Ns mainGlobals mg→mg d.name=some (.ref fa) →
      ∃ fd:FuncData,(∀ (s:Shared) (u:Value),BindsTo s fd ⟨[u],[]⟩ [(x,u)]) ∧
        ∀ base:Heap,(K w.params).In base→base.Ns mainGlobals mg→FnOk l.prog w (K w.params) mg base (CX w) k fa fd [x] (sp w))
    (hsp:∀ (w:World) (H:Hp) (a:Addr) (ns:List Int),ns.length≤n→Only H→SqL (K w.params) H a (ns.map V.int)→sp w [.ref a] H (fun v _=>v=.bl true) fun _ _ _=>False)
    (hCX:∀ (w:World) (H:Hp) (s:Shared) (e:Value) (s':Shared),CX w [] H s (fun _ _ _=>False) e s'→False) :
    PySem.W.WalkO q loose XP YP l.row.toRowW d [] (fun f vs=>PySem.call f vs):=by
  refine Att.attach_call hn hdf fun w s₀ s₁ mg mb fa o pm cd doc a vs ns G Y ho hd hcd hmg hobj hints hlen hg=>?_
  have KX:=hY w _ Y
  obtain ⟨fd,hb,hF⟩:=F w mg fa _ KX G.T.g hmg
  exact law_call KX G.T.g G.T.b G.T.builtins G.T.nolimit hg hobj hints (Nat.le_trans hlen hn2) hr hF hb (fun H hO hS=>hsp w H a ns hlen hO hS) fun H e s'=>hCX w H s₁ e s'
theorem walk_ofK {l:PySem.W.OpenLaw} {n k:Nat} {q:Program} {loose:List Str} {XP:(Str→Option Value)→Heap→Prop} {YP:World→Heap→Prop} {d:DefRec} {K:Params→PySem.W.Frag} {CX:CXT} {sp:PySem.W.Frag→Sp} {x:Str}
    (hn:l.most=some n) (hn2:n≤sizeLine) (hdf:d.params.defaults=[]) (hr:Room k callerA)
    (hY:∀ (w:World) (h:Heap),YP w h→(K w.params).In h)
    (F:∀ (w:World) (mg:Str→Option Value) (fa:Addr) (h:Heap),(K w.params).In h→h.Ns mainGlobals mg→mg d.name=some (.ref fa) →
      ∃ fd:FuncData,(∀ (s:Shared) (u:Value),BindsTo s fd ⟨[u],[]⟩ [(x,u)]) ∧
        ∀ base:Heap,(K w.params).In base→base.Ns mainGlobals mg→FnOk l.prog w (K w.params) mg base CX k fa fd [x] (sp (K w.params)))
    (hsp:∀ (K:PySem.W.Frag) (H:Hp) (a:Addr) (ns:List Int),ns.length≤n→Only H→SqL K H a (ns.map V.int)→sp K [.ref a] H (fun v _=>v=.bl true) fun _ _ _=>False)
    (hCX:∀ (H:Hp) (s:Shared) (e:Value) (s':Shared),CX [] H s (fun _ _ _=>False) e s'→False) :
    PySem.W.WalkO q loose XP YP l.row.toRowW d [] (fun f vs=>PySem.call f vs) :=
  walk_of (K:=K) (CX:=fun _=>CX) (sp:=fun w=>sp (K w.params)) hn hn2 hdf hr hY F (fun w H a ns h1 h2 h3=>hsp (K w.params) H a ns h1 h2 h3) fun _ H s e s'=>hCX H s e s'
end L2
/- THE LAST THEOREM (shape; LID,My.* are yours):
   My.Adr: a structure of the addresses that your layer names (classes,functions); My.Txt K t: a structure (Prop) of the equations over K;
   My.txt_mk:{K} {implicit addresses ..} (e1:nsIn K mainGlobals "law" = some (some (.ref f))) (e2:K.lookup f=some ⟨oc,od,.func (fnOf "law" "law" params body scope dV kV doc pm an cdv ct),sl⟩) (e3:codeIn K cdv "law" = true) .. : ∃ t,My.Txt K t
set_option maxRecDepth 100000 in
set_option maxHeartbeats 0 in
theorem PySem.Challenge.cw_LID_holds : PySem.Challenge.rw_LID.Holds := by
  w_on; o_law; k_head; (case hw=>w_witness2)
  k_fill
  refine L2.walk_of (l:=PySem.Challenge.rw_LID) (n:=63) (k:=40) (x := "script") (CX:=fun w=>..) (sp:=fun _=>My.sp_law) rfl (by decide) rfl ⟨rfl,by decide,by decide⟩ (fun w h Y=>PySem.W.kIn_of Y) ?F ?S ?C
  case F =>
    intro w mg fa h KX G hmg
    have T:∃ t,My.Txt (L2.KOf KX) t:=by
      dsimp only [L2.KOf]                          -- K must stand as «<heap const> w.params» for k_is
      refine' My.txt_mk ?e1 ?e2 ?e3 ..
      (case e1=>PySem.W.k_is)                    -- in the order: a name -> its address -> its object -> its parts
      (case e2=>PySem.W.k_is)
      ..
    obtain ⟨t,T⟩:=T
    have e0:=hmg.symm.trans (PySem.W.mg_of KX G T.law)
    cases e0                                       -- fa is the law's own address
    exact ⟨_,fun s u=>.of_eq rfl,fun base kb nb=>My.law_fn T kb nb⟩     -- if «.of_eq rfl» comes too early: refine' ⟨_,?b,fun base kb nb=>My.law_fn T kb nb⟩; exact fun s u=>.of_eq rfl
  case S=>exact fun w H a ns hl hO hS=>..
  case C=>exact ..
(the tactic k_is has no namespace: write k_is) -/
namespace L2
open PySem PySem.Spec PyProof.Rows
def inClass (s:Stmt) (j:Nat):Stmt:=match s with
  | .ClassDef _ _ _ body _ _ _ _ _ _ _=>body.getD j (.Pass ⟨0,0,0,0⟩)
  | _=>.Pass ⟨0,0,0,0⟩
def defArgs (s:Stmt):Arguments:=match s with
  | .FunctionDef _ a _ _ _ _ _ _ _ _=>a
  | _=>{ posonlyargs:=[],args:=[],vararg:=none,kwonlyargs:=[],kw_defaults:=[],kwarg:=none,defaults:=[] }
def defBody (s:Stmt):List Stmt:=match s with
  | .FunctionDef _ _ b _ _ _ _ _ _ _=>b
  | _=>[]
def defScope (s:Stmt):Scope:=match s with
  | .FunctionDef _ _ _ _ _ _ sc _ _ _=>sc
  | _=>{ kind:=.function,names:=[],isGenerator:=false,isCoroutine:=false }
abbrev CX0:CXT:=fun _ _ _ _ _ _=>False
abbrev E0:XK:=fun _ _ _=>False
theorem pass0 {X:Cx}:Passes CX0 X E0:=fun _ _ _ _ _ _ _ h=>h.elim
structure Fun (K:PySem.W.Frag) (x qual:Str) (st:Stmt) (f:Addr) (fd:FuncData):Prop where
  ex:∃ (oc:Value) (od:Option Addr) (kV doc pm:Value) (an:Option Addr) (cdv ct:Value) (osl:Array (Option Value)),
    fd=PySem.W.fnOf x qual (defArgs st) (defBody st) (defScope st) .none kV doc pm an cdv ct∧K.lookup f=some ⟨oc,od,.func fd,osl⟩∧PySem.W.codeIn K cdv qual=true
  kp:PySem.W.keepIn K (.ref f)=true
section
variable {P:Program} {w:World} {K:PySem.W.Frag} {mg:Str→Option Value} {base:Heap}
theorem Fun.ok {x qual:Str} {st:Stmt} {f:Addr} {fd:FuncData} {N ps:List Str} {k:Nat} {sp:Sp} (F:Fun K x qual st f fd) (S:FnScope N ps (defScope st)) (len:∀ vs H Q E,sp vs H Q E→vs.length=ps.length)
    (hbody:∀ (cdv:Value) (A:Around) (outer:List Env) (s:Shared) (H:Hp) (vs:List V) (Q:VK) (E:XK),Room k (A.deeper (envOfC qual (defScope st) s.heap.objs.size f cdv))→sp vs H Q E →
      ∃ t,PSs (cxOf CX0 P w K mg base N qual (defScope st) f cdv A outer s H E).nox (defBody st) t∧t { nx:=fun _ H'=>Q .non H',rt:=Q } (start N vs) H):FnOk P w K mg base CX0 (k+1) f fd ps sp:=by
  obtain ⟨oc,od,kV,doc,pm,an,cdv,ct,osl,rfl,lk,hcd⟩:=F.ex
  refine fn_of lk hcd S len fun A outer s H vs Q E hr hsp=>?_
  obtain ⟨t,h,q⟩:=hbody cdv A outer s H vs Q E hr hsp
  exact ⟨t,h.nox,q⟩
theorem Fun.binds {x qual:Str} {st:Stmt} {f:Addr} {fd:FuncData} {ps:List Str} (F:Fun K x qual st f fd)
    (h:∀ (kV doc pm:Value) (an:Option Addr) (cdv ct:Value) (us:List Value),us.length=ps.length→bindArgs (PySem.W.fnOf x qual (defArgs st) (defBody st) (defScope st) .none kV doc pm an cdv ct) ⟨us,[]⟩=pure (ps.zip us)):Binds K fd ps []:=by
  obtain ⟨oc,od,kV,doc,pm,an,cdv,ct,osl,rfl,lk,hcd⟩:=F.ex
  exact .all (h kV doc pm an cdv ct)
theorem fun_mk {x qual:Str} {st:Stmt} {f:Addr} {oc:Value} {od an:Option Addr} {osl:Array (Option Value)} {kV doc pm cdv ct:Value} (l:K.lookup f=some ⟨oc,od,.func (PySem.W.fnOf x qual (defArgs st) (defBody st) (defScope st) .none kV doc pm an cdv ct),osl⟩)
    (c:PySem.W.codeIn K cdv qual=true) (k:PySem.W.keepIn K (.ref f)=true):Fun K x qual st f (PySem.W.fnOf x qual (defArgs st) (defBody st) (defScope st) .none kV doc pm an cdv ct):=⟨⟨oc,od,kV,doc,pm,an,cdv,ct,osl,rfl,l,c⟩,k⟩
end
theorem small1000 {n:Nat} (h:n≤1000):n<sizeLine:=Nat.lt_of_le_of_lt h (by decide)
section
variable {X:Cx}
theorem pv (i:Nat) {x:Str} {pos:Pos} (hN:X.N[i]?=some x:=by rfl) (hv:Vis X.env.scope x:=by first | exact Or.inl rfl | exact Or.inr (Or.inl rfl) | exact Or.inr (Or.inr rfl)) (hd:(x == ("__debug__" : Str))=false:=by decide)
    (hcd:(x == ("__classdict__" : Str))=false:=by decide):PE X (.Name x pos) (tVar i):=pe_var hN hv hd hcd
end
theorem iteF {A B:Prop} (h:B):if false=true then A else B:=by
  rw [if_neg Bool.false_ne_true]
  exact h
theorem iteT {A B:Prop} (h:A):if true=true then A else B:=by
  rw [if_pos rfl]
  exact h
theorem ite2 {c A B:Prop} [Decidable c] (h1:c→A) (h2:¬ c→B):if c then A else B:=by
  by_cases h:c
  · rw [if_pos h]
    exact h1 h
  · rw [if_neg h]
    exact h2 h
theorem iteNS {c A B:Prop} [Decidable c] (hc:c) (h:B):if (!decide c)=true then A else B:=by
  rw [decide_eq_true hc]
  exact iteF h
def Same (H H':Hp):Prop:=∀ b o,H b=some o→H' b=some o
theorem Same.refl (H:Hp):Same H H:=fun _ _ h=>h
theorem Same.trans {H H1 H2:Hp} (a:Same H H1) (b:Same H1 H2):Same H H2:=fun c o h=>b c o (a c o h)
theorem Same.free {H H':Hp} (e:Same H H') {l:Addr} (h:H' l=Option.none):H l=Option.none:=by
  cases q:H l with
  | none=>rfl
  | some o =>
    rw [e l o q] at h
    cases h
theorem Same.seq {K:PySem.W.Frag} {H H':Hp} {a:Addr} {xs:List V} (e:Same H H') (h:SqL K H a xs):SqL K H' a xs:=by
  rcases h with (h | ⟨o,h⟩) | h
  · exact .inl (.inl (e _ _ h))
  · exact .inl (.inr ⟨o,e _ _ h⟩)
  · exact .inr h
end L2
set_option Elab.async false
set_option linter.all false
set_option maxRecDepth 100000
namespace L2
open PySem PySem.Spec PyProof.Rows
section
variable {κ:Type} [DecidableEq κ]
def valV (kvs:List (κ × V)) (k:κ):Option V:=(kvs.find? fun kv=>decide (kv.1=k)).map (·.2)
def putK (kvs:List (κ × V)) (k:κ) (v:V):List (κ × V) :=
  if (kvs.any fun kv=>decide (kv.1=k))=true then kvs.map (fun kv=>if kv.1=k then (kv.1,v) else kv) else kvs++[(k,v)]
theorem valV_pos {p:κ × V} {r:List (κ × V)} {k:κ} (e:p.1=k):valV (p::r) k=some p.2:=by simp [valV,List.find?_cons,e]
theorem valV_neg {p:κ × V} {r:List (κ × V)} {k:κ} (e:¬ p.1=k):valV (p::r) k=valV r k:=by simp [valV,List.find?_cons,e]
theorem valV_any (k:κ):∀ kvs:List (κ × V),(kvs.any fun kv=>decide (kv.1=k))=(valV kvs k).isSome
  | []=>rfl
  | p::r=>by
    rw [List.any_cons]
    by_cases e:p.1=k
    · simp only [valV_pos e,decide_eq_true e,Bool.true_or,Option.isSome_some]
    · rw [valV_neg e,decide_eq_false e,Bool.false_or]; exact valV_any k r
theorem length_putK (kvs:List (κ × V)) (k:κ) (v:V):(putK kvs k v).length≤kvs.length+1:=by
  unfold putK
  split
  · rw [List.length_map]; omega
  · rw [List.length_append,List.length_cons,List.length_nil]; omega
theorem RelO.isSome_eq {o:Option V} {u:Option Value} (r:RelO o u):o.isSome=u.isSome:=by
  cases o with
  | none=>cases u with
    | none=>rfl
    | some _=>exact (show False from r).elim
  | some _=>cases u with
    | none=>exact (show False from r).elim
    | some _=>rfl
theorem KV.val {kvs:List (κ × V)} {vs:List (κ × Value)} (r:KV kvs vs) (k:κ):RelO (valV kvs k) (valueAt vs k):=by
  unfold KV at r
  induction r with
  | nil=>exact True.intro
  | @cons p q ps qs h t ih =>
    obtain ⟨h1,h2⟩:=h
    by_cases e:p.1=k
    · have e':q.1=k:=h1.symm.trans e
      have b:valueAt (q::qs) k=some q.2:=by simp [valueAt,List.find?_cons,e']
      rw [valV_pos e,b]; exact h2
    · have e':¬ q.1=k:=fun z=>e (h1.trans z)
      have b:valueAt (q::qs) k=valueAt qs k:=by simp [valueAt,List.find?_cons,e']
      rw [valV_neg e,b]; exact ih
theorem KV.any {kvs:List (κ × V)} {vs:List (κ × Value)} (r:KV kvs vs) (k:κ):(kvs.any fun kv=>decide (kv.1=k))=vs.any fun kv=>decide (kv.1=k):=by
  unfold KV at r
  induction r with
  | nil=>rfl
  | cons h t ih=>rw [List.any_cons,List.any_cons,ih,h.1]
theorem KV.repl {kvs:List (κ × V)} {vs:List (κ × Value)} (r:KV kvs vs) (k:κ) {y:V} {u:Value} (ry:RelV y u) :
    KV (kvs.map fun kv=>if kv.1=k then (kv.1,y) else kv) (vs.map fun kv=>if kv.1=k then (kv.1,u) else kv):=by
  unfold KV at r ⊢
  induction r with
  | nil=>exact .nil
  | @cons p q ps qs h t ih =>
    rw [List.map_cons,List.map_cons]
    refine .cons ?_ ih
    obtain ⟨h1,h2⟩:=h
    by_cases e:p.1=k
    · rw [if_pos e,if_pos (h1.symm.trans e)]; exact ⟨h1,ry⟩
    · rw [if_neg e,if_neg (fun z=>e (h1.trans z))]; exact ⟨h1,h2⟩
theorem KV.put {kvs:List (κ × V)} {vs:List (κ × Value)} (r:KV kvs vs) (k:κ) {y:V} {u:Value} (ry:RelV y u):KV (putK kvs k y) (stored vs k u):=by
  unfold putK stored
  rw [r.any k]
  by_cases e:(vs.any fun kv=>decide (kv.1=k))=true
  · rw [if_pos e,if_pos e]; exact r.repl k ry
  · rw [if_neg e,if_neg e]; exact Paired.snoc r ⟨rfl,ry⟩
theorem KV.length {kvs:List (κ × V)} {vs:List (κ × Value)} (r:KV kvs vs):kvs.length=vs.length:=Paired.length r
end
theorem kV_is {P:Program} {w:World} {k:Key} {u:Value} (r:RelV (kV k) u):(mixKind P w).is k u=true:=by
  cases k with
  | inl i=>obtain ⟨t,e⟩:=(show ∃ t,u=Value.int i t from r); subst e; exact mixKind_int P w i t
  | inr x=>obtain ⟨t,e⟩:=(show ∃ t,u=Value.str x t from r); subst e; exact mixKind_str P w x t
theorem items_are {P:Program} {w:World}:∀ {ks:List Key} {us:List Value},Vals (ks.map kV) us→ItemsAre (mixKind P w) ks us
  | [],_,r=>by rw [List.map_nil] at r; cases r; exact .nil
  | k::ks,_,r=>by
    rw [List.map_cons] at r
    cases r with
    | cons h t=>exact .cons (kV_is h) (items_are t)
abbrev KT (H:Hp):List (List Key × V)→List (List Key × Addr × Value)→Prop:=Paired fun p q=>p.1=q.1∧H q.2.1=some (.tup (p.1.map kV))∧RelV p.2 q.2.2
theorem KT.val {H:Hp} {kvs:List (List Key × V)} {xs:List (List Key × Addr × Value)} (r:KT H kvs xs) (k:List Key):RelO (valV kvs k) ((atKey xs k).map (·.2)):=by
  induction r with
  | nil=>exact True.intro
  | @cons p q ps qs h t ih =>
    obtain ⟨h1,_,h2⟩:=h
    by_cases e:p.1=k
    · have e':q.1=k:=h1.symm.trans e
      have b:atKey (q::qs) k=some q.2:=by simp [atKey,List.find?_cons,e']
      rw [valV_pos e,b]; exact h2
    · have e':¬ q.1=k:=fun z=>e (h1.trans z)
      have b:atKey (q::qs) k=atKey qs k:=by simp [atKey,List.find?_cons,e']
      rw [valV_neg e,b]; exact ih
theorem KT.repl {H:Hp} {kvs:List (List Key × V)} {xs:List (List Key × Addr × Value)} (r:KT H kvs xs) (k:List Key) {y:V} {u:Value} (ry:RelV y u) :
    KT H (kvs.map fun kv=>if kv.1=k then (kv.1,y) else kv) (xs.map (putAt k u)):=by
  induction r with
  | nil=>exact .nil
  | @cons p q ps qs h t ih =>
    rw [List.map_cons,List.map_cons]
    refine .cons ?_ ih
    obtain ⟨h1,h2,h3⟩:=h
    unfold putAt
    by_cases e:p.1=k
    · rw [if_pos e,if_pos (h1.symm.trans e)]; exact ⟨h1,h2,ry⟩
    · rw [if_neg e,if_neg (fun z=>e (h1.trans z))]; exact ⟨h1,h2,h3⟩
theorem KT.put {H:Hp} {kvs:List (List Key × V)} {xs:List (List Key × Addr × Value)} (r:KT H kvs xs) (k:List Key) {b:Addr} {y:V} {u:Value} (hb:H b=some (.tup (k.map kV))) (ry:RelV y u) :
    KT H (putK kvs k y) (storedH xs k b u):=by
  have e:(kvs.any fun kv=>decide (kv.1=k))=(atKey xs k).isSome:=by
    rw [valV_any,(r.val k).isSome_eq,Option.isSome_map]
  unfold putK storedH
  rw [e]
  by_cases q:(atKey xs k).isSome=true
  · rw [if_pos q,if_pos q]; exact r.repl k ry
  · rw [if_neg q,if_neg q]; exact Paired.snoc r ⟨rfl,hb,ry⟩
theorem KT.keeps {H H':Hp} {kvs:List (List Key × V)} {xs:List (List Key × Addr × Value)} (r:KT H kvs xs) (ht:∀ b ys,H b=some (.tup ys)→H' b=some (.tup ys)):KT H' kvs xs :=
  Paired.mapP r fun _ _ z=>⟨z.1,ht _ _ z.2.1,z.2.2⟩
section
variable {P:Program} {w:World} {H:Hp} {h:Heap} {a:Addr}
theorem rd_of {u:HO} (ok:HOk P w H h) (e:Rd H a u):ObjOk P w H h a u:=e.ok ok
theorem dk_rd {kvs:List (Key × V)} (ok:HOk P w H h) (e:Rd H a (.dK kvs)):kvs.length≤sizeLine∧(a == sysModules)=false∧∃ vs,KV kvs vs∧h.DictOf (mixKind P w) a vs :=
  show ObjOk P w H h a (.dK kvs) from rd_of ok e
theorem dk_of {kvs:List (Key × V)} (ok:HOk P w H h) (e:H a=some (.dK kvs)):kvs.length≤sizeLine∧(a == sysModules)=false∧∃ vs,KV kvs vs∧h.DictOf (mixKind P w) a vs:=dk_rd ok (.inl e)
theorem key_of {ks:List Key} (ok:HOk P w H h) (e:H a=some (.tup (ks.map kV))):(tupleKind (mixKind P w)).is h ks a:=by
  obtain ⟨_,its,r,o,h1,h2,n,h3⟩:=(show ObjOk P w H h a (.tup (ks.map kV)) from ok a _ e)
  exact ⟨o,its.toArray,n,h1,h2,h3,by simpa using items_are r⟩
theorem dt_rd {kvs:List (List Key × V)} (ok:HOk P w H h) (e:Rd H a (.dT kvs)):kvs.length≤sizeLine∧(a == sysModules)=false ∧
    ∃ xs,KT H kvs xs∧h.DictOfH (tupleKind (mixKind P w)) a xs:=by
  obtain ⟨z,y,xs,r,o,es,ep,h1,h2,h3,h4,h5⟩:=(show ObjOk P w H h a (.dT kvs) from rd_of ok e)
  refine ⟨z,y,xs,r,o,es,ep,h1,h2,h3,h4,fun x hx=>?_,h5⟩
  have all:∀ {l:List (List Key × V)} {m:List (List Key × Addr × Value)},KT H l m→∀ x∈m,(tupleKind (mixKind P w)).is h x.1 x.2.1:=by
    intro l m q
    induction q with
    | nil=>intro x hx; exact nomatch hx
    | @cons p q ps qs hq t ih =>
      intro x hx
      rcases List.mem_cons.mp hx with e | hx
      · subst e
        exact key_of ok (by rw [← hq.1]; exact hq.2.1)
      · exact ih x hx
  exact all r x hx
theorem dt_of {kvs:List (List Key × V)} (ok:HOk P w H h) (e:H a=some (.dT kvs)):kvs.length≤sizeLine∧(a == sysModules)=false ∧
    ∃ xs,KT H kvs xs∧h.DictOfH (tupleKind (mixKind P w)) a xs:=dt_rd ok (.inl e)
end
def DGet (H:Hp) (a:Addr) (y:V) (r:Option V):Prop :=
  (∃ kvs k,Rd H a (.dK kvs)∧y=kV k∧r=valV kvs k)∨∃ kvs k b,Rd H a (.dT kvs)∧y=.ref b∧H b=some (.tup (k.map kV))∧r=valV kvs k
def DPut (H:Hp) (a:Addr) (y v:V) (H':Hp):Prop :=
  (∃ kvs k,H a=some (.dK kvs)∧y=kV k∧kvs.length<sizeLine∧H'=upd H a (.dK (putK kvs k v))) ∨
  ∃ kvs k b,H a=some (.dT kvs)∧y=.ref b∧H b=some (.tup (k.map kV))∧kvs.length<sizeLine∧H'=upd H a (.dT (putK kvs k v))
theorem DGet.k {H:Hp} {a:Addr} {kvs:List (Key × V)} {k:Key} (e:H a=some (.dK kvs)):DGet H a (kV k) (valV kvs k):=.inl ⟨kvs,k,.inl e,rfl,rfl⟩
theorem DPut.k {H:Hp} {a:Addr} {kvs:List (Key × V)} {k:Key} {v:V} (e:H a=some (.dK kvs)) (hl:kvs.length<sizeLine):DPut H a (kV k) v (upd H a (.dK (putK kvs k v))):=.inl ⟨kvs,k,e,rfl,hl,rfl⟩
section
variable {X:Cx} {pins:List (Addr × Obj)} {σ:St} {H:Hp} {s:Shared} {a:Addr} {y v:V} {u r:Value} {o:Option V} {A:Around} {E:Value→Shared→Prop}
theorem Inv.big (I:Inv X pins σ H s):sysModules<s.heap.objs.size:=by
  have h:mainGlobals<s.heap.objs.size:=(I.mod.glob.keeps I.bk).lt
  exact Nat.lt_trans (by decide) h
theorem d_getItem {Q:Value→Shared→Prop} (hu:A.units+1<cLine) (I:Inv X pins σ H s) (g:DGet H a y (some v)) (ry:RelV y u) (h:∀ w' s',Inv X pins σ H s'→RelV v w'→Q w' s') :
    wpAny (model X.prog X.w) A (getItem (.ref a) u) Q E s:=by
  rcases g with ⟨kvs,k,e,ey,l⟩ | ⟨kvs,k,b,e,ey,eb,l⟩
  · subst ey
    obtain ⟨z,hd,vs,rel,dd⟩:=dk_rd I.hok e
    obtain ⟨w',hw,rw'⟩:=RelO.some_of (v:=v) (o:=valueAt vs k) (by rw [l]; exact rel.val k)
    exact wpAny_getItem_of (kV_is ry) dd.mapOf hw (h w' _ (I.tok _) rw')
  · subst ey
    cases (show u=Value.ref b from ry)
    obtain ⟨z,hd,xs,rel,dd⟩:=dt_rd I.hok e
    obtain ⟨w',hw,rw'⟩:=RelO.some_of (v:=v) (o:=(atKey xs k).map (·.2)) (by rw [l]; exact rel.val k)
    obtain ⟨p,hp,hp2⟩:=Option.map_eq_some_iff.mp hw
    refine wpAny_getItem_heap (tupleKind_room_in1 hu) (key_of I.hok eb) dd hp ?_
    rw [hp2]
    exact h w' _ (I.tok _) rw'
theorem d_write {h':Heap} {t':Nat} {ob:HO} (I:Inv X pins σ H s) (mu:Mut (H a)) (hs:Heap.SameBut a s.heap h') (he:∃ q,h'.get? a=some q) (new:ObjOk X.prog X.w (upd H a ob) h' a ob) :
    Inv X pins σ (upd H a ob) { s with heap:=h',toks:=t' } :=
  I.write (x:=a) (e:=a) mu (.inl rfl) (fun b q hb z=>(hs.2 b hb).trans z) he new
theorem dk_new {P:Program} {w:World} {H':Hp} {h':Heap} {kvs:List (Key × V)} {vs:List (Key × Value)} (z:kvs.length≤sizeLine) (hd:(a == sysModules)=false) (rel:KV kvs vs) (dd:h'.DictOf (mixKind P w) a vs) :
    ObjOk P w H' h' a (.dK kvs):=⟨z,hd,vs,rel,dd⟩
theorem d_setItem {H':Hp} {Q:Unit→Shared→Prop} (hu:A.units+1<cLine) (I:Inv X pins σ H s) (g:DPut H a y v H') (ry:RelV y u) (rv:RelV v r) (h:∀ s',Inv X pins σ H' s'→Q () s') :
    wpAny (model X.prog X.w) A (setItem (.ref a) u r) Q E s:=by
  rcases g with ⟨kvs,k,e,ey,l,eH⟩ | ⟨kvs,k,b,e,ey,eb,l,eH⟩
  · subst ey eH
    obtain ⟨z,hd,vs,rel,dd⟩:=dk_of I.hok e
    have hz:vs.length≤sizeLine:=by rw [← rel.length]; exact z
    have hl:(putK kvs k v).length≤sizeLine:=by have:=length_putK kvs k v; omega
    refine wpAny_setItem_pairs (hsz:=hz) (kV_is ry) dd fun h' dd' hs=>h _ ?_
    have he:∃ q,h'.get? a=some q:=let ⟨q,_,_,hq,_⟩:=dd'; ⟨q,hq⟩
    exact d_write I (by rw [e]; exact True.intro) hs he (dk_new hl hd (rel.put k rv) dd')
  · subst ey eH
    cases (show u=Value.ref b from ry)
    obtain ⟨z,hd,xs,rel,dd⟩:=dt_of I.hok e
    have hz:xs.length≤sizeLine:=by rw [← Paired.length rel]; exact z
    have hl:(putK kvs k v).length≤sizeLine:=by have:=length_putK kvs k v; omega
    refine wpAny_setItem_heap (hsz:=hz) (tupleKind_room_in1 hu) (key_of I.hok eb) dd fun h' dd' hs=>h _ ?_
    obtain ⟨q,es,ep,hq,h2,h3,h4,_,h5⟩:=dd'
    refine d_write I (by rw [e]; exact True.intro) hs ⟨q,hq⟩ ⟨hl,hd,_,(rel.put k eb rv).keeps fun c ys ec=>?_,q,es,ep,hq,h2,h3,h4,h5⟩
    rw [upd_ne (ne_of ec e (fun z=>nomatch z))]
    exact ec
end
section
variable {X:Cx} {pins:List (Addr × Obj)} {σ:St} {H:Hp} {s:Shared} {a:Addr} {kvs:List (Key × V)} {k:Key} {u:Value} {A:Around} {E:Value→Shared→Prop}
end
def NoSl (i:Expr):Prop:=∀ ov iv,subscripted i false ov iv=operate [ov,iv] (getItem ov iv)
theorem subD_of {prog:Program} {w:World} {A:Around} {E:Value→Shared→Prop} {s:Shared} {env:Env} {value slice:Expr} {pos:Pos} {T id:String} {Q:Value→Shared→Prop}
    (hl:typeLookup (.type T) "__getitem__" = pure (some (.builtin id))) (hs:NoSl slice)
    (h:wpAny (model prog w) A (eval value env) (fun o s₁=>wpAny (model prog w) A (eval slice env) (fun i s₂=>s₂.TypeIs o T∧wpAny (model prog w) A (getItem o i) Q E s₂) E s₁) E s) :
    wpAny (model prog w) A (eval (.Subscript value slice pos) env) Q E s:=by
  refine Subscript_ (wpAny_mono h (fun o s₁ h₁=>wpAny_mono h₁ (fun i s₂ h₂=>?_) fun _ _ x=>x) fun _ _ x=>x)
  obtain ⟨hT,h₂⟩:=h₂
  unfold subscriptTail
  refine wpAny_bind ?_
  rw [getitemInPython_of_ne hT.not_modules]
  refine wpAny_bind (wpAny_specialOf hT hl ?_)
  have fin:wpAny (model prog w) A (subscripted slice false o i) (fun r s₃=>wpAny (model prog w) A (letTemporaryGo value o r >>= fun _=>pure r) Q E s₃) E s₂:=by
    rw [hs o i]
    exact wpAny_operating (wpAny_mono h₂ (fun r s₃ h₃=>wpAny_bind (wpAny_letTemporaryGo (wpAny_pure h₃))) fun _ _ x=>x)
  first
    | exact wpAny_pure (wpAny_bind fin)
    | exact wpAny_bind (wpAny_pure (wpAny_bind fin))
    | exact wpAny_bind fin
theorem dict_typeIs {X:Cx} {pins:List (Addr × Obj)} {σ:St} {H:Hp} {s:Shared} {a:Addr} {y:V} {o:Option V} (I:Inv X pins σ H s) (g:DGet H a y o):s.TypeIs (.ref a) "dict" := by
  rcases g with ⟨kvs,k,e,_,_⟩ | ⟨kvs,k,b,e,_,_,_⟩
  · obtain ⟨_,_,vs,_,dd⟩:=dk_rd I.hok e
    exact dd.typeIs
  · obtain ⟨_,_,xs,_,dd⟩:=dt_rd I.hok e
    exact dd.typeIs
def tDGet (td ty:TE):TE:=fun σ H Q=>td σ H fun x H1=>ty σ H1 fun y H2=>∃ a v,x=.ref a∧DGet H2 a y (some v)∧Q v H2
def sDPut (td ty tv:TE):TS:=fun D σ H=>tv σ H fun v H1=>td σ H1 fun x H2=>ty σ H2 fun y H3=>∃ a H4,x=.ref a∧DPut H3 a y v H4∧D.nx σ H4
section
variable {X:Cx} {o i e value:Expr} {pos pos' tpos:Pos} {td ty tv:TE}
theorem pe_dget (hu:X.A.units+1<cLine) (ho:PE X o td) (hi:PE X i ty) (hs:NoSl i):PE X (.Subscript o i pos) (tDGet td ty):=by
  intro pins s σ H Q I h
  refine subD_of PySem.F.slot_dict_getitem.lookup hs (thn (ho pins s σ H _ I h) fun u s1 ⟨x,H1,I1,rx,q1⟩=>thn (hi pins s1 σ H1 _ I1 q1) fun iv s2 ⟨y,H2,I2,ry,a,v,ex,g,q2⟩=>?_)
  subst ex
  obtain rfl:u=Value.ref a:=rx
  exact ⟨dict_typeIs I2 g,d_getItem hu I2 g ry fun w' s3 I3 rw'=>⟨v,H2,I3,rw',q2⟩⟩
theorem ps_dput (hu:X.A.units+1<cLine) (ho:PE X o td) (hi:PE X i ty) (hv:PE X value tv) (hs:swapsWith value (some (.Subscript o i pos')) pos.line X.env=pure false) :
    PS X (.Assign [.Subscript o i pos'] value pos) (sDPut td ty tv):=by
  intro pins s σ H D I h
  refine wpAny_Assign_Subscript (thn (hv pins s σ H _ I h) fun r s1 ⟨v,H1,I1,rv,q1⟩=>thn (ho pins s1 σ H1 _ I1 q1) fun u s2 ⟨x,H2,I2,rx,q2⟩=>thn (hi pins s2 σ H2 _ I2 q2) fun iv s3 ⟨y,H3,I3,ry,a,H4,ex,g,q3⟩=>?_) hs
  subst ex
  obtain rfl:u=Value.ref a:=rx
  exact d_setItem hu I3 g ry rv fun s4 I4=>⟨σ,H4,I4,q3⟩
end
theorem dk_empty {P:Program} {w:World} {H:Hp} (h:Heap) (hb:sysModules<h.objs.size):ObjOk P w H (h.push { cls:=.type "dict",data:=.dict #[] }) h.objs.size (.dK []) :=
  ⟨Nat.zero_le _,beq_eq_false_iff_ne.mpr (Ne.symm (Nat.ne_of_lt hb)),[],.nil,Heap.DictOf.new h⟩
section
variable {X:Cx} {pos:Pos}
end
def tPairs:List (TE × TE)→St→Hp→(List (V × V)→Hp→Prop)→Prop
  | [],_,H,Q=>Q [] H
  | (tk,tv)::r,σ,H,Q=>tk σ H fun x H1=>tv σ H1 fun y H2=>tPairs r σ H2 fun ps H3=>Q ((x,y)::ps) H3
abbrev VV:List (V × V)→List (Value × Value)→Prop:=Paired fun p q=>RelV p.1 q.1∧RelV p.2 q.2
def PPs (X:Cx) (pos:Pos) (keys:List (Option Expr)) (values:List Expr) (trs:List (TE × TE)):Prop :=
  ∀ (pins:List (Addr × Obj)) (s:Shared) (σ:St) (H:Hp) (Q:List (V × V)→Hp→Prop),Inv X pins σ H s→tPairs trs σ H Q →
    wpAny (model X.prog X.w) X.A (evalPairs (pairTrees keys values X.env pos)) (fun vs s'=>∃ ps H',Inv X pins σ H' s'∧VV ps vs∧Q ps H') X.xe s
theorem pps_nil {X:Cx} {pos:Pos}:PPs X pos [] [] []:=fun pins s σ H Q I h=>pairTrees_nil_walk ⟨[],H,I,.nil,h⟩
theorem pps_cons {X:Cx} {pos:Pos} {k v:Expr} {ks:List (Option Expr)} {vs:List Expr} {tk tv:TE} {trs:List (TE × TE)} (hk:PE X k tk) (hv:PE X v tv) (hr:PPs X pos ks vs trs) :
    PPs X pos (some k::ks) (v::vs) ((tk,tv)::trs):=fun pins s σ H Q I h =>
  pairTrees_cons_walk (thn (hk pins s σ H _ I h) fun u s1 ⟨x,H1,I1,rx,q1⟩=>thn (hv pins s1 σ H1 _ I1 q1) fun w2 s2 ⟨y,H2,I2,ry,q2⟩ =>
    thn (hr pins s2 σ H2 _ I2 q2) fun ws s3 ⟨ps,H3,I3,rel,q3⟩=>⟨(x,y)::ps,H3,I3,.cons ⟨rx,ry⟩ rel,q3⟩)
def mergeK (kvs more:List (Key × V)):List (Key × V):=more.foldl (fun acc kv=>putK acc kv.1 kv.2) kvs
theorem KV.merge:∀ {more:List (Key × V)} {rs:List (Key × Value)} {kvs:List (Key × V)} {vs:List (Key × Value)},KV more rs→KV kvs vs→KV (mergeK kvs more) (merged vs rs):=by
  intro more rs kvs vs r
  unfold KV at r
  induction r generalizing kvs vs with
  | nil=>intro q; exact q
  | @cons p q ps qs h t ih =>
    intro r0
    have e:KV (putK kvs p.1 p.2) (stored vs q.1 q.2):=by
      have:=r0.put p.1 h.2
      rw [← h.1]; exact this
    exact ih e
theorem length_mergeK:∀ (more kvs:List (Key × V)),(mergeK kvs more).length≤kvs.length+more.length
  | [],kvs=>by show kvs.length≤kvs.length+0; omega
  | p::r,kvs=>by
    have h1:=length_mergeK r (putK kvs p.1 p.2)
    have h2:=length_putK kvs p.1 p.2
    show (mergeK (putK kvs p.1 p.2) r).length≤_
    rw [List.length_cons]; omega
theorem carries_of {P:Program} {w:World}:∀ {kvs:List (Key × V)} {ws:List (Value × Value)},VV (kvs.map fun kv=>(kV kv.1,kv.2)) ws→∃ rs,Carries (mixKind P w) ws rs∧KV kvs rs
  | [],_,r=>by rw [List.map_nil] at r; cases r; exact ⟨[],True.intro,.nil⟩
  | p::kvs,_,r=>by
    rw [List.map_cons] at r
    cases r with
    | @cons a b as bs h t =>
      obtain ⟨rs,c,q⟩:=carries_of (P:=P) (w:=w) t
      obtain ⟨b1,b2⟩:=b
      exact ⟨(p.1,b2)::rs,⟨kV_is h.1,rfl,c⟩,.cons ⟨rfl,h.2⟩ q⟩
def tDisp (trs:List (TE × TE)):TE:=fun σ H Q=>∀ p,H p=none→tPairs trs σ (upd H p (.dK [])) fun ps H2=>H2 p=some (.dK [])∧∃ kvs:List (Key × V),ps=kvs.map (fun kv=>(kV kv.1,kv.2))∧kvs.length≤15∧Q (.ref p) (upd H2 p (.dK (mergeK [] kvs)))
theorem pe_disp {X:Cx} {pos:Pos} {keys:List (Option Expr)} {values:List Expr} {trs:List (TE × TE)} (h:PPs X pos keys values trs) (hall:keys.all (·.isSome)=true) (hl:keys.length=values.length) (h0:keys≠[])
    (h15:keys.length≤15):PE X (.Dict keys values pos) (tDisp trs):=by
  intro pins s σ H Q I q
  have hn:=I.hok.fresh (Nat.le_refl s.heap.objs.size)
  have I1:=I.laid (a:=s.heap.objs.size) (o:=.dK []) (h':=s.heap.push { cls:=.type "dict",data:=.dict #[] }) (t':=s.toks) (fun _ _ q=>Heap.get?_push_of_some _ q) (Nat.le_refl _) (dk_empty s.heap I.big)
  refine wpAny_Dict_walk (knd:=mixKind X.prog X.w) hall hl h0 h15 (thn (h pins _ σ _ _ I1 (q _ hn)) fun ws s2 ⟨ps,H2,I2,rel,e,kvs,ep,lk,q2⟩=>?_)
  subst ep
  obtain ⟨rs,c,rk⟩:=carries_of (P:=X.prog) (w:=X.w) rel
  obtain ⟨z,hd,vs0,r0,dd⟩:=dk_of I2.hok e
  cases r0
  refine ⟨rs,c,dd,fun h' dd' hs=>⟨.ref s.heap.objs.size,_,?_,rfl,q2⟩⟩
  have hz:(mergeK [] kvs).length≤sizeLine:=by
    have h1:=length_mergeK kvs []
    rw [List.length_nil] at h1
    rw [sizeLine_eq]; omega
  have he:∃ q,h'.get? s.heap.objs.size=some q:=let ⟨q,_,_,hq,_⟩:=dd'; ⟨q,hq⟩
  exact d_write I2 (by rw [e]; exact True.intro) hs he (dk_new hz hd (rk.merge .nil) dd')
section
variable {X:Cx} {pins:List (Addr × Obj)} {σ:St} {H:Hp} {s:Shared} {a:Addr} {y d:V} {u r:Value} {o:Option V} {A:Around} {E:Value→Shared→Prop}
end
section
variable {X:Cx} {o e f:Expr} {apos cpos:Pos} {td ty tx:TE}
end
section
variable {X:Cx} {pins:List (Addr × Obj)} {σ:St} {H:Hp} {s:Shared} {a:Addr} {kvs:List (Key × V)} {A:Around} {E:Value→Shared→Prop}
end
section
variable {X:Cx} {pins:List (Addr × Obj)} {σ:St} {H:Hp} {s:Shared} {a:Addr} {y:V} {u:Value} {A:Around} {E:Value→Shared→Prop}
end
end L2
namespace L2
open PySem PySem.Spec PyProof.Rows
section
variable {κ:Type} [DecidableEq κ]
end
end L2
set_option Elab.async false
set_option linter.all false
set_option maxRecDepth 100000
namespace L2
open PySem PySem.Spec PyProof.Rows
abbrev bits (i:Int):Nat:=Builtin.Int.intBits i
def CDivB (i j:Int):Prop:=0<j∧bits j≤9000
theorem log_of_bits {j:Int} {n:Nat} (h:bits j≤n) (hn:0<n):j.natAbs.log2<n:=by
  unfold bits Builtin.Int.intBits at h
  by_cases hj:(j == 0)=true
  · have:j=0:=by simpa using hj
    subst this
    exact Nat.lt_of_le_of_lt (by decide +kernel:(0:Int).natAbs.log2≤0) hn
  · rw [if_neg hj] at h
    omega
section
variable {X:Cx}
theorem op_fdivB:OpR X (binaryOp .FloorDiv) (rI CDivB fun i j=>.int (i / j)):=opI fun i j _ _ _ _ _ hc q=>by
  refine floordiv_int (by have:=hc.1; omega) ?_ (.inl (PyProof.noPylong_of_log2 (log_of_bits hc.2 (by decide))))
  rw [Int.fdiv_eq_ediv_of_nonneg i (by have:=hc.1; omega)]
  exact q
theorem op_mulB:OpR X (binaryOp .Mult) (rI IntMulOk fun i j=>.int (i*j)):=opI fun _ _ _ _ _ _ _ hc q=>mul_int q hc
end
mutual
def Rep (H:Hp):PyData→V→Prop
  | .none,v=>v=.non
  | .bool b,v=>v=.bl b
  | .int i,v=>v=.int i
  | .str x,v=>v=.str x
  | .list ds,v=>∃ a xs,v=.ref a∧H a=some (.lst xs)∧RepL H ds xs
  | .tuple ds,v=>∃ a xs,v=.ref a∧H a=some (.tup xs)∧RepL H ds xs
  | .dict kvs,v=>kvs=[]∧∃ a,v=.ref a∧H a=some (.dK [])
def RepL (H:Hp):List PyData→List V→Prop
  | [],vs=>vs=[]
  | d::ds,vs=>∃ x xs,vs=x::xs∧Rep H d x∧RepL H ds xs
end
mutual
theorem Rep.same {H H':Hp} (e:Same H H'):∀ {d:PyData} {v:V},Rep H d v→Rep H' d v
  | .none,_,h=>h
  | .bool _,_,h=>h
  | .int _,_,h=>h
  | .str _,_,h=>h
  | .list ds,_,h=>by
    unfold Rep at h ⊢
    obtain ⟨a,xs,rfl,h1,h2⟩:=h
    exact ⟨a,xs,rfl,e _ _ h1,RepL.same e h2⟩
  | .tuple ds,_,h=>by
    unfold Rep at h ⊢
    obtain ⟨a,xs,rfl,h1,h2⟩:=h
    exact ⟨a,xs,rfl,e _ _ h1,RepL.same e h2⟩
  | .dict kvs,_,h=>by
    unfold Rep at h ⊢
    obtain ⟨h0,a,rfl,h1⟩:=h
    exact ⟨h0,a,rfl,e _ _ h1⟩
theorem RepL.same {H H':Hp} (e:Same H H'):∀ {ds:List PyData} {vs:List V},RepL H ds vs→RepL H' ds vs
  | [],_,h=>h
  | d::ds,_,h=>by
    unfold RepL at h ⊢
    obtain ⟨x,xs,rfl,h1,h2⟩:=h
    exact ⟨x,xs,rfl,Rep.same e h1,RepL.same e h2⟩
end
theorem Rep.tup {H:Hp} {a:Addr} {xs:List V} {ds:List PyData} (h:H a=some (.tup xs)) (r:RepL H ds xs):Rep H (.tuple ds) (.ref a):=by
  unfold Rep; exact ⟨a,xs,rfl,h,r⟩
theorem Rep.lst {H:Hp} {a:Addr} {xs:List V} {ds:List PyData} (h:H a=some (.lst xs)) (r:RepL H ds xs):Rep H (.list ds) (.ref a):=by
  unfold Rep; exact ⟨a,xs,rfl,h,r⟩
theorem Rep.int {H:Hp} (i:Int):Rep H (.int i) (.int i):=by unfold Rep; rfl
theorem Rep.bl {H:Hp} (i:Bool):Rep H (.bool i) (.bl i):=by unfold Rep; rfl
theorem Rep.str {H:Hp} (i:Str):Rep H (.str i) (.str i):=by unfold Rep; rfl
theorem Rep.non {H:Hp}:Rep H .none .non:=by unfold Rep; rfl
theorem RepL.nil {H:Hp}:RepL H [] []:=by unfold RepL; rfl
theorem RepL.cons {H:Hp} {d:PyData} {ds:List PyData} {x:V} {xs:List V} (h:Rep H d x) (hs:RepL H ds xs):RepL H (d::ds) (x::xs):=by
  unfold RepL; exact ⟨x,xs,rfl,h,hs⟩
section
variable {X:Cx} {pins:List (Addr × Obj)} {σ:St} {H:Hp} {s:Shared}
mutual
theorem Rep.reads (I:Inv X pins σ H s):∀ {d:PyData} {v:V} {u:Value},Rep H d v→RelV v u→∃ as,Reads s.heap u d as
  | .none,_,u,h,r=>by
    cases (show _=V.non from h); cases (show u=Value.none from r); exact ⟨_,.none⟩
  | .bool b,_,u,h,r=>by
    cases (show _=V.bl b from h); cases (show u=Value.bool b from r); exact ⟨_,.bool b⟩
  | .int b,_,u,h,r=>by
    cases (show _=V.int b from h); obtain ⟨t,q⟩:=(show ∃ t,u=Value.int b t from r); cases q; exact ⟨_,.int b t⟩
  | .str b,_,u,h,r=>by
    cases (show _=V.str b from h); obtain ⟨t,q⟩:=(show ∃ t,u=Value.str b t from r); cases q; exact ⟨_,.str b t⟩
  | .list ds,v,u,h,r=>by
    unfold Rep at h
    obtain ⟨a,xs,rfl,h1,h2⟩:=h
    cases (show u=Value.ref a from r)
    obtain ⟨_,its,n,r',e⟩:=(show ObjOk X.prog X.w H s.heap a (.lst xs) from I.hok a _ h1)
    obtain ⟨as,q⟩:=RepL.reads I h2 r'
    exact ⟨_,.list e rfl rfl (by simpa using q)⟩
  | .tuple ds,v,u,h,r=>by
    unfold Rep at h
    obtain ⟨a,xs,rfl,h1,h2⟩:=h
    cases (show u=Value.ref a from r)
    obtain ⟨_,its,r',o,e,hc,n,hd⟩:=(show ObjOk X.prog X.w H s.heap a (.tup xs) from I.hok a _ h1)
    obtain ⟨as,q⟩:=RepL.reads I h2 r'
    exact ⟨_,.tuple e hc hd (by simpa using q)⟩
  | .dict kvs,v,u,h,r=>by
    unfold Rep at h
    obtain ⟨rfl,a,rfl,h1⟩:=h
    cases (show u=Value.ref a from r)
    obtain ⟨_,_,vs,kv,o,es,ep,e,hx,hd,_,hes,_⟩:=(show ObjOk X.prog X.w H s.heap a (.dK []) from I.hok a _ h1)
    cases kv
    have he:es.toList=[]:=by
      cases q:es.toList with
      | nil=>rfl
      | cons y ys=>rw [q] at hes; cases hes
    exact ⟨_,.dict e hx.1 hd (by rw [he]; exact .nil) (by rw [he]; exact .nil)⟩
theorem RepL.reads (I:Inv X pins σ H s):∀ {ds:List PyData} {vs:List V} {us:List Value},RepL H ds vs→Vals vs us→∃ as,ReadsAll s.heap us ds as
  | [],_,us,h,r=>by
    cases (show _=[] from h); cases r; exact ⟨_,.nil⟩
  | d::ds,_,us,h,r=>by
    unfold RepL at h
    obtain ⟨x,xs,rfl,h1,h2⟩:=h
    cases r with
    | cons r1 r2 =>
      obtain ⟨as,q1⟩:=Rep.reads I h1 r1
      obtain ⟨bs,q2⟩:=RepL.reads I h2 r2
      exact ⟨_,.cons q1 q2⟩
end
end
section
variable {X:Cx}
end
def tyD:PyData→String
  | .none => "NoneType"
  | .bool _ => "bool"
  | .int _ => "int"
  | .str _ => "str"
  | .list _ => "list"
  | .tuple _ => "tuple"
  | .dict _ => "dict"
theorem Rep.ty {K:PySem.W.Frag} {H:Hp} {d:PyData} {v:V} (h:Rep H d v):TyOf K H v (.type (tyD d)):=by
  cases d with
  | none=>cases (show v=V.non from h); exact .non
  | bool b=>cases (show v=V.bl b from h); exact .bl b
  | int b=>cases (show v=V.int b from h); exact .int b
  | str b=>cases (show v=V.str b from h); exact .str b
  | list ds=>unfold Rep at h; obtain ⟨a,xs,rfl,h1,h2⟩:=h; exact .lst h1
  | tuple ds=>unfold Rep at h; obtain ⟨a,xs,rfl,h1,h2⟩:=h; exact .tup h1
  | dict ds=>unfold Rep at h; obtain ⟨_,a,rfl,h1⟩:=h; exact .dK h1
def isD (T:String) (d:PyData):Bool:=tyD d == T || (T == "int" && tyD d == "bool")
theorem kit_DT : ∀ T ∈ ["int", "bool", "tuple", "str", "list", "dict"], ∀ S ∈ ["NoneType", "bool", "int", "str", "list", "tuple", "dict"],
      PySem.W.kitOne [] (.type S) (.type T)=some (S == T || (T == "int" && S == "bool")):=by decide +kernel
theorem kit_noK (K:PySem.W.Frag) (S T:String):PySem.W.kitOne K (.type S) (.type T)=PySem.W.kitOne [] (.type S) (.type T):=rfl
theorem kit_D (K:PySem.W.Frag) (d:PyData) (T:String) (hT:T = "int" ∨ T = "bool" ∨ T = "tuple" ∨ T = "str" ∨ T = "list" ∨ T = "dict"):PySem.W.kitOne K (.type (tyD d)) (.type T)=some (isD T d):=by
  rw [kit_noK]
  refine kit_DT T ?_ (tyD d) ?_
  · rcases hT with rfl | rfl | rfl | rfl | rfl | rfl <;> decide
  · cases d <;> simp [tyD]
section
variable {X:Cx}
theorem call_isinst:CallR X (.builtin "isinstance") (fun xs H Q=>∃ x d T,xs=[x,.ty T]∧Rep H d x∧(T = "int" ∨ T = "bool" ∨ T = "tuple" ∨ T = "str" ∨ T = "list" ∨ T = "dict")∧Q (.bl (isD T d)) H):=by
  intro pins s σ H xs us Q I r h
  obtain ⟨x,d,T,rfl,hr,hT,q⟩:=h
  obtain ⟨u,w',rfl,r1,r2⟩:=vals2 r
  cases (show w'=Value.type T from r2)
  exact isinst_ok I r1 hr.ty (kit_D _ d T hT) fun tk=>⟨.bl _,H,I.tok _,rfl,q⟩
end
end L2
namespace L2
open PySem PySem.Spec PyProof.Rows
structure FnC (CX:CXT) (P:Program) (w:World) (K:PySem.W.Frag) (mg:Str→Option Value) (base:Heap) (k:Nat) (x:Str) (ps:List Str) (sp:Sp):Prop where
  ex:∃ (f:Addr) (fd:FuncData),FnOk P w K mg base CX k f fd ps sp∧mg x=some (.ref f)∧PySem.W.keepIn K (.ref f)=true∧Binds K fd ps []
section
variable {X:Cx} {k:Nat} {ps:List Str} {sp:Sp} {x:Str} {p pos:Pos} {e:Expr} {es:List Expr} {t:TA}
theorem pe_fn (F:FnC CX0 X.prog X.w X.K X.mg X.base k x ps sp) (hr:Room k X.A) (ha:PA X (e::es) t) (hg:Gl X x:=by rfl)
    (hdb:(x == ("__debug__" : Str))=false:=by decide) (he:starEach (e::es) X.env=(false,eval e X.env)::starEach es X.env:=by rfl) (hpl:(backTo pos (starEach es X.env)).any (·.1)=false:=by rfl) :
    PE X (.Call (.Name x p) (e::es) [] pos) (tCall sp [] E0 t):=by
  obtain ⟨f,fd,h1,h2,h3,h4⟩:=F.ex
  exact pe_call h1 hr hg h2 h3 h4 .nil pass0 ha hdb he hpl
end
section
variable {K:PySem.W.Frag} {H:Hp} {p:Addr} {xs:List V} {i:Int} {v:V} {Q:VK}
theorem ixL (h:H p=some (.lst xs)) (e:atI xs i=some v) (q:Q v H):rIx K (.ref p) (.int i) H Q:=.inl ⟨p,xs,i,v,rfl,rfl,SqL.of h,e,q⟩
theorem ixT (h:H p=some (.tup xs)) (e:atI xs i=some v) (q:Q v H):rIx K (.ref p) (.int i) H Q:=.inr (.inl ⟨p,xs,i,v,rfl,rfl,SqT.of h,e,q⟩)
theorem stL {u:V} {Q:Hp→Prop} {j:Nat} (h:H p=some (.lst xs)) (e:ixN xs.length i=some j) (q:Q (upd H p (.lst (xs.set j u)))):rSetL (.ref p) (.int i) u H Q:=⟨p,xs,i,j,rfl,rfl,h,e,q⟩
end
def Hide (p:Addr) (H:Hp):Hp:=fun b=>if b=p then none else H b
theorem Hide.at {p b:Addr} {H:Hp} (h:b≠p):Hide p H b=H b:=by unfold Hide; rw [if_neg h]
theorem Hide.self {p:Addr} {H:Hp}:Hide p H p=none:=by unfold Hide; rw [if_pos rfl]
theorem Hide.same {p:Addr} {H:Hp}:Same (Hide p H) H:=fun b o h=>by
  unfold Hide at h
  by_cases e:b=p
  · rw [if_pos e] at h; cases h
  · rw [if_neg e] at h; exact h
theorem Hide.ne {p b:Addr} {H:Hp} {o:HO} (h:Hide p H b=some o):b≠p:=fun e=>by
  subst e; rw [Hide.self] at h; cases h
theorem Hide.of {p b:Addr} {H:Hp} {o:HO} (n:b≠p) (h:H b=some o):Hide p H b=some o:=by rw [Hide.at n]; exact h
theorem Hide.upd_self {p:Addr} {H:Hp} {o:HO}:Hide p (upd H p o)=Hide p H:=by
  funext b
  by_cases e:b=p
  · subst e; rw [Hide.self,Hide.self]
  · rw [Hide.at e,Hide.at e,L2.upd_ne e]
abbrev SameBut (p:Addr) (H H':Hp):Prop:=Same (Hide p H) (Hide p H')
theorem Same.but {p:Addr} {H H':Hp} (h:Same H H'):SameBut p H H':=fun b o e=>by
  have n:=Hide.ne e
  exact Hide.of n (h _ _ (Hide.same _ _ e))
theorem Same.upd {H:Hp} {q:Addr} {o:HO} (h:H q=none):Same H (upd H q o):=fun b u e=>by
  rw [L2.upd_ne (ne_of_none e h)]; exact e
theorem SameBut.self {p:Addr} {H:Hp} {o:HO}:SameBut p H (upd H p o):=by unfold SameBut; rw [Hide.upd_self]; exact Same.refl _
theorem SameBut.free {p q:Addr} {H H':Hp} (e:SameBut p H H') (hp:∃ o,H' p=some o) (h:H' q=none):H q=none:=by
  cases k:H q with
  | none=>rfl
  | some o =>
    by_cases n:q=p
    · subst n; obtain ⟨o',h'⟩:=hp; rw [h'] at h; cases h
    · have:=Hide.same _ _ (e q o (Hide.of n k)); rw [this] at h; cases h
end L2
namespace L2
open PySem PySem.Spec PyProof.Rows
section
variable {K:PySem.W.Frag} {H:Hp} {p:Addr} {xs:List V} {i:Int} {v:V} {Q:VK}
theorem stG {u:V} {Q:Hp→Prop} {j:Nat} (h:H p=some (.lst xs)) (e:ixN xs.length i=some j) (k:∀ H',H' p=some (.lst (xs.set j u))→SameBut p H H'→Q H'):rSetL (.ref p) (.int i) u H Q :=
  stL h e (k _ upd_same SameBut.self)
theorem alT {Q:V→Hp→Prop} (hz:xs.length≤sizeLine) (k:∀ q H',H q=none→H' q=some (.tup xs)→Same H H'→Q (.ref q) H'):xs.length≤sizeLine∧∀ p,H p=none→Q (.ref p) (upd H p (.tup xs)) :=
  ⟨hz,fun q hq=>k q _ hq upd_same (Same.upd hq)⟩
theorem alL {Q:V→Hp→Prop} (hz:xs.length≤sizeLine) (k:∀ q H',H q=none→H' q=some (.lst xs)→Same H H'→Q (.ref q) H'):xs.length≤sizeLine∧∀ p,H p=none→Q (.ref p) (upd H p (.lst xs)) :=
  ⟨hz,fun q hq=>k q _ hq upd_same (Same.upd hq)⟩
theorem SameBut.at {p b:Addr} {H H':Hp} {o:HO} (s:SameBut p H H') (n:b≠p) (h:H b=some o):H' b=some o:=Hide.same _ _ (s _ _ (Hide.of n h))
end
theorem small64 {n:Nat} (h:n≤64):n≤sizeLine:=Nat.le_trans h (by decide)
theorem iteD {c A B:Prop} [Decidable c] (h1:c→A) (h2:¬ c→B):if decide c=true then A else B :=
  ite2 (fun h=>h1 (of_decide_eq_true h)) (fun h=>h2 (fun k=>h (decide_eq_true k)))
theorem iteDN {c A B:Prop} [Decidable c] (h1:¬ c→A) (h2:c→B):if (!decide c)=true then A else B :=
  ite2 (fun h=>h1 (fun k=>by rw [decide_eq_true k] at h; exact absurd h (by decide))) (fun h=>h2 (Decidable.of_not_not fun k=>h (by rw [decide_eq_false k]; rfl)))
end L2
namespace L2
open PySem PySem.Spec PyProof.Rows
def tMono (c:TT):TT:=fun σ H Q=>∃ Q':Bool→Hp→Prop,c σ H Q'∧∀ b H1,Q' b H1→Q b H1
theorem PT.mono {X:Cx} {e:Expr} {c:TT} (h:PT X e c):PT X e (tMono c):=fun pins s σ H Q I ⟨Q',h1,h2⟩ =>
  thn (h pins s σ H Q' I h1) fun b s' ⟨H',I',q⟩=>⟨H',I',h2 _ _ q⟩
theorem ps_whileM {X:Cx} {pos:Pos} {c:Expr} {body:List Stmt} {tc:TT} {tb:TS} (hp:PassesOwn (model X.prog X.w) X.A X.env X.xe) (hc:PT X c tc) (hb:PSs X body tb):PS X (.While c body [] pos) (tWhile (tMono tc) tb) :=
  ps_while hp hc.mono hb
end L2
namespace L2
open PySem PySem.Spec PyProof.Rows
@[irreducible] def rLen (K:PySem.W.Frag):List V→Hp→VK→Prop:=fun xs H Q=>∃ x n,xs=[x]∧LenV K x H n∧Q (.int n) H
@[irreducible] def rAbs:List V→Hp→VK→Prop:=fun xs H Q=>∃ i,xs=[.int i]∧Q (.int (i.natAbs:Int)) H
@[irreducible] def rIsi:List V→Hp→VK→Prop:=fun xs H Q=>∃ x d T,xs=[x,.ty T]∧Rep H d x∧(T = "int" ∨ T = "bool" ∨ T = "tuple" ∨ T = "str" ∨ T = "list" ∨ T = "dict")∧Q (.bl (isD T d)) H
section
variable {X:Cx} {K:PySem.W.Frag} {H:Hp} {p:Addr} {xs:List V} {Q:VK}
theorem cl_len:CallR X (.builtin "len") (rLen X.K):=by unfold rLen; exact call_len
theorem cl_abs:CallR X (.builtin "abs") rAbs:=by
  unfold rAbs
  exact fun pins s σ H xs us Q I r ⟨i,e,q⟩=>call_abs pins s σ H xs us Q I r ⟨i,e,by
  have:(if i<0 then -i else i)=(i.natAbs:Int):=by split <;> omega
  rw [this]; exact q⟩
theorem cl_isi:CallR X (.builtin "isinstance") rIsi:=by unfold rIsi; exact call_isinst
theorem rlL (h:H p=some (.lst xs)) (q:Q (.int xs.length) H):rLen K [V.ref p] H Q:=by unfold rLen; exact ⟨_,_,rfl,.inl ⟨xs,SqL.of h,rfl⟩,q⟩
theorem rlT (h:H p=some (.tup xs)) (q:Q (.int xs.length) H):rLen K [V.ref p] H Q:=by unfold rLen; exact ⟨_,_,rfl,.inr ⟨xs,SqT.of h,rfl⟩,q⟩
theorem raI {i:Int} (q:Q (.int (i.natAbs:Int)) H):rAbs [V.int i] H Q:=by unfold rAbs; exact ⟨i,rfl,q⟩
theorem riI {x:V} {d:PyData} {T:String} (r:Rep H d x) (q:Q (.bl (isD T d)) H) (hT:(T = "int" ∨ T = "bool" ∨ T = "tuple" ∨ T = "str" ∨ T = "list" ∨ T = "dict"):=by decide):rIsi [x,.ty T] H Q:=by unfold rIsi; exact ⟨x,d,T,rfl,r,hT,q⟩
end
end L2
namespace L2
open PySem PySem.Spec PyProof.Rows
theorem while_r {c:TT} {tb:TS} {D:Ends} {σ:St} {H:Hp} (W:Nat→St→Hp→Prop) (R:St→Hp→Prop) (m:Nat) (h0:W m σ H)
    (hs:∀ m σ H,W m σ H→c σ H fun b H1=>if b=true then tb { D with nx:=fun σ' H'=>∃ m',m' < m∧W m' σ' H',ct:=fun σ' H'=>∃ m',m' < m∧W m' σ' H',bk:=D.nx } σ H1 else R σ H1)
    (hd:∀ σ H,R σ H→D.nx σ H):tWhile (tMono c) tb D σ H :=
  ⟨W,⟨m,h0⟩,fun m σ H hw=>⟨_,hs m σ H hw,fun b H1 q=>by
    by_cases hb:b=true
    · rw [if_pos hb] at q ⊢
      exact ⟨_,fun _ _ h=>h,q⟩
    · rw [if_neg hb] at q ⊢
      exact hd _ _ q⟩⟩
end L2
namespace L2
open PySem PySem.Spec PyProof.Rows
def tCut (t:TS):TS:=fun D σ H=>∃ R:St→Hp→Prop,(∀ σ' H',R σ' H'→D.nx σ' H')∧t { D with nx:=R } σ H
theorem ps_cut {X:Cx} {st:Stmt} {t:TS} (h:PS X st t):PS X st (tCut t):=fun pins s σ H D I ⟨R,hR,q⟩ =>
  thn (h pins s σ H _ I q) fun f s' z=>by
    cases f with
    | next=>obtain ⟨σ',H',I',r⟩:=z; exact ⟨σ',H',I',hR _ _ r⟩
    | brk=>exact z
    | cont=>exact z
    | ret u=>exact z
end L2
namespace L2
open PySem PySem.Spec PyProof.Rows
section
variable {es:List Expr} {env:Env}
theorem se_BinOp {a b c d}:starEach (.BinOp a b c d::es) env=(false,eval (.BinOp a b c d) env)::starEach es env:=by rw [starEach] <;> (intros; contradiction)
theorem se_ListComp {a b c d}:starEach (.ListComp a b c d::es) env=(false,eval (.ListComp a b c d) env)::starEach es env:=by rw [starEach] <;> (intros; contradiction)
theorem se_Compare {a b c d}:starEach (.Compare a b c d::es) env=(false,eval (.Compare a b c d) env)::starEach es env:=by rw [starEach] <;> (intros; contradiction)
theorem se_Call {a b c d}:starEach (.Call a b c d::es) env=(false,eval (.Call a b c d) env)::starEach es env:=by rw [starEach] <;> (intros; contradiction)
theorem se_Constant {a b c}:starEach (.Constant a b c::es) env=(false,eval (.Constant a b c) env)::starEach es env:=by rw [starEach] <;> (intros; contradiction)
theorem se_Attribute {a b c}:starEach (.Attribute a b c::es) env=(false,eval (.Attribute a b c) env)::starEach es env:=by rw [starEach] <;> (intros; contradiction)
theorem se_Subscript {a b c}:starEach (.Subscript a b c::es) env=(false,eval (.Subscript a b c) env)::starEach es env:=by rw [starEach] <;> (intros; contradiction)
theorem se_Name {a b}:starEach (.Name a b::es) env=(false,eval (.Name a b) env)::starEach es env:=by rw [starEach] <;> (intros; contradiction)
theorem se_List {a b}:starEach (.List a b::es) env=(false,eval (.List a b) env)::starEach es env:=by rw [starEach] <;> (intros; contradiction)
theorem se_Tuple {a b c}:starEach (.Tuple a b c::es) env=(false,eval (.Tuple a b c) env)::starEach es env:=by rw [starEach] <;> (intros; contradiction)
end
section
variable {X:Cx} {k:Nat} {ps:List Str} {sp:Sp} {x:Str} {p pos:Pos} {e:Expr} {es:List Expr} {te:TE} {t:TA} {id T:String} {r:List V→Hp→VK→Prop}
theorem ap_nil {env:Env}:(backTo pos (starEach [] env)).any (·.1)=false:=rfl
theorem ap_cons {env:Env} (hs:starEach (e::es) env=(false,eval e env)::starEach es env) (h:(backTo pos (starEach es env)).any (·.1)=false):(backTo pos (starEach (e::es) env)).any (·.1)=false:=by
  rw [hs]
  show (false || (backTo pos (starEach es env)).any (·.1))=false
  rw [h]; rfl
end
end L2
set_option Elab.async false
set_option linter.all false
set_option maxRecDepth 100000
namespace L2
open PySem PySem.Spec PyProof.Rows
structure PEw (X:Cx) (e:Expr) (t:TE):Prop where p:PE X e t
structure PTw (X:Cx) (e:Expr) (t:TT):Prop where p:PT X e t
structure PWw (X:Cx) (e:Expr) (t:TT):Prop where p:PW X e t
structure PAw (X:Cx) (es:List Expr) (t:TA):Prop where p:PA X es t
structure PSw (X:Cx) (st:Stmt) (t:TS):Prop where p:PS X st t
structure PSsw (X:Cx) (st:List Stmt) (t:TS):Prop where p:PSs X st t
structure PGw (X:Cx) (e:Expr) (t:TG):Prop where p:PG X e t
structure PGsw (X:Cx) (es:List Expr) (t:TGs):Prop where p:PGs X es t
structure PIw (X:Cx) (tg iter:Expr) (t:TI):Prop where p:PI X tg iter t
structure POw (X:Cx) (e:Option Expr) (t:TO):Prop where p:PO X e t
@[irreducible] def rNewT (xs:List V) (H:Hp) (Q:VK):Prop:=xs.length≤sizeLine∧∀ p,H p=none→Q (.ref p) (upd H p (.tup xs))
@[irreducible] def rNewL (xs:List V) (H:Hp) (Q:VK):Prop:=xs.length≤sizeLine∧∀ p,H p=none→Q (.ref p) (upd H p (.lst xs))
theorem nwT {xs:List V} {H:Hp} {Q:VK} (hz:xs.length≤64) (k:∀ q H',H q=none→H' q=some (.tup xs)→Same H H'→Q (.ref q) H'):rNewT xs H Q:=by unfold rNewT; exact alT (small64 hz) k
theorem nwL {xs:List V} {H:Hp} {Q:VK} (hz:xs.length≤64) (k:∀ q H',H q=none→H' q=some (.lst xs)→Same H H'→Q (.ref q) H'):rNewL xs H Q:=by unfold rNewL; exact alL (small64 hz) k
def tTu (t:TA):TE:=fun σ H Q=>t σ H fun xs H1=>rNewT xs H1 Q
def tLs (t:TA):TE:=fun σ H Q=>t σ H fun xs H1=>rNewL xs H1 Q
section
variable {X:Cx} {a b c e o tg:Expr} {es rest:List Expr} {ta tb tc te to:TE} {tA tB':TT} {t:TA} {pos p p2:Pos} {st:Stmt} {sts body orelse:List Stmt} {ts us:TS} {x:Str} {r r':R2} {id T:String} {rl:List V→Hp→VK→Prop} {k i j:Nat} {ps:List Str} {sp:Sp} {n:Nat}
theorem we_v (i:Nat) {x:Str} {pos:Pos} (hN:X.N[i]?=some x:=by rfl) (hv:Vis X.env.scope x:=by first | exact Or.inl rfl | exact Or.inr (Or.inl rfl) | exact Or.inr (Or.inr rfl)) (hd:(x == ("__debug__" : Str))=false:=by decide)
    (hcd:(x == ("__classdict__" : Str))=false:=by decide):PEw X (.Name x pos) (tVar i):=⟨pv i hN hv hd hcd⟩
theorem we_int {i j pos}:PEw X (.Constant (.int i) j pos) (tC (.int i)):=⟨pe_int⟩
theorem we_bl {b j pos}:PEw X (.Constant (.bool b) j pos) (tC (.bl b)):=⟨pe_bl⟩
theorem we_non {j pos}:PEw X (.Constant .none j pos) (tC .non):=⟨pe_non⟩
theorem we_str {x j pos}:PEw X (.Constant (.str x) j pos) (tC (.str x)):=⟨pe_str⟩
theorem we_glob {v:V} {u:Value} (hg:Gl X x) (hm:X.mg x=some u) (r:RelV v u) (hd:(x == ("__debug__" : Str))=false:=by decide):PEw X (.Name x pos) (tC v):=⟨pe_glob hg hm r hd⟩
theorem we_bltn {v:V} {u:Value} (hg:Gl X x) (hm:X.mg x=none) (hv:bootBuiltins x=some u) (r:RelV v u) (hn:x ≠ "__name__" := by decide) (hd:(x == ("__debug__" : Str))=false:=by decide):PEw X (.Name x pos) (tC v):=⟨pe_bltn hg hm hv r hn hd⟩
theorem we_op {op:Operator} (ho:OpR X (binaryOp op) r) (ha:PEw X a ta) (hb:PEw X b tb):PEw X (.BinOp a op b pos) (tOp r ta tb):=⟨pe_op ho ha.p hb.p⟩
theorem we_cmp {op:CmpOp} (ho:OpR X (compareOp op) r) (ha:PEw X a ta) (hb:PEw X b tb) (hm:behindInMarks op b=false):PEw X (.Compare a [op] [b] pos) (tOp r ta tb):=⟨pe_cmpR ho ha.p hb.p hm⟩
theorem wt_cmp {op:CmpOp} (ho:OpR X (compareOp op) r) (ha:PEw X a ta) (hb:PEw X b tb) (hm:behindInMarks op b=false):PTw X (.Compare a [op] [b] pos) (tTest (tOp r ta tb)):=⟨pt_cmpR ho ha.p hb.p hm⟩
theorem we_chain {op op':CmpOp} (ho:OpR X (compareOp op) r) (ho':OpR X (compareOp op') r') (ha:PEw X a ta) (hb:PEw X b tb) (hc:PEw X c tc)
    (hm:lastMarks [op,op'] [b,c]=false:=by with_unfolding_all rfl):PEw X (.Compare a [op,op'] [b,c] pos) (tChain r r' ta tb tc):=⟨pe_chain ho ho' ha.p hb.p hc.p hm⟩
theorem wt_chain {op op':CmpOp} (ho:OpR X (compareOp op) r) (ho':OpR X (compareOp op') r') (ha:PEw X a ta) (hb:PEw X b tb) (hc:PEw X c tc)
    (hm:lastMarks [op,op'] [b,c]=false:=by with_unfolding_all rfl):PTw X (.Compare a [op,op'] [b,c] pos) (tTest (tChain r r' ta tb tc)):=⟨pt_chain ho ho' ha.p hb.p hc.p hm⟩
theorem wt_val (h:PEw X e te) (he:∀ whole,isTrue e X.env whole=(do let v ← whole; standAt e.pos; holding [v] (truthy v)):=by intro _; rfl):PTw X e (tB te):=⟨pt_val h.p he⟩
theorem ww_and1 (ha:PTw X a tA):PWw X (.BoolOp .And [a] pos) tA:=⟨pw_and1 ha.p⟩
theorem ww_or1 (ha:PTw X a tA):PWw X (.BoolOp .Or [a] pos) tA:=⟨pw_or1 ha.p⟩
theorem ww_and (ha:PTw X a tA) (hb:PWw X (.BoolOp .And (b::rest) pos) tB'):PWw X (.BoolOp .And (a::b::rest) pos) (tAnd tA tB'):=⟨pw_and ha.p hb.p⟩
theorem ww_or (ha:PTw X a tA) (hb:PWw X (.BoolOp .Or (b::rest) pos) tB'):PWw X (.BoolOp .Or (a::b::rest) pos) (tOr tA tB'):=⟨pw_or ha.p hb.p⟩
theorem wt_w (h:PWw X e tA):PTw X e tA:=⟨h.p.pt⟩
theorem wt_not (ha:PTw X a tA):PTw X (.UnaryOp .Not a pos) (tNot tA):=⟨pt_not ha.p⟩
theorem we_one {op} (h:PEw X a ta):PEw X (.BoolOp op [a] pos) ta:=⟨pe_one h.p⟩
theorem we_and (ha:PEw X a ta) (hb:PEw X (.BoolOp .And (b::rest) pos) tb):PEw X (.BoolOp .And (a::b::rest) pos) (tAndV ta tb):=⟨pe_and ha.p hb.p⟩
theorem we_or (ha:PEw X a ta) (hb:PEw X (.BoolOp .Or (b::rest) pos) tb):PEw X (.BoolOp .Or (a::b::rest) pos) (tOrV ta tb):=⟨pe_or ha.p hb.p⟩
theorem we_not (ha:PEw X a ta):PEw X (.UnaryOp .Not a pos) (tNotV ta):=⟨pe_not ha.p⟩
theorem we_ifExp (hc:PTw X c tA) (ha:PEw X a ta) (hb:PEw X b tb):PEw X (.IfExp c a b pos) (tIf tA ta tb):=⟨pe_ifExp hc.p ha.p hb.p⟩
theorem wa_nil:PAw X [] tNil:=⟨pa_nil⟩
theorem wa_k (ha:PEw X e te) (hr:PAw X es t) (hs:starEach (e::es) X.env=(false,eval e X.env)::starEach es X.env:=by first | exact se_Name | exact se_Constant | exact se_BoolOp | exact se_BinOp | exact se_UnaryOp | exact se_IfExp | exact se_Dict | exact se_ListComp | exact se_Compare | exact se_Call | exact se_Attribute | exact se_Subscript | exact se_List | exact se_Tuple | exact se_JoinedStr | exact se_GeneratorExp):PAw X (e::es) (tCons te t):=⟨pa_cons ha.p hr.p hs⟩
theorem we_tup {x1} (h:PAw X es t):PEw X (.Tuple es x1 pos) (tTu t):=⟨by unfold tTu rNewT; exact pe_tup h.p⟩
theorem we_lst (h:PAw X es t):PEw X (.List es pos) (tLs t):=⟨by unfold tLs rNewL; exact pe_lst h.p⟩
theorem we_ix (hr:IxR X r) (ha:PEw X a ta) (hb:PEw X b tb) (hs:PlainIx b):PEw X (.Subscript a b pos) (tOp r ta tb):=⟨pe_ix hr ha.p hb.p hs⟩
theorem wo_none:POw X none tNoPart:=⟨po_none⟩
theorem wo_some (h:PEw X e te):POw X (some e) (tPart te):=⟨po_some h.p⟩
theorem we_slice {lo hi:Option Expr} {tl th:TO} {r:V→Option Int→Option Int→Hp→VK→Prop} (hr:SlR X r) (he:PEw X e te) (hl:POw X lo tl) (hu:POw X hi th):PEw X (.Subscript e (.Slice lo hi none p2) pos) (tSl r te tl th):=⟨pe_slice hr he.p hl.p hu.p⟩
theorem we_fn (F:FnC CX0 X.prog X.w X.K X.mg X.base k x ps sp) (hr:Room k X.A) (ha:PAw X (e::es) t) (hg:Gl X x:=by rfl)
    (hdb:(x == ("__debug__" : Str))=false:=by decide) (he:starEach (e::es) X.env=(false,eval e X.env)::starEach es X.env:=by first | exact se_Name | exact se_Constant | exact se_BoolOp | exact se_BinOp | exact se_UnaryOp | exact se_IfExp | exact se_Dict | exact se_ListComp | exact se_Compare | exact se_Call | exact se_Attribute | exact se_Subscript | exact se_List | exact se_Tuple | exact se_JoinedStr | exact se_GeneratorExp)
    (hpl:(backTo pos (starEach es X.env)).any (·.1)=false:=by repeat (first | exact ap_nil | refine ap_cons (by first | exact se_Name | exact se_Constant | exact se_BoolOp | exact se_BinOp | exact se_UnaryOp | exact se_IfExp | exact se_Dict | exact se_ListComp | exact se_Compare | exact se_Call | exact se_Attribute | exact se_Subscript | exact se_List | exact se_Tuple | exact se_JoinedStr | exact se_GeneratorExp) ?_)) :
    PEw X (.Call (.Name x p) (e::es) [] pos) (tCall sp [] E0 t):=⟨pe_fn F hr ha.p hg hdb he hpl⟩
theorem we_cB (hc:CallR X (.builtin id) rl) (hg:Gl X x) (hm:X.mg x=none) (hv:bootBuiltins x=some (.builtin id)) (ha:PAw X (e::es) t) (hn:x ≠ "__name__" := by decide) (hdb:(x == ("__debug__" : Str))=false:=by decide)
    (he:starEach (e::es) X.env=(false,eval e X.env)::starEach es X.env:=by first | exact se_Name | exact se_Constant | exact se_BoolOp | exact se_BinOp | exact se_UnaryOp | exact se_IfExp | exact se_Dict | exact se_ListComp | exact se_Compare | exact se_Call | exact se_Attribute | exact se_Subscript | exact se_List | exact se_Tuple | exact se_JoinedStr | exact se_GeneratorExp) (hpl:(backTo pos (starEach es X.env)).any (·.1)=false:=by repeat (first | exact ap_nil | refine ap_cons (by first | exact se_Name | exact se_Constant | exact se_BoolOp | exact se_BinOp | exact se_UnaryOp | exact se_IfExp | exact se_Dict | exact se_ListComp | exact se_Compare | exact se_Call | exact se_Attribute | exact se_Subscript | exact se_List | exact se_Tuple | exact se_JoinedStr | exact se_GeneratorExp) ?_)):PEw X (.Call (.Name x p) (e::es) [] pos) (tCB rl t) :=
  ⟨pe_callB hc hg hm hv ha.p hn hdb he hpl⟩
theorem we_cT (hc:CallR X (.type T) rl) (hg:Gl X x) (hm:X.mg x=none) (hv:bootBuiltins x=some (.type T)) (ha:PAw X (e::es) t) (hn:x ≠ "__name__" := by decide) (hdb:(x == ("__debug__" : Str))=false:=by decide)
    (he:starEach (e::es) X.env=(false,eval e X.env)::starEach es X.env:=by first | exact se_Name | exact se_Constant | exact se_BoolOp | exact se_BinOp | exact se_UnaryOp | exact se_IfExp | exact se_Dict | exact se_ListComp | exact se_Compare | exact se_Call | exact se_Attribute | exact se_Subscript | exact se_List | exact se_Tuple | exact se_JoinedStr | exact se_GeneratorExp) (hpl:(backTo pos (starEach es X.env)).any (·.1)=false:=by repeat (first | exact ap_nil | refine ap_cons (by first | exact se_Name | exact se_Constant | exact se_BoolOp | exact se_BinOp | exact se_UnaryOp | exact se_IfExp | exact se_Dict | exact se_ListComp | exact se_Compare | exact se_Call | exact se_Attribute | exact se_Subscript | exact se_List | exact se_Tuple | exact se_JoinedStr | exact se_GeneratorExp) ?_)):PEw X (.Call (.Name x p) (e::es) [] pos) (tCB rl t) :=
  ⟨pe_callTy hc hg hm hv ha.p hn hdb he hpl⟩
theorem we_bm {name:Str} {apos cpos:Pos} {r:V→List V→Hp→VK→Prop} (pa:PlainAttrs T) (slot:Slot T name id) (hty:typeOf (.builtin id)=pure (.type "method_descriptor")) (hm:MtR X id r) (ho:PEw X o to) (ha:PAw X (e::es) t)
    (hbase:attributeBase o name X.env (eval o X.env)=eval o X.env:=by rfl)
    (hfew:((backTo cpos (starEach (e::es) X.env)).all (fun x=>!x.1)&&(backToKw cpos (keywordEach [] X.env)).all (fun x=>x.1.isSome)
      && decide ((e::es).length+([]:List Keyword).length+(if ([]:List Keyword).isEmpty then 0 else 1)<30))=true:=by rfl)
    (hline:(apos.endLine == cpos.line)=true:=by rfl) (hs:starEach (e::es) X.env=(false,eval e X.env)::starEach es X.env:=by first | exact se_Name | exact se_Constant | exact se_BoolOp | exact se_BinOp | exact se_UnaryOp | exact se_IfExp | exact se_Dict | exact se_ListComp | exact se_Compare | exact se_Call | exact se_Attribute | exact se_Subscript | exact se_List | exact se_Tuple | exact se_JoinedStr | exact se_GeneratorExp) (hplain:(backTo cpos (starEach es X.env)).any (·.1)=false:=by repeat (first | exact ap_nil | refine ap_cons (by first | exact se_Name | exact se_Constant | exact se_BoolOp | exact se_BinOp | exact se_UnaryOp | exact se_IfExp | exact se_Dict | exact se_ListComp | exact se_Compare | exact se_Call | exact se_Attribute | exact se_Subscript | exact se_List | exact se_Tuple | exact se_JoinedStr | exact se_GeneratorExp) ?_)) :
    PEw X (.Call (.Attribute o name apos) (e::es) [] cpos) (tBM X.K T r to t):=⟨pe_bm pa slot hty hm ho.p ha.p hbase hfew hline hs hplain⟩
theorem wss_nil:PSsw X [] tNext:=⟨pss_nil⟩
theorem wss_cons (h1:PSw X st ts) (h2:PSsw X sts us):PSsw X (st::sts) (tSeq ts us):=⟨pss_cons h1.p h2.p⟩
theorem wss_one (h1:PSw X st ts):PSsw X [st] ts:=⟨pss_one h1.p⟩
theorem ws_expr (he:PEw X e te) (hs:swapsWith e none pos.line X.env=pure false:=by rfl):PSw X (.Expr e pos) (tDrop te):=⟨ps_expr he.p hs⟩
theorem ws_ret (he:PEw X e te):PSw X (.Return (some e) pos) (tRet te):=⟨ps_ret he.p⟩
theorem ws_if {c:Expr} {a b:List Stmt} (hc:PTw X c tA) (ha:PSsw X a ts) (hb:PSsw X b us):PSw X (.If c a b pos) (tIfS tA ts us):=⟨ps_if hc.p ha.p hb.p⟩
theorem ws_cut (h:PSw X st ts):PSw X st (tCut ts):=⟨ps_cut h.p⟩
theorem wg_name {i:Nat} {x:Str} (hN:X.N.Nodup) (hi:X.N[i]?=some x) (hx:Loc X.env.scope x) (hf:X.fn x=true∨X.env.scope.names.lookup x=some .local:=by first | exact .inl rfl | exact .inr rfl | assumption):PGw X (.Name x pos) (gName i):=⟨pg_name hN hi hx hf⟩
theorem wgs_nil:PGsw X [] gNil:=⟨pgs_nil⟩
theorem wgs_cons {t:TG} {u:TGs} (h1:PGw X e t) (h2:PGsw X es u)
    (hs:(assignEach (e::es) X.env).map (·.2)=assign e X.env::(assignEach es X.env).map (·.2):=by rfl):PGsw X (e::es) (gCons t u):=⟨pgs_cons h1.p h2.p hs⟩
theorem wg_tup {k:Nat} {t:TGs} {n:Nat} (hc:X.calm=true) (h:PGsw X es t)
    (hn:(assignEach es X.env).length=n:=by rfl) (hst:(assignEach es X.env).findIdx? (·.1)=none:=by rfl):PGw X (.Tuple es k pos) (gTup X.K n t):=⟨pg_tup hc h.p hn hst⟩
theorem wg_sub {i:Expr} {ti:TE} {t:TSet} (ho:PEw X o to) (hi:PEw X i ti) (hs:PSet X t)
    (ha:∀ v,assign (.Subscript o i pos) X.env v=(do
      let ov ← holding [v] (eval o X.env)
      let iv ← holding [v,ov] (eval i X.env)
      standAt pos
      holding [v,ov,iv] (setItem ov iv v)
      release [v,ov,iv] []):=by intro _; rfl):PGw X (.Subscript o i pos) (gSub to ti t):=⟨pg_sub ho.p hi.p hs ha⟩
theorem ws_asg {g:TG} (he:PEw X e te) (hg:PGw X tg g) (hs:swapsWithSole [tg] e pos.line X.env=pure false:=by rfl) (hw:swappedStores [tg] e X.env=pure none:=by rfl) (h1:(assignEach [tg] X.env).map (·.2)=[assign tg X.env]:=by rfl):PSw X (.Assign [tg] e pos) (tAsg te g):=⟨ps_asg he.p hg.p hs hw h1⟩
theorem ws_set {i:Nat} {pos':Pos} (hN:X.N.Nodup) (hi:X.N[i]?=some x) (hx:Loc X.env.scope x) (he:PEw X e te) (hs:swapsWith e (some (.Name x pos')) pos.line X.env=pure false:=by rfl) (hf:X.fn x=true∨X.env.scope.names.lookup x=some .local:=by first | exact .inl rfl | exact .inr rfl | assumption) :
    PSw X (.Assign [.Name x pos'] e pos) (tAsg te (gName i)):=⟨ps_set hN hi hx he.p hs hf⟩
theorem ws_par {i j:Nat} {x y:Str} {ta:TA} {px py pt:Pos} {kt k2 pt2} (hc:X.calm=true) (hN:X.N.Nodup) (hi:X.N[i]?=some x) (hj:X.N[j]?=some y) (hij:i≠j)
    (hx:X.env.scope.names.lookup x=some .local) (hy:X.env.scope.names.lookup y=some .local) (ha:PAw X [a,b] ta)
    (hw:swappedStores [.Tuple [.Name x px,.Name y py] kt pt] (.Tuple [a,b] k2 pt2) X.env=pure (some [x,y]))
    (hs:swapsWithSole [.Tuple [.Name x px,.Name y py] kt pt] (.Tuple [a,b] k2 pt2) pos.line X.env=pure false:=by rfl) :
    PSw X (.Assign [.Tuple [.Name x px,.Name y py] kt pt] (.Tuple [a,b] k2 pt2) pos) (tPar i j ta):=⟨ps_par hc hN hi hj hij hx hy ha.p hw hs⟩
theorem ws_while {c:Expr} {tc:TT} {tb:TS} (hp:PassesOwn (model X.prog X.w) X.A X.env X.xe) (hc:PTw X c tc) (hb:PSsw X body tb):PSw X (.While c body [] pos) (tWhile (tMono tc) tb):=⟨ps_whileM hp hc.p hb.p⟩
theorem wi_list {l:Expr} {tl:TE} (hl:PEw X l tl):PIw X tg l (iList X.K tl):=⟨pi_list hl.p⟩
theorem wi_tup {l:Expr} {tl:TE} (hl:PEw X l tl):PIw X tg l (iTup X.K tl):=⟨pi_tup hl.p⟩
theorem wi_range1 {a:Expr} {ta:TA} {p pos:Pos} (hg:Gl X "range") (hm:X.mg "range" = none) (ha:PAw X [a] ta) (hs:starEach [a] X.env=[(false,eval a X.env)]:=by first | exact se_Name | exact se_Constant | exact se_BoolOp | exact se_BinOp | exact se_UnaryOp | exact se_IfExp | exact se_Dict | exact se_ListComp | exact se_Compare | exact se_Call | exact se_Attribute | exact se_Subscript | exact se_List | exact se_Tuple | exact se_JoinedStr | exact se_GeneratorExp):PIw X tg (.Call (.Name "range" p) [a] [] pos) (iRng1 ta):=⟨pi_range1 hg hm ha.p hs⟩
theorem wi_range2 {a b:Expr} {ta:TA} {p pos:Pos} (hg:Gl X "range") (hm:X.mg "range" = none) (ha:PAw X [a,b] ta) (hs:starEach [a,b] X.env=[(false,eval a X.env),(false,eval b X.env)]:=by rfl) (hs2:starEach [b] X.env=[(false,eval b X.env)]:=by first | exact se_Name | exact se_Constant | exact se_BoolOp | exact se_BinOp | exact se_UnaryOp | exact se_IfExp | exact se_Dict | exact se_ListComp | exact se_Compare | exact se_Call | exact se_Attribute | exact se_Subscript | exact se_List | exact se_Tuple | exact se_JoinedStr | exact se_GeneratorExp) :
    PIw X tg (.Call (.Name "range" p) [a,b] [] pos) (iRng2 ta):=⟨pi_range2 hg hm ha.p hs hs2⟩
theorem ws_for {iter:Expr} {wi:TI} {g:TG} {tb:TS} {pos:Pos} (hp:PassesOwn (model X.prog X.w) X.A X.env X.xe) (hc:X.calm=true) (hi:PIw X tg iter wi) (hg:PGw X tg g) (hb:PSsw X body tb)
    (hs:∀ x,foldedSetIterable iter X.env x=pure x:=by intro _; rfl):PSw X (.For tg iter body [] pos) (tFor wi g tb):=⟨ps_for hp hc hi.p hg.p hb.p hs⟩
end
theorem Fun.okw {P:Program} {w:World} {K:PySem.W.Frag} {mg:Str→Option Value} {base:Heap} {x qual:Str} {st:Stmt} {f:Addr} {fd:FuncData} {N ps:List Str} {k:Nat} {sp:Sp} (F:Fun K x qual st f fd) (S:FnScope N ps (defScope st)) (len:∀ vs H Q E,sp vs H Q E→vs.length=ps.length)
    (hbody:∀ (cdv:Value) (A:Around) (outer:List Env) (s:Shared) (H:Hp) (vs:List V) (Q:VK) (E:XK),Room k (A.deeper (envOfC qual (defScope st) s.heap.objs.size f cdv))→sp vs H Q E →
      ∃ t,PSsw (cxOf CX0 P w K mg base N qual (defScope st) f cdv A outer s H E).nox (defBody st) t∧t { nx:=fun _ H'=>Q .non H',rt:=Q } (start N vs) H):FnOk P w K mg base CX0 (k+1) f fd ps sp :=
  F.ok S len fun cdv A outer s H vs Q E hr h=>by
    obtain ⟨t,h1,h2⟩:=hbody cdv A outer s H vs Q E hr h
    exact ⟨t,h1.p,h2⟩
end L2
set_option Elab.async false
set_option linter.all false
set_option maxRecDepth 100000
namespace L2
open PySem PySem.Spec PyProof.Rows
theorem gcd_step (a b:Int):Int.gcd b (a % b)=Int.gcd a b:=by
  have h:=Int.gcd_add_mul_right_right b (a % b) (a / b)
  rw [show a % b+a / b*b=a from by have:=Int.emod_add_mul_ediv a b; rw [Int.mul_comm]; exact this] at h
  rw [← h,Int.gcd_comm]
theorem gcd_end {a:Int} (h:0<a):(Int.gcd a 0:Int)=a:=by rw [Int.gcd_zero_right]; omega
section
variable {H:Hp} {x:V} {d:PyData} {Q:VK}
end
theorem RepL.len {H:Hp}:∀ {ds:List PyData} {vs:List V},RepL H ds vs→vs.length=ds.length
  | [],_,h=>by cases (show _=[] from h); rfl
  | d::ds,_,h=>by
    unfold RepL at h
    obtain ⟨x,xs,rfl,_,h2⟩:=h
    simp [RepL.len h2]
section
variable {p:Addr} {σ:St} {t:TE} {ta:TA} {d:PyData} {ds:List PyData}
end
theorem atI_mem {α:Type} {xs:List α} {x:Int} (h0:0≤x) (h1:x<xs.length):∃ v,atI xs x=some v∧v∈xs∧xs[x.toNat]?=some v:=by
  have h:x.toNat<xs.length:=by omega
  have e:=List.getElem?_eq_getElem h
  have:=atI_nat e
  rw [Int.toNat_of_nonneg h0] at this
  exact ⟨_,this,List.getElem_mem h,e⟩
theorem RepL.append {H:Hp} {es:List PyData} {ws:List V} (h':RepL H es ws):∀ {ds:List PyData} {vs:List V},RepL H ds vs→RepL H (ds++es) (vs++ws)
  | [],_,h=>by cases (show _=[] from h); exact h'
  | d::ds,_,h=>by
    unfold RepL at h
    obtain ⟨x,xs,rfl,h1,h2⟩:=h
    exact RepL.cons h1 (RepL.append h' h2)
end L2
namespace L2
end L2
namespace L2
open PySem PySem.Spec PyProof.Rows
theorem Same.thru {l:Addr} {H0 H1 H2:Hp} (hl:H0 l=none) (s:Same H0 H1) (b:SameBut l H1 H2):Same H0 H2:=fun c o e=>by
  have n:c≠l:=ne_of_none e hl
  exact b.at n (s _ _ e)
theorem catL {H:Hp} {l b:Addr} {xs zs:List V} {Q:VK} (h1:H l=some (.lst xs)) (h2:H b=some (.lst zs)) (hz:xs.length+zs.length≤1000) (k:∀ q H',H q=none→H' q=some (.lst (xs++zs))→Same H H'→Q (.ref q) H'):rCat (.ref l) (.ref b) H Q :=
  ⟨l,b,xs,zs,rfl,rfl,h1,h2,Nat.le_of_lt (small1000 hz),fun q hq=>k q _ hq upd_same (Same.upd hq)⟩
@[irreducible] def rApp:V→List V→Hp→VK→Prop:=rAppend
theorem mt_app {X:Cx}:MtR X "list.append" rApp:=by unfold rApp; exact mt_append
theorem appL {H:Hp} {l:Addr} {xs:List V} {y:V} {Q:VK} (h:H l=some (.lst xs)) (hz:xs.length≤1000) (k:∀ H',H' l=some (.lst (xs++[y]))→SameBut l H H'→Q .non H'):rApp (.ref l) [y] H Q:=by
  unfold rApp; exact ⟨l,xs,y,rfl,rfl,h,small1000 hz,k _ upd_same SameBut.self⟩
theorem tyL {K:PySem.W.Frag} {H:Hp} {l:Addr} {xs:List V} (h:H l=some (.lst xs)):tyV K "list" (.ref l) H:=.inl ⟨rfl,xs,SqL.of h⟩
end L2
set_option Elab.async false
set_option linter.all false
set_option maxRecDepth 100000
namespace L2
open PySem PySem.Spec PyProof.Rows
def closL (env:Env):List (Str × NameKind)→List (Str × Addr)→List (Str × Addr)
  | [],cs=>cs
  | (n,k)::r,cs=>if k == .free then closL env r ((n,(env.cells.lookup n).getD 0)::cs) else closL env r cs
theorem clos_eq (env:Env):∀ (l:List (Str × NameKind)) (cs:List (Str × Addr)),(∀ y∈l,y.2=.free→∃ c,env.cells.lookup y.1=some c) →
    (forIn l cs fun (x:Str × NameKind) r=>if x.2 == .free then (do let c ← cellOf env x.1; pure (ForInStep.yield ((x.1,c)::r)):Sem _) else pure (ForInStep.yield r))=pure (closL env l cs)
  | [],cs,_=>rfl
  | (n,k)::r,cs,h=>by
    rw [List.forIn_cons]
    have ih:=fun cs=>clos_eq env r cs fun y hy=>h y (List.mem_cons_of_mem _ hy)
    by_cases hk:(k == NameKind.free)=true
    · obtain ⟨c,hc⟩:=h (n,k) List.mem_cons_self (by simpa using hk)
      dsimp only at hc
      simp only [hk,if_true,closL,hc,Option.getD_some,cellOf,pure_bind]
      exact ih _
    · simp only [hk,closL,pure_bind]
      exact ih _
theorem closureFor_eq {env:Env} {scope:Scope} (h:∀ y∈scope.names,y.2=.free→∃ c,env.cells.lookup y.1=some c):closureFor scope env=pure (closL env scope.names []):=by
  have e:=clos_eq env scope.names [] h
  unfold closureFor
  simp only [bind_pure]
  exact e
theorem closL_mem {env:Env}:∀ (l:List (Str × NameKind)) (cs:List (Str × Addr)),(∀ y∈l,y.2=.free→∃ c,env.cells.lookup y.1=some c)→∀ p∈closL env l cs,p∈cs∨env.cells.lookup p.1=some p.2
  | [],cs,_,p,hp=>.inl hp
  | (n,k)::r,cs,h,p,hp=>by
    have h':∀ y∈r,y.2=.free→∃ c,env.cells.lookup y.1=some c:=fun y hy=>h y (List.mem_cons_of_mem _ hy)
    unfold closL at hp
    by_cases hk:(k == NameKind.free)=true
    · rw [if_pos hk] at hp
      obtain ⟨c,hc⟩:=h (n,k) List.mem_cons_self (by simpa using hk)
      rcases closL_mem r _ h' p hp with hm | hm
      · rcases List.mem_cons.mp hm with rfl | hm
        · exact .inr (by dsimp only at hc ⊢; rw [hc]; rfl)
        · exact .inl hm
      · exact .inr hm
    · rw [if_neg hk] at hp
      exact closL_mem r cs h' p hp
theorem closL_acc {env:Env}:∀ (l:List (Str × NameKind)) (cs:List (Str × Addr)),∀ p∈cs,p∈closL env l cs
  | [],_,_,hp=>hp
  | (n,k)::r,cs,p,hp=>by
    unfold closL
    by_cases hk:(k == NameKind.free)=true
    · rw [if_pos hk]; exact closL_acc r _ p (List.mem_cons_of_mem _ hp)
    · rw [if_neg hk]; exact closL_acc r _ p hp
theorem closL_has {env:Env}:∀ (l:List (Str × NameKind)) (cs:List (Str × Addr)) (y:Str),(y,NameKind.free)∈l→∃ a,(y,a)∈closL env l cs
  | (n,k)::r,cs,y,hy=>by
    unfold closL
    rcases List.mem_cons.mp hy with e | hm
    · cases e
      rw [if_pos (by rfl)]
      exact ⟨_,closL_acc r _ _ List.mem_cons_self⟩
    · by_cases hk:(k == NameKind.free)=true
      · rw [if_pos hk]; exact closL_has r _ y hm
      · rw [if_neg hk]; exact closL_has r _ y hm
theorem lookup_mem {α β:Type} [BEq α] [LawfulBEq α] {x:α} {c:β}:∀ {l:List (α × β)},l.lookup x=some c→(x,c)∈l
  | [],h=>by cases h
  | (a,b)::r,h=>by
    rw [List.lookup_cons] at h
    by_cases e:(x == a)=true
    · rw [e] at h
      have:x=a:=by simpa using e
      subst this
      cases h
      exact List.mem_cons_self
    · have e':(x == a)=false:=by simpa using e
      rw [e'] at h
      exact List.mem_cons_of_mem _ (lookup_mem h)
theorem mem_lookup {α β:Type} [BEq α] [LawfulBEq α] {x:α} {c:β}:∀ {l:List (α × β)},(x,c)∈l→∃ c',l.lookup x=some c'
  | (a,b)::r,h=>by
    rw [List.lookup_cons]
    by_cases e:(x == a)=true
    · rw [e]; exact ⟨_,rfl⟩
    · have e':(x == a)=false:=by simpa using e
      rw [e']
      rcases List.mem_cons.mp h with q | q
      · cases q; simp at e
      · exact mem_lookup q
def clOf (X:Cx) (scope:Scope):List (Str × Addr):=closL X.env scope.names []
theorem clOf_env {X:Cx} {scope:Scope} (h:∀ y∈scope.names,y.2=.free→∃ c,X.env.cells.lookup y.1=some c) {x:Str} {c:Addr} (e:(clOf X scope).lookup x=some c):X.env.cells.lookup x=some c:=by
  rcases closL_mem scope.names [] h _ (lookup_mem e) with hm | hm
  · cases hm
  · exact hm
theorem clOf_has {X:Cx} {scope:Scope} (h:∀ y∈scope.names,y.2=.free→∃ c,X.env.cells.lookup y.1=some c) {x:Str} (hx:(x,NameKind.free)∈scope.names) {c:Addr} (e:X.env.cells.lookup x=some c):(clOf X scope).lookup x=some c:=by
  obtain ⟨a,ha⟩:=closL_has (env:=X.env) scope.names [] x hx
  obtain ⟨c',hc'⟩:=mem_lookup ha
  have:=clOf_env h hc'
  rw [e] at this
  cases this
  exact hc'
def cxC (X:Cx) (scope:Scope) (C:Addr) (fp:List Addr) (s₀:Shared) (H₀:Hp) (N':List Str):Cx where
  prog:=X.prog
  w:=X.w
  K:=X.K
  mg:=X.mg
  base:=X.base
  A:=X.A
  N:=N'
  s₀:=s₀
  H₀:=H₀
  env:=compEnvC scope (clOf X scope) C X.env
  outer:=X.stack
  stack:=X.stack
  ex:=fp
  fn:=fun _=>false
  calm:=true
  pn:=[]
  xe:=fun _ _=>False
def slots (σ:St) (js:List Nat):St:=js.map fun j=>(σ[j]?).getD none
def PTs (X:Cx) (ifs:List Expr) (t:TT):Prop :=
  ∀ (pins:List (Addr × Obj)) (s:Shared) (σ:St) (H:Hp) (Q:Bool→Hp→Prop),Inv X pins σ H s→t σ H Q →
    wpAny (model X.prog X.w) X.A (forIn ifs true fun c r=>if r=true then do let ok ← isTrue c X.env (eval c X.env); pure (ForInStep.yield ok) else pure (ForInStep.yield r)) (TP X pins σ Q) X.xe s
def tYes:TT:=fun _ H Q=>Q true H
theorem pts_nil {X:Cx}:PTs X [] tYes:=fun pins s σ H Q I h=>wpAny_tests_nil ⟨H,I,h⟩
theorem pts_one {X:Cx} {c:Expr} {t:TT} (h:PT X c t):PTs X [c] t:=fun pins s σ H Q I q=>wpAny_tests_one (h pins s σ H Q I q)
def tComp (wi:TI) (js:List Nat) (tc:TT) (te:TE):TE:=fun σ H Q=>wi σ H fun J H1=>∀ D,H1 D=none→∃ W:Nat→Nat→List V→Hp→Prop,(∃ m,W 0 m [] (upd H1 D (.lst []))) ∧
  ∀ i m ys H2,W i m ys H2→H2 D=some (.lst ys)∧((J.stop i H2∧Q (.ref D) H2)∨(J.go i H2∧ys.length<sizeLine∧∀ x H3,J.yld i H2 x H3 →
    tc (some x::slots σ js) H3 fun b H4=>if b=true then te (some x::slots σ js) H4 fun y H5=>H5 D=some (.lst ys)∧∃ m',m' < m∧W (i+1) m' (ys++[y]) (upd H5 D (.lst (ys++[y])))
      else H4 D=some (.lst ys)∧∃ m',m' < m∧W (i+1) m' ys H4))
structure CScope (X:Cx) (scope:Scope) (x:Str) (N':List Str) (js:List Nat):Prop where
  calm:X.calm=true
  free:∀ y∈scope.names,y.2=.free→X.env.kindOf y.1=some .cell
  cell:∀ y∈scope.names,y.2 ≠ .cell
  kind:scope.kind=.function
  names:∀ y∈scope.names,y.2=.local→scope.names.lookup y.1=some .local
  own:scope.names.lookup x=some .local
  nofl:∀ y,(y,NameKind.free)∈scope.names→scope.names.lookup y=some .local→False
  len:N'.length=js.length+1
  zero:N'[0]?=some x
  nd:N'.Nodup
  slot:∀ (i:Nat) (j:Nat),js[i]?=some j→∃ y,N'[i+1]?=some y∧X.N[j]?=some y∧(y,NameKind.free)∈scope.names
end L2
set_option Elab.async false
set_option linter.all false
set_option maxRecDepth 100000
namespace L2
open PySem PySem.Spec PyProof.Rows
section
variable {X:Cx} {pins:List (Addr × Obj)} {σ:St} {H:Hp} {s:Shared} {scope:Scope} {x:Str} {N':List Str} {js:List Nat} {fp:List Addr}
theorem CScope.cells (S:CScope X scope x N' js) (ok:X.Ok):∀ y∈scope.names,y.2=.free→∃ c,X.env.cells.lookup y.1=some c:=fun y hy hf=>ok.has _ (.inl (S.free y hy hf))
theorem relabel_cases {env:Env}:∀ {names:List (Str × NameKind)} {y:Str} {k:NameKind},(names.map fun (n,k)=>if (k == NameKind.free&&env.scope.kind == .function&&env.kindOf n == some .cell) then (n,NameKind.cell) else (n,k)).lookup y=some k →
    (k=.cell∨k=.free)→(∀ z∈names,z.2 ≠ .cell)→(y,NameKind.free)∈names
  | [],_,_,h,_,_=>by cases h
  | (n,q)::r,y,k,h,hk,hc=>by
    rw [List.map_cons,List.lookup_cons] at h
    have ih:=fun h=>@relabel_cases env r y k h hk fun z hz=>hc z (List.mem_cons_of_mem _ hz)
    by_cases hq:(q == NameKind.free&&env.scope.kind == .function&&env.kindOf n == some .cell)=true
    · dsimp only at h
      rw [if_pos hq] at h
      have qf:q=.free:=by
        rw [Bool.and_eq_true,Bool.and_eq_true] at hq
        simpa using hq.1.1
      subst qf
      by_cases e:(y == n)=true
      · have:y=n:=by simpa using e
        subst this
        exact List.mem_cons_self
      · have e':(y == n)=false:=by simpa using e
        dsimp only at h
        rw [e'] at h
        exact List.mem_cons_of_mem _ (ih h)
    · dsimp only at h
      rw [if_neg hq] at h
      by_cases e:(y == n)=true
      · have:y=n:=by simpa using e
        subst this
        dsimp only at h
        rw [e] at h
        have hkq:k=q:=by injection h with h; exact h.symm
        subst hkq
        rcases hk with rfl | rfl
        · exact absurd rfl (hc _ List.mem_cons_self)
        · exact List.mem_cons_self
      · have e':(y == n)=false:=by simpa using e
        dsimp only at h
        rw [e'] at h
        exact List.mem_cons_of_mem _ (ih h)
theorem cxC_ok (S:CScope X scope x N' js) (I:Inv X pins σ H s) (hf:∀ b∈fp,FpOk X pins H b) (hb:∀ b∈fp,b<s.heap.objs.size):(cxC X scope s.heap.objs.size fp s H N').Ok where
  mod:=I.ok.mod
  kind:=S.kind
  glob:=I.ok.glob
  blt:=I.ok.blt
  above:=Nat.le_refl _
  inj:=fun y z c h1 h2=>I.ok.inj y z c (clOf_env (S.cells I.ok) h1) (clOf_env (S.cells I.ok) h2)
  has:=fun y hy=>by
    have hm:(y,NameKind.free)∈scope.names:=by
      rcases hy with hy | hy
      · exact relabel_cases (env:=X.env) hy (.inl rfl) S.cell
      · exact relabel_cases (env:=X.env) hy (.inr rfl) S.cell
    obtain ⟨c,hc⟩:=S.cells I.ok _ hm rfl
    exact ⟨c,clOf_has (S.cells I.ok) hm hc⟩
  cab:=fun _ _ h=>by cases h
  hd:=fun _=>I.ok.hd S.calm
  frames:=I.ok.frames
  stk:=.inl rfl
  exf:=fun b hb'=>⟨fun e=>by have:=hb b hb'; rw [e] at this; exact Nat.lt_irrefl _ this,fun y c h=>(hf b hb').2.2.2.2.1 y c (clOf_env (S.cells I.ok) h)⟩
  bs:=I.bs
  bsz:=Nat.le_trans I.ok.bsz I.sz
  noex:=fun b o e hb'=>by
    rcases (hf b hb').2.2.2.1 with h | h
    · exact I.ok.noex b o e h
    · exact absurd (Nat.lt_of_lt_of_le (Heap.lt_size e) (Nat.le_trans I.ok.bsz h)) (Nat.lt_irrefl _)
  exfs:=fun b hb' hs=>by
    have h2:=I.stkSub b hs
    rcases List.mem_cons.mp h2 with h2 | h2
    · exact (hf b hb').2.1 h2
    · exact (hf b hb').2.2.1 h2
  funs:=I.stack
  frf:=I.stkFree
theorem slots_get {i j:Nat} (h:js[i]?=some j):(slots σ js)[i]?=some ((σ[j]?).getD none):=by
  unfold slots; rw [List.getElem?_map,h]; rfl
theorem cxC_inv {h':Heap} {tk:Nat} (S:CScope X scope x N' js) (I:Inv X pins σ H s) (hf:∀ b∈fp,FpOk X pins H b) (hb:∀ b∈fp,b<s.heap.objs.size)
    (hn:h'.Ns s.heap.objs.size (fun _=>none)) (hk:∀ b o,s.heap.get? b=some o→h'.get? b=some o):Inv (cxC X scope s.heap.objs.size fp s H N') [] (none::slots σ js) H { s with heap:=h',toks:=tk } where
  ok:=cxC_ok S I hf hb
  os:=rfl
  bare:=I.bare
  base:=Un.kept hk
  loc:=by
    refine ⟨_,hn,fun i y v hi hv hvis=>?_⟩
    cases i with
    | zero=>cases hv
    | succ i =>
      have hv':(slots σ js)[i]?=some (some v):=hv
      have hlt:i<js.length:=by
        have:=(List.getElem?_eq_some_iff.mp hv').1
        unfold slots at this
        rwa [List.length_map] at this
      have hj:js[i]?=some js[i]:=List.getElem?_eq_getElem hlt
      obtain ⟨z,h1,h2,h3⟩:=S.slot i _ hj
      have hzy:z=y:=by
        have:N'[i+1]?=some y:=hi
        rw [h1] at this; cases this; rfl
      subst hzy
      rw [slots_get hj] at hv'
      have hσ:σ[js[i]]?=some (some v):=by
        cases q:σ[js[i]]? with
        | none=>rw [q] at hv'; cases hv'
        | some o=>rw [q] at hv'; cases hv'; rfl
      have hkc:X.env.kindOf z=some .cell:=S.free _ h3 rfl
      obtain ⟨m,hm,hl⟩:=I.loc
      obtain ⟨u,ru,lk⟩:=hl _ z v h2 hσ (.inr (.inl hkc))
      rcases lk with ⟨hk1,_⟩ | ⟨_,c,hc,hcell⟩
      · rw [hkc] at hk1; cases hk1
      · refine ⟨u,ru,.inr ⟨?_,c,clOf_has (S.cells I.ok) h3 hc,?_⟩⟩
        · rcases hvis with hvis | hvis | hvis
          · exfalso
            have hcl:=clOf_has (S.cells I.ok) h3 hc
            have hm2:=lookup_mem (l:=(relabel scope X.env).names) hvis
            unfold relabel at hm2
            obtain ⟨⟨n,k⟩,hmem,he⟩:=List.mem_map.mp hm2
            dsimp only at he
            by_cases hq:(k == NameKind.free&&X.env.scope.kind == .function&&X.env.kindOf n == some .cell)=true
            · rw [if_pos hq] at he; cases he
            · rw [if_neg hq] at he
              cases he
              have:=S.names _ hmem rfl
              have l2:=mem_lookup h3
              obtain ⟨c',l2⟩:=l2
              dsimp only at this
              rw [this] at l2
              have key:(relabel scope X.env).names.lookup z=some .local:=lookup_relabel_local this
              have hck:scope.names.lookup z=some .local:=this
              exact S.nofl z h3 hck
          · exact .inl hvis
          · exact .inr hvis
        · obtain ⟨o,e,r⟩:=hcell
          exact ⟨o,hk _ _ e,r⟩
  cell:=fun y c h=>by
    obtain ⟨v,o,e,r⟩:=I.cell y c (clOf_env (S.cells I.ok) h)
    exact ⟨v,o,hk _ _ e,r⟩
  free:=I.hok.fresh (Nat.le_refl _)
  freeC:=fun y c h=>I.freeC y c (clOf_env (S.cells I.ok) h)
  pin:=fun p hp=>by cases hp
  hok:=I.hok.kept hk
  len:=by
    show (slots σ js).length+1=N'.length
    unfold slots
    rw [List.length_map,S.len]
theorem HOk.but {P:Program} {w:World} {H:Hp} {h h':Heap} {C:Addr} (x:HOk P w H h) (hC:H C=none) (k:∀ b u,b≠C→h.get? b=some u→h'.get? b=some u):HOk P w H h':=fun a o e =>
  (x a o e).stay (fun b u hb q=>k b u (by
    rcases hb with rfl | hb
    · exact ne_of_none e hC
    · exact ne_of_none hb hC) q) (fun _ q=>q) fun _ _ q=>q
theorem cxC_back {H2:Hp} {σ':St} {s2:Shared} {h'':Heap} (S:CScope X scope x N' js) (I:Inv X pins σ H s) (hf:∀ b∈fp,FpOk X pins H b)
    (J:Inv (cxC X scope s.heap.objs.size fp s H N') [] σ' H2 s2) (hs:Heap.SameBut s.heap.objs.size s2.heap h''):Inv X pins σ H2 { s2 with heap:=h'' }:=by
  have hC:H2 s.heap.objs.size=none:=J.free
  have ne:∀ {b:Addr} {o:Obj},s.heap.get? b=some o→b≠s.heap.objs.size:=fun e q=>by
    have:=Heap.lt_size e; rw [q] at this; exact Nat.lt_irrefl _ this
  refine I.call' (s':={ s2 with heap:=h'' }) (ch:=fp) (by rw [show ({ s2 with heap:=h'' }:Shared).os=s2.os from rfl]; exact J.os) ?_ (J.hok.but hC fun b u hb q=>hs.extBut b u hb q) J.bare fun b hb=>⟨(hf b hb).2.2.2.1,(hf b hb).2.1,(hf b hb).2.2.2.2.1,(hf b hb).2.2.2.2.2⟩
  have U:=J.base
  exact {
    keep:=fun b o e n h1 h2=>hs.extBut b o (ne e) (U.keep b o e n h1 h2)
    slot:=fun b o e n h1 h2=>by
      obtain ⟨sl,q⟩:=U.slot b o e n h1 h2
      exact ⟨sl,hs.extBut b _ (ne e) q⟩
    free:=U.free
    there:=fun b o e h2=>by
      obtain ⟨o',q⟩:=U.there b o e h2
      exact ⟨o',hs.extBut b _ (ne e) q⟩
    tups:=U.tups
    frzs:=U.frzs
    tbls:=U.tbls }
end
end L2
set_option Elab.async false
set_option linter.all false
set_option maxRecDepth 100000
namespace L2
open PySem PySem.Spec PyProof.Rows
abbrev NoX:Value→Shared→Prop:=fun _ _=>False
theorem compLoop_gen {prog:Program} {w:World} {A:Around} {R:Result→Shared→Prop} {s:Shared} {elt target iter:Expr} {ifs:List Expr} {scope:Scope} {pos:Pos} {it acc:Value} {env:Env} (I:Nat→Shared→Prop)
    (turn:∀ n s,I n s→wpAny (model prog w) A (pyNext it) (fun r s₁=>match r with
      | none=>R (.ok .next) s₁
      | some v=>wpAny (model prog w) A (letOwnedTupleGo target it v) (fun _ s₁'=>wpAny (model prog w) A (assign target env v) (fun _ s₂ =>
          wpAny (model prog w) A (forIn ifs true fun c r=>if r=true then do let ok ← isTrue c env (eval c env); pure (ForInStep.yield ok) else pure (ForInStep.yield r)) (fun ok s₃ =>
            if ok=true then wpAny (model prog w) A (eval elt env) (fun x s₄=>wpAny (model prog w) A (call (.builtin "list.append") [acc,x]) (fun _ s₅=>∃ m,m<n∧I m s₅) NoX s₄) NoX s₃
            else ∃ m,m<n∧I m s₃) NoX s₂) NoX s₁') NoX s₁) NoX s)
    (n:Nat) (h:I n s):codeAny (model prog w) A (.compLoop (.ListComp elt [⟨target,iter,ifs,0⟩] scope pos) 0 it acc env) R s:=by
  refine codeAny_loop rfl I (fun n s hI=>?_) n h
  show wpAny _ A ((compTurn (.ListComp elt [⟨target,iter,ifs,0⟩] scope pos) 0 it acc env).onRaise (fun x=>do noteFrame x env; theTreesLotGoes x)) _ _ s
  refine wpAny_noted ?_
  rw [compTurn_list]
  refine wpAny_bind (wpAny_standAt (wpAny_bind (wpAny_mono (turn n s hI) (fun r s₁ h₁=>?_) fun _ _ h'=>h'.elim)))
  cases r with
  | none=>exact wpAny_pure h₁
  | some v =>
    refine wpAny_bind (wpAny_mono h₁ (fun _ s₁' h₁'=>?_) fun _ _ h'=>h'.elim)
    refine wpAny_bind (wpAny_mono h₁' (fun _ s₂ h₂=>wpAny_bind (wpAny_mono h₂ (fun ok s₃ h₃=>?_) fun _ _ h'=>h'.elim)) fun _ _ h'=>h'.elim)
    cases ok with
    | false=>exact wpAny_pure ⟨rfl,h₃⟩
    | true =>
      exact wpAny_bind (wpAny_bind (wpAny_mono h₃ (fun x s₄ h₄=>wpAny_bind (wpAny_mono h₄ (fun _ s₅ h₅=>wpAny_pure (wpAny_pure ⟨rfl,h₅⟩)) fun _ _ h'=>h'.elim)) fun _ _ h'=>h'.elim))
section
variable {X:Cx} {pins:List (Addr × Obj)} {σ:St} {H:Hp} {s:Shared} {scope:Scope} {x:Str} {N':List Str} {js:List Nat} {fp:List Addr} {elt iter:Expr} {px pos:Pos} {ifs:List Expr} {tc:TT} {te:TE}
theorem comp_block {J:It} {it:Addr} {tn:Nat→Heap→Prop} {RR:Value→Addr→Result→Shared→Prop} {E:Value→Shared→Prop} {Q:VK}
    (S:CScope X scope x N' js) (I:Inv X pins σ H s) (T:Turn X.prog X.w X.K (.Name x px) J fp it tn) (h0:tn 0 s.heap) (hf:∀ b∈fp,FpOk X pins H b)
    (ht:∀ C fp s₀ H₀,PTs (cxC X scope C fp s₀ H₀ N') ifs tc) (he:∀ C fp s₀ H₀,PE (cxC X scope C fp s₀ H₀ N') elt te)
    (R:∀ D,H D=none→∃ W:Nat→Nat→List V→Hp→Prop,(∃ m,W 0 m [] (upd H D (.lst []))) ∧
      ∀ i m ys H2,W i m ys H2→H2 D=some (.lst ys)∧((J.stop i H2∧Q (.ref D) H2)∨(J.go i H2∧ys.length<sizeLine∧∀ x H3,J.yld i H2 x H3 →
        tc (some x::slots σ js) H3 fun b H4=>if b=true then te (some x::slots σ js) H4 fun y H5=>H5 D=some (.lst ys)∧∃ m',m' < m∧W (i+1) m' (ys++[y]) (upd H5 D (.lst (ys++[y])))
          else H4 D=some (.lst ys)∧∃ m',m' < m∧W (i+1) m' ys H4)))
    (hRR:∀ (D:Addr) (H3:Hp) (s3:Shared) (σ':St) (H':Hp) (s':Shared),Inv X pins σ H3 s3→(∀ b∈fp,FpOk X pins H3 b)→Inv (cxC X scope s3.heap.objs.size fp s3 H3 N') [] σ' H' s'→Q (.ref D) H'→RR (.ref D) s3.heap.objs.size (.ok .next) s') :
    wpAny (model X.prog X.w) X.A (newList []) (fun acc s₃=>wpAny (model X.prog X.w) X.A (newFunctionEnv scope X.env.globals (clOf X scope) [] X.env.qual none .none (some X.env)) (fun cenv s₄ =>
      codeAny (model X.prog X.w) X.A (.compStart (.ListComp elt [⟨.Name x px,iter,ifs,0⟩] scope pos) 0 (.ref it) acc { cenv with scope:=relabel scope X.env }) (RR acc cenv.locals) s₄) E s₃) E s:=by
  have hb:∀ b∈fp,b<s.heap.objs.size:=fun b hb=>by
    obtain ⟨o,e,_⟩:=T.obj 0 _ h0 b hb
    exact Heap.lt_size e
  refine wpAny_newObj_type (wpAny_newFunctionEnv S.cell (by intro y hy; simp at hy) (fun h₁ hns₁ hsb₁=>?_) S.kind)
  have hDn:H s.heap.objs.size=none:=I.hok.fresh (Nat.le_refl _)
  obtain ⟨W,⟨m0,hw0⟩,hW⟩:=R _ hDn
  have I3:Inv X pins σ (upd H s.heap.objs.size (.lst [])) { s with heap:=s.heap.push { cls:=.type "list",dict:=none,data:=.seq ([]:List Value).toArray } }:=I.lnew (its:=[]) (ys:=[]) (t':=s.toks) .nil (Nat.zero_le _)
  have hf3:∀ b∈fp,FpOk X pins (upd H s.heap.objs.size (.lst [])) b:=fun b hb' =>
    ⟨by rw [upd_ne (fun e=>by have:=hb b hb'; rw [e] at this; exact Nat.lt_irrefl _ this)]; exact (hf b hb').1,(hf b hb').2⟩
  have hb3:∀ b∈fp,b<(s.heap.push { cls:=.type "list",dict:=none,data:=.seq ([]:List Value).toArray }).objs.size:=fun b hb'=>by
    rw [Heap.size_push]; exact Nat.lt_succ_of_lt (hb b hb')
  have hkeep:∀ b o,(s.heap.push { cls:=.type "list",dict:=none,data:=.seq ([]:List Value).toArray }).get? b=some o→h₁.get? b=some o:=fun b o e =>
    hsb₁.extBut b o (fun q=>by have:=Heap.lt_size e; rw [q] at this; exact Nat.lt_irrefl _ this) (Heap.get?_push_of_some _ e)
  have J4:=cxC_inv (h':=h₁) (tk:=s.toks+([]:List (Str × Value)).length) S I3 hf3 hb3 hns₁ hkeep
  have t4:tn 0 h₁:=T.keep 0 _ _ h0 fun b hb' o e=>hkeep b o (Heap.get?_push_of_some _ e)
  have loop:codeAny (model X.prog X.w) X.A (.compLoop (.ListComp elt [⟨.Name x px,iter,ifs,0⟩] scope pos) 0 (.ref it) (.ref s.heap.objs.size) (compEnvC scope (clOf X scope) (s.heap.push { cls:=.type "list",dict:=none,data:=.seq ([]:List Value).toArray }).objs.size X.env))
      (RR (.ref s.heap.objs.size) (s.heap.push { cls:=.type "list",dict:=none,data:=.seq ([]:List Value).toArray }).objs.size) { s with heap:=h₁,toks:=s.toks+([]:List (Str × Value)).length }:=by
    refine compLoop_gen (fun n s'=>∃ (i:Nat) (ys:List V) (H2:Hp) (o:Option V),Inv (cxC X scope _ fp _ _ N') [] (o::slots σ js) H2 s'∧tn i s'.heap∧(∀ b∈fp,H2 b=none)∧W i n ys H2) ?_ m0 ⟨0,[],_,none,J4,t4,fun b hb'=>(hf3 b hb').1,hw0⟩
    rintro n s' ⟨i,ys,H2,o,J2,t2,f2,w2⟩
    obtain ⟨hD,hcase⟩:=hW i n ys H2 w2
    have Fp:∀ b∈fp,FpOk (cxC X scope (s.heap.push { cls:=.type "list",dict:=none,data:=.seq ([]:List Value).toArray }).objs.size fp { s with heap:=s.heap.push { cls:=.type "list",dict:=none,data:=.seq ([]:List Value).toArray } } (upd H s.heap.objs.size (.lst [])) N') [] H2 b:=fun b hb' =>
      ⟨f2 b hb',(J2.ok.exf b hb').1,J2.ok.exfs b hb',.inl hb',(J2.ok.exf b hb').2,fun p hp=>by cases hp⟩
    rcases hcase with ⟨hstop,hq⟩ | ⟨hgo,hz,hturn⟩
    · refine wpAny_mono (T.done (cxC X scope _ fp _ _ N') rfl rfl rfl rfl i [] s' _ H2 NoX J2 Fp t2 hstop) (fun r s1 ⟨hr,J5⟩=>?_) fun _ _ f=>f
      subst hr
      exact hRR _ _ _ _ _ _ I3 hf3 J5 hq
    · refine wpAny_mono (T.item (cxC X scope _ fp _ _ N') rfl rfl rfl rfl i [] s' _ H2 NoX J2 Fp t2 hgo) (fun r s1 ⟨u,hr,hx⟩=>?_) fun _ _ f=>f
      subst hr
      refine wpAny_mono hx (fun _ s2 ⟨v,H3,J3,rv,hy,t3,f3⟩=>?_) fun _ _ f=>f
      have Fp3:∀ b∈fp,FpOk (cxC X scope (s.heap.push { cls:=.type "list",dict:=none,data:=.seq ([]:List Value).toArray }).objs.size fp { s with heap:=s.heap.push { cls:=.type "list",dict:=none,data:=.seq ([]:List Value).toArray } } (upd H s.heap.objs.size (.lst [])) N') [] H3 b:=fun b hb' =>
        ⟨f3 b hb',(J3.ok.exf b hb').1,J3.ok.exfs b hb',.inl hb',(J3.ok.exf b hb').2,fun p hp=>by cases hp⟩
      have P3:=J3.pinned Fp3 (T.obj (i+1) _ t3)
      have keepT:∀ {σ':St} {Hx:Hp} {sx:Shared},Inv (cxC X scope (s.heap.push { cls:=.type "list",dict:=none,data:=.seq ([]:List Value).toArray }).objs.size fp { s with heap:=s.heap.push { cls:=.type "list",dict:=none,data:=.seq ([]:List Value).toArray } } (upd H s.heap.objs.size (.lst [])) N') ([]++pinsAt fp s2.heap) σ' Hx sx→tn (i+1) sx.heap∧∀ b∈fp,Hx b=none:=fun Jx =>
        ⟨T.keep (i+1) _ _ t3 fun b hb' ob e=>(Jx.pin (b,ob) (List.mem_append_right _ (List.mem_append_right _ (mem_pinsAt hb' e)))).1,fun b hb'=>by
          obtain ⟨ob,e,_⟩:=T.obj (i+1) _ t3 b hb'
          exact (Jx.pin (b,ob) (List.mem_append_right _ (List.mem_append_right _ (mem_pinsAt hb' e)))).2.1⟩
      refine wpAny_assign_Name (store_ok P3 (i:=0) (x:=x) (v:=v) ?nd ?hi ?hx rv (fun s5 J5=>?_) ?hfn)
      case nd=>exact S.nd
      case hi=>exact S.zero
      case hx=>exact .inl (lookup_relabel_local S.own)
      case hfn=>exact .inr (lookup_relabel_local S.own)
      have J5':Inv _ _ (some v::slots σ js) H3 s5:=J5
      refine wpAny_mono (ht _ _ _ _ _ _ _ _ _ J5' (hturn v H3 hy)) (fun ok s6 ⟨H6,J6,q6⟩=>?_) fun _ _ f=>f
      dsimp only at q6
      by_cases hok:ok=true
      · rw [if_pos hok] at q6 ⊢
        refine wpAny_mono (he _ _ _ _ _ _ _ _ _ J6 q6) (fun y s7 ⟨w',H7,J7,r7,hD7,m',hm',w7⟩=>?_) fun _ _ f=>f
        refine wpAny_mono (mt_append (X:=cxC X scope _ fp _ _ N') _ _ _ _ (.ref s.heap.objs.size) [w'] (.ref s.heap.objs.size) [y] (fun _ H8=>H8=upd H7 s.heap.objs.size (.lst (ys++[w']))) J7 rfl (.cons r7 .nil) ⟨_,_,_,rfl,rfl,hD7,hz,rfl⟩) (fun _ s8 ⟨_,H8,J8,_,e8⟩=>?_) fun _ _ f=>f
        subst e8
        obtain ⟨k1,k2⟩:=keepT J8
        exact ⟨m',hm',i+1,ys++[w'],_,some v,J8.unpinned,k1,k2,w7⟩
      · rw [if_neg hok] at q6 ⊢
        obtain ⟨_,m',hm',w7⟩:=q6
        obtain ⟨k1,k2⟩:=keepT J6
        exact ⟨m',hm',i+1,ys,_,some v,J6.unpinned,k1,k2,w7⟩
  refine codeAny_compStart_list loop (T.self X.A 0 _ _ _ t4 loop)
theorem pe_comp {wi:TI} (S:CScope X scope x N' js) (hi:PI X (.Name x px) iter wi) (ht:∀ C fp s₀ H₀,PTs (cxC X scope C fp s₀ H₀ N') ifs tc) (he:∀ C fp s₀ H₀,PE (cxC X scope C fp s₀ H₀ N') elt te)
    (hs:∀ x,foldedSetIterable iter X.env x=pure x:=by intro _; rfl):PE X (.ListComp elt [⟨.Name x px,iter,ifs,0⟩] scope pos) (tComp wi js tc te):=by
  intro pins s σ H Q I h
  rw [eval_ListComp]
  refine wpAny_comprehension_free (use:=none) rfl hs (closureFor_eq (S.cells I.ok)) S.kind S.names (wpAny_mono (hi pins s σ H _ I h) (fun v s1 h1=>?_) fun _ _ e=>e)
  refine wpAny_mono h1 (fun itv s2 ⟨it,fp,tn,J,H2,e,I2,T,t0,hf,R⟩=>?_) fun _ _ e=>e
  subst e
  refine comp_block S I2 T t0 hf ht he R ?_
  intro D H3 s3 σ' H' s' I3 hf3 J3 q
  obtain ⟨m,hm,_⟩:=J3.loc
  exact ⟨m,hm,fun h' hs'=>⟨.ref D,H',cxC_back S I3 hf3 J3 hs',rfl,q⟩⟩
theorem ps_setComp {wi:TI} {y:Str} {py spos:Pos} {i:Nat} (S:CScope X scope x N' js) (hN:X.N.Nodup) (hiN:X.N[i]?=some y) (hy:X.env.kindOf y=some .local) (hi:PI X (.Name x px) iter wi) (ht:∀ C fp s₀ H₀,PTs (cxC X scope C fp s₀ H₀ N') ifs tc) (he:∀ C fp s₀ H₀,PE (cxC X scope C fp s₀ H₀ N') elt te)
    (hsw:swapsWith (.ListComp elt [⟨.Name x px,iter,ifs,0⟩] scope pos) (some (.Name y py)) spos.line X.env=pure true) (hs:∀ x,foldedSetIterable iter X.env x=pure x:=by intro _; rfl) :
    PS X (.Assign [.Name y py] (.ListComp elt [⟨.Name x px,iter,ifs,0⟩] scope pos) spos) (tAsg (tComp wi js tc te) (gName i)):=by
  intro pins s σ H D0 I h
  rw [exec_Assign_Name_used _ _ _ _ hsw]
  refine wpAny_bind (wpAny_standAt (wpAny_bind ?_))
  show wpAny _ X.A (do let _ ← comprehension (.ListComp elt [⟨.Name x px,iter,ifs,0⟩] scope pos) scope X.env _ (newList []) false (eval iter X.env) (some (assign (.Name y py) X.env))) _ _ s
  refine wpAny_bind (wpAny_mono (wpAny_comprehension_free (use:=some (assign (.Name y py) X.env)) (Q:=fun _ s'=>SP X pins D0 .next s') rfl hs (closureFor_eq (S.cells I.ok)) S.kind S.names (wpAny_mono (hi pins s σ H _ I h) (fun v s1 h1=>?_) fun _ _ e=>e)) (fun _ s' hq=>wpAny_pure (wpAny_pure hq)) fun _ _ e=>e)
  refine wpAny_mono h1 (fun itv s2 ⟨it,fp,tn,J,H2,e,I2,T,t0,hf,R⟩=>?_) fun _ _ e=>e
  subst e
  refine comp_block (Q:=fun v H'=>gName i v σ H' D0.nx) S I2 T t0 hf ht he R ?_
  intro D H3 s3 σ' H' s' I3 hf3 J3 q
  obtain ⟨m,hm,_⟩:=J3.loc
  have IX:Inv X pins σ H' s':=cxC_back S I3 hf3 J3 (Heap.SameBut.refl ..)
  have hCL:s3.heap.objs.size≠X.env.locals:=fun e=>by have:=I3.lt; rw [e] at this; exact Nat.lt_irrefl _ this
  show wpAny _ X.A (assign (.Name y py) X.env (.ref D)) _ _ _
  refine wpAny_assign_Name (store_ok2 IX hN hiN (.inl hy) (v:=.ref D) rfl (fun s5 I5 hsb=>?_) (.inr hy))
  obtain ⟨a,hsb,ha⟩:=hsb
  have hCa:s3.heap.objs.size≠a:=by
    rcases ha with rfl | ha
    · exact hCL
    · intro e
      obtain ⟨v,o,eo,_⟩:=I3.cell y a ha
      have:=Heap.lt_size eo
      rw [← e] at this
      exact Nat.lt_irrefl _ this
  refine ⟨m,hm.sameBut hsb hCa,fun h' hs'=>⟨_,H',?_,q⟩⟩
  exact I5.turned (it:=s3.heap.objs.size) (t':=s5.toks) (fun b o n e=>hs'.extBut b o n e) J3.free hCL (.inr I3.sz)
    (fun z c hz e=>by
      obtain ⟨v,o,eo,_⟩:=I3.cell z c hz
      have:=Heap.lt_size eo
      rw [e] at this
      exact Nat.lt_irrefl _ this)
    (fun p hp e=>by
      have:=Heap.lt_size (I3.pin p hp).1
      rw [e] at this
      exact Nat.lt_irrefl _ this)
end
end L2
set_option Elab.async false
set_option linter.all false
set_option maxRecDepth 100000
namespace L2
open PySem PySem.Spec PyProof.Rows
structure PTsw (X:Cx) (ifs:List Expr) (t:TT):Prop where p:PTs X ifs t
def tMonoE (t:TE):TE:=fun σ H Q=>∃ Q':VK,t σ H Q'∧∀ v H1,Q' v H1→Q v H1
theorem PE.mono {X:Cx} {e:Expr} {t:TE} (h:PE X e t):PE X e (tMonoE t):=fun pins s σ H Q I ⟨Q',h1,h2⟩ =>
  thn (h pins s σ H Q' I h1) fun b s' ⟨v,H',I',r,q⟩=>⟨v,H',I',r,h2 _ _ q⟩
theorem PTs.mono {X:Cx} {es:List Expr} {t:TT} (h:PTs X es t):PTs X es (tMono t):=fun pins s σ H Q I ⟨Q',h1,h2⟩ =>
  thn (h pins s σ H Q' I h1) fun b s' ⟨H',I',q⟩=>⟨H',I',h2 _ _ q⟩
@[irreducible] def CompB (J:It) (σ:St) (js:List Nat) (tc:TT) (te:TE) (H1:Hp) (Q:VK):Prop:=∀ D,H1 D=none→∃ W:Nat→Nat→List V→Hp→Prop,(∃ m,W 0 m [] (upd H1 D (.lst []))) ∧
  ∀ i m ys H2,W i m ys H2→H2 D=some (.lst ys)∧((J.stop i H2∧Q (.ref D) H2)∨(J.go i H2∧ys.length<sizeLine∧∀ x H3,J.yld i H2 x H3 →
    tMono tc (some x::slots σ js) H3 fun b H4=>if b=true then tMonoE te (some x::slots σ js) H4 fun y H5=>H5 D=some (.lst ys)∧∃ m',m' < m∧W (i+1) m' (ys++[y]) (upd H5 D (.lst (ys++[y])))
      else H4 D=some (.lst ys)∧∃ m',m' < m∧W (i+1) m' ys H4))
def tCompB (wi:TI) (js:List Nat) (tc:TT) (te:TE):TE:=fun σ H Q=>wi σ H fun J H1=>CompB J σ js tc te H1 Q
section
variable {X:Cx} {scope:Scope} {x y:Str} {N':List Str} {js:List Nat} {elt iter c:Expr} {px py pos spos:Pos} {ifs:List Expr} {tc:TT} {te:TE} {wi:TI} {i:Nat}
theorem wts_nil:PTsw X [] tYes:=⟨pts_nil⟩
theorem wts_one {t:TT} (h:PTw X c t):PTsw X [c] t:=⟨pts_one h.p⟩
theorem we_comp (S:CScope X scope x N' js) (hi:PIw X (.Name x px) iter wi) (ht:∀ C fp s₀ H₀,PTsw (cxC X scope C fp s₀ H₀ N') ifs tc) (he:∀ C fp s₀ H₀,PEw (cxC X scope C fp s₀ H₀ N') elt te)
    (hs:∀ x,foldedSetIterable iter X.env x=pure x:=by intro _; rfl):PEw X (.ListComp elt [⟨.Name x px,iter,ifs,0⟩] scope pos) (tCompB wi js tc te) :=
  ⟨by unfold tCompB CompB; exact pe_comp S hi.p (fun C fp s₀ H₀=>(ht C fp s₀ H₀).p.mono) (fun C fp s₀ H₀=>(he C fp s₀ H₀).p.mono) hs⟩
theorem ws_setComp (S:CScope X scope x N' js) (hN:X.N.Nodup) (hiN:X.N[i]?=some y) (hy:X.env.kindOf y=some .local) (hi:PIw X (.Name x px) iter wi) (ht:∀ C fp s₀ H₀,PTsw (cxC X scope C fp s₀ H₀ N') ifs tc) (he:∀ C fp s₀ H₀,PEw (cxC X scope C fp s₀ H₀ N') elt te)
    (hsw:swapsWith (.ListComp elt [⟨.Name x px,iter,ifs,0⟩] scope pos) (some (.Name y py)) spos.line X.env=pure true:=by rfl) (hs:∀ x,foldedSetIterable iter X.env x=pure x:=by intro _; rfl) :
    PSw X (.Assign [.Name y py] (.ListComp elt [⟨.Name x px,iter,ifs,0⟩] scope pos) spos) (tAsg (tCompB wi js tc te) (gName i)) :=
  ⟨by unfold tCompB CompB; exact ps_setComp S hN hiN hy hi.p (fun C fp s₀ H₀=>(ht C fp s₀ H₀).p.mono) (fun C fp s₀ H₀=>(he C fp s₀ H₀).p.mono) hsw hs⟩
end
def cscOk (psc scope:Scope) (N:List Str) (x:Str) (N':List Str) (js:List Nat):Bool :=
  (scope.names.all fun y=>!(y.2 == .free) || psc.names.lookup y.1 == some .cell)&&(scope.names.all fun y=>!(y.2 == .cell))&&scope.kind == .function &&
  (scope.names.all fun y=>!(y.2 == .local) || scope.names.lookup y.1 == some .local)&&scope.names.lookup x == some .local &&
  (scope.names.all fun y=>!(y.2 == .free) || !(scope.names.lookup y.1 == some .local))&&N'.length == js.length+1&&N'[0]? == some x&&decide N'.Nodup &&
  ((List.range js.length).all fun i=>match js[i]?,N'[i+1]? with
    | some j,some y=>N[j]? == some y&&scope.names.contains (y,NameKind.free)
    | _,_=>false)
theorem CScope.of {X:Cx} {psc scope:Scope} {N:List Str} {x:Str} {N':List Str} {js:List Nat} (h:cscOk psc scope N x N' js=true) (hX:X.env.scope=psc) (hN:X.N=N) (hc:X.calm=true):CScope X scope x N' js:=by
  unfold cscOk at h
  simp only [Bool.and_eq_true] at h
  obtain ⟨⟨⟨⟨⟨⟨⟨⟨⟨h1,h2⟩,h3⟩,h4⟩,h5⟩,h6⟩,h7⟩,h8⟩,h9⟩,h10⟩:=h
  rw [List.all_eq_true] at h1 h2 h4 h6 h10
  refine ⟨hc,fun y hy e=>?_,fun y hy e=>?_,by simpa using h3,fun y hy e=>?_,by simpa using h5,fun y hy e=>?_,by simpa using h7,by simpa using h8,of_decide_eq_true h9,fun i j hj=>?_⟩
  · have:=h1 y hy
    rw [e] at this
    show X.env.scope.names.lookup y.1=_
    rw [hX]
    simpa using this
  · have:=h2 y hy
    rw [e] at this
    simp at this
  · have:=h4 y hy
    rw [e] at this
    simpa using this
  · have:=h6 _ hy
    rw [e] at this
    simp at this
  · have hi:i<js.length:=(List.getElem?_eq_some_iff.mp hj).1
    have:=h10 i (List.mem_range.mpr hi)
    rw [hj] at this
    cases q:N'[i+1]? with
    | none=>rw [q] at this; simp at this
    | some y =>
      rw [q] at this
      simp only [Bool.and_eq_true] at this
      exact ⟨y,rfl,by rw [hN]; simpa using this.1,List.contains_iff_mem.mp this.2⟩
section
variable {js:List Nat} {te:TE} {tc:TT} {σ:St} {H:Hp} {Q:VK}
theorem comp_any {J:It} {n:Nat} (src:Nat→V→Prop) (hz:n≤100000) (Pv:Addr→Nat→List V→Hp→Prop)
    (h0:∀ D H1,H D=none→H1 D=some (.lst [])→Same H H1→Pv D 0 [] H1)
    (hg:∀ D i ys H',i<n→H' D=some (.lst ys)→Pv D i ys H'→J.go i H'∧∀ x H3,J.yld i H' x H3→H3=H'∧src i x)
    (hst:∀ D ys H',H' D=some (.lst ys)→Pv D n ys H'→J.stop n H')
    (hs:∀ D i x ys H',src i x→i<n→ys.length=i→H' D=some (.lst ys)→Pv D i ys H'→te (some x::slots σ js) H' fun y H5=>H5 D=some (.lst ys)∧∀ H6,H6 D=some (.lst (ys++[y]))→SameBut D H5 H6→Pv D (i+1) (ys++[y]) H6)
    (hd:∀ D ys H',ys.length=n→H D=none→H' D=some (.lst ys)→Pv D n ys H'→Q (.ref D) H') :
    CompB J σ js tYes te H Q:=by
  unfold CompB
  intro D hD
  refine ⟨fun i m ys H'=>m=n - i∧i≤n∧ys.length=i∧H' D=some (.lst ys)∧Pv D i ys H',⟨n,by simp,Nat.zero_le _,rfl,upd_same,h0 D _ hD upd_same (Same.upd hD)⟩,?_⟩
  rintro i m ys H2 ⟨rfl,hi,hy,hD2,p⟩
  refine ⟨hD2,?_⟩
  by_cases hlt:i<n
  · obtain ⟨g1,g2⟩:=hg D i ys H2 hlt hD2 p
    refine .inr ⟨g1,Nat.lt_of_le_of_lt (m:=100000) (by omega) (by decide),fun x H3 hy3=>?_⟩
    obtain ⟨rfl,hx⟩:=g2 x H3 hy3
    refine ⟨fun b H4=>b=true∧H4=H3,⟨rfl,rfl⟩,?_⟩
    rintro b H4 ⟨rfl,rfl⟩
    rw [if_pos rfl]
    refine ⟨_,hs D i x ys H4 hx hlt hy hD2 p,?_⟩
    rintro v H5 ⟨hD5,k⟩
    exact ⟨hD5,n - (i+1),by omega,rfl,hlt,by rw [List.length_append,hy]; rfl,upd_same,k _ upd_same SameBut.self⟩
  · have e:i=n:=by omega
    subst e
    exact .inl ⟨hst D ys H2 hD2 p,hd D ys H2 hy hD hD2 p⟩
theorem comp_list {K:PySem.W.Frag} {a:Addr} {xs:List V} (hz:xs.length≤100000) (Pv:Addr→Nat→List V→Hp→Prop)
    (h0:∀ D H1,H D=none→H1 D=some (.lst [])→Same H H1→Pv D 0 [] H1)
    (hl:∀ D i ys H',i≤xs.length→H' D=some (.lst ys)→Pv D i ys H'→SqL K H' a xs)
    (hs:∀ D i x ys H',xs[i]?=some x→i<xs.length→ys.length=i→H' D=some (.lst ys)→Pv D i ys H'→te (some x::slots σ js) H' fun y H5=>H5 D=some (.lst ys)∧∀ H6,H6 D=some (.lst (ys++[y]))→SameBut D H5 H6→Pv D (i+1) (ys++[y]) H6)
    (hd:∀ D ys H',ys.length=xs.length→H D=none→H' D=some (.lst ys)→Pv D xs.length ys H'→Q (.ref D) H') :
    CompB (Itl K a) σ js tYes te H Q :=
  comp_any (J:=Itl K a) (fun i x=>xs[i]?=some x) hz Pv h0
    (fun D i ys H' hi hD p=>by
      have q:=hl D i ys H' (Nat.le_of_lt hi) hD p
      exact ⟨⟨xs,xs[i],q,by simp [hi]⟩,fun x H3 y=>⟨y.1,y.2 xs q⟩⟩)
    (fun D ys H' hD p=>⟨xs,hl D _ ys H' (Nat.le_refl _) hD p,Nat.le_refl _⟩) hs hd
theorem comp_map {K:PySem.W.Frag} {a:Addr} {xs:List V} (R:Nat→V→Prop) (hz:xs.length≤100000) (hl:SqL K H a xs)
    (hs:∀ i x H' (Q':VK),xs[i]?=some x→Same H H'→(∀ y H5,Same H' H5→R i y→Q' y H5)→te (some x::slots σ js) H' Q')
    (hd:∀ D ys H',H D=none→H' D=some (.lst ys)→Same H H'→ys.length=xs.length→(∀ (i:Nat) (y:V),ys[i]?=some y→R i y)→Q (.ref D) H') :
    CompB (Itl K a) σ js tYes te H Q:=by
  refine comp_list hz (fun D i ys H'=>H D=none∧Same H H'∧∀ (i:Nat) (y:V),ys[i]?=some y→R i y) (fun D H1 hD _ s=>⟨hD,s,fun i y h=>by simp at h⟩) (fun D i ys H' _ _ p=>p.2.1.seq hl) (fun D i x ys H' hx _ hy hD p=>?_) (fun D ys H' hy hD hD' p=>hd D ys H' hD hD' p.2.1 hy p.2.2)
  refine hs i x H' _ hx p.2.1 fun y H5 s5 r=>?_
  refine ⟨s5 _ _ hD,fun H6 hD6 s6=>⟨p.1,?_,fun j z hj=>?_⟩⟩
  · exact Same.thru p.1 (p.2.1.trans s5) s6
  · by_cases hji:j<ys.length
    · rw [List.getElem?_append_left hji] at hj; exact p.2.2 j z hj
    · rw [List.getElem?_append_right (by omega)] at hj
      have:j - ys.length=0:=by
        by_cases q:j - ys.length=0
        · exact q
        · rw [List.getElem?_eq_none (by simp; omega)] at hj; cases hj
      rw [this] at hj
      have hj':y=z:=by simpa using hj
      have:j=i:=by omega
      subst this hj'
      exact r
end
@[irreducible] def rSum (K:PySem.W.Frag):List V→Hp→VK→Prop:=fun xs H Q=>∃ (p:Addr) (ns:List Int),xs=[.ref p]∧SqL K H p (ns.map V.int)∧Q (.int ns.sum) H
@[irreducible] def rEqD (b:Bool):R2:=fun x y H Q=>∃ d d',Rep H d x∧Rep H d' y∧SeqAt.shaped d=true∧SeqAt.shaped d'=true∧Q (.bl (b == PyData.eqv d d')) H
section
variable {X:Cx}
theorem cl_sum (hc:X.calm=true):CallR X (.builtin "sum") (rSum X.K):=by
  unfold rSum
  intro pins s σ H xs us Q I r h
  obtain ⟨p,ns,rfl,hq,q⟩:=h
  obtain ⟨u,rfl,rx⟩:=vals1 r
  cases rx
  obtain ⟨its,r',pl,hz⟩:=I.list hq
  have hi:=intsAre_of r'
  obtain ⟨xs',e⟩:=hi.allInts.items
  rw [e] at pl
  refine sum_intListG (I.ok.hd hc) pl.isList fun h' tk t' hk=>⟨.int ns.sum,H,I.kept hk,⟨t',?_⟩,q⟩
  rw [preSum_eq,List.take_of_length_le (by simp)]
  rw [← hi.numsOf]
  have e2:its=(intItems xs').toList:=by rw [← e]
  rw [e2,nums_intItems]
theorem rsI {K:PySem.W.Frag} {H:Hp} {p:Addr} {ns:List Int} {Q:VK} (h:SqL K H p (ns.map V.int)) (q:Q (.int ns.sum) H):rSum K [.ref p] H Q:=by unfold rSum; exact ⟨p,ns,rfl,h,q⟩
theorem op_eqD (hu:X.A.units+64<cLine):OpR X (compareOp .Eq) (rEqD true):=by
  unfold rEqD
  intro pins s σ H x y v u Q I rx ry h
  obtain ⟨d,d',h1,h2,s1,s2,q⟩:=h
  obtain ⟨as,ra⟩:=h1.reads I rx
  obtain ⟨bs,rb⟩:=h2.reads I ry
  exact SeqAt.compareEq_shaped ra rb s1 s2 hu ⟨.bl _,H,I,by show _=_; simp,q⟩
theorem op_neD (hu:X.A.units+64<cLine):OpR X (compareOp .NotEq) (rEqD false):=by
  unfold rEqD
  intro pins s σ H x y v u Q I rx ry h
  obtain ⟨d,d',h1,h2,s1,s2,q⟩:=h
  obtain ⟨as,ra⟩:=h1.reads I rx
  obtain ⟨bs,rb⟩:=h2.reads I ry
  exact SeqAt.compareNe_shaped ra rb s1 s2 hu ⟨.bl _,H,I,by show _=_; simp,q⟩
theorem reD {b:Bool} {x y:V} {d d':PyData} {H:Hp} {Q:VK} (h1:Rep H d x) (h2:Rep H d' y) (s1:SeqAt.shaped d=true) (s2:SeqAt.shaped d'=true) (q:Q (.bl (b == PyData.eqv d d')) H):rEqD b x y H Q:=by
  unfold rEqD; exact ⟨d,d',h1,h2,s1,s2,q⟩
end
mutual
def flatD:PyData→Bool
  | .list _=>false
  | .dict _=>false
  | .tuple ds=>flatDs ds
  | _=>true
def flatDs:List PyData→Bool
  | []=>true
  | d::ds=>flatD d&&flatDs ds
end
def SameT (H H':Hp):Prop:=∀ b xs,H b=some (.tup xs)→H' b=some (.tup xs)
theorem SameT.trans {H H1 H2:Hp} (a:SameT H H1) (b:SameT H1 H2):SameT H H2:=fun c o h=>b c o (a c o h)
theorem Same.t {H H':Hp} (s:Same H H'):SameT H H':=fun b xs h=>s _ _ h
theorem SameBut.t {H H':Hp} {p:Addr} (s:SameBut p H H') {xs:List V} (hp:H p=some (.lst xs)):SameT H H':=fun b ys h=>s.at (ne_of h hp (by intro z; cases z)) h
mutual
theorem Rep.flat {H H':Hp} (s:SameT H H'):∀ {d:PyData} {v:V},flatD d=true→Rep H d v→Rep H' d v
  | .none,_,_,h=>h
  | .bool _,_,_,h=>h
  | .int _,_,_,h=>h
  | .str _,_,_,h=>h
  | .list _,_,f,_=>by simp [flatD] at f
  | .dict _,_,f,_=>by simp [flatD] at f
  | .tuple ds,_,f,h=>by
    unfold Rep at h ⊢
    obtain ⟨a,ys,rfl,h1,h2⟩:=h
    exact ⟨a,ys,rfl,s _ _ h1,RepL.flat s (by simpa [flatD] using f) h2⟩
theorem RepL.flat {H H':Hp} (s:SameT H H'):∀ {ds:List PyData} {vs:List V},flatDs ds=true→RepL H ds vs→RepL H' ds vs
  | [],_,_,h=>h
  | d::ds,_,f,h=>by
    unfold RepL at h ⊢
    obtain ⟨x,ys,rfl,h1,h2⟩:=h
    simp only [flatDs,Bool.and_eq_true] at f
    exact ⟨x,ys,rfl,Rep.flat s f.1 h1,RepL.flat s f.2 h2⟩
end
theorem RepL.get {H:Hp}:∀ {ds:List PyData} {vs:List V} {i:Nat} {v:V},RepL H ds vs→vs[i]?=some v→∃ d,ds[i]?=some d∧Rep H d v
  | [],_,i,v,h,e=>by cases (show _=[] from h); simp at e
  | d::ds,_,i,v,h,e=>by
    unfold RepL at h
    obtain ⟨x,ys,rfl,h1,h2⟩:=h
    cases i with
    | zero=>simp at e; subst e; exact ⟨d,rfl,h1⟩
    | succ i =>
      rw [List.getElem?_cons_succ] at e ⊢
      exact RepL.get h2 e
theorem RepL.get' {H:Hp}:∀ {ds:List PyData} {vs:List V} {i:Nat} {d:PyData},RepL H ds vs→ds[i]?=some d→∃ v,vs[i]?=some v∧Rep H d v
  | [],_,i,d,h,e=>by simp at e
  | d' :: ds,_,i,d,h,e=>by
    unfold RepL at h
    obtain ⟨x,ys,rfl,h1,h2⟩:=h
    cases i with
    | zero=>simp at e; subst e; exact ⟨x,rfl,h1⟩
    | succ i =>
      rw [List.getElem?_cons_succ] at e ⊢
      exact RepL.get' h2 e
theorem RepL.snoc {H:Hp} {ds:List PyData} {vs:List V} {d:PyData} {v:V} (h:RepL H ds vs) (r:Rep H d v):RepL H (ds++[d]) (vs++[v]):=RepL.append (RepL.cons r RepL.nil) h
theorem bitsOf {i:Int} {n:Nat} (h:i.natAbs<2^n):bits i≤n:=PySem.intBits_le_iff.mpr h
theorem mulB {i j:Int} {n m:Nat} (h1:i.natAbs<2^n) (h2:j.natAbs<2^m) (hn:n≤1048576:=by decide) (hm:m≤1048576:=by decide):IntMulOk i j:=by
  refine IntMulOk.of_bits ?_ ?_
  · exact Nat.le_trans (bitsOf h1) hn
  · exact Nat.le_trans (bitsOf h2) hm
theorem tupleText_le (ts:List Str):(tupleText ts).length≤piled ts+4:=by
  unfold tupleText
  rw [strLen_append,strLen_append]
  have e1:(("(" : Str)).length=1:=rfl
  have e2:((if ts.length == 1 then ",)" else ")" : String):Str).length≤2:=by split <;> decide
  rw [e1]
  by_cases h:ts=[]
  · subst h; have:(Str.join ", " []).length=0:=rfl
    omega
  · have:=join_length_add ts h
    omega
section
variable {X:Cx} (K:PySem.W.Frag)
theorem ix_seqK (h:X.K=K:=by rfl):IxR X (rIx K):=by subst h; exact ix_seq
theorem cl_sumK (hc:X.calm=true) (h:X.K=K:=by rfl):CallR X (.builtin "sum") (rSum K):=by subst h; exact cl_sum hc
theorem op_notInK (h:X.K=K:=by rfl):OpR X (compareOp .NotIn) (rIn K true):=by subst h; exact op_notIn_seq
end
end L2
set_option Elab.async false
set_option linter.all false
set_option maxRecDepth 100000
namespace L2
open PySem
section
variable {prog:Program} {w:World} {A:Around} {E:Value→Shared→Prop} {s:Shared}
end
end L2
set_option Elab.async false
set_option linter.all false
set_option maxRecDepth 100000
namespace L2
open PySem PySem.Spec PyProof.Rows
section
variable {X:Cx} {pins:List (Addr × Obj)} {σ:St} {H:Hp} {s:Shared} {h':Heap}
end
section
variable {prog:Program} {w:World} {A:Around} {E:Value→Shared→Prop} {s:Shared}
end
section
variable {X:Cx}
end
end L2
set_option Elab.async false
set_option linter.all false
set_option maxRecDepth 100000
namespace L2
open PySem PySem.Spec PyProof.Rows
section
variable {prog:Program} {w:World} {A:Around} {E:Value→Shared→Prop} {s:Shared}
end
end L2
set_option Elab.async false
set_option linter.all false
set_option maxRecDepth 100000
namespace L2
open PySem PySem.Spec PyProof.Rows
section
variable {prog:Program} {w:World} {A:Around} {E:Value→Shared→Prop} {s:Shared}
end
section
variable {X:Cx}
end
@[irreducible] def rJoin (K:PySem.W.Frag):V→List V→Hp→VK→Prop:=fun x vs H Q=>∃ sep p ts,x=.str sep∧vs=[.ref p]∧(SqL K H p (ts.map V.str)∨SqT K H p (ts.map V.str))∧(ts.map (·.length)).sum+ts.length*sep.length≤16777216∧Q (.str (Txt.join sep ts)) H
theorem rjoin {K:PySem.W.Frag} {H:Hp} {Q:VK} {sep:Str} {p:Addr} {ts:List Str} (h:SqL K H p (ts.map V.str)∨SqT K H p (ts.map V.str)) (z:(ts.map (·.length)).sum+ts.length*sep.length≤16777216) (q:Q (.str (Txt.join sep ts)) H):rJoin K (.str sep) [.ref p] H Q:=by
  unfold rJoin; exact ⟨sep,p,ts,rfl,rfl,h,z,q⟩
theorem strs_vals:∀ {ts:List Str} {us:List Value},Vals (ts.map V.str) us→StrsAre us ts
  | [],_,h=>by cases h; exact .nil
  | t::ts,_,h=>by
    cases h with
    | cons r rr=>obtain ⟨tk,rfl⟩:=r; exact .cons t tk (strs_vals rr)
theorem mt_join {X:Cx} (K:PySem.W.Frag) (hK:X.K=K:=by rfl):MtR X "str.join" (rJoin K):=by
  subst hK
  unfold rJoin
  intro pins s σ H x vs v us Q I rx rv h
  obtain ⟨sep,p,ts,rfl,rfl,hp,z,q⟩:=h
  obtain ⟨t,rfl⟩:=rx
  obtain ⟨u,rfl,ru⟩:=vals1 rv
  cases ru
  rcases hp with hp | hp
  · obtain ⟨its,r,pl,_⟩:=I.list hp
    exact join_list pl.isList (strs_vals (by simpa using r)) z fun t' k=>⟨.str _,H,I.tok _,⟨_,rfl⟩,q⟩
  · obtain ⟨its,r,pl,_⟩:=I.tuple hp
    exact join_tuple pl (strs_vals (by simpa using r)) z fun t' k=>⟨.str _,H,I.tok _,⟨_,rfl⟩,q⟩
end L2
set_option Elab.async false
set_option linter.all false
set_option maxRecDepth 100000
namespace L2
open PySem PySem.Spec PyProof.Rows
section
variable {X:Cx}
end
end L2
set_option Elab.async false
set_option linter.all false
set_option maxRecDepth 100000
namespace L2
open PySem
mutual
def RepK (K:PySem.W.Frag) (H:Hp):PyData→V→Prop
  | .none,v=>v=.non
  | .bool b,v=>v=.bl b
  | .int i,v=>v=.int i
  | .str x,v=>v=.str x
  | .list ds,v=>∃ a xs,v=.ref a∧H a=some (.lst xs)∧RepKL K H ds xs
  | .tuple ds,v=>∃ a xs,v=.ref a∧SqT K H a xs∧RepKL K H ds xs
  | .dict kvs,v=>kvs=[]∧∃ a,v=.ref a∧H a=some (.dK [])
def RepKL (K:PySem.W.Frag) (H:Hp):List PyData→List V→Prop
  | [],vs=>vs=[]
  | d::ds,vs=>∃ x xs,vs=x::xs∧RepK K H d x∧RepKL K H ds xs
end
mutual
theorem Rep.k {K:PySem.W.Frag} {H:Hp}:∀ {d:PyData} {v:V},Rep H d v→RepK K H d v
  | .none,_,h=>h
  | .bool _,_,h=>h
  | .int _,_,h=>h
  | .str _,_,h=>h
  | .list ds,_,h=>by
    unfold Rep at h; unfold RepK
    obtain ⟨a,xs,rfl,h1,h2⟩:=h
    exact ⟨a,xs,rfl,h1,RepL.k h2⟩
  | .tuple ds,_,h=>by
    unfold Rep at h; unfold RepK
    obtain ⟨a,xs,rfl,h1,h2⟩:=h
    exact ⟨a,xs,rfl,SqT.of h1,RepL.k h2⟩
  | .dict kvs,_,h=>by unfold Rep at h; unfold RepK; exact h
theorem RepL.k {K:PySem.W.Frag} {H:Hp}:∀ {ds:List PyData} {vs:List V},RepL H ds vs→RepKL K H ds vs
  | [],_,h=>h
  | d::ds,_,h=>by
    unfold RepL at h; unfold RepKL
    obtain ⟨x,xs,rfl,h1,h2⟩:=h
    exact ⟨x,xs,rfl,Rep.k h1,RepL.k h2⟩
end
section
variable {X:Cx} {pins:List (Addr × Obj)} {σ:St} {H:Hp} {s:Shared}
mutual
theorem RepK.reads (I:Inv X pins σ H s):∀ {d:PyData} {v:V} {u:Value},RepK X.K H d v→RelV v u→∃ as,Reads s.heap u d as
  | .none,_,u,h,r=>by
    cases (show _=V.non from h); cases (show u=Value.none from r); exact ⟨_,.none⟩
  | .bool b,_,u,h,r=>by
    cases (show _=V.bl b from h); cases (show u=Value.bool b from r); exact ⟨_,.bool b⟩
  | .int b,_,u,h,r=>by
    cases (show _=V.int b from h); obtain ⟨t,q⟩:=(show ∃ t,u=Value.int b t from r); cases q; exact ⟨_,.int b t⟩
  | .str b,_,u,h,r=>by
    cases (show _=V.str b from h); obtain ⟨t,q⟩:=(show ∃ t,u=Value.str b t from r); cases q; exact ⟨_,.str b t⟩
  | .list ds,v,u,h,r=>by
    unfold RepK at h
    obtain ⟨a,xs,rfl,h1,h2⟩:=h
    cases (show u=Value.ref a from r)
    obtain ⟨_,its,n,r',e⟩:=(show ObjOk X.prog X.w H s.heap a (.lst xs) from I.hok a _ h1)
    obtain ⟨as,q⟩:=RepKL.reads I h2 r'
    exact ⟨_,.list e rfl rfl (by simpa using q)⟩
  | .tuple ds,v,u,h,r=>by
    unfold RepK at h
    obtain ⟨a,xs,rfl,h1,h2⟩:=h
    cases (show u=Value.ref a from r)
    obtain ⟨its,r',⟨o,e,hc,n,hd⟩,_⟩:=I.tuple h1
    obtain ⟨as,q⟩:=RepKL.reads I h2 r'
    exact ⟨_,.tuple e hc hd (by simpa using q)⟩
  | .dict kvs,v,u,h,r=>Rep.reads I (d:=.dict kvs) (by unfold Rep; unfold RepK at h; exact h) r
theorem RepKL.reads (I:Inv X pins σ H s):∀ {ds:List PyData} {vs:List V} {us:List Value},RepKL X.K H ds vs→Vals vs us→∃ as,ReadsAll s.heap us ds as
  | [],_,us,h,r=>by
    cases (show _=[] from h); cases r; exact ⟨_,.nil⟩
  | d::ds,_,us,h,r=>by
    unfold RepKL at h
    obtain ⟨x,xs,rfl,h1,h2⟩:=h
    cases r with
    | cons r1 r2 =>
      obtain ⟨as,q1⟩:=RepK.reads I h1 r1
      obtain ⟨bs,q2⟩:=RepKL.reads I h2 r2
      exact ⟨_,.cons q1 q2⟩
end
end
section
variable {X:Cx}
end
section
variable {K:PySem.W.Frag} {H:Hp} {p:Addr} {xs:List V} {i:Int} {v:V} {Q:VK}
end
theorem cutV_lo (xs:List V) (k:Nat):cutV xs (some (k:Int)) none=xs.drop k:=by
  unfold cutV
  rw [HT.sIx_nat,HT.sIx_none]
  by_cases h:k≤xs.length
  · rw [Nat.min_eq_left h]
    exact List.take_of_length_le (by rw [List.length_drop]; exact Nat.le_refl _)
  · rw [Nat.min_eq_right (by omega),List.drop_of_length_le (Nat.le_refl _),List.drop_of_length_le (by omega),List.take_nil]
theorem cutV_hi (xs:List V) (k:Nat):cutV xs none (some (k:Int))=xs.take k:=by
  unfold cutV
  rw [HT.sIx_nat,HT.sIx_none,List.drop_zero,Nat.sub_zero]
  by_cases h:k≤xs.length
  · rw [Nat.min_eq_left h]
  · rw [Nat.min_eq_right (by omega),List.take_of_length_le (Nat.le_refl _),List.take_of_length_le (by omega)]
@[irreducible] def rSlN (K:PySem.W.Frag):V→Option Int→Option Int→Hp→VK→Prop:=rSlL K
theorem sl_listN {X:Cx} (K:PySem.W.Frag) (h:X.K=K:=by rfl):SlR X (rSlN K):=by subst h; unfold rSlN; exact sl_list
theorem slL {K:PySem.W.Frag} {H:Hp} {a:Addr} {xs ys:List V} {lo hi:Option Int} {Q:VK} (h:H a=some (.lst xs)) (e:cutV xs lo hi=ys) (k:∀ q H',H q=none→H' q=some (.lst ys)→Same H H'→Q (.ref q) H'):rSlN K (.ref a) lo hi H Q:=by
  unfold rSlN; exact ⟨a,xs,rfl,SqL.of h,fun p hp=>by rw [e]; exact k p _ hp upd_same (Same.upd hp)⟩
end L2
set_option Elab.async false
set_option linter.all false
set_option maxRecDepth 100000
namespace L2
open PySem
section
variable {σ:St} {js:List Nat} {te:TE} {H:Hp} {Q:VK}
theorem snoc_all {R:Nat→V→Prop} {ys:List V} {y:V} (h:∀ (j:Nat) z,ys[j]?=some z→R j z) (r:R ys.length y):∀ (j:Nat) z,(ys++[y])[j]?=some z→R j z:=fun j z hj=>by
  by_cases hji:j<ys.length
  · rw [List.getElem?_append_left hji] at hj; exact h j z hj
  · rw [List.getElem?_append_right (by omega)] at hj
    have:j - ys.length=0:=by
      by_cases q:j - ys.length=0
      · exact q
      · rw [List.getElem?_eq_none (by simp; omega)] at hj; cases hj
    rw [this] at hj
    have hj':y=z:=by simpa using hj
    have:j=ys.length:=by omega
    subst this hj'
    exact r
theorem comp_mapT {J:It} {n:Nat} (src:Nat→V→Prop) (R:Nat→V→Hp→Prop) (hR:∀ i y H1 H2,SameT H1 H2→R i y H1→R i y H2) (hz:n≤100000)
    (hg:∀ i H',Same H H'→i<n→J.go i H'∧∀ x H3,J.yld i H' x H3→H3=H'∧src i x) (hst:∀ H',Same H H'→J.stop n H')
    (hs:∀ i x H' (Q':VK),src i x→i<n→Same H H'→(∀ y H5,Same H' H5→R i y H5→Q' y H5)→te (some x::slots σ js) H' Q')
    (hd:∀ D ys H',H D=none→H' D=some (.lst ys)→Same H H'→ys.length=n→(∀ (i:Nat) (y:V),ys[i]?=some y→R i y H')→Q (.ref D) H'):CompB J σ js tYes te H Q:=by
  refine comp_any (J:=J) (n:=n) src hz (fun D i ys H'=>H D=none∧Same H H'∧∀ (i:Nat) (y:V),ys[i]?=some y→R i y H') (fun D H1 hD _ s=>⟨hD,s,fun i y h=>by simp at h⟩)
    (fun D i ys H' hi _ p=>hg i H' p.2.1 hi) (fun D ys H' _ p=>hst H' p.2.1) (fun D i x ys H' hx hi hy hD p=>?_) (fun D ys H' hy hD hD' p=>hd D ys H' hD hD' p.2.1 hy p.2.2)
  refine hs i x H' _ hx hi p.2.1 fun y H5 s5 r=>?_
  refine ⟨s5 _ _ hD,fun H6 hD6 s6=>⟨p.1,Same.thru p.1 (p.2.1.trans s5) s6,?_⟩⟩
  have t6:=s6.t (s5 _ _ hD)
  exact snoc_all (R:=fun j z=>R j z H6) (fun j z hj=>hR j z _ _ (s5.t.trans t6) (p.2.2 j z hj)) (by rw [hy]; exact hR i y _ _ t6 r)
theorem comp_mapL {K:PySem.W.Frag} {a:Addr} {xs:List V} (R:Nat→V→Hp→Prop) (hR:∀ i y H1 H2,SameT H1 H2→R i y H1→R i y H2) (hz:xs.length≤100000) (hl:H a=some (.lst xs))
    (hs:∀ i x H' (Q':VK),xs[i]?=some x→Same H H'→(∀ y H5,Same H' H5→R i y H5→Q' y H5)→te (some x::slots σ js) H' Q')
    (hd:∀ D ys H',H D=none→H' D=some (.lst ys)→Same H H'→ys.length=xs.length→(∀ (i:Nat) (y:V),ys[i]?=some y→R i y H')→Q (.ref D) H'):CompB (Itl K a) σ js tYes te H Q :=
  comp_mapT (fun i x=>xs[i]?=some x) R hR hz (fun i H' s hi=>⟨⟨xs,xs[i],SqL.of (s _ _ hl),by simp [hi]⟩,fun x H3 y=>⟨y.1,y.2 xs (SqL.of (s _ _ hl))⟩⟩) (fun H' s=>⟨xs,SqL.of (s _ _ hl),Nat.le_refl _⟩)
    (fun i x H' Q' hx _ s k=>hs i x H' Q' hx s k) hd
theorem comp_mapU {K:PySem.W.Frag} {a:Addr} {xs:List V} (R:Nat→V→Hp→Prop) (hR:∀ i y H1 H2,SameT H1 H2→R i y H1→R i y H2) (hz:xs.length≤100000) (hl:H a=some (.tup xs))
    (hs:∀ i x H' (Q':VK),xs[i]?=some x→Same H H'→(∀ y H5,Same H' H5→R i y H5→Q' y H5)→te (some x::slots σ js) H' Q')
    (hd:∀ D ys H',H D=none→H' D=some (.lst ys)→Same H H'→ys.length=xs.length→(∀ (i:Nat) (y:V),ys[i]?=some y→R i y H')→Q (.ref D) H'):CompB (Itt K a) σ js tYes te H Q :=
  comp_mapT (fun i x=>xs[i]?=some x) R hR hz (fun i H' s hi=>⟨⟨xs,xs[i],SqT.of (s _ _ hl),by simp [hi]⟩,fun x H3 y=>⟨y.1,y.2 xs (SqT.of (s _ _ hl))⟩⟩) (fun H' s=>⟨xs,SqT.of (s _ _ hl),Nat.le_refl _⟩)
    (fun i x H' Q' hx _ s k=>hs i x H' Q' hx s k) hd
theorem comp_mapR {lo:Int} {n:Nat} (R:Nat→V→Hp→Prop) (hR:∀ i y H1 H2,SameT H1 H2→R i y H1→R i y H2) (hz:n≤100000)
    (hs:∀ i H' (Q':VK),i<n→Same H H'→(∀ y H5,Same H' H5→R i y H5→Q' y H5)→te (some (.int (lo+(i:Nat)))::slots σ js) H' Q')
    (hd:∀ D ys H',H D=none→H' D=some (.lst ys)→Same H H'→ys.length=n→(∀ (i:Nat) (y:V),ys[i]?=some y→R i y H')→Q (.ref D) H'):CompB (Itr lo n) σ js tYes te H Q :=
  comp_mapT (fun i x=>x=.int (lo+(i:Nat))) R hR hz (fun i H' s hi=>⟨hi,fun x H3 y=>y⟩) (fun H' s=>Nat.le_refl _)
    (fun i x H' Q' hx hi s k=>by subst hx; exact hs i H' Q' hi s k) hd
theorem SameBut.thru {p l:Addr} {H0 H1 H2:Hp} (hl:H0 l=none) (s:SameBut p H0 H1) (b:SameBut l H1 H2):SameBut p H0 H2:=fun c o e=>by
  have n:=Hide.ne e
  have e0:H0 c=some o:=by rw [Hide.at n] at e; exact e
  have nl:c≠l:=fun z=>by subst z; rw [hl] at e0; cases e0
  exact Hide.of n (b.at nl (s.at n e0))
end
theorem RepL.ofIdx {H:Hp}:∀ {ds:List PyData} {ys:List V},ys.length=ds.length→(∀ (i:Nat) (y:V),ys[i]?=some y→∃ d,ds[i]?=some d∧Rep H d y)→RepL H ds ys
  | [],[],_,_=>RepL.nil
  | d::ds,y::ys,hl,h=>by
    obtain ⟨d',e,r⟩:=h 0 y rfl
    cases (show d=d' by simpa using e)
    exact RepL.cons r (RepL.ofIdx (by simpa using hl) fun i z hz=>by simpa using h (i+1) z (by simpa using hz))
  | [],_::_,hl,_=>by simp at hl
  | _::_,[],hl,_=>by simp at hl
theorem ints_of {P:Nat→Int→Prop}:∀ {ys:List V},(∀ (i:Nat) (y:V),ys[i]?=some y→∃ n,y=.int n∧P i n)→∃ ns:List Int,ys=ns.map V.int∧∀ (i:Nat) n,ns[i]?=some n→P i n
  | [],_=>⟨[],rfl,fun i n h=>by simp at h⟩
  | y::ys,h=>by
    obtain ⟨n,rfl,hn⟩:=h 0 y rfl
    obtain ⟨ns,rfl,hs⟩:=ints_of (P:=fun i=>P (i+1)) (ys:=ys) fun i z hz=>h (i+1) z (by simpa using hz)
    refine ⟨n::ns,rfl,fun i m hm=>?_⟩
    cases i with
    | zero=>cases (show n=m by simpa using hm); exact hn
    | succ i=>exact hs i m (by simpa using hm)
end L2
set_option Elab.async false
set_option linter.all false
set_option maxRecDepth 100000
namespace L2
open PySem PySem.Spec PyProof.Rows
section
variable {X:Cx}
@[irreducible] def rCatU (K:PySem.W.Frag):R2:=fun x y H Q=>∃ a b xs ys,x=.ref a∧y=.ref b∧H a=some (.tup xs)∧H b=some (.tup ys)∧xs.length+ys.length≤1000∧∀ c H',Same H H'→H' c=some (.tup (xs++ys))→Q (.ref c) H'
theorem catU {K:PySem.W.Frag} {H:Hp} {Q:VK} {a b:Addr} {xs ys:List V} (h1:H a=some (.tup xs)) (h2:H b=some (.tup ys)) (hz:xs.length+ys.length≤1000) (k:∀ c H',Same H H'→H' c=some (.tup (xs++ys))→Q (.ref c) H'):rCatU K (.ref a) (.ref b) H Q:=by
  unfold rCatU; exact ⟨a,b,xs,ys,rfl,rfl,h1,h2,hz,k⟩
theorem op_catU (K:PySem.W.Frag) (hK:X.K=K:=by rfl):OpR X (binaryOp .Add) (rCatU K):=by
  subst hK
  unfold rCatU
  intro pins s σ H x y v u Q I rx ry h
  obtain ⟨a,b,xs,ys,rfl,rfl,ha,hb,hz,q⟩:=h
  by_cases hx:xs=[]
  · cases rx
    cases ry
    subst hx
    obtain ⟨its,r1,p1,_⟩:=I.tuple (SqT.of ha)
    obtain ⟨its2,r2,p2,_⟩:=I.tuple (SqT.of hb)
    cases r1
    obtain ⟨⟨cls,dd,data,sl⟩,ho,hc,n,hd⟩:=id p1
    obtain ⟨⟨cls2,dd2,data2,sl2⟩,ho2,hc2,n2,hd2⟩:=id p2
    simp only at hc hd hc2 hd2
    subst hc hd hc2 hd2
    exact concat_meets ⟨_,ho,rfl⟩ ⟨_,ho2,rfl⟩ noFill_tuple_add seq_tuple_add PySem.F.slot_tuple_add PySem.F.entry_tuple_add (PySem.F.args_tuple_add_2 _ _)
      (tuple_addW0 a b _ _ n n2 dd dd2 sl sl2 rfl) ⟨ho,ho2,⟨.ref b,H,I,rfl,q b H (Same.refl _) hb⟩⟩
  · refine op_catT pins s σ H _ _ v u Q I rx ry ⟨a,b,xs,ys,rfl,rfl,SqT.of ha,SqT.of hb,hx,Nat.le_trans hz (by decide),fun e=>?_,fun _ p hp=>q p _ (Same.upd hp) upd_same⟩
    subst e
    exact q a H (Same.refl _) (by rw [List.append_nil]; exact ha)
end
theorem int_rmul_tuple (a:Int) (t:Tok) (l:Addr) (items:Array Value) (n:Nat) (dd:Option Addr) (sl:Array (Option Value)) :
    Meets (Builtin.«int.__rmul__» ⟨[.int a t,.ref l],[]⟩) (fun _ R s=>s.heap.get? l=some { cls:=.type "tuple",dict:=dd,data:=.seq items n,slots:=sl }∧R (.ok (.ret Value.notImplemented)) s) :=
  .of_wp fun prog w A R s h=>by
    obtain ⟨hp,g,d,tk,os⟩:=s
    obtain ⟨hl,h⟩:=h
    wp_walk
    exact ⟨_,rfl,h⟩
theorem tuple_mulM (l:Addr) (items:Array Value) (n:Nat) (dd:Option Addr) (sl:Array (Option Value)) (k:Int) (u:Tok) (h0:2≤k) (h1:k≤64) (he:items.isEmpty=false) (hz:items.size≤64) (hsz:((List.replicate k.toNat items).foldl (· ++ ·) #[]).size≤sizeLine) :
    Meets (Builtin.«tuple.__mul__» ⟨[.ref l,.int k u],[]⟩) (fun _ R s=>s.heap.get? l=some { cls:=.type "tuple",dict:=dd,data:=.seq items n,slots:=sl }∧R (.ok (.ret (.ref s.heap.objs.size))) { s with heap:=s.heap.push { cls:=.type "tuple",data:=.seq ((List.replicate k.toNat items).foldl (· ++ ·) #[]) } }) :=
  .of_wp fun prog w A R s h=>by
    obtain ⟨hp,g,d,tk,os⟩:=s
    obtain ⟨hl,h⟩:=h
    have f1:=AutoSeq1.idx_int
    wp_walk using wpAny_loadPart' hl
    rw [if_neg (by simp; omega)]
    wp_walk using wpAny_loadPart' hl
    have he':¬ items=#[]:=fun z=>by simp [z] at he
    have hm:(items.size:Int)*k≤4096:=by
      have h2:(items.size:Int)*k≤64*64:=Int.mul_le_mul (by omega) h1 (by omega) (by omega)
      omega
    rw [if_neg (by simp; exact ⟨he',by omega⟩)]
    rw [if_neg (by simp; exact ⟨by omega,he'⟩)]
    show wpAny _ _ (if (items.size:Int)*k > (2^63 - 1) / 8 then _ else _) _ _ _
    rw [if_neg (by omega)]
    show wpAny _ _ (if Builtin.Tuple.tupleTooMany (items.size*k)=true then _ else _) _ _ _
    rw [if_neg (by unfold Builtin.Tuple.tupleTooMany; simp; exact Int.le_trans hm (by decide))]
    wp_walk
    exact ⟨_,rfl,h⟩
theorem noFill_tuple_mul:fillsNumberSlot (.type "tuple") "mul" = pure false:=PySem.fillsNumberSlot_seq (id := "tuple.__mul__") (r:=some (.builtin "tuple.__rmul__")) F.slot_tuple_mul.lookup (by decide +kernel) F.slot_tuple_rmul.lookup (by decide +kernel)
theorem repeat_tuple:seqRepeat? (.type "tuple")=pure (some (.builtin "tuple.__mul__")):=by
  unfold seqRepeat?; rw [PySem.seqSlot_of (T := "tuple") (name := "__mul__") (id := "tuple.__mul__") F.slot_tuple_mul.lookup (by decide +kernel),PySem.seqSlot_of (T := "tuple") (name := "__rmul__") (id := "tuple.__rmul__") F.slot_tuple_rmul.lookup (by decide +kernel)]; rfl
@[irreducible] def rMulT:R2:=fun x y H Q=>∃ a z,∃ k:Nat,x=.ref a∧y=.int (k:Int)∧H a=some (.tup [z])∧2≤k∧k≤64∧∀ c H',Same H H'→H' c=some (.tup (List.replicate k z))→Q (.ref c) H'
theorem mulT {H:Hp} {Q:VK} {a:Addr} {z:V} {k:Nat} (h:H a=some (.tup [z])) (h2:2≤k) (hk:k≤64) (q:∀ c H',Same H H'→H' c=some (.tup (List.replicate k z))→Q (.ref c) H'):rMulT (.ref a) (.int (k:Int)) H Q:=by
  unfold rMulT; exact ⟨a,z,k,rfl,rfl,h,h2,hk,q⟩
section
variable {X:Cx}
theorem op_mulT:OpR X (binaryOp .Mult) rMulT:=by
  unfold rMulT
  intro pins s σ H x y v u Q I rx ry h
  obtain ⟨a,z,k,rfl,rfl,hH,h2,hk,q⟩:=h
  cases rx
  obtain ⟨t,rfl⟩:=(show ∃ t,u=Value.int (k:Int) t from ry)
  obtain ⟨its,r,p,_⟩:=I.tuple (SqT.of hH)
  obtain ⟨w1,rfl,rw1⟩:=vals1 r
  obtain ⟨⟨cls,dd,data,sl⟩,ho,hc,n,hd⟩:=id p
  simp only at hc hd
  subst hc hd
  have flat1:∀ k:Nat,(List.replicate k [w1]).flatten=List.replicate k w1:=fun k=>by
    induction k with
    | zero=>rfl
    | succ k ih=>rw [List.replicate_succ,List.flatten_cons,ih,List.replicate_succ]; rfl
  have f0:List.foldl (fun x1 x2=>x1++x2) #[] (List.replicate k [w1].toArray)=(List.replicate k w1).toArray:=by
    have:=foldl_rep [w1] k []
    rw [List.nil_append,flat1] at this
    exact this
  have vr:∀ k:Nat,Vals (List.replicate k z) (List.replicate k w1):=fun k=>by
    induction k with
    | zero=>exact .nil
    | succ k ih=>exact .cons rw1 ih
  generalize hk':(k:Int)=kk
  have hkk:kk.toNat=k:=by omega
  refine wpAny_binaryOp_repeat_ref (T := "tuple") (U := "int") (by decide) ⟨_,ho,rfl⟩ (fun s'=>typeIs_int s' kk t) noFill_tuple_mul F.fills_int_mul F.slot_int_rmul repeat_tuple F.slot_int_index.lookup
    (call_meets F.slot_int_rmul (typeIs_int s kk t) F.entry_int_rmul (F.args_int_rmul_2 _ _) (int_rmul_tuple kk t a [w1].toArray n dd sl) ⟨ho,rfl,⟨_,ho,rfl⟩,?_⟩)
  refine call_meets F.slot_tuple_mul ⟨_,ho,rfl⟩ F.entry_tuple_mul (F.args_tuple_mul_2 _ _) (tuple_mulM a [w1].toArray n dd sl kk t (by omega) (by omega) rfl (by show 1≤64; decide) (by rw [hkk,f0,List.size_toArray,List.length_replicate]; exact Nat.le_trans hk (by decide))) ⟨ho,?_⟩
  rw [hkk,f0]
  refine ⟨.ref _,_,I.laid (t':=s.toks) (o:=.tup (List.replicate k z)) (fun b ob q=>Heap.get?_push_of_some _ q) (Nat.le_refl _) ?_,rfl,q _ _ (Same.upd (I.hok.fresh (Nat.le_refl _))) upd_same⟩
  exact ⟨⟨by rw [List.length_replicate]; exact small64 hk,_,Heap.get?_push_size _ rfl,rfl⟩,_,vr k,IsTup.new _ _⟩
end
end L2
set_option Elab.async false
set_option linter.all false
set_option maxRecDepth 100000
namespace L2
open PySem PySem.Spec PyProof.Rows
theorem wt_mono {X:Cx} {e:Expr} {t:TT} (h:PTw X e t):PTw X e (tMono t):=⟨h.p.mono⟩
end L2
namespace L2
def ctxC:Nat:=82
end L2
set_option Elab.async false
set_option linter.all false
set_option maxRecDepth 100000
namespace L2
open PySem
def CzV (cls:Value) (vs:Array Value):Prop:=5<vs.size∧(vs[2]?=some .none∨cls=.ref ctxC)
theorem CzV.sz {cls:Value} {vs:Array Value} (h:CzV cls vs):1<vs.size:=Nat.lt_of_le_of_lt (by decide) h.1
theorem CzV.set {cls:Value} {vs:Array Value} {i:Nat} {v:Value} (h:CzV cls vs) (hi:i≠2):CzV cls (vs.setIfInBounds i v):=⟨by simpa using h.1,h.2.imp (fun e=>by rw [Array.getElem?_setIfInBounds_ne hi]; exact e) id⟩
def ExcAt (h:Heap) (a:Addr) (cls:Value) (od:Option Addr) (st:Option (Addr × Value)):Prop :=
  ∃ oe vs,h.get? a=some oe∧oe.cls=cls∧oe.dict=od∧oe.data=.fields vs∧CzV cls vs ∧
    match st with
    | none=>vs[1]?=some .none
    | some (T,fl)=>vs[1]?=some (.ref T)∧T≠a∧∃ oT ts,h.get? T=some oT∧oT.data=.fields ts∧3<ts.size∧ts[3]?=some fl
structure Kp (fs ex:List Addr) (h h':Heap):Prop where
  keep:∀ b o,h.get? b=some o→b ∉ fs→b ∉ ex→h'.get? b=some o
  slot:∀ b o,h.get? b=some o→b∈fs→b ∉ ex→∃ sl,h'.get? b=some { o with slots:=sl }
theorem Kp.any {fs ex:List Addr} {h h':Heap} (k:Kp fs ex h h') {b:Addr} {o:Obj} (e:h.get? b=some o) (n:b ∉ ex):∃ sl,h'.get? b=some { o with slots:=sl }:=by
  by_cases m:b∈fs
  · exact k.slot b o e m n
  · exact ⟨o.slots,k.keep b o e m n⟩
def stT:Option (Addr × Value)→List Addr
  | none=>[]
  | some (T,_)=>[T]
section
variable {M:Model} {A:Around} {E:Value→Shared→Prop} {s:Shared} {env:Env} {outer:List Env} {base:Heap} {L a:Addr} {cls:Value} {od:Option Addr}
theorem entry_ok {oe:Obj} {vs:Array Value} {head:Value} {had:Bool} {Q:Unit→Shared→Prop} (hfr:A.frames=some (env::outer)) (hl:s.heap.FunFrames base (env::outer)) (hf:env.frame=some L)
    (he:s.heap.get? a=some oe) (hc:oe.cls=cls) (ho:oe.dict=od) (hd:oe.data=.fields vs) (hz:CzV cls vs)
    (k:∀ h' T',ExcAt h' a cls od (some (T',rawInt L))→s.heap.get? T'=none→Kp ((env::outer).filterMap (·.frame)) [a] s.heap h'→Q () { s with heap:=h' }) :
    wpAny M A (do
      let fo ← frameOf env
      let pl ← entryPlaceOf L had
      let en ← EntryCells.newEntry head fo .none (rawInt L) .none pl
      setField (.ref a) 1 en) Q E s:=by
  have na:a ∉ (env::outer).filterMap (·.frame):=fun m=>by
    obtain ⟨_,o,e,nf⟩:=hl.mem m
    rw [he] at e
    cases e
    exact nf vs hd
  refine wpAny_bind (wpAny_frameOf_fun hfr hl hf fun h1 so=>?_)
  refine wpAny_bind (wpAny_entryPlaceOf fun pl ip=>?_)
  unfold EntryCells.newEntry newFields
  refine wpAny_bind (wpAny_newObj_type ?_ (ip.sizeOk5 ..))
  have e1:h1.get? a=some oe:=(so.2.1 a na).trans he
  generalize hT:({ cls:=.type "traceback",dict:=none,data:=.fields ([head,Value.ref L,Value.none,rawInt L,Value.none]++(if pl.isEmpty then List.replicate 6 Value.none else pl)).toArray }:Obj)=oT
  have e2:(h1.push oT).get? a=some oe:=Heap.get?_push_of_some _ e1
  refine wpAny_setField e2 hd hz.sz (k _ h1.objs.size ?_ ?_ ?_)
  · have ne:h1.objs.size≠a:=Nat.ne_of_gt (Heap.lt_size e1)
    have d3:=Obj.data_mapFields hd (·.setIfInBounds 1 (Value.ref h1.objs.size))
    refine ⟨_,_,Heap.get?_update_self _ e2 (Obj.isFreed_of_fields d3),?_,?_,d3,hz.set (by decide),by simp [hz.sz],ne,oT,_,?_,by rw [← hT],?_,?_⟩
    · rw [Obj.cls_mapFields]; exact hc
    · rw [← ho]
      obtain ⟨_,_,dt,_⟩:=oe
      cases dt <;> rfl
    · rw [Heap.get?_update_other _ _ (Ne.symm ne)]
      exact Heap.get?_push_size h1 (by rw [← hT]; rfl)
    · simp only [List.size_toArray,List.length_append,List.length_cons,List.length_nil] <;> omega
    · simp
  · cases q:s.heap.get? h1.objs.size with
    | none=>rfl
    | some o=>exact absurd (Heap.lt_size q) (by rw [so.1]; exact Nat.lt_irrefl _)
  · refine ⟨fun b o e n1 n2=>?_,fun b o e n1 n2=>?_⟩
    · have e3:h1.get? b=some o:=(so.2.1 b n1).trans e
      have nb:a≠b:=fun z=>n2 (by rw [z]; exact List.mem_cons_self)
      rw [Heap.get?_update_other _ _ nb]
      exact Heap.get?_push_of_some _ e3
    · obtain ⟨sl,e3⟩:=so.2.2 b o e
      have nb:a≠b:=fun z=>n2 (by rw [z]; exact List.mem_cons_self)
      refine ⟨sl,?_⟩
      rw [Heap.get?_update_other _ _ nb]
      exact Heap.get?_push_of_some _ e3
theorem note_ok {st:Option (Addr × Value)} {Q:Unit→Shared→Prop} (hfr:A.frames=some (env::outer)) (hl:s.heap.FunFrames base (env::outer)) (hf:env.frame=some L)
    (x:ExcAt s.heap a cls od st) (hst:st=none∨∃ T,st=some (T,.none))
    (k:∀ h' T',ExcAt h' a cls od (some (T',rawInt L))→s.heap.get? T'=none→Kp ((env::outer).filterMap (·.frame)) (a::stT st) s.heap h'→Q () { s with heap:=h' }) :
    wpAny M A (noteFrame (.ref a) env) Q E s:=by
  obtain ⟨oe,vs,he,hc,ho,hd,hz,x⟩:=x
  unfold noteFrame
  simp only [hf]
  rcases hst with rfl | ⟨T,rfl⟩
  · refine wpAny_bind (wpAny_field he hd x ?_)
    rw [if_neg (by decide)]
    exact entry_ok hfr hl hf he hc ho hd hz k
  · obtain ⟨x1,nT,oT,ts,hT,dT,zT,x3⟩:=x
    refine wpAny_bind (wpAny_field he hd x1 ?_)
    rw [if_pos (by simp)]
    refine wpAny_bind (wpAny_field hT dT x3 ?_)
    rw [if_neg (by simp [rawInt])]
    refine wpAny_bind (wpAny_setField hT dT zT ?_)
    have other:∀ b,b≠T→(s.heap.update T (Obj.mapFields (·.setIfInBounds 3 Value.none))).get? b=s.heap.get? b:=fun b hb=>Heap.get?_update_other _ _ (Ne.symm hb)
    have nrec:∀ b o,s.heap.get? b=some o→(∀ ws,o.data ≠ .fields ws)→b≠T:=fun b o e nf z=>by
      subst z; rw [hT] at e; cases e; exact nf ts dT
    refine entry_ok (hfr:=hfr) (hl:=hl.of_keeps fun b o e nf=>⟨o,(other b (nrec b o e nf)).trans e,rfl⟩) hf ((other a (Ne.symm nT)).trans he) hc ho hd hz fun h' T' y1 y2 y3=>k h' T' y1 ?_ ?_
    · by_cases z:T'=T
      · subst z
        have:=Heap.get?_update_self (Obj.mapFields (·.setIfInBounds 3 Value.none)) hT (Obj.isFreed_of_fields (Obj.data_mapFields dT _))
        rw [this] at y2; cases y2
      · rw [← other T' z]; exact y2
    · refine ⟨fun b o e n1 n2=>y3.keep b o ((other b fun z=>n2 (by rw [z]; simp [stT])).trans e) n1 fun z=>n2 (List.mem_cons.mpr (.inl (List.mem_singleton.mp z))),fun b o e n1 n2=>y3.slot b o ((other b fun z=>n2 (by rw [z]; simp [stT])).trans e) n1 fun z=>n2 (List.mem_cons.mpr (.inl (List.mem_singleton.mp z)))⟩
theorem land_ok {T:Addr} {fl:Value} {Q:Unit→Shared→Prop} (x:ExcAt s.heap a cls od (some (T,fl)))
    (k:∀ h',ExcAt h' a cls od (some (T,.none))→(∀ b o,b≠T→s.heap.get? b=some o→h'.get? b=some o)→Q () { s with heap:=h' }):wpAny M A (setFlight (.ref a) none) Q E s:=by
  obtain ⟨oe,vs,he,hc,ho,hd,hz,x1,nT,oT,ts,hT,dT,zT,x3⟩:=x
  unfold setFlight
  refine wpAny_bind (wpAny_field he hd x1 ?_)
  rw [if_pos (by simp)]
  refine wpAny_setField hT dT zT (k _ ?_ fun b o hb e=>?_)
  · have d2:=Obj.data_mapFields dT (·.setIfInBounds 3 Value.none)
    exact ⟨oe,vs,by rw [Heap.get?_update_other _ _ nT]; exact he,hc,ho,hd,hz,x1,nT,_,_,Heap.get?_update_self _ hT (Obj.isFreed_of_fields d2),d2,by simpa using zT,by simp [zT]⟩
  · rw [Heap.get?_update_other _ _ (Ne.symm hb)]; exact e
theorem leave_ok {st:Option (Addr × Value)} {Q:Unit→Shared→Prop} (hfr:A.frames=some (env::outer)) (hl:s.heap.FunFrames base (env::outer)) (hf:env.frame=some L)
    (x:ExcAt s.heap a cls od st) (hst:st=none∨∃ T,st=some (T,.none))
    (k:∀ h' T',ExcAt h' a cls od (some (T',.none))→s.heap.get? T'=none→Kp ((env::outer).filterMap (·.frame)) (a::stT st) s.heap h'→Q () { s with heap:=h' }) :
    wpAny M A (leaving env (.ref a)) Q E s:=by
  unfold leaving
  refine wpAny_bind (note_ok hfr hl hf x hst fun h1 T1 y1 y2 y3=>?_)
  refine land_ok y1 fun h2 z1 z2=>?_
  refine k h2 T1 z1 y2 ⟨fun b o e n1 n2=>z2 b o (fun q=>?_) (y3.keep b o e n1 n2),fun b o e n1 n2=>?_⟩
  · subst q; rw [y2] at e; cases e
  · obtain ⟨sl,e1⟩:=y3.slot b o e n1 n2
    exact ⟨sl,z2 b _ (fun q=>by subst q; rw [y2] at e; cases e) e1⟩
end
end L2
set_option Elab.async false
set_option linter.all false
set_option maxRecDepth 100000
namespace L2
open PySem PySem.Spec PyProof.Rows
section
variable {P:Program} {w:World} {H H1 H2:Hp} {h h1 h2 base:Heap} {fs fs2 ex:List Addr} {a:Addr} {o:HO}
theorem ObjOk.get (x:ObjOk P w H h a o):∃ ob,h.get? a=some ob:=by
  cases o with
  | lst xs=>obtain ⟨_,_,_,_,e⟩:=x; exact ⟨_,e⟩
  | tup xs=>obtain ⟨_,_,_,o,e,_⟩:=x; exact ⟨_,e⟩
  | dK kvs=>obtain ⟨_,_,_,_,o,_,_,e,_⟩:=x; exact ⟨_,e⟩
  | dT kvs=>obtain ⟨_,_,_,_,o,_,_,e,_⟩:=x; exact ⟨_,e⟩
  | set S n=>obtain ⟨o,_,_,_,e,_⟩:=x; exact ⟨_,e⟩
  | ins C dx fs=>obtain ⟨_,_,_,e,_⟩:=x; exact ⟨_,e⟩
  | own y=>obtain ⟨_,e⟩:=x; exact ⟨_,e⟩
  | xd fs=>obtain ⟨_,⟨_,_,_,e,_⟩,_⟩:=x; exact ⟨_,e⟩
  | rng lo hi=>obtain ⟨_,_,_,e⟩:=x; exact ⟨_,e⟩
  | frz ob u=>obtain ⟨e,_⟩:=x; exact ⟨_,e⟩
  | tbl ps=>exact ⟨_,(show h.get? a=some _ from x)⟩
  | met f y=>exact ⟨_,(show h.get? a=some _ from x)⟩
  | ext φ=>obtain ⟨_,e,_⟩:=x; exact e
theorem HOk.kp (x:HOk P w H h) (k:Kp fs ex h h1) (hf:∀ b∈fs,H b=none) (he:∀ b∈ex,H b=none):HOk P w H h1:=fun a o e =>
  (x a o e).stay (fun b u hb q=>by
    have nb:H b≠none:=by
      rcases hb with rfl | hb
      · rw [e]; simp
      · rw [hb]; simp
    exact k.keep b u q (fun z=>nb (hf b z)) fun z=>nb (he b z)) (fun _ q=>q) fun _ _ q=>q
theorem Un.tr (u:Un fs [] H H1 h h1) (v:Un fs2 [] H1 H2 h1 h2) (hf:∀ b∈fs2,b∈fs∨h.get? b=none):Un fs [] H H2 h h2 where
  keep:=fun b o e n m _=>v.keep b o (u.keep b o e n m (by simp)) (u.free b o e n (by simp)) (fun z=>(hf b z).elim m fun q=>by rw [e] at q; cases q) (by simp)
  slot:=fun b o e n m _=>by
    obtain ⟨s1,e1⟩:=u.slot b o e n m (by simp)
    obtain ⟨s2,e2⟩:=v.any e1 (u.free b o e n (by simp)) (by simp)
    exact ⟨s2,e2⟩
  free:=fun b o e n _=>by
    obtain ⟨o1,e1⟩:=u.there b o e (by simp)
    exact v.free b o1 e1 (u.free b o e n (by simp)) (by simp)
  there:=fun b o e _=>by
    obtain ⟨o1,e1⟩:=u.there b o e (by simp)
    exact v.there b o1 e1 (by simp)
  tups:=fun b xs e=>v.tups b xs (u.tups b xs e)
  frzs:=fun b ob xs e=>v.frzs b ob xs (u.frzs b ob xs e)
  tbls:=fun b ps e=>by
    obtain ⟨m1,e1⟩:=u.tbls b ps e
    obtain ⟨m2,e2⟩:=v.tbls b _ e1
    exact ⟨m1++m2,by rw [e2,Array.append_assoc]⟩
theorem Un.kp (u:Un fs [] H H1 h h1) (k:Kp fs2 ex h1 h2) (hf:∀ b∈fs2,b∈fs∨h.get? b=none) (he:∀ b∈ex,h.get? b=none):Un fs [] H H1 h h2 where
  keep:=fun b o e n m _=>k.keep b o (u.keep b o e n m (by simp)) (fun z=>(hf b z).elim m fun q=>by rw [e] at q; cases q) fun z=>by rw [he b z] at e; cases e
  slot:=fun b o e n m _=>by
    obtain ⟨s1,e1⟩:=u.slot b o e n m (by simp)
    obtain ⟨s2,e2⟩:=k.any e1 fun z=>by rw [he b z] at e; cases e
    exact ⟨s2,e2⟩
  free:=u.free
  there:=fun b o e _=>by
    obtain ⟨o1,e1⟩:=u.there b o e (by simp)
    obtain ⟨s2,e2⟩:=k.any e1 fun z=>by rw [he b z] at e; cases e
    exact ⟨_,e2⟩
  tups:=u.tups
  frzs:=u.frzs
  tbls:=u.tbls
theorem Un.put {u:HO} (x:Un fs [] H H1 h h1) (ha:h.get? a=none) (hn:H1 a=none):Un fs [] H (upd H1 a u) h h1 where
  keep:=x.keep
  slot:=x.slot
  free:=fun b ob e n m=>by rw [upd_ne (fun z=>by subst z; rw [ha] at e; cases e)]; exact x.free b ob e n m
  there:=x.there
  tups:=fun b xs e=>by rw [upd_ne (ne_of_none (x.tups b xs e) hn)]; exact x.tups b xs e
  frzs:=fun b ob xs e=>by rw [upd_ne (ne_of_none (x.frzs b ob xs e) hn)]; exact x.frzs b ob xs e
  tbls:=fun b ps e=>by
    obtain ⟨m,q⟩:=x.tbls b ps e
    exact ⟨m,by rw [upd_ne (ne_of_none q hn)]; exact q⟩
theorem HOk.put {u:HO} (x:HOk P w H h) (hn:H a=none) (new:ObjOk P w (upd H a u) h a u):HOk P w (upd H a u) h:=fun b v e=>by
  by_cases hb:b=a
  · subst hb; rw [upd_same] at e; cases e; exact new
  · rw [upd_ne hb] at e
    exact (x b v e).stay (fun c q _ r=>r) (fun c q=>by rw [upd_ne (ne_of_none q hn)]; exact q) fun c xs q=>by rw [upd_ne (ne_of_none q hn)]; exact q
theorem funFrames_kp:∀ {l:List Env},(∀ b∈frs l,∀ o,h.get? b=some o→∃ sl,h1.get? b=some { o with slots:=sl })→h.FunFrames base l→h1.FunFrames base l
  | [],_,_=>trivial
  | env::r,k,⟨hk,⟨L,o,hf,hn,ho,hd⟩,hr⟩=>by
    have hL:L∈frs (env::r):=List.mem_filterMap.mpr ⟨env,List.mem_cons_self,hf⟩
    obtain ⟨sl,e⟩:=k L hL o ho
    refine ⟨hk,⟨L,_,hf,hn,e,hd⟩,funFrames_kp (fun b hb=>k b ?_) hr⟩
    obtain ⟨e',m,q⟩:=List.mem_filterMap.mp hb
    exact List.mem_filterMap.mpr ⟨e',List.mem_cons_of_mem _ m,q⟩
end
def CX1 (P:Program) (w:World):CXT:=fun outer H s E e s'=>∃ (a T:Addr) (cls:Value) (od:Option Addr) (H':Hp),e=.ref a∧s'.os=s.os∧AllBare s'.gens∧Un (frs outer) [] H H' s.heap s'.heap∧HOk P w H' s'.heap ∧
  s.heap.get? a=none∧s.heap.get? T=none∧H' a=none∧H' T=none∧ExcAt s'.heap a cls od (some (T,.none))∧E cls od H'
structure XPass (X:Cx) (Ex:St→XK):Prop where
  p:∀ (pins:List (Addr × Obj)) (σ:St) (H:Hp) (s:Shared) (e:Value) (s':Shared),Inv X pins σ H s→CX1 X.prog X.w X.stack H s (Ex σ) e s'→X.xe e s'
structure XMade (X:Cx) (Ex:St→XK):Prop where
  p:∀ (pins:List (Addr × Obj)) (σ:St) (H:Hp) (s:Shared) (h':Heap) (tk:Nat) (a:Addr) (cls:Value) (od:Option Addr),Inv X pins σ H s→(∀ b o,s.heap.get? b=some o→h'.get? b=some o)→s.heap.get? a=none→H a=none →
    ExcAt h' a cls od none→Ex σ cls od H→X.xe (.ref a) { s with heap:=h',toks:=tk }
section
variable {P:Program} {w:World} {K:PySem.W.Frag} {mg:Str→Option Value} {base:Heap} {N:List Str} {qual:Str} {scope:Scope} {f:Addr} {cd:Value} {A:Around} {outer:List Env} {s:Shared} {H:Hp} {E:XK}
theorem leave_fn {pins:List (Addr × Obj)} {σ:St} {H1 H2:Hp} {s1 s2:Shared} {a:Addr} {cls:Value} {od:Option Addr} {st:Option (Addr × Value)}
    (I:Inv (cxOf (CX1 P w) P w K mg base N qual scope f cd A outer s H E) pins σ H1 s1) (os:s2.os=s1.os) (bare:AllBare s2.gens)
    (un:Un (frs (cxOf (CX1 P w) P w K mg base N qual scope f cd A outer s H E).stack) [] H1 H2 s1.heap s2.heap) (hok:HOk P w H2 s2.heap) (x:ExcAt s2.heap a cls od st) (hst:st=none∨∃ T,st=some (T,.none))
    (fa:s1.heap.get? a=none) (na:H2 a=none) (fT:∀ T∈stT st,s1.heap.get? T=none) (nT:∀ T∈stT st,H2 T=none) (q:E cls od H2) :
    (cxOf (CX1 P w) P w K mg base N qual scope f cd A outer s H E).xe (.ref a) s2:=by
  have hff:s2.heap.FunFrames (cxOf (CX1 P w) P w K mg base N qual scope f cd A outer s H E).base (cxOf (CX1 P w) P w K mg base N qual scope f cd A outer s H E).stack :=
    funFrames_kp (fun b hb o e=>un.any e (I.stkFree b hb) (by simp)) I.stack
  have old:∀ b,s1.heap.get? b=none→s.heap.get? b=none:=fun b e=>by
    cases q:s.heap.get? b with
    | none=>rfl
    | some o =>
      obtain ⟨o',e'⟩:=I.base.there b o q (by intro z; cases z)
      rw [e] at e'; cases e'
  have old2:∀ b,s2.heap.get? b=none→s1.heap.get? b=none:=fun b e=>by
    cases q:s1.heap.get? b with
    | none=>rfl
    | some o =>
      obtain ⟨o',e'⟩:=un.there b o q (by simp)
      rw [e] at e'; cases e'
  have hfs:∀ b∈frs (cxOf (CX1 P w) P w K mg base N qual scope f cd A outer s H E).stack,b∈frs outer∨s.heap.get? b=none:=fun b hb=>by
    have hb':b∈s.heap.objs.size::frs outer:=hb
    rcases List.mem_cons.mp hb' with z | z
    · right
      rw [z]
      exact Heap.get?_none_of_le (Nat.le_refl _)
    · exact .inl z
  show wpAny (model P w) (A.deeper (envOfC qual scope s.heap.objs.size f cd)) (leaving (envOfC qual scope s.heap.objs.size f cd) (.ref a)) _ _ s2
  refine leave_ok I.ok.frames hff rfl x hst fun h3 T3 y1 y2 y3=>?_
  have hfree:∀ b∈frs (cxOf (CX1 P w) P w K mg base N qual scope f cd A outer s H E).stack,H2 b=none:=fun b hb=>by
    have ff:=I.stack
    obtain ⟨_,o,ho,_⟩:=ff.mem hb
    exact un.free b o ho (I.stkFree b hb) (by simp)
  have hex:∀ b∈a::stT st,s1.heap.get? b=none:=fun b hb=>by
    rcases List.mem_cons.mp hb with rfl | hb
    · exact fa
    · exact fT b hb
  refine ⟨a,T3,cls,od,H2,rfl,os.trans I.os,bare,((I.base.tr un hfs).kp y3 hfs fun b hb=>old b (hex b hb)),hok.kp y3 hfree (fun b hb=>?_),old a fa,old T3 (old2 T3 y2),na,?_,y1,q⟩
  · rcases List.mem_cons.mp hb with rfl | hb
    · exact na
    · exact nT b hb
  · cases z:H2 T3 with
    | none=>rfl
    | some u =>
      obtain ⟨ob,e⟩:=(hok T3 u z).get
      rw [y2] at e; cases e
theorem xpass_fn:XPass (cxOf (CX1 P w) P w K mg base N qual scope f cd A outer s H E) (fun _=>E):=⟨fun pins σ H1 s1 e s2 I hc=>by
  obtain ⟨a,T,cls,od,H2,rfl,os,bare,un,hok,fa,fT,na,nT,x,q⟩:=hc
  exact leave_fn I os bare un hok x (.inr ⟨T,rfl⟩) fa na (fun b hb=>by cases List.mem_singleton.mp hb; exact fT) (fun b hb=>by cases List.mem_singleton.mp hb; exact nT) q⟩
theorem xmade_fn:XMade (cxOf (CX1 P w) P w K mg base N qual scope f cd A outer s H E) (fun _=>E):=⟨fun pins σ H1 s1 h' tk a cls od I k fa na x q =>
  leave_fn (s2:={ s1 with heap:=h',toks:=tk }) I rfl I.bare (Un.kept k) (I.hok.kept k) x (.inl rfl) fa na (fun b hb=>by cases hb) (fun b hb=>by cases hb) q⟩
end
def tCallX (sp:Sp) (Ex:St→XK) (t:TA):TE:=fun σ H Q=>t σ H fun vs H1=>sp vs H1 Q (Ex σ)
section
variable {X:Cx} {k:Nat} {f C:Addr} {fd:FuncData} {ps:List Str} {sp:Sp} {Ex:St→XK} {x:Str} {p pos np cpos:Pos} {e:Expr} {es:List Expr} {t:TA}
theorem run_fnX {pins:List (Addr × Obj)} {σ:St} {H:Hp} {s:Shared} {Q:VK} {us:List Value} {vs:List V} (F:FnOk X.prog X.w X.K X.mg X.base (CX1 X.prog X.w) k f fd ps sp) (hr:Room k X.A) (hb:Binds X.K fd ps []) (hx:XPass X Ex)
    (I:Inv X pins σ H s) (r:Vals vs us) (h:sp vs H Q (Ex σ)):wpAny (model X.prog X.w) X.A (call (.ref f) us) (EP X pins σ Q) X.xe s:=by
  have hl:(us++[]).length=ps.length:=by rw [List.append_nil,← r.length]; exact F.len _ _ _ _ h
  have hbt:=hb s us I.kIn hl
  rw [List.append_nil] at hbt
  refine wpAny_call (codeAny_mono (F.run X.A X.stack s H ⟨us,[]⟩ us vs Q (Ex σ) hr I.env0 hbt r h) fun r s' hq=>?_)
  cases r with
  | error e=>exact hx.p pins σ H s e s' I hq
  | ok fl =>
    cases fl with
    | ret u=>exact I.after hq
    | next=>exact False.elim hq
    | brk=>exact False.elim hq
    | cont=>exact False.elim hq
theorem we_fnX (F:FnC (CX1 X.prog X.w) X.prog X.w X.K X.mg X.base k x ps sp) (hr:Room k X.A) (hx:XPass X Ex) (ha:PAw X (e::es) t) (hg:Gl X x:=by rfl)
    (hdb:(x == ("__debug__" : Str))=false:=by decide) (he:starEach (e::es) X.env=(false,eval e X.env)::starEach es X.env:=by first | exact se_Name | exact se_Constant | exact se_BoolOp | exact se_BinOp | exact se_UnaryOp | exact se_IfExp | exact se_Dict | exact se_ListComp | exact se_Compare | exact se_Call | exact se_Attribute | exact se_Subscript | exact se_List | exact se_Tuple | exact se_JoinedStr | exact se_GeneratorExp)
    (hpl:(backTo pos (starEach es X.env)).any (·.1)=false:=by repeat (first | exact ap_nil | refine ap_cons (by first | exact se_Name | exact se_Constant | exact se_BoolOp | exact se_BinOp | exact se_UnaryOp | exact se_IfExp | exact se_Dict | exact se_ListComp | exact se_Compare | exact se_Call | exact se_Attribute | exact se_Subscript | exact se_List | exact se_Tuple | exact se_JoinedStr | exact se_GeneratorExp) ?_)) :
    PEw X (.Call (.Name x p) (e::es) [] pos) (tCallX sp Ex t):=⟨by
  obtain ⟨f,fd,h1,h2,h3,h4⟩:=F.ex
  intro pins s σ H Q I h
  refine wpAny_Call_Name_kw (ld_glob I hg h2 ?_ hdb)
  refine PySem.W.callWith_K (h₀:=X.base) I.ok.mod.kin h3 (thn (ha.p pos pins s σ H _ I h) fun us s1 ⟨vs,H1,I1,r,q⟩=>⟨I1.kIn,?_⟩) he hpl
  exact run_fnX h1 hr h4 hx I1 r q⟩
end
theorem Fun.okx {P:Program} {w:World} {K:PySem.W.Frag} {mg:Str→Option Value} {base:Heap} {x qual:Str} {st:Stmt} {f:Addr} {fd:FuncData} {N ps:List Str} {k:Nat} {sp:Sp} (F:Fun K x qual st f fd) (S:FnScope N ps (defScope st)) (len:∀ vs H Q E,sp vs H Q E→vs.length=ps.length)
    (hbody:∀ (cdv:Value) (A:Around) (outer:List Env) (s:Shared) (H:Hp) (vs:List V) (Q:VK) (E:XK),Room k (A.deeper (envOfC qual (defScope st) s.heap.objs.size f cdv))→sp vs H Q E →
      XPass (cxOf (CX1 P w) P w K mg base N qual (defScope st) f cdv A outer s H E) (fun _=>E)→XMade (cxOf (CX1 P w) P w K mg base N qual (defScope st) f cdv A outer s H E) (fun _=>E) →
      ∃ t,PSsw (cxOf (CX1 P w) P w K mg base N qual (defScope st) f cdv A outer s H E) (defBody st) t∧t { nx:=fun _ H'=>Q .non H',rt:=Q } (start N vs) H):FnOk P w K mg base (CX1 P w) (k+1) f fd ps sp:=by
  obtain ⟨oc,od,kV,doc,pm,an,cdv,ct,osl,rfl,lk,hcd⟩:=F.ex
  refine fn_of lk hcd S len fun A outer s H vs Q E hr hsp=>?_
  obtain ⟨t,h,q⟩:=hbody cdv A outer s H vs Q E hr hsp xpass_fn xmade_fn
  exact ⟨t,h.p,q⟩
theorem exc_obj {K:PySem.W.Frag} {h:Heap} {C:Addr} {bmB:List Value} {newId:String} (X:K.In h) (q:PySem.W.excIn K C bmB newId=true) :
    ∃ bm N nm qn bs hdct sn sub ab col dd k0 k1 k2 k3 k5 mN,h.get? C=some (excClassObj nm qn C N bs bm hdct sn sub ab col dd k0 k1 k2 k3 k5 newId)∧h.Ns N mN∧mN "__init__" = none∧OwnTail h bmB bm:=by
  unfold PySem.W.excIn at q
  cases e:K.lookup C with
  | none=>rw [e] at q; cases q
  | some o =>
    rw [e] at q
    obtain ⟨oc,dd,dt,sl⟩:=o
    split at q
    · rename_i _ dd' cd sl' ho
      cases ho
      split at q
      · rename_i C' bm k0 k1 k2 k3 n k5 hm hs
        rw [Bool.and_eq_true,Bool.and_eq_true,Bool.and_eq_true,Bool.and_eq_true,Bool.and_eq_true] at q
        obtain ⟨⟨⟨⟨⟨q1,q2⟩,q3⟩,q4⟩,q5⟩,q6⟩:=q
        have q1:C'=C:=by simpa using q1
        have q2:n=newId:=by simpa using q2
        have q3:cd.hasDel=false:=by simpa using q3
        have q6:PySem.W.nsIn K cd.ns "__init__" = some none:=by simpa using q6
        subst q1 q2
        obtain ⟨nm,bs,mro,ns,qn,hd,sn,sub,ab,col,del⟩:=cd
        cases hm
        cases q3
        obtain ⟨l⟩:=sl
        cases hs
        exact ⟨bm,ns,nm,qn,bs,hd,sn,sub,ab,col,dd,k0,k1,k2,k3,k5,_,X _ _ e,.of_isNs (PySem.W.isNs_of_in X q5),PySem.W.nsMap_none_of_in X q5 q6,PySem.W.tail_of_in X q4⟩
      · cases q
    · cases q
theorem MadeExcOf.at {h h':Heap} {a:Addr} {cls:Value} {args:List Value} (x:Heap.MadeExcOf h h' a cls args):ExcAt h' a cls none none:=by
  obtain ⟨t,e,_,_⟩:=x.there
  exact ⟨_,_,e,rfl,rfl,rfl,⟨by show 5<6; decide,.inl rfl⟩,rfl⟩
def tRaise (cls:Value) (Ex:St→XK) (t:TA):TS:=fun _ σ H=>t σ H fun vs H1=>vs.length≤64∧Ex σ cls none H1
abbrev mroVE:List Value:=[.type "ValueError",.type "Exception",.type "BaseException",.type "object"]
section
variable {X:Cx} {C:Addr} {Ex:St→XK} {x:Str} {pos np cpos:Pos} {e:Expr} {es:List Expr} {t:TA}
theorem ws_raise (q:PySem.W.excIn X.K C mroVE "ValueError.__new__" = true) (hm:X.mg x=some (.ref C)) (hc:X.calm=true) (hx:XMade X Ex) (ha:PAw X (e::es) t) (hg:Gl X x:=by rfl)
    (hdb:(x == ("__debug__" : Str))=false:=by decide) (he:starEach (e::es) X.env=(false,eval e X.env)::starEach es X.env:=by first | exact se_Name | exact se_Constant | exact se_BoolOp | exact se_BinOp | exact se_UnaryOp | exact se_IfExp | exact se_Dict | exact se_ListComp | exact se_Compare | exact se_Call | exact se_Attribute | exact se_Subscript | exact se_List | exact se_Tuple | exact se_JoinedStr | exact se_GeneratorExp)
    (hpl:(backTo cpos (starEach es X.env)).any (·.1)=false:=by repeat (first | exact ap_nil | refine ap_cons (by first | exact se_Name | exact se_Constant | exact se_BoolOp | exact se_BinOp | exact se_UnaryOp | exact se_IfExp | exact se_Dict | exact se_ListComp | exact se_Compare | exact se_Call | exact se_Attribute | exact se_Subscript | exact se_List | exact se_Tuple | exact se_JoinedStr | exact se_GeneratorExp) ?_)) :
    PSw X (.Raise (some (.Call (.Name x np) (e::es) [] cpos)) none pos) (tRaise (.ref C) Ex t):=⟨by
  intro pins s σ H D I h
  obtain ⟨bm,N,nm,qn,bs,hdct,sn,sub,ab,col,dd,k0,k1,k2,k3,k5,mN,hC,hN,hni,TL⟩:=exc_obj I.ok.mod.kin q
  have FB:=PySem.F.excBase_ValueError
  refine wpAny_Raise_call_subT (C:=C) (nm:=nm) (q:=qn) (N:=N) (bs:=bs) (bm:=bm) (hdct:=hdct) (sn:=sn) (sub:=sub) (ab:=ab) (col:=col) (dd:=dd) (k0:=k0) (k1:=k1) (k2:=k2) (k3:=k3) (k5:=k5) FB (mN:=mN)
    (TL.hasType FB.hasBase) (I.ok.hd hc) ?_ hni (ld_glob I hg hm ⟨rfl,?_⟩ hdb)
  · rw [he]
    show (false || (backTo cpos (starEach es X.env)).any (·.1))=false
    rw [hpl]; rfl
  · have hA:=ha.p cpos pins s σ H _ I h
    rw [he] at hA ⊢
    refine Calls.evalArgs_plain (thn hA fun us s1 ⟨vs,H1,I1,r,hz,q⟩=>⟨rfl,?_,I1.bk _ _ hC,hN.keeps I1.bk,TL.keeps I1.bk,fun h' a x=>?_⟩)
    · rw [← r.length]; exact small64 hz
    · have fresh:=x.new
      have na:H1 a=none:=by
        cases z:H1 a with
        | none=>rfl
        | some u=>obtain ⟨ob,e⟩:=(I1.hok a u z).get; rw [fresh] at e; cases e
      exact hx.p pins σ H1 s1 h' s1.toks a _ none I1 x.keeps fresh na (MadeExcOf.at x) q⟩
end
end L2
set_option Elab.async false
set_option linter.all false
set_option maxRecDepth 100000
namespace L2
open PySem PySem.W PySem.Spec PySem.Calls PyProof.Rows
structure ExcCls (K:Frag) (C:Addr):Prop where
  ga:findIn K (.ref C) "__getattribute__" = some (some (.builtin "BaseException.__getattribute__"))
  gt:findIn K (.ref C) "__getattr__" = some none
  sub:subIn K (.ref C) (.type "BaseException")=some true
  cls:(clsIn K C).isSome=true
  kc:findIn K (.ref C) "__class__" = some (some (.builtin "object.__class__"))
  kg:specialIn K (.builtin "object.__class__") "__get__" = some (some (.builtin "getset_descriptor.__get__"))
  kt:takesIn K (.builtin "object.__class__")=some true
  ob:mroIn K C (.type "object")=some true
section
variable {prog:Program} {w:World} {A:Around} {E:Value→Shared→Prop} {s:Shared} {K:Frag} {x C:Addr} {ox:Obj} {od:Option Obj} {name:Str}
theorem exc_check {nv:Value} {Q:Unit→Shared→Prop} (c:ExcCls K C) (X:K.In s.heap) (I:InstAt s.heap x ox C od) (h:Q () s):wpAny (model prog w) A (checkBuiltinCall "BaseException.__getattribute__" ⟨[.ref x,nv],[]⟩) Q E s:=by
  have hk:builtinKind "BaseException.__getattribute__" = some .slot:=by decide +kernel
  have hsp:splitId "BaseException.__getattribute__" = some ("BaseException", "__getattribute__"):=by decide +kernel
  have LT:=I.type (M:=model prog w)
  have LS:=looks_subIn (M:=model prog w) X c.sub
  have LI:Looks (model prog w) s.heap (isInstance (.ref x) (.type "BaseException")) true:=LT.andThen LS
  have ha:=F.args_bexc_ga (.ref x) nv
  obtain ⟨hh,g,d,t,os⟩:=s
  simp only [checkBuiltinCall,hk,hsp]
  refine wpAny_bind (LI.at ?_)
  repeat (any_goals (first | assumption | wp_step))
theorem exc_call {v:Value} {tk:Tok} {R:Result→Shared→Prop} (c:ExcCls K C) (X:K.In s.heap) (I:InstAt s.heap x ox C od) (hf:findObj K C od name=some (.value v)) (h:R (.ok (.ret v)) s) :
    codeAny (model prog w) A (.call (.builtin "BaseException.__getattribute__") ⟨[.ref x,.str name tk],[]⟩) R s:=by
  refine codeAny_call_builtin F.attr_ValueError.ga.plain F.entry_bexc_ga (exc_check c X I ?_)
  have LT:=I.type (M:=model prog w)
  have LF:=looks_find (M:=model prog w) X I hf
  obtain ⟨hh,g,d,t,os⟩:=s
  unfold Builtin.«object.__getattribute__»
  refine wpAny_bind ?_
  repeat (any_goals (first | assumption | (refine LT.at ?_) | (refine LF.at ?_) | wp_step))
theorem exc_callB {g a v:Value} {tk:Tok} {R:Result→Shared→Prop} (c:ExcCls K C) (X:K.In s.heap) (I:InstAt s.heap x ox C od) (hf:findObj K C od name=some (.bind g a))
    (h:∀ A' R',(R' (.ok (.ret v)) s)→codeAny (model prog w) A' (.call g ⟨[a,.ref x,.ref C],[]⟩) R' s) (hq:R (.ok (.ret v)) s) :
    codeAny (model prog w) A (.call (.builtin "BaseException.__getattribute__") ⟨[.ref x,.str name tk],[]⟩) R s:=by
  refine codeAny_call_builtin F.attr_ValueError.ga.plain F.entry_bexc_ga (exc_check c X I ?_)
  have LT:=I.type (M:=model prog w)
  have LF:=looks_find (M:=model prog w) X I hf
  obtain ⟨hh,gg,d,t,os⟩:=s
  unfold Builtin.«object.__getattribute__»
  refine wpAny_bind ?_
  repeat (any_goals (first | assumption | (refine LT.at ?_) | (refine LF.at ?_) | (refine h _ _ ?_) | wp_step))
theorem exc_by {v:Value} {nv:Value} {fill expr:Bool} {Q:Value→Shared→Prop} (c:ExcCls K C) (X:K.In s.heap) (I:InstAt s.heap x ox C od)
    (hc:∀ A' R',(R' (.ok (.ret v)) s)→codeAny (model prog w) A' (.call (.builtin "BaseException.__getattribute__") ⟨[.ref x,nv],[]⟩) R' s) (hv:handedIn v=true) (h:Q v s):wpAny (model prog w) A (getAttrBy (.ref x) nv fill expr) Q E s:=by
  have LT:=I.type (M:=model prog w)
  have L1:=looks_findIn (M:=model prog w) X c.ga
  have L2:=looks_findIn (M:=model prog w) X c.gt
  have hb:=F.attr_ValueError.ga.bind (.ref x)
  have n0:(expr&&onTheHeap (Value.builtin "BaseException.__getattribute__"))=false:=by cases expr <;> rfl
  have n1:(onTheHeap (Value.ref C)&&Value.builtin "BaseException.__getattribute__" == Value.builtin "object.__getattribute__")=false:=by
    rw [show (Value.builtin "BaseException.__getattribute__" == Value.builtin "object.__getattribute__")=false by decide +kernel]; rfl
  obtain ⟨hh,g,d,t,os⟩:=s
  unfold getAttrBy
  refine wpAny_holding (wpAny_bind (LT.at (wpAny_bind (L1.at ?_))))
  dsimp only
  rw [if_neg (by rw [n1]; exact Bool.false_ne_true)]
  unfold getAttrByItsOwn hookBefore
  rw [if_pos (show onTheHeap (Value.ref C)=true from rfl)]
  refine wpAny_bind (L2.at (wpAny_bind (wpAny_attempt (wpAny_holding ?_))))
  unfold callGetattribute
  rw [if_neg (by rw [n0]; exact Bool.false_ne_true)]
  unfold boundAndCalled
  refine wpAny_bind (wpAny_of_eq hb (wpAny_call (hc _ _ ?_)))
  exact handed_on hv h
theorem exc_attr {v:Value} {expr:Bool} {Q:Value→Shared→Prop} (c:ExcCls K C) (X:K.In s.heap) (I:InstAt s.heap x ox C od) (hf:findObj K C od name=some (.value v)) (hv:handedIn v=true) (h:Q v { s with toks:=s.toks+1 }) :
    wpAny (model prog w) A (getAttr (.ref x) name expr) Q E s:=by
  unfold getAttr
  refine wpAny_bind (wpAny_mkText ?_)
  exact exc_by (s:={ s with toks:=s.toks+1 }) c X I (fun A' R' q=>exc_call (s:={ s with toks:=s.toks+1 }) c X I hf q) hv h
theorem exc_class {Q:Option Value→Shared→Prop} (c:ExcCls K C) (X:K.In s.heap) (I:InstAt s.heap x ox C od) (h:Q (some (.ref C)) { s with toks:=s.toks+1 }):wpAny (model prog w) A (getAttr? (.ref x) "__class__") Q E s:=by
  have hf:findObj K C od "__class__" = some (.bind (.builtin "getset_descriptor.__get__") (.builtin "object.__class__")):=by
    obtain ⟨cd,hc⟩:=Option.isSome_iff_exists.mp c.cls
    unfold findObj
    rw [hc,Option.bind_some,c.kc,Option.bind_some]
    simp [c.kg,c.kt]
  unfold getAttr? getAttrBy?
  refine wpAny_bind (wpAny_mkText (wpAny_bind (wpAny_attempt ?_)))
  refine exc_by (s:={ s with toks:=s.toks+1 }) c X I (fun A' R' q=>exc_callB (s:={ s with toks:=s.toks+1 }) (v:=.ref C) c X I hf (fun A'' R'' q'=>class_get (s:={ s with toks:=s.toks+1 }) (ox:=ox) (od:=od) X I c.ob q') q) rfl ?_
  exact wpAny_pure h
theorem kitx_exc (c:ExcCls K C):KitX K (.ref x) (.ref C) (fun h=>∃ ox od,InstAt h x ox C od) where
  ty:=fun _ _ _ ⟨_,_,I⟩=>I.type
  it:=fun M h X _=>by
    have e:=c.cls
    unfold clsIn at e
    split at e
    · rename_i ho
      intro A' Q' E' s' k q
      unfold isType loadHead
      exact wpAny_bind (wpAny_loadPart (k _ _ (X _ _ ho)) (wpAny_pure q))
    · cases e
  ne:=fun h tp dd its n sl X htp=>by
    refine Bool.eq_false_iff.mpr fun q=>?_
    obtain rfl:C=tp:=Value.ref.inj (beq_iff_eq.mp q)
    have e:=c.cls
    unfold clsIn at e
    split at e
    · rename_i ho
      have z:=(X _ _ ho).symm.trans htp
      cases z
    · cases e
  ca:=fun X ⟨_,_,I⟩ k=>exc_class c X I k
end
end L2
set_option Elab.async false
set_option linter.all false
set_option maxRecDepth 100000
namespace L2
open PySem PySem.Spec PyProof.Rows
def ExcO (a C:Addr) (od:Option Addr):HO:=.ext fun h=>∃ oe vs,h.get? a=some oe∧oe.cls=.ref C∧oe.dict=od∧oe.data=.fields vs∧1<vs.size
theorem ExcO.ok {P:Program} {w:World} {H:Hp} {h:Heap} {a C:Addr} {od:Option Addr} {st:Option (Addr × Value)} (x:ExcAt h a (.ref C) od st):ObjOk P w H h a (ExcO a C od):=by
  obtain ⟨oe,vs,h1,h2,h3,h4,h5,_⟩:=x
  refine ⟨⟨oe,vs,h1,h2,h3,h4,h5.sz⟩,⟨oe,h1⟩,?_⟩
  rintro g1 g2 ⟨oe,vs,e1,e2,e3,e4,e5⟩ k
  exact ⟨oe,vs,k _ e1,e2,e3,e4,e5⟩
def Cx.tryW (X:Cx) (pins:List (Addr × Obj)) (xe:Value→Shared→Prop):Cx:={ X with pn:=X.pn++pins,xe:=xe }
def Cx.suite (X:Cx) (a:Addr):Cx:={ X with A:=X.A.mark (some (.ref a)),calm:=false,xe:=fun _ _=>False }
def Ends.drop (D:Ends) (i:Nat):Ends:={ nx:=fun σ H=>D.nx (σ.set i none) H,rt:=D.rt,bk:=fun σ H=>D.bk (σ.set i none) H,ct:=fun σ H=>D.ct (σ.set i none) H }
structure Catch (K:PySem.W.Frag) (C2:Addr):Prop where
  ty:PySem.W.typeIn K (.ref C2)=some (.type "type")
  cls:(PySem.W.clsIn K C2).isSome=true
  sub:PySem.W.subIn K (.ref C2) (.type "BaseException")=some true
def tTry (K:PySem.W.Frag) (C2:Addr) (i:Nat) (tb:(St→XK)→TS) (th:TS):TS:=fun D σ H=>∃ Ex:St→XK,tb Ex D σ H ∧
  ∀ σ' cls od H',Ex σ' cls od H'→∃ C,cls=.ref C∧PySem.W.subIn K (.ref C) (.ref C2)=some true∧∀ a,H' a=none→th (D.drop i) (σ'.set i (some (.ref a))) (upd H' a (ExcO a C od))
section
variable {X:Cx} {pins:List (Addr × Obj)} {σ:St} {H:Hp} {s:Shared}
theorem Inv.tryW (I:Inv X pins σ H s) (xe:Value→Shared→Prop):Inv (X.tryW pins xe) [] σ H s :=
  ⟨⟨I.ok.mod,I.ok.kind,I.ok.glob,I.ok.blt,I.ok.above,I.ok.inj,I.ok.has,I.ok.cab,I.ok.hd,I.ok.frames,I.ok.stk,I.ok.exf,I.ok.bs,I.ok.bsz,I.ok.noex,I.ok.exfs,I.ok.funs,I.ok.frf⟩,I.os,I.bare,I.base,I.loc,I.cell,I.free,I.freeC,
    fun p hp=>I.pin p (by have:p∈(X.pn++pins)++[]:=hp; rwa [List.append_nil] at this),I.hok,I.len⟩
theorem Inv.untry {xe:Value→Shared→Prop} {pins':List (Addr × Obj)} (I:Inv (X.tryW pins xe) pins' σ H s):Inv X pins σ H s :=
  ⟨⟨I.ok.mod,I.ok.kind,I.ok.glob,I.ok.blt,I.ok.above,I.ok.inj,I.ok.has,I.ok.cab,I.ok.hd,I.ok.frames,I.ok.stk,I.ok.exf,I.ok.bs,I.ok.bsz,I.ok.noex,I.ok.exfs,I.ok.funs,I.ok.frf⟩,I.os,I.bare,I.base,I.loc,I.cell,I.free,I.freeC,
    fun p hp=>I.pin p (List.mem_append_left _ hp),I.hok,I.len⟩
theorem Inv.suite (I:Inv X pins σ H s) (a:Addr):Inv (X.suite a) pins σ H s :=
  ⟨⟨I.ok.mod,I.ok.kind,I.ok.glob,I.ok.blt,I.ok.above,I.ok.inj,I.ok.has,I.ok.cab,(fun z=>by cases z),I.ok.frames,I.ok.stk,I.ok.exf,I.ok.bs,I.ok.bsz,I.ok.noex,I.ok.exfs,I.ok.funs,I.ok.frf⟩,I.os,I.bare,I.base,I.loc,I.cell,I.free,I.freeC,I.pin,I.hok,I.len⟩
theorem Inv.unsuite {a:Addr} (I:Inv (X.suite a) pins σ H s) (ok:X.Ok):Inv X pins σ H s:=⟨ok,I.os,I.bare,I.base,I.loc,I.cell,I.free,I.freeC,I.pin,I.hok,I.len⟩
theorem Inv.forget {h':Heap} {tk:Nat} {i:Nat} {x:Str} {v:Option Value} {m:Str→Option Value} (I:Inv X pins σ H s) (hN:X.N.Nodup) (hi:X.N[i]?=some x)
    (hl:∀ (i:Nat) (x:Str) (v:V),X.N[i]?=some x→σ[i]?=some (some v)→Vis X.env.scope x→∃ u,RelV v u∧Look X.env s.heap m x u)
    (hn:h'.Ns X.env.locals (fun y=>if y=x then v else m y)) (hs:Heap.SameBut X.env.locals s.heap h'):Inv X pins (σ.set i none) H { s with heap:=h',toks:=tk }:=by
  have hiσ:i<σ.length:=by rw [I.len]; exact (List.getElem?_eq_some_iff.mp hi).1
  have cne:=I.cne
  refine ⟨I.ok,I.os,I.bare,⟨fun b o e n hb hx=>?_,fun b o e n hb hx=>?_,I.base.free,fun b o e hx=>?_,I.base.tups,I.base.frzs,I.base.tbls⟩,⟨_,hn,fun j y w e1 e2 e3=>?_⟩,fun y c e=>?_,I.free,I.freeC,fun p hp=>?_,?_,by simpa using I.len⟩
  · exact (hs.2 b (Nat.ne_of_lt (Nat.lt_of_lt_of_le (Heap.lt_size e) I.ok.above))).trans (I.base.keep b o e n hb hx)
  · obtain ⟨sl,q⟩:=I.base.slot b o e n hb hx
    exact ⟨sl,(hs.2 b (Nat.ne_of_lt (Nat.lt_of_lt_of_le (Heap.lt_size e) I.ok.above))).trans q⟩
  · obtain ⟨o',q⟩:=I.base.there b o e hx
    exact ⟨o',(hs.2 b (Nat.ne_of_lt (Nat.lt_of_lt_of_le (Heap.lt_size e) I.ok.above))).trans q⟩
  · by_cases hj:j=i
    · subst hj
      rw [List.getElem?_set_self hiσ] at e2
      cases e2
    · rw [List.getElem?_set_ne (Ne.symm hj)] at e2
      obtain ⟨u,r,q⟩:=hl j y w e1 e2 e3
      refine ⟨u,r,?_⟩
      rcases q with ⟨k,e⟩ | ⟨k,c,e,z⟩
      · have ny:y≠x:=fun z=>hj (nodup_ix hN e1 (z ▸ hi))
        exact .inl ⟨k,by simp [ny,e]⟩
      · exact .inr ⟨k,c,e,z.sameBut hs (cne y c e)⟩
  · obtain ⟨w,z⟩:=I.cell y c e
    exact ⟨w,z.sameBut hs (cne y c e)⟩
  · obtain ⟨e,n,ne,nf,d⟩:=I.pin p hp
    exact ⟨(hs.2 p.1 ne).trans e,n,ne,nf,d⟩
  · exact fun b u e=>(I.hok b u e).stay (fun c o hc q=>(hs.2 c (fun z=>by
      subst z
      rcases hc with z | z
      · subst z; rw [I.free] at e; cases e
      · rw [I.free] at z; cases z)).trans q) (fun _ q=>q) fun _ _ q=>q
theorem Inv.landed {a T:Addr} {C:Addr} {od:Option Addr} {H2:Hp} {s2:Shared} {h':Heap} {st:Option (Addr × Value)} (I:Inv X pins σ H s) (os:s2.os=s.os) (bare:AllBare s2.gens) (un:Un (frs X.stack) [] H H2 s.heap s2.heap) (hok:HOk X.prog X.w H2 s2.heap)
    (fa:s.heap.get? a=none) (fT:s.heap.get? T=none) (na:H2 a=none) (nT:H2 T=none) (k:Kp (frs X.stack) [a,T] s2.heap h') (x:ExcAt h' a (.ref C) od st):Inv X pins σ (upd H2 a (ExcO a C od)) { s2 with heap:=h' }:=by
  have hfree:∀ b∈frs X.stack,H2 b=none:=fun b hb=>by
    have ff:=I.stack
    obtain ⟨_,o,ho,_⟩:=ff.mem hb
    exact un.free b o ho (I.stkFree b hb) (by simp)
  have hex:∀ b∈[a,T],s.heap.get? b=none:=fun b hb=>by
    rcases List.mem_cons.mp hb with rfl | hb
    · exact fa
    · cases List.mem_singleton.mp hb; exact fT
  have hex2:∀ b∈[a,T],H2 b=none:=fun b hb=>by
    rcases List.mem_cons.mp hb with rfl | hb
    · exact na
    · cases List.mem_singleton.mp hb; exact nT
  exact I.call' (s':={ s2 with heap:=h' }) (ch:=[]) os ((un.kp k (fun b hb=>.inl hb) hex).put fa na) ((hok.kp k hfree hex2).put na (ExcO.ok x)) bare fun b hb=>by cases hb
end
section
variable {M:Model} {A:Around} {E:Value→Shared→Prop} {K:PySem.W.Frag} {s:Shared} {a C C2:Addr} {ox:Obj} {od:Option Obj}
theorem exc_hits' {Q:Bool→Shared→Prop} (X:K.In s.heap) (L4:PySem.W.Looks M s.heap (typeOf (.ref a)) (.ref C)) (c2:Catch K C2) (hsub:PySem.W.subIn K (.ref C) (.ref C2)=some true) (h:Q true s):wpAny M A (excMatches (.ref a) (.ref C2)) Q E s:=by
  have L1:=PySem.W.looks_typeIn (M:=M) X c2.ty
  have L2:=PySem.W.looks_subIn (M:=M) X c2.sub
  have L3:=PySem.W.looks_subIn (M:=M) X hsub
  have L5:PySem.W.Looks M s.heap (isType (.ref C2)) true:=by
    have e:=c2.cls
    unfold PySem.W.clsIn at e
    split at e
    · rename_i ho
      intro A' Q' E' s' k q
      unfold isType loadHead
      exact wpAny_bind (wpAny_loadPart (k _ _ (X _ _ ho)) (wpAny_pure q))
    · cases e
  have f:=tc_notTuple
  obtain ⟨hh,g,d,t,os⟩:=s
  unfold excMatches
  repeat (any_goals (first | assumption | (refine L1.at ?_) | (refine L2.at ?_) | (refine L3.at ?_) | (refine L4.at ?_) | (refine L5.at ?_) | wp_step))
end
end L2
set_option Elab.async false
set_option linter.all false
set_option maxRecDepth 100000
namespace L2
open PySem PySem.Spec PyProof.Rows
section
variable {X:Cx} {x n:Str} {np hpos pos:Pos} {b₀:Stmt} {body suite:List Stmt} {i:Nat} {C2:Addr} {tb:(St→XK)→TS} {th:TS}
theorem behind_suite {pins:List (Addr × Obj)} {a:Addr} {D:Ends} {f:Flow} {s:Shared} (ok:X.Ok) (hN:X.N.Nodup) (hi:X.N[i]?=some n) (hl:X.env.kindOf n=some .local)
    (q:SP (X.suite a) pins (D.drop i) f s):wpAny (model X.prog X.w) X.A (do bindName X.env n .none; unbindBehindTheSuite X.env n hpos) (fun _ s'=>SP X pins D f s') X.xe s:=by
  have hp:(X.env.scope.kind == .class || (X.env.scope.kind == .module&&X.env.locals != X.env.globals))=false:=by rw [ok.kind]; rfl
  have go:∀ {σ:St} {H:Hp} (J:Inv (X.suite a) pins σ H s) {Q:Unit→Shared→Prop},(∀ s',Inv X pins (σ.set i none) H s'→Q () s')→wpAny (model X.prog X.w) X.A (do bindName X.env n .none; unbindBehindTheSuite X.env n hpos) Q X.xe s:=by
    intro σ H J Q k
    have J':=J.unsuite ok
    obtain ⟨m,hn,hl'⟩:=J'.loc
    exact wpAny_nameGoes_keeps hl hn hp fun h' v hn' hs=>k _ (J'.forget hN hi hl' hn' hs)
  cases f with
  | next=>obtain ⟨σ,H,J,q⟩:=q; exact go J fun s' J'=>⟨_,H,J',q⟩
  | brk=>obtain ⟨σ,H,J,q⟩:=q; exact go J fun s' J'=>⟨_,H,J',q⟩
  | cont=>obtain ⟨σ,H,J,q⟩:=q; exact go J fun s' J'=>⟨_,H,J',q⟩
  | ret u=>obtain ⟨v,σ,H,J,r,q⟩:=q; exact go J fun s' J'=>⟨v,_,H,J',r,q⟩
theorem ws_try (hst:X.stack=X.env::X.outer) (hfm:X.env.frame=some X.env.locals) (hg:Gl X x) (hm:X.mg x=some (.ref C2)) (c2:Catch X.K C2) (hN:X.N.Nodup) (hi:X.N[i]?=some n) (hl:X.env.kindOf n=some .local)
    (hb:∀ pins xe Ex,XPass (X.tryW pins xe) Ex→PSsw (X.tryW pins xe) body (tb Ex)) (hs:∀ a,PSsw (X.suite a) (b₀::suite) th) (hd:(x == ("__debug__" : Str))=false:=by decide) :
    PSw X (.Try body [.ExceptHandler (some (.Name x np)) (some n) (b₀::suite) hpos] [] [] pos) (tTry X.K C2 i tb th):=⟨by
  intro pins s σ H D I h
  obtain ⟨Ex,h1,h2⟩:=h
  refine wpAny_Try_except ?_
  generalize hxe:(fun (e:Value) (s₁:Shared)=>wpAny (model X.prog X.w) X.A (noteFrame e X.env) (fun _ s₂=>wpAny (model X.prog X.w) X.A (setFlight e none) (fun _ s₃ =>
    wpAny (model X.prog X.w) X.A (handleBy e X.env [.ExceptHandler (some (.Name x np)) (some n) (b₀::suite) hpos]) (SP X pins D) X.xe s₃) X.xe s₂) X.xe s₁)=xe
  have hx:XPass (X.tryW pins xe) Ex:=⟨fun pins' σ' H1 s1 e s2 I' hc=>by
    obtain ⟨a,T,cls,od,H2,rfl,os,bare,un,hok,fa,fT,na,nT,x0,q⟩:=hc
    obtain ⟨C,rfl,hsub,k⟩:=h2 σ' cls od H2 q
    have I1:Inv X pins σ' H1 s1:=I'.untry
    have un:Un (frs X.stack) [] H1 H2 s1.heap s2.heap:=un
    have hff:s2.heap.FunFrames X.base (X.env::X.outer):=by
      rw [← hst]
      exact funFrames_kp (fun b hb o e=>un.any e (I1.stkFree b hb) (by simp)) I1.stack
    show xe (.ref a) s2
    rw [← hxe]
    refine note_ok (by rw [← hst]; exact I1.ok.frames) hff hfm x0 (.inr ⟨T,rfl⟩) fun h3 T3 y1 y2 y3=>?_
    refine land_ok y1 fun h4 z1 z2=>?_
    have k4:Kp (frs X.stack) [a,T] s2.heap h4:=by
      rw [hst]
      refine ⟨fun b o e n1 n2=>z2 b o (fun q=>by subst q; rw [y2] at e; cases e) (y3.keep b o e n1 n2),fun b o e n1 n2=>?_⟩
      obtain ⟨sl,e1⟩:=y3.slot b o e n1 n2
      exact ⟨sl,z2 b _ (fun q=>by subst q; rw [y2] at e; cases e) e1⟩
    have I4:=I1.landed (h':=h4) os bare un hok fa fT na nT k4 z1
    refine wpAny_handleBy_cons (codeAny_handlers_test ?_) (by intro q; cases q)
    refine Calls.Name_function_global I4.ok.kind hg (Calls.loadGlobal_global (by rw [I4.ok.glob]; exact I4.mod.glob.keeps I4.bk) hm ?_) hd
    have LT:PySem.W.Looks (model X.prog X.w) h4 (typeOf (.ref a)) (.ref C):=by
      obtain ⟨oe,vs,e1,e2,_⟩:=z1
      exact e2 ▸ (PySem.W.Looks.ld e1).andThen .now
    refine exc_hits' I4.kIn LT c2 hsub ?_
    refine codeAny_handlers_suite_as ?_
    refine land_ok z1 fun h5 w1 w2=>?_
    have k5:Kp (frs X.stack) [a,T] s2.heap h5:=by
      refine ⟨fun b o e n1 n2=>w2 b o (fun q=>by subst q; rw [y2] at e; cases e) (k4.keep b o e n1 n2),fun b o e n1 n2=>?_⟩
      obtain ⟨sl,e1⟩:=k4.slot b o e n1 n2
      exact ⟨sl,w2 b _ (fun q=>by subst q; rw [y2] at e; cases e) e1⟩
    have I5:=(I1.landed (h':=h5) os bare un hok fa fT na nT k5 w1).suite a
    refine store_ok (X:=X.suite a) I5 hN hi (.inl hl) (v:=.ref a) rfl (fun s6 I6=>?_) (.inr hl)
    refine wpAny_mono ((hs a).p pins s6 _ _ (D.drop i) I6 (k a na)) (fun f s7 q7=>?_) fun _ _ z=>False.elim z
    exact behind_suite I1.ok hN hi hl q7⟩
  refine wpAny_mono ((hb pins xe Ex hx).p [] s σ H D (I.tryW xe) h1) (fun f s' q=>?_) fun e s' q=>q
  cases f with
  | next=>obtain ⟨σ',H',J,q⟩:=q; exact wpAny_execs_nil ⟨σ',H',J.untry,q⟩
  | brk=>obtain ⟨σ',H',J,q⟩:=q; exact ⟨σ',H',J.untry,q⟩
  | cont=>obtain ⟨σ',H',J,q⟩:=q; exact ⟨σ',H',J.untry,q⟩
  | ret u=>obtain ⟨v,σ',H',J,r,q⟩:=q; exact ⟨v,σ',H',J.untry,r,q⟩⟩
end
end L2
set_option Elab.async false
set_option linter.all false
set_option maxRecDepth 100000
namespace L2
open PySem PySem.Spec PyProof.Rows
def tTryB (K:PySem.W.Frag) (C2:Addr) (tb:(St→XK)→TS) (th:TS):TS:=fun D σ H=>∃ Ex:St→XK,tb Ex D σ H ∧
  ∀ σ' cls od H',Ex σ' cls od H'→∃ C,cls=.ref C∧PySem.W.subIn K (.ref C) (.ref C2)=some true∧∀ a,H' a=none→th D σ' (upd H' a (ExcO a C od))
section
variable {X:Cx} {x:Str} {np hpos pos:Pos} {b₀:Stmt} {body suite:List Stmt} {C2:Addr} {tb:(St→XK)→TS} {th:TS}
end
end L2
set_option Elab.async false
set_option linter.all false
set_option maxRecDepth 100000
namespace L2
open PySem
end L2
set_option Elab.async false
set_option linter.all false
set_option maxRecDepth 100000
namespace L2
open PySem PySem.Spec PyProof.Rows
end L2
set_option Elab.async false
set_option linter.all false
set_option maxRecDepth 100000
namespace L2
open PySem PySem.W PySem.Spec PySem.Calls PyProof.Rows
structure NoDig (K:Frag):Prop where
  ok:nsOkIn K cStatics=true
  no:nsIn K cStatics "sys.int_max_str_digits" = some none
theorem NoDig.at {K:Frag} {h:Heap} (n:NoDig K) (X:K.In h):h.NoDigits:=⟨_,.of_isNs (isNs_of_in X n.ok),nsMap_none_of_in X n.ok n.no⟩
section
variable {X:Cx}
@[irreducible] def rStrI:List V→Hp→VK→Prop:=fun xs H Q=>∃ i:Int,xs=[.int i]∧i.natAbs<10^4300∧Q (.str (toString i)) H
theorem rstrI {i:Int} {H:Hp} {Q:VK} (h:i.natAbs<10^4300) (q:Q (.str (toString i)) H):rStrI [.int i] H Q:=by unfold rStrI; exact ⟨i,rfl,h,q⟩
theorem cl_strI (hc:X.calm=true) (nd:NoDig X.K):CallR X (.type "str") rStrI:=by
  unfold rStrI
  intro pins s σ H xs us Q I r h
  obtain ⟨i,rfl,hz,q⟩:=h
  obtain ⟨u,rfl,t,rfl⟩:=vals1 r
  exact PyProof.Rows.str_of_int_or (I.ok.hd hc) (nd.at I.kIn) (fun _=>⟨.str _,H,I.tok _,⟨_,rfl⟩,q⟩) (fun h=>absurd hz (Nat.not_lt.mpr h))
@[irreducible] def rStarts:V→List V→Hp→VK→Prop:=fun x xs H Q=>∃ a b,x=.str a∧xs=[.str b]∧Q (.bl (Txt.startswith a b)) H
theorem rstarts {a b:Str} {H:Hp} {Q:VK} (q:Q (.bl (Txt.startswith a b)) H):rStarts (.str a) [.str b] H Q:=by unfold rStarts; exact ⟨a,b,rfl,rfl,q⟩
theorem mt_starts:MtR X "str.startswith" rStarts:=by
  unfold rStarts
  intro pins s σ H x xs v us Q I rx rv h
  obtain ⟨a,b,rfl,rfl,q⟩:=h
  obtain ⟨t,rfl⟩:=rx
  obtain ⟨u,rfl,t',rfl⟩:=vals1 rv
  exact SC.startswith ⟨.bl _,H,I,rfl,q⟩
theorem vals_strs:∀ (l:List (Str × Tok)),Vals (l.map fun p=>V.str p.1) (strValues l)
  | []=>.nil
  | (x,t)::r=>.cons ⟨t,rfl⟩ (vals_strs r)
@[irreducible] def rSplit:V→List V→Hp→VK→Prop:=fun x xs H Q=>∃ a b,x=.str a∧xs=[.str b]∧(b.length == 0)=false∧a.length≤sizeLine∧(Txt.split a b).length≤sizeLine∧∀ p,H p=none→Q (.ref p) (upd H p (.lst ((Txt.split a b).map V.str)))
theorem rsplit {a b:Str} {H:Hp} {Q:VK} (h1:(b.length == 0)=false) (h2:a.length≤sizeLine) (h3:(Txt.split a b).length≤sizeLine) (q:∀ p H',H p=none→H' p=some (.lst ((Txt.split a b).map V.str))→Same H H'→Q (.ref p) H'):rSplit (.str a) [.str b] H Q:=by
  unfold rSplit; exact ⟨a,b,rfl,rfl,h1,h2,h3,fun p hp=>q p _ hp upd_same (Same.upd hp)⟩
theorem mt_split:MtR X "str.split" rSplit:=by
  unfold rSplit
  intro pins s σ H x xs v us Q I rx rv h
  obtain ⟨x,y,rfl,rfl,hy,hsz,hz,q⟩:=h
  obtain ⟨t,rfl⟩:=rx
  obtain ⟨_,rfl,u,rfl⟩:=vals1 rv
  unfold Txt.split at hz q
  cases h1:(decide (x.length<y.length) || decide (Builtin.Str.strKind x<Builtin.Str.strKind y))
  · rw [h1,if_neg Bool.false_ne_true] at hz q
    cases hf:(Builtin.Str.occurrences x y 0 x.length (x.length+1)).isEmpty
    · rw [hf,if_neg Bool.false_ne_true] at hz q
      refine call_meets F.slot_str_split (typeIs_str _ _ _) F.entry_str_split (F.args_str_split_2 _ _) (meets_str_split_sep x y t u h1 hy hf hsz hz) ?_
      rw [strsFrom_eq]
      refine ⟨.ref _,_,I.lnew (t':=_) (ys:=_) ?_ ?_,rfl,q _ I.fresh⟩
      · have e:=numbered_texts s.toks (Builtin.Str.partsBetween x (Builtin.Str.occurrences x y 0 x.length (x.length+1)) y.length)
        have v:=vals_strs (numbered s.toks (Builtin.Str.partsBetween x (Builtin.Str.occurrences x y 0 x.length (x.length+1)) y.length))
        rw [show (fun p:Str × Tok=>V.str p.1)=V.str ∘ Prod.fst from rfl,← List.map_map,e] at v
        exact v
      · rw [List.length_map]; exact hz
    · rw [hf,if_pos rfl] at hz q
      exact call_meets F.slot_str_split (typeIs_str _ _ _) F.entry_str_split (F.args_str_split_2 _ _) (meets_str_split_not_found x y t u h1 hy hf)
        ⟨.ref _,_,I.lnew (t':=s.toks) (its:=[.str x t]) (ys:=[V.str x]) (.cons ⟨t,rfl⟩ .nil) (by show 1≤sizeLine; decide),rfl,q _ I.fresh⟩
  · rw [h1,if_pos rfl] at hz q
    exact call_meets F.slot_str_split (typeIs_str _ _ _) F.entry_str_split (F.args_str_split_2 _ _) (meets_str_split_cannot_occur x y t u h1)
      ⟨.ref _,_,I.lnew (t':=s.toks) (its:=[.str x t]) (ys:=[V.str x]) (.cons ⟨t,rfl⟩ .nil) (by show 1≤sizeLine; decide),rfl,q _ I.fresh⟩
def Signs (t:Str):Prop:=∀ c∈t.cps.toList,c=45∨(48≤c∧c≤57)
@[irreducible] def rIntT:List V→Hp→VK→Prop:=fun xs H Q=>∃ t n,xs=[.str t]∧Signs t∧PySem.intText? t=some n∧t.length≤sizeLine∧Q (.int n) H
theorem rintT {t:Str} {n:Int} {H:Hp} {Q:VK} (hs:Signs t) (h:PySem.intText? t=some n) (z:t.length≤sizeLine) (q:Q (.int n) H):rIntT [.str t] H Q:=by unfold rIntT; exact ⟨t,n,rfl,hs,h,z,q⟩
end
section
open PySem.NumText
theorem wpAny_intMax {M:Model} {A:Around} {E:Value→Shared→Prop} {s:Shared} {Q:Nat→Shared→Prop} (nd:s.heap.NoDigits) (h:Q 4300 s):wpAny M A Builtin.intMaxStrDigits Q E s:=by
  obtain ⟨mc,hns,hnone⟩:=nd
  unfold Builtin.intMaxStrDigits
  refine wpAny_bind (wpAny_nsGet hns ?_)
  rw [hnone]
  exact wpAny_pure h
theorem wp_textB {M:Model} {A:Around} {E:Value→Shared→Prop} {s:Shared} {Q:Value→Shared→Prop} {v:Value} {text:List Nat} {n:Int} (nd:s.heap.NoDigits)
    (hs:¬ (text.takeWhile (· != 0)).length≤640) (hr:(int_private% "readNumeral") 4300 10 (text.takeWhile (· != 0))=(int_private% "Numeral.value") n)
    (ha:((text.takeWhile (· != 0)).length == text.length)=true) (h:Q (.int n s.toks) { s with toks:=s.toks+1 }) :
    wpAny M A ((int_private% "intFromText") v text 10) Q E s:=by
  obtain ⟨hp,g,d,tk,os⟩:=s
  repeat (any_goals (first
    | assumption
    | (with_reducible refine wpAny_intMax nd ?_)
    | (with_reducible refine wpAny_ite_false (decide_eq_false hs) ?_)
    | (with_reducible refine wpAny_ite_true (decide_eq_true ha) ?_)
    | wp_step))
  all_goals (try rw [hr])
  all_goals (try dsimp only)
  repeat (any_goals (first
    | assumption
    | (with_reducible refine wpAny_intMax nd ?_)
    | (with_reducible refine wpAny_ite_false (decide_eq_false hs) ?_)
    | (with_reducible refine wpAny_ite_true (decide_eq_true ha) ?_)
    | wp_step))
open PySem.W.KIN in
set_option maxHeartbeats 4000000 in
theorem meets_textB {x:PySem.Str} {u:Tok} {n:Int} (hx:x.length≤sizeLine) (hl:¬ (numSeenOf x).length≤640) (hn:PySem.intText? x=some n) :
    Meets (Builtin.«int.__new__» ⟨[.type "int",.str x u],[]⟩) (fun A R s=>s.heap.NoDigits∧R (.ok (.ret (.int n s.toks))) { s with toks:=s.toks+1 }) :=
  .of_wp fun prog w A R s h=>by
    obtain ⟨nd,h⟩:=h
    obtain ⟨hp,g,d,tk,os⟩:=s
    have f1:=F.conv_sub_int
    have f2:=F.madeHere_int
    have f3:=str_int
    have f4:=str_idx
    have f5:=str_trunc
    have f6:typeOf (.str x u)=pure (.type "str"):=rfl
    have hr:(int_private% "readNumeral") 4300 10 (numSeenOf x)=(int_private% "Numeral.value") n∧((numSeenOf x).length == (numTextOf x).length)=true:=by
      rcases read4300 x hx with ⟨m,h1,h2,h3⟩ | ⟨h1,_⟩
      · rw [hn] at h1
        injection h1 with h1
        subst h1
        exact ⟨h3,h2⟩
      · rw [hn] at h1
        cases h1
    have hk:=KIN.Hid.mk (And.intro hl hr)
    clear hr hl hn hx
    repeat (any_goals (first
      | assumption
      | ((with_reducible show wpAny _ _ ((int_private% "intFromText") _ _ _) _ _ _); refine wp_textB nd hk.out.1 hk.out.2.1 hk.out.2.2 ?_)
      | wp_step))
    all_goals first | exact ⟨_,rfl,h⟩ | skip
end
section
open PySem.NumText
variable {X:Cx}
theorem cl_intT (nd:NoDig X.K):CallR X (.type "int") rIntT:=by
  unfold rIntT
  intro pins s σ H xs us Q I r h
  obtain ⟨x,n,rfl,hs,hn,hz,q⟩:=h
  obtain ⟨_,rfl,t,rfl⟩:=vals1 r
  have e:=(numText_signs hs).2
  have el:(numSeenOf x).length=x.length:=by rw [e]; exact Array.length_toList
  by_cases hl:x.length≤640
  · exact KIN.call_text hn hl ⟨.int n,H,I.tok _,⟨_,rfl⟩,q⟩
  · exact call_int_1 (meets_textB hz (by rw [el]; exact hl) hn) ⟨nd.at I.kIn,typeIs_int _ _ _,⟨.int n,H,I.tok _,⟨_,rfl⟩,q⟩⟩
end
end L2
set_option Elab.async false
set_option linter.all false
set_option maxRecDepth 100000
namespace L2
open PySem PySem.W PySem.Spec PySem.Calls PyProof.Rows
section
variable {X:Cx}
def rSlS:V→Option Int→Option Int→Hp→VK→Prop:=fun x lo hi H Q=>∃ a,x=.str a∧a.length≤sizeLine∧Q (.str (Txt.slice a lo hi)) H
theorem sl_str:SlR X rSlS:=by
  intro pins s σ H x v vl vu lo hi sl Q I rx hs pl pu h
  obtain ⟨a,rfl,hz,q⟩:=h
  obtain ⟨t,rfl⟩:=rx
  refine ⟨"str",_,F.slot_str_getitem.lookup,typeIs_str _ _ _,?_⟩
  have fin:∀ (l u:Option (Int × Tok)),l.map (·.1)=lo→u.map (·.1)=hi→s.heap.IsSlice sl l u none→wpAny (model X.prog X.w) X.A (getItem (.str a t) (.ref sl)) (EP X pins σ Q) X.xe s:=by
    intro l u el eu hsl
    refine wpAny_getItem_str_slice (st:=none) hsl rfl ?_
    refine post_val_or_str ⟨?_,fun t' k=>⟨.str (Txt.slice a lo hi),H,I.tok _,⟨t',?_⟩,q⟩⟩
    · have:=Txt.slice_le a lo hi
      unfold Txt.slice at this
      rw [← el,← eu] at this
      exact Nat.le_trans this hz
    · unfold Txt.slice
      rw [← el,← eu]
      rfl
  cases pl with
  | none =>
    cases pu with
    | none=>exact fin none none rfl rfl hs
    | int j tj=>exact fin none (some (j,tj)) rfl rfl hs
  | int i ti =>
    cases pu with
    | none=>exact fin (some (i,ti)) none rfl rfl hs
    | int j tj=>exact fin (some (i,ti)) (some (j,tj)) rfl rfl hs
def rMulS:R2:=fun x y H Q=>∃ a n,x=.str a∧y=.int n∧MulOk a n∧Q (.str (Txt.mul a n)) H
theorem op_mulS:OpR X (binaryOp .Mult) rMulS:=by
  intro pins s σ H x y v u Q I rx ry h
  obtain ⟨a,n,rfl,rfl,hm,q⟩:=h
  obtain ⟨t,rfl⟩:=rx
  obtain ⟨t',rfl⟩:=ry
  exact SB.mul hm fun t' k=>⟨.str _,H,I.tok _,⟨_,rfl⟩,q⟩
@[irreducible] def rAll:List V→Hp→VK→Prop:=fun xs H Q=>∃ (p:Addr) (bs:List Bool),xs=[.ref p]∧H p=some (.lst (bs.map V.bl))∧Q (.bl (bs.all id)) H
theorem rall {p:Addr} {bs:List Bool} {H:Hp} {Q:VK} (e:H p=some (.lst (bs.map V.bl))) (q:Q (.bl (bs.all id)) H):rAll [.ref p] H Q:=by unfold rAll; exact ⟨p,bs,rfl,e,q⟩
theorem bools_of {bs:List Bool}:∀ {us:List Value},Vals (bs.map V.bl) us→LSm.BoolsAre us bs:=by
  induction bs with
  | nil=>intro us r; cases r; exact .nil
  | cons b bs ih =>
    intro us r
    cases r with
    | cons r t=>cases (show _=Value.bool b from r); exact .cons b (ih t)
theorem cl_all (hc:X.calm=true):CallR X (.builtin "all") rAll:=by
  unfold rAll
  intro pins s σ H xs us Q I r h
  obtain ⟨p,bs,rfl,e,q⟩:=h
  obtain ⟨_,rfl,r1⟩:=vals1 r
  cases r1
  obtain ⟨z,its,n,rv,hl,eo⟩:=I.lstM e
  have hL:s.heap.IsList p its.toArray:=⟨_,eo,rfl,n,rfl⟩
  have hb:=bools_of rv
  have hlt:p<s.heap.objs.size:=Heap.lt_size eo
  refine call_all_walk (wpAny_pyIter_list hL ?_)
  refine ⟨s.heap.objs.size,[s.heap.objs.size,p],[s.heap.objs.size],its.toArray.size,_,_,fun i=>(bs[i]?).getD true,rfl,Walks.list (A:=X.A.in1) (I.ok.hd hc) _ p (Nat.ne_of_lt hlt) its.toArray,
    ⟨⟨_,Heap.get?_push_size _ rfl,rfl,rfl⟩,hL.push _⟩,fun i v s' Q' E' hP hQ=>?_,fun h' tk hk=>?_⟩
  · obtain ⟨b,e,rfl⟩:=hb.get i v (by simpa using hP)
    simp only [e,Option.getD_some] at hQ
    exact wpAny_truthy_bool hQ
  · have e:((List.range its.toArray.size).all fun i=>(bs[i]?).getD true)=bs.all id:=by
      rw [List.size_toArray,hb.length]; exact LSm.range_all bs
    rw [e]
    exact ⟨.bl _,H,I.kept (LSm.kept_iter hk),rfl,q⟩
end
end L2
set_option Elab.async false
set_option linter.all false
set_option maxRecDepth 100000
namespace L2
open PySem PySem.W PySem.Spec PySem.Calls PyProof.Rows
section
variable {prog:Program} {w:World} {A:Around} {E:Value→Shared→Prop} {s:Shared} {I:Addr}
end
section
variable {X:Cx} {o a:Expr} {to:TE} {ta:TA} {np p2 apos cpos:Pos}
end
end L2
set_option Elab.async false
set_option linter.all false
set_option maxRecDepth 100000
namespace L2
open PySem PySem.W PySem.Spec PySem.Calls PyProof.Rows
def Its (x:Str):It:=⟨fun i _=>i<x.cps.size,fun i H v H'=>H'=H∧∃ c,x.cps[i]?=some c∧v=.str ⟨#[c]⟩,fun i _=>x.cps.size≤i⟩
theorem turn_str {P:Program} {w:World} {K:PySem.W.Frag} {tg:Expr} {x:Str} {t:Tok} {it:Addr}:Turn P w K tg (Its x) [it] it (fun i h=>h.IsStrIter it (strIterType x) x t i) where
  mem:=by simp
  obj:=fun i h st b hb=>by
    have e:b=it:=by simpa using hb
    subst e
    obtain ⟨o,e,c,d⟩:=st
    exact ⟨o,e,fun v z=>by rw [d] at z; cases z⟩
  keep:=fun i h h' st k=>let ⟨o,e,r⟩:=st; ⟨o,k it (by simp) o e,r⟩
  item:=by
    intro X hP hw hK hc i pins s σ H E I hf st hg
    subst hP hw hK
    obtain ⟨f0,f1,f2,f3,f4,f5⟩:=hf it (by simp)
    have hx:x.cps[i]?=some x.cps[i]:=Array.getElem?_eq_getElem hg
    have fin:∀ h',h'.IsStrIter it (strIterType x) x t (i+1)→Heap.SameBut it s.heap h'→∃ u,some (Value.str ⟨#[x.cps[i]]⟩ s.toks)=some u ∧
        wpAny (model X.prog X.w) X.A (letOwnedTupleGo tg (.ref it) u) (fun _ s2=>∃ v H',Inv X pins σ H' s2∧RelV v u∧(Its x).yld i H v H'∧s2.heap.IsStrIter it (strIterType x) x t (i+1)∧∀ b∈[it],H' b=none) E { s with heap:=h',toks:=s.toks+1 }:=by
      intro h' st' sb
      have I1:Inv X pins σ H { s with heap:=h',toks:=s.toks+1 }:=I.turned (t':=s.toks+1) (fun b o hb e=>(sb.2 b hb).trans e) f0 f1 f3 f4 f5
      obtain ⟨o,e,c,d⟩:=id st'
      refine ⟨_,rfl,go_of (s:={ s with heap:=h',toks:=s.toks+1 }) e c d ?_ ⟨.str ⟨#[x.cps[i]]⟩,H,I1,⟨_,rfl⟩,⟨rfl,_,hx,rfl⟩,st',fun b hb=>(hf b hb).1⟩⟩
      unfold strIterType
      split <;> decide
    cases ha:x.cps.all (· < 128)
    · have e:strIterType x = "str_iterator" := by unfold strIterType; rw [ha]; rfl
      rw [e] at st
      exact wpAny_pyNext_wide_item st hx fun h' st' sb=>fin h' (by rw [e]; exact st') sb
    · have e:strIterType x = "str_ascii_iterator" := by unfold strIterType; rw [ha]; rfl
      rw [e] at st
      exact wpAny_pyNext_ascii_item st hx fun h' st' sb=>fin h' (by rw [e]; exact st') sb
  done:=by
    intro X hP hw hK hc i pins s σ H E I hf st hg
    subst hP hw hK
    obtain ⟨f0,f1,f2,f3,f4,f5⟩:=hf it (by simp)
    have hx:x.cps[i]?=none:=Array.getElem?_eq_none hg
    unfold strIterType at st
    cases ha:x.cps.all (· < 128)
    · rw [ha] at st
      exact wpAny_pyNext_wide_end (I.ok.hd hc) st hx fun h' eb=>⟨rfl,I.turned (t':=s.toks) (fun b o hb e=>eb b o hb e) f0 f1 f3 f4 f5⟩
    · rw [ha] at st
      exact wpAny_pyNext_ascii_end (I.ok.hd hc) st hx fun h' eb=>⟨rfl,I.turned (t':=s.toks) (fun b o hb e=>eb b o hb e) f0 f1 f3 f4 f5⟩
  self:=fun A i s Q E st h=>by
    unfold strIterType at st
    cases ha:x.cps.all (· < 128)
    · rw [ha] at st; exact wpAny_pyIter_striter_wide st h
    · rw [ha] at st; exact wpAny_pyIter_striter_ascii st h
section
variable {X:Cx} {tg:Expr}
def iStr (tl:TE):TI:=fun σ H R=>tl σ H fun v H1=>∃ x,v=.str x∧R (Its x) H1
theorem wi_str {l:Expr} {tl:TE} (hl:PEw X l tl):PIw X tg l (iStr tl):=⟨by
  intro pins s σ H R I h
  refine thn (hl.p pins s σ H _ I h) fun v s1 ⟨x,H1,I1,r1,q1⟩=>?_
  obtain ⟨a,e,q⟩:=q1
  subst e
  obtain ⟨t,rfl⟩:=r1
  refine wpAny_pyIter_strU ?_
  refine ⟨s1.heap.objs.size,[s1.heap.objs.size],_,_,H1,rfl,I1.kept (t':=s1.toks) fun b o e=>Heap.get?_push_of_some _ e,turn_str,⟨_,Heap.get?_push_size _ rfl,rfl,rfl⟩,fun b hb=>?_,q⟩
  have e:b=s1.heap.objs.size:=by simpa using hb
  subst e
  exact I1.fpOk (Nat.le_refl _) (I1.hok.fresh (Nat.le_refl _))⟩
end
section
variable {js:List Nat} {te:TE} {tc:TT} {σ:St} {H:Hp} {Q:VK}
theorem comp_str {x:Str} (p:Nat→Bool) (f:Nat→V) (hz:x.length≤100000)
    (ht:∀ c H' (Q':Bool→Hp→Prop),c∈x.cps.toList→Q' (p c) H'→tc (some (.str ⟨#[c]⟩)::slots σ js) H' Q')
    (he:∀ c H' (Q':VK),c∈x.cps.toList→Q' (f c) H'→te (some (.str ⟨#[c]⟩)::slots σ js) H' Q')
    (hd:∀ D H',H D=none→H' D=some (.lst ((x.cps.toList.filter p).map f))→Same H H'→Q (.ref D) H'):CompB (Its x) σ js tc te H Q:=by
  unfold CompB
  intro D hD
  refine ⟨fun i m ys H'=>m=x.cps.size - i∧i≤x.cps.size∧ys=((x.cps.toList.take i).filter p).map f∧H' D=some (.lst ys)∧∀ b o,H b=some o→H' b=some o,⟨x.cps.size,by simp,Nat.zero_le _,rfl,upd_same,Same.upd hD⟩,?_⟩
  rintro i m ys H2 ⟨rfl,hi,hy,hD2,sm⟩
  refine ⟨hD2,?_⟩
  by_cases hlt:i<x.cps.size
  · have hl:ys.length≤i:=by
      rw [hy,List.length_map]
      refine Nat.le_trans (List.length_filter_le _ _) ?_
      rw [List.length_take]
      exact Nat.min_le_left _ _
    have hx:x.cps[i]?=some x.cps[i]:=Array.getElem?_eq_getElem hlt
    have hm:x.cps[i]∈x.cps.toList:=by simp
    have hti:x.cps.toList.take (i+1)=x.cps.toList.take i++[x.cps[i]]:=by
      rw [List.take_add_one]
      congr 1
      simp [hlt]
    refine .inr ⟨hlt,Nat.lt_of_le_of_lt (m:=100000) (by have:x.length=x.cps.size:=rfl; omega) (by decide),fun v H3 hy3=>?_⟩
    obtain ⟨rfl,c,hc,rfl⟩:=hy3
    rw [hx] at hc
    cases hc
    refine ⟨fun b H4=>b=p x.cps[i]∧H4=H3,ht _ _ _ hm ⟨rfl,rfl⟩,?_⟩
    rintro b H4 ⟨rfl,rfl⟩
    by_cases hp:p x.cps[i]=true
    · rw [if_pos hp]
      refine ⟨fun v H5=>v=f x.cps[i]∧H5=H4,he _ _ _ hm ⟨rfl,rfl⟩,?_⟩
      rintro v H5 ⟨rfl,rfl⟩
      refine ⟨hD2,x.cps.size - (i+1),by omega,rfl,hlt,?_,upd_same,fun b o hb=>?_⟩
      · rw [hti,List.filter_append,List.map_append,hy]
        simp [hp]
      · rw [upd_ne (ne_of_none hb hD)]
        exact sm b o hb
    · rw [if_neg hp]
      refine ⟨hD2,x.cps.size - (i+1),by omega,rfl,hlt,?_,hD2,sm⟩
      rw [hti,List.filter_append,List.map_append,hy]
      simp [hp]
  · have e:i=x.cps.size:=by omega
    subst e
    refine .inl ⟨Nat.le_refl _,hd D H2 hD ?_ sm⟩
    rw [hD2,hy,List.take_of_length_le (by simp)]
end
end L2
set_option Elab.async false
set_option linter.all false
set_option maxRecDepth 100000
namespace L2
open PySem PySem.W PySem.Spec PySem.Calls PyProof.Rows
theorem meets_int_reprB {a:Int} {t:Tok} (ha:a.natAbs<10^4300):Meets (Builtin.«int.__repr__» ⟨[.int a t],[]⟩) (fun A R s=>s.heap.NoDigits∧R (.ok (.ret (.str (toString a) s.toks))) { s with toks:=s.toks+1 }) :=
  .of_wp fun prog w A R s h=>by
    obtain ⟨nd,h⟩:=h
    unfold Builtin.«int.__repr__»
    show wpAny _ _ (do let r ← Builtin.overDigitLimit? a; _) _ _ s
    refine wpAny_bind (overDigitLimit_any nd (fun hlt=>?_) (fun hge=>absurd ha (Nat.not_lt.mpr hge)))
    exact wpAny_bind (wpAny_mkStr (wpAny_pure ⟨_,rfl,h⟩) (int_text_fits10 ha))
section
variable {prog:Program} {w:World} {A:Around} {E:Value→Shared→Prop} {s:Shared}
theorem pyReprObj_intB {a:Int} {t:Tok} {Q:Value→Shared→Prop} (nd:s.heap.NoDigits) (ha:a.natAbs<10^4300) (h:Q (.str (toString a) s.toks) { s with toks:=s.toks+1 }):wpAny (model prog w) A (pyReprObj (.int a t)) Q E s:=by
  unfold pyReprObj
  have hv:[Value.int a t].any Value.onHeap=false:=rfl
  simp only [cRoomFor,hv,Bool.false_eq_true,if_false,pure_bind]
  refine wpAny_bind (wpAny_specialOf (name:=Str.ofString "__repr__") (typeIs_int s a t) F.slot_int_repr.lookup ?_)
  refine wpAny_bind (m:=callSpecialIfBound? (.int a t) (Str.ofString "__repr__")) (wpAny_callSpecialIfBound?_slot (name:=Str.ofString "__repr__") (typeIs_int s a t) F.slot_int_repr
    (call_meets F.slot_int_repr (typeIs_int s a t) F.entry_int_repr (F.args_int_repr_1 _) (meets_int_reprB ha) ⟨nd,?_⟩))
  exact wpAny_bind (wpAny_isInstance (T := "str") (b:=true) rfl isSubtype_str_str (wpAny_pure h))
theorem reprK_intB {h₀:Heap} {a:Int} (t:Tok) (nd:h₀.NoDigits) (ha:a.natAbs<10^4300) (as:List Addr) (d:Nat):ReprK prog w as h₀ d (.int a t) (toString a) :=
  fun base hb A g E s Q hg hcl hu hk hQ=>by
    have hn':base≤sizeLine:=by omega
    rw [pyReprUnder_leaf (v:=.int a t) hn' (fun _ e=>nomatch e)]
    unfold pyRepr
    exact wpAny_bind (pyReprObj_intB (nd.keeps hk) ha (wpAny_pure (hQ _ _ fun _ _ e=>e)))
end
section
variable {X:Cx}
end
end L2
set_option Elab.async false
set_option linter.all false
set_option maxRecDepth 100000
namespace Mt
open PySem PySem.NumText
abbrev dig (c:Nat):Bool:=decide (48≤c)&&decide (c≤57)
def figs (t:Str):Bool:=t.cps.toList.all dig
theorem figs_all {t:Str} (h:figs t=true):AllDigits t.cps.toList:=fun c hc=>by
  have:=List.all_eq_true.mp h c hc
  simpa [dig] using this
theorem in_figs (c:Nat):(!(Builtin.Str.occurrences (Str.ofString "0123456789") ⟨#[c]⟩ 0 (Str.ofString "0123456789").length 1).isEmpty)=dig c:=by
  rw [StrLaws.found_one]
  have e:(Str.ofString "0123456789").cps.toList=[48,49,50,51,52,53,54,55,56,57]:=by decide +kernel
  rw [e]
  unfold dig
  rw [← Bool.decide_and]
  refine decide_eq_decide.mpr ?_
  simp only [List.mem_cons,List.not_mem_nil,or_false]
  omega
theorem str_ext {a b:Str} (h:a.cps.toList=b.cps.toList):a=b:=by
  cases a; cases b
  congr 1
  exact Array.toList_inj.mp h
theorem len_toList (t:Str):t.cps.toList.length=t.length:=by simp [Str.length]
theorem starts_one (t:Str) (c:Nat):Txt.startswith t ⟨#[c]⟩=decide (t.cps.toList.head?=some c):=by
  unfold Txt.startswith
  cases h:t.cps.toList with
  | nil =>
    have e:t.length=0:=by rw [← len_toList,h]; rfl
    have e1:(⟨#[c]⟩:Str).length=1:=rfl
    rw [e,e1]
    simp
  | cons x r =>
    have e:t=⟨(x::r).toArray⟩:=str_ext (by rw [h])
    rw [e]
    have e1:(⟨#[c]⟩:Str).length=1:=rfl
    have e2:(⟨(x::r).toArray⟩:Str).length=r.length+1:=rfl
    unfold Builtin.Str.subAt
    rw [e1,e2]
    have e3:((x::r).toArray.extract 0 (0+1))=#[x]:=by simp
    rw [e3]
    simp [BEq.beq,List.isEqv]
theorem slice_from {t:Str} {i:Int} (h0:0≤i) (h:i≤t.length):(Txt.slice t (some i) none).cps.toList=t.cps.toList.drop i.toNat:=by
  have e:Txt.slice t (some i) none=StrLaws.sliceText t (some i) none:=rfl
  rw [e,StrLaws.sliceText_from ⟨h0,by rw [len_toList]; exact h⟩]
  show List.take _ (List.drop _ _)=_
  refine List.take_of_length_le ?_
  rw [List.length_drop,len_toList]
  omega
theorem slice_to {t:Str} {j:Int} (h0:0≤j) (h:j≤t.length):(Txt.slice t none (some j)).cps.toList=t.cps.toList.take j.toNat:=by
  have e:Txt.slice t none (some j)=StrLaws.sliceText t none (some j):=rfl
  rw [e,StrLaws.sliceText_to ⟨h0,by rw [len_toList]; exact h⟩]
  show List.take _ (List.drop 0 _)=_
  rw [List.drop_zero,Int.sub_zero]
def val (t:Str):Nat:=digitsVal t.cps.toList
def zero:Str:=Str.ofString "0"
def wrB (t:Str):Bool:=!t.cps.toList.isEmpty&&figs t && !(decide (t.cps.toList.head?=some 48) && !decide (t=zero))
def neg (t:Str):Bool:=decide (t.cps.toList.head?=some 45)
def fg (t:Str):Str:=if neg t=true then ⟨(t.cps.toList.drop 1).toArray⟩ else t
def rdB (t:Str):Bool:=decide (1≤(fg t).length)&&decide ((fg t).length≤4000)&&figs (fg t) && !(decide ((fg t).cps.toList.head?=some 48) && !decide (t=zero))
def rdV (t:Str):Int:=if neg t=true then -((val (fg t):Nat):Int) else ((val (fg t):Nat):Int)
def rd (t:Str):Option Int:=if rdB t=true then some (rdV t) else none
theorem fg_len (t:Str):(fg t).length≤t.length:=by
  unfold fg
  split
  · rw [← len_toList,← len_toList]
    show (List.drop 1 _).length≤_
    rw [List.length_drop]; omega
  · exact Nat.le_refl _
theorem zero_cps:zero.cps.toList=[48]:=by decide +kernel
end Mt
set_option Elab.async false
set_option linter.all false
set_option maxRecDepth 100000
namespace Mt
open PySem PySem.NumText
theorem app_cps (a b:Str):(a++b).cps.toList=a.cps.toList++b.cps.toList:=by
  show (a.cps++b.cps).toList=_
  simp
def dg (m:Nat):List Nat:=(Nat.toDigits 10 m).map Char.toNat
def tx (n:Int):Str:=Str.ofString (toString n)
theorem tx_nat (m:Nat):(tx (m:Int)).cps.toList=dg m:=by
  unfold tx dg
  exact W.KIN.signs_num m
theorem tx_neg (m:Nat):(tx (-((m+1:Nat):Int))).cps.toList=45::dg (m+1):=by
  unfold tx dg
  have e:(-((m+1:Nat):Int))=Int.negSucc m:=rfl
  rw [e,PyProof.Rows.signs_ofString]
  show ("-" ++ Nat.repr (m+1)).toList.map Char.toNat=_
  rw [String.toList_append,List.map_append,Nat.toList_repr]
  rfl
theorem dg_all (m:Nat):AllDigits (dg m):=fun c hc=>by
  obtain ⟨ch,hch,e⟩:=List.mem_map.mp hc
  have r:=PyProof.Rows.digit_range (Nat.isDigit_of_mem_toDigits (by decide) (by decide) hch)
  rw [← e]
  exact r
theorem ofNat_back {l:List Nat} (h:AllDigits l):(l.map Char.ofNat).map Char.toNat=l:=by
  induction l with
  | nil=>rfl
  | cons c r ih =>
    have hc:=h.head
    have:(Char.ofNat c).toNat=c:=by
      have:∀ d:Nat,d≤9→(Char.ofNat (48+d)).toNat=48+d:=by decide
      have:=this (c - 48) (by omega)
      rwa [show 48+(c - 48)=c by omega] at this
    rw [List.map_cons,List.map_cons,this,ih h.tail]
theorem dg_of {l:List Nat} (h:AllDigits l) (hn:l≠[]) (hh:l.length=1∨∃ c r,l=c::r∧49≤c):dg (digitsVal l)=l:=by
  unfold dg
  have hl:l.length=(l.length - 1)+1:=by
    cases l with
    | nil=>exact absurd rfl hn
    | cons c r=>simp
  rw [toDigits_digitsVal (l.length - 1) l hl h (by rcases hh with e | e; exact .inl (by omega); exact .inr e),ofNat_back h]
theorem dv_from (b:List Nat):∀ a:Nat,b.foldl (fun acc c=>acc*10+(c - 48)) a=a*10^b.length+digitsVal b:=by
  induction b with
  | nil=>intro a; show a=a*1+0; omega
  | cons c r ih =>
    intro a
    show r.foldl (fun acc c=>acc*10+(c - 48)) (a*10+(c - 48))=_
    have e:digitsVal (c::r)=r.foldl (fun acc c=>acc*10+(c - 48)) (0*10+(c - 48)):=rfl
    rw [e,ih,ih,List.length_cons,Nat.pow_succ,Nat.zero_mul,Nat.zero_add,Nat.add_mul,Nat.mul_assoc,Nat.mul_comm 10 (10^r.length)]
    omega
def sl:Str:=⟨#[47]⟩
theorem cut_inj:∀ {p a s b:List Nat},47 ∉ p→47 ∉ a→p++47::s=a++47::b→p=a∧s=b
  | [],[],_,_,_,_,e=>by injection e with _ e; exact ⟨rfl,e⟩
  | [],x::a,_,_,_,ha,e=>by injection e with e _; exact absurd (by rw [e]; exact List.mem_cons_self) ha
  | y::p,[],_,_,hp,_,e=>by injection e with e _; exact absurd (by rw [← e]; exact List.mem_cons_self) hp
  | y::p,x::a,s,b,hp,ha,e=>by
    injection e with e1 e2
    obtain ⟨h1,h2⟩:=cut_inj (fun z=>hp (List.mem_cons_of_mem _ z)) (fun z=>ha (List.mem_cons_of_mem _ z)) e2
    exact ⟨by rw [e1,h1],h2⟩
theorem join2 (p q:Str) (r:List Str):(Str.join sl (p::q::r)).cps.toList=p.cps.toList++47::(Str.join sl (q::r)).cps.toList:=by
  show (p++sl++Str.join sl (q::r)).cps.toList=_
  rw [app_cps,app_cps]
  show p.cps.toList++[47]++_=_
  simp
theorem split_ne (x:Str):Txt.split x sl≠[]:=fun h=>by
  have:=PyProof.Rows.split_pos x sl
  rw [h] at this
  exact absurd this (by decide)
theorem split_one {x:Str} (h:47 ∉ x.cps.toList):Txt.split x sl=[x]:=by
  have hj:=StrLaws.join_split x sl
  cases q:Txt.split x sl with
  | nil=>exact absurd q (split_ne x)
  | cons p r =>
    rw [q] at hj
    cases r with
    | nil=>rw [show p=x from hj]
    | cons q' r' =>
      exfalso
      apply h
      rw [← hj,join2]
      simp
theorem split_two {a b:Str} (ha:47 ∉ a.cps.toList) (hb:47 ∉ b.cps.toList):Txt.split (a++sl++b) sl=[a,b]:=by
  have hj:=StrLaws.join_split (a++sl++b) sl
  have hf:=StrLaws.split_free (a++sl++b) 47
  have ex:(a++sl++b).cps.toList=a.cps.toList++47::b.cps.toList:=by
    rw [app_cps,app_cps]
    show a.cps.toList++[47]++_=_
    simp
  have hf:∀ p∈Txt.split (a++sl++b) sl,47 ∉ p.cps.toList:=hf
  cases q:Txt.split (a++sl++b) sl with
  | nil=>exact absurd q (split_ne _)
  | cons p r =>
    rw [q] at hj hf
    have hp:=hf p List.mem_cons_self
    cases r with
    | nil =>
      exfalso
      apply hp
      have:p=a++sl++b:=hj
      rw [this,ex]
      simp
    | cons q' r' =>
      have e:=congrArg (fun t:Str=>t.cps.toList) hj
      rw [join2,ex] at e
      obtain ⟨e1,e2⟩:=cut_inj hp ha e
      cases r' with
      | nil=>rw [str_ext e1,str_ext (show q'.cps.toList=b.cps.toList from e2)]
      | cons q2 r2 =>
        exfalso
        apply hb
        rw [← e2,join2]
        simp
theorem le_sum {p:Str}:∀ {l:List Str},p∈l→p.length≤(l.map (·.length)).sum
  | [],h=>by cases h
  | q::r,h=>by
    rw [List.map_cons,List.sum_cons]
    rcases List.mem_cons.mp h with rfl | h
    · omega
    · have:=le_sum h; omega
theorem part_len {x p:Str} (h:p∈Txt.split x sl):p.length≤x.length:=by
  have:=PyProof.Rows.split_weight x sl (by decide)
  have h1:p.length≤((Txt.split x sl).map (·.length)).sum:=le_sum h
  have h2:=PyProof.Rows.split_pos x sl
  omega
end Mt
set_option linter.all false
namespace Mf
def lw (n d:Int):Int × Int:=(n / (Int.gcd n d:Int),d / (Int.gcd n d:Int))
structure Low (n d:Int):Prop where
  pos:0<d
  low:Int.gcd n d=1
theorem gcd_pos {n d:Int} (h:0<d):0<(Int.gcd n d:Int):=by
  have:=Int.gcd_pos_of_ne_zero_right n (Int.ne_of_gt h)
  omega
theorem lw_low {n d:Int} (h:0<d):Low (lw n d).1 (lw n d).2:=by
  have g:=gcd_pos (n:=n) h
  refine ⟨?_,?_⟩
  · exact Int.ediv_pos_of_pos_of_dvd h (Int.le_of_lt g) (Int.gcd_dvd_right n d)
  · exact Int.gcd_ediv_gcd_ediv_gcd (by omega)
theorem lw_eq {n d:Int}:(lw n d).1*(Int.gcd n d:Int)=n∧(lw n d).2*(Int.gcd n d:Int)=d :=
  ⟨Int.ediv_mul_cancel (Int.gcd_dvd_left n d),Int.ediv_mul_cancel (Int.gcd_dvd_right n d)⟩
end Mf
set_option linter.all false
namespace Mf
abbrev Fr:=Int × Int
def LowF (f:Fr):Prop:=Low f.1 f.2
theorem lw_le {n d:Int} (h:0<d):(lw n d).2≤d∧(lw n d).1.natAbs≤n.natAbs:=by
  obtain ⟨e1,e2⟩:=lw_eq (n:=n) (d:=d)
  have g:=gcd_pos (n:=n) h
  have p:=(lw_low (n:=n) h).pos
  generalize (lw n d).1=a at *
  generalize (lw n d).2=b at *
  generalize (Int.gcd n d:Int)=G at *
  refine ⟨?_,?_⟩
  · rw [← e2]; have:=Int.mul_le_mul_of_nonneg_left (show (1:Int)≤G by omega) (Int.le_of_lt p); simpa using this
  · rw [← e1,Int.natAbs_mul]
    exact Nat.le_mul_of_pos_right _ (by omega)
end Mf
set_option Elab.async false
set_option linter.all false
namespace Mf
end Mf
set_option Elab.async false
set_option linter.all false
set_option maxRecDepth 100000
namespace L2
open PySem PySem.Spec PyProof.Rows
theorem Room.u1 {k:Nat} {A:Around} (r:Room k A):A.units+1<cLine:=by have:=r.units; omega
@[irreducible] def rDG:R2:=fun x y H Q=>∃ a v,x=.ref a∧DGet H a y (some v)∧Q v H
@[irreducible] def rDP (D:Ends) (σ:St) (x y v:V) (H:Hp):Prop:=∃ a H4,x=.ref a∧DPut H a y v H4∧D.nx σ H4
def tDPut (td ty tv:TE):TS:=fun D σ H=>tv σ H fun v H1=>td σ H1 fun x H2=>ty σ H2 fun y H3=>rDP D σ x y v H3
structure PPsw (X:Cx) (pos:Pos) (keys:List (Option Expr)) (values:List Expr) (trs:List (TE × TE)):Prop where p:PPs X pos keys values trs
section
variable {X:Cx} {o i value k v:Expr} {td ty tv tk:TE} {pos pos':Pos} {ks:List (Option Expr)} {vs:List Expr} {trs:List (TE × TE)}
theorem we_dget (hu:X.A.units+1<cLine) (ho:PEw X o td) (hi:PEw X i ty) (hs:NoSl i:=by intro _ _; rfl):PEw X (.Subscript o i pos) (tOp rDG td ty):=⟨by unfold rDG; exact pe_dget hu ho.p hi.p hs⟩
theorem ws_dput (hu:X.A.units+1<cLine) (ho:PEw X o td) (hi:PEw X i ty) (hv:PEw X value tv) (hs:swapsWith value (some (.Subscript o i pos')) pos.line X.env=pure false:=by rfl) :
    PSw X (.Assign [.Subscript o i pos'] value pos) (tDPut td ty tv):=⟨by unfold tDPut rDP; exact ps_dput hu ho.p hi.p hv.p hs⟩
theorem wpp_nil:PPsw X pos [] [] []:=⟨pps_nil⟩
theorem wpp_cons (hk:PEw X k tk) (hv:PEw X v tv) (hr:PPsw X pos ks vs trs):PPsw X pos (some k::ks) (v::vs) ((tk,tv)::trs):=⟨pps_cons hk.p hv.p hr.p⟩
theorem we_disp (h:PPsw X pos ks vs trs) (hall:ks.all (·.isSome)=true:=by rfl) (hl:ks.length=vs.length:=by rfl) (h0:ks≠[]:=by intro h; cases h) (h15:ks.length≤15:=by decide):PEw X (.Dict ks vs pos) (tDisp trs):=⟨pe_disp h.p hall hl h0 h15⟩
end
theorem dgS {H:Hp} {p:Addr} {kvs:List (Key × V)} {x:Str} {v:V} {Q:VK} (e:H p=some (.dK kvs)) (hv:valV kvs (.inr x)=some v) (q:Q v H):rDG (.ref p) (.str x) H Q:=by
  unfold rDG; exact ⟨p,v,rfl,hv ▸ DGet.k (k:=.inr x) e,q⟩
theorem dpS {H:Hp} {p:Addr} {kvs kvs2:List (Key × V)} {x:Str} {v:V} {D:Ends} {σ:St} (e:H p=some (.dK kvs)) (hl:kvs.length≤64) (hk:putK kvs (.inr x) v=kvs2) (q:∀ H',H' p=some (.dK kvs2)→SameBut p H H'→D.nx σ H') :
    rDP D σ (.ref p) (.str x) v H:=by
  unfold rDP
  exact ⟨p,_,rfl,DPut.k (k:=.inr x) e (Nat.lt_of_le_of_lt hl (by decide)),q _ (by rw [hk]; exact upd_same) SameBut.self⟩
theorem SameBut.tD {H H':Hp} {p:Addr} (s:SameBut p H H') {xs:List (Key × V)} (hp:H p=some (.dK xs)):SameT H H':=fun b ys h=>s.at (ne_of h hp (by intro z; cases z)) h
structure TapeLike (p:Addr) (Fd:Nat→Hp→Prop):Prop where
  but:∀ n D H1 H2,D≠p→SameBut D H1 H2→Fd n H1→Fd n H2
  same:∀ n H1 H2,Same H1 H2→Fd n H1→Fd n H2
  dic:∀ n H',Fd n H'→∃ xs,H' p=some (.dK xs)
section
variable {σ:St} {js:List Nat} {te:TE} {H:Hp} {Q:VK}
theorem TapeLike.np {p:Addr} {Fd:Nat→Hp→Prop} (fl:TapeLike p Fd) {n:Nat} {H':Hp} {D:Addr} (F:Fd n H') (h:H' D=none):D≠p:=fun e=>by
  obtain ⟨xs,hp⟩:=fl.dic n H' F
  subst e; rw [hp] at h; cases h
theorem comp_tp {J:It} {n:Nat} {p:Addr} {Fd:Nat→Hp→Prop} (fl:TapeLike p Fd) (F0:Fd 0 H) (src:Nat→V→Prop) (R:Nat→V→Hp→Prop) (hR:∀ i y H1 H2,SameT H1 H2→R i y H1→R i y H2) (hz:n≤100000)
    (hg:∀ i H',SameBut p H H'→i<n→J.go i H'∧∀ x H3,J.yld i H' x H3→H3=H'∧src i x) (hst:∀ H',SameBut p H H'→J.stop n H')
    (hs:∀ i x H' (Q':VK),src i x→i<n→Fd i H'→SameBut p H H'→(∀ y H5,Fd (i+1) H5→SameBut p H' H5→R i y H5→Q' y H5)→te (some x::slots σ js) H' Q')
    (hd:∀ D ys H',H D=none→H' D=some (.lst ys)→Fd n H'→SameBut p H H'→ys.length=n→(∀ (i:Nat) (y:V),ys[i]?=some y→R i y H')→Q (.ref D) H'):CompB J σ js tYes te H Q:=by
  refine comp_any (J:=J) (n:=n) src hz (fun D i ys H'=>H D=none∧Fd i H'∧SameBut p H H'∧∀ (i:Nat) (y:V),ys[i]?=some y→R i y H') (fun D H1 hD _ s=>⟨hD,fl.same _ _ _ s F0,s.but,fun i y h=>by simp at h⟩)
    (fun D i ys H' hi _ q=>hg i H' q.2.2.1 hi) (fun D ys H' _ q=>hst H' q.2.2.1) (fun D i x ys H' hx hi hy hD q=>?_) (fun D ys H' hy hD hD' q=>hd D ys H' hD hD' q.2.1 q.2.2.1 hy q.2.2.2)
  have np:=fl.np F0 q.1
  refine hs i x H' _ hx hi q.2.1 q.2.2.1 fun y H5 F5 s5 r=>?_
  obtain ⟨xs,hp⟩:=fl.dic _ H' q.2.1
  have hD5:=s5.at np hD
  refine ⟨hD5,fun H6 hD6 s6=>⟨q.1,fl.but _ D _ _ np s6 F5,SameBut.thru q.1 (q.2.2.1.trans s5) s6,?_⟩⟩
  have t6:=s6.t hD5
  exact snoc_all (R:=fun j z=>R j z H6) (fun j z hj=>hR j z _ _ ((s5.tD hp).trans t6) (q.2.2.2 j z hj)) (by rw [hy]; exact hR i y _ _ t6 r)
theorem comp_tpR {lo:Int} {n:Nat} {p:Addr} {Fd:Nat→Hp→Prop} (fl:TapeLike p Fd) (F0:Fd 0 H) (R:Nat→V→Hp→Prop) (hR:∀ i y H1 H2,SameT H1 H2→R i y H1→R i y H2) (hz:n≤100000)
    (hs:∀ i H' (Q':VK),i<n→Fd i H'→SameBut p H H'→(∀ y H5,Fd (i+1) H5→SameBut p H' H5→R i y H5→Q' y H5)→te (some (.int (lo+(i:Nat)))::slots σ js) H' Q')
    (hd:∀ D ys H',H D=none→H' D=some (.lst ys)→Fd n H'→SameBut p H H'→ys.length=n→(∀ (i:Nat) (y:V),ys[i]?=some y→R i y H')→Q (.ref D) H'):CompB (Itr lo n) σ js tYes te H Q :=
  comp_tp fl F0 (fun i x=>x=.int (lo+(i:Nat))) R hR hz (fun i H' s hi=>⟨hi,fun x H3 y=>y⟩) (fun H' s=>Nat.le_refl _)
    (fun i x H' Q' hx hi f s k=>by subst hx; exact hs i H' Q' hi f s k) hd
end
end L2
set_option Elab.async false
set_option linter.all false
set_option maxRecDepth 100000
namespace L2
open PySem PySem.Spec PyProof.Rows
@[irreducible] def rExt:V→List V→Hp→VK→Prop:=rExtend
theorem mt_ext {X:Cx}:MtR X "list.extend" rExt:=by unfold rExt; exact mt_extend
theorem extL {H:Hp} {l b:Addr} {xs zs:List V} {Q:VK} (h:H l=some (.lst xs)) (h2:H b=some (.lst zs)) (hz:xs.length+zs.length≤1000) (k:∀ H',H' l=some (.lst (xs++zs))→SameBut l H H'→Q .non H'):rExt (.ref l) [.ref b] H Q:=by
  unfold rExt; exact ⟨l,b,xs,zs,rfl,rfl,h,h2,Nat.le_of_lt (small1000 hz),k _ upd_same SameBut.self⟩
section
variable {prog:Program} {w:World} {A:Around} {E:Value→Shared→Prop} {s:Shared} {l:Addr} {xs:Array (Int × Tok)}
theorem sum_tupG {Q:Value→Shared→Prop} (hh:A.handled=none) (hl:s.heap.IsTuple l (intItems xs))
    (h:∀ h' tk t',(∀ b o,s.heap.get? b=some o→h'.get? b=some o)→Q (.int (preSum (numAt xs) xs.size) t') { s with heap:=h',toks:=tk }) :
    wpAny (model prog w) A (call (.builtin "sum") [.ref l]) Q E s:=by
  have hlt:l<s.heap.objs.size:=by obtain ⟨_,e,_⟩:=hl; exact Heap.lt_size e
  refine call_sum_walkG (wpAny_pyIter_tuple hl ?_)
  refine ⟨_,[_,l],[_],_,_,_,numAt xs,rfl,Walks.tuple (A:=A.in1) hh _ l (Nat.ne_of_lt hlt) (intItems xs),⟨⟨_,Heap.get?_push_size _ rfl,rfl,rfl⟩,hl.push _⟩,fun c hc=>?_,(fun _ _=>intItems_at),fun h' tk t' hk=>?_⟩
  · show c<(s.heap.push _).objs.size
    rw [Heap.size_push]
    rcases List.mem_cons.mp hc with rfl | hc
    · exact Nat.lt_succ_self _
    · rcases List.mem_cons.mp hc with rfl | hc
      · exact Nat.lt_succ_of_lt hlt
      · cases hc
  · have:=h h' tk t' fun c o e=>by
      refine hk c o (fun hm=>?_) (Heap.get?_push_of_some _ e)
      rcases List.mem_cons.mp hm with e1 | hm
      · exact absurd (e1 ▸ Heap.lt_size e) (Nat.lt_irrefl _)
      · cases hm
    simpa [intItems] using this
end
@[irreducible] def rSumT (K:PySem.W.Frag):List V→Hp→VK→Prop:=fun xs H Q=>∃ (p:Addr) (ns:List Int),xs=[.ref p]∧SqT K H p (ns.map V.int)∧Q (.int ns.sum) H
theorem rsT {K:PySem.W.Frag} {H:Hp} {p:Addr} {ns:List Int} {Q:VK} (h:SqT K H p (ns.map V.int)) (q:Q (.int ns.sum) H):rSumT K [.ref p] H Q:=by unfold rSumT; exact ⟨p,ns,rfl,h,q⟩
theorem cl_sumT {X:Cx} (K:PySem.W.Frag) (hc:X.calm=true) (hK:X.K=K:=by rfl):CallR X (.builtin "sum") (rSumT K):=by
  subst hK
  unfold rSumT
  intro pins s σ H xs us Q I r h
  obtain ⟨p,ns,rfl,hq,q⟩:=h
  obtain ⟨u,rfl,rx⟩:=vals1 r
  cases rx
  obtain ⟨its,r',pl,hz⟩:=I.tuple hq
  have hi:=intsAre_of r'
  obtain ⟨xs',e⟩:=hi.allInts.items
  rw [e] at pl
  refine sum_tupG (I.ok.hd hc) pl fun h' tk t' hk=>⟨.int ns.sum,H,I.kept hk,⟨t',?_⟩,q⟩
  rw [preSum_eq,List.take_of_length_le (by simp)]
  rw [← hi.numsOf]
  have e2:its=(intItems xs').toList:=by rw [← e]
  rw [e2,nums_intItems]
section
variable {js:List Nat} {te:TE} {tc:TT} {σ:St} {H:Hp} {Q:VK}
theorem RepL.atI {α:Type} {g:α→PyData}:∀ {as:List α} {xs:List V},RepL H (as.map g) xs→∀ {i:Nat} {x:V},xs[i]?=some x→∃ a,as[i]?=some a∧Rep H (g a) x:=by
  intro as xs r i x e
  obtain ⟨d,h1,h2⟩:=r.get e
  rw [List.getElem?_map] at h1
  cases q:as[i]? with
  | none=>rw [q] at h1; cases h1
  | some a=>rw [q] at h1; cases h1; exact ⟨a,rfl,h2⟩
theorem comp_fltD {K:PySem.W.Frag} {a:Addr} {xs:List V} {α:Type} {g:α→PyData} {as:List α} (r:RepL H (as.map g) xs) (p:α→Bool) (hz:xs.length≤100000) (hl:H a=some (.lst xs))
    (ht:∀ x c H' (Q':Bool→Hp→Prop),c∈as→Rep H' (g c) x→Same H H'→(∀ H5,Same H' H5→Q' (p c) H5)→tc (some x::slots σ js) H' Q')
    (he:∀ x H' (Q':VK),Q' x H'→te (some x::slots σ js) H' Q')
    (hd:∀ D ys H',H D=none→H' D=some (.lst ys)→Same H H'→RepL H' ((as.filter p).map g) ys→Q (.ref D) H'):CompB (Itl K a) σ js tc te H Q:=by
  unfold CompB
  intro D hD
  have hlen:xs.length=as.length:=by rw [r.len,List.length_map]
  refine ⟨fun i m ys H'=>m=xs.length - i∧i≤xs.length∧H' D=some (.lst ys)∧Same H H'∧RepL H (((as.take i).filter p).map g) ys∧ys.length≤i,⟨xs.length,by simp,Nat.zero_le _,upd_same,Same.upd hD,RepL.nil,Nat.le_refl _⟩,?_⟩
  rintro i m ys H2 ⟨rfl,hi,hD2,s2,ry,hy⟩
  refine ⟨hD2,?_⟩
  by_cases hlt:i<xs.length
  · have hx:xs[i]?=some xs[i]:=List.getElem?_eq_getElem hlt
    refine .inr ⟨⟨xs,_,SqL.of (s2 _ _ hl),hx⟩,Nat.lt_of_le_of_lt (m:=100000) (by omega) (by decide),fun x H3 hy3=>?_⟩
    obtain ⟨rfl,hx3⟩:=hy3
    have hx3:=hx3 xs (SqL.of (s2 _ _ hl))
    obtain ⟨c,hc,rc⟩:=r.atI hx3
    have hti:as.take (i+1)=as.take i++[c]:=by rw [List.take_add_one,hc]; rfl
    refine ⟨fun b H4=>b=p c∧Same H3 H4,ht x c H3 _ (List.mem_of_getElem? hc) (rc.same s2) s2 fun H5 s5=>⟨rfl,s5⟩,?_⟩
    rintro b H4 ⟨rfl,s4⟩
    by_cases hp:p c=true
    · rw [if_pos hp]
      refine ⟨fun y H5=>y=x∧H5=H4,he x H4 _ ⟨rfl,rfl⟩,?_⟩
      rintro y H5 ⟨rfl,rfl⟩
      refine ⟨s4 _ _ hD2,_,?_,rfl,hlt,upd_same,Same.thru hD (s2.trans s4) SameBut.self,?_,?_⟩
      · omega
      · rw [hti,List.filter_append,List.map_append]
        have:List.filter p [c]=[c]:=by simp [hp]
        rw [this]
        exact RepL.snoc ry rc
      · rw [List.length_append,List.length_singleton]; omega
    · rw [if_neg hp]
      refine ⟨s4 _ _ hD2,_,?_,rfl,hlt,s4 _ _ hD2,s2.trans s4,?_,?_⟩
      · omega
      · rw [hti,List.filter_append]
        have:List.filter p [c]=[]:=by simp [hp]
        rw [this,List.append_nil]
        exact ry
      · omega
  · have e:i=xs.length:=by omega
    subst e
    refine .inl ⟨⟨xs,SqL.of (s2 _ _ hl),Nat.le_refl _⟩,hd D ys H2 hD hD2 s2 ?_⟩
    rw [hlen,List.take_length] at ry
    exact ry.same s2
end
end L2
set_option Elab.async false
set_option linter.all false
namespace Mf
end Mf
set_option Elab.async false
set_option linter.all false
namespace Mf
end Mf
set_option Elab.async false
set_option linter.all false
set_option maxRecDepth 100000
namespace HT
open PySem PyProof.Rows
section
variable {prog:Program} {w:World} {A:Around} {E:Value→Shared→Prop} {s:Shared}
theorem getItem_tuple_whole {t sl:Addr} {items:Array Value} {vl vu:Value} {lo hi:Option Int} {Q:Value→Shared→Prop} (ht:IsTup s.heap t items) (hs:s.heap.IsSliceOf sl vl vu .none) (pl:IsPart vl lo) (pu:IsPart vu hi)
    (h0:sIx items.size 0 lo=0) (h1:sIx items.size items.size hi=items.size) (h:Q (.ref t) s):wpAny (model prog w) A (getItem (.ref t) (.ref sl)) Q E s:=by
  obtain ⟨os,hos,hcs,hds⟩:=id hs
  have hTs:s.TypeIs (.ref sl) "slice" := ⟨os,hos,hcs⟩
  have hTt:s.TypeIs (.ref t) "tuple" := ht.typeIs
  unfold getItem
  try with_reducible refine wpAny_holding ?_
  first | refine wpAny_bind (wpAny_pure ?_) | skip
  refine wpAny_bind (wpAny_sequenceKey ht.typeIs (by decide) ?_)
  refine wpAny_bind (wpAny_callSpecial?_slot (name:=Str.ofString "__getitem__") ht.typeIs PyProof.Rows.slot_tuple_getitem
    (wpAny_call_entry PyProof.Rows.slot_tuple_getitem ht.typeIs entry_tuple_getitem ?_ (args_tuple_getitem _ _)))
  show wpAny _ _ (Builtin.Tuple.tupleItemsOf (.ref t) >>= _) _ _ s
  refine wpAny_bind (tupleItemsOf_ ht ?_)
  refine wpAny_bind (wpAny_typeOf hTs ?_)
  rw [if_pos (by decide)]
  refine wpAny_bind (sliceApplied_gen hs pl pu ?_)
  have hyes:(((sIx items.size 0 lo:Nat):Int) == 0&&(1:Int) == 1&&(sIx items.size items.size hi - sIx items.size 0 lo) == items.size)=true:=by
    rw [h0,h1]; simp
  show wpAny _ _ (if (((sIx items.size 0 lo:Nat):Int) == 0&&(1:Int) == 1&&(sIx items.size items.size hi - sIx items.size 0 lo) == items.size)=true then _ else _) _ _ s
  rw [if_pos hyes]
  unfold Builtin.Tuple.tupleIsExact
  refine wpAny_bind (wpAny_bind (wpAny_typeOf hTt (wpAny_pure ?_)))
  rw [if_pos (by decide)]
  refine wpAny_bind (wpAny_rule ?_)
  first
    | exact wpAny_pure ⟨_,rfl,wpAny_pure h⟩
    | exact wpAny_bind (wpAny_pure (wpAny_pure ⟨_,rfl,wpAny_pure h⟩))
end
end HT
namespace L2
open PySem PySem.W PySem.Spec PySem.Calls PyProof.Rows
theorem cutV_whole {xs:List V} {lo hi:Option Int} (h0:HT.sIx xs.length 0 lo=0) (h1:HT.sIx xs.length xs.length hi=xs.length):cutV xs lo hi=xs:=by
  unfold cutV
  rw [h0,h1]; simp
section
variable {X:Cx}
@[irreducible] def rSlA (K:PySem.W.Frag):V→Option Int→Option Int→Hp→VK→Prop:=fun x lo hi H Q=>∃ a xs,x=.ref a∧H a=some (.tup xs)∧∀ c H',Same H H'→H' c=some (.tup (cutV xs lo hi))→Q (.ref c) H'
theorem sl_tupA (K:PySem.W.Frag) (hK:X.K=K:=by rfl):SlR X (rSlA K):=by
  unfold rSlA
  subst hK
  intro pins s σ H x v vl vu lo hi sl Q I rx hs pl pu h
  obtain ⟨a,xs,rfl,hx,q⟩:=h
  by_cases hw:HT.sIx xs.length 0 lo=0∧HT.sIx xs.length xs.length hi=xs.length
  · cases rx
    obtain ⟨its,r,ht,hz⟩:=I.tuple (SqT.of hx)
    have hlen:its.toArray.size=xs.length:=by rw [List.size_toArray]; exact r.length.symm
    refine ⟨"tuple",_,PyProof.Rows.slot_tuple_getitem.lookup,ht.typeIs,?_⟩
    refine HT.getItem_tuple_whole ht hs pl pu (by rw [hlen]; exact hw.1) (by rw [hlen]; exact hw.2) ?_
    exact ⟨.ref a,H,I,rfl,q a H (Same.refl _) (by rw [cutV_whole hw.1 hw.2]; exact hx)⟩
  · exact sl_tup pins s σ H (.ref a) v vl vu lo hi sl Q I rx hs pl pu ⟨a,xs,rfl,SqT.of hx,hw,fun p hp=>q p _ (Same.upd hp) upd_same⟩
theorem slA_hi {K:PySem.W.Frag} {H:Hp} {a:Addr} {xs:List V} {k:Nat} {Q:VK} (h:H a=some (.tup xs)) (q:∀ c H',Same H H'→H' c=some (.tup (xs.take k))→Q (.ref c) H'):rSlA K (.ref a) none (some (k:Int)) H Q:=by
  unfold rSlA
  exact ⟨a,xs,rfl,h,fun c H' s e=>q c H' s (by rw [e,cutV_hi])⟩
theorem slA_lo {K:PySem.W.Frag} {H:Hp} {a:Addr} {xs:List V} {k:Nat} {Q:VK} (h:H a=some (.tup xs)) (q:∀ c H',Same H H'→H' c=some (.tup (xs.drop k))→Q (.ref c) H'):rSlA K (.ref a) (some (k:Int)) none H Q:=by
  unfold rSlA
  exact ⟨a,xs,rfl,h,fun c H' s e=>q c H' s (by rw [e,cutV_lo])⟩
end
end L2
set_option Elab.async false
set_option linter.all false
set_option maxRecDepth 100000
namespace HT
open PySem PySem.W PyProof.Rows
def KasAll {α:Type} (n:Nat) (lt:Nat→Nat→Bool) (R:α→Prop):KasT α→Prop
  | .ret a=>R a
  | .ask i j k=>i<n∧j<n∧KasAll n lt R (k (lt i j))
section
variable {n:Nat} {lt:Nat→Nat→Bool}
theorem KasAll.bind {α β:Type} {R:α→Prop} {S:β→Prop} {f:α→KasT β}:∀ {t:KasT α},KasAll n lt R t→(∀ a,R a→KasAll n lt S (f a))→KasAll n lt S (t.bind f)
  | .ret a,h,k=>k a h
  | .ask i j t,⟨h1,h2,h3⟩,k=>⟨h1,h2,KasAll.bind (t:=t (lt i j)) h3 k⟩
theorem KasAll.wp {α:Type} {R:α→Prop} {cmp:Nat→Nat→(Bool→Shared→Prop)→Shared→Prop} {Q:α→Shared→Prop} {s:Shared} (hc:∀ i j C,i<n→j<n→C (lt i j) s→cmp i j C s) (q:∀ a,R a→Q a s) :
    ∀ {t:KasT α},KasAll n lt R t→t.kasWp cmp Q s
  | .ret a,h=>q a h
  | .ask i j t,⟨h1,h2,h3⟩=>hc i j _ h1 h2 (KasAll.wp (t:=t (lt i j)) hc q h3)
def Good (n:Nat) (p:Array Nat):Prop:=p.Perm (List.toArray (List.range n))
theorem Good.bd {p:Array Nat} (g:Good n p) (hn:0<n) (i:Nat):p.getD i 0<n:=by
  by_cases hi:i<p.size
  · have e:p.getD i 0=p[i]:=by simp [Array.getD,hi]
    rw [e]
    have m:p[i]∈List.toArray (List.range n):=(Array.Perm.mem_iff g).mp (Array.getElem_mem hi)
    simpa using m
  · have e:p.getD i 0=0:=by simp [Array.getD,hi]
    rw [e]; exact hn
theorem Good.rev {p:Array Nat} (g:Good n p) (i j:Nat):Good n (kas_rev p i j):=(mirror_perm p i j _).trans g
theorem Good.bub {p:Array Nat} (g:Good n p) (i j:Nat):Good n (bubble p i j):=(bubble_perm p i j).trans g
theorem all_asc {p:Array Nat} (g:Good n p) (hn:0<n):∀ (f m:Nat),KasAll n lt (fun _=>True) (kas_asc p f m)
  | 0,m=>True.intro
  | f+1,m=>⟨g.bd hn _,g.bd hn _,by
    cases lt (p.getD m 0) (p.getD (m - 1) 0) with
    | true=>exact True.intro
    | false=>exact all_asc g hn f (m+1)⟩
theorem all_desc (hn:0<n):∀ (f:Nat) {p:Array Nat} (g:Good n p) (m q:Nat),KasAll n lt (fun r=>Good n r.1) (kas_desc f p m q)
  | 0,p,g,m,q=>g
  | f+1,p,g,m,q=>by
    refine ⟨g.bd hn _,g.bd hn _,?_⟩
    cases lt (p.getD m 0) (p.getD (m - 1) 0) with
    | true =>
      show KasAll n lt _ (if q > 0 then _ else _)
      split
      · exact all_desc hn f (g.rev _ _) _ _
      · exact all_desc hn f g _ _
    | false =>
      refine ⟨g.bd hn _,g.bd hn _,?_⟩
      cases lt (p.getD (m - 1) 0) (p.getD m 0) with
      | true=>exact g
      | false=>exact all_desc hn f g _ _
theorem all_tail3 {p:Array Nat} (g:Good n p) (hn:0<n) (m r:Nat):KasAll n lt (fun r=>Good n r.2) (kas_tail3 m r p):=by
  unfold kas_tail3
  exact (all_asc (g.rev 0 m) hn _ _).bind fun _ _=>g.rev 0 m
theorem all_descPart {p:Array Nat} (g:Good n p) (hn:0<n) (m r:Nat):KasAll n lt (fun r=>Good n r.2) (kas_descPart m r p):=by
  unfold kas_descPart
  refine (all_desc hn _ g _ _).bind fun r hr=>?_
  split
  · exact all_tail3 (Good.rev hr _ _) hn _ _
  · exact all_tail3 hr hn _ _
theorem all_count {p:Array Nat} (g:Good n p) (hn:0<n) (m:Nat):KasAll n lt (fun r=>Good n r.2) (kas_count m p):=by
  unfold kas_count
  refine (all_asc g hn _ _).bind fun k _=>?_
  split
  · exact g
  · split
    · refine ⟨g.bd hn _,g.bd hn _,?_⟩
      cases lt (p.getD 0 0) (p.getD (k - 1) 0) with
      | true=>exact g
      | false=>exact all_descPart (g.rev _ _) hn _ _
    · exact all_descPart g hn _ _
theorem all_place {p:Array Nat} (g:Good n p) (hn:0<n) (k:Nat):∀ (f l r:Nat),KasAll n lt (fun _=>True) (kas_place p k f l r)
  | 0,l,r=>True.intro
  | f+1,l,r=>by
    unfold kas_place
    split
    · exact True.intro
    · refine ⟨g.bd hn _,g.bd hn _,?_⟩
      cases lt (p.getD k 0) (p.getD ((l+r) / 2) 0) with
      | true=>exact all_place g hn k f _ _
      | false=>exact all_place g hn k f _ _
theorem all_bin (hn:0<n):∀ (f:Nat) {p:Array Nat} (g:Good n p) (k:Nat),KasAll n lt (Good n) (kas_bin f p k)
  | 0,p,g,k=>g
  | f+1,p,g,k=>by
    unfold kas_bin
    exact (all_place g hn k _ _ _).bind fun l _=>all_bin hn f (g.bub _ _) _
theorem all_sort (hn:0<n):KasAll n lt (Good n) (kas_sort n):=by
  unfold kas_sort
  refine (all_count (Array.Perm.refl _) hn n).bind fun r hr=>?_
  split
  · exact all_bin hn _ hr _
  · exact hr
end
end HT
set_option Elab.async false
set_option linter.all false
set_option maxRecDepth 100000
namespace HT
open PySem PySem.W PyProof.Rows
structure Ord (n:Nat) (lt:Nat→Nat→Bool):Prop where
  tot:∀ i j,i<n→j<n→i≠j→lt i j=false→lt j i=true
  tra:∀ i j k,lt i j=true→lt j k=true→lt i k=true
def Asc (lt:Nat→Nat→Bool) (p:Array Nat) (m:Nat):Prop:=∀ a b,a<b→b<m→lt (p.getD a 0) (p.getD b 0)=true
def Dsc (lt:Nat→Nat→Bool) (p:Array Nat) (m:Nat):Prop:=∀ a b,a<b→b<m→lt (p.getD b 0) (p.getD a 0)=true
section
variable {n:Nat} {lt:Nat→Nat→Bool}
theorem KasAll.mono {α:Type} {R S:α→Prop} (k:∀ a,R a→S a):∀ {t:KasT α},KasAll n lt R t→KasAll n lt S t
  | .ret a,h=>k a h
  | .ask i j t,⟨h1,h2,h3⟩=>⟨h1,h2,KasAll.mono k (t:=t (lt i j)) h3⟩
theorem Good.size {p:Array Nat} (g:Good n p):p.size=n:=by
  have:=(Array.perm_iff_toList_perm.mp g).length_eq
  simpa using this
theorem Good.ne {p:Array Nat} (g:Good n p) {i j:Nat} (hi:i<n) (hj:j<n) (h:i≠j):p.getD i 0≠p.getD j 0:=by
  have hn:p.toList.Nodup:=(Array.perm_iff_toList_perm.mp g).nodup_iff.mpr (by simpa using List.nodup_range)
  have hs:=g.size
  have e1:p.getD i 0=p.toList[i]'(by simpa [hs] using hi):=by simp [Array.getD,hs,hi]
  have e2:p.getD j 0=p.toList[j]'(by simpa [hs] using hj):=by simp [Array.getD,hs,hj]
  rw [e1,e2]
  intro e
  exact h ((List.getElem_inj hn).mp e)
theorem Asc.one {p:Array Nat}:Asc lt p 1:=fun a b h1 h2=>by omega
theorem Asc.more (O:Ord n lt) {p:Array Nat} (g:Good n p) {m:Nat} (h:Asc lt p m) (h1:1≤m) (hm:m<n) (e:lt (p.getD m 0) (p.getD (m - 1) 0)=false):Asc lt p (m+1):=fun a b hab hb=>by
  by_cases q:b<m
  · exact h a b hab q
  · have e':b=m:=by omega
    subst e'
    have l1:lt (p.getD (b - 1) 0) (p.getD b 0)=true:=O.tot _ _ (g.bd (by omega) _) (g.bd (by omega) _) (g.ne (by omega) (by omega) (by omega)) e
    by_cases r:a=b - 1
    · rw [r]; exact l1
    · exact O.tra _ _ _ (h a (b - 1) (by omega) (by omega)) l1
theorem asc_run (O:Ord n lt) {p:Array Nat} (g:Good n p):∀ (f m:Nat),1≤m→m+f≤n→Asc lt p m→KasAll n lt (fun k=>m≤k∧k≤m+f∧Asc lt p k∧(k<m+f→lt (p.getD k 0) (p.getD (k - 1) 0)=true)) (kas_asc p f m)
  | 0,m,_,_,h=>⟨Nat.le_refl _,Nat.le_refl _,h,fun q=>by omega⟩
  | f+1,m,h1,hm,h=>by
    refine ⟨g.bd (by omega) _,g.bd (by omega) _,?_⟩
    cases e:lt (p.getD m 0) (p.getD (m - 1) 0) with
    | true=>exact ⟨Nat.le_refl _,by omega,h,fun _=>e⟩
    | false =>
      refine (show KasAll n lt _ (kas_asc p f (m+1)) from ?_)
      have ih:=asc_run O g f (m+1) (by omega) (by omega) (h.more O g h1 (by omega) e)
      exact KasAll.mono (fun k ⟨a1,a2,a3,a4⟩=>⟨by omega,by omega,a3,fun q=>a4 (by omega)⟩) ih
theorem Dsc.more (O:Ord n lt) {p:Array Nat} {m:Nat} (h:Dsc lt p m) (h1:1≤m) (e:lt (p.getD m 0) (p.getD (m - 1) 0)=true):Dsc lt p (m+1):=fun a b hab hb=>by
  by_cases q:b<m
  · exact h a b hab q
  · have e':b=m:=by omega
    subst e'
    by_cases r:a=b - 1
    · rw [r]; exact e
    · exact O.tra _ _ _ e (h a (b - 1) (by omega) (by omega))
theorem desc_run (O:Ord n lt) {p:Array Nat} (g:Good n p):∀ (f m:Nat),1≤m→m+f≤n→Dsc lt p m→KasAll n lt (fun r=>r.1=p∧r.2.2=0∧m≤r.2.1∧r.2.1≤m+f∧Dsc lt p r.2.1) (kas_desc f p m 0)
  | 0,m,_,_,h=>⟨rfl,rfl,Nat.le_refl _,Nat.le_refl _,h⟩
  | f+1,m,h1,hm,h=>by
    refine ⟨g.bd (by omega) _,g.bd (by omega) _,?_⟩
    cases e:lt (p.getD m 0) (p.getD (m - 1) 0) with
    | true =>
      refine (show KasAll n lt _ (kas_desc f p (m+1) 0) from ?_)
      exact KasAll.mono (fun r ⟨a1,a2,a3,a4,a5⟩=>⟨a1,a2,by omega,by omega,a5⟩) (desc_run O g f (m+1) (by omega) (by omega) (h.more O h1 e))
    | false =>
      refine ⟨g.bd (by omega) _,g.bd (by omega) _,?_⟩
      rw [O.tot _ _ (g.bd (by omega) _) (g.bd (by omega) _) (g.ne (by omega) (by omega) (by omega)) e]
      exact ⟨rfl,rfl,Nat.le_refl _,(show m≤m+(f+1) by omega),h⟩
theorem rev_at {p:Array Nat} {m i:Nat} (hm:m≤p.size):(kas_rev p 0 m).getD i 0=if i<m then p.getD (m - 1 - i) 0 else p.getD i 0:=by
  have e:=getElem?_mirror (xs:=p) (i:=0) (j:=m) hm (m / 2) (by omega) i
  have e':(kas_rev p 0 m)[i]?=if (0≤i∧i<0+m / 2)∨(m - m / 2≤i∧i<m) then p[0+m - 1 - i]? else p[i]?:=e
  have g:∀ (q:Array Nat) (k:Nat),q.getD k 0=q[k]?.getD 0:=fun q k=>by simp [Array.getD_eq_getD_getElem?]
  rw [g,e',g,g]
  by_cases h:i<m
  · rw [if_pos h]
    by_cases h2:(0≤i∧i<0+m / 2)∨(m - m / 2≤i∧i<m)
    · rw [if_pos h2,show 0+m - 1 - i=m - 1 - i by omega]
    · rw [if_neg h2,show m - 1 - i=i by omega]
  · rw [if_neg h,if_neg (by omega)]
theorem Dsc.rev {p:Array Nat} {m:Nat} (h:Dsc lt p m) (hm:m≤p.size):Asc lt (kas_rev p 0 m) m:=fun a b hab hb=>by
  rw [rev_at hm,rev_at hm,if_pos (by omega),if_pos hb]
  exact h _ _ (by omega) (by omega)
theorem count_run (O:Ord n lt) {p:Array Nat} (g:Good n p) (hn:2≤n):KasAll n lt (fun r=>Good n r.2∧1≤r.1∧r.1≤n∧Asc lt r.2 r.1) (kas_count n p):=by
  unfold kas_count
  refine (asc_run O g (n - 1) 1 (Nat.le_refl _) (by omega) Asc.one).bind fun k ⟨k1,k2,k3,k4⟩=>?_
  split
  · exact ⟨g,k1,by show k≤n; omega,k3⟩
  · rename_i hk
    have hkn:k≠n:=fun e=>hk (by simp [e])
    split
    · refine ⟨g.bd (by omega) _,g.bd (by omega) _,?_⟩
      rw [k3 0 (k - 1) (by omega) (by omega)]
      exact ⟨g,k1,by show k≤n; omega,k3⟩
    · have e1:k=1:=by omega
      subst e1
      unfold kas_descPart
      have d2:Dsc lt p 2:=fun a b hab hb=>by
        have e:a=0∧b=1:=by omega
        rw [e.1,e.2]; exact k4 (by omega)
      refine (desc_run O g (n - 2) 2 (by omega) (by omega) d2).bind fun r ⟨r1,r2,r3,r4,r5⟩=>?_
      obtain ⟨p',m,q⟩:=r
      dsimp only at r1 r2 r3 r4 r5 ⊢
      subst r1 r2
      rw [if_neg (by decide)]
      unfold kas_tail3
      have hs:=g.size
      refine (asc_run O (g.rev 0 m) (n - m) m (by omega) (by omega) (r5.rev (by omega))).bind fun k' ⟨a1,a2,a3,_⟩=>?_
      exact ⟨g.rev 0 m,(show 1≤k' by omega),(show k'≤n by omega),a3⟩
theorem place_run (O:Ord n lt) {p:Array Nat} (g:Good n p) {k:Nat} (hk:k<n) (h:Asc lt p k):∀ (f l r:Nat),l≤r→r≤k→r - l≤f→(∀ a,a<l→lt (p.getD a 0) (p.getD k 0)=true)→(∀ a,r≤a→a<k→lt (p.getD k 0) (p.getD a 0)=true) →
    KasAll n lt (fun m=>m≤k∧(∀ a,a<m→lt (p.getD a 0) (p.getD k 0)=true)∧∀ a,m≤a→a<k→lt (p.getD k 0) (p.getD a 0)=true) (kas_place p k f l r)
  | 0,l,r,h1,h2,h3,h4,h5=>⟨by omega,h4,fun a q1 q2=>h5 a (by omega) q2⟩
  | f+1,l,r,h1,h2,h3,h4,h5=>by
    unfold kas_place
    split
    · exact ⟨by omega,h4,fun a q1 q2=>h5 a (by omega) q2⟩
    · refine ⟨g.bd (by omega) _,g.bd (by omega) _,?_⟩
      cases e:lt (p.getD k 0) (p.getD ((l+r) / 2) 0) with
      | true =>
        refine (show KasAll n lt _ (kas_place p k f l ((l+r) / 2)) from ?_)
        refine place_run O g hk h f l ((l+r) / 2) (by omega) (by omega) (by omega) h4 fun a q1 q2=>?_
        by_cases q:a=(l+r) / 2
        · rw [q]; exact e
        · exact O.tra _ _ _ e (h _ _ (by omega) q2)
      | false =>
        refine (show KasAll n lt _ (kas_place p k f ((l+r) / 2+1) r) from ?_)
        have e2:=O.tot _ _ (g.bd (by omega) _) (g.bd (by omega) _) (g.ne hk (by omega) (by omega)) e
        refine place_run O g hk h f ((l+r) / 2+1) r (by omega) (by omega) (by omega) (fun a q1=>?_) h5
        by_cases q:a=(l+r) / 2
        · rw [q]; exact e2
        · exact O.tra _ _ _ (h a ((l+r) / 2) (by omega) (by omega)) e2
theorem bub_at {p:Array Nat} {k m i:Nat} (hk:k<p.size) (hm:m≤k):(bubble p k (k - m)).getD i 0=if i=m then p.getD k 0 else if m<i∧i≤k then p.getD (i - 1) 0 else p.getD i 0:=by
  have e:=getElem?_bubble (xs:=p) hk (k - m) (by omega) i
  have g:∀ (q:Array Nat) (k:Nat),q.getD k 0=q[k]?.getD 0:=fun q k=>by simp [Array.getD_eq_getD_getElem?]
  rw [g,e,g,g,g,show k - (k - m)=m by omega]
  by_cases h:i=m
  · rw [if_pos h,if_pos h]
  · rw [if_neg h,if_neg h]
    by_cases h2:m<i∧i≤k
    · rw [if_pos h2,if_pos h2]
    · rw [if_neg h2,if_neg h2]
theorem bin_run (O:Ord n lt):∀ (f:Nat) {p:Array Nat} (g:Good n p) (k:Nat),k+f=n→Asc lt p k→KasAll n lt (fun p=>Good n p∧Asc lt p n) (kas_bin f p k)
  | 0,p,g,k,hk,h=>⟨g,by rw [← hk]; exact h⟩
  | f+1,p,g,k,hk,h=>by
    unfold kas_bin
    refine (place_run O g (by omega) h k 0 k (by omega) (by omega) (by omega) (fun a q=>by omega) (fun a q1 q2=>by omega)).bind fun m ⟨m1,m2,m3⟩=>?_
    have hs:=g.size
    refine bin_run O f (g.bub _ _) (k+1) (by omega) fun a b hab hb=>?_
    rw [bub_at (by omega) m1,bub_at (by omega) m1]
    by_cases ha:a=m
    · rw [if_pos ha,if_neg (by omega),if_pos (by omega)]
      exact m3 _ (by omega) (by omega)
    · rw [if_neg ha]
      by_cases hb':b=m
      · rw [if_pos hb',if_neg (by omega)]
        exact m2 a (by omega)
      · rw [if_neg hb']
        by_cases q1:m<a∧a≤k
        · rw [if_pos q1,if_pos (by omega)]
          exact h _ _ (by omega) (by omega)
        · rw [if_neg q1]
          by_cases q2:m<b∧b≤k
          · rw [if_pos q2]
            exact h _ _ (by omega) (by omega)
          · rw [if_neg q2]
            exact h _ _ hab (by omega)
theorem sort_run (O:Ord n lt) (hn:2≤n):KasAll n lt (fun p=>Good n p∧Asc lt p n) (kas_sort n):=by
  unfold kas_sort
  refine (count_run O (Array.Perm.refl _) hn).bind fun r ⟨h1,h2,h3,h4⟩=>?_
  split
  · rename_i q
    rw [Nat.max_eq_left h2]
    exact bin_run O _ h1 _ (by omega) h4
  · rename_i q
    have e:r.1=n:=by omega
    exact ⟨h1,e ▸ h4⟩
end
end HT
set_option Elab.async false
set_option linter.all false
set_option maxRecDepth 100000
namespace L2
open PySem PySem.Spec PySem.W PyProof.Rows HT
theorem valsC {x:V} {xs:List V} {us:List Value} (r:Vals (x::xs) us):∃ u us',us=u::us'∧RelV x u∧Vals xs us':=by
  cases r with
  | cons h t=>exact ⟨_,_,rfl,h,t⟩
def lexF (fin:Bool):List Int→List Int→Bool
  | x::a,y::b=>if x=y then lexF fin a b else decide (x<y)
  | _,_=>fin
def lexB (a b:List Int):Bool:=lexF (decide (a.length<b.length)) a b
theorem lexB_nil (a:List Int):lexB a []=false:=by
  unfold lexB; cases a <;> rfl
theorem lexB_nc (y:Int) (b:List Int):lexB [] (y::b)=true:=by unfold lexB; rfl
theorem lexB_cc (x y:Int) (a b:List Int):lexB (x::a) (y::b)=if x=y then lexB a b else decide (x<y):=by
  show (if x=y then lexF (decide ((x::a).length<(y::b).length)) a b else decide (x<y))=_
  rw [List.length_cons,List.length_cons,show decide (a.length+1<b.length+1)=decide (a.length<b.length) by simp]
  rfl
theorem lex_tot:∀ {a b:List Int},a≠b→lexB a b=false→lexB b a=true
  | [],[],h,_=>absurd rfl h
  | [],y::b,_,e=>by rw [lexB_nc] at e; cases e
  | x::a,[],_,_=>lexB_nc _ _
  | x::a,y::b,h,e=>by
    rw [lexB_cc] at e ⊢
    by_cases q:x=y
    · subst q
      rw [if_pos rfl] at e ⊢
      exact lex_tot (fun z=>h (by rw [z])) e
    · rw [if_neg q] at e
      rw [if_neg (Ne.symm q)]
      have:=of_decide_eq_false e
      exact decide_eq_true (by omega)
theorem lex_tra:∀ {a b c:List Int},lexB a b=true→lexB b c=true→lexB a c=true
  | a,b,[],_,h=>by rw [lexB_nil] at h; cases h
  | [],b,z::c,_,_=>lexB_nc _ _
  | x::a,[],z::c,h,_=>by rw [lexB_nil] at h; cases h
  | x::a,y::b,z::c,h1,h2=>by
    rw [lexB_cc] at h1 h2 ⊢
    by_cases q1:x=y
    · subst q1
      rw [if_pos rfl] at h1
      by_cases q2:x=z
      · subst q2
        rw [if_pos rfl] at h2 ⊢
        exact lex_tra h1 h2
      · rw [if_neg q2] at h2 ⊢; exact h2
    · rw [if_neg q1] at h1
      have h1:=of_decide_eq_true h1
      by_cases q2:y=z
      · subst q2
        rw [if_neg q1]; exact decide_eq_true h1
      · rw [if_neg q2] at h2
        have h2:=of_decide_eq_true h2
        rw [if_neg (by omega)]; exact decide_eq_true (by omega)
abbrev ltC (cs:List (List Int)):Nat→Nat→Bool:=fun i j=>lexB (cs.getD i []) (cs.getD j [])
theorem ord_of {cs:List (List Int)} (h:cs.Nodup):Ord cs.length (ltC cs):=⟨fun i j hi hj ne e=>lex_tot (fun z=>by
    have e1:cs.getD i []=cs[i]:=by simp [hi]
    have e2:cs.getD j []=cs[j]:=by simp [hj]
    rw [e1,e2] at z
    exact ne ((List.getElem_inj h).mp z)) e,fun i j k h1 h2=>lex_tra h1 h2⟩
section
variable {prog:Program} {w:World} {A:Around} {E:Value→Shared→Prop} {s:Shared} {Q:Bool→Shared→Prop}
theorem katLex_ints {fin:Bool}:∀ {a b:List Int} {us vs:List Value} {i:Nat},Vals (a.map V.int) us→Vals (b.map V.int) vs→Q (lexF fin a b) s→KatLex prog w A true fin Q (us.zip vs) i s
  | [],b,us,vs,i,ha,hb,q=>by cases ha; exact kat_nil (by unfold lexF at q; exact q)
  | x::a,[],us,vs,i,ha,hb,q=>by
    cases hb
    cases us with
    | nil=>exact kat_nil (by unfold lexF at q; exact q)
    | cons u us=>exact kat_nil (by unfold lexF at q; exact q)
  | x::a,y::b,us,vs,i,ha,hb,q=>by
    rw [List.map_cons] at ha hb
    obtain ⟨u,us',rfl,⟨t,rfl⟩,ra⟩:=valsC ha
    obtain ⟨v,vs',rfl,⟨t',rfl⟩,rb⟩:=valsC hb
    rw [List.zip_cons_cons]
    refine kat_cons (wpAny_eqBool_int ?_)
    unfold lexF at q
    by_cases h:x=y
    · rw [if_pos h] at q
      rw [show (x == y)=true by simp [h]]
      exact kat_yes (katLex_ints ra rb q)
    · rw [if_neg h] at q
      rw [show (x == y)=false by simp [h]]
      refine kat_no ?_
      cases (true&&i == 0) with
      | true=>exact oneLt_int q
      | false=>exact kat_one _ _ (lt_int q)
def TupAt (h:Heap) (v:Value) (c:List Int):Prop:=∃ b its,v=.ref b∧IsTup h b (List.toArray its)∧Vals (c.map V.int) its∧c≠[]
abbrev TupsAt (h:Heap):List Value→List (List Int)→Prop:=Paired (TupAt h)
theorem TupsAt.get {h:Heap}:∀ {vs:List Value} {cs:List (List Int)} {i:Nat},TupsAt h vs cs→i<vs.length→TupAt h (vs.getD i Value.none) (cs.getD i [])
  | _,_,_,.nil,hi=>by simp at hi
  | _,_,0,.cons t r,hi=>t
  | v::vs,c::cs,i+1,.cons t r,hi=>by
    have:=TupsAt.get (i:=i) r (by simpa using hi)
    simpa using this
theorem TupsAt.firsts {h:Heap}:∀ {vs:List Value} {cs:List (List Int)},TupsAt h vs cs→∃ fs,KatTups h vs fs∧fs.length=vs.length∧∀ v∈fs,∃ i t,v=Value.int i t
  | _,_,.nil=>⟨[],KatTups.nil,rfl,fun v hv=>by cases hv⟩
  | v::vs,c::cs,.cons t r=>by
    obtain ⟨fs,h1,h2,h3⟩:=TupsAt.firsts r
    obtain ⟨b,its,rfl,⟨o,ho,hc,n,hd⟩,hv,hne⟩:=t
    cases c with
    | nil=>exact absurd rfl hne
    | cons x c =>
      rw [List.map_cons] at hv
      obtain ⟨u,us,rfl,⟨t,rfl⟩,_⟩:=valsC hv
      exact ⟨.int x t::fs,KatTups.cons ho hc hd (by simp) h1,by simp [h2],fun v hv=>by
        rcases List.mem_cons.mp hv with rfl | hv
        · exact ⟨_,_,rfl⟩
        · exact h3 v hv⟩
theorem TupsAt.keep {h h':Heap} (k:∀ b o,h.get? b=some o→o.cls=.type "tuple" → h'.get? b=some o):∀ {vs:List Value} {cs:List (List Int)},TupsAt h vs cs→TupsAt h' vs cs
  | _,_,.nil=>.nil
  | _,_,.cons ⟨b,its,e,⟨o,ho,hc,hd⟩,hv,hne⟩ r=>.cons ⟨b,its,e,⟨o,k b o ho hc,hc,hd⟩,hv,hne⟩ (TupsAt.keep k r)
theorem sort_any {n:Nat} {lt:Nat→Nat→Bool} (hn:2≤n):KasAll n lt (fun p=>Good n p∧(Ord n lt→Asc lt p n)) (kas_sort n):=by
  by_cases O:Ord n lt
  · exact KasAll.mono (fun p h=>⟨h.1,fun _=>h.2⟩) (sort_run O hn)
  · exact KasAll.mono (fun p h=>⟨h,fun z=>absurd z O⟩) (all_sort (by omega))
theorem sort_tups {a:Addr} {vs:List Value} {cs:List (List Int)} {n:Nat} {P:PySem.Fin→Shared→Prop} (ho:s.heap.get? a=some (seqObj "list" vs.toArray n)) (ht:TupsAt s.heap vs cs) (h64:vs.length<64)
    (h:∀ p:Array Nat,Good vs.length p→(Ord vs.length (ltC cs)→Asc (ltC cs) p vs.length)→P (.done (.ret .none)) { s with heap:=sortedHeap s.heap a vs (List.toArray (p.toList.map fun i=>vs.getD i Value.none)) }) :
    wpAny (model prog w) A (Builtin.«list.sort» ⟨[.ref a],[]⟩) P E s:=by
  rw [list_sort_plain]
  have ha:a<s.heap.objs.size:=Heap.lt_size ho
  refine wpAny_bind (listItems_at ho rfl ?_)
  refine wpAny_bind (listUpdate_at ho rfl ?_ (by rw [List.size_toArray,sizeLine_eq]; omega) (Nat.zero_le _))
  obtain ⟨e1,ho1⟩:∃ e1,(s.heap.update a (Obj.mapSeq fun _=>#[])).get? a=some (seqObj "list" #[] e1):=⟨_,get?_update_seq ho (fun _=>#[])⟩
  refine wpAny_bind (seqEpoch_at ho1 rfl ?_)
  refine wpAny_bind (wpAny_newTuple ?_ (by show vs.length≤_; rw [sizeLine_eq]; omega))
  refine wpAny_bind (wpAny_newList ?_ (Nat.zero_le _))
  refine wpAny_holding ?_
  have ho6:(((s.heap.update a (Obj.mapSeq fun _=>#[])).push (seqObj "tuple" vs.toArray 0)).push (seqObj "list" #[] 0)).get? a=some (seqObj "list" #[] e1):=by
    rw [Heap.get?_push_ne _ _ _ (by rw [size_push',Heap.size_update]; exact Nat.ne_of_lt (Nat.lt_succ_of_lt ha)),Heap.get?_push_ne _ _ _ (by rw [Heap.size_update]; exact Nat.ne_of_lt ha)]
    exact ho1
  show wpAny (model prog w) A _ P E { s with heap:=((s.heap.update a (Obj.mapSeq fun _=>#[])).push (seqObj "tuple" vs.toArray 0)).push (seqObj "list" #[] 0) }
  dsimp only
  have fin:∀ st':SortSt,∀ p:Array Nat,Good vs.length p→(Ord vs.length (ltC cs)→Asc (ltC cs) p vs.length)→(arrOf st').map (·.2)=List.toArray (p.toList.map fun i=>vs.getD i Value.none) →
      P (.done (.ret .none)) { s with heap:=sortedHeap s.heap a vs ((arrOf st').map (·.2)) }:=by
    intro st' p hp ho hs
    rw [hs]; exact h p hp ho
  have ht6:TupsAt (((s.heap.update a (Obj.mapSeq fun _=>#[])).push (seqObj "tuple" vs.toArray 0)).push (seqObj "list" #[] 0)) vs cs:=ht.keep fun b o hb hc=>by
    have hne:b≠a:=fun e=>by
      subst e; rw [ho] at hb; cases hb
      exact absurd (show Value.type "list" = Value.type "tuple" from hc) (by decide)
    exact Heap.get?_push_of_some _ (Heap.get?_push_of_some _ (by rw [Heap.get?_update_ne _ _ _ _ hne]; exact hb))
  by_cases h2:vs.toArray.size<2
  · rw [if_pos h2,if_pos h2]
    refine wpAny_bind (wpAny_pure ?_)
    rw [StateT.run_pure]
    refine wpAny_bind (wpAny_pure ?_)
    dsimp only
    refine wpAny_bind (seqEpoch_at ho6 rfl ?_)
    refine wpAny_bind (listUpdate_at ho6 rfl ?_ (hsz2:=by rw [Array.size_map]; show (pairsOf vs).size≤_; rw [pairsOf_size,sizeLine_eq]; omega))
    simp only [bne_self_eq_false,Bool.false_eq_true,if_false]
    refine wpAny_pure (fin (SortSt.mk' general' (vs.toArray.zip vs.toArray) #[] 7 none) (List.toArray (List.range vs.length)) (Array.Perm.refl _) (fun _ a b h1 h3=>by rw [List.size_toArray] at h2; omega) ?_)
    have e:=kat_snds (ks:=vs) (vs:=vs) (st:=SortSt.mk' general' (vs.toArray.zip vs.toArray) #[] 7 none) (p:=List.toArray (List.range vs.length)) rfl (by
      have e:=kas_range (vs.toArray.zip vs.toArray)
      rw [show (vs.toArray.zip vs.toArray).size=vs.length by simp] at e
      exact e.symm)
    exact e
  · rw [if_neg h2,if_neg h2]
    have hl2:2≤vs.length:=by rw [List.size_toArray] at h2; omega
    obtain ⟨fs,k1,k2,k3⟩:=ht6.firsts
    refine wpAny_bind (kat_kind (T:=.type "int") k1 (by omega) (fun v hv=>?_) rfl ?_)
    · obtain ⟨i,t,rfl⟩:=k3 v hv
      exact .now
    refine wpAny_bind (wpAny_mono (kat_run (ks:=vs) (vs:=vs) (G:=fun p s'=>s'={ s with heap:=((s.heap.update a (Obj.mapSeq fun _=>#[])).push (seqObj "tuple" vs.toArray 0)).push (seqObj "list" #[] 0) }∧Good vs.length p∧(Ord vs.length (ltC cs)→Asc (ltC cs) p vs.length))
      (Q:=fun st' s'=>s'={ s with heap:=((s.heap.update a (Obj.mapSeq fun _=>#[])).push (seqObj "tuple" vs.toArray 0)).push (seqObj "list" #[] 0) }∧failedOf st'=none∧∃ p:Array Nat,p.size=vs.length∧(Good vs.length p∧(Ord vs.length (ltC cs)→Asc (ltC cs) p vs.length))∧arrOf st'=p.map (kas_item (vs.toArray.zip vs.toArray)))
      rfl hl2 h64 (fun p' st' s' a1 a2 a3 a4=>⟨a4.1,a3,p',a1,a4.2,a2⟩)
      (KasAll.wp (n:=vs.length) (lt:=ltC cs) (R:=fun p=>Good vs.length p∧(Ord vs.length (ltC cs)→Asc (ltC cs) p vs.length)) (fun i j C hi hj hC=>?_) (fun p hp=>⟨rfl,hp⟩) (sort_any hl2))) ?_ fun _ _ e=>e)
    · obtain ⟨b,its,e1',⟨o,hb,hc,n',hd⟩,hv,_⟩:=ht6.get hi
      obtain ⟨b2,its2,e2',⟨o2,hb2,hc2,n2,hd2⟩,hv2,_⟩:=ht6.get hj
      unfold kas_ask
      rw [e1',e2']
      refine kat_lt hb hd hb2 hd2 ?_
      refine katLex_ints hv hv2 ?_
      have l1:=hv.length
      have l2:=hv2.length
      rw [List.length_map] at l1 l2
      rw [List.size_toArray,List.size_toArray,← l1,← l2]
      exact hC
    rintro ⟨⟨⟩,st'⟩ s' ⟨rfl,hf,p,hp,hg,har⟩
    dsimp only
    have hout:=kat_snds rfl har
    refine wpAny_bind (seqEpoch_at ho6 rfl ?_)
    refine wpAny_bind (listUpdate_at ho6 rfl ?_ (hsz2:=by rw [hout,List.size_toArray,List.length_map,Array.length_toList,hp,sizeLine_eq]; omega))
    rw [hf]
    simp only [bne_self_eq_false,Bool.false_eq_true,if_false]
    exact wpAny_pure (fin st' p hg.1 hg.2 hout)
theorem sorted_tups {l:Addr} {vs:List Value} {cs:List (List Int)} {Q:Value→Shared→Prop} (hl:s.heap.IsList l vs.toArray) (ht:TupsAt s.heap vs cs) (h64:vs.length<64)
    (h:∀ (p:Array Nat) (h':Heap) (D:Addr) (c:Nat),Good vs.length p→(Ord vs.length (ltC cs)→Asc (ltC cs) p vs.length)→(∀ b o,s.heap.get? b=some o→h'.get? b=some o)→s.heap.objs.size≤D→h'.get? D=some (seqObj "list" (List.toArray (p.toList.map fun i=>vs.getD i Value.none)) c)→Q (.ref D) { s with heap:=h' }) :
    wpAny (model prog w) A (call (.builtin "sorted") [.ref l]) Q E s:=by
  refine Calls.call_function_entry kind_sorted plain_sorted entry_sorted (args_sorted1 _) ?_
  unfold Builtin.«sorted»
  refine wpAny_bind (m:=checkCount "sorted" 1 1 _) (wpAny_pure ?_)
  refine wpAny_bind (collect_list hl ?_ (by rw [sizeLine_eq]; omega))
  refine wpAny_bind (wpAny_newList ?_ (by rw [sizeLine_eq]; omega))
  have hsz:((s.heap.push (seqObj "list" #[] 0)).update s.heap.objs.size (Obj.mapSeq (· ++ vs.toArray))).objs.size=s.heap.objs.size+1:=by
    rw [Heap.size_update,size_push']
  have hoL:(((s.heap.push (seqObj "list" #[] 0)).update s.heap.objs.size (Obj.mapSeq (· ++ vs.toArray))).push (seqObj "list" vs.toArray 0)).get? (s.heap.objs.size+1)=some (seqObj "list" vs.toArray 0):=by
    rw [← hsz]; exact Heap.get?_push_size _ rfl
  have keep:∀ b o,s.heap.get? b=some o→(((s.heap.push (seqObj "list" #[] 0)).update s.heap.objs.size (Obj.mapSeq (· ++ vs.toArray))).push (seqObj "list" vs.toArray 0)).get? b=some o:=fun b o q=>by
    have hlt:b<s.heap.objs.size:=Heap.lt_size q
    rw [Heap.get?_push_ne _ _ _ (by rw [hsz]; exact Nat.ne_of_lt (Nat.lt_succ_of_lt hlt)),Heap.get?_update_ne _ _ _ _ (Nat.ne_of_lt hlt),Heap.get?_push_ne _ _ _ (Nat.ne_of_lt hlt)]
    exact q
  show wpAny _ _ _ _ _ { s with heap:=((s.heap.push (seqObj "list" #[] 0)).update s.heap.objs.size (Obj.mapSeq (· ++ vs.toArray))).push (seqObj "list" vs.toArray 0) }
  rw [hsz]
  refine wpAny_bind (wpAny_holding (wpAny_call_entry slot_list_sort ⟨_,hoL,rfl⟩ entry_list_sort ?body (args_list_sort _)))
  generalize hH:((s.heap.push (seqObj "list" #[] 0)).update s.heap.objs.size (Obj.mapSeq (· ++ vs.toArray))).push (seqObj "list" vs.toArray 0)=h1 at *
  refine sort_tups (s:={ s with heap:=h1 }) hoL (ht.keep fun b o hb _=>keep b o hb) h64 fun p hp ho=>⟨_,rfl,wpAny_pure ⟨_,rfl,?_⟩⟩
  have hD:s.heap.objs.size+1<h1.objs.size:=Heap.lt_size hoL
  unfold sortedHeap
  have o1:(h1.update (s.heap.objs.size+1) (Obj.mapSeq fun _=>#[])).get? (s.heap.objs.size+1)=some (seqObj "list" #[] _):=get?_update_seq hoL (fun _=>#[])
  have o2:=Heap.get?_push_of_some (seqObj "list" #[] 0) (Heap.get?_push_of_some (seqObj "tuple" vs.toArray 0) o1)
  refine h p _ (s.heap.objs.size+1) _ hp ho (fun b o q=>?_) (Nat.le_succ _) (get?_update_seq o2 fun _=>List.toArray (p.toList.map fun i=>vs.getD i Value.none))
  have hlt:b<s.heap.objs.size:=Heap.lt_size q
  have hne:b≠s.heap.objs.size+1:=Nat.ne_of_lt (Nat.lt_succ_of_lt hlt)
  rw [Heap.get?_update_ne _ _ _ _ hne]
  exact Heap.get?_push_of_some _ (Heap.get?_push_of_some _ (by rw [Heap.get?_update_ne _ _ _ _ hne]; exact keep b o q))
end
@[irreducible] def rSorted (K:PySem.W.Frag):List V→Hp→VK→Prop:=fun xs H Q=>∃ (p:Addr) (ys:List V) (cs:List (List Int)),xs=[.ref p]∧SqL K H p ys∧RepL H (cs.map fun c=>PyData.tuple (c.map .int)) ys∧(∀ c∈cs,c≠[])∧ys.length<64 ∧
  ∀ q (ix:List Nat) H',ix.Perm (List.range ys.length)→(cs.Nodup→(ix.map fun i=>cs.getD i []).Pairwise fun a b=>lexB a b=true)→H q=none→H' q=some (.lst (ix.map fun i=>ys.getD i .non))→Same H H'→Q (.ref q) H'
theorem rsrt {K:PySem.W.Frag} {H:Hp} {Q:VK} {p:Addr} {ys:List V} {cs:List (List Int)} (h:SqL K H p ys) (r:RepL H (cs.map fun c=>PyData.tuple (c.map .int)) ys) (hc:∀ c∈cs,c≠[]) (hz:ys.length<64)
    (q:∀ q (ix:List Nat) H',ix.Perm (List.range ys.length)→(cs.Nodup→(ix.map fun i=>cs.getD i []).Pairwise fun a b=>lexB a b=true)→H q=none→H' q=some (.lst (ix.map fun i=>ys.getD i .non))→Same H H'→Q (.ref q) H'):rSorted K [.ref p] H Q:=by
  unfold rSorted; exact ⟨p,ys,cs,rfl,h,r,hc,hz,q⟩
theorem tups_of {X:Cx} {pins:List (Addr × Obj)} {σ:St} {H:Hp} {s:Shared} (I:Inv X pins σ H s):∀ {cs:List (List Int)} {ys:List V} {us:List Value},RepL H (cs.map fun c=>PyData.tuple (c.map .int)) ys→(∀ c∈cs,c≠[])→Vals ys us→TupsAt s.heap us cs
  | [],ys,us,r,hc,v=>by
    unfold RepL at r
    cases (show ys=[] from r)
    cases v
    exact .nil
  | c::cs,ys,us,r,hc,v=>by
    rw [List.map_cons] at r
    unfold RepL at r
    obtain ⟨y,ys',rfl,r1,r2⟩:=r
    obtain ⟨u,us',rfl,rv,v'⟩:=valsC v
    refine .cons ?_ (tups_of I r2 (fun c h=>hc c (List.mem_cons_of_mem _ h)) v')
    unfold Rep at r1
    obtain ⟨a,xs,rfl,h1,h2⟩:=r1
    cases rv
    obtain ⟨its,rr,pl,hzz⟩:=I.tuple (SqT.of h1)
    have hx:xs=c.map V.int:=by
      clear rr h1 hc hzz
      induction c generalizing xs with
      | nil=>unfold RepL at h2; exact h2
      | cons z c ih =>
        rw [List.map_cons] at h2
        unfold RepL at h2
        obtain ⟨x,xs',rfl,h3,h4⟩:=h2
        cases (show x=V.int z from h3)
        rw [ih _ h4]; rfl
    subst hx
    exact ⟨a,its,rfl,pl,rr,hc c (List.mem_cons_self ..)⟩
theorem vals_ix {ys:List V} {us:List Value} (v:Vals ys us):∀ ix:List Nat,(∀ i∈ix,i<ys.length)→Vals (ix.map fun i=>ys.getD i .non) (ix.map fun i=>us.getD i Value.none)
  | [],_=>.nil
  | i::ix,h=>by
    have hi:=h i (List.mem_cons_self ..)
    obtain ⟨u,hu,ru⟩:=v.get (i:=i) (x:=ys[i]) (by simp [hi])
    refine .cons ?_ (vals_ix v ix fun j hj=>h j (List.mem_cons_of_mem _ hj))
    have e1:ys.getD i .non=ys[i]:=by simp [hi]
    have e2:us.getD i Value.none=u:=by rw [List.getD_eq_getElem?_getD,hu]; rfl
    show RelV (ys.getD i .non) (us.getD i Value.none)
    rw [e1,e2]; exact ru
theorem cl_srt {X:Cx} (K:PySem.W.Frag) (hK:X.K=K:=by rfl):CallR X (.builtin "sorted") (rSorted K):=by
  subst hK
  unfold rSorted
  intro pins s σ H xs us Q I r h
  obtain ⟨p,ys,cs,rfl,hq,rep,hc,hz,q⟩:=h
  obtain ⟨u,rfl,rx⟩:=vals1 r
  cases rx
  obtain ⟨its,r',pl,hz'⟩:=I.list hq
  have hlen:=r'.length
  obtain ⟨o,n,ho,hcl,hdd,hd⟩:=pl
  refine sorted_tups ⟨o,ho,hcl,n,hd⟩ (tups_of I rep hc r') (by omega) fun pm h' D c hg ho keep hD hget=>?_
  have hperm:pm.toList.Perm (List.range ys.length):=by
    have:=(Array.perm_iff_toList_perm.mp hg)
    rw [hlen]; simpa using this
  have hlt:∀ i∈pm.toList,i<ys.length:=fun i hi=>by
    have:=hperm.mem_iff.mp hi
    simpa using this
  have hl2:(pm.toList.map fun i=>ys.getD i .non).length=ys.length:=by rw [List.length_map,hperm.length_eq,List.length_range]
  refine ⟨.ref D,upd H D (.lst (pm.toList.map fun i=>ys.getD i .non)),I.laid (t':=s.toks) keep hD ⟨by rw [hl2]; exact hz',_,c,vals_ix r' _ hlt,hget⟩,rfl,?_⟩
  have hn:=I.hok.fresh hD
  refine q D pm.toList _ hperm (fun hnd=>?_) hn upd_same (Same.upd hn)
  have lcs:cs.length=its.length:=by rw [← hlen,rep.len,List.length_map]
  have ha:=ho (lcs ▸ ord_of hnd)
  have hsz:=hg.size
  rw [List.pairwise_map,List.pairwise_iff_getElem]
  intro i j hi hj hij
  have hi':i<pm.size:=by simpa using hi
  have hj':j<pm.size:=by simpa using hj
  have e1:pm.toList[i]=pm.getD i 0:=by rw [Array.getElem_toList]; exact (by simp [Array.getD,hi']:pm.getD i 0=pm[i]).symm
  have e2:pm.toList[j]=pm.getD j 0:=by rw [Array.getElem_toList]; exact (by simp [Array.getD,hj']:pm.getD j 0=pm[j]).symm
  rw [e1,e2]
  exact ha i j hij (by rw [← hsz]; simpa using hj)
end L2
set_option Elab.async false
set_option linter.all false
set_option maxRecDepth 100000
namespace L2
open PySem PySem.Spec PySem.W PyProof.Rows HT
abbrev cD (c:List Int):PyData:=.tuple (c.map .int)
theorem eqvI (x y:Int):PyData.eqv (.int x) (.int y)=decide (x=y):=by
  show (x == y)=_
  rw [Bool.beq_eq_decide_eq]
theorem eqvIs:∀ a b:List Int,PyData.eqvAll (a.map PyData.int) (b.map PyData.int)=decide (a=b)
  | [],[]=>by simp [PyData.eqvAll]
  | [],_::_=>by simp [PyData.eqvAll]
  | _::_,[]=>by simp [PyData.eqvAll]
  | x::a,y::b=>by
    have ih:=eqvIs a b
    rw [List.map_cons,List.map_cons]
    show (PyData.eqv (.int x) (.int y)&&PyData.eqvAll _ _)=_
    rw [ih,eqvI]
    by_cases h:x=y <;> by_cases h':a=b <;> simp [h,h']
theorem eqvC (a b:List Int):PyData.eqv (cD a) (cD b)=decide (a=b):=eqvIs a b
theorem layIs:∀ a:List Int,PyData.canLayAll0 (a.map PyData.int)=true
  | []=>rfl
  | x::a=>by
    show (PyData.canLay0 (.int x)&&PyData.canLayAll0 (a.map PyData.int))=true
    rw [layIs a]; rfl
theorem depIs:∀ a:List Int,PyData.depthAll (a.map PyData.int)≤1
  | []=>by show 0≤1; omega
  | x::a=>by
    have:=depIs a
    show max (PyData.depth (.int x)) (PyData.depthAll (a.map PyData.int))≤1
    have:PyData.depth (.int x)≤1:=by simp [PyData.depth]
    omega
theorem cD_rep {H:Hp} {c:List Int} {v:V} (h:Rep H (cD c) v):∃ a,v=.ref a∧H a=some (.tup (c.map V.int)):=by
  unfold Rep at h
  obtain ⟨a,xs,rfl,h1,h2⟩:=h
  have hx:xs=c.map V.int:=by
    clear h1
    induction c generalizing xs with
    | nil=>unfold RepL at h2; exact h2
    | cons z c ih =>
      rw [List.map_cons] at h2
      unfold RepL at h2
      obtain ⟨x,xs',rfl,h3,h4⟩:=h2
      cases (show x=V.int z from h3)
      rw [ih _ h4]; rfl
  subst hx
  exact ⟨a,rfl,h1⟩
theorem map_int_inj {a b:List Int} (h:a.map V.int=b.map V.int):a=b:=by
  induction a generalizing b with
  | nil=>cases b with
    | nil=>rfl
    | cons _ _=>cases h
  | cons x a ih=>cases b with
    | nil=>cases h
    | cons y b =>
      rw [List.map_cons,List.map_cons] at h
      injection h with h1 h2
      injection h1 with h1
      rw [h1,ih h2]
open Classical in
noncomputable def eqC (H:Hp) (c:List Int) (u:Value):Bool:=decide (∃ b,u=.ref b∧H b=some (.tup (c.map V.int)))
section
variable {X:Cx} {pins:List (Addr × Obj)} {σ:St} {H:Hp} {s:Shared}
theorem eqC_at {c c':List Int} {y:V} {u:Value} (h:Rep H (cD c') y) (r:RelV y u):eqC H c u=decide (c'=c):=by
  obtain ⟨a,rfl,ha⟩:=cD_rep h
  cases r
  unfold eqC
  rw [Bool.eq_iff_iff]
  simp only [decide_eq_true_eq]
  constructor
  · rintro ⟨b,e2,hb⟩
    cases e2
    rw [ha] at hb
    injection hb with hb
    injection hb with hb
    exact map_int_inj hb
  · rintro rfl
    exact ⟨a,rfl,ha⟩
theorem eqC_any {c:List Int}:∀ {cs:List (List Int)} {ys:List V} {us:List Value},RepL H (cs.map cD) ys→Vals ys us→us.any (eqC H c)=decide (c∈cs)
  | [],ys,us,r,v=>by
    unfold RepL at r
    cases (show ys=[] from r)
    cases v
    rfl
  | c' :: cs,ys,us,r,v=>by
    rw [List.map_cons] at r
    unfold RepL at r
    obtain ⟨y,ys',rfl,r1,r2⟩:=r
    obtain ⟨u,us',rfl,rv,v'⟩:=valsC v
    rw [List.any_cons,eqC_at r1 rv,eqC_any r2 v']
    by_cases h:c'=c
    · subst h; simp
    · have h':¬ c=c':=fun e=>h e.symm
      simp [h,h']
theorem eqC_mem (I:Inv X pins σ H s) (hu:X.A.units+64<cLine) {c:List Int} {v:Value} {as:List Addr} (rc:Reads s.heap v (cD c) as):∀ {cs:List (List Int)} {ys:List V} {us:List Value},RepL H (cs.map cD) ys→Vals ys us →
    ∀ u∈us,SeqAt.EqAt X.A.in1 s u v (eqC H c u)
  | [],ys,us,r,vv=>by
    unfold RepL at r
    cases (show ys=[] from r)
    cases vv
    exact fun u hu=>by cases hu
  | c' :: cs,ys,us,r,vv=>by
    rw [List.map_cons] at r
    unfold RepL at r
    obtain ⟨y,ys',rfl,r1,r2⟩:=r
    obtain ⟨u,us',rfl,rv,v'⟩:=valsC vv
    intro u' hu'
    rcases List.mem_cons.mp hu' with rfl | hu'
    · obtain ⟨bs,rb⟩:=r1.reads I rv
      rw [eqC_at r1 rv,← eqvC]
      refine SeqAt.eqAt_reads (cD c') (cD c) _ s _ _ bs as rb rc (layIs c') (layIs c) ?_
      have h1:(cD c').depth≤2:=by
        have:=depIs c'
        simp only [PyData.depth]
        omega
      have:X.A.in1.units≤X.A.units+1:=by
        first
          | exact Nat.le_refl _
          | (unfold Around.in1; simp)
      omega
    · exact eqC_mem I hu rc r2 v' u' hu'
end
@[irreducible] def rInT (K:PySem.W.Frag) (neg:Bool):R2:=fun x y H Q=>∃ (p:Addr) (ys:List V) (cs:List (List Int)) (c:List Int),y=.ref p∧(SqL K H p ys∨SqT K H p ys)∧RepL H (cs.map cD) ys∧RepK K H (cD c) x∧Q (.bl (if neg then !decide (c∈cs) else decide (c∈cs))) H
theorem riT {K:PySem.W.Frag} {neg:Bool} {x:V} {p:Addr} {ys:List V} {cs:List (List Int)} {c:List Int} {H:Hp} {Q:VK} (h:SqL K H p ys∨SqT K H p ys) (r:RepL H (cs.map cD) ys) (rx:RepK K H (cD c) x) (q:Q (.bl (if neg then !decide (c∈cs) else decide (c∈cs))) H):rInT K neg x (.ref p) H Q:=by
  unfold rInT; exact ⟨p,ys,cs,c,rfl,h,r,rx,q⟩
section
variable {X:Cx}
theorem op_notinT (K:PySem.W.Frag) (hu:X.A.units+64<cLine) (hK:X.K=K:=by rfl):OpR X (compareOp .NotIn) (rInT K true):=by
  subst hK
  unfold rInT
  intro pins s σ H x y v u Q I rx ry h
  obtain ⟨p,ys,cs,c,rfl,hq,r,rc,q⟩:=h
  cases ry
  obtain ⟨as,ra⟩:=rc.reads I rx
  rcases hq with hq | hq
  · obtain ⟨its,r',pl,hz⟩:=I.list hq
    refine SeqAt.notIn_listAt (eqC H c) pl.isList (fun w hw=>eqC_mem I hu ra r r' w (by simpa using hw)) ⟨.bl _,H,I,rfl,?_⟩
    rw [show its.toArray.any (eqC H c)=its.any (eqC H c) by simp,eqC_any r r']
    exact q
  · obtain ⟨its,r',pl,hz⟩:=I.tuple hq
    refine SeqAt.notIn_tupleAt (eqC H c) pl (fun w hw=>eqC_mem I hu ra r r' w (by simpa using hw)) ⟨.bl _,H,I,rfl,?_⟩
    rw [show its.toArray.any (eqC H c)=its.any (eqC H c) by simp,eqC_any r r']
    exact q
end
end L2
set_option Elab.async false
set_option linter.all false
set_option maxRecDepth 100000
namespace L2
open PySem PySem.W PySem.Spec PySem.Calls PyProof.Rows
section
variable {prog:Program} {w:World} {A:Around} {E:Value→Shared→Prop} {h:Heap} {g:Array GenState} {d:Drawn} {t:Nat} {os:OsState}
variable {nm q:Str} {C N:Addr} {bs bm bmB:List Value} {hdct:Bool} {sn:List Str} {sub:List Value} {ab:Bool} {col:Option Bool} {dd:Option Addr} {k0 k1 k2 k3 k5:Option Value} {B newId initId:String}
theorem type_call_excI (F:ExcBaseFacts B newId initId bmB) (T:OwnTail h bmB bm) {rest:List Value} {fI:Addr} {Q:Fin→Shared→Prop}
    (hC:h.get? C=some (excClassObj nm q C N bs bm hdct sn sub ab col dd k0 k1 k2 k3 k5 newId)) (hi:Looks (model prog w) h (typeLookup (.ref C) "__init__") (some (.ref fI)))
    (hf:∀ self,Looks (model prog w) h (bindSpecial (.ref fI) self) (.ref fI,[self]))
    (hq:∀ h' e,Heap.MadeExcOf h h' e (.ref C) rest →
      wpAny (model prog w) A (call (.ref fI) (.ref e::rest)) (fun r s'=>r=.none∧Q (.done (.ret (.ref e))) s') E ⟨h',g,d,t,os⟩) (hrest:rest.length≤sizeLine:=by size_fits) :
    wpAny (model prog w) A (Builtin.«type.__call__» ⟨.ref C::rest,[]⟩) Q E ⟨h,g,d,t,os⟩:=by
  repeat (first | with_reducible refine wpAny_loadPart_at hC ?_ | with_reducible refine wpAny_madeBy_exc hC ?_ | wp_step)
  refine codeAny_call_builtin_code (Code.quiet_builtin _ F.quiet) (wpAny_check_new_subT F T hC ?_)
  refine codeAny_exc_new_subT F T hC ?_ hrest
  show wpAny _ _ _ _ _ _
  have hC₁:=Heap.get?_push_of_some { cls:=.ref C,data:=.fields #[.ref h.objs.size,.none,.none,.none,.bool false,.none] }
    (Heap.get?_push_of_some { cls:=.type "tuple",data:=.seq rest.toArray } hC)
  have kk:∀ b o,h.get? b=some o→((h.push { cls:=.type "tuple",data:=.seq rest.toArray }).push { cls:=.ref C,data:=.fields #[.ref h.objs.size,.none,.none,.none,.bool false,.none] }).get? b=some o:=fun b o e=>Heap.get?_push_of_some _ (Heap.get?_push_of_some _ e)
  have hget:((h.push { cls:=.type "tuple",data:=.seq rest.toArray }).push
      { cls:=.ref C,data:=.fields #[.ref h.objs.size,.none,.none,.none,.bool false,.none] }).get? (h.objs.size+1)=some
      { cls:=.ref C,data:=.fields #[.ref h.objs.size,.none,.none,.none,.bool false,.none] }:=by heap_get
  have hcC:(Value.ref C::bm).contains (.ref C)=true:=by simp
  unfold isInstance
  repeat (first | with_reducible refine wpAny_loadPart_at hget ?_ | (with_reducible refine wpAny_isSubtype_exc hC₁ ?_; rw [hcC]) | wp_step)
  show wpAny _ _ (typeLookup (.ref C) _) _ _ _
  refine (hi.keeps kk).at ?_
  refine wpAny_holding (wpAny_bind (((hf _).keeps kk).at ?_))
  refine wpAny_bind (wpAny_mono (hq _ (h.objs.size+1) ⟨fun b o hb=>Heap.get?_push_of_some _ (Heap.get?_push_of_some _ hb),Heap.get?_none_of_le (Nat.le_succ _),h.objs.size,hget,Heap.get?_none_of_le (Nat.le_refl _),?_⟩) (fun r s' hr=>?_) fun _ _ x=>x)
  · exact Heap.get?_push_of_some _ (Heap.get?_push_at rfl rfl)
  · obtain ⟨rfl,hQ⟩:=hr
    wp_walk
    exact hQ
theorem call_excI (F:ExcBaseFacts B newId initId bmB) (T:OwnTail h bmB bm) {rest:List Value} {fI:Addr} {Q:Value→Shared→Prop}
    (hC:h.get? C=some (excClassObj nm q C N bs bm hdct sn sub ab col dd k0 k1 k2 k3 k5 newId)) (hi:Looks (model prog w) h (typeLookup (.ref C) "__init__") (some (.ref fI)))
    (hf:∀ self,Looks (model prog w) h (bindSpecial (.ref fI) self) (.ref fI,[self]))
    (hq:∀ h' e,Heap.MadeExcOf h h' e (.ref C) rest →
      wpAny (model prog w) (A.under (.builtin "type.__call__" ⟨.ref C::rest,[]⟩)) (call (.ref fI) (.ref e::rest)) (fun r s'=>r=.none∧Q (.ref e) s') E ⟨h',g,d,t,os⟩) (hrest:rest.length≤sizeLine:=by size_fits) :
    wpAny (model prog w) A (call (.ref C) rest) Q E ⟨h,g,d,t,os⟩:=by
  have f1:=tc_lookup
  have f2:=tc_bind (.ref C)
  have hT:(⟨h,g,d,t,os⟩:Shared).TypeIs (.ref C) "type" := ⟨_,hC,rfl⟩
  refine wpAny_call (codeAny_of_tree ?_)
  show wpAny _ _ (callAny (.ref C) _) _ _ _
  repeat (any_goals (first | assumption | with_reducible refine wpAny_loadPart_at hC ?_ | wp_step))
  refine ⟨rfl,?_⟩
  refine codeAny_call_builtin_at (Code.quiet_builtin _ (by decide +kernel)) entry_typeCall (wpAny_check_type_call_sub hC (type_call_excI (hrest:=hrest) F T hC hi hf fun h' e hm=>?_))
  exact hq h' e hm
end
def excShape (K:Frag) (C:Addr) (bmB:List Value) (newId:String):Bool:=match K.lookup C with
  | some ⟨.type "type",_,.cls cd,sl⟩=>(match cd.mro,sl.toList with
    | .ref C' :: bm,[_,_,_,_,some (.builtin n),_]=>C' == C&&n == newId && !cd.hasDel&&tailIn K bmB bm&&nsOkIn K cd.ns
    | _,_=>false)
  | _=>false
theorem excShape_obj {K:Frag} {h:Heap} {C:Addr} {bmB:List Value} {newId:String} (X:K.In h) (q:excShape K C bmB newId=true) :
    ∃ bm N nm qn bs hdct sn sub ab col dd k0 k1 k2 k3 k5,h.get? C=some (excClassObj nm qn C N bs bm hdct sn sub ab col dd k0 k1 k2 k3 k5 newId)∧OwnTail h bmB bm:=by
  unfold excShape at q
  cases e:K.lookup C with
  | none=>rw [e] at q; cases q
  | some o =>
    rw [e] at q
    obtain ⟨oc,dd,dt,sl⟩:=o
    split at q
    · rename_i _ dd' cd sl' ho
      cases ho
      split at q
      · rename_i C' bm k0 k1 k2 k3 n k5 hm hs
        rw [Bool.and_eq_true,Bool.and_eq_true,Bool.and_eq_true,Bool.and_eq_true] at q
        obtain ⟨⟨⟨⟨q1,q2⟩,q3⟩,q4⟩,q5⟩:=q
        have q1:C'=C:=by simpa using q1
        have q2:n=newId:=by simpa using q2
        have q3:cd.hasDel=false:=by simpa using q3
        subst q1 q2
        obtain ⟨nm,bs,mro,ns,qn,hd,sn,sub,ab,col,del⟩:=cd
        cases hm
        cases q3
        obtain ⟨l⟩:=sl
        cases hs
        exact ⟨bm,ns,nm,qn,bs,hd,sn,sub,ab,col,dd,k0,k1,k2,k3,k5,X _ _ e,tail_of_in X q4⟩
      · cases q
    · cases q
structure MkX (K:Frag) (C f:Addr):Prop where
  shape:excShape K C mroVE "ValueError.__new__" = true
  init:findIn K (.ref C) "__init__" = some (some (.ref f))
  fn:isFn K (.ref f)=true
  kp:keepIn K (.ref C)=true
section
variable {prog:Program} {w:World} {A:Around} {E:Value→Shared→Prop} {s:Shared} {K:Frag} {C f:Addr} {rest:List Value}
theorem make_exc {Q:Value→Shared→Prop} (M:MkX K C f) (X:K.In s.heap)
    (hq:∀ h' e,Heap.MadeExcOf s.heap h' e (.ref C) rest →
      wpAny (model prog w) (A.under (.builtin "type.__call__" ⟨.ref C::rest,[]⟩)) (call (.ref f) (.ref e::rest)) (fun r s'=>r=.none∧Q (.ref e) s') E { s with heap:=h' }) (hrest:rest.length≤sizeLine) :
    wpAny (model prog w) A (call (.ref C) rest) Q E s:=by
  obtain ⟨bm,N,nm,qn,bs,hdct,sn,sub,ab,col,dd,k0,k1,k2,k3,k5,hC,TL⟩:=excShape_obj X M.shape
  obtain ⟨hh,g,d,t,os⟩:=s
  exact call_excI (hrest:=hrest) PySem.F.excBase_ValueError TL hC (looks_findIn X M.init) (fun self=>bind_fn X self (beq_iff_eq.mp M.fn)) hq
end
end L2
set_option Elab.async false
set_option linter.all false
set_option maxRecDepth 100000
namespace L2
open PySem PySem.W PySem.Spec PySem.Calls PyProof.Rows Builtin Builtin.ObjectAttr
def XdO (d:Addr) (fs:List (Str × V)):HO:=.ext fun h=>∃ mA,h.Ns1 d mA∧(∀ f,RelO (fs.lookup f) (mA f))∧PySem.Within mA (fs.map (·.1))
theorem XdO.ok {P:Program} {w:World} {H:Hp} {h:Heap} {d:Addr} {fs:List (Str × V)} {mA:Str→Option Value} (n:h.Ns1 d mA) (r:∀ f,RelO (fs.lookup f) (mA f)) (wi:PySem.Within mA (fs.map (·.1))):ObjOk P w H h d (XdO d fs):=by
  refine ⟨⟨mA,n,r,wi⟩,(let ⟨o,_,_,e,_⟩:=n; ⟨o,e⟩),?_⟩
  rintro g1 g2 ⟨mA,n,r,wi⟩ k
  exact ⟨mA,n.at fun o e=>k o e,r,wi⟩
def XHas (H:Hp):Option Addr→Prop
  | none=>True
  | some d=>∃ fs,H d=some (XdO d fs)
theorem exc_get {X:Cx} {pins:List (Addr × Obj)} {σ:St} {H:Hp} {s:Shared} {a C:Addr} {od:Option Addr} (I:Inv X pins σ H s) (h:H a=some (ExcO a C od)) (hd:XHas H od):∃ ox d,InstAt s.heap a ox C d:=by
  obtain ⟨⟨oe,vs,e1,e2,e3,e4,_⟩,_⟩:=I.hok a _ h
  cases od with
  | none=>exact ⟨oe,none,⟨e1,e2,by unfold notCls; rw [e4],by rw [e3]; trivial⟩⟩
  | some d =>
    obtain ⟨fs,hd⟩:=hd
    obtain ⟨_,⟨o,e⟩,_⟩:=I.hok d _ hd
    exact ⟨oe,some o,⟨e1,e2,by unfold notCls; rw [e4],by rw [e3]; exact e⟩⟩
def onlyVE:List Value→Bool
  | [.type a,.type b,.type c,.type d]=>a == "ValueError" && b == "Exception" && c == "BaseException" && d == "object"
  | .ref _::r=>onlyVE r
  | _=>false
theorem onlyVE_ref {c:Addr} {r:List Value} (e:onlyVE (.ref c::r)=true):onlyVE r=true:=by
  unfold onlyVE at e
  exact e
theorem onlyVE_base {l:List Value} (e:onlyVE l=true) (n:∀ c r,l ≠ .ref c::r):l=mroVE:=by
  unfold onlyVE at e
  split at e
  · simp only [Bool.and_eq_true,beq_iff_eq] at e
    obtain ⟨⟨⟨rfl,rfl⟩,rfl⟩,rfl⟩:=e
    rfl
  · exact absurd rfl (n _ _)
  · cases e
theorem onlyVE_ind {P:List Value→Prop} (hb:P mroVE) (hs:∀ c r,P r→P (.ref c::r)):∀ {l:List Value},onlyVE l=true→P l:=by
  intro l
  induction l with
  | nil=>intro e; exact absurd e (by decide)
  | cons v r ih =>
    intro e
    cases v with
    | ref c=>exact hs c r (ih (onlyVE_ref e))
    | _=>rw [onlyVE_base e (fun c r z=>by cases z)]; exact hb
structure ExcSet (K:Frag) (C:Addr):Prop where
  hd:hasDictIn K C=true
  po:((clsIn K C).any fun cd=>onlyVE cd.mro)=true
  sa:findIn K (.ref C) "__setattr__" = some (some (.builtin "object.__setattr__"))
section
variable {prog:Program} {w:World} {A:Around} {E:Value→Shared→Prop} {s:Shared} {K:Frag} {x C:Addr} {R:Result→Shared→Prop}
theorem osaX_open {ox:Obj} {od:Option Obj} {name:Str} {tk:Tok} {v:Value} (X:K.In s.heap) (I:InstAt s.heap x ox C od) (c:ExcSet K C) (ht:findIn K (.ref C) name=some none)
    (h:∀ b,wpAny (model prog w) A.in1 (storeInOwnDict (.ref x) (.ref C) (.str name tk) name v b)
      (fun fin s'=>match fin with | .done f=>R (.ok f) s' | .again c'=>c'.quiet=true∧codeAny (model prog w) A c' R s') (fun e s'=>R (.error e) s') s) :
    codeAny (model prog w) A (.call (.builtin "object.__setattr__") ⟨[.ref x,.str name tk,v],[]⟩) R s:=by
  have SF:=PySem.F.store_object
  obtain ⟨cd,hc,ho⟩:=any_some c.po
  have ne:cd.mro.isEmpty=false:=onlyVE_ind (P:=fun l=>l.isEmpty=false) rfl (fun _ _ _=>rfl) ho
  have hob:cd.mro.contains (.type "object")=true:=onlyVE_ind (P:=fun l=>l.contains (.type "object")=true) (by decide +kernel) (fun c r z=>by rw [List.contains_cons,z,Bool.or_true]) ho
  have hre:refuseLoop (.ref x) "__setattr__" cd.mro=pure ():=onlyVE_ind (P:=fun l=>refuseLoop (.ref x) "__setattr__" l=pure ()) (PySem.F.store_ValueError.passes _) (fun c r z=>by rw [refuseLoop_ref]; exact z) ho
  have sub:Looks (model prog w) s.heap (isInstance (.ref x) (.type "object")) true:=I.type.andThen (looks_mroIn X (by unfold mroIn; rw [hc,Option.bind_some,if_neg (by rw [ne]; decide),hob]))
  refine codeAny_call_builtin SF.slot.plain SF.entry (@check_slot (model prog w) _ _ s "object.__setattr__" "object" "__setattr__" (.ref x) [.str name tk,v] [] _ SF.kind SF.split sub (SF.args (.ref x) (.str name tk) v) ?_)
  have hm:Looks (model prog w) s.heap (mroOf (.ref C)) cd.mro:=(looks_clsIn X hc).andThen .now
  rw [osa_eq,refuse_eq]
  refine wpAny_bind (wpAny_bind (I.type.here (wpAny_bind (hm.here ?_))))
  rw [hre]
  refine wpAny_pure (wpAny_bind (I.type.here (wpAny_bind ((looks_findIn X ht).here (wpAny_bind (wpAny_pure ?_))))))
  exact h _
theorem set_exc0 {ox:Obj} {vs:Array Value} {name:Str} {v:Value} {Q:Unit→Shared→Prop} (X:K.In s.heap) (c:ExcSet K C) (na:findIn K (.ref C) name=some none) (hx:s.heap.get? x=some ox) (hc:ox.cls=.ref C) (hd:ox.data=.fields vs) (ho:ox.dict=none)
    (h:∀ h',h'.get? x=some { ox with dict:=some s.heap.objs.size }→h'.Ns1 s.heap.objs.size (fun y=>if y=name then some v else none)→(∀ b o,b≠x→s.heap.get? b=some o→h'.get? b=some o)→Q () { s with heap:=h',toks:=s.toks+2 }) :
    wpAny (model prog w) A (setAttr (.ref x) name v) Q E s:=by
  have I:InstAt s.heap x ox C none:=⟨hx,hc,by unfold notCls; rw [hd],by rw [ho]; trivial⟩
  refine set_plain X I c.sa (osaX_open (s:={ s with toks:=s.toks+1 }) X I c na fun b=>?_)
  obtain ⟨cd,hcd,hd'⟩:=any_some c.hd
  obtain ⟨oc,od,dt,sl⟩:=ox
  dsimp only at hc hd ho
  subst hc hd ho
  refine wpAny_bind (wpAny_pure (wpAny_bind (wpAny_bind (wpAny_loadPart hx (wpAny_bind (Looks.here (s:={ s with toks:=s.toks+1 }) (looks_clsIn X hcd) ?_))))))
  rw [hd']
  show wpAny (model prog w) A.in1 (do
                let d ← alloc { cls:=Value.type "dict",data:=Data.dict #[] }
                update x fun o=>{ cls:=o.cls,dict:=some d,data:=o.data,slots:=o.slots }
                pure (some d)) _ _ _
  have hx₁:(s.heap.push { cls:=.type "dict",data:=.dict #[] }).get? x=some { cls:=Value.ref C,data:=Data.fields vs,slots:=sl }:=Heap.get?_push_of_some _ hx
  have hxs:x≠s.heap.objs.size:=Nat.ne_of_lt (Heap.lt_size hx)
  refine wpAny_bind (wpAny_alloc' ?_)
  refine wpAny_bind (wpAny_update' hx₁ ?_)
  refine wpAny_pure ?_
  have hgd:((s.heap.push { cls:=.type "dict",data:=.dict #[] }).update x fun o=>{ cls:=o.cls,dict:=some s.heap.objs.size,data:=o.data,slots:=o.slots }).get? s.heap.objs.size
      = some { cls:=.type "dict",data:=.dict #[] } :=
    (Heap.get?_update_ne _ _ _ _ hxs.symm).trans (Heap.get?_push_at rfl rfl)
  have hnd:((s.heap.push { cls:=.type "dict",data:=.dict #[] }).update x fun o=>{ cls:=o.cls,dict:=some s.heap.objs.size,data:=o.data,slots:=o.slots }).Ns s.heap.objs.size (fun _=>none) :=
    ⟨_,#[],_,hgd,rfl,fun e he=>absurd he (by simp),fun _=>rfl⟩
  show wpAny _ _ (storeInDict s.heap.objs.size (.str name s.toks) name v) _ _ _
  unfold storeInDict newKeyGuard
  refine wpAny_bind (wpAny_pure (wpAny_bind (wpAny_nsSet1 (Heap.Ns1.of_empty hnd) fun h' hn' hs=>?_)))
  obtain ⟨oD,esD,epD,hoD,hdD,hcD⟩:=hn'.count (Within.cons name v Within.nil)
  refine wpAny_bind (wpAny_lookBehind hoD (by rw [hdD]; exact pastItsLine_dict (Nat.le_trans hcD (by rw [List.length_cons,List.length_nil,sizeLine_eq]; omega))) ?_)
  refine wpAny_pure (h h' ?_ hn' fun b ob hbx hb=>?_)
  · refine (hs.2 x hxs).trans (Heap.get?_update_self _ hx₁ ?_)
    rfl
  · exact (hs.2 b (Nat.ne_of_lt (Heap.lt_size hb))).trans ((Heap.get?_update_ne _ _ _ _ hbx).trans (Heap.get?_push_of_some _ hb))
theorem set_exc1 {ox:Obj} {vs:Array Value} {d:Addr} {mA:Str→Option Value} {ns:List Str} {name:Str} {v:Value} {Q:Unit→Shared→Prop} (X:K.In s.heap) (c:ExcSet K C) (na:findIn K (.ref C) name=some none) (hx:s.heap.get? x=some ox) (hc:ox.cls=.ref C) (hd:ox.data=.fields vs) (ho:ox.dict=some d)
    (hn:s.heap.Ns1 d mA) (hw:PySem.Within mA ns) (hsz:ns.length≤1000)
    (h:∀ h',h'.Ns1 d (fun y=>if y=name then some v else mA y)→Heap.SameBut d s.heap h'→Q () { s with heap:=h',toks:=s.toks+2 }) :
    wpAny (model prog w) A (setAttr (.ref x) name v) Q E s:=by
  have I:∃ od,InstAt s.heap x ox C (some od):=by
    obtain ⟨o,_,_,e,_⟩:=id hn
    exact ⟨o,hx,hc,by unfold notCls; rw [hd],by rw [ho]; exact e⟩
  obtain ⟨o,I⟩:=I
  refine set_plain X I c.sa (osaX_open (s:={ s with toks:=s.toks+1 }) X I c na fun b=>?_)
  obtain ⟨cd,hcd,hd'⟩:=any_some c.hd
  obtain ⟨oc,od,dt,sl⟩:=ox
  dsimp only at hc hd ho
  subst hc hd ho
  refine wpAny_bind (wpAny_pure (wpAny_bind (wpAny_bind (wpAny_loadPart hx (wpAny_bind (Looks.here (s:={ s with toks:=s.toks+1 }) (looks_clsIn X hcd) ?_))))))
  rw [hd']
  refine wpAny_pure (a:=some d) (wpAny_bind (wpAny_pure (wpAny_bind ?_)))
  refine wpAny_nsSet1 (s:={ s with toks:=s.toks+1 }) hn fun h' hn2 hs2=>?_
  obtain ⟨oD,esD,epD,hoD,hdD,hcD⟩:=hn2.count (PySem.Within.cons name v hw)
  refine wpAny_bind (wpAny_lookBehind hoD (by rw [hdD]; exact pastItsLine_dict (Nat.le_trans hcD (by rw [List.length_cons,sizeLine_eq]; omega))) ?_)
  exact wpAny_pure (h _ hn2 hs2)
end
section
variable {X:Cx} {pins:List (Addr × Obj)} {σ:St} {H:Hp} {s:Shared} {a C d:Addr} {fs:List (Str × V)} {f:Str} {v:V} {A:Around} {E:Value→Shared→Prop}
theorem upd_self {o:HO} (h:H a=some o):upd H a o=H:=by
  funext b
  by_cases e:b=a
  · subst e; rw [upd_same,h]
  · rw [upd_ne e]
theorem exc_read {b:Bool} {Q:Value→Shared→Prop} (I:Inv X pins σ H s) (e:H a=some (ExcO a C (some d))) (ed:H d=some (XdO d fs)) (c:ExcCls X.K C) (hh:hasDictIn X.K C=true) (n:NoAttr X.K C f) (l:fs.lookup f=some v)
    (h:∀ u s',Inv X pins σ H s'→RelV v u→Q u s'):wpAny (model X.prog X.w) A (getAttr (.ref a) f b) Q E s:=by
  obtain ⟨⟨oe,vs,e1,e2,e3,e4,_⟩,_⟩:=I.hok a _ e
  obtain ⟨⟨mA,nn,r,_⟩,_⟩:=I.hok d _ ed
  obtain ⟨od,ho,hl⟩:=lookIn_ns nn
  obtain ⟨u,hu,ru⟩:=RelO.some_of (v:=v) (o:=mA f) (by rw [← l]; exact r f)
  exact exc_attr (od:=some od) c I.kIn ⟨e1,e2,by unfold notCls; rw [e4],by rw [e3]; exact ho⟩ (findObj_own hh n rfl (by rw [hl,hu])) (handed_of ru) (h u _ (I.tok _) ru)
end
theorem vals_cons {x:V} {xs:List V} {us:List Value} (r:Vals (x::xs) us):∃ u ur,us=u::ur∧RelV x u∧Vals xs ur:=by cases r with | cons a b=>exact ⟨_,_,rfl,a,b⟩
def tFldX (K:Frag) (ta:TE) (f:Str):TE:=fun σ H Q=>ta σ H fun x H1=>∃ a C d fs v,x=.ref a∧H1 a=some (ExcO a C (some d))∧H1 d=some (XdO d fs)∧ExcCls K C∧hasDictIn K C=true∧NoAttr K C f∧fs.lookup f=some v∧Q v H1
structure FnI (P:Program) (w:World) (K:Frag) (mg:Str→Option Value) (base:Heap) (k:Nat) (C:Addr) (ps:List Str) (sp:Sp):Prop where
  ex:∃ f fd,FnOk P w K mg base CX0 k f fd ps sp∧MkX K C f∧Binds K fd ps []
structure BaseCls (K:Frag) (C:Addr):Prop where
  rd:readsIn K C (.type "type")=true
  fd:findCls K (.ref C) (.type "type") "__init__" = some (.val (.builtin "ValueError.__init__"))
  ga:specialIn K (.ref C) "__getattribute__" = some (some (.builtin "type.__getattribute__"))
section
variable {X:Cx} {k:Nat} {f C:Addr} {fd:FuncData} {ps:List Str} {sp:Sp} {x g:Str} {p pos np apos pos':Pos} {e o value:Expr} {es:List Expr} {t:TA} {ta tv:TE}
theorem we_fldX (he:PEw X e ta) (hb:attributeBase e g X.env (eval e X.env)=eval e X.env:=by rfl):PEw X (.Attribute e g pos) (tFldX X.K ta g):=⟨by
  intro pins s σ H Q I h
  refine attr_of hb (thn (he.p pins s σ H _ I h) fun u s1 ⟨x,H1,I1,rx,a,C,d,fs,v,ex,ea,ed,c,hh,n,l,q⟩=>?_)
  subst ex
  obtain rfl:u=Value.ref a:=rx
  exact exc_read I1 ea ed c hh n l fun u' s2 I2 ru=>⟨v,H1,I2,ru,q⟩⟩
@[irreducible] def rIsY (K:PySem.W.Frag):List V→Hp→VK→Prop:=fun xs H Q=>∃ a C od c u b,xs=[.ref a,c]∧H a=some (ExcO a C od)∧XHas H od∧ExcCls K C∧RelV c u∧PySem.W.kitOne K (.ref C) u=some b∧Q (.bl b) H
theorem ryI {K:PySem.W.Frag} {H:Hp} {Q:VK} {a C:Addr} {od:Option Addr} {c:V} {b:Bool} (ha:H a=some (ExcO a C od)) (hx:XHas H od) (ec:ExcCls K C) (u:Value) (ru:RelV c u) (e:PySem.W.kitOne K (.ref C) u=some b) (q:Q (.bl b) H):rIsY K [.ref a,c] H Q:=by
  unfold rIsY; exact ⟨a,C,od,c,u,b,rfl,ha,hx,ec,ru,e,q⟩
theorem cl_isiY:CallR X (.builtin "isinstance") (rIsY X.K):=by
  unfold rIsY
  intro pins s σ H xs us Q I r h
  obtain ⟨a,C,od,c,u,b,rfl,ha,hx,ec,ru,e,q⟩:=h
  obtain ⟨u1,w',rfl,r1,r2⟩:=vals2 r
  cases (show u1=Value.ref a from r1)
  have hi:=exc_get I ha hx
  have:w'=u:=by
    cases c with
    | ref p=>cases ru; cases r2; rfl
    | ty n=>cases ru; cases r2; rfl
    | non=>cases ru; cases r2; rfl
    | bl _=>cases ru; cases r2; rfl
    | int i=>obtain ⟨t,rfl⟩:=ru; simp [PySem.W.kitOne,PySem.W.kitCls] at e
    | str i=>obtain ⟨t,rfl⟩:=ru; simp [PySem.W.kitOne,PySem.W.kitCls] at e
    | byt i=>obtain ⟨t,rfl⟩:=ru; simp [PySem.W.kitOne,PySem.W.kitCls] at e
    | flt i=>obtain ⟨t,rfl⟩:=ru; simp [PySem.W.kitOne,PySem.W.kitCls] at e
  subst this
  exact PySem.W.kia_one (kitx_exc ec) I.kIn hi e (fun z=>nomatch z) fun tk=>⟨.bl b,H,I.tok _,rfl,q⟩
end
end L2
set_option Elab.async false
set_option linter.all false
set_option maxRecDepth 100000
namespace L2
open PySem PySem.W PySem.Spec PySem.Calls PyProof.Rows
def excAll (K:Frag) (C:Addr):Bool:=findIn K (.ref C) "__getattribute__" == some (some (.builtin "BaseException.__getattribute__"))&&findIn K (.ref C) "__getattr__" == some none&&subIn K (.ref C) (.type "BaseException") == some true &&
  (clsIn K C).isSome&&findIn K (.ref C) "__class__" == some (some (.builtin "object.__class__"))&&specialIn K (.builtin "object.__class__") "__get__" == some (some (.builtin "getset_descriptor.__get__")) &&
  takesIn K (.builtin "object.__class__") == some true&&mroIn K C (.type "object") == some true
theorem excAll.cls {K:Frag} {C:Addr} (h:excAll K C=true):ExcCls K C:=by
  unfold excAll at h
  simp only [Bool.and_eq_true,beq_iff_eq] at h
  obtain ⟨⟨⟨⟨⟨⟨⟨a,b⟩,c⟩,d⟩,e⟩,f⟩,g⟩,i⟩:=h
  exact ⟨a,b,c,d,e,f,g,i⟩
def setAll (K:Frag) (C:Addr) (ns:List Str):Bool:=hasDictIn K C&&(clsIn K C).any (fun cd=>onlyVE cd.mro)&&findIn K (.ref C) "__setattr__" == some (some (.builtin "object.__setattr__"))&&excShape K C mroVE "ValueError.__new__" &&
  ns.all fun n=>findIn K (.ref C) n == some none
theorem setAll.set {K:Frag} {C:Addr} {ns:List Str} (h:setAll K C ns=true):ExcSet K C:=by
  unfold setAll at h
  simp only [Bool.and_eq_true,beq_iff_eq] at h
  obtain ⟨⟨⟨⟨a,b⟩,c⟩,d⟩,e⟩:=h
  exact ⟨a,b,c⟩
theorem setAll.shape {K:Frag} {C:Addr} {ns:List Str} (h:setAll K C ns=true):excShape K C mroVE "ValueError.__new__" = true:=by
  unfold setAll at h
  simp only [Bool.and_eq_true,beq_iff_eq] at h
  exact h.1.2
theorem setAll.no {K:Frag} {C:Addr} {ns:List Str} (h:setAll K C ns=true) {n:Str} (hn:n∈ns):NoAttr K C n:=by
  unfold setAll at h
  simp only [Bool.and_eq_true,beq_iff_eq] at h
  have:=List.all_eq_true.mp h.2 n hn
  exact beq_iff_eq.mp this
def baseAll (K:Frag) (C:Addr):Bool:=readsIn K C (.type "type")&&specialIn K (.ref C) "__getattribute__" == some (some (.builtin "type.__getattribute__")) &&
  (match findCls K (.ref C) (.type "type") "__init__" with | some (.val (.builtin i))=>i == "ValueError.__init__" | _=>false)
theorem baseAll.base {K:Frag} {C:Addr} (h:baseAll K C=true):BaseCls K C:=by
  unfold baseAll at h
  simp only [Bool.and_eq_true,beq_iff_eq] at h
  obtain ⟨⟨a,b⟩,c⟩:=h
  refine ⟨a,?_,b⟩
  split at c
  · rename_i i e
    rw [e,beq_iff_eq.mp c]
  · cases c
end L2
set_option Elab.async false
set_option linter.all false
set_option maxRecDepth 100000
namespace L2
open PySem PySem.W PySem.Spec PySem.Calls PyProof.Rows Builtin Builtin.ObjectAttr
def ExcN (a C:Addr) (od:Option Addr):HO:=.ext fun h=>∃ oe vs,h.get? a=some oe∧oe.cls=.ref C∧oe.dict=od∧oe.data=.fields vs∧CzV (.ref C) vs∧vs[1]?=some Value.none
section
variable {P:Program} {w:World} {H:Hp} {h:Heap} {a C:Addr} {od:Option Addr}
theorem ExcN.ok (x:ExcAt h a (.ref C) od none):ObjOk P w H h a (ExcN a C od):=by
  obtain ⟨oe,vs,e1,e2,e3,e4,e5,e6⟩:=x
  refine ⟨⟨oe,vs,e1,e2,e3,e4,e5,e6⟩,⟨oe,e1⟩,?_⟩
  rintro g1 g2 ⟨oe,vs,e1,e2,e3,e4,e5,e6⟩ k
  exact ⟨oe,vs,k _ e1,e2,e3,e4,e5,e6⟩
theorem ExcN.exc (x:ObjOk P w H h a (ExcN a C od)):ExcAt h a (.ref C) od none:=by
  obtain ⟨⟨oe,vs,e1,e2,e3,e4,e5,e6⟩,_⟩:=x
  exact ⟨oe,vs,e1,e2,e3,e4,e5,e6⟩
end
section
variable {prog:Program} {w:World} {A:Around} {E:Value→Shared→Prop} {s:Shared} {K:Frag} {x C:Addr}
theorem base_initN {oe:Obj} {vs:Array Value} {rest:List Value} {Q:Value→Shared→Prop} (X:K.In s.heap) (sh:excShape K C mroVE "ValueError.__new__" = true) (he:s.heap.get? x=some oe) (hc:oe.cls=.ref C) (hd:oe.data=.fields vs) (hz':CzV (.ref C) vs) (hv:vs[1]?=some Value.none) (hr:rest.length≤sizeLine)
    (k:∀ h',ExcAt h' x (.ref C) oe.dict none→(∀ b o,b≠x→s.heap.get? b=some o→h'.get? b=some o)→Q .none { s with heap:=h' }) :
    wpAny (model prog w) A (call (.builtin "ValueError.__init__") (.ref x::rest)) Q E s:=by
  obtain ⟨bm,N,nm,qn,bs,hdct,sn,sub,ab,col,dd,k0,k1,k2,k3,k5,hC,TL⟩:=excShape_obj X sh
  have F:=PySem.F.excBase_ValueError
  have hz:=hz'.sz
  obtain ⟨hh,g,d,t,os⟩:=s
  refine wpAny_call (codeAny_call_builtin F.init.plain F.initEntry (wpAny_check_init_subT F TL hC he hc ?_))
  unfold Builtin.«BaseException.__init__»
  dsimp only
  refine wpAny_bind (wpAny_newTuple ?_ hr)
  dsimp only at he hC k ⊢
  have he₁:(hh.push { cls:=Value.type "tuple",data:=Data.seq rest.toArray }).get? x=some oe:=Heap.get?_push_of_some _ he
  have h0:vs[0]?=some vs[0]:=Array.getElem?_eq_getElem (by omega)
  unfold BaseException.bexcPut
  refine wpAny_bind (wpAny_bind (wpAny_field he₁ hd h0 ?_))
  refine wpAny_bind (wpAny_setField he₁ hd (by omega) ?_)
  have d3:=Obj.data_mapFields hd (·.setIfInBounds 0 (Value.ref hh.objs.size))
  have fin:Q .none { heap:=(hh.push { cls:=Value.type "tuple",data:=Data.seq rest.toArray }).update x (Obj.mapFields (·.setIfInBounds 0 (Value.ref hh.objs.size))),gens:=g,drawn:=d,toks:=t,os:=os }:=by
    refine k _ ⟨_,_,Heap.get?_update_self _ he₁ (Obj.isFreed_of_fields d3),?_,?_,d3,hz'.set (by decide),?_⟩ fun b o hb e=>?_
    · rw [Obj.cls_mapFields]; exact hc
    · obtain ⟨_,_,dt,_⟩:=oe
      cases dt <;> rfl
    · show (vs.setIfInBounds 0 _)[1]?=some Value.none
      rw [Array.getElem?_setIfInBounds_ne (by decide)]; exact hv
    · rw [Heap.get?_update_other _ _ (Ne.symm hb)]
      exact Heap.get?_push_of_some _ e
  split
  · exact wpAny_letGo (wpAny_pure fin)
  · exact wpAny_pure (wpAny_pure fin)
end
section
variable {X:Cx} {pins:List (Addr × Obj)} {σ:St} {H:Hp} {s:Shared} {a C d:Addr} {fs:List (Str × V)} {f:Str} {v:V} {A:Around} {E:Value→Shared→Prop}
theorem excN_set0 {y:V} {u:Value} {Q:Unit→Shared→Prop} (I:Inv X pins σ H s) (e:H a=some (ExcN a C none)) (c:ExcSet X.K C) (n:NoAttr X.K C f) (ry:RelV y u)
    (h:∀ d s',H d=none→d≠a→Inv X pins σ (upd (upd H a (ExcN a C (some d))) d (XdO d [(f,y)])) s'→Q () s'):wpAny (model X.prog X.w) A (setAttr (.ref a) f u) Q E s:=by
  obtain ⟨⟨oe,vs,e1,e2,e3,e4,e5,e6⟩,_⟩:=I.hok a _ e
  refine set_exc0 I.kIn c n e1 e2 e4 e3 fun h' x1 x2 x3=>h s.heap.objs.size _ I.fresh (Nat.ne_of_gt (Heap.lt_size e1)) ?_
  have nd:s.heap.objs.size≠a:=Nat.ne_of_gt (Heap.lt_size e1)
  have hn:upd H a (ExcN a C (some s.heap.objs.size)) s.heap.objs.size=none:=by rw [upd_ne nd]; exact I.fresh
  have mu:Mut (H a):=by rw [e]; exact True.intro
  have w1:HOk X.prog X.w (upd H a (ExcN a C (some s.heap.objs.size))) h':=I.hok.write mu (.inl rfl) x3 ⟨_,x1⟩ (ExcN.ok ⟨_,_,x1,e2,rfl,e4,e5,e6⟩)
  have w2:Un X.fs [] H (upd H a (ExcN a C (some s.heap.objs.size))) s.heap h':=Un.write mu (.inl rfl) x3 ⟨_,x1⟩
  refine I.un (w2.put (Heap.get?_none_of_le (Nat.le_refl _)) hn) (w1.put hn (XdO.ok x2 (fun g=>?_) fun g hg=>?_))
  · show RelO (List.lookup g [(f,y)]) _
    by_cases q:g=f
    · rw [if_pos q,q]
      simp only [List.lookup,beq_self_eq_true]
      exact ry
    · rw [if_neg q]
      have:(g == f)=false:=beq_eq_false_iff_ne.mpr q
      simp only [List.lookup,this]
      trivial
  · by_cases q:g=f
    · subst q; simp
    · exact absurd (if_neg q) hg
theorem excN_set1 {y:V} {u:Value} {Q:Unit→Shared→Prop} (I:Inv X pins σ H s) (e:H a=some (ExcN a C (some d))) (ed:H d=some (XdO d fs)) (c:ExcSet X.K C) (n:NoAttr X.K C f) (hl:fs.length<1000) (ry:RelV y u)
    (h:∀ s',Inv X pins σ (upd H d (XdO d (putF f y fs))) s'→Q () s'):wpAny (model X.prog X.w) A (setAttr (.ref a) f u) Q E s:=by
  obtain ⟨⟨oe,vs,e1,e2,e3,e4,e5,e6⟩,_⟩:=I.hok a _ e
  obtain ⟨⟨mA,nn,r,wi⟩,_⟩:=I.hok d _ ed
  refine set_exc1 I.kIn c n e1 e2 e4 e3 nn wi (by rw [List.length_map]; omega) fun h' O' sb=>h _ ?_
  have hd:∃ o,h'.get? d=some o:=let ⟨o,_,_,e',_⟩:=O'; ⟨o,e'⟩
  refine I.write (x:=d) (e:=d) (by rw [ed]; exact True.intro) (.inl rfl) (fun b q hb z=>(sb.2 b hb).trans z) hd (XdO.ok O' (fun g=>?_) fun g hg=>?_)
  · show RelO ((putF f y fs).lookup g) (if g=f then some u else mA g)
    rw [lookup_putF]
    by_cases q:g=f
    · rw [if_pos q,if_pos q]; exact ry
    · rw [if_neg q,if_neg q]; exact r g
  · by_cases q:g=f
    · rw [q]; exact (keys_putF f y fs).1
    · refine (keys_putF f y fs).2 g (wi g fun z=>hg ?_)
      show (if g=f then some u else mA g)=none
      rw [if_neg q]; exact z
theorem Inv.excMadeN {h':Heap} {args:List Value} (I:Inv X pins σ H s) (x:Heap.MadeExcOf s.heap h' a (.ref C) args):H a=none∧Inv X pins σ (upd H a (ExcN a C none)) { s with heap:=h' }:=by
  have na:H a=none:=by
    cases z:H a with
    | none=>rfl
    | some u=>obtain ⟨ob,e⟩:=(I.hok a u z).get; rw [x.new] at e; cases e
  exact ⟨na,I.un (t':=s.toks) ((Un.kept x.keeps).put x.new na) ((I.hok.kept x.keeps).put na (ExcN.ok (MadeExcOf.at x)))⟩
end
def tBaseN (K:Frag) (t:TA):TE:=fun σ H Q=>t σ H fun vs H1=>∃ a C od r,vs=.ref a::r∧vs.length≤64∧H1 a=some (ExcN a C od)∧excShape K C mroVE "ValueError.__new__" = true∧Q .non H1
def sFldN (K:Frag) (ta tv:TE) (f:Str):TS:=fun D σ H=>tv σ H fun y H1=>ta σ H1 fun x H2=>∃ a C,x=.ref a∧ExcSet K C∧NoAttr K C f ∧
  ((H2 a=some (ExcN a C none)∧∀ d,H2 d=none→d≠a→D.nx σ (upd (upd H2 a (ExcN a C (some d))) d (XdO d [(f,y)]))) ∨
    ∃ d fs,H2 a=some (ExcN a C (some d))∧H2 d=some (XdO d fs)∧fs.length<1000∧D.nx σ (upd H2 d (XdO d (putF f y fs))))
section
variable {X:Cx} {k:Nat} {f C:Addr} {fd:FuncData} {ps:List Str} {sp:Sp} {x g:Str} {p pos np apos pos':Pos} {e o value:Expr} {es:List Expr} {t:TA} {ta tv:TE}
theorem we_baseN {E0a:Addr} {pl:Sem Bool} (B:BaseCls X.K E0a) (hm:X.mg x=some (.ref E0a)) (ha:PAw X (e::es) t) (hg:Gl X x:=by rfl)
    (hdb:(x == ("__debug__" : Str))=false:=by decide) (he:starEach (e::es) X.env=(false,eval e X.env)::starEach es X.env:=by first | exact se_Name | exact se_Constant | exact se_Call | exact se_Subscript | exact se_Tuple)
    (hpl:(backTo pos (starEach es X.env)).any (·.1)=false:=by repeat (first | exact ap_nil | refine ap_cons (by first | exact se_Name | exact se_Constant | exact se_Call | exact se_Subscript | exact se_Tuple) ?_))
    (ht:eval (.Call (.Attribute (.Name x np) "__init__" apos) (e::es) [] pos) X.env=(do
      let ov ← eval (.Name x np) X.env
      standAt apos.atName
      let (f,first) ← holding [ov] (getMethod ov "__init__" pl)
      callWith pos f first (backTo pos (starEach (e::es) X.env)) (backToKw pos (keywordEach [] X.env))):=by rfl) :
    PEw X (.Call (.Attribute (.Name x np) "__init__" apos) (e::es) [] pos) (tBaseN X.K t):=⟨by
  intro pins s σ H Q I h
  refine PySem.W.methodCall_KW (pl:=pl) (ld_glob I hg hm ?_ hdb) ht
  refine method_cls I.kIn B.ga (cls_value I.kIn B.rd B.fd rfl ?_)
  have I0:Inv X pins σ H { s with toks:=s.toks+1 }:=I.tok _
  have hA:=ha.p pos pins _ σ H _ I0 h
  rw [he] at hA ⊢
  refine Calls.callWith_builtin (by show (false || (backTo pos (starEach es X.env)).any (·.1))=false; rw [hpl] <;> rfl) (Calls.evalArgs_plain (thn hA fun us s1 ⟨vs,H1,I1,r,a,C,od,rr,ev,hz,e,sh,q⟩=>?_))
  subst ev
  obtain ⟨u,ur,rfl,r1,rr⟩:=vals_cons r
  · cases (show u=Value.ref a from r1)
    obtain ⟨⟨oe,vs,e1,e2,e3,e4,e5,e6⟩,_⟩:=I1.hok a _ e
    refine base_initN I1.kIn sh e1 e2 e4 e5 e6 (by rw [← rr.length]; exact small64 (Nat.le_trans (Nat.le_succ _) hz)) fun h' x1 x6=>?_
    rw [e3] at x1
    have I2:Inv X pins σ (upd H1 a (ExcN a C od)) { s1 with heap:=h' }:=I1.write (x:=a) (e:=a) (t':=s1.toks) (by rw [e]; exact True.intro) (.inl rfl) (fun b o hb q=>x6 b o hb q) (let ⟨oe,vs,y,_⟩:=x1; ⟨oe,y⟩) (ExcN.ok x1)
    rw [upd_self e] at I2
    exact ⟨V.non,H1,I2,rfl,q⟩⟩
theorem ws_fldN (ha:PEw X o ta) (hv:PEw X value tv) (hs:swapsWith value (some (.Attribute o g pos')) pos.line X.env=pure false:=by rfl):PSw X (.Assign [.Attribute o g pos'] value pos) (sFldN X.K ta tv g):=⟨by
  intro pins s σ H D I h
  refine plainObj_wpAny_Assign_Attribute (thn (hv.p pins s σ H _ I h) fun u s1 ⟨y,H1,I1,ry,q⟩=>thn (ha.p pins s1 σ H1 _ I1 q) fun ov s2 ⟨x,H2,I2,rx,a,C,ex,c,n,q2⟩=>?_) hs
  subst ex
  obtain rfl:ov=Value.ref a:=rx
  rcases q2 with ⟨ea,q2⟩ | ⟨d,fs,ea,ed,l,q2⟩
  · exact excN_set0 I2 ea c n ry fun d s3 nd na I3=>⟨σ,_,I3,q2 d nd na⟩
  · exact excN_set1 I2 ea ed c n l ry fun s3 I3=>⟨σ,_,I3,q2⟩⟩
end
def del (H:Hp) (a:Addr):Hp:=fun b=>if b=a then none else H b
theorem del_same {H:Hp} {a:Addr}:del H a a=none:=if_pos rfl
theorem del_ne {H:Hp} {a b:Addr} (h:b≠a):del H a b=H b:=if_neg h
theorem HOk.del {P:Program} {w:World} {H:Hp} {h:Heap} {a:Addr} {F:Heap→Prop} (x:HOk P w H h) (e:H a=some (.ext F)):HOk P w (del H a) h:=fun b o q=>by
  by_cases hb:b=a
  · subst hb; rw [del_same] at q; cases q
  · rw [del_ne hb] at q
    refine (x b o q).stay (fun c u _ r=>r) (fun c r=>?_) fun c xs r=>?_
    · rw [del_ne (fun z=>by subst z; rw [e] at r; cases r)]; exact r
    · rw [del_ne (fun z=>by subst z; rw [e] at r; cases r)]; exact r
theorem Un.del {fs:List Addr} {H H1:Hp} {h h1:Heap} {a:Addr} {F:Heap→Prop} (x:Un fs [] H H1 h h1) (e:H1 a=some (.ext F)):Un fs [] H (L2.del H1 a) h h1 where
  keep:=x.keep
  slot:=x.slot
  free:=fun b ob q n m=>by
    by_cases hb:b=a
    · subst hb; exact del_same
    · rw [del_ne hb]; exact x.free b ob q n m
  there:=x.there
  tups:=fun b xs q=>by have r:=x.tups b xs q; rw [del_ne (fun z=>by subst z; rw [e] at r; cases r)]; exact r
  frzs:=fun b ob xs q=>by have r:=x.frzs b ob xs q; rw [del_ne (fun z=>by subst z; rw [e] at r; cases r)]; exact r
  tbls:=fun b ps q=>by
    obtain ⟨m,r⟩:=x.tbls b ps q
    exact ⟨m,by rw [del_ne (fun z=>by subst z; rw [e] at r; cases r)]; exact r⟩
structure XMadeG (X:Cx) (Ex:St→XK):Prop where
  p:∀ (pins:List (Addr × Obj)) (σ:St) (H1 H2:Hp) (s1 s2:Shared) (a:Addr) (cls:Value) (od:Option Addr),Inv X pins σ H1 s1→s2.os=s1.os→AllBare s2.gens→Un (frs X.stack) [] H1 H2 s1.heap s2.heap→HOk X.prog X.w H2 s2.heap →
    ExcAt s2.heap a cls od none→s1.heap.get? a=none→H2 a=none→Ex σ cls od H2→X.xe (.ref a) s2
theorem xmadeG_fn {P:Program} {w:World} {K:PySem.W.Frag} {mg:Str→Option Value} {base:Heap} {N:List Str} {qual:Str} {scope:Scope} {f:Addr} {cd:Value} {A:Around} {outer:List Env} {s:Shared} {H:Hp} {E:XK} :
    XMadeG (cxOf (CX1 P w) P w K mg base N qual scope f cd A outer s H E) (fun _=>E):=⟨fun pins σ H1 H2 s1 s2 a cls od I os bare un hok x fa na q =>
  leave_fn I os bare un hok x (.inl rfl) fa na (fun b hb=>by cases hb) (fun b hb=>by cases hb) q⟩
section
variable {M:Model} {A:Around} {E:Value→Shared→Prop} {env:Env} {K:Frag} {C:Addr}
theorem raise_made {s:Shared} {x:Sem Value} {Q:Flow→Shared→Prop} (sh:excShape K C mroVE "ValueError.__new__" = true) (hh:A.handled=none)
    (h:wpAny M A x (fun v s₁=>∃ e od,v=.ref e∧K.In s₁.heap∧ExcAt s₁.heap e (.ref C) od none∧E (.ref e) s₁) E s) :
    wpAny M A (raiseStmt env (some x) none) Q E s:=by
  unfold raiseStmt
  refine wpAny_bind (wpAny_mono h (fun v s₁ h₁=>?_) fun _ _ x=>x)
  obtain ⟨e,od,rfl,X,⟨oe,vs,he,hc,ho,hd,hz,hv⟩,hE⟩:=h₁
  obtain ⟨bm,N,nm,qn,bs,hdct,sn,sub,ab,col,dd,k0,k1,k2,k3,k5,hC,TL⟩:=excShape_obj X sh
  have hbase:bm.contains (.type "BaseException")=true:=TL.hasType PySem.F.excBase_ValueError.hasBase
  have hcB:(Value.ref C::bm).contains (.type "BaseException")=true:=by rw [List.contains_cons,hbase,Bool.or_true]
  obtain ⟨hp,g,d,tk,os⟩:=s₁
  obtain ⟨oc,odd,dt,sl⟩:=oe
  dsimp only at hc ho hd he hC hE
  subst hc hd
  repeat (first | with_reducible refine wpAny_loadPart_at he ?_ | with_reducible refine wpAny_loadPart_at hC ?_ | (with_reducible refine wpAny_isSubtype_exc hC ?_; rw [hcB]) | wp_step)
  rw [hv]
  refine wpAny_pure ?_
  rw [if_neg (by decide)]
  exact wpAny_pure (wpAny_raiseNew_none hh hE)
end
def tRaiseX (C:Addr) (sp:Sp) (Ex:St→XK) (t:TA):TS:=fun _ σ H=>t σ H fun vs H1=>vs.length≤64∧∀ a,H1 a=none →
  sp (.ref a::vs) (upd H1 a (ExcN a C none)) (fun v H2=>v=.non∧∃ od,H2 a=some (ExcN a C od)∧Ex σ (.ref C) od (del H2 a)) E0
section
variable {X:Cx} {k:Nat} {f C:Addr} {fd:FuncData} {ps:List Str} {sp:Sp} {Ex:St→XK} {x:Str} {pos np cpos:Pos} {e:Expr} {es:List Expr} {t:TA}
theorem run_makeN {pins:List (Addr × Obj)} {σ:St} {H:Hp} {s:Shared} {us:List Value} {vs:List V} (M:MkX X.K C f) (F:FnOk X.prog X.w X.K X.mg X.base CX0 k f fd ps sp) (hr:Room (k+1) X.A) (hb:Binds X.K fd ps []) (hx:XMadeG X Ex)
    (I:Inv X pins σ H s) (r:Vals vs us) (hz:vs.length≤64)
    (h:∀ a,H a=none→sp (.ref a::vs) (upd H a (ExcN a C none)) (fun v H2=>v=.non∧∃ od,H2 a=some (ExcN a C od)∧Ex σ (.ref C) od (del H2 a)) E0) :
    wpAny (model X.prog X.w) X.A (call (.ref C) us) (fun v s₁=>∃ e od,v=.ref e∧X.K.In s₁.heap∧ExcAt s₁.heap e (.ref C) od none∧X.xe (.ref e) s₁) X.xe s:=by
  refine make_exc M I.kIn (fun h' a x=>?_) (by rw [← r.length]; exact small64 hz)
  obtain ⟨na,I2⟩:=I.excMadeN x
  have hq:=h a na
  have r2:Vals (V.ref a::vs) (Value.ref a::us):=.cons rfl r
  have hl:(Value.ref a::us++[]).length=ps.length:=by
    have e:=r2.length
    rw [F.len _ _ _ _ hq] at e
    rw [List.append_nil]
    exact e.symm
  have hbt:=hb _ (Value.ref a::us) I2.kIn hl
  rw [List.append_nil] at hbt
  refine wpAny_call (codeAny_mono (F.run _ X.stack _ _ ⟨Value.ref a::us,[]⟩ (Value.ref a::us) _ _ E0 (hr.make C us []) (I2.env0.make C us []) hbt r2 hq) fun r s' hq'=>?_)
  cases r with
  | error e=>exact False.elim hq'
  | ok fl =>
    cases fl with
    | ret u =>
      have hc:=hq'
      obtain ⟨v,H',os,bare,un,hok,rv,ev,od,eN,q3⟩:=hq'
      subst ev
      obtain ⟨_,_,I3,_,_⟩:=I2.after hc
      have un1:Un (frs X.stack) [] H H' s.heap s'.heap:=((Un.kept x.keeps).put x.new na).tr un fun b hb=>.inl hb
      exact ⟨rv,a,od,rfl,I3.kIn,ExcN.exc (hok a _ eN),hx.p pins σ H (del H' a) s s' a _ od I os bare (un1.del eN) (hok.del eN) (ExcN.exc (hok a _ eN)) x.new del_same q3⟩
    | next=>exact False.elim hq'
    | brk=>exact False.elim hq'
    | cont=>exact False.elim hq'
theorem ws_raiseX (F:FnI X.prog X.w X.K X.mg X.base k C ps sp) (hm:X.mg x=some (.ref C)) (hc:X.calm=true) (hr:Room (k+1) X.A) (hx:XMadeG X Ex) (ha:PAw X (e::es) t) (hg:Gl X x:=by rfl)
    (hdb:(x == ("__debug__" : Str))=false:=by decide) (he:starEach (e::es) X.env=(false,eval e X.env)::starEach es X.env:=by first | exact se_Name | exact se_Constant | exact se_BinOp | exact se_Call | exact se_Subscript | exact se_Tuple)
    (hpl:(backTo cpos (starEach es X.env)).any (·.1)=false:=by repeat (first | exact ap_nil | refine ap_cons (by first | exact se_Name | exact se_Constant | exact se_BinOp | exact se_Call | exact se_Subscript | exact se_Tuple) ?_)) :
    PSw X (.Raise (some (.Call (.Name x np) (e::es) [] cpos)) none pos) (tRaiseX C sp Ex t):=⟨by
  obtain ⟨f,fd,h1,h2,h3⟩:=F.ex
  intro pins s σ H D I h
  rw [arm_exec_Raise]
  refine wpAny_bind (wpAny_standAt ?_)
  show wpAny _ _ (raiseStmt X.env (some (do let v ← eval (.Call (.Name x np) (e::es) [] cpos) X.env; standAt pos; pure v)) none) _ _ _
  refine raise_made h2.shape (I.ok.hd hc) (wpAny_bind (wpAny_mono (Q:=fun v s₁=>∃ e od,v=.ref e∧X.K.In s₁.heap∧ExcAt s₁.heap e (.ref C) od none∧X.xe (.ref e) s₁) ?_ (fun v s₁ h₁=>wpAny_bind (wpAny_standAt (wpAny_pure h₁))) fun _ _ x=>x))
  refine wpAny_Call_Name_kw (ld_glob I hg hm ?_ hdb)
  refine PySem.W.callWith_K (h₀:=X.base) I.ok.mod.kin h2.kp (thn (ha.p cpos pins s σ H _ I h) fun us s1 ⟨vs,H1,I1,r,hz,q⟩=>⟨I1.kIn,?_⟩) he hpl
  exact run_makeN h2 h1 hr h3 hx I1 r hz q⟩
end
end L2
set_option Elab.async false
set_option linter.all false
set_option maxRecDepth 100000
namespace HT
open PySem PySem.Spec PyProof.Rows PySem.Builtin
section
variable {prog:Program} {w:World} {A:Around} {E:Value→Shared→Prop} {s:Shared}
end
end HT
set_option Elab.async false
set_option linter.all false
set_option maxRecDepth 100000
namespace HT
open PySem PySem.Spec PyProof.Rows PySem.Builtin
section
variable {prog:Program} {w:World} {A:Around} {E:Value→Shared→Prop} {s:Shared} {K:Type} [DecidableEq K] {knd:HeapKind prog w K}
end
end HT
set_option Elab.async false
set_option linter.all false
set_option maxRecDepth 100000
namespace L2
open PySem PySem.Spec PySem.W PyProof.Rows HT
section
variable {X:Cx} {pins:List (Addr × Obj)} {σ:St} {H:Hp}
end
end L2
set_option Elab.async false
set_option linter.all false
set_option maxRecDepth 100000
namespace HT
open PySem PySem.Spec PyProof.Rows
section
variable {prog:Program} {w:World} {A:Around} {E:Value→Shared→Prop} {s:Shared} {it d:Addr} {es:Array DictEntry} {ep i:Nat} {od:Obj}
end
end HT
set_option Elab.async false
set_option linter.all false
set_option maxRecDepth 100000
namespace L2
open PySem PySem.Spec PySem.W PyProof.Rows HT
section
variable {X:Cx} {pins:List (Addr × Obj)} {σ:St} {H:Hp} {s:Shared}
end
section
variable {X:Cx} {tg:Expr}
end
end L2
set_option Elab.async false
set_option linter.all false
set_option maxRecDepth 100000
namespace HT
open PySem PySem.Spec PyProof.Rows PySem.W
section
variable {prog:Program} {w:World} {A:Around} {d:Addr} {o:Obj} {es:Array DictEntry} {ep:Nat}
end
end HT
namespace L2
open PySem PySem.Spec PySem.W PyProof.Rows HT
end L2
set_option Elab.async false
set_option linter.all false
set_option maxRecDepth 100000
namespace L2
open PySem PySem.Spec PySem.W PyProof.Rows HT
section
variable {prog:Program} {w:World} {A:Around} {E:Value→Shared→Prop} {s:Shared}
end
end L2
set_option Elab.async false
set_option linter.all false
set_option maxRecDepth 100000
namespace HT
open PySem PySem.Spec PyProof.Rows PySem.W
section
variable {prog:Program} {w:World} {A:Around} {E:Value→Shared→Prop} {s:Shared} {it d:Addr} {es:Array DictEntry} {ep i:Nat} {od:Obj}
end
end HT
set_option Elab.async false
set_option linter.all false
set_option maxRecDepth 100000
namespace L2
open PySem PySem.Spec PySem.W PyProof.Rows HT
section
variable {X:Cx} {tg:Expr}
end
section
variable {X:Cx} {o e:Expr} {apos cpos:Pos} {td ty:TE}
end
end L2
namespace L2
open PySem PySem.Spec PySem.W PyProof.Rows HT
end L2
namespace L2
open PySem
theorem cl_tupK {X:Cx} (K:PySem.W.Frag) (hK:X.K=K:=by rfl):CallR X (.type "tuple") (fun xs H Q=>∃ p ys,xs=[.ref p]∧((SqL K H p ys∧∀ l,H l=none→Q (.ref l) (upd H l (.tup ys)))∨(SqT K H p ys∧Q (.ref p) H))):=by
  subst hK; exact call_tuple_of
end L2
set_option Elab.async false
set_option linter.all false
set_option maxRecDepth 100000
namespace L2
open PySem
section
variable {js:List Nat} {te:TE} {tc:TT} {σ:St} {H:Hp} {Q:VK}
end
end L2
set_option Elab.async false
set_option linter.all false
set_option maxRecDepth 100000
namespace L2
open PySem PySem.Spec PyProof.Rows
section
variable {X:Cx} {pins:List (Addr × Obj)} {σ:St} {H:Hp} {s:Shared} {scope:Scope} {x x2:Str} {N':List Str} {js:List Nat} {fp:List Addr}
end
section
variable {X:Cx} {pins:List (Addr × Obj)} {σ:St} {H:Hp} {s:Shared} {scope:Scope} {x:Str} {N':List Str} {js:List Nat} {fp:List Addr} {elt iter:Expr} {px pos:Pos} {tg:Expr} {x2:Str} {te:TE}
end
section
variable {X:Cx} {scope:Scope} {x x2 y:Str} {N':List Str} {js:List Nat} {elt iter tg:Expr} {py pos spos:Pos} {te:TE} {wi:TI} {i:Nat}
end
end L2
set_option Elab.async false
set_option linter.all false
set_option maxRecDepth 100000
namespace HT
open PySem PySem.Spec PyProof.Rows
section
variable {prog:Program} {w:World} {A:Around} {E:Value→Shared→Prop} {s:Shared} {d:Addr} {o:Obj} {es:Array DictEntry} {ep:Nat}
end
end HT
namespace L2
open PySem PySem.Spec PySem.W PyProof.Rows HT
section
variable {X:Cx} {o e f k v:Expr} {apos cpos pos:Pos} {td ty tx tk tv:TE}
end
end L2
set_option Elab.async false
set_option linter.all false
set_option maxRecDepth 100000
namespace L2
open PySem PySem.Spec PySem.W PyProof.Rows HT
@[irreducible] def rIsW (K:PySem.W.Frag):List V→Hp→VK→Prop:=fun xs H Q=>∃ a C od tp cs b,xs=[.ref a,.ref tp]∧H a=some (ExcO a C od)∧XHas H od∧ExcCls K C∧H tp=some (.tup cs)∧(∀ us,Vals cs us→kitAny K (.ref C) us=some b)∧Q (.bl b) H
theorem rwI {K:PySem.W.Frag} {H:Hp} {Q:VK} {a C tp:Addr} {od:Option Addr} {cs:List V} {b:Bool} (ha:H a=some (ExcO a C od)) (hx:XHas H od) (ec:ExcCls K C) (ht:H tp=some (.tup cs)) (e:∀ us,Vals cs us→kitAny K (.ref C) us=some b) (q:Q (.bl b) H):rIsW K [.ref a,.ref tp] H Q:=by
  unfold rIsW; exact ⟨a,C,od,tp,cs,b,rfl,ha,hx,ec,ht,e,q⟩
theorem cl_isiW {X:Cx} (K:PySem.W.Frag) (hK:X.K=K:=by rfl):CallR X (.builtin "isinstance") (rIsW K):=by
  subst hK
  unfold rIsW
  intro pins s σ H xs us Q I r h
  obtain ⟨a,C,od,tp,cs,b,rfl,ha,hx,ec,ht,e,q⟩:=h
  obtain ⟨u,w',rfl,r1,r2⟩:=vals2 r
  cases (show u=Value.ref a from r1)
  cases (show w'=Value.ref tp from r2)
  have hi:=exc_get I ha hx
  obtain ⟨_,its,rt,o,e1,e2,n,e3⟩:=(show ObjOk X.prog X.w H s.heap tp (.tup cs) from I.hok tp _ ht)
  obtain ⟨oc,odd,odt,osl⟩:=o
  cases e2
  cases e3
  exact kia_tup (kitx_exc ec) I.kIn hi e1 (e its rt) (fun z=>nomatch z) fun tk=>⟨.bl b,H,I.tok _,rfl,q⟩
theorem cl_isiYK {X:Cx} (K:PySem.W.Frag) (hK:X.K=K:=by rfl):CallR X (.builtin "isinstance") (rIsY K):=by subst hK; exact cl_isiY
end L2
set_option Elab.async false
set_option linter.all false
set_option maxRecDepth 100000
namespace L2
open PySem PySem.Spec PySem.W PyProof.Rows HT
section
variable {K:PySem.W.Frag} {H:Hp} {x:V} {d:PyData} {Q:VK}
end
section
variable {σ:St} {js:List Nat} {te:TE} {H:Hp} {Q:VK}
end
end L2
set_option Elab.async false
set_option linter.all false
set_option maxRecDepth 100000
namespace L2
open PySem PySem.Spec PyProof.Rows
section
variable {M:Model} {A:Around} {E:Value→Shared→Prop} {s:Shared} {env:Env} {outer:List Env} {base:Heap} {L a:Addr} {cls:Value} {od:Option Addr}
theorem note_any {T:Addr} {fl:Value} {Q:Unit→Shared→Prop} (hfr:A.frames=some (env::outer)) (hl:s.heap.FunFrames base (env::outer)) (hf:env.frame=some L)
    (x:ExcAt s.heap a cls od (some (T,fl)))
    (k:∀ h' T',ExcAt h' a cls od (some (T',rawInt L))→(T'=T∨s.heap.get? T'=none)→Kp ((env::outer).filterMap (·.frame)) [a,T] s.heap h'→Q () { s with heap:=h' }) :
    wpAny M A (noteFrame (.ref a) env) Q E s:=by
  have x0:=x
  obtain ⟨oe,vs,he,hc,ho,hd,hz,x1,nT,oT,ts,hT,dT,zT,x3⟩:=x
  unfold noteFrame
  simp only [hf]
  refine wpAny_bind (wpAny_field he hd x1 ?_)
  rw [if_pos (by simp)]
  refine wpAny_bind (wpAny_field hT dT x3 ?_)
  by_cases hfl:fl=rawInt L
  · subst hfl
    rw [if_pos (by simp)]
    exact wpAny_pure (k s.heap T x0 (.inl rfl) ⟨fun b o e _ _=>e,fun b o e _ _=>⟨o.slots,e⟩⟩)
  rw [if_neg (by simpa using hfl)]
  refine wpAny_bind (wpAny_setField hT dT zT ?_)
  have other:∀ b,b≠T→(s.heap.update T (Obj.mapFields (·.setIfInBounds 3 Value.none))).get? b=s.heap.get? b:=fun b hb=>Heap.get?_update_other _ _ (Ne.symm hb)
  have nrec:∀ b o,s.heap.get? b=some o→(∀ ws,o.data ≠ .fields ws)→b≠T:=fun b o e nf z=>by
    subst z; rw [hT] at e; cases e; exact nf ts dT
  refine entry_ok (hfr:=hfr) (hl:=hl.of_keeps fun b o e nf=>⟨o,(other b (nrec b o e nf)).trans e,rfl⟩) hf ((other a (Ne.symm nT)).trans he) hc ho hd hz fun h' T' y1 y2 y3=>k h' T' y1 (.inr ?_) ?_
  · by_cases z:T'=T
    · subst z
      have:=Heap.get?_update_self (Obj.mapFields (·.setIfInBounds 3 Value.none)) hT (Obj.isFreed_of_fields (Obj.data_mapFields dT _))
      rw [this] at y2; cases y2
    · rw [← other T' z]; exact y2
  · refine ⟨fun b o e n1 n2=>y3.keep b o ((other b fun z=>n2 (by rw [z]; simp)).trans e) n1 fun z=>n2 (List.mem_cons.mpr (.inl (List.mem_singleton.mp z))),fun b o e n1 n2=>y3.slot b o ((other b fun z=>n2 (by rw [z]; simp)).trans e) n1 fun z=>n2 (List.mem_cons.mpr (.inl (List.mem_singleton.mp z)))⟩
theorem mark_ok {T:Addr} {fl:Value} {fr:Option Addr} {Q:Unit→Shared→Prop} (x:ExcAt s.heap a cls od (some (T,fl)))
    (k:∀ h' fl',ExcAt h' a cls od (some (T,fl'))→(∀ b o,b≠T→s.heap.get? b=some o→h'.get? b=some o)→Q () { s with heap:=h' }):wpAny M A (setFlight (.ref a) fr) Q E s:=by
  obtain ⟨oe,vs,he,hc,ho,hd,hz,x1,nT,oT,ts,hT,dT,zT,x3⟩:=x
  unfold setFlight
  refine wpAny_bind (wpAny_field he hd x1 ?_)
  rw [if_pos (by simp)]
  refine wpAny_setField hT dT zT (k _ (fr.elim .none fun f=>rawInt f) ?_ fun b o hb e=>?_)
  · have d2:=Obj.data_mapFields dT (·.setIfInBounds 3 (fr.elim Value.none fun f=>rawInt f))
    exact ⟨oe,vs,by rw [Heap.get?_update_other _ _ nT]; exact he,hc,ho,hd,hz,x1,nT,_,_,Heap.get?_update_self _ hT (Obj.isFreed_of_fields d2),d2,by simpa using zT,by simp [zT]⟩
  · rw [Heap.get?_update_other _ _ (Ne.symm hb)]; exact e
end
def CXa (P:Program) (w:World):CXT:=fun outer H s E e s'=>∃ (a T:Addr) (cls:Value) (od:Option Addr) (H':Hp) (fl:Value),e=.ref a∧s'.os=s.os∧AllBare s'.gens∧Un (frs outer) [] H H' s.heap s'.heap∧HOk P w H' s'.heap ∧
  s.heap.get? a=none∧s.heap.get? T=none∧H' a=none∧H' T=none∧ExcAt s'.heap a cls od (some (T,fl))∧E cls od H'
structure XPassA (X:Cx) (Ex:St→XK):Prop where
  p:∀ (pins:List (Addr × Obj)) (σ:St) (H:Hp) (s:Shared) (e:Value) (s':Shared),Inv X pins σ H s→CXa X.prog X.w X.stack H s (Ex σ) e s'→X.xe e s'
  st:X.stack=X.env::X.outer
  fm:X.env.frame=some X.env.locals
section
variable {X:Cx} {x:Str} {np hpos pos:Pos} {b₀:Stmt} {body suite:List Stmt} {C2:Addr} {tb:(St→XK)→TS} {th:TS}
theorem ws_tryA (hst:X.stack=X.env::X.outer) (hfm:X.env.frame=some X.env.locals) (hg:Gl X x) (hm:X.mg x=some (.ref C2)) (c2:Catch X.K C2)
    (hb:∀ pins xe Ex,XPassA (X.tryW pins xe) Ex→PSsw (X.tryW pins xe) body (tb Ex)) (hs:∀ a,PSsw (X.suite a) (b₀::suite) th) (hd:(x == ("__debug__" : Str))=false:=by decide) :
    PSw X (.Try body [.ExceptHandler (some (.Name x np)) none (b₀::suite) hpos] [] [] pos) (tTryB X.K C2 tb th):=⟨by
  intro pins s σ H D I h
  obtain ⟨Ex,h1,h2⟩:=h
  refine wpAny_Try_except ?_
  generalize hxe:(fun (e:Value) (s₁:Shared)=>wpAny (model X.prog X.w) X.A (noteFrame e X.env) (fun _ s₂=>wpAny (model X.prog X.w) X.A (setFlight e none) (fun _ s₃ =>
    wpAny (model X.prog X.w) X.A (handleBy e X.env [.ExceptHandler (some (.Name x np)) none (b₀::suite) hpos]) (SP X pins D) X.xe s₃) X.xe s₂) X.xe s₁)=xe
  have hx:XPassA (X.tryW pins xe) Ex:=⟨fun pins' σ' H1 s1 e s2 I' hc=>by
    obtain ⟨a,T,cls,od,H2,fl,rfl,os,bare,un,hok,fa,fT,na,nT,x0,q⟩:=hc
    obtain ⟨C,rfl,hsub,k⟩:=h2 σ' cls od H2 q
    have I1:Inv X pins σ' H1 s1:=I'.untry
    have un:Un (frs X.stack) [] H1 H2 s1.heap s2.heap:=un
    have hff:s2.heap.FunFrames X.base (X.env::X.outer):=by
      rw [← hst]
      exact funFrames_kp (fun b hb o e=>un.any e (I1.stkFree b hb) (by simp)) I1.stack
    show xe (.ref a) s2
    rw [← hxe]
    refine note_any (by rw [← hst]; exact I1.ok.frames) hff hfm x0 fun h3 T3 y1 y2 y3=>?_
    have nT3:∀ b o,s2.heap.get? b=some o→b ∉ [a,T]→b≠T3:=fun b o e n2 q=>by
      subst q
      rcases y2 with rfl | y2
      · exact n2 (by simp)
      · rw [y2] at e; cases e
    refine land_ok y1 fun h4 z1 z2=>?_
    have k4:Kp (frs X.stack) [a,T] s2.heap h4:=by
      rw [hst]
      refine ⟨fun b o e n1 n2=>z2 b o (nT3 b o e n2) (y3.keep b o e n1 n2),fun b o e n1 n2=>?_⟩
      obtain ⟨sl,e1⟩:=y3.slot b o e n1 n2
      exact ⟨sl,z2 b _ (nT3 b o e n2) e1⟩
    have I4:=I1.landed (h':=h4) os bare un hok fa fT na nT k4 z1
    refine wpAny_handleBy_cons (codeAny_handlers_test ?_) (by intro q; cases q)
    refine Calls.Name_function_global I4.ok.kind hg (Calls.loadGlobal_global (by rw [I4.ok.glob]; exact I4.mod.glob.keeps I4.bk) hm ?_) hd
    have LT:PySem.W.Looks (model X.prog X.w) h4 (typeOf (.ref a)) (.ref C):=by
      obtain ⟨oe,vs,e1,e2,_⟩:=z1
      exact e2 ▸ (PySem.W.Looks.ld e1).andThen .now
    refine exc_hits' I4.kIn LT c2 hsub ?_
    refine codeAny_handlers_suite ?_
    refine land_ok z1 fun h5 w1 w2=>?_
    have k5:Kp (frs X.stack) [a,T] s2.heap h5:=by
      refine ⟨fun b o e n1 n2=>w2 b o (nT3 b o e n2) (k4.keep b o e n1 n2),fun b o e n1 n2=>?_⟩
      obtain ⟨sl,e1⟩:=k4.slot b o e n1 n2
      exact ⟨sl,w2 b _ (nT3 b o e n2) e1⟩
    have I5:=(I1.landed (h':=h5) os bare un hok fa fT na nT k5 w1).suite a
    refine wpAny_mono ((hs a).p pins _ _ _ D I5 (k a na)) (fun f s7 q7=>?_) fun _ _ z=>False.elim z
    cases f with
    | next=>obtain ⟨σ8,H8,J,q⟩:=q7; exact ⟨σ8,H8,J.unsuite I1.ok,q⟩
    | brk=>obtain ⟨σ8,H8,J,q⟩:=q7; exact ⟨σ8,H8,J.unsuite I1.ok,q⟩
    | cont=>obtain ⟨σ8,H8,J,q⟩:=q7; exact ⟨σ8,H8,J.unsuite I1.ok,q⟩
    | ret u=>obtain ⟨v,σ8,H8,J,r,q⟩:=q7; exact ⟨v,σ8,H8,J.unsuite I1.ok,r,q⟩,hst,hfm⟩
  refine wpAny_mono ((hb pins xe Ex hx).p [] s σ H D (I.tryW xe) h1) (fun f s' q=>?_) fun e s' q=>q
  cases f with
  | next=>obtain ⟨σ',H',J,q⟩:=q; exact wpAny_execs_nil ⟨σ',H',J.untry,q⟩
  | brk=>obtain ⟨σ',H',J,q⟩:=q; exact ⟨σ',H',J.untry,q⟩
  | cont=>obtain ⟨σ',H',J,q⟩:=q; exact ⟨σ',H',J.untry,q⟩
  | ret u=>obtain ⟨v,σ',H',J,r,q⟩:=q; exact ⟨v,σ',H',J.untry,r,q⟩⟩
end
def Cx.wxe (X:Cx) (xe:Value→Shared→Prop):Cx:={ X with xe:=xe }
theorem Inv.wxe {X:Cx} {pins:List (Addr × Obj)} {σ:St} {H:Hp} {s:Shared} (I:Inv X pins σ H s) (xe:Value→Shared→Prop):Inv (X.wxe xe) pins σ H s :=
  ⟨⟨I.ok.mod,I.ok.kind,I.ok.glob,I.ok.blt,I.ok.above,I.ok.inj,I.ok.has,I.ok.cab,I.ok.hd,I.ok.frames,I.ok.stk,I.ok.exf,I.ok.bs,I.ok.bsz,I.ok.noex,I.ok.exfs,I.ok.funs,I.ok.frf⟩,I.os,I.bare,I.base,I.loc,I.cell,I.free,I.freeC,I.pin,I.hok,I.len⟩
theorem Inv.unwxe {X:Cx} {pins:List (Addr × Obj)} {σ:St} {H:Hp} {s:Shared} {xe:Value→Shared→Prop} (I:Inv (X.wxe xe) pins σ H s):Inv X pins σ H s:=I.wxe X.xe
theorem compLoop_genX {prog:Program} {w:World} {A:Around} {R:Result→Shared→Prop} {s:Shared} {elt target iter:Expr} {ifs:List Expr} {scope:Scope} {pos:Pos} {it acc:Value} {env:Env} {Xx:Value→Shared→Prop} (I:Nat→Shared→Prop)
    (hX:∀ e s',Xx e s'→wpAny (model prog w) A (noteFrame e env) (fun _ s''=>R (.error e) s'') (fun e s''=>R (.error e) s'') s')
    (turn:∀ n s,I n s→wpAny (model prog w) A (pyNext it) (fun r s₁=>match r with
      | none=>R (.ok .next) s₁
      | some v=>wpAny (model prog w) A (letOwnedTupleGo target it v) (fun _ s₁'=>wpAny (model prog w) A (assign target env v) (fun _ s₂ =>
          wpAny (model prog w) A (forIn ifs true fun c r=>if r=true then do let ok ← isTrue c env (eval c env); pure (ForInStep.yield ok) else pure (ForInStep.yield r)) (fun ok s₃ =>
            if ok=true then wpAny (model prog w) A (eval elt env) (fun x s₄=>wpAny (model prog w) A (call (.builtin "list.append") [acc,x]) (fun _ s₅=>∃ m,m<n∧I m s₅) NoX s₄) Xx s₃
            else ∃ m,m<n∧I m s₃) NoX s₂) NoX s₁') NoX s₁) NoX s)
    (n:Nat) (h:I n s):codeAny (model prog w) A (.compLoop (.ListComp elt [⟨target,iter,ifs,0⟩] scope pos) 0 it acc env) R s:=by
  refine codeAny_loop rfl I (fun n s hI=>?_) n h
  show wpAny _ A ((compTurn (.ListComp elt [⟨target,iter,ifs,0⟩] scope pos) 0 it acc env).onRaise (fun x=>do noteFrame x env; theTreesLotGoes x)) _ _ s
  refine wpAny_noted ?_
  rw [compTurn_list]
  refine wpAny_bind (wpAny_standAt (wpAny_bind (wpAny_mono (turn n s hI) (fun r s₁ h₁=>?_) fun _ _ h'=>h'.elim)))
  cases r with
  | none=>exact wpAny_pure h₁
  | some v =>
    refine wpAny_bind (wpAny_mono h₁ (fun _ s₁' h₁'=>?_) fun _ _ h'=>h'.elim)
    refine wpAny_bind (wpAny_mono h₁' (fun _ s₂ h₂=>wpAny_bind (wpAny_mono h₂ (fun ok s₃ h₃=>?_) fun _ _ h'=>h'.elim)) fun _ _ h'=>h'.elim)
    cases ok with
    | false=>exact wpAny_pure ⟨rfl,h₃⟩
    | true =>
      exact wpAny_bind (wpAny_bind (wpAny_mono h₃ (fun x s₄ h₄=>wpAny_bind (wpAny_mono h₄ (fun _ s₅ h₅=>wpAny_pure (wpAny_pure ⟨rfl,h₅⟩)) fun _ _ h'=>h'.elim)) fun e s' h'=>hX e s' h'))
section
variable {X:Cx} {pins:List (Addr × Obj)} {σ:St} {H:Hp} {s:Shared} {scope:Scope} {x:Str} {N':List Str} {js:List Nat} {fp:List Addr} {elt iter:Expr} {px pos:Pos} {ifs:List Expr} {tc:TT} {te:TE} {EX:XK}
theorem comp_blockX {J:It} {it:Addr} {tn:Nat→Heap→Prop} {RR:Value→Addr→Result→Shared→Prop} {E:Value→Shared→Prop} {Q:VK}
    (S:CScope X scope x N' js) (I:Inv X pins σ H s) (T:Turn X.prog X.w X.K (.Name x px) J fp it tn) (h0:tn 0 s.heap) (hf:∀ b∈fp,FpOk X pins H b)
    (ht:∀ C fp s₀ H₀,PTs (cxC X scope C fp s₀ H₀ N') ifs tc) (he:∀ C fp s₀ H₀ xe,XPass ((cxC X scope C fp s₀ H₀ N').wxe xe) (fun _=>EX)→PE ((cxC X scope C fp s₀ H₀ N').wxe xe) elt te)
    (R:∀ D,H D=none→∃ W:Nat→Nat→List V→Hp→Prop,(∃ m,W 0 m [] (upd H D (.lst []))) ∧
      ∀ i m ys H2,W i m ys H2→H2 D=some (.lst ys)∧((J.stop i H2∧Q (.ref D) H2)∨(J.go i H2∧ys.length<sizeLine∧∀ x H3,J.yld i H2 x H3 →
        tc (some x::slots σ js) H3 fun b H4=>if b=true then te (some x::slots σ js) H4 fun y H5=>H5 D=some (.lst ys)∧∃ m',m' < m∧W (i+1) m' (ys++[y]) (upd H5 D (.lst (ys++[y])))
          else H4 D=some (.lst ys)∧∃ m',m' < m∧W (i+1) m' ys H4)))
    (hRR:∀ (D:Addr) (H3:Hp) (s3:Shared) (σ':St) (H':Hp) (s':Shared),Inv X pins σ H3 s3→(∀ b∈fp,FpOk X pins H3 b)→Inv (cxC X scope s3.heap.objs.size fp s3 H3 N') [] σ' H' s'→Q (.ref D) H'→RR (.ref D) s3.heap.objs.size (.ok .next) s')
    (hRX:∀ (D:Addr) (H3:Hp) (s3:Shared) (σ':St) (H':Hp) (s':Shared),Inv X pins σ H3 s3→(∀ b∈fp,FpOk X pins H3 b)→Inv (cxC X scope s3.heap.objs.size fp s3 H3 N') [] σ' H' s'→∀ e s2,CX1 X.prog X.w X.stack H' s' EX e s2 →
      wpAny (model X.prog X.w) X.A (noteFrame e X.env) (fun _ s''=>RR (.ref D) s3.heap.objs.size (.error e) s'') (fun e s''=>RR (.ref D) s3.heap.objs.size (.error e) s'') s2) :
    wpAny (model X.prog X.w) X.A (newList []) (fun acc s₃=>wpAny (model X.prog X.w) X.A (newFunctionEnv scope X.env.globals (clOf X scope) [] X.env.qual none .none (some X.env)) (fun cenv s₄ =>
      codeAny (model X.prog X.w) X.A (.compStart (.ListComp elt [⟨.Name x px,iter,ifs,0⟩] scope pos) 0 (.ref it) acc { cenv with scope:=relabel scope X.env }) (RR acc cenv.locals) s₄) E s₃) E s:=by
  have hb:∀ b∈fp,b<s.heap.objs.size:=fun b hb=>by
    obtain ⟨o,e,_⟩:=T.obj 0 _ h0 b hb
    exact Heap.lt_size e
  refine wpAny_newObj_type (wpAny_newFunctionEnv S.cell (by intro y hy; simp at hy) (fun h₁ hns₁ hsb₁=>?_) S.kind)
  have hDn:H s.heap.objs.size=none:=I.hok.fresh (Nat.le_refl _)
  obtain ⟨W,⟨m0,hw0⟩,hW⟩:=R _ hDn
  have I3:Inv X pins σ (upd H s.heap.objs.size (.lst [])) { s with heap:=s.heap.push { cls:=.type "list",dict:=none,data:=.seq ([]:List Value).toArray } }:=I.lnew (its:=[]) (ys:=[]) (t':=s.toks) .nil (Nat.zero_le _)
  have hf3:∀ b∈fp,FpOk X pins (upd H s.heap.objs.size (.lst [])) b:=fun b hb' =>
    ⟨by rw [upd_ne (fun e=>by have:=hb b hb'; rw [e] at this; exact Nat.lt_irrefl _ this)]; exact (hf b hb').1,(hf b hb').2⟩
  have hb3:∀ b∈fp,b<(s.heap.push { cls:=.type "list",dict:=none,data:=.seq ([]:List Value).toArray }).objs.size:=fun b hb'=>by
    rw [Heap.size_push]; exact Nat.lt_succ_of_lt (hb b hb')
  have hkeep:∀ b o,(s.heap.push { cls:=.type "list",dict:=none,data:=.seq ([]:List Value).toArray }).get? b=some o→h₁.get? b=some o:=fun b o e =>
    hsb₁.extBut b o (fun q=>by have:=Heap.lt_size e; rw [q] at this; exact Nat.lt_irrefl _ this) (Heap.get?_push_of_some _ e)
  have J4:=cxC_inv (h':=h₁) (tk:=s.toks+([]:List (Str × Value)).length) S I3 hf3 hb3 hns₁ hkeep
  have t4:tn 0 h₁:=T.keep 0 _ _ h0 fun b hb' o e=>hkeep b o (Heap.get?_push_of_some _ e)
  have loop:codeAny (model X.prog X.w) X.A (.compLoop (.ListComp elt [⟨.Name x px,iter,ifs,0⟩] scope pos) 0 (.ref it) (.ref s.heap.objs.size) (compEnvC scope (clOf X scope) (s.heap.push { cls:=.type "list",dict:=none,data:=.seq ([]:List Value).toArray }).objs.size X.env))
      (RR (.ref s.heap.objs.size) (s.heap.push { cls:=.type "list",dict:=none,data:=.seq ([]:List Value).toArray }).objs.size) { s with heap:=h₁,toks:=s.toks+([]:List (Str × Value)).length }:=by
    generalize hXx:(fun (e:Value) (s2:Shared)=>wpAny (model X.prog X.w) X.A (noteFrame e X.env) (fun _ s''=>RR (.ref s.heap.objs.size) (s.heap.push { cls:=.type "list",dict:=none,data:=.seq ([]:List Value).toArray }).objs.size (.error e) s'') (fun e s''=>RR (.ref s.heap.objs.size) (s.heap.push { cls:=.type "list",dict:=none,data:=.seq ([]:List Value).toArray }).objs.size (.error e) s'') s2)=Xx
    have hPass:XPass ((cxC X scope (s.heap.push { cls:=.type "list",dict:=none,data:=.seq ([]:List Value).toArray }).objs.size fp { s with heap:=s.heap.push { cls:=.type "list",dict:=none,data:=.seq ([]:List Value).toArray } } (upd H s.heap.objs.size (.lst [])) N').wxe Xx) (fun _=>EX):=⟨fun pins' σ' H1 s1 e s2 J hc=>by
      show Xx e s2
      rw [← hXx]
      have J':Inv (cxC X scope (s.heap.push { cls:=.type "list",dict:=none,data:=.seq ([]:List Value).toArray }).objs.size fp { s with heap:=s.heap.push { cls:=.type "list",dict:=none,data:=.seq ([]:List Value).toArray } } (upd H s.heap.objs.size (.lst [])) N') ([]++pins') σ' H1 s1:=J.unwxe
      exact hRX _ _ _ σ' H1 s1 I3 hf3 J'.unpinned e s2 hc⟩
    refine compLoop_genX (Xx:=Xx) (fun n s'=>∃ (i:Nat) (ys:List V) (H2:Hp) (o:Option V),Inv (cxC X scope _ fp _ _ N') [] (o::slots σ js) H2 s'∧tn i s'.heap∧(∀ b∈fp,H2 b=none)∧W i n ys H2) (fun e s' h'=>by rw [← hXx] at h'; exact h') ?_ m0 ⟨0,[],_,none,J4,t4,fun b hb'=>(hf3 b hb').1,hw0⟩
    rintro n s' ⟨i,ys,H2,o,J2,t2,f2,w2⟩
    obtain ⟨hD,hcase⟩:=hW i n ys H2 w2
    have Fp:∀ b∈fp,FpOk (cxC X scope (s.heap.push { cls:=.type "list",dict:=none,data:=.seq ([]:List Value).toArray }).objs.size fp { s with heap:=s.heap.push { cls:=.type "list",dict:=none,data:=.seq ([]:List Value).toArray } } (upd H s.heap.objs.size (.lst [])) N') [] H2 b:=fun b hb' =>
      ⟨f2 b hb',(J2.ok.exf b hb').1,J2.ok.exfs b hb',.inl hb',(J2.ok.exf b hb').2,fun p hp=>by cases hp⟩
    rcases hcase with ⟨hstop,hq⟩ | ⟨hgo,hz,hturn⟩
    · refine wpAny_mono (T.done (cxC X scope _ fp _ _ N') rfl rfl rfl rfl i [] s' _ H2 NoX J2 Fp t2 hstop) (fun r s1 ⟨hr,J5⟩=>?_) fun _ _ f=>f
      subst hr
      exact hRR _ _ _ _ _ _ I3 hf3 J5 hq
    · refine wpAny_mono (T.item (cxC X scope _ fp _ _ N') rfl rfl rfl rfl i [] s' _ H2 NoX J2 Fp t2 hgo) (fun r s1 ⟨u,hr,hx⟩=>?_) fun _ _ f=>f
      subst hr
      refine wpAny_mono hx (fun _ s2 ⟨v,H3,J3,rv,hy,t3,f3⟩=>?_) fun _ _ f=>f
      have Fp3:∀ b∈fp,FpOk (cxC X scope (s.heap.push { cls:=.type "list",dict:=none,data:=.seq ([]:List Value).toArray }).objs.size fp { s with heap:=s.heap.push { cls:=.type "list",dict:=none,data:=.seq ([]:List Value).toArray } } (upd H s.heap.objs.size (.lst [])) N') [] H3 b:=fun b hb' =>
        ⟨f3 b hb',(J3.ok.exf b hb').1,J3.ok.exfs b hb',.inl hb',(J3.ok.exf b hb').2,fun p hp=>by cases hp⟩
      have P3:=J3.pinned Fp3 (T.obj (i+1) _ t3)
      have keepT:∀ {σ':St} {Hx:Hp} {sx:Shared},Inv (cxC X scope (s.heap.push { cls:=.type "list",dict:=none,data:=.seq ([]:List Value).toArray }).objs.size fp { s with heap:=s.heap.push { cls:=.type "list",dict:=none,data:=.seq ([]:List Value).toArray } } (upd H s.heap.objs.size (.lst [])) N') ([]++pinsAt fp s2.heap) σ' Hx sx→tn (i+1) sx.heap∧∀ b∈fp,Hx b=none:=fun Jx =>
        ⟨T.keep (i+1) _ _ t3 fun b hb' ob e=>(Jx.pin (b,ob) (List.mem_append_right _ (List.mem_append_right _ (mem_pinsAt hb' e)))).1,fun b hb'=>by
          obtain ⟨ob,e,_⟩:=T.obj (i+1) _ t3 b hb'
          exact (Jx.pin (b,ob) (List.mem_append_right _ (List.mem_append_right _ (mem_pinsAt hb' e)))).2.1⟩
      refine wpAny_assign_Name (store_ok P3 (i:=0) (x:=x) (v:=v) ?nd ?hi ?hx rv (fun s5 J5=>?_) ?hfn)
      case nd=>exact S.nd
      case hi=>exact S.zero
      case hx=>exact .inl (lookup_relabel_local S.own)
      case hfn=>exact .inr (lookup_relabel_local S.own)
      have J5':Inv _ _ (some v::slots σ js) H3 s5:=J5
      refine wpAny_mono (ht _ _ _ _ _ _ _ _ _ J5' (hturn v H3 hy)) (fun ok s6 ⟨H6,J6,q6⟩=>?_) fun _ _ f=>f
      dsimp only at q6
      by_cases hok:ok=true
      · rw [if_pos hok] at q6 ⊢
        refine wpAny_mono (he _ _ _ _ Xx hPass _ _ _ _ _ (J6.wxe Xx) q6) (fun y s7 ⟨w',H7,J7,r7,hD7,m',hm',w7⟩=>?_) fun _ _ f=>f
        have J7:=J7.unwxe
        refine wpAny_mono (mt_append (X:=cxC X scope _ fp _ _ N') _ _ _ _ (.ref s.heap.objs.size) [w'] (.ref s.heap.objs.size) [y] (fun _ H8=>H8=upd H7 s.heap.objs.size (.lst (ys++[w']))) J7 rfl (.cons r7 .nil) ⟨_,_,_,rfl,rfl,hD7,hz,rfl⟩) (fun _ s8 ⟨_,H8,J8,_,e8⟩=>?_) fun _ _ f=>f
        subst e8
        obtain ⟨k1,k2⟩:=keepT J8
        exact ⟨m',hm',i+1,ys++[w'],_,some v,J8.unpinned,k1,k2,w7⟩
      · rw [if_neg hok] at q6 ⊢
        obtain ⟨_,m',hm',w7⟩:=q6
        obtain ⟨k1,k2⟩:=keepT J6
        exact ⟨m',hm',i+1,ys,_,some v,J6.unpinned,k1,k2,w7⟩
  refine codeAny_compStart_list loop (T.self X.A 0 _ _ _ t4 loop)
def Heap.setAt (h:Heap) (C:Addr) (h2:Heap):Heap:=⟨h.objs.setIfInBounds C ((h2.objs[C]?).getD default),h.life⟩
theorem Heap.setAt_same {h h2:Heap} {C:Addr} (h1:C<h.objs.size) (hz:C<h2.objs.size):(Heap.setAt h C h2).get? C=h2.get? C:=by
  unfold Heap.setAt PySem.Heap.get?
  simp [Array.getElem?_setIfInBounds_self_of_lt h1,Array.getElem?_eq_getElem hz]
theorem Heap.setAt_other {h h2:Heap} {C b:Addr} (n:b≠C):(Heap.setAt h C h2).get? b=h.get? b:=by
  unfold Heap.setAt PySem.Heap.get?
  simp [Array.getElem?_setIfInBounds_ne (Ne.symm n)]
theorem pe_compX {wi:TI} {Ex:St→XK} {te:XK→TE} (hx:XPassA X Ex) (S:CScope X scope x N' js) (hi:PI X (.Name x px) iter wi) (ht:∀ C fp s₀ H₀,PTs (cxC X scope C fp s₀ H₀ N') ifs tc)
    (he:∀ EX C fp s₀ H₀ xe,XPass ((cxC X scope C fp s₀ H₀ N').wxe xe) (fun _=>EX)→PE ((cxC X scope C fp s₀ H₀ N').wxe xe) elt (te EX))
    (hs:∀ x,foldedSetIterable iter X.env x=pure x:=by intro _; rfl):PE X (.ListComp elt [⟨.Name x px,iter,ifs,0⟩] scope pos) (fun σ H Q=>tComp wi js tc (te (Ex σ)) σ H Q):=by
  intro pins s σ H Q I h
  rw [eval_ListComp]
  refine wpAny_comprehension_free (use:=none) rfl hs (closureFor_eq (S.cells I.ok)) S.kind S.names (wpAny_mono (hi pins s σ H _ I h) (fun v s1 h1=>?_) fun _ _ e=>e)
  refine wpAny_mono h1 (fun itv s2 ⟨it,fp,tn,J,H2,e,I2,T,t0,hf,R⟩=>?_) fun _ _ e=>e
  subst e
  refine comp_blockX (EX:=Ex σ) S I2 T t0 hf ht (he (Ex σ)) R ?_ ?_
  · intro D H3 s3 σ' H' s' I3 hf3 J3 q
    obtain ⟨m,hm,_⟩:=J3.loc
    exact ⟨m,hm,fun h' hs'=>⟨.ref D,H',cxC_back S I3 hf3 J3 hs',rfl,q⟩⟩
  · intro D H3 s3 σ' H' s' I3 hf3 J3 e s4 hc
    obtain ⟨a,T1,cls,od,H4,rfl,os,bare,un,hok,fa,fT,na,nT,x0,q⟩:=hc
    have I4:Inv X pins σ H' s':=cxC_back S I3 hf3 J3 (Heap.SameBut.refl ..)
    have hst:=hx.st
    have hff:s4.heap.FunFrames X.base (X.env::X.outer):=by
      rw [← hst]
      exact funFrames_kp (fun b hb o e=>un.any e (I4.stkFree b hb) (by simp)) I4.stack
    obtain ⟨m,hm,_⟩:=J3.loc
    have hm:s'.heap.Ns s3.heap.objs.size m:=hm
    have hC':H' s3.heap.objs.size=none:=J3.free
    have hCf:s3.heap.objs.size ∉ frs X.stack:=fun z=>by
      have:=(I3.stack.mem z).2
      obtain ⟨o,e,_⟩:=this
      exact Nat.lt_irrefl _ (Heap.lt_size e)
    refine note_ok (by rw [← hst]; exact I4.ok.frames) hff hx.fm x0 (.inr ⟨T1,rfl⟩) fun h5 T5 y1 y2 y3=>?_
    rw [← hst] at y3
    have keepC:∀ o,s'.heap.get? s3.heap.objs.size=some o→h5.get? s3.heap.objs.size=some o∧s3.heap.objs.size≠a∧s3.heap.objs.size≠T1∧s3.heap.objs.size≠T5:=fun o e=>by
      have n1:s3.heap.objs.size≠a:=fun z=>by rw [z,fa] at e; cases e
      have n2:s3.heap.objs.size≠T1:=fun z=>by rw [z,fT] at e; cases e
      have e4:=un.keep _ o e hC' hCf (by simp)
      refine ⟨y3.keep _ o e4 hCf (by simp [stT,n1,n2]),n1,n2,fun z=>by rw [← z,e4] at y2; cases y2⟩
    obtain ⟨oC,eC⟩:∃ o,s'.heap.get? s3.heap.objs.size=some o:=by
      have:=hm
      obtain ⟨_,_,_,ho,_⟩:=this
      exact ⟨_,ho⟩
    obtain ⟨eC5,nCa,nCT,nC5⟩:=keepC oC eC
    refine ⟨m,Heap.Ns.at hm fun o e=>(keepC o e).1,fun h6 hs6 cenv _=>?_⟩
    have y1':ExcAt h6 a cls od (some (T5,rawInt X.env.locals)):=by
      obtain ⟨oe,vs,g1,g2,g3,g4,g5,g6,g7,oT,ts,g8,g9,g10,g11⟩:=y1
      exact ⟨oe,vs,(hs6.2 a (Ne.symm nCa)).trans g1,g2,g3,g4,g5,g6,g7,oT,ts,(hs6.2 T5 (Ne.symm nC5)).trans g8,g9,g10,g11⟩
    unfold PySem.passOn
    have y1'':=y1'
    obtain ⟨oe,vs,g1,g2,g3,g4,g5,g6,g7,oT,ts,g8,g9,g10,g11⟩:=y1''
    refine wpAny_bind (wpAny_field (s:={ s4 with heap:=h6 }) g1 g4 g6 ?_)
    rw [if_neg (by simp)]
    refine wpAny_bind (mark_ok (s:={ s4 with heap:=h6 }) y1' fun h7 fl z1 z2=>?_)
    refine wpAny_throw ?_
    have szC:s3.heap.objs.size<s'.heap.objs.size:=Heap.lt_size eC
    have sz6:s3.heap.objs.size<h6.objs.size:=by rw [hs6.1]; exact Heap.lt_size eC5
    have sb:Heap.SameBut s3.heap.objs.size s'.heap (Heap.setAt s'.heap s3.heap.objs.size h6):=⟨by simp [Heap.setAt],fun b hb=>Heap.setAt_other hb⟩
    have IB:=cxC_back S I3 hf3 J3 sb
    have old1:∀ b,s'.heap.get? b=none→b≠s3.heap.objs.size→(Heap.setAt s'.heap s3.heap.objs.size h6).get? b=none:=fun b e n=>by rw [Heap.setAt_other n]; exact e
    have old2:s'.heap.get? T5=none:=by
      cases z:s'.heap.get? T5 with
      | none=>rfl
      | some o =>
        obtain ⟨o',e'⟩:=un.there T5 o z (by simp)
        rw [y2] at e'; cases e'
    have nT5:H4 T5=none:=by
      cases z:H4 T5 with
      | none=>rfl
      | some u =>
        obtain ⟨ob,e⟩:=(hok T5 u z).get
        rw [y2] at e; cases e
    have hfree:∀ b∈frs X.stack,H4 b=none:=fun b hb=>by
      have ff:=I4.stack
      obtain ⟨_,o,ho,_⟩:=ff.mem hb
      exact un.free b o ho (I4.stkFree b hb) (by simp)
    have H4C:H4 s3.heap.objs.size=none:=un.free _ oC eC hC' (by simp)
    have step:∀ b o,s4.heap.get? b=some o→b≠s3.heap.objs.size→b ∉ frs X.stack→b≠a→b≠T1→h7.get? b=some o:=fun b o e n1 n2 n3 n4 =>
      z2 b o (fun z=>by subst z; rw [y2] at e; cases e) ((hs6.2 b n1).trans (y3.keep b o e n2 (by simp [stT,n3,n4])))
    have step2:∀ b o,s4.heap.get? b=some o→b≠s3.heap.objs.size→b≠a→b≠T1→∃ sl,h7.get? b=some { o with slots:=sl }:=fun b o e n1 n3 n4=>by
      obtain ⟨sl,e1⟩:=y3.any e (by simp [stT,n3,n4])
      exact ⟨sl,z2 b _ (fun z=>by subst z; rw [y2] at e; cases e) ((hs6.2 b n1).trans e1)⟩
    have hC7:∀ o,(Heap.setAt s'.heap s3.heap.objs.size h6).get? s3.heap.objs.size=some o→h7.get? s3.heap.objs.size=some o:=fun o e=>by
      rw [Heap.setAt_same szC sz6] at e
      exact z2 _ o nC5 e
    have fresh:∀ {b:Addr} {o:Obj} {d:Addr},s'.heap.get? b=some o→s'.heap.get? d=none→b≠d:=fun e1 e2 z=>by rw [z,e2] at e1; cases e1
    refine hx.p pins σ H' _ (.ref a) _ IB ⟨a,T5,cls,od,H4,fl,rfl,os,bare,?_,?_,old1 a fa (Ne.symm nCa),old1 T5 old2 (Ne.symm nC5),na,nT5,z1,q⟩
    · exact {
        keep:=fun b o e n m' _=>by
          by_cases hb:b=s3.heap.objs.size
          · subst hb; exact hC7 o e
          · have e':s'.heap.get? b=some o:=by rw [← Heap.setAt_other (h2:=h6) hb]; exact e
            exact step b o (un.keep b o e' n m' (by simp)) hb m' (fresh e' fa) (fresh e' fT)
        slot:=fun b o e n m' _=>by
          by_cases hb:b=s3.heap.objs.size
          · subst hb; exact ⟨o.slots,hC7 o e⟩
          · have e':s'.heap.get? b=some o:=by rw [← Heap.setAt_other (h2:=h6) hb]; exact e
            obtain ⟨sl,e4⟩:=un.slot b o e' n m' (by simp)
            obtain ⟨sl2,e7⟩:=step2 b _ e4 hb (fresh e' fa) (fresh e' fT)
            exact ⟨sl2,e7⟩
        free:=fun b o e n _=>by
          by_cases hb:b=s3.heap.objs.size
          · subst hb; exact H4C
          · have e':s'.heap.get? b=some o:=by rw [← Heap.setAt_other (h2:=h6) hb]; exact e
            exact un.free b o e' n (by simp)
        there:=fun b o e _=>by
          by_cases hb:b=s3.heap.objs.size
          · subst hb; exact ⟨o,hC7 o e⟩
          · have e':s'.heap.get? b=some o:=by rw [← Heap.setAt_other (h2:=h6) hb]; exact e
            obtain ⟨o4,e4⟩:=un.there b o e' (by simp)
            obtain ⟨sl2,e7⟩:=step2 b _ e4 hb (fresh e' fa) (fresh e' fT)
            exact ⟨_,e7⟩
        tups:=un.tups
        frzs:=un.frzs
        tbls:=un.tbls }
    · exact fun b u e=>(hok b u e).stay (fun c o hc e4=>by
        have nc:H4 c≠none:=by
          rcases hc with rfl | hc
          · rw [e]; simp
          · rw [hc]; simp
        exact step c o e4 (fun z=>nc (by rw [z]; exact H4C)) (fun z=>nc (hfree c z)) (fun z=>nc (by rw [z]; exact na)) (fun z=>nc (by rw [z]; exact nT))) (fun _ q=>q) fun _ _ q=>q
end
def tCompX (wi:TI) (js:List Nat) (tc:TT) (te:XK→TE) (Ex:St→XK):TE:=fun σ H Q=>wi σ H fun J H1=>CompB J σ js tc (te (Ex σ)) H1 Q
theorem we_cmpX {X:Cx} {Ex:St→XK} {scope:Scope} {x:Str} {N':List Str} {js:List Nat} {px pos:Pos} {iter elt:Expr} {ifs:List Expr} {wi:TI} {tc:L2.TT} {te:XK→TE} (hx:XPassA X Ex) (S:CScope X scope x N' js) (hi:PIw X (.Name x px) iter wi) (ht:∀ C fp s₀ H₀,PTsw (cxC X scope C fp s₀ H₀ N') ifs tc)
    (he:∀ EX C fp s₀ H₀ xe,XPass ((cxC X scope C fp s₀ H₀ N').wxe xe) (fun _=>EX)→PEw ((cxC X scope C fp s₀ H₀ N').wxe xe) elt (te EX))
    (hs:∀ x,foldedSetIterable iter X.env x=pure x:=by intro _; rfl):PEw X (.ListComp elt [⟨.Name x px,iter,ifs,0⟩] scope pos) (tCompX wi js tc te Ex) :=
  ⟨by unfold tCompX CompB; exact pe_compX (te:=fun EX=>tMonoE (te EX)) hx S hi.p (fun C fp s₀ H₀=>(ht C fp s₀ H₀).p.mono) (fun EX C fp s₀ H₀ xe h=>(he EX C fp s₀ H₀ xe h).p.mono) hs⟩
theorem ws_brk {X:Cx} {pos:Pos}:PSw X (.Break pos) tBreak:=⟨ps_break⟩
end L2
set_option Elab.async false
set_option linter.all false
set_option maxRecDepth 100000
namespace Kw
open PySem L2 Mf
def top (i:Nat):Stmt:=PySem.Challenge.pw_earlystop_k37_lines_of_no_rule.main.body.getD i (.Pass ⟨0,0,0,0⟩)
structure Cl where
  EarlyError:Addr
  NoTrial:Addr
  NoRule:Addr
  NoBounds:Addr
  NoLook:Addr
  NoPaper:Addr
  NoLines:Addr
  NoFraction:Addr
  NoOrder:Addr
  NoBack:Addr
  NoRow:Addr
  tok_FIGURES:Tok
  tok_MOST_FIGURES:Tok
  tok_LEAST_NAMES:Tok
  tok_MOST_NAMES:Tok
  tok_RULE_WORD:Tok
  tok_ENTRY_WORD:Tok
  tok_SAYS_WORD:Tok
structure Txt (K:PySem.W.Frag) (mg:Str→Option Value) (c:Cl):Prop where
  b_list:mg "list" = none
  b_len:mg "len" = none
  b_abs:mg "abs" = none
  b_isinstance:mg "isinstance" = none
  b_repr:mg "repr" = none
  b_range:mg "range" = none
  b_int:mg "int" = none
  b_bool:mg "bool" = none
  b_tuple:mg "tuple" = none
  b_str:mg "str" = none
  b_ValueError:mg "ValueError" = none
  b_all:mg "all" = none
  b_sum:mg "sum" = none
  b_max:mg "max" = none
  b_sorted:mg "sorted" = none
  g_EarlyError:mg "EarlyError" = some (.ref c.EarlyError)
  g_NoTrial:mg "NoTrial" = some (.ref c.NoTrial)
  g_NoRule:mg "NoRule" = some (.ref c.NoRule)
  g_NoBounds:mg "NoBounds" = some (.ref c.NoBounds)
  g_NoLook:mg "NoLook" = some (.ref c.NoLook)
  g_NoPaper:mg "NoPaper" = some (.ref c.NoPaper)
  g_NoLines:mg "NoLines" = some (.ref c.NoLines)
  g_NoOrder:mg "NoOrder" = some (.ref c.NoOrder)
  g_NoBack:mg "NoBack" = some (.ref c.NoBack)
  g_NoRow:mg "NoRow" = some (.ref c.NoRow)
  g_NoFraction:mg "NoFraction" = some (.ref c.NoFraction)
  g_FIGURES:mg "FIGURES" = some (.str (Str.ofString "0123456789") c.tok_FIGURES)
  g_MOST_FIGURES:mg "MOST_FIGURES" = some (.int 4000 c.tok_MOST_FIGURES)
  g_LEAST_NAMES:mg "LEAST_NAMES" = some (.int 2 c.tok_LEAST_NAMES)
  g_MOST_NAMES:mg "MOST_NAMES" = some (.int 4 c.tok_MOST_NAMES)
  g_RULE_WORD:mg "RULE_WORD" = some (.str (Str.ofString "rule") c.tok_RULE_WORD)
  g_ENTRY_WORD:mg "ENTRY_WORD" = some (.str (Str.ofString "on") c.tok_ENTRY_WORD)
  g_SAYS_WORD:mg "SAYS_WORD" = some (.str (Str.ofString "say") c.tok_SAYS_WORD)
  x_NoFraction:PySem.W.excIn K c.NoFraction mroVE "ValueError.__new__" = true
  e_NoFraction:ExcCls K c.NoFraction
  c_NoFraction:Catch K c.NoFraction
  s1:PySem.W.subIn K (.ref c.NoFraction) (.ref c.NoFraction)=some true
  c_NoLines:Catch K c.NoLines
  bb_EarlyError:baseAll K c.EarlyError=true
  st_NoLines:setAll K c.NoLines ["line"]=true
  ec_NoLines:excAll K c.NoLines=true
  sub_NoLines:PySem.W.subIn K (.ref c.NoLines) (.ref c.NoLines)=some true
  k1:PySem.W.kitAny K (.ref c.NoLines) [.ref c.NoBack,.ref c.NoBounds,.ref c.NoFraction,.ref c.NoLook,.ref c.NoOrder]=some false
  k2:PySem.W.kitAny K (.ref c.NoLines) [.ref c.NoPaper,.ref c.NoRow,.ref c.NoRule,.ref c.NoTrial]=some false
  k3:PySem.W.kitOne K (.ref c.NoLines) (.type "ValueError")=some true
  n1:PySem.W.nsOkIn K cStatics=true
  n2:PySem.W.nsIn K cStatics "sys.int_max_str_digits" = some none
theorem Txt.bc_EarlyError {K:PySem.W.Frag} {mg:Str→Option Value} {c:Cl} (T:Txt K mg c):BaseCls K c.EarlyError:=baseAll.base T.bb_EarlyError
theorem Txt.nd {K:PySem.W.Frag} {mg:Str→Option Value} {c:Cl} (T:Txt K mg c):NoDig K:=⟨T.n1,T.n2⟩
abbrev s__law_tape:Stmt:=(top 36)
theorem sc__law_tape:FnScope ["_law_script", "_law_at", "_law_cell"] ["_law_script", "_law_at"] (defScope s__law_tape):=⟨rfl,rfl,rfl,by decide +kernel,rfl,by decide +kernel,by decide +kernel⟩
abbrev s__law_pick:Stmt:=(top 37)
theorem sc__law_pick:FnScope ["_law_tape_here", "_law_many", "_law_turn", "_law_found", "_law_stirred"] ["_law_tape_here", "_law_many"] (defScope s__law_pick):=⟨rfl,rfl,rfl,by decide +kernel,rfl,by decide +kernel,by decide +kernel⟩
abbrev s__law_frac:Stmt:=(top 38)
theorem sc__law_frac:FnScope ["_law_n", "_law_d", "_law_one", "_law_other"] ["_law_n", "_law_d"] (defScope s__law_frac):=⟨rfl,rfl,rfl,by decide +kernel,rfl,by decide +kernel,by decide +kernel⟩
abbrev s__law_shares:Stmt:=(top 39)
theorem sc__law_shares:FnScope ["_law_tape_here", "_law_many", "_law_parts"] ["_law_tape_here", "_law_many"] (defScope s__law_shares):=⟨rfl,rfl,rfl,by decide +kernel,rfl,by decide +kernel,by decide +kernel⟩
abbrev s__law_says:Stmt:=(top 40)
theorem sc__law_says:FnScope ["_law_tape_here", "_law_ways", "_law_stops", "_law_plain", "_law_place"] ["_law_tape_here", "_law_ways", "_law_stops", "_law_plain"] (defScope s__law_says):=⟨rfl,rfl,rfl,by decide +kernel,rfl,by decide +kernel,by decide +kernel⟩
abbrev s__law_next:Stmt:=(top 41)
theorem sc__law_next:FnScope ["_law_counts", "_law_says_here"] ["_law_counts", "_law_says_here"] (defScope s__law_next):=⟨rfl,rfl,rfl,by decide +kernel,rfl,by decide +kernel,by decide +kernel⟩
abbrev s__law_rule:Stmt:=(top 42)
theorem sc__law_rule:FnScope ["_law_tape_here", "_law_faces", "_law_ways", "_law_most", "_law_plain", "_law_found", "_law_level", "_law_later", "_law_counts", "_law_says_here"] ["_law_tape_here", "_law_faces", "_law_ways", "_law_most", "_law_plain"] (defScope s__law_rule):=⟨rfl,rfl,rfl,by decide +kernel,rfl,by decide +kernel,by decide +kernel⟩
abbrev s__law_sizes:Stmt:=(top 43)
theorem sc__law_sizes:FnScope ["_law_tape_here", "_law_faces", "_law_most"] ["_law_tape_here"] (defScope s__law_sizes):=⟨rfl,rfl,rfl,by decide +kernel,rfl,by decide +kernel,by decide +kernel⟩
abbrev tpD (c l t:Int):List (Key × V):=[(.inr "cell",.int c),(.inr "left",.int l),(.inr "turn",.int t)]
structure TapeAt (H:Hp) (p:Addr) (n:Nat):Prop where
  ex:∃ c l t:Int,H p=some (.dK (tpD c l t))∧0≤l∧0≤t∧t+n≤1000000000000
theorem TapeAt.ne {H:Hp} {p q:Addr} {n:Nat} (F:TapeAt H p n) (hq:H q=none):q≠p:=fun e=>by
  subst e; obtain ⟨c,l,t,h,_⟩:=F.ex; rw [h] at hq; cases hq
theorem TapeAt.there {H:Hp} {p:Addr} {n:Nat} (F:TapeAt H p n):∃ o,H p=some o:=by obtain ⟨c,l,t,h,_⟩:=F.ex; exact ⟨_,h⟩
theorem TapeAt.neL {H:Hp} {p q:Addr} {n:Nat} {xs:List V} (F:TapeAt H p n) (hq:H q=some (.lst xs)):q≠p:=fun e=>by
  subst e; obtain ⟨c,l,t,h,_⟩:=F.ex; rw [h] at hq; cases hq
theorem TapeAt.same {H H':Hp} {p:Addr} {n:Nat} (F:TapeAt H p n) (s:Same H H'):TapeAt H' p n:=by
  obtain ⟨c,l,t,h,r⟩:=F.ex
  exact ⟨c,l,t,s _ _ h,r⟩
theorem TapeAt.but {H H':Hp} {p D:Addr} {n:Nat} (F:TapeAt H p n) (s:SameBut D H H') (n1:D≠p):TapeAt H' p n:=by
  obtain ⟨c,l,t,h,r⟩:=F.ex
  exact ⟨c,l,t,s.at (Ne.symm n1) h,r⟩
theorem TapeAt.less {H:Hp} {p:Addr} {n m:Nat} (F:TapeAt H p n) (h:m≤n):TapeAt H p m:=by
  obtain ⟨c,l,t,e,l0,t0,r⟩:=F.ex
  exact ⟨c,l,t,e,l0,t0,by omega⟩
theorem TapeAt.t {H H':Hp} {p:Addr} {n:Nat} (F:TapeAt H p n) (s:SameBut p H H'):SameT H H':=by
  obtain ⟨c,l,t,h,_⟩:=F.ex
  exact s.tD h
theorem TapeAt.like {p:Addr} {n:Nat} (f:Nat→Nat):TapeLike p (fun i H=>TapeAt H p (f i)) :=
  ⟨fun _ D H1 H2 n1 s F=>F.but s n1,fun _ H1 H2 s F=>F.same s,fun _ H' F=>by obtain ⟨c,l,t,h,_⟩:=F.ex; exact ⟨_,h⟩⟩
@[irreducible] def sp_tape (K:PySem.W.Frag):Sp:=fun vs H Q _=>∃ (a:Addr) (ns:List Int) (k:Int),vs=[.ref a,.int k]∧SqL K H a (ns.map V.int)∧ns.length≤63∧0≤k∧∀ p H',TapeAt H' p 1000000000000→Same H H'→H p=none→Q (.ref p) H'
theorem sp_tape_i {K:PySem.W.Frag} {H:Hp} {Q:VK} {E:XK} {a:Addr} {ns:List Int} {k:Int} (h:SqL K H a (ns.map V.int)) (hl:ns.length≤63) (hk:0≤k) (q:∀ p H',TapeAt H' p 1000000000000→Same H H'→H p=none→Q (.ref p) H'):sp_tape K [.ref a,.int k] H Q E:=by
  unfold sp_tape; exact ⟨a,ns,k,rfl,h,hl,hk,q⟩
@[irreducible] def sp_pick:Sp:=fun vs H Q _=>∃ (p:Addr) (n:Nat) (m:Int),vs=[.ref p,.int m]∧TapeAt H p (n+1)∧0<m∧bits m≤64∧∀ x H',0≤x→x<m→TapeAt H' p n→SameBut p H H'→Q (.int x) H'
theorem sp_pick_i {H:Hp} {Q:VK} {E:XK} {p:Addr} {n:Nat} {m:Int} (F:TapeAt H p (n+1)) (h:0<m) (hb:bits m≤64) (k:∀ x H',0≤x→x<m→TapeAt H' p n→SameBut p H H'→Q (.int x) H'):sp_pick [.ref p,.int m] H Q E:=by
  unfold sp_pick; exact ⟨p,n,m,rfl,F,h,hb,k⟩
theorem bitsle {i:Int} {n:Nat} (h:i.natAbs<2^n):bits i≤n:=PySem.intBits_le_iff.mpr h
@[irreducible] def sp_law (K:PySem.W.Frag):Sp:=fun vs H Q _=>∃ (a:Addr) (ns:List Int),vs=[.ref a]∧SqL K H a (ns.map V.int)∧ns.length≤63∧∀ H',Q (.bl true) H'
theorem sp_law_i {K:PySem.W.Frag} {H:Hp} {a:Addr} {ns:List Int} (h:SqL K H a (ns.map V.int)) (hl:ns.length≤63):sp_law K [.ref a] H (fun v _=>v=.bl true) (fun _ _ _=>False):=by
  unfold sp_law; exact ⟨a,ns,rfl,h,hl,fun _=>rfl⟩
theorem rlQ {K:PySem.W.Frag} {H:Hp} {p:Addr} {xs:List V} {Q:VK} (h:SqL K H p xs) (q:Q (.int xs.length) H):rLen K [V.ref p] H Q:=by unfold rLen; exact ⟨_,_,rfl,.inl ⟨xs,h,rfl⟩,q⟩
section
variable {P:Program} {w:World} {K:PySem.W.Frag} {mg:Str→Option Value} {base:Heap} {c:Cl}
theorem ok__law_tape {f:Addr} {fd:FuncData} (F:Fun K "_law_tape" "_law_tape" s__law_tape f fd) (T:Txt K mg c):FnOk P w K mg base CX0 1 f fd ["_law_script", "_law_at"] (sp_tape K):=by
  refine F.okw sc__law_tape (fun vs H Q E h=>?_) (fun cdv A outer s H vs Q E hr h=>?_)
  · unfold sp_tape at h
    obtain ⟨a,ns,i,rfl,_⟩:=h
    rfl
  · unfold sp_tape at h
    obtain ⟨a,ns,i,rfl,hS,hl,hi,k⟩:=h
    refine ⟨_,(wss_cons (ws_set (i:=2) sc__law_tape.nd rfl (Or.inl rfl) (we_v 1))
      (wss_cons (ws_cut (ws_if (wt_cmp op_gt (we_cB cl_len (by rfl) T.b_len (by decide +kernel) (wa_k (we_v 0) wa_nil)) we_int (nomark _)) (wss_one (ws_set (i:=2) sc__law_tape.nd rfl (Or.inl rfl) (we_op op_add (we_ix ix_seq (we_v 0) (we_op op_mod (we_v 1) (we_cB cl_len (by rfl) T.b_len (by decide +kernel) (wa_k (we_v 0) wa_nil))) (fun _ _=>rfl)) (we_op op_fdivB (we_v 1) (we_cB cl_len (by rfl) T.b_len (by decide +kernel) (wa_k (we_v 0) wa_nil)))))) wss_nil))
      (wss_one (ws_ret (we_disp (wpp_cons we_str (we_v 2) (wpp_cons we_str (we_cB (call_max2 rfl) (by rfl) T.b_max (by decide +kernel) (wa_k we_int (wa_k (we_op op_sub (we_v 2) (we_op op_pow we_int we_int)) wa_nil))) (wpp_cons we_str we_int wpp_nil)))))))),?_⟩
    refine ⟨_,rfl,?_⟩
    refine ⟨fun σ H3=>∃ c:Int,σ=[some (.ref a),some (.int i),some (.int c)]∧H3=H,?_,?_⟩
    · rintro σ H3 ⟨c,rfl,rfl⟩
      intro p hp
      refine ⟨_,rfl,?_⟩
      refine ⟨_,rfl,_,_,rfl,rfl,⟨by decide,by decide,by decide⟩,_,_,rfl,rfl,_,_,rfl,?_⟩
      refine ⟨upd_same,tpD c (if c - 10^18 > 0 then c - 10^18 else 0) 0,rfl,by show 3≤15; decide,?_⟩
      refine k p _ ⟨c,(if c - 10^18 > 0 then c - 10^18 else 0),0,?_,by split <;> omega,by decide,by decide⟩ ?_ hp
      · rw [upd_same]; rfl
      · intro b o h
        have nb:b≠p:=fun e=>by subst e; rw [hp] at h; cases h
        rw [L2.upd_ne nb,L2.upd_ne nb]; exact h
    · refine ⟨_,rfl,?_⟩
      refine rlQ hS ?_
      refine ⟨_,_,rfl,rfl,_,rfl,?_⟩
      rw [List.length_map]
      refine iteD (fun e1=>?_) (fun e1=>?_)
      · refine ⟨_,rfl,_,rfl,_,rfl,?_⟩
        refine rlQ hS ?_
        rw [List.length_map]
        refine ⟨_,_,rfl,rfl,e1,?_⟩
        have g0:=Int.emod_nonneg i (b:=(ns.length:Int)) (by omega)
        have g1:=Int.emod_lt_of_pos i e1
        have hj:∃ z,ns[(i % (ns.length:Int)).toNat]?=some z:=⟨_,List.getElem?_eq_getElem (by omega)⟩
        obtain ⟨z,hz⟩:=hj
        have hat:atI (ns.map V.int) (i % (ns.length:Int))=some (.int z):=by
          have:=atI_nat (xs:=ns.map V.int) (j:=(i % (ns.length:Int)).toNat) (v:=V.int z) (by rw [List.getElem?_map,hz]; rfl)
          rwa [Int.toNat_of_nonneg g0] at this
        refine .inl ⟨a,_,_,_,rfl,rfl,hS,hat,?_⟩
        refine ⟨_,rfl,_,rfl,?_⟩
        refine rlQ hS ?_
        rw [List.length_map]
        refine ⟨_, _, rfl, rfl, ⟨e1, bitsle (by have : ((ns.length : Int)).natAbs ≤ 63 := by omega
                                                exact Nat.lt_of_le_of_lt this (Nat.lt_of_lt_of_le (show 63<2^6 by decide) (Nat.pow_le_pow_right (by decide) (by decide))))⟩,?_⟩
        refine ⟨_,_,rfl,rfl,?_⟩
        exact ⟨_,rfl,rfl⟩
      · exact ⟨_,rfl,rfl⟩
theorem ok__law_pick {f:Addr} {fd:FuncData} (F:Fun K "_law_pick" "_law_pick" s__law_pick f fd) (T:Txt K mg c):FnOk P w K mg base CX0 1 f fd ["_law_tape_here", "_law_many"] sp_pick:=by
  refine F.okw sc__law_pick (fun vs H Q E h=>?_) (fun cdv A outer s H vs Q E hr h=>?_)
  · unfold sp_pick at h
    obtain ⟨p,n,m,rfl,_⟩:=h
    rfl
  · unfold sp_pick at h
    obtain ⟨p,n,m,rfl,F,hm,hb,k⟩:=h
    obtain ⟨c,l,t,hp,h0,h1,h2⟩:=F.ex
    refine ⟨_,(wss_cons (ws_set (i:=2) sc__law_pick.nd rfl (Or.inl rfl) (we_op op_add (we_dget hr.u1 (we_v 0) we_str) we_int))
      (wss_cons (ws_dput hr.u1 (we_v 0) we_str (we_v 2))
      (wss_cons (ws_if (wt_cmp op_gt (we_dget hr.u1 (we_v 0) we_str) we_int (nomark _)) (wss_cons (ws_set (i:=3) sc__law_pick.nd rfl (Or.inl rfl) (we_op op_mod (we_dget hr.u1 (we_v 0) we_str) (we_v 1)))
      (wss_cons (ws_dput hr.u1 (we_v 0) we_str (we_op op_fdivB (we_dget hr.u1 (we_v 0) we_str) (we_v 1)))
      (wss_one (ws_ret (we_v 3))))) wss_nil)
      (wss_cons (ws_set (i:=4) sc__law_pick.nd rfl (Or.inl rfl) (we_op op_mulB (we_op op_add (we_op op_add (we_op op_mod (we_dget hr.u1 (we_v 0) we_str) we_int) (we_op op_mulB (we_op op_mulB we_int (we_v 2)) (we_v 2))) we_int) we_int))
      (wss_cons (ws_set (i:=4) sc__law_pick.nd rfl (Or.inl rfl) (we_op op_mulB (we_op op_add (we_op op_mod (we_v 4) we_int) (we_op op_mulB we_int (we_v 2))) we_int))
      (wss_one (ws_ret (we_op op_mod (we_op op_fdivB (we_op op_mod (we_v 4) we_int) we_int) (we_v 1))))))))),?_⟩
    refine ⟨_,rfl,?_⟩
    refine dgS hp rfl ?_
    refine ⟨_,_,rfl,rfl,?_⟩
    refine ⟨_,rfl,_,rfl,?_⟩
    refine dpS (kvs2:=tpD c l (t+1)) hp (by show 3≤64; decide) rfl fun H1 hp1 s1=>?_
    refine ⟨_,rfl,?_⟩
    refine dgS hp1 rfl ?_
    refine ⟨_,_,rfl,rfl,_,rfl,?_⟩
    refine iteD (fun e0=>?_) (fun e0=>?_)
    · refine ⟨_,rfl,?_⟩
      refine dgS hp1 rfl ?_
      refine ⟨_,rfl,_,_,rfl,rfl,hm,?_⟩
      refine ⟨_,rfl,?_⟩
      refine dgS hp1 rfl ?_
      refine ⟨_,rfl,_,_,rfl,rfl,⟨hm,Nat.le_trans hb (by decide)⟩,?_⟩
      refine ⟨_,rfl,?_⟩
      refine dpS (kvs2:=tpD c (l / m) (t+1)) hp1 (by show 3≤64; decide) rfl fun H2 hp2 s2=>?_
      refine ⟨_,rfl,?_⟩
      exact k _ H2 (Int.emod_nonneg _ (by omega)) (Int.emod_lt_of_pos _ hm) ⟨c,l / m,t+1,hp2,Int.ediv_nonneg h0 (by omega),by omega,by omega⟩ (s1.trans s2)
    · have bt:bits (t+1)≤64:=PySem.intBits_le_64 (by omega) (by omega)
      refine ⟨_,rfl,?_⟩
      refine dgS hp1 rfl ?_
      have c0:=Int.emod_nonneg c (b:=2147483647) (by decide)
      have c1:=Int.emod_lt_of_pos c (b:=2147483647) (by decide)
      refine ⟨_,_,rfl,rfl,(by show (0:Int)<2147483647; decide),?_⟩
      refine ⟨_,rfl,_,_,rfl,rfl,IntMulOk.of_left (by decide +kernel),_,rfl,_,_,rfl,rfl,IntMulOk.of_right bt,_,_,rfl,rfl,_,_,rfl,rfl,_,_,rfl,rfl,IntMulOk.of_right (by decide +kernel),?_⟩
      generalize hz:(c % 2147483647+31*(t+1)*(t+1)+1)*48271=z
      refine ⟨_,rfl,_,_,rfl,rfl,(by show (0:Int)<2147483629; decide),_,rfl,_,_,rfl,rfl,IntMulOk.of_left (by decide +kernel),_,_,rfl,rfl,_,_,rfl,rfl,IntMulOk.of_right (by decide +kernel),?_⟩
      generalize hy:(z % 2147483629+7*(t+1))*69621=y
      refine ⟨_,rfl,_,_,rfl,rfl,(by show (0:Int)<2147483587; decide),_,_,rfl,rfl,⟨by decide,by decide +kernel⟩,_,rfl,_,_,rfl,rfl,hm,?_⟩
      exact k _ H1 (Int.emod_nonneg _ (by omega)) (Int.emod_lt_of_pos _ hm) ⟨c,l,t+1,hp1,h0,by omega,by omega⟩ s1
end
abbrev frD (f:Fr):PyData:=.tuple [.int f.1,.int f.2]
theorem frD_at {H:Hp} {f:Fr} {v:V} (h:Rep H (frD f) v):∃ a,v=.ref a∧H a=some (.tup [.int f.1,.int f.2]):=by
  unfold Rep RepL RepL RepL at h
  obtain ⟨a,_,rfl,h1,x,_,rfl,r1,y,_,rfl,r2,rfl⟩:=h
  cases (show x=V.int f.1 from r1)
  cases (show y=V.int f.2 from r2)
  exact ⟨a,rfl,h1⟩
theorem frD_of {H:Hp} {f:Fr} {a:Addr} (h:H a=some (.tup [.int f.1,.int f.2])):Rep H (frD f) (.ref a):=Rep.tup h (RepL.cons (Rep.int _) (RepL.cons (Rep.int _) RepL.nil))
theorem frD_flat (f:Fr):flatD (frD f)=true:=rfl
@[irreducible] def sp_cd:Sp:=fun vs H Q _=>∃ n d:Int,vs=[.int n,.int d]∧0<d∧Q (.int (Int.gcd n d)) H
theorem sp_cd_i {H:Hp} {Q:VK} {E:XK} {n d:Int} (h:0<d) (q:Q (.int (Int.gcd n d)) H):sp_cd [.int n,.int d] H Q E:=by unfold sp_cd; exact ⟨n,d,rfl,h,q⟩
def NewF (H:Hp) (Q:VK) (f:Fr):Prop:=∀ q H',H q=none→H' q=some (.tup [.int f.1,.int f.2])→Same H H'→Q (.ref q) H'
theorem gcd_le {n d:Int} (h:0<d):(Int.gcd n d:Int)≤d:=Int.le_of_dvd h (Int.gcd_dvd_right n d)
theorem gcd_sz {n d:Int} {k:Nat} (h:0<d) (z:d.natAbs<2^k):(Int.gcd n d:Int).natAbs<2^k:=by
  have:=gcd_le (n:=n) h
  have:=gcd_pos (n:=n) h
  omega
theorem divOk {n d:Int} (h:0<d) (z:d.natAbs<2^9000):CDivB n d:=⟨h,bitsOf z⟩
abbrev shD (fs:List Fr):PyData:=.tuple (fs.map frD)
theorem frs_flat:∀ fs:List Fr,flatDs (fs.map frD)=true
  | []=>rfl
  | f::fs=>by show (flatD (frD f)&&flatDs (fs.map frD))=true; rw [frs_flat fs]; rfl
theorem shD_flat (fs:List Fr):flatD (shD fs)=true:=frs_flat fs
structure SyOk (n:Nat) (fs:List Fr):Prop where
  ex:∃ ns:List Int,ns.length=n∧(∀ x∈ns,0≤x∧x≤7)∧0<ns.sum∧fs=ns.map fun x=>lw x ns.sum
theorem sum_le7:∀ {ns:List Int},(∀ x∈ns,0≤x∧x≤7)→0≤ns.sum∧ns.sum≤7*(ns.length:Int)
  | [],_=>by simp
  | n::ns,h=>by
    have h1:=sum_le7 (ns:=ns) fun x hx=>h x (List.mem_cons_of_mem _ hx)
    have h2:=h n (List.mem_cons_self ..)
    rw [List.sum_cons,List.length_cons]
    omega
theorem sum_pos {ns:List Int} (h:∀ x∈ns,0≤x∧x≤7) {n:Int} (hn:n∈ns) (p:0<n):0<ns.sum:=by
  induction ns with
  | nil=>cases hn
  | cons a r ih =>
    have h1:=sum_le7 (ns:=r) fun x hx=>h x (List.mem_cons_of_mem _ hx)
    have h2:=h a (List.mem_cons_self ..)
    rw [List.sum_cons]
    rcases List.mem_cons.mp hn with rfl | hr
    · omega
    · have:=ih (fun x hx=>h x (List.mem_cons_of_mem _ hx)) hr
      omega
theorem SyOk.len {n:Nat} {fs:List Fr} (h:SyOk n fs):fs.length=n:=by
  obtain ⟨ns,h1,_,_,rfl⟩:=h.ex
  rw [List.length_map,h1]
theorem SyOk.zero {n:Nat} {fs:List Fr} (h:SyOk n fs):SyOk (1+n) ((0,1)::fs):=by
  obtain ⟨ns,h1,h2,h3,rfl⟩:=h.ex
  refine ⟨0::ns,by rw [List.length_cons]; omega,fun x hx=>?_,by rw [List.sum_cons]; omega,?_⟩
  · rcases List.mem_cons.mp hx with rfl | hx
    · omega
    · exact h2 x hx
  · rw [List.sum_cons,List.map_cons,Int.zero_add]
    have:lw 0 ns.sum=(0,1):=by
      unfold lw
      rw [Int.gcd_zero_left]
      have hn:((ns.sum.natAbs:Nat):Int)=ns.sum:=by omega
      rw [hn,Int.zero_ediv,Int.ediv_self (by omega)]
    rw [this]
def ind (p:Nat) (n:Nat):List Int:=(List.range n).map fun k:Nat=>if (k:Int)=(p:Int) then 1 else 0
theorem ind_len (p n:Nat):(ind p n).length=n:=by unfold ind; rw [List.length_map,List.length_range]
theorem ind_mem {p n:Nat}:∀ x∈ind p n,0≤x∧x≤1:=fun x hx=>by
  unfold ind at hx
  obtain ⟨k,_,rfl⟩:=List.mem_map.mp hx
  split <;> omega
theorem ind_sum (p:Nat):∀ n:Nat,(ind p n).sum=if p<n then 1 else 0
  | 0=>by simp [ind]
  | n+1=>by
    have ih:=ind_sum p n
    have e:ind p (n+1)=ind p n++[if (n:Int)=(p:Int) then 1 else 0]:=by
      unfold ind; rw [List.range_succ,List.map_append]; rfl
    rw [e,List.sum_append,ih,List.sum_singleton]
    by_cases h:p<n
    · rw [if_pos h,if_neg (by omega),if_pos (by omega)]; rfl
    · rw [if_neg h]
      by_cases h2:p=n
      · subst h2; rw [if_pos rfl,if_pos (by omega)]; rfl
      · rw [if_neg (by omega),if_neg (by omega)]; rfl
theorem lw_1 (x:Int):lw x 1=(x,1):=by
  unfold lw
  rw [Int.gcd_one_right]
  simp
theorem SyOk.one {p n:Nat} (h:p<n):SyOk n ((ind p n).map fun x=>(x,1)):=by
  have e:=ind_sum p n
  rw [if_pos h] at e
  refine ⟨ind p n,ind_len p n,fun x hx=>?_,by omega,?_⟩
  · have:=ind_mem x hx; omega
  · rw [e]; exact List.map_congr_left fun x _=>(lw_1 x).symm
@[irreducible] def sp_lfrac:Sp:=fun vs H Q _=>∃ n d:Int,vs=[.int n,.int d]∧0<d∧(Int.gcd n d:Int).natAbs<2^9000∧NewF H Q (lw n d)
theorem sp_lfrac_g {H:Hp} {Q:VK} {E:XK} {n d:Int} (h:0<d) (z:(Int.gcd n d:Int).natAbs<2^9000) (q:NewF H Q (lw n d)):sp_lfrac [.int n,.int d] H Q E:=by unfold sp_lfrac; exact ⟨n,d,rfl,h,z,q⟩
theorem sp_lfrac_i {H:Hp} {Q:VK} {E:XK} {n d:Int} (h:0<d) (z:d.natAbs<2^9000) (q:NewF H Q (lw n d)):sp_lfrac [.int n,.int d] H Q E:=sp_lfrac_g h (gcd_sz h z) q
@[irreducible] def sp_shares:Sp:=fun vs H Q _=>∃ (p:Addr) (n m:Nat),vs=[.ref p,.int (m:Int)]∧TapeAt H p (n+8)∧0<m∧m≤5∧∀ v fs H',TapeAt H' p n→SameBut p H H'→Rep H' (shD fs) v→SyOk m fs→Q v H'
theorem sp_shares_i {H:Hp} {Q:VK} {E:XK} {p:Addr} {n m:Nat} (F:TapeAt H p (n+8)) (m0:0<m) (m5:m≤5) (k:∀ v fs H',TapeAt H' p n→SameBut p H H'→Rep H' (shD fs) v→SyOk m fs→Q v H'):sp_shares [.ref p,.int (m:Int)] H Q E:=by
  unfold sp_shares; exact ⟨p,n,m,rfl,F,m0,m5,k⟩
theorem repN {H:Hp} {Q:VK} {l:Addr} {z:V} {k:Nat} (h:H l=some (.lst [z])) (hk:k≤64) (q:∀ c H',H c=none→H' c=some (.lst (List.replicate k z))→Same H H'→Q (.ref c) H'):rRep (.ref l) (.int (k:Int)) H Q:=by
  refine ⟨l,k,[z],rfl,rfl,h,by omega,by omega,?_,fun p hp=>?_⟩
  · show 1*((k:Int)).toNat≤sizeLine
    rw [Nat.one_mul,Int.toNat_natCast]; exact small64 hk
  · rw [Int.toNat_natCast]
    have e:∀ k:Nat,(List.replicate k [z]).flatten=List.replicate k z:=fun k=>by
      induction k with
      | zero=>rfl
      | succ k ih=>rw [List.replicate_succ,List.flatten_cons,ih,List.replicate_succ]; rfl
    rw [e]
    exact q p _ hp upd_same (Same.upd hp)
theorem mem_setZ {k:Nat} {b:Nat} (hb:b<k):(∀ x∈(List.replicate k (0:Int)).set b 1,0≤x∧x≤7)∧0<((List.replicate k (0:Int)).set b 1).sum:=by
  have h1:∀ x∈(List.replicate k (0:Int)).set b 1,0≤x∧x≤7:=fun x hx=>by
    rcases List.mem_or_eq_of_mem_set hx with h | rfl
    · have:=List.eq_of_mem_replicate h; omega
    · omega
  exact ⟨h1,sum_pos h1 (n:=1) (List.mem_iff_getElem?.mpr ⟨b,by rw [List.getElem?_set_self (by simpa using hb)]⟩) (by decide)⟩
section
variable {P:Program} {w:World} {K:PySem.W.Frag} {mg:Str→Option Value} {base:Heap} {c:Cl}
theorem ok__law_frac {f:Addr} {fd:FuncData} (F:Fun K "_law_frac" "_law_frac" s__law_frac f fd) (T:Txt K mg c):FnOk P w K mg base CX0 1 f fd ["_law_n", "_law_d"] sp_lfrac:=by
  refine F.okw sc__law_frac (fun vs H Q E h=>?_) (fun cdv A outer s H vs Q E hr h=>?_)
  · unfold sp_lfrac at h
    obtain ⟨n,d,rfl,_⟩:=h
    rfl
  · unfold sp_lfrac at h
    obtain ⟨n,d,rfl,hd,hz,q⟩:=h
    refine ⟨_,(wss_cons (ws_set (i:=2) sc__law_frac.nd rfl (Or.inl rfl) (we_cB cl_abs (by rfl) T.b_abs (by decide +kernel) (wa_k (we_v 0) wa_nil)))
      (wss_cons (ws_set (i:=3) sc__law_frac.nd rfl (Or.inl rfl) (we_v 1))
      (wss_cons (ws_while PassesOwn.never (wt_cmp op_gt (we_v 3) we_int (nomark _)) (wss_one (ws_par (i:=2) (j:=3) rfl sc__law_frac.nd rfl rfl (by decide) rfl rfl (wa_k (we_v 3) (wa_k (we_op op_mod (we_v 2) (we_v 3)) wa_nil)) rfl)))
      (wss_one (ws_ret (we_tup (wa_k (we_op op_fdivB (we_v 0) (we_v 2)) (wa_k (we_op op_fdivB (we_v 1) (we_v 2)) wa_nil)))))))),?_⟩
    refine ⟨_,rfl,?_⟩
    refine raI ?_
    refine ⟨_,rfl,?_⟩
    refine while_r (fun m σ H'=>∃ (u v:Int),σ=[some (.int n),some (.int d),some (.int u),some (.int v)]∧0≤v∧Int.gcd u v=Int.gcd n d∧(v=0→0<u)∧H'=H∧m=v.toNat)
      (fun σ H'=>σ=[some (.int n),some (.int d),some (.int (Int.gcd n d)),some (.int 0)]∧H'=H)
      _ ⟨(n.natAbs:Int),d,rfl,by omega,by rw [Int.gcd_eq_natAbs_gcd_natAbs,Int.gcd_eq_natAbs_gcd_natAbs,Int.natAbs_natCast],by omega,rfl,rfl⟩ ?_ ?_
    · rintro m σ H2 ⟨u,v,rfl,hb,hg,h0,rfl,rfl⟩
      refine ⟨_,rfl,_,_,rfl,rfl,_,rfl,?_⟩
      refine iteD (fun e=>?_) (fun e=>?_)
      · refine ⟨_,rfl,_,rfl,_,rfl,_,_,rfl,rfl,e,_,_,rfl,?_⟩
        have e1:=Int.emod_lt_of_pos u e
        have e2:=Int.emod_nonneg u (b:=v) (by omega)
        exact ⟨_,by omega,v,u % v,rfl,e2,by rw [gcd_step,hg],fun _=>e,rfl,rfl⟩
      · have hb0:v=0:=by omega
        subst hb0
        have hu:=h0 rfl
        have e1:=gcd_end hu
        rw [hg] at e1
        rw [e1]
        exact ⟨rfl,rfl⟩
    · rintro σ H2 ⟨rfl,rfl⟩
      have hg:=gcd_pos (n:=n) hd
      have zg:CDivB n (Int.gcd n d:Int):=divOk hg hz
      refine ⟨_,rfl,_,rfl,_,_,rfl,rfl,zg,?_⟩
      refine ⟨_,rfl,_,rfl,_,_,rfl,rfl,zg,?_⟩
      refine nwT (by show 2≤64; decide) fun p H3 hp e3 s3=>?_
      exact q p H3 hp e3 s3
set_option maxHeartbeats 4000000 in
theorem ok__law_shares {f:Addr} {fd:FuncData} (F:Fun K "_law_shares" "_law_shares" s__law_shares f fd) (T:Txt K mg c)
    (F__law_pick:FnC CX0 P w K mg base 1 "_law_pick" ["_law_tape_here", "_law_many"] sp_pick) (F__law_frac:FnC CX0 P w K mg base 1 "_law_frac" ["_law_n", "_law_d"] sp_lfrac):FnOk P w K mg base CX0 2 f fd ["_law_tape_here", "_law_many"] sp_shares:=by
  refine F.okw sc__law_shares (fun vs H Q E h=>?_) (fun cdv A outer s H vs Q E hr h=>?_)
  · unfold sp_shares at h
    obtain ⟨p,n,m,rfl,_⟩:=h
    rfl
  · unfold sp_shares at h
    obtain ⟨p,n,m,rfl,F,m0,m5,k⟩:=h
    refine ⟨_,(wss_cons (ws_set (i:=2) sc__law_shares.nd rfl (Or.inr rfl) (we_comp (CScope.of (psc:=defScope s__law_shares) (N:=["_law_tape_here", "_law_many", "_law_parts"]) (N':=["_law_k", "_law_tape_here"]) (js:=[0]) (by decide +kernel) rfl rfl rfl) (wi_range1 rfl T.b_range (wa_k (we_v 1) wa_nil)) (fun _ _ _ _=>wts_nil) (fun _ _ _ _=>(we_ix (ix_seqK K) (we_lst (wa_k we_int (wa_k we_int (wa_k we_int (wa_k we_int (wa_k we_int (wa_k we_int wa_nil))))))) (we_fn F__law_pick (hr.mono (by decide)) (wa_k (we_v 1) (wa_k we_int wa_nil))) (fun _ _=>rfl)))))
      (wss_cons (ws_cut (ws_if (wt_mono (wt_w (ww_or (wt_cmp op_eq (we_cB (cl_sum rfl) (by rfl) T.b_sum (by decide +kernel) (wa_k (we_v 2) wa_nil)) we_int (nomark _)) (ww_or1 (wt_cmp op_eq (we_fn F__law_pick (hr.mono (by decide)) (wa_k (we_v 0) (wa_k we_int wa_nil))) we_int (nomark _)))))) (wss_cons (ws_set (i:=2) sc__law_shares.nd rfl (Or.inr rfl) (we_op op_rep (we_lst (wa_k we_int wa_nil)) (we_v 1)))
      (wss_one (ws_asg we_int (wg_sub (we_v 2) (we_fn F__law_pick (hr.mono (by decide)) (wa_k (we_v 0) (wa_k (we_v 1) wa_nil))) set_list)))) wss_nil))
      (wss_one (ws_ret (we_cT call_tuple_of (by rfl) T.b_tuple (by decide +kernel) (wa_k (we_comp (CScope.of (psc:=defScope s__law_shares) (N:=["_law_tape_here", "_law_many", "_law_parts"]) (N':=["_law_part", "_law_parts"]) (js:=[2]) (by decide +kernel) rfl rfl rfl) (wi_list (we_v 2)) (fun _ _ _ _=>wts_nil) (fun _ _ _ _=>(we_fn F__law_frac (hr.mono (by decide)) (wa_k (we_v 0) (wa_k (we_cB (cl_sumK K rfl) (by rfl) T.b_sum (by decide +kernel) (wa_k (we_v 1) wa_nil)) wa_nil))))) wa_nil)))))),?_⟩
    refine ⟨_,rfl,_,rfl,by omega,by omega,?_⟩
    refine comp_tpR (TapeAt.like (n:=n) fun i=>n+8 - i) F (fun _ y _=>∃ x,y=.int x∧0≤x∧x≤7) (fun _ _ _ _ _ h=>h) (by omega) (fun i H' Q' hi F' s' k'=>?_) (fun D ys H1 hD hD1 F1 s1 hy hr1=>?_)
    · refine nwL (by show 6≤64; decide) fun q1 H2 hq1 e1 s1=>?_
      refine ⟨_,rfl,?_⟩
      refine sp_pick_i (n:=n+8 - (i+1)) ((F'.same s1).less (by omega)) (by decide) (by decide +kernel) fun x H3 x0 x1 F3 s3=>?_
      obtain ⟨v,hat,hmem,_⟩:=atI_mem (xs:=[V.int 0,V.int 1,V.int 1,V.int 2,V.int 3,V.int 7]) x0 x1
      refine ixL (s3.at (F'.ne hq1) e1) hat ?_
      refine k' _ H3 F3 (s1.but.trans s3) ?_
      simp only [List.mem_cons,List.not_mem_nil,or_false] at hmem
      rcases hmem with rfl | rfl | rfl | rfl | rfl | rfl <;> exact ⟨_,rfl,by decide,by decide⟩
    · obtain ⟨ns,rfl,hn⟩:=ints_of (P:=fun _ x=>0≤x∧x≤7) hr1
      rw [List.length_map] at hy
      have npD:=F.ne hD
      have hn':∀ x∈ns,0≤x∧x≤7:=fun x hx=>by
        obtain ⟨i,hi⟩:=List.mem_iff_getElem?.mp hx
        exact hn i x hi
      refine ⟨fun σ H3=>∃ (D:Addr) (ns:List Int),σ=[some (.ref p),some (.int (m:Int)),some (.ref D)]∧H3 D=some (.lst (ns.map V.int))∧ns.length=m∧(∀ x∈ns,0≤x∧x≤7)∧0<ns.sum∧TapeAt H3 p n∧SameBut p H H3,?_,?_⟩
      · clear hD hD1 hr1 hn hn' hy npD F1 s1
        rintro σ H3 ⟨D,ns,rfl,hD3,hl,hn,hS,F3,s3⟩
        refine ⟨_,rfl,D,rfl,⟨_,SqL.of hD3⟩,?_⟩
        have h35:=sum_le7 hn
        refine comp_mapL (fun i y H'=>∃ n,ns[i]?=some n∧Rep H' (frD (lw n ns.sum)) y) (fun i y H1 H2 s ⟨n,h1,h2⟩=>⟨n,h1,h2.flat s (frD_flat _)⟩) (by rw [List.length_map]; omega) hD3 (fun i x H' Q' hx s' k'=>?_) (fun D3 ys H8 hD3' hD8 s8 hy8 hr8=>?_)
        · rw [List.getElem?_map] at hx
          obtain ⟨n',hn',rfl⟩:=(show ∃ n,ns[i]?=some n∧V.int n=x by
            cases q:ns[i]? with
            | none=>rw [q] at hx; cases hx
            | some n=>rw [q] at hx; cases hx; exact ⟨n,rfl,rfl⟩)
          refine ⟨_,rfl,_,rfl,?_⟩
          refine rsI (SqL.of (s' _ _ hD3)) ?_
          refine sp_lfrac_i hS (Nat.lt_of_lt_of_le (show ns.sum.natAbs<2^10 by show ns.sum.natAbs<1024; omega) (Nat.pow_le_pow_right (by decide) (by decide))) ?_
          intro q9 H9 hq9 e9 s9
          exact k' _ H9 s9 ⟨n',hn',frD_of e9⟩
        · refine ⟨D3,ys,rfl,.inl ⟨SqL.of hD8,fun l hl'=>?_⟩⟩
          have sl:=Same.upd (o:=.tup ys) hl'
          have el:(upd H8 l (.tup ys)) l=some (.tup ys):=upd_same
          generalize upd H8 l (.tup ys)=H9 at sl el
          refine k _ (ns.map fun n=>lw n ns.sum) H9 ((F3.same s8).same sl) (s3.trans (s8.trans sl).but) (Rep.tup el ?_) ⟨ns,hl,hn,hS,rfl⟩
          refine RepL.ofIdx (by rw [hy8,List.length_map,List.length_map,List.length_map]) fun i y hi=>?_
          obtain ⟨n,h1,h2⟩:=hr8 i y hi
          exact ⟨frD (lw n ns.sum),by rw [List.getElem?_map,List.getElem?_map,h1]; rfl,h2.same sl⟩
      · refine ⟨fun b H4=>TapeAt H4 p (n+1)∧SameBut p H H4∧H4 D=some (.lst (ns.map V.int))∧(b=false→0<ns.sum),?_,?_⟩
        · refine ⟨_,rfl,?_⟩
          refine rsI (SqL.of hD1) ?_
          refine ⟨rfl,_,rfl,?_⟩
          refine iteD (fun e0=>?_) (fun e0=>?_)
          · exact ⟨F1.less (by omega),s1,hD1,fun h=>by cases h⟩
          · refine ⟨_,rfl,?_⟩
            refine sp_pick_i (n:=n+1) (F1.less (by omega)) (by decide) (by decide +kernel) fun x H2 x0 x1 F2 s2=>?_
            refine ⟨rfl,_,rfl,F2,s1.trans s2,s2.at npD hD1,fun _=>?_⟩
            have:=(sum_le7 hn').1
            have:ns.sum≠0:=fun h=>e0 (congrArg V.int h)
            omega
        · rintro b H2 ⟨F2,s2,hD2,hS⟩
          cases b with
          | false=>exact iteF ⟨D,ns,rfl,hD2,by omega,hn',hS rfl,F2.less (by omega),s2⟩
          | true =>
            refine iteT ?_
            refine nwL (by show 1≤64; decide) fun q1 H3 hq1 e1 s3=>?_
            refine ⟨_,rfl,?_⟩
            refine repN e1 (by omega) fun q2 H4 hq2 e2 s4=>?_
            have F4:=(F2.same s3).same s4
            have n2:q2≠p:=(F2.same s3).ne hq2
            refine ⟨_,rfl,_,rfl,_,rfl,?_⟩
            refine sp_pick_i F4 (by omega) (bitsle (Nat.lt_of_le_of_lt (show ((m:Int)).natAbs≤5 by omega) (by decide))) fun x H5 x0 x1 F5 s5=>?_
            obtain ⟨b,rfl⟩:∃ b:Nat,x=(b:Int):=⟨x.toNat,by omega⟩
            have hD5:=s5.at n2 e2
            have hj:ixN (List.replicate m (V.int 0)).length (b:Int)=some b:=by
              unfold ixN
              rw [if_pos x0,if_pos (by rw [List.length_replicate]; omega)]; rfl
            refine stG hD5 hj fun H6 e6 s6=>?_
            have e7:(List.replicate m (V.int 0)).set b (V.int 1)=(((List.replicate m (0:Int)).set b 1).map V.int):=by
              rw [List.map_set,List.map_replicate]
            have hm:=mem_setZ (k:=m) (b:=b) (by omega)
            have h2:H q2=none:=SameBut.free s2 F2.there (s3.free hq2)
            exact ⟨q2,(List.replicate m (0:Int)).set b 1,rfl,by rw [e6,e7],by rw [List.length_set,List.length_replicate],hm.1,hm.2,F5.but s6 n2,
              SameBut.thru h2 ((s2.trans (s3.trans s4).but).trans s5) s6⟩
end
@[irreducible] def sp_says:Sp:=fun vs H Q _=>∃ (p:Addr) (n W:Nat) (st pl:Bool),vs=[.ref p,.int (W:Int),.bl st,.bl pl]∧TapeAt H p (n+16)∧2≤W∧W≤4∧∀ v fs H',TapeAt H' p n→SameBut p H H'→Rep H' (shD fs) v→SyOk (1+W) fs→(st=true→fs.head?=some (0,1))→Q v H'
theorem sp_says_i {H:Hp} {Q:VK} {E:XK} {p:Addr} {n W:Nat} {st pl:Bool} (F:TapeAt H p (n+16)) (h2:2≤W) (h4:W≤4) (k:∀ v fs H',TapeAt H' p n→SameBut p H H'→Rep H' (shD fs) v→SyOk (1+W) fs→(st=true→fs.head?=some (0,1))→Q v H'):sp_says [.ref p,.int (W:Int),.bl st,.bl pl] H Q E:=by
  unfold sp_says; exact ⟨p,n,W,st,pl,rfl,F,h2,h4,k⟩
theorem ind_head {p n:Nat} (hp:0<p):((ind p (1+n)).map fun x=>((x,1):Fr)).head?=some (0,1):=by
  unfold ind
  rw [Nat.add_comm,List.range_succ_eq_map,List.map_cons,List.map_cons,List.head?_cons,if_neg (by omega)]
theorem ind_at {p n i:Nat} (h:i<n):(ind p n)[i]?=some (if (i:Int)=(p:Int) then 1 else 0):=by
  unfold ind
  rw [List.getElem?_map,List.getElem?_range h]; rfl
abbrev ctD (cs:List Int):PyData:=.tuple (cs.map .int)
theorem ints_flat:∀ fs:List Int,flatDs (fs.map PyData.int)=true
  | []=>rfl
  | f::fs=>by show (flatD (.int f)&&flatDs (fs.map PyData.int))=true; rw [ints_flat fs]; rfl
theorem ctD_flat (cs:List Int):flatD (ctD cs)=true:=ints_flat cs
theorem RepL_ints {H:Hp}:∀ {ns:List Int} {vs:List V},RepL H (ns.map PyData.int) vs→vs=ns.map V.int
  | [],vs,h=>by unfold RepL at h; exact h
  | n::ns,vs,h=>by
    unfold RepL at h
    obtain ⟨x,xs,rfl,h1,h2⟩:=h
    cases (show x=V.int n from h1)
    rw [RepL_ints h2]; rfl
theorem ctD_at {H:Hp} {cs:List Int} {v:V} (h:Rep H (ctD cs) v):∃ a,v=.ref a∧H a=some (.tup (cs.map V.int)):=by
  unfold Rep at h
  obtain ⟨a,xs,rfl,h1,h2⟩:=h
  cases RepL_ints h2
  exact ⟨a,rfl,h1⟩
theorem RepL.ofInts {H:Hp}:∀ ns:List Int,RepL H (ns.map PyData.int) (ns.map V.int)
  | []=>RepL.nil
  | n::ns=>RepL.cons (Rep.int _) (RepL.ofInts ns)
theorem ctD_of {H:Hp} {cs:List Int} {a:Addr} (h:H a=some (.tup (cs.map V.int))):Rep H (ctD cs) (.ref a):=Rep.tup h (RepL.ofInts cs)
structure SzOk (F W M:Nat):Prop where
  w:2≤W∧W≤4
  f:F=2∧M≤4∨F=3∧M≤3∨F=4∧M≤2
@[irreducible] def sp_sizes:Sp:=fun vs H Q _=>∃ (p:Addr) (n:Nat),vs=[.ref p]∧TapeAt H p (n+3)∧∀ q F W M H',SzOk F W M→TapeAt H' p n→SameBut p H H'→H' q=some (.tup [.int (F:Nat),.int (W:Nat),.int (M:Nat)])→Q (.ref q) H'
theorem sp_sizes_i {H:Hp} {Q:VK} {E:XK} {p:Addr} {n:Nat} (F:TapeAt H p (n+3)) (k:∀ q F W M H',SzOk F W M→TapeAt H' p n→SameBut p H H'→H' q=some (.tup [.int (F:Nat),.int (W:Nat),.int (M:Nat)])→Q (.ref q) H'):sp_sizes [.ref p] H Q E:=by
  unfold sp_sizes; exact ⟨p,n,rfl,F,k⟩
section
variable {P:Program} {w:World} {K:PySem.W.Frag} {mg:Str→Option Value} {base:Heap} {c:Cl}
set_option maxHeartbeats 4000000 in
theorem ok__law_says {f:Addr} {fd:FuncData} (F:Fun K "_law_says" "_law_says" s__law_says f fd) (T:Txt K mg c)
    (F__law_pick:FnC CX0 P w K mg base 1 "_law_pick" ["_law_tape_here", "_law_many"] sp_pick) (F__law_shares:FnC CX0 P w K mg base 2 "_law_shares" ["_law_tape_here", "_law_many"] sp_shares):FnOk P w K mg base CX0 3 f fd ["_law_tape_here", "_law_ways", "_law_stops", "_law_plain"] sp_says:=by
  refine F.okw sc__law_says (fun vs H Q E h=>?_) (fun cdv A outer s H vs Q E hr h=>?_)
  · unfold sp_says at h
    obtain ⟨p,n,W,st,pl,rfl,_⟩:=h
    rfl
  · unfold sp_says at h
    obtain ⟨p,n,W,st,pl,rfl,F,W2,W4,k⟩:=h
    refine ⟨_,(wss_cons (ws_if (wt_mono (wt_w (ww_or (wt_val (we_v 3)) (ww_or1 (wt_cmp op_eq (we_fn F__law_pick (hr.mono (by decide)) (wa_k (we_v 0) (wa_k we_int wa_nil))) we_int (nomark _)))))) (wss_cons (ws_set (i:=4) sc__law_says.nd rfl (Or.inr rfl) (we_op op_add we_int (we_fn F__law_pick (hr.mono (by decide)) (wa_k (we_v 0) (wa_k (we_v 1) wa_nil)))))
      (wss_cons (ws_cut (ws_if (wt_mono (wt_w (ww_and (wt_not (wt_val (we_v 2))) (ww_and1 (wt_cmp op_gt (we_fn F__law_pick (hr.mono (by decide)) (wa_k (we_v 0) (wa_k we_int wa_nil))) we_int (nomark _)))))) (wss_one (ws_set (i:=4) sc__law_says.nd rfl (Or.inr rfl) we_int)) wss_nil))
      (wss_one (ws_ret (we_cT call_tuple_of (by rfl) T.b_tuple (by decide +kernel) (wa_k (we_comp (CScope.of (psc:=defScope s__law_says) (N:=["_law_tape_here", "_law_ways", "_law_stops", "_law_plain", "_law_place"]) (N':=["_law_k", "_law_place"]) (js:=[4]) (by decide +kernel) rfl rfl rfl) (wi_range1 rfl T.b_range (wa_k (we_op op_add we_int (we_v 1)) wa_nil)) (fun _ _ _ _=>wts_nil) (fun _ _ _ _=>(we_tup (wa_k (we_cT call_int1 (by rfl) T.b_int (by decide +kernel) (wa_k (we_cmp op_eq (we_v 0) (we_v 1) (nomark _)) wa_nil)) (wa_k we_int wa_nil))))) wa_nil)))))) wss_nil)
      (wss_cons (ws_if (wt_val (we_v 2)) (wss_one (ws_ret (we_op (op_catU K) (we_tup (wa_k (we_tup (wa_k we_int (wa_k we_int wa_nil))) wa_nil)) (we_fn F__law_shares (hr.mono (by decide)) (wa_k (we_v 0) (wa_k (we_v 1) wa_nil)))))) wss_nil)
      (wss_one (ws_ret (we_fn F__law_shares (hr.mono (by decide)) (wa_k (we_v 0) (wa_k (we_op op_add we_int (we_v 1)) wa_nil))))))),?_⟩
    refine ⟨fun b H1=>TapeAt H1 p (n+15)∧SameBut p H H1,?_,?_⟩
    · refine ⟨_,rfl,_,rfl,?_⟩
      cases pl with
      | true=>exact iteT ⟨F.less (by omega),(Same.refl _).but⟩
      | false =>
        refine iteF ?_
        refine ⟨_,rfl,?_⟩
        refine sp_pick_i (n:=n+15) F (by decide) (by decide +kernel) fun x H2 x0 x1 F2 s2=>?_
        exact ⟨rfl,_,rfl,F2,s2⟩
    · rintro b H1 ⟨F1,s1⟩
      cases b with
      | true =>
        refine iteT ?_
        refine ⟨_,rfl,_,rfl,?_⟩
        refine sp_pick_i (n:=n+14) F1 (by omega) (bitsle (Nat.lt_of_le_of_lt (show ((W:Int)).natAbs≤5 by omega) (by decide))) fun x H2 x0 x1 F2 s2=>?_
        refine ⟨_,_,rfl,rfl,?_⟩
        refine ⟨fun σ H3=>∃ a:Nat,σ=[some (.ref p),some (.int (W:Int)),some (.bl st),some (.bl pl),some (.int (a:Int))]∧a<1+W∧(st=true→0<a)∧TapeAt H3 p n∧SameBut p H H3,?_,?_⟩
        · rintro σ H3 ⟨a,rfl,ha,hs,F3,s3⟩
          refine ⟨_,rfl,_,_,rfl,rfl,_,rfl,by omega,by omega,?_⟩
          refine comp_mapR (fun i y H'=>∃ z,(ind a (1+W))[i]?=some z∧Rep H' (frD (z,1)) y) (fun i y H1 H2 s ⟨z,h1,h2⟩=>⟨z,h1,h2.flat s (frD_flat _)⟩) (by omega) (fun i H' Q' hi s' k'=>?_) (fun D ys H4 hD hD4 s4 hy4 hr4=>?_)
          · refine ⟨_,rfl,_,rfl,rfl,?_⟩
            refine .inr ⟨_,rfl,?_⟩
            refine nwT (by show 2≤64; decide) fun q5 H5 hq5 e5 s5=>?_
            refine k' _ H5 s5 ⟨_,ind_at (by omega),?_⟩
            refine frD_of (f:=(if (i:Int)=(a:Int) then 1 else 0,1)) ?_
            rw [e5,Int.zero_add]
            by_cases h:(i:Int)=(a:Int)
            · rw [if_pos h,if_pos (decide_eq_true (congrArg V.int h))]
            · rw [if_neg h,if_neg (by rw [decide_eq_true_eq]; exact fun z=>h (by injection z))]
          · refine ⟨D,ys,rfl,.inl ⟨SqL.of hD4,fun l hl=>?_⟩⟩
            have sl:=Same.upd (o:=.tup ys) hl
            have el:(upd H4 l (.tup ys)) l=some (.tup ys):=upd_same
            generalize upd H4 l (.tup ys)=H5 at sl el
            refine k _ ((ind a (1+W)).map fun x=>(x,1)) H5 ((F3.same s4).same sl) (s3.trans (s4.trans sl).but) (Rep.tup el ?_) (SyOk.one ha) (fun h=>ind_head (hs h))
            refine RepL.ofIdx (by rw [hy4,List.length_map,List.length_map,ind_len]; omega) fun i y hi=>?_
            obtain ⟨n,h1,h2⟩:=hr4 i y hi
            exact ⟨frD (n,1),by rw [List.getElem?_map,List.getElem?_map,h1]; rfl,h2.same sl⟩
        · refine ⟨fun b H3=>TapeAt H3 p n∧SameBut p H H3∧(b=true→st=false),?_,?_⟩
          · refine ⟨_,rfl,_,rfl,?_⟩
            cases st with
            | true=>exact iteF ⟨F2.less (by omega),s1.trans s2,fun h=>by cases h⟩
            | false =>
              refine iteT ?_
              refine ⟨_,rfl,?_⟩
              refine sp_pick_i (n:=n) (F2.less (by omega)) (by decide) (by decide +kernel) fun y H3 y0 y1 F3 s3=>?_
              exact ⟨_,_,rfl,rfl,_,rfl,F3,(s1.trans s2).trans s3,fun _=>rfl⟩
          · rintro b H3 ⟨F3,s3,hb⟩
            cases b with
            | true =>
              refine iteT ?_
              exact ⟨0,rfl,by omega,(fun h=>by rw [hb rfl] at h; cases h),F3,s3⟩
            | false =>
              refine iteF ?_
              exact ⟨(1+x).toNat,by rw [show (((1+x).toNat:Nat):Int)=1+x by omega]; rfl,by omega,fun _=>by omega,F3,s3⟩
      | false =>
        refine iteF ?_
        refine ⟨_,rfl,_,rfl,?_⟩
        cases st with
        | true =>
          refine iteT ?_
          refine nwT (by show 2≤64; decide) fun q2 H2 hq2 e2 s2=>?_
          refine nwT (by show 1≤64; decide) fun q3 H3 hq3 e3 s3=>?_
          refine ⟨_,rfl,_,rfl,?_⟩
          have n3:q3≠p:=(F1.same s2).ne hq3
          have n2:q2≠p:=F1.ne hq2
          refine sp_shares_i (n:=n) (m:=W) (((F1.same s2).same s3).less (by omega)) (by omega) (by omega) fun v fs H4 F4 s4 r4 ok4=>?_
          obtain ⟨a,xs,rfl,ha,rxs⟩:=(by unfold Rep at r4; exact r4)
          have e4:=s4.at n3 e3
          have e5:=s4.at n2 (s3 _ _ e2)
          refine catU e4 ha (by rw [show ([V.ref q2]:List V).length=1 from rfl,rxs.len,List.length_map,ok4.len]; omega) fun c H5 s5 e6=>?_
          refine k _ ((0,1)::fs) H5 (F4.same s5) (((s1.trans (s2.trans s3).but).trans s4).trans s5.but) (Rep.tup e6 (RepL.cons (frD_of (f:=(0,1)) (s5 _ _ e5)) (rxs.same s5))) ok4.zero (fun _=>rfl)
        | false =>
          refine iteF ?_
          refine ⟨_,rfl,_,rfl,_,_,rfl,rfl,?_⟩
          have e1:(1+(W:Int))=((1+W:Nat):Int):=by omega
          show sp_shares [.ref p,.int (1+(W:Int))] _ _ _
          rw [e1]
          refine sp_shares_i (n:=n) (m:=1+W) (F1.less (by omega)) (by omega) (by omega) fun v fs H4 F4 s4 r4 ok4=>?_
          exact k v fs H4 F4 (s1.trans s4) r4 ok4 (fun h=>by cases h)
set_option maxHeartbeats 4000000 in
theorem ok__law_sizes {f:Addr} {fd:FuncData} (F:Fun K "_law_sizes" "_law_sizes" s__law_sizes f fd) (T:Txt K mg c)
    (F__law_pick:FnC CX0 P w K mg base 1 "_law_pick" ["_law_tape_here", "_law_many"] sp_pick):FnOk P w K mg base CX0 2 f fd ["_law_tape_here"] sp_sizes:=by
  refine F.okw sc__law_sizes (fun vs H Q E h=>?_) (fun cdv A outer s H vs Q E hr h=>?_)
  · unfold sp_sizes at h
    obtain ⟨p,n,rfl,_⟩:=h
    rfl
  · unfold sp_sizes at h
    obtain ⟨p,n,rfl,F,k⟩:=h
    refine ⟨_,(wss_cons (ws_set (i:=1) sc__law_sizes.nd rfl (Or.inl rfl) (we_ix ix_seq (we_lst (wa_k we_int (wa_k we_int (wa_k we_int (wa_k we_int (wa_k we_int (wa_k we_int wa_nil))))))) (we_fn F__law_pick (hr.mono (by decide)) (wa_k (we_v 0) (wa_k we_int wa_nil))) (fun _ _=>rfl)))
      (wss_cons (ws_set (i:=2) sc__law_sizes.nd rfl (Or.inl rfl) (we_ix ix_seq (we_ix ix_seq (we_lst (wa_k (we_lst (wa_k we_int (wa_k we_int (wa_k we_int (wa_k we_int (wa_k we_int (wa_k we_int wa_nil))))))) (wa_k (we_lst (wa_k we_int (wa_k we_int (wa_k we_int (wa_k we_int (wa_k we_int (wa_k we_int wa_nil))))))) (wa_k (we_lst (wa_k we_int (wa_k we_int (wa_k we_int (wa_k we_int (wa_k we_int (wa_k we_int wa_nil))))))) wa_nil)))) (we_op op_sub (we_v 1) we_int) (fun _ _=>rfl)) (we_fn F__law_pick (hr.mono (by decide)) (wa_k (we_v 0) (wa_k we_int wa_nil))) (fun _ _=>rfl)))
      (wss_one (ws_ret (we_tup (wa_k (we_v 1) (wa_k (we_ix ix_seq (we_lst (wa_k we_int (wa_k we_int (wa_k we_int (wa_k we_int wa_nil))))) (we_fn F__law_pick (hr.mono (by decide)) (wa_k (we_v 0) (wa_k we_int wa_nil))) (fun _ _=>rfl)) (wa_k (we_v 2) wa_nil)))))))),?_⟩
    refine nwL (by show 6≤64; decide) fun q1 H1 hq1 e1 s1=>?_
    refine ⟨_,rfl,?_⟩
    refine sp_pick_i (n:=n+2) (F.same s1) (by decide) (by decide +kernel) fun x H2 x0 x1 F2 s2=>?_
    obtain ⟨v,hat,hmem,_⟩:=atI_mem (xs:=[V.int 2,V.int 2,V.int 2,V.int 3,V.int 3,V.int 4]) x0 x1
    refine ixL (s2.at (F.ne hq1) e1) hat ?_
    have S2:SameBut p H H2:=s1.but.trans s2
    have hv:∃ nF:Nat,v=.int (nF:Int)∧(nF=2∨nF=3∨nF=4):=by
      simp only [List.mem_cons,List.not_mem_nil,or_false] at hmem
      rcases hmem with rfl | rfl | rfl | rfl | rfl | rfl
      · exact ⟨2,rfl,by decide⟩
      · exact ⟨2,rfl,by decide⟩
      · exact ⟨2,rfl,by decide⟩
      · exact ⟨3,rfl,by decide⟩
      · exact ⟨3,rfl,by decide⟩
      · exact ⟨4,rfl,by decide⟩
    obtain ⟨nF,rfl,hF⟩:=hv
    clear hat hmem e1 hq1 s1 s2
    refine nwL (by show 6≤64; decide) fun q2 H3 hq2 e2 s3=>?_
    refine nwL (by show 6≤64; decide) fun q3 H4 hq3 e3 s4=>?_
    refine nwL (by show 6≤64; decide) fun q4 H5 hq4 e4 s5=>?_
    refine nwL (by show 3≤64; decide) fun q5 H6 hq5 e5 s6=>?_
    refine ⟨_,rfl,_,_,rfl,rfl,?_⟩
    have F6:=(((F2.same s3).same s4).same s5).same s6
    have S6:SameBut p H H6:=S2.trans (((s3.trans s4).trans s5).trans s6).but
    have g2:=s6 _ _ (s5 _ _ (s4 _ _ e2))
    have g3:=s6 _ _ (s5 _ _ e3)
    have g4:=s6 _ _ e4
    have hrow:∃ (qq:Addr) (ms:List Int),atI [V.ref q2,V.ref q3,V.ref q4] ((nF:Int) - 2)=some (.ref qq)∧H6 qq=some (.lst (ms.map V.int))∧ms.length=6∧∀ m∈ms,∃ M:Nat,m=(M:Int)∧(nF=2∧M≤4∨nF=3∧M≤3∨nF=4∧M≤2):=by
      rcases hF with rfl | rfl | rfl
      · refine ⟨q2,[1,2,3,4,0,3],rfl,g2,rfl,fun m hm=>⟨m.toNat,?_⟩⟩
        simp only [List.mem_cons,List.not_mem_nil,or_false] at hm
        omega
      · refine ⟨q3,[1,2,3,2,0,2],rfl,g3,rfl,fun m hm=>⟨m.toNat,?_⟩⟩
        simp only [List.mem_cons,List.not_mem_nil,or_false] at hm
        omega
      · refine ⟨q4,[1,2,2,1,0,2],rfl,g4,rfl,fun m hm=>⟨m.toNat,?_⟩⟩
        simp only [List.mem_cons,List.not_mem_nil,or_false] at hm
        omega
    obtain ⟨qq,ms,hat,hqq,hms,hall⟩:=hrow
    refine ixL e5 hat ?_
    refine ⟨_,rfl,?_⟩
    refine sp_pick_i (n:=n+1) F6 (by decide) (by decide +kernel) fun y H7 y0 y1 F7 s7=>?_
    obtain ⟨m,hm⟩:∃ m,ms[y.toNat]?=some m:=⟨_,List.getElem?_eq_getElem (by omega)⟩
    have hat2:atI (ms.map V.int) y=some (.int m):=by
      have:=atI_nat (xs:=ms.map V.int) (j:=y.toNat) (v:=V.int m) (by rw [List.getElem?_map,hm]; rfl)
      rwa [Int.toNat_of_nonneg y0] at this
    obtain ⟨M,rfl,hM⟩:=hall m (List.mem_iff_getElem?.mpr ⟨_,hm⟩)
    refine ixL (s7.at (F6.neL hqq) hqq) hat2 ?_
    refine ⟨_,rfl,?_⟩
    refine nwL (by show 4≤64; decide) fun q8 H8 hq8 e8 s8=>?_
    refine ⟨_,rfl,?_⟩
    refine sp_pick_i (n:=n) (F7.same s8) (by decide) (by decide +kernel) fun z H9 z0 z1 F9 s9=>?_
    obtain ⟨v,hat3,hmem3,_⟩:=atI_mem (xs:=[V.int 2,V.int 2,V.int 3,V.int 4]) z0 z1
    refine ixL (s9.at (F7.ne hq8) e8) hat3 ?_
    have hv:∃ nW:Nat,v=.int (nW:Int)∧(2≤nW∧nW≤4):=by
      simp only [List.mem_cons,List.not_mem_nil,or_false] at hmem3
      rcases hmem3 with rfl | rfl | rfl | rfl
      · exact ⟨2,rfl,by decide⟩
      · exact ⟨2,rfl,by decide⟩
      · exact ⟨3,rfl,by decide⟩
      · exact ⟨4,rfl,by decide⟩
    obtain ⟨nW,rfl,hW⟩:=hv
    refine ⟨_,rfl,?_⟩
    refine nwT (by show 3≤64; decide) fun q10 H10 hq10 e10 s10=>?_
    exact k q10 nF nW M H10 ⟨hW,hM⟩ (F9.same s10) ((((S6.trans s7).trans s8.but).trans s9).trans s10.but) e10
end
def bump (cs:List Int) (i:Nat):List Int:=cs.take i++[cs.getD i 0+1]++cs.drop (i+1)
def nexts (cs:List Int) (f:Fr):List (List Int):=if f=(0,1) then [] else (List.range cs.length).map (bump cs)
theorem RepL.atX {H:Hp} {α:Type} {g:α→PyData} {as:List α} {xs:List V} (r:RepL H (as.map g) xs) {i:Nat} {a:α} (h:as[i]?=some a):∃ x,xs[i]?=some x∧Rep H (g a) x:=by
  induction as generalizing xs i with
  | nil=>simp at h
  | cons b as ih =>
    rw [List.map_cons] at r
    unfold RepL at r
    obtain ⟨x,xs',rfl,r1,r2⟩:=r
    cases i with
    | zero=>cases (show b=a by simpa using h); exact ⟨x,rfl,r1⟩
    | succ i=>exact ih r2 (by simpa using h)
theorem shD_at {H:Hp} {fs:List Fr} {v:V} (h:Rep H (shD fs) v):∃ a xs,v=.ref a∧H a=some (.tup xs)∧RepL H (fs.map frD) xs:=by
  unfold Rep at h; exact h
theorem slA_loE {K:PySem.W.Frag} {H:Hp} {a:Addr} {xs:List V} {k:Nat} {z:Int} {Q:VK} (hz:z=(k:Int)) (h:H a=some (.tup xs)) (q:∀ c H',Same H H'→H' c=some (.tup (xs.drop k))→Q (.ref c) H'):rSlA K (.ref a) (some z) none H Q:=by
  subst hz; exact slA_lo h q
@[irreducible] def sp_next:Sp:=fun vs H Q _=>∃ (x y:V) (cs:List Int) (f:Fr) (fs:List Fr),vs=[x,y]∧Rep H (ctD cs) x∧Rep H (shD (f::fs)) y∧cs.length≤4∧fs.length≤4 ∧
  ∀ D ys H',H D=none→H' D=some (.lst ys)→RepL H' ((nexts cs f).map ctD) ys→Same H H'→Q (.ref D) H'
theorem sp_next_i {H:Hp} {Q:VK} {E:XK} {x y:V} {cs:List Int} {f:Fr} {fs:List Fr} (h1:Rep H (ctD cs) x) (h2:Rep H (shD (f::fs)) y) (h3:cs.length≤4) (h4:fs.length≤4)
    (k:∀ D ys H',H D=none→H' D=some (.lst ys)→RepL H' ((nexts cs f).map ctD) ys→Same H H'→Q (.ref D) H'):sp_next [x,y] H Q E:=by
  unfold sp_next; exact ⟨x,y,cs,f,fs,rfl,h1,h2,h3,h4,k⟩
theorem eqv_int (x y:Int):PyData.eqv (.int x) (.int y)=decide (x=y):=by
  show (x == y)=_
  rw [Bool.beq_eq_decide_eq]
theorem eqv_ints:∀ a b:List Int,PyData.eqvAll (a.map PyData.int) (b.map PyData.int)=decide (a=b)
  | [],[]=>by simp [PyData.eqvAll]
  | [],_::_=>by simp [PyData.eqvAll]
  | _::_,[]=>by simp [PyData.eqvAll]
  | x::a,y::b=>by
    have ih:=eqv_ints a b
    rw [List.map_cons,List.map_cons]
    show (PyData.eqv (.int x) (.int y)&&PyData.eqvAll _ _)=_
    rw [ih,eqv_int]
    by_cases h:x=y <;> by_cases h':a=b <;> simp [h,h']
theorem eqv_ct (a b:List Int):PyData.eqv (ctD a) (ctD b)=decide (a=b):=eqv_ints a b
theorem eqv_fr (f g:Fr):PyData.eqv (frD f) (frD g)=decide (f=g):=by
  have h:=eqv_ct [f.1,f.2] [g.1,g.2]
  refine (show PyData.eqv (frD f) (frD g)=_ from h).trans ?_
  obtain ⟨f1,f2⟩:=f
  obtain ⟨g1,g2⟩:=g
  simp
section
variable {P:Program} {w:World} {K:PySem.W.Frag} {mg:Str→Option Value} {base:Heap} {c:Cl}
set_option maxHeartbeats 4000000 in
theorem ok__law_next {f:Addr} {fd:FuncData} (F:Fun K "_law_next" "_law_next" s__law_next f fd) (T:Txt K mg c):FnOk P w K mg base CX0 1 f fd ["_law_counts", "_law_says_here"] sp_next:=by
  refine F.okw sc__law_next (fun vs H Q E h=>?_) (fun cdv A outer s H vs Q E hr h=>?_)
  · unfold sp_next at h
    obtain ⟨x,y,cs,f,fs,rfl,_⟩:=h
    rfl
  · unfold sp_next at h
    obtain ⟨x,y,cs,g,fs,rfl,rx,ry,h4,h5,k⟩:=h
    obtain ⟨a,rfl,ha⟩:=ctD_at rx
    obtain ⟨b,xs,rfl,hb,rxs⟩:=shD_at ry
    obtain ⟨z,hz,rz⟩:=RepL.atX (as:=g::fs) rxs (i:=0) (a:=g) rfl
    refine ⟨_,(wss_cons (ws_if (wt_cmp (op_eqD hr.units) (we_ix ix_seq (we_v 1) we_int (fun _ _=>rfl)) (we_tup (wa_k we_int (wa_k we_int wa_nil))) (nomark _)) (wss_one (ws_ret (we_lst wa_nil))) wss_nil)
      (wss_one (ws_ret (we_comp (CScope.of (psc:=defScope s__law_next) (N:=["_law_counts", "_law_says_here"]) (N':=["_law_face", "_law_counts"]) (js:=[0]) (by decide +kernel) rfl rfl rfl) (wi_range1 rfl T.b_range (wa_k (we_cB cl_len (by rfl) T.b_len (by decide +kernel) (wa_k (we_v 0) wa_nil)) wa_nil)) (fun _ _ _ _=>wts_nil) (fun _ _ _ _=>(we_op (op_catU K) (we_op (op_catU K) (we_slice (sl_tupA K) (we_v 1) wo_none (wo_some (we_v 0))) (we_tup (wa_k (we_op op_add (we_ix (ix_seqK K) (we_v 1) (we_v 0) (fun _ _=>rfl)) we_int) wa_nil))) (we_slice (sl_tupA K) (we_v 1) (wo_some (we_op op_add (we_v 0) we_int)) wo_none))))))),?_⟩
    refine ⟨_,rfl,?_⟩
    refine ixT hb (v:=z) (by
      have:=atI_nat (xs:=xs) (j:=0) (v:=z) hz
      exact this) ?_
    refine nwT (by show 2≤64; decide) fun q1 H1 hq1 e1 s1=>?_
    have r1:Rep H1 (frD (0,1)) (.ref q1):=frD_of e1
    refine reD (rz.same s1) r1 rfl rfl ?_
    rw [eqv_fr]
    refine ⟨_,rfl,?_⟩
    rw [Bool.true_beq]
    refine iteD (fun eg=>?_) (fun eg=>?_)
    · refine nwL (by show 0≤64; decide) fun q2 H2 hq2 e2 s2=>?_
      refine k q2 [] H2 (s1.free hq2) e2 ?_ (s1.trans s2)
      unfold nexts
      rw [if_pos eg]
      exact RepL.nil
    · refine ⟨_,rfl,?_⟩
      refine rlT (s1 _ _ ha) ?_
      rw [List.length_map]
      refine ⟨_,rfl,by omega,by omega,?_⟩
      refine comp_mapR (fun i y H'=>i<cs.length∧Rep H' (ctD (bump cs i)) y) (fun i y H1 H2 s ⟨h1,h2⟩=>⟨h1,h2.flat s (ctD_flat _)⟩) (by omega) (fun i H' Q' hi s' k'=>?_) (fun D ys H4 hD hD4 s4 hy4 hr4=>?_)
      · rw [Int.zero_add]
        have hi':i<cs.length:=by omega
        have ha':=s' _ _ (s1 _ _ ha)
        refine ⟨_,rfl,_,rfl,_,rfl,?_⟩
        refine slA_hi ha' fun c2 H2 s2 e2=>?_
        refine ⟨_,rfl,_,rfl,?_⟩
        have hat:atI (cs.map V.int) (i:Int)=some (.int (cs.getD i 0)):=atI_nat (by rw [List.getElem?_map,List.getD_eq_getElem?_getD,List.getElem?_eq_getElem hi']; rfl)
        refine ixT (s2 _ _ ha') hat ?_
        refine ⟨_,_,rfl,rfl,?_⟩
        refine nwT (by show 1≤64; decide) fun c3 H3 hc3 e3 s3=>?_
        refine catU (s3 _ _ e2) e3 (by rw [List.length_take,List.length_map]; show min i cs.length+1≤1000; omega) fun c4 H4 s4 e4=>?_
        refine ⟨_,rfl,_,rfl,_,_,rfl,rfl,?_⟩
        refine ⟨_,rfl,?_⟩
        refine slA_loE (k:=i+1) (by omega) (s4 _ _ (s3 _ _ (s2 _ _ ha'))) fun c5 H5 s5 e5=>?_
        refine catU (s5 _ _ e4) e5 (by rw [List.length_append,List.length_take,List.length_drop,List.length_map]; show min i cs.length+1+(cs.length - (i+1))≤1000; omega) fun c6 H6 s6 e6=>?_
        refine k' _ H6 ((((s2.trans s3).trans s4).trans s5).trans s6) ⟨hi',ctD_of ?_⟩
        rw [e6]
        unfold bump
        rw [List.map_append,List.map_append,List.map_take,List.map_drop]
        rfl
      · refine k D ys H4 (s1.free hD) hD4 ?_ (s1.trans s4)
        unfold nexts
        rw [if_neg eg]
        refine RepL.ofIdx (by rw [hy4,List.length_map,List.length_map,List.length_range]; omega) fun i y hi=>?_
        obtain ⟨h1,h2⟩:=hr4 i y hi
        exact ⟨ctD (bump cs i),by rw [List.getElem?_map,List.getElem?_map,List.getElem?_range h1]; rfl,h2⟩
end
theorem nodup_len {α:Type} [DecidableEq α]:∀ {l m:List α},l.Nodup→(∀ x∈l,x∈m)→l.length≤m.length
  | [],m,_,_=>Nat.zero_le _
  | x::l,m,h,hs=>by
    rw [List.nodup_cons] at h
    have hx:=hs x (List.mem_cons_self ..)
    have h1:=nodup_len (l:=l) (m:=m.erase x) h.2 fun y hy=>(List.mem_erase_of_ne (fun e=>by subst e; exact h.1 hy)).mpr (hs y (List.mem_cons_of_mem _ hy))
    rw [List.length_erase_of_mem hx] at h1
    have:0<m.length:=List.length_pos_of_mem hx
    rw [List.length_cons]
    omega
def allC:Nat→Nat→List (List Int)
  | 0,m=>if m=0 then [[]] else []
  | F+1,m=>(List.range (m+1)).flatMap fun k=>(allC F (m - k)).map fun c=>((k:Nat):Int)::c
theorem nn_sum:∀ {c:List Int},(∀ x∈c,0≤x)→0≤c.sum
  | [],_=>by simp
  | x::c,h=>by
    have h1:=nn_sum (c:=c) fun y hy=>h y (List.mem_cons_of_mem _ hy)
    have h2:=h x (List.mem_cons_self ..)
    rw [List.sum_cons]; omega
theorem allC_mem:∀ {F m:Nat} {c:List Int},c.length=F→(∀ x∈c,0≤x)→c.sum=(m:Int)→c∈allC F m
  | 0,m,c,hl,_,hs=>by
    cases c with
    | nil =>
      rw [List.sum_nil] at hs
      unfold allC
      rw [if_pos (by omega)]
      exact List.mem_cons_self ..
    | cons _ _=>simp at hl
  | F+1,m,c,hl,hn,hs=>by
    cases c with
    | nil=>simp at hl
    | cons x c =>
      have h2:=hn x (List.mem_cons_self ..)
      have hn':∀ y∈c,0≤y:=fun y hy=>hn y (List.mem_cons_of_mem _ hy)
      have h1:=nn_sum hn'
      rw [List.sum_cons] at hs
      unfold allC
      refine List.mem_flatMap.mpr ⟨x.toNat,List.mem_range.mpr (by omega),List.mem_map.mpr ⟨c,allC_mem (by simpa using hl) hn' (by omega),?_⟩⟩
      rw [show ((x.toNat:Nat):Int)=x by omega]
structure CtOk (F:Nat) (j:Nat) (c:List Int):Prop where
  len:c.length=F
  nn:∀ x∈c,0≤x
  sum:c.sum=(j:Int)
structure LvOk (F:Nat) (j:Nat) (cs:List (List Int)):Prop where
  nd:cs.Nodup
  each:∀ c∈cs,CtOk F j c
theorem lens_ok:(∀ m≤4,(allC 2 m).length<64)∧(∀ m≤3,(allC 3 m).length<64)∧(∀ m≤2,(allC 4 m).length<64):=by decide
theorem LvOk.few {F W M j:Nat} {cs:List (List Int)} (h:LvOk F j cs) (z:SzOk F W M) (hj:j≤M):cs.length<64:=by
  have h1:=nodup_len h.nd fun c hc=>allC_mem (h.each c hc).len (h.each c hc).nn (h.each c hc).sum
  obtain ⟨l2,l3,l4⟩:=lens_ok
  rcases z.f with ⟨rfl,hM⟩ | ⟨rfl,hM⟩ | ⟨rfl,hM⟩
  · exact Nat.lt_of_le_of_lt h1 (l2 j (by omega))
  · exact Nat.lt_of_le_of_lt h1 (l3 j (by omega))
  · exact Nat.lt_of_le_of_lt h1 (l4 j (by omega))
theorem bump_set {cs:List Int} {i:Nat} (h:i<cs.length):bump cs i=cs.set i (cs.getD i 0+1):=by
  unfold bump
  rw [List.set_eq_take_append_cons_drop,if_pos h,List.append_assoc]; rfl
theorem bump_ok {F j:Nat} {c:List Int} (h:CtOk F j c) {i:Nat} (hi:i<c.length):CtOk F (j+1) (bump c i):=by
  have hg:c.getD i 0∈c:=by
    rw [List.getD_eq_getElem?_getD,List.getElem?_eq_getElem hi]; exact List.getElem_mem hi
  refine ⟨by rw [bump_set hi,List.length_set]; exact h.len,fun x hx=>?_,?_⟩
  · rw [bump_set hi] at hx
    rcases List.mem_or_eq_of_mem_set hx with hx | rfl
    · exact h.nn x hx
    · have:=h.nn _ hg; omega
  · have e:c=c.take i++[c.getD i 0]++c.drop (i+1):=by
      have e1:c.getD i 0=c[i]:=by rw [List.getD_eq_getElem?_getD,List.getElem?_eq_getElem hi]; rfl
      rw [e1,List.append_assoc,List.singleton_append,← List.drop_eq_getElem_cons hi,List.take_append_drop]
    have hs:=h.sum
    have e2:c.sum=(c.take i).sum+c.getD i 0+(c.drop (i+1)).sum:=by
      conv=>lhs; rw [e]
      rw [List.sum_append,List.sum_append,List.sum_singleton]
    unfold bump
    rw [List.sum_append,List.sum_append,List.sum_singleton]
    omega
theorem bump_inj {c:List Int} {i k:Nat} (hi:i<c.length) (hk:k<c.length) (e:bump c i=bump c k):i=k:=by
  by_cases h:i=k
  · exact h
  · rw [bump_set hi,bump_set hk] at e
    have e1:=congrArg (fun l=>l[i]?) e
    rw [List.getElem?_set_self (by simpa using hi),List.getElem?_set_ne (Ne.symm h),List.getElem?_eq_getElem hi,List.getD_eq_getElem?_getD,List.getElem?_eq_getElem hi] at e1
    injection e1 with e1
    exact absurd e1 (by show ¬ (c[i]+1=c[i]); omega)
theorem nodup_map_on {α β:Type} {f:α→β}:∀ {l:List α},l.Nodup→(∀ x∈l,∀ y∈l,f x=f y→x=y)→(l.map f).Nodup
  | [],_,_=>List.nodup_nil
  | x::l,h,k=>by
    rw [List.nodup_cons] at h
    rw [List.map_cons,List.nodup_cons]
    refine ⟨fun hm=>?_,nodup_map_on h.2 fun a ha b hb=>k a (List.mem_cons_of_mem _ ha) b (List.mem_cons_of_mem _ hb)⟩
    obtain ⟨y,hy,e⟩:=List.mem_map.mp hm
    have:=k y (List.mem_cons_of_mem _ hy) x (List.mem_cons_self ..) e
    subst this
    exact h.1 hy
theorem nexts_ok {F j:Nat} {c:List Int} (h:CtOk F j c) (f:Fr):LvOk F (j+1) (nexts c f):=by
  unfold nexts
  split
  · exact ⟨List.nodup_nil,fun c hc=>by cases hc⟩
  · refine ⟨nodup_map_on List.nodup_range fun x hx y hy e=>bump_inj (by simpa using hx) (by simpa using hy) e,fun d hd=>?_⟩
    obtain ⟨i,hi,rfl⟩:=List.mem_map.mp hd
    exact bump_ok h (by simpa using hi)
theorem LvOk.more {F j:Nat} {ls ms:List (List Int)} (h1:LvOk F j ls) (h2:LvOk F j ms):LvOk F j (ls++ms.filter fun c=>!decide (c∈ls)):=by
  refine ⟨List.nodup_append.mpr ⟨h1.nd,h2.nd.filter _,fun a ha b hb e=>?_⟩,fun c hc=>?_⟩
  · subst e
    have:=(List.mem_filter.mp hb).2
    simp [ha] at this
  · rcases List.mem_append.mp hc with hc | hc
    · exact h1.each c hc
    · exact h2.each c (List.mem_filter.mp hc).1
theorem LvOk.perm {F j:Nat} {ls ms:List (List Int)} (h:LvOk F j ls) (p:ms.Perm ls):LvOk F j ms:=⟨p.nodup_iff.mpr h.nd,fun c hc=>h.each c (p.mem_iff.mp hc)⟩
theorem perm_ix {α:Type} (d:α) {cs:List α} {ix:List Nat} (h:ix.Perm (List.range cs.length)):(ix.map fun i=>cs.getD i d).Perm cs:=by
  have h1:=h.map fun i=>cs.getD i d
  have e:(List.range cs.length).map (fun i=>cs.getD i d)=cs:=by
    apply List.ext_getElem?
    intro i
    rw [List.getElem?_map]
    by_cases hi:i<cs.length
    · rw [List.getElem?_range hi,List.getElem?_eq_getElem hi,Option.map_some,List.getD_eq_getElem?_getD,List.getElem?_eq_getElem hi]; rfl
    · rw [List.getElem?_eq_none (by simpa using hi),List.getElem?_eq_none (by omega)]; rfl
  rwa [e] at h1
abbrev Ent:=List Int × List Fr
abbrev enD (e:Ent):PyData:=.tuple [ctD e.1,shD e.2]
abbrev ruD (es:List Ent):PyData:=.tuple (es.map enD)
theorem enD_flat (e:Ent):flatD (enD e)=true:=by
  show (flatD (ctD e.1)&&(flatD (shD e.2)&&true))=true
  rw [ctD_flat,shD_flat]; rfl
def hd (fs:List Fr):Fr:=fs.headD (0,1)
structure Clo (F:Nat) (es:List Ent) (cs:List (List Int)):Prop where
  fwd:∀ e∈es,∀ c∈nexts e.1 (hd e.2),c∈es.map (·.1)∨c∈cs
  bwd:∀ c,c∈es.map (·.1)∨c∈cs→c=List.replicate F 0∨∃ e∈es,c∈nexts e.1 (hd e.2)
  zero:List.replicate F 0∈es.map (·.1)∨List.replicate F 0∈cs
def LvFrom (ls:List (List Int)) (ne:List Ent):Prop:=∀ c,c∈ls ↔ ∃ e∈ne,c∈nexts e.1 (hd e.2)
theorem LvFrom.more {ls:List (List Int)} {ne:List Ent} {e:Ent} (h:LvFrom ls ne):LvFrom (ls++(nexts e.1 (hd e.2)).filter fun c=>!decide (c∈ls)) (ne++[e]):=fun c=>by
  rw [List.mem_append,List.mem_filter]
  constructor
  · rintro (hl | ⟨hc,_⟩)
    · obtain ⟨a,ha,hc⟩:=(h c).mp hl
      exact ⟨a,List.mem_append_left _ ha,hc⟩
    · exact ⟨e,List.mem_append_right _ (List.mem_singleton.mpr rfl),hc⟩
  · rintro ⟨a,ha,hc⟩
    rcases List.mem_append.mp ha with ha | ha
    · exact .inl ((h c).mpr ⟨a,ha,hc⟩)
    · rw [List.mem_singleton] at ha
      subst ha
      by_cases hl:c∈ls
      · exact .inl hl
      · exact .inr ⟨hc,by simp [hl]⟩
theorem Clo.step {F:Nat} {es ne:List Ent} {cs cs2 ls:List (List Int)} (h:Clo F es cs) (hp:cs2.Perm cs) (hm:ne.map (·.1)=cs2) (hl:LvFrom ls ne):Clo F (es++ne) ls:=by
  have hk:∀ c,c∈(es++ne).map (·.1)↔c∈es.map (·.1)∨c∈cs:=fun c=>by rw [List.map_append,List.mem_append,hm,hp.mem_iff]
  refine ⟨fun e he c hc=>?_,fun c hc=>?_,.inl ((hk _).mpr h.zero)⟩
  · rcases List.mem_append.mp he with he | he
    · exact .inl ((hk c).mpr (h.fwd e he c hc))
    · exact .inr ((hl c).mpr ⟨e,he,hc⟩)
  · rcases hc with hc | hc
    · rcases h.bwd c ((hk c).mp hc) with h0 | ⟨e,he,h1⟩
      · exact .inl h0
      · exact .inr ⟨e,List.mem_append_left _ he,h1⟩
    · obtain ⟨e,he,h1⟩:=(hl c).mp hc
      exact .inr ⟨e,List.mem_append_right _ he,h1⟩
structure RuOk (F W M:Nat) (es:List Ent):Prop where
  ne:es≠[]
  nd:(es.map (·.1)).Nodup
  each:∀ e∈es,e.1.length=F∧(∀ x∈e.1,0≤x)∧e.1.sum≤(M:Int)∧SyOk (1+W) e.2
  asc:(es.map fun e=>e.1.sum).Pairwise (· ≤ ·)
  len:es.length≤320
  clo:Clo F es []
structure RuTo (F W M j:Nat) (es:List Ent):Prop where
  nd:(es.map (·.1)).Nodup
  each:∀ e∈es,e.1.length=F∧(∀ x∈e.1,0≤x)∧e.1.sum<(j:Int)∧e.1.sum≤(M:Int)∧SyOk (1+W) e.2
  asc:(es.map fun e=>e.1.sum).Pairwise (· ≤ ·)
  len:es.length≤64*j
structure RuIn (F W M j:Nat) (es0 es:List Ent) (cs:List (List Int)):Prop where
  ex:∃ ne:List Ent,es=es0++ne∧ne.map (·.1)=cs∧∀ e∈ne,SyOk (1+W) e.2
theorem RuIn.done {F W M j:Nat} {es0 es:List Ent} {cs:List (List Int)} (h0:RuTo F W M j es0) (h:RuIn F W M j es0 es cs) (l:LvOk F j cs) (hj:j≤M) (hl:cs.length≤64):RuTo F W M (j+1) es:=by
  obtain ⟨ne,rfl,hm,hs⟩:=h.ex
  have hin:∀ e∈ne,CtOk F j e.1:=fun e he=>l.each e.1 (hm ▸ List.mem_map_of_mem he)
  refine ⟨?_,fun e he=>?_,?_,?_⟩
  · rw [List.map_append]
    refine List.nodup_append.mpr ⟨h0.nd,hm ▸ l.nd,fun a ha b hb e=>?_⟩
    subst e
    obtain ⟨e1,m1,rfl⟩:=List.mem_map.mp ha
    have:=(h0.each e1 m1).2.2.1
    rw [hm] at hb
    have:=(l.each _ hb).sum
    omega
  · rcases List.mem_append.mp he with he | he
    · obtain ⟨a1,a2,a3,a4,a5⟩:=h0.each e he
      exact ⟨a1,a2,by omega,a4,a5⟩
    · have c:=hin e he
      have:=c.sum
      exact ⟨c.len,c.nn,by omega,by omega,hs e he⟩
  · rw [List.map_append]
    refine List.pairwise_append.mpr ⟨h0.asc,?_,fun a ha b hb=>?_⟩
    · have:∀ x∈ne.map (fun e=>e.1.sum),x=(j:Int):=fun x hx=>by
        obtain ⟨e,he,rfl⟩:=List.mem_map.mp hx
        exact (hin e he).sum
      exact List.pairwise_of_forall_mem_list fun a ha b hb=>by rw [this a ha,this b hb]; exact Int.le_refl _
    · obtain ⟨e1,m1,rfl⟩:=List.mem_map.mp ha
      obtain ⟨e2,m2,rfl⟩:=List.mem_map.mp hb
      have:=(h0.each e1 m1).2.2.1
      have:=(hin e2 m2).sum
      omega
  · have hne:ne.length=cs.length:=by rw [← hm,List.length_map]
    have:=h0.len
    rw [List.length_append]
    omega
theorem RuTo.rule {F W M j:Nat} {es:List Ent} (h:RuTo F W M j es) (hj:j≤5) (hne:es≠[]) (cl:Clo F es []):RuOk F W M es :=
  ⟨hne,h.nd,fun e he=>⟨(h.each e he).1,(h.each e he).2.1,(h.each e he).2.2.2.1,(h.each e he).2.2.2.2⟩,h.asc,by have:=h.len; omega,cl⟩
@[irreducible] def sp_rule:Sp:=fun vs H Q _=>∃ (p:Addr) (n F W M:Nat) (pl:Bool),vs=[.ref p,.int (F:Int),.int (W:Int),.int (M:Int),.bl pl]∧TapeAt H p (n+8192)∧SzOk F W M∧∀ v es H',TapeAt H' p n→SameBut p H H'→Rep H' (ruD es) v→RuOk F W M es→Q v H'
theorem sp_rule_i {H:Hp} {Q:VK} {E:XK} {p:Addr} {n F W M:Nat} {pl:Bool} (T:TapeAt H p (n+8192)) (z:SzOk F W M) (k:∀ v es H',TapeAt H' p n→SameBut p H H'→Rep H' (ruD es) v→RuOk F W M es→Q v H'):sp_rule [.ref p,.int (F:Int),.int (W:Int),.int (M:Int),.bl pl] H Q E:=by
  unfold sp_rule; exact ⟨p,n,F,W,M,pl,rfl,T,z,k⟩
theorem cs_shaped (cs:List (List Int)):SeqAt.shaped (.list (cs.map ctD))=true:=by
  have hl:∀ cs:List (List Int),PyData.canLayAll0 (cs.map ctD)=true:=fun cs=>by
    induction cs with
    | nil=>rfl
    | cons c cs ih =>
      show (PyData.canLay0 (ctD c)&&PyData.canLayAll0 (cs.map ctD))=true
      rw [ih,show PyData.canLay0 (ctD c)=PyData.canLayAll0 (c.map .int) from rfl,layIs]; rfl
  have hd:∀ cs:List (List Int),PyData.depthAll (cs.map ctD)≤2:=fun cs=>by
    induction cs with
    | nil=>show 0≤2; omega
    | cons c cs ih =>
      show max (PyData.depth (ctD c)) (PyData.depthAll (cs.map ctD))≤2
      have:=depIs c
      have:PyData.depth (ctD c)≤2:=by simp only [PyData.depth]; omega
      omega
  unfold SeqAt.shaped
  rw [show PyData.canLay0 (.list (cs.map ctD))=PyData.canLayAll0 (cs.map ctD) from rfl,hl,Bool.true_and,decide_eq_true_eq]
  have:=hd cs
  simp only [PyData.depth]
  omega
theorem eqv_nil (cs:List (List Int)):PyData.eqv (.list (cs.map ctD)) (.list [])=decide (cs=[]):=by
  cases cs with
  | nil=>rfl
  | cons c cs=>show PyData.eqvAll (ctD c::cs.map ctD) []=_; simp [PyData.eqvAll]
theorem cts_flat:∀ cs:List (List Int),flatDs (cs.map ctD)=true
  | []=>rfl
  | c::cs=>by show (flatD (ctD c)&&flatDs (cs.map ctD))=true; rw [ctD_flat,cts_flat cs]; rfl
theorem ens_flat:∀ es:List Ent,flatDs (es.map enD)=true
  | []=>rfl
  | e::es=>by show (flatD (enD e)&&flatDs (es.map enD))=true; rw [enD_flat,ens_flat es]; rfl
theorem repl_ix {H:Hp} {cs:List (List Int)} {ws:List V} (r:RepL H (cs.map ctD) ws):∀ ix:List Nat,(∀ i∈ix,i<cs.length)→RepL H ((ix.map fun i=>cs.getD i []).map ctD) (ix.map fun i=>ws.getD i .non)
  | [],_=>RepL.nil
  | i::ix,h=>by
    have hi:=h i (List.mem_cons_self ..)
    obtain ⟨x,hx,rx⟩:=RepL.atX r (i:=i) (a:=cs[i]) (by simp [hi])
    have e1:cs.getD i []=cs[i]:=by simp [hi]
    have e2:ws.getD i .non=x:=by rw [List.getD_eq_getElem?_getD,hx]; rfl
    refine RepL.cons ?_ (repl_ix r ix fun j hj=>h j (List.mem_cons_of_mem _ hj))
    show Rep H (ctD (cs.getD i [])) (ws.getD i .non)
    rw [e1,e2]; exact rx
theorem RuIn.snoc {F W M j:Nat} {es0 es:List Ent} {cs:List (List Int)} {c:List Int} {fs:List Fr} (h:RuIn F W M j es0 es cs) (ok:SyOk (1+W) fs):RuIn F W M j es0 (es++[(c,fs)]) (cs++[c]):=by
  obtain ⟨ne,rfl,hm,hs⟩:=h.ex
  refine ⟨ne++[(c,fs)],by rw [List.append_assoc],by rw [List.map_append,hm]; rfl,fun e he=>?_⟩
  rcases List.mem_append.mp he with he | he
  · exact hs e he
  · rw [List.mem_singleton] at he; subst he; exact ok
theorem RuIn.len {F W M j:Nat} {es0 es:List Ent} {cs:List (List Int)} (h:RuIn F W M j es0 es cs):es.length=es0.length+cs.length:=by
  obtain ⟨ne,rfl,hm,hs⟩:=h.ex
  rw [List.length_append,← hm,List.length_map]
section
variable {P:Program} {w:World} {K:PySem.W.Frag} {mg:Str→Option Value} {base:Heap} {c:Cl}
set_option maxHeartbeats 4000000 in
theorem ok__law_rule {f:Addr} {fd:FuncData} (F:Fun K "_law_rule" "_law_rule" s__law_rule f fd) (T:Txt K mg c)
    (F__law_says:FnC CX0 P w K mg base 3 "_law_says" ["_law_tape_here", "_law_ways", "_law_stops", "_law_plain"] sp_says) (F__law_next:FnC CX0 P w K mg base 1 "_law_next" ["_law_counts", "_law_says_here"] sp_next):FnOk P w K mg base CX0 4 f fd ["_law_tape_here", "_law_faces", "_law_ways", "_law_most", "_law_plain"] sp_rule:=by
  refine F.okw sc__law_rule (fun vs H Q E h=>?_) (fun cdv A outer s H vs Q E hr h=>?_)
  · unfold sp_rule at h
    obtain ⟨p,n,F,W,M,pl,rfl,_⟩:=h
    rfl
  · unfold sp_rule at h
    obtain ⟨p,n,F,W,M,pl,rfl,TP,Z,k⟩:=h
    refine ⟨_,(wss_cons (ws_set (i:=5) sc__law_rule.nd rfl (Or.inl rfl) (we_lst wa_nil))
      (wss_cons (ws_set (i:=6) sc__law_rule.nd rfl (Or.inl rfl) (we_lst (wa_k (we_op op_mulT (we_tup (wa_k we_int wa_nil)) (we_v 1)) wa_nil)))
      (wss_cons (ws_while PassesOwn.never (wt_cmp (op_neD hr.units) (we_v 6) (we_lst wa_nil) (nomark _)) (wss_cons (ws_set (i:=7) sc__law_rule.nd rfl (Or.inr rfl) (we_lst wa_nil))
      (wss_cons (ws_for PassesOwn.never rfl (wi_list (we_cB (cl_srt K) (by rfl) T.b_sorted (by decide +kernel) (wa_k (we_v 6) wa_nil))) (wg_name (i:=8) sc__law_rule.nd rfl (Or.inl rfl)) (wss_cons (ws_set (i:=9) sc__law_rule.nd rfl (Or.inl rfl) (we_fn F__law_says (hr.mono (by decide)) (wa_k (we_v 0) (wa_k (we_v 2) (wa_k (we_cmp op_eq (we_cB (cl_sumT K rfl) (by rfl) T.b_sum (by decide +kernel) (wa_k (we_v 8) wa_nil)) (we_v 3) (nomark _)) (wa_k (we_v 4) wa_nil))))))
      (wss_cons (ws_expr (we_bm PySem.F.plainAttrs_list PySem.F.slot_list_append PySem.F.type_list_append mt_app (we_v 5) (wa_k (we_tup (wa_k (we_v 8) (wa_k (we_v 9) wa_nil))) wa_nil)))
      (wss_one (ws_expr (we_bm PySem.F.plainAttrs_list PySem.F.slot_list_extend PySem.F.type_list_extend mt_ext (we_v 7) (wa_k (we_comp (CScope.of (psc:=defScope s__law_rule) (N:=["_law_tape_here", "_law_faces", "_law_ways", "_law_most", "_law_plain", "_law_found", "_law_level", "_law_later", "_law_counts", "_law_says_here"]) (N':=["_law_one", "_law_later"]) (js:=[7]) (by decide +kernel) rfl rfl rfl) (wi_list (we_fn F__law_next (hr.mono (by decide)) (wa_k (we_v 8) (wa_k (we_v 9) wa_nil)))) (fun _ _ _ _=>wts_one (wt_cmp (op_notinT K hr.units) (we_v 0) (we_v 1) (by with_unfolding_all rfl))) (fun _ _ _ _=>(we_v 0))) wa_nil)))))))
      (wss_one (ws_set (i:=6) sc__law_rule.nd rfl (Or.inl rfl) (we_v 7))))))
      (wss_one (ws_ret (we_cT call_tuple_of (by rfl) T.b_tuple (by decide +kernel) (wa_k (we_v 5) wa_nil))))))),?_⟩
    refine nwL (by show 0≤64; decide) fun fo H1 hfo e1 s1=>?_
    refine nwT (by show 1≤64; decide) fun q2 H2 hq2 e2 s2=>?_
    refine ⟨_,rfl,?_⟩
    have hF:2≤F∧F≤4:=by have:=Z.f; omega
    refine mulT e2 hF.1 (by omega) fun q3 H3 s3 e3=>?_
    refine nwL (by show 1≤64; decide) fun le H4 hle e4 s4=>?_
    have nlf:fo≠p:=TP.ne hfo
    have F4:=(((TP.same s1).same s2).same s3).same s4
    have S4:SameBut p H H4:=((((s1.trans s2).trans s3).trans s4)).but
    have rz:Rep H4 (ctD (List.replicate F 0)) (.ref q3):=ctD_of (by rw [s4 _ _ e3,List.map_replicate])
    have ok0:CtOk F 0 (List.replicate F 0):=⟨List.length_replicate,fun x hx=>by have:=List.eq_of_mem_replicate hx; omega,by
      have:∀ k:Nat,(List.replicate k (0:Int)).sum=0:=fun k=>by
        induction k with
        | zero=>rfl
        | succ k ih=>rw [List.replicate_succ,List.sum_cons,ih]; rfl
      rw [this]; rfl⟩
    have e1':=s4 _ _ (s3 _ _ (s2 _ _ e1))
    have hle0:H le=none:=((s1.trans s2).trans s3).free hle
    have nlp:le≠p:=TP.ne hle0
    have nfl:le≠fo:=fun e=>by subst e; rw [s3 _ _ (s2 _ _ e1)] at hle; cases hle
    refine while_r (fun m σ H'=>∃ (j:Nat) (le:Addr) (o7 o8 o9:Option V) (vs ws:List V) (es:List Ent) (cs:List (List Int)),σ=[some (.ref p),some (.int (F:Int)),some (.int (W:Int)),some (.int (M:Int)),some (.bl pl),some (.ref fo),some (.ref le),o7,o8,o9] ∧
        m=6 - j∧j≤M+1∧(j≤M∨cs=[])∧(j=0→cs≠[])∧(0<j→es≠[])∧TapeAt H' p (n+1024*(6 - j))∧SameBut p H H'∧H' fo=some (.lst vs)∧RepL H' (es.map enD) vs∧H' le=some (.lst ws)∧RepL H' (cs.map ctD) ws∧H le=none∧le≠fo∧LvOk F j cs∧RuTo F W M j es∧Clo F es cs)
      (fun σ H'=>∃ (le:Addr) (o7 o8 o9:Option V) (vs:List V) (es:List Ent),σ=[some (.ref p),some (.int (F:Int)),some (.int (W:Int)),some (.int (M:Int)),some (.bl pl),some (.ref fo),some (.ref le),o7,o8,o9]∧TapeAt H' p n∧SameBut p H H'∧H' fo=some (.lst vs)∧RepL H' (es.map enD) vs∧RuOk F W M es)
      6 ⟨0,le,none,none,none,[],_,[],[List.replicate F 0],rfl,rfl,by omega,.inl (by omega),fun _ h=>by (cases h),fun h=>by omega,F4.less (by omega),S4,e1',RepL.nil,e4,RepL.cons rz RepL.nil,hle0,nfl,⟨by simp,fun c hc=>by (rw [List.mem_singleton] at hc; subst hc; exact ok0)⟩,⟨List.nodup_nil,fun e he=>by (cases he),List.Pairwise.nil,Nat.zero_le _⟩,⟨fun e he=>by (cases he),fun c hc=>.inl (by simpa using hc),.inr (by simp)⟩⟩ ?_ ?_
    · clear e1 e2 e3 e4 s1 s2 s3 s4 F4 S4 rz ok0 e1' hle0 nlp nfl hle hq2
      rintro m σ H1 ⟨j,le,o7,o8,o9,vs,ws,es,cs,rfl,rfl,hj,hjc,hj0,hes,F1,S1,hfo1,rfo,hle1,rle,hle0,nfl,LV,RT,CL⟩
      have nlp:le≠p:=TP.ne hle0
      refine ⟨_,rfl,?_⟩
      refine nwL (by show 0≤64; decide) fun q5 H5 hq5 e5 s5=>?_
      refine reD (Rep.lst (s5 _ _ hle1) (rle.same s5)) (Rep.lst e5 RepL.nil) (cs_shaped cs) rfl ?_
      rw [eqv_nil]
      refine ⟨_,rfl,?_⟩
      have hM:M≤4:=by have:=Z.f; omega
      by_cases hc:cs=[]
      · rw [decide_eq_true hc]
        refine iteF ⟨le,o7,o8,o9,vs,es,rfl,(F1.same s5).less (by omega),S1.trans s5.but,s5 _ _ hfo1,rfo.same s5,RT.rule (by omega) (hes ?_) (hc ▸ CL)⟩
        have:j≠0:=fun e=>hj0 e hc
        omega
      · rw [decide_eq_false hc]
        refine iteT ?_
        have hjM:j≤M:=by
          rcases hjc with h | h
          · exact h
          · exact absurd h hc
        have few:=LV.few Z hjM
        have lw':ws.length=cs.length:=by rw [rle.len,List.length_map]
        refine nwL (by show 0≤64; decide) fun la H6 hla e6 s6=>?_
        refine ⟨_,rfl,?_⟩
        have s16:=s5.trans s6
        refine rsrt (cs:=cs) (SqL.of (s16 _ _ hle1)) (rle.same s16) (fun c hc' h=>by have:=(LV.each c hc').len; rw [h] at this; simp at this; omega) (by omega) fun so ix H7 hix _ hso e7 s7=>?_
        rw [lw'] at hix
        have hixl:∀ i∈ix,i<cs.length:=fun i hi=>by have:=hix.mem_iff.mp hi; simpa using this
        have lix:ix.length=cs.length:=by rw [hix.length_eq,List.length_range]
        have LV2:LvOk F j (ix.map fun i=>cs.getD i []):=LV.perm (perm_ix [] hix)
        have hpm:=perm_ix [] hix
        have s17:=s16.trans s7
        have rso:RepL H7 ((ix.map fun i=>cs.getD i []).map ctD) (ix.map fun i=>ws.getD i .non):=repl_ix (rle.same s17) ix hixl
        have lcs:(ix.map fun i=>cs.getD i []).length=cs.length:=by rw [List.length_map,lix]
        generalize hcs2:(ix.map fun i=>cs.getD i [])=cs2 at *
        generalize hys2:(ix.map fun i=>ws.getD i V.non)=ys2 at *
        have lys:ys2.length=cs2.length:=by rw [rso.len,List.length_map]
        have hla0:H la=none:=SameBut.free S1 F1.there (s5.free hla)
        have hso0:H so=none:=SameBut.free S1 F1.there (s16.free hso)
        have nla:la≠p:=TP.ne hla0
        have nso:so≠p:=TP.ne hso0
        have nlf':la≠fo:=fun e=>by subst e; rw [s5 _ _ hfo1] at hla; cases hla
        have nsf:so≠fo:=fun e=>by subst e; rw [s16 _ _ hfo1] at hso; cases hso
        have nsl:so≠la:=fun e=>by subst e; rw [e6] at hso; cases hso
        refine ⟨so,rfl,⟨_,SqL.of e7⟩,?_⟩
        refine for_list (xs:=ys2) (fun i σ H'=>∃ (o8 o9:Option V) (vs2 us:List V) (es2:List Ent) (ls:List (List Int)),σ=[some (.ref p),some (.int (F:Int)),some (.int (W:Int)),some (.int (M:Int)),some (.bl pl),some (.ref fo),some (.ref le),some (.ref la),o8,o9] ∧
            TapeAt H' p (n+1024*(6 - j) - 16*i)∧SameBut p H H'∧H' so=some (.lst ys2)∧H' fo=some (.lst vs2)∧RepL H' (es2.map enD) vs2∧H' la=some (.lst us)∧RepL H' (ls.map ctD) us∧RuIn F W M j es es2 (cs2.take i)∧LvOk F (j+1) ls∧(j=M→ls=[])∧RepL H' (cs2.map ctD) ys2∧LvFrom ls (es2.drop es.length))
          ⟨_,_,vs,[],es,[],rfl,(F1.same s17).less (by omega),S1.trans s17.but,e7,s17 _ _ hfo1,rfo.same s17,s7 _ _ e6,RepL.nil,⟨[],by rw [List.append_nil],rfl,fun e he=>by cases he⟩,⟨List.nodup_nil,fun c hc=>by cases hc⟩,fun _=>rfl,rso,fun c=>⟨(fun h=>by cases h),(fun ⟨e,he,_⟩=>by rw [List.drop_length] at he; cases he)⟩⟩ (fun i σ H' _ q=>?_) ?_ ?_
        · obtain ⟨_,_,_,_,_,_,_,_,_,h,_⟩:=q
          exact SqL.of h
        · rintro i x σ H' hx ⟨o8,o9,vs2,us,es2,ls,rfl,F',S',hso',hfo',rfo',hla',rla',RI,LS,hjm,rso',LF⟩
          obtain ⟨c,hci,rx⟩:=rso'.atI hx
          have hi:i<cs2.length:=(List.getElem?_eq_some_iff.mp hci).1
          have okc:=LV2.each c (List.mem_of_getElem? hci)
          obtain ⟨ax,rfl,hax⟩:=ctD_at rx
          refine ⟨_,rfl,_,rfl,_,rfl,?_⟩
          refine rsT (SqT.of hax) ?_
          refine ⟨_,rfl,rfl,_,rfl,?_⟩
          refine sp_says_i (n:=n+1024*(6 - j) - 16*(i+1)) (F'.less (by omega)) Z.w.1 Z.w.2 fun v fs H8 F8 s8 r8 ok8 st8=>?_
          have t8:=F'.t s8
          have hso8:=s8.at nso hso'
          have hfo8:=s8.at nlf hfo'
          have hla8:=s8.at nla hla'
          have rfo8:=rfo'.flat t8 (ens_flat _)
          have rla8:=rla'.flat t8 (cts_flat _)
          have rso8:=rso'.flat t8 (cts_flat _)
          have rx8:=rx.flat t8 (ctD_flat _)
          have hlen:vs2.length≤500:=by
            rw [rfo8.len,List.length_map,RI.len,List.length_take]
            have:=RT.len
            have:64*j≤64*5:=Nat.mul_le_mul_left _ (by omega)
            omega
          refine ⟨_,rfl,tyL hfo8,_,rfl,_,rfl,?_⟩
          refine nwT (by show 2≤64; decide) fun q9 H9 hq9 e9 s9=>?_
          refine appL (s9 _ _ hfo8) (by omega) fun H10 e10 s10=>?_
          have t10:=s10.t (s9 _ _ hfo8)
          have t910:=s9.t.trans t10
          have hso10:=s10.at nsf (s9 _ _ hso8)
          have hla10:=s10.at nlf' (s9 _ _ hla8)
          have rx10:=rx8.flat t910 (ctD_flat _)
          have r10:=r8.flat t910 (shD_flat _)
          have ren:Rep H10 (enD (c,fs)) (.ref q9):=Rep.tup (t10 _ _ e9) (RepL.cons rx10 (RepL.cons r10 RepL.nil))
          have rfo10:RepL H10 ((es2++[(c,fs)]).map enD) (vs2++[.ref q9]):=by
            rw [List.map_append]
            exact RepL.append (RepL.cons ren RepL.nil) (rfo8.flat t910 (ens_flat _))
          have F10:=(F8.same s9).but s10 nlf
          have S10:SameBut p H H10:=SameBut.thru hfo ((S'.trans s8).trans s9.but) s10
          obtain ⟨f0,fr,rfl⟩:∃ f0 fr,fs=f0::fr:=by
            cases fs with
            | nil=>exact absurd (ok8.len) (by rw [List.length_nil]; omega)
            | cons f0 fr=>exact ⟨f0,fr,rfl⟩
          have lfr:fr.length≤4:=by have:=ok8.len; rw [List.length_cons] at this; have:=Z.w; omega
          refine ⟨_,rfl,tyL hla10,_,rfl,_,rfl,?_⟩
          refine sp_next_i rx10 r10 (by rw [okc.len]; omega) lfr fun D ys H11 hD hD11 rD s11=>?_
          refine ⟨D,rfl,⟨_,SqL.of hD11⟩,?_⟩
          have NX:=nexts_ok okc f0
          have lnx:(nexts c f0).length≤4:=by
            unfold nexts
            split
            · exact Nat.zero_le _
            · rw [List.length_map,List.length_range,okc.len]; omega
          have rla11:=(rla8.flat t910 (cts_flat _)).same s11
          have llen:ls.length<64:=by
            by_cases h:j=M
            · rw [hjm h]; decide
            · exact LS.few Z (by omega)
          refine comp_fltD rD (fun d=>!decide (d∈ls)) (by rw [rD.len,List.length_map]; omega) hD11 (fun x' d H' Q' hd rx' s' k'=>?_) (fun x' H' Q' q=>⟨_,rfl,q⟩) (fun D2 ys2 H12 hD2 e12 s12 r12=>?_)
          · refine ⟨_,rfl,_,rfl,?_⟩
            refine riT (.inl (SqL.of (s' _ _ (s11 _ _ hla10)))) (rla11.same s') rx'.k ?_
            exact ⟨_,rfl,k' H' (Same.refl _)⟩
          · have s1112:=s11.trans s12
            refine extL (s1112 _ _ hla10) e12 (by rw [rla8.len,r12.len,List.length_map,List.length_map]; have:=List.length_filter_le (fun d=>!decide (d∈ls)) (nexts c f0); omega) fun H13 e13 s13=>?_
            have t13:=s13.t (s1112 _ _ hla10)
            have tt:=s1112.t.trans t13
            refine ⟨_,_,vs2++[.ref q9],us++ys2,es2++[(c,f0::fr)],ls++(nexts c f0).filter (fun d=>!decide (d∈ls)),rfl,(F10.same s1112).but s13 nla,SameBut.thru hla0 (S10.trans s1112.but) s13,s13.at nsl (s1112 _ _ hso10),s13.at (Ne.symm nlf') (s1112 _ _ e10),rfo10.flat tt (ens_flat _),e13,?_,?_,LS.more NX,fun h=>?_,(rso8.flat t910 (cts_flat _)).flat tt (cts_flat _),?_⟩
            · rw [List.map_append]
              exact RepL.append (r12.flat t13 (cts_flat _)) ((rla11.same s12).flat t13 (cts_flat _))
            · rw [List.take_succ,hci]
              exact RI.snoc ok8
            · have hsum:=okc.sum
              have:=st8 (decide_eq_true (by rw [hsum,h]))
              cases (show f0=(0,1) by simpa using this)
              rw [hjm h]
              rfl
            · have hle2:es.length≤es2.length:=by rw [RI.len]; omega
              rw [List.drop_append_of_le_length hle2]
              exact LvFrom.more (e:=(c,f0::fr)) LF
        · rintro σ H8 ⟨o8,o9,vs2,us,es2,ls,rfl,F8,S8,hso8,hfo8,rfo8,hla8,rla8,RI,LS,hjm,_,LF⟩
          rw [lys,List.take_length] at RI
          have RT2:=RI.done RT LV2 hjM (by omega)
          have CL2:Clo F es2 ls:=by
            obtain ⟨ne,e1,e2,_⟩:=RI.ex
            subst e1
            rw [List.drop_left] at LF
            exact CL.step hpm e2 LF
          refine ⟨_,rfl,6 - (j+1),by omega,j+1,la,_,_,_,vs2,us,es2,ls,rfl,rfl,by omega,?_,fun h=>by omega,fun _ h=>?_,F8.less (by rw [lys]; omega),S8,hfo8,rfo8,hla8,rla8,hla0,nlf',LS,RT2,CL2⟩
          · by_cases h:j=M
            · exact .inr (hjm h)
            · exact .inl (by omega)
          · have:=RI.len
            rw [h] at this
            have h0:cs.length≠0:=fun e=>hc (List.length_eq_zero_iff.mp e)
            simp at this
            omega
    · rintro σ H1 ⟨le,o7,o8,o9,vs,es,rfl,F1,S1,hfo1,rfo,RO⟩
      refine ⟨_,rfl,fo,vs,rfl,.inl ⟨SqL.of hfo1,fun l hl=>?_⟩⟩
      have sl:=Same.upd (o:=.tup vs) hl
      have el:(upd H1 l (.tup vs)) l=some (.tup vs):=upd_same
      generalize upd H1 l (.tup vs)=H2 at sl el
      exact k _ es H2 (F1.same sl) (S1.trans sl.but) (Rep.tup el (rfo.same sl)) RO
end
end Kw
set_option Elab.async false
set_option linter.all false
set_option maxRecDepth 100000
namespace Kw
open PySem L2 Mf Mt PySem.NumText
abbrev s_is_whole:Stmt:=(top 15)
theorem sc_is_whole:FnScope ["thing"] ["thing"] (defScope s_is_whole):=⟨rfl,rfl,rfl,by decide +kernel,rfl,by decide +kernel,by decide +kernel⟩
abbrev s_common_divisor:Stmt:=(top 16)
theorem sc_common_divisor:FnScope ["number", "above_nought", "divided", "divisor", "rest"] ["number", "above_nought"] (defScope s_common_divisor):=⟨rfl,rfl,rfl,by decide +kernel,rfl,by decide +kernel,by decide +kernel⟩
abbrev s_are_figures:Stmt:=(top 17)
theorem sc_are_figures:FnScope ["text"] ["text"] (defScope s_are_figures):=⟨rfl,rfl,rfl,by decide +kernel,rfl,by decide +kernel,by decide +kernel⟩
abbrev s_read_whole:Stmt:=(top 18)
theorem sc_read_whole:FnScope ["text", "figures"] ["text"] (defScope s_read_whole):=⟨rfl,rfl,rfl,by decide +kernel,rfl,by decide +kernel,by decide +kernel⟩
abbrev s_is_fraction:Stmt:=(top 20)
theorem sc_is_fraction:FnScope ["thing"] ["thing"] (defScope s_is_fraction):=⟨rfl,rfl,rfl,by decide +kernel,rfl,by decide +kernel,by decide +kernel⟩
abbrev s_read_fraction:Stmt:=(top 21)
theorem sc_read_fraction:FnScope ["text", "numbers", "read"] ["text"] (defScope s_read_fraction):=⟨rfl,rfl,rfl,by decide +kernel,rfl,by decide +kernel,by decide +kernel⟩
theorem ok_common_divisor {f:Addr} {fd:FuncData} (F:Fun K "common_divisor" "common_divisor" s_common_divisor f fd) (T:Txt K mg c):FnOk P w K mg base CX0 1 f fd ["number", "above_nought"] sp_cd:=by
  refine F.okw sc_common_divisor (fun vs H Q E h=>?_) (fun cdv A outer s H vs Q E hr h=>?_)
  · unfold sp_cd at h
    obtain ⟨n,d,rfl,_⟩:=h
    rfl
  · unfold sp_cd at h
    obtain ⟨n,d,rfl,hd,q⟩:=h
    refine ⟨_,(wss_cons (ws_set (i:=2) sc_common_divisor.nd rfl (Or.inl rfl) (we_v 0))
      (wss_cons (ws_set (i:=3) sc_common_divisor.nd rfl (Or.inl rfl) (we_v 1))
      (wss_cons (ws_while PassesOwn.never (wt_cmp op_ne (we_v 3) we_int (nomark _)) (wss_cons (ws_set (i:=4) sc_common_divisor.nd rfl (Or.inl rfl) (we_op op_mod (we_v 2) (we_v 3)))
      (wss_cons (ws_set (i:=2) sc_common_divisor.nd rfl (Or.inl rfl) (we_v 3))
      (wss_one (ws_set (i:=3) sc_common_divisor.nd rfl (Or.inl rfl) (we_v 4))))))
      (wss_one (ws_ret (we_v 2)))))),?_⟩
    refine ⟨_,rfl,_,rfl,?_⟩
    refine while_r (fun m σ H'=>∃ (a b:Int) (c:Option V),σ=[some (.int n),some (.int d),some (.int a),some (.int b),c]∧0≤b∧Int.gcd a b=Int.gcd n d∧(b=0→0<a)∧H'=H∧m=b.toNat)
      (fun σ H'=>∃ (c:Option V),σ=[some (.int n),some (.int d),some (.int (Int.gcd n d)),some (.int 0),c]∧H'=H)
      _ ⟨n,d,none,rfl,by omega,rfl,by omega,rfl,rfl⟩ ?_ ?_
    · rintro m σ H2 ⟨a,b,c,rfl,hb,hg,h0,rfl,rfl⟩
      refine ⟨_,rfl,rfl,_,rfl,?_⟩
      refine iteDN (fun e=>?_) (fun e=>?_)
      · have hb':0<b:=by
          rcases Int.lt_or_eq_of_le hb with h | h
          · exact h
          · exact absurd (congrArg V.int h.symm) e
        refine ⟨_,rfl,_,rfl,_,_,rfl,rfl,hb',_,rfl,_,rfl,?_⟩
        have e1:=Int.emod_lt_of_pos a hb'
        have e2:=Int.emod_nonneg a (b:=b) (by omega)
        exact ⟨_,by omega,b,a % b,_,rfl,e2,by rw [gcd_step,hg],fun _=>hb',rfl,rfl⟩
      · have hb0:b=0:=by injection e
        subst hb0
        have ha:=h0 rfl
        have e1:=gcd_end ha
        rw [hg] at e1
        rw [e1]
        exact ⟨c,rfl,rfl⟩
    · rintro σ H2 ⟨c,rfl,rfl⟩
      exact ⟨_,rfl,q⟩
def optV:Option Int→V
  | none=>.non
  | some n=>.int n
def optD:Option Int→PyData
  | none=>.none
  | some n=>.int n
theorem optR {H:Hp}:∀ o:Option Int,Rep H (optD o) (optV o)
  | none=>Rep.non
  | some n=>Rep.int n
@[irreducible] def sp_whole:Sp:=fun vs H Q _=>∃ o,vs=[optV o]∧Q (.bl o.isSome) H
theorem sp_whole_i {o:Option Int} {H:Hp} {Q:VK} {E:XK} (q:Q (.bl o.isSome) H):sp_whole [optV o] H Q E:=by unfold sp_whole; exact ⟨o,rfl,q⟩
@[irreducible] def sp_aref:Sp:=fun vs H Q _=>∃ t,vs=[.str t]∧t.length≤20000∧∀ H',Same H H'→Q (.bl (decide (1≤t.length)&&decide (t.length≤4000)&&figs t)) H'
theorem sp_aref_i {t:Str} {H:Hp} {Q:VK} {E:XK} (z:t.length≤20000) (q:∀ H',Same H H'→Q (.bl (decide (1≤t.length)&&decide (t.length≤4000)&&figs t)) H'):sp_aref [.str t] H Q E:=by unfold sp_aref; exact ⟨t,rfl,z,q⟩
@[irreducible] def sp_readw:Sp:=fun vs H Q _=>∃ t,vs=[.str t]∧t.length≤20000∧∀ H',Same H H'→Q (optV (rd t)) H'
theorem sp_readw_i {t:Str} {H:Hp} {Q:VK} {E:XK} (z:t.length≤20000) (q:∀ H',Same H H'→Q (optV (rd t)) H'):sp_readw [.str t] H Q E:=by unfold sp_readw; exact ⟨t,rfl,z,q⟩
theorem line20 {n:Nat} (h:n≤20000):n≤sizeLine:=Nat.le_trans h (by decide)
theorem iteNE {a b:Str} {A B:Prop} (h:a≠b) (x:A):if (!decide (V.str a=V.str b))=true then A else B:=by
  rw [decide_eq_false (fun z=>h (by injection z))]
  exact x
theorem rlS {K:PySem.W.Frag} {H:Hp} {Q:VK} {t:Str} (z:t.length≤sizeLine) (q:Q (.int t.length) H):rLen K [V.str t] H Q:=by
  unfold rLen
  refine ⟨_,_,rfl,?_,q⟩
  first | exact ⟨z,rfl⟩ | exact ⟨rfl,z⟩ | exact z | exact .inl ⟨z,rfl⟩ | exact rfl
section
variable {P:Program} {w:World} {K:PySem.W.Frag} {mg:Str→Option Value} {base:Heap} {c:Cl}
theorem ok_is_whole {f:Addr} {fd:FuncData} (F:Fun K "is_whole" "is_whole" s_is_whole f fd) (T:Txt K mg c):FnOk P w K mg base CX0 1 f fd ["thing"] sp_whole:=by
  refine F.okw sc_is_whole (fun vs H Q E h=>?_) (fun cdv A outer s H vs Q E hr h=>?_)
  · unfold sp_whole at h
    obtain ⟨o,rfl,_⟩:=h
    rfl
  · unfold sp_whole at h
    obtain ⟨o,rfl,q⟩:=h
    refine ⟨_,(wss_one (ws_ret (we_and (we_cB cl_isi (by rfl) T.b_isinstance (by decide +kernel) (wa_k (we_v 0) (wa_k (we_bltn (v:=.ty "int") (u:=.type "int") rfl T.b_int (by decide +kernel) rfl) wa_nil))) (we_one (we_not (we_cB cl_isi (by rfl) T.b_isinstance (by decide +kernel) (wa_k (we_v 0) (wa_k (we_bltn (v:=.ty "bool") (u:=.type "bool") rfl T.b_bool (by decide +kernel) rfl) wa_nil)))))))),?_⟩
    cases o with
    | none =>
      refine ⟨_,rfl,?_⟩
      refine riI Rep.non ?_
      refine ⟨_,rfl,?_⟩
      refine iteF ?_
      exact q
    | some n =>
      refine ⟨_,rfl,?_⟩
      refine riI (Rep.int n) ?_
      refine ⟨_,rfl,?_⟩
      refine iteT ?_
      refine ⟨_,rfl,?_⟩
      refine riI (Rep.int n) ?_
      refine ⟨_,rfl,?_⟩
      exact q
theorem ok_are_figures {f:Addr} {fd:FuncData} (F:Fun K "are_figures" "are_figures" s_are_figures f fd) (T:Txt K mg c):FnOk P w K mg base CX0 1 f fd ["text"] sp_aref:=by
  refine F.okw sc_are_figures (fun vs H Q E h=>?_) (fun cdv A outer s H vs Q E hr h=>?_)
  · unfold sp_aref at h
    obtain ⟨t,rfl,_⟩:=h
    rfl
  · unfold sp_aref at h
    obtain ⟨t,rfl,z,q⟩:=h
    refine ⟨_,(wss_one (ws_ret (we_and (we_chain op_le op_le we_int (we_cB cl_len (by rfl) T.b_len (by decide +kernel) (wa_k (we_v 0) wa_nil)) (we_glob (v:=.int 4000) rfl T.g_MOST_FIGURES ⟨_,rfl⟩)) (we_one (we_cB (cl_all rfl) (by rfl) T.b_all (by decide +kernel) (wa_k (we_comp (CScope.of (psc:=defScope s_are_figures) (N:=["text"]) (N':=["sign"]) (js:=[]) (by decide +kernel) rfl rfl rfl) (wi_str (we_v 0)) (fun _ _ _ _=>wts_nil) (fun _ _ _ _=>(we_cmp op_in_str (we_v 0) (we_glob (v:=.str (Str.ofString "0123456789")) rfl T.g_FIGURES ⟨_,rfl⟩) (by with_unfolding_all rfl)))) wa_nil)))))),?_⟩
    refine ⟨_,rfl,?_⟩
    refine rlS (line20 z) ?_
    refine ⟨_,_,rfl,rfl,_,rfl,?_⟩
    refine iteD (fun h1=>?_) (fun h1=>?_)
    · refine ⟨_,_,rfl,rfl,_,rfl,?_⟩
      refine iteD (fun h2=>?_) (fun h2=>?_)
      · refine ⟨_,rfl,_,rfl,?_⟩
        refine comp_str (x:=t) (fun _=>true) (fun x=>V.bl (dig x)) (by omega) (fun x H' Q' _ q=>q) (fun x H' Q' _ q=>?_) fun D H1 hD e s1=>?_
        · refine ⟨_,rfl,_,_,rfl,rfl,?_⟩
          rw [in_figs]
          exact q
        · have e:H1 D=some (.lst ((t.cps.toList.map dig).map V.bl)):=by
            rw [e,List.filter_eq_self.mpr (fun _ _=>rfl),List.map_map]
            rfl
          refine rall e ?_
          have q1:=q H1 s1
          rw [decide_eq_true (show 1≤t.length by omega),decide_eq_true (show t.length≤4000 by omega)] at q1
          have e2:(t.cps.toList.map dig).all id=figs t:=by unfold figs; rw [List.all_map]; rfl
          rw [e2]
          exact q1
      · have q1:=q H (Same.refl _)
        rw [decide_eq_false (show ¬ t.length≤4000 by omega),Bool.and_false,Bool.false_and] at q1
        exact q1
    · have q1:=q H (Same.refl _)
      rw [decide_eq_false (show ¬ 1≤t.length by omega),Bool.false_and,Bool.false_and] at q1
      refine ⟨_,rfl,?_⟩
      refine iteF ?_
      exact q1
theorem ok_read_whole {f:Addr} {fd:FuncData} (F:Fun K "read_whole" "read_whole" s_read_whole f fd) (T:Txt K mg c) (F_are_figures:FnC CX0 P w K mg base 1 "are_figures" ["text"] sp_aref):FnOk P w K mg base CX0 2 f fd ["text"] sp_readw:=by
  refine F.okw sc_read_whole (fun vs H Q E h=>?_) (fun cdv A outer s H vs Q E hr h=>?_)
  · unfold sp_readw at h
    obtain ⟨t,rfl,_⟩:=h
    rfl
  · unfold sp_readw at h
    obtain ⟨t,rfl,z,q⟩:=h
    refine ⟨_,(wss_cons (ws_cut (ws_set (i:=1) sc_read_whole.nd rfl (Or.inl rfl) (we_ifExp (wt_val (we_bm PySem.F.plainAttrs_str PySem.F.slot_str_startswith PySem.F.type_str_startswith mt_starts (we_v 0) (wa_k we_str wa_nil))) (we_slice sl_str (we_v 0) (wo_some we_int) wo_none) (we_v 0))))
      (wss_cons (ws_if (wt_not (wt_val (we_fn F_are_figures (hr.mono (by decide)) (wa_k (we_v 1) wa_nil)))) (wss_one (ws_ret we_non)) wss_nil)
      (wss_cons (ws_if (wt_w (ww_and (wt_val (we_bm PySem.F.plainAttrs_str PySem.F.slot_str_startswith PySem.F.type_str_startswith mt_starts (we_v 1) (wa_k we_str wa_nil))) (ww_and1 (wt_cmp op_ne (we_v 0) we_str (nomark _))))) (wss_one (ws_ret we_non)) wss_nil)
      (wss_one (ws_ret (we_cT (cl_intT T.nd) (by rfl) T.b_int (by decide +kernel) (wa_k (we_v 0) wa_nil))))))),?_⟩
    have zf:=fg_len t
    have es:Txt.startswith t (Str.ofString "-")=neg t:=starts_one t 45
    have e0:Txt.startswith (fg t) (Str.ofString "0")=decide ((fg t).cps.toList.head?=some 48):=starts_one (fg t) 48
    refine ⟨fun σ H'=>σ=[some (.str t),some (.str (fg t))]∧H'=H,?_,?_⟩
    · rintro σ H1 ⟨rfl,rfl⟩
      refine ⟨_,rfl,?_⟩
      refine sp_aref_i (by omega) fun H2 s2=>?_
      refine ⟨_,rfl,?_⟩
      have q2:=q H2 s2
      by_cases h1:(decide (1≤(fg t).length)&&decide ((fg t).length≤4000)&&figs (fg t))=true
      · rw [h1]
        refine iteF ?_
        refine ⟨_,rfl,rfl,?_⟩
        refine rstarts ?_
        rw [e0]
        refine ⟨_,rfl,?_⟩
        have hd:rdB t=!(decide ((fg t).cps.toList.head?=some 48) && !decide (t=zero)):=by
          unfold rdB; rw [h1,Bool.true_and]
        have go:rdB t=true→tRet (tCB rIntT (tCons (tVar 0) tNil)) { nx:=fun x H'=>Q V.non H',rt:=Q } [some (.str t),some (.str (fg t))] H2:=by
          intro hb
          refine ⟨_,rfl,?_⟩
          have h2:figs (fg t)=true:=by
            simp only [Bool.and_eq_true] at h1
            exact h1.2
          have h3:1≤(fg t).length:=by
            simp only [Bool.and_eq_true] at h1
            exact of_decide_eq_true h1.1.1
          have h4:(fg t).length≤4000:=by
            simp only [Bool.and_eq_true] at h1
            exact of_decide_eq_true h1.1.2
          have hne:(fg t).cps.toList≠[]:=fun e=>by
            rw [← len_toList,e] at h3
            exact absurd h3 (by decide)
          unfold rd at q2
          rw [if_pos hb] at q2
          by_cases hn:neg t=true
          · have ec:t.cps.toList=45::(fg t).cps.toList:=by
              have hh:t.cps.toList.head?=some 45:=of_decide_eq_true hn
              unfold fg
              rw [if_pos hn]
              cases q3:t.cps.toList with
              | nil=>rw [q3] at hh; cases hh
              | cons x r=>rw [q3] at hh; cases hh; rfl
            have hl:t.length=(fg t).length+1:=by rw [← len_toList,ec,List.length_cons,len_toList]
            refine rintT (n:=rdV t) ?_ ?_ (line20 z) q2
            · intro x hx
              rw [ec] at hx
              rcases List.mem_cons.mp hx with rfl | hx
              · exact .inl rfl
              · exact .inr (figs_all h2 x hx)
            · unfold rdV
              rw [if_pos hn]
              exact PySem.intText_neg ec (figs_all h2) hne (by omega)
          · have ef:fg t=t:=by unfold fg; rw [if_neg hn]
            rw [ef] at h2 hne h4
            refine rintT (n:=rdV t) ?_ ?_ (line20 z) q2
            · exact fun x hx=>.inr (figs_all h2 x hx)
            · unfold rdV
              rw [if_neg hn,ef]
              exact PySem.intText_digits (figs_all h2) hne (by omega)
        by_cases c1:(fg t).cps.toList.head?=some 48
        · rw [decide_eq_true c1] at hd ⊢
          refine iteT ?_
          refine ⟨_,rfl,rfl,_,rfl,?_⟩
          by_cases c2:t=zero
          · rw [decide_eq_true c2] at hd
            refine iteNS (by rw [c2]; rfl) ?_
            exact go (by rw [hd]; rfl)
          · rw [decide_eq_false c2] at hd
            refine iteNE (fun z=>c2 z) ?_
            unfold rd at q2
            rw [hd] at q2
            exact q2
        · rw [decide_eq_false c1] at hd ⊢
          refine iteF ?_
          exact go (by rw [hd]; rfl)
      · have h1:(decide (1≤(fg t).length)&&decide ((fg t).length≤4000)&&figs (fg t))=false:=by simpa using h1
        rw [h1]
        refine iteT ?_
        have:rdB t=false:=by unfold rdB; rw [h1,Bool.false_and]
        unfold rd at q2
        rw [this] at q2
        exact q2
    · refine ⟨_,rfl,rfl,?_⟩
      refine rstarts ?_
      rw [es]
      refine ⟨_,rfl,?_⟩
      by_cases hn:neg t=true
      · rw [hn]
        refine iteT ?_
        have hh:t.cps.toList.head?=some 45:=of_decide_eq_true hn
        have h1:1≤t.length:=by
          rw [← len_toList]
          cases q3:t.cps.toList with
          | nil=>rw [q3] at hh; cases hh
          | cons x r=>simp
        have ef:Txt.slice t (some 1) none=fg t:=str_ext (by
          rw [slice_from (by decide) (by omega)]
          unfold fg
          rw [if_pos hn]
          rfl)
        refine ⟨_,rfl,_,rfl,t,rfl,line20 z,?_⟩
        rw [ef]
        exact ⟨rfl,rfl⟩
      · have ef:fg t=t:=by unfold fg; rw [if_neg hn]
        have hn:neg t=false:=by simpa using hn
        rw [hn]
        refine iteF ?_
        exact ⟨_,rfl,by rw [ef]; rfl,rfl⟩
end
def isf:List (Option Int)→Bool
  | [some n,some d]=>decide (1≤d)&&decide (Int.gcd n d=1)
  | _=>false
theorem isf_len {os:List (Option Int)} (h:os.length≠2):isf os=false:=by
  match os,h with
  | [],_=>rfl
  | [a],_=>cases a <;> rfl
  | [a,b],h=>exact absurd rfl h
  | a::b::c::r,_=>cases a <;> cases b <;> rfl
theorem app_len (a b:Str):(a++b).length=a.length+b.length:=by
  rw [← len_toList,← len_toList,← len_toList,app_cps,List.length_append]
@[irreducible] def sp_isf:Sp:=fun vs H Q _=>∃ (a:Addr) (os:List (Option Int)),vs=[.ref a]∧H a=some (.tup (os.map optV))∧os.length≤20000∧Q (.bl (isf os)) H
theorem sp_isf_i {a:Addr} {os:List (Option Int)} {H:Hp} {Q:VK} {E:XK} (e:H a=some (.tup (os.map optV))) (z:os.length≤20000) (q:Q (.bl (isf os)) H):sp_isf [.ref a] H Q E:=by unfold sp_isf; exact ⟨a,os,rfl,e,z,q⟩
section
variable {P:Program} {w:World} {K:PySem.W.Frag} {mg:Str→Option Value} {base:Heap} {c:Cl}
theorem ok_is_fraction {f:Addr} {fd:FuncData} (F:Fun K "is_fraction" "is_fraction" s_is_fraction f fd) (T:Txt K mg c) (F_is_whole:FnC CX0 P w K mg base 1 "is_whole" ["thing"] sp_whole) (F_common_divisor:FnC CX0 P w K mg base 1 "common_divisor" ["number", "above_nought"] sp_cd):FnOk P w K mg base CX0 2 f fd ["thing"] sp_isf:=by
  refine F.okw sc_is_fraction (fun vs H Q E h=>?_) (fun cdv A outer s H vs Q E hr h=>?_)
  · unfold sp_isf at h
    obtain ⟨t,_,rfl,_⟩:=h
    rfl
  · unfold sp_isf at h
    obtain ⟨a,os,rfl,e,z,q⟩:=h
    have rp:Rep H (.tuple (os.map optD)) (.ref a):=Rep.tup e (by
      clear e q z
      induction os with
      | nil=>exact RepL.nil
      | cons o r ih=>exact RepL.cons (optR o) ih)
    refine ⟨_,(wss_cons (ws_if (wt_w (ww_or (wt_not (wt_val (we_cB cl_isi (by rfl) T.b_isinstance (by decide +kernel) (wa_k (we_v 0) (wa_k (we_bltn (v:=.ty "tuple") (u:=.type "tuple") rfl T.b_tuple (by decide +kernel) rfl) wa_nil))))) (ww_or1 (wt_cmp op_ne (we_cB cl_len (by rfl) T.b_len (by decide +kernel) (wa_k (we_v 0) wa_nil)) we_int (nomark _))))) (wss_one (ws_ret we_bl)) wss_nil)
      (wss_cons (ws_if (wt_w (ww_or (wt_not (wt_val (we_fn F_is_whole (hr.mono (by decide)) (wa_k (we_ix ix_seq (we_v 0) we_int (fun _ _=>rfl)) wa_nil)))) (ww_or1 (wt_not (wt_val (we_fn F_is_whole (hr.mono (by decide)) (wa_k (we_ix ix_seq (we_v 0) we_int (fun _ _=>rfl)) wa_nil))))))) (wss_one (ws_ret we_bl)) wss_nil)
      (wss_one (ws_ret (we_and (we_cmp op_ge (we_ix ix_seq (we_v 0) we_int (fun _ _=>rfl)) we_int (nomark _)) (we_one (we_cmp op_eq (we_fn F_common_divisor (hr.mono (by decide)) (wa_k (we_ix ix_seq (we_v 0) we_int (fun _ _=>rfl)) (wa_k (we_ix ix_seq (we_v 0) we_int (fun _ _=>rfl)) wa_nil))) we_int (nomark _)))))))),?_⟩
    refine ⟨_,rfl,?_⟩
    refine riI rp ?_
    refine ⟨_,rfl,?_⟩
    refine iteF ?_
    refine ⟨_,rfl,?_⟩
    refine rlT e ?_
    refine ⟨rfl,_,rfl,?_⟩
    by_cases hl:os.length=2
    · match os,hl with
      | [o1,o2],_ =>
      refine iteF ?_
      refine ⟨_,rfl,?_⟩
      refine ixT e rfl ?_
      refine sp_whole_i ?_
      refine ⟨_,rfl,?_⟩
      cases o1 with
      | none =>
        refine iteT ?_
        refine iteT ?_
        exact q
      | some n =>
        refine iteF ?_
        refine ⟨_,rfl,?_⟩
        refine ixT e rfl ?_
        refine sp_whole_i ?_
        refine ⟨_,rfl,?_⟩
        cases o2 with
        | none =>
          refine iteT ?_
          exact q
        | some d =>
          refine iteF ?_
          refine ⟨_,rfl,?_⟩
          refine ixT e rfl ?_
          refine ⟨_,_,rfl,rfl,_,rfl,?_⟩
          have eq:isf [some n,some d]=(decide (1≤d)&&decide (Int.gcd n d=1)):=rfl
          rw [eq] at q
          refine iteD (fun h1=>?_) (fun h1=>?_)
          · rw [decide_eq_true h1,Bool.true_and] at q
            refine ⟨_,rfl,?_⟩
            refine ixT e rfl ?_
            refine ⟨_,rfl,?_⟩
            refine ixT e rfl ?_
            refine sp_cd_i (by omega) ?_
            refine ⟨rfl,?_⟩
            have:decide (V.int (Int.gcd n d:Int)=V.int 1)=decide (Int.gcd n d=1):=decide_eq_decide.mpr ⟨fun z=>by injection z with z; omega,fun z=>by rw [z]; rfl⟩
            rw [this]
            exact q
          · rw [decide_eq_false h1,Bool.false_and] at q
            exact q
    · rw [decide_eq_false (fun z=>hl (by injection z with z; rw [List.length_map] at z; omega))]
      refine iteT ?_
      rw [isf_len hl] at q
      exact q
end
def rdF:List (Option Int)→Option Fr
  | [some n]=>some (n,1)
  | [some n,some d]=>if (!decide (d=1)&&isf [some n,some d])=true then some (n,d) else none
  | _=>none
def words (t:Str):List Str:=Txt.split t sl
def rdT (t:Str):Option Fr:=rdF ((words t).map rd)
@[irreducible] def sp_readf (C:Addr):Sp:=fun vs H Q E=>∃ t,vs=[.str t]∧t.length≤10000∧(rdT t=none→∀ H',Same H H'→E (.ref C) none H')∧(∀ g,rdT t=some g→∀ a H',H' a=some (.tup [.int g.1,.int g.2])→Same H H'→Q (.ref a) H')
theorem sp_readf_i {C:Addr} {t:Str} {H:Hp} {Q:VK} {E:XK} (z:t.length≤10000) (e:rdT t=none→∀ H',Same H H'→E (.ref C) none H') (q:∀ g,rdT t=some g→∀ a H',H' a=some (.tup [.int g.1,.int g.2])→Same H H'→Q (.ref a) H'):sp_readf C [.str t] H Q E:=by
  unfold sp_readf; exact ⟨t,rfl,z,e,q⟩
theorem words_len (t:Str):(words t).length≤t.length+2:=PyProof.Rows.split_le t sl
theorem opts_of {ws:List Str} {ys:List V} (hl:ys.length=ws.length) (h:∀ (i:Nat) (y:V),ys[i]?=some y→∃ u,ws[i]?=some u∧y=optV (rd u)):ys=(ws.map rd).map optV:=by
  refine List.ext_getElem? fun i=>?_
  rw [List.getElem?_map,List.getElem?_map]
  cases q:ys[i]? with
  | none =>
    have:ws[i]?=none:=by
      rw [List.getElem?_eq_none_iff] at q ⊢
      omega
    rw [this]; rfl
  | some y =>
    obtain ⟨u,h1,h2⟩:=h i y q
    rw [h1,h2]; rfl
section
variable {P:Program} {w:World} {K:PySem.W.Frag} {mg:Str→Option Value} {base:Heap} {c:Cl}
set_option maxHeartbeats 4000000 in
theorem ok_read_fraction {f:Addr} {fd:FuncData} (F:Fun K "read_fraction" "read_fraction" s_read_fraction f fd) (T:Txt K mg c) (F_read_whole:FnC CX0 P w K mg base 2 "read_whole" ["text"] sp_readw) (F_is_fraction:FnC CX0 P w K mg base 2 "is_fraction" ["thing"] sp_isf) :
    FnOk P w K mg base (CX1 P w) 3 f fd ["text"] (sp_readf c.NoFraction):=by
  refine F.okx sc_read_fraction (fun vs H Q E h=>?_) (fun cdv A outer s H vs Q E hr h hx hmd=>?_)
  · unfold sp_readf at h
    obtain ⟨n,rfl,_⟩:=h
    rfl
  · unfold sp_readf at h
    obtain ⟨t,rfl,z,he,q⟩:=h
    have hw:=words_len t
    have hbl:∀ u∈words t,u.length≤20000:=fun u hu=>Nat.le_trans (part_len hu) (by omega)
    refine ⟨_,(wss_cons (ws_setComp (i:=1) (CScope.of (psc:=defScope s_read_fraction) (N:=["text", "numbers", "read"]) (N':=["part"]) (js:=[]) (by decide +kernel) rfl rfl rfl) sc_read_fraction.nd rfl rfl (wi_list (we_bm PySem.F.plainAttrs_str PySem.F.slot_str_split PySem.F.type_str_split mt_split (we_v 0) (wa_k we_str wa_nil))) (fun _ _ _ _=>wts_nil) (fun _ _ _ _=>(we_fn F_read_whole (hr.mono (by decide)) (wa_k (we_v 0) wa_nil))))
      (wss_cons (ws_cut (ws_if (wt_cmp op_eq (we_cB cl_len (by rfl) T.b_len (by decide +kernel) (wa_k (we_v 1) wa_nil)) we_int (nomark _)) (wss_one (ws_expr (we_bm PySem.F.plainAttrs_list PySem.F.slot_list_append PySem.F.type_list_append mt_app (we_v 1) (wa_k we_int wa_nil)))) (wss_one (ws_if (wt_cmp op_eq (we_ix ix_seq (we_v 1) we_int (fun _ _=>rfl)) we_int (nomark _)) (wss_one (ws_raise T.x_NoFraction T.g_NoFraction rfl hmd (wa_k we_str wa_nil))) wss_nil))))
      (wss_cons (ws_set (i:=2) sc_read_fraction.nd rfl (Or.inl rfl) (we_cT call_tuple_of (by rfl) T.b_tuple (by decide +kernel) (wa_k (we_v 1) wa_nil)))
      (wss_cons (ws_if (wt_not (wt_val (we_fn F_is_fraction (hr.mono (by decide)) (wa_k (we_v 2) wa_nil)))) (wss_one (ws_raise T.x_NoFraction T.g_NoFraction rfl hmd (wa_k we_str wa_nil))) wss_nil)
      (wss_one (ws_ret (we_v 2))))))),?_⟩
    refine ⟨_,rfl,rfl,?_⟩
    refine rsplit (by decide) (line20 (by omega)) (line20 (show (words t).length≤20000 by omega)) fun p1 H1 hp1 e1 s1=>?_
    have e1:H1 p1=some (.lst ((words t).map V.str)):=e1
    refine ⟨p1,rfl,⟨_,SqL.of e1⟩,?_⟩
    refine comp_map (xs:=(words t).map V.str) (fun i y=>∃ u,(words t)[i]?=some u∧y=optV (rd u)) (by rw [List.length_map]; omega) (SqL.of e1) ?_ ?_
    · intro i x H' Q' hx s' k
      rw [List.getElem?_map] at hx
      cases q3:(words t)[i]? with
      | none=>rw [q3] at hx; cases hx
      | some u =>
        rw [q3] at hx
        cases hx
        refine ⟨_,rfl,?_⟩
        exact sp_readw_i (hbl u (List.mem_of_getElem? q3)) fun H5 s5=>k _ H5 s5 ⟨u,q3,rfl⟩
    · intro D ys H2 hD e2 s2 hl hy
      have ey:=opts_of (by rw [hl,List.length_map]) hy
      subst ey
      have S2:=s1.trans s2
      generalize ho:(words t).map rd=os at e2
      have hos:rdT t=rdF os:=by unfold rdT; rw [ho]
      have hlo:os.length=(words t).length:=by rw [← ho,List.length_map]
      have hne:os≠[]:=fun e=>by
        rw [e] at hlo
        exact split_ne t (List.length_eq_zero_iff.mp hlo.symm)
      refine ⟨fun σ H'=>∃ os2:List (Option Int),σ=[some (.str t),some (.ref D),none]∧H' D=some (.lst (os2.map optV))∧Same H H'∧os2.length≤10010∧(isf os2=true→∃ n d,os2=[some n,some d]∧rdT t=some (n,d))∧(isf os2=false→rdT t=none),?_,?_⟩
      · rintro σ H3 ⟨os2,rfl,e3,s3,hl3,h1,h2⟩
        refine ⟨_,rfl,D,_,rfl,.inl ⟨SqL.of e3,fun l hl=>?_⟩⟩
        have e4:=upd_same (H:=H3) (a:=l) (o:=.tup (os2.map optV))
        have s4:=Same.upd (o:=.tup (os2.map optV)) hl
        generalize upd H3 l (.tup (os2.map optV))=H4 at e4 s4 ⊢
        refine ⟨_,rfl,?_⟩
        refine sp_isf_i e4 (by omega) ?_
        refine ⟨_,rfl,?_⟩
        cases hi:isf os2 with
        | true =>
          obtain ⟨n,d,eo,er⟩:=h1 hi
          refine iteF ?_
          refine ⟨_,rfl,?_⟩
          rw [eo] at e4
          exact q _ er l H4 e4 (s3.trans s4)
        | false =>
          refine iteT ?_
          exact ⟨by decide,he (h2 hi) H4 (s3.trans s4)⟩
      · refine ⟨_,rfl,?_⟩
        refine rlL e2 ?_
        refine ⟨rfl,_,rfl,?_⟩
        rw [List.length_map]
        match os,hne with
        | [o],_ =>
          refine iteT ?_
          refine ⟨_,rfl,tyL e2,?_⟩
          refine appL e2 (by simp) fun H3 e3 s3=>?_
          refine ⟨[o,some 1],rfl,e3,s1.trans (Same.thru hD s2 s3),by simp,?_,?_⟩
          · intro hi
            cases o with
            | none=>cases hi
            | some n=>exact ⟨n,1,rfl,by rw [hos]; rfl⟩
          · intro hi
            cases o with
            | none=>rw [hos]; rfl
            | some n =>
              have:isf [some n,some 1]=true:=by
                show (decide ((1:Int)≤1)&&decide (Int.gcd n 1=1))=true
                rw [Int.gcd_one_right]
                rfl
              rw [this] at hi
              cases hi
        | o1::o2::r,_ =>
          have hn1:¬ ((o1::o2::r).length:Int)=1:=by simp; omega
          rw [decide_eq_false (fun x=>hn1 (by injection x))]
          refine iteF ?_
          refine ⟨_,rfl,?_⟩
          refine ixL e2 (v:=optV o2) (atI_nat (j:=1) rfl) ?_
          have fin:o2≠some 1→∃ os2:List (Option Int),[some (V.str t),some (V.ref D),none]=[some (.str t),some (.ref D),none]∧H2 D=some (.lst (os2.map optV))∧Same H H2∧os2.length≤10010∧(isf os2=true→∃ n d,os2=[some n,some d]∧rdT t=some (n,d))∧(isf os2=false→rdT t=none):=by
            intro h2
            refine ⟨o1::o2::r,rfl,e2,S2,by rw [hlo]; omega,?_,?_⟩
            · intro hi
              cases o1 with
              | none=>cases hi
              | some n =>
                cases o2 with
                | none=>cases hi
                | some d =>
                  cases r with
                  | cons _ _=>cases hi
                  | nil =>
                    refine ⟨n,d,rfl,?_⟩
                    rw [hos]
                    show (if (!decide (d=1)&&isf [some n,some d])=true then some (n,d) else none)=_
                    rw [hi,decide_eq_false (fun x=>h2 (by rw [x]))]
                    rfl
            · intro hi
              rw [hos]
              cases o1 with
              | none=>cases r <;> rfl
              | some n =>
                cases o2 with
                | none=>cases r <;> rfl
                | some d =>
                  cases r with
                  | cons _ _=>rfl
                  | nil =>
                    show (if (!decide (d=1)&&isf [some n,some d])=true then some (n,d) else none)=_
                    rw [hi,Bool.and_false]
                    rfl
          have bad:o2=some 1→rdT t=none:=by
            intro h2
            rw [hos,h2]
            cases o1 with
            | none=>cases r <;> rfl
            | some n =>
              cases r with
              | cons _ _=>rfl
              | nil=>rfl
          cases o2 with
          | none =>
            refine ⟨rfl,_,rfl,?_⟩
            refine iteF ?_
            exact fin (by simp)
          | some d =>
            refine ⟨rfl,_,rfl,?_⟩
            refine iteD (fun h=>?_) (fun h=>?_)
            · have hd:d=1:=by injection h
              exact ⟨by decide,he (bad (by rw [hd])) H2 S2⟩
            · exact fin (fun x=>h (by injection x with x; rw [x]; rfl))
end
end Kw
set_option Elab.async false
set_option linter.all false
set_option maxRecDepth 100000
namespace L2
open PySem PySem.Spec PyProof.Rows
section
variable {X:Cx} {pins:List (Addr × Obj)} {σ:St} {H:Hp} {s:Shared} {scope:Scope} {xs:List Str} {N':List Str} {js:List Nat} {fp:List Addr}
end
section
variable {X:Cx} {pins:List (Addr × Obj)} {σ:St} {H:Hp} {s:Shared} {scope:Scope} {xs:List Str} {N':List Str} {js:List Nat} {fp:List Addr} {elt iter:Expr} {px pos:Pos} {tg:Expr} {ifs:List Expr} {tc:TT} {te:TE}
end
section
variable {X:Cx} {scope:Scope} {x1 x2 x3 y:Str} {N':List Str} {js:List Nat} {elt iter tg:Expr} {ifs:List Expr} {py pos spos:Pos} {tc:TT} {te:TE} {wi:TI} {i:Nat}
end
section
variable {js:List Nat} {te:TE} {tc:TT} {σ:St} {H:Hp} {Q:VK}
end
end L2
set_option Elab.async false
set_option linter.all false
set_option maxRecDepth 100000
namespace L2
open PySem
section
variable {js:List Nat} {te:TE} {σ:St} {H:Hp} {Q:VK}
end
end L2
set_option Elab.async false
set_option linter.all false
set_option maxRecDepth 100000
namespace L2
open PySem
section
variable {X:Cx} {scope:Scope} {x1 x2 x3 y:Str} {N':List Str} {js:List Nat} {elt iter tg:Expr} {ifs:List Expr} {py pos spos:Pos} {tc:TT} {te:TE} {wi wj:TI} {i:Nat}
end
end L2
set_option Elab.async false
set_option linter.all false
set_option maxRecDepth 100000
namespace Kw
open PySem L2 Mf Mt
def bk:Str:=Str.ofString " "
theorem bk_cps:bk.cps.toList=[32]:=by decide +kernel
theorem cutB:∀ {p a s b:List Nat},32 ∉ p→32 ∉ a→p++32::s=a++32::b→p=a∧s=b
  | [],[],_,_,_,_,e=>by injection e with _ e; exact ⟨rfl,e⟩
  | [],x::a,_,_,_,ha,e=>by injection e with e _; exact absurd (by rw [e]; exact List.mem_cons_self) ha
  | y::p,[],_,_,hp,_,e=>by injection e with e _; exact absurd (by rw [← e]; exact List.mem_cons_self) hp
  | y::p,x::a,s,b,hp,ha,e=>by
    injection e with e1 e2
    obtain ⟨h1,h2⟩:=cutB (fun z=>hp (List.mem_cons_of_mem _ z)) (fun z=>ha (List.mem_cons_of_mem _ z)) e2
    exact ⟨by rw [e1,h1],h2⟩
theorem joinB (p q:Str) (r:List Str):(Str.join bk (p::q::r)).cps.toList=p.cps.toList++32::(Str.join bk (q::r)).cps.toList:=by
  show (p++bk++Str.join bk (q::r)).cps.toList=_
  rw [app_cps,app_cps,bk_cps]
  simp
theorem join_inj:∀ {a b:List Str},a≠[]→b≠[]→(∀ p∈a,32 ∉ p.cps.toList)→(∀ p∈b,32 ∉ p.cps.toList)→(Str.join bk a).cps.toList=(Str.join bk b).cps.toList→a=b
  | [],_,h,_,_,_,_=>absurd rfl h
  | _,[],_,h,_,_,_=>absurd rfl h
  | [x],[y],_,_,_,_,e=>by rw [str_ext (show x.cps.toList=y.cps.toList from e)]
  | [x],y::z::r,_,_,ha,_,e=>by
    rw [joinB] at e
    exact absurd (show 32∈x.cps.toList by rw [show x.cps.toList=_ from e]; simp) (ha x (by simp))
  | x::u::r,[y],_,_,_,hb,e=>by
    rw [joinB] at e
    exact absurd (show 32∈y.cps.toList by rw [show y.cps.toList=_ from e.symm]; simp) (hb y (by simp))
  | x::u::r,y::z::t,_,_,ha,hb,e=>by
    rw [joinB,joinB] at e
    obtain ⟨e1,e2⟩:=cutB (ha x (by simp)) (hb y (by simp)) e
    rw [str_ext e1,join_inj (a:=u::r) (b:=z::t) (by simp) (by simp) (fun p hp=>ha p (List.mem_cons_of_mem _ hp)) (fun p hp=>hb p (List.mem_cons_of_mem _ hp)) e2]
theorem join_is (ts:List Str):Txt.join bk ts=Str.join bk ts:=by unfold Txt.join; rw [StrLaws.glued_eq_join]
theorem split_back {ts:List Str} (hn:ts≠[]) (hf:∀ p∈ts,32 ∉ p.cps.toList):Txt.split (Txt.join bk ts) bk=ts:=by
  rw [join_is]
  refine join_inj ?_ hn ?_ hf ?_
  · intro h
    have:=PyProof.Rows.split_pos (Str.join bk ts) bk
    rw [h] at this
    exact absurd this (by decide)
  · have e:bk=⟨#[32]⟩:=str_ext bk_cps
    rw [e]
    exact StrLaws.split_free _ 32
  · rw [StrLaws.join_split]
def TT (f:Fr):Str:=if f.2=1 then tx f.1 else tx f.1++sl++tx f.2
theorem tx_blank {n:Int} (x:Nat) (hx:x<45):x ∉ (tx n).cps.toList:=by
  intro h
  rcases Int.lt_or_le n 0 with hn | hn
  · obtain ⟨m,rfl⟩:∃ m:Nat,n=-((m+1:Nat):Int):=⟨(-n - 1).toNat,by omega⟩
    rw [tx_neg] at h
    rcases List.mem_cons.mp h with h | h
    · omega
    · have:=dg_all _ x h; omega
  · obtain ⟨m,rfl⟩:=Int.eq_ofNat_of_zero_le hn
    rw [tx_nat] at h
    have:=dg_all _ x h
    omega
theorem TT_free (f:Fr):32 ∉ (TT f).cps.toList:=by
  unfold TT
  split
  · exact tx_blank 32 (by decide)
  · rw [app_cps,app_cps]
    intro h
    rcases List.mem_append.mp h with h | h
    · rcases List.mem_append.mp h with h | h
      · exact tx_blank 32 (by decide) h
      · exact absurd h (by decide)
    · exact tx_blank 32 (by decide) h
theorem sumlen {B:Nat}:∀ {ts:List Str},(∀ t∈ts,t.length≤B)→(ts.map (·.length)).sum≤B*ts.length
  | [],_=>by simp
  | t::ts,h=>by
    have h1:=sumlen fun u hu=>h u (List.mem_cons_of_mem _ hu)
    have h2:=h t (by simp)
    rw [List.map_cons,List.sum_cons,List.length_cons,Nat.mul_add]; omega
theorem join_len:∀ (ts:List Str),(Str.join bk ts).length≤(ts.map (·.length)).sum+ts.length
  | []=>by decide
  | [x]=>by show x.length≤_; simp
  | x::y::r=>by
    have ih:=join_len (y::r)
    rw [← len_toList,joinB,List.length_append,List.length_cons,len_toList,len_toList]
    rw [List.map_cons,List.sum_cons,List.length_cons]
    omega
theorem tx_lenG {n:Int} (h:n.natAbs<10^50):(tx n).length≤51:=by
  unfold tx
  rw [PySem.ofString_length]
  exact Nat.le_trans (int_text_length_le10 (k:=50) (by decide) h) (by decide)
structure FrT (f:Fr):Prop where
  low:LowF f
  n:f.1.natAbs<10^50
  d:f.2.natAbs<10^50
theorem TT_len {f:Fr} (h:FrT f):(TT f).length≤103:=by
  have a1:=tx_lenG h.n
  have a2:=tx_lenG h.d
  have e:sl.length=1:=rfl
  unfold TT
  split
  · omega
  · rw [app_len,app_len,e]; omega
def wOn:Str:=Str.ofString "on"
def wSay:Str:=Str.ofString "say"
def wRule:Str:=Str.ofString "rule"
def wdE (e:Ent):List Str:=wOn::(e.1.map tx++wSay::e.2.map TT)
def wdH (F W:Nat):List Str:=[wRule,tx (F:Int),tx (W:Int)]
def lnE (e:Ent):Str:=Txt.join bk (wdE e)
def lnR (F W:Nat) (es:List Ent):List Str:=Txt.join bk (wdH F W)::es.map lnE
structure EnT (F W:Nat) (e:Ent):Prop where
  c:e.1.length=F
  s:e.2.length=1+W
  n:∀ x∈e.1,0≤x∧x.natAbs<10^50
  f:∀ f∈e.2,FrT f
theorem wdE_free (e:Ent):∀ p∈wdE e,32 ∉ p.cps.toList:=fun p hp=>by
  rcases List.mem_cons.mp hp with rfl | hp
  · decide +kernel
  rcases List.mem_append.mp hp with hp | hp
  · obtain ⟨x,_,rfl⟩:=List.mem_map.mp hp
    exact tx_blank 32 (by decide)
  rcases List.mem_cons.mp hp with rfl | hp
  · decide +kernel
  · obtain ⟨x,_,rfl⟩:=List.mem_map.mp hp
    exact TT_free x
theorem wdH_free (F W:Nat):∀ p∈wdH F W,32 ∉ p.cps.toList:=fun p hp=>by
  simp only [wdH,List.mem_cons,List.not_mem_nil,or_false] at hp
  rcases hp with rfl | rfl | rfl
  · decide +kernel
  · exact tx_blank 32 (by decide)
  · exact tx_blank 32 (by decide)
theorem wdE_len {F W:Nat} {e:Ent} (h:EnT F W e) (f4:F≤4) (w4:W≤4):(wdE e).length≤11∧∀ p∈wdE e,p.length≤103:=by
  have h1:=h.c
  have h2:=h.s
  refine ⟨by unfold wdE; simp only [List.length_cons,List.length_append,List.length_map]; omega,fun p hp=>?_⟩
  rcases List.mem_cons.mp hp with rfl | hp
  · decide +kernel
  rcases List.mem_append.mp hp with hp | hp
  · obtain ⟨x,hx,rfl⟩:=List.mem_map.mp hp
    have:=tx_lenG (h.n x hx).2
    omega
  rcases List.mem_cons.mp hp with rfl | hp
  · decide +kernel
  · obtain ⟨x,hx,rfl⟩:=List.mem_map.mp hp
    exact TT_len (h.f x hx)
theorem wdH_len {F W:Nat} (f4:F≤4) (w4:W≤4):(wdH F W).length≤11∧∀ p∈wdH F W,p.length≤103:=by
  refine ⟨by show 3≤11; decide,fun p hp=>?_⟩
  simp only [wdH,List.mem_cons,List.not_mem_nil,or_false] at hp
  rcases hp with rfl | rfl | rfl
  · decide +kernel
  · have:=tx_lenG (n:=(F:Int)) (Nat.lt_of_le_of_lt (show (F:Int).natAbs≤4 by omega) (by decide))
    omega
  · have:=tx_lenG (n:=(W:Int)) (Nat.lt_of_le_of_lt (show (W:Int).natAbs≤4 by omega) (by decide))
    omega
theorem join_ok {ts:List Str} (h1:ts.length≤11) (h2:∀ p∈ts,p.length≤103):(ts.map (·.length)).sum+ts.length*bk.length≤16777216:=by
  have h3:=sumlen h2
  have e:bk.length=1:=by decide +kernel
  rw [e]; omega
theorem tup_at {H:Hp} {ds:List PyData} {v:V} (h:Rep H (.tuple ds) v):∃ a xs,v=.ref a∧H a=some (.tup xs)∧RepL H ds xs:=by unfold Rep at h; exact h
theorem RepL_two {H:Hp} {d e:PyData} {xs:List V} (h:RepL H [d,e] xs):∃ x y,xs=[x,y]∧Rep H d x∧Rep H e y:=by
  unfold RepL RepL RepL at h
  obtain ⟨x,_,rfl,h1,y,_,rfl,h2,rfl⟩:=h
  exact ⟨x,y,rfl,h1,h2⟩
theorem reps_get {α:Type} {H:Hp} {g:α→PyData} {fs:List α} {vs:List V} (h:RepL H (fs.map g) vs) {i:Nat} {v:V} (e:vs[i]?=some v):∃ f,fs[i]?=some f∧Rep H (g f) v:=by
  obtain ⟨d,h1,h2⟩:=h.get e
  rw [List.getElem?_map] at h1
  cases q:fs[i]? with
  | none=>rw [q] at h1; cases h1
  | some f=>rw [q] at h1; cases h1; exact ⟨f,rfl,h2⟩
theorem reps_get' {α:Type} {H:Hp} {g:α→PyData} {fs:List α} {vs:List V} (h:RepL H (fs.map g) vs) {i:Nat} {f:α} (e:fs[i]?=some f):∃ v,vs[i]?=some v∧Rep H (g f) v :=
  h.get' (by rw [List.getElem?_map,e]; rfl)
theorem reps_len {α:Type} {H:Hp} {g:α→PyData} {fs:List α} {vs:List V} (h:RepL H (fs.map g) vs):vs.length=fs.length:=by rw [h.len,List.length_map]
theorem take_snoc {α:Type} {l:List α} {i:Nat} {x:α} (h:l[i]?=some x):l.take (i+1)=l.take i++[x]:=by
  rw [List.take_add_one,h]; rfl
abbrev s__law_shown:Stmt:=(top 44)
theorem sc__law_shown:FnScope ["_law_one"] ["_law_one"] (defScope s__law_shown):=⟨rfl,rfl,rfl,by decide +kernel,rfl,by decide +kernel,by decide +kernel⟩
abbrev s__law_lines:Stmt:=(top 45)
theorem sc__law_lines:FnScope ["_law_rule_here", "_law_faces", "_law_lines_here", "_law_counts", "_law_says_here", "_law_words"] ["_law_rule_here"] (defScope s__law_lines):=⟨rfl,rfl,rfl,by decide +kernel,rfl,by decide +kernel,by decide +kernel⟩
theorem cnts_at {H:Hp} {ns:List Int} {v:V} (h:Rep H (ctD ns) v):∃ a,v=.ref a∧H a=some (.tup (ns.map V.int)):=cD_rep h
theorem strs_of_map {α:Type} {l:List α} {f:α→Str} {ys:List V} (hl:ys.length=l.length) (h:∀ (i:Nat) (y:V),ys[i]?=some y→∃ x,l[i]?=some x∧y=.str (f x)):ys=(l.map f).map V.str:=by
  refine List.ext_getElem? fun i=>?_
  rw [List.getElem?_map,List.getElem?_map]
  by_cases z:i<ys.length
  · obtain ⟨x,h1,h2⟩:=h i _ (List.getElem?_eq_getElem z)
    rw [List.getElem?_eq_getElem z,h2,h1]; rfl
  · rw [List.getElem?_eq_none (by omega),List.getElem?_eq_none (by omega)]; rfl
@[irreducible] def sp_lsn:Sp:=fun vs H Q _=>∃ (v:V) (f:Fr),vs=[v]∧Rep H (frD f) v∧FrT f∧∀ H',Same H H'→Q (.str (TT f)) H'
theorem sp_lsn_i {H:Hp} {Q:VK} {E:XK} {v:V} {f:Fr} (h1:Rep H (frD f) v) (h2:FrT f) (k:∀ H',Same H H'→Q (.str (TT f)) H'):sp_lsn [v] H Q E:=by
  unfold sp_lsn; exact ⟨v,f,rfl,h1,h2,k⟩
@[irreducible] def sp_lln:Sp:=fun vs H Q _=>∃ (v:V) (F W:Nat) (es:List Ent),vs=[v]∧Rep H (ruD es) v∧es≠[]∧(∀ e∈es,EnT F W e)∧F≤4∧W≤4∧es.length≤400∧∀ D H',Same H H'→H D=none→H' D=some (.lst ((lnR F W es).map V.str))→Q (.ref D) H'
theorem sp_lln_i {H:Hp} {Q:VK} {E:XK} {v:V} {F W:Nat} {es:List Ent} (h1:Rep H (ruD es) v) (hn:es≠[]) (h2:∀ e∈es,EnT F W e) (f4:F≤4) (w4:W≤4) (hz:es.length≤400) (k:∀ D H',Same H H'→H D=none→H' D=some (.lst ((lnR F W es).map V.str))→Q (.ref D) H'):sp_lln [v] H Q E:=by
  unfold sp_lln; exact ⟨v,F,W,es,rfl,h1,hn,h2,f4,w4,hz,k⟩
theorem rule_sp:(Str.ofString "rule ").cps.toList=wRule.cps.toList++[32]:=by decide +kernel
theorem lineH (F W:Nat):Str.ofString "rule " ++ tx (F:Int)++Str.ofString " " ++ tx (W:Int)=Txt.join bk (wdH F W):=by
  rw [join_is]
  refine str_ext ?_
  unfold wdH
  rw [joinB,joinB,app_cps,app_cps,app_cps,rule_sp,show (Str.ofString " ").cps.toList=[32] from bk_cps,show (Str.join bk [tx (W:Int)]).cps.toList=(tx (W:Int)).cps.toList from rfl]
  simp
theorem p4300 {x:Int} (h:x.natAbs<10^50):x.natAbs<10^4300:=Nat.lt_of_lt_of_le h (Nat.pow_le_pow_right (by decide) (by decide))
section
variable {P:Program} {w:World} {K:PySem.W.Frag} {mg:Str→Option Value} {base:Heap} {c:Cl}
theorem ok__law_shown {f:Addr} {fd:FuncData} (F:Fun K "_law_shown" "_law_shown" s__law_shown f fd) (T:Txt K mg c):FnOk P w K mg base CX0 1 f fd ["_law_one"] sp_lsn:=by
  refine F.okw sc__law_shown (fun vs H Q E h=>?_) (fun cdv A outer s H vs Q E hr h=>?_)
  · unfold sp_lsn at h
    obtain ⟨v,f,rfl,_⟩:=h
    rfl
  · unfold sp_lsn at h
    obtain ⟨v,f,rfl,rv,ft,k⟩:=h
    obtain ⟨a,rfl,ha⟩:=frD_at rv
    refine ⟨_,(wss_cons (ws_if (wt_cmp op_eq (we_ix ix_seq (we_v 0) we_int (fun _ _=>rfl)) we_int (nomark _)) (wss_one (ws_ret (we_cT (cl_strI rfl T.nd) (by rfl) T.b_str (by decide +kernel) (wa_k (we_ix ix_seq (we_v 0) we_int (fun _ _=>rfl)) wa_nil)))) wss_nil)
      (wss_one (ws_ret (we_op op_add_str (we_op op_add_str (we_cT (cl_strI rfl T.nd) (by rfl) T.b_str (by decide +kernel) (wa_k (we_ix ix_seq (we_v 0) we_int (fun _ _=>rfl)) wa_nil)) we_str) (we_cT (cl_strI rfl T.nd) (by rfl) T.b_str (by decide +kernel) (wa_k (we_ix ix_seq (we_v 0) we_int (fun _ _=>rfl)) wa_nil)))))),?_⟩
    refine ⟨_,rfl,?_⟩
    refine ixT ha rfl ?_
    refine ⟨rfl,_,rfl,?_⟩
    refine iteD (fun hl=>?_) (fun hl=>?_)
    · have hd:f.2=1:=by injection hl
      refine ⟨_,rfl,?_⟩
      refine ixT ha rfl ?_
      refine rstrI (p4300 ft.n) ?_
      have:=k H (Same.refl _)
      unfold TT at this
      rw [if_pos hd] at this
      exact this
    · have hd:¬ f.2=1:=fun z=>hl (by rw [z])
      refine ⟨_,rfl,?_⟩
      refine ixT ha rfl ?_
      refine rstrI (p4300 ft.n) ?_
      refine ⟨_,_,rfl,rfl,?_,?_⟩
      · have:=tx_lenG ft.n
        exact line20 (show (tx f.1).length+(Str.ofString "/").length≤20000 by rw [show (Str.ofString "/").length=1 by decide +kernel]; omega)
      refine ⟨_,rfl,?_⟩
      refine ixT ha rfl ?_
      refine rstrI (p4300 ft.d) ?_
      refine ⟨_,_,rfl,rfl,?_,?_⟩
      · have h1:=tx_lenG ft.n
        have h2:=tx_lenG ft.d
        exact line20 (show (tx f.1++Str.ofString "/").length+(tx f.2).length≤20000 by rw [app_len,show (Str.ofString "/").length=1 by decide +kernel]; omega)
      have:=k H (Same.refl _)
      unfold TT at this
      rw [if_neg hd] at this
      exact this
theorem ok__law_lines {f:Addr} {fd:FuncData} (F:Fun K "_law_lines" "_law_lines" s__law_lines f fd) (T:Txt K mg c) (F__law_shown:FnC CX0 P w K mg base 1 "_law_shown" ["_law_one"] sp_lsn):FnOk P w K mg base CX0 2 f fd ["_law_rule_here"] sp_lln:=by
  refine F.okw sc__law_lines (fun vs H Q E h=>?_) (fun cdv A outer s H vs Q E hr h=>?_)
  · unfold sp_lln at h
    obtain ⟨v,F,W,es,rfl,_⟩:=h
    rfl
  · unfold sp_lln at h
    obtain ⟨v,F,W,es,rfl,rv,hn,en,f4,w4,hz,k⟩:=h
    refine ⟨_,(wss_cons (ws_set (i:=1) sc__law_lines.nd rfl (Or.inl rfl) (we_cB cl_len (by rfl) T.b_len (by decide +kernel) (wa_k (we_ix ix_seq (we_ix ix_seq (we_v 0) we_int (fun _ _=>rfl)) we_int (fun _ _=>rfl)) wa_nil)))
      (wss_cons (ws_set (i:=2) sc__law_lines.nd rfl (Or.inl rfl) (we_lst (wa_k (we_op op_add_str (we_op op_add_str (we_op op_add_str we_str (we_cT (cl_strI rfl T.nd) (by rfl) T.b_str (by decide +kernel) (wa_k (we_v 1) wa_nil))) we_str) (we_cT (cl_strI rfl T.nd) (by rfl) T.b_str (by decide +kernel) (wa_k (we_op op_sub (we_cB cl_len (by rfl) T.b_len (by decide +kernel) (wa_k (we_ix ix_seq (we_ix ix_seq (we_v 0) we_int (fun _ _=>rfl)) we_int (fun _ _=>rfl)) wa_nil)) we_int) wa_nil))) wa_nil)))
      (wss_cons (ws_for PassesOwn.never rfl (wi_tup (we_v 0)) (wg_tup rfl (wgs_cons (wg_name (i:=3) sc__law_lines.nd rfl (Or.inl rfl)) (wgs_cons (wg_name (i:=4) sc__law_lines.nd rfl (Or.inl rfl)) wgs_nil))) (wss_cons (ws_set (i:=5) sc__law_lines.nd rfl (Or.inl rfl) (we_op op_cat (we_op op_cat (we_lst (wa_k we_str wa_nil)) (we_comp (CScope.of (psc:=defScope s__law_lines) (N:=["_law_rule_here", "_law_faces", "_law_lines_here", "_law_counts", "_law_says_here", "_law_words"]) (N':=["_law_one"]) (js:=[]) (by decide +kernel) rfl rfl rfl) (wi_tup (we_v 3)) (fun _ _ _ _=>wts_nil) (fun _ _ _ _=>(we_cT (cl_strI rfl T.nd) (by rfl) T.b_str (by decide +kernel) (wa_k (we_v 0) wa_nil))))) (we_lst (wa_k we_str wa_nil))))
      (wss_one (ws_expr (we_bm PySem.F.plainAttrs_list PySem.F.slot_list_append PySem.F.type_list_append mt_app (we_v 2) (wa_k (we_bm PySem.F.plainAttrs_str PySem.F.slot_str_join PySem.F.type_str_join (mt_join K) we_str (wa_k (we_op op_cat (we_v 5) (we_comp (CScope.of (psc:=defScope s__law_lines) (N:=["_law_rule_here", "_law_faces", "_law_lines_here", "_law_counts", "_law_says_here", "_law_words"]) (N':=["_law_one"]) (js:=[]) (by decide +kernel) rfl rfl rfl) (wi_tup (we_v 4)) (fun _ _ _ _=>wts_nil) (fun _ _ _ _=>(we_fn F__law_shown (hr.mono (by decide)) (wa_k (we_v 0) wa_nil))))) wa_nil)) wa_nil))))))
      (wss_one (ws_ret (we_v 2)))))),?_⟩
    obtain ⟨e0,es,rfl⟩:∃ e r,es=e::r:=by
      cases es with
      | nil=>exact absurd rfl hn
      | cons e r=>exact ⟨e,r,rfl⟩
    have E0':=en e0 (List.mem_cons_self ..)
    obtain ⟨a,xs,rfl,ha,rxs⟩:=tup_at rv
    have lx:=reps_len rxs
    obtain ⟨x0,hx0,rx0⟩:=reps_get' rxs (i:=0) (f:=e0) rfl
    obtain ⟨b0,ys0,rfl,hb0,rb0⟩:=tup_at rx0
    obtain ⟨y0,z0,rfl,ry0,rz0⟩:=RepL_two rb0
    obtain ⟨d0,rfl,hd0⟩:=cnts_at ry0
    obtain ⟨g0,zs0,rfl,hg0,rzs0⟩:=shD_at rz0
    have c1:=E0'.c
    have c2:=E0'.s
    have hF50:(F:Int).natAbs<10^50:=Nat.lt_of_le_of_lt (show (F:Int).natAbs≤4 by omega) (by decide)
    have hW50:(W:Int).natAbs<10^50:=Nat.lt_of_le_of_lt (show (W:Int).natAbs≤4 by omega) (by decide)
    have lF:=tx_lenG hF50
    have lW:=tx_lenG hW50
    have l5:(Str.ofString "rule ").length=5:=by decide +kernel
    have l1:(Str.ofString " ").length=1:=by decide +kernel
    refine ⟨_,rfl,?_⟩
    refine ixT ha (atI_nat (j:=0) hx0) ?_
    refine ixT hb0 rfl ?_
    refine rlT hd0 ?_
    rw [List.length_map,c1]
    refine ⟨_,rfl,?_⟩
    refine rstrI (p4300 hF50) ?_
    refine ⟨_,_,rfl,rfl,line20 (show (Str.ofString "rule ").length+(tx (F:Int)).length≤20000 by omega),?_⟩
    refine ⟨_,_,rfl,rfl,line20 (show (Str.ofString "rule " ++ tx (F:Int)).length+(Str.ofString " ").length≤20000 by rw [app_len]; omega),?_⟩
    refine ⟨_,rfl,?_⟩
    refine ixT ha (atI_nat (j:=0) hx0) ?_
    refine ixT hb0 rfl ?_
    refine rlT hg0 ?_
    rw [reps_len rzs0,c2]
    refine ⟨_,_,rfl,rfl,?_⟩
    have eW:((fun i j=>V.int (i - j)) (((1+W:Nat):Int)) (1:Int))=V.int (W:Int):=by show V.int (((1+W:Nat):Int) - 1)=_; congr 1; omega
    rw [eW]
    refine rstrI (p4300 hW50) ?_
    refine ⟨_,_,rfl,rfl,line20 (show (Str.ofString "rule " ++ tx (F:Int)++Str.ofString " ").length+(tx (W:Int)).length≤20000 by rw [app_len,app_len]; omega),?_⟩
    refine nwL (by show 1≤64; decide) fun L H1 hL e1 s1=>?_
    have eH:H1 L=some (.lst ((lnR F W ((e0::es).take 0)).map V.str)):=by
      rw [List.take_zero]
      unfold lnR
      rw [← lineH]; exact e1
    refine ⟨_,rfl,a,rfl,⟨_,SqT.of (s1 _ _ ha)⟩,?_⟩
    refine for_tup (xs:=xs) (fun i σ H'=>∃ (o3 o4 o5:Option V),σ=[some (.ref a),some (.int (F:Int)),some (.ref L),o3,o4,o5]∧Same H H'∧H' L=some (.lst ((lnR F W ((e0::es).take i)).map V.str))) ⟨_,_,_,rfl,s1,eH⟩ (fun i σ H' _ q=>?_) ?_ ?_
    · obtain ⟨_,_,_,_,s',_⟩:=q
      exact SqT.of (s' _ _ ha)
    · rintro i x σ H2 hx ⟨o3,o4,o5,rfl,s2,e2⟩
      obtain ⟨e,he,re⟩:=reps_get rxs hx
      have hi:=(List.getElem?_eq_some_iff.mp he).1
      have E1:=en e (List.mem_of_getElem? he)
      obtain ⟨z1,z2⟩:=wdE_len E1 f4 w4
      obtain ⟨b,ys,rfl,hb,rb⟩:=tup_at (re.same s2)
      obtain ⟨y,z,rfl,ry,rz⟩:=RepL_two rb
      obtain ⟨d,rfl,hd⟩:=cnts_at ry
      obtain ⟨g,zs,rfl,hg,rzs⟩:=shD_at rz
      have lzs:=reps_len rzs
      have c1:=E1.c
      have c2:=E1.s
      refine ⟨b,[.ref d,.ref g],rfl,SqT.of hb,rfl,.ref d,[.ref g],rfl,.ref g,[],rfl,rfl,?_⟩
      refine nwL (by show 1≤64; decide) fun q3 H3 hq3 e3 s3=>?_
      refine ⟨_,rfl,d,rfl,⟨_,SqT.of (s3 _ _ hd)⟩,?_⟩
      refine comp_mapU (fun i y _=>∃ x,e.1[i]?=some x∧y=.str (tx x)) (fun _ _ _ _ _ h=>h) (by rw [List.length_map]; omega) (s3 _ _ hd) (fun i y H' Q' hy s' k'=>?_) (fun D4 ys H4 hD4 e4 s4 hy hr4=>?_)
      · rw [List.getElem?_map] at hy
        obtain ⟨x,hx,rfl⟩:=Option.map_eq_some_iff.mp hy
        refine ⟨_,rfl,?_⟩
        exact rstrI (p4300 (E1.n x (List.mem_of_getElem? hx)).2) (k' _ H' (Same.refl _) ⟨x,hx,rfl⟩)
      have ey:=strs_of_map (f:=tx) (by rw [hy,List.length_map]) hr4
      subst ey
      refine catL (s4 _ _ e3) e4 (by simp; omega) fun q5 H5 hq5 e5 s5=>?_
      refine nwL (by show 1≤64; decide) fun q6 H6 hq6 e6 s6=>?_
      refine catL (s6 _ _ e5) e6 (by simp; omega) fun q7 H7 hq7 e7 s7=>?_
      have S37:=(((s3.trans s4).trans s5).trans s6).trans s7
      refine ⟨_,rfl,tyL (S37 _ _ e2),?_⟩
      refine ⟨rfl,?_⟩
      refine ⟨_,rfl,?_⟩
      refine ⟨_,rfl,g,rfl,⟨_,SqT.of (S37 _ _ hg)⟩,?_⟩
      refine comp_mapU (fun i y _=>∃ x,e.2[i]?=some x∧y=.str (TT x)) (fun _ _ _ _ _ h=>h) (by omega) (S37 _ _ hg) (fun i y H' Q' hy s' k'=>?_) (fun D8 ys8 H8 hD8 e8 s8 hy8 hr8=>?_)
      · obtain ⟨f,hf,rf⟩:=reps_get rzs hy
        refine ⟨_,rfl,?_⟩
        exact sp_lsn_i ((rf.same S37).same s') (E1.f f (List.mem_of_getElem? hf)) fun H9 s9=>k' _ H9 s9 ⟨f,hf,rfl⟩
      have ey8:=strs_of_map (f:=TT) (by omega) hr8
      subst ey8
      refine catL (s8 _ _ e7) e8 (by simp; omega) fun q9 H9 hq9 e9 s9=>?_
      have S9:=(S37.trans s8).trans s9
      have ew:([V.str wOn]++(e.1.map tx).map V.str++[V.str wSay])++(e.2.map TT).map V.str=(wdE e).map V.str:=by
        unfold wdE
        simp
      refine rjoin (ts:=wdE e) (sep:=bk) (.inl (SqL.of (by rw [← ew]; exact e9))) (join_ok z1 z2) ?_
      refine appL (S9 _ _ e2) (by simp [lnR]; simp at hz hi; omega) fun H10 e10 b10=>?_
      refine ⟨_,_,_,rfl,Same.thru hL (s2.trans S9) b10,?_⟩
      rw [take_snoc he]
      unfold lnR at e10 ⊢
      rw [List.map_append]
      simpa [lnE] using e10
    · rintro σ H2 ⟨o3,o4,o5,rfl,s2,e2⟩
      rw [lx,List.take_length] at e2
      refine ⟨_,rfl,?_⟩
      exact k L H2 s2 hL e2
end
end Kw
set_option Elab.async false
set_option linter.all false
set_option maxRecDepth 100000
namespace HT
open PySem PySem.W PyProof.Rows
section
variable {prog:Program} {w:World} {A:Around} {E:Value→Shared→Prop} {s:Shared}
end
end HT
namespace L2
open PySem PySem.Spec PyProof.Rows
section
variable {X:Cx} {e st:Expr} {te ts:TE} {pos p2:Pos}
end
end L2
set_option Elab.async false
set_option linter.all false
set_option maxRecDepth 100000
namespace Kw
open PySem L2 Mf Mt
abbrev s_read_counts:Stmt:=(top 23)
theorem sc_read_counts:FnScope ["words", "many", "numbers"] ["words", "many"] (defScope s_read_counts):=⟨rfl,rfl,rfl,by decide +kernel,rfl,by decide +kernel,by decide +kernel⟩
abbrev s_read_fractions:Stmt:=(top 24)
theorem sc_read_fractions:FnScope ["words", "many"] ["words", "many"] (defScope s_read_fractions):=⟨rfl,rfl,rfl,by decide +kernel,rfl,by decide +kernel,by decide +kernel⟩
theorem iteTe {b:Bool} {A B:Prop} (h:b=true) (k:A):if b=true then A else B:=by rw [h,if_pos rfl]; exact k
theorem iteFe {b:Bool} {A B:Prop} (h:b=false) (k:B):if b=true then A else B:=by rw [h,if_neg (by decide)]; exact k
def geB:Option Int→Bool
  | some n=>decide (0≤n)
  | none=>false
def rdC (ts:List Str) (m:Nat):Option (List Int):=if ts.length=m∧(ts.map rd).all geB=true then some ((ts.map rd).map fun o=>o.getD 0) else none
def OptR (H:Hp) (o:Option PyData) (v:V):Prop:=match o with
  | none=>v=.non
  | some d=>Rep H d v
@[irreducible] def sp_rdcG:Sp:=fun vs H Q _=>∃ (a:Addr) (ts:List Str) (m:Nat),vs=[.ref a,.int (m:Int)]∧H a=some (.lst (ts.map V.str))∧ts.length≤1000∧(∀ t∈ts,t.length≤20000)∧∀ v H',Same H H'→OptR H' ((rdC ts m).map ctD) v→Q v H'
theorem sp_rdcG_i {H:Hp} {Q:VK} {E:XK} {a:Addr} {ts:List Str} {m:Nat} (h1:H a=some (.lst (ts.map V.str))) (h2:ts.length≤1000) (h3:∀ t∈ts,t.length≤20000) (k:∀ v H',Same H H'→OptR H' ((rdC ts m).map ctD) v→Q v H'):sp_rdcG [.ref a,.int (m:Int)] H Q E:=by
  unfold sp_rdcG; exact ⟨a,ts,m,rfl,h1,h2,h3,k⟩
theorem vals_map {α β:Type} {l:List α} {g:α→β} {f:β→V} {ys:List V} (hl:ys.length=l.length) (h:∀ (i:Nat) (y:V),ys[i]?=some y→∃ x,l[i]?=some x∧y=f (g x)):ys=(l.map g).map f:=by
  refine List.ext_getElem? fun i=>?_
  rw [List.getElem?_map,List.getElem?_map]
  by_cases z:i<ys.length
  · obtain ⟨x,h1,h2⟩:=h i _ (List.getElem?_eq_getElem z)
    rw [List.getElem?_eq_getElem z,h2,h1]; rfl
  · rw [List.getElem?_eq_none (by omega),List.getElem?_eq_none (by omega)]; rfl
theorem ints_rep {H:Hp}:∀ ns:List Int,RepL H (ns.map PyData.int) (ns.map V.int)
  | []=>RepL.nil
  | n::ns=>RepL.cons (Rep.int n) (ints_rep ns)
theorem opts_ints:∀ {os:List (Option Int)},os.all geB=true→os.map optV=(os.map fun o=>o.getD 0).map V.int
  | [],_=>rfl
  | none::os,h=>by rw [List.all_cons] at h; cases h
  | some n::os,h=>by
    rw [List.all_cons,Bool.and_eq_true] at h
    rw [List.map_cons,List.map_cons,List.map_cons,opts_ints h.2]; rfl
section
variable {P:Program} {w:World} {K:PySem.W.Frag} {mg:Str→Option Value} {base:Heap} {c:Cl}
theorem ok_read_counts {f:Addr} {fd:FuncData} (F:Fun K "read_counts" "read_counts" s_read_counts f fd) (T:Txt K mg c) (F_read_whole:FnC CX0 P w K mg base 2 "read_whole" ["text"] sp_readw):FnOk P w K mg base CX0 3 f fd ["words", "many"] sp_rdcG:=by
  refine F.okw sc_read_counts (fun vs H Q E h=>?_) (fun cdv A outer s H vs Q E hr h=>?_)
  · unfold sp_rdcG at h
    obtain ⟨a,ts,m,rfl,_⟩:=h
    rfl
  · unfold sp_rdcG at h
    obtain ⟨a,ts,m,rfl,ha,h4,hz,k⟩:=h
    refine ⟨_,(wss_cons (ws_setComp (i:=2) (CScope.of (psc:=defScope s_read_counts) (N:=["words", "many", "numbers"]) (N':=["word"]) (js:=[]) (by decide +kernel) rfl rfl rfl) sc_read_counts.nd rfl rfl (wi_list (we_v 0)) (fun _ _ _ _=>wts_nil) (fun _ _ _ _=>(we_fn F_read_whole (hr.mono (by decide)) (wa_k (we_v 0) wa_nil))))
      (wss_cons (ws_if (wt_mono (wt_w (ww_or (wt_cmp op_ne (we_cB cl_len (by rfl) T.b_len (by decide +kernel) (wa_k (we_v 2) wa_nil)) (we_v 1) (nomark _)) (ww_or1 (wt_not (wt_val (we_cB (cl_all rfl) (by rfl) T.b_all (by decide +kernel) (wa_k (we_comp (CScope.of (psc:=defScope s_read_counts) (N:=["words", "many", "numbers"]) (N':=["number"]) (js:=[]) (by decide +kernel) rfl rfl rfl) (wi_list (we_v 2)) (fun _ _ _ _=>wts_nil) (fun _ _ _ _=>(we_and (we_cmp op_notN (we_v 0) we_non (nomark _)) (we_one (we_cmp op_ge (we_v 0) we_int (nomark _)))))) wa_nil)))))))) (wss_one (ws_ret we_non)) wss_nil)
      (wss_one (ws_ret (we_cT call_tuple_of (by rfl) T.b_tuple (by decide +kernel) (wa_k (we_v 2) wa_nil)))))),?_⟩
    refine ⟨_,rfl,a,rfl,⟨_,SqL.of ha⟩,?_⟩
    refine comp_mapL (fun i y _=>∃ x,ts[i]?=some x∧y=optV (rd x)) (fun _ _ _ _ _ h=>h) (by rw [List.length_map]; omega) ha (fun i y H' Q' hy s' k'=>?_) (fun D ys H1 hD e1 s1 hy hr1=>?_)
    · rw [List.getElem?_map] at hy
      obtain ⟨x,hx,rfl⟩:=Option.map_eq_some_iff.mp hy
      refine ⟨_,rfl,?_⟩
      exact sp_readw_i (hz x (List.mem_of_getElem? hx)) fun H2 s2=>k' _ H2 s2 ⟨x,hx,rfl⟩
    rw [List.length_map] at hy
    have ey:=vals_map (g:=rd) (f:=optV) hy hr1
    subst ey
    refine ⟨fun b H'=>Same H1 H'∧b=(rdC ts m).isNone,?_,?_⟩
    · refine ⟨_,rfl,?_⟩
      refine rlL e1 ?_
      rw [List.length_map,List.length_map]
      refine ⟨_,rfl,rfl,_,rfl,?_⟩
      by_cases hm:ts.length=m
      · refine iteFe (by simp [hm]) ?_
        refine ⟨_,rfl,D,rfl,⟨_,SqL.of e1⟩,?_⟩
        refine comp_mapL (fun i y _=>∃ x,ts[i]?=some x∧y=.bl (geB (rd x))) (fun _ _ _ _ _ h=>h) (by rw [List.length_map,List.length_map]; omega) e1 (fun i y H' Q' hy s' k'=>?_) (fun D2 ys H2 hD2 e2 s2 hy2 hr2=>?_)
        · rw [List.getElem?_map,List.getElem?_map] at hy
          obtain ⟨o,ho,rfl⟩:=Option.map_eq_some_iff.mp hy
          obtain ⟨x,hx,rfl⟩:=Option.map_eq_some_iff.mp ho
          refine ⟨_,rfl,rfl,?_⟩
          refine ⟨_,rfl,?_⟩
          cases hrd:rd x with
          | none =>
            refine iteFe (by simp [optV]) ?_
            exact k' _ H' (Same.refl _) ⟨x,hx,by rw [hrd]; rfl⟩
          | some n =>
            refine iteTe (by simp [optV]) ?_
            refine ⟨_,rfl,_,_,rfl,rfl,?_⟩
            exact k' _ H' (Same.refl _) ⟨x,hx,by rw [hrd]; rfl⟩
        rw [List.length_map,List.length_map] at hy2
        have ey:=vals_map (g:=fun x=>geB (rd x)) (f:=V.bl) hy2 hr2
        subst ey
        refine rall e2 ?_
        refine ⟨_,rfl,s2,?_⟩
        unfold rdC
        have ea:(ts.map fun x=>geB (rd x)).all id=(ts.map rd).all geB:=by rw [List.all_map,List.all_map]; rfl
        rw [ea]
        by_cases h:(ts.map rd).all geB=true
        · rw [if_pos ⟨hm,h⟩,h]; rfl
        · rw [if_neg fun z=>h z.2,Bool.eq_false_iff.mpr h]; rfl
      · refine iteTe (by simp; omega) ⟨Same.refl _,?_⟩
        unfold rdC
        rw [if_neg fun z=>hm z.1]; rfl
    rintro b H2 ⟨s2,rfl⟩
    cases h:rdC ts m with
    | none =>
      refine iteTe rfl ?_
      exact k .non H2 (s1.trans s2) (by rw [h]; rfl)
    | some ns =>
      refine iteFe rfl ?_
      refine ⟨_,rfl,?_⟩
      refine ⟨D,_,rfl,.inl ⟨SqL.of (s2 _ _ e1),fun l hl=>?_⟩⟩
      have hn:ts.length=m∧(ts.map rd).all geB=true:=by
        unfold rdC at h
        by_cases z:ts.length=m∧(ts.map rd).all geB=true
        · exact z
        · rw [if_neg z] at h; cases h
      have hns:ns=(ts.map rd).map fun o=>o.getD 0:=by
        unfold rdC at h
        rw [if_pos hn] at h
        cases h; rfl
      refine k _ _ ((s1.trans s2).trans (Same.upd hl)) ?_
      rw [h]
      show Rep _ (ctD ns) _
      refine Rep.tup upd_same ?_
      rw [opts_ints hn.2,← hns]
      exact ints_rep ns
end
def rdS (ts:List Str):Option (List Fr):=ts.mapM rdT
def rdFs (ts:List Str) (m:Nat):Option (List Fr):=if ts.length=m then rdS ts else none
@[irreducible] def sp_rdfG:Sp:=fun vs H Q _=>∃ (a:Addr) (ts:List Str) (m:Nat),vs=[.ref a,.int (m:Int)]∧H a=some (.lst (ts.map V.str))∧ts.length≤1000∧(∀ t∈ts,t.length≤10000)∧∀ v H',Same H H'→OptR H' ((rdFs ts m).map shD) v→Q v H'
theorem sp_rdfG_i {H:Hp} {Q:VK} {E:XK} {a:Addr} {ts:List Str} {m:Nat} (h1:H a=some (.lst (ts.map V.str))) (h2:ts.length≤1000) (h3:∀ t∈ts,t.length≤10000) (k:∀ v H',Same H H'→OptR H' ((rdFs ts m).map shD) v→Q v H'):sp_rdfG [.ref a,.int (m:Int)] H Q E:=by
  unfold sp_rdfG; exact ⟨a,ts,m,rfl,h1,h2,h3,k⟩
theorem rdS_none {ts:List Str} {t:Str} (h:t∈ts) (e:rdT t=none):rdS ts=none:=by
  unfold rdS
  induction ts with
  | nil=>cases h
  | cons u r ih =>
    rw [List.mapM_cons]
    rcases List.mem_cons.mp h with rfl | h
    · rw [e]; rfl
    · cases rdT u with
      | none=>rfl
      | some g=>rw [ih h]; rfl
theorem rdS_some {ts:List Str} (h:∀ t∈ts,(rdT t).isSome=true):rdS ts=some (ts.map fun t=>(rdT t).getD (0,1)):=by
  unfold rdS
  induction ts with
  | nil=>rfl
  | cons u r ih =>
    rw [List.mapM_cons,ih fun t ht=>h t (List.mem_cons_of_mem _ ht)]
    obtain ⟨g,hg⟩:=Option.isSome_iff_exists.mp (h u List.mem_cons_self)
    rw [hg,List.map_cons,hg]; rfl
theorem reps_of {α:Type} {H:Hp} {g:α→PyData}:∀ {fs:List α} {ys:List V},ys.length=fs.length→(∀ (i:Nat) (y:V),ys[i]?=some y→∃ f,fs[i]?=some f∧Rep H (g f) y)→RepL H (fs.map g) ys
  | [],[],_,_=>RepL.nil
  | [],y::ys,hl,_=>by simp at hl
  | f::fs,[],hl,_=>by simp at hl
  | f::fs,y::ys,hl,h=>by
    obtain ⟨f',h1,h2⟩:=h 0 y rfl
    cases h1
    exact RepL.cons h2 (reps_of (by simpa using hl) fun i y hy=>h (i+1) y (by simpa using hy))
theorem wi_listK {X:Cx} {l tg:Expr} {tl:TE} (K:PySem.W.Frag) (hl:PEw X l tl) (hK:X.K=K:=by rfl):PIw X tg l (iList K tl):=by subst hK; exact wi_list hl
section
variable {P:Program} {w:World} {K:PySem.W.Frag} {mg:Str→Option Value} {base:Heap} {c:Cl}
theorem ok_read_fractions {f:Addr} {fd:FuncData} (F:Fun K "read_fractions" "read_fractions" s_read_fractions f fd) (T:Txt K mg c) (F_read_fraction:FnC (CX1 P w) P w K mg base 3 "read_fraction" ["text"] (sp_readf c.NoFraction)):FnOk P w K mg base CX0 4 f fd ["words", "many"] sp_rdfG:=by
  refine F.okw sc_read_fractions (fun vs H Q E h=>?_) (fun cdv A outer s H vs Q E hr h=>?_)
  · unfold sp_rdfG at h
    obtain ⟨a,ts,m,rfl,_⟩:=h
    rfl
  · unfold sp_rdfG at h
    obtain ⟨a,ts,m,rfl,ha,h5,hz,k⟩:=h
    refine ⟨_,(wss_cons (ws_if (wt_cmp op_ne (we_cB cl_len (by rfl) T.b_len (by decide +kernel) (wa_k (we_v 0) wa_nil)) (we_v 1) (nomark _)) (wss_one (ws_ret we_non)) wss_nil)
      (wss_one (ws_tryA rfl rfl rfl T.g_NoFraction T.c_NoFraction (fun _ _ _ hx=>(wss_one (ws_ret (we_cT (cl_tupK K) (by rfl) T.b_tuple (by decide +kernel) (wa_k (we_cmpX hx (CScope.of (psc:=defScope s_read_fractions) (N:=["words", "many"]) (N':=["word"]) (js:=[]) (by decide +kernel) rfl rfl rfl) (wi_listK K (we_v 0)) (fun _ _ _ _=>wts_nil) (fun _ _ _ _ _ _ hx=>(we_fnX F_read_fraction (hr.mono (by decide)) hx (wa_k (we_v 0) wa_nil)))) wa_nil))))) (fun _=>(wss_one (ws_ret we_non)))))),?_⟩
    refine ⟨_,rfl,?_⟩
    refine rlL ha ?_
    rw [List.length_map]
    refine ⟨_,rfl,rfl,_,rfl,?_⟩
    by_cases hm:ts.length=m
    · refine iteFe (by simp [hm]) ?_
      refine ⟨fun _ cls od H'=>cls=.ref c.NoFraction∧rdS ts=none∧Same H H',?_,?_⟩
      · refine ⟨_,rfl,a,rfl,⟨_,SqL.of ha⟩,?_⟩
        refine comp_mapL (fun i y H'=>∃ f,(ts[i]?.map rdT)=some (some f)∧Rep H' (frD f) y) (fun i y Ha Hb s ⟨f,h1,h2⟩=>⟨f,h1,h2.flat s (frD_flat f)⟩) (by rw [List.length_map]; omega) ha (fun i y H' Q' hy s' k'=>?_) (fun D ys H1 hD e1 s1 hy hr1=>?_)
        · rw [List.getElem?_map] at hy
          obtain ⟨t,ht,rfl⟩:=Option.map_eq_some_iff.mp hy
          have hm':=List.mem_of_getElem? ht
          refine ⟨_,rfl,?_⟩
          refine sp_readf_i (hz t hm') (fun z H2 s2=>⟨rfl,rdS_none hm' z,s'.trans s2⟩) fun g hg b H2 e2 s2=>?_
          exact k' _ H2 s2 ⟨g,by rw [ht]; exact congrArg some hg,frD_of e2⟩
        · rw [List.length_map] at hy
          have all:∀ t∈ts,(rdT t).isSome=true:=fun t ht=>by
            obtain ⟨i,hi⟩:=List.mem_iff_getElem?.mp ht
            have hil:=(List.getElem?_eq_some_iff.mp hi).1
            obtain ⟨f,h1,_⟩:=hr1 i _ (List.getElem?_eq_getElem (by omega))
            rw [hi] at h1
            injection h1 with h1
            rw [h1]; rfl
          have er:=rdS_some all
          refine ⟨D,_,rfl,.inl ⟨SqL.of e1,fun l hl=>?_⟩⟩
          refine k _ _ (s1.trans (Same.upd hl)) ?_
          unfold rdFs
          rw [if_pos hm,er]
          show Rep _ (shD _) _
          refine Rep.tup upd_same ((reps_of (by rw [List.length_map]; exact hy) fun i y hy=>?_).same (Same.upd hl))
          obtain ⟨f,h1,h2⟩:=hr1 i y hy
          obtain ⟨t,h3,h4⟩:=Option.map_eq_some_iff.mp h1
          exact ⟨f,by rw [List.getElem?_map,h3]; show some ((rdT t).getD (0,1))=_; rw [h4]; rfl,h2⟩
      · rintro σ' cls od H' ⟨rfl,hn,s'⟩
        refine ⟨_,rfl,T.s1,fun x hx=>?_⟩
        refine k _ _ (s'.trans (Same.upd hx)) ?_
        unfold rdFs
        rw [if_pos hm,hn]; rfl
    · refine iteTe (by simp; omega) ?_
      refine k _ H (Same.refl _) ?_
      unfold rdFs
      rw [if_neg hm]; rfl
end
end Kw
set_option Elab.async false
set_option linter.all false
set_option maxRecDepth 100000
namespace Kw
open PySem L2 Mf Mt
abbrev s_read_entry:Stmt:=(top 34)
theorem sc_read_entry:FnScope ["words", "sizes", "place", "counts", "says"] ["words", "sizes"] (defScope s_read_entry):=⟨rfl,rfl,rfl,by decide +kernel,rfl,by decide +kernel,by decide +kernel⟩
abbrev s_entries_behind:Stmt:=(top 33)
theorem sc_entries_behind:FnScope ["lines", "line", "sizes", "found", "text", "entry"] ["lines", "line", "sizes"] (defScope s_entries_behind):=⟨rfl,rfl,rfl,by decide +kernel,rfl,by decide +kernel,by decide +kernel⟩
def Shp (n:Nat) (d:PyData):Prop:=PyData.canLay0 d=true∧PyData.depth d≤n
theorem Shp.all {n:Nat}:∀ {ds:List PyData},(∀ d∈ds,Shp n d)→PyData.canLayAll0 ds=true∧PyData.depthAll ds≤n
  | [],_=>⟨rfl,Nat.zero_le _⟩
  | d::ds,h=>by
    obtain ⟨h1,h2⟩:=h d (List.mem_cons_self ..)
    obtain ⟨h3,h4⟩:=Shp.all fun e he=>h e (List.mem_cons_of_mem _ he)
    refine ⟨?_,?_⟩
    · show (PyData.canLay0 d&&PyData.canLayAll0 ds)=true
      rw [h1,h3]; rfl
    · show max (PyData.depth d) (PyData.depthAll ds)≤n
      omega
theorem Shp.tup {n:Nat} {ds:List PyData} (h:∀ d∈ds,Shp n d):Shp (n+1) (.tuple ds):=⟨(Shp.all h).1,by have:=(Shp.all h).2; show PyData.depthAll ds+1≤n+1; omega⟩
theorem Shp.lst {n:Nat} {ds:List PyData} (h:∀ d∈ds,Shp n d):Shp (n+1) (.list ds):=⟨(Shp.all h).1,by have:=(Shp.all h).2; show PyData.depthAll ds+1≤n+1; omega⟩
theorem Shp.int (i:Int):Shp 1 (.int i):=⟨rfl,by simp [PyData.depth]⟩
theorem Shp.ok {n:Nat} {d:PyData} (h:Shp n d) (hn:n≤64:=by decide):SeqAt.shaped d=true:=by
  unfold SeqAt.shaped
  rw [h.1,Bool.true_and]
  exact decide_eq_true (by have:=h.2; omega)
theorem strs_rep {H:Hp}:∀ ts:List Str,RepL H (ts.map PyData.str) (ts.map V.str)
  | []=>RepL.nil
  | t::ts=>RepL.cons (Rep.str t) (strs_rep ts)
def lowS (s:Str):Prop:=∀ c∈s.cps.toList,c<200
theorem join_low:∀ ts:List Str,(∀ p∈ts,lowS p)→lowS (Str.join bk ts)
  | [],_=>by
    have:(Str.join bk []).cps.toList=[]:=by decide
    intro c hc
    rw [this] at hc; cases hc
  | [x],h=>h x (by simp)
  | x::y::r,h=>by
    intro c hc
    rw [joinB] at hc
    rcases List.mem_append.mp hc with hc | hc
    · exact h x (by simp) c hc
    · rcases List.mem_cons.mp hc with rfl | hc
      · decide
      · exact join_low (y::r) (fun p hp=>h p (List.mem_cons_of_mem _ hp)) c hc
theorem lowS_ok {t:Str} (h:lowS t):PyData.strOk t=true:=by
  unfold PyData.strOk
  rw [← Array.all_toList]
  exact List.all_eq_true.mpr fun c hc=>decide_eq_true (by have:=h c hc; omega)
def Thin (t:Str):Prop:=∀ u v,words t=[u,v]→v.length≤2500∨(u.length≤2500∧val (fg u)≠0)
structure RwK (r:List Str):Prop where
  ne:r≠[]
  free:∀ p∈r,32 ∉ p.cps.toList
  len:r.length≤40
  sz:∀ p∈r,p.length≤6000
  lo:∀ p∈r,∀ c∈p.cps.toList,c<128
  th:∀ p∈r,Thin p
abbrev lnOf (r:List Str):Str:=Txt.join bk r
theorem RwK.back {r:List Str} (h:RwK r):Txt.split (lnOf r) bk=r:=split_back h.ne h.free
theorem RwK.ll {r:List Str} (h:RwK r):(lnOf r).length≤250000:=by
  unfold lnOf
  rw [join_is]
  have h1:=join_len r
  have h2:=sumlen h.sz
  have:=h.len
  have h3:6000*r.length≤6000*40:=Nat.mul_le_mul_left _ this
  omega
theorem RwK.low {r:List Str} (h:RwK r):∀ p∈r,lowS p:=fun p hp c hc=>by
  have:=h.lo p hp c hc; omega
theorem lineM {n:Nat} (h:n≤1000000):n≤sizeLine:=Nat.le_trans h (by decide)
theorem cut_mid (xs:List V) {a b:Nat} (h:a≤b):cutV xs (some (a:Int)) (some (b:Int))=(xs.drop a).take (b - a):=by
  unfold cutV
  rw [HT.sIx_nat,HT.sIx_nat]
  by_cases ha:a≤xs.length
  · rw [Nat.min_eq_left ha]
    by_cases hb:b≤xs.length
    · rw [Nat.min_eq_left hb]
    · rw [Nat.min_eq_right (by omega),List.take_of_length_le (by rw [List.length_drop]; omega),List.take_of_length_le (by rw [List.length_drop]; omega)]
  · rw [List.drop_eq_nil_of_le (show xs.length≤min a xs.length by omega),List.drop_eq_nil_of_le (show xs.length≤a by omega),List.take_nil,List.take_nil]
def rdE (F W:Nat) (ts:List Str):Option Ent:=match rdC ((ts.drop 1).take F) F,rdFs (ts.drop (F+2)) (1+W) with
  | some cs,some fs=>if ts[0]?=some wOn∧ts[F+1]?=some wSay then some (cs,fs) else none
  | _,_=>none
theorem rdE_c {F W:Nat} {ts:List Str} (h:rdC ((ts.drop 1).take F) F=none):rdE F W ts=none:=by unfold rdE; rw [h]
theorem rdE_s {F W:Nat} {ts:List Str} (h:rdFs (ts.drop (F+2)) (1+W)=none):rdE F W ts=none:=by unfold rdE; rw [h]; cases rdC ((ts.drop 1).take F) F <;> rfl
theorem rdE_0 {F W:Nat} {ts:List Str} (h:¬ ts[0]?=some wOn):rdE F W ts=none:=by
  unfold rdE
  cases rdC ((ts.drop 1).take F) F with
  | none=>rfl
  | some cs=>cases rdFs (ts.drop (F+2)) (1+W) with
    | none=>rfl
    | some fs=>exact if_neg fun z=>h z.1
theorem rdE_ok {F W:Nat} {ts:List Str} {cs:List Int} {fs:List Fr} (h1:rdC ((ts.drop 1).take F) F=some cs) (h2:rdFs (ts.drop (F+2)) (1+W)=some fs) (h0:ts[0]?=some wOn):rdE F W ts=if ts[F+1]?=some wSay then some (cs,fs) else none:=by
  unfold rdE
  rw [h1,h2]
  by_cases z:ts[F+1]?=some wSay
  · rw [if_pos z]; exact if_pos ⟨h0,z⟩
  · rw [if_neg z]; exact if_neg fun q=>z q.2
theorem rdFs_len {ts:List Str} {m:Nat} {fs:List Fr} (h:rdFs ts m=some fs):ts.length=m:=by
  unfold rdFs at h
  by_cases z:ts.length=m
  · exact z
  · rw [if_neg z] at h; cases h
theorem optR_same {H H':Hp} {o:Option PyData} {v:V} (h:OptR H o v) (s:Same H H'):OptR H' o v:=by
  cases o with
  | none=>exact h
  | some d=>exact (show Rep H d v from h).same s
@[irreducible] def sp_rdeG:Sp:=fun vs H Q _=>∃ (a z:Addr) (F W:Nat) (ts:List Str),vs=[.ref a,.ref z]∧H a=some (.lst (ts.map V.str))∧H z=some (.tup [.int (F:Int),.int (W:Int)])∧RwK ts∧F≤4∧W≤4∧∀ v H',Same H H'→OptR H' ((rdE F W ts).map enD) v→Q v H'
theorem sp_rdeG_i {H:Hp} {Q:VK} {E:XK} {a z:Addr} {F W:Nat} {ts:List Str} (h1:H a=some (.lst (ts.map V.str))) (h2:H z=some (.tup [.int (F:Int),.int (W:Int)])) (h3:RwK ts) (f4:F≤4) (w4:W≤4) (k:∀ v H',Same H H'→OptR H' ((rdE F W ts).map enD) v→Q v H'):sp_rdeG [.ref a,.ref z] H Q E:=by
  unfold sp_rdeG; exact ⟨a,z,F,W,ts,rfl,h1,h2,h3,f4,w4,k⟩
def ens (F W:Nat):List (List Str)→List Ent
  | []=>[]
  | r::rs=>match rdE F W r with
    | none=>[]
    | some e=>e::ens F W rs
theorem ens_le (F W:Nat):∀ rs,(ens F W rs).length≤rs.length
  | []=>Nat.le_refl _
  | r::rs=>by
    have:=ens_le F W rs
    unfold ens
    cases rdE F W r with
    | none=>exact Nat.zero_le _
    | some e=>rw [List.length_cons,List.length_cons]; omega
theorem en_flat (e:Ent):flatD (enD e)=true:=by
  show (flatD (ctD e.1)&&(flatD (shD e.2)&&true))=true
  rw [show flatD (ctD e.1)=true from ints_flat e.1,shD_flat]; rfl
theorem ru_flat:∀ es:List Ent,flatDs (es.map enD)=true
  | []=>rfl
  | e::es=>by show (flatD (enD e)&&flatDs (es.map enD))=true; rw [ru_flat es,en_flat]; rfl
@[irreducible] def sp_ebhG:Sp:=fun vs H Q _=>∃ (a z:Addr) (F W:Nat) (t:V) (rs:List (List Str)),vs=[.ref a,.int 1,.ref z]∧H a=some (.lst (t::(rs.map lnOf).map V.str))∧H z=some (.tup [.int (F:Int),.int (W:Int)])∧(∀ r∈rs,RwK r)∧F≤4∧W≤4∧rs.length≤400∧∀ v H',Same H H'→Rep H' (ruD (ens F W rs)) v→Q v H'
theorem sp_ebhG_i {H:Hp} {Q:VK} {E:XK} {a z:Addr} {F W:Nat} {t:V} {rs:List (List Str)} (h1:H a=some (.lst (t::(rs.map lnOf).map V.str))) (h2:H z=some (.tup [.int (F:Int),.int (W:Int)])) (h3:∀ r∈rs,RwK r) (f4:F≤4) (w4:W≤4) (hl:rs.length≤400) (k:∀ v H',Same H H'→Rep H' (ruD (ens F W rs)) v→Q v H'):sp_ebhG [.ref a,.int 1,.ref z] H Q E:=by
  unfold sp_ebhG; exact ⟨a,z,F,W,t,rs,rfl,h1,h2,h3,f4,w4,hl,k⟩
section
variable {P:Program} {w:World} {K:PySem.W.Frag} {mg:Str→Option Value} {base:Heap} {c:Cl}
set_option maxHeartbeats 4000000 in
theorem ok_read_entry {f:Addr} {fd:FuncData} (F:Fun K "read_entry" "read_entry" s_read_entry f fd) (T:Txt K mg c) (F_read_counts:FnC CX0 P w K mg base 3 "read_counts" ["words", "many"] sp_rdcG) (F_read_fractions:FnC CX0 P w K mg base 4 "read_fractions" ["words", "many"] sp_rdfG):FnOk P w K mg base CX0 5 f fd ["words", "sizes"] sp_rdeG:=by
  refine F.okw sc_read_entry (fun vs H Q E h=>?_) (fun cdv A outer s H vs Q E hr h=>?_)
  · unfold sp_rdeG at h
    obtain ⟨a,z,F,W,e,rfl,_⟩:=h
    rfl
  · unfold sp_rdeG at h
    obtain ⟨a,z,F,W,ts,rfl,ha,hz,rw0,f4,w4,k⟩:=h
    obtain ⟨t0,ts0,et⟩:=List.exists_cons_of_ne_nil rw0.ne
    have ln:=rw0.len
    have cut1:cutV (ts.map V.str) (some 1) (some ((1:Int)+(F:Int)))=((ts.drop 1).take F).map V.str:=by
      rw [show ((1:Int)+(F:Int))=((1+F:Nat):Int) by omega,show (some (1:Int))=some ((1:Nat):Int) from rfl,cut_mid _ (by omega),show 1+F - 1=F by omega,List.map_take,List.map_drop]
    have cut2:cutV (ts.map V.str) (some ((1:Int)+(F:Int)+1)) none=(ts.drop (F+2)).map V.str:=by
      rw [show ((1:Int)+(F:Int)+1)=((F+2:Nat):Int) by omega,cutV_lo,List.map_drop]
    have at0:atI (ts.map V.str) 0=some (V.str t0):=by rw [et]; exact atI_nat (j:=0) rfl
    have g0:ts[0]?=some t0:=by rw [et]; rfl
    refine ⟨_,(wss_cons (ws_set (i:=2) sc_read_entry.nd rfl (Or.inl rfl) (we_op op_add we_int (we_ix ix_seq (we_v 1) we_int (fun _ _=>rfl))))
      (wss_cons (ws_set (i:=3) sc_read_entry.nd rfl (Or.inl rfl) (we_fn F_read_counts (hr.mono (by decide)) (wa_k (we_slice (sl_listN K) (we_v 0) (wo_some we_int) (wo_some (we_v 2))) (wa_k (we_ix ix_seq (we_v 1) we_int (fun _ _=>rfl)) wa_nil))))
      (wss_cons (ws_set (i:=4) sc_read_entry.nd rfl (Or.inl rfl) (we_fn F_read_fractions (hr.mono (by decide)) (wa_k (we_slice (sl_listN K) (we_v 0) (wo_some (we_op op_add (we_v 2) we_int)) wo_none) (wa_k (we_op op_add we_int (we_ix ix_seq (we_v 1) we_int (fun _ _=>rfl))) wa_nil))))
      (wss_cons (ws_if (wt_mono (wt_w (ww_or (wt_cmp op_ne (we_ix ix_seq (we_v 0) we_int (fun _ _=>rfl)) (we_glob (v:=.str (Str.ofString "on")) rfl T.g_ENTRY_WORD ⟨_,rfl⟩) (nomark _)) (ww_or (wt_cmp op_isN (we_v 3) we_non (nomark _)) (ww_or (wt_cmp op_isN (we_v 4) we_non (nomark _)) (ww_or1 (wt_cmp op_ne (we_ix ix_seq (we_v 0) (we_v 2) (fun _ _=>rfl)) (we_glob (v:=.str (Str.ofString "say")) rfl T.g_SAYS_WORD ⟨_,rfl⟩) (nomark _)))))))) (wss_one (ws_ret we_non)) wss_nil)
      (wss_one (ws_ret (we_tup (wa_k (we_v 3) (wa_k (we_v 4) wa_nil))))))))),?_⟩
    refine ⟨_,rfl,?_⟩
    refine ixT hz rfl ?_
    refine ⟨_,_,rfl,rfl,?_⟩
    refine ⟨_,rfl,_,rfl,_,rfl,_,rfl,?_⟩
    refine slL (ys:=((ts.drop 1).take F).map V.str) ha cut1 fun q1 H1 hq1 e1 s1=>?_
    refine ⟨_,rfl,?_⟩
    refine ixT (s1 _ _ hz) rfl ?_
    refine sp_rdcG_i e1 (by rw [List.length_take]; omega) (fun t ht=>?_) fun v2 H2 s2 r2=>?_
    · have:=rw0.sz t (List.mem_of_mem_drop (List.mem_of_mem_take ht)); omega
    have s02:=s1.trans s2
    refine ⟨_,rfl,_,rfl,_,_,rfl,rfl,_,rfl,?_⟩
    refine slL (ys:=(ts.drop (F+2)).map V.str) (s02 _ _ ha) cut2 fun q3 H3 hq3 e3 s3=>?_
    have s03:=s02.trans s3
    refine ⟨_,rfl,?_⟩
    refine ixT (s03 _ _ hz) rfl ?_
    refine ⟨_,_,rfl,rfl,?_⟩
    have eW:((fun i j=>V.int (i+j)) (1:Int) (W:Int))=V.int ((1+W:Nat):Int):=by show V.int (1+(W:Int))=_; congr 1
    rw [eW]
    refine sp_rdfG_i e3 (by rw [List.length_drop]; omega) (fun t ht=>?_) fun v4 H4 s4 r4=>?_
    · have:=rw0.sz t (List.mem_of_mem_drop ht); omega
    have s04:=s03.trans s4
    have r2':=optR_same r2 (s3.trans s4)
    refine ⟨fun b H'=>H'=H4∧b=(rdE F W ts).isNone∧(b=false→∃ cs fs,rdC ((ts.drop 1).take F) F=some cs∧rdFs (ts.drop (F+2)) (1+W)=some fs∧rdE F W ts=some (cs,fs)),?_,?_⟩
    · refine ⟨_,rfl,?_⟩
      refine ixL (s04 _ _ ha) at0 ?_
      refine ⟨rfl,_,rfl,?_⟩
      by_cases h0:t0=wOn
      · refine iteFe (by rw [h0]; simp; rfl) ?_
        subst h0
        refine ⟨_,rfl,rfl,_,rfl,?_⟩
        cases hc:rdC ((ts.drop 1).take F) F with
        | none =>
          rw [hc] at r2'
          cases (show v2=.non from r2')
          refine iteTe (by simp) ?_
          exact ⟨rfl,by rw [rdE_c hc]; rfl,fun z=>by cases z⟩
        | some cs =>
          rw [hc] at r2'
          obtain ⟨d2,rfl,hd2⟩:=cnts_at (show Rep H4 (ctD cs) v2 from r2')
          refine iteFe (by simp) ?_
          refine ⟨_,rfl,rfl,_,rfl,?_⟩
          cases hs:rdFs (ts.drop (F+2)) (1+W) with
          | none =>
            rw [hs] at r4
            cases (show v4=.non from r4)
            refine iteTe (by simp) ?_
            exact ⟨rfl,by rw [rdE_s hs]; rfl,fun z=>by cases z⟩
          | some fs =>
            rw [hs] at r4
            obtain ⟨d4,x4,rfl,hd4,rx4⟩:=shD_at (show Rep H4 (shD fs) v4 from r4)
            refine iteFe (by simp) ?_
            have hl:=rdFs_len hs
            rw [List.length_drop] at hl
            obtain ⟨u,hu⟩:∃ u,ts[F+1]?=some u:=⟨_,List.getElem?_eq_getElem (by omega)⟩
            have atp:atI (ts.map V.str) ((1:Int)+(F:Int))=some (V.str u):=by
              rw [show ((1:Int)+(F:Int))=((F+1:Nat):Int) by omega]
              exact atI_nat (by rw [List.getElem?_map,hu]; rfl)
            refine ⟨_,rfl,_,rfl,?_⟩
            refine ixL (s04 _ _ ha) atp ?_
            have eo:=rdE_ok hc hs g0
            rw [hu] at eo
            refine ⟨rfl,_,rfl,rfl,?_⟩
            by_cases hw:u=wSay
            · subst hw
              rw [if_pos rfl] at eo
              rw [eo]
              exact ⟨by simp [wSay],fun _=>⟨cs,fs,rfl,rfl,rfl⟩⟩
            · rw [if_neg (fun z=>hw (by injection z))] at eo
              rw [eo]
              have e1:(!decide (V.str u=V.str (Str.ofString "say")))=true:=by rw [decide_eq_false (fun z=>hw (by injection z))]; rfl
              exact ⟨e1,fun z=>by rw [e1] at z; cases z⟩
      · refine iteTe (by rw [decide_eq_false (fun z=>h0 (by injection z))]; rfl) ?_
        exact ⟨rfl,by rw [rdE_0 (fun z=>h0 (by rw [g0] at z; injection z))]; rfl,fun z=>by cases z⟩
    rintro b H5 ⟨rfl,hb,hb2⟩
    cases b with
    | true =>
      refine iteT ?_
      refine k _ H5 s04 ?_
      rw [Option.isNone_iff_eq_none.mp hb.symm]; rfl
    | false =>
      refine iteF ?_
      obtain ⟨cs,fs,h1,h2,h3⟩:=hb2 rfl
      rw [h1] at r2'
      rw [h2] at r4
      refine ⟨_,rfl,_,rfl,?_⟩
      refine nwT (by show 2≤64; decide) fun q6 H6 hq6 e6 s6=>?_
      refine k _ H6 (s04.trans s6) ?_
      rw [h3]
      exact Rep.tup e6 (RepL.cons ((show Rep H5 (ctD cs) v2 from r2').same s6) (RepL.cons ((show Rep H5 (shD fs) v4 from r4).same s6) RepL.nil))
set_option maxHeartbeats 4000000 in
theorem ok_entries_behind {f:Addr} {fd:FuncData} (F:Fun K "entries_behind" "entries_behind" s_entries_behind f fd) (T:Txt K mg c) (F_read_entry:FnC CX0 P w K mg base 5 "read_entry" ["words", "sizes"] sp_rdeG):FnOk P w K mg base CX0 6 f fd ["lines", "line", "sizes"] sp_ebhG:=by
  refine F.okw sc_entries_behind (fun vs H Q E h=>?_) (fun cdv A outer s H vs Q E hr h=>?_)
  · unfold sp_ebhG at h
    obtain ⟨a,z,F,W,t,es,rfl,_⟩:=h
    rfl
  · unfold sp_ebhG at h
    obtain ⟨a,z,F,W,t,rs,rfl,ha,hz,en,f4,w4,hl,k⟩:=h
    refine ⟨_,(wss_cons (ws_set (i:=3) sc_entries_behind.nd rfl (Or.inl rfl) (we_lst wa_nil))
      (wss_cons (ws_for PassesOwn.never rfl (wi_list (we_slice (sl_listN K) (we_v 0) (wo_some (we_v 1)) wo_none)) (wg_name (i:=4) sc_entries_behind.nd rfl (Or.inl rfl)) (wss_cons (ws_set (i:=5) sc_entries_behind.nd rfl (Or.inl rfl) (we_fn F_read_entry (hr.mono (by decide)) (wa_k (we_bm PySem.F.plainAttrs_str PySem.F.slot_str_split PySem.F.type_str_split mt_split (we_v 4) (wa_k we_str wa_nil)) (wa_k (we_v 2) wa_nil))))
      (wss_cons (ws_if (wt_cmp op_isN (we_v 5) we_non (nomark _)) (wss_one ws_brk) wss_nil)
      (wss_one (ws_expr (we_bm PySem.F.plainAttrs_list PySem.F.slot_list_append PySem.F.type_list_append mt_app (we_v 3) (wa_k (we_v 5) wa_nil)))))))
      (wss_one (ws_ret (we_cT call_tuple_of (by rfl) T.b_tuple (by decide +kernel) (wa_k (we_v 3) wa_nil)))))),?_⟩
    refine nwL (by show 0≤64; decide) fun L H1 hL e1 s1=>?_
    refine ⟨_,rfl,_,rfl,_,rfl,?_⟩
    refine slL (ys:=(rs.map lnOf).map V.str) (s1 _ _ ha) (by rw [show (some (1:Int))=some ((1:Nat):Int) from rfl,cutV_lo]; rfl) fun q2 H2 hq2 e2 s2=>?_
    have nL:q2≠L:=fun z=>by rw [z,e1] at hq2; cases hq2
    have fin:∀ (σ:St) (H3:Hp) (o4 o5:Option V) (ys:List V),Same H H3→H3 L=some (.lst ys)→RepL H3 ((ens F W rs).map enD) ys→∀ l,H3 l=none→Q (.ref l) (upd H3 l (.tup ys)):=fun σ H3 o4 o5 ys s3 eL3 r3 l hl=>k _ _ (s3.trans (Same.upd hl)) (Rep.tup upd_same (r3.same (Same.upd hl)))
    refine ⟨q2,rfl,⟨_,SqL.of e2⟩,?_⟩
    refine for_list (xs:=(rs.map lnOf).map V.str) (fun i σ H'=>∃ (o4 o5:Option V) (ys:List V) (es:List Ent),σ=[some (.ref a),some (.int 1),some (.ref z),some (.ref L),o4,o5]∧Same H H'∧H' q2=some (.lst ((rs.map lnOf).map V.str))∧H' L=some (.lst ys)∧RepL H' (es.map enD) ys∧es.length≤i∧ens F W rs=es++ens F W (rs.drop i)) ⟨_,_,[],[],rfl,s1.trans s2,e2,s2 _ _ e1,RepL.nil,Nat.le_refl _,rfl⟩ (fun i σ H' _ q=>?_) ?_ ?_
    · obtain ⟨_,_,_,_,_,_,e',_⟩:=q
      exact SqL.of e'
    · rintro i y σ H3 hy ⟨o4,o5,ys,es,rfl,s3,e3,eL3,r3,hle,hens⟩
      rw [List.getElem?_map,List.getElem?_map] at hy
      obtain ⟨u,hu,rfl⟩:=Option.map_eq_some_iff.mp hy
      obtain ⟨r,he,rfl⟩:=Option.map_eq_some_iff.mp hu
      have hi:=(List.getElem?_eq_some_iff.mp he).1
      have E1:=en r (List.mem_of_getElem? he)
      have ll:=E1.ll
      have sb:=E1.back
      have lr:=E1.len
      have lys:=reps_len r3
      have dr:rs.drop i=r::rs.drop (i+1):=by
        rw [List.drop_eq_getElem_cons hi]
        congr 1
        exact (List.getElem?_eq_some_iff.mp he).2
      refine ⟨_,rfl,?_⟩
      refine ⟨rfl,?_⟩
      refine rsplit (b:=bk) (by decide +kernel) (lineM (by omega)) (by rw [sb]; exact lineM (by omega)) fun p1 H4 hp1 e4 s4=>?_
      rw [sb] at e4
      refine ⟨_,rfl,?_⟩
      refine sp_rdeG_i e4 ((s3.trans s4) _ _ hz) E1 f4 w4 fun v5 H5 s5 r5=>?_
      have s35:=s4.trans s5
      refine ⟨_,rfl,rfl,_,rfl,?_⟩
      cases hE:rdE F W r with
      | none =>
        rw [hE] at r5
        cases (show v5=.non from r5)
        refine iteTe (by simp) ?_
        have ee:ens F W rs=es:=by
          rw [hens,dr]
          unfold ens
          rw [hE,List.append_nil]
        rw [← ee] at r3
        refine ⟨_,rfl,?_⟩
        exact ⟨L,_,rfl,.inl ⟨SqL.of (s35 _ _ eL3),fun l hl=>fin [] _ none none _ (s3.trans s35) (s35 _ _ eL3) (r3.same s35) l hl⟩⟩
      | some e =>
        rw [hE] at r5
        obtain ⟨d5,x5,rfl,hd5,rx5⟩:=tup_at (show Rep H5 (enD e) v5 from r5)
        refine iteFe (by simp) ?_
        refine ⟨_,rfl,tyL (s35 _ _ eL3),_,rfl,?_⟩
        refine appL (s35 _ _ eL3) (by omega) fun H6 e6 b6=>?_
        have t6:=b6.t (s35 _ _ eL3)
        refine ⟨_,_,_,es++[e],rfl,Same.thru hL (s3.trans s35) b6,b6.at nL (s35 _ _ e3),e6,?_,?_,?_⟩
        · rw [List.map_append]
          exact RepL.snoc ((r3.same s35).flat t6 (ru_flat _)) ((show Rep H5 (enD e) (.ref d5) from r5).flat t6 (en_flat _))
        · rw [List.length_append,List.length_singleton]; omega
        · rw [hens,dr,List.append_assoc]
          conv=>lhs; unfold ens
          rw [hE]; rfl
    · rintro σ H3 ⟨o4,o5,ys,es,rfl,s3,e3,eL3,r3,hle,hens⟩
      rw [List.length_map,List.length_map,List.drop_length,show ens F W []=[] from rfl,List.append_nil] at hens
      rw [← hens] at r3
      refine ⟨_,rfl,?_⟩
      exact ⟨L,_,rfl,.inl ⟨SqL.of eL3,fun l hl=>fin [] _ none none _ s3 eL3 r3 l hl⟩⟩
end
end Kw
set_option Elab.async false
set_option linter.all false
set_option maxRecDepth 100000
namespace Kw
open PySem L2 Mf Mt
abbrev s_NoLines___init__:Stmt:=(inClass (top 7) 0)
theorem sc_NoLines___init__:FnScope ["self", "line"] ["self", "line"] (defScope s_NoLines___init__):=⟨rfl,rfl,rfl,by decide +kernel,rfl,by decide +kernel,by decide +kernel⟩
abbrev s_read_head:Stmt:=(top 32)
theorem sc_read_head:FnScope ["lines", "words", "found", "sizes"] ["lines", "words"] (defScope s_read_head):=⟨rfl,rfl,rfl,by decide +kernel,rfl,by decide +kernel,by decide +kernel⟩
abbrev s_read_rule:Stmt:=(top 31)
theorem sc_read_rule:FnScope ["lines", "sizes", "entries"] ["lines"] (defScope s_read_rule):=⟨rfl,rfl,rfl,by decide +kernel,rfl,by decide +kernel,by decide +kernel⟩
@[irreducible] def sp_iniN (C:Addr) (n:Str):Sp:=fun vs H Q _=>∃ a x,vs=[.ref a,x]∧H a=some (ExcN a C none)∧∀ d,H d=none→d≠a→Q .non (upd (upd H a (ExcN a C (some d))) d (XdO d [(n,x)]))
theorem sp_iniN_i {C:Addr} {n:Str} {H:Hp} {Q:VK} {E:XK} {a:Addr} {x:V} (e:H a=some (ExcN a C none)) (q:∀ d,H d=none→d≠a→Q .non (upd (upd H a (ExcN a C (some d))) d (XdO d [(n,x)]))):sp_iniN C n [.ref a,x] H Q E:=by
  unfold sp_iniN; exact ⟨a,x,rfl,e,q⟩
abbrev Flt (C:Addr) (l:Nat) (H:Hp) (E:XK):Prop:=∀ H' d,Same H H'→H' d=some (XdO d [("line",.int (l:Int))])→E (.ref C) (some d) H'
theorem Flt.same {C:Addr} {l:Nat} {H H':Hp} {E:XK} (h:Flt C l H E) (s:Same H H'):Flt C l H' E:=fun H2 d s2 e=>h H2 d (s.trans s2) e
theorem rz37 {C:Addr} {l:Nat} {H1:Hp} {Ex:XK} (h:Flt C l H1 Ex):[V.int (l:Int)].length≤64∧∀ a,H1 a=none→sp_iniN C "line" (.ref a::[.int (l:Int)]) (upd H1 a (ExcN a C none)) (fun v H2=>v=.non∧∃ od,H2 a=some (ExcN a C od)∧Ex (.ref C) od (del H2 a)) E0:=by
  refine ⟨by show 1≤64; decide,fun ex hex=>?_⟩
  refine sp_iniN_i upd_same fun d hd hne=>?_
  refine ⟨rfl,some d,by rw [upd_ne (Ne.symm hne),upd_same],h _ d (fun b o e=>?_) (by rw [del_ne hne,upd_same])⟩
  have n1:b≠ex:=fun z=>by subst z; rw [hex] at e; cases e
  have hd2:H1 d=none:=by rw [upd_ne hne] at hd; exact hd
  have n2:b≠d:=fun z=>by subst z; rw [hd2] at e; cases e
  rw [del_ne n1,upd_ne n2,upd_ne n1,upd_ne n1]; exact e
theorem eqv_s1 (a b:Str):PyData.eqv (.list [.str a]) (.list [.str b])=decide (a=b):=by
  show ((a == b)&&true)=_
  rw [Bool.and_true,Bool.eq_iff_iff,beq_iff_eq,decide_eq_true_eq]
theorem Shp.str {t:Str} (h:lowS t):Shp 1 (.str t):=⟨lowS_ok h,by simp [PyData.depth]⟩
def hdS:Option (List Int)→Option (Nat × Nat)
  | some [f,g]=>if (2≤f∧f≤4)∧2≤g∧g≤4 then some (f.toNat,g.toNat) else none
  | _=>none
def hdR:List (List Str)→Option (Nat × Nat)
  | []=>none
  | r::_=>if r[0]?=some wRule then hdS (rdC (r.drop 1) 2) else none
theorem hdR_y {r:List Str} {rs:List (List Str)} (h:r[0]?=some wRule):hdR (r::rs)=hdS (rdC (r.drop 1) 2):=by
  show (if r[0]?=some wRule then _ else _)=_
  rw [if_pos h]
theorem hdR_n {r:List Str} {rs:List (List Str)} (h:¬ r[0]?=some wRule):hdR (r::rs)=none:=by
  show (if r[0]?=some wRule then _ else _)=_
  rw [if_neg h]
theorem rdC_len {ts:List Str} {m:Nat} {ns:List Int} (h:rdC ts m=some ns):ts.length=m∧ns.length=m:=by
  unfold rdC at h
  by_cases z:ts.length=m∧(ts.map rd).all geB=true
  · rw [if_pos z] at h
    injection h with h
    refine ⟨z.1,?_⟩
    rw [← h,List.length_map,List.length_map]; exact z.1
  · rw [if_neg z] at h; cases h
@[irreducible] def sp_rdhG (C:Addr):Sp:=fun vs H Q E=>∃ (a z:Addr) (rs:List (List Str)),vs=[.ref a,.ref z]∧H a=some (.lst ((rs.map lnOf).map V.str))∧H z=some (.lst [.str wRule])∧(∀ r∈rs,RwK r)∧(hdR rs=none→Flt C 0 H E)∧∀ F W,hdR rs=some (F,W)→∀ v H',Same H H'→H' v=some (.tup [.int (F:Int),.int (W:Int)])→Q (.ref v) H'
theorem sp_rdhG_i {C:Addr} {H:Hp} {Q:VK} {E:XK} {a z:Addr} {rs:List (List Str)} (h1:H a=some (.lst ((rs.map lnOf).map V.str))) (h2:H z=some (.lst [.str wRule])) (h3:∀ r∈rs,RwK r) (e:hdR rs=none→Flt C 0 H E) (k:∀ F W,hdR rs=some (F,W)→∀ v H',Same H H'→H' v=some (.tup [.int (F:Int),.int (W:Int)])→Q (.ref v) H'):sp_rdhG C [.ref a,.ref z] H Q E:=by
  unfold sp_rdhG; exact ⟨a,z,rs,rfl,h1,h2,h3,e,k⟩
theorem hdR_in {rs:List (List Str)} {F W:Nat} (h:hdR rs=some (F,W)):2≤F∧F≤4∧2≤W∧W≤4:=by
  cases rs with
  | nil=>cases h
  | cons r rs =>
    by_cases z:r[0]?=some wRule
    · rw [hdR_y z] at h
      unfold hdS at h
      split at h
      · rename_i f g e
        by_cases q:(2≤f∧f≤4)∧2≤g∧g≤4
        · rw [if_pos q] at h
          injection h with h
          injection h with h1 h2
          omega
        · rw [if_neg q] at h; cases h
      · cases h
    · rw [hdR_n z] at h; cases h
def rdR (rs:List (List Str)):Except Nat (List Ent):=match hdR rs with
  | none=>.error 0
  | some (F,W)=>if 1+(ens F W (rs.drop 1)).length<rs.length then .error (1+(ens F W (rs.drop 1)).length) else .ok (ens F W (rs.drop 1))
@[irreducible] def sp_rdrG (C:Addr):Sp:=fun vs H Q E=>∃ (a:Addr) (rs:List (List Str)),vs=[.ref a]∧H a=some (.lst ((rs.map lnOf).map V.str))∧(∀ r∈rs,RwK r)∧rs.length≤400∧(∀ l,rdR rs=.error l→Flt C l H E)∧∀ es,rdR rs=.ok es→∀ v H',Same H H'→Rep H' (ruD es) v→Q v H'
theorem sp_rdrG_i {C:Addr} {H:Hp} {Q:VK} {E:XK} {a:Addr} {rs:List (List Str)} (h1:H a=some (.lst ((rs.map lnOf).map V.str))) (h3:∀ r∈rs,RwK r) (hl:rs.length≤400) (e:∀ l,rdR rs=.error l→Flt C l H E) (k:∀ es,rdR rs=.ok es→∀ v H',Same H H'→Rep H' (ruD es) v→Q v H'):sp_rdrG C [.ref a] H Q E:=by
  unfold sp_rdrG; exact ⟨a,rs,rfl,h1,h3,hl,e,k⟩
section
variable {P:Program} {w:World} {K:PySem.W.Frag} {mg:Str→Option Value} {base:Heap} {c:Cl}
theorem ok_NoLines___init__ {f:Addr} {fd:FuncData} (F:Fun K "__init__" "NoLines.__init__" s_NoLines___init__ f fd) (T:Txt K mg c):FnOk P w K mg base CX0 1 f fd ["self", "line"] (sp_iniN c.NoLines "line"):=by
  refine F.okw sc_NoLines___init__ (fun vs H Q E h=>?_) (fun cdv A outer s H vs Q E hr h=>?_)
  · unfold sp_iniN at h
    obtain ⟨a,x,rfl,_⟩:=h
    rfl
  · unfold sp_iniN at h
    obtain ⟨a,x,rfl,ea,q⟩:=h
    refine ⟨_,(wss_cons (ws_expr (we_baseN T.bc_EarlyError T.g_EarlyError (wa_k (we_v 0) (wa_k (we_v 1) wa_nil))))
      (wss_one (ws_fldN (we_v 0) (we_v 1)))),?_⟩
    refine ⟨_,rfl,_,rfl,a,c.NoLines,none,_,rfl,by show 2≤64; decide,ea,(setAll.shape T.st_NoLines),?_⟩
    refine ⟨_,rfl,_,rfl,a,c.NoLines,rfl,(setAll.set T.st_NoLines),(setAll.no T.st_NoLines (by simp)),.inl ⟨ea,fun d nd na=>?_⟩⟩
    exact q d nd na
set_option maxHeartbeats 4000000 in
theorem ok_read_head {f:Addr} {fd:FuncData} (F:Fun K "read_head" "read_head" s_read_head f fd) (T:Txt K mg c) (F_NoLines___init__:FnI P w K mg base 1 c.NoLines ["self", "line"] (sp_iniN c.NoLines "line")) (F_read_counts:FnC CX0 P w K mg base 3 "read_counts" ["words", "many"] sp_rdcG):FnOk P w K mg base (CX1 P w) 4 f fd ["lines", "words"] (sp_rdhG c.NoLines):=by
  refine F.okx sc_read_head (fun vs H Q E h=>?_) (fun cdv A outer s H vs Q E hr h hx hmd=>?_)
  · unfold sp_rdhG at h
    obtain ⟨a,z,rs,rfl,_⟩:=h
    rfl
  · unfold sp_rdhG at h
    obtain ⟨a,z,rs,rfl,ha,hz,ok,e,k⟩:=h
    refine ⟨_,(wss_cons (ws_if (wt_cmp op_eq (we_cB cl_len (by rfl) T.b_len (by decide +kernel) (wa_k (we_v 0) wa_nil)) we_int (nomark _)) (wss_one (ws_raiseX F_NoLines___init__ T.g_NoLines rfl (hr.mono (by decide)) xmadeG_fn (wa_k we_int wa_nil))) wss_nil)
      (wss_cons (ws_set (i:=2) sc_read_head.nd rfl (Or.inl rfl) (we_bm PySem.F.plainAttrs_str PySem.F.slot_str_split PySem.F.type_str_split mt_split (we_ix ix_seq (we_v 0) we_int (fun _ _=>rfl)) (wa_k we_str wa_nil)))
      (wss_cons (ws_set (i:=3) sc_read_head.nd rfl (Or.inl rfl) (we_fn F_read_counts (hr.mono (by decide)) (wa_k (we_slice (sl_listN K) (we_v 2) (wo_some (we_cB cl_len (by rfl) T.b_len (by decide +kernel) (wa_k (we_v 1) wa_nil))) wo_none) (wa_k we_int wa_nil))))
      (wss_cons (ws_if (wt_mono (wt_w (ww_or (wt_cmp (op_neD hr.units) (we_slice (sl_listN K) (we_v 2) wo_none (wo_some (we_cB cl_len (by rfl) T.b_len (by decide +kernel) (wa_k (we_v 1) wa_nil)))) (we_v 1) (nomark _)) (ww_or (wt_cmp op_isN (we_v 3) we_non (nomark _)) (ww_or1 (wt_not (wt_val (we_cB (cl_all rfl) (by rfl) T.b_all (by decide +kernel) (wa_k (we_comp (CScope.of (psc:=defScope s_read_head) (N:=["lines", "words", "found", "sizes"]) (N':=["one"]) (js:=[]) (by decide +kernel) rfl rfl rfl) (wi_tup (we_v 3)) (fun _ _ _ _=>wts_nil) (fun _ _ _ _=>(we_chain op_le op_le (we_glob (v:=.int 2) rfl T.g_LEAST_NAMES ⟨_,rfl⟩) (we_v 0) (we_glob (v:=.int 4) rfl T.g_MOST_NAMES ⟨_,rfl⟩)))) wa_nil))))))))) (wss_one (ws_raiseX F_NoLines___init__ T.g_NoLines rfl (hr.mono (by decide)) xmadeG_fn (wa_k we_int wa_nil))) wss_nil)
      (wss_one (ws_ret (we_v 3))))))),?_⟩
    refine ⟨_,rfl,?_⟩
    refine rlL ha ?_
    refine ⟨rfl,_,rfl,?_⟩
    cases rs with
    | nil =>
      refine iteT ?_
      exact rz37 (e rfl)
    | cons r rest =>
      have okr:=ok r (List.mem_cons_self ..)
      have ll:=okr.ll
      have lr:=okr.len
      have sb:=okr.back
      obtain ⟨t0,r0,er⟩:=List.exists_cons_of_ne_nil okr.ne
      rw [decide_eq_false (show ¬ V.int ((((r::rest).map lnOf).map V.str).length:Int)=V.int 0 from fun z=>by injection z with z; rw [List.length_map,List.length_map,List.length_cons] at z; omega)]
      refine iteF ?_
      refine ⟨_,rfl,?_⟩
      refine ixL ha (atI_nat (j:=0) rfl) ?_
      refine ⟨rfl,?_⟩
      refine rsplit (b:=bk) (by decide +kernel) (lineM (by omega)) (by rw [sb]; exact lineM (by omega)) fun p1 H1 hp1 e1 s1=>?_
      rw [sb] at e1
      refine ⟨_,rfl,_,rfl,?_⟩
      refine rlL (s1 _ _ hz) ?_
      refine ⟨_,rfl,?_⟩
      refine slL (ys:=(r.drop 1).map V.str) e1 (by show cutV _ (some ((1:Nat):Int)) none=_; rw [cutV_lo,List.map_drop]) fun q2 H2 hq2 e2 s2=>?_
      refine sp_rdcG_i (m:=2) e2 (by rw [List.length_drop]; omega) (fun t ht=>?_) fun v3 H3 s3 r3=>?_
      · have:=okr.sz t (List.mem_of_mem_drop ht); omega
      have s13:=s2.trans s3
      have s03:=s1.trans s13
      refine ⟨fun b H'=>Same H3 H'∧b=(hdR (r::rest)).isNone∧(b=false→∃ F W,hdR (r::rest)=some (F,W)∧Rep H3 (ctD [(F:Int),(W:Int)]) v3),?_,?_⟩
      · refine ⟨_,rfl,_,rfl,?_⟩
        refine rlL (s03 _ _ hz) ?_
        refine ⟨_,rfl,?_⟩
        refine slL (ys:=[V.str t0]) (s13 _ _ e1) (by show cutV _ none (some ((1:Nat):Int))=_; rw [er]; rfl) fun q4 H4 hq4 e4 s4=>?_
        refine ⟨_,rfl,?_⟩
        refine reD (d:=.list [.str t0]) (d':=.list [.str wRule]) (Rep.lst e4 (RepL.cons (Rep.str _) RepL.nil)) (Rep.lst ((s03.trans s4) _ _ hz) (RepL.cons (Rep.str _) RepL.nil)) ((Shp.lst (n:=1) fun d hd=>by rw [List.mem_singleton.mp hd]; exact Shp.str (okr.low t0 (by rw [er]; exact List.mem_cons_self))).ok) (by decide +kernel) ?_
        rw [eqv_s1]
        refine ⟨_,rfl,?_⟩
        by_cases h0:t0=wRule
        · have g0:r[0]?=some wRule:=by rw [er,h0]; rfl
          have eh:hdR (r::rest)=hdS (rdC (r.drop 1) 2):=hdR_y g0
          refine iteFe (by rw [h0]; simp) ?_
          refine ⟨_,rfl,rfl,_,rfl,?_⟩
          cases hc:rdC (r.drop 1) 2 with
          | none =>
            rw [hc] at r3
            cases (show v3=.non from r3)
            refine iteTe (by simp) ?_
            exact ⟨s4,by rw [eh,hc]; rfl,fun z=>by cases z⟩
          | some ns =>
            rw [hc] at r3
            obtain ⟨_,l2⟩:=rdC_len hc
            obtain ⟨n1,n2,rfl⟩:∃ n1 n2,ns=[n1,n2]:=by
              match ns,l2 with
              | [a,b],_=>exact ⟨a,b,rfl⟩
            obtain ⟨d3,rfl,hd3⟩:=cnts_at (show Rep H3 (ctD [n1,n2]) v3 from r3)
            refine iteFe (by simp) ?_
            refine ⟨_,rfl,d3,rfl,⟨_,SqT.of (s4 _ _ hd3)⟩,?_⟩
            refine comp_mapU (fun i y _=>∃ x,[n1,n2][i]?=some x∧y=.bl (decide (2≤x)&&decide (x≤4))) (fun _ _ _ _ _ h=>h) (by show 2≤_; decide) (s4 _ _ hd3) (fun i y H' Q' hy s' k'=>?_) (fun D2 ys H5 hD2 e5 s5 hy5 hr5=>?_)
            · rw [List.getElem?_map] at hy
              obtain ⟨x,hx,rfl⟩:=Option.map_eq_some_iff.mp hy
              refine ⟨_,rfl,_,_,rfl,rfl,_,rfl,?_⟩
              by_cases c2:2≤x
              · refine iteTe (decide_eq_true c2) ?_
                refine ⟨_,_,rfl,rfl,?_⟩
                exact k' _ H' (Same.refl _) ⟨x,hx,by rw [decide_eq_true c2,Bool.true_and]⟩
              · refine iteFe (decide_eq_false c2) ?_
                exact k' _ H' (Same.refl _) ⟨x,hx,by rw [decide_eq_false c2,Bool.false_and]⟩
            have ey:ys=([n1,n2].map fun x=>decide (2≤x)&&decide (x≤4)).map V.bl:=vals_map (l:=[n1,n2]) (g:=fun x=>decide (2≤x)&&decide (x≤4)) (f:=V.bl) hy5 hr5
            subst ey
            refine rall e5 ?_
            refine ⟨_,rfl,s4.trans s5,?_⟩
            rw [eh,hc]
            show (!((decide (2≤n1)&&decide (n1≤4))&&((decide (2≤n2)&&decide (n2≤4))&&true)))=_∧_
            by_cases q:(2≤n1∧n1≤4)∧2≤n2∧n2≤4
            · have e8:hdS (some [n1,n2])=some (n1.toNat,n2.toNat):=if_pos q
              rw [e8,decide_eq_true q.1.1,decide_eq_true q.1.2,decide_eq_true q.2.1,decide_eq_true q.2.2]
              refine ⟨rfl,fun _=>⟨_,_,rfl,?_⟩⟩
              rw [Int.toNat_of_nonneg (by omega),Int.toNat_of_nonneg (by omega)]
              exact r3
            · have e8:hdS (some [n1,n2])=none:=if_neg q
              have e9:((decide (2≤n1)&&decide (n1≤4))&&((decide (2≤n2)&&decide (n2≤4))&&true))=false:=by
                rw [Bool.eq_false_iff]
                intro z
                simp only [Bool.and_eq_true,decide_eq_true_eq,and_true] at z
                exact q z
              rw [e8]
              have e10:(!([n1,n2].map fun x=>decide (2≤x)&&decide (x≤4)).all id)=true:=by
                show (!((decide (2≤n1)&&decide (n1≤4))&&((decide (2≤n2)&&decide (n2≤4))&&true)))=true
                rw [e9]; rfl
              exact ⟨by rw [e9]; rfl,fun z=>by rw [e10] at z; cases z⟩
        · refine iteTe (by simpa using h0) ?_
          refine ⟨s4,?_,fun z=>by cases z⟩
          rw [hdR_n (fun z=>h0 (by rw [er] at z; injection z))]; rfl
      rintro b H4 ⟨s4,hb,hb2⟩
      cases b with
      | true =>
        refine iteT ?_
        exact rz37 ((e (Option.isNone_iff_eq_none.mp hb.symm)).same (s03.trans s4))
      | false =>
        refine iteF ?_
        obtain ⟨F,W,h1,h2⟩:=hb2 rfl
        obtain ⟨d3,rfl,hd3⟩:=cnts_at h2
        refine ⟨_,rfl,?_⟩
        exact k F W h1 d3 H4 (s03.trans s4) (s4 _ _ hd3)
set_option maxHeartbeats 4000000 in
theorem ok_read_rule {f:Addr} {fd:FuncData} (F:Fun K "read_rule" "read_rule" s_read_rule f fd) (T:Txt K mg c) (F_NoLines___init__:FnI P w K mg base 1 c.NoLines ["self", "line"] (sp_iniN c.NoLines "line")) (F_read_head:FnC (CX1 P w) P w K mg base 4 "read_head" ["lines", "words"] (sp_rdhG c.NoLines)) (F_entries_behind:FnC CX0 P w K mg base 6 "entries_behind" ["lines", "line", "sizes"] sp_ebhG):FnOk P w K mg base (CX1 P w) 7 f fd ["lines"] (sp_rdrG c.NoLines):=by
  refine F.okx sc_read_rule (fun vs H Q E h=>?_) (fun cdv A outer s H vs Q E hr h hx hmd=>?_)
  · unfold sp_rdrG at h
    obtain ⟨a,rs,rfl,_⟩:=h
    rfl
  · unfold sp_rdrG at h
    obtain ⟨a,rs,rfl,ha,ok,hl,e,k⟩:=h
    refine ⟨_,(wss_cons (ws_set (i:=1) sc_read_rule.nd rfl (Or.inl rfl) (we_fnX F_read_head (hr.mono (by decide)) hx (wa_k (we_v 0) (wa_k (we_lst (wa_k (we_glob (v:=.str (Str.ofString "rule")) rfl T.g_RULE_WORD ⟨_,rfl⟩) wa_nil)) wa_nil))))
      (wss_cons (ws_set (i:=2) sc_read_rule.nd rfl (Or.inl rfl) (we_fn F_entries_behind (hr.mono (by decide)) (wa_k (we_v 0) (wa_k we_int (wa_k (we_v 1) wa_nil)))))
      (wss_cons (ws_if (wt_cmp op_lt (we_op op_add we_int (we_cB cl_len (by rfl) T.b_len (by decide +kernel) (wa_k (we_v 2) wa_nil))) (we_cB cl_len (by rfl) T.b_len (by decide +kernel) (wa_k (we_v 0) wa_nil)) (nomark _)) (wss_one (ws_raiseX F_NoLines___init__ T.g_NoLines rfl (hr.mono (by decide)) xmadeG_fn (wa_k (we_op op_add we_int (we_cB cl_len (by rfl) T.b_len (by decide +kernel) (wa_k (we_v 2) wa_nil))) wa_nil))) wss_nil)
      (wss_one (ws_ret (we_v 2)))))),?_⟩
    refine ⟨_,rfl,?_⟩
    refine nwL (by show 1≤64; decide) fun q1 H1 hq1 e1 s1=>?_
    refine sp_rdhG_i (s1 _ _ ha) e1 ok (fun h0=>?_) fun F W hFW v2 H2 s2 e2=>?_
    · refine (e 0 ?_).same s1
      unfold rdR; rw [h0]
    obtain ⟨f2,f4,w2,w4⟩:=hdR_in hFW
    have s02:=s1.trans s2
    obtain ⟨r,rest,rfl⟩:∃ r rest,rs=r::rest:=by
      cases rs with
      | nil=>cases hFW
      | cons r rest=>exact ⟨r,rest,rfl⟩
    refine ⟨_,rfl,_,rfl,?_⟩
    refine sp_ebhG_i (s02 _ _ ha) e2 (fun x hx=>ok x (List.mem_cons_of_mem _ hx)) f4 w4 (by rw [List.length_cons] at hl; omega) fun v3 H3 s3 r3=>?_
    obtain ⟨d3,x3,rfl,hd3,rx3⟩:=tup_at r3
    have s03:=s02.trans s3
    have lx:=reps_len rx3
    have eR:rdR (r::rest)=if 1+(ens F W rest).length<(r::rest).length then .error (1+(ens F W rest).length) else .ok (ens F W rest):=by
      unfold rdR; rw [hFW]; rfl
    refine ⟨_,rfl,?_⟩
    refine rlT hd3 ?_
    refine ⟨_,_,rfl,rfl,?_⟩
    refine ⟨_,rfl,?_⟩
    refine rlL (s03 _ _ ha) ?_
    rw [List.length_map,List.length_map,lx]
    refine ⟨_,_,rfl,rfl,_,rfl,?_⟩
    refine iteD (fun z=>?_) (fun z=>?_)
    · rw [if_pos (show 1+(ens F W rest).length<(r::rest).length by omega)] at eR
      refine ⟨_,rfl,?_⟩
      refine rlT hd3 ?_
      rw [lx]
      refine ⟨_,_,rfl,rfl,?_⟩
      have e9:((fun i j=>V.int (i+j)) (1:Int) ((ens F W rest).length:Int))=V.int ((1+(ens F W rest).length:Nat):Int):=by show V.int (1+((ens F W rest).length:Int))=_; congr 1
      rw [e9]
      exact rz37 ((e _ eR).same s03)
    · rw [if_neg (show ¬ 1+(ens F W rest).length<(r::rest).length by omega)] at eR
      refine ⟨_,rfl,?_⟩
      exact k _ eR _ H3 s03 r3
end
end Kw
set_option Elab.async false
set_option linter.all false
set_option maxRecDepth 100000
namespace Kw
open PySem L2 Mf Mt
def lgB (t:Str):Bool:=wrB t&&decide (t.length≤4000)
def lgN (t:Str):Option Nat:=if lgB t=true then some (val t) else none
theorem lgB_eq (t:Str):lgB t=(decide (1≤t.length)&&decide (t.length≤4000)&&figs t && !(decide (t.cps.toList.head?=some 48) && !decide (t=zero))):=by
  unfold lgB wrB
  have e:(!t.cps.toList.isEmpty)=decide (1≤t.length):=by
    rw [← len_toList]
    cases t.cps.toList <;> simp
  rw [e]
  cases decide (1≤t.length) <;> cases decide (t.length≤4000) <;> cases figs t <;> simp
theorem rd_pl {t:Str} (h:neg t=false):rd t=(lgN t).map Int.ofNat:=by
  have hf:fg t=t:=by unfold fg; rw [h]; rfl
  have hb:rdB t=lgB t:=by unfold rdB; rw [hf,lgB_eq]
  unfold rd lgN rdV
  rw [hb,hf,h]
  cases lgB t <;> rfl
theorem val_zero:val zero=0:=by decide +kernel
theorem neg_ne {t:Str} (h:neg t=true):t≠zero:=fun z=>by
  rw [z] at h; exact absurd h (by decide +kernel)
theorem lg_pos {t:Str} (h:lgB t=true):val t=0↔t=zero:=by
  refine ⟨fun e=>?_,fun e=>by rw [e]; exact val_zero⟩
  have hw:wrB t=true:=by unfold lgB at h; rw [Bool.and_eq_true] at h; exact h.1
  unfold wrB at hw
  simp only [Bool.and_eq_true,Bool.not_eq_true',Bool.and_eq_false_iff,decide_eq_false_iff_not] at hw
  obtain ⟨⟨h1,h2⟩,h3⟩:=hw
  rcases h3 with h3 | h3
  · cases q:t.cps.toList with
    | nil=>rw [q] at h1; cases h1
    | cons x r =>
      rw [q] at h3
      have hx:x≠48:=fun z=>h3 (by rw [z]; rfl)
      have ha:=figs_all h2
      rw [q] at ha
      have hd:=ha.head
      have e2:val t=(x - 48)*10^r.length+NumText.digitsVal r:=by
        show NumText.digitsVal t.cps.toList=_
        rw [q]
        have:=dv_from r (0*10+(x - 48))
        have e3:NumText.digitsVal (x::r)=List.foldl (fun acc c=>acc*10+(c - 48)) (0*10+(x - 48)) r:=rfl
        rw [e3,this,Nat.zero_mul,Nat.zero_add]
      have h4:1*10^r.length≤(x - 48)*10^r.length:=Nat.mul_le_mul_right _ (by omega)
      have h5:0<10^r.length:=Nat.pow_pos (by decide)
      omega
  · simpa using h3
theorem rd_ng {t:Str} (h:neg t=true):rd t=match lgN (fg t) with | some 0=>none | some n=>some (-(n:Int)) | none=>none:=by
  have hz:=neg_ne h
  have hb:rdB t=(lgB (fg t) && !decide (fg t=zero)):=by
    unfold rdB
    rw [lgB_eq,decide_eq_false hz]
    by_cases z:fg t=zero
    · rw [z]; decide +kernel
    · rw [decide_eq_false z]
      simp
  unfold rd lgN rdV
  rw [hb,h]
  cases hl:lgB (fg t) with
  | false=>rfl
  | true =>
    by_cases z:fg t=zero
    · rw [decide_eq_true z,z,val_zero]; rfl
    · have hv:val (fg t)≠0:=fun e=>z ((lg_pos hl).mp e)
      rw [decide_eq_false z]
      cases hq:val (fg t) with
      | zero=>exact absurd hq hv
      | succ n=>rfl
theorem lg_neg {t:Str} (h:neg t=true):lgN t=none:=by
  unfold lgN
  rw [if_neg]
  intro hb
  rw [lgB_eq] at hb
  simp only [Bool.and_eq_true] at hb
  have hf:=hb.1.2
  have hh:t.cps.toList.head?=some 45:=of_decide_eq_true h
  cases q:t.cps.toList with
  | nil=>rw [q] at hh; cases hh
  | cons x r =>
    rw [q] at hh
    have hx:x=45:=by injection hh
    unfold figs at hf
    rw [q,List.all_cons,Bool.and_eq_true,hx] at hf
    exact absurd hf.1 (by decide)
theorem joinS_inj:∀ {a b:List Str},a≠[]→b≠[]→(∀ p∈a,47 ∉ p.cps.toList)→(∀ p∈b,47 ∉ p.cps.toList)→(Str.join sl a).cps.toList=(Str.join sl b).cps.toList→a=b
  | [],_,h,_,_,_,_=>absurd rfl h
  | _,[],_,h,_,_,_=>absurd rfl h
  | [x],[y],_,_,_,_,e=>by rw [str_ext (show x.cps.toList=y.cps.toList from e)]
  | [x],y::z::r,_,_,ha,_,e=>by
    rw [join2] at e
    exact absurd (show 47∈x.cps.toList by rw [show x.cps.toList=_ from e]; simp) (ha x (by simp))
  | x::u::r,[y],_,_,_,hb,e=>by
    rw [join2] at e
    exact absurd (show 47∈y.cps.toList by rw [show y.cps.toList=_ from e.symm]; simp) (hb y (by simp))
  | x::u::r,y::z::t,_,_,ha,hb,e=>by
    rw [join2,join2] at e
    obtain ⟨e1,e2⟩:=cut_inj (ha x (by simp)) (hb y (by simp)) e
    rw [str_ext e1,joinS_inj (a:=u::r) (b:=z::t) (by simp) (by simp) (fun p hp=>ha p (List.mem_cons_of_mem _ hp)) (fun p hp=>hb p (List.mem_cons_of_mem _ hp)) e2]
theorem words_free (t:Str):∀ p∈words t,47 ∉ p.cps.toList:=StrLaws.split_free t 47
theorem words_join (t:Str):Str.join sl (words t)=t:=StrLaws.join_split t sl
theorem words_of {t:Str} {ts:List Str} (hn:ts≠[]) (hf:∀ p∈ts,47 ∉ p.cps.toList) (e:(Str.join sl ts).cps.toList=t.cps.toList):words t=ts :=
  joinS_inj (split_ne t) hn (words_free t) hf (by rw [words_join]; exact e.symm)
def mi (p:Str):Str:=⟨(45::p.cps.toList).toArray⟩
theorem mi_neg (p:Str):neg (mi p)=true:=decide_eq_true rfl
theorem mi_fg (p:Str):fg (mi p)=p:=by
  unfold fg
  rw [mi_neg,if_pos rfl]
  exact str_ext rfl
theorem words_neg {t:Str} (h:neg t=true):∃ p r,words (fg t)=p::r∧words t=mi p::r:=by
  obtain ⟨p,r,e⟩:=List.exists_cons_of_ne_nil (split_ne (fg t))
  have e:words (fg t)=p::r:=e
  refine ⟨p,r,e,words_of (by simp) (fun q hq=>?_) ?_⟩
  · rcases List.mem_cons.mp hq with rfl | hq
    · intro z
      rcases List.mem_cons.mp (show 47∈45::p.cps.toList from z) with z | z
      · cases z
      · exact words_free (fg t) p (by rw [e]; exact List.mem_cons_self) z
    · exact words_free (fg t) q (by rw [e]; exact List.mem_cons_of_mem _ hq)
  · have hj:=congrArg (fun s:Str=>s.cps.toList) (words_join (fg t))
    rw [e] at hj
    have hh:t.cps.toList.head?=some 45:=of_decide_eq_true h
    have ht:t.cps.toList=45::(fg t).cps.toList:=by
      unfold fg
      rw [if_pos h]
      cases q:t.cps.toList with
      | nil=>rw [q] at hh; cases hh
      | cons x r =>
        rw [q] at hh
        have hx:x=45:=by injection hh
        rw [hx]; rfl
    rw [ht,← hj]
    cases r with
    | nil=>rfl
    | cons q r=>rw [join2]; show _=45::(Str.join sl (p::q::r)).cps.toList; rw [join2]; rfl
theorem words_pos {t p:Str} {r:List Str} (h:neg t=false) (e:words t=p::r):neg p=false:=by
  cases q:neg p with
  | false=>rfl
  | true =>
    have hh:p.cps.toList.head?=some 45:=of_decide_eq_true q
    have hj:=congrArg (fun s:Str=>s.cps.toList) (words_join t)
    rw [e] at hj
    have:t.cps.toList.head?=some 45:=by
      rw [← hj]
      cases r with
      | nil=>exact hh
      | cons y r =>
        rw [join2]
        cases z:p.cps.toList with
        | nil=>rw [z] at hh; cases hh
        | cons a l=>rw [z] at hh; exact hh
    unfold neg at h
    rw [this] at h
    exact absurd h (by decide)
def sg (b:Bool) (n:Nat):Int:=if b=true then -(n:Int) else (n:Int)
def lfF (b:Bool):List (Option Nat)→Option Fr
  | [some n]=>if b=true∧n=0 then none else some (sg b n,1)
  | [some n,some d]=>if (b=true∧n=0)∨d=0∨d=1∨Nat.gcd n d≠1 then none else some (sg b n,(d:Int))
  | _=>none
def lfr (t:Str):Option Fr:=lfF (neg t) ((words (fg t)).map lgN)
theorem lfF_no {b:Bool} {l:List (Option Nat)} (h:none∈l):lfF b l=none:=by
  match l,h with
  | [none],_=>rfl
  | [some n],h=>simp at h
  | [none,none],_=>rfl
  | [none,some d],_=>rfl
  | [some n,none],_=>rfl
  | [some n,some d],h=>simp at h
  | x::y::_::_,_=>cases x <;> cases y <;> rfl
  | [],h=>cases h
theorem lfF_long {b:Bool} {l:List (Option Nat)} (h:2<l.length):lfF b l=none:=by
  match l,h with
  | x::y::_::_,_=>cases x <;> cases y <;> rfl
theorem rdF_long {l:List (Option Int)} (h:2<l.length):rdF l=none:=by
  match l,h with
  | x::y::_::_,_=>cases x <;> cases y <;> rfl
theorem rdF_d {o:Option Int} {p:Str} (h:lgN p=none):rdF [o,rd p]=none:=by
  cases hn:neg p with
  | true =>
    rw [rd_ng hn]
    cases o with
    | none=>cases (match lgN (fg p) with | some 0=>none | some n=>some (-(n:Int)) | none=>none:Option Int) <;> rfl
    | some n =>
      cases lgN (fg p) with
      | none=>rfl
      | some m =>
        cases m with
        | zero=>rfl
        | succ m =>
          show (if (!decide (-((m+1:Nat):Int)=1)&&(decide (1≤-((m+1:Nat):Int))&&decide (Int.gcd n (-((m+1:Nat):Int))=1)))=true then some (n,-((m+1:Nat):Int)) else none)=none
          rw [decide_eq_false (show ¬ 1≤-((m+1:Nat):Int) by omega),Bool.false_and,Bool.and_false]; rfl
  | false =>
    rw [rd_pl hn,h]
    cases o <;> rfl
theorem two_eq {b:Bool} {n d:Nat} (hb:¬ (b=true∧n=0)):rdF [some (sg b n),some (d:Int)]=if (b=true∧n=0)∨d=0∨d=1∨Nat.gcd n d≠1 then none else some (sg b n,(d:Int)):=by
  have eg:Int.gcd (sg b n) (d:Int)=Nat.gcd n d:=by
    unfold sg
    cases b
    · rfl
    · rw [if_pos rfl,Int.neg_gcd]; rfl
  show (if (!decide ((d:Int)=1)&&(decide (1≤(d:Int))&&decide (Int.gcd (sg b n) (d:Int)=1)))=true then some (sg b n,(d:Int)) else none)=_
  rw [eg]
  by_cases h:(b=true∧n=0)∨d=0∨d=1∨Nat.gcd n d≠1
  · rw [if_pos h,if_neg]
    intro z
    simp only [Bool.and_eq_true,Bool.not_eq_true',decide_eq_false_iff_not,decide_eq_true_eq] at z
    rcases h with h | h | h | h
    · exact hb h
    · omega
    · omega
    · exact h z.2.2
  · rw [if_neg h,if_pos]
    simp only [Bool.and_eq_true,Bool.not_eq_true',decide_eq_false_iff_not,decide_eq_true_eq]
    refine ⟨fun z=>h (.inr (.inr (.inl (by omega)))),?_,?_⟩
    · refine Classical.byContradiction fun z=>h (.inr (.inl (by omega)))
    · exact Classical.byContradiction fun z=>h (.inr (.inr (.inr z)))
theorem lfr_eq (t:Str):lfr t=rdT t:=by
  unfold lfr rdT
  cases hn:neg t with
  | true =>
    obtain ⟨p,r,e1,e2⟩:=words_neg hn
    rw [e1,e2]
    have ep:rd (mi p)=match lgN p with | some 0=>none | some n=>some (-(n:Int)) | none=>none:=by rw [rd_ng (mi_neg p),mi_fg]
    match r with
    | [] =>
      show lfF true [lgN p]=rdF [rd (mi p)]
      rw [ep]
      cases lgN p with
      | none=>rfl
      | some n=>cases n <;> rfl
    | [q] =>
      show lfF true [lgN p,lgN q]=rdF [rd (mi p),rd q]
      cases hq:lgN q with
      | none=>rw [rdF_d hq]; cases lgN p <;> rfl
      | some d =>
        have hnq:neg q=false:=by
          cases z:neg q with
          | false=>rfl
          | true=>rw [lg_neg z] at hq; cases hq
        rw [rd_pl hnq,hq,ep]
        cases lgN p with
        | none=>rfl
        | some n =>
          cases n with
          | zero =>
            have:lfF true [some 0,some d]=none:=by
              unfold lfF
              exact if_pos (Or.inl ⟨rfl,rfl⟩)
            rw [this]; rfl
          | succ n=>exact (two_eq (b:=true) (n:=n+1) (d:=d) (fun z=>by cases z.2)).symm
    | q1::q2::r =>
      rw [lfF_long (by simp),rdF_long (by simp)]
  | false =>
    have hf:fg t=t:=by unfold fg; rw [hn]; rfl
    rw [hf]
    obtain ⟨p,r,e⟩:=List.exists_cons_of_ne_nil (split_ne t)
    have e:words t=p::r:=e
    have np:=words_pos hn e
    rw [e]
    match r with
    | [] =>
      show lfF false [lgN p]=rdF [rd p]
      rw [rd_pl np]
      cases lgN p <;> rfl
    | [q] =>
      show lfF false [lgN p,lgN q]=rdF [rd p,rd q]
      cases hq:lgN q with
      | none=>rw [rdF_d hq]; cases lgN p <;> rfl
      | some d =>
        have hnq:neg q=false:=by
          cases z:neg q with
          | false=>rfl
          | true=>rw [lg_neg z] at hq; cases hq
        rw [rd_pl hnq,hq,rd_pl np]
        cases lgN p with
        | none=>rfl
        | some n=>exact (two_eq (b:=false) (n:=n) (d:=d) (fun z=>by cases z.1)).symm
    | q1::q2::r =>
      rw [lfF_long (by simp),rdF_long (by simp)]
end Kw
set_option Elab.async false
set_option linter.all false
set_option maxRecDepth 100000
namespace Kw
open PySem L2 Mf Mt
abbrev s__law_figures:Stmt:=(top 47)
theorem sc__law_figures:FnScope ["_law_word"] ["_law_word"] (defScope s__law_figures):=⟨rfl,rfl,rfl,by decide +kernel,rfl,by decide +kernel,by decide +kernel⟩
def sgD (l:List Nat):PyData:=.list (l.map fun x=>PyData.str ⟨#[x]⟩)
theorem sg_rep {H:Hp}:∀ l:List Nat,RepL H (l.map fun x=>PyData.str ⟨#[x]⟩) (l.map fun x=>V.str ⟨#[x]⟩)
  | []=>RepL.nil
  | _::r=>RepL.cons (Rep.str _) (sg_rep r)
theorem one_ok {x:Nat} (h:x<128):PyData.canLay0 (.str ⟨#[x]⟩)=true:=by
  have:∀ y:Nat,y<128→PyData.canLay0 (.str ⟨#[y]⟩)=true:=by decide +kernel
  exact this x h
theorem sg_lay:∀ l:List Nat,(∀ x∈l,x<128)→PyData.canLayAll0 (l.map fun x=>PyData.str ⟨#[x]⟩)=true
  | [],_=>rfl
  | x::r,h=>by
    show (PyData.canLay0 (.str ⟨#[x]⟩)&&PyData.canLayAll0 (r.map fun x=>PyData.str ⟨#[x]⟩))=true
    rw [sg_lay r (fun y hy=>h y (List.mem_cons_of_mem _ hy)),one_ok (h x List.mem_cons_self)]
    rfl
theorem sg_depth:∀ l:List Nat,PyData.depthAll (l.map fun x=>PyData.str ⟨#[x]⟩)=0
  | []=>rfl
  | x::r=>by
    show max 0 (PyData.depthAll (r.map fun x=>PyData.str ⟨#[x]⟩))=0
    rw [sg_depth r]
    rfl
theorem sg_shaped (l:List Nat) (h:∀ x∈l,x<128):SeqAt.shaped (sgD l)=true:=by
  unfold SeqAt.shaped
  rw [Bool.and_eq_true]
  refine ⟨sg_lay l h,decide_eq_true ?_⟩
  show PyData.depthAll (l.map fun x=>PyData.str ⟨#[x]⟩)+1≤64
  rw [sg_depth]
  decide
theorem sg_eqv (l:List Nat):PyData.eqv (sgD l) (.list [])=l.isEmpty:=by
  cases l <;> rfl
theorem part_low37 {t p:Str} (lo:(∀ x∈t.cps.toList,x<128)) (h:p∈words t):∀ x∈p.cps.toList,x<128:=by
  have hj:=StrLaws.join_split t sl
  intro x hx
  refine lo x ?_
  rw [← hj]
  have:∀ l:List Str,p∈l→x∈(Str.join sl l).cps.toList:=by
    intro l
    induction l with
    | nil=>intro h; cases h
    | cons a r ih =>
      intro h
      cases r with
      | nil =>
        rcases List.mem_cons.mp h with rfl | h
        · exact hx
        · cases h
      | cons b r =>
        rw [join2]
        rcases List.mem_cons.mp h with rfl | h
        · exact List.mem_append_left _ hx
        · exact List.mem_append_right _ (List.mem_cons_of_mem _ (ih h))
  exact this _ h
theorem dv_lt:∀ {l:List Nat},NumText.AllDigits l→NumText.digitsVal l<10^l.length
  | [],_=>by decide
  | x::r,h=>by
    have h1:=dv_lt h.tail
    have h2:=h.head
    have e:NumText.digitsVal (x::r)=(x - 48)*10^r.length+NumText.digitsVal r:=by
      have:=dv_from r (0*10+(x - 48))
      have e2:NumText.digitsVal (x::r)=List.foldl (fun acc c=>acc*10+(c - 48)) (0*10+(x - 48)) r:=rfl
      rw [e2,this,Nat.zero_mul,Nat.zero_add]
    rw [e,List.length_cons,Nat.pow_succ]
    have h3:(x - 48)*10^r.length≤9*10^r.length:=Nat.mul_le_mul_right _ (by omega)
    omega
theorem lw_self {n d:Int} (h:0<d):decide (lw n d=(n,d))=decide (Int.gcd n d=1):=by
  refine decide_eq_decide.mpr ⟨fun e=>?_,fun e=>?_⟩
  · have:=(lw_low (n:=n) h).low
    rw [e] at this
    exact this
  · unfold lw
    rw [e]
    simp
def opFr (o:Option Fr):PyData:=match o with | some g=>frD g | none=>.none
theorem lgB_len {t:Str} (h:lgB t=true):t.length≤4000∧figs t=true∧t.cps.toList≠[]:=by
  rw [lgB_eq] at h
  simp only [Bool.and_eq_true,decide_eq_true_eq] at h
  refine ⟨h.1.1.2,h.1.2,fun z=>?_⟩
  have:=h.1.1.1
  rw [← len_toList,z] at this
  exact absurd this (by decide)
theorem p2500 {t:Str} (h:figs t=true) (z:t.length≤2500):val t<2^9000:=by
  have h1:val t<10^t.length:=by
    have:=dv_lt (figs_all h)
    rw [len_toList] at this
    exact this
  have h2:10^t.length≤10^2500:=Nat.pow_le_pow_right (by decide) z
  have h3:10^2500≤2^9000:=by decide +kernel
  exact Nat.lt_of_lt_of_le h1 (Nat.le_trans h2 h3)
@[irreducible] def sp_lfig:Sp:=fun vs H Q _=>∃ t,vs=[.str t]∧t.length≤20000∧(∀ x∈t.cps.toList,x<128)∧∀ H',Same H H'→Q (.bl (lgB t)) H'
theorem sp_lfig_i {H:Hp} {Q:VK} {E:XK} {t:Str} (h:t.length≤20000) (lo:∀ x∈t.cps.toList,x<128) (q:∀ H',Same H H'→Q (.bl (lgB t)) H'):sp_lfig [.str t] H Q E:=by unfold sp_lfig; exact ⟨t,rfl,h,lo,q⟩
@[irreducible] def sp_lfra:Sp:=fun vs H Q _=>∃ t,vs=[.str t]∧t.length≤6000∧(∀ x∈t.cps.toList,x<128)∧Thin t∧∀ v H',Same H H'→Rep H' (opFr (rdT t)) v→Q v H'
theorem sp_lfra_i {H:Hp} {Q:VK} {E:XK} {t:Str} (h:t.length≤6000) (lo:∀ x∈t.cps.toList,x<128) (th:Thin t) (q:∀ v H',Same H H'→Rep H' (opFr (rdT t)) v→Q v H'):sp_lfra [.str t] H Q E:=by unfold sp_lfra; exact ⟨t,rfl,h,lo,th,q⟩
def ahT (t:Str):Str:=if neg t=true then Str.ofString "-" else Str.ofString ""
theorem slice1 (t:Str):(Txt.slice t none (some 1)).cps.toList=t.cps.toList.take 1:=by
  by_cases h:1≤t.length
  · exact slice_to (by decide) (by omega)
  · have:t=Str.ofString "" := str_ext (by
      have:t.cps.toList.length=0:=by rw [len_toList]; omega
      rw [List.length_eq_zero_iff.mp this]; rfl)
    rw [this]; decide +kernel
theorem ah_dec (t:Str):decide (V.str (Txt.slice t none (some 1))=V.str (Str.ofString "-"))=neg t:=by
  unfold neg
  refine decide_eq_decide.mpr ⟨fun z=>?_,fun z=>?_⟩
  · injection z with z
    have h:=congrArg (fun s:Str=>s.cps.toList) z
    rw [slice1,show (Str.ofString "-").cps.toList=[45] from by decide +kernel] at h
    cases q:t.cps.toList with
    | nil=>rw [q] at h; cases h
    | cons x r =>
      rw [q] at h
      have:x=45:=by injection h
      rw [this]; rfl
  · congr 1
    refine str_ext ?_
    rw [slice1,show (Str.ofString "-").cps.toList=[45] from by decide +kernel]
    cases q:t.cps.toList with
    | nil=>rw [q] at z; cases z
    | cons x r =>
      rw [q] at z
      have:x=45:=by injection z
      rw [this]; rfl
theorem fg_mem {t:Str} {x:Nat} (h:x∈(fg t).cps.toList):x∈t.cps.toList:=by
  unfold fg at h
  split at h
  · exact List.mem_of_mem_drop h
  · exact h
theorem ah_cut (t:Str):Txt.slice t (some ((ahT t).length:Int)) none=fg t:=by
  refine str_ext ?_
  unfold ahT fg
  cases hn:neg t with
  | true =>
    have hh:t.cps.toList.head?=some 45:=of_decide_eq_true hn
    have hl:1≤t.length:=by
      rw [← len_toList]
      cases q:t.cps.toList with
      | nil=>rw [q] at hh; cases hh
      | cons x r=>simp
    rw [if_pos rfl,if_pos rfl,show (Str.ofString "-").length=1 by decide +kernel,slice_from (by decide) (by omega)]
    rfl
  | false =>
    rw [if_neg (by decide),if_neg (by decide),show (Str.ofString "").length=0 by decide +kernel,slice_from (by decide) (by omega)]
    rfl
theorem part_th {t u v:Str} (th:Thin t) (h:words (fg t)=[u,v]) (hu:figs u=true) (hv:figs v=true) (d0:val v≠0):(Int.gcd ((val u:Nat):Int) ((val v:Nat):Int):Int).natAbs<2^9000:=by
  have eg:Int.gcd ((val u:Nat):Int) ((val v:Nat):Int)=Nat.gcd (val u) (val v):=rfl
  rw [eg,Int.natAbs_natCast]
  have key:∀ u',words t=[u',v]→fg u'=u→u.length≤u'.length→Nat.gcd (val u) (val v)<2^9000:=fun u' e1 e2 e3=>by
    rcases th u' v e1 with h1 | ⟨h1,h2⟩
    · exact Nat.lt_of_le_of_lt (Nat.le_of_dvd (Nat.pos_of_ne_zero d0) (Nat.gcd_dvd_right _ _)) (p2500 hv h1)
    · rw [e2] at h2
      exact Nat.lt_of_le_of_lt (Nat.le_of_dvd (Nat.pos_of_ne_zero h2) (Nat.gcd_dvd_left _ _)) (p2500 hu (Nat.le_trans e3 h1))
  cases hn:neg t with
  | true =>
    obtain ⟨p,r,e1,e2⟩:=words_neg hn
    rw [h] at e1
    injection e1 with e3 e4
    subst e3 e4
    refine key _ e2 (mi_fg u) ?_
    rw [← len_toList,← len_toList]
    exact Nat.le_succ _
  | false =>
    have hf:fg t=t:=by unfold fg; rw [hn]; rfl
    rw [hf] at h
    have np:=words_pos hn h
    exact key u h (by unfold fg; rw [np]; rfl) (Nat.le_refl _)
theorem eqv_s0 (l:List Str):PyData.eqv (.list (l.map PyData.str)) (.list [])=l.isEmpty:=by
  cases l <;> rfl
theorem strs_shp {l:List Str} (h:∀ t∈l,lowS t):SeqAt.shaped (.list (l.map PyData.str))=true:=(Shp.lst (n:=1) fun d hd=>by
  obtain ⟨t,ht,rfl⟩:=List.mem_map.mp hd
  exact Shp.str (h t ht)).ok
section
variable {P:Program} {w:World} {K:PySem.W.Frag} {mg:Str→Option Value} {base:Heap} {c:Cl}
set_option maxHeartbeats 4000000 in
theorem ok__law_figures {f:Addr} {fd:FuncData} (F:Fun K "_law_figures" "_law_figures" s__law_figures f fd) (T:Txt K mg c):FnOk P w K mg base CX0 1 f fd ["_law_word"] sp_lfig:=by
  refine F.okw sc__law_figures (fun vs H Q E h=>?_) (fun cdv A outer s H vs Q E hr h=>?_)
  · unfold sp_lfig at h
    obtain ⟨t,rfl,_⟩:=h
    rfl
  · unfold sp_lfig at h
    obtain ⟨t,rfl,hz,lo,q⟩:=h
    refine ⟨_,(wss_cons (ws_if (wt_mono (wt_w (ww_or (wt_not (wt_chain op_le op_le we_int (we_cB cl_len (by rfl) T.b_len (by decide +kernel) (wa_k (we_v 0) wa_nil)) we_int)) (ww_or1 (wt_cmp (op_neD hr.units) (we_comp (CScope.of (psc:=defScope s__law_figures) (N:=["_law_word"]) (N':=["_law_sign"]) (js:=[]) (by decide +kernel) rfl rfl rfl) (wi_str (we_v 0)) (fun _ _ _ _=>wts_one (wt_cmp op_notin_str (we_v 0) we_str (by with_unfolding_all rfl))) (fun _ _ _ _=>(we_v 0))) (we_lst wa_nil) (nomark _)))))) (wss_one (ws_ret we_bl)) wss_nil)
      (wss_one (ws_ret (we_or (we_cmp op_ne (we_ix ix_seq (we_v 0) we_int (fun _ _=>rfl)) we_str (nomark _)) (we_one (we_cmp op_eq (we_v 0) we_str (nomark _))))))),?_⟩
    have eb:=lgB_eq t
    refine ⟨fun b H'=>Same H H'∧(b=true→lgB t=false)∧(b=false→1≤t.length∧t.length≤4000∧figs t=true),?_,?_⟩
    · refine ⟨_,rfl,?_⟩
      refine rlS (line20 hz) ?_
      refine ⟨_,_,rfl,rfl,_,rfl,?_⟩
      refine iteD (fun c1=>?_) (fun c1=>?_)
      · refine ⟨_,_,rfl,rfl,_,rfl,?_⟩
        by_cases c2:t.length≤4000
        · refine iteFe (by show (!decide ((t.length:Int)≤4000))=false; rw [decide_eq_true (by omega)]; rfl) ?_
          refine ⟨_,rfl,_,rfl,?_⟩
          refine comp_str (x:=t) (fun x=>!dig x) (fun x=>V.str ⟨#[x]⟩) (by omega) (fun x H' Q' _ q=>?_) (fun x H' Q' _ q=>⟨_,rfl,q⟩) fun D H3 hD e3 s3=>?_
          · refine ⟨_,rfl,_,_,rfl,rfl,?_⟩
            rw [in_figs]
            exact ⟨_,rfl,q⟩
          · refine nwL (by show 0≤64; decide) fun q2 H4 hq2 e4 s4=>?_
            refine reD (Rep.lst (s4 _ _ e3) (sg_rep _)) (Rep.lst e4 RepL.nil) (sg_shaped _ (fun x hx=>lo x (List.mem_filter.mp hx).1)) rfl ?_
            have ee:PyData.eqv (PyData.list ((t.cps.toList.filter fun x=>!dig x).map fun x=>PyData.str ⟨#[x]⟩)) (.list [])=figs t:=by
              rw [show PyData.list ((t.cps.toList.filter fun x=>!dig x).map fun x=>PyData.str ⟨#[x]⟩)=sgD (t.cps.toList.filter fun x=>!dig x) from rfl,sg_eqv]
              unfold figs
              rw [Bool.eq_iff_iff,List.isEmpty_iff,List.filter_eq_nil_iff,List.all_eq_true]
              refine ⟨fun h x hx=>by simpa using h x hx,fun h x hx=>by simpa using h x hx⟩
            rw [ee]
            refine ⟨_,rfl,s3.trans s4,?_⟩
            cases hf:figs t with
            | false =>
              refine ⟨fun _=>?_,fun z=>by cases z⟩
              rw [eb,hf]; simp
            | true=>exact ⟨(fun z=>by cases z),fun _=>⟨by omega,c2,rfl⟩⟩
        · refine iteTe (by show (!decide ((t.length:Int)≤4000))=true; rw [decide_eq_false (by omega)]; rfl) ⟨Same.refl _,fun _=>?_,fun z=>by cases z⟩
          rw [eb,decide_eq_false c2]; simp
      · refine ⟨_,rfl,?_⟩
        refine iteTe rfl ⟨Same.refl _,fun _=>?_,fun z=>by cases z⟩
        rw [eb,decide_eq_false (show ¬ 1≤t.length by omega)]; simp
    · rintro b H' ⟨s',hb1,hb2⟩
      cases b with
      | true =>
        refine iteT ?_
        have:=q H' s'
        rw [hb1 rfl] at this
        exact this
      | false =>
        refine iteF ?_
        obtain ⟨h1,h2,h3⟩:=hb2 rfl
        obtain ⟨x0,r0,ec⟩:∃ x0 r0,t.cps.toList=x0::r0:=by
          cases q3:t.cps.toList with
          | nil=>rw [← len_toList,q3] at h1; exact absurd h1 (by decide)
          | cons x y=>exact ⟨x,y,rfl⟩
        have eb:lgB t=!(decide (x0=48) && !decide (t=zero)):=by
          rw [eb,decide_eq_true h1,decide_eq_true h2,h3,ec]
          simp
        refine ⟨_,rfl,?_⟩
        refine .inr (.inr ⟨t,0,x0,rfl,rfl,line20 (by omega),by rw [ec]; exact atI_nat (j:=0) rfl,?_⟩)
        refine ⟨rfl,_,rfl,?_⟩
        by_cases c1:x0=48
        · rw [decide_eq_true c1] at eb
          refine iteFe (by show (!decide (V.str ⟨#[x0]⟩=V.str (Str.ofString "0")))=false; rw [decide_eq_true (show V.str ⟨#[x0]⟩=V.str (Str.ofString "0") by rw [c1]; rfl)]; rfl) ?_
          refine ⟨_,rfl,rfl,?_⟩
          have:=q H' s'
          rw [eb] at this
          show Q (V.bl (decide (V.str t=V.str (Str.ofString "0")))) H'
          rw [show decide (V.str t=V.str (Str.ofString "0"))=decide (t=zero) from decide_eq_decide.mpr ⟨fun z=>by injection z,fun z=>by rw [z]; rfl⟩]
          simpa using this
        · have ne:¬ V.str ⟨#[x0]⟩=V.str (Str.ofString "0"):=fun x=>c1 (by
            injection x with x
            have h2:[x0]=zero.cps.toList:=congrArg (fun y:Str=>y.cps.toList) x
            rw [zero_cps] at h2
            injection h2)
          refine iteTe (by show (!decide (V.str ⟨#[x0]⟩=V.str (Str.ofString "0")))=true; rw [decide_eq_false ne]; rfl) ?_
          have:=q H' s'
          rw [eb,decide_eq_false c1] at this
          exact this
end
end Kw
set_option Elab.async false
set_option linter.all false
set_option maxRecDepth 100000
namespace Kw
open PySem L2 Mf Mt
abbrev s__law_fraction:Stmt:=(top 48)
theorem sc__law_fraction:FnScope ["_law_word", "_law_ahead", "_law_parts", "_law_n", "_law_d"] ["_law_word"] (defScope s__law_fraction):=⟨rfl,rfl,rfl,by decide +kernel,rfl,by decide +kernel,by decide +kernel⟩
theorem fr_shaped (f:Fr):SeqAt.shaped (frD f)=true:=(Shp.tup (n:=1) fun d hd=>by
  simp only [List.mem_cons,List.not_mem_nil,or_false] at hd
  rcases hd with rfl | rfl
  · exact Shp.int _
  · exact Shp.int _).ok
theorem ah_is (t:Str):decide (V.str (ahT t)=V.str (Str.ofString "-"))=neg t:=by
  unfold ahT
  cases neg t with
  | true=>exact decide_eq_true rfl
  | false=>exact decide_eq_false fun z=>by injection z with z; exact absurd z (by decide +kernel)
section
variable {P:Program} {w:World} {K:PySem.W.Frag} {mg:Str→Option Value} {base:Heap} {c:Cl}
set_option maxHeartbeats 4000000 in
theorem ok__law_fraction {f:Addr} {fd:FuncData} (F:Fun K "_law_fraction" "_law_fraction" s__law_fraction f fd) (T:Txt K mg c) (F__law_figures:FnC CX0 P w K mg base 1 "_law_figures" ["_law_word"] sp_lfig) (F__law_frac:FnC CX0 P w K mg base 1 "_law_frac" ["_law_n", "_law_d"] sp_lfrac):FnOk P w K mg base CX0 2 f fd ["_law_word"] sp_lfra:=by
  refine F.okw sc__law_fraction (fun vs H Q E h=>?_) (fun cdv A outer s H vs Q E hr h=>?_)
  · unfold sp_lfra at h
    obtain ⟨t,rfl,_⟩:=h
    rfl
  · unfold sp_lfra at h
    obtain ⟨t,rfl,hz,lo,th,q⟩:=h
    rw [← lfr_eq] at q
    refine ⟨_,(wss_cons (ws_set (i:=1) sc__law_fraction.nd rfl (Or.inl rfl) we_str)
      (wss_cons (ws_cut (ws_if (wt_cmp op_eq (we_slice sl_str (we_v 0) wo_none (wo_some we_int)) we_str (nomark _)) (wss_one (ws_set (i:=1) sc__law_fraction.nd rfl (Or.inl rfl) we_str)) wss_nil))
      (wss_cons (ws_set (i:=2) sc__law_fraction.nd rfl (Or.inl rfl) (we_bm PySem.F.plainAttrs_str PySem.F.slot_str_split PySem.F.type_str_split mt_split (we_slice sl_str (we_v 0) (wo_some (we_cB cl_len (by rfl) T.b_len (by decide +kernel) (wa_k (we_v 1) wa_nil))) wo_none) (wa_k we_str wa_nil)))
      (wss_cons (ws_if (wt_mono (wt_w (ww_or (wt_cmp op_gt (we_cB cl_len (by rfl) T.b_len (by decide +kernel) (wa_k (we_v 2) wa_nil)) we_int (nomark _)) (ww_or1 (wt_cmp (op_neD hr.units) (we_comp (CScope.of (psc:=defScope s__law_fraction) (N:=["_law_word", "_law_ahead", "_law_parts", "_law_n", "_law_d"]) (N':=["_law_part"]) (js:=[]) (by decide +kernel) rfl rfl rfl) (wi_list (we_v 2)) (fun _ _ _ _=>wts_one (wt_not (wt_val (we_fn F__law_figures (hr.mono (by decide)) (wa_k (we_v 0) wa_nil))))) (fun _ _ _ _=>(we_v 0))) (we_lst wa_nil) (nomark _)))))) (wss_one (ws_ret we_non)) wss_nil)
      (wss_cons (ws_set (i:=3) sc__law_fraction.nd rfl (Or.inl rfl) (we_cT (cl_intT T.nd) (by rfl) T.b_int (by decide +kernel) (wa_k (we_ix ix_seq (we_v 2) we_int (fun _ _=>rfl)) wa_nil)))
      (wss_cons (ws_set (i:=4) sc__law_fraction.nd rfl (Or.inl rfl) (we_cT (cl_intT T.nd) (by rfl) T.b_int (by decide +kernel) (wa_k (we_ix ix_seq (we_op op_cat (we_v 2) (we_lst (wa_k we_str wa_nil))) we_int (fun _ _=>rfl)) wa_nil)))
      (wss_cons (ws_if (wt_mono (wt_w (ww_or (wt_w (ww_and (wt_cmp op_eq (we_v 1) we_str (nomark _)) (ww_and1 (wt_cmp op_eq (we_v 3) we_int (nomark _))))) (ww_or (wt_cmp op_eq (we_v 4) we_int (nomark _)) (ww_or (wt_w (ww_and (wt_cmp op_eq (we_cB cl_len (by rfl) T.b_len (by decide +kernel) (wa_k (we_v 2) wa_nil)) we_int (nomark _)) (ww_and1 (wt_cmp op_eq (we_v 4) we_int (nomark _))))) (ww_or1 (wt_cmp (op_neD hr.units) (we_fn F__law_frac (hr.mono (by decide)) (wa_k (we_v 3) (wa_k (we_v 4) wa_nil))) (we_tup (wa_k (we_v 3) (wa_k (we_v 4) wa_nil))) (nomark _)))))))) (wss_one (ws_ret we_non)) wss_nil)
      (wss_one (ws_ret (we_tup (wa_k (we_op op_sub (we_v 3) (we_op op_mulB (we_op op_mulB we_int (we_v 3)) (we_cT call_int1 (by rfl) T.b_int (by decide +kernel) (wa_k (we_cmp op_eq (we_v 1) we_str (nomark _)) wa_nil)))) (wa_k (we_v 4) wa_nil)))))))))))),?_⟩
    refine ⟨fun σ H'=>H'=H∧σ=[some (.str t),some (.str (ahT t)),none,none,none],?_,?_⟩
    case refine_2 =>
      refine ⟨_,rfl,_,rfl,?_⟩
      refine ⟨t,rfl,line20 (by omega),?_⟩
      refine ⟨rfl,_,rfl,?_⟩
      rw [ah_dec]
      cases hn:neg t with
      | true =>
        refine iteT ?_
        exact ⟨rfl,by unfold ahT; rw [hn]; rfl⟩
      | false =>
        refine iteF ?_
        exact ⟨rfl,by unfold ahT; rw [hn]; rfl⟩
    rintro σ H' ⟨rfl,rfl⟩
    have fz:=fg_len t
    have fl:∀ x∈(fg t).cps.toList,x<128:=fun x hx=>lo x (fg_mem hx)
    have hw:=words_len (fg t)
    refine ⟨_,rfl,_,rfl,?_⟩
    refine rlS (line20 (by unfold ahT; split <;> decide +kernel)) ?_
    refine ⟨_,rfl,?_⟩
    refine ⟨t,rfl,line20 (by omega),?_⟩
    rw [ah_cut]
    refine ⟨rfl,?_⟩
    refine rsplit (by decide) (line20 (by omega)) (line20 (show (words (fg t)).length≤20000 by omega)) fun p1 H1 hp1 e1 s1=>?_
    have e1:H1 p1=some (.lst ((words (fg t)).map V.str)):=e1
    refine ⟨fun b H2=>Same H1 H2∧(b=true→lfr t=none)∧(b=false→(words (fg t)).length≤2∧∀ p∈words (fg t),lgB p=true),?_,?_⟩
    · refine ⟨_,rfl,?_⟩
      refine rlL e1 ?_
      rw [List.length_map]
      refine ⟨_,_,rfl,rfl,_,rfl,?_⟩
      refine iteD (fun z=>?_) (fun z=>?_)
      · exact ⟨Same.refl _,fun _=>lfF_long (by rw [List.length_map]; omega),fun z=>by cases z⟩
      refine ⟨_,rfl,p1,rfl,⟨_,SqL.of e1⟩,?_⟩
      refine comp_fltD (g:=PyData.str) (as:=words (fg t)) (strs_rep _) (fun p=>!lgB p) (by rw [List.length_map]; omega) e1 (fun x p H2 Q' hp rx s2 k'=>?_) (fun x H2 Q' q'=>⟨_,rfl,q'⟩) fun D ys H2 hD e2 s2 r2=>?_
      · cases (show x=V.str p from rx)
        refine ⟨_,rfl,?_⟩
        refine sp_lfig_i (by have:=part_len hp; omega) (part_low37 fl hp) fun H5 s5=>?_
        exact ⟨_,rfl,k' H5 s5⟩
      · refine nwL (by show 0≤64; decide) fun q3 H3 hq3 e3 s3=>?_
        refine reD (Rep.lst (s3 _ _ e2) (r2.same s3)) (Rep.lst e3 RepL.nil) (strs_shp fun u hu c hc=>?_) rfl ?_
        · have:=part_low37 fl (List.mem_filter.mp hu).1 c hc; omega
        rw [eqv_s0]
        refine ⟨_,rfl,s2.trans s3,?_⟩
        cases he:((words (fg t)).filter fun p=>!lgB p).isEmpty with
        | true =>
          refine ⟨(fun z=>by cases z),fun _=>⟨by omega,fun p hp=>?_⟩⟩
          have:=List.filter_eq_nil_iff.mp (List.isEmpty_iff.mp he) p hp
          simpa using this
        | false =>
          refine ⟨fun _=>?_,fun z=>by cases z⟩
          obtain ⟨p,hp⟩:=List.exists_mem_of_ne_nil ((words (fg t)).filter fun p=>!lgB p) (fun z=>by rw [z] at he; cases he)
          obtain ⟨h1,h2⟩:=List.mem_filter.mp hp
          refine lfF_no (List.mem_map.mpr ⟨p,h1,?_⟩)
          unfold lgN
          rw [if_neg (by simpa using h2)]
    rintro b H2 ⟨s2,hb1,hb2⟩
    cases b with
    | true =>
      refine iteT ?_
      refine q _ H2 (s1.trans s2) ?_
      rw [hb1 rfl]; exact Rep.non
    | false =>
      refine iteF ?_
      obtain ⟨l2,all⟩:=hb2 rfl
      have rint:∀ {u:Str} {Q':VK} {H':Hp},lgB u=true→Q' (.int ((val u:Nat):Int)) H'→rIntT [.str u] H' Q':=fun {u Q' H'} hu q'=>by
        obtain ⟨w1,w2,w3⟩:=lgB_len hu
        exact rintT (fun x hx=>.inr (figs_all w2 x hx)) (PySem.intText_digits (figs_all w2) w3 (by omega)) (line20 (by omega)) q'
      obtain ⟨p,r,er⟩:=List.exists_cons_of_ne_nil (split_ne (fg t))
      have er:words (fg t)=p::r:=er
      rw [er] at l2 all e1
      have e2:=s2 _ _ e1
      have hp:=all p (List.mem_cons_self ..)
      obtain ⟨d,hd1,hd2,hd3⟩:∃ d:Str,((p::r)++[Str.ofString "1"])[1]?=some d∧lgB d=true∧(r=[]∧val d=1∨r=[d]):=by
        match r,l2 with
        | [],_=>exact ⟨_,rfl,by decide +kernel,.inl ⟨rfl,by decide +kernel⟩⟩
        | [d],_=>exact ⟨d,rfl,all d (by simp),.inr rfl⟩
      refine ⟨_,rfl,?_⟩
      refine ixL e2 (atI_nat (j:=0) rfl) ?_
      refine rint hp ?_
      refine ⟨_,rfl,?_⟩
      refine nwL (by show 1≤64; decide) fun q3 H3 hq3 e3 s3=>?_
      refine catL (s3 _ _ e2) e3 (by simp only [List.length_map,List.length_cons,List.length_nil]; rw [List.length_cons] at l2; omega) fun q4 H4 hq4 e4 s4=>?_
      refine ixL e4 (v:=.str d) (atI_nat (j:=1) (by have:=congrArg (Option.map V.str) hd1; rw [← List.getElem?_map,List.map_append] at this; exact this)) ?_
      refine rint hd2 ?_
      have S4:=s3.trans s4
      have el:lfr t=if (neg t=true∧val p=0)∨val d=0∨(r≠[]∧val d=1)∨Nat.gcd (val p) (val d)≠1 then none else some (sg (neg t) (val p),((val d:Nat):Int)):=by
        unfold lfr
        rw [er]
        have ep:lgN p=some (val p):=by unfold lgN; rw [if_pos hp]
        rcases hd3 with ⟨rfl,h1⟩ | rfl
        · rw [h1]
          show lfF (neg t) [lgN p]=_
          rw [ep]
          show (if neg t=true∧val p=0 then none else some (sg (neg t) (val p),1))=_
          by_cases z:neg t=true∧val p=0
          · rw [if_pos z,if_pos (.inl z)]
          · rw [if_neg z,if_neg (fun y=>by rcases y with y | y | y | y; exact z y; cases y; exact y.1 rfl; exact y (Nat.gcd_one_right _))]; rfl
        · have ed:lgN d=some (val d):=by unfold lgN; rw [if_pos hd2]
          show lfF (neg t) [lgN p,lgN d]=_
          rw [ep,ed]
          show (if (neg t=true∧val p=0)∨val d=0∨val d=1∨Nat.gcd (val p) (val d)≠1 then none else some (sg (neg t) (val p),((val d:Nat):Int)))=_
          by_cases z:(neg t=true∧val p=0)∨val d=0∨val d=1∨Nat.gcd (val p) (val d)≠1
          · rw [if_pos z,if_pos (by rcases z with y | y | y | y; exact .inl y; exact .inr (.inl y); exact .inr (.inr (.inl ⟨by simp,y⟩)); exact .inr (.inr (.inr y)))]
          · rw [if_neg z,if_neg (fun y=>z (by rcases y with y | y | y | y; exact .inl y; exact .inr (.inl y); exact .inr (.inr (.inl y.2)); exact .inr (.inr (.inr y))))]
      rw [el] at q
      refine ⟨fun b H5=>Same H4 H5∧b=decide ((neg t=true∧val p=0)∨val d=0∨(r≠[]∧val d=1)∨Nat.gcd (val p) (val d)≠1),?_,?_⟩
      · refine ⟨_,rfl,rfl,_,rfl,?_⟩
        rw [ah_is]
        have rest:¬ (neg t=true∧val p=0)→tOr (tTest (tOp rEq (tVar 4) (tC (V.int 0)))) (tOr (tAnd (tTest (tOp rEq (tCB (rLen K) (tCons (tVar 2) tNil)) (tC (V.int 2)))) (tTest (tOp rEq (tVar 4) (tC (V.int 1))))) (tTest (tOp (rEqD false) (tCall sp_lfrac [] E0 (tCons (tVar 3) (tCons (tVar 4) tNil))) (tTu (tCons (tVar 3) (tCons (tVar 4) tNil)))))) [some (.str t),some (.str (ahT t)),some (.ref p1),some (.int ((val p:Nat):Int)),some (.int ((val d:Nat):Int))] H4 (fun b H5=>Same H4 H5∧b=decide ((neg t=true∧val p=0)∨val d=0∨(r≠[]∧val d=1)∨Nat.gcd (val p) (val d)≠1)):=fun c0=>by
          refine ⟨_,rfl,rfl,_,rfl,?_⟩
          by_cases c1:val d=0
          · refine iteTe (decide_eq_true (by rw [c1]; rfl)) ⟨Same.refl _,(decide_eq_true (.inr (.inl c1))).symm⟩
          refine iteFe (decide_eq_false fun z=>c1 (by injection z with z; omega)) ?_
          refine ⟨_,rfl,?_⟩
          refine rlL (S4 _ _ e2) ?_
          rw [List.length_map]
          refine ⟨rfl,_,rfl,?_⟩
          have last:¬ (r≠[]∧val d=1)→tTest (tOp (rEqD false) (tCall sp_lfrac [] E0 (tCons (tVar 3) (tCons (tVar 4) tNil))) (tTu (tCons (tVar 3) (tCons (tVar 4) tNil)))) [some (.str t),some (.str (ahT t)),some (.ref p1),some (.int ((val p:Nat):Int)),some (.int ((val d:Nat):Int))] H4 (fun b H5=>Same H4 H5∧b=decide ((neg t=true∧val p=0)∨val d=0∨(r≠[]∧val d=1)∨Nat.gcd (val p) (val d)≠1)):=fun c2=>by
            have d0:(0:Int)<((val d:Nat):Int):=by omega
            refine ⟨_,rfl,_,rfl,?_⟩
            refine sp_lfrac_g d0 ?_ fun p5 H5 hp5 e5 s5=>?_
            · rcases hd3 with ⟨rfl,h1⟩ | rfl
              · rw [h1]
                show ((Nat.gcd (val p) 1:Nat):Int).natAbs<_
                rw [Nat.gcd_one_right]; decide +kernel
              · exact part_th th er (lgB_len hp).2.1 (lgB_len hd2).2.1 c1
            refine ⟨_,rfl,_,rfl,?_⟩
            refine nwT (by show 2≤64; decide) fun q6 H6 hq6 e6 s6=>?_
            refine reD (d:=frD (lw (val p:Nat) (val d:Nat))) (d':=frD (((val p:Nat):Int),((val d:Nat):Int))) (frD_of (s6 _ _ e5)) (frD_of e6) (fr_shaped _) (fr_shaped _) ?_
            rw [eqv_fr,lw_self d0]
            refine ⟨_,rfl,s5.trans s6,?_⟩
            have eg:Int.gcd ((val p:Nat):Int) ((val d:Nat):Int)=Nat.gcd (val p) (val d):=rfl
            rw [eg]
            by_cases c3:Nat.gcd (val p) (val d)=1
            · rw [decide_eq_true c3,decide_eq_false (fun z=>by rcases z with z | z | z | z; exact c0 z; exact c1 z; exact c2 z; exact z c3)]; rfl
            · rw [decide_eq_false c3,decide_eq_true (.inr (.inr (.inr c3)))]; rfl
          by_cases hr2:r=[]
          · refine iteFe (decide_eq_false fun z=>by rw [hr2] at z; injection z with z; exact absurd z (by simp)) ?_
            refine iteF ?_
            exact last fun z=>z.1 hr2
          · have l2':(p::r).length=2:=by
              cases r with
              | nil=>exact absurd rfl hr2
              | cons y r=>rw [List.length_cons,List.length_cons] at l2 ⊢; omega
            refine iteTe (decide_eq_true (by rw [l2']; rfl)) ?_
            refine ⟨_,rfl,rfl,_,rfl,?_⟩
            by_cases c2:val d=1
            · refine iteTe (decide_eq_true (by rw [c2]; rfl)) ⟨Same.refl _,(decide_eq_true (.inr (.inr (.inl ⟨hr2,c2⟩)))).symm⟩
            · refine iteFe (decide_eq_false fun z=>c2 (by injection z with z; omega)) ?_
              exact last fun z=>c2 z.2
        cases hn:neg t with
        | true =>
          refine iteT ?_
          refine ⟨_,rfl,rfl,_,rfl,?_⟩
          by_cases c0:val p=0
          · refine iteTe (decide_eq_true (by rw [c0]; rfl)) ⟨Same.refl _,?_⟩
            exact (decide_eq_true (.inl ⟨rfl,c0⟩)).symm
          · refine iteFe (decide_eq_false fun z=>c0 (by injection z with z; omega)) ?_
            have:=rest fun z=>c0 z.2
            rw [hn] at this
            exact this
        | false =>
          refine iteF ?_
          refine iteF ?_
          have:=rest fun z=>by rw [hn] at z; cases z.1
          rw [hn] at this
          exact this
      rintro b H5 ⟨s5,rfl⟩
      by_cases BAD:(neg t=true∧val p=0)∨val d=0∨(r≠[]∧val d=1)∨Nat.gcd (val p) (val d)≠1
      · refine iteTe (decide_eq_true BAD) ?_
        refine q _ H5 (((s1.trans s2).trans S4).trans s5) ?_
        rw [if_pos BAD]; exact Rep.non
      · refine iteFe (decide_eq_false BAD) ?_
        rw [if_neg BAD] at q
        have nz:((val p:Nat):Int).natAbs<2^14000:=by
          rw [Int.natAbs_natCast]
          have h1:val p<10^p.length:=by
            have:=dv_lt (figs_all (lgB_len hp).2.1)
            rw [len_toList] at this
            exact this
          have h2:10^p.length≤10^4000:=Nat.pow_le_pow_right (by decide) (lgB_len hp).1
          have h3:10^4000≤2^14000:=by decide +kernel
          exact Nat.lt_of_lt_of_le h1 (Nat.le_trans h2 h3)
        refine ⟨_,rfl,?_⟩
        refine ⟨_,rfl,_,_,rfl,rfl,mulB (n:=2) (m:=14000) (by decide) nz,?_⟩
        refine ⟨_,rfl,rfl,?_⟩
        refine .inr ⟨_,rfl,?_⟩
        rw [ah_is]
        refine ⟨_,_,rfl,rfl,mulB (n:=14002) (m:=2) ?_ ?_,?_⟩
        · rw [Int.natAbs_mul]
          have:2*((val p:Nat):Int).natAbs<2*2^14000:=by omega
          exact Nat.lt_of_lt_of_le this (by decide +kernel)
        · cases neg t <;> decide
        refine ⟨_,_,rfl,rfl,?_⟩
        refine ⟨_,rfl,?_⟩
        refine nwT (by show 2≤64; decide) fun q6 H6 hq6 e6 s6=>?_
        refine q _ H6 ((((s1.trans s2).trans S4).trans s5).trans s6) ?_
        refine frD_of (f:=(sg (neg t) (val p),((val d:Nat):Int))) ?_
        rw [e6]
        have es:((val p:Nat):Int) - 2*((val p:Nat):Int)*(if neg t=true then 1 else 0)=sg (neg t) (val p):=by
          unfold sg
          cases neg t
          · simp
          · simp; omega
        rw [← es]
end
end Kw
set_option Elab.async false
set_option linter.all false
set_option maxRecDepth 100000
namespace L2
open PySem PySem.Spec PyProof.Rows
def nonU:Value→Bool
  | .none=>true
  | _=>false
def nonD:PyData→Bool
  | .none=>true
  | _=>false
theorem eqv_non (d:PyData):PyData.eqv d .none=nonD d:=by cases d <;> rfl
section
variable {X:Cx} {pins:List (Addr × Obj)} {σ:St} {H:Hp} {s:Shared}
theorem nonU_at {d:PyData} {y:V} {u:Value} (h:Rep H d y) (r:RelV y u):nonU u=nonD d:=by
  cases d with
  | none=>cases (show y=.non from h); cases r; rfl
  | bool b=>cases (show y=.bl b from h); cases r; rfl
  | int n=>cases (show y=.int n from h); obtain ⟨t,rfl⟩:=r; rfl
  | str z=>cases (show y=.str z from h); obtain ⟨t,rfl⟩:=r; rfl
  | list ds=>unfold Rep at h; obtain ⟨a,xs,rfl,_⟩:=h; cases r; rfl
  | tuple ds=>unfold Rep at h; obtain ⟨a,xs,rfl,_⟩:=h; cases r; rfl
  | dict kvs=>unfold Rep at h; obtain ⟨_,a,rfl,_⟩:=h; cases r; rfl
theorem nonU_any:∀ {ds:List PyData} {ys:List V} {us:List Value},RepL H ds ys→Vals ys us→us.any nonU=ds.any nonD
  | [],ys,us,r,v=>by
    unfold RepL at r
    cases (show ys=[] from r)
    cases v
    rfl
  | d::ds,ys,us,r,v=>by
    unfold RepL at r
    obtain ⟨y,ys',rfl,r1,r2⟩:=r
    obtain ⟨u,us',rfl,rv,v'⟩:=valsC v
    rw [List.any_cons,List.any_cons,nonU_at r1 rv,nonU_any r2 v']
theorem nonU_mem (I:Inv X pins σ H s) (hu:X.A.units+64<cLine):∀ {ds:List PyData} {ys:List V} {us:List Value},RepL H ds ys→Vals ys us→(∀ d∈ds,PyData.canLay0 d=true)→∀ u∈us,SeqAt.EqAt X.A.in1 s u .none (nonU u)
  | [],ys,us,r,vv,_=>by
    unfold RepL at r
    cases (show ys=[] from r)
    cases vv
    exact fun u hu=>by cases hu
  | d::ds,ys,us,r,vv,hl=>by
    unfold RepL at r
    obtain ⟨y,ys',rfl,r1,r2⟩:=r
    obtain ⟨u,us',rfl,rv,v'⟩:=valsC vv
    intro u' hu'
    rcases List.mem_cons.mp hu' with rfl | hu'
    · obtain ⟨bs,rb⟩:=r1.reads I rv
      rw [nonU_at r1 rv,← eqv_non]
      refine SeqAt.eqAt_reads d .none _ s _ _ bs [] rb .none (hl d (List.mem_cons_self ..)) rfl ?_
      have h1:PyData.depth .none=0:=rfl
      have:X.A.in1.units≤X.A.units+1:=by
        first
          | exact Nat.le_refl _
          | (unfold Around.in1; simp)
      rw [h1]
      omega
    · exact nonU_mem I hu r2 v' (fun e he=>hl e (List.mem_cons_of_mem _ he)) u' hu'
end
@[irreducible] def rInN (K:PySem.W.Frag):R2:=fun x y H Q=>∃ (p:Addr) (ys:List V) (ds:List PyData),x=.non∧y=.ref p∧(SqL K H p ys∨SqT K H p ys)∧RepL H ds ys∧(∀ d∈ds,PyData.canLay0 d=true)∧Q (.bl (ds.any nonD)) H
theorem riN {K:PySem.W.Frag} {p:Addr} {ys:List V} {ds:List PyData} {H:Hp} {Q:VK} (h:SqL K H p ys∨SqT K H p ys) (r:RepL H ds ys) (hl:∀ d∈ds,PyData.canLay0 d=true) (q:Q (.bl (ds.any nonD)) H):rInN K .non (.ref p) H Q:=by
  unfold rInN; exact ⟨p,ys,ds,rfl,rfl,h,r,hl,q⟩
theorem op_inN {X:Cx} (K:PySem.W.Frag) (hu:X.A.units+64<cLine) (hK:X.K=K:=by rfl):OpR X (compareOp .In) (rInN K):=by
  subst hK
  unfold rInN
  intro pins s σ H x y v u Q I rx ry h
  obtain ⟨p,ys,ds,rfl,rfl,hq,r,hl,q⟩:=h
  cases rx
  cases ry
  rcases hq with hq | hq
  · obtain ⟨its,r',pl,hz⟩:=I.list hq
    refine SeqAt.in_listAt nonU pl.isList (fun w hw=>nonU_mem I hu r r' hl w (by simpa using hw)) ⟨.bl _,H,I,rfl,?_⟩
    rw [show its.toArray.any nonU=its.any nonU by simp,nonU_any r r']
    exact q
  · obtain ⟨its,r',pl,hz⟩:=I.tuple hq
    refine SeqAt.in_tupleAt nonU pl (fun w hw=>nonU_mem I hu r r' hl w (by simpa using hw)) ⟨.bl _,H,I,rfl,?_⟩
    rw [show its.toArray.any nonU=its.any nonU by simp,nonU_any r r']
    exact q
end L2
set_option Elab.async false
set_option linter.all false
set_option maxRecDepth 100000
namespace Kw
open PySem L2 Mf Mt
abbrev s__law_entry:Stmt:=(top 49)
theorem sc__law_entry:FnScope ["_law_line", "_law_faces", "_law_ways", "_law_words", "_law_says_here"] ["_law_line", "_law_faces", "_law_ways"] (defScope s__law_entry):=⟨rfl,rfl,rfl,by decide +kernel,rfl,by decide +kernel,by decide +kernel⟩
theorem geB_eq (t:Str):geB (rd t)=lgB t:=by
  cases hn:neg t with
  | true =>
    have h1:=lg_neg hn
    have h2:lgB t=false:=by
      unfold lgN at h1
      cases q:lgB t with
      | false=>rfl
      | true=>rw [q] at h1; cases h1
    rw [h2,rd_ng hn]
    cases lgN (fg t) with
    | none=>rfl
    | some n =>
      cases n with
      | zero=>rfl
      | succ n=>exact decide_eq_false (show ¬ (0:Int)≤-((n+1:Nat):Int) by omega)
  | false =>
    rw [rd_pl hn]
    unfold lgN
    cases lgB t with
    | false=>rfl
    | true=>exact decide_eq_true (show (0:Int)≤((val t:Nat):Int) by omega)
theorem rdC_eq {ts:List Str} {m:Nat} (hl:ts.length=m):rdC ts m=if ts.all lgB=true then some (ts.map fun t=>((val t:Nat):Int)) else none:=by
  unfold rdC
  have e:(ts.map rd).all geB=ts.all lgB:=by
    rw [List.all_map]
    congr 1
    funext t
    exact geB_eq t
  rw [e]
  by_cases h:ts.all lgB=true
  · rw [if_pos ⟨hl,h⟩,if_pos h,List.map_map]
    congr 1
    refine List.map_congr_left fun t ht=>?_
    have hb:=List.all_eq_true.mp h t ht
    have hn:neg t=false:=by
      cases q:neg t with
      | false=>rfl
      | true =>
        have:=lg_neg q
        unfold lgN at this
        rw [hb] at this; cases this
    show (rd t).getD 0=_
    rw [rd_pl hn]
    unfold lgN
    rw [hb]; rfl
  · rw [if_neg (fun z=>h z.2),if_neg h]
theorem rdE_len {F W:Nat} {ts:List Str} (h:ts.length≠3+F+W):rdE F W ts=none:=by
  refine rdE_s ?_
  unfold rdFs
  rw [if_neg]
  rw [List.length_drop]
  omega
theorem rdE_1 {F W:Nat} {ts:List Str} (h:¬ ts[F+1]?=some wSay):rdE F W ts=none:=by
  unfold rdE
  cases rdC ((ts.drop 1).take F) F with
  | none=>rfl
  | some cs=>cases rdFs (ts.drop (F+2)) (1+W) with
    | none=>rfl
    | some fs=>exact if_neg fun z=>h z.2
theorem any_non {ts:List Str}:((ts.map fun t=>opFr (rdT t)).any nonD)=(rdS ts).isNone:=by
  cases q:(ts.map fun t=>opFr (rdT t)).any nonD with
  | true =>
    rw [List.any_eq_true] at q
    obtain ⟨d,hd,h⟩:=q
    obtain ⟨t,ht,rfl⟩:=List.mem_map.mp hd
    have:rdT t=none:=by
      cases z:rdT t with
      | none=>rfl
      | some g=>rw [z] at h; cases h
    rw [rdS_none ht this]; rfl
  | false =>
    rw [rdS_some]; rfl
    intro t ht
    have:=List.any_eq_false.mp q _ (List.mem_map.mpr ⟨t,ht,rfl⟩)
    cases z:rdT t with
    | some g=>rfl
    | none=>rw [z] at this; exact absurd rfl this
theorem opFr_flat (o:Option Fr):flatD (opFr o)=true:=by
  cases o with
  | none=>rfl
  | some g=>exact frD_flat g
theorem opFr_lay (o:Option Fr):PyData.canLay0 (opFr o)=true:=by
  cases o with
  | none=>rfl
  | some g=>exact (Shp.tup (n:=1) fun d hd=>by
      simp only [List.mem_cons,List.not_mem_nil,or_false] at hd
      rcases hd with rfl | rfl
      · exact Shp.int _
      · exact Shp.int _).1
@[irreducible] def sp_lent:Sp:=fun vs H Q _=>∃ (r:List Str) (F W:Nat),vs=[.str (lnOf r),.int (F:Int),.int (W:Int)]∧RwK r∧F≤4∧W≤4∧∀ v H',Same H H'→OptR H' ((rdE F W r).map enD) v→Q v H'
theorem sp_lent_i {H:Hp} {Q:VK} {E:XK} {r:List Str} {F W:Nat} (h:RwK r) (f4:F≤4) (w4:W≤4) (k:∀ v H',Same H H'→OptR H' ((rdE F W r).map enD) v→Q v H'):sp_lent [.str (lnOf r),.int (F:Int),.int (W:Int)] H Q E:=by
  unfold sp_lent; exact ⟨r,F,W,rfl,h,f4,w4,k⟩
section
variable {P:Program} {w:World} {K:PySem.W.Frag} {mg:Str→Option Value} {base:Heap} {c:Cl}
set_option maxHeartbeats 4000000 in
theorem ok__law_entry {f:Addr} {fd:FuncData} (F:Fun K "_law_entry" "_law_entry" s__law_entry f fd) (T:Txt K mg c) (F__law_figures:FnC CX0 P w K mg base 1 "_law_figures" ["_law_word"] sp_lfig) (F__law_fraction:FnC CX0 P w K mg base 2 "_law_fraction" ["_law_word"] sp_lfra):FnOk P w K mg base CX0 3 f fd ["_law_line", "_law_faces", "_law_ways"] sp_lent:=by
  refine F.okw sc__law_entry (fun vs H Q E h=>?_) (fun cdv A outer s H vs Q E hr h=>?_)
  · unfold sp_lent at h
    obtain ⟨r,F,W,rfl,_⟩:=h
    rfl
  · unfold sp_lent at h
    obtain ⟨r,F,W,rfl,ok,f4,w4,k⟩:=h
    refine ⟨_,(wss_cons (ws_set (i:=3) sc__law_entry.nd rfl (Or.inl rfl) (we_bm PySem.F.plainAttrs_str PySem.F.slot_str_split PySem.F.type_str_split mt_split (we_v 0) (wa_k we_str wa_nil)))
      (wss_cons (ws_if (wt_mono (wt_w (ww_or (wt_cmp op_ne (we_cB cl_len (by rfl) T.b_len (by decide +kernel) (wa_k (we_v 3) wa_nil)) (we_op op_add (we_op op_add we_int (we_v 1)) (we_v 2)) (nomark _)) (ww_or (wt_cmp op_ne (we_ix ix_seq (we_v 3) we_int (fun _ _=>rfl)) we_str (nomark _)) (ww_or1 (wt_cmp op_ne (we_ix ix_seq (we_v 3) (we_op op_add we_int (we_v 1)) (fun _ _=>rfl)) we_str (nomark _))))))) (wss_one (ws_ret we_non)) wss_nil)
      (wss_cons (ws_if (wt_cmp (op_neD hr.units) (we_comp (CScope.of (psc:=defScope s__law_entry) (N:=["_law_line", "_law_faces", "_law_ways", "_law_words", "_law_says_here"]) (N':=["_law_word"]) (js:=[]) (by decide +kernel) rfl rfl rfl) (wi_list (we_slice (sl_listN K) (we_v 3) (wo_some we_int) (wo_some (we_op op_add we_int (we_v 1))))) (fun _ _ _ _=>wts_one (wt_not (wt_val (we_fn F__law_figures (hr.mono (by decide)) (wa_k (we_v 0) wa_nil))))) (fun _ _ _ _=>(we_v 0))) (we_lst wa_nil) (nomark _)) (wss_one (ws_ret we_non)) wss_nil)
      (wss_cons (ws_setComp (i:=4) (CScope.of (psc:=defScope s__law_entry) (N:=["_law_line", "_law_faces", "_law_ways", "_law_words", "_law_says_here"]) (N':=["_law_word"]) (js:=[]) (by decide +kernel) rfl rfl rfl) sc__law_entry.nd rfl rfl (wi_list (we_slice (sl_listN K) (we_v 3) (wo_some (we_op op_add we_int (we_v 1))) wo_none)) (fun _ _ _ _=>wts_nil) (fun _ _ _ _=>(we_fn F__law_fraction (hr.mono (by decide)) (wa_k (we_v 0) wa_nil))))
      (wss_cons (ws_if (wt_cmp (op_inN K hr.units) we_non (we_v 4) (by with_unfolding_all rfl)) (wss_one (ws_ret we_non)) wss_nil)
      (wss_one (ws_ret (we_tup (wa_k (we_cT call_tuple_of (by rfl) T.b_tuple (by decide +kernel) (wa_k (we_comp (CScope.of (psc:=defScope s__law_entry) (N:=["_law_line", "_law_faces", "_law_ways", "_law_words", "_law_says_here"]) (N':=["_law_word"]) (js:=[]) (by decide +kernel) rfl rfl rfl) (wi_list (we_slice (sl_listN K) (we_v 3) (wo_some we_int) (wo_some (we_op op_add we_int (we_v 1))))) (fun _ _ _ _=>wts_nil) (fun _ _ _ _=>(we_cT (cl_intT T.nd) (by rfl) T.b_int (by decide +kernel) (wa_k (we_v 0) wa_nil)))) wa_nil)) (wa_k (we_cT call_tuple_of (by rfl) T.b_tuple (by decide +kernel) (wa_k (we_v 4) wa_nil)) wa_nil)))))))))),?_⟩
    have ll:=ok.ll
    have lr:=ok.len
    have sb:=ok.back
    obtain ⟨t0,r0,er⟩:=List.exists_cons_of_ne_nil ok.ne
    have no:∀ H',Same H H'→rdE F W r=none→Q .non H':=fun H' s' h=>k _ H' s' (by rw [h]; rfl)
    refine ⟨_,rfl,?_⟩
    refine ⟨rfl,?_⟩
    refine rsplit (b:=bk) (by decide +kernel) (lineM (by omega)) (by rw [sb]; exact lineM (by omega)) fun p1 H1 hp1 e1 s1=>?_
    rw [sb] at e1
    refine ⟨fun b H2=>Same H1 H2∧(b=true→rdE F W r=none)∧(b=false→r.length=3+F+W∧r[0]?=some wOn∧r[F+1]?=some wSay),?_,?_⟩
    · refine ⟨_,rfl,?_⟩
      refine rlL e1 ?_
      rw [List.length_map]
      refine ⟨_,rfl,_,_,rfl,rfl,?_⟩
      refine ⟨_,rfl,_,_,rfl,rfl,?_⟩
      refine ⟨rfl,_,rfl,?_⟩
      by_cases hl:r.length=3+F+W
      · refine iteFe (by show (!decide (V.int (r.length:Int)=V.int ((3:Int)+(F:Int)+(W:Int))))=false; rw [decide_eq_true (by congr 1; omega)]; rfl) ?_
        refine ⟨_,rfl,?_⟩
        refine ixL e1 (v:=.str t0) (by rw [er]; exact atI_nat (j:=0) rfl) ?_
        refine ⟨rfl,_,rfl,?_⟩
        have g0:r[0]?=some t0:=by rw [er]; rfl
        by_cases h0:t0=wOn
        · refine iteFe (by show (!decide (V.str t0=V.str (Str.ofString "on")))=false; rw [h0]; decide +kernel) ?_
          obtain ⟨u,hu⟩:∃ u,r[F+1]?=some u:=⟨_,List.getElem?_eq_getElem (by omega)⟩
          refine ⟨_,rfl,_,rfl,_,_,rfl,rfl,?_⟩
          refine ixL e1 (v:=.str u) (by show atI _ ((1:Int)+(F:Int))=_; rw [show ((1:Int)+(F:Int))=((F+1:Nat):Int) by omega]; exact atI_nat (by rw [List.getElem?_map,hu]; rfl)) ?_
          refine ⟨rfl,_,rfl,Same.refl _,?_⟩
          by_cases hw:u=wSay
          · have e9:(!decide (V.str u=V.str (Str.ofString "say")))=false:=by rw [hw]; decide +kernel
            exact ⟨(fun z=>by rw [e9] at z; cases z),fun _=>⟨hl,by rw [g0,h0],by rw [hu,hw]⟩⟩
          · have e9:(!decide (V.str u=V.str (Str.ofString "say")))=true:=by rw [decide_eq_false (fun z=>hw (by injection z))]; rfl
            exact ⟨fun _=>rdE_1 (fun z=>hw (by rw [hu] at z; injection z)),fun z=>by rw [e9] at z; cases z⟩
        · refine iteTe (by show (!decide (V.str t0=V.str (Str.ofString "on")))=true; rw [decide_eq_false (fun z=>h0 (by injection z))]; rfl) ⟨Same.refl _,fun _=>rdE_0 (fun z=>h0 (by rw [g0] at z; injection z)),fun z=>by cases z⟩
      · refine iteTe (by show (!decide (V.int (r.length:Int)=V.int ((3:Int)+(F:Int)+(W:Int))))=true; rw [decide_eq_false (fun z=>hl (by injection z with z; omega))]; rfl) ⟨Same.refl _,fun _=>rdE_len hl,fun z=>by cases z⟩
    rintro b H2 ⟨s2,hb1,hb2⟩
    cases b with
    | true =>
      refine iteT ?_
      exact no H2 (s1.trans s2) (hb1 rfl)
    | false =>
      refine iteF ?_
      obtain ⟨hl,g0,g1⟩:=hb2 rfl
      have e2:=s2 _ _ e1
      have cut1:cutV (r.map V.str) (some 1) (some ((1:Int)+(F:Int)))=((r.drop 1).take F).map V.str:=by
        rw [show ((1:Int)+(F:Int))=((1+F:Nat):Int) by omega,show (some (1:Int))=some ((1:Nat):Int) from rfl,cut_mid _ (by omega),show 1+F - 1=F by omega,List.map_take,List.map_drop]
      have cut2:cutV (r.map V.str) (some ((2:Int)+(F:Int))) none=(r.drop (F+2)).map V.str:=by
        rw [show ((2:Int)+(F:Int))=((F+2:Nat):Int) by omega,cutV_lo,List.map_drop]
      have mem1:∀ t∈(r.drop 1).take F,t∈r:=fun t ht=>List.mem_of_mem_drop (List.mem_of_mem_take ht)
      have len1:((r.drop 1).take F).length=F:=by rw [List.length_take,List.length_drop]; omega
      refine ⟨_,rfl,_,rfl,_,rfl,_,_,rfl,rfl,_,rfl,?_⟩
      refine slL (ys:=((r.drop 1).take F).map V.str) e2 cut1 fun q3 H3 hq3 e3 s3=>?_
      refine ⟨q3,rfl,⟨_,SqL.of e3⟩,?_⟩
      refine comp_fltD (g:=PyData.str) (as:=(r.drop 1).take F) (strs_rep _) (fun p=>!lgB p) (by rw [List.length_map]; omega) e3 (fun x p H4 Q' hp rx s4 k'=>?_) (fun x H4 Q' q'=>⟨_,rfl,q'⟩) fun D ys H4 hD e4 s4 r4=>?_
      · cases (show x=V.str p from rx)
        refine ⟨_,rfl,?_⟩
        refine sp_lfig_i (by have:=ok.sz p (mem1 p hp); omega) (ok.lo p (mem1 p hp)) fun H5 s5=>?_
        exact ⟨_,rfl,k' H5 s5⟩
      refine nwL (by show 0≤64; decide) fun q5 H5 hq5 e5 s5=>?_
      refine reD (Rep.lst (s5 _ _ e4) (r4.same s5)) (Rep.lst e5 RepL.nil) (strs_shp fun u hu=>ok.low u (mem1 u (List.mem_filter.mp hu).1)) rfl ?_
      rw [eqv_s0]
      have S5:Same H2 H5:=(s3.trans s4).trans s5
      have eA:((((r.drop 1).take F).filter fun p=>!lgB p).isEmpty)=((r.drop 1).take F).all lgB:=by
        rw [Bool.eq_iff_iff,List.isEmpty_iff,List.filter_eq_nil_iff,List.all_eq_true]
        exact ⟨fun h x hx=>by simpa using h x hx,fun h x hx=>by simpa using h x hx⟩
      rw [eA]
      have eC:=rdC_eq len1
      refine ⟨_,rfl,?_⟩
      cases hA:((r.drop 1).take F).all lgB with
      | false =>
        refine iteT ?_
        rw [hA] at eC
        exact no H5 ((s1.trans s2).trans S5) (rdE_c eC)
      | true =>
        refine iteF ?_
        rw [hA,if_pos rfl] at eC
        refine ⟨_,rfl,_,rfl,_,_,rfl,rfl,_,rfl,?_⟩
        refine slL (ys:=(r.drop (F+2)).map V.str) (S5 _ _ e2) cut2 fun q6 H6 hq6 e6 s6=>?_
        refine ⟨q6,rfl,⟨_,SqL.of e6⟩,?_⟩
        have mem2:∀ t∈r.drop (F+2),t∈r:=fun t ht=>List.mem_of_mem_drop ht
        have len2:(r.drop (F+2)).length=1+W:=by rw [List.length_drop]; omega
        refine comp_mapL (fun i y H'=>∃ t,(r.drop (F+2))[i]?=some t∧Rep H' (opFr (rdT t)) y) (fun i y Ha Hb s ⟨f,h1,h2⟩=>⟨f,h1,h2.flat s (opFr_flat _)⟩) (by rw [List.length_map]; omega) e6 (fun i y H' Q' hy s' k'=>?_) (fun D7 ys7 H7 hD7 e7 s7 hy7 hr7=>?_)
        · rw [List.getElem?_map] at hy
          obtain ⟨t,ht,rfl⟩:=Option.map_eq_some_iff.mp hy
          have hm:=mem2 t (List.mem_of_getElem? ht)
          refine ⟨_,rfl,?_⟩
          exact sp_lfra_i (ok.sz t hm) (ok.lo t hm) (ok.th t hm) fun v H8 s8 r8=>k' _ H8 s8 ⟨t,ht,r8⟩
        rw [List.length_map] at hy7
        have r7:RepL H7 ((r.drop (F+2)).map fun t=>opFr (rdT t)) ys7:=reps_of hy7 hr7
        have S7:Same H2 H7:=(S5.trans s6).trans s7
        refine ⟨_,rfl,?_⟩
        refine riN (.inl (SqL.of e7)) r7 (fun d hd=>by obtain ⟨t,_,rfl⟩:=List.mem_map.mp hd; exact opFr_lay _) ?_
        rw [any_non]
        refine ⟨_,rfl,?_⟩
        cases hS:rdS (r.drop (F+2)) with
        | none =>
          refine iteT ?_
          refine no H7 ((s1.trans s2).trans S7) (rdE_s ?_)
          unfold rdFs
          rw [if_pos len2]; exact hS
        | some fs =>
          refine iteF ?_
          have eS:rdFs (r.drop (F+2)) (1+W)=some fs:=by unfold rdFs; rw [if_pos len2]; exact hS
          have eE:rdE F W r=some (((r.drop 1).take F).map (fun t=>((val t:Nat):Int)),fs):=by rw [rdE_ok eC eS g0,if_pos g1]
          have all2:∀ t∈r.drop (F+2),(rdT t).isSome=true:=fun t ht=>by
            cases z:rdT t with
            | some g=>rfl
            | none=>rw [rdS_none ht z] at hS; cases hS
          have efs:fs=(r.drop (F+2)).map fun t=>(rdT t).getD (0,1):=by
            have:=rdS_some all2
            rw [hS] at this
            injection this
          refine ⟨_,rfl,_,rfl,_,rfl,_,_,rfl,rfl,_,rfl,?_⟩
          refine slL (ys:=((r.drop 1).take F).map V.str) (S7 _ _ e2) cut1 fun q8 H8 hq8 e8 s8=>?_
          refine ⟨q8,rfl,⟨_,SqL.of e8⟩,?_⟩
          refine comp_mapL (fun i y _=>∃ t,((r.drop 1).take F)[i]?=some t∧y=.int ((val t:Nat):Int)) (fun _ _ _ _ _ h=>h) (by rw [List.length_map]; omega) e8 (fun i y H' Q' hy s' k'=>?_) (fun D9 ys9 H9 hD9 e9 s9 hy9 hr9=>?_)
          · rw [List.getElem?_map] at hy
            obtain ⟨t,ht,rfl⟩:=Option.map_eq_some_iff.mp hy
            have hb:=List.all_eq_true.mp hA t (List.mem_of_getElem? ht)
            obtain ⟨w1,w2,w3⟩:=lgB_len hb
            refine ⟨_,rfl,?_⟩
            exact rintT (fun x hx=>.inr (figs_all w2 x hx)) (PySem.intText_digits (figs_all w2) w3 (by omega)) (line20 (by omega)) (k' _ H' (Same.refl _) ⟨t,ht,rfl⟩)
          rw [List.length_map] at hy9
          have ey:=vals_map (l:=(r.drop 1).take F) (g:=fun t=>((val t:Nat):Int)) (f:=V.int) hy9 hr9
          subst ey
          refine ⟨D9,_,rfl,.inl ⟨SqL.of e9,fun l hl=>?_⟩⟩
          have sl:=Same.upd (o:=.tup ((((r.drop 1).take F).map fun t=>((val t:Nat):Int)).map V.int)) hl
          have el:(upd H9 l (.tup ((((r.drop 1).take F).map fun t=>((val t:Nat):Int)).map V.int))) l=some (.tup ((((r.drop 1).take F).map fun t=>((val t:Nat):Int)).map V.int)):=upd_same
          generalize upd H9 l (.tup ((((r.drop 1).take F).map fun t=>((val t:Nat):Int)).map V.int))=H10 at sl el
          have S10:Same H7 H10:=(s8.trans s9).trans sl
          refine ⟨_,rfl,D7,_,rfl,.inl ⟨SqL.of (S10 _ _ e7),fun l2 hl2=>?_⟩⟩
          have sl2:=Same.upd (o:=.tup ys7) hl2
          have el2:(upd H10 l2 (.tup ys7)) l2=some (.tup ys7):=upd_same
          generalize upd H10 l2 (.tup ys7)=H11 at sl2 el2
          refine nwT (by show 2≤64; decide) fun q12 H12 hq12 e12 s12=>?_
          refine k _ H12 ((((s1.trans s2).trans S7).trans S10).trans (sl2.trans s12)) ?_
          rw [eE]
          refine Rep.tup e12 (RepL.cons (Rep.tup (s12 _ _ (sl2 _ _ el)) (ints_rep _)) (RepL.cons (Rep.tup (s12 _ _ el2) ?_) RepL.nil))
          have ed:((r.drop (F+2)).map fun t=>opFr (rdT t))=fs.map frD:=by
            rw [efs,List.map_map]
            refine List.map_congr_left fun t ht=>?_
            obtain ⟨g,hg⟩:=Option.isSome_iff_exists.mp (all2 t ht)
            show opFr (rdT t)=frD ((rdT t).getD (0,1))
            rw [hg]; rfl
          rw [← ed]
          exact ((r7.same S10).same sl2).same s12
end
end Kw
set_option Elab.async false
set_option linter.all false
set_option maxRecDepth 100000
namespace Kw
open PySem L2 Mf Mt
abbrev s__law_due:Stmt:=(top 50)
theorem sc__law_due:FnScope ["_law_lines_here", "_law_words", "_law_found", "_law_k", "_law_entry_here"] ["_law_lines_here"] (defScope s__law_due):=⟨rfl,rfl,rfl,by decide +kernel,rfl,by decide +kernel,by decide +kernel⟩
def sz3:List Str:=["2", "3", "4"]
theorem lg_canon {t:Str} (h:lgB t=true):t.cps.toList=dg (val t):=by
  obtain ⟨_,w2,w3⟩:=lgB_len h
  refine (dg_of (figs_all w2) w3 ?_).symm
  have hw:wrB t=true:=by unfold lgB at h; rw [Bool.and_eq_true] at h; exact h.1
  unfold wrB at hw
  simp only [Bool.and_eq_true,Bool.not_eq_true',Bool.and_eq_false_iff,decide_eq_false_iff_not] at hw
  rcases hw.2 with h3 | h3
  · right
    cases q:t.cps.toList with
    | nil=>exact absurd q w3
    | cons x r =>
      have ha:=figs_all w2
      rw [q] at ha h3
      have hd:=ha.head
      have hx:x≠48:=fun z=>h3 (by rw [z]; rfl)
      exact ⟨x,r,rfl,by omega⟩
  · left
    have:t=zero:=by simpa using h3
    rw [this]; decide +kernel
theorem size_iff {t:Str}:(lgB t=true∧2≤val t∧val t≤4)↔t∈sz3:=by
  refine ⟨fun ⟨h,h2,h4⟩=>?_,fun h=>?_⟩
  · have e:=lg_canon h
    have key:∀ n,n=2∨n=3∨n=4→∀ u:Str,u.cps.toList=dg n→u∈sz3:=fun n hn u hu=>by
      rcases hn with rfl | rfl | rfl
      · have:u = "2" := str_ext (by rw [hu]; decide +kernel)
        rw [this]; decide +kernel
      · have:u = "3" := str_ext (by rw [hu]; decide +kernel)
        rw [this]; decide +kernel
      · have:u = "4" := str_ext (by rw [hu]; decide +kernel)
        rw [this]; decide +kernel
    exact key _ (by omega) t e
  · have:∀ u∈sz3,lgB u=true∧2≤val u∧val u≤4:=by decide +kernel
    exact this t h
def duD:Except Nat (List Ent)→PyData
  | .error k=>.tuple [.str (Str.ofString "none"),.int (k:Int)]
  | .ok es=>.tuple [.str (Str.ofString "rule"),ruD es]
theorem hd_len {r:List Str} {rs:List (List Str)} (h:r.length≠3):hdR (r::rs)=none:=by
  by_cases z:r[0]?=some wRule
  · rw [hdR_y z]
    have:rdC (r.drop 1) 2=none:=by
      unfold rdC
      rw [if_neg]
      intro q
      rw [List.length_drop] at q
      omega
    rw [this]; rfl
  · exact hdR_n z
theorem hd_all {r:List Str} {rs:List (List Str)} (h:¬ ∀ t∈r.drop 1,t∈sz3):hdR (r::rs)=none:=by
  by_cases z:r[0]?=some wRule
  · rw [hdR_y z]
    by_cases hl:(r.drop 1).length=2
    · rw [rdC_eq hl]
      by_cases ha:(r.drop 1).all lgB=true
      · rw [if_pos ha]
        match hd:r.drop 1,hl with
        | [u,v],_ =>
          rw [hd] at h ha
          show (if (2≤((val u:Nat):Int)∧((val u:Nat):Int)≤4)∧2≤((val v:Nat):Int)∧((val v:Nat):Int)≤4 then some (((val u:Nat):Int).toNat,((val v:Nat):Int).toNat) else none)=none
          rw [if_neg]
          intro q
          rw [List.all_cons,List.all_cons,Bool.and_eq_true,Bool.and_eq_true] at ha
          refine h fun t ht=>?_
          simp only [List.mem_cons,List.not_mem_nil,or_false] at ht
          rcases ht with rfl | rfl
          · exact size_iff.mp ⟨ha.1,by omega,by omega⟩
          · exact size_iff.mp ⟨ha.2.1,by omega,by omega⟩
      · rw [if_neg ha]; rfl
    · have:rdC (r.drop 1) 2=none:=by unfold rdC; rw [if_neg fun q=>hl q.1]
      rw [this]; rfl
  · exact hdR_n z
theorem hd_ok {u v:Str} {rs:List (List Str)} (h1:u∈sz3) (h2:v∈sz3):hdR ([wRule,u,v]::rs)=some (val u,val v):=by
  obtain ⟨a1,a2,a3⟩:=size_iff.mpr h1
  obtain ⟨b1,b2,b3⟩:=size_iff.mpr h2
  rw [hdR_y rfl]
  show hdS (rdC [u,v] 2)=_
  rw [rdC_eq (ts:=[u,v]) (m:=2) rfl,if_pos (by rw [List.all_cons,List.all_cons,a1,b1]; rfl)]
  show (if (2≤((val u:Nat):Int)∧((val u:Nat):Int)≤4)∧2≤((val v:Nat):Int)∧((val v:Nat):Int)≤4 then some (((val u:Nat):Int).toNat,((val v:Nat):Int).toNat) else none)=_
  rw [if_pos (by omega)]; rfl
theorem rdR_none {rs:List (List Str)} (h:hdR rs=none):rdR rs=.error 0:=by unfold rdR; rw [h]
theorem ln_low {r:List Str} (h:RwK r):lowS (lnOf r):=by
  unfold lnOf
  rw [join_is]
  exact join_low r h.low
@[irreducible] def sp_ldue:Sp:=fun vs H Q _=>∃ (a:Addr) (rs:List (List Str)),vs=[.ref a]∧H a=some (.lst ((rs.map lnOf).map V.str))∧(∀ r∈rs,RwK r)∧rs.length≤400∧∀ v H',Same H H'→Rep H' (duD (rdR rs)) v→Q v H'
theorem sp_ldue_i {H:Hp} {Q:VK} {E:XK} {a:Addr} {rs:List (List Str)} (h1:H a=some (.lst ((rs.map lnOf).map V.str))) (h3:∀ r∈rs,RwK r) (hl:rs.length≤400) (k:∀ v H',Same H H'→Rep H' (duD (rdR rs)) v→Q v H'):sp_ldue [.ref a] H Q E:=by
  unfold sp_ldue; exact ⟨a,rs,rfl,h1,h3,hl,k⟩
theorem vstr_flat (l:List Str):(l.map V.str).all flatV=true:=by
  rw [List.all_map]
  exact List.all_eq_true.mpr fun _ _=>rfl
theorem inV_strs (x:Str):∀ l:List Str,inV (V.str x) (l.map V.str)=decide (x∈l)
  | []=>rfl
  | y::l=>by
    have ih:=inV_strs x l
    unfold inV at ih ⊢
    rw [List.map_cons,List.any_cons,ih]
    show (eqV (.str y) (.str x) || _)=_
    have:eqV (.str y) (.str x)=decide (x=y):=by
      show (decide (y=x):Bool)=_
      exact decide_eq_decide.mpr ⟨Eq.symm,Eq.symm⟩
    rw [this]
    by_cases h:x=y <;> simp [h]
section
variable {P:Program} {w:World} {K:PySem.W.Frag} {mg:Str→Option Value} {base:Heap} {c:Cl}
set_option maxHeartbeats 4000000 in
theorem ok__law_due {f:Addr} {fd:FuncData} (F:Fun K "_law_due" "_law_due" s__law_due f fd) (T:Txt K mg c) (F__law_entry:FnC CX0 P w K mg base 3 "_law_entry" ["_law_line", "_law_faces", "_law_ways"] sp_lent):FnOk P w K mg base CX0 4 f fd ["_law_lines_here"] sp_ldue:=by
  refine F.okw sc__law_due (fun vs H Q E h=>?_) (fun cdv A outer s H vs Q E hr h=>?_)
  · unfold sp_ldue at h
    obtain ⟨a,rs,rfl,_⟩:=h
    rfl
  · unfold sp_ldue at h
    obtain ⟨a,rs,rfl,ha,ok,hl4,k⟩:=h
    refine ⟨_,(wss_cons (ws_if (wt_cmp (op_eqD hr.units) (we_v 0) (we_lst wa_nil) (nomark _)) (wss_one (ws_ret (we_tup (wa_k we_str (wa_k we_int wa_nil))))) wss_nil)
      (wss_cons (ws_set (i:=1) sc__law_due.nd rfl (Or.inl rfl) (we_bm PySem.F.plainAttrs_str PySem.F.slot_str_split PySem.F.type_str_split mt_split (we_ix ix_seq (we_v 0) we_int (fun _ _=>rfl)) (wa_k we_str wa_nil)))
      (wss_cons (ws_if (wt_mono (wt_w (ww_or (wt_cmp op_ne (we_cB cl_len (by rfl) T.b_len (by decide +kernel) (wa_k (we_v 1) wa_nil)) we_int (nomark _)) (ww_or1 (wt_cmp op_ne (we_ix ix_seq (we_v 1) we_int (fun _ _=>rfl)) we_str (nomark _)))))) (wss_one (ws_ret (we_tup (wa_k we_str (wa_k we_int wa_nil))))) wss_nil)
      (wss_cons (ws_if (wt_cmp (op_neD hr.units) (we_comp (CScope.of (psc:=defScope s__law_due) (N:=["_law_lines_here", "_law_words", "_law_found", "_law_k", "_law_entry_here"]) (N':=["_law_word"]) (js:=[]) (by decide +kernel) rfl rfl rfl) (wi_list (we_slice (sl_listN K) (we_v 1) (wo_some we_int) wo_none)) (fun _ _ _ _=>wts_one (wt_cmp (op_notInK (K:=K)) (we_v 0) (we_tup (wa_k we_str (wa_k we_str (wa_k we_str wa_nil)))) (by with_unfolding_all rfl))) (fun _ _ _ _=>(we_v 0))) (we_lst wa_nil) (nomark _)) (wss_one (ws_ret (we_tup (wa_k we_str (wa_k we_int wa_nil))))) wss_nil)
      (wss_cons (ws_set (i:=2) sc__law_due.nd rfl (Or.inl rfl) (we_lst wa_nil))
      (wss_cons (ws_for PassesOwn.never rfl (wi_range2 rfl T.b_range (wa_k we_int (wa_k (we_cB cl_len (by rfl) T.b_len (by decide +kernel) (wa_k (we_v 0) wa_nil)) wa_nil))) (wg_name (i:=3) sc__law_due.nd rfl (Or.inl rfl)) (wss_cons (ws_set (i:=4) sc__law_due.nd rfl (Or.inl rfl) (we_fn F__law_entry (hr.mono (by decide)) (wa_k (we_ix ix_seq (we_v 0) (we_v 3) (fun _ _=>rfl)) (wa_k (we_cT (cl_intT T.nd) (by rfl) T.b_int (by decide +kernel) (wa_k (we_ix ix_seq (we_v 1) we_int (fun _ _=>rfl)) wa_nil)) (wa_k (we_cT (cl_intT T.nd) (by rfl) T.b_int (by decide +kernel) (wa_k (we_ix ix_seq (we_v 1) we_int (fun _ _=>rfl)) wa_nil)) wa_nil)))))
      (wss_cons (ws_if (wt_cmp op_isN (we_v 4) we_non (nomark _)) (wss_one (ws_ret (we_tup (wa_k we_str (wa_k (we_v 3) wa_nil))))) wss_nil)
      (wss_one (ws_expr (we_bm PySem.F.plainAttrs_list PySem.F.slot_list_append PySem.F.type_list_append mt_app (we_v 2) (wa_k (we_v 4) wa_nil)))))))
      (wss_one (ws_ret (we_tup (wa_k we_str (wa_k (we_cT call_tuple_of (by rfl) T.b_tuple (by decide +kernel) (wa_k (we_v 2) wa_nil)) wa_nil))))))))))),?_⟩
    have no:∀ {H1:Hp} {n:Nat},Same H H1→rdR rs=.error n→∀ p H2,H2 p=some (.tup [.str (Str.ofString "none"),.int (n:Int)])→Same H1 H2→Q (.ref p) H2:=fun {H1 n} s1 e p H2 e2 s2=>by
      refine k _ H2 (s1.trans s2) ?_
      rw [e]
      exact Rep.tup e2 (RepL.cons (Rep.str _) (RepL.cons (Rep.int _) RepL.nil))
    refine ⟨_,rfl,?_⟩
    refine nwL (by show 0≤64; decide) fun q1 H1 hq1 e1 s1=>?_
    refine reD (Rep.lst (s1 _ _ ha) (strs_rep _)) (Rep.lst e1 RepL.nil) (strs_shp fun u hu=>?_) rfl ?_
    · obtain ⟨r,hr,rfl⟩:=List.mem_map.mp hu
      exact ln_low (ok r hr)
    rw [eqv_s0]
    refine ⟨_,rfl,?_⟩
    cases rs with
    | nil =>
      refine iteTe (by simp) ?_
      refine nwT (by show 2≤64; decide) fun q2 H2 hq2 e2 s2=>?_
      exact no s1 (n:=0) rfl q2 H2 e2 s2
    | cons r rest =>
      have okr:=ok r (List.mem_cons_self ..)
      have ll:=okr.ll
      have lr:=okr.len
      have sb:=okr.back
      obtain ⟨t0,r0,er⟩:=List.exists_cons_of_ne_nil okr.ne
      have g0:r[0]?=some t0:=by rw [er]; rfl
      refine iteFe (by simp) ?_
      refine ⟨_,rfl,?_⟩
      refine ixL (s1 _ _ ha) (atI_nat (j:=0) rfl) ?_
      refine ⟨rfl,?_⟩
      refine rsplit (b:=bk) (by decide +kernel) (lineM (by omega)) (by rw [sb]; exact lineM (by omega)) fun p1 H2 hp1 e2 s2=>?_
      rw [sb] at e2
      have s02:=s1.trans s2
      refine ⟨fun b H3=>H3=H2∧(b=true→hdR (r::rest)=none)∧(b=false→r.length=3∧t0=wRule),?_,?_⟩
      · refine ⟨_,rfl,?_⟩
        refine rlL e2 ?_
        rw [List.length_map]
        refine ⟨rfl,_,rfl,?_⟩
        by_cases hl:r.length=3
        · refine iteFe (by rw [hl]; rfl) ?_
          refine ⟨_,rfl,?_⟩
          refine ixL e2 (v:=.str t0) (by rw [er]; exact atI_nat (j:=0) rfl) ?_
          refine ⟨rfl,_,rfl,rfl,?_⟩
          by_cases h0:t0=wRule
          · have e9:(!decide (V.str t0=V.str (Str.ofString "rule")))=false:=by rw [h0]; decide +kernel
            exact ⟨(fun z=>by rw [e9] at z; cases z),fun _=>⟨hl,h0⟩⟩
          · have e9:(!decide (V.str t0=V.str (Str.ofString "rule")))=true:=by rw [decide_eq_false (fun z=>h0 (by injection z))]; rfl
            exact ⟨fun _=>hdR_n (fun z=>h0 (by rw [g0] at z; injection z)),fun z=>by rw [e9] at z; cases z⟩
        · refine iteTe (by show (!decide (V.int (r.length:Int)=V.int 3))=true; rw [decide_eq_false (fun z=>hl (by injection z with z; omega))]; rfl) ⟨rfl,fun _=>hd_len hl,fun z=>by cases z⟩
      rintro b H3 ⟨rfl,hb1,hb2⟩
      cases b with
      | true =>
        refine iteT ?_
        refine nwT (by show 2≤64; decide) fun q4 H4 hq4 e4 s4=>?_
        exact no s02 (n:=0) (rdR_none (hb1 rfl)) q4 H4 e4 s4
      | false =>
        refine iteF ?_
        obtain ⟨h3,h0⟩:=hb2 rfl
        obtain ⟨u,v,rfl⟩:∃ u v,r=[wRule,u,v]:=by
          match r,h3,er with
          | [a,b,c],_,er=>exact ⟨b,c,by injection er with e1 _; rw [e1,h0]⟩
        refine ⟨_,rfl,_,rfl,?_⟩
        refine slL (ys:=[u,v].map V.str) e2 rfl fun q4 H4 hq4 e4 s4=>?_
        refine ⟨q4,rfl,⟨_,SqL.of e4⟩,?_⟩
        refine comp_fltD (g:=PyData.str) (as:=[u,v]) (strs_rep _) (fun p=>!decide (p∈sz3)) (by show 2≤100000; decide) e4 (fun x p H5 Q' hp rx s5 k'=>?_) (fun x H5 Q' q'=>⟨_,rfl,q'⟩) fun D ys H5 hD e5 s5 r5=>?_
        · cases (show x=V.str p from rx)
          refine ⟨_,rfl,?_⟩
          refine nwT (by show 3≤64; decide) fun p6 H6 hp6 e6 s6=>?_
          refine ⟨p6,sz3.map V.str,rfl,.inr (SqT.of e6),rfl,vstr_flat _,?_⟩
          rw [inV_strs]
          exact ⟨_,rfl,k' H6 s6⟩
        refine nwL (by show 0≤64; decide) fun q6 H6 hq6 e6 s6=>?_
        refine reD (Rep.lst (s6 _ _ e5) (r5.same s6)) (Rep.lst e6 RepL.nil) (strs_shp fun x hx=>okr.low x (by have:=(List.mem_filter.mp hx).1; exact List.mem_cons_of_mem _ this)) rfl ?_
        rw [eqv_s0]
        have S6:Same H3 H6:=(s4.trans s5).trans s6
        refine ⟨_,rfl,?_⟩
        by_cases hA:∀ t∈[u,v],t∈sz3
        · have hu:=hA u (by simp)
          have hv:=hA v (by simp)
          refine iteFe (by rw [show ([u,v].filter fun p=>!decide (p∈sz3))=[] from List.filter_eq_nil_iff.mpr fun t ht=>by simp [hA t ht]]; rfl) ?_
          have eh:=hd_ok (rs:=rest) hu hv
          obtain ⟨a1,a2,a3⟩:=size_iff.mpr hu
          obtain ⟨b1,b2,b3⟩:=size_iff.mpr hv
          have eR:rdR ([wRule,u,v]::rest)=if 1+(ens (val u) (val v) rest).length<rest.length+1 then .error (1+(ens (val u) (val v) rest).length) else .ok (ens (val u) (val v) rest):=by
            unfold rdR; rw [eh]; rfl
          have rint:∀ {u:Str} {Q':VK} {H':Hp},lgB u=true→Q' (.int ((val u:Nat):Int)) H'→rIntT [.str u] H' Q':=fun {u Q' H'} hu q'=>by
            obtain ⟨w1,w2,w3⟩:=lgB_len hu
            exact rintT (fun x hx=>.inr (figs_all w2 x hx)) (PySem.intText_digits (figs_all w2) w3 (by omega)) (line20 (by omega)) q'
          refine nwL (by show 0≤64; decide) fun L H7 hL e7 s7=>?_
          have S7:Same H3 H7:=S6.trans s7
          have s07:=s02.trans S7
          refine ⟨_,rfl,?_⟩
          refine rlL (s07 _ _ ha) ?_
          rw [List.length_map,List.length_map,List.length_cons]
          refine ⟨_,_,rfl,⟨by decide,by decide,by omega,by rw [List.length_cons] at hl4; omega⟩,?_⟩
          rw [show (((rest.length+1:Nat):Int) - 1).toNat=rest.length by omega]
          refine for_range (fun i σ H'=>∃ (o3 o4:Option V) (ys:List V) (es:List Ent),σ=[some (.ref a),some (.ref p1),some (.ref L),o3,o4]∧Same H H'∧H' p1=some (.lst ([wRule,u,v].map V.str))∧H' L=some (.lst ys)∧RepL H' (es.map enD) ys∧es.length=i∧ens (val u) (val v) rest=es++ens (val u) (val v) (rest.drop i)) ⟨_,_,[],[],rfl,s07,S7 _ _ e2,e7,RepL.nil,rfl,rfl⟩ ?_ ?_
          · rintro i σ H8 hi ⟨o3,o4,ys,es,rfl,s8,e8,eL8,r8,hes,hens⟩
            have hi:i<rest.length:=hi
            obtain ⟨ri,hri⟩:∃ ri,rest[i]?=some ri:=⟨_,List.getElem?_eq_getElem hi⟩
            have okri:=ok ri (List.mem_cons_of_mem _ (List.mem_of_getElem? hri))
            have lys:=reps_len r8
            rw [show (1:Int)+(i:Int)=((i+1:Nat):Int) by omega]
            refine ⟨_,rfl,_,rfl,?_⟩
            refine ixL (s8 _ _ ha) (v:=.str (lnOf ri)) (atI_nat (by rw [List.getElem?_map,List.getElem?_map,List.getElem?_cons_succ,hri]; rfl)) ?_
            refine ⟨_,rfl,?_⟩
            refine ixL e8 (v:=.str u) (atI_nat (j:=1) rfl) ?_
            refine rint a1 ?_
            refine ⟨_,rfl,?_⟩
            refine ixL e8 (v:=.str v) (atI_nat (j:=2) rfl) ?_
            refine rint b1 ?_
            refine sp_lent_i okri a3 b3 fun v9 H9 s9 r9=>?_
            have dr:rest.drop i=ri::rest.drop (i+1):=by
              rw [List.drop_eq_getElem_cons hi]
              congr 1
              exact (List.getElem?_eq_some_iff.mp hri).2
            refine ⟨_,rfl,rfl,_,rfl,?_⟩
            cases hE:rdE (val u) (val v) ri with
            | none =>
              rw [hE] at r9
              cases (show v9=.non from r9)
              refine iteTe (by simp) ?_
              have ee:ens (val u) (val v) rest=es:=by
                rw [hens,dr]
                unfold ens
                rw [hE,List.append_nil]
              rw [ee,hes,if_pos (show 1+i<rest.length+1 by omega)] at eR
              refine ⟨_,rfl,?_⟩
              refine nwT (by show 2≤64; decide) fun q10 H10 hq10 e10 s10=>?_
              refine no (s8.trans s9) (n:=1+i) eR q10 H10 ?_ s10
              rw [e10,show ((i+1:Nat):Int)=((1+i:Nat):Int) by omega]
            | some e =>
              rw [hE] at r9
              obtain ⟨d5,x5,rfl,hd5,rx5⟩:=tup_at (show Rep H9 (enD e) v9 from r9)
              refine iteFe (by simp) ?_
              refine ⟨_,rfl,tyL (s9 _ _ eL8),_,rfl,?_⟩
              refine appL (s9 _ _ eL8) (by rw [List.length_cons] at hl4; omega) fun H10 e10 b10=>?_
              have t10:=b10.t (s9 _ _ eL8)
              have hL0:H L=none:=s02.free (S6.free hL)
              have nL:p1≠L:=fun z=>by
                have:=S6 _ _ e2
                rw [z,hL] at this; cases this
              refine ⟨_,_,_,es++[e],rfl,Same.thru hL0 (s8.trans s9) b10,b10.at nL (s9 _ _ e8),e10,?_,?_,?_⟩
              · rw [List.map_append]
                exact RepL.snoc ((r8.same s9).flat t10 (ru_flat _)) ((show Rep H9 (enD e) (.ref d5) from r9).flat t10 (en_flat _))
              · rw [List.length_append,List.length_singleton]; omega
              · rw [hens,dr,List.append_assoc]
                conv=>lhs; unfold ens
                rw [hE]; rfl
          · rintro σ H8 ⟨o3,o4,ys,es,rfl,s8,e8,eL8,r8,hes,hens⟩
            rw [List.drop_length,show ens (val u) (val v) []=[] from rfl,List.append_nil] at hens
            rw [hens,hes,if_neg (show ¬ 1+rest.length<rest.length+1 by omega)] at eR
            refine ⟨_,rfl,?_⟩
            refine ⟨L,_,rfl,.inl ⟨SqL.of eL8,fun l hl=>?_⟩⟩
            have sl:=Same.upd (o:=.tup ys) hl
            have el:(upd H8 l (.tup ys)) l=some (.tup ys):=upd_same
            generalize upd H8 l (.tup ys)=H9 at sl el
            refine nwT (by show 2≤64; decide) fun q10 H10 hq10 e10 s10=>?_
            refine k _ H10 ((s8.trans sl).trans s10) ?_
            rw [eR]
            exact Rep.tup e10 (RepL.cons (Rep.str _) (RepL.cons (Rep.tup (s10 _ _ el) ((r8.same sl).same s10)) RepL.nil))
        · refine iteTe (by
            cases q:([u,v].filter fun p=>!decide (p∈sz3)) with
            | nil=>exact absurd (fun t ht=>by have:=List.filter_eq_nil_iff.mp q t ht; simpa using this) hA
            | cons x y=>rfl) ?_
          refine nwT (by show 2≤64; decide) fun q7 H7 hq7 e7 s7=>?_
          exact no (s02.trans S6) (n:=0) (rdR_none (hd_all (r:=[wRule,u,v]) hA)) q7 H7 e7 s7
end
end Kw
set_option Elab.async false
set_option linter.all false
set_option maxRecDepth 100000
namespace Kw
open PySem L2 Mf Mt
abbrev s__law_strange:Stmt:=(top 46)
theorem sc__law_strange:FnScope ["_law_error", "_law_kinds"] ["_law_error"] (defScope s__law_strange):=⟨rfl,rfl,rfl,by decide +kernel,rfl,by decide +kernel,by decide +kernel⟩
abbrev s__law_told:Stmt:=(top 51)
theorem sc__law_told:FnScope ["_law_lines_here", "_law_error", "_law_found", "e"] ["_law_lines_here"] (defScope s__law_told):=⟨rfl,rfl,rfl,by decide +kernel,rfl,by decide +kernel,by decide +kernel⟩
@[irreducible] def sp_strange (C:Addr):Sp:=fun vs H Q _=>∃ (a d:Addr) (fs:List (Str × V)),vs=[.ref a]∧H a=some (ExcO a C (some d))∧H d=some (XdO d fs)∧∀ H',Same H H'→Q (.bl false) H'
theorem sp_strange_i {C:Addr} {H:Hp} {Q:VK} {E:XK} {a d:Addr} {fs:List (Str × V)} (h1:H a=some (ExcO a C (some d))) (h2:H d=some (XdO d fs)) (q:∀ H',Same H H'→Q (.bl false) H'):sp_strange C [.ref a] H Q E:=by
  unfold sp_strange; exact ⟨a,d,fs,rfl,h1,h2,q⟩
@[irreducible] def sp_told:Sp:=fun vs H Q _=>∃ (x:Addr) (rs:List (List Str)),vs=[.ref x]∧H x=some (.lst ((rs.map lnOf).map V.str))∧(∀ r∈rs,RwK r)∧rs.length≤400∧∀ v H',Same H H'→Rep H' (duD (rdR rs)) v→Q v H'
theorem sp_told_i {H:Hp} {Q:VK} {E:XK} {x:Addr} {rs:List (List Str)} (h1:H x=some (.lst ((rs.map lnOf).map V.str))) (h3:∀ r∈rs,RwK r) (hl:rs.length≤400) (q:∀ v H',Same H H'→Rep H' (duD (rdR rs)) v→Q v H'):sp_told [.ref x] H Q E:=by unfold sp_told; exact ⟨x,rs,rfl,h1,h3,hl,q⟩
section
variable {P:Program} {w:World} {K:PySem.W.Frag} {mg:Str→Option Value} {base:Heap} {c:Cl}
set_option maxHeartbeats 4000000 in
theorem ok__law_strange {f:Addr} {fd:FuncData} (F:Fun K "_law_strange" "_law_strange" s__law_strange f fd) (T:Txt K mg c):FnOk P w K mg base CX0 1 f fd ["_law_error"] (sp_strange c.NoLines):=by
  refine F.okw sc__law_strange (fun vs H Q E h=>?_) (fun cdv A outer s H vs Q E hr h=>?_)
  · unfold sp_strange at h
    obtain ⟨a,d,fs,rfl,_⟩:=h
    rfl
  · unfold sp_strange at h
    obtain ⟨a,d,fs,rfl,ea,ed,q⟩:=h
    have ec:=excAll.cls T.ec_NoLines
    have hx:∀ H',Same H H'→XHas H' (some d):=fun H' s'=>⟨fs,s' _ _ ed⟩
    refine ⟨_,(wss_cons (ws_set (i:=1) sc__law_strange.nd rfl (Or.inl rfl) (we_lst (wa_k (we_cB (cl_isiW K) (by rfl) T.b_isinstance (by decide +kernel) (wa_k (we_v 0) (wa_k (we_tup (wa_k (we_glob (v:=.ref c.NoBack) rfl T.g_NoBack rfl) (wa_k (we_glob (v:=.ref c.NoBounds) rfl T.g_NoBounds rfl) (wa_k (we_glob (v:=.ref c.NoFraction) rfl T.g_NoFraction rfl) (wa_k (we_glob (v:=.ref c.NoLook) rfl T.g_NoLook rfl) (wa_k (we_glob (v:=.ref c.NoOrder) rfl T.g_NoOrder rfl) wa_nil)))))) wa_nil))) wa_nil)))
      (wss_cons (ws_expr (we_bm PySem.F.plainAttrs_list PySem.F.slot_list_append PySem.F.type_list_append mt_app (we_v 1) (wa_k (we_cB (cl_isiW K) (by rfl) T.b_isinstance (by decide +kernel) (wa_k (we_v 0) (wa_k (we_tup (wa_k (we_glob (v:=.ref c.NoPaper) rfl T.g_NoPaper rfl) (wa_k (we_glob (v:=.ref c.NoRow) rfl T.g_NoRow rfl) (wa_k (we_glob (v:=.ref c.NoRule) rfl T.g_NoRule rfl) (wa_k (we_glob (v:=.ref c.NoTrial) rfl T.g_NoTrial rfl) wa_nil))))) wa_nil))) wa_nil)))
      (wss_one (ws_ret (we_or (we_cmp (op_neD hr.units) (we_v 1) (we_lst (wa_k we_bl (wa_k we_bl wa_nil))) (nomark _)) (we_one (we_not (we_cB (cl_isiYK K) (by rfl) T.b_isinstance (by decide +kernel) (wa_k (we_v 0) (wa_k (we_bltn (v:=.ty "ValueError") (u:=.type "ValueError") rfl T.b_ValueError (by decide +kernel) rfl) wa_nil)))))))))),?_⟩
    refine ⟨_,rfl,?_⟩
    refine nwT (by show 5≤64; decide) fun tp H1 htp e1 s1=>?_
    refine rwI (b:=false) (s1 _ _ ea) (hx H1 s1) ec e1 (fun us hv=>?_) ?_
    · cases hv with | cons r1 hv=>cases hv with | cons r2 hv=>cases hv with | cons r3 hv=>cases hv with | cons r4 hv=>cases hv with | cons r5 hv=>cases hv; cases r1; cases r2; cases r3; cases r4; cases r5; exact T.k1
    refine nwL (by show 1≤64; decide) fun ks H2 hks e2 s2=>?_
    have s12:=s1.trans s2
    refine ⟨_,rfl,tyL e2,_,rfl,?_⟩
    refine nwT (by show 4≤64; decide) fun tp2 H3 htp2 e3 s3=>?_
    have s13:=s12.trans s3
    refine rwI (b:=false) (s13 _ _ ea) (hx H3 s13) ec e3 (fun us hv=>?_) ?_
    · cases hv with | cons r1 hv=>cases hv with | cons r2 hv=>cases hv with | cons r3 hv=>cases hv with | cons r4 hv=>cases hv; cases r1; cases r2; cases r3; cases r4; exact T.k2
    refine appL (s3 _ _ e2) (by decide) fun H4 e4 b4=>?_
    have hks0:H ks=none:=s1.free hks
    have S4:Same H H4:=Same.thru hks0 s13 b4
    refine ⟨_,rfl,?_⟩
    refine nwL (by show 2≤64; decide) fun q5 H5 hq5 e5 s5=>?_
    refine reD (d:=.list [.bool false,.bool false]) (d':=.list [.bool false,.bool false]) (Rep.lst (s5 _ _ e4) (RepL.cons (Rep.bl _) (RepL.cons (Rep.bl _) RepL.nil))) (Rep.lst e5 (RepL.cons (Rep.bl _) (RepL.cons (Rep.bl _) RepL.nil))) rfl rfl ?_
    refine ⟨_,rfl,?_⟩
    refine iteF ?_
    have S5:=S4.trans s5
    refine ⟨_,rfl,?_⟩
    refine ryI (b:=true) (S5 _ _ ea) (hx H5 S5) ec _ rfl T.k3 ?_
    exact ⟨_,rfl,q H5 S5⟩
set_option maxHeartbeats 4000000 in
theorem ok__law_told {f:Addr} {fd:FuncData} (F:Fun K "_law_told" "_law_told" s__law_told f fd) (T:Txt K mg c) (F_read_rule:FnC (CX1 P w) P w K mg base 7 "read_rule" ["lines"] (sp_rdrG c.NoLines)) (F__law_strange:FnC CX0 P w K mg base 1 "_law_strange" ["_law_error"] (sp_strange c.NoLines)):FnOk P w K mg base CX0 8 f fd ["_law_lines_here"] sp_told:=by
  refine F.okw sc__law_told (fun vs H Q E h=>?_) (fun cdv A outer s H vs Q E hr h=>?_)
  · unfold sp_told at h
    obtain ⟨x,rs,rfl,_⟩:=h
    rfl
  · unfold sp_told at h
    obtain ⟨x,rs,rfl,rx,ok,hl,q⟩:=h
    refine ⟨_,(wss_cons (ws_set (i:=1) sc__law_told.nd rfl (Or.inl rfl) we_non)
      (wss_cons (ws_set (i:=2) sc__law_told.nd rfl (Or.inl rfl) we_non)
      (wss_cons (ws_try (i:=3) rfl rfl rfl T.g_NoLines T.c_NoLines sc__law_told.nd rfl rfl (fun _ _ _ hx=>(wss_one (ws_set (i:=2) sc__law_told.nd rfl (Or.inl rfl) (we_fnX F_read_rule (hr.mono (by decide)) hx (wa_k (we_v 0) wa_nil))))) (fun _=>(wss_one (ws_set (i:=1) sc__law_told.nd rfl (Or.inl rfl) (we_v 3)))))
      (wss_cons (ws_if (wt_cmp op_isN (we_v 1) we_non (nomark _)) (wss_one (ws_ret (we_tup (wa_k we_str (wa_k (we_v 2) wa_nil))))) wss_nil)
      (wss_one (ws_ret (we_ifExp (wt_not (wt_val (we_fn F__law_strange (hr.mono (by decide)) (wa_k (we_v 1) wa_nil)))) (we_tup (wa_k we_str (wa_k (we_fldX (we_v 1)) wa_nil))) (we_tup (wa_k we_str wa_nil))))))))),?_⟩
    refine ⟨fun σ' cls od H'=>σ'=[some (.ref x),some .non,some .non,none]∧cls=.ref c.NoLines∧Same H H'∧∃ k y,rdR rs=.error k∧od=some y∧H' y=some (XdO y [("line",.int (k:Int))]),?_,?_⟩
    · refine ⟨_,rfl,?_⟩
      refine sp_rdrG_i rx ok hl (fun k hk H' y s1 ey=>⟨rfl,rfl,s1,k,y,hk,rfl,ey⟩) fun es hes v H' s1 r1=>?_
      refine ⟨_,rfl,rfl,_,rfl,?_⟩
      refine iteT ?_
      refine ⟨_,rfl,?_⟩
      refine nwT (by show 2≤64; decide) fun q2 H2 hq2 e2 s2=>?_
      refine q _ H2 (s1.trans s2) ?_
      rw [hes]
      exact Rep.tup e2 (RepL.cons (Rep.str _) (RepL.cons (r1.same s2) RepL.nil))
    · rintro σ' cls od H' ⟨rfl,rfl,s1,k,y,hk,rfl,ey⟩
      refine ⟨c.NoLines,rfl,T.sub_NoLines,fun a na=>?_⟩
      have ea:(upd H' a (ExcO a c.NoLines (some y))) a=some (ExcO a c.NoLines (some y)):=upd_same
      have sa:=Same.upd (o:=ExcO a c.NoLines (some y)) na
      generalize upd H' a (ExcO a c.NoLines (some y))=H1 at ea sa
      refine ⟨_,rfl,?_⟩
      refine ⟨_,rfl,rfl,_,rfl,?_⟩
      refine iteF ?_
      refine ⟨_,rfl,?_⟩
      refine sp_strange_i ea (sa _ _ ey) fun H2 s2=>?_
      refine ⟨_,rfl,?_⟩
      refine iteT ?_
      refine ⟨_,rfl,a,c.NoLines,y,_,.int (k:Int),rfl,s2 _ _ ea,s2 _ _ (sa _ _ ey),excAll.cls T.ec_NoLines,(setAll.set T.st_NoLines).hd,setAll.no T.st_NoLines (by simp),rfl,?_⟩
      refine nwT (by show 2≤64; decide) fun q3 H3 hq3 e3 s3=>?_
      refine q _ H3 ((s1.trans sa).trans (s2.trans s3)) ?_
      rw [hk]
      exact Rep.tup e3 (RepL.cons (Rep.str _) (RepL.cons (Rep.int _) RepL.nil))
end
end Kw
set_option Elab.async false
set_option linter.all false
set_option maxRecDepth 100000
namespace Kw
open PySem L2 Mf Mt
abbrev s__law_bent_line:Stmt:=(top 52)
theorem sc__law_bent_line:FnScope ["_law_tape_here", "_law_line", "_law_words", "_law_at", "_law_some", "_law_other", "_law_way", "_law_many"] ["_law_tape_here", "_law_line"] (defScope s__law_bent_line):=⟨rfl,rfl,rfl,by decide +kernel,rfl,by decide +kernel,by decide +kernel⟩
structure WdK (p:Str):Prop where
  free:32 ∉ p.cps.toList
  sz:p.length≤6000
  lo:∀ c∈p.cps.toList,c<128
  th:Thin p
theorem rwK_of {r:List Str} (hn:r≠[]) (hl:r.length≤40) (h:∀ p∈r,WdK p):RwK r:=⟨hn,fun p hp=>(h p hp).free,hl,fun p hp=>(h p hp).sz,fun p hp=>(h p hp).lo,fun p hp=>(h p hp).th⟩
theorem RwK.wd {r:List Str} (h:RwK r):∀ p∈r,WdK p:=fun p hp=>⟨h.free p hp,h.sz p hp,h.lo p hp,h.th p hp⟩
theorem thin_short {t:Str} (h:t.length≤2500):Thin t:=fun u v e=>.inl (by
  have:v.length≤t.length:=part_len (show v∈Txt.split t sl by rw [show Txt.split t sl=[u,v] from e]; simp)
  omega)
theorem wdK_short {t:Str} (h:32 ∉ t.cps.toList) (hl:t.length≤2500) (lo:∀ c∈t.cps.toList,c<128):WdK t:=⟨h,by omega,lo,thin_short hl⟩
def odd27:List Str:=(["on", "say", "rule", "0", "1", "2", "5", "-1", "-0", "01", "1/2", "2/4", "1/1", "3/0"]:List Str)++(["-3/7", "+1", "", "a", "1/02", "/2", "1/", "1/2/3", "4", "10", "-", "--1", "0/2"]:List Str)
theorem odd_wd:∀ t∈odd27,WdK t:=by
  have h:∀ t∈odd27,32 ∉ t.cps.toList∧t.length≤2500∧∀ c∈t.cps.toList,c<128:=by decide +kernel
  exact fun t ht=>wdK_short (h t ht).1 (h t ht).2.1 (h t ht).2.2
theorem fold_rep:∀ (n:Nat) (acc:Array Nat),((List.replicate n (#[55]:Array Nat)).foldl (· ++ ·) acc).toList=acc.toList++List.replicate n 55
  | 0,acc=>by simp
  | n+1,acc=>by
    rw [List.replicate_succ,List.foldl_cons,fold_rep n,Array.toList_append,List.append_assoc,List.replicate_succ]
    rfl
theorem sev_cps {n:Nat} (h:2≤n):(Txt.mul (Str.ofString "7") (n:Int)).cps.toList=List.replicate n 55:=by
  unfold Txt.mul
  have e1:((n:Int) == 1 || (Str.ofString "7").length == 0)=false:=by
    rw [Bool.or_eq_false_iff]
    refine ⟨?_,by decide +kernel⟩
    rw [beq_eq_false_iff_ne]
    omega
  rw [if_neg (by omega),e1]
  show ((List.replicate (n:Int).toNat (Str.ofString "7").cps).foldl (· ++ ·) #[]).toList=_
  rw [show (Str.ofString "7").cps=#[55] from by decide +kernel,fold_rep]
  simp
theorem sev_ok {n:Nat} (h:n≤5000):MulOk (Str.ofString "7") (n:Int):=by
  have e:(Str.ofString "7").length=1:=by decide +kernel
  refine ⟨?_,fun h1 _=>?_,fun _ _=>?_⟩
  · rw [Bool.or_eq_false_iff]
    exact ⟨decide_eq_false (by omega),decide_eq_false (by omega)⟩
  · rw [e]
    intro z
    have:(1:Int)≤(2^63 - 1) / (n:Int):=by
      rw [Int.le_ediv_iff_mul_le (by omega)]
      omega
    omega
  · rw [e]
    have:1*(n:Int).toNat≤5000:=by omega
    exact decide_eq_false (Nat.not_lt.mpr (Nat.le_trans this (by decide)))
def pre5:List Str:=["", "", "-", "1/", "5/"]
theorem sev_wd {a:Str} {n:Nat} (ha:a∈pre5) (h2:2≤n) (h5:n≤5000):WdK (a++Txt.mul (Str.ofString "7") (n:Int)):=by
  have ec:=sev_cps h2
  generalize Txt.mul (Str.ofString "7") (n:Int)=s7 at ec
  have l7:s7.length=n:=by rw [← len_toList,ec,List.length_replicate]
  have al:∀ u∈pre5,u.length≤2∧32 ∉ u.cps.toList∧∀ c∈u.cps.toList,c<128:=by decide +kernel
  obtain ⟨a1,a2,a3⟩:=al a ha
  have m7:∀ c∈s7.cps.toList,c=55:=fun c hc=>by rw [ec] at hc; exact (List.mem_replicate.mp hc).2
  have f7:47 ∉ s7.cps.toList:=fun z=>by have:=m7 _ z; omega
  refine ⟨fun z=>?_,by rw [app_len]; omega,fun c hc=>?_,?_⟩
  · rw [app_cps] at z
    rcases List.mem_append.mp z with z | z
    · exact a2 z
    · have:=m7 _ z; omega
  · rw [app_cps] at hc
    rcases List.mem_append.mp hc with z | z
    · exact a3 c z
    · have:=m7 _ z; omega
  · have one:∀ u:Str,47 ∉ u.cps.toList→Thin (u++s7):=fun u hu x y e=>by
      have e:Txt.split (u++s7) sl=[x,y]:=e
      rw [split_one (by rw [app_cps]; intro z; rcases List.mem_append.mp z with z | z; exact hu z; exact f7 z)] at e
      cases e
    have two:∀ u:Str,47 ∉ u.cps.toList→u.length≤2500→val (fg u)≠0→Thin ((u++sl)++s7):=fun u hu hl hv x y e=>by
      have e:Txt.split ((u++sl)++s7) sl=[x,y]:=e
      rw [split_two hu f7] at e
      injection e with e1 e2
      subst e1
      exact .inr ⟨hl,hv⟩
    have m:a = "" ∨ a = "-" ∨ a=(Str.ofString "1" ++ sl)∨a=(Str.ofString "5" ++ sl):=by
      have:∀ u∈pre5,u = "" ∨ u = "-" ∨ u=(Str.ofString "1" ++ sl)∨u=(Str.ofString "5" ++ sl):=by decide +kernel
      exact this a ha
    rcases m with rfl | rfl | rfl | rfl
    · exact one _ (by decide +kernel)
    · exact one _ (by decide +kernel)
    · exact two _ (by decide +kernel) (by decide +kernel) (by decide +kernel)
    · exact two _ (by decide +kernel) (by decide +kernel) (by decide +kernel)
@[irreducible] def sp_bline:Sp:=fun vs H Q _=>∃ (p:Addr) (r:List Str) (n m:Nat),vs=[.ref p,.str (lnOf r)]∧TapeAt H p (n+10)∧RwK r∧r.length≤m∧m<40∧∀ r' H',TapeAt H' p n→SameBut p H H'→RwK r'→r'.length≤m+1→Q (.str (lnOf r')) H'
theorem sp_bline_i {H:Hp} {Q:VK} {E:XK} {p:Addr} {r:List Str} {n m:Nat} (tp:TapeAt H p (n+10)) (ok:RwK r) (hm:r.length≤m) (h40:m<40) (k:∀ r' H',TapeAt H' p n→SameBut p H H'→RwK r'→r'.length≤m+1→Q (.str (lnOf r')) H'):sp_bline [.ref p,.str (lnOf r)] H Q E:=by
  unfold sp_bline; exact ⟨p,r,n,m,rfl,tp,ok,hm,h40,k⟩
theorem ln_nil:Txt.join bk []=lnOf [""]:=by decide +kernel
theorem joinK {r:List Str} (hl:r.length≤41) (h:∀ p∈r,WdK p):(r.map (·.length)).sum+r.length*bk.length≤16777216:=by
  have h3:=sumlen (fun p hp=>(h p hp).sz)
  have e:bk.length=1:=by decide +kernel
  have h4:6000*r.length≤6000*41:=Nat.mul_le_mul_left _ hl
  rw [e]; omega
section
variable {P:Program} {w:World} {K:PySem.W.Frag} {mg:Str→Option Value} {base:Heap} {c:Cl}
set_option maxHeartbeats 4000000 in
theorem ok__law_bent_line {f:Addr} {fd:FuncData} (F:Fun K "_law_bent_line" "_law_bent_line" s__law_bent_line f fd) (T:Txt K mg c) (F__law_pick:FnC CX0 P w K mg base 1 "_law_pick" ["_law_tape_here", "_law_many"] sp_pick):FnOk P w K mg base CX0 2 f fd ["_law_tape_here", "_law_line"] sp_bline:=by
  refine F.okw sc__law_bent_line (fun vs H Q E h=>?_) (fun cdv A outer s H vs Q E hr h=>?_)
  · unfold sp_bline at h
    obtain ⟨p,r,n,m,rfl,_⟩:=h
    rfl
  · unfold sp_bline at h
    obtain ⟨p,r,n,m,rfl,tp,ok,hm,h40,k⟩:=h
    refine ⟨_,(wss_cons (ws_set (i:=2) sc__law_bent_line.nd rfl (Or.inl rfl) (we_bm PySem.F.plainAttrs_str PySem.F.slot_str_split PySem.F.type_str_split mt_split (we_v 1) (wa_k we_str wa_nil)))
      (wss_cons (ws_set (i:=3) sc__law_bent_line.nd rfl (Or.inl rfl) (we_fn F__law_pick (hr.mono (by decide)) (wa_k (we_v 0) (wa_k (we_cB cl_len (by rfl) T.b_len (by decide +kernel) (wa_k (we_v 2) wa_nil)) wa_nil))))
      (wss_cons (ws_set (i:=4) sc__law_bent_line.nd rfl (Or.inl rfl) (we_lst (wa_k we_str (wa_k we_str (wa_k we_str (wa_k we_str (wa_k we_str (wa_k we_str (wa_k we_str (wa_k we_str (wa_k we_str (wa_k we_str (wa_k we_str (wa_k we_str (wa_k we_str (wa_k we_str wa_nil))))))))))))))))
      (wss_cons (ws_set (i:=4) sc__law_bent_line.nd rfl (Or.inl rfl) (we_op op_cat (we_v 4) (we_lst (wa_k we_str (wa_k we_str (wa_k we_str (wa_k we_str (wa_k we_str (wa_k we_str (wa_k we_str (wa_k we_str (wa_k we_str (wa_k we_str (wa_k we_str (wa_k we_str (wa_k we_str wa_nil))))))))))))))))
      (wss_cons (ws_set (i:=5) sc__law_bent_line.nd rfl (Or.inl rfl) (we_ix ix_seq (we_v 4) (we_fn F__law_pick (hr.mono (by decide)) (wa_k (we_v 0) (wa_k we_int wa_nil))) (fun _ _=>rfl)))
      (wss_cons (ws_set (i:=6) sc__law_bent_line.nd rfl (Or.inl rfl) (we_fn F__law_pick (hr.mono (by decide)) (wa_k (we_v 0) (wa_k we_int wa_nil))))
      (wss_cons (ws_cut (ws_if (wt_cmp op_eq (we_fn F__law_pick (hr.mono (by decide)) (wa_k (we_v 0) (wa_k we_int wa_nil))) we_int (nomark _)) (wss_cons (ws_set (i:=7) sc__law_bent_line.nd rfl (Or.inl rfl) (we_ix ix_seq (we_lst (wa_k we_int (wa_k we_int (wa_k we_int (wa_k we_int (wa_k we_int wa_nil)))))) (we_fn F__law_pick (hr.mono (by decide)) (wa_k (we_v 0) (wa_k we_int wa_nil))) (fun _ _=>rfl)))
      (wss_cons (ws_set (i:=5) sc__law_bent_line.nd rfl (Or.inl rfl) (we_op op_add_str (we_ix ix_seq (we_lst (wa_k we_str (wa_k we_str (wa_k we_str (wa_k we_str (wa_k we_str wa_nil)))))) (we_fn F__law_pick (hr.mono (by decide)) (wa_k (we_v 0) (wa_k we_int wa_nil))) (fun _ _=>rfl)) (we_op op_mulS we_str (we_v 7))))
      (wss_one (ws_set (i:=6) sc__law_bent_line.nd rfl (Or.inl rfl) (we_op op_add we_int (we_fn F__law_pick (hr.mono (by decide)) (wa_k (we_v 0) (wa_k we_int wa_nil)))))))) wss_nil))
      (wss_cons (ws_if (wt_cmp op_eq (we_v 6) we_int (nomark _)) (wss_one (ws_ret (we_bm PySem.F.plainAttrs_str PySem.F.slot_str_join PySem.F.type_str_join (mt_join K) we_str (wa_k (we_op op_cat (we_slice (sl_listN K) (we_v 2) wo_none (wo_some (we_v 3))) (we_slice (sl_listN K) (we_v 2) (wo_some (we_op op_add (we_v 3) we_int)) wo_none)) wa_nil)))) wss_nil)
      (wss_cons (ws_if (wt_cmp op_eq (we_v 6) we_int (nomark _)) (wss_one (ws_ret (we_bm PySem.F.plainAttrs_str PySem.F.slot_str_join PySem.F.type_str_join (mt_join K) we_str (wa_k (we_op op_cat (we_op op_cat (we_slice (sl_listN K) (we_v 2) wo_none (wo_some (we_v 3))) (we_lst (wa_k (we_v 5) wa_nil))) (we_slice (sl_listN K) (we_v 2) (wo_some (we_v 3)) wo_none)) wa_nil)))) wss_nil)
      (wss_one (ws_ret (we_bm PySem.F.plainAttrs_str PySem.F.slot_str_join PySem.F.type_str_join (mt_join K) we_str (wa_k (we_op op_cat (we_op op_cat (we_slice (sl_listN K) (we_v 2) wo_none (wo_some (we_v 3))) (we_lst (wa_k (we_v 5) wa_nil))) (we_slice (sl_listN K) (we_v 2) (wo_some (we_op op_add (we_v 3) we_int)) wo_none)) wa_nil))))))))))))),?_⟩
    have ll:=ok.ll
    have lr:=ok.len
    have sb:=ok.back
    have hpos:0<r.length:=List.length_pos_iff.mpr ok.ne
    refine ⟨_,rfl,?_⟩
    refine ⟨rfl,?_⟩
    refine rsplit (b:=bk) (by decide +kernel) (lineM (by omega)) (by rw [sb]; exact lineM (by omega)) fun q1 H1 hq1 e1 s1=>?_
    rw [sb] at e1
    have n1:q1≠p:=tp.ne hq1
    refine ⟨_,rfl,_,rfl,?_⟩
    refine rlL e1 ?_
    rw [List.length_map]
    refine sp_pick_i (n:=n+9) (tp.same s1) (by omega) (bitsle (Nat.lt_of_le_of_lt (show ((r.length:Nat):Int).natAbs≤40 by omega) (by decide))) fun x2 H2 a2 b2 F2 s2=>?_
    obtain ⟨at2,rfl⟩:∃ b:Nat,x2=(b:Int):=⟨x2.toNat,by omega⟩
    have hat:at2<r.length:=by omega
    have e2:=s2.at n1 e1
    refine nwL (by show 14≤64; decide) fun q3 H3 hq3 e3 s3=>?_
    refine ⟨_,rfl,?_⟩
    refine nwL (by show 13≤64; decide) fun q4 H4 hq4 e4 s4=>?_
    refine catL (s4 _ _ e3) e4 (by show 14+13≤_; decide) fun q5 H5 hq5 e5 s5=>?_
    have e5:H5 q5=some (.lst (odd27.map V.str)):=e5
    have S25:Same H2 H5:=(s3.trans s4).trans s5
    have F5:=F2.same S25
    have n5:q5≠p:=F5.neL e5
    refine ⟨_,rfl,_,rfl,?_⟩
    refine sp_pick_i (n:=n+8) F5 (by decide) (by decide +kernel) fun x6 H6 a6 b6 F6 s6=>?_
    obtain ⟨j6,rfl⟩:∃ b:Nat,x6=(b:Int):=⟨x6.toNat,by omega⟩
    obtain ⟨o6,ho6⟩:∃ o,odd27[j6]?=some o:=⟨_,List.getElem?_eq_getElem (show j6<27 by omega)⟩
    have w6:=odd_wd o6 (List.mem_of_getElem? ho6)
    refine ixL (s6.at n5 e5) (v:=.str o6) (atI_nat (by rw [List.getElem?_map,ho6]; rfl)) ?_
    refine ⟨_,rfl,?_⟩
    refine sp_pick_i (n:=n+7) F6 (by decide) (by decide +kernel) fun x7 H7 a7 b7 F7 s7=>?_
    have S7:SameBut p H2 H7:=(S25.but.trans s6).trans s7
    have e7:H7 q1=some (.lst (r.map V.str)):=S7.at n1 e2
    have S07:SameBut p H H7:=(s1.but.trans s2).trans S7
    refine ⟨fun σ H'=>∃ (o:Str) (x:Int) (om:Option V),σ=[some (.ref p),some (.str (lnOf r)),some (.ref q1),some (.int (at2:Int)),some (.ref q5),some (.str o),some (.int x),om]∧TapeAt H' p n∧SameBut p H H'∧H' q1=some (.lst (r.map V.str))∧WdK o,?_,?_⟩
    case refine_2 =>
      refine ⟨_,rfl,?_⟩
      refine sp_pick_i (n:=n+6) F7 (by decide) (by decide +kernel) fun x8 H8 a8 b8 F8 s8=>?_
      refine ⟨rfl,_,rfl,?_⟩
      by_cases h8:x8=1
      · refine iteTe (decide_eq_true (by rw [h8])) ?_
        refine nwL (by show 5≤64; decide) fun q9 H9 hq9 e9 s9=>?_
        have F9:=F8.same s9
        have n9:q9≠p:=F9.neL e9
        refine ⟨_,rfl,?_⟩
        refine sp_pick_i (n:=n+5) F9 (by decide) (by decide +kernel) fun x10 H10 a10 b10 F10 s10=>?_
        obtain ⟨j10,rfl⟩:∃ b:Nat,x10=(b:Int):=⟨x10.toNat,by omega⟩
        obtain ⟨mm,hmm⟩:∃ o,([3999,4000,4000,4001,5000]:List Nat)[j10]?=some o:=⟨_,List.getElem?_eq_getElem (show j10<5 by omega)⟩
        have hm2:2≤mm∧mm≤5000:=by
          have:=List.mem_of_getElem? hmm
          simp only [List.mem_cons,List.not_mem_nil,or_false] at this
          omega
        refine ixL (s10.at n9 e9) (v:=.int (mm:Int)) (atI_nat (by
          have:[V.int 3999,.int 4000,.int 4000,.int 4001,.int 5000]=([3999,4000,4000,4001,5000]:List Nat).map (fun k:Nat=>V.int (k:Int)):=rfl
          rw [this,List.getElem?_map,hmm]; rfl)) ?_
        refine nwL (by show 5≤64; decide) fun q11 H11 hq11 e11 s11=>?_
        have F11:=F10.same s11
        have n11:q11≠p:=F11.neL e11
        refine ⟨_,rfl,?_⟩
        refine sp_pick_i (n:=n+4) F11 (by decide) (by decide +kernel) fun x12 H12 a12 b12 F12 s12=>?_
        obtain ⟨j12,rfl⟩:∃ b:Nat,x12=(b:Int):=⟨x12.toNat,by omega⟩
        obtain ⟨pr,hpr⟩:∃ o,pre5[j12]?=some o:=⟨_,List.getElem?_eq_getElem (show j12<5 by omega)⟩
        have hprm:=List.mem_of_getElem? hpr
        refine ixL (s12.at n11 e11) (v:=.str pr) (atI_nat (by
          have:[V.str "",.str "",.str "-",.str "1/",.str "5/"]=pre5.map V.str:=rfl
          rw [this,List.getElem?_map,hpr]; rfl)) ?_
        refine ⟨_,rfl,_,_,rfl,rfl,sev_ok hm2.2,?_⟩
        have ww:=sev_wd hprm hm2.1 hm2.2
        refine ⟨_,_,rfl,rfl,line20 (by have:=ww.sz; rw [app_len] at this; omega),?_⟩
        refine ⟨_,rfl,?_⟩
        refine sp_pick_i (n:=n+3) F12 (by decide) (by decide +kernel) fun x13 H13 a13 b13 F13 s13=>?_
        refine ⟨_,_,rfl,rfl,?_⟩
        have S13:SameBut p H7 H13:=((((s8.trans s9.but).trans s10).trans s11.but).trans s12).trans s13
        exact ⟨_,_,_,rfl,F13.less (by omega),S07.trans S13,S13.at n1 e7,ww⟩
      · refine iteFe (decide_eq_false fun z=>h8 (by injection z)) ?_
        exact ⟨_,_,_,rfl,F8.less (by omega),S07.trans s8,s8.at n1 e7,w6⟩
    rintro σ H8 ⟨o,x,om,rfl,F8,S8,e8,wo⟩
    have fin:∀ (r':List Str) (H':Hp) (q:Addr),Same H8 H'→H' q=some (.lst (r'.map V.str))→r'.length≤m+1→(∀ u∈r',WdK u)→rJoin K (.str bk) [.ref q] H' Q:=fun r' H' q s' e' hl' hw=>by
      refine rjoin (ts:=r') (sep:=bk) (.inl (SqL.of e')) (joinK (by omega) hw) ?_
      by_cases hn:r'=[]
      · rw [hn,ln_nil]
        exact k [""] H' (F8.same s') (S8.trans s'.but) (rwK_of (by simp) (by decide) fun u hu=>by rw [List.mem_singleton.mp hu]; exact wdK_short (by decide +kernel) (by decide +kernel) (by decide +kernel)) (by show 1≤m+1; omega)
      · exact k r' H' (F8.same s') (S8.trans s'.but) (rwK_of hn (by omega) hw) hl'
    have wd:=ok.wd
    have mt:∀ u∈r.take at2,WdK u:=fun u hu=>wd u (List.mem_of_mem_take hu)
    have md:∀ i,∀ u∈r.drop i,WdK u:=fun i u hu=>wd u (List.mem_of_mem_drop hu)
    have c1:cutV (r.map V.str) none (some ((at2:Nat):Int))=(r.take at2).map V.str:=by rw [cutV_hi,List.map_take]
    have c2:cutV (r.map V.str) (some ((at2:Nat):Int)) none=(r.drop at2).map V.str:=by rw [cutV_lo,List.map_drop]
    have c3:cutV (r.map V.str) (some (((at2:Nat):Int)+1)) none=(r.drop (at2+1)).map V.str:=by rw [show (((at2:Nat):Int)+1)=((at2+1:Nat):Int) by omega,cutV_lo,List.map_drop]
    have lt:(r.take at2).length=at2:=by rw [List.length_take]; omega
    have ld:∀ i,(r.drop i).length=r.length - i:=fun i=>List.length_drop
    refine ⟨_,rfl,rfl,_,rfl,?_⟩
    by_cases x0:x=0
    · refine iteTe (decide_eq_true (by rw [x0])) ?_
      refine ⟨rfl,?_⟩
      refine ⟨_,rfl,_,rfl,_,rfl,?_⟩
      refine slL e8 c1 fun q9 H9 hq9 e9 s9=>?_
      refine ⟨_,rfl,_,rfl,_,_,rfl,rfl,_,rfl,?_⟩
      refine slL (s9 _ _ e8) c3 fun q10 H10 hq10 e10 s10=>?_
      refine catL (s10 _ _ e9) e10 (by rw [List.length_map,List.length_map,lt,ld]; omega) fun q11 H11 hq11 e11 s11=>?_
      refine fin (r.take at2++r.drop (at2+1)) H11 q11 ((s9.trans s10).trans s11) (by rw [e11,List.map_append]) (by rw [List.length_append,lt,ld]; omega) fun u hu=>?_
      rcases List.mem_append.mp hu with hu | hu
      · exact mt u hu
      · exact md _ u hu
    · refine iteFe (decide_eq_false fun z=>x0 (by injection z)) ?_
      refine ⟨_,rfl,rfl,_,rfl,?_⟩
      by_cases x1:x=1
      · refine iteTe (decide_eq_true (by rw [x1])) ?_
        refine ⟨rfl,?_⟩
        refine ⟨_,rfl,_,rfl,_,rfl,?_⟩
        refine slL e8 c1 fun q9 H9 hq9 e9 s9=>?_
        refine ⟨_,rfl,?_⟩
        refine nwL (by show 1≤64; decide) fun qa Ha hqa ea sa=>?_
        refine catL (sa _ _ e9) ea (by rw [List.length_map,lt]; show at2+1≤_; omega) fun qb Hb hqb eb sb'=>?_
        have Sb:=(s9.trans sa).trans sb'
        refine ⟨_,rfl,_,rfl,_,rfl,?_⟩
        refine slL (Sb _ _ e8) c2 fun q10 H10 hq10 e10 s10=>?_
        refine catL (s10 _ _ eb) e10 (by rw [List.length_append,List.length_map,List.length_map,lt,ld]; show at2+1+_≤_; omega) fun q11 H11 hq11 e11 s11=>?_
        refine fin (r.take at2++[o]++r.drop at2) H11 q11 ((Sb.trans s10).trans s11) (by rw [e11,List.map_append,List.map_append]; rfl) (by rw [List.length_append,List.length_append,lt,ld]; show at2+1+_≤_; omega) fun u hu=>?_
        rcases List.mem_append.mp hu with hu | hu
        · rcases List.mem_append.mp hu with hu | hu
          · exact mt u hu
          · rw [List.mem_singleton.mp hu]; exact wo
        · exact md _ u hu
      · refine iteFe (decide_eq_false fun z=>x1 (by injection z)) ?_
        refine ⟨rfl,?_⟩
        refine ⟨_,rfl,_,rfl,_,rfl,?_⟩
        refine slL e8 c1 fun q9 H9 hq9 e9 s9=>?_
        refine ⟨_,rfl,?_⟩
        refine nwL (by show 1≤64; decide) fun qa Ha hqa ea sa=>?_
        refine catL (sa _ _ e9) ea (by rw [List.length_map,lt]; show at2+1≤_; omega) fun qb Hb hqb eb sb'=>?_
        have Sb:=(s9.trans sa).trans sb'
        refine ⟨_,rfl,_,rfl,_,_,rfl,rfl,_,rfl,?_⟩
        refine slL (Sb _ _ e8) c3 fun q10 H10 hq10 e10 s10=>?_
        refine catL (s10 _ _ eb) e10 (by rw [List.length_append,List.length_map,List.length_map,lt,ld]; show at2+1+_≤_; omega) fun q11 H11 hq11 e11 s11=>?_
        refine fin (r.take at2++[o]++r.drop (at2+1)) H11 q11 ((Sb.trans s10).trans s11) (by rw [e11,List.map_append,List.map_append]; rfl) (by rw [List.length_append,List.length_append,lt,ld]; show at2+1+_≤_; omega) fun u hu=>?_
        rcases List.mem_append.mp hu with hu | hu
        · rcases List.mem_append.mp hu with hu | hu
          · exact mt u hu
          · rw [List.mem_singleton.mp hu]; exact wo
        · exact md _ u hu
end
end Kw
set_option Elab.async false
set_option linter.all false
set_option maxRecDepth 100000
namespace Kw
open PySem L2 Mf Mt
abbrev s__law_bent:Stmt:=(top 53)
theorem sc__law_bent:FnScope ["_law_tape_here", "_law_lines_here", "_law_at", "_law_way"] ["_law_tape_here", "_law_lines_here"] (defScope s__law_bent):=⟨rfl,rfl,rfl,by decide +kernel,rfl,by decide +kernel,by decide +kernel⟩
def RsOk (rs:List (List Str)) (m:Nat):Prop:=∀ r∈rs,RwK r∧r.length≤m
abbrev lnV (rs:List (List Str)):List V:=(rs.map lnOf).map V.str
@[irreducible] def sp_bentl:Sp:=fun vs H Q _=>∃ (p a:Addr) (rs:List (List Str)) (n m k0:Nat),vs=[.ref p,.ref a]∧TapeAt H p (n+20)∧H a=some (.lst (lnV rs))∧RsOk rs m∧m<40∧rs≠[]∧rs.length≤k0∧k0≤300∧∀ rs' D H',TapeAt H' p n→SameBut p H H'→H' D=some (.lst (lnV rs'))→RsOk rs' (m+1)→rs'.length≤k0+1→Q (.ref D) H'
theorem sp_bentl_i {H:Hp} {Q:VK} {E:XK} {p a:Addr} {rs:List (List Str)} {n m k0:Nat} (tp:TapeAt H p (n+20)) (ha:H a=some (.lst (lnV rs))) (ok:RsOk rs m) (h40:m<40) (hn:rs≠[]) (hl:rs.length≤k0) (h3:k0≤300) (k:∀ rs' D H',TapeAt H' p n→SameBut p H H'→H' D=some (.lst (lnV rs'))→RsOk rs' (m+1)→rs'.length≤k0+1→Q (.ref D) H'):sp_bentl [.ref p,.ref a] H Q E:=by
  unfold sp_bentl; exact ⟨p,a,rs,n,m,k0,rfl,tp,ha,ok,h40,hn,hl,h3,k⟩
section
variable {P:Program} {w:World} {K:PySem.W.Frag} {mg:Str→Option Value} {base:Heap} {c:Cl}
set_option maxHeartbeats 4000000 in
theorem ok__law_bent {f:Addr} {fd:FuncData} (F:Fun K "_law_bent" "_law_bent" s__law_bent f fd) (T:Txt K mg c) (F__law_pick:FnC CX0 P w K mg base 1 "_law_pick" ["_law_tape_here", "_law_many"] sp_pick) (F__law_bent_line:FnC CX0 P w K mg base 2 "_law_bent_line" ["_law_tape_here", "_law_line"] sp_bline):FnOk P w K mg base CX0 3 f fd ["_law_tape_here", "_law_lines_here"] sp_bentl:=by
  refine F.okw sc__law_bent (fun vs H Q E h=>?_) (fun cdv A outer s H vs Q E hr h=>?_)
  · unfold sp_bentl at h
    obtain ⟨p,a,rs,n,m,k0,rfl,_⟩:=h
    rfl
  · unfold sp_bentl at h
    obtain ⟨p,a,rs,n,m,k0,rfl,tp,ha,ok,h40,hn,hl,h3,k⟩:=h
    refine ⟨_,(wss_cons (ws_set (i:=2) sc__law_bent.nd rfl (Or.inl rfl) (we_fn F__law_pick (hr.mono (by decide)) (wa_k (we_v 0) (wa_k (we_cB cl_len (by rfl) T.b_len (by decide +kernel) (wa_k (we_v 1) wa_nil)) wa_nil))))
      (wss_cons (ws_set (i:=3) sc__law_bent.nd rfl (Or.inl rfl) (we_fn F__law_pick (hr.mono (by decide)) (wa_k (we_v 0) (wa_k we_int wa_nil))))
      (wss_cons (ws_if (wt_cmp op_eq (we_v 3) we_int (nomark _)) (wss_one (ws_ret (we_op op_cat (we_slice (sl_listN K) (we_v 1) wo_none (wo_some (we_v 2))) (we_slice (sl_listN K) (we_v 1) (wo_some (we_op op_add (we_v 2) we_int)) wo_none)))) wss_nil)
      (wss_cons (ws_if (wt_cmp op_eq (we_v 3) we_int (nomark _)) (wss_one (ws_ret (we_op op_cat (we_op op_cat (we_slice (sl_listN K) (we_v 1) wo_none (wo_some (we_v 2))) (we_lst (wa_k (we_ix ix_seq (we_v 1) (we_v 2) (fun _ _=>rfl)) wa_nil))) (we_slice (sl_listN K) (we_v 1) (wo_some (we_v 2)) wo_none)))) wss_nil)
      (wss_cons (ws_if (wt_cmp op_eq (we_v 3) we_int (nomark _)) (wss_one (ws_ret (we_op op_cat (we_slice (sl_listN K) (we_v 1) (wo_some (we_v 2)) wo_none) (we_slice (sl_listN K) (we_v 1) wo_none (wo_some (we_v 2)))))) wss_nil)
      (wss_one (ws_ret (we_op op_cat (we_op op_cat (we_slice (sl_listN K) (we_v 1) wo_none (wo_some (we_v 2))) (we_lst (wa_k (we_fn F__law_bent_line (hr.mono (by decide)) (wa_k (we_v 0) (wa_k (we_ix ix_seq (we_v 1) (we_v 2) (fun _ _=>rfl)) wa_nil))) wa_nil))) (we_slice (sl_listN K) (we_v 1) (wo_some (we_op op_add (we_v 2) we_int)) wo_none))))))))),?_⟩
    have hpos:0<rs.length:=List.length_pos_iff.mpr hn
    have na:a≠p:=tp.neL ha
    refine ⟨_,rfl,_,rfl,?_⟩
    refine rlL ha ?_
    rw [List.length_map,List.length_map]
    refine sp_pick_i (n:=n+19) tp (by omega) (bitsle (Nat.lt_of_le_of_lt (show ((rs.length:Nat):Int).natAbs≤300 by omega) (by decide))) fun x2 H2 a2 b2 F2 s2=>?_
    obtain ⟨at2,rfl⟩:∃ b:Nat,x2=(b:Int):=⟨x2.toNat,by omega⟩
    have hat:at2<rs.length:=by omega
    have e2:=s2.at na ha
    refine ⟨_,rfl,?_⟩
    refine sp_pick_i (n:=n+18) F2 (by decide) (by decide +kernel) fun x3 H3 a3 b3 F3 s3=>?_
    have e3:=s3.at na e2
    have S3:=s2.trans s3
    obtain ⟨ri,hri⟩:∃ ri,rs[at2]?=some ri:=⟨_,List.getElem?_eq_getElem hat⟩
    have okri:=ok ri (List.mem_of_getElem? hri)
    have hix:atI (lnV rs) ((at2:Nat):Int)=some (.str (lnOf ri)):=atI_nat (by rw [List.getElem?_map,List.getElem?_map,hri]; rfl)
    have c1:cutV (lnV rs) none (some ((at2:Nat):Int))=lnV (rs.take at2):=by rw [cutV_hi]; unfold lnV; rw [List.map_take,List.map_take]
    have c2:cutV (lnV rs) (some ((at2:Nat):Int)) none=lnV (rs.drop at2):=by rw [cutV_lo]; unfold lnV; rw [List.map_drop,List.map_drop]
    have c3:cutV (lnV rs) (some (((at2:Nat):Int)+1)) none=lnV (rs.drop (at2+1)):=by rw [show (((at2:Nat):Int)+1)=((at2+1:Nat):Int) by omega,cutV_lo]; unfold lnV; rw [List.map_drop,List.map_drop]
    have lt:(lnV (rs.take at2)).length=at2:=by rw [List.length_map,List.length_map,List.length_take]; omega
    have ld:∀ i,(lnV (rs.drop i)).length=rs.length - i:=fun i=>by rw [List.length_map,List.length_map,List.length_drop]
    have mt:RsOk (rs.take at2) (m+1):=fun r hr=>by have:=ok r (List.mem_of_mem_take hr); exact ⟨this.1,by omega⟩
    have md:∀ i,RsOk (rs.drop i) (m+1):=fun i r hr=>by have:=ok r (List.mem_of_mem_drop hr); exact ⟨this.1,by omega⟩
    have cat:∀ {x y:List (List Str)},RsOk x (m+1)→RsOk y (m+1)→RsOk (x++y) (m+1):=fun h1 h2 r hr=>(List.mem_append.mp hr).elim (h1 r) (h2 r)
    have mi1:RsOk [ri] (m+1):=fun r hr=>by rw [List.mem_singleton.mp hr]; exact ⟨okri.1,by omega⟩
    have lnA:∀ x y:List (List Str),lnV x++lnV y=lnV (x++y):=fun x y=>by unfold lnV; rw [List.map_append,List.map_append]
    refine ⟨_,rfl,rfl,_,rfl,?_⟩
    by_cases x0:x3=0
    · refine iteTe (decide_eq_true (by rw [x0])) ?_
      refine ⟨_,rfl,_,rfl,_,rfl,?_⟩
      refine slL e3 c1 fun q9 H9 hq9 e9 s9=>?_
      refine ⟨_,rfl,_,rfl,_,_,rfl,rfl,_,rfl,?_⟩
      refine slL (s9 _ _ e3) c3 fun q10 H10 hq10 e10 s10=>?_
      refine catL (s10 _ _ e9) e10 (by rw [lt,ld]; omega) fun q11 H11 hq11 e11 s11=>?_
      have S11:=(s9.trans s10).trans s11
      rw [lnA] at e11
      exact k _ q11 H11 ((F3.same S11).less (by omega)) (S3.trans S11.but) e11 (cat mt (md _)) (by rw [List.length_append,List.length_take,List.length_drop]; omega)
    refine iteFe (decide_eq_false fun z=>x0 (by injection z)) ?_
    refine ⟨_,rfl,rfl,_,rfl,?_⟩
    by_cases x1:x3=1
    · refine iteTe (decide_eq_true (by rw [x1])) ?_
      refine ⟨_,rfl,_,rfl,_,rfl,?_⟩
      refine slL e3 c1 fun q9 H9 hq9 e9 s9=>?_
      refine ⟨_,rfl,_,rfl,?_⟩
      refine ixL (s9 _ _ e3) hix ?_
      refine nwL (by show 1≤64; decide) fun qa Ha hqa ea sa=>?_
      have ea:Ha qa=some (.lst (lnV [ri])):=ea
      refine catL (sa _ _ e9) ea (by rw [lt]; show at2+1≤_; omega) fun qb Hb hqb eb sb'=>?_
      rw [lnA] at eb
      have Sb:=(s9.trans sa).trans sb'
      refine ⟨_,rfl,_,rfl,_,rfl,?_⟩
      refine slL (Sb _ _ e3) c2 fun q10 H10 hq10 e10 s10=>?_
      refine catL (s10 _ _ eb) e10 (by rw [← lnA,List.length_append,lt,ld]; show at2+1+_≤_; omega) fun q11 H11 hq11 e11 s11=>?_
      rw [lnA] at e11
      have S11:=(Sb.trans s10).trans s11
      exact k _ q11 H11 ((F3.same S11).less (by omega)) (S3.trans S11.but) e11 (cat (cat mt mi1) (md _)) (by rw [List.length_append,List.length_append,List.length_take,List.length_drop]; show _+1+_≤_; omega)
    refine iteFe (decide_eq_false fun z=>x1 (by injection z)) ?_
    refine ⟨_,rfl,rfl,_,rfl,?_⟩
    by_cases x2:x3=2
    · refine iteTe (decide_eq_true (by rw [x2])) ?_
      refine ⟨_,rfl,_,rfl,_,rfl,?_⟩
      refine slL e3 c2 fun q9 H9 hq9 e9 s9=>?_
      refine ⟨_,rfl,_,rfl,_,rfl,?_⟩
      refine slL (s9 _ _ e3) c1 fun q10 H10 hq10 e10 s10=>?_
      refine catL (s10 _ _ e9) e10 (by rw [lt,ld]; omega) fun q11 H11 hq11 e11 s11=>?_
      have S11:=(s9.trans s10).trans s11
      rw [lnA] at e11
      exact k _ q11 H11 ((F3.same S11).less (by omega)) (S3.trans S11.but) e11 (cat (md _) mt) (by rw [List.length_append,List.length_take,List.length_drop]; omega)
    refine iteFe (decide_eq_false fun z=>x2 (by injection z)) ?_
    refine ⟨_,rfl,_,rfl,_,rfl,?_⟩
    refine slL e3 c1 fun q9 H9 hq9 e9 s9=>?_
    refine ⟨_,rfl,_,rfl,_,rfl,?_⟩
    refine ixL (s9 _ _ e3) hix ?_
    refine sp_bline_i (n:=n+8) (F3.same s9) okri.1 okri.2 h40 fun r' Hc Fc sc okr' hr'=>?_
    have n9:q9≠p:=F3.ne hq9
    refine nwL (by show 1≤64; decide) fun qa Ha hqa ea sa=>?_
    have ea:Ha qa=some (.lst (lnV [r'])):=ea
    refine catL (sa _ _ (sc.at n9 e9)) ea (by rw [lt]; show at2+1≤_; omega) fun qb Hb hqb eb sb'=>?_
    rw [lnA] at eb
    have Sb:SameBut p H3 Hb:=((s9.but.trans sc).trans sa.but).trans sb'.but
    have Fb:=(Fc.same sa).same sb'
    refine ⟨_,rfl,_,rfl,_,_,rfl,rfl,_,rfl,?_⟩
    refine slL (Sb.at na e3) c3 fun q10 H10 hq10 e10 s10=>?_
    refine catL (s10 _ _ eb) e10 (by rw [← lnA,List.length_append,lt,ld]; show at2+1+_≤_; omega) fun q11 H11 hq11 e11 s11=>?_
    rw [lnA] at e11
    have S11:=s10.trans s11
    have mi2:RsOk [r'] (m+1):=fun r hr=>by rw [List.mem_singleton.mp hr]; exact ⟨okr',hr'⟩
    exact k _ q11 H11 ((Fb.same S11).less (by omega)) ((S3.trans Sb).trans S11.but) e11 (cat (cat mt mi2) (md _)) (by rw [List.length_append,List.length_append,List.length_take,List.length_drop]; show _+1+_≤_; omega)
end
end Kw
set_option Elab.async false
set_option linter.all false
set_option maxRecDepth 100000
set_option exponentiation.threshold 5000
namespace L2
open PySem PySem.W PySem.Spec PySem.Calls PyProof.Rows
mutual
def bigP:PyData→Prop
  | .none=>True
  | .bool _=>True
  | .int i=>i.natAbs<10^4300
  | .str _=>True
  | .tuple xs=>bigPs xs
  | .list _=>False
  | .dict _=>False
def bigPs:List PyData→Prop
  | []=>True
  | x::xs=>bigP x∧bigPs xs
end
mutual
def bigW:PyData→Nat
  | .none=>10
  | .bool _=>10
  | .int _=>4310
  | .str x=>(PyData.shown (.str x)).length
  | .tuple xs=>bigWs xs+4
  | .list _=>0
  | .dict _=>0
def bigWs:List PyData→Nat
  | []=>0
  | x::xs=>bigW x+2+bigWs xs
end
mutual
theorem big_le:∀ d:PyData,bigP d→d.shown.length≤bigW d
  | .none,_=>by simp only [PyData.shown,bigW]; decide
  | .bool b,_=>by cases b <;> (simp only [PyData.shown,bigW]; decide)
  | .int i,h=>by
    simp only [PyData.shown,bigW]
    unfold bigP at h
    rw [PySem.ofString_length]
    exact Nat.le_trans (int_text_length_le10 (k:=4300) (by decide) h) (by decide)
  | .str x,_=>by simp only [bigW]; exact Nat.le_refl _
  | .tuple xs,h=>by
    unfold bigP at h
    have h1:=bigs_le xs h
    have h2:=tupleText_le (PyData.shownAll xs)
    simp only [PyData.shown,bigW]
    omega
  | .list _,h=>by unfold bigP at h; exact h.elim
  | .dict _,h=>by unfold bigP at h; exact h.elim
theorem bigs_le:∀ ds:List PyData,bigPs ds→piled (PyData.shownAll ds)≤bigWs ds
  | [],_=>by simp only [PyData.shownAll,bigWs]; exact Nat.le_refl _
  | d::ds,h=>by
    unfold bigPs at h
    have h1:=big_le d h.1
    have h2:=bigs_le ds h.2
    simp only [PyData.shownAll,bigWs,piled_cons]
    omega
end
section
variable {prog:Program} {w:World} {g₀:Heap}
mutual
theorem big_repr (nd:g₀.NoDigits):∀ {v:Value} {d:PyData} {l:List Addr},Reads g₀ v d l→bigP d→d.shown.length≤sizeLine→∃ m,ReadAtMost g₀ d.depth m∧ReprK prog w m g₀ d.depth v d.shown
  | _,_,_,.none,_,_=>⟨[],(fun _ z=>by cases z),by simp only [PyData.shown]; exact ReprK.of_is ReprIs.none _ _ _⟩
  | _,_,_,.bool b,_,_=>⟨[],(fun _ z=>by cases z),by simp only [PyData.shown]; exact ReprK.of_is (ReprIs.bool b) _ _ _⟩
  | _,_,_,.int i t,h,_=>⟨[],(fun _ z=>by cases z),by simp only [PyData.shown]; unfold bigP at h; exact reprK_intB t nd h _ _⟩
  | _,_,_,.str x t,_,z=>⟨[],(fun _ z=>by cases z),by simp only [PyData.shown] at z ⊢; exact ReprK.of_is (ReprIs.str x t z) _ _ _⟩
  | _,_,_,.list ..,h,_=>by unfold bigP at h; exact h.elim
  | _,_,_,.dict ..,h,_=>by unfold bigP at h; exact h.elim
  | _,_,_,.tuple (a:=q) (xs:=ys) e1 e2 e3 e4,h,z=>by
    have R:Reads g₀ (.ref q) (.tuple ys) _:=.tuple e1 e2 e3 e4
    unfold bigP at h
    have z2:(tupleText (PyData.shownAll ys)).length≤sizeLine:=by simp only [PyData.shown] at z; exact z
    obtain ⟨m,m1,m2⟩:=big_reprs nd e4 h fun u hu=>Nat.le_trans (tupleText_mem_le hu) z2
    have dd:PyData.depthAll ys<(PyData.tuple ys).depth:=by simp only [PyData.depth]; exact Nat.lt_succ_self _
    refine ⟨q::m,ReadAtMost.cons R (Nat.le_of_lt dd) m1,?_⟩
    simp only [PyData.depth,PyData.shown]
    exact ReprK.tuple e1 e2 e3 (not_mem_of_deeper R dd m1) m2
theorem big_reprs (nd:g₀.NoDigits):∀ {vs:List Value} {ds:List PyData} {l:List Addr},ReadsAll g₀ vs ds l→bigPs ds→(∀ u∈PyData.shownAll ds,u.length≤sizeLine)→∃ m,ReadAtMost g₀ (PyData.depthAll ds) m∧ReprAllK prog w m g₀ (PyData.depthAll ds) vs (PyData.shownAll ds)
  | _,_,_,.nil,_,_=>⟨[],(fun _ z=>by cases z),by simp only [PyData.shownAll]; exact .nil⟩
  | _,_,_,.cons (d:=x) (ds:=xs) r rs,h,z=>by
    unfold bigPs at h
    simp only [PyData.shownAll] at z ⊢
    obtain ⟨m,m1,m2⟩:=big_repr nd r h.1 (z _ (List.mem_cons_self ..))
    obtain ⟨n,n1,n2⟩:=big_reprs nd rs h.2 fun u hu=>z u (List.mem_cons_of_mem _ hu)
    have a1:x.depth≤PyData.depthAll (x::xs):=by simp only [PyData.depthAll]; exact Nat.le_max_left ..
    have a2:PyData.depthAll xs≤PyData.depthAll (x::xs):=by simp only [PyData.depthAll]; exact Nat.le_max_right ..
    exact ⟨m++n,(m1.mono a1).append (n1.mono a2),.cons ((m2.more fun b hb=>List.mem_append_left _ hb).level_le a1) (n2.more_le (fun b hb=>List.mem_append_right _ hb) a2)⟩
end
end
section
variable {X:Cx}
@[irreducible] def rReprG:List V→Hp→VK→Prop:=fun xs H Q=>∃ x ds,xs=[x]∧Rep H (.tuple ds) x∧bigPs ds∧PyData.depthAll ds≤50∧bigWs ds+4≤sizeLine∧Q (.str (PyData.shown (.tuple ds))) H
theorem rrG {H:Hp} {Q:VK} {x:V} {ds:List PyData} (r:Rep H (.tuple ds) x) (h:bigPs ds) (hd:PyData.depthAll ds≤50) (hw:bigWs ds+4≤sizeLine) (q:Q (.str (PyData.shown (.tuple ds))) H):rReprG [x] H Q:=by
  unfold rReprG; exact ⟨x,ds,rfl,r,h,hd,hw,q⟩
theorem cl_reprG (nd:NoDig X.K) (hg:X.A.guards=some []) (hu:X.A.units+64<cLine):CallR X (.builtin "repr") rReprG:=by
  unfold rReprG
  intro pins s σ H xs us Q I r h
  obtain ⟨x,ds,rfl,hr,hb,hd,hw,q⟩:=h
  obtain ⟨u,rfl,ru⟩:=vals1 r
  obtain ⟨as,rd⟩:=hr.reads I ru
  have NN:=nd.at I.kIn
  have hz:(tupleText (PyData.shownAll ds)).length≤sizeLine:=by
    have h1:=bigs_le ds hb
    have h2:=tupleText_le (PyData.shownAll ds)
    omega
  cases rd with
  | tuple e1 e2 e3 e4 =>
    obtain ⟨m,m1,m2⟩:=big_reprs (prog:=X.prog) (w:=X.w) NN e4 hb fun t ht=>Nat.le_trans (tupleText_mem_le ht) hz
    have dd:PyData.depthAll ds<(PyData.tuple ds).depth:=by simp only [PyData.depth]; exact Nat.lt_succ_self _
    have hna:=not_mem_of_deeper (.tuple e1 e2 e3 e4) dd m1
    refine call_repr_slot (by omega) ⟨_,e1,e2⟩ F.slot_tuple_repr ?_
    refine call_tuple_reprK (A:=X.A.in1) e1 e2 e3 hna m2 hg (fun b _=>Clear.nil b) (by show X.A.units+1+(PyData.depthAll ds+1)<cLine; omega) (fun _ _ e=>e) (fun h' u tk hk=>?_) hz
    refine ⟨_,_,rfl,⟨.str _,H,I.kept hk,⟨_,rfl⟩,?_⟩⟩
    simp only [PyData.shown] at q
    exact q
end
end L2
set_option Elab.async false
set_option linter.all false
set_option maxRecDepth 100000
set_option exponentiation.threshold 5000
namespace Kw
open PySem L2 Mf Mt
theorem bigWs_le {w:Nat}:∀ {ds:List PyData},(∀ d∈ds,bigW d≤w)→bigWs ds≤ds.length*(w+2)
  | [],_=>by unfold bigWs; exact Nat.zero_le _
  | d::ds,h=>by
    have h1:=h d (List.mem_cons_self ..)
    have h2:=bigWs_le fun x hx=>h x (List.mem_cons_of_mem d hx)
    unfold bigWs
    rw [List.length_cons,Nat.add_mul,Nat.one_mul]; omega
theorem bigPs_of:∀ {ds:List PyData},(∀ d∈ds,bigP d)→bigPs ds
  | [],_=>by unfold bigPs; trivial
  | d::ds,h=>by
    unfold bigPs
    exact ⟨h d (List.mem_cons_self ..),bigPs_of fun x hx=>h x (List.mem_cons_of_mem d hx)⟩
structure Bg (n w:Nat) (d:PyData):Prop where
  p:bigP d
  w:bigW d≤w
  s:Shp n d
theorem Bg.tup {n w k:Nat} {ds:List PyData} (h:∀ d∈ds,Bg n w d) (hl:ds.length≤k):Bg (n+1) (k*(w+2)+4) (.tuple ds):=by
  refine ⟨?_,?_,Shp.tup fun d hd=>(h d hd).s⟩
  · unfold bigP; exact bigPs_of fun d hd=>(h d hd).p
  · unfold bigW
    have h1:=bigWs_le fun d hd=>(h d hd).w
    have:=Nat.mul_le_mul_right (w+2) hl
    omega
theorem Bg.le {n w m v:Nat} {d:PyData} (h:Bg n w d) (hn:n≤m) (hw:w≤v):Bg m v d:=⟨h.p,Nat.le_trans h.w hw,⟨h.s.1,Nat.le_trans h.s.2 hn⟩⟩
theorem Bg.int {x:Int} (h:x.natAbs<10^4000):Bg 1 4310 (.int x):=by
  refine ⟨?_,?_,Shp.int x⟩
  · unfold bigP
    exact Nat.lt_of_lt_of_le h (Nat.pow_le_pow_right (by decide) (by decide))
  · unfold bigW; exact Nat.le_refl _
theorem lg_small {t:Str} (h:lgB t=true):val t<10^4000:=by
  obtain ⟨w1,w2,w3⟩:=lgB_len h
  have h1:val t<10^t.length:=by
    have:=dv_lt (figs_all w2)
    rw [len_toList] at this
    exact this
  exact Nat.lt_of_lt_of_le h1 (Nat.pow_le_pow_right (by decide) w1)
theorem lgN_small {t:Str} {n:Nat} (h:lgN t=some n):n<10^4000:=by
  unfold lgN at h
  by_cases z:lgB t=true
  · rw [if_pos z] at h
    injection h with h
    rw [← h]; exact lg_small z
  · rw [if_neg z] at h; cases h
theorem sg_small {b:Bool} {n:Nat} (h:n<10^4000):(sg b n).natAbs<10^4000:=by
  unfold sg
  cases b
  · rw [if_neg (by decide),Int.natAbs_natCast]; exact h
  · rw [if_pos rfl,Int.natAbs_neg,Int.natAbs_natCast]; exact h
theorem p4000:1<10^4000:=Nat.lt_of_lt_of_le (show 1<10^1 by decide) (Nat.pow_le_pow_right (by decide) (by decide))
theorem rdT_small {t:Str} {f:Fr} (h:rdT t=some f):f.1.natAbs<10^4000∧f.2.natAbs<10^4000:=by
  rw [← lfr_eq] at h
  unfold lfr at h
  match hw:(words (fg t)).map lgN with
  | []=>rw [hw] at h; cases h
  | [none]=>rw [hw] at h; cases h
  | [some n] =>
    rw [hw] at h
    have hn:n<10^4000:=by
      obtain ⟨u,_,hu⟩:=List.mem_map.mp (show some n∈(words (fg t)).map lgN by rw [hw]; simp)
      exact lgN_small hu
    have h:(if neg t=true∧n=0 then none else some (sg (neg t) n,1))=some f:=h
    by_cases z:neg t=true∧n=0
    · rw [if_pos z] at h; cases h
    · rw [if_neg z] at h
      injection h with h
      rw [← h]
      exact ⟨sg_small hn,p4000⟩
  | [some n,some d] =>
    rw [hw] at h
    have hn:n<10^4000:=by
      obtain ⟨u,_,hu⟩:=List.mem_map.mp (show some n∈(words (fg t)).map lgN by rw [hw]; simp)
      exact lgN_small hu
    have hd:d<10^4000:=by
      obtain ⟨u,_,hu⟩:=List.mem_map.mp (show some d∈(words (fg t)).map lgN by rw [hw]; simp)
      exact lgN_small hu
    have h:(if (neg t=true∧n=0)∨d=0∨d=1∨Nat.gcd n d≠1 then none else some (sg (neg t) n,(d:Int)))=some f:=h
    by_cases z:(neg t=true∧n=0)∨d=0∨d=1∨Nat.gcd n d≠1
    · rw [if_pos z] at h; cases h
    · rw [if_neg z] at h
      injection h with h
      rw [← h]
      exact ⟨sg_small hn,by rw [Int.natAbs_natCast]; exact hd⟩
  | [some n,none]=>rw [hw] at h; cases h
  | [none,o]=>rw [hw,lfF_no (by simp)] at h; cases h
  | x::y::z::r=>rw [hw,lfF_long (by simp)] at h; cases h
theorem Bg.fr {f:Fr} (h:f.1.natAbs<10^4000∧f.2.natAbs<10^4000):Bg 2 8628 (frD f):=(Bg.tup (n:=1) (w:=4310) (k:=2) (fun d hd=>by
  simp only [List.mem_cons,List.not_mem_nil,or_false] at hd
  rcases hd with rfl | rfl
  · exact Bg.int h.1
  · exact Bg.int h.2) (Nat.le_refl _)).le (Nat.le_refl _) (by decide)
theorem rdE_big {F W:Nat} {r:List Str} {e:Ent} (f4:F≤4) (w4:W≤4) (h:rdE F W r=some e):Bg 4 86316 (enD e):=by
  unfold rdE at h
  cases hc:rdC ((r.drop 1).take F) F with
  | none=>rw [hc] at h; cases h
  | some cs =>
    cases hs:rdFs (r.drop (F+2)) (1+W) with
    | none=>rw [hc,hs] at h; cases h
    | some fs =>
      rw [hc,hs] at h
      have h:(if r[0]?=some wOn∧r[F+1]?=some wSay then some (cs,fs) else none)=some e:=h
      by_cases z:r[0]?=some wOn∧r[F+1]?=some wSay
      · rw [if_pos z] at h
        injection h with h
        subst h
        obtain ⟨l1,l2⟩:=rdC_len hc
        have l3:=rdFs_len hs
        have hC:∀ x∈cs,x.natAbs<10^4000:=fun x hx=>by
          rw [rdC_eq l1] at hc
          by_cases q:((r.drop 1).take F).all lgB=true
          · rw [if_pos q] at hc
            injection hc with hc
            rw [← hc] at hx
            obtain ⟨t,ht,rfl⟩:=List.mem_map.mp hx
            rw [Int.natAbs_natCast]
            exact lg_small (List.all_eq_true.mp q t ht)
          · rw [if_neg q] at hc; cases hc
        have hS:rdS (r.drop (F+2))=some fs:=by unfold rdFs at hs; rw [if_pos l3] at hs; exact hs
        have all2:∀ t∈r.drop (F+2),(rdT t).isSome=true:=fun t ht=>by
          cases z:rdT t with
          | some g=>rfl
          | none=>rw [rdS_none ht z] at hS; cases hS
        have efs:fs=(r.drop (F+2)).map fun t=>(rdT t).getD (0,1):=by
          have:=rdS_some all2
          rw [hS] at this
          injection this
        have hF:∀ f∈fs,f.1.natAbs<10^4000∧f.2.natAbs<10^4000:=fun f hf=>by
          rw [efs] at hf
          obtain ⟨t,ht,rfl⟩:=List.mem_map.mp hf
          obtain ⟨g,hg⟩:=Option.isSome_iff_exists.mp (all2 t ht)
          rw [hg]
          exact rdT_small hg
        have lf:fs.length=1+W:=by rw [efs,List.length_map]; exact l3
        refine (Bg.tup (n:=3) (w:=43154) (k:=2) (fun d hd=>?_) (Nat.le_refl _)).le (Nat.le_refl _) (by decide)
        simp only [List.mem_cons,List.not_mem_nil,or_false] at hd
        rcases hd with rfl | rfl
        · refine (Bg.tup (n:=1) (w:=4310) (k:=4) (fun d hd=>?_) (by rw [List.length_map]; omega)).le (by decide) (by decide)
          obtain ⟨x,hx,rfl⟩:=List.mem_map.mp hd
          exact Bg.int (hC x hx)
        · refine (Bg.tup (n:=2) (w:=8628) (k:=5) (fun d hd=>?_) (by rw [List.length_map]; omega)).le (Nat.le_refl _) (by decide)
          obtain ⟨f,hf,rfl⟩:=List.mem_map.mp hd
          exact Bg.fr (hF f hf)
      · rw [if_neg z] at h; cases h
theorem ens_big {F W:Nat} (f4:F≤4) (w4:W≤4):∀ (rs:List (List Str)),∀ e∈ens F W rs,Bg 4 86316 (enD e)
  | [],e,h=>by cases h
  | r::rs,e,h=>by
    unfold ens at h
    cases hE:rdE F W r with
    | none=>rw [hE] at h; cases h
    | some e' =>
      rw [hE] at h
      rcases List.mem_cons.mp h with rfl | h
      · exact rdE_big f4 w4 hE
      · exact ens_big f4 w4 rs e h
def duL:Except Nat (List Ent)→List PyData
  | .error k=>[.str (Str.ofString "none"),.int (k:Int)]
  | .ok es=>[.str (Str.ofString "rule"),ruD es]
theorem duD_eq (x:Except Nat (List Ent)):duD x=.tuple (duL x):=by cases x <;> rfl
theorem str_big {t:Str} (h:lowS t) (hw:(PyData.shown (.str t)).length≤10):Bg 1 10 (.str t):=by
  refine ⟨?_,?_,Shp.str h⟩
  · unfold bigP; trivial
  · unfold bigW; exact hw
theorem du_big {rs:List (List Str)} (hl:rs.length≤90):bigPs (duL (rdR rs))∧PyData.depthAll (duL (rdR rs))≤50∧bigWs (duL (rdR rs))+4≤sizeLine:=by
  have key:∀ d∈duL (rdR rs),Bg 5 7768624 d:=by
    have er:∀ k:Nat,k≤1000→∀ d∈duL (.error k),Bg 5 7768624 d:=fun k hk d hd=>by
      simp only [duL,List.mem_cons,List.not_mem_nil,or_false] at hd
      rcases hd with rfl | rfl
      · exact (str_big (by unfold lowS; decide +kernel) (by decide +kernel)).le (by decide) (by decide)
      · refine (Bg.int ?_).le (by decide) (by decide)
        rw [Int.natAbs_natCast]
        exact Nat.lt_of_le_of_lt hk (Nat.lt_of_lt_of_le (show 1000<10^4 by decide) (Nat.pow_le_pow_right (by decide) (by decide)))
    unfold rdR
    cases hh:hdR rs with
    | none=>exact er 0 (by decide)
    | some p =>
      obtain ⟨F,W⟩:=p
      obtain ⟨f2,f4,w2,w4⟩:=hdR_in hh
      have le:=ens_le F W (rs.drop 1)
      rw [List.length_drop] at le
      show ∀ d∈duL (if 1+(ens F W (rs.drop 1)).length<rs.length then .error (1+(ens F W (rs.drop 1)).length) else .ok (ens F W (rs.drop 1))),Bg 5 7768624 d
      by_cases z:1+(ens F W (rs.drop 1)).length<rs.length
      · rw [if_pos z]; exact er _ (by omega)
      · rw [if_neg z]
        intro d hd
        simp only [duL,List.mem_cons,List.not_mem_nil,or_false] at hd
        rcases hd with rfl | rfl
        · exact (str_big (by unfold lowS; decide +kernel) (by decide +kernel)).le (by decide) (by decide)
        · refine (Bg.tup (n:=4) (w:=86316) (k:=90) (fun d hd=>?_) (by rw [List.length_map]; omega)).le (Nat.le_refl _) (by decide)
          obtain ⟨e,he,rfl⟩:=List.mem_map.mp hd
          exact ens_big f4 w4 _ e he
  refine ⟨bigPs_of fun d hd=>(key d hd).p,Nat.le_trans (Shp.all fun d hd=>(key d hd).s).2 (by decide),?_⟩
  have h1:=bigWs_le fun d hd=>(key d hd).w
  have h2:(duL (rdR rs)).length=2:=by cases rdR rs <;> rfl
  rw [h2] at h1
  have h3:(2:Nat)*(7768624+2)+4≤sizeLine:=by decide
  omega
end Kw
set_option Elab.async false
set_option linter.all false
set_option maxRecDepth 100000
namespace Kw
open PySem L2 Mf Mt
theorem strs_eqv:∀ ts:List Str,PyData.eqvAll (ts.map PyData.str) (ts.map PyData.str)=true
  | []=>by simp [PyData.eqvAll]
  | t::ts=>by
    rw [List.map_cons]
    show (PyData.eqv (.str t) (.str t)&&PyData.eqvAll _ _)=true
    rw [strs_eqv ts]
    show ((t == t)&&true)=true
    simp
theorem le_sum37:∀ {ns:List Int},(∀ x∈ns,0≤x)→∀ x∈ns,x≤ns.sum
  | [],_,x,hx=>by cases hx
  | n::ns,h,x,hx=>by
    have h0:=h n (List.mem_cons_self ..)
    have hs:0≤ns.sum:=by
      clear hx
      have h':=fun x hx=>h x (List.mem_cons_of_mem n hx)
      clear h h0
      induction ns with
      | nil=>simp
      | cons m ns ih =>
        have:=ih fun x hx=>h' x (List.mem_cons_of_mem _ hx)
        have:=h' m (List.mem_cons_self ..)
        rw [List.sum_cons]; omega
    rw [List.sum_cons]
    rcases List.mem_cons.mp hx with rfl | hx
    · omega
    · have:=le_sum37 (fun x hx=>h x (List.mem_cons_of_mem n hx)) x hx
      omega
theorem RuOk.en {F W M:Nat} {es:List Ent} (h:RuOk F W M es) (Z:SzOk F W M):∀ e∈es,EnT F W e:=fun e he=>by
  obtain ⟨h1,h2,h3,h4⟩:=h.each e he
  have hM:M≤4:=by have:=Z.f; omega
  have w4:=Z.w
  refine ⟨h1,h4.len,fun x hx=>⟨h2 x hx,?_⟩,fun f hf=>?_⟩
  · have:=le_sum37 h2 x hx
    have:=h2 x hx
    exact Nat.lt_of_le_of_lt (show x.natAbs≤4 by omega) (by decide)
  · obtain ⟨ns,g1,g2,g3,g4⟩:=h4.ex
    rw [g4] at hf
    obtain ⟨x,hx,rfl⟩:=List.mem_map.mp hf
    have b:=sum_le7 g2
    obtain ⟨l1,l2⟩:=lw_le (n:=x) g3
    have:=g2 x hx
    have lo:=lw_low (n:=x) g3
    have lp:=lo.pos
    exact ⟨lo,Nat.lt_of_le_of_lt (show (lw x ns.sum).1.natAbs≤7 by omega) (by decide),Nat.lt_of_le_of_lt (show (lw x ns.sum).2.natAbs≤35 by omega) (by decide)⟩
theorem sqL_keep {K:PySem.W.Frag} {H H':Hp} {a:Addr} {xs:List V} (s:Same H H') (h:SqL K H a xs):SqL K H' a xs:=by
  rcases h with (h | ⟨o,h⟩) | h
  · exact .inl (.inl (s _ _ h))
  · exact .inl (.inr ⟨o,s _ _ h⟩)
  · exact .inr h
def tupL:Nat→List Int→List (List Int)
  | 0,_=>[[]]
  | F+1,vs=>vs.flatMap fun x=>(tupL F vs).map (x :: ·)
theorem tupL_mem:∀ {F:Nat} {vs c:List Int},c.length=F→(∀ x∈c,x∈vs)→c∈tupL F vs
  | 0,vs,[],_,_=>List.mem_singleton.mpr rfl
  | 0,vs,x::c,h,_=>by cases h
  | F+1,vs,[],h,_=>by cases h
  | F+1,vs,x::c,h,hv=>List.mem_flatMap.mpr ⟨x,hv x (List.mem_cons_self ..),List.mem_map.mpr ⟨c,tupL_mem (by simpa using h) fun y hy=>hv y (List.mem_cons_of_mem _ hy),rfl⟩⟩
theorem RuOk.few37 {F W M:Nat} {es:List Ent} (h:RuOk F W M es) (Z:SzOk F W M):es.length≤81:=by
  have key:∀ (vs:List Int),(∀ x:Int,0≤x→x≤(M:Int)→x∈vs)→es.length≤(tupL F vs).length:=fun vs hv=>by
    have:=nodup_len h.nd (m:=tupL F vs) fun c hc=>by
      obtain ⟨e,he,rfl⟩:=List.mem_map.mp hc
      obtain ⟨h1,h2,h3,_⟩:=h.each e he
      refine tupL_mem h1 fun x hx=>hv x (h2 x hx) ?_
      have:=le_sum37 h2 x hx
      omega
    rw [List.length_map] at this
    exact this
  rcases Z.f with ⟨rfl,hM⟩ | ⟨rfl,hM⟩ | ⟨rfl,hM⟩
  · refine Nat.le_trans (key [0,1,2,3,4] fun x h0 h1=>?_) (by decide)
    have:x=0∨x=1∨x=2∨x=3∨x=4:=by omega
    simpa using this
  · refine Nat.le_trans (key [0,1,2,3] fun x h0 h1=>?_) (by decide)
    have:x=0∨x=1∨x=2∨x=3:=by omega
    simpa using this
  · refine Nat.le_trans (key [0,1,2] fun x h0 h1=>?_) (by decide)
    have:x=0∨x=1∨x=2:=by omega
    simpa using this
theorem tx_128 (n:Int):∀ c∈(tx n).cps.toList,c<128:=by
  intro c h
  rcases Int.lt_or_le n 0 with hn | hn
  · obtain ⟨m,rfl⟩:∃ m:Nat,n=-((m+1:Nat):Int):=⟨(-n - 1).toNat,by omega⟩
    rw [tx_neg] at h
    rcases List.mem_cons.mp h with h | h
    · omega
    · have:=dg_all _ c h; omega
  · obtain ⟨m,rfl⟩:=Int.eq_ofNat_of_zero_le hn
    rw [tx_nat] at h
    have:=dg_all _ c h
    omega
theorem TT_128 (f:Fr):∀ c∈(TT f).cps.toList,c<128:=by
  unfold TT
  split
  · exact tx_128 _
  · intro c h
    rw [app_cps,app_cps] at h
    rcases List.mem_append.mp h with h | h
    · rcases List.mem_append.mp h with h | h
      · exact tx_128 _ c h
      · have:c=47:=by simpa [sl] using h
        omega
    · exact tx_128 _ c h
theorem wd_words:WdK wOn∧WdK wSay∧WdK wRule:=by
  have h:∀ t∈[wOn,wSay,wRule],32 ∉ t.cps.toList∧t.length≤2500∧∀ c∈t.cps.toList,c<128:=by decide +kernel
  have w:∀ t∈[wOn,wSay,wRule],WdK t:=fun t ht=>wdK_short (h t ht).1 (h t ht).2.1 (h t ht).2.2
  exact ⟨w _ (by simp),w _ (by simp),w _ (by simp)⟩
theorem wdE_rw {F W:Nat} {e:Ent} (h:EnT F W e) (f4:F≤4) (w4:W≤4):RwK (wdE e)∧(wdE e).length≤11:=by
  obtain ⟨l1,l2⟩:=wdE_len h f4 w4
  refine ⟨⟨by simp [wdE],wdE_free e,by omega,fun p hp=>by have:=l2 p hp; omega,fun p hp=>?_,fun p hp=>thin_short (by have:=l2 p hp; omega)⟩,l1⟩
  rcases List.mem_cons.mp hp with rfl | hp
  · exact wd_words.1.lo
  rcases List.mem_append.mp hp with hp | hp
  · obtain ⟨x,_,rfl⟩:=List.mem_map.mp hp
    exact tx_128 x
  rcases List.mem_cons.mp hp with rfl | hp
  · exact wd_words.2.1.lo
  · obtain ⟨x,_,rfl⟩:=List.mem_map.mp hp
    exact TT_128 x
theorem wdH_rw {F W:Nat} (f4:F≤4) (w4:W≤4):RwK (wdH F W)∧(wdH F W).length≤11:=by
  obtain ⟨l1,l2⟩:=wdH_len f4 w4
  refine ⟨⟨by simp [wdH],wdH_free F W,by omega,fun p hp=>by have:=l2 p hp; omega,fun p hp=>?_,fun p hp=>thin_short (by have:=l2 p hp; omega)⟩,l1⟩
  simp only [wdH,List.mem_cons,List.not_mem_nil,or_false] at hp
  rcases hp with rfl | rfl | rfl
  · exact wd_words.2.2.lo
  · exact tx_128 _
  · exact tx_128 _
def gR (F W:Nat) (es:List Ent):List (List Str):=wdH F W::es.map wdE
theorem gR_ln (F W:Nat) (es:List Ent):(lnR F W es).map V.str=lnV (gR F W es):=by
  unfold lnR gR lnV
  rw [List.map_cons,List.map_cons,List.map_cons,List.map_map (f:=wdE)]
  rfl
theorem gR_ok {F W:Nat} {es:List Ent} (h:∀ e∈es,EnT F W e) (f4:F≤4) (w4:W≤4):RsOk (gR F W es) 11:=fun r hr=>by
  rcases List.mem_cons.mp hr with rfl | hr
  · exact wdH_rw f4 w4
  · obtain ⟨e,he,rfl⟩:=List.mem_map.mp hr
    exact wdE_rw (h e he) f4 w4
def LnAt (H:Hp) (v:V):Prop:=∃ (q:Addr) (rs:List (List Str)),v=.ref q∧H q=some (.lst (lnV rs))∧(∀ r∈rs,RwK r)∧rs.length≤90
theorem LnAt.same {H H':Hp} {v:V} (h:LnAt H v) (s:Same H H'):LnAt H' v:=by
  obtain ⟨q,rs,h1,h2,h3⟩:=h
  exact ⟨q,rs,h1,s _ _ h2,h3⟩
theorem fix_rw {rs:List (List Str)} (h:∀ r∈rs,r≠[]∧r.length≤40∧∀ t∈r,32 ∉ t.cps.toList∧t.length≤2500∧∀ c∈t.cps.toList,c<128):∀ r∈rs,RwK r:=fun r hr=>by
  obtain ⟨h1,h2,h3⟩:=h r hr
  exact rwK_of h1 h2 fun t ht=>wdK_short (h3 t ht).1 (h3 t ht).2.1 (h3 t ht).2.2
theorem fix_at {H:Hp} {q:Addr} {t:Str} (rs:List (List Str)) (e:H q=some (.lst [.str t])) (ht:[t]=rs.map lnOf) (h:∀ r∈rs,r≠[]∧r.length≤40∧∀ t∈r,32 ∉ t.cps.toList∧t.length≤2500∧∀ c∈t.cps.toList,c<128):LnAt H (.ref q):=by
  refine ⟨q,rs,rfl,?_,fix_rw h,?_⟩
  · rw [e]; unfold lnV; rw [← ht]; rfl
  · have:=congrArg List.length ht
    rw [List.length_map] at this
    have:rs.length=1:=this.symm
    omega
end Kw
set_option Elab.async false
set_option linter.all false
set_option maxRecDepth 100000
namespace Kw
open PySem L2 Mf Mt
abbrev s_law:Stmt:=(top 54)
theorem sc_law:FnScope ["_law_script", "_law_fixed", "_law_lines_here", "_law_k", "_law_tape_here", "_law_faces", "_law_ways", "_law_most", "_law_rule_here", "_law_good", "_law_bent_here", "_law_texts", "_law_kept"] ["_law_script"] (defScope s_law):=⟨rfl,rfl,rfl,by decide +kernel,rfl,by decide +kernel,by decide +kernel⟩
section
variable {P:Program} {w:World} {K:PySem.W.Frag} {mg:Str→Option Value} {base:Heap} {c:Cl}
set_option maxHeartbeats 8000000 in
theorem ok_law {f:Addr} {fd:FuncData} (F:Fun K "law" "law" s_law f fd) (T:Txt K mg c)
    (F__law_tape:FnC CX0 P w K mg base 1 "_law_tape" ["_law_script", "_law_at"] (sp_tape K)) (F__law_pick:FnC CX0 P w K mg base 1 "_law_pick" ["_law_tape_here", "_law_many"] sp_pick) (F__law_sizes:FnC CX0 P w K mg base 2 "_law_sizes" ["_law_tape_here"] sp_sizes)
    (F__law_rule:FnC CX0 P w K mg base 4 "_law_rule" ["_law_tape_here", "_law_faces", "_law_ways", "_law_most", "_law_plain"] sp_rule) (F__law_lines:FnC CX0 P w K mg base 2 "_law_lines" ["_law_rule_here"] sp_lln) (F__law_bent:FnC CX0 P w K mg base 3 "_law_bent" ["_law_tape_here", "_law_lines_here"] sp_bentl)
    (F__law_told:FnC CX0 P w K mg base 8 "_law_told" ["_law_lines_here"] sp_told) (F__law_due:FnC CX0 P w K mg base 4 "_law_due" ["_law_lines_here"] sp_ldue):FnOk P w K mg base CX0 9 f fd ["_law_script"] (sp_law K):=by
  refine F.okw sc_law (fun vs H Q E h=>?_) (fun cdv A outer s H vs Q E hr h=>?_)
  · unfold sp_law at h
    obtain ⟨a,ns,rfl,_⟩:=h
    rfl
  · unfold sp_law at h
    obtain ⟨a,ns,rfl,hS,hl,k⟩:=h
    refine ⟨_,(wss_cons (ws_set (i:=1) sc_law.nd rfl (Or.inl rfl) (we_lst (wa_k (we_lst wa_nil) (wa_k (we_lst (wa_k we_str wa_nil)) (wa_k (we_lst (wa_k we_str wa_nil)) (wa_k (we_lst (wa_k we_str wa_nil)) (wa_k (we_lst (wa_k we_str wa_nil)) (wa_k (we_lst (wa_k we_str wa_nil)) (wa_k (we_lst (wa_k we_str wa_nil)) (wa_k (we_lst (wa_k we_str wa_nil)) wa_nil))))))))))
      (wss_cons (ws_for PassesOwn.never rfl (wi_list (we_v 1)) (wg_name (i:=2) sc_law.nd rfl (Or.inl rfl)) (wss_one (ws_if (wt_cmp op_ne (we_cB (cl_reprG T.nd hr.gd hr.units) (by rfl) T.b_repr (by decide +kernel) (wa_k (we_fn F__law_told (hr.mono (by decide)) (wa_k (we_v 2) wa_nil)) wa_nil)) (we_cB (cl_reprG T.nd hr.gd hr.units) (by rfl) T.b_repr (by decide +kernel) (wa_k (we_fn F__law_due (hr.mono (by decide)) (wa_k (we_v 2) wa_nil)) wa_nil)) (nomark _)) (wss_one (ws_ret we_bl)) wss_nil)))
      (wss_cons (ws_for PassesOwn.never rfl (wi_range1 rfl T.b_range (wa_k (we_op op_add we_int (we_cB cl_len (by rfl) T.b_len (by decide +kernel) (wa_k (we_slice sl_list (we_v 0) wo_none (wo_some we_int)) wa_nil))) wa_nil)) (wg_name (i:=3) sc_law.nd rfl (Or.inl rfl)) (wss_cons (ws_set (i:=4) sc_law.nd rfl (Or.inl rfl) (we_fn F__law_tape (hr.mono (by decide)) (wa_k (we_v 0) (wa_k (we_v 3) wa_nil))))
      (wss_cons (ws_asg (we_fn F__law_sizes (hr.mono (by decide)) (wa_k (we_v 4) wa_nil)) (wg_tup rfl (wgs_cons (wg_name (i:=5) sc_law.nd rfl (Or.inl rfl)) (wgs_cons (wg_name (i:=6) sc_law.nd rfl (Or.inl rfl)) (wgs_cons (wg_name (i:=7) sc_law.nd rfl (Or.inl rfl)) wgs_nil)))))
      (wss_cons (ws_set (i:=8) sc_law.nd rfl (Or.inl rfl) (we_fn F__law_rule (hr.mono (by decide)) (wa_k (we_v 4) (wa_k (we_v 5) (wa_k (we_v 6) (wa_k (we_v 7) (wa_k (we_cmp op_eq (we_fn F__law_pick (hr.mono (by decide)) (wa_k (we_v 4) (wa_k we_int wa_nil))) we_int (nomark _)) wa_nil)))))))
      (wss_cons (ws_set (i:=9) sc_law.nd rfl (Or.inl rfl) (we_fn F__law_lines (hr.mono (by decide)) (wa_k (we_v 8) wa_nil)))
      (wss_cons (ws_set (i:=10) sc_law.nd rfl (Or.inl rfl) (we_fn F__law_bent (hr.mono (by decide)) (wa_k (we_v 4) (wa_k (we_v 9) wa_nil))))
      (wss_cons (ws_set (i:=11) sc_law.nd rfl (Or.inl rfl) (we_lst (wa_k (we_v 9) (wa_k (we_v 10) (wa_k (we_fn F__law_bent (hr.mono (by decide)) (wa_k (we_v 4) (wa_k (we_v 9) wa_nil))) wa_nil)))))
      (wss_cons (ws_cut (ws_if (wt_cmp (op_neD hr.units) (we_v 10) (we_lst wa_nil) (nomark _)) (wss_one (ws_expr (we_bm PySem.F.plainAttrs_list PySem.F.slot_list_append PySem.F.type_list_append mt_app (we_v 11) (wa_k (we_fn F__law_bent (hr.mono (by decide)) (wa_k (we_v 4) (wa_k (we_v 10) wa_nil))) wa_nil)))) wss_nil))
      (wss_one (ws_for PassesOwn.never rfl (wi_list (we_v 11)) (wg_name (i:=2) sc_law.nd rfl (Or.inl rfl)) (wss_cons (ws_set (i:=12) sc_law.nd rfl (Or.inl rfl) (we_cT call_list_of (by rfl) T.b_list (by decide +kernel) (wa_k (we_v 2) wa_nil)))
      (wss_one (ws_if (wt_mono (wt_w (ww_or (wt_cmp op_ne (we_cB (cl_reprG T.nd hr.gd hr.units) (by rfl) T.b_repr (by decide +kernel) (wa_k (we_fn F__law_told (hr.mono (by decide)) (wa_k (we_v 2) wa_nil)) wa_nil)) (we_cB (cl_reprG T.nd hr.gd hr.units) (by rfl) T.b_repr (by decide +kernel) (wa_k (we_fn F__law_due (hr.mono (by decide)) (wa_k (we_v 12) wa_nil)) wa_nil)) (nomark _)) (ww_or1 (wt_cmp (op_neD hr.units) (we_v 2) (we_v 12) (nomark _)))))) (wss_one (ws_ret we_bl)) wss_nil)))))))))))))
      (wss_one (ws_ret we_bl))))),?_⟩
    refine nwL (by show 0≤64; decide) fun p0 G0 hp0 y0 z0=>?_
    refine nwL (by show 1≤64; decide) fun p1 G1 hp1 y1 z1=>?_
    refine nwL (by show 1≤64; decide) fun p2 G2 hp2 y2 z2=>?_
    refine nwL (by show 1≤64; decide) fun p3 G3 hp3 y3 z3=>?_
    refine nwL (by show 1≤64; decide) fun p4 G4 hp4 y4 z4=>?_
    refine nwL (by show 1≤64; decide) fun p5 G5 hp5 y5 z5=>?_
    refine nwL (by show 1≤64; decide) fun p6 G6 hp6 y6 z6=>?_
    refine nwL (by show 1≤64; decide) fun p7 G7 hp7 y7 z7=>?_
    refine nwL (by show 8≤64; decide) fun pf G8 hpf y8 z8=>?_
    have t7:=z7.trans z8
    have t6:=z6.trans t7
    have t5:=z5.trans t6
    have t4:=z4.trans t5
    have t3:=z3.trans t4
    have t2:=z2.trans t3
    have t1:=z1.trans t2
    have t0:=z0.trans t1
    have fix:∀ v∈[V.ref p0,.ref p1,.ref p2,.ref p3,.ref p4,.ref p5,.ref p6,.ref p7],LnAt G8 v:=fun v hv=>by
      simp only [List.mem_cons,List.not_mem_nil,or_false] at hv
      rcases hv with rfl | rfl | rfl | rfl | rfl | rfl | rfl | rfl
      · exact ⟨p0,[],rfl,t1 _ _ y0,(fun r hr=>by cases hr),by decide⟩
      · exact fix_at [[""]] (t2 _ _ y1) (by decide +kernel) (by decide +kernel)
      · exact fix_at [["rule"]] (t3 _ _ y2) (by decide +kernel) (by decide +kernel)
      · exact fix_at [["rule", "2"]] (t4 _ _ y3) (by decide +kernel) (by decide +kernel)
      · exact fix_at [["rule", "2", "2"]] (t5 _ _ y4) (by decide +kernel) (by decide +kernel)
      · exact fix_at [["rule", "2", "2", ""]] (t6 _ _ y5) (by decide +kernel) (by decide +kernel)
      · exact fix_at [["rule", "02", "2"]] (t7 _ _ y6) (by decide +kernel) (by decide +kernel)
      · exact fix_at [["rule", "2", "5"]] (z8 _ _ y7) (by decide +kernel) (by decide +kernel)
    refine ⟨_,rfl,pf,rfl,⟨_,SqL.of y8⟩,?_⟩
    refine for_list (xs:=[V.ref p0,.ref p1,.ref p2,.ref p3,.ref p4,.ref p5,.ref p6,.ref p7]) (fun i σ H'=>∃ o2:Option V,σ=[some (.ref a),some (.ref pf),o2,none,none,none,none,none,none,none,none,none,none]∧Same G8 H') ⟨_,rfl,Same.refl _⟩ (fun i σ H' _ q=>?_) ?_ ?_
    · obtain ⟨_,_,s'⟩:=q
      exact SqL.of (s' _ _ y8)
    · rintro i v σ H1 hv ⟨o2,rfl,s1⟩
      obtain ⟨q,rs,rfl,eq,okr,l90⟩:=(fix v (List.mem_of_getElem? hv)).same s1
      obtain ⟨b1,b2,b3⟩:=du_big l90
      refine ⟨_,rfl,?_⟩
      refine sp_told_i eq okr (by omega) fun v2 H2 s2 r2=>?_
      rw [duD_eq] at r2
      refine rrG r2 b1 b2 b3 ?_
      refine ⟨_,rfl,?_⟩
      refine sp_ldue_i (s2 _ _ eq) okr (by omega) fun v3 H3 s3 r3=>?_
      rw [duD_eq] at r3
      refine rrG r3 b1 b2 b3 ?_
      refine ⟨rfl,_,rfl,?_⟩
      refine iteFe (by simp) ?_
      exact ⟨_,rfl,(s1.trans s2).trans s3⟩
    rintro σ H1 ⟨o2,rfl,s01⟩
    have S01:Same H H1:=t0.trans s01
    refine ⟨_,rfl,_,rfl,a,_,rfl,sqL_keep S01 hS,fun q1 h1=>?_⟩
    refine rlL upd_same ?_
    have s1:=Same.upd (o:=.lst (cutV (ns.map V.int) none (some 14))) h1
    have l19:(cutV (ns.map V.int) none (some 14)).length≤63:=by
      rw [show (some (14:Int))=some ((14:Nat):Int) from rfl,cutV_hi,List.length_take,List.length_map]; omega
    generalize upd H1 q1 (.lst (cutV (ns.map V.int) none (some 14)))=H0 at s1
    generalize (cutV (ns.map V.int) none (some 14)).length=n0 at l19
    refine ⟨_,_,rfl,rfl,_,rfl,by omega,by omega,?_⟩
    refine for_range (fun i σ H'=>∃ o1 o2 o3 o4 o5 o6 o7 o8 o9 o10 o11 o12:Option V,σ=[some (.ref a),o1,o2,o3,o4,o5,o6,o7,o8,o9,o10,o11,o12]∧Same H H') ⟨_,_,_,_,_,_,_,_,_,_,_,_,rfl,S01.trans s1⟩ ?_ ?_
    · rintro i σ H1 hi ⟨o1,o2,o3,o4,o5,o6,o7,o8,o9,o10,o11,o12,rfl,S1⟩
      refine ⟨_,rfl,_,rfl,?_⟩
      refine sp_tape_i (sqL_keep S1 hS) hl (by omega) fun p H2 T2 s2 hp2=>?_
      refine ⟨_,rfl,?_⟩
      refine sp_sizes_i (n:=999999999997) (T2.less (by omega)) fun q3 nF nW nM H3 Z T3 s3 e3=>?_
      refine ⟨q3,_,rfl,SqT.of e3,rfl,?_⟩
      refine ⟨_,_,rfl,_,_,rfl,_,_,rfl,rfl,?_⟩
      refine ⟨_,rfl,_,rfl,_,rfl,_,rfl,_,rfl,?_⟩
      refine sp_pick_i (n:=999999999996) (T3.less (by omega)) (by decide) (by decide +kernel) fun x H4 x0 x1 T4 s4=>?_
      refine ⟨rfl,?_⟩
      refine sp_rule_i (n:=1000000) (T4.less (by omega)) Z fun v es H5 T5 s5 r5 RO=>?_
      have en:=RO.en Z
      have hw:=Z.w
      have hf:2≤nF∧nF≤4:=by have:=Z.f; omega
      have hne:=RO.ne
      have few:=RO.few37 Z
      have S15:Same H1 H5:=Same.thru hp2 (Same.thru hp2 (Same.thru hp2 s2 s3) s4) s5
      refine ⟨_,rfl,?_⟩
      refine sp_lln_i r5 hne en hf.2 hw.2 (by omega) fun D6 H6 s6 hD6 e6=>?_
      rw [gR_ln] at e6
      have gok:=gR_ok en hf.2 hw.2
      have lg:(gR nF nW es).length≤82:=by unfold gR; rw [List.length_cons,List.length_map]; omega
      have gne:gR nF nW es≠[]:=by unfold gR; simp
      have T6:=T5.same s6
      have n6:D6≠p:=T6.neL e6
      refine ⟨_,rfl,_,rfl,?_⟩
      refine sp_bentl_i (n:=900000) (T6.less (by omega)) e6 gok (by decide) gne lg (by decide) fun rs7 D7 H7 T7 s7 e7 ok7 l7=>?_
      have n7:D7≠p:=T7.neL e7
      have e67:=s7.at n6 e6
      refine ⟨_,rfl,_,rfl,_,rfl,_,rfl,?_⟩
      refine sp_bentl_i (n:=800000) (T7.less (by omega)) e67 gok (by decide) gne lg (by decide) fun rs8 D8 H8 T8 s8 e8 ok8 l8=>?_
      have n8:D8≠p:=T8.neL e8
      have e68:=s8.at n6 e67
      have e78:=s8.at n7 e7
      refine nwL (by show 3≤64; decide) fun TX H9 hTX e9 s9=>?_
      have T9:=T8.same s9
      have nTX:TX≠p:=T9.neL e9
      have S19:Same H1 H9:=(Same.thru hp2 (Same.thru hp2 (S15.trans s6) s7) s8).trans s9
      have okG:∀ r∈gR nF nW es,RwK r:=fun r hr=>(gok r hr).1
      have ok7':∀ r∈rs7,RwK r:=fun r hr=>(ok7 r hr).1
      have ok8':∀ r∈rs8,RwK r:=fun r hr=>(ok8 r hr).1
      refine ⟨fun σ H'=>∃ (xs:List V),σ=[some (.ref a),o1,o2,some (.int (0+(i:Int))),some (.ref p),some (.int (nF:Nat)),some (.int (nW:Nat)),some (.int (nM:Nat)),some v,some (.ref D6),some (.ref D7),some (.ref TX),o12]∧Same H1 H'∧H' TX=some (.lst xs)∧∀ v∈xs,LnAt H' v,?_,?_⟩
      rotate_left
      · have base3:∀ {H':Hp},H' D6=some (.lst (lnV (gR nF nW es)))→H' D7=some (.lst (lnV rs7))→H' D8=some (.lst (lnV rs8))→∀ v∈[V.ref D6,.ref D7,.ref D8],LnAt H' v:=fun {H'} h6 h7 h8 v hv=>by
          simp only [List.mem_cons,List.not_mem_nil,or_false] at hv
          rcases hv with rfl | rfl | rfl
          · exact ⟨D6,_,rfl,h6,okG,by omega⟩
          · exact ⟨D7,_,rfl,h7,ok7',by omega⟩
          · exact ⟨D8,_,rfl,h8,ok8',by omega⟩
        refine ⟨_,rfl,?_⟩
        refine nwL (by show 0≤64; decide) fun q10 H10 hq10 e10 s10=>?_
        have s810:=s9.trans s10
        refine reD (Rep.lst (s810 _ _ e78) (strs_rep _)) (Rep.lst e10 RepL.nil) (strs_shp fun u hu=>?_) rfl ?_
        · obtain ⟨r,hr,rfl⟩:=List.mem_map.mp hu
          exact ln_low (ok7' r hr)
        rw [eqv_s0]
        refine ⟨_,rfl,?_⟩
        by_cases h7:rs7=[]
        · refine iteFe (by rw [h7]; rfl) ?_
          exact ⟨_,rfl,S19.trans s10,s10 _ _ e9,base3 (s810 _ _ e68) (s810 _ _ e78) (s810 _ _ e8)⟩
        · refine iteTe (by
            cases rs7 with
            | nil=>exact absurd rfl h7
            | cons x y=>rfl) ?_
          refine ⟨_,rfl,tyL (s10 _ _ e9),?_⟩
          refine ⟨_,rfl,_,rfl,?_⟩
          refine sp_bentl_i (n:=700000) ((T9.same s10).less (by omega)) (s810 _ _ e78) ok7 (by decide) h7 l7 (by decide) fun rs11 D11 H11 T11 s11 e11 ok11 l11=>?_
          have n11:D11≠p:=T11.neL e11
          have eT:=s11.at nTX (s10 _ _ e9)
          refine appL eT (by show 3≤1000; decide) fun H12 e12 b12=>?_
          have f8:∀ {D:Addr} {ys:List V},H8 D=some (.lst ys)→D≠TX:=fun h z=>by rw [z,hTX] at h; cases h
          have d6:=b12.at (f8 e68) (s11.at n6 (s810 _ _ e68))
          have d7:=b12.at (f8 e78) (s11.at n7 (s810 _ _ e78))
          have d8:=b12.at (f8 e8) (s11.at n8 (s810 _ _ e8))
          have nd11:D11≠TX:=fun z=>by
            rw [z,eT] at e11
            injection e11 with e11
            injection e11 with e11
            have:=congrArg List.head? e11
            unfold lnV at this
            cases rs11 <;> cases this
          have d11:=b12.at nd11 e11
          have hT1:H1 TX=none:=(Same.thru hp2 (Same.thru hp2 (S15.trans s6) s7) s8).free hTX
          refine ⟨_,rfl,Same.thru hT1 (Same.thru hp2 (S19.trans s10) s11) b12,e12,fun u hu=>?_⟩
          rcases List.mem_append.mp hu with hu | hu
          · exact base3 d6 d7 d8 u hu
          · rw [List.mem_singleton.mp hu]
            exact ⟨D11,rs11,rfl,d11,fun r hr=>(ok11 r hr).1,by omega⟩
      · rintro σ H10 ⟨xs,rfl,S10,eT,hxs⟩
        refine ⟨_,rfl,TX,rfl,⟨_,SqL.of eT⟩,?_⟩
        refine for_list (xs:=xs) (fun j σ H'=>∃ o2 o12:Option V,σ=[some (.ref a),o1,o2,some (.int (0+(i:Int))),some (.ref p),some (.int (nF:Nat)),some (.int (nW:Nat)),some (.int (nM:Nat)),some v,some (.ref D6),some (.ref D7),some (.ref TX),o12]∧Same H10 H') ⟨_,_,rfl,Same.refl _⟩ (fun j σ H' _ q=>?_) ?_ ?_
        · obtain ⟨_,_,_,s'⟩:=q
          exact SqL.of (s' _ _ eT)
        · rintro j u σ H11 hu ⟨o2',o12',rfl,s11⟩
          obtain ⟨q,rs,rfl,eq,okr,l90⟩:=(hxs u (List.mem_of_getElem? hu)).same s11
          obtain ⟨b1,b2,b3⟩:=du_big l90
          refine ⟨_,rfl,q,_,rfl,.inl (SqL.of eq),fun l hl=>?_⟩
          have sl:=Same.upd (o:=.lst (lnV rs)) hl
          have el:(upd H11 l (.lst (lnV rs))) l=some (.lst (lnV rs)):=upd_same
          generalize upd H11 l (.lst (lnV rs))=H12 at sl el
          have e12:=sl _ _ eq
          have shp:SeqAt.shaped (.list ((rs.map lnOf).map PyData.str))=true:=strs_shp fun u hu=>by
            obtain ⟨r,hr,rfl⟩:=List.mem_map.mp hu
            exact ln_low (okr r hr)
          refine ⟨fun bb H'=>Same H12 H'∧bb=false,?_,?_⟩
          · refine ⟨_,rfl,?_⟩
            refine sp_told_i e12 okr (by omega) fun v2 H13 s13 r2=>?_
            rw [duD_eq] at r2
            refine rrG r2 b1 b2 b3 ?_
            refine ⟨_,rfl,?_⟩
            refine sp_ldue_i (s13 _ _ el) okr (by omega) fun v3 H14 s14 r3=>?_
            rw [duD_eq] at r3
            refine rrG r3 b1 b2 b3 ?_
            refine ⟨rfl,_,rfl,?_⟩
            refine iteFe (by simp) ?_
            refine ⟨_,rfl,_,rfl,?_⟩
            have S14:=s13.trans s14
            refine reD (Rep.lst (S14 _ _ e12) (strs_rep _)) (Rep.lst (S14 _ _ el) (strs_rep _)) shp shp ?_
            rw [show PyData.eqv (.list ((rs.map lnOf).map PyData.str)) (.list ((rs.map lnOf).map PyData.str))=PyData.eqvAll ((rs.map lnOf).map PyData.str) ((rs.map lnOf).map PyData.str) from rfl,strs_eqv]
            exact ⟨_,rfl,S14,rfl⟩
          · rintro bb H13 ⟨s13,rfl⟩
            exact iteF ⟨_,_,rfl,(s11.trans sl).trans s13⟩
        · rintro σ H11 ⟨o2',o12',rfl,s11⟩
          exact ⟨_,_,_,_,_,_,_,_,_,_,_,_,rfl,S1.trans (S10.trans s11)⟩
    · rintro σ H1 ⟨o1,o2,o3,o4,o5,o6,o7,o8,o9,o10,o11,o12,rfl,S1⟩
      exact k _
end
end Kw
set_option Elab.async false
set_option linter.all false
set_option maxRecDepth 100000
namespace Kw
open PySem L2 Mf Mt
theorem len1 {α:Type} {us:List α} (h:us.length=1):∃ a,us=[a]:=match us,h with | [a],_=>⟨a,rfl⟩
theorem len2 {α:Type} {us:List α} (h:us.length=2):∃ a b,us=[a,b]:=match us,h with | [a,b],_=>⟨a,b,rfl⟩
theorem len3 {α:Type} {us:List α} (h:us.length=3):∃ a b c,us=[a,b,c]:=match us,h with | [a,b,c],_=>⟨a,b,c,rfl⟩
theorem len4 {α:Type} {us:List α} (h:us.length=4):∃ a b c d,us=[a,b,c,d]:=match us,h with | [a,b,c,d],_=>⟨a,b,c,d,rfl⟩
theorem len5 {α:Type} {us:List α} (h:us.length=5):∃ a b c d e,us=[a,b,c,d,e]:=match us,h with | [a,b,c,d,e],_=>⟨a,b,c,d,e,rfl⟩
theorem fnc (l:PySem.W.OpenLaw) (w:World) {K:PySem.W.Frag} {h:Heap} {mg:Str→Option Value} (X:K.In h) (G:h.Ns mainGlobals mg) (base:Heap) {n:Str} {f:Addr} {fd:FuncData} {L:Nat} {ps:List Str} {sp:Sp} (a:PySem.W.nsIn K mainGlobals n=some (some (.ref f))) (k:PySem.W.keepIn K (.ref f)=true) (b:Binds K fd ps []) (o:FnOk l.prog w K mg base CX0 L f fd ps sp):FnC CX0 l.prog w K mg base L n ps sp:=⟨_,_,o,PySem.W.mg_of X G a,k,b⟩
set_option maxHeartbeats 0 in
theorem all_mk {l:PySem.W.OpenLaw} {w:World} {K:PySem.W.Frag} {h:Heap} {mg:Str→Option Value} {fa:Addr} {c_EarlyError:Addr} {c_NoTrial:Addr} {c_NoRule:Addr} {c_NoBounds:Addr} {c_NoLook:Addr} {c_NoPaper:Addr} {c_NoLines:Addr} {c_NoFraction:Addr} {c_NoOrder:Addr} {c_NoBack:Addr} {c_NoRow:Addr} {tok_FIGURES:Tok} {tok_MOST_FIGURES:Tok} {tok_LEAST_NAMES:Tok} {tok_MOST_NAMES:Tok} {tok_RULE_WORD:Tok} {tok_ENTRY_WORD:Tok} {tok_SAYS_WORD:Tok} {cd_NoFraction:ClassData} {ce_NoFraction:ClassData} {ce_NoLines:ClassData} (X:K.In h) (G:h.Ns mainGlobals mg) (hfa:mg "law" = some (.ref fa))
    (u_EarlyError:PySem.W.nsIn K mainGlobals "EarlyError" = some (some (.ref c_EarlyError)))
    (u_NoTrial:PySem.W.nsIn K mainGlobals "NoTrial" = some (some (.ref c_NoTrial)))
    (u_NoRule:PySem.W.nsIn K mainGlobals "NoRule" = some (some (.ref c_NoRule)))
    (u_NoBounds:PySem.W.nsIn K mainGlobals "NoBounds" = some (some (.ref c_NoBounds)))
    (u_NoLook:PySem.W.nsIn K mainGlobals "NoLook" = some (some (.ref c_NoLook)))
    (u_NoPaper:PySem.W.nsIn K mainGlobals "NoPaper" = some (some (.ref c_NoPaper)))
    (u_NoLines:PySem.W.nsIn K mainGlobals "NoLines" = some (some (.ref c_NoLines)))
    (u_NoFraction:PySem.W.nsIn K mainGlobals "NoFraction" = some (some (.ref c_NoFraction)))
    (u_NoOrder:PySem.W.nsIn K mainGlobals "NoOrder" = some (some (.ref c_NoOrder)))
    (u_NoBack:PySem.W.nsIn K mainGlobals "NoBack" = some (some (.ref c_NoBack)))
    (u_NoRow:PySem.W.nsIn K mainGlobals "NoRow" = some (some (.ref c_NoRow)))
    (u_FIGURES:PySem.W.nsIn K mainGlobals "FIGURES" = some (some (.str (Str.ofString "0123456789") tok_FIGURES)))
    (u_MOST_FIGURES:PySem.W.nsIn K mainGlobals "MOST_FIGURES" = some (some (.int 4000 tok_MOST_FIGURES)))
    (u_LEAST_NAMES:PySem.W.nsIn K mainGlobals "LEAST_NAMES" = some (some (.int 2 tok_LEAST_NAMES)))
    (u_MOST_NAMES:PySem.W.nsIn K mainGlobals "MOST_NAMES" = some (some (.int 4 tok_MOST_NAMES)))
    (u_RULE_WORD:PySem.W.nsIn K mainGlobals "RULE_WORD" = some (some (.str (Str.ofString "rule") tok_RULE_WORD)))
    (u_ENTRY_WORD:PySem.W.nsIn K mainGlobals "ENTRY_WORD" = some (some (.str (Str.ofString "on") tok_ENTRY_WORD)))
    (u_SAYS_WORD:PySem.W.nsIn K mainGlobals "SAYS_WORD" = some (some (.str (Str.ofString "say") tok_SAYS_WORD)))
    (x_NoFraction:PySem.W.excIn K c_NoFraction mroVE "ValueError.__new__" = true)
    (ga_NoFraction:PySem.W.findIn K (.ref c_NoFraction) "__getattribute__" = some (some (.builtin "BaseException.__getattribute__")))
    (gt_NoFraction:PySem.W.findIn K (.ref c_NoFraction) "__getattr__" = some none)
    (su_NoFraction:PySem.W.subIn K (.ref c_NoFraction) (.type "BaseException")=some true)
    (cl_NoFraction:PySem.W.clsIn K c_NoFraction=some cd_NoFraction)
    (kc_NoFraction:PySem.W.findIn K (.ref c_NoFraction) "__class__" = some (some (.builtin "object.__class__")))
    (kg_NoFraction:PySem.W.specialIn K (.builtin "object.__class__") "__get__" = some (some (.builtin "getset_descriptor.__get__")))
    (kt_NoFraction:PySem.W.takesIn K (.builtin "object.__class__")=some true)
    (ob_NoFraction:PySem.W.mroIn K c_NoFraction (.type "object")=some true)
    (ty_NoFraction:PySem.W.typeIn K (.ref c_NoFraction)=some (.type "type"))
    (cm_NoFraction:PySem.W.clsIn K c_NoFraction=some ce_NoFraction)
    (sb_NoFraction:PySem.W.subIn K (.ref c_NoFraction) (.type "BaseException")=some true)
    (y0:PySem.W.subIn K (.ref c_NoFraction) (.ref c_NoFraction)=some true)
    (ty_NoLines:PySem.W.typeIn K (.ref c_NoLines)=some (.type "type"))
    (cm_NoLines:PySem.W.clsIn K c_NoLines=some ce_NoLines)
    (sb_NoLines:PySem.W.subIn K (.ref c_NoLines) (.type "BaseException")=some true)
    (t0:baseAll K c_EarlyError=true)
    (t1:setAll K c_NoLines ["line"]=true)
    (t2:excAll K c_NoLines=true)
    (t3:PySem.W.subIn K (.ref c_NoLines) (.ref c_NoLines)=some true)
    (y1:PySem.W.kitAny K (.ref c_NoLines) [.ref c_NoBack,.ref c_NoBounds,.ref c_NoFraction,.ref c_NoLook,.ref c_NoOrder]=some false)
    (y4:PySem.W.kitAny K (.ref c_NoLines) [.ref c_NoPaper,.ref c_NoRow,.ref c_NoRule,.ref c_NoTrial]=some false)
    (y5:PySem.W.kitOne K (.ref c_NoLines) (.type "ValueError")=some true)
    (y2:PySem.W.nsOkIn K cStatics=true)
    (y3:PySem.W.nsIn K cStatics "sys.int_max_str_digits" = some none)
    (a0:PySem.W.findIn K (.ref c_NoLines) "__init__" = some (some (.ref f0))) (l0:K.lookup f0=some ⟨oc0,od0,.func (PySem.W.fnOf "__init__" "NoLines.__init__" (defArgs s_NoLines___init__) (defBody s_NoLines___init__) (defScope s_NoLines___init__) .none kV0 dc0 pm0 an0 cd0 ct0),sl0⟩) (c0:PySem.W.codeIn K cd0 "NoLines.__init__" = true) (k0:PySem.W.keepIn K (.ref f0)=true) (fn0:PySem.W.isFn K (.ref f0)=true) (kp0:PySem.W.keepIn K (.ref c_NoLines)=true)
    (a1:PySem.W.nsIn K mainGlobals "is_whole" = some (some (.ref f1))) (l1:K.lookup f1=some ⟨oc1,od1,.func (PySem.W.fnOf "is_whole" "is_whole" (defArgs s_is_whole) (defBody s_is_whole) (defScope s_is_whole) .none kV1 dc1 pm1 an1 cd1 ct1),sl1⟩) (c1:PySem.W.codeIn K cd1 "is_whole" = true) (k1:PySem.W.keepIn K (.ref f1)=true)
    (a2:PySem.W.nsIn K mainGlobals "common_divisor" = some (some (.ref f2))) (l2:K.lookup f2=some ⟨oc2,od2,.func (PySem.W.fnOf "common_divisor" "common_divisor" (defArgs s_common_divisor) (defBody s_common_divisor) (defScope s_common_divisor) .none kV2 dc2 pm2 an2 cd2 ct2),sl2⟩) (c2:PySem.W.codeIn K cd2 "common_divisor" = true) (k2:PySem.W.keepIn K (.ref f2)=true)
    (a3:PySem.W.nsIn K mainGlobals "are_figures" = some (some (.ref f3))) (l3:K.lookup f3=some ⟨oc3,od3,.func (PySem.W.fnOf "are_figures" "are_figures" (defArgs s_are_figures) (defBody s_are_figures) (defScope s_are_figures) .none kV3 dc3 pm3 an3 cd3 ct3),sl3⟩) (c3:PySem.W.codeIn K cd3 "are_figures" = true) (k3:PySem.W.keepIn K (.ref f3)=true)
    (a4:PySem.W.nsIn K mainGlobals "read_whole" = some (some (.ref f4))) (l4:K.lookup f4=some ⟨oc4,od4,.func (PySem.W.fnOf "read_whole" "read_whole" (defArgs s_read_whole) (defBody s_read_whole) (defScope s_read_whole) .none kV4 dc4 pm4 an4 cd4 ct4),sl4⟩) (c4:PySem.W.codeIn K cd4 "read_whole" = true) (k4:PySem.W.keepIn K (.ref f4)=true)
    (a5:PySem.W.nsIn K mainGlobals "is_fraction" = some (some (.ref f5))) (l5:K.lookup f5=some ⟨oc5,od5,.func (PySem.W.fnOf "is_fraction" "is_fraction" (defArgs s_is_fraction) (defBody s_is_fraction) (defScope s_is_fraction) .none kV5 dc5 pm5 an5 cd5 ct5),sl5⟩) (c5:PySem.W.codeIn K cd5 "is_fraction" = true) (k5:PySem.W.keepIn K (.ref f5)=true)
    (a6:PySem.W.nsIn K mainGlobals "read_fraction" = some (some (.ref f6))) (l6:K.lookup f6=some ⟨oc6,od6,.func (PySem.W.fnOf "read_fraction" "read_fraction" (defArgs s_read_fraction) (defBody s_read_fraction) (defScope s_read_fraction) .none kV6 dc6 pm6 an6 cd6 ct6),sl6⟩) (c6:PySem.W.codeIn K cd6 "read_fraction" = true) (k6:PySem.W.keepIn K (.ref f6)=true)
    (a7:PySem.W.nsIn K mainGlobals "read_counts" = some (some (.ref f7))) (l7:K.lookup f7=some ⟨oc7,od7,.func (PySem.W.fnOf "read_counts" "read_counts" (defArgs s_read_counts) (defBody s_read_counts) (defScope s_read_counts) .none kV7 dc7 pm7 an7 cd7 ct7),sl7⟩) (c7:PySem.W.codeIn K cd7 "read_counts" = true) (k7:PySem.W.keepIn K (.ref f7)=true)
    (a8:PySem.W.nsIn K mainGlobals "read_fractions" = some (some (.ref f8))) (l8:K.lookup f8=some ⟨oc8,od8,.func (PySem.W.fnOf "read_fractions" "read_fractions" (defArgs s_read_fractions) (defBody s_read_fractions) (defScope s_read_fractions) .none kV8 dc8 pm8 an8 cd8 ct8),sl8⟩) (c8:PySem.W.codeIn K cd8 "read_fractions" = true) (k8:PySem.W.keepIn K (.ref f8)=true)
    (a9:PySem.W.nsIn K mainGlobals "read_head" = some (some (.ref f9))) (l9:K.lookup f9=some ⟨oc9,od9,.func (PySem.W.fnOf "read_head" "read_head" (defArgs s_read_head) (defBody s_read_head) (defScope s_read_head) .none kV9 dc9 pm9 an9 cd9 ct9),sl9⟩) (c9:PySem.W.codeIn K cd9 "read_head" = true) (k9:PySem.W.keepIn K (.ref f9)=true)
    (a10:PySem.W.nsIn K mainGlobals "read_entry" = some (some (.ref f10))) (l10:K.lookup f10=some ⟨oc10,od10,.func (PySem.W.fnOf "read_entry" "read_entry" (defArgs s_read_entry) (defBody s_read_entry) (defScope s_read_entry) .none kV10 dc10 pm10 an10 cd10 ct10),sl10⟩) (c10:PySem.W.codeIn K cd10 "read_entry" = true) (k10:PySem.W.keepIn K (.ref f10)=true)
    (a11:PySem.W.nsIn K mainGlobals "entries_behind" = some (some (.ref f11))) (l11:K.lookup f11=some ⟨oc11,od11,.func (PySem.W.fnOf "entries_behind" "entries_behind" (defArgs s_entries_behind) (defBody s_entries_behind) (defScope s_entries_behind) .none kV11 dc11 pm11 an11 cd11 ct11),sl11⟩) (c11:PySem.W.codeIn K cd11 "entries_behind" = true) (k11:PySem.W.keepIn K (.ref f11)=true)
    (a12:PySem.W.nsIn K mainGlobals "read_rule" = some (some (.ref f12))) (l12:K.lookup f12=some ⟨oc12,od12,.func (PySem.W.fnOf "read_rule" "read_rule" (defArgs s_read_rule) (defBody s_read_rule) (defScope s_read_rule) .none kV12 dc12 pm12 an12 cd12 ct12),sl12⟩) (c12:PySem.W.codeIn K cd12 "read_rule" = true) (k12:PySem.W.keepIn K (.ref f12)=true)
    (a13:PySem.W.nsIn K mainGlobals "_law_tape" = some (some (.ref f13))) (l13:K.lookup f13=some ⟨oc13,od13,.func (PySem.W.fnOf "_law_tape" "_law_tape" (defArgs s__law_tape) (defBody s__law_tape) (defScope s__law_tape) .none kV13 dc13 pm13 an13 cd13 ct13),sl13⟩) (c13:PySem.W.codeIn K cd13 "_law_tape" = true) (k13:PySem.W.keepIn K (.ref f13)=true)
    (a14:PySem.W.nsIn K mainGlobals "_law_pick" = some (some (.ref f14))) (l14:K.lookup f14=some ⟨oc14,od14,.func (PySem.W.fnOf "_law_pick" "_law_pick" (defArgs s__law_pick) (defBody s__law_pick) (defScope s__law_pick) .none kV14 dc14 pm14 an14 cd14 ct14),sl14⟩) (c14:PySem.W.codeIn K cd14 "_law_pick" = true) (k14:PySem.W.keepIn K (.ref f14)=true)
    (a15:PySem.W.nsIn K mainGlobals "_law_frac" = some (some (.ref f15))) (l15:K.lookup f15=some ⟨oc15,od15,.func (PySem.W.fnOf "_law_frac" "_law_frac" (defArgs s__law_frac) (defBody s__law_frac) (defScope s__law_frac) .none kV15 dc15 pm15 an15 cd15 ct15),sl15⟩) (c15:PySem.W.codeIn K cd15 "_law_frac" = true) (k15:PySem.W.keepIn K (.ref f15)=true)
    (a16:PySem.W.nsIn K mainGlobals "_law_shares" = some (some (.ref f16))) (l16:K.lookup f16=some ⟨oc16,od16,.func (PySem.W.fnOf "_law_shares" "_law_shares" (defArgs s__law_shares) (defBody s__law_shares) (defScope s__law_shares) .none kV16 dc16 pm16 an16 cd16 ct16),sl16⟩) (c16:PySem.W.codeIn K cd16 "_law_shares" = true) (k16:PySem.W.keepIn K (.ref f16)=true)
    (a17:PySem.W.nsIn K mainGlobals "_law_says" = some (some (.ref f17))) (l17:K.lookup f17=some ⟨oc17,od17,.func (PySem.W.fnOf "_law_says" "_law_says" (defArgs s__law_says) (defBody s__law_says) (defScope s__law_says) .none kV17 dc17 pm17 an17 cd17 ct17),sl17⟩) (c17:PySem.W.codeIn K cd17 "_law_says" = true) (k17:PySem.W.keepIn K (.ref f17)=true)
    (a18:PySem.W.nsIn K mainGlobals "_law_next" = some (some (.ref f18))) (l18:K.lookup f18=some ⟨oc18,od18,.func (PySem.W.fnOf "_law_next" "_law_next" (defArgs s__law_next) (defBody s__law_next) (defScope s__law_next) .none kV18 dc18 pm18 an18 cd18 ct18),sl18⟩) (c18:PySem.W.codeIn K cd18 "_law_next" = true) (k18:PySem.W.keepIn K (.ref f18)=true)
    (a19:PySem.W.nsIn K mainGlobals "_law_rule" = some (some (.ref f19))) (l19:K.lookup f19=some ⟨oc19,od19,.func (PySem.W.fnOf "_law_rule" "_law_rule" (defArgs s__law_rule) (defBody s__law_rule) (defScope s__law_rule) .none kV19 dc19 pm19 an19 cd19 ct19),sl19⟩) (c19:PySem.W.codeIn K cd19 "_law_rule" = true) (k19:PySem.W.keepIn K (.ref f19)=true)
    (a20:PySem.W.nsIn K mainGlobals "_law_sizes" = some (some (.ref f20))) (l20:K.lookup f20=some ⟨oc20,od20,.func (PySem.W.fnOf "_law_sizes" "_law_sizes" (defArgs s__law_sizes) (defBody s__law_sizes) (defScope s__law_sizes) .none kV20 dc20 pm20 an20 cd20 ct20),sl20⟩) (c20:PySem.W.codeIn K cd20 "_law_sizes" = true) (k20:PySem.W.keepIn K (.ref f20)=true)
    (a21:PySem.W.nsIn K mainGlobals "_law_shown" = some (some (.ref f21))) (l21:K.lookup f21=some ⟨oc21,od21,.func (PySem.W.fnOf "_law_shown" "_law_shown" (defArgs s__law_shown) (defBody s__law_shown) (defScope s__law_shown) .none kV21 dc21 pm21 an21 cd21 ct21),sl21⟩) (c21:PySem.W.codeIn K cd21 "_law_shown" = true) (k21:PySem.W.keepIn K (.ref f21)=true)
    (a22:PySem.W.nsIn K mainGlobals "_law_lines" = some (some (.ref f22))) (l22:K.lookup f22=some ⟨oc22,od22,.func (PySem.W.fnOf "_law_lines" "_law_lines" (defArgs s__law_lines) (defBody s__law_lines) (defScope s__law_lines) .none kV22 dc22 pm22 an22 cd22 ct22),sl22⟩) (c22:PySem.W.codeIn K cd22 "_law_lines" = true) (k22:PySem.W.keepIn K (.ref f22)=true)
    (a23:PySem.W.nsIn K mainGlobals "_law_strange" = some (some (.ref f23))) (l23:K.lookup f23=some ⟨oc23,od23,.func (PySem.W.fnOf "_law_strange" "_law_strange" (defArgs s__law_strange) (defBody s__law_strange) (defScope s__law_strange) .none kV23 dc23 pm23 an23 cd23 ct23),sl23⟩) (c23:PySem.W.codeIn K cd23 "_law_strange" = true) (k23:PySem.W.keepIn K (.ref f23)=true)
    (a24:PySem.W.nsIn K mainGlobals "_law_figures" = some (some (.ref f24))) (l24:K.lookup f24=some ⟨oc24,od24,.func (PySem.W.fnOf "_law_figures" "_law_figures" (defArgs s__law_figures) (defBody s__law_figures) (defScope s__law_figures) .none kV24 dc24 pm24 an24 cd24 ct24),sl24⟩) (c24:PySem.W.codeIn K cd24 "_law_figures" = true) (k24:PySem.W.keepIn K (.ref f24)=true)
    (a25:PySem.W.nsIn K mainGlobals "_law_fraction" = some (some (.ref f25))) (l25:K.lookup f25=some ⟨oc25,od25,.func (PySem.W.fnOf "_law_fraction" "_law_fraction" (defArgs s__law_fraction) (defBody s__law_fraction) (defScope s__law_fraction) .none kV25 dc25 pm25 an25 cd25 ct25),sl25⟩) (c25:PySem.W.codeIn K cd25 "_law_fraction" = true) (k25:PySem.W.keepIn K (.ref f25)=true)
    (a26:PySem.W.nsIn K mainGlobals "_law_entry" = some (some (.ref f26))) (l26:K.lookup f26=some ⟨oc26,od26,.func (PySem.W.fnOf "_law_entry" "_law_entry" (defArgs s__law_entry) (defBody s__law_entry) (defScope s__law_entry) .none kV26 dc26 pm26 an26 cd26 ct26),sl26⟩) (c26:PySem.W.codeIn K cd26 "_law_entry" = true) (k26:PySem.W.keepIn K (.ref f26)=true)
    (a27:PySem.W.nsIn K mainGlobals "_law_due" = some (some (.ref f27))) (l27:K.lookup f27=some ⟨oc27,od27,.func (PySem.W.fnOf "_law_due" "_law_due" (defArgs s__law_due) (defBody s__law_due) (defScope s__law_due) .none kV27 dc27 pm27 an27 cd27 ct27),sl27⟩) (c27:PySem.W.codeIn K cd27 "_law_due" = true) (k27:PySem.W.keepIn K (.ref f27)=true)
    (a28:PySem.W.nsIn K mainGlobals "_law_told" = some (some (.ref f28))) (l28:K.lookup f28=some ⟨oc28,od28,.func (PySem.W.fnOf "_law_told" "_law_told" (defArgs s__law_told) (defBody s__law_told) (defScope s__law_told) .none kV28 dc28 pm28 an28 cd28 ct28),sl28⟩) (c28:PySem.W.codeIn K cd28 "_law_told" = true) (k28:PySem.W.keepIn K (.ref f28)=true)
    (a29:PySem.W.nsIn K mainGlobals "_law_bent_line" = some (some (.ref f29))) (l29:K.lookup f29=some ⟨oc29,od29,.func (PySem.W.fnOf "_law_bent_line" "_law_bent_line" (defArgs s__law_bent_line) (defBody s__law_bent_line) (defScope s__law_bent_line) .none kV29 dc29 pm29 an29 cd29 ct29),sl29⟩) (c29:PySem.W.codeIn K cd29 "_law_bent_line" = true) (k29:PySem.W.keepIn K (.ref f29)=true)
    (a30:PySem.W.nsIn K mainGlobals "_law_bent" = some (some (.ref f30))) (l30:K.lookup f30=some ⟨oc30,od30,.func (PySem.W.fnOf "_law_bent" "_law_bent" (defArgs s__law_bent) (defBody s__law_bent) (defScope s__law_bent) .none kV30 dc30 pm30 an30 cd30 ct30),sl30⟩) (c30:PySem.W.codeIn K cd30 "_law_bent" = true) (k30:PySem.W.keepIn K (.ref f30)=true)
    (a31:PySem.W.nsIn K mainGlobals "law" = some (some (.ref f31))) (l31:K.lookup f31=some ⟨oc31,od31,.func (PySem.W.fnOf "law" "law" (defArgs s_law) (defBody s_law) (defScope s_law) .none kV31 dc31 pm31 an31 cd31 ct31),sl31⟩) (c31:PySem.W.codeIn K cd31 "law" = true) (k31:PySem.W.keepIn K (.ref f31)=true) (z0:PySem.W.nsIn K mainGlobals "list" = some none) (z1:PySem.W.nsIn K mainGlobals "len" = some none) (z2:PySem.W.nsIn K mainGlobals "abs" = some none) (z3:PySem.W.nsIn K mainGlobals "isinstance" = some none) (z4:PySem.W.nsIn K mainGlobals "repr" = some none) (z5:PySem.W.nsIn K mainGlobals "range" = some none) (z6:PySem.W.nsIn K mainGlobals "int" = some none) (z7:PySem.W.nsIn K mainGlobals "bool" = some none) (z8:PySem.W.nsIn K mainGlobals "tuple" = some none) (z9:PySem.W.nsIn K mainGlobals "str" = some none) (z10:PySem.W.nsIn K mainGlobals "ValueError" = some none) (z11:PySem.W.nsIn K mainGlobals "all" = some none) (z12:PySem.W.nsIn K mainGlobals "sum" = some none) (z13:PySem.W.nsIn K mainGlobals "max" = some none) (z14:PySem.W.nsIn K mainGlobals "sorted" = some none) :
    ∃ fd:FuncData,(∀ (s:Shared) (v:Value),BindsTo s fd ⟨[v],[]⟩ [("_law_script",v)])∧∀ base:Heap,K.In base→base.Ns mainGlobals mg→FnOk l.prog w K mg base CX0 9 fa fd ["_law_script"] (sp_law K):=by
  have e:=hfa.symm.trans (PySem.W.mg_of X G a31)
  cases e
  generalize hcl:(⟨c_EarlyError,c_NoTrial,c_NoRule,c_NoBounds,c_NoLook,c_NoPaper,c_NoLines,c_NoFraction,c_NoOrder,c_NoBack,c_NoRow,tok_FIGURES,tok_MOST_FIGURES,tok_LEAST_NAMES,tok_MOST_NAMES,tok_RULE_WORD,tok_ENTRY_WORD,tok_SAYS_WORD⟩:Cl)=c
  have T:Txt K mg c:=by rw [← hcl]; exact ⟨PySem.W.mg_none_of X G z0,PySem.W.mg_none_of X G z1,PySem.W.mg_none_of X G z2,PySem.W.mg_none_of X G z3,PySem.W.mg_none_of X G z4,PySem.W.mg_none_of X G z5,PySem.W.mg_none_of X G z6,PySem.W.mg_none_of X G z7,PySem.W.mg_none_of X G z8,PySem.W.mg_none_of X G z9,PySem.W.mg_none_of X G z10,PySem.W.mg_none_of X G z11,PySem.W.mg_none_of X G z12,PySem.W.mg_none_of X G z13,PySem.W.mg_none_of X G z14,PySem.W.mg_of X G u_EarlyError,PySem.W.mg_of X G u_NoTrial,PySem.W.mg_of X G u_NoRule,PySem.W.mg_of X G u_NoBounds,PySem.W.mg_of X G u_NoLook,PySem.W.mg_of X G u_NoPaper,PySem.W.mg_of X G u_NoLines,PySem.W.mg_of X G u_NoOrder,PySem.W.mg_of X G u_NoBack,PySem.W.mg_of X G u_NoRow,PySem.W.mg_of X G u_NoFraction,PySem.W.mg_of X G u_FIGURES,PySem.W.mg_of X G u_MOST_FIGURES,PySem.W.mg_of X G u_LEAST_NAMES,PySem.W.mg_of X G u_MOST_NAMES,PySem.W.mg_of X G u_RULE_WORD,PySem.W.mg_of X G u_ENTRY_WORD,PySem.W.mg_of X G u_SAYS_WORD,x_NoFraction,⟨ga_NoFraction,gt_NoFraction,su_NoFraction,(by rw [cl_NoFraction]; rfl),kc_NoFraction,kg_NoFraction,kt_NoFraction,ob_NoFraction⟩,⟨ty_NoFraction,(by rw [cm_NoFraction]; rfl),sb_NoFraction⟩,y0,⟨ty_NoLines,(by rw [cm_NoLines]; rfl),sb_NoLines⟩,t0,t1,t2,t3,y1,y4,y5,y2,y3⟩
  have F0:=fun_mk (st:=s_NoLines___init__) l0 c0 k0
  have b0:=F0.binds (ps:=["self", "line"]) fun _ _ _ _ _ _ us hl=>by obtain ⟨_,_,rfl⟩:=len2 (show us.length=2 from hl); rfl
  have G_NoLines___init__:∀ base:Heap,FnI l.prog w K mg base 1 c.NoLines ["self", "line"] (sp_iniN c.NoLines "line"):=fun base=>⟨_,_,ok_NoLines___init__ F0 T,⟨(setAll.shape T.st_NoLines),(by rw [← hcl]; exact a0),fn0,(by rw [← hcl]; exact kp0)⟩,b0⟩
  have F1:=fun_mk (st:=s_is_whole) l1 c1 k1
  have b1:=F1.binds (ps:=["thing"]) fun _ _ _ _ _ _ us hl=>by obtain ⟨_,rfl⟩:=len1 hl; rfl
  have G_is_whole:=fun base=>fnc l w X G base a1 k1 b1 (ok_is_whole F1 T)
  have F2:=fun_mk (st:=s_common_divisor) l2 c2 k2
  have b2:=F2.binds (ps:=["number", "above_nought"]) fun _ _ _ _ _ _ us hl=>by obtain ⟨_,_,rfl⟩:=len2 hl; rfl
  have G_common_divisor:=fun base=>fnc l w X G base a2 k2 b2 (ok_common_divisor F2 T)
  have F3:=fun_mk (st:=s_are_figures) l3 c3 k3
  have b3:=F3.binds (ps:=["text"]) fun _ _ _ _ _ _ us hl=>by obtain ⟨_,rfl⟩:=len1 hl; rfl
  have G_are_figures:=fun base=>fnc l w X G base a3 k3 b3 (ok_are_figures F3 T)
  have F4:=fun_mk (st:=s_read_whole) l4 c4 k4
  have b4:=F4.binds (ps:=["text"]) fun _ _ _ _ _ _ us hl=>by obtain ⟨_,rfl⟩:=len1 hl; rfl
  have G_read_whole:=fun base=>fnc l w X G base a4 k4 b4 (ok_read_whole F4 T (G_are_figures base))
  have F5:=fun_mk (st:=s_is_fraction) l5 c5 k5
  have b5:=F5.binds (ps:=["thing"]) fun _ _ _ _ _ _ us hl=>by obtain ⟨_,rfl⟩:=len1 hl; rfl
  have G_is_fraction:=fun base=>fnc l w X G base a5 k5 b5 (ok_is_fraction F5 T (G_is_whole base) (G_common_divisor base))
  have F6:=fun_mk (st:=s_read_fraction) l6 c6 k6
  have b6:=F6.binds (ps:=["text"]) fun _ _ _ _ _ _ us hl=>by obtain ⟨_,rfl⟩:=len1 hl; rfl
  have G_read_fraction:∀ base:Heap,FnC (CX1 l.prog w) l.prog w K mg base 3 "read_fraction" ["text"] (sp_readf c.NoFraction):=fun base=>⟨_,_,ok_read_fraction F6 T (G_read_whole base) (G_is_fraction base),PySem.W.mg_of X G a6,k6,b6⟩
  have F7:=fun_mk (st:=s_read_counts) l7 c7 k7
  have b7:=F7.binds (ps:=["words", "many"]) fun _ _ _ _ _ _ us hl=>by obtain ⟨_,_,rfl⟩:=len2 hl; rfl
  have G_read_counts:=fun base=>fnc l w X G base a7 k7 b7 (ok_read_counts F7 T (G_read_whole base))
  have F8:=fun_mk (st:=s_read_fractions) l8 c8 k8
  have b8:=F8.binds (ps:=["words", "many"]) fun _ _ _ _ _ _ us hl=>by obtain ⟨_,_,rfl⟩:=len2 hl; rfl
  have G_read_fractions:=fun base=>fnc l w X G base a8 k8 b8 (ok_read_fractions F8 T (G_read_fraction base))
  have F9:=fun_mk (st:=s_read_head) l9 c9 k9
  have b9:=F9.binds (ps:=["lines", "words"]) fun _ _ _ _ _ _ us hl=>by obtain ⟨_,_,rfl⟩:=len2 hl; rfl
  have G_read_head:∀ base:Heap,FnC (CX1 l.prog w) l.prog w K mg base 4 "read_head" ["lines", "words"] (sp_rdhG c.NoLines):=fun base=>⟨_,_,ok_read_head F9 T (G_NoLines___init__ base) (G_read_counts base),PySem.W.mg_of X G a9,k9,b9⟩
  have F10:=fun_mk (st:=s_read_entry) l10 c10 k10
  have b10:=F10.binds (ps:=["words", "sizes"]) fun _ _ _ _ _ _ us hl=>by obtain ⟨_,_,rfl⟩:=len2 hl; rfl
  have G_read_entry:=fun base=>fnc l w X G base a10 k10 b10 (ok_read_entry F10 T (G_read_counts base) (G_read_fractions base))
  have F11:=fun_mk (st:=s_entries_behind) l11 c11 k11
  have b11:=F11.binds (ps:=["lines", "line", "sizes"]) fun _ _ _ _ _ _ us hl=>by obtain ⟨_,_,_,rfl⟩:=len3 hl; rfl
  have G_entries_behind:=fun base=>fnc l w X G base a11 k11 b11 (ok_entries_behind F11 T (G_read_entry base))
  have F12:=fun_mk (st:=s_read_rule) l12 c12 k12
  have b12:=F12.binds (ps:=["lines"]) fun _ _ _ _ _ _ us hl=>by obtain ⟨_,rfl⟩:=len1 hl; rfl
  have G_read_rule:∀ base:Heap,FnC (CX1 l.prog w) l.prog w K mg base 7 "read_rule" ["lines"] (sp_rdrG c.NoLines):=fun base=>⟨_,_,ok_read_rule F12 T (G_NoLines___init__ base) (G_read_head base) (G_entries_behind base),PySem.W.mg_of X G a12,k12,b12⟩
  have F13:=fun_mk (st:=s__law_tape) l13 c13 k13
  have b13:=F13.binds (ps:=["_law_script", "_law_at"]) fun _ _ _ _ _ _ us hl=>by obtain ⟨_,_,rfl⟩:=len2 hl; rfl
  have G__law_tape:=fun base=>fnc l w X G base a13 k13 b13 (ok__law_tape F13 T)
  have F14:=fun_mk (st:=s__law_pick) l14 c14 k14
  have b14:=F14.binds (ps:=["_law_tape_here", "_law_many"]) fun _ _ _ _ _ _ us hl=>by obtain ⟨_,_,rfl⟩:=len2 hl; rfl
  have G__law_pick:=fun base=>fnc l w X G base a14 k14 b14 (ok__law_pick F14 T)
  have F15:=fun_mk (st:=s__law_frac) l15 c15 k15
  have b15:=F15.binds (ps:=["_law_n", "_law_d"]) fun _ _ _ _ _ _ us hl=>by obtain ⟨_,_,rfl⟩:=len2 hl; rfl
  have G__law_frac:=fun base=>fnc l w X G base a15 k15 b15 (ok__law_frac F15 T)
  have F16:=fun_mk (st:=s__law_shares) l16 c16 k16
  have b16:=F16.binds (ps:=["_law_tape_here", "_law_many"]) fun _ _ _ _ _ _ us hl=>by obtain ⟨_,_,rfl⟩:=len2 hl; rfl
  have G__law_shares:=fun base=>fnc l w X G base a16 k16 b16 (ok__law_shares F16 T (G__law_pick base) (G__law_frac base))
  have F17:=fun_mk (st:=s__law_says) l17 c17 k17
  have b17:=F17.binds (ps:=["_law_tape_here", "_law_ways", "_law_stops", "_law_plain"]) fun _ _ _ _ _ _ us hl=>by obtain ⟨_,_,_,_,rfl⟩:=len4 hl; rfl
  have G__law_says:=fun base=>fnc l w X G base a17 k17 b17 (ok__law_says F17 T (G__law_pick base) (G__law_shares base))
  have F18:=fun_mk (st:=s__law_next) l18 c18 k18
  have b18:=F18.binds (ps:=["_law_counts", "_law_says_here"]) fun _ _ _ _ _ _ us hl=>by obtain ⟨_,_,rfl⟩:=len2 hl; rfl
  have G__law_next:=fun base=>fnc l w X G base a18 k18 b18 (ok__law_next F18 T)
  have F19:=fun_mk (st:=s__law_rule) l19 c19 k19
  have b19:=F19.binds (ps:=["_law_tape_here", "_law_faces", "_law_ways", "_law_most", "_law_plain"]) fun _ _ _ _ _ _ us hl=>by obtain ⟨_,_,_,_,_,rfl⟩:=len5 hl; rfl
  have G__law_rule:=fun base=>fnc l w X G base a19 k19 b19 (ok__law_rule F19 T (G__law_says base) (G__law_next base))
  have F20:=fun_mk (st:=s__law_sizes) l20 c20 k20
  have b20:=F20.binds (ps:=["_law_tape_here"]) fun _ _ _ _ _ _ us hl=>by obtain ⟨_,rfl⟩:=len1 hl; rfl
  have G__law_sizes:=fun base=>fnc l w X G base a20 k20 b20 (ok__law_sizes F20 T (G__law_pick base))
  have F21:=fun_mk (st:=s__law_shown) l21 c21 k21
  have b21:=F21.binds (ps:=["_law_one"]) fun _ _ _ _ _ _ us hl=>by obtain ⟨_,rfl⟩:=len1 hl; rfl
  have G__law_shown:=fun base=>fnc l w X G base a21 k21 b21 (ok__law_shown F21 T)
  have F22:=fun_mk (st:=s__law_lines) l22 c22 k22
  have b22:=F22.binds (ps:=["_law_rule_here"]) fun _ _ _ _ _ _ us hl=>by obtain ⟨_,rfl⟩:=len1 hl; rfl
  have G__law_lines:=fun base=>fnc l w X G base a22 k22 b22 (ok__law_lines F22 T (G__law_shown base))
  have F23:=fun_mk (st:=s__law_strange) l23 c23 k23
  have b23:=F23.binds (ps:=["_law_error"]) fun _ _ _ _ _ _ us hl=>by obtain ⟨_,rfl⟩:=len1 hl; rfl
  have G__law_strange:=fun base=>fnc l w X G base a23 k23 b23 (ok__law_strange F23 T)
  have F24:=fun_mk (st:=s__law_figures) l24 c24 k24
  have b24:=F24.binds (ps:=["_law_word"]) fun _ _ _ _ _ _ us hl=>by obtain ⟨_,rfl⟩:=len1 hl; rfl
  have G__law_figures:=fun base=>fnc l w X G base a24 k24 b24 (ok__law_figures F24 T)
  have F25:=fun_mk (st:=s__law_fraction) l25 c25 k25
  have b25:=F25.binds (ps:=["_law_word"]) fun _ _ _ _ _ _ us hl=>by obtain ⟨_,rfl⟩:=len1 hl; rfl
  have G__law_fraction:=fun base=>fnc l w X G base a25 k25 b25 (ok__law_fraction F25 T (G__law_figures base) (G__law_frac base))
  have F26:=fun_mk (st:=s__law_entry) l26 c26 k26
  have b26:=F26.binds (ps:=["_law_line", "_law_faces", "_law_ways"]) fun _ _ _ _ _ _ us hl=>by obtain ⟨_,_,_,rfl⟩:=len3 hl; rfl
  have G__law_entry:=fun base=>fnc l w X G base a26 k26 b26 (ok__law_entry F26 T (G__law_figures base) (G__law_fraction base))
  have F27:=fun_mk (st:=s__law_due) l27 c27 k27
  have b27:=F27.binds (ps:=["_law_lines_here"]) fun _ _ _ _ _ _ us hl=>by obtain ⟨_,rfl⟩:=len1 hl; rfl
  have G__law_due:=fun base=>fnc l w X G base a27 k27 b27 (ok__law_due F27 T (G__law_entry base))
  have F28:=fun_mk (st:=s__law_told) l28 c28 k28
  have b28:=F28.binds (ps:=["_law_lines_here"]) fun _ _ _ _ _ _ us hl=>by obtain ⟨_,rfl⟩:=len1 hl; rfl
  have G__law_told:=fun base=>fnc l w X G base a28 k28 b28 (ok__law_told F28 T (G_read_rule base) (G__law_strange base))
  have F29:=fun_mk (st:=s__law_bent_line) l29 c29 k29
  have b29:=F29.binds (ps:=["_law_tape_here", "_law_line"]) fun _ _ _ _ _ _ us hl=>by obtain ⟨_,_,rfl⟩:=len2 hl; rfl
  have G__law_bent_line:=fun base=>fnc l w X G base a29 k29 b29 (ok__law_bent_line F29 T (G__law_pick base))
  have F30:=fun_mk (st:=s__law_bent) l30 c30 k30
  have b30:=F30.binds (ps:=["_law_tape_here", "_law_lines_here"]) fun _ _ _ _ _ _ us hl=>by obtain ⟨_,_,rfl⟩:=len2 hl; rfl
  have G__law_bent:=fun base=>fnc l w X G base a30 k30 b30 (ok__law_bent F30 T (G__law_pick base) (G__law_bent_line base))
  have F31:=fun_mk (st:=s_law) l31 c31 k31
  exact ⟨_,fun s v=>.of_eq rfl,fun base _ _=>ok_law F31 T (G__law_tape base) (G__law_pick base) (G__law_sizes base) (G__law_rule base) (G__law_lines base) (G__law_bent base) (G__law_told base) (G__law_due base)⟩
end Kw
namespace PySem.W.Fast
def tw6125954662814414467 := ()
def tw9265249454617252416 := ()
def tw11358388212213436613 := ()
def tw7748332785500647514 := ()
def tw10580751506171675335 := ()
def tw3564258301612592574 := ()
def tw12728827444591830899 := ()
def tw2944474754229835928 := ()
def tw1810498579946695741 := ()
def tw1565682959160866133 := ()
def tw10454942829330747979 := ()
def tw9461411214929457129 := ()
def tw17113992163529057956 := ()
def tw11555850737251799895 := ()
def tw543245145529026281 := ()
def tw6418472725627302688 := ()
def tw13195161782862102261 := ()
def tw13378324852987450263 := ()
def tw13395435497662387922 := ()
def tw4614235384006141170 := ()
def tw11024027356907351909 := ()
def tw18400509138891064864 := ()
def tw6012116414672304754 := ()
def tw10732612354583718902 := ()
def tw5531647201170429363 := ()
def tw14855419651190399823 := ()
def tw8676721223008741140 := ()
def tw17576020587811491368 := ()
def tw4784872735787355308 := ()
end PySem.W.Fast
open PySem PySem.W PyProof.Rows
set_option maxRecDepth 100000 in
set_option maxHeartbeats 0 in
theorem PySem.Challenge.cw_earlystop_k37_lines_of_no_rule_holds : PySem.Challenge.rw_earlystop_k37_lines_of_no_rule.Holds := by
  w_on; o_law; k_head; (case hw=>w_witness2)
  k_fill
  refine L2.walk_ofK (l:=PySem.Challenge.rw_earlystop_k37_lines_of_no_rule) (n:=63) (k:=9) (x := "_law_script") (CX:=L2.CX0) (sp:=fun K=>Kw.sp_law K) rfl (by decide) rfl ⟨rfl,by decide,by decide,rfl⟩ (fun w h Y=>PySem.W.kIn_of Y) ?F (fun K H a ns hl _ hS=>Kw.sp_law_i hS hl) (fun _ _ _ _ z=>z)
  case F =>
    intro w mg fa h KX G hmg
    refine' Kw.all_mk KX G hmg ?u_EarlyError ?u_NoTrial ?u_NoRule ?u_NoBounds ?u_NoLook ?u_NoPaper ?u_NoLines ?u_NoFraction ?u_NoOrder ?u_NoBack ?u_NoRow ?u_FIGURES ?u_MOST_FIGURES ?u_LEAST_NAMES ?u_MOST_NAMES ?u_RULE_WORD ?u_ENTRY_WORD ?u_SAYS_WORD ?x_NoFraction ?ga_NoFraction ?gt_NoFraction ?su_NoFraction ?cl_NoFraction ?kc_NoFraction ?kg_NoFraction ?kt_NoFraction ?ob_NoFraction ?ty_NoFraction ?cm_NoFraction ?sb_NoFraction ?y0 ?ty_NoLines ?cm_NoLines ?sb_NoLines ?t0 ?t1 ?t2 ?t3 ?y1 ?y4 ?y5 ?y2 ?y3 ?a0 ?l0 ?c0 ?k0 ?fn0 ?kp0 ?a1 ?l1 ?c1 ?k1 ?a2 ?l2 ?c2 ?k2 ?a3 ?l3 ?c3 ?k3 ?a4 ?l4 ?c4 ?k4 ?a5 ?l5 ?c5 ?k5 ?a6 ?l6 ?c6 ?k6 ?a7 ?l7 ?c7 ?k7 ?a8 ?l8 ?c8 ?k8 ?a9 ?l9 ?c9 ?k9 ?a10 ?l10 ?c10 ?k10 ?a11 ?l11 ?c11 ?k11 ?a12 ?l12 ?c12 ?k12 ?a13 ?l13 ?c13 ?k13 ?a14 ?l14 ?c14 ?k14 ?a15 ?l15 ?c15 ?k15 ?a16 ?l16 ?c16 ?k16 ?a17 ?l17 ?c17 ?k17 ?a18 ?l18 ?c18 ?k18 ?a19 ?l19 ?c19 ?k19 ?a20 ?l20 ?c20 ?k20 ?a21 ?l21 ?c21 ?k21 ?a22 ?l22 ?c22 ?k22 ?a23 ?l23 ?c23 ?k23 ?a24 ?l24 ?c24 ?k24 ?a25 ?l25 ?c25 ?k25 ?a26 ?l26 ?c26 ?k26 ?a27 ?l27 ?c27 ?k27 ?a28 ?l28 ?c28 ?k28 ?a29 ?l29 ?c29 ?k29 ?a30 ?l30 ?c30 ?k30 ?a31 ?l31 ?c31 ?k31 ?z0 ?z1 ?z2 ?z3 ?z4 ?z5 ?z6 ?z7 ?z8 ?z9 ?z10 ?z11 ?z12 ?z13 ?z14
    (case u_EarlyError=>k_is); (case u_NoTrial=>k_is); (case u_NoRule=>k_is); (case u_NoBounds=>k_is); (case u_NoLook=>k_is); (case u_NoPaper=>k_is); (case u_NoLines=>k_is); (case u_NoFraction=>k_is); (case u_NoOrder=>k_is); (case u_NoBack=>k_is); (case u_NoRow=>k_is); (case u_FIGURES=>k_is); (case u_MOST_FIGURES=>k_is); (case u_LEAST_NAMES=>k_is); (case u_MOST_NAMES=>k_is); (case u_RULE_WORD=>k_is); (case u_ENTRY_WORD=>k_is); (case u_SAYS_WORD=>k_is); (case x_NoFraction=>k_exc); (case ga_NoFraction=>k_is); (case gt_NoFraction=>k_is); (case su_NoFraction=>k_is); (case cl_NoFraction=>k_is); (case kc_NoFraction=>k_is); (case kg_NoFraction=>k_is); (case kt_NoFraction=>k_is); (case ob_NoFraction=>k_is); (case ty_NoFraction=>k_is); (case cm_NoFraction=>k_is); (case sb_NoFraction=>k_is); (case y0=>k_is); (case ty_NoLines=>k_is); (case cm_NoLines=>k_is); (case sb_NoLines=>k_is); (case t0=>kernel_rfl); (case t1=>kernel_rfl); (case t2=>kernel_rfl); (case t3=>k_is); (case y1=>kit_is); (case y4=>kit_is); (case y5=>kit_is); (case y2=>kernel_rfl); (case y3=>k_is); (case a0=>k_is); (case l0=>k_is); (case c0=>k_is); (case k0=>k_is); (case fn0=>k_is); (case kp0=>k_is); (case a1=>k_is); (case l1=>k_is); (case c1=>k_is); (case k1=>k_is); (case a2=>k_is); (case l2=>k_is); (case c2=>k_is); (case k2=>k_is); (case a3=>k_is); (case l3=>k_is); (case c3=>k_is); (case k3=>k_is); (case a4=>k_is); (case l4=>k_is); (case c4=>k_is); (case k4=>k_is); (case a5=>k_is); (case l5=>k_is); (case c5=>k_is); (case k5=>k_is); (case a6=>k_is); (case l6=>k_is); (case c6=>k_is); (case k6=>k_is); (case a7=>k_is); (case l7=>k_is); (case c7=>k_is); (case k7=>k_is); (case a8=>k_is); (case l8=>k_is); (case c8=>k_is); (case k8=>k_is); (case a9=>k_is); (case l9=>k_is); (case c9=>k_is); (case k9=>k_is); (case a10=>k_is); (case l10=>k_is); (case c10=>k_is); (case k10=>k_is); (case a11=>k_is); (case l11=>k_is); (case c11=>k_is); (case k11=>k_is); (case a12=>k_is); (case l12=>k_is); (case c12=>k_is); (case k12=>k_is); (case a13=>k_is); (case l13=>k_is); (case c13=>k_is); (case k13=>k_is); (case a14=>k_is); (case l14=>k_is); (case c14=>k_is); (case k14=>k_is); (case a15=>k_is); (case l15=>k_is); (case c15=>k_is); (case k15=>k_is); (case a16=>k_is); (case l16=>k_is); (case c16=>k_is); (case k16=>k_is); (case a17=>k_is); (case l17=>k_is); (case c17=>k_is); (case k17=>k_is); (case a18=>k_is); (case l18=>k_is); (case c18=>k_is); (case k18=>k_is); (case a19=>k_is); (case l19=>k_is); (case c19=>k_is); (case k19=>k_is); (case a20=>k_is); (case l20=>k_is); (case c20=>k_is); (case k20=>k_is); (case a21=>k_is); (case l21=>k_is); (case c21=>k_is); (case k21=>k_is); (case a22=>k_is); (case l22=>k_is); (case c22=>k_is); (case k22=>k_is); (case a23=>k_is); (case l23=>k_is); (case c23=>k_is); (case k23=>k_is); (case a24=>k_is); (case l24=>k_is); (case c24=>k_is); (case k24=>k_is); (case a25=>k_is); (case l25=>k_is); (case c25=>k_is); (case k25=>k_is); (case a26=>k_is); (case l26=>k_is); (case c26=>k_is); (case k26=>k_is); (case a27=>k_is); (case l27=>k_is); (case c27=>k_is); (case k27=>k_is); (case a28=>k_is); (case l28=>k_is); (case c28=>k_is); (case k28=>k_is); (case a29=>k_is); (case l29=>k_is); (case c29=>k_is); (case k29=>k_is); (case a30=>k_is); (case l30=>k_is); (case c30=>k_is); (case k30=>k_is); (case a31=>k_is); (case l31=>k_is); (case c31=>k_is); (case k31=>k_is); (case z0=>k_is); (case z1=>k_is); (case z2=>k_is); (case z3=>k_is); (case z4=>k_is); (case z5=>k_is); (case z6=>k_is); (case z7=>k_is); (case z8=>k_is); (case z9=>k_is); (case z10=>k_is); (case z11=>k_is); (case z12=>k_is); (case z13=>k_is); (case z14=>k_is)
