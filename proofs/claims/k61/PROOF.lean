import PyProof.Rows.All
import Wide.All
import OpenK.AllK
import Wide.FinOn
import Lean
import PyProof.EqAt
import PyProof.EqKinds
import PyProof.TupleCall
import KE.IntBitsLaws
import PyProof.ZipIter
import PyProof.EnumMake
import PyProof.Rows.StrJoin2
import PyProof.Rows.CallKwBuiltin
import PyProof.ListMulRoad
import PyProof.AutoListH
import PyProof.Rows.SeqMore
import PyProof.StationsW
import PyProof.Rows.CatchBare
import OpenK.KRaise
import KE.KIsAll
import OpenK.KOwn
import PyProof.Rows.Digits
import PyProof.Rows.StrOr
import PyProof.StrCalls2
import PyProof.StrBlock2
import KE.KIntText
import KE.KRevIter
import KE.LcSums
import PyProof.SliceStr2
import PyProof.StrBlockG
import PyProof.JoinWalk
import PyProof.StrWalks
import PyProof.StrLawsIn
import PyProof.StrLawsIdx
import PyProof.StrLawsChain
import PyProof.Rows.StrSplitCount
import PyProof.Rows.StrSplitJoin
import KE.IntTextText
import PyProof.Rows.SumAny
import PyProof.WalksMore
import KE.KSortTup
import PyProof.ExcInit
import PyProof.AttrMissHeap
import PyProof.TupleIter
import KE.KDictOf
import PyProof.DictWalks
import PyProof.DictValues
import KE.KDictList
import PyProof.Rows.MinMaxN
import PyProof.Rows.TupDisplay
import PyProof.DictTruth
import PySem.Challenge.RW_earlystop_k61_lines_of_no_paper
set_option Elab.async false
set_option linter.all false
set_option maxRecDepth 100000
namespace L2
open PySem PySem.Spec PyProof.Rows
abbrev Key:=Sum Int Str
def keyIs:Key→Value→Bool
  | .inl k,v=>Value.isInt k v
  | .inr x,v=>Value.isStrOf x v
def keyH (w:World):Key→Int
  | .inl k=>hashInt k
  | .inr x=>hashStr w x
theorem keyIs_shape:∀ {k:Key} {v:Value},keyIs k v=true→(∃ i t,k=Sum.inl i∧v=Value.int i t)∨(∃ x t,k=Sum.inr x∧v=Value.str x t)
  | .inl i,v,h=>by
    obtain ⟨t,e⟩:=Value.isInt_shape (k:=i) (v:=v) h
    exact .inl ⟨i,t,rfl,e⟩
  | .inr x,v,h=>by
    obtain ⟨t,e⟩:=Value.isStrOf_shape (x:=x) (v:=v) h
    exact .inr ⟨x,t,rfl,e⟩
theorem keyIs_int (i:Int) (t:Tok):keyIs (.inl i) (.int i t)=true:=by simp [keyIs,Value.isInt]
theorem keyIs_str (x:Str) (t:Tok):keyIs (.inr x) (.str x t)=true:=by simp [keyIs,Value.isStrOf]
theorem key_ll (a b:Int):decide ((Sum.inl a:Key)=Sum.inl b)=(a == b):=by
  by_cases e:a=b
  · subst e; simp
  · have h:¬ (Sum.inl a:Key)=Sum.inl b:=fun q=>e (Sum.inl.inj q)
    rw [decide_eq_false h]
    exact (beq_eq_false_iff_ne.mpr e).symm
theorem key_rr (a b:Str):decide ((Sum.inr a:Key)=Sum.inr b)=decide (a=b):=by
  by_cases e:a=b
  · subst e; simp
  · have h:¬ (Sum.inr a:Key)=Sum.inr b:=fun q=>e (Sum.inr.inj q)
    rw [decide_eq_false h,decide_eq_false e]
theorem key_lr (a:Int) (b:Str):decide ((Sum.inl a:Key)=Sum.inr b)=false:=decide_eq_false (fun q=>nomatch q)
theorem key_rl (a:Str) (b:Int):decide ((Sum.inr a:Key)=Sum.inl b)=false:=decide_eq_false (fun q=>nomatch q)
def mixKind (prog:Program) (w:World):PySem.KeyKind prog w Key where
  is:=keyIs
  hash:=keyH w
  inj:=fun v a b ha hb=>by
    rcases keyIs_shape ha with ⟨i,t,rfl,rfl⟩ | ⟨x,t,rfl,rfl⟩
    · rcases keyIs_shape hb with ⟨j,u,rfl,e⟩ | ⟨y,u,rfl,e⟩
      · injection e with e1 _; rw [e1]
      · exact nomatch e
    · rcases keyIs_shape hb with ⟨j,u,rfl,e⟩ | ⟨y,u,rfl,e⟩
      · exact nomatch e
      · injection e with e1 _; rw [e1]
  byValue:=fun k v h=>by
    rcases keyIs_shape h with ⟨i,t,rfl,rfl⟩ | ⟨x,t,rfl,rfl⟩ <;> rfl
  pyHash:=fun hv h=>by
    rcases keyIs_shape hv with ⟨i,t,rfl,rfl⟩ | ⟨x,t,rfl,rfl⟩
    · exact wpAny_pyHash_int h
    · exact wpAny_pyHash_str h
  eqBool:=fun hu hv h=>by
    rcases keyIs_shape hu with ⟨i,t,rfl,rfl⟩ | ⟨x,t,rfl,rfl⟩
    · rcases keyIs_shape hv with ⟨j,u,rfl,rfl⟩ | ⟨y,u,rfl,rfl⟩
      · rw [key_ll] at h; exact wpAny_eqBool_int h
      · rw [key_lr] at h; exact SeqAt.EqAt.int_str i t y u _ _ _ _ h
    · rcases keyIs_shape hv with ⟨j,u,rfl,rfl⟩ | ⟨y,u,rfl,rfl⟩
      · rw [key_rl] at h; exact SeqAt.EqAt.str_int x t j u _ _ _ _ h
      · rw [key_rr] at h; exact wpAny_eqBool_str h
  «strs» := fun k x t v h=>by
    rcases keyIs_shape h with ⟨i,u,rfl,e⟩ | ⟨y,u,rfl,e⟩
    · exact nomatch e
    · injection e with e1 _
      subst e1
      cases v <;> rfl
theorem mixKind_int (prog:Program) (w:World) (i:Int) (t:Tok):(mixKind prog w).is (.inl i) (.int i t)=true:=keyIs_int i t
theorem mixKind_str (prog:Program) (w:World) (x:Str) (t:Tok):(mixKind prog w).is (.inr x) (.str x t)=true:=keyIs_str x t
end L2
namespace L2
open PySem PySem.Spec PyProof.Rows
inductive V where
  | non | bl (b:Bool) | int (i:Int) | str (x:Str) | byt (b:Array UInt8) | flt (b:UInt64) | ref (a:Addr) | ty (n:String)
  deriving DecidableEq
def RelV:V→Value→Prop
  | .non,u=>u=Value.none
  | .bl b,u=>u=Value.bool b
  | .int i,u=>∃ t,u=Value.int i t
  | .str x,u=>∃ t,u=Value.str x t
  | .byt b,u=>∃ t,u=Value.bytes b t
  | .flt b,u=>∃ t,u=Value.float b t
  | .ref a,u=>u=Value.ref a
  | .ty n,u=>u=Value.type n
abbrev Vals:List V→List Value→Prop:=Paired RelV
theorem Vals.length {xs:List V} {us:List Value} (r:Vals xs us):xs.length=us.length:=Paired.length r
theorem Vals.get:∀ {xs:List V} {us:List Value} {i:Nat} {x:V},Vals xs us→xs[i]?=some x→∃ u,us[i]?=some u∧RelV x u
  | _,_,_,_,.nil,e=>by simp at e
  | _,_,0,_,.cons r _,e=>by simp at e; subst e; exact ⟨_,rfl,r⟩
  | _,_,i+1,x,.cons _ t,e=>by
    obtain ⟨u,h1,h2⟩:=Vals.get (i:=i) (x:=x) t (by simpa using e)
    exact ⟨u,by simpa using h1,h2⟩
theorem Vals.append:∀ {xs ys:List V} {us ws:List Value},Vals xs us→Vals ys ws→Vals (xs++ys) (us++ws)
  | _,_,_,_,.nil,s=>s
  | _,_,_,_,.cons r t,s=>.cons r (Vals.append t s)
theorem Vals.take:∀ {xs:List V} {us:List Value} (n:Nat),Vals xs us→Vals (xs.take n) (us.take n)
  | _,_,0,_=>.nil
  | _,_,_+1,.nil=>.nil
  | _,_,n+1,.cons r t=>.cons r (Vals.take n t)
theorem Vals.drop:∀ {xs:List V} {us:List Value} (n:Nat),Vals xs us→Vals (xs.drop n) (us.drop n)
  | _,_,0,r=>r
  | _,_,_+1,.nil=>.nil
  | _,_,n+1,.cons _ t=>Vals.drop n t
def RelO:Option V→Option Value→Prop
  | some v,some u=>RelV v u
  | none,none=>True
  | _,_=>False
def KV {κ:Type}:List (κ × V)→List (κ × Value)→Prop:=Paired fun (p:κ × V) (q:κ × Value)=>p.1=q.1∧RelV p.2 q.2
def kV:Key→V
  | .inl i=>.int i
  | .inr x=>.str x
inductive HO where
  /-- a list -/
  | lst (xs:List V)
  /-- a tuple (never changes) -/
  | tup (xs:List V)
  /-- a dict whose keys are ints and texts; one whose keys are tuples of ints and texts (the empty one is both) -/
  | dK (kvs:List (Key × V)) | dT (kvs:List (List Key × V))
  /-- a set of ints: its members,its size -/
  | set (S:Int→Bool) (n:Nat)
  /-- an instance of the class at C,its dict at dx,its attributes -/
  | ins (C dx:Addr) (fs:List (Str × V))
  /-- the dict of the instance at x -/
  | own (x:Addr)
  /-- the dict of an exception -/
  | xd (fs:List (Str × V))
  /-- a bound method,f of x -/
  | met (f x:Addr)
  /-- a range object lo,lo+1,.. below hi -/
  | rng (lo hi:Int)
  /-- a thing that is known to the object (the script; a dict while a loop walks it): read,never written while it is so -/
  | frz (o:Obj) (u:HO)
  /-- a code object's table -/
  | tbl (ps:Array Value)
  /-- any other thing,by what is true of its one object (a def of one's own: SetO a S n:=HO.ext fun h=>..) -/
  | ext (φ:Heap→Prop)
abbrev Hp:=Addr→Option HO
def upd (H:Hp) (a:Addr) (o:HO):Hp:=fun b=>if b=a then some o else H b
theorem upd_same {H:Hp} {a:Addr} {o:HO}:upd H a o a=some o:=by unfold upd; rw [if_pos rfl]
theorem upd_ne {H:Hp} {a b:Addr} {o:HO} (h:b≠a):upd H a o b=H b:=by unfold upd; rw [if_neg h]
theorem ne_of {H:Hp} {a b:Addr} {o u:HO} (h:H a=some o) (h':H b=some u) (d:o≠u):a≠b:=by
  intro e; subst e; rw [h] at h'; exact d (Option.some.inj h')
theorem ne_of_none {H:Hp} {a b:Addr} {o:HO} (h:H a=some o) (h':H b=none):a≠b:=by
  intro e; subst e; rw [h] at h'; cases h'
section
variable (P:Program) (w:World)
def ObjOk (H:Hp) (h:Heap) (a:Addr):HO→Prop
  | .lst xs=>xs.length≤sizeLine∧∃ (its:List Value) (n:Nat),Vals xs its∧h.get? a=some { cls:=.type "list",data:=.seq its.toArray n }
  | .tup xs=>(xs.length≤sizeLine∧∃ o,h.get? a=some o∧o.dict=none)∧∃ its:List Value,Vals xs its∧IsTup h a its.toArray
  | .dK kvs=>kvs.length≤sizeLine∧(a == sysModules)=false∧∃ vs,KV kvs vs∧h.DictOf (mixKind P w) a vs
  | .dT kvs=>kvs.length≤sizeLine∧(a == sysModules)=false∧∃ xs:List (List Key × Addr × Value),
      Paired (fun (p:List Key × V) (q:List Key × Addr × Value)=>p.1=q.1∧H q.2.1=some (.tup (p.1.map kV))∧RelV p.2 q.2.2) kvs xs ∧
      ∃ o es ep,h.get? a=some o∧o.ExactDict∧o.data=.dict es ep∧es.toList=xs.map (entryOfKey (tupleKind (mixKind P w)))∧(xs.map (·.1)).Nodup
  | .set S n=>h.SetOf (intKind P w) a S n
  | .ins C dx fs=>H dx=some (.own a)∧fs.length≤1000∧dx≠a∧h.get? a=some (PySem.W.instObj C dx) ∧
      ∃ mA,h.Ns1 dx mA∧(∀ f,RelO (fs.lookup f) (mA f))∧PySem.Within mA (fs.map (·.1))
  | .own _=>∃ o,h.get? a=some o
  | .xd fs=>∃ mA,h.Ns1 a mA∧∀ f,RelO (fs.lookup f) (mA f)
  | .rng lo hi=>∃ t u v,h.get? a=some { cls:=.type "range",data:=.fields #[.int lo t,.int hi u,.int 1 v] }
  | .frz o u=>h.get? a=some o∧ObjOk H h a u
  | .tbl ps=>h.get? a=some { cls:=.none,data:=.fields ps }
  | .met f x=>h.get? a=some (PySem.W.methodObj (.ref f) (.ref x))
  | .ext φ=>φ h∧(∃ o,h.get? a=some o)∧∀ h1 h2:Heap,φ h1→(∀ o,h1.get? a=some o→h2.get? a=some o)→φ h2
def HOk (H:Hp) (h:Heap):Prop:=∀ a o,H a=some o→ObjOk P w H h a o
end
section
variable {P:Program} {w:World} {H H':Hp} {h h':Heap} {a:Addr} {o:HO}
theorem ObjOk.lt (x:ObjOk P w H h a o):a<h.objs.size:=by
  cases o with
  | lst xs=>obtain ⟨_,_,_,_,e⟩:=x; exact Heap.lt_size e
  | tup xs=>obtain ⟨_,_,_,p⟩:=x; exact p.lt
  | dK kvs=>obtain ⟨_,_,_,_,o,_,_,e,_⟩:=x; exact Heap.lt_size e
  | dT kvs=>obtain ⟨_,_,_,_,o,_,_,e,_⟩:=x; exact Heap.lt_size e
  | set S n=>obtain ⟨o,_,_,_,e,_⟩:=x; exact Heap.lt_size e
  | ins C dx fs=>obtain ⟨_,_,_,e,_⟩:=x; exact Heap.lt_size e
  | own y=>obtain ⟨_,e⟩:=x; exact Heap.lt_size e
  | xd fs=>obtain ⟨_,⟨_,_,_,e,_⟩,_⟩:=x; exact Heap.lt_size e
  | rng lo hi=>obtain ⟨_,_,_,e⟩:=x; exact Heap.lt_size e
  | frz ob u=>obtain ⟨e,_⟩:=x; exact Heap.lt_size e
  | tbl ps=>exact Heap.lt_size (show h.get? a=some _ from x)
  | met f y=>exact Heap.lt_size (show h.get? a=some _ from x)
  | ext φ=>obtain ⟨_,⟨_,e⟩,_⟩:=x; exact Heap.lt_size e
theorem Paired.mapP {α β:Type} {F G:α→β→Prop}:∀ {l₁:List α} {l₂:List β},Paired F l₁ l₂→(∀ a b,F a b→G a b)→Paired G l₁ l₂
  | _,_,.nil,_=>.nil
  | _,_,.cons r t,f=>.cons (f _ _ r) (Paired.mapP t f)
theorem ObjOk.stay (x:ObjOk P w H h a o) (k:∀ b u,(b=a∨H b=some (.own a))→h.get? b=some u→h'.get? b=some u)
    (ho:∀ b,H b=some (.own a)→H' b=some (.own a)) (ht:∀ b xs,H b=some (.tup xs)→H' b=some (.tup xs)):ObjOk P w H' h' a o:=by
  induction o with
  | lst xs=>obtain ⟨z,its,n,r,e⟩:=x; exact ⟨z,its,n,r,k _ _ (.inl rfl) e⟩
  | tup xs=>obtain ⟨⟨z,on,en,dn⟩,its,r,ob,e,c⟩:=x; exact ⟨⟨z,on,k _ _ (.inl rfl) en,dn⟩,its,r,ob,k _ _ (.inl rfl) e,c⟩
  | dK kvs=>obtain ⟨z,y,vs,r,ob,es,ep,e,c⟩:=x; exact ⟨z,y,vs,r,ob,es,ep,k _ _ (.inl rfl) e,c⟩
  | dT kvs =>
    obtain ⟨z,y,xs,r,ob,es,ep,e,c⟩:=x
    exact ⟨z,y,xs,Paired.mapP r fun p q z=>⟨z.1,ht _ _ z.2.1,z.2.2⟩,ob,es,ep,k _ _ (.inl rfl) e,c⟩
  | set S n=>obtain ⟨ob,es,ep,t,e,c⟩:=x; exact ⟨ob,es,ep,t,k _ _ (.inl rfl) e,c⟩
  | ins C dx fs =>
    obtain ⟨d,z,ne,e,mA,⟨od,es,ep,e2,c⟩,r⟩:=x
    exact ⟨ho _ d,z,ne,k _ _ (.inl rfl) e,mA,⟨od,es,ep,k _ _ (.inr d) e2,c⟩,r⟩
  | own y=>obtain ⟨ob,e⟩:=x; exact ⟨ob,k _ _ (.inl rfl) e⟩
  | xd fs=>obtain ⟨mA,⟨od,es,ep,e,c⟩,r⟩:=x; exact ⟨mA,⟨od,es,ep,k _ _ (.inl rfl) e,c⟩,r⟩
  | rng lo hi=>obtain ⟨t,u,v,e⟩:=x; exact ⟨t,u,v,k _ _ (.inl rfl) e⟩
  | frz ob u ih=>obtain ⟨e,q⟩:=x; exact ⟨k _ _ (.inl rfl) e,ih q⟩
  | tbl ps =>
    have e:h.get? a=some { cls:=.none,data:=.fields ps }:=x
    show h'.get? a=some { cls:=.none,data:=.fields ps }
    exact k a _ (.inl rfl) e
  | met f y =>
    have e:h.get? a=some (PySem.W.methodObj (.ref f) (.ref y)):=x
    show h'.get? a=some (PySem.W.methodObj (.ref f) (.ref y))
    exact k a _ (.inl rfl) e
  | ext φ=>obtain ⟨p,⟨o,e⟩,st⟩:=x; exact ⟨st _ _ p fun o q=>k _ _ (.inl rfl) q,⟨o,k _ _ (.inl rfl) e⟩,st⟩
theorem HOk.lt (x:HOk P w H h) (e:H a=some o):a<h.objs.size:=(x a o e).lt
theorem HOk.fresh (x:HOk P w H h) (e:h.objs.size≤a):H a=none:=by
  cases q:H a with
  | none=>rfl
  | some u=>exact absurd (Nat.lt_of_lt_of_le (x.lt q) e) (Nat.lt_irrefl _)
theorem HOk.kept (x:HOk P w H h) (k:∀ b u,h.get? b=some u→h'.get? b=some u):HOk P w H h':=fun a o e =>
  (x a o e).stay (fun b u _ q=>k b u q) (fun _ q=>q) fun _ _ q=>q
theorem HOk.laid (x:HOk P w H h) (k:∀ b u,h.get? b=some u→h'.get? b=some u) (hp:h.objs.size≤a) (new:ObjOk P w (upd H a o) h' a o):HOk P w (upd H a o) h':=fun b u e=>by
  have hn:=x.fresh hp
  by_cases hb:b=a
  · subst hb; rw [upd_same] at e; cases e; exact new
  · rw [upd_ne hb] at e
    exact (x b u e).stay (fun c v _ q=>k c v q) (fun c q=>by rw [upd_ne (ne_of_none q hn)]; exact q) fun c xs q=>by rw [upd_ne (ne_of_none q hn)]; exact q
end
def Rd (H:Hp) (a:Addr) (u:HO):Prop:=H a=some u∨∃ o,H a=some (.frz o u)
theorem Rd.ok {P:Program} {w:World} {H:Hp} {h:Heap} {a:Addr} {u:HO} (r:Rd H a u) (x:HOk P w H h):ObjOk P w H h a u:=by
  rcases r with r | ⟨o,r⟩
  · exact x a u r
  · obtain ⟨_,q⟩:=x a _ r
    exact q
def Mut:Option HO→Prop
  | some (.lst _)=>True
  | some (.dK _)=>True
  | some (.dT _)=>True
  | some (.set _ _)=>True
  | some (.ins _ _ _)=>True
  | some (.ext _)=>True
  | _=>False
section
variable {P:Program} {w:World} {H:Hp} {h h':Heap} {x e:Addr} {o':HO}
theorem HOk.write (ok:HOk P w H h) (mu:Mut (H x)) (he:e=x∨H e=some (.own x)) (k:∀ b u,b≠e→h.get? b=some u→h'.get? b=some u) (heo:∃ u,h'.get? e=some u)
    (new:ObjOk P w (upd H x o') h' x o'):HOk P w (upd H x o') h':=fun b u q=>by
  have nown:∀ c y,H c=some (.own y)→c≠x:=fun c y r z=>by subst z; rw [r] at mu; exact mu
  have ntup:∀ c xs,H c=some (.tup xs)→c≠x:=fun c xs r z=>by subst z; rw [r] at mu; exact mu
  by_cases hb:b=x
  · subst hb; rw [upd_same] at q; cases q; exact new
  · rw [upd_ne hb] at q
    by_cases hbe:b=e
    · have q':H b=some (.own x):=by
        rcases he with z | z
        · exact absurd (hbe.trans z) hb
        · rw [hbe]; exact z
      rw [q] at q'; cases q'
      obtain ⟨v,hv⟩:=heo
      exact ⟨v,by rw [hbe]; exact hv⟩
    · refine (ok b u q).stay (fun c v hc r=>k c v ?_ r) (fun c r=>by rw [upd_ne (nown c b r)]; exact r) fun c xs r=>by rw [upd_ne (ntup c xs r)]; exact r
      rcases hc with rfl | hc
      · exact hbe
      · rintro rfl
        rcases he with z | z
        · exact nown c b hc z
        · rw [hc] at z; cases z; exact hb rfl
end
structure Un (fs ex:List Addr) (H H':Hp) (h h':Heap):Prop where
  keep:∀ b o,h.get? b=some o→H b=none→b ∉ fs→b ∉ ex→h'.get? b=some o
  slot:∀ b o,h.get? b=some o→H b=none→b∈fs→b ∉ ex→∃ sl,h'.get? b=some { o with slots:=sl }
  free:∀ b o,h.get? b=some o→H b=none→b ∉ ex→H' b=none
  there:∀ b o,h.get? b=some o→b ∉ ex→∃ o',h'.get? b=some o'
  tups:∀ b xs,H b=some (.tup xs)→H' b=some (.tup xs)
  frzs:∀ b o u,H b=some (.frz o u)→H' b=some (.frz o u)
  tbls:∀ b ps,H b=some (.tbl ps)→∃ more,H' b=some (.tbl (ps++more))
section
variable {fs fs' ex ex':List Addr} {H H1 H2:Hp} {h h1 h2 h':Heap} {a x e:Addr} {o:HO}
theorem Un.any (u:Un fs ex H H1 h h1) {b:Addr} {ob:Obj} (q:h.get? b=some ob) (n:H b=none) (hx:b ∉ ex):∃ sl,h1.get? b=some { ob with slots:=sl }:=by
  by_cases hb:b∈fs
  · exact u.slot b ob q n hb hx
  · exact ⟨ob.slots,u.keep b ob q n hb hx⟩
theorem Un.kept (k:∀ b u,h.get? b=some u→h'.get? b=some u):Un fs ex H H h h' :=
  ⟨fun b ob q _ _ _=>k b ob q,fun b ob q _ _ _=>⟨ob.slots,k b ob q⟩,fun _ _ _ n _=>n,fun b ob q _=>⟨ob,k b ob q⟩,fun _ _ q=>q,fun _ _ _ q=>q,fun _ ps q=>⟨#[],by rw [q]; simp⟩⟩
theorem Un.refl:Un fs ex H H h h:=Un.kept fun _ _ q=>q
theorem Un.laid (k:∀ b u,h.get? b=some u→h'.get? b=some u) (hp:h.objs.size≤a) (hn:H a=none):Un fs ex H (upd H a o) h h' where
  keep:=fun b u q _ _ _=>k b u q
  slot:=fun b u q _ _ _=>⟨u.slots,k b u q⟩
  free:=fun b u q n _=>by rw [upd_ne (Nat.ne_of_lt (Nat.lt_of_lt_of_le (Heap.lt_size q) hp))]; exact n
  there:=fun b u q _=>⟨u,k b u q⟩
  tups:=fun b xs q=>by rw [upd_ne (ne_of_none q hn)]; exact q
  frzs:=fun b u xs q=>by rw [upd_ne (ne_of_none q hn)]; exact q
  tbls:=fun b ps q=>⟨#[],by rw [upd_ne (ne_of_none q hn),q]; simp⟩
theorem Un.write (mu:Mut (H x)) (he:e=x∨H e=some (.own x)) (k:∀ b u,b≠e→h.get? b=some u→h'.get? b=some u) (heo:∃ u,h'.get? e=some u):Un fs ex H (upd H x o) h h':=by
  have hx:∀ b,H b=none→b≠x:=fun b n z=>by subst z; rw [n] at mu; exact mu
  have hb:∀ b,H b=none→b≠e:=fun b n z=>by
    subst z
    rcases he with r | r
    · exact hx b n r
    · rw [n] at r; cases r
  have hm:∀ b u,H b=some u→¬ Mut (some u)→b≠x:=fun b u q nm z=>by subst z; rw [q] at mu; exact nm mu
  refine ⟨fun b u q n _ _=>k b u (hb b n) q,fun b u q n _ _=>⟨u.slots,k b u (hb b n) q⟩,fun b u q n _=>by rw [upd_ne (hx b n)]; exact n,fun b u q _=>?_,
    fun b xs q=>by rw [upd_ne (hm b _ q fun z=>z)]; exact q,fun b u xs q=>by rw [upd_ne (hm b _ q fun z=>z)]; exact q,fun b ps q=>⟨#[],by rw [upd_ne (hm b _ q fun z=>z),q]; simp⟩⟩
  by_cases hbe:b=e
  · subst hbe; exact heo
  · exact ⟨u,k b u hbe q⟩
end
def trk (h:Heap) (H:Hp):List Addr:=(List.range h.objs.size).filter fun a=>(H a).isSome
def hidT (h:Heap) (H:Hp):Heap:=PySem.W.hideAll h (trk h H)
theorem hidT_size (h:Heap) (H:Hp):(hidT h H).objs.size=h.objs.size:=PySem.W.hideAll_size _ _
theorem hidT_get {h:Heap} {H:Hp} {b:Addr} {o:Obj} (e:h.get? b=some o) (n:H b=none):(hidT h H).get? b=some o :=
  PySem.W.hideAll_get _ e fun hm=>by
    have q:(H b).isSome=true:=(List.mem_filter.mp hm).2
    rw [n] at q; simp at q
theorem of_hidT {h:Heap} {H:Hp} {b:Addr} {o:Obj} (e:(hidT h H).get? b=some o):h.get? b=some o∧H b=none:=by
  have e':h.get? b=some o:=PySem.W.of_hideAll (trk h H) e
  refine ⟨e',?_⟩
  cases q:H b with
  | none=>rfl
  | some x =>
    have hm:b∈trk h H:=List.mem_filter.mpr ⟨List.mem_range.mpr (Heap.lt_size e'),by simp [q]⟩
    have z:(hidT h H).get? b=none:=PySem.W.hideAll_none (trk h H) hm
    rw [z] at e; cases e
end L2
namespace L2
open PySem PySem.Spec PyProof.Rows
structure Mod (K:PySem.W.Frag) (mg:Str→Option Value) (base:Heap):Prop where
  kin:K.In base
  glob:base.Ns mainGlobals mg
  blt:∃ mb,base.Ns builtinsNs mb∧∀ x:Str,x ≠ "__name__" → mb x=bootBuiltins x
  nolimit:base.NoLimit
/-- the context: a def's body (or a comprehension's block) running. base: fixed through the whole law; s₀,H₀: the entry; outer: the frames whose slots others may change (a def's callers); stack: all frames that run;
   ex: iterators that were made ahead of the entry and are walked here (a comprehension's); fn: the names whose cells were made at the entry (a def: all; a comprehension's block: its own); calm: not within an except suite; pn: pins that every state bears; xe: what is wanted of an exception that leaves the code -/
structure Cx where
  prog:Program
  w:World
  K:PySem.W.Frag
  mg:Str→Option Value
  base:Heap
  A:Around
  N:List Str
  s₀:Shared
  H₀:Hp
  env:Env
  outer:List Env
  stack:List Env
  ex:List Addr
  fn:Str→Bool
  calm:Bool
  pn:List (Addr × Obj)
  xe:Value→Shared→Prop
def frs (l:List Env):List Addr:=l.filterMap (·.frame)
abbrev Cx.fs (X:Cx):List Addr:=frs X.outer
def Vis (sc:Scope) (x:Str):Prop:=sc.names.lookup x=some .local∨sc.names.lookup x=some .cell∨sc.names.lookup x=some .free
def Loc (sc:Scope) (x:Str):Prop:=sc.names.lookup x=some .local∨sc.names.lookup x=some .cell
def Look (env:Env) (h:Heap) (m:Str→Option Value) (x:Str) (u:Value):Prop :=
  (env.kindOf x=some .local∧m x=some u)∨((env.kindOf x=some .cell∨env.kindOf x=some .free)∧∃ c,env.cells.lookup x=some c∧h.IsCell c (some u))
structure Cx.Ok (X:Cx):Prop where
  mod:Mod X.K X.mg X.base
  kind:X.env.scope.kind=.function
  glob:X.env.globals=mainGlobals
  blt:X.env.builtins=builtinsNs
  above:X.s₀.heap.objs.size≤X.env.locals
  inj:∀ x y c,X.env.cells.lookup x=some c→X.env.cells.lookup y=some c→x=y
  has:∀ x,(X.env.kindOf x=some .cell∨X.env.kindOf x=some .free)→∃ c,X.env.cells.lookup x=some c
  cab:∀ x c,X.fn x=true→X.env.cells.lookup x=some c→X.s₀.heap.objs.size≤c
  hd:X.calm=true→X.A.handled=none
  frames:X.A.frames=some X.stack
  stk:X.stack=X.outer∨(X.stack=X.env::X.outer∧X.env.frame=some X.env.locals)
  exf:∀ b∈X.ex,b≠X.env.locals∧∀ x c,X.env.cells.lookup x=some c→c≠b
  bs:∀ b o,X.base.get? b=some o→X.s₀.heap.get? b=some o∧X.H₀ b=none
  bsz:X.base.objs.size≤X.s₀.heap.objs.size
  noex:∀ b o,X.base.get? b=some o→b ∉ X.ex
  exfs:∀ b∈X.ex,b ∉ X.fs
  funs:X.s₀.heap.FunFrames X.base X.outer
  frf:∀ b∈X.fs,X.H₀ b=none
structure Inv (X:Cx) (pins:List (Addr × Obj)) (σ:List (Option V)) (H:Hp) (s:Shared):Prop where
  ok:X.Ok
  os:s.os=X.s₀.os
  bare:AllBare s.gens
  base:Un X.fs X.ex X.H₀ H X.s₀.heap s.heap
  loc:∃ m,s.heap.Ns X.env.locals m∧∀ (i:Nat) (x:Str) (v:V),X.N[i]?=some x→σ[i]?=some (some v)→Vis X.env.scope x→∃ u,RelV v u∧Look X.env s.heap m x u
  cell:∀ x c,X.env.cells.lookup x=some c→∃ v,s.heap.IsCell c v
  free:H X.env.locals=none
  freeC:∀ x c,X.env.cells.lookup x=some c→H c=none
  pin:∀ p∈X.pn++pins,s.heap.get? p.1=some p.2∧H p.1=none∧p.1≠X.env.locals∧p.1 ∉ X.fs∧∀ v,p.2.data ≠ .cell v
  hok:HOk X.prog X.w H s.heap
  len:σ.length=X.N.length
section
variable {X:Cx} {pins:List (Addr × Obj)} {σ:List (Option V)} {H H':Hp} {s:Shared} {h':Heap}
theorem Cx.Ok.nofr (ok:X.Ok) {b:Addr} {o:Obj} (e:X.base.get? b=some o):b ∉ X.fs:=fun hb=>by
  have:=(ok.funs.mem hb).1
  rw [e] at this; cases this
theorem Inv.bs (I:Inv X pins σ H s):∀ b o,X.base.get? b=some o→s.heap.get? b=some o∧H b=none:=fun b o e =>
  ⟨I.base.keep b o (I.ok.bs b o e).1 (I.ok.bs b o e).2 (I.ok.nofr e) (I.ok.noex b o e),I.base.free b o (I.ok.bs b o e).1 (I.ok.bs b o e).2 (I.ok.noex b o e)⟩
theorem Inv.bk (I:Inv X pins σ H s):∀ b o,X.base.get? b=some o→s.heap.get? b=some o:=fun b o e=>(I.bs b o e).1
theorem Inv.mod (I:Inv X pins σ H s):Mod X.K X.mg X.base:=I.ok.mod
theorem Inv.kIn (I:Inv X pins σ H s):X.K.In s.heap:=I.ok.mod.kin.keeps I.bk
theorem Inv.lt (I:Inv X pins σ H s):X.env.locals<s.heap.objs.size:=let ⟨_,hn,_⟩:=I.loc; hn.lt
theorem Inv.sz (I:Inv X pins σ H s):X.s₀.heap.objs.size≤s.heap.objs.size:=Nat.le_trans I.ok.above (Nat.le_of_lt I.lt)
theorem Inv.nofs (I:Inv X pins σ H s) {a:Addr} (h:s.heap.objs.size≤a):a ∉ X.fs:=fun hb=>by
  obtain ⟨_,o,ho,_⟩:=I.ok.funs.mem hb
  exact absurd (Nat.lt_of_lt_of_le (Heap.lt_size ho) (Nat.le_trans I.sz h)) (Nat.lt_irrefl _)
theorem Inv.cne (I:Inv X pins σ H s):∀ x c,X.env.cells.lookup x=some c→c≠X.env.locals:=fun x c e z=>by
  obtain ⟨v,o,ho,hd⟩:=I.cell x c e
  obtain ⟨m,⟨o',es,ep,ho',hd',_⟩,_⟩:=I.loc
  rw [z,ho'] at ho; cases ho; rw [hd'] at hd; cases hd
theorem Inv.funs (I:Inv X pins σ H s):s.heap.FunFrames X.base X.outer:=by
  have all:∀ (l:List Env),(∀ b∈frs l,b∈X.fs)→X.s₀.heap.FunFrames X.base l→s.heap.FunFrames X.base l:=by
    intro l
    induction l with
    | nil=>intro _ _; trivial
    | cons env r ih =>
      intro hs hl
      obtain ⟨hk,⟨L,o,hf,hn,ho,hd⟩,hr⟩:=hl
      have hL:L∈X.fs:=hs L (by unfold frs; rw [List.filterMap_cons,hf]; exact List.mem_cons_self)
      obtain ⟨sl,e⟩:=I.base.slot L o ho (I.ok.frf L hL) hL fun z=>I.ok.exfs L z hL
      exact ⟨hk,⟨L,_,hf,hn,e,hd⟩,ih (fun b hb=>hs b (by unfold frs; rw [List.filterMap_cons,hf]; exact List.mem_cons_of_mem _ hb)) hr⟩
  exact all X.outer (fun _ hb=>hb) I.ok.funs
theorem Inv.stack (I:Inv X pins σ H s):s.heap.FunFrames X.base X.stack:=by
  rcases I.ok.stk with e | ⟨e,hf⟩
  · rw [e]; exact I.funs
  · rw [e]
    obtain ⟨m,hn,_⟩:=I.loc
    refine .cons (by rw [I.ok.kind]; decide) hf hn ?_ I.funs
    exact Heap.get?_none_of_le (Nat.le_trans I.ok.bsz I.ok.above)
theorem Inv.stkSub (I:Inv X pins σ H s):∀ b∈frs X.stack,b∈X.env.locals::X.fs:=fun b hb=>by
  rcases I.ok.stk with e | ⟨e,hf⟩
  · rw [e] at hb; exact List.mem_cons_of_mem _ hb
  · rw [e] at hb
    unfold frs at hb
    rw [List.filterMap_cons,hf] at hb
    exact hb
theorem Inv.stkFree (I:Inv X pins σ H s):∀ b∈frs X.stack,H b=none:=fun b hb=>by
  rcases List.mem_cons.mp (I.stkSub b hb) with e | hb
  · rw [e]; exact I.free
  · obtain ⟨_,o,ho,_⟩:=I.ok.funs.mem hb
    exact I.base.free b o ho (I.ok.frf b hb) fun z=>I.ok.exfs b z hb
theorem Inv.step {g':Array GenState} {t':Nat} {d':Drawn} {ch:List Addr} (I:Inv X pins σ H s)
    (hch:∀ b∈ch,(b∈X.ex∨X.s₀.heap.objs.size≤b)∧b≠X.env.locals∧(∀ x c,X.env.cells.lookup x=some c→c≠b)∧∀ p∈X.pn++pins,p.1≠b)
    (keep:∀ b o,b≠X.env.locals→b ∉ X.fs→b ∉ ch→s.heap.get? b=some o→H b=none→h'.get? b=some o)
    (slot:∀ b o,b≠X.env.locals→b∈X.fs→b ∉ ch→s.heap.get? b=some o→H b=none→∃ sl,h'.get? b=some { o with slots:=sl }) (free:∀ b o,b ∉ ch→s.heap.get? b=some o→H b=none→H' b=none)
    (there:∀ b o,b ∉ ch→s.heap.get? b=some o→∃ o',h'.get? b=some o')
    (tups:∀ b xs,H b=some (.tup xs)→H' b=some (.tup xs)) (frzs:∀ b o u,H b=some (.frz o u)→H' b=some (.frz o u)) (tbls:∀ b ps,H b=some (.tbl ps)→∃ more,H' b=some (.tbl (ps++more)))
    (ns:∀ m,s.heap.Ns X.env.locals m→h'.Ns X.env.locals m) (hok:HOk X.prog X.w H' h') (hg:AllBare g') :
    Inv X pins σ H' { s with heap:=h',gens:=g',drawn:=d',toks:=t' }:=by
  have neL:∀ b o,X.s₀.heap.get? b=some o→b≠X.env.locals:=fun b o e=>Nat.ne_of_lt (Nat.lt_of_lt_of_le (Heap.lt_size e) I.ok.above)
  have neC:∀ b o,X.s₀.heap.get? b=some o→b ∉ X.ex→b ∉ ch:=fun b o e hx hb=>by
    rcases (hch b hb).1 with z | z
    · exact hx z
    · exact absurd (Nat.lt_of_lt_of_le (Heap.lt_size e) z) (Nat.lt_irrefl _)
  have cellK:∀ x c,X.env.cells.lookup x=some c→∀ v,s.heap.IsCell c v→h'.IsCell c v:=fun x c e v ⟨o,ho,hd⟩=>by
    have nch:c ∉ ch:=fun z=>(hch c z).2.2.1 x c e rfl
    by_cases hc:c∈X.fs
    · obtain ⟨sl,q⟩:=slot c o (I.cne x c e) hc nch ho (I.freeC x c e)
      exact ⟨_,q,hd⟩
    · exact ⟨o,keep c o (I.cne x c e) hc nch ho (I.freeC x c e),hd⟩
  refine ⟨I.ok,I.os,hg,⟨fun b o e n hb hx=>?_,fun b o e n hb hx=>?_,fun b o e n hx=>?_,fun b o e hx=>?_,fun b xs e=>tups b xs (I.base.tups b xs e),fun b o xs e=>frzs b o xs (I.base.frzs b o xs e),fun b ps e=>?_⟩,?_,fun x c e=>?_,?_,fun x c e=>?_,fun p hp=>?_,hok,I.len⟩
  · exact keep b o (neL b o e) hb (neC b o e hx) (I.base.keep b o e n hb hx) (I.base.free b o e n hx)
  · obtain ⟨sl,e1⟩:=I.base.slot b o e n hb hx
    obtain ⟨sl',e2⟩:=slot b _ (neL b o e) hb (neC b o e hx) e1 (I.base.free b o e n hx)
    exact ⟨sl',e2⟩
  · obtain ⟨o',e1⟩:=I.base.there b o e hx
    exact free b o' (neC b o e hx) e1 (I.base.free b o e n hx)
  · obtain ⟨o',e1⟩:=I.base.there b o e hx
    exact there b o' (neC b o e hx) e1
  · obtain ⟨m1,e1⟩:=I.base.tbls b ps e
    obtain ⟨m2,e2⟩:=tbls b _ e1
    exact ⟨m1++m2,by rw [e2,Array.append_assoc]⟩
  · obtain ⟨m,hn,hl⟩:=I.loc
    refine ⟨m,ns m hn,fun i x v e1 e2 e3=>?_⟩
    obtain ⟨u,r,l⟩:=hl i x v e1 e2 e3
    refine ⟨u,r,?_⟩
    rcases l with l | ⟨k,c,e,z⟩
    · exact .inl l
    · exact .inr ⟨k,c,e,cellK x c e _ z⟩
  · obtain ⟨v,z⟩:=I.cell x c e
    exact ⟨v,cellK x c e v z⟩
  · obtain ⟨m,⟨o,_,_,ho,_⟩,_⟩:=I.loc
    exact free _ o (fun z=>(hch _ z).2.1 rfl) ho I.free
  · obtain ⟨v,o,ho,hd⟩:=I.cell x c e
    exact free c o (fun z=>(hch c z).2.2.1 x c e rfl) ho (I.freeC x c e)
  · obtain ⟨e,n,ne,nf,d⟩:=I.pin p hp
    have nch:p.1 ∉ ch:=fun z=>(hch p.1 z).2.2.2 p hp rfl
    exact ⟨keep p.1 p.2 ne nf nch e n,free p.1 p.2 nch e n,ne,nf,d⟩
theorem Inv.un {t':Nat} (I:Inv X pins σ H s) (u:Un X.fs [] H H' s.heap h') (hok:HOk X.prog X.w H' h'):Inv X pins σ H' { s with heap:=h',toks:=t' }:=by
  obtain ⟨m,⟨o,es,ep,ho,r⟩,_⟩:=id I.loc
  obtain ⟨sl,hL⟩:=u.any ho I.free (by simp)
  exact I.step (g':=s.gens) (d':=s.drawn) (ch:=[]) (fun _ z=>nomatch z) (fun b o _ hb _ e n=>u.keep b o e n hb (by simp)) (fun b o _ hb _ e n=>u.slot b o e n hb (by simp)) (fun b o _ e n=>u.free b o e n (by simp)) (fun b o _ e=>u.there b o e (by simp)) u.tups u.frzs u.tbls (fun m' hm=>by
    obtain ⟨o',es',ep',ho',r'⟩:=hm
    rw [ho] at ho'; cases ho'
    exact ⟨_,es',ep',hL,r'⟩) hok I.bare
theorem Inv.call {g':Array GenState} {t':Nat} {d':Drawn} {ch:List Addr} (I:Inv X pins σ H s) (u:Un (frs X.stack) ch H H' s.heap h') (hok:HOk X.prog X.w H' h') (hg:AllBare g')
    (hch:∀ b∈ch,(b∈X.ex∨X.s₀.heap.objs.size≤b)∧b≠X.env.locals∧(∀ x c,X.env.cells.lookup x=some c→c≠b)∧∀ p∈X.pn++pins,p.1≠b) :
    Inv X pins σ H' { s with heap:=h',gens:=g',drawn:=d',toks:=t' }:=by
  obtain ⟨m,⟨o,es,ep,ho,r⟩,_⟩:=id I.loc
  obtain ⟨sl,hL⟩:=u.any ho I.free fun z=>(hch _ z).2.1 rfl
  exact I.step (ch:=ch) hch (fun b o hL hb hc e n=>u.keep b o e n (fun z=>(List.mem_cons.mp (I.stkSub b z)).elim hL hb) hc) (fun b o _ _ hc e n=>u.any e n hc) (fun b o hc e n=>u.free b o e n hc) (fun b o hc e=>u.there b o e hc) u.tups u.frzs u.tbls (fun m' hm=>by
    obtain ⟨o',es',ep',ho',r'⟩:=hm
    rw [ho] at ho'; cases ho'
    exact ⟨_,es',ep',hL,r'⟩) hok hg
theorem Inv.turned {t':Nat} {it:Addr} (I:Inv X pins σ H s) (k:∀ b o,b≠it→s.heap.get? b=some o→h'.get? b=some o) (hn:H it=none) (hL:it≠X.env.locals)
    (h1:it∈X.ex∨X.s₀.heap.objs.size≤it) (h2:∀ x c,X.env.cells.lookup x=some c→c≠it) (h3:∀ p∈X.pn++pins,p.1≠it):Inv X pins σ H { s with heap:=h',toks:=t' }:=by
  have nit:∀ b u,H b=some u→b≠it:=fun b u e z=>by rw [z,hn] at e; cases e
  refine I.step (g':=s.gens) (d':=s.drawn) (ch:=[it]) (fun b hb=>?_) (fun b o _ _ hc e _=>k b o (fun z=>hc (by simp [z])) e) (fun b o _ _ hc e _=>⟨o.slots,k b o (fun z=>hc (by simp [z])) e⟩) (fun _ _ _ _ n=>n)
    (fun b o hc e=>⟨o,k b o (fun z=>hc (by simp [z])) e⟩) (fun _ _ e=>e) (fun _ _ _ e=>e) (fun b ps e=>⟨#[],by rw [e]; simp⟩) (fun m hm=>?_) (fun b u e=>?_) I.bare
  · have e:b=it:=by simpa using hb
    subst e
    exact ⟨h1,hL,h2,h3⟩
  · obtain ⟨o,es,ep,ho,r⟩:=hm
    exact ⟨o,es,ep,k _ o (Ne.symm hL) ho,r⟩
  · refine (I.hok b u e).stay (fun c v hc q=>k c v ?_ q) (fun _ q=>q) fun _ _ q=>q
    rcases hc with z | z
    · rw [z]; exact nit b u e
    · exact nit c _ z
theorem Inv.tok (I:Inv X pins σ H s) (t:Nat):Inv X pins σ H { s with toks:=t }:=I.un (h':=s.heap) (t':=t) Un.refl I.hok
theorem Inv.kept {t':Nat} (I:Inv X pins σ H s) (k:∀ b u,s.heap.get? b=some u→h'.get? b=some u):Inv X pins σ H { s with heap:=h',toks:=t' }:=I.un (Un.kept k) (I.hok.kept k)
theorem Inv.laid {a:Addr} {o:HO} {t':Nat} (I:Inv X pins σ H s) (k:∀ b u,s.heap.get? b=some u→h'.get? b=some u) (hp:s.heap.objs.size≤a) (new:ObjOk X.prog X.w (upd H a o) h' a o) :
    Inv X pins σ (upd H a o) { s with heap:=h',toks:=t' }:=I.un (Un.laid k hp (I.hok.fresh hp)) (I.hok.laid k hp new)
theorem Inv.write {x e:Addr} {o:HO} {t':Nat} (I:Inv X pins σ H s) (mu:Mut (H x)) (he:e=x∨H e=some (.own x)) (k:∀ b u,b≠e→s.heap.get? b=some u→h'.get? b=some u) (heo:∃ u,h'.get? e=some u)
    (new:ObjOk X.prog X.w (upd H x o) h' x o):Inv X pins σ (upd H x o) { s with heap:=h',toks:=t' }:=I.un (Un.write mu he k heo) (I.hok.write mu he k heo new)
theorem Inv.pins_of {pins':List (Addr × Obj)} (I:Inv X pins σ H s) (h:∀ p∈pins',s.heap.get? p.1=some p.2∧H p.1=none∧p.1≠X.env.locals∧p.1 ∉ X.fs∧∀ v,p.2.data ≠ .cell v):Inv X pins' σ H s :=
  ⟨I.ok,I.os,I.bare,I.base,I.loc,I.cell,I.free,I.freeC,fun p hp=>(List.mem_append.mp hp).elim (fun z=>I.pin p (List.mem_append_left _ z)) (h p),I.hok,I.len⟩
theorem nodup_ix {N:List Str} (hN:N.Nodup) {i j:Nat} {x:Str} (a:N[i]?=some x) (b:N[j]?=some x):i=j:=by
  obtain ⟨h1,e1⟩:=List.getElem?_eq_some_iff.mp a
  obtain ⟨h2,e2⟩:=List.getElem?_eq_some_iff.mp b
  exact (List.getElem_inj hN).mp (e1.trans e2.symm)
theorem store_ok2 {M:Model} {A:Around} {E:Value→Shared→Prop} {i:Nat} {x:Str} {v:V} {u:Value} {Q:Unit→Shared→Prop} (I:Inv X pins σ H s) (hN:X.N.Nodup) (hi:X.N[i]?=some x) (hx:Loc X.env.scope x) (r:RelV v u)
    (h:∀ s',Inv X pins (σ.set i (some v)) H s'→(∃ a,Heap.SameBut a s.heap s'.heap∧(a=X.env.locals∨X.env.cells.lookup x=some a))→Q () s') (hf:X.fn x=true∨X.env.scope.names.lookup x=some .local:=by first | exact .inl rfl | exact .inr rfl | assumption):wpAny M A (storeName X.env x u) Q E s:=by
  obtain ⟨m,hn,hl⟩:=id I.loc
  have hcls:(X.env.scope.kind == .class || (X.env.scope.kind == .module&&X.env.locals != X.env.globals))=false:=by rw [I.ok.kind]; rfl
  have hiσ:i<σ.length:=by rw [I.len]; exact (List.getElem?_eq_some_iff.mp hi).1
  have cne:=I.cne
  have tracked:∀ {a:Addr} {h':Heap},(∃ o,s.heap.get? a=some o∧H a=none)→Heap.SameBut a s.heap h'→HOk X.prog X.w H h':=fun {a h'} ha hs b ob e=>by
    obtain ⟨_,_,hfree⟩:=ha
    refine (I.hok b ob e).stay (fun c w' hc q=>(hs.2 c ?_).trans q) (fun _ q=>q) fun _ _ q=>q
    rintro rfl
    rcases hc with rfl | hc
    · rw [hfree] at e; cases e
    · rw [hfree] at hc; cases hc
  rcases hx with hk | hk
  · refine wpAny_storeName_local hk hn (fun h' hn' hs=>?_) hcls
    obtain ⟨oL,_,_,hoL,_⟩:=id hn
    refine h _ ⟨I.ok,I.os,I.bare,⟨fun b o e n hb hx=>?_,fun b o e n hb hx=>?_,I.base.free,fun b o e hx=>?_,I.base.tups,I.base.frzs,I.base.tbls⟩,⟨_,hn',fun j y v' e1 e2 e3=>?_⟩,fun y c e=>?_,I.free,I.freeC,fun p hp=>?_,tracked ⟨oL,hoL,I.free⟩ hs,by simpa using I.len⟩ ⟨_,hs,.inl rfl⟩
    · exact (hs.2 b (Nat.ne_of_lt (Nat.lt_of_lt_of_le (Heap.lt_size e) I.ok.above))).trans (I.base.keep b o e n hb hx)
    · obtain ⟨sl,e1⟩:=I.base.slot b o e n hb hx
      exact ⟨sl,(hs.2 b (Nat.ne_of_lt (Nat.lt_of_lt_of_le (Heap.lt_size e) I.ok.above))).trans e1⟩
    · obtain ⟨o',e1⟩:=I.base.there b o e hx
      exact ⟨o',(hs.2 b (Nat.ne_of_lt (Nat.lt_of_lt_of_le (Heap.lt_size e) I.ok.above))).trans e1⟩
    · by_cases hj:j=i
      · subst hj
        rw [hi] at e1; cases e1
        rw [List.getElem?_set_self hiσ] at e2
        cases e2
        exact ⟨u,r,.inl ⟨hk,by simp⟩⟩
      · rw [List.getElem?_set_ne (Ne.symm hj)] at e2
        obtain ⟨u',r',q⟩:=hl j y v' e1 e2 e3
        refine ⟨u',r',?_⟩
        rcases q with ⟨k,e⟩ | ⟨k,c,e,z⟩
        · refine .inl ⟨k,?_⟩
          have:y≠x:=fun e=>hj (nodup_ix hN e1 (e ▸ hi))
          simp [this,e]
        · exact .inr ⟨k,c,e,z.sameBut hs (cne y c e)⟩
    · obtain ⟨w',z⟩:=I.cell y c e
      exact ⟨w',z.sameBut hs (cne y c e)⟩
    · obtain ⟨e,n,ne,nf,d⟩:=I.pin p hp
      exact ⟨(hs.2 p.1 ne).trans e,n,ne,nf,d⟩
  · have hfn:X.fn x=true:=by
      rcases hf with z | z
      · exact z
      · rw [z] at hk; cases hk
    obtain ⟨c,hc⟩:=I.ok.has x (.inl hk)
    obtain ⟨w',z⟩:=I.cell x c hc
    refine wpAny_storeName_cell I.ok.kind hk hc z (fun h' hc' hs=>?_)
    obtain ⟨oc,hoc,hocd⟩:=id z
    refine h { s with heap:=h' } ⟨I.ok,I.os,I.bare,⟨fun b o e n hb hx=>?_,fun b o e n hb hx=>?_,I.base.free,fun b o e hx=>?_,I.base.tups,I.base.frzs,I.base.tbls⟩,⟨m,hn.sameBut hs (Ne.symm (cne x c hc)),fun j y v' e1 e2 e3=>?_⟩,fun y c' e=>?_,I.free,I.freeC,fun p hp=>?_,tracked ⟨oc,hoc,I.freeC x c hc⟩ hs,by simpa using I.len⟩ ⟨c,hs,.inr hc⟩
    · exact (hs.2 b (Nat.ne_of_lt (Nat.lt_of_lt_of_le (Heap.lt_size e) (I.ok.cab x c hfn hc)))).trans (I.base.keep b o e n hb hx)
    · obtain ⟨sl,e1⟩:=I.base.slot b o e n hb hx
      exact ⟨sl,(hs.2 b (Nat.ne_of_lt (Nat.lt_of_lt_of_le (Heap.lt_size e) (I.ok.cab x c hfn hc)))).trans e1⟩
    · obtain ⟨o',e1⟩:=I.base.there b o e hx
      exact ⟨o',(hs.2 b (Nat.ne_of_lt (Nat.lt_of_lt_of_le (Heap.lt_size e) (I.ok.cab x c hfn hc)))).trans e1⟩
    · by_cases hj:j=i
      · subst hj
        rw [hi] at e1; cases e1
        rw [List.getElem?_set_self hiσ] at e2
        cases e2
        exact ⟨u,r,.inr ⟨.inl hk,c,hc,hc'⟩⟩
      · rw [List.getElem?_set_ne (Ne.symm hj)] at e2
        obtain ⟨u',r',q⟩:=hl j y v' e1 e2 e3
        refine ⟨u',r',?_⟩
        rcases q with q | ⟨k,c',e,z'⟩
        · exact .inl q
        · refine .inr ⟨k,c',e,z'.sameBut hs ?_⟩
          rintro rfl
          exact hj (nodup_ix hN e1 (I.ok.inj _ _ _ e hc ▸ hi))
    · by_cases hcc:c'=c
      · subst hcc; exact ⟨_,hc'⟩
      · obtain ⟨w2,z2⟩:=I.cell y c' e
        exact ⟨w2,z2.sameBut hs hcc⟩
    · obtain ⟨e,n,ne,nf,d⟩:=I.pin p hp
      refine ⟨(hs.2 p.1 ?_).trans e,n,ne,nf,d⟩
      intro q
      rw [q,hoc] at e
      have q':oc=p.2:=Option.some.inj e
      exact d w' (by rw [← q']; exact hocd)
theorem store_ok {M:Model} {A:Around} {E:Value→Shared→Prop} {i:Nat} {x:Str} {v:V} {u:Value} {Q:Unit→Shared→Prop} (I:Inv X pins σ H s) (hN:X.N.Nodup) (hi:X.N[i]?=some x) (hx:Loc X.env.scope x) (r:RelV v u)
    (h:∀ s',Inv X pins (σ.set i (some v)) H s'→Q () s') (hf:X.fn x=true∨X.env.scope.names.lookup x=some .local:=by first | exact .inl rfl | exact .inr rfl | assumption):wpAny M A (storeName X.env x u) Q E s :=
  store_ok2 I hN hi hx r (fun s' I' _=>h s' I') hf
theorem Inv.call' {s':Shared} {ch:List Addr} (I:Inv X pins σ H s) (ho:s'.os=s.os) (u:Un (frs X.stack) ch H H' s.heap s'.heap) (hok:HOk X.prog X.w H' s'.heap) (hg:AllBare s'.gens)
    (hch:∀ b∈ch,(b∈X.ex∨X.s₀.heap.objs.size≤b)∧b≠X.env.locals∧(∀ x c,X.env.cells.lookup x=some c→c≠b)∧∀ p∈X.pn++pins,p.1≠b):Inv X pins σ H' s':=by
  obtain ⟨h',g',d',t',o'⟩:=s'
  have e:o'=s.os:=ho
  subst e
  exact I.call (g':=g') (t':=t') (d':=d') u hok hg hch
end
abbrev XK:=Value→Option Addr→Hp→Prop
abbrev St:=List (Option V)
abbrev VK:=V→Hp→Prop
abbrev TE:=St→Hp→VK→Prop
abbrev TT:=St→Hp→(Bool→Hp→Prop)→Prop
abbrev TA:=St→Hp→(List V→Hp→Prop)→Prop
structure Ends where
  nx:St→Hp→Prop
  rt:VK
  bk:St→Hp→Prop:=fun _ _=>False
  ct:St→Hp→Prop:=fun _ _=>False
abbrev TS:=Ends→St→Hp→Prop
def EP (X:Cx) (pins:List (Addr × Obj)) (σ:St) (Q:VK) (u:Value) (s':Shared):Prop:=∃ v H',Inv X pins σ H' s'∧RelV v u∧Q v H'
def TP (X:Cx) (pins:List (Addr × Obj)) (σ:St) (Q:Bool→Hp→Prop) (b:Bool) (s':Shared):Prop:=∃ H',Inv X pins σ H' s'∧Q b H'
def AP (X:Cx) (pins:List (Addr × Obj)) (σ:St) (Q:List V→Hp→Prop) (us:List Value) (s':Shared):Prop:=∃ vs H',Inv X pins σ H' s'∧Vals vs us∧Q vs H'
def SP (X:Cx) (pins:List (Addr × Obj)) (D:Ends) (f:Flow) (s':Shared):Prop :=
  match f with
  | .next=>∃ σ' H',Inv X pins σ' H' s'∧D.nx σ' H'
  | .brk=>∃ σ' H',Inv X pins σ' H' s'∧D.bk σ' H'
  | .cont=>∃ σ' H',Inv X pins σ' H' s'∧D.ct σ' H'
  | .ret u=>∃ v σ' H',Inv X pins σ' H' s'∧RelV v u∧D.rt v H'
def PE (X:Cx) (e:Expr) (t:TE):Prop :=
  ∀ (pins:List (Addr × Obj)) (s:Shared) (σ:St) (H:Hp) (Q:VK),Inv X pins σ H s→t σ H Q→wpAny (model X.prog X.w) X.A (eval e X.env) (EP X pins σ Q) X.xe s
def PT (X:Cx) (e:Expr) (t:TT):Prop :=
  ∀ (pins:List (Addr × Obj)) (s:Shared) (σ:St) (H:Hp) (Q:Bool→Hp→Prop),Inv X pins σ H s→t σ H Q→wpAny (model X.prog X.w) X.A (isTrue e X.env (eval e X.env)) (TP X pins σ Q) X.xe s
def PW (X:Cx) (e:Expr) (t:TT):Prop :=
  ∀ (whole:Sem Value) (pins:List (Addr × Obj)) (s:Shared) (σ:St) (H:Hp) (Q:Bool→Hp→Prop),Inv X pins σ H s→t σ H Q→wpAny (model X.prog X.w) X.A (isTrue e X.env whole) (TP X pins σ Q) X.xe s
theorem PW.pt {X:Cx} {e:Expr} {t:TT} (h:PW X e t):PT X e t:=h _
def PA (X:Cx) (es:List Expr) (t:TA):Prop :=
  ∀ (pos:Pos) (pins:List (Addr × Obj)) (s:Shared) (σ:St) (H:Hp) (Q:List V→Hp→Prop),Inv X pins σ H s→t σ H Q→wpAny (model X.prog X.w) X.A (spliced (backTo pos (starEach es X.env))) (AP X pins σ Q) X.xe s
def PS (X:Cx) (st:Stmt) (t:TS):Prop :=
  ∀ (pins:List (Addr × Obj)) (s:Shared) (σ:St) (H:Hp) (D:Ends),Inv X pins σ H s→t D σ H→wpAny (model X.prog X.w) X.A (exec st X.env) (SP X pins D) X.xe s
def PSs (X:Cx) (st:List Stmt) (t:TS):Prop :=
  ∀ (pins:List (Addr × Obj)) (s:Shared) (σ:St) (H:Hp) (D:Ends),Inv X pins σ H s→t D σ H→wpAny (model X.prog X.w) X.A (execs st X.env) (SP X pins D) X.xe s
theorem thn {α:Type} {t:Sem α} {Q Q':α→Shared→Prop} {M:Model} {A:Around} {E:Value→Shared→Prop} {s:Shared} (h:wpAny M A t Q E s) (hQ:∀ a s,Q a s→Q' a s):wpAny M A t Q' E s:=wpAny_mono h hQ fun _ _ x=>x
end L2
namespace L2
open PySem PySem.Spec PyProof.Rows
section
variable {X:Cx}
def tVar (i:Nat):TE:=fun σ H Q=>∃ v,σ[i]?=some (some v)∧Q v H
def tC (v:V):TE:=fun _ H Q=>Q v H
theorem pe_var {i:Nat} {x:Str} {pos:Pos} (hN:X.N[i]?=some x) (hv:Vis X.env.scope x) (hd:(x == ("__debug__" : Str))=false:=by decide) (hcd:(x == ("__classdict__" : Str))=false:=by decide):PE X (.Name x pos) (tVar i):=by
  intro pins s σ H Q I h
  obtain ⟨v,e,h⟩:=h
  obtain ⟨m,hn,hl⟩:=I.loc
  obtain ⟨u,r,l⟩:=hl i x v hN e hv
  have fin:EP X pins σ Q u s:=⟨v,H,I,r,h⟩
  rcases l with ⟨hk,hm⟩ | ⟨hk,c,hc,hcell⟩
  · exact wpAny_Name (wpAny_loadName_local I.ok.kind hk hn hm fin) hd
  · rcases hk with hk | hk
    · exact wpAny_Name (wpAny_loadName_cell I.ok.kind hk hc hcell fin) hd
    · exact wpAny_Name (wpAny_loadName_free I.ok.kind hk hc hcell fin hcd) hd
theorem pe_int {i j pos}:PE X (.Constant (.int i) j pos) (tC (.int i)):=fun _ _ _ H _ I h=>wpAny_Constant_int ⟨.int i,H,I.tok _,⟨_,rfl⟩,h⟩
theorem pe_bl {b j pos}:PE X (.Constant (.bool b) j pos) (tC (.bl b)):=fun _ _ _ H _ I h=>Constant_bool ⟨.bl b,H,I,rfl,h⟩
theorem pe_non {j pos}:PE X (.Constant .none j pos) (tC .non):=fun _ _ _ H _ I h=>Constant_none ⟨.non,H,I,rfl,h⟩
theorem pe_str {x j pos}:PE X (.Constant (.str x) j pos) (tC (.str x)):=fun _ _ _ H _ I h=>Calls.Constant_str ⟨.str x,H,I.tok _,⟨_,rfl⟩,h⟩
def Gl (X:Cx) (x:Str):Prop:=X.env.kindOf x=some .globalImplicit
theorem ld_glob {E:Value→Shared→Prop} {pins:List (Addr × Obj)} {s:Shared} {σ:St} {H:Hp} {x:Str} {u:Value} {pos:Pos} {Q:Value→Shared→Prop} (I:Inv X pins σ H s) (hg:Gl X x) (hm:X.mg x=some u) (h:Q u s)
    (hd:(x == ("__debug__" : Str))=false:=by decide):wpAny (model X.prog X.w) X.A (eval (.Name x pos) X.env) Q E s :=
  Calls.Name_function_global I.ok.kind hg (Calls.loadGlobal_global (by rw [I.ok.glob]; exact I.mod.glob.keeps I.bk) hm h) hd
theorem ld_blt {E:Value→Shared→Prop} {pins:List (Addr × Obj)} {s:Shared} {σ:St} {H:Hp} {x:Str} {u:Value} {pos:Pos} {Q:Value→Shared→Prop} (I:Inv X pins σ H s) (hg:Gl X x) (hm:X.mg x=none) (hv:bootBuiltins x=some u) (h:Q u s)
    (hn:x ≠ "__name__" := by decide) (hd:(x == ("__debug__" : Str))=false:=by decide):wpAny (model X.prog X.w) X.A (eval (.Name x pos) X.env) Q E s:=by
  obtain ⟨mb,h1,h2⟩:=I.mod.blt
  exact Calls.Name_function_global I.ok.kind hg (Calls.loadGlobal_builtin (by rw [I.ok.glob]; exact I.mod.glob.keeps I.bk) hm (by rw [I.ok.blt]; exact h1.keeps I.bk) ((h2 x hn).trans hv) h) hd
theorem pe_glob {x:Str} {v:V} {u:Value} {pos:Pos} (hg:Gl X x) (hm:X.mg x=some u) (r:RelV v u) (hd:(x == ("__debug__" : Str))=false:=by decide):PE X (.Name x pos) (tC v) :=
  fun _ _ _ H _ I h=>ld_glob I hg hm ⟨v,H,I,r,h⟩ hd
theorem pe_bltn {x:Str} {v:V} {u:Value} {pos:Pos} (hg:Gl X x) (hm:X.mg x=none) (hv:bootBuiltins x=some u) (r:RelV v u) (hn:x ≠ "__name__" := by decide) (hd:(x == ("__debug__" : Str))=false:=by decide):PE X (.Name x pos) (tC v) :=
  fun _ _ _ H _ I h=>ld_blt I hg hm hv ⟨v,H,I,r,h⟩ hn hd
variable {a b:Expr} {ta tb:TE} {pos:Pos}
def tB (t:TE):TT:=fun σ H Q=>t σ H fun x H1=>∃ c,x=.bl c∧Q c H1
theorem pt_val {e:Expr} {t:TE} (h:PE X e t) (he:∀ whole,isTrue e X.env whole=(do let v ← whole; standAt e.pos; holding [v] (truthy v)):=by intro _; rfl):PT X e (tB t):=by
  intro pins s σ H Q I hw
  refine isTrue_plain (thn (h pins s σ H _ I hw) fun v s1 ⟨x,H1,I1,r1,q1⟩=>?_) (he _)
  obtain ⟨d,rfl,q⟩:=q1
  cases r1
  exact wpAny_truthy_bool ⟨H1,I1,q⟩
variable {tA tB':TT} {rest:List Expr}
def tAnd (t u:TT):TT:=fun σ H Q=>t σ H fun c H1=>if c=true then u σ H1 Q else Q false H1
def tOr (t u:TT):TT:=fun σ H Q=>t σ H fun c H1=>if c=true then Q true H1 else u σ H1 Q
def tNot (t:TT):TT:=fun σ H Q=>t σ H fun c H1=>Q (!c) H1
theorem pw_and1 (ha:PT X a tA):PW X (.BoolOp .And [a] pos) tA:=by
  intro wh pins s σ H Q I h
  refine isTrue_and (thn (ha pins s σ H Q I h) fun c s1 e=>?_)
  cases c with
  | true=>exact isTrue_and_nil e
  | false=>exact e
theorem pw_or1 (ha:PT X a tA):PW X (.BoolOp .Or [a] pos) tA:=by
  intro wh pins s σ H Q I h
  refine isTrue_or (thn (ha pins s σ H Q I h) fun c s1 e=>?_)
  cases c with
  | false=>exact isTrue_or_nil e
  | true=>exact e
theorem pw_and (ha:PT X a tA) (hb:PW X (.BoolOp .And (b::rest) pos) tB'):PW X (.BoolOp .And (a::b::rest) pos) (tAnd tA tB'):=by
  intro wh pins s σ H Q I h
  refine isTrue_and (thn (ha pins s σ H _ I h) fun c s1 ⟨H1,I1,q1⟩=>?_)
  cases c with
  | true=>exact hb wh pins s1 σ H1 Q I1 q1
  | false=>exact ⟨H1,I1,q1⟩
theorem pw_or (ha:PT X a tA) (hb:PW X (.BoolOp .Or (b::rest) pos) tB'):PW X (.BoolOp .Or (a::b::rest) pos) (tOr tA tB'):=by
  intro wh pins s σ H Q I h
  refine isTrue_or (thn (ha pins s σ H _ I h) fun c s1 ⟨H1,I1,q1⟩=>?_)
  cases c with
  | true=>exact ⟨H1,I1,q1⟩
  | false=>exact hb wh pins s1 σ H1 Q I1 q1
theorem pt_not (ha:PT X a tA):PT X (.UnaryOp .Not a pos) (tNot tA):=by
  intro pins s σ H Q I h
  exact isTrue_not (ha pins s σ H (fun c H1=>Q (!c) H1) I h)
def tAndV (ta tb:TE):TE:=fun σ H Q=>ta σ H fun x H1=>∃ c,x=.bl c∧if c=true then tb σ H1 Q else Q (.bl false) H1
def tNotV (ta:TE):TE:=fun σ H Q=>ta σ H fun x H1=>∃ c,x=.bl c∧Q (.bl (!c)) H1
theorem pe_one {op} {t:TE} (h:PE X a t):PE X (.BoolOp op [a] pos) t:=fun pins s σ H Q I hw=>BoolOp_one (h pins s σ H Q I hw)
theorem pe_and (ha:PE X a ta) (hb:PE X (.BoolOp .And (b::rest) pos) tb):PE X (.BoolOp .And (a::b::rest) pos) (tAndV ta tb):=by
  intro pins s σ H Q I h
  refine BoolOp_and (thn (ha pins s σ H _ I h) fun v s1 ⟨x,H1,I1,r1,q1⟩=>?_)
  obtain ⟨c,rfl,q1⟩:=q1
  cases r1
  refine wpAny_truthy_bool ?_
  cases c with
  | true=>exact hb pins s1 σ H1 Q I1 q1
  | false=>exact ⟨.bl false,H1,I1,rfl,q1⟩
theorem pe_not (ha:PE X a ta):PE X (.UnaryOp .Not a pos) (tNotV ta):=by
  intro pins s σ H Q I h
  refine UnaryOp_ (thn (ha pins s σ H _ I h) fun v s1 ⟨x,H1,I1,r1,q1⟩=>?_)
  obtain ⟨c,rfl,q1⟩:=q1
  cases r1
  exact not_of (wpAny_truthy_bool ⟨.bl (!c),H1,I1,rfl,q1⟩)
def tIf (t:TT) (ta tb:TE):TE:=fun σ H Q=>t σ H fun c H1=>if c=true then ta σ H1 Q else tb σ H1 Q
theorem pe_ifExp {c:Expr} (hc:PT X c tA) (ha:PE X a ta) (hb:PE X b tb):PE X (.IfExp c a b pos) (tIf tA ta tb):=by
  intro pins s σ H Q I h
  refine wpAny_IfExp (thn (hc pins s σ H _ I h) fun d s1 ⟨H1,I1,q1⟩=>?_)
  cases d with
  | true=>exact ha pins s1 σ H1 Q I1 q1
  | false=>exact hb pins s1 σ H1 Q I1 q1
end
end L2
namespace L2
open PySem PySem.Spec PyProof.Rows
def SqL (K:PySem.W.Frag) (H:Hp) (a:Addr) (xs:List V):Prop :=
  Rd H a (.lst xs) ∨
    ∃ (o:Obj) (its:Array Value) (n:Nat),K.lookup a=some o∧o.cls=.type "list" ∧ o.dict=none∧o.data=.seq its n∧its.size≤sizeLine∧Vals xs its.toList
def SqT (K:PySem.W.Frag) (H:Hp) (a:Addr) (xs:List V):Prop :=
  Rd H a (.tup xs) ∨
    ∃ (o:Obj) (its:Array Value) (n:Nat),K.lookup a=some o∧o.cls=.type "tuple" ∧ o.data=.seq its n∧its.size≤sizeLine∧Vals xs its.toList
def absV:Value→Option V
  | .none=>some .non
  | .bool b=>some (.bl b)
  | .int i _=>some (.int i)
  | .str x _=>some (.str x)
  | .bytes b _=>some (.byt b)
  | .float b _=>some (.flt b)
  | .ref a=>some (.ref a)
  | .type n=>some (.ty n)
  | _=>none
theorem RelV.abs {x:V} {u:Value} (r:RelV x u):absV u=some x:=by
  cases x with
  | non=>cases r; rfl
  | bl _=>cases r; rfl
  | int _=>obtain ⟨t,rfl⟩:=r; rfl
  | str _=>obtain ⟨t,rfl⟩:=r; rfl
  | byt _=>obtain ⟨t,rfl⟩:=r; rfl
  | flt _=>obtain ⟨t,rfl⟩:=r; rfl
  | ref _=>cases r; rfl
  | ty _=>cases r; rfl
theorem RelV.inj {x y:V} {u:Value} (r:RelV x u) (q:RelV y u):x=y:=Option.some.inj (r.abs.symm.trans q.abs)
theorem Vals.inj:∀ {xs ys:List V} {us:List Value},Vals xs us→Vals ys us→xs=ys
  | _,_,_,.nil,.nil=>rfl
  | _,_,_,.cons r t,.cons r' t'=>by rw [r.inj r',Vals.inj t t']
section
variable {X:Cx} {pins:List (Addr × Obj)} {σ:St} {H:Hp} {s:Shared} {a:Addr} {xs ys:List V}
theorem SqL.of {K:PySem.W.Frag} (h:H a=some (.lst xs)):SqL K H a xs:=.inl (.inl h)
theorem SqT.of {K:PySem.W.Frag} (h:H a=some (.tup xs)):SqT K H a xs:=.inl (.inl h)
theorem Inv.list (I:Inv X pins σ H s) (h:SqL X.K H a xs):∃ its:List Value,Vals xs its∧PlainL s.heap a its.toArray∧xs.length≤sizeLine:=by
  rcases h with h | ⟨o,its,n,hk,hc,hd,hs,hz,r⟩
  · obtain ⟨z,its,n,r,e⟩:=h.ok I.hok
    exact ⟨its,r,⟨_,n,e,rfl,rfl,rfl⟩,z⟩
  · refine ⟨its.toList,r,⟨o,n,I.kIn a o hk,hc,hd,by simpa using hs⟩,?_⟩
    have e:=r.length
    simp only [Array.length_toList] at e
    omega
theorem Inv.tuple (I:Inv X pins σ H s) (h:SqT X.K H a xs):∃ its:List Value,Vals xs its∧IsTup s.heap a its.toArray∧xs.length≤sizeLine:=by
  rcases h with h | ⟨o,its,n,hk,hc,hs,hz,r⟩
  · obtain ⟨⟨z,_⟩,its,r,p⟩:=h.ok I.hok
    exact ⟨its,r,p,z⟩
  · refine ⟨its.toList,r,⟨o,I.kIn a o hk,hc,n,by simpa using hs⟩,?_⟩
    have e:=r.length
    simp only [Array.length_toList] at e
    omega
theorem Inv.list_inj (I:Inv X pins σ H s) (h:SqL X.K H a xs) (h':SqL X.K H a ys):xs=ys:=by
  obtain ⟨its,r,⟨o,n,e,_,_,d⟩,_⟩:=I.list h
  obtain ⟨its',r',⟨o',n',e',_,_,d'⟩,_⟩:=I.list h'
  rw [e] at e'; cases e'
  rw [d] at d'
  injection d' with d1 _
  have:its=its':=by simpa using congrArg Array.toList d1
  subst this
  exact r.inj r'
theorem Inv.tuple_inj (I:Inv X pins σ H s) (h:SqT X.K H a xs) (h':SqT X.K H a ys):xs=ys:=by
  obtain ⟨its,r,⟨o,e,_,n,d⟩,_⟩:=I.tuple h
  obtain ⟨its',r',⟨o',e',_,n',d'⟩,_⟩:=I.tuple h'
  rw [e] at e'; cases e'
  rw [d] at d'
  injection d' with d1 _
  have:its=its':=by simpa using congrArg Array.toList d1
  subst this
  exact r.inj r'
end
abbrev Cx.wish (X:Cx) (E:Value→Shared→Prop):Cx:={ X with xe:=E }
abbrev Cx.nox (X:Cx):Cx:=X.wish fun _ _=>False
theorem Cx.Ok.wish {X:Cx} (ok:X.Ok) (E:Value→Shared→Prop):(X.wish E).Ok :=
  ⟨ok.mod,ok.kind,ok.glob,ok.blt,ok.above,ok.inj,ok.has,ok.cab,ok.hd,ok.frames,ok.stk,ok.exf,ok.bs,ok.bsz,ok.noex,ok.exfs,ok.funs,ok.frf⟩
theorem Cx.Ok.unwish {X:Cx} {E:Value→Shared→Prop} (ok:(X.wish E).Ok):X.Ok :=
  ⟨ok.mod,ok.kind,ok.glob,ok.blt,ok.above,ok.inj,ok.has,ok.cab,ok.hd,ok.frames,ok.stk,ok.exf,ok.bs,ok.bsz,ok.noex,ok.exfs,ok.funs,ok.frf⟩
section
variable {X:Cx} {pins:List (Addr × Obj)} {σ:St} {H:Hp} {s:Shared} {E:Value→Shared→Prop}
theorem Inv.wish (I:Inv X pins σ H s) (E:Value→Shared→Prop):Inv (X.wish E) pins σ H s:=⟨I.ok.wish E,I.os,I.bare,I.base,I.loc,I.cell,I.free,I.freeC,I.pin,I.hok,I.len⟩
theorem Inv.unwish (I:Inv (X.wish E) pins σ H s):Inv X pins σ H s:=⟨I.ok.unwish,I.os,I.bare,I.base,I.loc,I.cell,I.free,I.freeC,I.pin,I.hok,I.len⟩
theorem SP.unwish {D:Ends} {f:Flow} {s':Shared} (h:SP (X.wish E) pins D f s'):SP X pins D f s':=by
  cases f with
  | next=>obtain ⟨σ',H',I,q⟩:=h; exact ⟨σ',H',I.unwish,q⟩
  | brk=>obtain ⟨σ',H',I,q⟩:=h; exact ⟨σ',H',I.unwish,q⟩
  | cont=>obtain ⟨σ',H',I,q⟩:=h; exact ⟨σ',H',I.unwish,q⟩
  | ret u=>obtain ⟨v,σ',H',I,r,q⟩:=h; exact ⟨v,σ',H',I.unwish,r,q⟩
theorem PSs.nox {st:List Stmt} {t:TS} (h:PSs X.nox st t):PSs X st t:=fun pins s σ H D I hw =>
  wpAny_mono (h pins s σ H D (I.wish _) hw) (fun _ _ q=>q.unwish) fun _ _ z=>False.elim z
end
section
variable {X:Cx} {st:Stmt} {rest:List Stmt} {t u:TS} {e:Expr} {te:TE} {pos:Pos}
def tNext:TS:=fun D σ H=>D.nx σ H
def tSeq (t u:TS):TS:=fun D σ H=>t { D with nx:=u D } σ H
theorem pss_nil:PSs X [] tNext:=fun _ _ σ H _ I h=>wpAny_execs_nil ⟨σ,H,I,h⟩
theorem pss_cons (h1:PS X st t) (h2:PSs X rest u):PSs X (st::rest) (tSeq t u):=by
  intro pins s σ H D I h
  refine wpAny_execs_cons (thn (h1 pins s σ H { D with nx:=u D } I h) fun f s1 q=>?_)
  cases f with
  | next =>
    obtain ⟨σ',H',I',q⟩:=q
    exact h2 pins s1 σ' H' D I' q
  | ret v=>exact q
  | brk=>exact q
  | cont=>exact q
theorem pss_one (h1:PS X st t):PSs X [st] t:=by
  intro pins s σ H D I h
  refine wpAny_execs_cons (thn (h1 pins s σ H D I h) fun f s1 q=>?_)
  cases f with
  | next=>exact wpAny_execs_nil q
  | ret v=>exact q
  | brk=>exact q
  | cont=>exact q
def tBreak:TS:=fun D σ H=>D.bk σ H
theorem ps_break:PS X (.Break pos) tBreak:=fun _ _ σ H _ I h=>wpAny_Break ⟨σ,H,I,h⟩
theorem Inv.quiet {pins:List (Addr × Obj)} {σ:St} {H:Hp} {s:Shared} (I:Inv X pins σ H s):interactive X.env=false:=by simp [interactive,I.ok.kind]
def tDrop (te:TE):TS:=fun D σ H=>te σ H fun _ H1=>D.nx σ H1
theorem ps_expr (he:PE X e te) (hs:swapsWith e none pos.line X.env=pure false:=by rfl):PS X (.Expr e pos) (tDrop te):=by
  intro pins s σ H D I h
  exact wpAny_Expr_any (thn (he pins s σ H _ I h) fun v s1 ⟨x,H1,I1,r1,q1⟩=>⟨σ,H1,I1,q1⟩) I.quiet hs
def tRet (te:TE):TS:=fun D σ H=>te σ H D.rt
theorem ps_ret (he:PE X e te):PS X (.Return (some e) pos) (tRet te):=by
  intro pins s σ H D I h
  exact wpAny_Return_some (thn (he pins s σ H _ I h) fun v s1 ⟨x,H1,I1,r1,q1⟩=>⟨x,σ,H1,I1,r1,q1⟩)
def tIfS (c:TT) (t u:TS):TS:=fun D σ H=>c σ H fun b H1=>if b=true then t D σ H1 else u D σ H1
theorem ps_if {c:Expr} {a b:List Stmt} {tc:TT} (hc:PT X c tc) (ha:PSs X a t) (hb:PSs X b u):PS X (.If c a b pos) (tIfS tc t u):=by
  intro pins s σ H D I h
  refine wpAny_If (thn (hc pins s σ H _ I h) fun d s1 ⟨H1,I1,q1⟩=>?_)
  cases d with
  | true=>exact ha pins s1 σ H1 D I1 q1
  | false=>exact hb pins s1 σ H1 D I1 q1
end
abbrev TG:=V→St→Hp→(St→Hp→Prop)→Prop
abbrev TGs:=List V→St→Hp→(St→Hp→Prop)→Prop
def PG (X:Cx) (target:Expr) (t:TG):Prop :=
  ∀ (pins:List (Addr × Obj)) (s:Shared) (σ:St) (H:Hp) (v:V) (u:Value) (Q:St→Hp→Prop),Inv X pins σ H s→RelV v u→t v σ H Q →
    wpAny (model X.prog X.w) X.A (assign target X.env u) (fun _ s'=>∃ σ' H',Inv X pins σ' H' s'∧Q σ' H') X.xe s
def PGs (X:Cx) (ts:List Expr) (t:TGs):Prop :=
  ∀ (pins:List (Addr × Obj)) (s:Shared) (σ:St) (H:Hp) (vs:List V) (us:List Value) (Q:St→Hp→Prop),Inv X pins σ H s→Vals vs us→t vs σ H Q →
    wpAny (model X.prog X.w) X.A (assignInOrder ((assignEach ts X.env).map (·.2)) us) (fun _ s'=>∃ σ' H',Inv X pins σ' H' s'∧Q σ' H') X.xe s
section
variable {X:Cx} {pos:Pos}
def gName (i:Nat):TG:=fun v σ H Q=>Q (σ.set i (some v)) H
theorem pg_name {i:Nat} {x:Str} (hN:X.N.Nodup) (hi:X.N[i]?=some x) (hx:Loc X.env.scope x) (hf:X.fn x=true∨X.env.scope.names.lookup x=some .local:=by first | exact .inl rfl | exact .inr rfl | assumption):PG X (.Name x pos) (gName i):=by
  intro pins s σ H v u Q I r h
  exact wpAny_assign_Name (store_ok I hN hi hx r (fun s' I'=>⟨_,H,I',h⟩) hf)
def gNil:TGs:=fun vs σ H Q=>vs=[]∧Q σ H
def gCons (t:TG) (u:TGs):TGs:=fun vs σ H Q=>∃ v r,vs=v::r∧t v σ H fun σ' H'=>u r σ' H' Q
theorem pgs_nil:PGs X [] gNil:=by
  intro pins s σ H vs us Q I r h
  obtain ⟨e,h⟩:=h
  subst e
  cases r
  exact assignInOrder_nil ⟨σ,H,I,h⟩
theorem pgs_cons {e:Expr} {es:List Expr} {t:TG} {u:TGs} (h1:PG X e t) (h2:PGs X es u)
    (hs:(assignEach (e::es) X.env).map (·.2)=assign e X.env::(assignEach es X.env).map (·.2):=by rfl):PGs X (e::es) (gCons t u):=by
  intro pins s σ H vs us Q I r h
  obtain ⟨v,vr,e1,h⟩:=h
  subst e1
  cases r with
  | cons r rr =>
    rw [hs]
    refine assignInOrder_cons (thn (h1 pins s σ H _ _ _ I r h) fun _ s1 ⟨σ1,H1,I1,q1⟩=>?_)
    exact h2 pins s1 σ1 H1 _ _ Q I1 rr q1
def gTup (K:PySem.W.Frag) (n:Nat) (t:TGs):TG:=fun v σ H Q=>∃ a xs,v=.ref a∧SqT K H a xs∧xs.length=n∧t xs σ H Q
theorem pg_tup {es:List Expr} {k:Nat} {t:TGs} {n:Nat} (hc:X.calm=true) (h:PGs X es t)
    (hn:(assignEach es X.env).length=n:=by rfl) (hst:(assignEach es X.env).findIdx? (·.1)=none:=by rfl):PG X (.Tuple es k pos) (gTup X.K n t):=by
  intro pins s σ H v u Q I r hw
  obtain ⟨a,xs,e1,hq,hl,hw⟩:=hw
  subst e1
  cases r
  obtain ⟨its,rv,ht,hz⟩:=I.tuple hq
  refine assign_Tuple_tuple (I.ok.hd hc) ht (by simp [hn,← hl,rv.length]) hst fun h' hx=>?_
  have I1:Inv X pins σ H { s with heap:=h' }:=I.kept (t':=s.toks) fun b o e=>hx b o (Nat.ne_of_lt (Heap.lt_size e)) e
  exact h pins _ σ H xs _ Q I1 (by simpa using rv) hw
def tAsg (te:TE) (g:TG):TS:=fun D σ H=>te σ H fun x H1=>g x σ H1 D.nx
theorem ps_set {i:Nat} {x:Str} {e:Expr} {te:TE} {pos':Pos} (hN:X.N.Nodup) (hi:X.N[i]?=some x) (hx:Loc X.env.scope x) (he:PE X e te) (hs:swapsWith e (some (.Name x pos')) pos.line X.env=pure false:=by rfl) (hf:X.fn x=true∨X.env.scope.names.lookup x=some .local:=by first | exact .inl rfl | exact .inr rfl | assumption) :
    PS X (.Assign [.Name x pos'] e pos) (tAsg te (gName i)):=by
  intro pins s σ H D I h
  refine wpAny_Assign_Name (thn (he pins s σ H _ I h) fun v s1 ⟨y,H1,I1,r1,q1⟩=>?_) hs
  exact store_ok I1 hN hi hx r1 (fun s2 I2=>⟨_,H1,I2,q1⟩) hf
def tPar (i j:Nat) (ta:TA):TS:=fun D σ H=>ta σ H fun vs H1=>∃ v w,vs=[v,w]∧D.nx ((σ.set i (some v)).set j (some w)) H1
theorem ps_par {i j:Nat} {x y:Str} {a b:Expr} {ta:TA} {px py pt:Pos} {kt k2 pt2} (hc:X.calm=true) (hN:X.N.Nodup) (hi:X.N[i]?=some x) (hj:X.N[j]?=some y) (hij:i≠j)
    (hx:X.env.scope.names.lookup x=some .local) (hy:X.env.scope.names.lookup y=some .local) (ha:PA X [a,b] ta)
    (hw:swappedStores [.Tuple [.Name x px,.Name y py] kt pt] (.Tuple [a,b] k2 pt2) X.env=pure (some [x,y]))
    (hs:swapsWithSole [.Tuple [.Name x px,.Name y py] kt pt] (.Tuple [a,b] k2 pt2) pos.line X.env=pure false:=by rfl) :
    PS X (.Assign [.Tuple [.Name x px,.Name y py] kt pt] (.Tuple [a,b] k2 pt2) pos) (tPar i j ta):=by
  intro pins s σ H D I h
  rw [exec_Assign_arm]
  refine wpAny_bind (wpAny_standAt ?_)
  rw [hs]
  refine wpAny_bind (wpAny_pure ?_)
  rw [if_neg (by decide)]
  refine wpAny_bind (Tuple_ (thn (ha _ pins s σ H _ I h) fun us s1 ⟨vs,H1,I1,r1,q1⟩=>?_))
  obtain ⟨v,w,e1,q1⟩:=q1
  subst e1
  obtain ⟨u1,u2,rfl,rv,rw'⟩:∃ u1 u2,us=[u1,u2]∧RelV v u1∧RelV w u2:=by
    cases r1 with
    | cons p q =>
      cases q with
      | cons p' q' =>
        cases q'
        exact ⟨_,_,rfl,p,p'⟩
  refine wpAny_newObj_type ?_ (by show 2≤sizeLine; decide)
  have I2:Inv X pins σ H1 { s1 with heap:=s1.heap.push { cls:=.type "tuple",data:=.seq [u1,u2].toArray } }:=I1.kept (t':=s1.toks) fun b o e=>Heap.get?_push_of_some _ e
  rw [hw]
  refine wpAny_bind (wpAny_pure ?_)
  show wpAny (model X.prog X.w) X.A (do rule "assign.swapped-stores"; let items ← unpackItems (.ref s1.heap.objs.size) 2 none; assignInOrder [fun v=>bindName X.env y v,fun v=>bindName X.env x v] items.reverse; pure Flow.next) _ _ _
  refine wpAny_bind (wpAny_rule (wpAny_bind (unpackItems_tuple (items:=#[u1,u2]) (I.ok.hd hc) (IsTup.new s1.heap _) fun h' hx'=>?_)))
  have I3:=I2.kept (h':=h') (t':=s1.toks) fun b o e=>hx' b o (Nat.ne_of_lt (Heap.lt_size e)) e
  show wpAny _ _ (assignInOrder [fun v=>bindName X.env y v,fun v=>bindName X.env x v] [u2,u1] >>= fun _=>pure Flow.next) _ _ _
  refine wpAny_bind (assignInOrder_cons (wpAny_bindName (store_ok I3 hN hj (.inl hy) rw' (fun s2 I4=>?_) (.inr hy))))
  refine assignInOrder_cons (wpAny_bindName (store_ok I4 hN hi (.inl hx) rv (fun s3 I5=>assignInOrder_nil (wpAny_pure ?_)) (.inr hx)))
  rw [List.set_comm _ _ (Ne.symm hij)] at I5
  exact ⟨_,H1,I5,q1⟩
end
section
variable {X:Cx} {pos:Pos}
def tWhile (c:TT) (tb:TS):TS:=fun D σ H=>∃ W:Nat→St→Hp→Prop,(∃ m,W m σ H)∧∀ m σ H,W m σ H →
  c σ H fun b H1=>if b=true then ∃ N:St→Hp→Prop,(∀ σ' H',N σ' H'→∃ m',m' < m∧W m' σ' H')∧tb { D with nx:=N,ct:=N,bk:=D.nx } σ H1 else D.nx σ H1
theorem ps_while {c:Expr} {body:List Stmt} {tc:TT} {tb:TS} (hp:PassesOwn (model X.prog X.w) X.A X.env X.xe) (hc:PT X c tc) (hb:PSs X body tb):PS X (.While c body [] pos) (tWhile tc tb):=by
  intro pins s σ H D I h
  obtain ⟨W,⟨m0,w0⟩,turn⟩:=h
  refine wpAny_While (codeAny_whileLoop (fun n s'=>∃ σ' H',Inv X pins σ' H' s'∧W n σ' H') ?_ m0 ⟨σ,H,I,w0⟩)
  rintro n s1 ⟨σ1,H1,I1,w1⟩
  refine wpAny_passesOwn hp (thn (hc pins s1 σ1 H1 _ I1 (turn n σ1 H1 w1)) fun b s2 ⟨H2,I2,q2⟩=>?_)
  cases b with
  | true =>
    obtain ⟨N,hN,q2⟩:=q2
    rw [if_pos rfl]
    refine wpAny_passesOwn hp (thn (hb pins s2 σ1 H2 _ I2 q2) fun f s3 q3=>?_)
    cases f with
    | next =>
      obtain ⟨σ3,H3,I3,n3⟩:=q3
      obtain ⟨m',hm,w3⟩:=hN σ3 H3 n3
      exact ⟨m',hm,σ3,H3,I3,w3⟩
    | cont =>
      obtain ⟨σ3,H3,I3,n3⟩:=q3
      obtain ⟨m',hm,w3⟩:=hN σ3 H3 n3
      exact ⟨m',hm,σ3,H3,I3,w3⟩
    | brk=>exact q3
    | ret v=>exact q3
  | false =>
    rw [if_neg Bool.false_ne_true]
    exact wpAny_execs_nil ⟨σ1,H2,I2,q2⟩
end
structure It where
  go:Nat→Hp→Prop
  yld:Nat→Hp→V→Hp→Prop
  stop:Nat→Hp→Prop
def FpOk (X:Cx) (pins:List (Addr × Obj)) (H:Hp) (b:Addr):Prop :=
  H b=none∧b≠X.env.locals∧b ∉ X.fs∧(b∈X.ex∨X.s₀.heap.objs.size≤b)∧(∀ x c,X.env.cells.lookup x=some c→c≠b)∧∀ p∈X.pn++pins,p.1≠b
theorem Inv.fpOk {X:Cx} {pins:List (Addr × Obj)} {σ:St} {H H':Hp} {s:Shared} {b:Addr} (I:Inv X pins σ H s) (hb:s.heap.objs.size≤b) (hn:H' b=none):FpOk X pins H' b:=by
  refine ⟨hn,Nat.ne_of_gt (Nat.lt_of_lt_of_le I.lt hb),I.nofs hb,.inr (Nat.le_trans I.sz hb),fun x c e z=>?_,fun p hp z=>?_⟩
  · obtain ⟨v,q⟩:=I.cell x c e
    exact absurd (Nat.lt_of_lt_of_le q.lt (by rw [z]; exact hb)) (Nat.lt_irrefl _)
  · exact absurd (Nat.lt_of_lt_of_le (Heap.lt_size (I.pin p hp).1) (by rw [z]; exact hb)) (Nat.lt_irrefl _)
structure Turn (P:Program) (w:World) (K:PySem.W.Frag) (tg:Expr) (J:It) (fp:List Addr) (it:Addr) (tn:Nat→Heap→Prop):Prop where
  mem:it∈fp
  obj:∀ i h,tn i h→∀ b∈fp,∃ o,h.get? b=some o∧∀ v,o.data ≠ .cell v
  keep:∀ i h h',tn i h→(∀ b∈fp,∀ o,h.get? b=some o→h'.get? b=some o)→tn i h'
  item:∀ (X:Cx),X.prog=P→X.w=w→X.K=K→X.calm=true→∀ (i:Nat) (pins:List (Addr × Obj)) (s:Shared) (σ:St) (H:Hp) (E:Value→Shared→Prop),Inv X pins σ H s→(∀ b∈fp,FpOk X pins H b)→tn i s.heap→J.go i H →
    wpAny (model P w) X.A (pyNext (.ref it)) (fun r s1=>∃ u,r=some u ∧
      wpAny (model P w) X.A (letOwnedTupleGo tg (.ref it) u) (fun _ s2=>∃ x H',Inv X pins σ H' s2∧RelV x u∧J.yld i H x H'∧tn (i+1) s2.heap∧∀ b∈fp,H' b=none) E s1) E s
  done:∀ (X:Cx),X.prog=P→X.w=w→X.K=K→X.calm=true→∀ (i:Nat) (pins:List (Addr × Obj)) (s:Shared) (σ:St) (H:Hp) (E:Value→Shared→Prop),Inv X pins σ H s→(∀ b∈fp,FpOk X pins H b)→tn i s.heap→J.stop i H →
    wpAny (model P w) X.A (pyNext (.ref it)) (fun r s1=>r=none∧Inv X pins σ H s1) E s
  self:∀ (A:Around) (i:Nat) (s:Shared) (Q:Value→Shared→Prop) (E:Value→Shared→Prop),tn i s.heap→Q (.ref it) s→wpAny (model P w) A (pyIter (.ref it)) Q E s
abbrev TI:=St→Hp→(It→Hp→Prop)→Prop
def PIE (X:Cx) (pins:List (Addr × Obj)) (σ:St) (tg:Expr) (R:It→Hp→Prop) (itv:Value) (s2:Shared):Prop :=
  ∃ (it:Addr) (fp:List Addr) (tn:Nat→Heap→Prop) (J:It) (H':Hp),itv=.ref it∧Inv X pins σ H' s2∧Turn X.prog X.w X.K tg J fp it tn∧tn 0 s2.heap∧(∀ b∈fp,FpOk X pins H' b)∧R J H'
def PI (X:Cx) (tg iter:Expr) (wi:TI):Prop :=
  ∀ (pins:List (Addr × Obj)) (s:Shared) (σ:St) (H:Hp) (R:It→Hp→Prop),Inv X pins σ H s→wi σ H R →
    wpAny (model X.prog X.w) X.A (eval iter X.env) (fun v s1=>wpAny (model X.prog X.w) X.A (pyIter v) (PIE X pins σ tg R) X.xe s1) X.xe s
theorem go_of {M:Model} {A:Around} {E:Value→Shared→Prop} {s:Shared} {tg:Expr} {it:Addr} {u:Value} {o:Obj} {n:String} {vs:Array Value} {Q:Unit→Shared→Prop} (ho:s.heap.get? it=some o) (hc:o.cls=.type n) (hd:o.data=.fields vs)
    (hn:["enumerate", "zip", "dict_itemiterator", "dict_reverseitemiterator", "odict_iterator", "itertools.zip_longest", "itertools.pairwise"].contains n=false) (hQ:Q () s):wpAny M A (letOwnedTupleGo tg (.ref it) u) Q E s:=by
  unfold letOwnedTupleGo
  cases tg <;> first
    | exact wpAny_pure hQ
    | (cases u <;> first
        | exact wpAny_pure hQ
        | (refine wpAny_bind (wpAny_load ho ?_)
           rw [hc,hd]
           show wpAny M A (if (["enumerate", "zip", "dict_itemiterator", "dict_reverseitemiterator", "odict_iterator", "itertools.zip_longest", "itertools.pairwise"].contains n&&vs[0]? == some (rawInt _))=true then _ else _) Q E s
           rw [if_neg (by intro h; rw [hn,Bool.false_and] at h; cases h)]
           exact wpAny_pure hQ))
def Itl (K:PySem.W.Frag) (a:Addr):It :=
  ⟨fun i H=>∃ xs x,SqL K H a xs∧xs[i]?=some x,fun i H x H'=>H'=H∧∀ xs,SqL K H a xs→xs[i]?=some x,fun i H=>∃ xs,SqL K H a xs∧xs.length≤i⟩
def Itt (K:PySem.W.Frag) (a:Addr):It :=
  ⟨fun i H=>∃ xs x,SqT K H a xs∧xs[i]?=some x,fun i H x H'=>H'=H∧∀ xs,SqT K H a xs→xs[i]?=some x,fun i H=>∃ xs,SqT K H a xs∧xs.length≤i⟩
def Itr (lo:Int) (n:Nat):It:=⟨fun i _=>i<n,fun i H x H'=>H'=H∧x=.int (lo+i),fun i _=>n≤i⟩
theorem turn_list {P:Program} {w:World} {K:PySem.W.Frag} {tg:Expr} (a it:Addr):Turn P w K tg (Itl K a) [it] it (fun i h=>h.IsListIter it a i) where
  mem:=by simp
  obj:=fun i h st b hb=>by
    have e:b=it:=by simpa using hb
    subst e
    obtain ⟨o,e,c,d⟩:=st
    exact ⟨o,e,fun v z=>by rw [d] at z; cases z⟩
  keep:=fun i h h' st k=>st.at fun o e=>k it (by simp) o e
  item:=by
    intro X hP hw hK hc i pins s σ H E I hf st hg
    subst hP hw hK
    obtain ⟨xs,x,hq,hx⟩:=hg
    obtain ⟨its,rv,p,hz⟩:=I.list hq
    obtain ⟨u,hu,ru⟩:=rv.get hx
    obtain ⟨f0,f1,f2,f3,f4,f5⟩:=hf it (by simp)
    refine wpAny_pyNext_list_item st p.isList (x:=u) (by simpa using hu) fun h' st' sb=>?_
    have I1:Inv X pins σ H { s with heap:=h' }:=I.turned (t':=s.toks) (fun b o hb e=>(sb.2 b hb).trans e) f0 f1 f3 f4 f5
    obtain ⟨o,e,c,d⟩:=id st'
    exact ⟨u,rfl,go_of (s:={ s with heap:=h' }) e c d (by decide) ⟨x,H,I1,ru,⟨rfl,fun ys hy=>by rw [I.list_inj hy hq]; exact hx⟩,st',fun b hb=>(hf b hb).1⟩⟩
  done:=by
    intro X hP hw hK hc i pins s σ H E I hf st hg
    subst hP hw hK
    obtain ⟨xs,hq,hx⟩:=hg
    obtain ⟨its,rv,p,hz⟩:=I.list hq
    obtain ⟨f0,f1,f2,f3,f4,f5⟩:=hf it (by simp)
    have hl:=rv.length
    exact wpAny_pyNext_list_end (I.ok.hd hc) st p.isList (by simp; omega) fun h' eb=>⟨rfl,I.turned (t':=s.toks) (fun b o hb e=>eb b o hb e) f0 f1 f3 f4 f5⟩
  self:=fun _ _ _ _ _ st h=>wpAny_pyIter_listiter st h
theorem turn_tuple {P:Program} {w:World} {K:PySem.W.Frag} {tg:Expr} (a it:Addr):Turn P w K tg (Itt K a) [it] it (fun i h=>h.IsTupleIter it a i) where
  mem:=by simp
  obj:=fun i h st b hb=>by
    have e:b=it:=by simpa using hb
    subst e
    obtain ⟨o,e,c,d⟩:=st
    exact ⟨o,e,fun v z=>by rw [d] at z; cases z⟩
  keep:=fun i h h' st k=>st.at fun o e=>k it (by simp) o e
  item:=by
    intro X hP hw hK hc i pins s σ H E I hf st hg
    subst hP hw hK
    obtain ⟨xs,x,hq,hx⟩:=hg
    obtain ⟨its,rv,p,hz⟩:=I.tuple hq
    obtain ⟨u,hu,ru⟩:=rv.get hx
    obtain ⟨f0,f1,f2,f3,f4,f5⟩:=hf it (by simp)
    refine wpAny_pyNext_tuple_item st (show s.heap.IsTuple a its.toArray from p) (x:=u) (by simpa using hu) fun h' st' sb=>?_
    have I1:Inv X pins σ H { s with heap:=h' }:=I.turned (t':=s.toks) (fun b o hb e=>(sb.2 b hb).trans e) f0 f1 f3 f4 f5
    obtain ⟨o,e,c,d⟩:=id st'
    exact ⟨u,rfl,go_of (s:={ s with heap:=h' }) e c d (by decide) ⟨x,H,I1,ru,⟨rfl,fun ys hy=>by rw [I.tuple_inj hy hq]; exact hx⟩,st',fun b hb=>(hf b hb).1⟩⟩
  done:=by
    intro X hP hw hK hc i pins s σ H E I hf st hg
    subst hP hw hK
    obtain ⟨xs,hq,hx⟩:=hg
    obtain ⟨its,rv,p,hz⟩:=I.tuple hq
    obtain ⟨f0,f1,f2,f3,f4,f5⟩:=hf it (by simp)
    have hl:=rv.length
    exact wpAny_pyNext_tuple_end (I.ok.hd hc) st (show s.heap.IsTuple a its.toArray from p) (by simp; omega) fun h' eb=>⟨rfl,I.turned (t':=s.toks) (fun b o hb e=>eb b o hb e) f0 f1 f3 f4 f5⟩
  self:=fun _ _ _ _ _ st h=>wpAny_pyIter_tupleiter st h
theorem turn_range {P:Program} {w:World} {K:PySem.W.Frag} {tg:Expr} (it:Addr) (lo:Int) (n:Nat):Turn P w K tg (Itr lo n) [it] it (fun i h=>IsRangeIter h it (lo+(i:Nat)*1) ((n:Int) - (i:Nat)) 1) where
  mem:=by simp
  obj:=fun i h st b hb=>by
    have e:b=it:=by simpa using hb
    subst e
    exact ⟨_,st,fun v z=>by
      have z':Data.fields _=Data.cell v:=z
      cases z'⟩
  keep:=fun i h h' st k=>k it (by simp) _ st
  item:=by
    intro X hP hw hK hc i pins s σ H E I hf st hg
    subst hP hw hK
    obtain ⟨f0,f1,f2,f3,f4,f5⟩:=hf it (by simp)
    have W:=Walks.range (prog:=X.prog) (w:=X.w) (I.ok.hd hc) it lo 1 n
    refine W.item i s _ _ hg st fun v h' tk hv st' kk=>?_
    obtain ⟨t,rfl⟩:=hv
    have I1:Inv X pins σ H { s with heap:=h',toks:=tk }:=I.turned (fun b o hb e=>kk b o (by simpa using hb) e) f0 f1 f3 f4 f5
    refine ⟨_,rfl,go_of (s:={ s with heap:=h',toks:=tk }) (n := "range_iterator") st' rfl rfl (by decide) ⟨.int (lo+i),H,I1,⟨t,?_⟩,⟨rfl,rfl⟩,st',fun b hb=>(hf b hb).1⟩⟩
    rw [Int.mul_one]
  done:=by
    intro X hP hw hK hc i pins s σ H E I hf st hg
    subst hP hw hK
    obtain ⟨f0,f1,f2,f3,f4,f5⟩:=hf it (by simp)
    exact wpAny_pyNext_range_end (I.ok.hd hc) st (by have:n≤i:=hg; omega) fun h' eb=>⟨rfl,I.turned (t':=s.toks) (fun b o hb e=>eb b o hb e) f0 f1 f3 f4 f5⟩
  self:=fun _ _ _ _ _ st h=>wpAny_pyIter_rangeiter st h
end L2
namespace L2
open PySem PySem.Spec PyProof.Rows
section
variable {X:Cx} {tg:Expr}
def iList (K:PySem.W.Frag) (tl:TE):TI:=fun σ H R=>tl σ H fun x H1=>∃ a,x=.ref a∧(∃ xs,SqL K H1 a xs)∧R (Itl K a) H1
def iTup (K:PySem.W.Frag) (tl:TE):TI:=fun σ H R=>tl σ H fun x H1=>∃ a,x=.ref a∧(∃ xs,SqT K H1 a xs)∧R (Itt K a) H1
theorem pi_list {l:Expr} {tl:TE} (hl:PE X l tl):PI X tg l (iList X.K tl):=by
  intro pins s σ H R I h
  refine thn (hl pins s σ H _ I h) fun v s1 ⟨x,H1,I1,r1,q1⟩=>?_
  obtain ⟨a,e,⟨xs,hq⟩,q⟩:=q1
  subst e
  cases r1
  obtain ⟨its,rv,p,hz⟩:=I1.list hq
  refine wpAny_pyIter_list p.isList ?_
  refine ⟨s1.heap.objs.size,[s1.heap.objs.size],_,_,H1,rfl,I1.kept (t':=s1.toks) fun b o e=>Heap.get?_push_of_some _ e,turn_list a _,⟨_,Heap.get?_push_size _ rfl,rfl,rfl⟩,fun b hb=>?_,q⟩
  have e:b=s1.heap.objs.size:=by simpa using hb
  subst e
  exact I1.fpOk (Nat.le_refl _) (I1.hok.fresh (Nat.le_refl _))
theorem pi_tup {l:Expr} {tl:TE} (hl:PE X l tl):PI X tg l (iTup X.K tl):=by
  intro pins s σ H R I h
  refine thn (hl pins s σ H _ I h) fun v s1 ⟨x,H1,I1,r1,q1⟩=>?_
  obtain ⟨a,e,⟨xs,hq⟩,q⟩:=q1
  subst e
  cases r1
  obtain ⟨its,rv,p,hz⟩:=I1.tuple hq
  refine wpAny_pyIter_tuple (show s1.heap.IsTuple a its.toArray from p) ?_
  refine ⟨s1.heap.objs.size,[s1.heap.objs.size],_,_,H1,rfl,I1.kept (t':=s1.toks) fun b o e=>Heap.get?_push_of_some _ e,turn_tuple a _,⟨_,Heap.get?_push_size _ rfl,rfl,rfl⟩,fun b hb=>?_,q⟩
  have e:b=s1.heap.objs.size:=by simpa using hb
  subst e
  exact I1.fpOk (Nat.le_refl _) (I1.hok.fresh (Nat.le_refl _))
theorem range_it {pins:List (Addr × Obj)} {σ:St} {H:Hp} {s:Shared} {R:It→Hp→Prop} {E:Value→Shared→Prop} {lo hi:Int} {t u v:Tok} {tk:Nat} (I:Inv X pins σ H s) (h1:-(2^62)≤lo) (h2:lo<2^62) (h3:-(2^62)≤hi) (h4:hi<2^62)
    (q:R (Itr lo (hi - lo).toNat) H):wpAny (model X.prog X.w) X.A (pyIter (.ref s.heap.objs.size)) (PIE X pins σ tg R) E { s with heap:=s.heap.push { cls:=.type "range",data:=.fields #[.int lo t,.int hi u,.int 1 v] },toks:=tk }:=by
  refine wpAny_pyIter_range (IsRange.new ..) (small_one h1 h2 h3 h4) ?_
  have I1:Inv X pins σ H { s with heap:=s.heap.push { cls:=.type "range",data:=.fields #[.int lo t,.int hi u,.int 1 v] },toks:=tk }:=I.kept fun b o e=>Heap.get?_push_of_some _ e
  refine ⟨(s.heap.push { cls:=.type "range",data:=.fields #[.int lo t,.int hi u,.int 1 v] }).objs.size,[(s.heap.push { cls:=.type "range",data:=.fields #[.int lo t,.int hi u,.int 1 v] }).objs.size],_,_,H,rfl,
    I1.kept (t':=tk) fun b o e=>Heap.get?_push_of_some _ e,turn_range _ lo (hi - lo).toNat,?_,fun b hb=>?_,q⟩
  · have e1:lo+((0:Nat):Int)*1=lo:=by simp
    have e2:(((hi - lo).toNat:Nat):Int) - ((0:Nat):Int)=Builtin.Range.rangeSize lo hi 1:=by rw [rangeSize_one]; split <;> omega
    show IsRangeIter _ _ (lo+((0:Nat):Int)*1) ((((hi - lo).toNat:Nat):Int) - ((0:Nat):Int)) 1
    rw [e1,e2]
    exact Heap.get?_push_size _ rfl
  · have e:b=(s.heap.push { cls:=.type "range",data:=.fields #[.int lo t,.int hi u,.int 1 v] }).objs.size:=by simpa using hb
    subst e
    exact I1.fpOk (Nat.le_refl _) (I1.hok.fresh (Nat.le_refl _))
def iRng1 (ta:TA):TI:=fun σ H R=>ta σ H fun vs H1=>∃ j:Int,vs=[.int j]∧-(2^62)≤j∧j<2^62∧R (Itr 0 j.toNat) H1
def iRng2 (ta:TA):TI:=fun σ H R=>ta σ H fun vs H1=>∃ i j:Int,vs=[.int i,.int j]∧(-(2^62)≤i∧i<2^62∧-(2^62)≤j∧j<2^62)∧R (Itr i (j - i).toNat) H1
theorem pi_range1 {a:Expr} {ta:TA} {p pos:Pos} (hg:Gl X "range") (hm:X.mg "range" = none) (ha:PA X [a] ta) (hs:starEach [a] X.env=[(false,eval a X.env)]:=by rfl):PI X tg (.Call (.Name "range" p) [a] [] pos) (iRng1 ta):=by
  intro pins s σ H R I h
  refine Call_ (ld_blt I hg hm boot_range (PyProof.Rows.callWith_type1 (thn (ha pos pins s σ H _ I h) fun us s1 ⟨vs,H1,I1,r1,q1⟩=>?_) hs rfl))
  obtain ⟨j,e,q1,q2,q⟩:=q1
  subst e
  cases r1 with
  | cons r rr =>
    cases rr
    obtain ⟨t,rfl⟩:=r
    exact call_range_1 (range_it I1 (by omega) (by omega) q1 q2 (by simpa using q))
theorem pi_range2 {a b:Expr} {ta:TA} {p pos:Pos} (hg:Gl X "range") (hm:X.mg "range" = none) (ha:PA X [a,b] ta) (hs:starEach [a,b] X.env=[(false,eval a X.env),(false,eval b X.env)]:=by rfl) (hs2:starEach [b] X.env=[(false,eval b X.env)]:=by rfl) :
    PI X tg (.Call (.Name "range" p) [a,b] [] pos) (iRng2 ta):=by
  intro pins s σ H R I h
  refine Call_ (ld_blt I hg hm boot_range (PyProof.Rows.callWith_type1 (thn (ha pos pins s σ H _ I h) fun us s1 ⟨vs,H1,I1,r1,q1⟩=>?_) (by rw [hs,hs2]) (by rw [hs2]; rfl)))
  obtain ⟨i,j,e,⟨q1,q2,q3,q4⟩,q⟩:=q1
  subst e
  cases r1 with
  | cons r rr =>
    cases rr with
    | cons r' rr =>
      cases rr
      obtain ⟨t,rfl⟩:=r
      obtain ⟨t',rfl⟩:=r'
      exact call_range_2 (range_it I1 q1 q2 q3 q4 q)
def tFor (wi:TI) (g:TG) (tb:TS):TS:=fun D σ H=>wi σ H fun J H1=>∃ W:Nat→Nat→St→Hp→Prop,(∃ m,W 0 m σ H1)∧∀ i m σ H,W i m σ H →
  (J.stop i H∧D.nx σ H)∨(J.go i H∧∃ N:St→Hp→Prop,(∀ σ' H',N σ' H'→∃ m',m' < m∧W (i+1) m' σ' H')∧∀ x H',J.yld i H x H'→g x σ H' fun σ2 H2=>tb { D with nx:=N,ct:=N,bk:=D.nx } σ2 H2)
def pinsAt (fp:List Addr) (h:Heap):List (Addr × Obj):=fp.filterMap fun b=>(h.get? b).map fun o=>(b,o)
theorem mem_pinsAt {fp:List Addr} {h:Heap} {b:Addr} {o:Obj} (hb:b∈fp) (e:h.get? b=some o):(b,o)∈pinsAt fp h:=List.mem_filterMap.mpr ⟨b,hb,by rw [e]; rfl⟩
theorem of_pinsAt {fp:List Addr} {h:Heap} {p:Addr × Obj} (hp:p∈pinsAt fp h):p.1∈fp∧h.get? p.1=some p.2:=by
  obtain ⟨b,hb,e⟩:=List.mem_filterMap.mp hp
  cases q:h.get? b with
  | none=>rw [q] at e; cases e
  | some o =>
    rw [q] at e
    have e':(b,o)=p:=Option.some.inj e
    subst e'
    exact ⟨hb,q⟩
theorem Inv.pinned {pins:List (Addr × Obj)} {σ:St} {H:Hp} {s:Shared} {fp:List Addr} (I:Inv X pins σ H s) (hf:∀ b∈fp,FpOk X pins H b) (ho:∀ b∈fp,∃ o,s.heap.get? b=some o∧∀ v,o.data ≠ .cell v):Inv X (pins++pinsAt fp s.heap) σ H s :=
  I.pins_of fun p hp=>(List.mem_append.mp hp).elim (fun z=>I.pin p (List.mem_append_right _ z)) fun z=>by
    obtain ⟨hb,e⟩:=of_pinsAt z
    obtain ⟨f0,f1,f2,_⟩:=hf p.1 hb
    obtain ⟨o,e',d⟩:=ho p.1 hb
    rw [e] at e'; cases e'
    exact ⟨e,f0,f1,f2,d⟩
theorem Inv.unpinned {pins pl:List (Addr × Obj)} {σ:St} {H:Hp} {s:Shared} (I:Inv X (pins++pl) σ H s):Inv X pins σ H s:=I.pins_of fun p hp=>I.pin p (List.mem_append_right _ (List.mem_append_left _ hp))
theorem ps_for {iter:Expr} {body:List Stmt} {wi:TI} {g:TG} {tb:TS} {pos:Pos} (hp:PassesOwn (model X.prog X.w) X.A X.env X.xe) (hc:X.calm=true) (hi:PI X tg iter wi) (hg:PG X tg g) (hb:PSs X body tb)
    (hs:∀ x,foldedSetIterable iter X.env x=pure x:=by intro _; rfl):PS X (.For tg iter body [] pos) (tFor wi g tb):=by
  intro pins s σ H D I h
  refine wpAny_For (thn (hi pins s σ H _ I h) fun v s1 h1=>thn h1 fun itv s2 h2=>?_) hs
  obtain ⟨it,fp,tn,J,H2,e,I2,T,st2,f2,W,⟨m0,w0⟩,turn⟩:=h2
  subst e
  have stat:∀ {H':Hp},(∀ b∈fp,H' b=none)→∀ b∈fp,FpOk X pins H' b:=fun hn b hb=>⟨hn b hb,(f2 b hb).2⟩
  refine codeAny_forLoop_any (fun n s'=>∃ i σ' H',Inv X pins σ' H' s'∧tn i s'.heap∧(∀ b∈fp,H' b=none)∧W i n σ' H') ?_ m0 ⟨0,σ,H2,I2,st2,fun b hb=>(f2 b hb).1,w0⟩
  rintro n s3 ⟨i,σ3,H3,I3,st3,fr3,w3⟩
  rcases turn i n σ3 H3 w3 with ⟨stop,qn⟩ | ⟨go,N,hN,step⟩
  · refine wpAny_passesOwn hp (thn (T.done X rfl rfl rfl hc i pins s3 σ3 H3 X.xe I3 (stat fr3) st3 stop) fun r s4 ⟨hr,I4⟩=>?_)
    subst hr
    exact wpAny_execs_nil ⟨σ3,H3,I4,qn⟩
  · refine wpAny_passesOwn hp (thn (T.item X rfl rfl rfl hc i pins s3 σ3 H3 X.xe I3 (stat fr3) st3 go) fun r s4 ⟨u,hr,h4⟩=>?_)
    subst hr
    refine wpAny_passesOwn hp (thn h4 fun _ s5 ⟨x,H5,I5,r5,y5,st5,fr5⟩=>?_)
    have I5':=I5.pinned (stat fr5) (T.obj _ _ st5)
    refine wpAny_passesOwn hp (thn (hg _ s5 σ3 H5 x u _ I5' r5 (step x H5 y5)) fun _ s6 ⟨σ6,H6,I6,q6⟩=>?_)
    refine wpAny_passesOwn hp (thn (hb _ s6 σ6 H6 _ I6 q6) fun f s7 q7=>?_)
    have again:∀ {σ7:St} {H7:Hp},Inv X (pins++pinsAt fp s5.heap) σ7 H7 s7→N σ7 H7→∃ m,m<n∧∃ i σ' H',Inv X pins σ' H' s7∧tn i s7.heap∧(∀ b∈fp,H' b=none)∧W i m σ' H':=fun {σ7 H7} I7 n7=>by
      obtain ⟨m',hm,w7⟩:=hN σ7 H7 n7
      refine ⟨m',hm,i+1,σ7,H7,I7.unpinned,T.keep _ _ _ st5 fun b hb o e=>(I7.pin (b,o) (List.mem_append_right _ (List.mem_append_right _ (mem_pinsAt hb e)))).1,fun b hb=>?_,w7⟩
      obtain ⟨o,e,d⟩:=T.obj _ _ st5 b hb
      exact (I7.pin (b,o) (List.mem_append_right _ (List.mem_append_right _ (mem_pinsAt hb e)))).2.1
    cases f with
    | next=>obtain ⟨σ7,H7,I7,n7⟩:=q7; exact again I7 n7
    | cont=>obtain ⟨σ7,H7,I7,n7⟩:=q7; exact again I7 n7
    | brk=>obtain ⟨σ7,H7,I7,q7⟩:=q7; exact ⟨σ7,H7,I7.unpinned,q7⟩
    | ret v=>obtain ⟨x7,σ7,H7,I7,r7,q7⟩:=q7; exact ⟨x7,σ7,H7,I7.unpinned,r7,q7⟩
end
theorem for_list {K:PySem.W.Frag} {a:Addr} {xs:List V} {g:TG} {tb:TS} {D:Ends} {σ:St} {H:Hp} (Pv:Nat→St→Hp→Prop) (h0:Pv 0 σ H) (hl:∀ i σ H,i≤xs.length→Pv i σ H→SqL K H a xs)
    (hs:∀ i x σ H,xs[i]?=some x→Pv i σ H→g x σ H fun σ2 H2=>tb { D with nx:=Pv (i+1),ct:=Pv (i+1),bk:=D.nx } σ2 H2) (hd:∀ σ H,Pv xs.length σ H→D.nx σ H) :
    ∃ W:Nat→Nat→St→Hp→Prop,(∃ m,W 0 m σ H)∧∀ i m σ H,W i m σ H →
      ((Itl K a).stop i H∧D.nx σ H)∨((Itl K a).go i H∧∃ N:St→Hp→Prop,(∀ σ' H',N σ' H'→∃ m',m' < m∧W (i+1) m' σ' H')∧∀ x H',(Itl K a).yld i H x H'→g x σ H' fun σ2 H2=>tb { D with nx:=N,ct:=N,bk:=D.nx } σ2 H2):=by
  refine ⟨fun i m σ H=>m=xs.length - i∧i≤xs.length∧Pv i σ H,⟨xs.length,by simp,Nat.zero_le _,h0⟩,?_⟩
  rintro i m σ H ⟨rfl,hi,p⟩
  have q:=hl i σ H hi p
  by_cases hlt:i<xs.length
  · refine .inr ⟨⟨xs,xs[i],q,by simp [hlt]⟩,Pv (i+1),fun σ' H' p'=>⟨xs.length - (i+1),by omega,rfl,hlt,p'⟩,fun x H' y=>?_⟩
    obtain ⟨e,y⟩:=y
    subst e
    exact hs i x σ _ (y xs q) p
  · have e:i=xs.length:=by omega
    subst e
    exact .inl ⟨⟨xs,q,Nat.le_refl _⟩,hd σ H p⟩
theorem for_tup {K:PySem.W.Frag} {a:Addr} {xs:List V} {g:TG} {tb:TS} {D:Ends} {σ:St} {H:Hp} (Pv:Nat→St→Hp→Prop) (h0:Pv 0 σ H) (hl:∀ i σ H,i≤xs.length→Pv i σ H→SqT K H a xs)
    (hs:∀ i x σ H,xs[i]?=some x→Pv i σ H→g x σ H fun σ2 H2=>tb { D with nx:=Pv (i+1),ct:=Pv (i+1),bk:=D.nx } σ2 H2) (hd:∀ σ H,Pv xs.length σ H→D.nx σ H) :
    ∃ W:Nat→Nat→St→Hp→Prop,(∃ m,W 0 m σ H)∧∀ i m σ H,W i m σ H →
      ((Itt K a).stop i H∧D.nx σ H)∨((Itt K a).go i H∧∃ N:St→Hp→Prop,(∀ σ' H',N σ' H'→∃ m',m' < m∧W (i+1) m' σ' H')∧∀ x H',(Itt K a).yld i H x H'→g x σ H' fun σ2 H2=>tb { D with nx:=N,ct:=N,bk:=D.nx } σ2 H2):=by
  refine ⟨fun i m σ H=>m=xs.length - i∧i≤xs.length∧Pv i σ H,⟨xs.length,by simp,Nat.zero_le _,h0⟩,?_⟩
  rintro i m σ H ⟨rfl,hi,p⟩
  have q:=hl i σ H hi p
  by_cases hlt:i<xs.length
  · refine .inr ⟨⟨xs,xs[i],q,by simp [hlt]⟩,Pv (i+1),fun σ' H' p'=>⟨xs.length - (i+1),by omega,rfl,hlt,p'⟩,fun x H' y=>?_⟩
    obtain ⟨e,y⟩:=y
    subst e
    exact hs i x σ _ (y xs q) p
  · have e:i=xs.length:=by omega
    subst e
    exact .inl ⟨⟨xs,q,Nat.le_refl _⟩,hd σ H p⟩
theorem for_range {lo:Int} {n:Nat} {g:TG} {tb:TS} {D:Ends} {σ:St} {H:Hp} (Pv:Nat→St→Hp→Prop) (h0:Pv 0 σ H)
    (hs:∀ i σ H,i<n→Pv i σ H→g (.int (lo+i)) σ H fun σ2 H2=>tb { D with nx:=Pv (i+1),ct:=Pv (i+1),bk:=D.nx } σ2 H2) (hd:∀ σ H,Pv n σ H→D.nx σ H) :
    ∃ W:Nat→Nat→St→Hp→Prop,(∃ m,W 0 m σ H)∧∀ i m σ H,W i m σ H →
      ((Itr lo n).stop i H∧D.nx σ H)∨((Itr lo n).go i H∧∃ N:St→Hp→Prop,(∀ σ' H',N σ' H'→∃ m',m' < m∧W (i+1) m' σ' H')∧∀ x H',(Itr lo n).yld i H x H'→g x σ H' fun σ2 H2=>tb { D with nx:=N,ct:=N,bk:=D.nx } σ2 H2):=by
  refine ⟨fun i m σ H=>m=n - i∧i≤n∧Pv i σ H,⟨n,by simp,Nat.zero_le _,h0⟩,?_⟩
  rintro i m σ H ⟨rfl,hi,p⟩
  by_cases hlt:i<n
  · refine .inr ⟨hlt,Pv (i+1),fun σ' H' p'=>⟨n - (i+1),by omega,rfl,hlt,p'⟩,fun x H' y=>?_⟩
    obtain ⟨e,y⟩:=y
    subst e y
    exact hs i σ _ hlt p
  · have e:i=n:=by omega
    subst e
    exact .inl ⟨Nat.le_refl _,hd σ H p⟩
end L2
namespace L2
open PySem PySem.Spec PyProof.Rows
abbrev R2:=V→V→Hp→VK→Prop
def OpR (X:Cx) (f:Value→Value→Sem Value) (r:R2):Prop :=
  ∀ (pins:List (Addr × Obj)) (s:Shared) (σ:St) (H:Hp) (x y:V) (v u:Value) (Q:VK),Inv X pins σ H s→RelV x v→RelV y u→r x y H Q →
    wpAny (model X.prog X.w) X.A (f v u) (EP X pins σ Q) X.xe s
def UnR (X:Cx) (f:Value→Sem Value) (r:V→Hp→VK→Prop):Prop :=
  ∀ (pins:List (Addr × Obj)) (s:Shared) (σ:St) (H:Hp) (x:V) (v:Value) (Q:VK),Inv X pins σ H s→RelV x v→r x H Q →
    wpAny (model X.prog X.w) X.A (f v) (EP X pins σ Q) X.xe s
def CallR (X:Cx) (f:Value) (r:List V→Hp→VK→Prop):Prop :=
  ∀ (pins:List (Addr × Obj)) (s:Shared) (σ:St) (H:Hp) (xs:List V) (us:List Value) (Q:VK),Inv X pins σ H s→Vals xs us→r xs H Q →
    wpAny (model X.prog X.w) X.A (call f us) (EP X pins σ Q) X.xe s
def tOp (r:R2) (ta tb:TE):TE:=fun σ H Q=>ta σ H fun x H1=>tb σ H1 fun y H2=>r x y H2 Q
def tUn (r:V→Hp→VK→Prop) (ta:TE):TE:=fun σ H Q=>ta σ H fun x H1=>r x H1 Q
def rI (C:Int→Int→Prop) (g:Int→Int→V):R2:=fun x y H Q=>∃ i j,x=.int i∧y=.int j∧C i j∧Q (g i j) H
def rI0 (g:Int→Int→V):R2:=fun x y H Q=>∃ i j,x=.int i∧y=.int j∧Q (g i j) H
def rU (g:Int→V):V→Hp→VK→Prop:=fun x H Q=>∃ i,x=.int i∧Q (g i) H
section
variable {X:Cx} {a b c:Expr} {ta tb tc:TE} {pos:Pos}
theorem binT (ha:PE X a ta) (hb:PE X b tb) {pins:List (Addr × Obj)} {s:Shared} {σ:St} {H:Hp} {R:V→V→Hp→Prop} (I:Inv X pins σ H s)
    (h:ta σ H fun x H1=>tb σ H1 fun y H2=>R x y H2) {Q:Value→Shared→Prop} {f:Value→Value→Sem Value}
    (hf:∀ v u s2 x y H2,Inv X pins σ H2 s2→RelV x v→RelV y u→R x y H2→wpAny (model X.prog X.w) X.A (f v u) Q X.xe s2) :
    wpAny (model X.prog X.w) X.A (eval a X.env) (fun v s₁=>wpAny (model X.prog X.w) X.A (eval b X.env) (fun u s₂=>wpAny (model X.prog X.w) X.A (f v u) Q X.xe s₂) X.xe s₁) X.xe s:=by
  refine thn (ha pins s σ H _ I h) fun v s1 ⟨x,H1,I1,r1,q1⟩=>?_
  refine thn (hb pins s1 σ H1 _ I1 q1) fun u s2 ⟨y,H2,I2,r2,q2⟩=>?_
  exact hf v u s2 x y H2 I2 r1 r2 q2
theorem pe_op {op:Operator} {r:R2} (ho:OpR X (binaryOp op) r) (ha:PE X a ta) (hb:PE X b tb):PE X (.BinOp a op b pos) (tOp r ta tb):=by
  intro pins s σ H Q I h
  exact wpAny_BinOp (binT ha hb I h fun v u s2 x y H2 I2 rx ry q=>ho pins s2 σ H2 x y v u Q I2 rx ry q)
theorem pe_un {op:UnaryOp} {r:V→Hp→VK→Prop} (ho:UnR X (unaryOp op) r) (ha:PE X a ta):PE X (.UnaryOp op a pos) (tUn r ta):=by
  intro pins s σ H Q I h
  exact UnaryOp_ (thn (ha pins s σ H _ I h) fun v s1 ⟨x,H1,I1,r1,q1⟩=>ho pins s1 σ H1 x v Q I1 r1 q1)
theorem opI {f:Value→Value→Sem Value} {C:Int→Int→Prop} {g:Int→Int→Int}
    (rule:∀ (i j:Int) (t u:Tok) (s:Shared) (Q:Value→Shared→Prop) (E:Value→Shared→Prop),C i j→Q (.int (g i j) s.toks) { s with toks:=s.toks+1 }→wpAny (model X.prog X.w) X.A (f (.int i t) (.int j u)) Q E s) :
    OpR X f (rI C fun i j=>.int (g i j)):=by
  intro pins s σ H x y v u Q I rx ry h
  obtain ⟨i,j,rfl,rfl,hc,q⟩:=h
  obtain ⟨t,rfl⟩:=rx
  obtain ⟨t',rfl⟩:=ry
  exact rule i j t t' s _ _ hc ⟨.int (g i j),H,I.tok _,⟨_,rfl⟩,q⟩
theorem opI0 {f:Value→Value→Sem Value} {g:Int→Int→Int}
    (rule:∀ (i j:Int) (t u:Tok) (s:Shared) (Q:Value→Shared→Prop) (E:Value→Shared→Prop),Q (.int (g i j) s.toks) { s with toks:=s.toks+1 }→wpAny (model X.prog X.w) X.A (f (.int i t) (.int j u)) Q E s) :
    OpR X f (rI0 fun i j=>.int (g i j)):=by
  intro pins s σ H x y v u Q I rx ry h
  obtain ⟨i,j,rfl,rfl,q⟩:=h
  obtain ⟨t,rfl⟩:=rx
  obtain ⟨t',rfl⟩:=ry
  exact rule i j t t' s _ _ ⟨.int (g i j),H,I.tok _,⟨_,rfl⟩,q⟩
theorem opB0 {f:Value→Value→Sem Value} {g:Int→Int→Bool}
    (rule:∀ (i j:Int) (t u:Tok) (s:Shared) (Q:Value→Shared→Prop) (E:Value→Shared→Prop),Q (.bool (g i j)) s→wpAny (model X.prog X.w) X.A (f (.int i t) (.int j u)) Q E s) :
    OpR X f (rI0 fun i j=>.bl (g i j)):=by
  intro pins s σ H x y v u Q I rx ry h
  obtain ⟨i,j,rfl,rfl,q⟩:=h
  obtain ⟨t,rfl⟩:=rx
  obtain ⟨t',rfl⟩:=ry
  exact rule i j t t' s _ _ ⟨.bl (g i j),H,I,rfl,q⟩
def CPow (i j:Int):Prop:=0≤j∧j≤1000000∧i.natAbs<2^64
theorem op_add:OpR X (binaryOp .Add) (rI0 fun i j=>.int (i+j)):=opI0 fun _ _ _ _ _ _ _ q=>add_int q
theorem op_sub:OpR X (binaryOp .Sub) (rI0 fun i j=>.int (i - j)):=opI0 fun _ _ _ _ _ _ _ q=>sub_int q
theorem op_mod:OpR X (binaryOp .Mod) (rI (fun _ j=>0<j) fun i j=>.int (i % j)):=opI fun i j _ _ _ _ _ hc q=>by
  have h1:(0:Int)<j:=hc
  exact mod_int' (by omega) (by rw [Int.fmod_eq_emod_of_nonneg i (by omega)]; exact q)
theorem op_pow:OpR X (binaryOp .Pow) (rI CPow fun i j=>.int (i^j.toNat)):=opI fun _ _ _ _ _ _ _ hc q=>pow_int_small hc.1 hc.2.1 hc.2.2 q
theorem unI {f:Value→Sem Value} {g:Int→Int}
    (rule:∀ (i:Int) (t:Tok) (s:Shared) (Q:Value→Shared→Prop) (E:Value→Shared→Prop),Q (.int (g i) s.toks) { s with toks:=s.toks+1 }→wpAny (model X.prog X.w) X.A (f (.int i t)) Q E s) :
    UnR X f (rU fun i=>.int (g i)):=by
  intro pins s σ H x v Q I rx h
  obtain ⟨i,rfl,q⟩:=h
  obtain ⟨t,rfl⟩:=rx
  exact rule i t s _ _ ⟨.int (g i),H,I.tok _,⟨_,rfl⟩,q⟩
theorem un_neg:UnR X (unaryOp .USub) (rU fun i=>.int (-i)):=unI fun _ _ _ _ _ q=>neg_int q
end
def scal:V→V→Bool
  | .non,.non=>true | .non,.int _=>true | .int _,.non=>true | .non,.bl _=>true | .bl _,.non=>true | .non,.str _=>true | .str _,.non=>true
  | .int _,.int _=>true | .bl _,.bl _=>true | .str _,.str _=>true | .byt _,.byt _=>true
  | .int _,.str _=>true | .str _,.int _=>true | .bl _,.str _=>true | .str _,.bl _=>true
  | _,_=>false
def rEq:R2:=fun x y H Q=>scal x y=true∧Q (.bl (decide (x=y))) H
def rNe:R2:=fun x y H Q=>scal x y=true∧Q (.bl (!decide (x=y))) H
theorem dec_int {i j:Int}:decide (V.int i=V.int j)=(i == j):=by
  rw [Bool.eq_iff_iff]
  simp
theorem dec_bl {i j:Bool}:decide (V.bl i=V.bl j)=(i == j):=by
  rw [Bool.eq_iff_iff]
  simp
theorem dec_str {i j:Str}:decide (V.str i=V.str j)=(i == j):=by
  rw [Bool.eq_iff_iff]
  simp
theorem dec_byt {i j:Array UInt8}:decide (V.byt i=V.byt j)=(i.toList == j.toList):=by
  rw [Bool.eq_iff_iff]
  cases i
  cases j
  simp
section
variable {X:Cx} {a b c:Expr} {ta tb tc:TE} {pos:Pos}
theorem fin_bl {pins:List (Addr × Obj)} {σ:St} {H:Hp} {s:Shared} {Q:VK} {k k':Bool} (I:Inv X pins σ H s) (q:Q (.bl k) H) (e:k=k'):EP X pins σ Q (.bool k') s:=by
  subst e
  exact ⟨.bl k,H,I,rfl,q⟩
theorem op_eq:OpR X (compareOp .Eq) rEq:=by
  intro pins s σ H x y v u Q I rx ry h
  obtain ⟨hs,q⟩:=h
  cases x with
  | non =>
    cases rx
    cases y with
    | non=>cases ry; exact PySem.EqNone.eq_none_none (fin_bl I q (by simp))
    | bl j=>cases ry; exact PySem.EqNone.eq_none_bool (fin_bl I q (by simp))
    | int j=>obtain ⟨t',rfl⟩:=ry; exact PySem.EqNone.eq_none_int (fin_bl I q (by simp))
    | str j=>obtain ⟨t',rfl⟩:=ry; exact PySem.EqNone.eq_none_str (fin_bl I q (by simp))
    | _=>exact absurd (show false=true from hs) Bool.false_ne_true
  | bl i =>
    cases rx
    cases y with
    | non=>cases ry; exact PySem.EqNone.eq_bool_none (fin_bl I q (by simp))
    | bl j=>cases ry; exact eq_bool (fin_bl I q dec_bl)
    | str j=>obtain ⟨t',rfl⟩:=ry; exact PySem.EqMixed.eq_bool_str (fin_bl I q (by simp))
    | _=>exact absurd (show false=true from hs) Bool.false_ne_true
  | int i =>
    obtain ⟨t,rfl⟩:=rx
    cases y with
    | non=>cases ry; exact PySem.EqNone.eq_int_none (fin_bl I q (by simp))
    | int j=>obtain ⟨t',rfl⟩:=ry; exact eq_int (fin_bl I q dec_int)
    | str j=>obtain ⟨t',rfl⟩:=ry; exact PySem.EqMixed.eq_int_str (fin_bl I q (by simp))
    | _=>exact absurd (show false=true from hs) Bool.false_ne_true
  | str i =>
    obtain ⟨t,rfl⟩:=rx
    cases y with
    | non=>cases ry; exact PySem.EqNone.eq_str_none (fin_bl I q (by simp))
    | bl j=>cases ry; exact PySem.EqMixed.eq_str_bool (fin_bl I q (by simp))
    | int j=>obtain ⟨t',rfl⟩:=ry; exact PySem.EqMixed.eq_str_int (fin_bl I q (by simp))
    | str j=>obtain ⟨t',rfl⟩:=ry; exact eq_str (fin_bl I q dec_str)
    | _=>exact absurd (show false=true from hs) Bool.false_ne_true
  | byt i =>
    obtain ⟨t,rfl⟩:=rx
    cases y with
    | byt j=>obtain ⟨t',rfl⟩:=ry; exact PySem.W.eq_bytes (fin_bl I q dec_byt)
    | _=>exact absurd (show false=true from hs) Bool.false_ne_true
  | _=>cases y <;> exact absurd (show false=true from hs) Bool.false_ne_true
theorem op_ne:OpR X (compareOp .NotEq) rNe:=by
  intro pins s σ H x y v u Q I rx ry h
  obtain ⟨hs,q⟩:=h
  cases x with
  | non =>
    cases rx
    cases y with
    | non=>cases ry; exact PySem.EqNone.ne_none_none (fin_bl I q (by simp))
    | bl j=>cases ry; exact PySem.EqNone.ne_none_bool (fin_bl I q (by simp))
    | int j=>obtain ⟨t',rfl⟩:=ry; exact PySem.EqNone.ne_none_int (fin_bl I q (by simp))
    | str j=>obtain ⟨t',rfl⟩:=ry; exact PySem.EqNone.ne_none_str (fin_bl I q (by simp))
    | _=>exact absurd (show false=true from hs) Bool.false_ne_true
  | bl i =>
    cases rx
    cases y with
    | non=>cases ry; exact PySem.EqNone.ne_bool_none (fin_bl I q (by simp))
    | bl j=>cases ry; exact ne_bool (fin_bl I q (congrArg not dec_bl))
    | str j=>obtain ⟨t',rfl⟩:=ry; exact PySem.EqMixed.ne_bool_str (fin_bl I q (by simp))
    | _=>exact absurd (show false=true from hs) Bool.false_ne_true
  | int i =>
    obtain ⟨t,rfl⟩:=rx
    cases y with
    | non=>cases ry; exact PySem.EqNone.ne_int_none (fin_bl I q (by simp))
    | int j=>obtain ⟨t',rfl⟩:=ry; exact ne_int (fin_bl I q (congrArg not dec_int))
    | str j=>obtain ⟨t',rfl⟩:=ry; exact PySem.EqMixed.ne_int_str (fin_bl I q (by simp))
    | _=>exact absurd (show false=true from hs) Bool.false_ne_true
  | str i =>
    obtain ⟨t,rfl⟩:=rx
    cases y with
    | non=>cases ry; exact PySem.EqNone.ne_str_none (fin_bl I q (by simp))
    | bl j=>cases ry; exact PySem.EqMixed.ne_str_bool (fin_bl I q (by simp))
    | int j=>obtain ⟨t',rfl⟩:=ry; exact PySem.EqMixed.ne_str_int (fin_bl I q (by simp))
    | str j=>obtain ⟨t',rfl⟩:=ry; exact ne_str (fin_bl I q (congrArg not dec_str))
    | _=>exact absurd (show false=true from hs) Bool.false_ne_true
  | byt i =>
    obtain ⟨t,rfl⟩:=rx
    cases y with
    | byt j=>obtain ⟨t',rfl⟩:=ry; exact PySem.W.ne_bytes (fin_bl I q (congrArg not dec_byt))
    | _=>exact absurd (show false=true from hs) Bool.false_ne_true
  | _=>cases y <;> exact absurd (show false=true from hs) Bool.false_ne_true
theorem op_lt:OpR X (compareOp .Lt) (rI0 fun i j=>.bl (decide (i<j))):=opB0 fun _ _ _ _ _ _ _ q=>lt_int q
theorem op_le:OpR X (compareOp .LtE) (rI0 fun i j=>.bl (decide (i≤j))):=opB0 fun _ _ _ _ _ _ _ q=>le_int q
theorem op_gt:OpR X (compareOp .Gt) (rI0 fun i j=>.bl (decide (j<i))):=opB0 fun _ _ _ _ _ _ _ q=>gt_int q
theorem op_ge:OpR X (compareOp .GtE) (rI0 fun i j=>.bl (decide (j≤i))):=opB0 fun _ _ _ _ _ _ _ q=>ge_int q
theorem op_in_str:OpR X (compareOp .In) (fun x y H Q=>∃ i j,x=.str i∧y=.str j∧Q (.bl (!(Builtin.Str.occurrences j i 0 j.length 1).isEmpty)) H):=by
  intro pins s σ H x y v u Q I rx ry h
  obtain ⟨i,j,rfl,rfl,q⟩:=h
  obtain ⟨t,rfl⟩:=rx
  obtain ⟨t',rfl⟩:=ry
  exact in_str (fin_bl I q rfl)
theorem op_isN:OpR X (compareOp .Is) (fun x y H Q=>y=.non∧Q (.bl (decide (x=.non))) H):=by
  intro pins s σ H x y v u Q I rx ry h
  obtain ⟨rfl,q⟩:=h
  cases ry
  refine is_none_gen (fin_bl I q ?_)
  cases x <;> first
    | (cases rx; rfl)
    | (obtain ⟨t,rfl⟩:=rx; rfl)
theorem op_notN:OpR X (compareOp .IsNot) (fun x y H Q=>y=.non∧Q (.bl (!decide (x=.non))) H):=by
  intro pins s σ H x y v u Q I rx ry h
  obtain ⟨rfl,q⟩:=h
  cases ry
  refine isnot_none_gen (fin_bl I q ?_)
  cases x <;> first
    | (cases rx; rfl)
    | (obtain ⟨t,rfl⟩:=rx; rfl)
theorem op_notin_str:OpR X (compareOp .NotIn) (fun x y H Q=>∃ i j,x=.str i∧y=.str j∧Q (.bl (!(!(Builtin.Str.occurrences j i 0 j.length 1).isEmpty))) H):=by
  intro pins s σ H x y v u Q I rx ry h
  obtain ⟨i,j,rfl,rfl,q⟩:=h
  obtain ⟨t,rfl⟩:=rx
  obtain ⟨t',rfl⟩:=ry
  exact notIn_str (fin_bl I q rfl)
theorem nomark (b:Expr) {op:CmpOp} (h:op ≠ .In:=by decide) (h2:op ≠ .NotIn:=by decide):behindInMarks op b=false:=by
  have e1:(op == CmpOp.In)=false:=by cases op <;> first | rfl | exact absurd rfl h
  have e2:(op == CmpOp.NotIn)=false:=by cases op <;> first | rfl | exact absurd rfl h2
  cases b <;> simp [behindInMarks,e1,e2]
theorem pe_cmpR {op:CmpOp} {r:R2} (ho:OpR X (compareOp op) r) (ha:PE X a ta) (hb:PE X b tb) (hm:behindInMarks op b=false):PE X (.Compare a [op] [b] pos) (tOp r ta tb):=by
  intro pins s σ H Q I h
  exact wpAny_Compare1 (binT ha hb I h fun v u s2 x y H2 I2 rx ry q=>ho pins s2 σ H2 x y v u Q I2 rx ry q) hm
def tTest (t:TE):TT:=fun σ H Q=>t σ H fun x H'=>∃ k,x=.bl k∧Q k H'
theorem pt_cmpR {op:CmpOp} {r:R2} (ho:OpR X (compareOp op) r) (ha:PE X a ta) (hb:PE X b tb) (hm:behindInMarks op b=false):PT X (.Compare a [op] [b] pos) (tTest (tOp r ta tb)):=by
  intro pins s σ H Q I h
  refine wpAny_isTrue_Compare1 (thn (ha pins s σ H _ I h) fun v s1 ⟨x,H1,I1,r1,q1⟩=>thn (hb pins s1 σ H1 _ I1 q1) fun u s2 ⟨y,H2,I2,r2,q2⟩ =>
    thn (ho pins s2 σ H2 x y v u _ I2 r1 r2 q2) fun c s3 ⟨z,H3,I3,r3,k,e,q3⟩=>?_) hm
  subst e
  cases r3
  exact wpAny_truthy_bool ⟨H3,I3,q3⟩
def tChain (r r':R2) (ta tb tc:TE):TE:=fun σ H Q=>ta σ H fun x H1=>tb σ H1 fun y H2=>r x y H2 fun z H3=>∃ k,z=.bl k ∧
  (if k=true then tc σ H3 fun w' H4=>r' y w' H4 Q else Q (.bl false) H3)
theorem pe_chain {op op':CmpOp} {r r':R2} (ho:OpR X (compareOp op) r) (ho':OpR X (compareOp op') r') (ha:PE X a ta) (hb:PE X b tb) (hc:PE X c tc)
    (hm:lastMarks [op,op'] [b,c]=false:=by with_unfolding_all rfl):PE X (.Compare a [op,op'] [b,c] pos) (tChain r r' ta tb tc):=by
  intro pins s σ H Q I h
  refine Compare_chain (thn (ha pins s σ H _ I h) fun v s1 ⟨x,H1,I1,r1,q1⟩=>chain_link (thn (hb pins s1 σ H1 _ I1 q1) fun u s2 ⟨y,H2,I2,r2,q2⟩ =>
    thn (ho pins s2 σ H2 x y v u _ I2 r1 r2 q2) fun d s3 ⟨z,H3,I3,r3,k,e,q3⟩=>?_)) hm
  subst e
  cases r3
  refine wpAny_truthy_bool ?_
  cases k with
  | false=>exact ite_ff ⟨.bl false,H3,I3,rfl,q3⟩
  | true=>exact ite_tt (chain_last (thn (hc pins s3 σ H3 _ I3 q3) fun w' s4 ⟨z',H4,I4,r4,q4⟩=>ho' pins s4 σ H4 y z' u w' Q I4 r2 r4 q4))
theorem line63:(sizeLine:Nat)<2^63:=by rw [sizeLine_eq]; decide
theorem op_add_str:OpR X (binaryOp .Add) (fun x y H Q=>∃ i j,x=.str i∧y=.str j∧i.length+j.length≤sizeLine∧Q (.str (i++j)) H):=by
  intro pins s σ H x y v u Q I rx ry h
  obtain ⟨i,j,rfl,rfl,hz,q⟩:=h
  obtain ⟨t,rfl⟩:=rx
  obtain ⟨t',rfl⟩:=ry
  exact add_str (fun t' tk=>⟨.str (i++j),H,I.tok _,⟨_,rfl⟩,q⟩) hz
theorem vals1 {x:V} {us:List Value} (r:Vals [x] us):∃ u,us=[u]∧RelV x u:=by
  cases r with
  | cons r1 r2=>cases r2; exact ⟨_,rfl,r1⟩
theorem vals2 {x y:V} {us:List Value} (r:Vals [x,y] us):∃ u w',us=[u,w']∧RelV x u∧RelV y w':=by
  cases r with
  | cons r1 r2 =>
    cases r2 with
    | cons r3 r4=>cases r4; exact ⟨_,_,rfl,r1,r3⟩
theorem call_abs:CallR X (.builtin "abs") (fun xs H Q=>∃ i,xs=[.int i]∧Q (.int (if i<0 then -i else i)) H):=by
  intro pins s σ H xs us Q I r h
  obtain ⟨i,rfl,q⟩:=h
  obtain ⟨u,rfl,t,rfl⟩:=vals1 r
  exact call_abs_int fun u tk=>⟨.int (if i<0 then -i else i),H,I.tok _,⟨_,rfl⟩,q⟩
theorem call_int1:CallR X (.type "int") (fun xs H Q=>(∃ i,xs=[.int i]∧Q (.int i) H)∨∃ k,xs=[.bl k]∧Q (.int (if k then 1 else 0)) H):=by
  intro pins s σ H xs us Q I r h
  rcases h with ⟨i,rfl,q⟩ | ⟨k,rfl,q⟩
  · obtain ⟨u,rfl,t,rfl⟩:=vals1 r
    exact call_int_int ⟨.int i,H,I,⟨_,rfl⟩,q⟩
  · obtain ⟨u,rfl,r1⟩:=vals1 r
    cases r1
    exact call_int_bool ⟨.int (if k then 1 else 0),H,I.tok _,⟨_,rfl⟩,q⟩
def LenV (K:PySem.W.Frag) (x:V) (H:Hp) (n:Nat):Prop :=
  match x with
  | .str y=>y.length≤sizeLine∧n=y.length
  | .byt y=>y.size≤sizeLine∧n=y.size
  | .ref p=>(∃ xs,SqL K H p xs∧n=xs.length)∨∃ xs,SqT K H p xs∧n=xs.length
  | _=>False
theorem call_len:CallR X (.builtin "len") (fun xs H Q=>∃ x n,xs=[x]∧LenV X.K x H n∧Q (.int n) H):=by
  intro pins s σ H xs us Q I r h
  obtain ⟨x,n,rfl,e,q⟩:=h
  obtain ⟨u,rfl,rx⟩:=vals1 r
  have hl:=line63
  have hs:sizeLine=16777216:=sizeLine_eq
  cases x with
  | str y =>
    obtain ⟨t,rfl⟩:=rx
    obtain ⟨hy,e'⟩:y.length≤sizeLine∧n=y.length:=e
    subst e'
    exact len_str (by omega) ⟨.int _,H,I.tok _,⟨_,rfl⟩,q⟩
  | byt y =>
    obtain ⟨t,rfl⟩:=rx
    obtain ⟨hy,e'⟩:y.size≤sizeLine∧n=y.size:=e
    subst e'
    exact PySem.W.len_bytes (by omega) ⟨.int _,H,I.tok _,⟨_,rfl⟩,q⟩
  | ref p =>
    cases rx
    have e':(∃ xs,SqL X.K H p xs∧n=xs.length)∨∃ xs,SqT X.K H p xs∧n=xs.length:=e
    rcases e' with ⟨xs,hx,e'⟩ | ⟨xs,hx,e'⟩
    · subst e'
      obtain ⟨its,r',pl,hz⟩:=I.list hx
      have hlen:=r'.length
      exact Calls.call_len_list pl.isList (by simp only [List.size_toArray]; omega) ⟨.int xs.length,H,I.tok _,⟨_,by simp only [List.size_toArray]; rw [hlen]⟩,q⟩
    · subst e'
      obtain ⟨its,r',pl,hz⟩:=I.tuple hx
      have hlen:=r'.length
      exact len_tuple pl (by simp only [List.size_toArray]; omega) ⟨.int xs.length,H,I.tok _,⟨_,by simp only [List.size_toArray]; rw [hlen]⟩,q⟩
  | _=>exact (show False from e).elim
end
end L2
namespace L2
open PySem PySem.Spec PyProof.Rows
structure ObjM (h:Heap) (x dx C:Addr) (mA:Str→Option Value):Prop where
  obj:h.get? x=some (PySem.W.instObj C dx)
  ns:h.Ns1 dx mA
  ne:dx≠x
theorem lookIn_ns {h:Heap} {dx:Addr} {mA:Str→Option Value} (n:h.Ns1 dx mA):∃ od,h.get? dx=some od∧∀ name,PySem.W.lookIn name od=some (mA name):=by
  obtain ⟨o,es,ep,ho,hd,hk,_,hm⟩:=n
  refine ⟨o,ho,fun name=>?_⟩
  have e:=hm name
  unfold nsFind findBy at e
  rw [← Array.find?_toList] at e
  unfold PySem.W.lookIn
  rw [hd]
  dsimp only
  split
  · rename_i y q
    rw [q] at e
    exact congrArg some e
  · rename_i q
    rw [q] at e
    have a:es.toList.any (·.refKey)=false:=by
      rw [List.any_eq_false]
      intro y hy
      obtain ⟨z,t,hkey⟩:=hk y (Array.mem_toList_iff.mp hy)
      simp [DictEntry.refKey,hkey]
    have a':¬ es.toList.any (·.refKey)=true:=by rw [a]; exact Bool.false_ne_true
    rw [if_neg a']
    exact congrArg some e
theorem ObjM.look {h:Heap} {x dx C:Addr} {mA:Str→Option Value} (I:ObjM h x dx C mA):∃ od,PySem.W.InstAt h x (PySem.W.instObj C dx) C (some od)∧∀ name,PySem.W.lookIn name od=some (mA name) :=
  let ⟨od,ho,hl⟩:=lookIn_ns I.ns
  ⟨od,⟨I.obj,rfl,rfl,ho⟩,hl⟩
section
variable {prog:Program} {w:World} {A:Around} {E:Value→Shared→Prop} {s:Shared} {K:PySem.W.Frag} {x dx C f:Addr} {mA:Str→Option Value} {name:Str} {v:Value}
end
def putF (f:Str) (v:V):List (Str × V)→List (Str × V)
  | []=>[(f,v)]
  | (g,x)::r=>if g=f then (g,v)::r else (g,x)::putF f v r
theorem lookup_putF (f g:Str) (v:V):∀ fs:List (Str × V),(putF f v fs).lookup g=if g=f then some v else fs.lookup g
  | []=>by
    show List.lookup g [(f,v)]=_
    by_cases h:g=f
    · have hb:(g == f)=true:=beq_iff_eq.mpr h
      simp only [List.lookup,hb,if_pos h]
    · have hb:(g == f)=false:=beq_eq_false_iff_ne.mpr h
      simp only [List.lookup,hb,if_neg h]
  | (k,x)::r=>by
    have ih:=lookup_putF f g v r
    rw [show putF f v ((k,x)::r)=(if k=f then (k,v)::r else (k,x)::putF f v r) from rfl]
    by_cases hk:k=f
    · rw [if_pos hk]
      by_cases h:g=k
      · have hb:(g == k)=true:=beq_iff_eq.mpr h
        simp only [List.lookup,hb,if_pos (h.trans hk)]
      · have hb:(g == k)=false:=beq_eq_false_iff_ne.mpr h
        simp only [List.lookup,hb,if_neg (fun e:g=f=>h (e.trans hk.symm))]
    · rw [if_neg hk]
      by_cases h:g=k
      · have hb:(g == k)=true:=beq_iff_eq.mpr h
        simp only [List.lookup,hb,if_neg (fun e:g=f=>hk (h.symm.trans e))]
      · have hb:(g == k)=false:=beq_eq_false_iff_ne.mpr h
        simp only [List.lookup,hb]
        exact ih
theorem keys_putF (f:Str) (v:V):∀ fs:List (Str × V),f∈(putF f v fs).map (·.1)∧∀ g,g∈fs.map (·.1)→g∈(putF f v fs).map (·.1)
  | []=>⟨by simp [putF],fun g h=>by simp at h⟩
  | (k,x)::r=>by
    obtain ⟨i1,i2⟩:=keys_putF f v r
    rw [show putF f v ((k,x)::r)=(if k=f then (k,v)::r else (k,x)::putF f v r) from rfl]
    by_cases hk:k=f
    · rw [if_pos hk]
      subst hk
      exact ⟨by simp,fun g h=>by simpa using h⟩
    · rw [if_neg hk]
      refine ⟨?_,fun g h=>?_⟩
      · rw [List.map_cons]
        exact List.mem_cons_of_mem _ i1
      · rw [List.map_cons] at h ⊢
        rcases List.mem_cons.mp h with e | e
        · exact List.mem_cons.mpr (.inl e)
        · exact List.mem_cons_of_mem _ (i2 g e)
theorem RelO.some_of {v:V} {o:Option Value} (r:RelO (some v) o):∃ u,o=some u∧RelV v u:=by
  cases o with
  | none=>exact (show False from r).elim
  | some u=>exact ⟨u,rfl,r⟩
theorem handed_of {v:V} {u:Value} (r:RelV v u):PySem.W.handedIn u=true:=by
  cases v with
  | non=>cases (show u=Value.none from r); rfl
  | bl b=>cases (show u=Value.bool b from r); rfl
  | int i=>obtain ⟨t,e⟩:=(show ∃ t,u=Value.int i t from r); cases e; rfl
  | str x=>obtain ⟨t,e⟩:=(show ∃ t,u=Value.str x t from r); cases e; rfl
  | byt b=>obtain ⟨t,e⟩:=(show ∃ t,u=Value.bytes b t from r); cases e; rfl
  | flt b=>obtain ⟨t,e⟩:=(show ∃ t,u=Value.float b t from r); cases e; rfl
  | ref a=>cases (show u=Value.ref a from r); rfl
  | ty n=>cases (show u=Value.type n from r); rfl
section
variable {P:Program} {w:World} {H H':Hp} {h h':Heap} {a C dx:Addr} {fs fs':List (Str × V)}
theorem ins_get (hok:HOk P w H h) (e:H a=some (.ins C dx fs)):∃ mA,ObjM h a dx C mA∧(∀ f,RelO (fs.lookup f) (mA f))∧PySem.Within mA (fs.map (·.1))∧fs.length≤1000∧H dx=some (.own a):=by
  obtain ⟨d,z,ne,ob,mA,n,r,q⟩:=(show ObjOk P w H h a (.ins C dx fs) from hok a _ e)
  exact ⟨mA,⟨ob,n,ne⟩,r,q,z,d⟩
end
structure Cls (K:PySem.W.Frag) (C:Addr):Prop where
  pg:PySem.W.plainGet K C Str.empty=true
  hd:PySem.W.hasDictIn K C=true
  po:PySem.W.plainOver K C=true
  sa:PySem.W.findIn K (.ref C) "__setattr__" = some (some (.builtin "object.__setattr__"))
theorem Cls.get {K:PySem.W.Frag} {C:Addr} (c:Cls K C) (f:Str):PySem.W.plainGet K C f=true:=c.pg
def NoAttr (K:PySem.W.Frag) (C:Addr) (f:Str):Prop:=PySem.W.findIn K (.ref C) f=some none
section
variable {X:Cx} {pins:List (Addr × Obj)} {σ:St} {H:Hp} {s:Shared} {a C dx:Addr} {fs:List (Str × V)} {f:Str} {v:V} {A:Around} {E:Value→Shared→Prop}
theorem attr_of {prog:Program} {w:World} {env:Env} {e:Expr} {f:Str} {pos:Pos} {s:Shared} {Q:Value→Shared→Prop} (hb:attributeBase e f env (eval e env)=eval e env)
    (h:wpAny (model prog w) A (eval e env) (fun o s₁=>wpAny (model prog w) A (getAttr o f true) Q E s₁) E s):wpAny (model prog w) A (eval (.Attribute e f pos) env) Q E s :=
  Attribute_any_ h (by rw [arm_eval_Attribute,hb])
end
section
variable {X:Cx} {o e value:Expr} {f:Str} {pos pos' tpos:Pos} {ta tv:TE}
end
section
variable {X:Cx} {pins:List (Addr × Obj)} {σ:St} {H:Hp} {s:Shared} {A:Around} {E:Value→Shared→Prop} {Q:Value→Shared→Prop} {c:Value} {b:Bool}
inductive TyOf (K:PySem.W.Frag) (H:Hp):V→Value→Prop where
  | non:TyOf K H .non (.type "NoneType")
  | bl (x:Bool):TyOf K H (.bl x) (.type "bool")
  | int (i:Int):TyOf K H (.int i) (.type "int")
  | str (x:Str):TyOf K H (.str x) (.type "str")
  | flt (x:UInt64):TyOf K H (.flt x) (.type "float")
  | lst {a:Addr} {xs:List V} (e:H a=some (.lst xs)):TyOf K H (.ref a) (.type "list")
  | frz {a:Addr} {o:Obj} {xs:List V} (e:H a=some (.frz o (.lst xs))):TyOf K H (.ref a) (.type "list")
  | tup {a:Addr} {xs:List V} (e:H a=some (.tup xs)):TyOf K H (.ref a) (.type "tuple")
  | dK {a:Addr} {kvs:List (Key × V)} (e:H a=some (.dK kvs)):TyOf K H (.ref a) (.type "dict")
  | dT {a:Addr} {kvs:List (List Key × V)} (e:H a=some (.dT kvs)):TyOf K H (.ref a) (.type "dict")
  | ins {a C dx:Addr} {fs:List (Str × V)} (e:H a=some (.ins C dx fs)) (cl:Cls K C) (ha:PySem.W.findIn K (.ref C) "__class__" = some (some (.builtin "object.__class__")))
      (hn:PySem.W.specialIn K (.builtin "object.__class__") "__get__" = some (some (.builtin "getset_descriptor.__get__"))) (htk:PySem.W.takesIn K (.builtin "object.__class__")=some true)
      (hm:PySem.W.mroIn K C (.type "object")=some true):TyOf K H (.ref a) (.ref C)
theorem isinst_ok {x:V} {u t:Value} (I:Inv X pins σ H s) (rx:RelV x u) (ty:TyOf X.K H x t) (e:PySem.W.kitOne X.K t c=some b) (h:∀ tk,Q (.bool b) { s with toks:=tk }) :
    wpAny (model X.prog X.w) A (call (.builtin "isinstance") [u,c]) Q E s:=by
  cases ty with
  | non=>cases (show u=Value.none from rx); exact PySem.W.kia_one PySem.W.kitx_none I.kIn True.intro e (fun z=>nomatch z) h
  | bl y=>cases (show u=Value.bool y from rx); exact PySem.W.kia_one PySem.W.kitx_bool I.kIn True.intro e (fun z=>nomatch z) h
  | int i=>obtain ⟨t,q⟩:=(show ∃ t,u=Value.int i t from rx); cases q; exact PySem.W.kia_one PySem.W.kitx_int I.kIn True.intro e (fun z=>nomatch z) h
  | str y=>obtain ⟨t,q⟩:=(show ∃ t,u=Value.str y t from rx); cases q; exact PySem.W.kia_one PySem.W.kitx_str I.kIn True.intro e (fun z=>nomatch z) h
  | flt y=>obtain ⟨t,q⟩:=(show ∃ t,u=Value.float y t from rx); cases q; exact PySem.W.kia_one PySem.W.kitx_float I.kIn True.intro e (fun z=>nomatch z) h
  | @lst a xs ea =>
    cases (show u=Value.ref a from rx)
    obtain ⟨_,_,n,_,h1⟩:=(show ObjOk X.prog X.w H s.heap a (.lst xs) from I.hok a _ ea)
    exact PySem.W.kia_one PySem.W.kitx_list I.kIn ⟨_,h1,rfl⟩ e (fun z=>nomatch z) h
  | @frz a ob xs ea =>
    cases (show u=Value.ref a from rx)
    obtain ⟨_,_,_,n,_,h1⟩:=(show ObjOk X.prog X.w H s.heap a (.frz ob (.lst xs)) from I.hok a _ ea)
    exact PySem.W.kia_one PySem.W.kitx_list I.kIn ⟨_,h1,rfl⟩ e (fun z=>nomatch z) h
  | @tup a xs ea =>
    cases (show u=Value.ref a from rx)
    obtain ⟨_,_,_,p⟩:=(show ObjOk X.prog X.w H s.heap a (.tup xs) from I.hok a _ ea)
    obtain ⟨o,h1,h2,_⟩:=p
    exact PySem.W.kia_one PySem.W.kitx_tuple I.kIn ⟨o,h1,h2⟩ e (fun z=>nomatch z) h
  | @dK a kvs ea =>
    cases (show u=Value.ref a from rx)
    obtain ⟨_,_,vs,_,p⟩:=(show ObjOk X.prog X.w H s.heap a (.dK kvs) from I.hok a _ ea)
    obtain ⟨o,es,ep,h1,h2,_⟩:=p
    exact PySem.W.kia_one PySem.W.kitx_dict I.kIn ⟨o,h1,h2.1⟩ e (fun z=>nomatch z) h
  | @dT a kvs ea =>
    cases (show u=Value.ref a from rx)
    obtain ⟨_,_,xs,_,o,es,ep,h1,h2,_⟩:=(show ObjOk X.prog X.w H s.heap a (.dT kvs) from I.hok a _ ea)
    exact PySem.W.kia_one PySem.W.kitx_dict I.kIn ⟨o,h1,h2.1⟩ e (fun z=>nomatch z) h
  | @ins a C dx fs ea cl ha hn htk hm =>
    cases (show u=Value.ref a from rx)
    obtain ⟨mA,O,_⟩:=ins_get I.hok ea
    obtain ⟨od,J,_⟩:=O.look
    exact PySem.W.kia_one (PySem.W.kitx_own (cl.get _) cl.hd ha hn htk hm) I.kIn J e (fun z=>nomatch z) h
end
end L2
namespace L2
open PySem PySem.Spec PyProof.Rows
structure Room (k:Nat) (A:Around):Prop where
  hd:A.handled=none
  dp:A.depth+3*k+5<recursionLimit
  un:A.units+16*k+200<cLine
  gd:A.guards=some []
theorem Room.mono {j k:Nat} {A:Around} (r:Room k A) (h:j≤k):Room j A:=⟨r.hd,by have:=r.dp; omega,by have:=r.un; omega,r.gd⟩
theorem Room.deeper {k:Nat} {A:Around} (r:Room (k+1) A) (env:Env):Room k (A.deeper env) :=
  ⟨r.hd,by have:=r.dp; show A.depth+1+3*k+5<_; omega,by have:=r.un; show A.units+3+16*k+200<_; omega,r.gd⟩
theorem make_depth {A:Around} {C:Addr} {us:List Value} {kw:List (Str × Value)}:(A.under (.builtin "type.__call__" ⟨.ref C::us,kw⟩)).depth=A.depth+1:=by
  first | rfl | simp [Around.under,Code.weight,Code.isCreation,Code.isGuard,Code.isCaller,Code.frames,Code.isFrame,guardIds]
theorem make_units {A:Around} {C:Addr} {us:List Value} {kw:List (Str × Value)}:(A.under (.builtin "type.__call__" ⟨.ref C::us,kw⟩)).units=A.units+1:=by
  first | rfl | simp [Around.under,Code.cUnits,Code.frames,Code.isFrame]
theorem Room.make {k:Nat} {A:Around} (r:Room (k+1) A) (C:Addr) (us:List Value) (kw:List (Str × Value)):Room k (A.under (.builtin "type.__call__" ⟨.ref C::us,kw⟩)) :=
  ⟨r.hd,by have:=r.dp; rw [make_depth]; omega,by have:=r.un; rw [make_units]; omega,by first | exact r.gd | (simpa [Around.under,Code.guards,Code.isGuard,guardIds,pushGuards] using r.gd)⟩
theorem Room.depth {k:Nat} {A:Around} (r:Room k A):A.depth<recursionLimit:=by have:=r.dp; omega
theorem Room.units {k:Nat} {A:Around} (r:Room k A):A.units+64<cLine:=by have:=r.un; omega
def tNil:TA:=fun _ H Q=>Q [] H
def tCons (ta:TE) (tr:TA):TA:=fun σ H Q=>ta σ H fun x H1=>tr σ H1 fun xs H2=>Q (x::xs) H2
section
variable {X:Cx} {e:Expr} {es:List Expr} {te:TE} {t:TA} {pos:Pos}
theorem pa_nil:PA X [] tNil:=fun _ _ _ _ H Q I h=>Calls.spliced_nil ⟨[],H,I,.nil,h⟩
theorem pa_cons (ha:PE X e te) (hr:PA X es t) (hs:starEach (e::es) X.env=(false,eval e X.env)::starEach es X.env:=by rfl):PA X (e::es) (tCons te t):=by
  intro pos pins s σ H Q I h
  rw [hs]
  show wpAny _ _ (spliced ((false,eval e X.env)::backTo pos (starEach es X.env))) _ _ s
  refine Calls.spliced_cons (thn (ha pins s σ H _ I h) fun u s1 ⟨x,H1,I1,r1,q1⟩=>?_)
  exact thn (hr pos pins s1 σ H1 _ I1 q1) fun us s2 ⟨xs,H2,I2,r2,q2⟩=>⟨x::xs,H2,I2,.cons r1 r2,q2⟩
def tTup (t:TA):TE:=fun σ H Q=>t σ H fun xs H1=>xs.length≤sizeLine∧∀ p,H1 p=none→Q (.ref p) (upd H1 p (.tup xs))
def tLst (t:TA):TE:=fun σ H Q=>t σ H fun xs H1=>xs.length≤sizeLine∧∀ p,H1 p=none→Q (.ref p) (upd H1 p (.lst xs))
theorem pe_tup {x1} (h:PA X es t):PE X (.Tuple es x1 pos) (tTup t):=by
  intro pins s σ H Q I hq
  refine wpAny_Tuple_spliced (thn (h pos pins s σ H _ I hq) fun us s1 ⟨xs,H1,I1,r,z,q⟩=>⟨by rw [← r.length]; exact z,?_⟩)
  have hf:H1 s1.heap.objs.size=none:=I1.hok.fresh (Nat.le_refl _)
  refine ⟨.ref s1.heap.objs.size,upd H1 s1.heap.objs.size (.tup xs),I1.laid (t':=s1.toks) (fun b u e=>Heap.get?_push_of_some _ e) (Nat.le_refl _) ?_,rfl,q _ hf⟩
  exact ⟨⟨z,_,Heap.get?_push_size _ rfl,rfl⟩,us,r,⟨_,Heap.get?_push_size _ rfl,rfl,_,rfl⟩⟩
theorem pe_lst (h:PA X es t):PE X (.List es pos) (tLst t):=by
  intro pins s σ H Q I hq
  refine wpAny_List_spliced (thn (h pos pins s σ H _ I hq) fun us s1 ⟨xs,H1,I1,r,z,q⟩=>⟨by rw [← r.length]; exact z,?_⟩)
  have hf:H1 s1.heap.objs.size=none:=I1.hok.fresh (Nat.le_refl _)
  refine ⟨.ref s1.heap.objs.size,upd H1 s1.heap.objs.size (.lst xs),I1.laid (t':=s1.toks) (fun b u e=>Heap.get?_push_of_some _ e) (Nat.le_refl _) ?_,rfl,q _ hf⟩
  exact ⟨z,us,0,r,Heap.get?_push_size _ rfl⟩
end
abbrev Sp:=List V→Hp→VK→XK→Prop
abbrev CXT:=List Env→Hp→Shared→XK→Value→Shared→Prop
structure Env0 (P:Program) (w:World) (K:PySem.W.Frag) (mg:Str→Option Value) (base:Heap) (A:Around) (outer:List Env) (s:Shared) (H:Hp):Prop where
  frames:A.frames=some outer
  mod:Mod K mg base
  bs:∀ b o,base.get? b=some o→s.heap.get? b=some o∧H b=none
  bsz:base.objs.size≤s.heap.objs.size
  funs:s.heap.FunFrames base outer
  frf:∀ b∈frs outer,H b=none
  hok:HOk P w H s.heap
  bare:AllBare s.gens
def CE (outer:List Env) (P:Program) (w:World) (H:Hp) (s:Shared) (Q:VK) (u:Value) (s':Shared):Prop :=
  ∃ v H',s'.os=s.os∧AllBare s'.gens∧Un (frs outer) [] H H' s.heap s'.heap∧HOk P w H' s'.heap∧RelV v u∧Q v H'
def CR (CX:CXT) (outer:List Env) (P:Program) (w:World) (H:Hp) (s:Shared) (Q:VK) (E:XK) (r:Result) (s':Shared):Prop :=
  match r with
  | .ok (.ret u)=>CE outer P w H s Q u s'
  | .ok _=>False
  | .error e=>CX outer H s E e s'
structure FnOk (P:Program) (w:World) (K:PySem.W.Frag) (mg:Str→Option Value) (base:Heap) (CX:CXT) (k:Nat) (f:Addr) (fd:FuncData) (ps:List Str) (sp:Sp):Prop where
  len:∀ vs H Q E,sp vs H Q E→vs.length=ps.length
  run:∀ (A:Around) (outer:List Env) (s:Shared) (H:Hp) (args:Args) (us:List Value) (vs:List V) (Q:VK) (E:XK),Room k A→Env0 P w K mg base A outer s H→BindsTo s fd args (ps.zip us)→Vals vs us→sp vs H Q E →
    codeAny (model P w) A (.call (.ref f) args) (CR CX outer P w H s Q E) s
theorem Env0.make {P:Program} {w:World} {K:PySem.W.Frag} {mg:Str→Option Value} {base:Heap} {A:Around} {outer:List Env} {s:Shared} {H:Hp} (e:Env0 P w K mg base A outer s H) (C:Addr) (us:List Value) (kw:List (Str × Value)) :
    Env0 P w K mg base (A.under (.builtin "type.__call__" ⟨.ref C::us,kw⟩)) outer s H:=⟨by first | exact e.frames | (simpa [Around.under,Code.envs,Code.isFrame,pushEnvs] using e.frames),e.mod,e.bs,e.bsz,e.funs,e.frf,e.hok,e.bare⟩
section
variable {X:Cx} {pins:List (Addr × Obj)} {σ:St} {H:Hp} {s s':Shared}
theorem Inv.env0 (I:Inv X pins σ H s):Env0 X.prog X.w X.K X.mg X.base X.A X.stack s H :=
  ⟨I.ok.frames,I.ok.mod,I.bs,Nat.le_trans I.ok.bsz I.sz,I.stack,I.stkFree,I.hok,I.bare⟩
theorem Inv.after {Q:VK} {u:Value} (I:Inv X pins σ H s) (h:CE X.stack X.prog X.w H s Q u s'):EP X pins σ Q u s':=by
  obtain ⟨v,H',os,bare,un,hok,r,q⟩:=h
  obtain ⟨hh,g,d,t,os'⟩:=s'
  obtain rfl:os'=s.os:=os
  exact ⟨v,H',I.call (h':=hh) (g':=g) (d':=d) (t':=t) (ch:=[]) un hok bare (fun b z=>absurd z (by simp)),r,q⟩
end
def tCall (sp:Sp) (dvs:List V) (E:XK) (t:TA):TE:=fun σ H Q=>t σ H fun vs H1=>sp (vs++dvs) H1 Q E
def Binds (K:PySem.W.Frag) (fd:FuncData) (ps:List Str) (ds:List Value):Prop :=
  ∀ (s:Shared) (us:List Value),K.In s.heap→(us++ds).length=ps.length→BindsTo s fd ⟨us,[]⟩ (ps.zip (us++ds))
theorem Binds.all {K:PySem.W.Frag} {fd:FuncData} {ps:List Str} (h:∀ us:List Value,us.length=ps.length→bindArgs fd ⟨us,[]⟩=pure (ps.zip us)):Binds K fd ps []:=fun s us _ hl=>by
  rw [List.append_nil] at hl ⊢
  exact .of_eq (h us hl)
def Passes (CX:CXT) (X:Cx) (E:XK):Prop:=∀ (pins:List (Addr × Obj)) (σ:St) (H:Hp) (s:Shared) (e:Value) (s':Shared),Inv X pins σ H s→CX X.stack H s E e s'→X.xe e s'
section
variable {X:Cx} {CX:CXT} {k:Nat} {f C:Addr} {fd:FuncData} {ps:List Str} {sp:Sp} {dvs:List V} {ds:List Value} {E:XK} {x m:Str} {p pos apos:Pos} {e o:Expr} {es:List Expr} {ta:TE} {t:TA}
theorem run_fn {pins:List (Addr × Obj)} {σ:St} {H:Hp} {s:Shared} {Q:VK} {us:List Value} {vs:List V} (F:FnOk X.prog X.w X.K X.mg X.base CX k f fd ps sp) (hr:Room k X.A) (hb:Binds X.K fd ps ds) (hd:Vals dvs ds) (hx:Passes CX X E)
    (I:Inv X pins σ H s) (r:Vals vs us) (h:sp (vs++dvs) H Q E):wpAny (model X.prog X.w) X.A (call (.ref f) us) (EP X pins σ Q) X.xe s:=by
  have r2:Vals (vs++dvs) (us++ds):=r.append hd
  have hl:(us++ds).length=ps.length:=by rw [← r2.length]; exact F.len _ _ _ _ h
  refine wpAny_call (codeAny_mono (F.run X.A X.stack s H ⟨us,[]⟩ (us++ds) (vs++dvs) Q E hr I.env0 (hb s us I.kIn hl) r2 h) fun r s' hq=>?_)
  cases r with
  | error e=>exact hx pins σ H s e s' I hq
  | ok fl =>
    cases fl with
    | ret u=>exact I.after hq
    | next=>exact False.elim hq
    | brk=>exact False.elim hq
    | cont=>exact False.elim hq
theorem pe_call (F:FnOk X.prog X.w X.K X.mg X.base CX k f fd ps sp) (hr:Room k X.A) (hg:Gl X x) (hm:X.mg x=some (.ref f)) (hk:PySem.W.keepIn X.K (.ref f)=true) (hb:Binds X.K fd ps ds) (hd:Vals dvs ds) (hx:Passes CX X E)
    (ha:PA X (e::es) t) (hdb:(x == ("__debug__" : Str))=false:=by decide) (he:starEach (e::es) X.env=(false,eval e X.env)::starEach es X.env:=by rfl) (hpl:(backTo pos (starEach es X.env)).any (·.1)=false:=by rfl) :
    PE X (.Call (.Name x p) (e::es) [] pos) (tCall sp dvs E t):=by
  intro pins s σ H Q I h
  refine wpAny_Call_Name_kw (ld_glob I hg hm ?_ hdb)
  refine PySem.W.callWith_K (h₀:=X.base) I.ok.mod.kin hk (thn (ha pos pins s σ H _ I h) fun us s1 ⟨vs,H1,I1,r,q⟩=>⟨I1.kIn,?_⟩) he hpl
  exact run_fn F hr hb hd hx I1 r q
end
section
variable {X:Cx} {CX:CXT} {k:Nat} {f C:Addr} {fd:FuncData} {ps ks:List Str} {sp:Sp} {E:XK} {x m:Str} {p pos apos kpos:Pos} {e o:Expr} {es:List Expr} {kws:List Keyword} {te ta:TE} {t tk:TA} {nm:Option Str}
variable {g:List Value→List Value→List Value} {gV:List V→List V→List V}
end
structure FnScope (N P:List Str) (sc:Scope):Prop where
  kind:sc.kind=.function
  co:sc.isCoroutine=false
  gen:sc.isGenerator=false
  nd:N.Nodup
  pre:N.take P.length=P
  par:∀ x∈P,sc.names.lookup x=some .local∨sc.names.lookup x=some .cell
  nofree:∀ y∈sc.names,y.2 ≠ .free
theorem bindL_out {kindOf:Str→Option NameKind} {x:Str}:∀ {binds:List (Str × Value)} {m:Str→Option Value},(∀ v,(x,v) ∉ binds)→bindL kindOf binds m x=m x
  | [],_,_=>rfl
  | (n,v)::r,m,h=>by
    unfold bindL
    rw [bindL_out fun w hw=>h w (List.mem_cons_of_mem _ hw)]
    split
    · have:x≠n:=by rintro rfl; exact h v List.mem_cons_self
      simp [this]
    · rfl
theorem bindC_out {kindOf:Str→Option NameKind} {x:Str}:∀ {binds:List (Str × Value)} {m:Str→Option Value},(∀ v,(x,v) ∉ binds)→bindC kindOf binds m x=m x
  | [],_,_=>rfl
  | (n,v)::r,m,h=>by
    unfold bindC
    rw [bindC_out fun w hw=>h w (List.mem_cons_of_mem _ hw)]
    split
    · rfl
    · have:x≠n:=by rintro rfl; exact h v List.mem_cons_self
      simp [this]
theorem bindL_get {kindOf:Str→Option NameKind} {x:Str} {v:Value}:∀ {P:List Str} {vs:List Value} {i:Nat} {m:Str→Option Value},P.Nodup→P[i]?=some x→vs[i]?=some v→kindOf x=some .local →
    bindL kindOf (P.zip vs) m x=some v
  | [],_,_,_,_,h,_,_=>by simp at h
  | _::_,[],_,_,_,_,h,_=>by simp at h
  | p::P,w::vs,0,m,nd,h1,h2,hk=>by
    simp at h1 h2; subst h1; subst h2
    show bindL kindOf ((p,w)::P.zip vs) m p=_
    unfold bindL
    rw [bindL_out fun v hv=>(List.nodup_cons.mp nd).1 (List.of_mem_zip hv).1,if_pos hk]
    simp
  | p::P,w::vs,i+1,m,nd,h1,h2,hk=>by
    show bindL kindOf ((p,w)::P.zip vs) m x=_
    unfold bindL
    exact bindL_get (i:=i) (List.nodup_cons.mp nd).2 (by simpa using h1) (by simpa using h2) hk
theorem bindC_get {kindOf:Str→Option NameKind} {x:Str} {v:Value}:∀ {P:List Str} {vs:List Value} {i:Nat} {m:Str→Option Value},P.Nodup→P[i]?=some x→vs[i]?=some v→kindOf x≠some .local →
    bindC kindOf (P.zip vs) m x=some v
  | [],_,_,_,_,h,_,_=>by simp at h
  | _::_,[],_,_,_,_,h,_=>by simp at h
  | p::P,w::vs,0,m,nd,h1,h2,hk=>by
    simp at h1 h2; subst h1; subst h2
    show bindC kindOf ((p,w)::P.zip vs) m p=_
    unfold bindC
    rw [bindC_out fun v hv=>(List.nodup_cons.mp nd).1 (List.of_mem_zip hv).1,if_neg hk]
    simp
  | p::P,w::vs,i+1,m,nd,h1,h2,hk=>by
    show bindC kindOf ((p,w)::P.zip vs) m x=_
    unfold bindC
    exact bindC_get (i:=i) (List.nodup_cons.mp nd).2 (by simpa using h1) (by simpa using h2) hk
def start (N:List Str) (vs:List V):St:=vs.map some++List.replicate (N.length - vs.length) none
def cxOf (CX:CXT) (P:Program) (w:World) (K:PySem.W.Frag) (mg:Str→Option Value) (base:Heap) (N:List Str) (qual:Str) (scope:Scope) (f:Addr) (cd:Value) (A:Around) (outer:List Env) (s:Shared) (H:Hp) (E:XK):Cx where
  prog:=P
  w:=w
  K:=K
  mg:=mg
  base:=base
  A:=A.deeper (envOfC qual scope s.heap.objs.size f cd)
  N:=N
  s₀:=s
  H₀:=H
  env:=envOfC qual scope s.heap.objs.size f cd
  outer:=outer
  stack:=envOfC qual scope s.heap.objs.size f cd::outer
  ex:=[]
  calm:=true
  fn:=fun _=>true
  pn:=[]
  xe:=fun e s'=>wpAny (model P w) (A.deeper (envOfC qual scope s.heap.objs.size f cd)) (leaving (envOfC qual scope s.heap.objs.size f cd) e) (fun _ s''=>CX outer H s E e s'') (fun e' s''=>CX outer H s E e' s'') s'
theorem cell_has {sc:Scope} {n:Nat} {x:Str} (h:sc.names.lookup x=some .cell):∃ c,(cellsFrom n sc.names []).lookup x=some c:=by
  have q:=PySem.W.cellsFrom_some sc.names n [] (.inl h)
  exact Option.isSome_iff_exists.mp q
theorem inv_start {CX:CXT} {P:Program} {w:World} {K:PySem.W.Frag} {mg:Str→Option Value} {base:Heap} {N ps:List Str} {qual:Str} {scope:Scope} {f:Addr} {cd:Value} {A:Around} {outer:List Env} {s s1:Shared} {H:Hp} {E:XK} {us:List Value} {vs:List V}
    (S:FnScope N ps scope) (hd:A.handled=none) (e0:Env0 P w K mg base A outer s H) (hl:vs.length=ps.length) (r:Vals vs us)
    (x:InCallC s s.heap.objs.size (bindL (envOfC qual scope s.heap.objs.size f cd).kindOf (ps.zip us) fun _=>none) (cellsFrom (s.heap.objs.size+1) scope.names []) (bindC (envOfC qual scope s.heap.objs.size f cd).kindOf (ps.zip us) fun _=>none) s1) :
    Inv (cxOf CX P w K mg base N qual scope f cd A outer s H E) [] (start N vs) H s1:=by
  have hpl:ps.length≤N.length:=by have:=congrArg List.length S.pre; rw [List.length_take] at this; omega
  obtain ⟨h1,tk,rfl,hk⟩:=x.done
  have noA:∀ b:Addr,b ∉ (cxOf CX P w K mg base N qual scope f cd A outer s H E).ex:=fun b z=>absurd (show b∈([]:List Addr) from z) (by simp)
  refine ⟨⟨e0.mod,S.kind,rfl,rfl,Nat.le_refl _,fun y z c h1 h2=>?_,fun y hy=>?_,fun y c _ h=>?_,fun _=>hd,Around.frames_deeper e0.frames,.inr ⟨rfl,rfl⟩,fun b z=>absurd z (noA b),e0.bs,e0.bsz,fun b _ _=>noA b,fun b z=>absurd z (noA b),e0.funs,e0.frf⟩,
    rfl,e0.bare,Un.kept hk,⟨_,x.toInCall.ns,fun i y v h1 h2 h3=>?_⟩,fun y c h=>⟨_,x.cell y c h⟩,e0.hok.fresh (Nat.le_refl _),fun y c h=>?_,fun p hp=>absurd (show p∈([]:List (Addr × Obj)) from hp) (by simp),e0.hok.kept hk,?_⟩
  · exact name_of_addr x.apart (PySem.mem_of_lookup h1) (PySem.mem_of_lookup h2)
  · have hy:scope.names.lookup y=some .cell∨scope.names.lookup y=some .free:=hy
    rcases hy with hy | hy
    · exact cell_has hy
    · exact absurd rfl (S.nofree _ (PySem.mem_of_lookup hy))
  · exact Nat.le_of_lt (x.above y c (PySem.mem_of_lookup h))
  · have hi:i<vs.length:=by
      unfold start at h2
      by_cases hi:i<vs.length
      · exact hi
      · rw [List.getElem?_append_right (by simpa using hi)] at h2
        rw [List.getElem?_replicate] at h2
        split at h2 <;> cases h2
    have ha:vs[i]?=some v:=by
      unfold start at h2
      rw [List.getElem?_append_left (by simpa using hi),List.getElem?_map] at h2
      cases e:vs[i]? with
      | none=>rw [e] at h2; cases h2
      | some a=>rw [e] at h2; cases h2; rfl
    obtain ⟨u,hu,rv⟩:=r.get ha
    have hp:ps[i]?=some y:=by
      rw [← S.pre,List.getElem?_take_of_lt (by omega)]; exact h1
    have ndP:ps.Nodup:=by rw [← S.pre]; exact S.nd.sublist (List.take_sublist _ _)
    refine ⟨u,rv,?_⟩
    rcases S.par y (List.mem_of_getElem? hp) with k | k
    · exact .inl ⟨k,bindL_get ndP hp hu k⟩
    · obtain ⟨c,e⟩:=cell_has (n:=s.heap.objs.size+1) k
      refine .inr ⟨.inl k,c,e,?_⟩
      have q:=x.cell y c e
      rw [bindC_get ndP hp hu (by show scope.names.lookup y≠_; rw [k]; decide)] at q
      exact q
  · exact e0.hok.fresh (Nat.le_of_lt (x.above y c (PySem.mem_of_lookup h)))
  · unfold start
    show _=N.length
    rw [List.length_append,List.length_map,List.length_replicate]
    omega
theorem fn_of {CX:CXT} {P:Program} {w:World} {K:PySem.W.Frag} {mg:Str→Option Value} {base:Heap} {k:Nat} {f:Addr} {name qual:Str} {params:Arguments} {body:List Stmt} {scope:Scope} {dV kV doc pm cdv ct oc:Value} {an od:Option Addr}
    {osl:Array (Option Value)} {N ps:List Str} {sp:Sp} (lk:K.lookup f=some ⟨oc,od,.func (PySem.W.fnOf name qual params body scope dV kV doc pm an cdv ct),osl⟩) (hcd:PySem.W.codeIn K cdv qual=true) (S:FnScope N ps scope)
    (len:∀ vs H Q E,sp vs H Q E→vs.length=ps.length)
    (hbody:∀ (A:Around) (outer:List Env) (s:Shared) (H:Hp) (vs:List V) (Q:VK) (E:XK),Room k (A.deeper (envOfC qual scope s.heap.objs.size f cdv))→sp vs H Q E →
      ∃ t,PSs (cxOf CX P w K mg base N qual scope f cdv A outer s H E) body t∧t { nx:=fun _ H'=>Q .non H',rt:=Q } (start N vs) H) :
    FnOk P w K mg base CX (k+1) f (PySem.W.fnOf name qual params body scope dV kV doc pm an cdv ct) ps sp:=by
  refine ⟨len,fun A outer s H args us vs Q E hr e0 hb r hsp=>?_⟩
  have hl:=len _ _ _ _ hsp
  have KX:K.In s.heap:=e0.mod.kin.keeps fun b o e=>(e0.bs b o e).1
  have lim:s.heap.NoLimit:=e0.mod.nolimit.keeps fun b o e=>(e0.bs b o e).1
  have hkind:∀ y∈ps.zip us,scope.names.lookup y.1=some .local∨(scope.names.lookup y.1=some .cell∧((cellsFrom (s.heap.objs.size+1) scope.names []).lookup y.1).isSome=true):=fun ⟨n,v⟩ hy=>by
    rcases S.par n (List.of_mem_zip hy).1 with q | q
    · exact .inl q
    · exact .inr ⟨q,PySem.W.cellsFrom_some _ _ _ (.inl q)⟩
  refine codeAny_call_function hr.depth (KX _ _ lk) rfl S.co S.gen rfl (PySem.W.codeRec_of KX hcd) (hb _ _ _ _ ?_)
  refine wpAny_newFunctionEnv_cells S.kind hkind fun env he s1 x=>?_
  subst he
  refine ⟨lim.keeps x.toInCall.keep,codeAny_func ?_⟩
  obtain ⟨t,ht,hq⟩:=hbody A outer s H vs Q E (hr.deeper _) hsp
  have I:Inv (cxOf CX P w K mg base N qual scope f cdv A outer s H E) [] (start N vs) H s1:=inv_start S hr.hd e0 hl r x
  refine wpAny_mono (ht [] s1 (start N vs) H _ I hq) (fun fl s' hs=>?_) fun e s' hs=>hs
  have fin:∀ {σ':St} {H':Hp} {v:V} {u:Value},Inv (cxOf CX P w K mg base N qual scope f cdv A outer s H E) [] σ' H' s'→RelV v u→Q v H'→CE outer P w H s Q u s' :=
    fun {σ' H' v u} J rv q=>⟨v,H',J.os,J.bare,J.base,J.hok,rv,q⟩
  cases fl with
  | ret u =>
    obtain ⟨v,σ',H',J,rv,q⟩:=hs
    exact fin J rv q
  | next =>
    obtain ⟨σ',H',J,q⟩:=hs
    exact fin (v:=V.non) (u:=Value.none) J rfl q
  | brk =>
    obtain ⟨_,_,_,q⟩:=hs
    exact False.elim q
  | cont =>
    obtain ⟨_,_,_,q⟩:=hs
    exact False.elim q
end L2
namespace L2
open PySem PySem.Spec PyProof.Rows
section
variable {X:Cx} {x:Str} {p pos:Pos} {e:Expr} {es:List Expr} {t:TA} {id T:String} {r:List V→Hp→VK→Prop}
def tCB (r:List V→Hp→VK→Prop) (t:TA):TE:=fun σ H Q=>t σ H fun vs H1=>r vs H1 Q
theorem pe_callB (hc:CallR X (.builtin id) r) (hg:Gl X x) (hm:X.mg x=none) (hv:bootBuiltins x=some (.builtin id)) (ha:PA X (e::es) t) (hn:x ≠ "__name__" := by decide) (hdb:(x == ("__debug__" : Str))=false:=by decide)
    (he:starEach (e::es) X.env=(false,eval e X.env)::starEach es X.env:=by rfl) (hpl:(backTo pos (starEach es X.env)).any (·.1)=false:=by rfl):PE X (.Call (.Name x p) (e::es) [] pos) (tCB r t):=by
  intro pins s σ H Q I h
  refine wpAny_Call_Name_kw (ld_blt I hg hm hv ?_ hn hdb)
  exact PyProof.Rows.callWith_builtin1 (thn (ha pos pins s σ H _ I h) fun us s1 ⟨vs,H1,I1,r1,q1⟩=>hc pins s1 σ H1 vs us Q I1 r1 q1) he hpl
theorem pe_callTy (hc:CallR X (.type T) r) (hg:Gl X x) (hm:X.mg x=none) (hv:bootBuiltins x=some (.type T)) (ha:PA X (e::es) t) (hn:x ≠ "__name__" := by decide) (hdb:(x == ("__debug__" : Str))=false:=by decide)
    (he:starEach (e::es) X.env=(false,eval e X.env)::starEach es X.env:=by rfl) (hpl:(backTo pos (starEach es X.env)).any (·.1)=false:=by rfl):PE X (.Call (.Name x p) (e::es) [] pos) (tCB r t):=by
  intro pins s σ H Q I h
  refine wpAny_Call_Name_kw (ld_blt I hg hm hv ?_ hn hdb)
  exact PyProof.Rows.callWith_type1 (thn (ha pos pins s σ H _ I h) fun us s1 ⟨vs,H1,I1,r1,q1⟩=>hc pins s1 σ H1 vs us Q I1 r1 q1) he hpl
end
end L2
namespace HT
open PySem PyProof.Rows
section
open PySem.SeqAt
open PySem.AutoSeq1 (wpAny_loadPart')
open PySem.MeetsSeq PySem.MeetsSeq2 PySem.MeetsSeq3
end
section
variable {prog:Program} {w:World} {A:Around} {E:Value→Shared→Prop} {s:Shared}
theorem cat_tup {t b:Addr} {vs ws:List Value} {Q:Value→Shared→Prop} (ht:IsTup s.heap t vs.toArray) (hb:IsTup s.heap b ws.toArray) (hv:vs≠[])
    (h1:ws=[]→Q (.ref t) s) (h2:ws≠[]→Q (.ref s.heap.objs.size) { s with heap:=s.heap.push { cls:=.type "tuple",data:=.seq (vs++ws).toArray } })
    (hsz:vs.length+ws.length≤sizeLine):wpAny (model prog w) A (binaryOp .Add (.ref t) (.ref b)) Q E s:=by
  obtain ⟨⟨cls,dd,data,sl⟩,ho,hc,n,hd⟩:=id ht
  obtain ⟨⟨cls2,dd2,data2,sl2⟩,ho2,hc2,n2,hd2⟩:=id hb
  simp only at hc hd hc2 hd2
  subst hc hd hc2 hd2
  have e:vs.toArray++ws.toArray=(vs++ws).toArray:=by simp
  by_cases hw:ws=[]
  · exact concat_meets ⟨_,ho,rfl⟩ ⟨_,ho2,rfl⟩ noFill_tuple_add seq_tuple_add PySem.F.slot_tuple_add PySem.F.entry_tuple_add (PySem.F.args_tuple_add_2 _ _)
      (tuple_addW1 t b vs.toArray ws.toArray n n2 dd dd2 sl sl2 (by simpa using hv) (by simp [hw])) ⟨ho,ho2,h1 hw⟩
  · refine concat_meets ⟨_,ho,rfl⟩ ⟨_,ho2,rfl⟩ noFill_tuple_add seq_tuple_add PySem.F.slot_tuple_add PySem.F.entry_tuple_add (PySem.F.args_tuple_add_2 _ _)
      (tuple_addW2 t b vs.toArray ws.toArray n n2 dd dd2 sl sl2 (by simpa using hv) (by simpa using hw) (by rw [List.size_toArray,List.size_toArray]; exact hsz)) ⟨ho,ho2,?_⟩
    rw [e]
    exact h2 hw
def sIx (n d:Nat):Option Int→Nat
  | none=>d
  | some v=>if v<0 then (v+(n:Int)).toNat else min v.toNat n
theorem sIx_none (n d:Nat):sIx n d none=d:=rfl
theorem sIx_nat (n d k:Nat):sIx n d (some (k:Int))=min k n:=by
  show (if (k:Int)<0 then ((k:Int)+(n:Int)).toNat else min (k:Int).toNat n)=min k n
  rw [if_neg (by omega),Int.toNat_natCast]
end
end HT
namespace L2
open PySem PySem.Spec PyProof.Rows
abbrev TO:=St→Hp→(Option Int→Hp→Prop)→Prop
def PO (X:Cx) (e:Option Expr) (t:TO):Prop :=
  ∀ (pins:List (Addr × Obj)) (s:Shared) (σ:St) (H:Hp) (Q:Option Int→Hp→Prop),Inv X pins σ H s→t σ H Q →
    wpAny (model X.prog X.w) X.A (evalPart e X.env) (fun u s'=>∃ o H',Inv X pins σ H' s'∧IsPart u o∧Q o H') X.xe s
def tNoPart:TO:=fun _ H Q=>Q none H
def tPart (t:TE):TO:=fun σ H Q=>t σ H fun x H1=>∃ i,x=.int i∧Q (some i) H1
section
variable {X:Cx} {e:Expr} {te:TE} {lo hi:Option Expr} {tl th:TO} {pos p2:Pos}
theorem po_none:PO X none tNoPart:=by
  intro pins s σ H Q I h
  rw [evalPart_none]
  exact wpAny_pure ⟨none,H,I,.none,h⟩
theorem po_some (h:PE X e te):PO X (some e) (tPart te):=by
  intro pins s σ H Q I hw
  rw [evalPart_some]
  refine thn (h pins s σ H _ I hw) fun u s1 ⟨x,H1,I1,r1,q1⟩=>?_
  obtain ⟨i,rfl,q⟩:=q1
  obtain ⟨t,rfl⟩:=r1
  exact ⟨some i,H1,I1,.int i t,q⟩
def SlR (X:Cx) (r:V→Option Int→Option Int→Hp→VK→Prop):Prop :=
  ∀ (pins:List (Addr × Obj)) (s:Shared) (σ:St) (H:Hp) (x:V) (v vl vu:Value) (lo hi:Option Int) (sl:Addr) (Q:VK),Inv X pins σ H s→RelV x v→s.heap.IsSliceOf sl vl vu .none→IsPart vl lo→IsPart vu hi→r x lo hi H Q →
    ∃ T id,typeLookup (.type T) "__getitem__" = pure (some (.builtin id))∧s.TypeIs v T∧wpAny (model X.prog X.w) X.A (getItem v (.ref sl)) (EP X pins σ Q) X.xe s
def tSl (r:V→Option Int→Option Int→Hp→VK→Prop) (te:TE) (tl th:TO):TE:=fun σ H Q=>te σ H fun x H1=>tl σ H1 fun l H2=>th σ H2 fun u H3=>r x l u H3 Q
theorem pe_slice {r:V→Option Int→Option Int→Hp→VK→Prop} (hr:SlR X r) (he:PE X e te) (hl:PO X lo tl) (hu:PO X hi th):PE X (.Subscript e (.Slice lo hi none p2) pos) (tSl r te tl th):=by
  intro pins s σ H Q I h
  refine Subscript_ (thn (he pins s σ H _ I h) fun v s1 ⟨x,H1,I1,r1,q1⟩=>?_)
  refine wpAny_Slice (thn (hl pins s1 σ H1 _ I1 q1) fun vl s2 ⟨l,H2,I2,pl,q2⟩=>thn (hu pins s2 σ H2 _ I2 q2) fun vu s3 ⟨u,H3,I3,pu,q3⟩=>?_)
  rw [evalPart_none]
  refine wpAny_pure ?_
  have I4:Inv X pins σ H3 { s3 with heap:=s3.heap.push { cls:=.type "slice",data:=.fields #[vl,vu,.none] } }:=I3.kept (t':=s3.toks) fun b ob q=>Heap.get?_push_of_some _ q
  obtain ⟨T,id,hT,ht,hg⟩:=hr pins { s3 with heap:=s3.heap.push { cls:=.type "slice",data:=.fields #[vl,vu,.none] } } σ H3 x v vl vu l u s3.heap.objs.size Q I4 r1 (Heap.IsSliceOf.new ..) pl pu q3
  show wpAny (model X.prog X.w) X.A (subscriptTail e (.Slice lo hi none p2) v (.ref s3.heap.objs.size)) (EP X pins σ Q) X.xe { s3 with heap:=s3.heap.push { cls:=.type "slice",data:=.fields #[vl,vu,.none] } }
  exact tail_any (ops:=[.ref s3.heap.objs.size,v]) ht hT hg (by with_unfolding_all rfl)
def cutV (xs:List V) (lo hi:Option Int):List V:=(xs.drop (HT.sIx xs.length 0 lo)).take (HT.sIx xs.length xs.length hi - HT.sIx xs.length 0 lo)
theorem cutV_length (xs:List V) (lo hi:Option Int):(cutV xs lo hi).length≤xs.length:=by
  unfold cutV
  rw [List.length_take,List.length_drop]
  omega
def rCatT (K:PySem.W.Frag):R2:=fun x y H Q=>∃ a b xs ys,x=.ref a∧y=.ref b∧SqT K H a xs∧SqT K H b ys∧xs≠[]∧xs.length+ys.length≤sizeLine ∧
  (ys=[]→Q (.ref a) H)∧(ys≠[]→∀ p,H p=none→Q (.ref p) (upd H p (.tup (xs++ys))))
theorem Vals.nil_iff {xs:List V} {us:List Value} (r:Vals xs us):us=[]↔xs=[]:=by
  cases r with
  | nil=>simp
  | cons _ _=>simp
theorem op_catT:OpR X (binaryOp .Add) (rCatT X.K):=by
  intro pins s σ H x y v u Q I rx ry h
  obtain ⟨a,b,xs,ys,rfl,rfl,ha,hb,hx,hz,q1,q2⟩:=h
  cases rx
  cases ry
  obtain ⟨its,r1,p1,_⟩:=I.tuple ha
  obtain ⟨its2,r2,p2,_⟩:=I.tuple hb
  refine HT.cat_tup p1 p2 (fun z=>hx (r1.nil_iff.mp z)) (fun z=>⟨.ref a,H,I,rfl,q1 (r2.nil_iff.mp z)⟩) (fun z=>?_) (by rw [← r1.length,← r2.length]; exact hz)
  refine ⟨.ref s.heap.objs.size,_,I.laid (t':=s.toks) (o:=.tup (xs++ys)) (fun b ob q=>Heap.get?_push_of_some _ q) (Nat.le_refl _) ?_,rfl,q2 (fun w=>z (r2.nil_iff.mpr w)) _ (I.hok.fresh (Nat.le_refl _))⟩
  exact ⟨⟨by rw [List.length_append]; exact hz,_,Heap.get?_push_size _ rfl,rfl⟩,_,r1.append r2,IsTup.new _ _⟩
end
end L2
namespace L2
open PySem PySem.Spec PyProof.Rows
def ixN (n:Nat) (i:Int):Option Nat:=if 0≤i then (if i<n then some i.toNat else none) else if -(n:Int)≤i then some (i+n).toNat else none
def atI {α:Type} (xs:List α) (i:Int):Option α:=(ixN xs.length i).bind fun j=>xs[j]?
theorem ixN_seq {n:Nat} {i:Int} {j:Nat} (h:ixN n i=some j):seqIndex? i n=some j∧j<n∧-(n:Int)≤i∧i<n:=by
  unfold ixN at h
  by_cases h0:0≤i
  · rw [if_pos h0] at h
    by_cases h1:i<n
    · rw [if_pos h1] at h
      have e:i.toNat=j:=Option.some.inj h
      exact ⟨by rw [seqIndex_of h0 h1,e],by omega,by omega,h1⟩
    · rw [if_neg h1] at h; cases h
  · rw [if_neg h0] at h
    by_cases h1:-(n:Int)≤i
    · rw [if_pos h1] at h
      have e:(i+n).toNat=j:=Option.some.inj h
      exact ⟨by rw [seqIndex_neg (by omega) h1,e],by omega,h1,by omega⟩
    · rw [if_neg h1] at h; cases h
theorem atI_get {α:Type} {xs:List α} {i:Int} {v:α} (h:atI xs i=some v):∃ j,seqIndex? i xs.length=some j∧xs[j]?=some v∧j<xs.length∧-(xs.length:Int)≤i∧i<xs.length:=by
  unfold atI at h
  cases e:ixN xs.length i with
  | none=>rw [e] at h; cases h
  | some j =>
    rw [e] at h
    obtain ⟨h1,h2,h3,h4⟩:=ixN_seq e
    exact ⟨j,h1,h,h2,h3,h4⟩
theorem atI_nat {α:Type} {xs:List α} {j:Nat} {v:α} (h:xs[j]?=some v):atI xs (j:Int)=some v:=by
  have hj:j<xs.length:=(List.getElem?_eq_some_iff.mp h).1
  have e:ixN xs.length (j:Int)=some j:=by
    unfold ixN
    rw [if_pos (by omega),if_pos (by omega)]; simp
  unfold atI; rw [e]; exact h
def PlainIx (b:Expr):Prop:=∀ o i,subscripted b false o i=operate [o,i] (getItem o i)
def IxR (X:Cx) (r:R2):Prop :=
  ∀ (value slice:Expr) (pins:List (Addr × Obj)) (s:Shared) (σ:St) (H:Hp) (x y:V) (v u:Value) (Q:VK),Inv X pins σ H s→RelV x v→RelV y u→r x y H Q →
    subscripted slice false v u=operate [v,u] (getItem v u)→wpAny (model X.prog X.w) X.A (subscriptTail value slice v u) (EP X pins σ Q) X.xe s
def MtR (X:Cx) (id:String) (r:V→List V→Hp→VK→Prop):Prop :=
  ∀ (pins:List (Addr × Obj)) (s:Shared) (σ:St) (H:Hp) (x:V) (xs:List V) (v:Value) (us:List Value) (Q:VK),Inv X pins σ H s→RelV x v→Vals xs us→r x xs H Q →
    wpAny (model X.prog X.w) X.A (call (.builtin id) (v::us)) (EP X pins σ Q) X.xe s
section
variable {X:Cx} {a b:Expr} {ta tb:TE} {pos:Pos}
theorem IxR.or {r r':R2} (h:IxR X r) (h':IxR X r'):IxR X (fun x y H Q=>r x y H Q∨r' x y H Q):=by
  intro value slice pins s σ H x y v u Q I rx ry q hs
  rcases q with q | q
  · exact h value slice pins s σ H x y v u Q I rx ry q hs
  · exact h' value slice pins s σ H x y v u Q I rx ry q hs
theorem pe_ix {r:R2} (hr:IxR X r) (ha:PE X a ta) (hb:PE X b tb) (hs:PlainIx b):PE X (.Subscript a b pos) (tOp r ta tb):=by
  intro pins s σ H Q I h
  exact Subscript_ (binT ha hb I h fun v u s2 x y H2 I2 rx ry q=>hr a b pins s2 σ H2 x y v u Q I2 rx ry q (hs _ _))
def rIxL (K:PySem.W.Frag):R2:=fun x y H Q=>∃ p xs i v,x=.ref p∧y=.int i∧SqL K H p xs∧atI xs i=some v∧Q v H
def rIxT (K:PySem.W.Frag):R2:=fun x y H Q=>∃ p xs i v,x=.ref p∧y=.int i∧SqT K H p xs∧atI xs i=some v∧Q v H
def rIxS:R2:=fun x y H Q=>∃ z i c,x=.str z∧y=.int i∧z.length≤sizeLine∧atI z.cps.toList i=some c∧Q (.str ⟨#[c]⟩) H
theorem ix_list:IxR X (rIxL X.K):=by
  intro value slice pins s σ H x y v u Q I rx ry h hs
  obtain ⟨p,xs,i,z,rfl,rfl,hq,he,q⟩:=h
  cases rx
  obtain ⟨t,rfl⟩:=ry
  obtain ⟨its,r,pl,hz⟩:=I.list hq
  obtain ⟨j,h1,h2,h3,h4,h5⟩:=atI_get he
  obtain ⟨w,ew,rw'⟩:=r.get h2
  have hl:=r.length
  have hn:=line63
  have fin:EP X pins σ Q w s:=⟨z,H,I,rw',q⟩
  by_cases h0:0≤i
  · have hj:i.toNat=j:=by
      rw [seqIndex_of h0 h5] at h1
      exact Option.some.inj h1
    exact item_listR pl.isList h0 (by omega) (by rw [hj]; simpa using ew) fin hs
  · have hj:(i+(its.toArray.size:Int)).toNat=j:=by
      rw [seqIndex_neg (by omega) h4] at h1
      rw [List.size_toArray,← hl]
      exact Option.some.inj h1
    exact subscriptTail_builtinR (x:=w) pl.isList.typeIs slot_list_getitem.lookup
      (wpAny_getItem_list_neg (Q:=fun r s'=>r=w∧EP X pins σ Q r s') pl.isList (by omega) (by rw [List.size_toArray] <;> omega) (by omega) (by rw [hj]; simpa using ew) ⟨rfl,fin⟩) hs
theorem ix_tup:IxR X (rIxT X.K):=by
  intro value slice pins s σ H x y v u Q I rx ry h hs
  obtain ⟨p,xs,i,z,rfl,rfl,hq,he,q⟩:=h
  cases rx
  obtain ⟨t,rfl⟩:=ry
  obtain ⟨its,r,pl,hz⟩:=I.tuple hq
  obtain ⟨j,h1,h2,h3,h4,h5⟩:=atI_get he
  obtain ⟨w,ew,rw'⟩:=r.get h2
  have hl:=r.length
  have hn:=line63
  have fin:EP X pins σ Q w s:=⟨z,H,I,rw',q⟩
  exact subscriptTail_builtinR (x:=w) pl.typeIs slot_tuple_getitem.lookup
    (getItem_tuple (j:=j) (Q:=fun r s'=>r=w∧EP X pins σ Q r s') pl (by omega) (by omega) (by rw [List.size_toArray,← hl]; exact h1) (by simpa using ew) ⟨rfl,fin⟩) hs
theorem ix_str:IxR X rIxS:=by
  intro value slice pins s σ H x y v u Q I rx ry h hs
  obtain ⟨z,i,c,rfl,rfl,hz,he,q⟩:=h
  obtain ⟨t,rfl⟩:=rx
  obtain ⟨t',rfl⟩:=ry
  obtain ⟨j,h1,h2,h3,h4,h5⟩:=atI_get he
  have hl:z.cps.toList.length=z.length:=by simp [Str.length]
  rw [hl] at h1 h4 h5
  have hn:=line63
  exact tail_any (typeIs_str s z t) slot_str_getitem.lookup (getItem_str (c:=c) (by
    have e1:decide (i < -(2^63:Int))=false:=decide_eq_false (by omega)
    have e2:decide (i ≥ 2^63)=false:=decide_eq_false (by omega)
    rw [e1,e2,Bool.or_false]) (by rw [h1]; simpa using h2) ⟨.str ⟨#[c]⟩,H,I.tok _,⟨_,rfl⟩,q⟩) hs
def rIx (K:PySem.W.Frag):R2:=fun x y H Q=>rIxL K x y H Q∨rIxT K x y H Q∨rIxS x y H Q
theorem ix_seq:IxR X (rIx X.K):=ix_list.or (ix_tup.or ix_str)
theorem slice_bounds (lo hi:Option Int) (n:Nat):(sliceBounds lo hi none n).1=((HT.sIx n 0 lo:Nat):Int)∧(sliceBounds lo hi none n).2.1=((HT.sIx n n hi:Nat):Int)∧(sliceBounds lo hi none n).2.2=1:=by
  refine ⟨?_,?_,rfl⟩
  · cases lo with
    | none=>simp [sliceBounds,HT.sIx]
    | some i =>
      simp only [sliceBounds,HT.sIx,Option.getD_none,show (1:Int) > 0 by decide,if_true]
      by_cases h:i<0
      · simp only [h,if_true] <;> omega
      · simp only [h,if_false] <;> omega
  · cases hi with
    | none=>simp [sliceBounds,HT.sIx]
    | some i =>
      simp only [sliceBounds,HT.sIx,Option.getD_none,show (1:Int) > 0 by decide,if_true]
      by_cases h:i<0
      · simp only [h,if_true] <;> omega
      · simp only [h,if_false] <;> omega
theorem slicePick_cut (its:List Value) (lo hi:Option Int):slicePick its.toArray lo hi none=((its.drop (HT.sIx its.length 0 lo)).take (HT.sIx its.length its.length hi - HT.sIx its.length 0 lo)).toArray:=by
  obtain ⟨h1,h2,h3⟩:=slice_bounds lo hi its.toArray.size
  unfold slicePick
  rw [h1,h2,h3]
  simp only [sliceRange_one,pick_run,List.size_toArray] <;> rfl
def rSlL (K:PySem.W.Frag):V→Option Int→Option Int→Hp→VK→Prop:=fun x lo hi H Q=>∃ a xs,x=.ref a∧SqL K H a xs∧∀ p,H p=none→Q (.ref p) (upd H p (.lst (cutV xs lo hi)))
theorem sl_list:SlR X (rSlL X.K):=by
  intro pins s σ H x v vl vu lo hi sl Q I rx hs pl pu h
  obtain ⟨a,xs,rfl,hx,q⟩:=h
  cases rx
  obtain ⟨its,r,ht,hz⟩:=I.list hx
  have hlen:=r.length
  refine ⟨"list",_,slot_list_getitem.lookup,ht.isList.typeIs,?_⟩
  refine wpAny_getItem_list_slice ht.isList hs pl pu .none (by simp) ?_ (by rw [List.size_toArray] <;> omega)
  rw [slicePick_cut,← hlen]
  refine ⟨.ref s.heap.objs.size,_,I.laid (t':=s.toks) (o:=.lst (cutV xs lo hi)) (fun b ob q=>Heap.get?_push_of_some _ q) (Nat.le_refl _) ?_,rfl,q _ (I.hok.fresh (Nat.le_refl _))⟩
  exact ⟨Nat.le_trans (cutV_length xs lo hi) hz,_,0,(r.drop (HT.sIx xs.length 0 lo)).take (HT.sIx xs.length xs.length hi - HT.sIx xs.length 0 lo),Heap.get?_push_size _ rfl⟩
def flatV:V→Bool
  | .non=>true
  | .bl _=>true
  | .int _=>true
  | .str _=>true
  | _=>false
def eqV:V→V→Bool
  | .non,.non=>true
  | .bl a,.bl b=>a == b
  | .bl a,.int b=>(if a then 1 else 0) == b
  | .int a,.bl b=>a == (if b then 1 else 0)
  | .int a,.int b=>a == b
  | .str a,.str b=>a == b
  | _,_=>false
theorem eqAt_V {A:Around} {s:Shared} {y x:V} {u v:Value} (ry:RelV y u) (rx:RelV x v) (fy:flatV y=true) (fx:flatV x=true):SeqAt.EqAt A s u v (eqV y x):=by
  cases y with
  | non =>
    cases ry
    cases x with
    | non=>cases rx; exact SeqAt.EqAt.same _
    | bl b=>cases rx; exact SeqAt.EqAt.none_bool b
    | int b=>obtain ⟨t,rfl⟩:=rx; exact SeqAt.EqAt.none_int b t
    | str b=>obtain ⟨t,rfl⟩:=rx; exact SeqAt.EqAt.none_str b t
    | _=>exact absurd (show false=true from fx) Bool.false_ne_true
  | bl a =>
    cases ry
    cases x with
    | non=>cases rx; exact SeqAt.EqAt.bool_none a
    | bl b=>cases rx; exact SeqAt.EqAt.bool_bool a b
    | int b=>obtain ⟨t,rfl⟩:=rx; exact SeqAt.EqAt.bool_int a b t
    | str b=>obtain ⟨t,rfl⟩:=rx; exact SeqAt.EqAt.bool_str a b t
    | _=>exact absurd (show false=true from fx) Bool.false_ne_true
  | int a =>
    obtain ⟨t',rfl⟩:=ry
    cases x with
    | non=>cases rx; exact SeqAt.EqAt.int_none a t'
    | bl b=>cases rx; exact SeqAt.EqAt.int_bool a t' b
    | int b=>obtain ⟨t,rfl⟩:=rx; exact SeqAt.EqAt.int_int a t' b t
    | str b=>obtain ⟨t,rfl⟩:=rx; exact SeqAt.EqAt.int_str a t' b t
    | _=>exact absurd (show false=true from fx) Bool.false_ne_true
  | str a =>
    obtain ⟨t',rfl⟩:=ry
    cases x with
    | non=>cases rx; exact SeqAt.EqAt.str_none a t'
    | bl b=>cases rx; exact SeqAt.EqAt.str_bool a t' b
    | int b=>obtain ⟨t,rfl⟩:=rx; exact SeqAt.EqAt.str_int a t' b t
    | str b=>obtain ⟨t,rfl⟩:=rx; exact SeqAt.EqAt.str_str a t' b t
    | _=>exact absurd (show false=true from fx) Bool.false_ne_true
  | _=>exact absurd (show false=true from fy) Bool.false_ne_true
def eqU (x:V) (u:Value):Bool:=match u with
  | .none=>eqV .non x
  | .bool b=>eqV (.bl b) x
  | .int i _=>eqV (.int i) x
  | .str z _=>eqV (.str z) x
  | _=>false
theorem eqU_of {x y:V} {u:Value} (r:RelV y u) (f:flatV y=true):eqU x u=eqV y x:=by
  cases y with
  | non=>cases r; rfl
  | bl b=>cases r; rfl
  | int i=>obtain ⟨t,rfl⟩:=r; rfl
  | str z=>obtain ⟨t,rfl⟩:=r; rfl
  | _=>exact absurd (show false=true from f) Bool.false_ne_true
theorem any_eqU {x:V}:∀ {xs:List V} {us:List Value},Vals xs us→xs.all flatV=true→us.any (eqU x)=xs.any fun y=>eqV y x
  | _,_,.nil,_=>rfl
  | y::xs,u::us,.cons r t,f=>by
    rw [List.all_cons,Bool.and_eq_true] at f
    rw [List.any_cons,List.any_cons,eqU_of r f.1,any_eqU t f.2]
theorem mem_eqAt {A:Around} {s:Shared} {x:V} {v:Value} (rx:RelV x v) (fx:flatV x=true):∀ {xs:List V} {us:List Value},Vals xs us→xs.all flatV=true→∀ u∈us,SeqAt.EqAt A s u v (eqU x u)
  | _,_,.nil,_=>fun u hu=>by cases hu
  | y::xs,u::us,.cons r t,f=>fun u' hu=>by
    rw [List.all_cons,Bool.and_eq_true] at f
    rcases List.mem_cons.mp hu with rfl | hu
    · rw [eqU_of r f.1]; exact eqAt_V r rx f.1 fx
    · exact mem_eqAt rx fx t f.2 u' hu
def inV (x:V) (xs:List V):Bool:=xs.any fun y=>eqV y x
def rIn (K:PySem.W.Frag) (neg:Bool):R2:=fun x y H Q=>∃ p xs,y=.ref p∧(SqL K H p xs∨SqT K H p xs)∧flatV x=true∧xs.all flatV=true∧Q (.bl (if neg then !inV x xs else inV x xs)) H
theorem op_notIn_seq:OpR X (compareOp .NotIn) (rIn X.K true):=by
  intro pins s σ H x y v u Q I rx ry h
  obtain ⟨p,xs,rfl,hq,fx,fs,q⟩:=h
  cases ry
  rcases hq with hq | hq
  · obtain ⟨its,r,pl,hz⟩:=I.list hq
    refine SeqAt.notIn_listAt (eqU x) pl.isList (fun w hw=>mem_eqAt rx fx r fs w (by simpa using hw)) ⟨.bl _,H,I,rfl,?_⟩
    rw [show its.toArray.any (eqU x)=its.any (eqU x) by simp,any_eqU r fs]
    exact q
  · obtain ⟨its,r,pl,hz⟩:=I.tuple hq
    refine SeqAt.notIn_tupleAt (eqU x) pl (fun w hw=>mem_eqAt rx fx r fs w (by simpa using hw)) ⟨.bl _,H,I,rfl,?_⟩
    rw [show its.toArray.any (eqU x)=its.any (eqU x) by simp,any_eqU r fs]
    exact q
theorem call_list_of:CallR X (.type "list") (fun xs H Q=>∃ p ys,xs=[.ref p]∧(SqL X.K H p ys∨SqT X.K H p ys)∧∀ l,H l=none→Q (.ref l) (upd H l (.lst ys))):=by
  intro pins s σ H xs us Q I r h
  obtain ⟨p,ys,rfl,hq,q⟩:=h
  obtain ⟨u,rfl,rx⟩:=vals1 r
  cases rx
  have fin:∀ (its:List Value),Vals ys its→ys.length≤sizeLine→∀ (h':Heap) (c':Nat),(∀ b o',s.heap.get? b=some o'→h'.get? b=some o') →
      h'.get? s.heap.objs.size=some { cls:=.type "list",dict:=none,data:=.seq its.toArray c',slots:=#[] }→EP X pins σ Q (.ref s.heap.objs.size) { s with heap:=h' }:=fun its r' hz h' c' kp e =>
    ⟨.ref s.heap.objs.size,_,I.laid (t':=s.toks) kp (Nat.le_refl _) (show ObjOk X.prog X.w _ h' _ (.lst ys) from ⟨hz,its,c',r',e⟩),rfl,q _ (I.hok.fresh (Nat.le_refl _))⟩
  rcases hq with hq | hq
  · obtain ⟨its,r',pl,hz⟩:=I.list hq
    have hlen:=r'.length
    obtain ⟨o,ho,hc,n,hd⟩:=pl.isList
    exact call_list_seq p (.inl rfl) ho hc hd (fun h' c' kp e=>fin its r' hz h' c' kp e) (by simp only [List.size_toArray] <;> omega)
  · obtain ⟨its,r',pl,hz⟩:=I.tuple hq
    have hlen:=r'.length
    obtain ⟨o,ho,hc,n,hd⟩:=pl
    exact call_list_seq p (.inr rfl) ho hc hd (fun h' c' kp e=>fin its r' hz h' c' kp e) (by simp only [List.size_toArray] <;> omega)
theorem call_tuple_of:CallR X (.type "tuple") (fun xs H Q=>∃ p ys,xs=[.ref p]∧((SqL X.K H p ys∧∀ l,H l=none→Q (.ref l) (upd H l (.tup ys)))∨(SqT X.K H p ys∧Q (.ref p) H))):=by
  intro pins s σ H xs us Q I r h
  obtain ⟨p,ys,rfl,h⟩:=h
  obtain ⟨u,rfl,rx⟩:=vals1 r
  cases rx
  rcases h with ⟨hq,q⟩ | ⟨hq,q⟩
  · obtain ⟨its,r',pl,hz⟩:=I.list hq
    have hlen:=r'.length
    refine call_tuple_list pl.isList (fun h' kp=>?_) (by simp only [List.size_toArray] <;> omega)
    have I1:Inv X pins σ H { s with heap:=h' }:=I.kept (t':=s.toks) kp
    have I2:Inv X pins σ (upd H h'.objs.size (.tup ys)) { s with heap:=h'.push { cls:=.type "tuple",data:=.seq its.toArray } } :=
      I1.laid (t':=s.toks) (fun b o e=>Heap.get?_push_of_some _ e) (Nat.le_refl _) (show ObjOk X.prog X.w _ _ _ (.tup ys) from ⟨⟨hz,_,Heap.get?_push_size _ rfl,rfl⟩,its,r',IsTup.new _ _⟩)
    exact ⟨.ref h'.objs.size,_,I2,rfl,q _ (I1.hok.fresh (Nat.le_refl _))⟩
  · obtain ⟨its,r',pl,hz⟩:=I.tuple hq
    exact call_tuple_same pl ⟨.ref p,H,I,rfl,q⟩
def tyV (K:PySem.W.Frag) (T:String) (x:V) (H:Hp):Prop:=match x with
  | .str _=>T = "str"
  | .int _=>T = "int"
  | .ref p=>(T = "list" ∧ ∃ xs,SqL K H p xs)∨(T = "tuple" ∧ ((∃ o,K.lookup p=some o∧o.cls=.type "tuple" ∧ o.dict=none)∨∃ xs,H p=some (.tup xs))) ∨
      (T = "dict" ∧ ((∃ kvs,H p=some (.dK kvs))∨∃ kvs,H p=some (.dT kvs)))∨(T = "set" ∧ ∃ S n,H p=some (.set S n))
  | _=>False
theorem tyV_is {pins:List (Addr × Obj)} {σ:St} {H:Hp} {s:Shared} {T:String} {x:V} {v:Value} (I:Inv X pins σ H s) (r:RelV x v) (ty:tyV X.K T x H) :
    s.TypeIs v T∧∀ a,v=.ref a→∃ ob,s.heap.get? a=some ob∧ob.dict=none:=by
  cases x with
  | str z =>
    obtain ⟨t,rfl⟩:=r
    cases (show T = "str" from ty)
    exact ⟨typeIs_str s z t,fun _ e=>nomatch e⟩
  | int i =>
    obtain ⟨t,rfl⟩:=r
    cases (show T = "int" from ty)
    exact ⟨typeIs_int s i t,fun _ e=>nomatch e⟩
  | ref p =>
    cases r
    rcases ty with ⟨rfl,xs,hq⟩ | ⟨rfl,⟨o,hk,hc,hd⟩ | ⟨xs,hq⟩⟩ | ⟨rfl,hk⟩ | ⟨rfl,S,n,hk⟩
    · obtain ⟨its,_,pl,_⟩:=I.list hq
      refine ⟨pl.isList.typeIs,fun a e=>?_⟩
      cases e
      obtain ⟨o,n,e,c,hd,_⟩:=pl
      exact ⟨o,e,hd⟩
    · refine ⟨⟨o,I.kIn p o hk,hc⟩,fun a e=>?_⟩
      cases e
      exact ⟨o,I.kIn _ o hk,hd⟩
    · obtain ⟨⟨_,on,en,dn⟩,_,_,o,e1,e2,_⟩:=(show ObjOk X.prog X.w H s.heap p (.tup xs) from I.hok p _ hq)
      refine ⟨⟨o,e1,e2⟩,fun a e=>?_⟩
      cases e
      exact ⟨on,en,dn⟩
    · have z:∃ o,s.heap.get? p=some o∧o.ExactDict:=by
        rcases hk with ⟨kvs,hk⟩ | ⟨kvs,hk⟩
        · obtain ⟨_,_,_,_,o,_,_,e,ex,_⟩:=I.hok p _ hk
          exact ⟨o,e,ex⟩
        · obtain ⟨_,_,_,_,o,_,_,e,ex,_⟩:=I.hok p _ hk
          exact ⟨o,e,ex⟩
      obtain ⟨o,e,ex⟩:=z
      refine ⟨⟨o,e,ex.1⟩,fun a e2=>?_⟩
      cases e2
      exact ⟨o,e,ex.2.1⟩
    · obtain ⟨o,_,_,_,e,ex,_⟩:=I.hok p _ hk
      refine ⟨⟨o,e,ex.1⟩,fun a e2=>?_⟩
      cases e2
      exact ⟨o,e,ex.2.1⟩
  | _=>exact False.elim ty
def tBM (K:PySem.W.Frag) (T:String) (r:V→List V→Hp→VK→Prop) (to:TE) (t:TA):TE:=fun σ H Q=>to σ H fun x H1=>tyV K T x H1∧t σ H1 fun xs H2=>r x xs H2 Q
variable {o e:Expr} {es:List Expr} {to:TE} {t:TA} {name:Str} {apos cpos:Pos} {T id:String} {r:V→List V→Hp→VK→Prop}
theorem pe_bm (pa:PlainAttrs T) (slot:Slot T name id) (hty:typeOf (.builtin id)=pure (.type "method_descriptor")) (hm:MtR X id r) (ho:PE X o to) (ha:PA X (e::es) t)
    (hbase:attributeBase o name X.env (eval o X.env)=eval o X.env:=by rfl)
    (hfew:((backTo cpos (starEach (e::es) X.env)).all (fun x=>!x.1)&&(backToKw cpos (keywordEach [] X.env)).all (fun x=>x.1.isSome)
      && decide ((e::es).length+([]:List Keyword).length+(if ([]:List Keyword).isEmpty then 0 else 1)<30))=true:=by rfl)
    (hline:(apos.endLine == cpos.line)=true:=by rfl) (hs:starEach (e::es) X.env=(false,eval e X.env)::starEach es X.env:=by rfl) (hplain:(backTo cpos (starEach es X.env)).any (·.1)=false:=by rfl) :
    PE X (.Call (.Attribute o name apos) (e::es) [] cpos) (tBM X.K T r to t):=by
  intro pins s σ H Q I h
  refine wpAny_Call_method_late hbase hfew hline rfl (thn (ho pins s σ H _ I h) fun v s1 ⟨x,H1,I1,r1,ty,q1⟩=>?_)
  obtain ⟨h1,h2⟩:=tyV_is I1 r1 ty
  refine ⟨T,id,pa,slot,hty,h1,h2,?_⟩
  have hA:=ha cpos pins s1 σ H1 _ I1 q1
  rw [hs] at hA ⊢
  refine Calls.callWith_builtin (by show (false || (backTo cpos (starEach es X.env)).any (·.1))=false; rw [hplain] <;> rfl) (Calls.evalArgs_plain ?_)
  exact thn hA fun us s2 ⟨vs,H2,I2,r2,q2⟩=>hm pins s2 σ H2 x vs v us Q I2 r1 r2 q2
/- xs.append(e),list.index on a module's tuple .. are MtR facts of 06m -/
end
end L2
namespace L2
open PySem PySem.Spec PyProof.Rows
def MtM (X:Cx) (id:String) (r:V→List V→Hp→VK→Prop):Prop :=
  ∀ (pins:List (Addr × Obj)) (s:Shared) (σ:St) (H:Hp) (x:V) (xs:List V) (v:Value) (us:List Value) (Q:VK),Inv X pins σ H s→RelV x v→Vals xs us→r x xs H Q →
    wpAny (model X.prog X.w) X.A (call (.builtin id) (v::us)) (EP X pins σ Q) X.xe s
theorem Vals.one:∀ {x:V} {us:List Value},Vals [x] us→∃ u,us=[u]∧RelV x u
  | _,_,.cons r .nil=>⟨_,rfl,r⟩
section
variable {X:Cx} {pins:List (Addr × Obj)} {σ:St} {H:Hp} {s:Shared} {l b:Addr} {xs ys zs:List V}
theorem Inv.lset {its its':List Value} {n:Nat} {f:Array Value→Array Value} {t':Nat} (I:Inv X pins σ H s) (hH:H l=some (.lst xs))
    (e:s.heap.get? l=some { cls:=.type "list",data:=.seq its.toArray n }) (hf:f its.toArray=its'.toArray) (hv:Vals ys its') (hz:ys.length≤sizeLine) :
    Inv X pins σ (upd H l (.lst ys)) { s with heap:=s.heap.update l (Obj.mapSeq f),toks:=t' }:=by
  have q:=PySem.IsL.update e f
  rw [hf] at q
  refine I.write (x:=l) (e:=l) (by rw [hH]; exact trivial) (.inl rfl) (fun b' u hb hu=>(Heap.get?_update_other s.heap (Obj.mapSeq f) (Ne.symm hb)).trans hu) ⟨_,q⟩ ?_
  exact ⟨hz,its',_,hv,q⟩
theorem Inv.lnew {its:List Value} {t':Nat} (I:Inv X pins σ H s) (hv:Vals ys its) (hz:ys.length≤sizeLine) :
    Inv X pins σ (upd H s.heap.objs.size (.lst ys)) { s with heap:=s.heap.push { cls:=.type "list",data:=.seq its.toArray },toks:=t' } :=
  I.laid (fun _ _ q=>Heap.get?_push_of_some _ q) (Nat.le_refl _) ⟨hz,its,0,hv,Heap.get?_push_size _ rfl⟩
theorem Inv.fresh (I:Inv X pins σ H s):H s.heap.objs.size=none:=I.hok.fresh (Nat.le_refl _)
theorem Inv.lstM (I:Inv X pins σ H s) (hH:H l=some (.lst xs)):xs.length≤sizeLine∧∃ (its:List Value) (n:Nat),Vals xs its∧xs.length=its.length∧s.heap.get? l=some { cls:=.type "list",data:=.seq its.toArray n }:=by
  obtain ⟨z,its,n,r,e⟩:=I.hok l _ hH
  exact ⟨z,its,n,r,r.length,e⟩
end
section
variable {X:Cx}
def rAppend:V→List V→Hp→VK→Prop:=fun x vs H Q=>∃ l xs y,x=.ref l∧vs=[y]∧H l=some (.lst xs)∧xs.length<sizeLine∧Q .non (upd H l (.lst (xs++[y])))
theorem mt_append:MtM X "list.append" rAppend:=by
  intro pins s σ H x vs v us Q I rx rv h
  obtain ⟨l,xs,y,rfl,rfl,hH,hz,q⟩:=h
  cases rx
  obtain ⟨u,rfl,ru⟩:=rv.one
  obtain ⟨z,its,n,r,hl,e⟩:=I.lstM hH
  refine call_meets F.slot_list_append ⟨_,e,rfl⟩ F.entry_list_append (F.args_list_append_2 _ _) (PySem.list_append l its.toArray n u (by rw [List.size_toArray]; omega)) ⟨e,?_⟩
  refine ⟨.non,_,I.lset (its':=its++[u]) hH e (by simp) (r.append (.cons ru .nil)) ?_,rfl,q⟩
  rw [List.length_append,List.length_singleton]
  omega
def rCat:R2:=fun x y H Q=>∃ l b xs zs,x=.ref l∧y=.ref b∧H l=some (.lst xs)∧H b=some (.lst zs)∧xs.length+zs.length≤sizeLine∧∀ p,H p=none→Q (.ref p) (upd H p (.lst (xs++zs)))
theorem op_cat:OpR X (binaryOp .Add) rCat:=by
  intro pins s σ H x y v u Q I rx ry h
  obtain ⟨l,b,xs,zs,rfl,rfl,hH,hB,hz,q⟩:=h
  cases rx
  cases ry
  obtain ⟨z,its,n,r,hl,e⟩:=I.lstM hH
  obtain ⟨z2,its2,n2,r2,hl2,e2⟩:=I.lstM hB
  refine PySem.P.add_list e e2 ?_ (by rw [List.size_toArray,List.size_toArray]; omega)
  have ea:its.toArray++its2.toArray=(its++its2).toArray:=by simp
  rw [ea]
  exact ⟨.ref _,_,I.lnew (t':=s.toks) (r.append r2) (by rw [List.length_append]; omega),rfl,q _ I.fresh⟩
end
section
variable {prog:Program} {w:World} {A:Around} {E:Value→Shared→Prop} {s:Shared}
end
section
variable {X:Cx}
end
end L2
namespace Att
open PySem PySem.W PySem.Calls PyProof.Rows
theorem ints_of_wellAll {P:Params} {h:Heap}:∀ (ns:List Int) (vs:List Value),WellAll P h vs (ns.map WData.int)→IntsAre vs ns:=by
  intro ns
  induction ns with
  | nil =>
    intro vs w
    rw [List.map_nil] at w
    cases w
    exact .nil
  | cons n ns ih =>
    intro vs w
    rw [List.map_cons] at w
    cases w with
    | cons a b =>
      cases a
      exact .cons _ _ (ih _ b)
theorem script_of {l:OpenLaw} {n:Nat} (hn:l.most=some n) {P:Params} {h:Heap} {args:List WData} {vals:List Value}
    (hpre:l.row.toRowW.claim.pre args=true) (hwl:WellAll P h vals args) :
    ∃ a vs ns,vals=[Value.ref a]∧args=[WData.list (ns.map WData.int)]∧h.get? a=some { cls:=.type "list",data:=.seq vs.toArray }∧IntsAre vs ns∧ns.length≤n:=by
  have hsh:WShape.hasAll [] args [.list .int]=true:=(pre_splitW hpre).1
  have hc:l.pre.holds [] { args:=args }=true:=(pre_splitW hpre).2
  obtain ⟨d,r,rfl,h1,h2⟩:=hasAllW_cons hsh
  obtain rfl:=hasAllW_nil h2
  obtain ⟨xs,rfl,h3⟩:=hasW_list h1
  obtain ⟨ns,rfl⟩:=items_int h3
  have hlen:ns.length≤n:=by
    unfold OpenLaw.pre at hc
    have h4:(WTm.not (.lt (.lit (.int (n:Int))) (.len (.arg 0)))).holds [] { args:=[.list (ns.map .int)] }=true:=by
      have h4:=(holds_andW hc).1
      rw [hn] at h4
      exact h4
    have h5:=condW_of h4 (w_not (w_lt w_lit (w_len_list (w_arg rfl))))
    rw [List.length_map] at h5
    refine Nat.le_of_not_lt fun q=>?_
    have q':(n:Int)<((ns.length:Nat):Int):=by omega
    first
      | (rw [decide_eq_true q'] at h5; exact absurd h5 (by decide))
      | (simp at h5; omega)
  cases hwl with
  | cons w1 w2 =>
    cases w2
    cases w1 with
    | list ho hall=>exact ⟨_,_,ns,rfl,rfl,ho,ints_of_wellAll ns _ hall,hlen⟩
theorem post_true (l:OpenLaw) (args:List WData):l.row.toRowW.claim.post args (.bool true) args=true :=
  postW_of (r:=l.row.toRowW) (X:=(true == true))
    (show WShape.has [] (.bool true) .bool=true by first | rfl | decide | simp [WShape.has,WShape.arms,WShape.armsAll])
    (show (WTm.eq .res (.lit (.bool true))).value [] { args:=args,res:=some (.bool true),after:=args }=some (.bool (true == true)) from w_eq_bool (w_res rfl) w_lit) rfl
theorem attach_call {l:OpenLaw} {n:Nat} {q:Program} {loose:List Str} {XP:(Str→Option Value)→Heap→Prop} {YP:World→Heap→Prop} {d:DefRec}
    (hn:l.most=some n) (hdf:d.params.defaults=[])
    (call:∀ (w:World) (s₀ s₁:Shared) (mg mb:Str→Option Value) (fa:Addr) (o:Obj) (pm cd doc:Value) (a:Addr) (vs:List Value) (ns:List Int),
      Ground q loose [] XP w s₀ mg mb s₁.heap→YP w s₁.heap →
      s₁.heap.get? fa=some o→o.data=.func (docDef d.name d.params d.body d.scope pm cd doc)→s₁.heap.CodeRec cd d.name→mg d.name=some (.ref fa) →
      s₁.heap.get? a=some { cls:=.type "list",data:=.seq vs.toArray }→IntsAre vs ns→ns.length≤n→s₁.gens=#[] →
      codeAny (model l.prog w) callerA (.call (.ref fa) ⟨[.ref a],[]⟩) (fun r s'=>r=.ok (.ret (.bool true))∧OldK s₁.heap s'.heap∧s'.os=s₁.os∧AllBare s'.gens) s₁) :
    WalkO q loose XP YP l.row.toRowW d [] (fun f vs=>PySem.call f vs):=by
  intro w s₀ s₁ mg mb G Y fa o pm cd doc dV kV ho hd hcd hD hmg hg args vals as hpre hlay hrd hwl hlo
  obtain rfl:dV=.none:=Dflts.none hD hdf
  obtain rfl:kV=.none:=Dflts.noKw hD
  obtain ⟨a,vs,ns,rfl,rfl,hobj,hints,hlen⟩:=script_of hn hpre hwl
  refine enter_call (codeAny_mono (call w s₀ s₁ mg mb fa o pm cd doc a vs ns G Y ho (fd_plain hd) hcd hmg hobj hints hlen hg) fun r s' hq=>?_)
  obtain ⟨rfl,h2,h3,h4⟩:=hq
  exact ⟨.inl ⟨.bool true,.bool true,[],rfl,fun _=>rfl,.bool true,post_true l _,fun _=>⟨List.Pairwise.nil,fun _ hm=>(nomatch hm)⟩⟩,h2,h3,h4⟩
section
variable {prog:Program} {w:World} {A:Around} {E:Value→Shared→Prop} {s:Shared} {K:Frag}
end
end Att
namespace L2
open PySem PySem.Spec PyProof.Rows
theorem vals_ints:∀ {vs:List Value} {ns:List Int},IntsAre vs ns→Vals (ns.map V.int) vs
  | _,_,.nil=>.nil
  | _,_,.cons n t h=>.cons ⟨t,rfl⟩ (vals_ints h)
def Only (H:Hp):Prop:=∀ b,H b=none∨∃ o xs,H b=some (.frz o (.lst xs))
theorem law_call {P:Program} {w:World} {K:PySem.W.Frag} {mg mb:Str→Option Value} {CX:CXT} {k:Nat} {fa a:Addr} {fd:FuncData} {x:Str} {sp:Sp} {s₁:Shared} {vs:List Value} {ns:List Int}
    (KX:K.In s₁.heap) (hns:s₁.heap.Ns mainGlobals mg) (hb:s₁.heap.Ns builtinsNs mb) (hbb:∀ x:Str,x ≠ "__name__" → mb x=bootBuiltins x) (hlim:s₁.heap.NoLimit) (hg:s₁.gens=#[])
    (ha:s₁.heap.get? a=some { cls:=.type "list",data:=.seq vs.toArray }) (hi:IntsAre vs ns) (hl:ns.length≤sizeLine) (hr:Room k callerA)
    (F:∀ base:Heap,K.In base→base.Ns mainGlobals mg→FnOk P w K mg base CX k fa fd [x] sp) (hbind:∀ (s:Shared) (u:Value),BindsTo s fd ⟨[u],[]⟩ [(x,u)])
    (hsp:∀ H:Hp,Only H→SqL K H a (ns.map V.int)→sp [.ref a] H (fun v _=>v=.bl true) fun _ _ _=>False)
    (hCX:∀ H e s',CX [] H s₁ (fun _ _ _=>False) e s'→False) :
    codeAny (model P w) callerA (.call (.ref fa) ⟨[.ref a],[]⟩) (fun r s'=>r=.ok (.ret (.bool true))∧OldK s₁.heap s'.heap∧s'.os=s₁.os∧AllBare s'.gens) s₁:=by
  have rv:=vals_ints hi
  have lenV:=hi.length
  have core:∀ H:Hp,Only H→SqL K H a (ns.map V.int)→HOk P w H s₁.heap→(∀ b,H b≠none→b=a)→(H a≠none→K.lookup a=none) →
      codeAny (model P w) callerA (.call (.ref fa) ⟨[.ref a],[]⟩) (fun r s'=>r=.ok (.ret (.bool true))∧OldK s₁.heap s'.heap∧s'.os=s₁.os∧AllBare s'.gens) s₁:=by
    intro H hO hS hok hA hK
    have base_of:∀ {b:Addr} {o:Obj},s₁.heap.get? b=some o→H b=none→(hidT s₁.heap H).get? b=some o:=fun e n=>hidT_get e n
    have noA:∀ {b:Addr} {o:Obj} {es:Array DictEntry} {ep:Nat},s₁.heap.get? b=some o→o.data=.dict es ep→H b=none:=fun {b o es ep} e d=>by
      cases q:H b with
      | none=>rfl
      | some u =>
        have e':b=a:=hA b (by rw [q]; simp)
        subst e'
        rw [ha] at e; cases e
        have d':Data.seq vs.toArray _=Data.dict es ep:=d
        cases d'
    have nsK:∀ {b:Addr} {m:Str→Option Value},s₁.heap.Ns b m→(hidT s₁.heap H).Ns b m:=fun {b m} ⟨o,es,ep,e,d,r⟩=>⟨o,es,ep,base_of e (noA e d),d,r⟩
    have hKb:K.In (hidT s₁.heap H):=fun b o e=>base_of (KX b o e) (by
      cases q:H b with
      | none=>rfl
      | some u =>
        have e':b=a:=hA b (by rw [q]; simp)
        subst e'
        rw [hK (by rw [q]; simp)] at e; cases e)
    have hM:Mod K mg (hidT s₁.heap H):=⟨hKb,nsK hns,⟨mb,nsK hb,hbb⟩,let ⟨mc,h1,h2⟩:=hlim; ⟨mc,nsK h1,h2⟩⟩
    have e0:Env0 P w K mg (hidT s₁.heap H) callerA [] s₁ H:=⟨rfl,hM,fun b o e=>of_hidT e,Nat.le_of_eq (hidT_size _ _),trivial,fun b hb=>absurd (show b∈([]:List Addr) from hb) (by simp),hok,.of_eq hg⟩
    refine codeAny_mono ((F _ hKb (nsK hns)).run callerA [] s₁ H ⟨[.ref a],[]⟩ [.ref a] [.ref a] _ _ hr e0 (hbind s₁ (.ref a)) (.cons rfl .nil) (hsp H hO hS)) fun r s' h=>?_
    cases r with
    | error e=>exact (hCX H e s' h).elim
    | ok fl =>
      cases fl with
      | next=>exact False.elim h
      | brk=>exact False.elim h
      | cont=>exact False.elim h
      | ret u =>
        obtain ⟨v,H',os,bare,un,hok',r',q⟩:=h
        have q':v=.bl true:=q
        subst q'
        obtain rfl:u=Value.bool true:=r'
        refine ⟨rfl,OldK.of_keep fun b o e=>?_,os,bare⟩
        cases q:H b with
        | none=>exact un.keep b o e q (by intro z; exact absurd (show b∈([]:List Addr) from z) (by simp)) (by simp)
        | some u =>
          rcases hO b with z | ⟨ob,xs,z⟩
          · rw [q] at z; cases z
          · have z2:=un.frzs b ob _ z
            obtain ⟨e1,_⟩:=hok b _ z
            obtain ⟨e2,_⟩:=hok' b _ z2
            rw [e] at e1; cases e1
            exact e2
  cases hk:K.lookup a with
  | some o =>
    have e:=KX a o hk
    rw [ha] at e
    cases e
    refine core (fun _=>none) (fun _=>.inl rfl) (.inr ⟨_,vs.toArray,_,hk,rfl,rfl,rfl,by rw [List.size_toArray,lenV]; exact hl,by simpa using rv⟩) (fun b u z=>by have z':(none:Option HO)=some u:=z; cases z') (fun b z=>absurd rfl z) fun z=>absurd rfl z
  | none =>
    refine core (fun b=>if b=a then some (.frz { cls:=.type "list",data:=.seq vs.toArray } (.lst (ns.map V.int))) else none) (fun b=>?_) (.inl (.inr ⟨{ cls:=.type "list",data:=.seq vs.toArray },if_pos rfl⟩)) (fun b u z=>?_) (fun b z=>?_) fun _=>hk
    · by_cases hb:b=a
      · exact .inr ⟨_,_,if_pos hb⟩
      · exact .inl (if_neg hb)
    · by_cases hb:b=a
      · have z':=(if_pos hb).symm.trans z
        cases z'
        subst hb
        exact ⟨ha,by rw [List.length_map]; exact hl,vs,_,rv,ha⟩
      · have z':=(if_neg hb).symm.trans z
        cases z'
    · by_cases hb:b=a
      · exact hb
      · exact absurd (if_neg hb) z
end L2
namespace L2
open PySem PySem.Spec PyProof.Rows
theorem walk_of {l:PySem.W.OpenLaw} {n k:Nat} {q:Program} {loose:List Str} {XP:(Str→Option Value)→Heap→Prop} {YP:World→Heap→Prop} {d:DefRec} {K:Params→PySem.W.Frag} {CX:World→CXT} {sp:World→Sp} {x:Str}
    (hn:l.most=some n) (hn2:n≤sizeLine) (hdf:d.params.defaults=[]) (hr:Room k callerA)
    (hY:∀ (w:World) (h:Heap),YP w h→(K w.params).In h)
    (F:∀ (w:World) (mg:Str→Option Value) (fa:Addr) (h:Heap),(K w.params).In h→h.Ns mainGlobals mg→mg d.name=some (.ref fa) →
      ∃ fd:FuncData,(∀ (s:Shared) (u:Value),BindsTo s fd ⟨[u],[]⟩ [(x,u)]) ∧
        ∀ base:Heap,(K w.params).In base→base.Ns mainGlobals mg→FnOk l.prog w (K w.params) mg base (CX w) k fa fd [x] (sp w))
    (hsp:∀ (w:World) (H:Hp) (a:Addr) (ns:List Int),ns.length≤n→Only H→SqL (K w.params) H a (ns.map V.int)→sp w [.ref a] H (fun v _=>v=.bl true) fun _ _ _=>False)
    (hCX:∀ (w:World) (H:Hp) (s:Shared) (e:Value) (s':Shared),CX w [] H s (fun _ _ _=>False) e s'→False) :
    PySem.W.WalkO q loose XP YP l.row.toRowW d [] (fun f vs=>PySem.call f vs):=by
  refine Att.attach_call hn hdf fun w s₀ s₁ mg mb fa o pm cd doc a vs ns G Y ho hd hcd hmg hobj hints hlen hg=>?_
  have KX:=hY w _ Y
  obtain ⟨fd,hb,hF⟩:=F w mg fa _ KX G.T.g hmg
  exact law_call KX G.T.g G.T.b G.T.builtins G.T.nolimit hg hobj hints (Nat.le_trans hlen hn2) hr hF hb (fun H hO hS=>hsp w H a ns hlen hO hS) fun H e s'=>hCX w H s₁ e s'
theorem walk_ofK {l:PySem.W.OpenLaw} {n k:Nat} {q:Program} {loose:List Str} {XP:(Str→Option Value)→Heap→Prop} {YP:World→Heap→Prop} {d:DefRec} {K:Params→PySem.W.Frag} {CX:CXT} {sp:PySem.W.Frag→Sp} {x:Str}
    (hn:l.most=some n) (hn2:n≤sizeLine) (hdf:d.params.defaults=[]) (hr:Room k callerA)
    (hY:∀ (w:World) (h:Heap),YP w h→(K w.params).In h)
    (F:∀ (w:World) (mg:Str→Option Value) (fa:Addr) (h:Heap),(K w.params).In h→h.Ns mainGlobals mg→mg d.name=some (.ref fa) →
      ∃ fd:FuncData,(∀ (s:Shared) (u:Value),BindsTo s fd ⟨[u],[]⟩ [(x,u)]) ∧
        ∀ base:Heap,(K w.params).In base→base.Ns mainGlobals mg→FnOk l.prog w (K w.params) mg base CX k fa fd [x] (sp (K w.params)))
    (hsp:∀ (K:PySem.W.Frag) (H:Hp) (a:Addr) (ns:List Int),ns.length≤n→Only H→SqL K H a (ns.map V.int)→sp K [.ref a] H (fun v _=>v=.bl true) fun _ _ _=>False)
    (hCX:∀ (H:Hp) (s:Shared) (e:Value) (s':Shared),CX [] H s (fun _ _ _=>False) e s'→False) :
    PySem.W.WalkO q loose XP YP l.row.toRowW d [] (fun f vs=>PySem.call f vs) :=
  walk_of (K:=K) (CX:=fun _=>CX) (sp:=fun w=>sp (K w.params)) hn hn2 hdf hr hY F (fun w H a ns h1 h2 h3=>hsp (K w.params) H a ns h1 h2 h3) fun _ H s e s'=>hCX H s e s'
end L2
/- THE LAST THEOREM (shape; LID,My.* are yours):
   My.Adr: a structure of the addresses that your layer names (classes,functions); My.Txt K t: a structure (Prop) of the equations over K;
   My.txt_mk:{K} {implicit addresses ..} (e1:nsIn K mainGlobals "law" = some (some (.ref f))) (e2:K.lookup f=some ⟨oc,od,.func (fnOf "law" "law" params body scope dV kV doc pm an cdv ct),sl⟩) (e3:codeIn K cdv "law" = true) .. : ∃ t,My.Txt K t
set_option maxRecDepth 100000 in
set_option maxHeartbeats 0 in
theorem PySem.Challenge.cw_LID_holds : PySem.Challenge.rw_LID.Holds := by
  w_on; o_law; k_head; (case hw=>w_witness2)
  k_fill
  refine L2.walk_of (l:=PySem.Challenge.rw_LID) (n:=63) (k:=40) (x := "script") (CX:=fun w=>..) (sp:=fun _=>My.sp_law) rfl (by decide) rfl ⟨rfl,by decide,by decide⟩ (fun w h Y=>PySem.W.kIn_of Y) ?F ?S ?C
  case F =>
    intro w mg fa h KX G hmg
    have T:∃ t,My.Txt (L2.KOf KX) t:=by
      dsimp only [L2.KOf]                          -- K must stand as «<heap const> w.params» for k_is
      refine' My.txt_mk ?e1 ?e2 ?e3 ..
      (case e1=>PySem.W.k_is)                    -- in the order: a name -> its address -> its object -> its parts
      (case e2=>PySem.W.k_is)
      ..
    obtain ⟨t,T⟩:=T
    have e0:=hmg.symm.trans (PySem.W.mg_of KX G T.law)
    cases e0                                       -- fa is the law's own address
    exact ⟨_,fun s u=>.of_eq rfl,fun base kb nb=>My.law_fn T kb nb⟩     -- if «.of_eq rfl» comes too early: refine' ⟨_,?b,fun base kb nb=>My.law_fn T kb nb⟩; exact fun s u=>.of_eq rfl
  case S=>exact fun w H a ns hl hO hS=>..
  case C=>exact ..
(the tactic k_is has no namespace: write k_is) -/
namespace L2
open PySem PySem.Spec PyProof.Rows
def inClass (s:Stmt) (j:Nat):Stmt:=match s with
  | .ClassDef _ _ _ body _ _ _ _ _ _ _=>body.getD j (.Pass ⟨0,0,0,0⟩)
  | _=>.Pass ⟨0,0,0,0⟩
def defArgs (s:Stmt):Arguments:=match s with
  | .FunctionDef _ a _ _ _ _ _ _ _ _=>a
  | _=>{ posonlyargs:=[],args:=[],vararg:=none,kwonlyargs:=[],kw_defaults:=[],kwarg:=none,defaults:=[] }
def defBody (s:Stmt):List Stmt:=match s with
  | .FunctionDef _ _ b _ _ _ _ _ _ _=>b
  | _=>[]
def defScope (s:Stmt):Scope:=match s with
  | .FunctionDef _ _ _ _ _ _ sc _ _ _=>sc
  | _=>{ kind:=.function,names:=[],isGenerator:=false,isCoroutine:=false }
abbrev CX0:CXT:=fun _ _ _ _ _ _=>False
abbrev E0:XK:=fun _ _ _=>False
theorem pass0 {X:Cx}:Passes CX0 X E0:=fun _ _ _ _ _ _ _ h=>h.elim
structure Fun (K:PySem.W.Frag) (x qual:Str) (st:Stmt) (f:Addr) (fd:FuncData):Prop where
  ex:∃ (oc:Value) (od:Option Addr) (kV doc pm:Value) (an:Option Addr) (cdv ct:Value) (osl:Array (Option Value)),
    fd=PySem.W.fnOf x qual (defArgs st) (defBody st) (defScope st) .none kV doc pm an cdv ct∧K.lookup f=some ⟨oc,od,.func fd,osl⟩∧PySem.W.codeIn K cdv qual=true
  kp:PySem.W.keepIn K (.ref f)=true
section
variable {P:Program} {w:World} {K:PySem.W.Frag} {mg:Str→Option Value} {base:Heap}
theorem Fun.ok {x qual:Str} {st:Stmt} {f:Addr} {fd:FuncData} {N ps:List Str} {k:Nat} {sp:Sp} (F:Fun K x qual st f fd) (S:FnScope N ps (defScope st)) (len:∀ vs H Q E,sp vs H Q E→vs.length=ps.length)
    (hbody:∀ (cdv:Value) (A:Around) (outer:List Env) (s:Shared) (H:Hp) (vs:List V) (Q:VK) (E:XK),Room k (A.deeper (envOfC qual (defScope st) s.heap.objs.size f cdv))→sp vs H Q E →
      ∃ t,PSs (cxOf CX0 P w K mg base N qual (defScope st) f cdv A outer s H E).nox (defBody st) t∧t { nx:=fun _ H'=>Q .non H',rt:=Q } (start N vs) H):FnOk P w K mg base CX0 (k+1) f fd ps sp:=by
  obtain ⟨oc,od,kV,doc,pm,an,cdv,ct,osl,rfl,lk,hcd⟩:=F.ex
  refine fn_of lk hcd S len fun A outer s H vs Q E hr hsp=>?_
  obtain ⟨t,h,q⟩:=hbody cdv A outer s H vs Q E hr hsp
  exact ⟨t,h.nox,q⟩
theorem Fun.binds {x qual:Str} {st:Stmt} {f:Addr} {fd:FuncData} {ps:List Str} (F:Fun K x qual st f fd)
    (h:∀ (kV doc pm:Value) (an:Option Addr) (cdv ct:Value) (us:List Value),us.length=ps.length→bindArgs (PySem.W.fnOf x qual (defArgs st) (defBody st) (defScope st) .none kV doc pm an cdv ct) ⟨us,[]⟩=pure (ps.zip us)):Binds K fd ps []:=by
  obtain ⟨oc,od,kV,doc,pm,an,cdv,ct,osl,rfl,lk,hcd⟩:=F.ex
  exact .all (h kV doc pm an cdv ct)
theorem fun_mk {x qual:Str} {st:Stmt} {f:Addr} {oc:Value} {od an:Option Addr} {osl:Array (Option Value)} {kV doc pm cdv ct:Value} (l:K.lookup f=some ⟨oc,od,.func (PySem.W.fnOf x qual (defArgs st) (defBody st) (defScope st) .none kV doc pm an cdv ct),osl⟩)
    (c:PySem.W.codeIn K cdv qual=true) (k:PySem.W.keepIn K (.ref f)=true):Fun K x qual st f (PySem.W.fnOf x qual (defArgs st) (defBody st) (defScope st) .none kV doc pm an cdv ct):=⟨⟨oc,od,kV,doc,pm,an,cdv,ct,osl,rfl,l,c⟩,k⟩
end
theorem small1000 {n:Nat} (h:n≤1000):n<sizeLine:=Nat.lt_of_le_of_lt h (by decide)
section
variable {X:Cx}
theorem pv (i:Nat) {x:Str} {pos:Pos} (hN:X.N[i]?=some x:=by rfl) (hv:Vis X.env.scope x:=by first | exact Or.inl rfl | exact Or.inr (Or.inl rfl) | exact Or.inr (Or.inr rfl)) (hd:(x == ("__debug__" : Str))=false:=by decide)
    (hcd:(x == ("__classdict__" : Str))=false:=by decide):PE X (.Name x pos) (tVar i):=pe_var hN hv hd hcd
end
theorem iteF {A B:Prop} (h:B):if false=true then A else B:=by
  rw [if_neg Bool.false_ne_true]
  exact h
theorem iteT {A B:Prop} (h:A):if true=true then A else B:=by
  rw [if_pos rfl]
  exact h
theorem ite2 {c A B:Prop} [Decidable c] (h1:c→A) (h2:¬ c→B):if c then A else B:=by
  by_cases h:c
  · rw [if_pos h]
    exact h1 h
  · rw [if_neg h]
    exact h2 h
theorem iteNS {c A B:Prop} [Decidable c] (hc:c) (h:B):if (!decide c)=true then A else B:=by
  rw [decide_eq_true hc]
  exact iteF h
def Same (H H':Hp):Prop:=∀ b o,H b=some o→H' b=some o
theorem Same.refl (H:Hp):Same H H:=fun _ _ h=>h
theorem Same.trans {H H1 H2:Hp} (a:Same H H1) (b:Same H1 H2):Same H H2:=fun c o h=>b c o (a c o h)
theorem Same.free {H H':Hp} (e:Same H H') {l:Addr} (h:H' l=Option.none):H l=Option.none:=by
  cases q:H l with
  | none=>rfl
  | some o =>
    rw [e l o q] at h
    cases h
theorem Same.seq {K:PySem.W.Frag} {H H':Hp} {a:Addr} {xs:List V} (e:Same H H') (h:SqL K H a xs):SqL K H' a xs:=by
  rcases h with (h | ⟨o,h⟩) | h
  · exact .inl (.inl (e _ _ h))
  · exact .inl (.inr ⟨o,e _ _ h⟩)
  · exact .inr h
end L2
set_option Elab.async false
set_option linter.all false
set_option maxRecDepth 100000
namespace L2
open PySem PySem.Spec PyProof.Rows
section
variable {κ:Type} [DecidableEq κ]
def valV (kvs:List (κ × V)) (k:κ):Option V:=(kvs.find? fun kv=>decide (kv.1=k)).map (·.2)
def putK (kvs:List (κ × V)) (k:κ) (v:V):List (κ × V) :=
  if (kvs.any fun kv=>decide (kv.1=k))=true then kvs.map (fun kv=>if kv.1=k then (kv.1,v) else kv) else kvs++[(k,v)]
theorem valV_pos {p:κ × V} {r:List (κ × V)} {k:κ} (e:p.1=k):valV (p::r) k=some p.2:=by simp [valV,List.find?_cons,e]
theorem valV_neg {p:κ × V} {r:List (κ × V)} {k:κ} (e:¬ p.1=k):valV (p::r) k=valV r k:=by simp [valV,List.find?_cons,e]
theorem valV_any (k:κ):∀ kvs:List (κ × V),(kvs.any fun kv=>decide (kv.1=k))=(valV kvs k).isSome
  | []=>rfl
  | p::r=>by
    rw [List.any_cons]
    by_cases e:p.1=k
    · simp only [valV_pos e,decide_eq_true e,Bool.true_or,Option.isSome_some]
    · rw [valV_neg e,decide_eq_false e,Bool.false_or]; exact valV_any k r
theorem length_putK (kvs:List (κ × V)) (k:κ) (v:V):(putK kvs k v).length≤kvs.length+1:=by
  unfold putK
  split
  · rw [List.length_map]; omega
  · rw [List.length_append,List.length_cons,List.length_nil]; omega
theorem RelO.isSome_eq {o:Option V} {u:Option Value} (r:RelO o u):o.isSome=u.isSome:=by
  cases o with
  | none=>cases u with
    | none=>rfl
    | some _=>exact (show False from r).elim
  | some _=>cases u with
    | none=>exact (show False from r).elim
    | some _=>rfl
theorem KV.val {kvs:List (κ × V)} {vs:List (κ × Value)} (r:KV kvs vs) (k:κ):RelO (valV kvs k) (valueAt vs k):=by
  unfold KV at r
  induction r with
  | nil=>exact True.intro
  | @cons p q ps qs h t ih =>
    obtain ⟨h1,h2⟩:=h
    by_cases e:p.1=k
    · have e':q.1=k:=h1.symm.trans e
      have b:valueAt (q::qs) k=some q.2:=by simp [valueAt,List.find?_cons,e']
      rw [valV_pos e,b]; exact h2
    · have e':¬ q.1=k:=fun z=>e (h1.trans z)
      have b:valueAt (q::qs) k=valueAt qs k:=by simp [valueAt,List.find?_cons,e']
      rw [valV_neg e,b]; exact ih
theorem KV.any {kvs:List (κ × V)} {vs:List (κ × Value)} (r:KV kvs vs) (k:κ):(kvs.any fun kv=>decide (kv.1=k))=vs.any fun kv=>decide (kv.1=k):=by
  unfold KV at r
  induction r with
  | nil=>rfl
  | cons h t ih=>rw [List.any_cons,List.any_cons,ih,h.1]
theorem KV.repl {kvs:List (κ × V)} {vs:List (κ × Value)} (r:KV kvs vs) (k:κ) {y:V} {u:Value} (ry:RelV y u) :
    KV (kvs.map fun kv=>if kv.1=k then (kv.1,y) else kv) (vs.map fun kv=>if kv.1=k then (kv.1,u) else kv):=by
  unfold KV at r ⊢
  induction r with
  | nil=>exact .nil
  | @cons p q ps qs h t ih =>
    rw [List.map_cons,List.map_cons]
    refine .cons ?_ ih
    obtain ⟨h1,h2⟩:=h
    by_cases e:p.1=k
    · rw [if_pos e,if_pos (h1.symm.trans e)]; exact ⟨h1,ry⟩
    · rw [if_neg e,if_neg (fun z=>e (h1.trans z))]; exact ⟨h1,h2⟩
theorem KV.put {kvs:List (κ × V)} {vs:List (κ × Value)} (r:KV kvs vs) (k:κ) {y:V} {u:Value} (ry:RelV y u):KV (putK kvs k y) (stored vs k u):=by
  unfold putK stored
  rw [r.any k]
  by_cases e:(vs.any fun kv=>decide (kv.1=k))=true
  · rw [if_pos e,if_pos e]; exact r.repl k ry
  · rw [if_neg e,if_neg e]; exact Paired.snoc r ⟨rfl,ry⟩
theorem KV.length {kvs:List (κ × V)} {vs:List (κ × Value)} (r:KV kvs vs):kvs.length=vs.length:=Paired.length r
end
theorem kV_is {P:Program} {w:World} {k:Key} {u:Value} (r:RelV (kV k) u):(mixKind P w).is k u=true:=by
  cases k with
  | inl i=>obtain ⟨t,e⟩:=(show ∃ t,u=Value.int i t from r); subst e; exact mixKind_int P w i t
  | inr x=>obtain ⟨t,e⟩:=(show ∃ t,u=Value.str x t from r); subst e; exact mixKind_str P w x t
theorem items_are {P:Program} {w:World}:∀ {ks:List Key} {us:List Value},Vals (ks.map kV) us→ItemsAre (mixKind P w) ks us
  | [],_,r=>by rw [List.map_nil] at r; cases r; exact .nil
  | k::ks,_,r=>by
    rw [List.map_cons] at r
    cases r with
    | cons h t=>exact .cons (kV_is h) (items_are t)
abbrev KT (H:Hp):List (List Key × V)→List (List Key × Addr × Value)→Prop:=Paired fun p q=>p.1=q.1∧H q.2.1=some (.tup (p.1.map kV))∧RelV p.2 q.2.2
theorem KT.val {H:Hp} {kvs:List (List Key × V)} {xs:List (List Key × Addr × Value)} (r:KT H kvs xs) (k:List Key):RelO (valV kvs k) ((atKey xs k).map (·.2)):=by
  induction r with
  | nil=>exact True.intro
  | @cons p q ps qs h t ih =>
    obtain ⟨h1,_,h2⟩:=h
    by_cases e:p.1=k
    · have e':q.1=k:=h1.symm.trans e
      have b:atKey (q::qs) k=some q.2:=by simp [atKey,List.find?_cons,e']
      rw [valV_pos e,b]; exact h2
    · have e':¬ q.1=k:=fun z=>e (h1.trans z)
      have b:atKey (q::qs) k=atKey qs k:=by simp [atKey,List.find?_cons,e']
      rw [valV_neg e,b]; exact ih
theorem KT.repl {H:Hp} {kvs:List (List Key × V)} {xs:List (List Key × Addr × Value)} (r:KT H kvs xs) (k:List Key) {y:V} {u:Value} (ry:RelV y u) :
    KT H (kvs.map fun kv=>if kv.1=k then (kv.1,y) else kv) (xs.map (putAt k u)):=by
  induction r with
  | nil=>exact .nil
  | @cons p q ps qs h t ih =>
    rw [List.map_cons,List.map_cons]
    refine .cons ?_ ih
    obtain ⟨h1,h2,h3⟩:=h
    unfold putAt
    by_cases e:p.1=k
    · rw [if_pos e,if_pos (h1.symm.trans e)]; exact ⟨h1,h2,ry⟩
    · rw [if_neg e,if_neg (fun z=>e (h1.trans z))]; exact ⟨h1,h2,h3⟩
theorem KT.put {H:Hp} {kvs:List (List Key × V)} {xs:List (List Key × Addr × Value)} (r:KT H kvs xs) (k:List Key) {b:Addr} {y:V} {u:Value} (hb:H b=some (.tup (k.map kV))) (ry:RelV y u) :
    KT H (putK kvs k y) (storedH xs k b u):=by
  have e:(kvs.any fun kv=>decide (kv.1=k))=(atKey xs k).isSome:=by
    rw [valV_any,(r.val k).isSome_eq,Option.isSome_map]
  unfold putK storedH
  rw [e]
  by_cases q:(atKey xs k).isSome=true
  · rw [if_pos q,if_pos q]; exact r.repl k ry
  · rw [if_neg q,if_neg q]; exact Paired.snoc r ⟨rfl,hb,ry⟩
theorem KT.keeps {H H':Hp} {kvs:List (List Key × V)} {xs:List (List Key × Addr × Value)} (r:KT H kvs xs) (ht:∀ b ys,H b=some (.tup ys)→H' b=some (.tup ys)):KT H' kvs xs :=
  Paired.mapP r fun _ _ z=>⟨z.1,ht _ _ z.2.1,z.2.2⟩
section
variable {P:Program} {w:World} {H:Hp} {h:Heap} {a:Addr}
theorem rd_of {u:HO} (ok:HOk P w H h) (e:Rd H a u):ObjOk P w H h a u:=e.ok ok
theorem dk_rd {kvs:List (Key × V)} (ok:HOk P w H h) (e:Rd H a (.dK kvs)):kvs.length≤sizeLine∧(a == sysModules)=false∧∃ vs,KV kvs vs∧h.DictOf (mixKind P w) a vs :=
  show ObjOk P w H h a (.dK kvs) from rd_of ok e
theorem dk_of {kvs:List (Key × V)} (ok:HOk P w H h) (e:H a=some (.dK kvs)):kvs.length≤sizeLine∧(a == sysModules)=false∧∃ vs,KV kvs vs∧h.DictOf (mixKind P w) a vs:=dk_rd ok (.inl e)
theorem key_of {ks:List Key} (ok:HOk P w H h) (e:H a=some (.tup (ks.map kV))):(tupleKind (mixKind P w)).is h ks a:=by
  obtain ⟨_,its,r,o,h1,h2,n,h3⟩:=(show ObjOk P w H h a (.tup (ks.map kV)) from ok a _ e)
  exact ⟨o,its.toArray,n,h1,h2,h3,by simpa using items_are r⟩
theorem dt_rd {kvs:List (List Key × V)} (ok:HOk P w H h) (e:Rd H a (.dT kvs)):kvs.length≤sizeLine∧(a == sysModules)=false ∧
    ∃ xs,KT H kvs xs∧h.DictOfH (tupleKind (mixKind P w)) a xs:=by
  obtain ⟨z,y,xs,r,o,es,ep,h1,h2,h3,h4,h5⟩:=(show ObjOk P w H h a (.dT kvs) from rd_of ok e)
  refine ⟨z,y,xs,r,o,es,ep,h1,h2,h3,h4,fun x hx=>?_,h5⟩
  have all:∀ {l:List (List Key × V)} {m:List (List Key × Addr × Value)},KT H l m→∀ x∈m,(tupleKind (mixKind P w)).is h x.1 x.2.1:=by
    intro l m q
    induction q with
    | nil=>intro x hx; exact nomatch hx
    | @cons p q ps qs hq t ih =>
      intro x hx
      rcases List.mem_cons.mp hx with e | hx
      · subst e
        exact key_of ok (by rw [← hq.1]; exact hq.2.1)
      · exact ih x hx
  exact all r x hx
theorem dt_of {kvs:List (List Key × V)} (ok:HOk P w H h) (e:H a=some (.dT kvs)):kvs.length≤sizeLine∧(a == sysModules)=false ∧
    ∃ xs,KT H kvs xs∧h.DictOfH (tupleKind (mixKind P w)) a xs:=dt_rd ok (.inl e)
end
def DGet (H:Hp) (a:Addr) (y:V) (r:Option V):Prop :=
  (∃ kvs k,Rd H a (.dK kvs)∧y=kV k∧r=valV kvs k)∨∃ kvs k b,Rd H a (.dT kvs)∧y=.ref b∧H b=some (.tup (k.map kV))∧r=valV kvs k
def DPut (H:Hp) (a:Addr) (y v:V) (H':Hp):Prop :=
  (∃ kvs k,H a=some (.dK kvs)∧y=kV k∧kvs.length<sizeLine∧H'=upd H a (.dK (putK kvs k v))) ∨
  ∃ kvs k b,H a=some (.dT kvs)∧y=.ref b∧H b=some (.tup (k.map kV))∧kvs.length<sizeLine∧H'=upd H a (.dT (putK kvs k v))
theorem DGet.k {H:Hp} {a:Addr} {kvs:List (Key × V)} {k:Key} (e:H a=some (.dK kvs)):DGet H a (kV k) (valV kvs k):=.inl ⟨kvs,k,.inl e,rfl,rfl⟩
theorem DPut.k {H:Hp} {a:Addr} {kvs:List (Key × V)} {k:Key} {v:V} (e:H a=some (.dK kvs)) (hl:kvs.length<sizeLine):DPut H a (kV k) v (upd H a (.dK (putK kvs k v))):=.inl ⟨kvs,k,e,rfl,hl,rfl⟩
section
variable {X:Cx} {pins:List (Addr × Obj)} {σ:St} {H:Hp} {s:Shared} {a:Addr} {y v:V} {u r:Value} {o:Option V} {A:Around} {E:Value→Shared→Prop}
theorem Inv.big (I:Inv X pins σ H s):sysModules<s.heap.objs.size:=by
  have h:mainGlobals<s.heap.objs.size:=(I.mod.glob.keeps I.bk).lt
  exact Nat.lt_trans (by decide) h
theorem d_getItem {Q:Value→Shared→Prop} (hu:A.units+1<cLine) (I:Inv X pins σ H s) (g:DGet H a y (some v)) (ry:RelV y u) (h:∀ w' s',Inv X pins σ H s'→RelV v w'→Q w' s') :
    wpAny (model X.prog X.w) A (getItem (.ref a) u) Q E s:=by
  rcases g with ⟨kvs,k,e,ey,l⟩ | ⟨kvs,k,b,e,ey,eb,l⟩
  · subst ey
    obtain ⟨z,hd,vs,rel,dd⟩:=dk_rd I.hok e
    obtain ⟨w',hw,rw'⟩:=RelO.some_of (v:=v) (o:=valueAt vs k) (by rw [l]; exact rel.val k)
    exact wpAny_getItem_of (kV_is ry) dd.mapOf hw (h w' _ (I.tok _) rw')
  · subst ey
    cases (show u=Value.ref b from ry)
    obtain ⟨z,hd,xs,rel,dd⟩:=dt_rd I.hok e
    obtain ⟨w',hw,rw'⟩:=RelO.some_of (v:=v) (o:=(atKey xs k).map (·.2)) (by rw [l]; exact rel.val k)
    obtain ⟨p,hp,hp2⟩:=Option.map_eq_some_iff.mp hw
    refine wpAny_getItem_heap (tupleKind_room_in1 hu) (key_of I.hok eb) dd hp ?_
    rw [hp2]
    exact h w' _ (I.tok _) rw'
theorem d_write {h':Heap} {t':Nat} {ob:HO} (I:Inv X pins σ H s) (mu:Mut (H a)) (hs:Heap.SameBut a s.heap h') (he:∃ q,h'.get? a=some q) (new:ObjOk X.prog X.w (upd H a ob) h' a ob) :
    Inv X pins σ (upd H a ob) { s with heap:=h',toks:=t' } :=
  I.write (x:=a) (e:=a) mu (.inl rfl) (fun b q hb z=>(hs.2 b hb).trans z) he new
theorem dk_new {P:Program} {w:World} {H':Hp} {h':Heap} {kvs:List (Key × V)} {vs:List (Key × Value)} (z:kvs.length≤sizeLine) (hd:(a == sysModules)=false) (rel:KV kvs vs) (dd:h'.DictOf (mixKind P w) a vs) :
    ObjOk P w H' h' a (.dK kvs):=⟨z,hd,vs,rel,dd⟩
theorem d_setItem {H':Hp} {Q:Unit→Shared→Prop} (hu:A.units+1<cLine) (I:Inv X pins σ H s) (g:DPut H a y v H') (ry:RelV y u) (rv:RelV v r) (h:∀ s',Inv X pins σ H' s'→Q () s') :
    wpAny (model X.prog X.w) A (setItem (.ref a) u r) Q E s:=by
  rcases g with ⟨kvs,k,e,ey,l,eH⟩ | ⟨kvs,k,b,e,ey,eb,l,eH⟩
  · subst ey eH
    obtain ⟨z,hd,vs,rel,dd⟩:=dk_of I.hok e
    have hz:vs.length≤sizeLine:=by rw [← rel.length]; exact z
    have hl:(putK kvs k v).length≤sizeLine:=by have:=length_putK kvs k v; omega
    refine wpAny_setItem_pairs (hsz:=hz) (kV_is ry) dd fun h' dd' hs=>h _ ?_
    have he:∃ q,h'.get? a=some q:=let ⟨q,_,_,hq,_⟩:=dd'; ⟨q,hq⟩
    exact d_write I (by rw [e]; exact True.intro) hs he (dk_new hl hd (rel.put k rv) dd')
  · subst ey eH
    cases (show u=Value.ref b from ry)
    obtain ⟨z,hd,xs,rel,dd⟩:=dt_of I.hok e
    have hz:xs.length≤sizeLine:=by rw [← Paired.length rel]; exact z
    have hl:(putK kvs k v).length≤sizeLine:=by have:=length_putK kvs k v; omega
    refine wpAny_setItem_heap (hsz:=hz) (tupleKind_room_in1 hu) (key_of I.hok eb) dd fun h' dd' hs=>h _ ?_
    obtain ⟨q,es,ep,hq,h2,h3,h4,_,h5⟩:=dd'
    refine d_write I (by rw [e]; exact True.intro) hs ⟨q,hq⟩ ⟨hl,hd,_,(rel.put k eb rv).keeps fun c ys ec=>?_,q,es,ep,hq,h2,h3,h4,h5⟩
    rw [upd_ne (ne_of ec e (fun z=>nomatch z))]
    exact ec
end
section
variable {X:Cx} {pins:List (Addr × Obj)} {σ:St} {H:Hp} {s:Shared} {a:Addr} {kvs:List (Key × V)} {k:Key} {u:Value} {A:Around} {E:Value→Shared→Prop}
end
def NoSl (i:Expr):Prop:=∀ ov iv,subscripted i false ov iv=operate [ov,iv] (getItem ov iv)
theorem subD_of {prog:Program} {w:World} {A:Around} {E:Value→Shared→Prop} {s:Shared} {env:Env} {value slice:Expr} {pos:Pos} {T id:String} {Q:Value→Shared→Prop}
    (hl:typeLookup (.type T) "__getitem__" = pure (some (.builtin id))) (hs:NoSl slice)
    (h:wpAny (model prog w) A (eval value env) (fun o s₁=>wpAny (model prog w) A (eval slice env) (fun i s₂=>s₂.TypeIs o T∧wpAny (model prog w) A (getItem o i) Q E s₂) E s₁) E s) :
    wpAny (model prog w) A (eval (.Subscript value slice pos) env) Q E s:=by
  refine Subscript_ (wpAny_mono h (fun o s₁ h₁=>wpAny_mono h₁ (fun i s₂ h₂=>?_) fun _ _ x=>x) fun _ _ x=>x)
  obtain ⟨hT,h₂⟩:=h₂
  unfold subscriptTail
  refine wpAny_bind ?_
  rw [getitemInPython_of_ne hT.not_modules]
  refine wpAny_bind (wpAny_specialOf hT hl ?_)
  have fin:wpAny (model prog w) A (subscripted slice false o i) (fun r s₃=>wpAny (model prog w) A (letTemporaryGo value o r >>= fun _=>pure r) Q E s₃) E s₂:=by
    rw [hs o i]
    exact wpAny_operating (wpAny_mono h₂ (fun r s₃ h₃=>wpAny_bind (wpAny_letTemporaryGo (wpAny_pure h₃))) fun _ _ x=>x)
  first
    | exact wpAny_pure (wpAny_bind fin)
    | exact wpAny_bind (wpAny_pure (wpAny_bind fin))
    | exact wpAny_bind fin
theorem dict_typeIs {X:Cx} {pins:List (Addr × Obj)} {σ:St} {H:Hp} {s:Shared} {a:Addr} {y:V} {o:Option V} (I:Inv X pins σ H s) (g:DGet H a y o):s.TypeIs (.ref a) "dict" := by
  rcases g with ⟨kvs,k,e,_,_⟩ | ⟨kvs,k,b,e,_,_,_⟩
  · obtain ⟨_,_,vs,_,dd⟩:=dk_rd I.hok e
    exact dd.typeIs
  · obtain ⟨_,_,xs,_,dd⟩:=dt_rd I.hok e
    exact dd.typeIs
def tDGet (td ty:TE):TE:=fun σ H Q=>td σ H fun x H1=>ty σ H1 fun y H2=>∃ a v,x=.ref a∧DGet H2 a y (some v)∧Q v H2
def sDPut (td ty tv:TE):TS:=fun D σ H=>tv σ H fun v H1=>td σ H1 fun x H2=>ty σ H2 fun y H3=>∃ a H4,x=.ref a∧DPut H3 a y v H4∧D.nx σ H4
section
variable {X:Cx} {o i e value:Expr} {pos pos' tpos:Pos} {td ty tv:TE}
theorem pe_dget (hu:X.A.units+1<cLine) (ho:PE X o td) (hi:PE X i ty) (hs:NoSl i):PE X (.Subscript o i pos) (tDGet td ty):=by
  intro pins s σ H Q I h
  refine subD_of PySem.F.slot_dict_getitem.lookup hs (thn (ho pins s σ H _ I h) fun u s1 ⟨x,H1,I1,rx,q1⟩=>thn (hi pins s1 σ H1 _ I1 q1) fun iv s2 ⟨y,H2,I2,ry,a,v,ex,g,q2⟩=>?_)
  subst ex
  obtain rfl:u=Value.ref a:=rx
  exact ⟨dict_typeIs I2 g,d_getItem hu I2 g ry fun w' s3 I3 rw'=>⟨v,H2,I3,rw',q2⟩⟩
theorem ps_dput (hu:X.A.units+1<cLine) (ho:PE X o td) (hi:PE X i ty) (hv:PE X value tv) (hs:swapsWith value (some (.Subscript o i pos')) pos.line X.env=pure false) :
    PS X (.Assign [.Subscript o i pos'] value pos) (sDPut td ty tv):=by
  intro pins s σ H D I h
  refine wpAny_Assign_Subscript (thn (hv pins s σ H _ I h) fun r s1 ⟨v,H1,I1,rv,q1⟩=>thn (ho pins s1 σ H1 _ I1 q1) fun u s2 ⟨x,H2,I2,rx,q2⟩=>thn (hi pins s2 σ H2 _ I2 q2) fun iv s3 ⟨y,H3,I3,ry,a,H4,ex,g,q3⟩=>?_) hs
  subst ex
  obtain rfl:u=Value.ref a:=rx
  exact d_setItem hu I3 g ry rv fun s4 I4=>⟨σ,H4,I4,q3⟩
end
theorem dk_empty {P:Program} {w:World} {H:Hp} (h:Heap) (hb:sysModules<h.objs.size):ObjOk P w H (h.push { cls:=.type "dict",data:=.dict #[] }) h.objs.size (.dK []) :=
  ⟨Nat.zero_le _,beq_eq_false_iff_ne.mpr (Ne.symm (Nat.ne_of_lt hb)),[],.nil,Heap.DictOf.new h⟩
section
variable {X:Cx} {pos:Pos}
end
def tPairs:List (TE × TE)→St→Hp→(List (V × V)→Hp→Prop)→Prop
  | [],_,H,Q=>Q [] H
  | (tk,tv)::r,σ,H,Q=>tk σ H fun x H1=>tv σ H1 fun y H2=>tPairs r σ H2 fun ps H3=>Q ((x,y)::ps) H3
abbrev VV:List (V × V)→List (Value × Value)→Prop:=Paired fun p q=>RelV p.1 q.1∧RelV p.2 q.2
def PPs (X:Cx) (pos:Pos) (keys:List (Option Expr)) (values:List Expr) (trs:List (TE × TE)):Prop :=
  ∀ (pins:List (Addr × Obj)) (s:Shared) (σ:St) (H:Hp) (Q:List (V × V)→Hp→Prop),Inv X pins σ H s→tPairs trs σ H Q →
    wpAny (model X.prog X.w) X.A (evalPairs (pairTrees keys values X.env pos)) (fun vs s'=>∃ ps H',Inv X pins σ H' s'∧VV ps vs∧Q ps H') X.xe s
theorem pps_nil {X:Cx} {pos:Pos}:PPs X pos [] [] []:=fun pins s σ H Q I h=>pairTrees_nil_walk ⟨[],H,I,.nil,h⟩
theorem pps_cons {X:Cx} {pos:Pos} {k v:Expr} {ks:List (Option Expr)} {vs:List Expr} {tk tv:TE} {trs:List (TE × TE)} (hk:PE X k tk) (hv:PE X v tv) (hr:PPs X pos ks vs trs) :
    PPs X pos (some k::ks) (v::vs) ((tk,tv)::trs):=fun pins s σ H Q I h =>
  pairTrees_cons_walk (thn (hk pins s σ H _ I h) fun u s1 ⟨x,H1,I1,rx,q1⟩=>thn (hv pins s1 σ H1 _ I1 q1) fun w2 s2 ⟨y,H2,I2,ry,q2⟩ =>
    thn (hr pins s2 σ H2 _ I2 q2) fun ws s3 ⟨ps,H3,I3,rel,q3⟩=>⟨(x,y)::ps,H3,I3,.cons ⟨rx,ry⟩ rel,q3⟩)
def mergeK (kvs more:List (Key × V)):List (Key × V):=more.foldl (fun acc kv=>putK acc kv.1 kv.2) kvs
theorem KV.merge:∀ {more:List (Key × V)} {rs:List (Key × Value)} {kvs:List (Key × V)} {vs:List (Key × Value)},KV more rs→KV kvs vs→KV (mergeK kvs more) (merged vs rs):=by
  intro more rs kvs vs r
  unfold KV at r
  induction r generalizing kvs vs with
  | nil=>intro q; exact q
  | @cons p q ps qs h t ih =>
    intro r0
    have e:KV (putK kvs p.1 p.2) (stored vs q.1 q.2):=by
      have:=r0.put p.1 h.2
      rw [← h.1]; exact this
    exact ih e
theorem length_mergeK:∀ (more kvs:List (Key × V)),(mergeK kvs more).length≤kvs.length+more.length
  | [],kvs=>by show kvs.length≤kvs.length+0; omega
  | p::r,kvs=>by
    have h1:=length_mergeK r (putK kvs p.1 p.2)
    have h2:=length_putK kvs p.1 p.2
    show (mergeK (putK kvs p.1 p.2) r).length≤_
    rw [List.length_cons]; omega
theorem carries_of {P:Program} {w:World}:∀ {kvs:List (Key × V)} {ws:List (Value × Value)},VV (kvs.map fun kv=>(kV kv.1,kv.2)) ws→∃ rs,Carries (mixKind P w) ws rs∧KV kvs rs
  | [],_,r=>by rw [List.map_nil] at r; cases r; exact ⟨[],True.intro,.nil⟩
  | p::kvs,_,r=>by
    rw [List.map_cons] at r
    cases r with
    | @cons a b as bs h t =>
      obtain ⟨rs,c,q⟩:=carries_of (P:=P) (w:=w) t
      obtain ⟨b1,b2⟩:=b
      exact ⟨(p.1,b2)::rs,⟨kV_is h.1,rfl,c⟩,.cons ⟨rfl,h.2⟩ q⟩
def tDisp (trs:List (TE × TE)):TE:=fun σ H Q=>∀ p,H p=none→tPairs trs σ (upd H p (.dK [])) fun ps H2=>H2 p=some (.dK [])∧∃ kvs:List (Key × V),ps=kvs.map (fun kv=>(kV kv.1,kv.2))∧kvs.length≤15∧Q (.ref p) (upd H2 p (.dK (mergeK [] kvs)))
theorem pe_disp {X:Cx} {pos:Pos} {keys:List (Option Expr)} {values:List Expr} {trs:List (TE × TE)} (h:PPs X pos keys values trs) (hall:keys.all (·.isSome)=true) (hl:keys.length=values.length) (h0:keys≠[])
    (h15:keys.length≤15):PE X (.Dict keys values pos) (tDisp trs):=by
  intro pins s σ H Q I q
  have hn:=I.hok.fresh (Nat.le_refl s.heap.objs.size)
  have I1:=I.laid (a:=s.heap.objs.size) (o:=.dK []) (h':=s.heap.push { cls:=.type "dict",data:=.dict #[] }) (t':=s.toks) (fun _ _ q=>Heap.get?_push_of_some _ q) (Nat.le_refl _) (dk_empty s.heap I.big)
  refine wpAny_Dict_walk (knd:=mixKind X.prog X.w) hall hl h0 h15 (thn (h pins _ σ _ _ I1 (q _ hn)) fun ws s2 ⟨ps,H2,I2,rel,e,kvs,ep,lk,q2⟩=>?_)
  subst ep
  obtain ⟨rs,c,rk⟩:=carries_of (P:=X.prog) (w:=X.w) rel
  obtain ⟨z,hd,vs0,r0,dd⟩:=dk_of I2.hok e
  cases r0
  refine ⟨rs,c,dd,fun h' dd' hs=>⟨.ref s.heap.objs.size,_,?_,rfl,q2⟩⟩
  have hz:(mergeK [] kvs).length≤sizeLine:=by
    have h1:=length_mergeK kvs []
    rw [List.length_nil] at h1
    rw [sizeLine_eq]; omega
  have he:∃ q,h'.get? s.heap.objs.size=some q:=let ⟨q,_,_,hq,_⟩:=dd'; ⟨q,hq⟩
  exact d_write I2 (by rw [e]; exact True.intro) hs he (dk_new hz hd (rk.merge .nil) dd')
section
variable {X:Cx} {pins:List (Addr × Obj)} {σ:St} {H:Hp} {s:Shared} {a:Addr} {y d:V} {u r:Value} {o:Option V} {A:Around} {E:Value→Shared→Prop}
end
section
variable {X:Cx} {o e f:Expr} {apos cpos:Pos} {td ty tx:TE}
end
section
variable {X:Cx} {pins:List (Addr × Obj)} {σ:St} {H:Hp} {s:Shared} {a:Addr} {kvs:List (Key × V)} {A:Around} {E:Value→Shared→Prop}
end
section
variable {X:Cx} {pins:List (Addr × Obj)} {σ:St} {H:Hp} {s:Shared} {a:Addr} {y:V} {u:Value} {A:Around} {E:Value→Shared→Prop}
end
end L2
namespace L2
open PySem PySem.Spec PyProof.Rows
section
variable {κ:Type} [DecidableEq κ]
end
end L2
set_option Elab.async false
set_option linter.all false
set_option maxRecDepth 100000
namespace L2
open PySem PySem.Spec PyProof.Rows
abbrev bits (i:Int):Nat:=Builtin.Int.intBits i
def CDivB (i j:Int):Prop:=0<j∧bits j≤9000
theorem log_of_bits {j:Int} {n:Nat} (h:bits j≤n) (hn:0<n):j.natAbs.log2<n:=by
  unfold bits Builtin.Int.intBits at h
  by_cases hj:(j == 0)=true
  · have:j=0:=by simpa using hj
    subst this
    exact Nat.lt_of_le_of_lt (by decide +kernel:(0:Int).natAbs.log2≤0) hn
  · rw [if_neg hj] at h
    omega
section
variable {X:Cx}
theorem op_fdivB:OpR X (binaryOp .FloorDiv) (rI CDivB fun i j=>.int (i / j)):=opI fun i j _ _ _ _ _ hc q=>by
  refine floordiv_int (by have:=hc.1; omega) ?_ (.inl (PyProof.noPylong_of_log2 (log_of_bits hc.2 (by decide))))
  rw [Int.fdiv_eq_ediv_of_nonneg i (by have:=hc.1; omega)]
  exact q
theorem op_mulB:OpR X (binaryOp .Mult) (rI IntMulOk fun i j=>.int (i*j)):=opI fun _ _ _ _ _ _ _ hc q=>mul_int q hc
end
mutual
def Rep (H:Hp):PyData→V→Prop
  | .none,v=>v=.non
  | .bool b,v=>v=.bl b
  | .int i,v=>v=.int i
  | .str x,v=>v=.str x
  | .list ds,v=>∃ a xs,v=.ref a∧H a=some (.lst xs)∧RepL H ds xs
  | .tuple ds,v=>∃ a xs,v=.ref a∧H a=some (.tup xs)∧RepL H ds xs
  | .dict kvs,v=>kvs=[]∧∃ a,v=.ref a∧H a=some (.dK [])
def RepL (H:Hp):List PyData→List V→Prop
  | [],vs=>vs=[]
  | d::ds,vs=>∃ x xs,vs=x::xs∧Rep H d x∧RepL H ds xs
end
mutual
theorem Rep.same {H H':Hp} (e:Same H H'):∀ {d:PyData} {v:V},Rep H d v→Rep H' d v
  | .none,_,h=>h
  | .bool _,_,h=>h
  | .int _,_,h=>h
  | .str _,_,h=>h
  | .list ds,_,h=>by
    unfold Rep at h ⊢
    obtain ⟨a,xs,rfl,h1,h2⟩:=h
    exact ⟨a,xs,rfl,e _ _ h1,RepL.same e h2⟩
  | .tuple ds,_,h=>by
    unfold Rep at h ⊢
    obtain ⟨a,xs,rfl,h1,h2⟩:=h
    exact ⟨a,xs,rfl,e _ _ h1,RepL.same e h2⟩
  | .dict kvs,_,h=>by
    unfold Rep at h ⊢
    obtain ⟨h0,a,rfl,h1⟩:=h
    exact ⟨h0,a,rfl,e _ _ h1⟩
theorem RepL.same {H H':Hp} (e:Same H H'):∀ {ds:List PyData} {vs:List V},RepL H ds vs→RepL H' ds vs
  | [],_,h=>h
  | d::ds,_,h=>by
    unfold RepL at h ⊢
    obtain ⟨x,xs,rfl,h1,h2⟩:=h
    exact ⟨x,xs,rfl,Rep.same e h1,RepL.same e h2⟩
end
theorem Rep.tup {H:Hp} {a:Addr} {xs:List V} {ds:List PyData} (h:H a=some (.tup xs)) (r:RepL H ds xs):Rep H (.tuple ds) (.ref a):=by
  unfold Rep; exact ⟨a,xs,rfl,h,r⟩
theorem Rep.lst {H:Hp} {a:Addr} {xs:List V} {ds:List PyData} (h:H a=some (.lst xs)) (r:RepL H ds xs):Rep H (.list ds) (.ref a):=by
  unfold Rep; exact ⟨a,xs,rfl,h,r⟩
theorem Rep.int {H:Hp} (i:Int):Rep H (.int i) (.int i):=by unfold Rep; rfl
theorem Rep.str {H:Hp} (i:Str):Rep H (.str i) (.str i):=by unfold Rep; rfl
theorem Rep.non {H:Hp}:Rep H .none .non:=by unfold Rep; rfl
theorem RepL.nil {H:Hp}:RepL H [] []:=by unfold RepL; rfl
theorem RepL.cons {H:Hp} {d:PyData} {ds:List PyData} {x:V} {xs:List V} (h:Rep H d x) (hs:RepL H ds xs):RepL H (d::ds) (x::xs):=by
  unfold RepL; exact ⟨x,xs,rfl,h,hs⟩
section
variable {X:Cx} {pins:List (Addr × Obj)} {σ:St} {H:Hp} {s:Shared}
mutual
theorem Rep.reads (I:Inv X pins σ H s):∀ {d:PyData} {v:V} {u:Value},Rep H d v→RelV v u→∃ as,Reads s.heap u d as
  | .none,_,u,h,r=>by
    cases (show _=V.non from h); cases (show u=Value.none from r); exact ⟨_,.none⟩
  | .bool b,_,u,h,r=>by
    cases (show _=V.bl b from h); cases (show u=Value.bool b from r); exact ⟨_,.bool b⟩
  | .int b,_,u,h,r=>by
    cases (show _=V.int b from h); obtain ⟨t,q⟩:=(show ∃ t,u=Value.int b t from r); cases q; exact ⟨_,.int b t⟩
  | .str b,_,u,h,r=>by
    cases (show _=V.str b from h); obtain ⟨t,q⟩:=(show ∃ t,u=Value.str b t from r); cases q; exact ⟨_,.str b t⟩
  | .list ds,v,u,h,r=>by
    unfold Rep at h
    obtain ⟨a,xs,rfl,h1,h2⟩:=h
    cases (show u=Value.ref a from r)
    obtain ⟨_,its,n,r',e⟩:=(show ObjOk X.prog X.w H s.heap a (.lst xs) from I.hok a _ h1)
    obtain ⟨as,q⟩:=RepL.reads I h2 r'
    exact ⟨_,.list e rfl rfl (by simpa using q)⟩
  | .tuple ds,v,u,h,r=>by
    unfold Rep at h
    obtain ⟨a,xs,rfl,h1,h2⟩:=h
    cases (show u=Value.ref a from r)
    obtain ⟨_,its,r',o,e,hc,n,hd⟩:=(show ObjOk X.prog X.w H s.heap a (.tup xs) from I.hok a _ h1)
    obtain ⟨as,q⟩:=RepL.reads I h2 r'
    exact ⟨_,.tuple e hc hd (by simpa using q)⟩
  | .dict kvs,v,u,h,r=>by
    unfold Rep at h
    obtain ⟨rfl,a,rfl,h1⟩:=h
    cases (show u=Value.ref a from r)
    obtain ⟨_,_,vs,kv,o,es,ep,e,hx,hd,_,hes,_⟩:=(show ObjOk X.prog X.w H s.heap a (.dK []) from I.hok a _ h1)
    cases kv
    have he:es.toList=[]:=by
      cases q:es.toList with
      | nil=>rfl
      | cons y ys=>rw [q] at hes; cases hes
    exact ⟨_,.dict e hx.1 hd (by rw [he]; exact .nil) (by rw [he]; exact .nil)⟩
theorem RepL.reads (I:Inv X pins σ H s):∀ {ds:List PyData} {vs:List V} {us:List Value},RepL H ds vs→Vals vs us→∃ as,ReadsAll s.heap us ds as
  | [],_,us,h,r=>by
    cases (show _=[] from h); cases r; exact ⟨_,.nil⟩
  | d::ds,_,us,h,r=>by
    unfold RepL at h
    obtain ⟨x,xs,rfl,h1,h2⟩:=h
    cases r with
    | cons r1 r2 =>
      obtain ⟨as,q1⟩:=Rep.reads I h1 r1
      obtain ⟨bs,q2⟩:=RepL.reads I h2 r2
      exact ⟨_,.cons q1 q2⟩
end
end
section
variable {X:Cx}
theorem call_repr (hg:X.A.guards=some []) (hu:X.A.units+64<cLine):CallR X (.builtin "repr") (fun xs H Q=>∃ x d,xs=[x]∧Rep H d x∧d.showable=true∧d.hasDict=false∧d.depth≤60∧d.shown.length≤sizeLine∧Q (.str d.shown) H):=by
  intro pins s σ H xs us Q I r h
  obtain ⟨x,d,rfl,hr,hs,hnd,hdp,hz,q⟩:=h
  obtain ⟨u,rfl,ru⟩:=vals1 r
  obtain ⟨as,rd⟩:=hr.reads I ru
  cases rd with
  | none=>exact PySem.P.repr_of_none ⟨.str _,H,I.tok _,⟨_,rfl⟩,q⟩
  | bool b=>exact PySem.P.repr_of_bool ⟨.str _,H,I.tok _,⟨_,rfl⟩,q⟩
  | int i t=>exact PySem.P.repr_of_int (by simpa [PyData.showable] using hs) ⟨.str _,H,I.tok _,⟨_,rfl⟩,q⟩
  | str y t=>exact PySem.P.repr_of_str ⟨.str _,H,I.tok _,⟨_,rfl⟩,q⟩ hz
  | list a1 a2 a3 a4=>exact repr_of_reads' (.list a1 a2 a3 a4) hs (PyData.noDict_hsm hnd) hg (by omega) (fun _ _ e=>e) (fun h' u tk hk=>⟨.str _,H,I.kept hk,⟨_,rfl⟩,q⟩) hz
  | tuple a1 a2 a3 a4=>exact repr_of_reads' (.tuple a1 a2 a3 a4) hs (PyData.noDict_hsm hnd) hg (by omega) (fun _ _ e=>e) (fun h' u tk hk=>⟨.str _,H,I.kept hk,⟨_,rfl⟩,q⟩) hz
  | dict a1 a2 a3 a4 a5=>simp [PyData.hasDict] at hnd
end
def tyD:PyData→String
  | .none => "NoneType"
  | .bool _ => "bool"
  | .int _ => "int"
  | .str _ => "str"
  | .list _ => "list"
  | .tuple _ => "tuple"
  | .dict _ => "dict"
theorem Rep.ty {K:PySem.W.Frag} {H:Hp} {d:PyData} {v:V} (h:Rep H d v):TyOf K H v (.type (tyD d)):=by
  cases d with
  | none=>cases (show v=V.non from h); exact .non
  | bool b=>cases (show v=V.bl b from h); exact .bl b
  | int b=>cases (show v=V.int b from h); exact .int b
  | str b=>cases (show v=V.str b from h); exact .str b
  | list ds=>unfold Rep at h; obtain ⟨a,xs,rfl,h1,h2⟩:=h; exact .lst h1
  | tuple ds=>unfold Rep at h; obtain ⟨a,xs,rfl,h1,h2⟩:=h; exact .tup h1
  | dict ds=>unfold Rep at h; obtain ⟨_,a,rfl,h1⟩:=h; exact .dK h1
def isD (T:String) (d:PyData):Bool:=tyD d == T || (T == "int" && tyD d == "bool")
theorem kit_DT : ∀ T ∈ ["int", "bool", "tuple", "str", "list", "dict"], ∀ S ∈ ["NoneType", "bool", "int", "str", "list", "tuple", "dict"],
      PySem.W.kitOne [] (.type S) (.type T)=some (S == T || (T == "int" && S == "bool")):=by decide +kernel
theorem kit_noK (K:PySem.W.Frag) (S T:String):PySem.W.kitOne K (.type S) (.type T)=PySem.W.kitOne [] (.type S) (.type T):=rfl
theorem kit_D (K:PySem.W.Frag) (d:PyData) (T:String) (hT:T = "int" ∨ T = "bool" ∨ T = "tuple" ∨ T = "str" ∨ T = "list" ∨ T = "dict"):PySem.W.kitOne K (.type (tyD d)) (.type T)=some (isD T d):=by
  rw [kit_noK]
  refine kit_DT T ?_ (tyD d) ?_
  · rcases hT with rfl | rfl | rfl | rfl | rfl | rfl <;> decide
  · cases d <;> simp [tyD]
section
variable {X:Cx}
theorem call_isinst:CallR X (.builtin "isinstance") (fun xs H Q=>∃ x d T,xs=[x,.ty T]∧Rep H d x∧(T = "int" ∨ T = "bool" ∨ T = "tuple" ∨ T = "str" ∨ T = "list" ∨ T = "dict")∧Q (.bl (isD T d)) H):=by
  intro pins s σ H xs us Q I r h
  obtain ⟨x,d,T,rfl,hr,hT,q⟩:=h
  obtain ⟨u,w',rfl,r1,r2⟩:=vals2 r
  cases (show w'=Value.type T from r2)
  exact isinst_ok I r1 hr.ty (kit_D _ d T hT) fun tk=>⟨.bl _,H,I.tok _,rfl,q⟩
end
end L2
namespace L2
open PySem PySem.Spec PyProof.Rows
structure FnC (CX:CXT) (P:Program) (w:World) (K:PySem.W.Frag) (mg:Str→Option Value) (base:Heap) (k:Nat) (x:Str) (ps:List Str) (sp:Sp):Prop where
  ex:∃ (f:Addr) (fd:FuncData),FnOk P w K mg base CX k f fd ps sp∧mg x=some (.ref f)∧PySem.W.keepIn K (.ref f)=true∧Binds K fd ps []
section
variable {X:Cx} {k:Nat} {ps:List Str} {sp:Sp} {x:Str} {p pos:Pos} {e:Expr} {es:List Expr} {t:TA}
theorem pe_fn (F:FnC CX0 X.prog X.w X.K X.mg X.base k x ps sp) (hr:Room k X.A) (ha:PA X (e::es) t) (hg:Gl X x:=by rfl)
    (hdb:(x == ("__debug__" : Str))=false:=by decide) (he:starEach (e::es) X.env=(false,eval e X.env)::starEach es X.env:=by rfl) (hpl:(backTo pos (starEach es X.env)).any (·.1)=false:=by rfl) :
    PE X (.Call (.Name x p) (e::es) [] pos) (tCall sp [] E0 t):=by
  obtain ⟨f,fd,h1,h2,h3,h4⟩:=F.ex
  exact pe_call h1 hr hg h2 h3 h4 .nil pass0 ha hdb he hpl
end
section
variable {K:PySem.W.Frag} {H:Hp} {p:Addr} {xs:List V} {i:Int} {v:V} {Q:VK}
theorem ixL (h:H p=some (.lst xs)) (e:atI xs i=some v) (q:Q v H):rIx K (.ref p) (.int i) H Q:=.inl ⟨p,xs,i,v,rfl,rfl,SqL.of h,e,q⟩
theorem ixT (h:H p=some (.tup xs)) (e:atI xs i=some v) (q:Q v H):rIx K (.ref p) (.int i) H Q:=.inr (.inl ⟨p,xs,i,v,rfl,rfl,SqT.of h,e,q⟩)
end
def Hide (p:Addr) (H:Hp):Hp:=fun b=>if b=p then none else H b
theorem Hide.at {p b:Addr} {H:Hp} (h:b≠p):Hide p H b=H b:=by unfold Hide; rw [if_neg h]
theorem Hide.self {p:Addr} {H:Hp}:Hide p H p=none:=by unfold Hide; rw [if_pos rfl]
theorem Hide.same {p:Addr} {H:Hp}:Same (Hide p H) H:=fun b o h=>by
  unfold Hide at h
  by_cases e:b=p
  · rw [if_pos e] at h; cases h
  · rw [if_neg e] at h; exact h
theorem Hide.ne {p b:Addr} {H:Hp} {o:HO} (h:Hide p H b=some o):b≠p:=fun e=>by
  subst e; rw [Hide.self] at h; cases h
theorem Hide.of {p b:Addr} {H:Hp} {o:HO} (n:b≠p) (h:H b=some o):Hide p H b=some o:=by rw [Hide.at n]; exact h
theorem Hide.upd_self {p:Addr} {H:Hp} {o:HO}:Hide p (upd H p o)=Hide p H:=by
  funext b
  by_cases e:b=p
  · subst e; rw [Hide.self,Hide.self]
  · rw [Hide.at e,Hide.at e,L2.upd_ne e]
abbrev SameBut (p:Addr) (H H':Hp):Prop:=Same (Hide p H) (Hide p H')
theorem Same.but {p:Addr} {H H':Hp} (h:Same H H'):SameBut p H H':=fun b o e=>by
  have n:=Hide.ne e
  exact Hide.of n (h _ _ (Hide.same _ _ e))
theorem Same.upd {H:Hp} {q:Addr} {o:HO} (h:H q=none):Same H (upd H q o):=fun b u e=>by
  rw [L2.upd_ne (ne_of_none e h)]; exact e
theorem SameBut.self {p:Addr} {H:Hp} {o:HO}:SameBut p H (upd H p o):=by unfold SameBut; rw [Hide.upd_self]; exact Same.refl _
end L2
namespace L2
open PySem PySem.Spec PyProof.Rows
section
variable {K:PySem.W.Frag} {H:Hp} {p:Addr} {xs:List V} {i:Int} {v:V} {Q:VK}
theorem alT {Q:V→Hp→Prop} (hz:xs.length≤sizeLine) (k:∀ q H',H q=none→H' q=some (.tup xs)→Same H H'→Q (.ref q) H'):xs.length≤sizeLine∧∀ p,H p=none→Q (.ref p) (upd H p (.tup xs)) :=
  ⟨hz,fun q hq=>k q _ hq upd_same (Same.upd hq)⟩
theorem alL {Q:V→Hp→Prop} (hz:xs.length≤sizeLine) (k:∀ q H',H q=none→H' q=some (.lst xs)→Same H H'→Q (.ref q) H'):xs.length≤sizeLine∧∀ p,H p=none→Q (.ref p) (upd H p (.lst xs)) :=
  ⟨hz,fun q hq=>k q _ hq upd_same (Same.upd hq)⟩
theorem SameBut.at {p b:Addr} {H H':Hp} {o:HO} (s:SameBut p H H') (n:b≠p) (h:H b=some o):H' b=some o:=Hide.same _ _ (s _ _ (Hide.of n h))
end
theorem small64 {n:Nat} (h:n≤64):n≤sizeLine:=Nat.le_trans h (by decide)
theorem iteD {c A B:Prop} [Decidable c] (h1:c→A) (h2:¬ c→B):if decide c=true then A else B :=
  ite2 (fun h=>h1 (of_decide_eq_true h)) (fun h=>h2 (fun k=>h (decide_eq_true k)))
theorem iteDN {c A B:Prop} [Decidable c] (h1:¬ c→A) (h2:c→B):if (!decide c)=true then A else B :=
  ite2 (fun h=>h1 (fun k=>by rw [decide_eq_true k] at h; exact absurd h (by decide))) (fun h=>h2 (Decidable.of_not_not fun k=>h (by rw [decide_eq_false k]; rfl)))
end L2
namespace L2
open PySem PySem.Spec PyProof.Rows
def tMono (c:TT):TT:=fun σ H Q=>∃ Q':Bool→Hp→Prop,c σ H Q'∧∀ b H1,Q' b H1→Q b H1
theorem PT.mono {X:Cx} {e:Expr} {c:TT} (h:PT X e c):PT X e (tMono c):=fun pins s σ H Q I ⟨Q',h1,h2⟩ =>
  thn (h pins s σ H Q' I h1) fun b s' ⟨H',I',q⟩=>⟨H',I',h2 _ _ q⟩
theorem ps_whileM {X:Cx} {pos:Pos} {c:Expr} {body:List Stmt} {tc:TT} {tb:TS} (hp:PassesOwn (model X.prog X.w) X.A X.env X.xe) (hc:PT X c tc) (hb:PSs X body tb):PS X (.While c body [] pos) (tWhile (tMono tc) tb) :=
  ps_while hp hc.mono hb
end L2
namespace L2
open PySem PySem.Spec PyProof.Rows
@[irreducible] def rLen (K:PySem.W.Frag):List V→Hp→VK→Prop:=fun xs H Q=>∃ x n,xs=[x]∧LenV K x H n∧Q (.int n) H
@[irreducible] def rAbs:List V→Hp→VK→Prop:=fun xs H Q=>∃ i,xs=[.int i]∧Q (.int (i.natAbs:Int)) H
@[irreducible] def rIsi:List V→Hp→VK→Prop:=fun xs H Q=>∃ x d T,xs=[x,.ty T]∧Rep H d x∧(T = "int" ∨ T = "bool" ∨ T = "tuple" ∨ T = "str" ∨ T = "list" ∨ T = "dict")∧Q (.bl (isD T d)) H
@[irreducible] def rRepr:List V→Hp→VK→Prop:=fun xs H Q=>∃ x d,xs=[x]∧Rep H d x∧d.showable=true∧d.hasDict=false∧d.depth≤60∧d.shown.length≤sizeLine∧Q (.str d.shown) H
section
variable {X:Cx} {K:PySem.W.Frag} {H:Hp} {p:Addr} {xs:List V} {Q:VK}
theorem cl_len:CallR X (.builtin "len") (rLen X.K):=by unfold rLen; exact call_len
theorem cl_abs:CallR X (.builtin "abs") rAbs:=by
  unfold rAbs
  exact fun pins s σ H xs us Q I r ⟨i,e,q⟩=>call_abs pins s σ H xs us Q I r ⟨i,e,by
  have:(if i<0 then -i else i)=(i.natAbs:Int):=by split <;> omega
  rw [this]; exact q⟩
theorem cl_isi:CallR X (.builtin "isinstance") rIsi:=by unfold rIsi; exact call_isinst
theorem cl_repr (hg:X.A.guards=some []) (hu:X.A.units+64<cLine):CallR X (.builtin "repr") rRepr:=by unfold rRepr; exact call_repr hg hu
theorem rlL (h:H p=some (.lst xs)) (q:Q (.int xs.length) H):rLen K [V.ref p] H Q:=by unfold rLen; exact ⟨_,_,rfl,.inl ⟨xs,SqL.of h,rfl⟩,q⟩
theorem rlT (h:H p=some (.tup xs)) (q:Q (.int xs.length) H):rLen K [V.ref p] H Q:=by unfold rLen; exact ⟨_,_,rfl,.inr ⟨xs,SqT.of h,rfl⟩,q⟩
theorem raI {i:Int} (q:Q (.int (i.natAbs:Int)) H):rAbs [V.int i] H Q:=by unfold rAbs; exact ⟨i,rfl,q⟩
theorem rrI {x:V} {d:PyData} (r:Rep H d x) (h1:d.showable=true) (h2:d.hasDict=false) (h3:d.depth≤60) (h4:d.shown.length≤sizeLine) (q:Q (.str d.shown) H):rRepr [x] H Q:=by unfold rRepr; exact ⟨x,d,rfl,r,h1,h2,h3,h4,q⟩
theorem riI {x:V} {d:PyData} {T:String} (r:Rep H d x) (q:Q (.bl (isD T d)) H) (hT:(T = "int" ∨ T = "bool" ∨ T = "tuple" ∨ T = "str" ∨ T = "list" ∨ T = "dict"):=by decide):rIsi [x,.ty T] H Q:=by unfold rIsi; exact ⟨x,d,T,rfl,r,hT,q⟩
end
end L2
namespace L2
open PySem PySem.Spec PyProof.Rows
theorem while_r {c:TT} {tb:TS} {D:Ends} {σ:St} {H:Hp} (W:Nat→St→Hp→Prop) (R:St→Hp→Prop) (m:Nat) (h0:W m σ H)
    (hs:∀ m σ H,W m σ H→c σ H fun b H1=>if b=true then tb { D with nx:=fun σ' H'=>∃ m',m' < m∧W m' σ' H',ct:=fun σ' H'=>∃ m',m' < m∧W m' σ' H',bk:=D.nx } σ H1 else R σ H1)
    (hd:∀ σ H,R σ H→D.nx σ H):tWhile (tMono c) tb D σ H :=
  ⟨W,⟨m,h0⟩,fun m σ H hw=>⟨_,hs m σ H hw,fun b H1 q=>by
    by_cases hb:b=true
    · rw [if_pos hb] at q ⊢
      exact ⟨_,fun _ _ h=>h,q⟩
    · rw [if_neg hb] at q ⊢
      exact hd _ _ q⟩⟩
end L2
namespace L2
open PySem PySem.Spec PyProof.Rows
def tCut (t:TS):TS:=fun D σ H=>∃ R:St→Hp→Prop,(∀ σ' H',R σ' H'→D.nx σ' H')∧t { D with nx:=R } σ H
theorem ps_cut {X:Cx} {st:Stmt} {t:TS} (h:PS X st t):PS X st (tCut t):=fun pins s σ H D I ⟨R,hR,q⟩ =>
  thn (h pins s σ H _ I q) fun f s' z=>by
    cases f with
    | next=>obtain ⟨σ',H',I',r⟩:=z; exact ⟨σ',H',I',hR _ _ r⟩
    | brk=>exact z
    | cont=>exact z
    | ret u=>exact z
end L2
namespace L2
open PySem PySem.Spec PyProof.Rows
section
variable {es:List Expr} {env:Env}
theorem se_BinOp {a b c d}:starEach (.BinOp a b c d::es) env=(false,eval (.BinOp a b c d) env)::starEach es env:=by rw [starEach] <;> (intros; contradiction)
theorem se_ListComp {a b c d}:starEach (.ListComp a b c d::es) env=(false,eval (.ListComp a b c d) env)::starEach es env:=by rw [starEach] <;> (intros; contradiction)
theorem se_Compare {a b c d}:starEach (.Compare a b c d::es) env=(false,eval (.Compare a b c d) env)::starEach es env:=by rw [starEach] <;> (intros; contradiction)
theorem se_Call {a b c d}:starEach (.Call a b c d::es) env=(false,eval (.Call a b c d) env)::starEach es env:=by rw [starEach] <;> (intros; contradiction)
theorem se_Constant {a b c}:starEach (.Constant a b c::es) env=(false,eval (.Constant a b c) env)::starEach es env:=by rw [starEach] <;> (intros; contradiction)
theorem se_Subscript {a b c}:starEach (.Subscript a b c::es) env=(false,eval (.Subscript a b c) env)::starEach es env:=by rw [starEach] <;> (intros; contradiction)
theorem se_Name {a b}:starEach (.Name a b::es) env=(false,eval (.Name a b) env)::starEach es env:=by rw [starEach] <;> (intros; contradiction)
theorem se_List {a b}:starEach (.List a b::es) env=(false,eval (.List a b) env)::starEach es env:=by rw [starEach] <;> (intros; contradiction)
theorem se_Tuple {a b c}:starEach (.Tuple a b c::es) env=(false,eval (.Tuple a b c) env)::starEach es env:=by rw [starEach] <;> (intros; contradiction)
end
section
variable {X:Cx} {k:Nat} {ps:List Str} {sp:Sp} {x:Str} {p pos:Pos} {e:Expr} {es:List Expr} {te:TE} {t:TA} {id T:String} {r:List V→Hp→VK→Prop}
theorem ap_nil {env:Env}:(backTo pos (starEach [] env)).any (·.1)=false:=rfl
theorem ap_cons {env:Env} (hs:starEach (e::es) env=(false,eval e env)::starEach es env) (h:(backTo pos (starEach es env)).any (·.1)=false):(backTo pos (starEach (e::es) env)).any (·.1)=false:=by
  rw [hs]
  show (false || (backTo pos (starEach es env)).any (·.1))=false
  rw [h]; rfl
end
end L2
set_option Elab.async false
set_option linter.all false
set_option maxRecDepth 100000
namespace L2
open PySem PySem.Spec PyProof.Rows
structure PEw (X:Cx) (e:Expr) (t:TE):Prop where p:PE X e t
structure PTw (X:Cx) (e:Expr) (t:TT):Prop where p:PT X e t
structure PWw (X:Cx) (e:Expr) (t:TT):Prop where p:PW X e t
structure PAw (X:Cx) (es:List Expr) (t:TA):Prop where p:PA X es t
structure PSw (X:Cx) (st:Stmt) (t:TS):Prop where p:PS X st t
structure PSsw (X:Cx) (st:List Stmt) (t:TS):Prop where p:PSs X st t
structure PGw (X:Cx) (e:Expr) (t:TG):Prop where p:PG X e t
structure PGsw (X:Cx) (es:List Expr) (t:TGs):Prop where p:PGs X es t
structure PIw (X:Cx) (tg iter:Expr) (t:TI):Prop where p:PI X tg iter t
structure POw (X:Cx) (e:Option Expr) (t:TO):Prop where p:PO X e t
@[irreducible] def rNewT (xs:List V) (H:Hp) (Q:VK):Prop:=xs.length≤sizeLine∧∀ p,H p=none→Q (.ref p) (upd H p (.tup xs))
@[irreducible] def rNewL (xs:List V) (H:Hp) (Q:VK):Prop:=xs.length≤sizeLine∧∀ p,H p=none→Q (.ref p) (upd H p (.lst xs))
theorem nwT {xs:List V} {H:Hp} {Q:VK} (hz:xs.length≤64) (k:∀ q H',H q=none→H' q=some (.tup xs)→Same H H'→Q (.ref q) H'):rNewT xs H Q:=by unfold rNewT; exact alT (small64 hz) k
theorem nwL {xs:List V} {H:Hp} {Q:VK} (hz:xs.length≤64) (k:∀ q H',H q=none→H' q=some (.lst xs)→Same H H'→Q (.ref q) H'):rNewL xs H Q:=by unfold rNewL; exact alL (small64 hz) k
def tTu (t:TA):TE:=fun σ H Q=>t σ H fun xs H1=>rNewT xs H1 Q
def tLs (t:TA):TE:=fun σ H Q=>t σ H fun xs H1=>rNewL xs H1 Q
section
variable {X:Cx} {a b c e o tg:Expr} {es rest:List Expr} {ta tb tc te to:TE} {tA tB':TT} {t:TA} {pos p p2:Pos} {st:Stmt} {sts body orelse:List Stmt} {ts us:TS} {x:Str} {r r':R2} {id T:String} {rl:List V→Hp→VK→Prop} {k i j:Nat} {ps:List Str} {sp:Sp} {n:Nat}
theorem we_v (i:Nat) {x:Str} {pos:Pos} (hN:X.N[i]?=some x:=by rfl) (hv:Vis X.env.scope x:=by first | exact Or.inl rfl | exact Or.inr (Or.inl rfl) | exact Or.inr (Or.inr rfl)) (hd:(x == ("__debug__" : Str))=false:=by decide)
    (hcd:(x == ("__classdict__" : Str))=false:=by decide):PEw X (.Name x pos) (tVar i):=⟨pv i hN hv hd hcd⟩
theorem we_int {i j pos}:PEw X (.Constant (.int i) j pos) (tC (.int i)):=⟨pe_int⟩
theorem we_bl {b j pos}:PEw X (.Constant (.bool b) j pos) (tC (.bl b)):=⟨pe_bl⟩
theorem we_non {j pos}:PEw X (.Constant .none j pos) (tC .non):=⟨pe_non⟩
theorem we_str {x j pos}:PEw X (.Constant (.str x) j pos) (tC (.str x)):=⟨pe_str⟩
theorem we_glob {v:V} {u:Value} (hg:Gl X x) (hm:X.mg x=some u) (r:RelV v u) (hd:(x == ("__debug__" : Str))=false:=by decide):PEw X (.Name x pos) (tC v):=⟨pe_glob hg hm r hd⟩
theorem we_bltn {v:V} {u:Value} (hg:Gl X x) (hm:X.mg x=none) (hv:bootBuiltins x=some u) (r:RelV v u) (hn:x ≠ "__name__" := by decide) (hd:(x == ("__debug__" : Str))=false:=by decide):PEw X (.Name x pos) (tC v):=⟨pe_bltn hg hm hv r hn hd⟩
theorem we_op {op:Operator} (ho:OpR X (binaryOp op) r) (ha:PEw X a ta) (hb:PEw X b tb):PEw X (.BinOp a op b pos) (tOp r ta tb):=⟨pe_op ho ha.p hb.p⟩
theorem we_un {op:UnaryOp} {r:V→Hp→VK→Prop} (ho:UnR X (unaryOp op) r) (ha:PEw X a ta):PEw X (.UnaryOp op a pos) (tUn r ta):=⟨pe_un ho ha.p⟩
theorem we_cmp {op:CmpOp} (ho:OpR X (compareOp op) r) (ha:PEw X a ta) (hb:PEw X b tb) (hm:behindInMarks op b=false):PEw X (.Compare a [op] [b] pos) (tOp r ta tb):=⟨pe_cmpR ho ha.p hb.p hm⟩
theorem wt_cmp {op:CmpOp} (ho:OpR X (compareOp op) r) (ha:PEw X a ta) (hb:PEw X b tb) (hm:behindInMarks op b=false):PTw X (.Compare a [op] [b] pos) (tTest (tOp r ta tb)):=⟨pt_cmpR ho ha.p hb.p hm⟩
theorem we_chain {op op':CmpOp} (ho:OpR X (compareOp op) r) (ho':OpR X (compareOp op') r') (ha:PEw X a ta) (hb:PEw X b tb) (hc:PEw X c tc)
    (hm:lastMarks [op,op'] [b,c]=false:=by with_unfolding_all rfl):PEw X (.Compare a [op,op'] [b,c] pos) (tChain r r' ta tb tc):=⟨pe_chain ho ho' ha.p hb.p hc.p hm⟩
theorem wt_val (h:PEw X e te) (he:∀ whole,isTrue e X.env whole=(do let v ← whole; standAt e.pos; holding [v] (truthy v)):=by intro _; rfl):PTw X e (tB te):=⟨pt_val h.p he⟩
theorem ww_and1 (ha:PTw X a tA):PWw X (.BoolOp .And [a] pos) tA:=⟨pw_and1 ha.p⟩
theorem ww_or1 (ha:PTw X a tA):PWw X (.BoolOp .Or [a] pos) tA:=⟨pw_or1 ha.p⟩
theorem ww_and (ha:PTw X a tA) (hb:PWw X (.BoolOp .And (b::rest) pos) tB'):PWw X (.BoolOp .And (a::b::rest) pos) (tAnd tA tB'):=⟨pw_and ha.p hb.p⟩
theorem ww_or (ha:PTw X a tA) (hb:PWw X (.BoolOp .Or (b::rest) pos) tB'):PWw X (.BoolOp .Or (a::b::rest) pos) (tOr tA tB'):=⟨pw_or ha.p hb.p⟩
theorem wt_w (h:PWw X e tA):PTw X e tA:=⟨h.p.pt⟩
theorem wt_not (ha:PTw X a tA):PTw X (.UnaryOp .Not a pos) (tNot tA):=⟨pt_not ha.p⟩
theorem we_one {op} (h:PEw X a ta):PEw X (.BoolOp op [a] pos) ta:=⟨pe_one h.p⟩
theorem we_and (ha:PEw X a ta) (hb:PEw X (.BoolOp .And (b::rest) pos) tb):PEw X (.BoolOp .And (a::b::rest) pos) (tAndV ta tb):=⟨pe_and ha.p hb.p⟩
theorem we_not (ha:PEw X a ta):PEw X (.UnaryOp .Not a pos) (tNotV ta):=⟨pe_not ha.p⟩
theorem we_ifExp (hc:PTw X c tA) (ha:PEw X a ta) (hb:PEw X b tb):PEw X (.IfExp c a b pos) (tIf tA ta tb):=⟨pe_ifExp hc.p ha.p hb.p⟩
theorem wa_nil:PAw X [] tNil:=⟨pa_nil⟩
theorem wa_k (ha:PEw X e te) (hr:PAw X es t) (hs:starEach (e::es) X.env=(false,eval e X.env)::starEach es X.env:=by first | exact se_Name | exact se_Constant | exact se_BoolOp | exact se_BinOp | exact se_UnaryOp | exact se_IfExp | exact se_Dict | exact se_ListComp | exact se_Compare | exact se_Call | exact se_Attribute | exact se_Subscript | exact se_List | exact se_Tuple | exact se_JoinedStr | exact se_GeneratorExp):PAw X (e::es) (tCons te t):=⟨pa_cons ha.p hr.p hs⟩
theorem we_tup {x1} (h:PAw X es t):PEw X (.Tuple es x1 pos) (tTu t):=⟨by unfold tTu rNewT; exact pe_tup h.p⟩
theorem we_lst (h:PAw X es t):PEw X (.List es pos) (tLs t):=⟨by unfold tLs rNewL; exact pe_lst h.p⟩
theorem we_ix (hr:IxR X r) (ha:PEw X a ta) (hb:PEw X b tb) (hs:PlainIx b):PEw X (.Subscript a b pos) (tOp r ta tb):=⟨pe_ix hr ha.p hb.p hs⟩
theorem wo_none:POw X none tNoPart:=⟨po_none⟩
theorem wo_some (h:PEw X e te):POw X (some e) (tPart te):=⟨po_some h.p⟩
theorem we_slice {lo hi:Option Expr} {tl th:TO} {r:V→Option Int→Option Int→Hp→VK→Prop} (hr:SlR X r) (he:PEw X e te) (hl:POw X lo tl) (hu:POw X hi th):PEw X (.Subscript e (.Slice lo hi none p2) pos) (tSl r te tl th):=⟨pe_slice hr he.p hl.p hu.p⟩
theorem we_fn (F:FnC CX0 X.prog X.w X.K X.mg X.base k x ps sp) (hr:Room k X.A) (ha:PAw X (e::es) t) (hg:Gl X x:=by rfl)
    (hdb:(x == ("__debug__" : Str))=false:=by decide) (he:starEach (e::es) X.env=(false,eval e X.env)::starEach es X.env:=by first | exact se_Name | exact se_Constant | exact se_BoolOp | exact se_BinOp | exact se_UnaryOp | exact se_IfExp | exact se_Dict | exact se_ListComp | exact se_Compare | exact se_Call | exact se_Attribute | exact se_Subscript | exact se_List | exact se_Tuple | exact se_JoinedStr | exact se_GeneratorExp)
    (hpl:(backTo pos (starEach es X.env)).any (·.1)=false:=by repeat (first | exact ap_nil | refine ap_cons (by first | exact se_Name | exact se_Constant | exact se_BoolOp | exact se_BinOp | exact se_UnaryOp | exact se_IfExp | exact se_Dict | exact se_ListComp | exact se_Compare | exact se_Call | exact se_Attribute | exact se_Subscript | exact se_List | exact se_Tuple | exact se_JoinedStr | exact se_GeneratorExp) ?_)) :
    PEw X (.Call (.Name x p) (e::es) [] pos) (tCall sp [] E0 t):=⟨pe_fn F hr ha.p hg hdb he hpl⟩
theorem we_cB (hc:CallR X (.builtin id) rl) (hg:Gl X x) (hm:X.mg x=none) (hv:bootBuiltins x=some (.builtin id)) (ha:PAw X (e::es) t) (hn:x ≠ "__name__" := by decide) (hdb:(x == ("__debug__" : Str))=false:=by decide)
    (he:starEach (e::es) X.env=(false,eval e X.env)::starEach es X.env:=by first | exact se_Name | exact se_Constant | exact se_BoolOp | exact se_BinOp | exact se_UnaryOp | exact se_IfExp | exact se_Dict | exact se_ListComp | exact se_Compare | exact se_Call | exact se_Attribute | exact se_Subscript | exact se_List | exact se_Tuple | exact se_JoinedStr | exact se_GeneratorExp) (hpl:(backTo pos (starEach es X.env)).any (·.1)=false:=by repeat (first | exact ap_nil | refine ap_cons (by first | exact se_Name | exact se_Constant | exact se_BoolOp | exact se_BinOp | exact se_UnaryOp | exact se_IfExp | exact se_Dict | exact se_ListComp | exact se_Compare | exact se_Call | exact se_Attribute | exact se_Subscript | exact se_List | exact se_Tuple | exact se_JoinedStr | exact se_GeneratorExp) ?_)):PEw X (.Call (.Name x p) (e::es) [] pos) (tCB rl t) :=
  ⟨pe_callB hc hg hm hv ha.p hn hdb he hpl⟩
theorem we_cT (hc:CallR X (.type T) rl) (hg:Gl X x) (hm:X.mg x=none) (hv:bootBuiltins x=some (.type T)) (ha:PAw X (e::es) t) (hn:x ≠ "__name__" := by decide) (hdb:(x == ("__debug__" : Str))=false:=by decide)
    (he:starEach (e::es) X.env=(false,eval e X.env)::starEach es X.env:=by first | exact se_Name | exact se_Constant | exact se_BoolOp | exact se_BinOp | exact se_UnaryOp | exact se_IfExp | exact se_Dict | exact se_ListComp | exact se_Compare | exact se_Call | exact se_Attribute | exact se_Subscript | exact se_List | exact se_Tuple | exact se_JoinedStr | exact se_GeneratorExp) (hpl:(backTo pos (starEach es X.env)).any (·.1)=false:=by repeat (first | exact ap_nil | refine ap_cons (by first | exact se_Name | exact se_Constant | exact se_BoolOp | exact se_BinOp | exact se_UnaryOp | exact se_IfExp | exact se_Dict | exact se_ListComp | exact se_Compare | exact se_Call | exact se_Attribute | exact se_Subscript | exact se_List | exact se_Tuple | exact se_JoinedStr | exact se_GeneratorExp) ?_)):PEw X (.Call (.Name x p) (e::es) [] pos) (tCB rl t) :=
  ⟨pe_callTy hc hg hm hv ha.p hn hdb he hpl⟩
theorem we_bm {name:Str} {apos cpos:Pos} {r:V→List V→Hp→VK→Prop} (pa:PlainAttrs T) (slot:Slot T name id) (hty:typeOf (.builtin id)=pure (.type "method_descriptor")) (hm:MtR X id r) (ho:PEw X o to) (ha:PAw X (e::es) t)
    (hbase:attributeBase o name X.env (eval o X.env)=eval o X.env:=by rfl)
    (hfew:((backTo cpos (starEach (e::es) X.env)).all (fun x=>!x.1)&&(backToKw cpos (keywordEach [] X.env)).all (fun x=>x.1.isSome)
      && decide ((e::es).length+([]:List Keyword).length+(if ([]:List Keyword).isEmpty then 0 else 1)<30))=true:=by rfl)
    (hline:(apos.endLine == cpos.line)=true:=by rfl) (hs:starEach (e::es) X.env=(false,eval e X.env)::starEach es X.env:=by first | exact se_Name | exact se_Constant | exact se_BoolOp | exact se_BinOp | exact se_UnaryOp | exact se_IfExp | exact se_Dict | exact se_ListComp | exact se_Compare | exact se_Call | exact se_Attribute | exact se_Subscript | exact se_List | exact se_Tuple | exact se_JoinedStr | exact se_GeneratorExp) (hplain:(backTo cpos (starEach es X.env)).any (·.1)=false:=by repeat (first | exact ap_nil | refine ap_cons (by first | exact se_Name | exact se_Constant | exact se_BoolOp | exact se_BinOp | exact se_UnaryOp | exact se_IfExp | exact se_Dict | exact se_ListComp | exact se_Compare | exact se_Call | exact se_Attribute | exact se_Subscript | exact se_List | exact se_Tuple | exact se_JoinedStr | exact se_GeneratorExp) ?_)) :
    PEw X (.Call (.Attribute o name apos) (e::es) [] cpos) (tBM X.K T r to t):=⟨pe_bm pa slot hty hm ho.p ha.p hbase hfew hline hs hplain⟩
theorem wss_nil:PSsw X [] tNext:=⟨pss_nil⟩
theorem wss_cons (h1:PSw X st ts) (h2:PSsw X sts us):PSsw X (st::sts) (tSeq ts us):=⟨pss_cons h1.p h2.p⟩
theorem wss_one (h1:PSw X st ts):PSsw X [st] ts:=⟨pss_one h1.p⟩
theorem ws_expr (he:PEw X e te) (hs:swapsWith e none pos.line X.env=pure false:=by rfl):PSw X (.Expr e pos) (tDrop te):=⟨ps_expr he.p hs⟩
theorem ws_ret (he:PEw X e te):PSw X (.Return (some e) pos) (tRet te):=⟨ps_ret he.p⟩
theorem ws_if {c:Expr} {a b:List Stmt} (hc:PTw X c tA) (ha:PSsw X a ts) (hb:PSsw X b us):PSw X (.If c a b pos) (tIfS tA ts us):=⟨ps_if hc.p ha.p hb.p⟩
theorem ws_cut (h:PSw X st ts):PSw X st (tCut ts):=⟨ps_cut h.p⟩
theorem wg_name {i:Nat} {x:Str} (hN:X.N.Nodup) (hi:X.N[i]?=some x) (hx:Loc X.env.scope x) (hf:X.fn x=true∨X.env.scope.names.lookup x=some .local:=by first | exact .inl rfl | exact .inr rfl | assumption):PGw X (.Name x pos) (gName i):=⟨pg_name hN hi hx hf⟩
theorem wgs_nil:PGsw X [] gNil:=⟨pgs_nil⟩
theorem wgs_cons {t:TG} {u:TGs} (h1:PGw X e t) (h2:PGsw X es u)
    (hs:(assignEach (e::es) X.env).map (·.2)=assign e X.env::(assignEach es X.env).map (·.2):=by rfl):PGsw X (e::es) (gCons t u):=⟨pgs_cons h1.p h2.p hs⟩
theorem wg_tup {k:Nat} {t:TGs} {n:Nat} (hc:X.calm=true) (h:PGsw X es t)
    (hn:(assignEach es X.env).length=n:=by rfl) (hst:(assignEach es X.env).findIdx? (·.1)=none:=by rfl):PGw X (.Tuple es k pos) (gTup X.K n t):=⟨pg_tup hc h.p hn hst⟩
theorem ws_set {i:Nat} {pos':Pos} (hN:X.N.Nodup) (hi:X.N[i]?=some x) (hx:Loc X.env.scope x) (he:PEw X e te) (hs:swapsWith e (some (.Name x pos')) pos.line X.env=pure false:=by rfl) (hf:X.fn x=true∨X.env.scope.names.lookup x=some .local:=by first | exact .inl rfl | exact .inr rfl | assumption) :
    PSw X (.Assign [.Name x pos'] e pos) (tAsg te (gName i)):=⟨ps_set hN hi hx he.p hs hf⟩
theorem ws_par {i j:Nat} {x y:Str} {ta:TA} {px py pt:Pos} {kt k2 pt2} (hc:X.calm=true) (hN:X.N.Nodup) (hi:X.N[i]?=some x) (hj:X.N[j]?=some y) (hij:i≠j)
    (hx:X.env.scope.names.lookup x=some .local) (hy:X.env.scope.names.lookup y=some .local) (ha:PAw X [a,b] ta)
    (hw:swappedStores [.Tuple [.Name x px,.Name y py] kt pt] (.Tuple [a,b] k2 pt2) X.env=pure (some [x,y]))
    (hs:swapsWithSole [.Tuple [.Name x px,.Name y py] kt pt] (.Tuple [a,b] k2 pt2) pos.line X.env=pure false:=by rfl) :
    PSw X (.Assign [.Tuple [.Name x px,.Name y py] kt pt] (.Tuple [a,b] k2 pt2) pos) (tPar i j ta):=⟨ps_par hc hN hi hj hij hx hy ha.p hw hs⟩
theorem ws_while {c:Expr} {tc:TT} {tb:TS} (hp:PassesOwn (model X.prog X.w) X.A X.env X.xe) (hc:PTw X c tc) (hb:PSsw X body tb):PSw X (.While c body [] pos) (tWhile (tMono tc) tb):=⟨ps_whileM hp hc.p hb.p⟩
theorem wi_list {l:Expr} {tl:TE} (hl:PEw X l tl):PIw X tg l (iList X.K tl):=⟨pi_list hl.p⟩
theorem wi_tup {l:Expr} {tl:TE} (hl:PEw X l tl):PIw X tg l (iTup X.K tl):=⟨pi_tup hl.p⟩
theorem wi_range1 {a:Expr} {ta:TA} {p pos:Pos} (hg:Gl X "range") (hm:X.mg "range" = none) (ha:PAw X [a] ta) (hs:starEach [a] X.env=[(false,eval a X.env)]:=by first | exact se_Name | exact se_Constant | exact se_BoolOp | exact se_BinOp | exact se_UnaryOp | exact se_IfExp | exact se_Dict | exact se_ListComp | exact se_Compare | exact se_Call | exact se_Attribute | exact se_Subscript | exact se_List | exact se_Tuple | exact se_JoinedStr | exact se_GeneratorExp):PIw X tg (.Call (.Name "range" p) [a] [] pos) (iRng1 ta):=⟨pi_range1 hg hm ha.p hs⟩
theorem wi_range2 {a b:Expr} {ta:TA} {p pos:Pos} (hg:Gl X "range") (hm:X.mg "range" = none) (ha:PAw X [a,b] ta) (hs:starEach [a,b] X.env=[(false,eval a X.env),(false,eval b X.env)]:=by rfl) (hs2:starEach [b] X.env=[(false,eval b X.env)]:=by first | exact se_Name | exact se_Constant | exact se_BoolOp | exact se_BinOp | exact se_UnaryOp | exact se_IfExp | exact se_Dict | exact se_ListComp | exact se_Compare | exact se_Call | exact se_Attribute | exact se_Subscript | exact se_List | exact se_Tuple | exact se_JoinedStr | exact se_GeneratorExp) :
    PIw X tg (.Call (.Name "range" p) [a,b] [] pos) (iRng2 ta):=⟨pi_range2 hg hm ha.p hs hs2⟩
theorem ws_for {iter:Expr} {wi:TI} {g:TG} {tb:TS} {pos:Pos} (hp:PassesOwn (model X.prog X.w) X.A X.env X.xe) (hc:X.calm=true) (hi:PIw X tg iter wi) (hg:PGw X tg g) (hb:PSsw X body tb)
    (hs:∀ x,foldedSetIterable iter X.env x=pure x:=by intro _; rfl):PSw X (.For tg iter body [] pos) (tFor wi g tb):=⟨ps_for hp hc hi.p hg.p hb.p hs⟩
end
theorem Fun.okw {P:Program} {w:World} {K:PySem.W.Frag} {mg:Str→Option Value} {base:Heap} {x qual:Str} {st:Stmt} {f:Addr} {fd:FuncData} {N ps:List Str} {k:Nat} {sp:Sp} (F:Fun K x qual st f fd) (S:FnScope N ps (defScope st)) (len:∀ vs H Q E,sp vs H Q E→vs.length=ps.length)
    (hbody:∀ (cdv:Value) (A:Around) (outer:List Env) (s:Shared) (H:Hp) (vs:List V) (Q:VK) (E:XK),Room k (A.deeper (envOfC qual (defScope st) s.heap.objs.size f cdv))→sp vs H Q E →
      ∃ t,PSsw (cxOf CX0 P w K mg base N qual (defScope st) f cdv A outer s H E).nox (defBody st) t∧t { nx:=fun _ H'=>Q .non H',rt:=Q } (start N vs) H):FnOk P w K mg base CX0 (k+1) f fd ps sp :=
  F.ok S len fun cdv A outer s H vs Q E hr h=>by
    obtain ⟨t,h1,h2⟩:=hbody cdv A outer s H vs Q E hr h
    exact ⟨t,h1.p,h2⟩
end L2
set_option Elab.async false
set_option linter.all false
set_option maxRecDepth 100000
namespace L2
open PySem PySem.Spec PyProof.Rows
theorem gcd_step (a b:Int):Int.gcd b (a % b)=Int.gcd a b:=by
  have h:=Int.gcd_add_mul_right_right b (a % b) (a / b)
  rw [show a % b+a / b*b=a from by have:=Int.emod_add_mul_ediv a b; rw [Int.mul_comm]; exact this] at h
  rw [← h,Int.gcd_comm]
theorem gcd_end {a:Int} (h:0<a):(Int.gcd a 0:Int)=a:=by rw [Int.gcd_zero_right]; omega
section
variable {H:Hp} {x:V} {d:PyData} {Q:VK}
end
theorem RepL.len {H:Hp}:∀ {ds:List PyData} {vs:List V},RepL H ds vs→vs.length=ds.length
  | [],_,h=>by cases (show _=[] from h); rfl
  | d::ds,_,h=>by
    unfold RepL at h
    obtain ⟨x,xs,rfl,_,h2⟩:=h
    simp [RepL.len h2]
section
variable {p:Addr} {σ:St} {t:TE} {ta:TA} {d:PyData} {ds:List PyData}
end
theorem RepL.append {H:Hp} {es:List PyData} {ws:List V} (h':RepL H es ws):∀ {ds:List PyData} {vs:List V},RepL H ds vs→RepL H (ds++es) (vs++ws)
  | [],_,h=>by cases (show _=[] from h); exact h'
  | d::ds,_,h=>by
    unfold RepL at h
    obtain ⟨x,xs,rfl,h1,h2⟩:=h
    exact RepL.cons h1 (RepL.append h' h2)
end L2
namespace L2
end L2
namespace L2
open PySem PySem.Spec PyProof.Rows
theorem Same.thru {l:Addr} {H0 H1 H2:Hp} (hl:H0 l=none) (s:Same H0 H1) (b:SameBut l H1 H2):Same H0 H2:=fun c o e=>by
  have n:c≠l:=ne_of_none e hl
  exact b.at n (s _ _ e)
theorem catL {H:Hp} {l b:Addr} {xs zs:List V} {Q:VK} (h1:H l=some (.lst xs)) (h2:H b=some (.lst zs)) (hz:xs.length+zs.length≤1000) (k:∀ q H',H q=none→H' q=some (.lst (xs++zs))→Same H H'→Q (.ref q) H'):rCat (.ref l) (.ref b) H Q :=
  ⟨l,b,xs,zs,rfl,rfl,h1,h2,Nat.le_of_lt (small1000 hz),fun q hq=>k q _ hq upd_same (Same.upd hq)⟩
@[irreducible] def rApp:V→List V→Hp→VK→Prop:=rAppend
theorem mt_app {X:Cx}:MtR X "list.append" rApp:=by unfold rApp; exact mt_append
theorem appL {H:Hp} {l:Addr} {xs:List V} {y:V} {Q:VK} (h:H l=some (.lst xs)) (hz:xs.length≤1000) (k:∀ H',H' l=some (.lst (xs++[y]))→SameBut l H H'→Q .non H'):rApp (.ref l) [y] H Q:=by
  unfold rApp; exact ⟨l,xs,y,rfl,rfl,h,small1000 hz,k _ upd_same SameBut.self⟩
theorem tyL {K:PySem.W.Frag} {H:Hp} {l:Addr} {xs:List V} (h:H l=some (.lst xs)):tyV K "list" (.ref l) H:=.inl ⟨rfl,xs,SqL.of h⟩
end L2
set_option Elab.async false
set_option linter.all false
set_option maxRecDepth 100000
namespace L2
open PySem PySem.Spec PyProof.Rows
def closL (env:Env):List (Str × NameKind)→List (Str × Addr)→List (Str × Addr)
  | [],cs=>cs
  | (n,k)::r,cs=>if k == .free then closL env r ((n,(env.cells.lookup n).getD 0)::cs) else closL env r cs
theorem clos_eq (env:Env):∀ (l:List (Str × NameKind)) (cs:List (Str × Addr)),(∀ y∈l,y.2=.free→∃ c,env.cells.lookup y.1=some c) →
    (forIn l cs fun (x:Str × NameKind) r=>if x.2 == .free then (do let c ← cellOf env x.1; pure (ForInStep.yield ((x.1,c)::r)):Sem _) else pure (ForInStep.yield r))=pure (closL env l cs)
  | [],cs,_=>rfl
  | (n,k)::r,cs,h=>by
    rw [List.forIn_cons]
    have ih:=fun cs=>clos_eq env r cs fun y hy=>h y (List.mem_cons_of_mem _ hy)
    by_cases hk:(k == NameKind.free)=true
    · obtain ⟨c,hc⟩:=h (n,k) List.mem_cons_self (by simpa using hk)
      dsimp only at hc
      simp only [hk,if_true,closL,hc,Option.getD_some,cellOf,pure_bind]
      exact ih _
    · simp only [hk,closL,pure_bind]
      exact ih _
theorem closureFor_eq {env:Env} {scope:Scope} (h:∀ y∈scope.names,y.2=.free→∃ c,env.cells.lookup y.1=some c):closureFor scope env=pure (closL env scope.names []):=by
  have e:=clos_eq env scope.names [] h
  unfold closureFor
  simp only [bind_pure]
  exact e
theorem closL_mem {env:Env}:∀ (l:List (Str × NameKind)) (cs:List (Str × Addr)),(∀ y∈l,y.2=.free→∃ c,env.cells.lookup y.1=some c)→∀ p∈closL env l cs,p∈cs∨env.cells.lookup p.1=some p.2
  | [],cs,_,p,hp=>.inl hp
  | (n,k)::r,cs,h,p,hp=>by
    have h':∀ y∈r,y.2=.free→∃ c,env.cells.lookup y.1=some c:=fun y hy=>h y (List.mem_cons_of_mem _ hy)
    unfold closL at hp
    by_cases hk:(k == NameKind.free)=true
    · rw [if_pos hk] at hp
      obtain ⟨c,hc⟩:=h (n,k) List.mem_cons_self (by simpa using hk)
      rcases closL_mem r _ h' p hp with hm | hm
      · rcases List.mem_cons.mp hm with rfl | hm
        · exact .inr (by dsimp only at hc ⊢; rw [hc]; rfl)
        · exact .inl hm
      · exact .inr hm
    · rw [if_neg hk] at hp
      exact closL_mem r cs h' p hp
theorem closL_acc {env:Env}:∀ (l:List (Str × NameKind)) (cs:List (Str × Addr)),∀ p∈cs,p∈closL env l cs
  | [],_,_,hp=>hp
  | (n,k)::r,cs,p,hp=>by
    unfold closL
    by_cases hk:(k == NameKind.free)=true
    · rw [if_pos hk]; exact closL_acc r _ p (List.mem_cons_of_mem _ hp)
    · rw [if_neg hk]; exact closL_acc r _ p hp
theorem closL_has {env:Env}:∀ (l:List (Str × NameKind)) (cs:List (Str × Addr)) (y:Str),(y,NameKind.free)∈l→∃ a,(y,a)∈closL env l cs
  | (n,k)::r,cs,y,hy=>by
    unfold closL
    rcases List.mem_cons.mp hy with e | hm
    · cases e
      rw [if_pos (by rfl)]
      exact ⟨_,closL_acc r _ _ List.mem_cons_self⟩
    · by_cases hk:(k == NameKind.free)=true
      · rw [if_pos hk]; exact closL_has r _ y hm
      · rw [if_neg hk]; exact closL_has r _ y hm
theorem lookup_mem {α β:Type} [BEq α] [LawfulBEq α] {x:α} {c:β}:∀ {l:List (α × β)},l.lookup x=some c→(x,c)∈l
  | [],h=>by cases h
  | (a,b)::r,h=>by
    rw [List.lookup_cons] at h
    by_cases e:(x == a)=true
    · rw [e] at h
      have:x=a:=by simpa using e
      subst this
      cases h
      exact List.mem_cons_self
    · have e':(x == a)=false:=by simpa using e
      rw [e'] at h
      exact List.mem_cons_of_mem _ (lookup_mem h)
theorem mem_lookup {α β:Type} [BEq α] [LawfulBEq α] {x:α} {c:β}:∀ {l:List (α × β)},(x,c)∈l→∃ c',l.lookup x=some c'
  | (a,b)::r,h=>by
    rw [List.lookup_cons]
    by_cases e:(x == a)=true
    · rw [e]; exact ⟨_,rfl⟩
    · have e':(x == a)=false:=by simpa using e
      rw [e']
      rcases List.mem_cons.mp h with q | q
      · cases q; simp at e
      · exact mem_lookup q
def clOf (X:Cx) (scope:Scope):List (Str × Addr):=closL X.env scope.names []
theorem clOf_env {X:Cx} {scope:Scope} (h:∀ y∈scope.names,y.2=.free→∃ c,X.env.cells.lookup y.1=some c) {x:Str} {c:Addr} (e:(clOf X scope).lookup x=some c):X.env.cells.lookup x=some c:=by
  rcases closL_mem scope.names [] h _ (lookup_mem e) with hm | hm
  · cases hm
  · exact hm
theorem clOf_has {X:Cx} {scope:Scope} (h:∀ y∈scope.names,y.2=.free→∃ c,X.env.cells.lookup y.1=some c) {x:Str} (hx:(x,NameKind.free)∈scope.names) {c:Addr} (e:X.env.cells.lookup x=some c):(clOf X scope).lookup x=some c:=by
  obtain ⟨a,ha⟩:=closL_has (env:=X.env) scope.names [] x hx
  obtain ⟨c',hc'⟩:=mem_lookup ha
  have:=clOf_env h hc'
  rw [e] at this
  cases this
  exact hc'
def cxC (X:Cx) (scope:Scope) (C:Addr) (fp:List Addr) (s₀:Shared) (H₀:Hp) (N':List Str):Cx where
  prog:=X.prog
  w:=X.w
  K:=X.K
  mg:=X.mg
  base:=X.base
  A:=X.A
  N:=N'
  s₀:=s₀
  H₀:=H₀
  env:=compEnvC scope (clOf X scope) C X.env
  outer:=X.stack
  stack:=X.stack
  ex:=fp
  fn:=fun _=>false
  calm:=true
  pn:=[]
  xe:=fun _ _=>False
def slots (σ:St) (js:List Nat):St:=js.map fun j=>(σ[j]?).getD none
def PTs (X:Cx) (ifs:List Expr) (t:TT):Prop :=
  ∀ (pins:List (Addr × Obj)) (s:Shared) (σ:St) (H:Hp) (Q:Bool→Hp→Prop),Inv X pins σ H s→t σ H Q →
    wpAny (model X.prog X.w) X.A (forIn ifs true fun c r=>if r=true then do let ok ← isTrue c X.env (eval c X.env); pure (ForInStep.yield ok) else pure (ForInStep.yield r)) (TP X pins σ Q) X.xe s
def tYes:TT:=fun _ H Q=>Q true H
theorem pts_nil {X:Cx}:PTs X [] tYes:=fun pins s σ H Q I h=>wpAny_tests_nil ⟨H,I,h⟩
theorem pts_one {X:Cx} {c:Expr} {t:TT} (h:PT X c t):PTs X [c] t:=fun pins s σ H Q I q=>wpAny_tests_one (h pins s σ H Q I q)
def tComp (wi:TI) (js:List Nat) (tc:TT) (te:TE):TE:=fun σ H Q=>wi σ H fun J H1=>∀ D,H1 D=none→∃ W:Nat→Nat→List V→Hp→Prop,(∃ m,W 0 m [] (upd H1 D (.lst []))) ∧
  ∀ i m ys H2,W i m ys H2→H2 D=some (.lst ys)∧((J.stop i H2∧Q (.ref D) H2)∨(J.go i H2∧ys.length<sizeLine∧∀ x H3,J.yld i H2 x H3 →
    tc (some x::slots σ js) H3 fun b H4=>if b=true then te (some x::slots σ js) H4 fun y H5=>H5 D=some (.lst ys)∧∃ m',m' < m∧W (i+1) m' (ys++[y]) (upd H5 D (.lst (ys++[y])))
      else H4 D=some (.lst ys)∧∃ m',m' < m∧W (i+1) m' ys H4))
structure CScope (X:Cx) (scope:Scope) (x:Str) (N':List Str) (js:List Nat):Prop where
  calm:X.calm=true
  free:∀ y∈scope.names,y.2=.free→X.env.kindOf y.1=some .cell
  cell:∀ y∈scope.names,y.2 ≠ .cell
  kind:scope.kind=.function
  names:∀ y∈scope.names,y.2=.local→scope.names.lookup y.1=some .local
  own:scope.names.lookup x=some .local
  nofl:∀ y,(y,NameKind.free)∈scope.names→scope.names.lookup y=some .local→False
  len:N'.length=js.length+1
  zero:N'[0]?=some x
  nd:N'.Nodup
  slot:∀ (i:Nat) (j:Nat),js[i]?=some j→∃ y,N'[i+1]?=some y∧X.N[j]?=some y∧(y,NameKind.free)∈scope.names
end L2
set_option Elab.async false
set_option linter.all false
set_option maxRecDepth 100000
namespace L2
open PySem PySem.Spec PyProof.Rows
section
variable {X:Cx} {pins:List (Addr × Obj)} {σ:St} {H:Hp} {s:Shared} {scope:Scope} {x:Str} {N':List Str} {js:List Nat} {fp:List Addr}
theorem CScope.cells (S:CScope X scope x N' js) (ok:X.Ok):∀ y∈scope.names,y.2=.free→∃ c,X.env.cells.lookup y.1=some c:=fun y hy hf=>ok.has _ (.inl (S.free y hy hf))
theorem relabel_cases {env:Env}:∀ {names:List (Str × NameKind)} {y:Str} {k:NameKind},(names.map fun (n,k)=>if (k == NameKind.free&&env.scope.kind == .function&&env.kindOf n == some .cell) then (n,NameKind.cell) else (n,k)).lookup y=some k →
    (k=.cell∨k=.free)→(∀ z∈names,z.2 ≠ .cell)→(y,NameKind.free)∈names
  | [],_,_,h,_,_=>by cases h
  | (n,q)::r,y,k,h,hk,hc=>by
    rw [List.map_cons,List.lookup_cons] at h
    have ih:=fun h=>@relabel_cases env r y k h hk fun z hz=>hc z (List.mem_cons_of_mem _ hz)
    by_cases hq:(q == NameKind.free&&env.scope.kind == .function&&env.kindOf n == some .cell)=true
    · dsimp only at h
      rw [if_pos hq] at h
      have qf:q=.free:=by
        rw [Bool.and_eq_true,Bool.and_eq_true] at hq
        simpa using hq.1.1
      subst qf
      by_cases e:(y == n)=true
      · have:y=n:=by simpa using e
        subst this
        exact List.mem_cons_self
      · have e':(y == n)=false:=by simpa using e
        dsimp only at h
        rw [e'] at h
        exact List.mem_cons_of_mem _ (ih h)
    · dsimp only at h
      rw [if_neg hq] at h
      by_cases e:(y == n)=true
      · have:y=n:=by simpa using e
        subst this
        dsimp only at h
        rw [e] at h
        have hkq:k=q:=by injection h with h; exact h.symm
        subst hkq
        rcases hk with rfl | rfl
        · exact absurd rfl (hc _ List.mem_cons_self)
        · exact List.mem_cons_self
      · have e':(y == n)=false:=by simpa using e
        dsimp only at h
        rw [e'] at h
        exact List.mem_cons_of_mem _ (ih h)
theorem cxC_ok (S:CScope X scope x N' js) (I:Inv X pins σ H s) (hf:∀ b∈fp,FpOk X pins H b) (hb:∀ b∈fp,b<s.heap.objs.size):(cxC X scope s.heap.objs.size fp s H N').Ok where
  mod:=I.ok.mod
  kind:=S.kind
  glob:=I.ok.glob
  blt:=I.ok.blt
  above:=Nat.le_refl _
  inj:=fun y z c h1 h2=>I.ok.inj y z c (clOf_env (S.cells I.ok) h1) (clOf_env (S.cells I.ok) h2)
  has:=fun y hy=>by
    have hm:(y,NameKind.free)∈scope.names:=by
      rcases hy with hy | hy
      · exact relabel_cases (env:=X.env) hy (.inl rfl) S.cell
      · exact relabel_cases (env:=X.env) hy (.inr rfl) S.cell
    obtain ⟨c,hc⟩:=S.cells I.ok _ hm rfl
    exact ⟨c,clOf_has (S.cells I.ok) hm hc⟩
  cab:=fun _ _ h=>by cases h
  hd:=fun _=>I.ok.hd S.calm
  frames:=I.ok.frames
  stk:=.inl rfl
  exf:=fun b hb'=>⟨fun e=>by have:=hb b hb'; rw [e] at this; exact Nat.lt_irrefl _ this,fun y c h=>(hf b hb').2.2.2.2.1 y c (clOf_env (S.cells I.ok) h)⟩
  bs:=I.bs
  bsz:=Nat.le_trans I.ok.bsz I.sz
  noex:=fun b o e hb'=>by
    rcases (hf b hb').2.2.2.1 with h | h
    · exact I.ok.noex b o e h
    · exact absurd (Nat.lt_of_lt_of_le (Heap.lt_size e) (Nat.le_trans I.ok.bsz h)) (Nat.lt_irrefl _)
  exfs:=fun b hb' hs=>by
    have h2:=I.stkSub b hs
    rcases List.mem_cons.mp h2 with h2 | h2
    · exact (hf b hb').2.1 h2
    · exact (hf b hb').2.2.1 h2
  funs:=I.stack
  frf:=I.stkFree
theorem slots_get {i j:Nat} (h:js[i]?=some j):(slots σ js)[i]?=some ((σ[j]?).getD none):=by
  unfold slots; rw [List.getElem?_map,h]; rfl
theorem cxC_inv {h':Heap} {tk:Nat} (S:CScope X scope x N' js) (I:Inv X pins σ H s) (hf:∀ b∈fp,FpOk X pins H b) (hb:∀ b∈fp,b<s.heap.objs.size)
    (hn:h'.Ns s.heap.objs.size (fun _=>none)) (hk:∀ b o,s.heap.get? b=some o→h'.get? b=some o):Inv (cxC X scope s.heap.objs.size fp s H N') [] (none::slots σ js) H { s with heap:=h',toks:=tk } where
  ok:=cxC_ok S I hf hb
  os:=rfl
  bare:=I.bare
  base:=Un.kept hk
  loc:=by
    refine ⟨_,hn,fun i y v hi hv hvis=>?_⟩
    cases i with
    | zero=>cases hv
    | succ i =>
      have hv':(slots σ js)[i]?=some (some v):=hv
      have hlt:i<js.length:=by
        have:=(List.getElem?_eq_some_iff.mp hv').1
        unfold slots at this
        rwa [List.length_map] at this
      have hj:js[i]?=some js[i]:=List.getElem?_eq_getElem hlt
      obtain ⟨z,h1,h2,h3⟩:=S.slot i _ hj
      have hzy:z=y:=by
        have:N'[i+1]?=some y:=hi
        rw [h1] at this; cases this; rfl
      subst hzy
      rw [slots_get hj] at hv'
      have hσ:σ[js[i]]?=some (some v):=by
        cases q:σ[js[i]]? with
        | none=>rw [q] at hv'; cases hv'
        | some o=>rw [q] at hv'; cases hv'; rfl
      have hkc:X.env.kindOf z=some .cell:=S.free _ h3 rfl
      obtain ⟨m,hm,hl⟩:=I.loc
      obtain ⟨u,ru,lk⟩:=hl _ z v h2 hσ (.inr (.inl hkc))
      rcases lk with ⟨hk1,_⟩ | ⟨_,c,hc,hcell⟩
      · rw [hkc] at hk1; cases hk1
      · refine ⟨u,ru,.inr ⟨?_,c,clOf_has (S.cells I.ok) h3 hc,?_⟩⟩
        · rcases hvis with hvis | hvis | hvis
          · exfalso
            have hcl:=clOf_has (S.cells I.ok) h3 hc
            have hm2:=lookup_mem (l:=(relabel scope X.env).names) hvis
            unfold relabel at hm2
            obtain ⟨⟨n,k⟩,hmem,he⟩:=List.mem_map.mp hm2
            dsimp only at he
            by_cases hq:(k == NameKind.free&&X.env.scope.kind == .function&&X.env.kindOf n == some .cell)=true
            · rw [if_pos hq] at he; cases he
            · rw [if_neg hq] at he
              cases he
              have:=S.names _ hmem rfl
              have l2:=mem_lookup h3
              obtain ⟨c',l2⟩:=l2
              dsimp only at this
              rw [this] at l2
              have key:(relabel scope X.env).names.lookup z=some .local:=lookup_relabel_local this
              have hck:scope.names.lookup z=some .local:=this
              exact S.nofl z h3 hck
          · exact .inl hvis
          · exact .inr hvis
        · obtain ⟨o,e,r⟩:=hcell
          exact ⟨o,hk _ _ e,r⟩
  cell:=fun y c h=>by
    obtain ⟨v,o,e,r⟩:=I.cell y c (clOf_env (S.cells I.ok) h)
    exact ⟨v,o,hk _ _ e,r⟩
  free:=I.hok.fresh (Nat.le_refl _)
  freeC:=fun y c h=>I.freeC y c (clOf_env (S.cells I.ok) h)
  pin:=fun p hp=>by cases hp
  hok:=I.hok.kept hk
  len:=by
    show (slots σ js).length+1=N'.length
    unfold slots
    rw [List.length_map,S.len]
theorem HOk.but {P:Program} {w:World} {H:Hp} {h h':Heap} {C:Addr} (x:HOk P w H h) (hC:H C=none) (k:∀ b u,b≠C→h.get? b=some u→h'.get? b=some u):HOk P w H h':=fun a o e =>
  (x a o e).stay (fun b u hb q=>k b u (by
    rcases hb with rfl | hb
    · exact ne_of_none e hC
    · exact ne_of_none hb hC) q) (fun _ q=>q) fun _ _ q=>q
theorem cxC_back {H2:Hp} {σ':St} {s2:Shared} {h'':Heap} (S:CScope X scope x N' js) (I:Inv X pins σ H s) (hf:∀ b∈fp,FpOk X pins H b)
    (J:Inv (cxC X scope s.heap.objs.size fp s H N') [] σ' H2 s2) (hs:Heap.SameBut s.heap.objs.size s2.heap h''):Inv X pins σ H2 { s2 with heap:=h'' }:=by
  have hC:H2 s.heap.objs.size=none:=J.free
  have ne:∀ {b:Addr} {o:Obj},s.heap.get? b=some o→b≠s.heap.objs.size:=fun e q=>by
    have:=Heap.lt_size e; rw [q] at this; exact Nat.lt_irrefl _ this
  refine I.call' (s':={ s2 with heap:=h'' }) (ch:=fp) (by rw [show ({ s2 with heap:=h'' }:Shared).os=s2.os from rfl]; exact J.os) ?_ (J.hok.but hC fun b u hb q=>hs.extBut b u hb q) J.bare fun b hb=>⟨(hf b hb).2.2.2.1,(hf b hb).2.1,(hf b hb).2.2.2.2.1,(hf b hb).2.2.2.2.2⟩
  have U:=J.base
  exact {
    keep:=fun b o e n h1 h2=>hs.extBut b o (ne e) (U.keep b o e n h1 h2)
    slot:=fun b o e n h1 h2=>by
      obtain ⟨sl,q⟩:=U.slot b o e n h1 h2
      exact ⟨sl,hs.extBut b _ (ne e) q⟩
    free:=U.free
    there:=fun b o e h2=>by
      obtain ⟨o',q⟩:=U.there b o e h2
      exact ⟨o',hs.extBut b _ (ne e) q⟩
    tups:=U.tups
    frzs:=U.frzs
    tbls:=U.tbls }
end
end L2
set_option Elab.async false
set_option linter.all false
set_option maxRecDepth 100000
namespace L2
open PySem PySem.Spec PyProof.Rows
abbrev NoX:Value→Shared→Prop:=fun _ _=>False
theorem compLoop_gen {prog:Program} {w:World} {A:Around} {R:Result→Shared→Prop} {s:Shared} {elt target iter:Expr} {ifs:List Expr} {scope:Scope} {pos:Pos} {it acc:Value} {env:Env} (I:Nat→Shared→Prop)
    (turn:∀ n s,I n s→wpAny (model prog w) A (pyNext it) (fun r s₁=>match r with
      | none=>R (.ok .next) s₁
      | some v=>wpAny (model prog w) A (letOwnedTupleGo target it v) (fun _ s₁'=>wpAny (model prog w) A (assign target env v) (fun _ s₂ =>
          wpAny (model prog w) A (forIn ifs true fun c r=>if r=true then do let ok ← isTrue c env (eval c env); pure (ForInStep.yield ok) else pure (ForInStep.yield r)) (fun ok s₃ =>
            if ok=true then wpAny (model prog w) A (eval elt env) (fun x s₄=>wpAny (model prog w) A (call (.builtin "list.append") [acc,x]) (fun _ s₅=>∃ m,m<n∧I m s₅) NoX s₄) NoX s₃
            else ∃ m,m<n∧I m s₃) NoX s₂) NoX s₁') NoX s₁) NoX s)
    (n:Nat) (h:I n s):codeAny (model prog w) A (.compLoop (.ListComp elt [⟨target,iter,ifs,0⟩] scope pos) 0 it acc env) R s:=by
  refine codeAny_loop rfl I (fun n s hI=>?_) n h
  show wpAny _ A ((compTurn (.ListComp elt [⟨target,iter,ifs,0⟩] scope pos) 0 it acc env).onRaise (fun x=>do noteFrame x env; theTreesLotGoes x)) _ _ s
  refine wpAny_noted ?_
  rw [compTurn_list]
  refine wpAny_bind (wpAny_standAt (wpAny_bind (wpAny_mono (turn n s hI) (fun r s₁ h₁=>?_) fun _ _ h'=>h'.elim)))
  cases r with
  | none=>exact wpAny_pure h₁
  | some v =>
    refine wpAny_bind (wpAny_mono h₁ (fun _ s₁' h₁'=>?_) fun _ _ h'=>h'.elim)
    refine wpAny_bind (wpAny_mono h₁' (fun _ s₂ h₂=>wpAny_bind (wpAny_mono h₂ (fun ok s₃ h₃=>?_) fun _ _ h'=>h'.elim)) fun _ _ h'=>h'.elim)
    cases ok with
    | false=>exact wpAny_pure ⟨rfl,h₃⟩
    | true =>
      exact wpAny_bind (wpAny_bind (wpAny_mono h₃ (fun x s₄ h₄=>wpAny_bind (wpAny_mono h₄ (fun _ s₅ h₅=>wpAny_pure (wpAny_pure ⟨rfl,h₅⟩)) fun _ _ h'=>h'.elim)) fun _ _ h'=>h'.elim))
section
variable {X:Cx} {pins:List (Addr × Obj)} {σ:St} {H:Hp} {s:Shared} {scope:Scope} {x:Str} {N':List Str} {js:List Nat} {fp:List Addr} {elt iter:Expr} {px pos:Pos} {ifs:List Expr} {tc:TT} {te:TE}
theorem comp_block {J:It} {it:Addr} {tn:Nat→Heap→Prop} {RR:Value→Addr→Result→Shared→Prop} {E:Value→Shared→Prop} {Q:VK}
    (S:CScope X scope x N' js) (I:Inv X pins σ H s) (T:Turn X.prog X.w X.K (.Name x px) J fp it tn) (h0:tn 0 s.heap) (hf:∀ b∈fp,FpOk X pins H b)
    (ht:∀ C fp s₀ H₀,PTs (cxC X scope C fp s₀ H₀ N') ifs tc) (he:∀ C fp s₀ H₀,PE (cxC X scope C fp s₀ H₀ N') elt te)
    (R:∀ D,H D=none→∃ W:Nat→Nat→List V→Hp→Prop,(∃ m,W 0 m [] (upd H D (.lst []))) ∧
      ∀ i m ys H2,W i m ys H2→H2 D=some (.lst ys)∧((J.stop i H2∧Q (.ref D) H2)∨(J.go i H2∧ys.length<sizeLine∧∀ x H3,J.yld i H2 x H3 →
        tc (some x::slots σ js) H3 fun b H4=>if b=true then te (some x::slots σ js) H4 fun y H5=>H5 D=some (.lst ys)∧∃ m',m' < m∧W (i+1) m' (ys++[y]) (upd H5 D (.lst (ys++[y])))
          else H4 D=some (.lst ys)∧∃ m',m' < m∧W (i+1) m' ys H4)))
    (hRR:∀ (D:Addr) (H3:Hp) (s3:Shared) (σ':St) (H':Hp) (s':Shared),Inv X pins σ H3 s3→(∀ b∈fp,FpOk X pins H3 b)→Inv (cxC X scope s3.heap.objs.size fp s3 H3 N') [] σ' H' s'→Q (.ref D) H'→RR (.ref D) s3.heap.objs.size (.ok .next) s') :
    wpAny (model X.prog X.w) X.A (newList []) (fun acc s₃=>wpAny (model X.prog X.w) X.A (newFunctionEnv scope X.env.globals (clOf X scope) [] X.env.qual none .none (some X.env)) (fun cenv s₄ =>
      codeAny (model X.prog X.w) X.A (.compStart (.ListComp elt [⟨.Name x px,iter,ifs,0⟩] scope pos) 0 (.ref it) acc { cenv with scope:=relabel scope X.env }) (RR acc cenv.locals) s₄) E s₃) E s:=by
  have hb:∀ b∈fp,b<s.heap.objs.size:=fun b hb=>by
    obtain ⟨o,e,_⟩:=T.obj 0 _ h0 b hb
    exact Heap.lt_size e
  refine wpAny_newObj_type (wpAny_newFunctionEnv S.cell (by intro y hy; simp at hy) (fun h₁ hns₁ hsb₁=>?_) S.kind)
  have hDn:H s.heap.objs.size=none:=I.hok.fresh (Nat.le_refl _)
  obtain ⟨W,⟨m0,hw0⟩,hW⟩:=R _ hDn
  have I3:Inv X pins σ (upd H s.heap.objs.size (.lst [])) { s with heap:=s.heap.push { cls:=.type "list",dict:=none,data:=.seq ([]:List Value).toArray } }:=I.lnew (its:=[]) (ys:=[]) (t':=s.toks) .nil (Nat.zero_le _)
  have hf3:∀ b∈fp,FpOk X pins (upd H s.heap.objs.size (.lst [])) b:=fun b hb' =>
    ⟨by rw [upd_ne (fun e=>by have:=hb b hb'; rw [e] at this; exact Nat.lt_irrefl _ this)]; exact (hf b hb').1,(hf b hb').2⟩
  have hb3:∀ b∈fp,b<(s.heap.push { cls:=.type "list",dict:=none,data:=.seq ([]:List Value).toArray }).objs.size:=fun b hb'=>by
    rw [Heap.size_push]; exact Nat.lt_succ_of_lt (hb b hb')
  have hkeep:∀ b o,(s.heap.push { cls:=.type "list",dict:=none,data:=.seq ([]:List Value).toArray }).get? b=some o→h₁.get? b=some o:=fun b o e =>
    hsb₁.extBut b o (fun q=>by have:=Heap.lt_size e; rw [q] at this; exact Nat.lt_irrefl _ this) (Heap.get?_push_of_some _ e)
  have J4:=cxC_inv (h':=h₁) (tk:=s.toks+([]:List (Str × Value)).length) S I3 hf3 hb3 hns₁ hkeep
  have t4:tn 0 h₁:=T.keep 0 _ _ h0 fun b hb' o e=>hkeep b o (Heap.get?_push_of_some _ e)
  have loop:codeAny (model X.prog X.w) X.A (.compLoop (.ListComp elt [⟨.Name x px,iter,ifs,0⟩] scope pos) 0 (.ref it) (.ref s.heap.objs.size) (compEnvC scope (clOf X scope) (s.heap.push { cls:=.type "list",dict:=none,data:=.seq ([]:List Value).toArray }).objs.size X.env))
      (RR (.ref s.heap.objs.size) (s.heap.push { cls:=.type "list",dict:=none,data:=.seq ([]:List Value).toArray }).objs.size) { s with heap:=h₁,toks:=s.toks+([]:List (Str × Value)).length }:=by
    refine compLoop_gen (fun n s'=>∃ (i:Nat) (ys:List V) (H2:Hp) (o:Option V),Inv (cxC X scope _ fp _ _ N') [] (o::slots σ js) H2 s'∧tn i s'.heap∧(∀ b∈fp,H2 b=none)∧W i n ys H2) ?_ m0 ⟨0,[],_,none,J4,t4,fun b hb'=>(hf3 b hb').1,hw0⟩
    rintro n s' ⟨i,ys,H2,o,J2,t2,f2,w2⟩
    obtain ⟨hD,hcase⟩:=hW i n ys H2 w2
    have Fp:∀ b∈fp,FpOk (cxC X scope (s.heap.push { cls:=.type "list",dict:=none,data:=.seq ([]:List Value).toArray }).objs.size fp { s with heap:=s.heap.push { cls:=.type "list",dict:=none,data:=.seq ([]:List Value).toArray } } (upd H s.heap.objs.size (.lst [])) N') [] H2 b:=fun b hb' =>
      ⟨f2 b hb',(J2.ok.exf b hb').1,J2.ok.exfs b hb',.inl hb',(J2.ok.exf b hb').2,fun p hp=>by cases hp⟩
    rcases hcase with ⟨hstop,hq⟩ | ⟨hgo,hz,hturn⟩
    · refine wpAny_mono (T.done (cxC X scope _ fp _ _ N') rfl rfl rfl rfl i [] s' _ H2 NoX J2 Fp t2 hstop) (fun r s1 ⟨hr,J5⟩=>?_) fun _ _ f=>f
      subst hr
      exact hRR _ _ _ _ _ _ I3 hf3 J5 hq
    · refine wpAny_mono (T.item (cxC X scope _ fp _ _ N') rfl rfl rfl rfl i [] s' _ H2 NoX J2 Fp t2 hgo) (fun r s1 ⟨u,hr,hx⟩=>?_) fun _ _ f=>f
      subst hr
      refine wpAny_mono hx (fun _ s2 ⟨v,H3,J3,rv,hy,t3,f3⟩=>?_) fun _ _ f=>f
      have Fp3:∀ b∈fp,FpOk (cxC X scope (s.heap.push { cls:=.type "list",dict:=none,data:=.seq ([]:List Value).toArray }).objs.size fp { s with heap:=s.heap.push { cls:=.type "list",dict:=none,data:=.seq ([]:List Value).toArray } } (upd H s.heap.objs.size (.lst [])) N') [] H3 b:=fun b hb' =>
        ⟨f3 b hb',(J3.ok.exf b hb').1,J3.ok.exfs b hb',.inl hb',(J3.ok.exf b hb').2,fun p hp=>by cases hp⟩
      have P3:=J3.pinned Fp3 (T.obj (i+1) _ t3)
      have keepT:∀ {σ':St} {Hx:Hp} {sx:Shared},Inv (cxC X scope (s.heap.push { cls:=.type "list",dict:=none,data:=.seq ([]:List Value).toArray }).objs.size fp { s with heap:=s.heap.push { cls:=.type "list",dict:=none,data:=.seq ([]:List Value).toArray } } (upd H s.heap.objs.size (.lst [])) N') ([]++pinsAt fp s2.heap) σ' Hx sx→tn (i+1) sx.heap∧∀ b∈fp,Hx b=none:=fun Jx =>
        ⟨T.keep (i+1) _ _ t3 fun b hb' ob e=>(Jx.pin (b,ob) (List.mem_append_right _ (List.mem_append_right _ (mem_pinsAt hb' e)))).1,fun b hb'=>by
          obtain ⟨ob,e,_⟩:=T.obj (i+1) _ t3 b hb'
          exact (Jx.pin (b,ob) (List.mem_append_right _ (List.mem_append_right _ (mem_pinsAt hb' e)))).2.1⟩
      refine wpAny_assign_Name (store_ok P3 (i:=0) (x:=x) (v:=v) ?nd ?hi ?hx rv (fun s5 J5=>?_) ?hfn)
      case nd=>exact S.nd
      case hi=>exact S.zero
      case hx=>exact .inl (lookup_relabel_local S.own)
      case hfn=>exact .inr (lookup_relabel_local S.own)
      have J5':Inv _ _ (some v::slots σ js) H3 s5:=J5
      refine wpAny_mono (ht _ _ _ _ _ _ _ _ _ J5' (hturn v H3 hy)) (fun ok s6 ⟨H6,J6,q6⟩=>?_) fun _ _ f=>f
      dsimp only at q6
      by_cases hok:ok=true
      · rw [if_pos hok] at q6 ⊢
        refine wpAny_mono (he _ _ _ _ _ _ _ _ _ J6 q6) (fun y s7 ⟨w',H7,J7,r7,hD7,m',hm',w7⟩=>?_) fun _ _ f=>f
        refine wpAny_mono (mt_append (X:=cxC X scope _ fp _ _ N') _ _ _ _ (.ref s.heap.objs.size) [w'] (.ref s.heap.objs.size) [y] (fun _ H8=>H8=upd H7 s.heap.objs.size (.lst (ys++[w']))) J7 rfl (.cons r7 .nil) ⟨_,_,_,rfl,rfl,hD7,hz,rfl⟩) (fun _ s8 ⟨_,H8,J8,_,e8⟩=>?_) fun _ _ f=>f
        subst e8
        obtain ⟨k1,k2⟩:=keepT J8
        exact ⟨m',hm',i+1,ys++[w'],_,some v,J8.unpinned,k1,k2,w7⟩
      · rw [if_neg hok] at q6 ⊢
        obtain ⟨_,m',hm',w7⟩:=q6
        obtain ⟨k1,k2⟩:=keepT J6
        exact ⟨m',hm',i+1,ys,_,some v,J6.unpinned,k1,k2,w7⟩
  refine codeAny_compStart_list loop (T.self X.A 0 _ _ _ t4 loop)
theorem pe_comp {wi:TI} (S:CScope X scope x N' js) (hi:PI X (.Name x px) iter wi) (ht:∀ C fp s₀ H₀,PTs (cxC X scope C fp s₀ H₀ N') ifs tc) (he:∀ C fp s₀ H₀,PE (cxC X scope C fp s₀ H₀ N') elt te)
    (hs:∀ x,foldedSetIterable iter X.env x=pure x:=by intro _; rfl):PE X (.ListComp elt [⟨.Name x px,iter,ifs,0⟩] scope pos) (tComp wi js tc te):=by
  intro pins s σ H Q I h
  rw [eval_ListComp]
  refine wpAny_comprehension_free (use:=none) rfl hs (closureFor_eq (S.cells I.ok)) S.kind S.names (wpAny_mono (hi pins s σ H _ I h) (fun v s1 h1=>?_) fun _ _ e=>e)
  refine wpAny_mono h1 (fun itv s2 ⟨it,fp,tn,J,H2,e,I2,T,t0,hf,R⟩=>?_) fun _ _ e=>e
  subst e
  refine comp_block S I2 T t0 hf ht he R ?_
  intro D H3 s3 σ' H' s' I3 hf3 J3 q
  obtain ⟨m,hm,_⟩:=J3.loc
  exact ⟨m,hm,fun h' hs'=>⟨.ref D,H',cxC_back S I3 hf3 J3 hs',rfl,q⟩⟩
theorem ps_setComp {wi:TI} {y:Str} {py spos:Pos} {i:Nat} (S:CScope X scope x N' js) (hN:X.N.Nodup) (hiN:X.N[i]?=some y) (hy:X.env.kindOf y=some .local) (hi:PI X (.Name x px) iter wi) (ht:∀ C fp s₀ H₀,PTs (cxC X scope C fp s₀ H₀ N') ifs tc) (he:∀ C fp s₀ H₀,PE (cxC X scope C fp s₀ H₀ N') elt te)
    (hsw:swapsWith (.ListComp elt [⟨.Name x px,iter,ifs,0⟩] scope pos) (some (.Name y py)) spos.line X.env=pure true) (hs:∀ x,foldedSetIterable iter X.env x=pure x:=by intro _; rfl) :
    PS X (.Assign [.Name y py] (.ListComp elt [⟨.Name x px,iter,ifs,0⟩] scope pos) spos) (tAsg (tComp wi js tc te) (gName i)):=by
  intro pins s σ H D0 I h
  rw [exec_Assign_Name_used _ _ _ _ hsw]
  refine wpAny_bind (wpAny_standAt (wpAny_bind ?_))
  show wpAny _ X.A (do let _ ← comprehension (.ListComp elt [⟨.Name x px,iter,ifs,0⟩] scope pos) scope X.env _ (newList []) false (eval iter X.env) (some (assign (.Name y py) X.env))) _ _ s
  refine wpAny_bind (wpAny_mono (wpAny_comprehension_free (use:=some (assign (.Name y py) X.env)) (Q:=fun _ s'=>SP X pins D0 .next s') rfl hs (closureFor_eq (S.cells I.ok)) S.kind S.names (wpAny_mono (hi pins s σ H _ I h) (fun v s1 h1=>?_) fun _ _ e=>e)) (fun _ s' hq=>wpAny_pure (wpAny_pure hq)) fun _ _ e=>e)
  refine wpAny_mono h1 (fun itv s2 ⟨it,fp,tn,J,H2,e,I2,T,t0,hf,R⟩=>?_) fun _ _ e=>e
  subst e
  refine comp_block (Q:=fun v H'=>gName i v σ H' D0.nx) S I2 T t0 hf ht he R ?_
  intro D H3 s3 σ' H' s' I3 hf3 J3 q
  obtain ⟨m,hm,_⟩:=J3.loc
  have IX:Inv X pins σ H' s':=cxC_back S I3 hf3 J3 (Heap.SameBut.refl ..)
  have hCL:s3.heap.objs.size≠X.env.locals:=fun e=>by have:=I3.lt; rw [e] at this; exact Nat.lt_irrefl _ this
  show wpAny _ X.A (assign (.Name y py) X.env (.ref D)) _ _ _
  refine wpAny_assign_Name (store_ok2 IX hN hiN (.inl hy) (v:=.ref D) rfl (fun s5 I5 hsb=>?_) (.inr hy))
  obtain ⟨a,hsb,ha⟩:=hsb
  have hCa:s3.heap.objs.size≠a:=by
    rcases ha with rfl | ha
    · exact hCL
    · intro e
      obtain ⟨v,o,eo,_⟩:=I3.cell y a ha
      have:=Heap.lt_size eo
      rw [← e] at this
      exact Nat.lt_irrefl _ this
  refine ⟨m,hm.sameBut hsb hCa,fun h' hs'=>⟨_,H',?_,q⟩⟩
  exact I5.turned (it:=s3.heap.objs.size) (t':=s5.toks) (fun b o n e=>hs'.extBut b o n e) J3.free hCL (.inr I3.sz)
    (fun z c hz e=>by
      obtain ⟨v,o,eo,_⟩:=I3.cell z c hz
      have:=Heap.lt_size eo
      rw [e] at this
      exact Nat.lt_irrefl _ this)
    (fun p hp e=>by
      have:=Heap.lt_size (I3.pin p hp).1
      rw [e] at this
      exact Nat.lt_irrefl _ this)
end
end L2
set_option Elab.async false
set_option linter.all false
set_option maxRecDepth 100000
namespace L2
open PySem PySem.Spec PyProof.Rows
structure PTsw (X:Cx) (ifs:List Expr) (t:TT):Prop where p:PTs X ifs t
def tMonoE (t:TE):TE:=fun σ H Q=>∃ Q':VK,t σ H Q'∧∀ v H1,Q' v H1→Q v H1
theorem PE.mono {X:Cx} {e:Expr} {t:TE} (h:PE X e t):PE X e (tMonoE t):=fun pins s σ H Q I ⟨Q',h1,h2⟩ =>
  thn (h pins s σ H Q' I h1) fun b s' ⟨v,H',I',r,q⟩=>⟨v,H',I',r,h2 _ _ q⟩
theorem PTs.mono {X:Cx} {es:List Expr} {t:TT} (h:PTs X es t):PTs X es (tMono t):=fun pins s σ H Q I ⟨Q',h1,h2⟩ =>
  thn (h pins s σ H Q' I h1) fun b s' ⟨H',I',q⟩=>⟨H',I',h2 _ _ q⟩
@[irreducible] def CompB (J:It) (σ:St) (js:List Nat) (tc:TT) (te:TE) (H1:Hp) (Q:VK):Prop:=∀ D,H1 D=none→∃ W:Nat→Nat→List V→Hp→Prop,(∃ m,W 0 m [] (upd H1 D (.lst []))) ∧
  ∀ i m ys H2,W i m ys H2→H2 D=some (.lst ys)∧((J.stop i H2∧Q (.ref D) H2)∨(J.go i H2∧ys.length<sizeLine∧∀ x H3,J.yld i H2 x H3 →
    tMono tc (some x::slots σ js) H3 fun b H4=>if b=true then tMonoE te (some x::slots σ js) H4 fun y H5=>H5 D=some (.lst ys)∧∃ m',m' < m∧W (i+1) m' (ys++[y]) (upd H5 D (.lst (ys++[y])))
      else H4 D=some (.lst ys)∧∃ m',m' < m∧W (i+1) m' ys H4))
def tCompB (wi:TI) (js:List Nat) (tc:TT) (te:TE):TE:=fun σ H Q=>wi σ H fun J H1=>CompB J σ js tc te H1 Q
section
variable {X:Cx} {scope:Scope} {x y:Str} {N':List Str} {js:List Nat} {elt iter c:Expr} {px py pos spos:Pos} {ifs:List Expr} {tc:TT} {te:TE} {wi:TI} {i:Nat}
theorem wts_nil:PTsw X [] tYes:=⟨pts_nil⟩
theorem wts_one {t:TT} (h:PTw X c t):PTsw X [c] t:=⟨pts_one h.p⟩
theorem we_comp (S:CScope X scope x N' js) (hi:PIw X (.Name x px) iter wi) (ht:∀ C fp s₀ H₀,PTsw (cxC X scope C fp s₀ H₀ N') ifs tc) (he:∀ C fp s₀ H₀,PEw (cxC X scope C fp s₀ H₀ N') elt te)
    (hs:∀ x,foldedSetIterable iter X.env x=pure x:=by intro _; rfl):PEw X (.ListComp elt [⟨.Name x px,iter,ifs,0⟩] scope pos) (tCompB wi js tc te) :=
  ⟨by unfold tCompB CompB; exact pe_comp S hi.p (fun C fp s₀ H₀=>(ht C fp s₀ H₀).p.mono) (fun C fp s₀ H₀=>(he C fp s₀ H₀).p.mono) hs⟩
theorem ws_setComp (S:CScope X scope x N' js) (hN:X.N.Nodup) (hiN:X.N[i]?=some y) (hy:X.env.kindOf y=some .local) (hi:PIw X (.Name x px) iter wi) (ht:∀ C fp s₀ H₀,PTsw (cxC X scope C fp s₀ H₀ N') ifs tc) (he:∀ C fp s₀ H₀,PEw (cxC X scope C fp s₀ H₀ N') elt te)
    (hsw:swapsWith (.ListComp elt [⟨.Name x px,iter,ifs,0⟩] scope pos) (some (.Name y py)) spos.line X.env=pure true:=by rfl) (hs:∀ x,foldedSetIterable iter X.env x=pure x:=by intro _; rfl) :
    PSw X (.Assign [.Name y py] (.ListComp elt [⟨.Name x px,iter,ifs,0⟩] scope pos) spos) (tAsg (tCompB wi js tc te) (gName i)) :=
  ⟨by unfold tCompB CompB; exact ps_setComp S hN hiN hy hi.p (fun C fp s₀ H₀=>(ht C fp s₀ H₀).p.mono) (fun C fp s₀ H₀=>(he C fp s₀ H₀).p.mono) hsw hs⟩
end
def cscOk (psc scope:Scope) (N:List Str) (x:Str) (N':List Str) (js:List Nat):Bool :=
  (scope.names.all fun y=>!(y.2 == .free) || psc.names.lookup y.1 == some .cell)&&(scope.names.all fun y=>!(y.2 == .cell))&&scope.kind == .function &&
  (scope.names.all fun y=>!(y.2 == .local) || scope.names.lookup y.1 == some .local)&&scope.names.lookup x == some .local &&
  (scope.names.all fun y=>!(y.2 == .free) || !(scope.names.lookup y.1 == some .local))&&N'.length == js.length+1&&N'[0]? == some x&&decide N'.Nodup &&
  ((List.range js.length).all fun i=>match js[i]?,N'[i+1]? with
    | some j,some y=>N[j]? == some y&&scope.names.contains (y,NameKind.free)
    | _,_=>false)
theorem CScope.of {X:Cx} {psc scope:Scope} {N:List Str} {x:Str} {N':List Str} {js:List Nat} (h:cscOk psc scope N x N' js=true) (hX:X.env.scope=psc) (hN:X.N=N) (hc:X.calm=true):CScope X scope x N' js:=by
  unfold cscOk at h
  simp only [Bool.and_eq_true] at h
  obtain ⟨⟨⟨⟨⟨⟨⟨⟨⟨h1,h2⟩,h3⟩,h4⟩,h5⟩,h6⟩,h7⟩,h8⟩,h9⟩,h10⟩:=h
  rw [List.all_eq_true] at h1 h2 h4 h6 h10
  refine ⟨hc,fun y hy e=>?_,fun y hy e=>?_,by simpa using h3,fun y hy e=>?_,by simpa using h5,fun y hy e=>?_,by simpa using h7,by simpa using h8,of_decide_eq_true h9,fun i j hj=>?_⟩
  · have:=h1 y hy
    rw [e] at this
    show X.env.scope.names.lookup y.1=_
    rw [hX]
    simpa using this
  · have:=h2 y hy
    rw [e] at this
    simp at this
  · have:=h4 y hy
    rw [e] at this
    simpa using this
  · have:=h6 _ hy
    rw [e] at this
    simp at this
  · have hi:i<js.length:=(List.getElem?_eq_some_iff.mp hj).1
    have:=h10 i (List.mem_range.mpr hi)
    rw [hj] at this
    cases q:N'[i+1]? with
    | none=>rw [q] at this; simp at this
    | some y =>
      rw [q] at this
      simp only [Bool.and_eq_true] at this
      exact ⟨y,rfl,by rw [hN]; simpa using this.1,List.contains_iff_mem.mp this.2⟩
section
variable {js:List Nat} {te:TE} {tc:TT} {σ:St} {H:Hp} {Q:VK}
theorem comp_any {J:It} {n:Nat} (src:Nat→V→Prop) (hz:n≤100000) (Pv:Addr→Nat→List V→Hp→Prop)
    (h0:∀ D H1,H D=none→H1 D=some (.lst [])→Same H H1→Pv D 0 [] H1)
    (hg:∀ D i ys H',i<n→H' D=some (.lst ys)→Pv D i ys H'→J.go i H'∧∀ x H3,J.yld i H' x H3→H3=H'∧src i x)
    (hst:∀ D ys H',H' D=some (.lst ys)→Pv D n ys H'→J.stop n H')
    (hs:∀ D i x ys H',src i x→i<n→ys.length=i→H' D=some (.lst ys)→Pv D i ys H'→te (some x::slots σ js) H' fun y H5=>H5 D=some (.lst ys)∧∀ H6,H6 D=some (.lst (ys++[y]))→SameBut D H5 H6→Pv D (i+1) (ys++[y]) H6)
    (hd:∀ D ys H',ys.length=n→H D=none→H' D=some (.lst ys)→Pv D n ys H'→Q (.ref D) H') :
    CompB J σ js tYes te H Q:=by
  unfold CompB
  intro D hD
  refine ⟨fun i m ys H'=>m=n - i∧i≤n∧ys.length=i∧H' D=some (.lst ys)∧Pv D i ys H',⟨n,by simp,Nat.zero_le _,rfl,upd_same,h0 D _ hD upd_same (Same.upd hD)⟩,?_⟩
  rintro i m ys H2 ⟨rfl,hi,hy,hD2,p⟩
  refine ⟨hD2,?_⟩
  by_cases hlt:i<n
  · obtain ⟨g1,g2⟩:=hg D i ys H2 hlt hD2 p
    refine .inr ⟨g1,Nat.lt_of_le_of_lt (m:=100000) (by omega) (by decide),fun x H3 hy3=>?_⟩
    obtain ⟨rfl,hx⟩:=g2 x H3 hy3
    refine ⟨fun b H4=>b=true∧H4=H3,⟨rfl,rfl⟩,?_⟩
    rintro b H4 ⟨rfl,rfl⟩
    rw [if_pos rfl]
    refine ⟨_,hs D i x ys H4 hx hlt hy hD2 p,?_⟩
    rintro v H5 ⟨hD5,k⟩
    exact ⟨hD5,n - (i+1),by omega,rfl,hlt,by rw [List.length_append,hy]; rfl,upd_same,k _ upd_same SameBut.self⟩
  · have e:i=n:=by omega
    subst e
    exact .inl ⟨hst D ys H2 hD2 p,hd D ys H2 hy hD hD2 p⟩
theorem comp_list {K:PySem.W.Frag} {a:Addr} {xs:List V} (hz:xs.length≤100000) (Pv:Addr→Nat→List V→Hp→Prop)
    (h0:∀ D H1,H D=none→H1 D=some (.lst [])→Same H H1→Pv D 0 [] H1)
    (hl:∀ D i ys H',i≤xs.length→H' D=some (.lst ys)→Pv D i ys H'→SqL K H' a xs)
    (hs:∀ D i x ys H',xs[i]?=some x→i<xs.length→ys.length=i→H' D=some (.lst ys)→Pv D i ys H'→te (some x::slots σ js) H' fun y H5=>H5 D=some (.lst ys)∧∀ H6,H6 D=some (.lst (ys++[y]))→SameBut D H5 H6→Pv D (i+1) (ys++[y]) H6)
    (hd:∀ D ys H',ys.length=xs.length→H D=none→H' D=some (.lst ys)→Pv D xs.length ys H'→Q (.ref D) H') :
    CompB (Itl K a) σ js tYes te H Q :=
  comp_any (J:=Itl K a) (fun i x=>xs[i]?=some x) hz Pv h0
    (fun D i ys H' hi hD p=>by
      have q:=hl D i ys H' (Nat.le_of_lt hi) hD p
      exact ⟨⟨xs,xs[i],q,by simp [hi]⟩,fun x H3 y=>⟨y.1,y.2 xs q⟩⟩)
    (fun D ys H' hD p=>⟨xs,hl D _ ys H' (Nat.le_refl _) hD p,Nat.le_refl _⟩) hs hd
theorem comp_map {K:PySem.W.Frag} {a:Addr} {xs:List V} (R:Nat→V→Prop) (hz:xs.length≤100000) (hl:SqL K H a xs)
    (hs:∀ i x H' (Q':VK),xs[i]?=some x→Same H H'→(∀ y H5,Same H' H5→R i y→Q' y H5)→te (some x::slots σ js) H' Q')
    (hd:∀ D ys H',H D=none→H' D=some (.lst ys)→Same H H'→ys.length=xs.length→(∀ (i:Nat) (y:V),ys[i]?=some y→R i y)→Q (.ref D) H') :
    CompB (Itl K a) σ js tYes te H Q:=by
  refine comp_list hz (fun D i ys H'=>H D=none∧Same H H'∧∀ (i:Nat) (y:V),ys[i]?=some y→R i y) (fun D H1 hD _ s=>⟨hD,s,fun i y h=>by simp at h⟩) (fun D i ys H' _ _ p=>p.2.1.seq hl) (fun D i x ys H' hx _ hy hD p=>?_) (fun D ys H' hy hD hD' p=>hd D ys H' hD hD' p.2.1 hy p.2.2)
  refine hs i x H' _ hx p.2.1 fun y H5 s5 r=>?_
  refine ⟨s5 _ _ hD,fun H6 hD6 s6=>⟨p.1,?_,fun j z hj=>?_⟩⟩
  · exact Same.thru p.1 (p.2.1.trans s5) s6
  · by_cases hji:j<ys.length
    · rw [List.getElem?_append_left hji] at hj; exact p.2.2 j z hj
    · rw [List.getElem?_append_right (by omega)] at hj
      have:j - ys.length=0:=by
        by_cases q:j - ys.length=0
        · exact q
        · rw [List.getElem?_eq_none (by simp; omega)] at hj; cases hj
      rw [this] at hj
      have hj':y=z:=by simpa using hj
      have:j=i:=by omega
      subst this hj'
      exact r
end
@[irreducible] def rEqD (b:Bool):R2:=fun x y H Q=>∃ d d',Rep H d x∧Rep H d' y∧SeqAt.shaped d=true∧SeqAt.shaped d'=true∧Q (.bl (b == PyData.eqv d d')) H
section
variable {X:Cx}
theorem op_eqD (hu:X.A.units+64<cLine):OpR X (compareOp .Eq) (rEqD true):=by
  unfold rEqD
  intro pins s σ H x y v u Q I rx ry h
  obtain ⟨d,d',h1,h2,s1,s2,q⟩:=h
  obtain ⟨as,ra⟩:=h1.reads I rx
  obtain ⟨bs,rb⟩:=h2.reads I ry
  exact SeqAt.compareEq_shaped ra rb s1 s2 hu ⟨.bl _,H,I,by show _=_; simp,q⟩
theorem op_neD (hu:X.A.units+64<cLine):OpR X (compareOp .NotEq) (rEqD false):=by
  unfold rEqD
  intro pins s σ H x y v u Q I rx ry h
  obtain ⟨d,d',h1,h2,s1,s2,q⟩:=h
  obtain ⟨as,ra⟩:=h1.reads I rx
  obtain ⟨bs,rb⟩:=h2.reads I ry
  exact SeqAt.compareNe_shaped ra rb s1 s2 hu ⟨.bl _,H,I,by show _=_; simp,q⟩
theorem reD {b:Bool} {x y:V} {d d':PyData} {H:Hp} {Q:VK} (h1:Rep H d x) (h2:Rep H d' y) (s1:SeqAt.shaped d=true) (s2:SeqAt.shaped d'=true) (q:Q (.bl (b == PyData.eqv d d')) H):rEqD b x y H Q:=by
  unfold rEqD; exact ⟨d,d',h1,h2,s1,s2,q⟩
end
mutual
def flatD:PyData→Bool
  | .list _=>false
  | .dict _=>false
  | .tuple ds=>flatDs ds
  | _=>true
def flatDs:List PyData→Bool
  | []=>true
  | d::ds=>flatD d&&flatDs ds
end
def SameT (H H':Hp):Prop:=∀ b xs,H b=some (.tup xs)→H' b=some (.tup xs)
theorem SameT.trans {H H1 H2:Hp} (a:SameT H H1) (b:SameT H1 H2):SameT H H2:=fun c o h=>b c o (a c o h)
theorem Same.t {H H':Hp} (s:Same H H'):SameT H H':=fun b xs h=>s _ _ h
theorem SameBut.t {H H':Hp} {p:Addr} (s:SameBut p H H') {xs:List V} (hp:H p=some (.lst xs)):SameT H H':=fun b ys h=>s.at (ne_of h hp (by intro z; cases z)) h
mutual
theorem Rep.flat {H H':Hp} (s:SameT H H'):∀ {d:PyData} {v:V},flatD d=true→Rep H d v→Rep H' d v
  | .none,_,_,h=>h
  | .bool _,_,_,h=>h
  | .int _,_,_,h=>h
  | .str _,_,_,h=>h
  | .list _,_,f,_=>by simp [flatD] at f
  | .dict _,_,f,_=>by simp [flatD] at f
  | .tuple ds,_,f,h=>by
    unfold Rep at h ⊢
    obtain ⟨a,ys,rfl,h1,h2⟩:=h
    exact ⟨a,ys,rfl,s _ _ h1,RepL.flat s (by simpa [flatD] using f) h2⟩
theorem RepL.flat {H H':Hp} (s:SameT H H'):∀ {ds:List PyData} {vs:List V},flatDs ds=true→RepL H ds vs→RepL H' ds vs
  | [],_,_,h=>h
  | d::ds,_,f,h=>by
    unfold RepL at h ⊢
    obtain ⟨x,ys,rfl,h1,h2⟩:=h
    simp only [flatDs,Bool.and_eq_true] at f
    exact ⟨x,ys,rfl,Rep.flat s f.1 h1,RepL.flat s f.2 h2⟩
end
theorem RepL.get {H:Hp}:∀ {ds:List PyData} {vs:List V} {i:Nat} {v:V},RepL H ds vs→vs[i]?=some v→∃ d,ds[i]?=some d∧Rep H d v
  | [],_,i,v,h,e=>by cases (show _=[] from h); simp at e
  | d::ds,_,i,v,h,e=>by
    unfold RepL at h
    obtain ⟨x,ys,rfl,h1,h2⟩:=h
    cases i with
    | zero=>simp at e; subst e; exact ⟨d,rfl,h1⟩
    | succ i =>
      rw [List.getElem?_cons_succ] at e ⊢
      exact RepL.get h2 e
theorem RepL.get' {H:Hp}:∀ {ds:List PyData} {vs:List V} {i:Nat} {d:PyData},RepL H ds vs→ds[i]?=some d→∃ v,vs[i]?=some v∧Rep H d v
  | [],_,i,d,h,e=>by simp at e
  | d' :: ds,_,i,d,h,e=>by
    unfold RepL at h
    obtain ⟨x,ys,rfl,h1,h2⟩:=h
    cases i with
    | zero=>simp at e; subst e; exact ⟨x,rfl,h1⟩
    | succ i =>
      rw [List.getElem?_cons_succ] at e ⊢
      exact RepL.get' h2 e
theorem RepL.snoc {H:Hp} {ds:List PyData} {vs:List V} {d:PyData} {v:V} (h:RepL H ds vs) (r:Rep H d v):RepL H (ds++[d]) (vs++[v]):=RepL.append (RepL.cons r RepL.nil) h
theorem bitsOf {i:Int} {n:Nat} (h:i.natAbs<2^n):bits i≤n:=PySem.intBits_le_iff.mpr h
mutual
def shW:PyData→Nat
  | .none=>4
  | .bool _=>5
  | .int _=>1921
  | .str x=>(reprText x).length
  | .list xs=>shWs xs+4
  | .tuple xs=>shWs xs+4
  | .dict _=>0
def shWs:List PyData→Nat
  | []=>0
  | x::xs=>shW x+2+shWs xs
end
theorem textFrom_le:∀ (ts:List Str) (k:Nat) (acc:Str),(textFrom k acc ts).length≤acc.length+piled ts
  | [],k,acc=>by show acc.length≤_; omega
  | t::r,k,acc=>by
    have h:=textFrom_le r (k+1) (acc++(if k > 0 then ", " else "" : String)++t)
    have e:(acc++(if k > 0 then ", " else "" : String)++t).length=acc.length+(if k > 0 then 2 else 0)+t.length:=by
      rw [strLen_append,strLen_append]
      split <;> rfl
    rw [e] at h
    rw [piled_cons]
    show (textFrom (k+1) _ r).length≤_
    refine Nat.le_trans h ?_
    split <;> omega
theorem tupleText_le (ts:List Str):(tupleText ts).length≤piled ts+4:=by
  unfold tupleText
  rw [strLen_append,strLen_append]
  have e1:(("(" : Str)).length=1:=rfl
  have e2:((if ts.length == 1 then ",)" else ")" : String):Str).length≤2:=by split <;> decide
  rw [e1]
  by_cases h:ts=[]
  · subst h; have:(Str.join ", " []).length=0:=rfl
    omega
  · have:=join_length_add ts h
    omega
theorem listText_le (ts:List Str):(listText ts).length≤piled ts+4:=by
  unfold listText
  rw [strLen_append]
  have:=textFrom_le ts 0 "["
  have e1:(("[" : String):Str).length=1:=rfl
  have e2:(("]" : String):Str).length=1:=rfl
  rw [e1] at this
  rw [e2]
  omega
mutual
theorem shown_le:∀ d:PyData,d.showable=true→d.hasDict=false→d.shown.length≤shW d
  | .none,_,_=>by simp only [PyData.shown,shW]; decide
  | .bool b,_,_=>by cases b <;> (simp only [PyData.shown,shW]; decide)
  | .int i,h,_=>by
    simp only [PyData.shown,shW]
    exact int_text_len_1921 (by simpa [PyData.showable] using h)
  | .str x,_,_=>by simp only [PyData.shown,shW]; exact Nat.le_refl _
  | .list xs,h,h2=>by
    simp only [PyData.shown,shW]
    have:=shownAll_le xs (by simpa [PyData.showable] using h) (by simpa [PyData.hasDict] using h2)
    have:=listText_le (PyData.shownAll xs)
    omega
  | .tuple xs,h,h2=>by
    simp only [PyData.shown,shW]
    have:=shownAll_le xs (by simpa [PyData.showable] using h) (by simpa [PyData.hasDict] using h2)
    have:=tupleText_le (PyData.shownAll xs)
    omega
  | .dict _,_,h=>by simp [PyData.hasDict] at h
theorem shownAll_le:∀ ds:List PyData,PyData.showableAll ds=true→PyData.hasDictAll ds=false→piled (PyData.shownAll ds)≤shWs ds
  | [],_,_=>by simp only [PyData.shownAll,shWs]; exact Nat.le_refl _
  | d::ds,h,h2=>by
    simp only [PyData.showableAll,Bool.and_eq_true] at h
    simp only [PyData.hasDictAll,Bool.or_eq_false_iff] at h2
    have:=shown_le d h.1 h2.1
    have:=shownAll_le ds h.2 h2.2
    simp only [PyData.shownAll,shWs,piled_cons]
    omega
end
theorem showInt {i:Int} {n:Nat} (h:i.natAbs<2^n) (hn:n≤1920:=by decide):PyData.showable (.int i)=true:=by
  simp only [PyData.showable]
  refine decide_eq_true (log_of_bits (Nat.le_trans (bitsOf h) hn) (by decide))
section
variable {X:Cx} (K:PySem.W.Frag)
theorem ix_seqK (h:X.K=K:=by rfl):IxR X (rIx K):=by subst h; exact ix_seq
theorem op_notInK (h:X.K=K:=by rfl):OpR X (compareOp .NotIn) (rIn K true):=by subst h; exact op_notIn_seq
end
end L2
set_option Elab.async false
set_option linter.all false
set_option maxRecDepth 100000
namespace L2
open PySem
section
variable {prog:Program} {w:World} {A:Around} {E:Value→Shared→Prop} {s:Shared}
end
end L2
set_option Elab.async false
set_option linter.all false
set_option maxRecDepth 100000
namespace L2
open PySem PySem.Spec PyProof.Rows
section
variable {X:Cx} {pins:List (Addr × Obj)} {σ:St} {H:Hp} {s:Shared} {h':Heap}
end
section
variable {prog:Program} {w:World} {A:Around} {E:Value→Shared→Prop} {s:Shared}
end
section
variable {X:Cx}
end
end L2
set_option Elab.async false
set_option linter.all false
set_option maxRecDepth 100000
namespace L2
open PySem PySem.Spec PyProof.Rows
section
variable {prog:Program} {w:World} {A:Around} {E:Value→Shared→Prop} {s:Shared}
end
end L2
set_option Elab.async false
set_option linter.all false
set_option maxRecDepth 100000
namespace L2
open PySem PySem.Spec PyProof.Rows
section
variable {prog:Program} {w:World} {A:Around} {E:Value→Shared→Prop} {s:Shared}
end
section
variable {X:Cx}
end
@[irreducible] def rJoin (K:PySem.W.Frag):V→List V→Hp→VK→Prop:=fun x vs H Q=>∃ sep p ts,x=.str sep∧vs=[.ref p]∧(SqL K H p (ts.map V.str)∨SqT K H p (ts.map V.str))∧(ts.map (·.length)).sum+ts.length*sep.length≤16777216∧Q (.str (Txt.join sep ts)) H
theorem rjoin {K:PySem.W.Frag} {H:Hp} {Q:VK} {sep:Str} {p:Addr} {ts:List Str} (h:SqL K H p (ts.map V.str)∨SqT K H p (ts.map V.str)) (z:(ts.map (·.length)).sum+ts.length*sep.length≤16777216) (q:Q (.str (Txt.join sep ts)) H):rJoin K (.str sep) [.ref p] H Q:=by
  unfold rJoin; exact ⟨sep,p,ts,rfl,rfl,h,z,q⟩
theorem strs_vals:∀ {ts:List Str} {us:List Value},Vals (ts.map V.str) us→StrsAre us ts
  | [],_,h=>by cases h; exact .nil
  | t::ts,_,h=>by
    cases h with
    | cons r rr=>obtain ⟨tk,rfl⟩:=r; exact .cons t tk (strs_vals rr)
theorem mt_join {X:Cx} (K:PySem.W.Frag) (hK:X.K=K:=by rfl):MtR X "str.join" (rJoin K):=by
  subst hK
  unfold rJoin
  intro pins s σ H x vs v us Q I rx rv h
  obtain ⟨sep,p,ts,rfl,rfl,hp,z,q⟩:=h
  obtain ⟨t,rfl⟩:=rx
  obtain ⟨u,rfl,ru⟩:=vals1 rv
  cases ru
  rcases hp with hp | hp
  · obtain ⟨its,r,pl,_⟩:=I.list hp
    exact join_list pl.isList (strs_vals (by simpa using r)) z fun t' k=>⟨.str _,H,I.tok _,⟨_,rfl⟩,q⟩
  · obtain ⟨its,r,pl,_⟩:=I.tuple hp
    exact join_tuple pl (strs_vals (by simpa using r)) z fun t' k=>⟨.str _,H,I.tok _,⟨_,rfl⟩,q⟩
end L2
set_option Elab.async false
set_option linter.all false
set_option maxRecDepth 100000
namespace L2
open PySem PySem.Spec PyProof.Rows
section
variable {X:Cx}
end
end L2
set_option Elab.async false
set_option linter.all false
set_option maxRecDepth 100000
namespace L2
open PySem
section
variable {X:Cx} {pins:List (Addr × Obj)} {σ:St} {H:Hp} {s:Shared}
end
section
variable {X:Cx}
end
section
variable {K:PySem.W.Frag} {H:Hp} {p:Addr} {xs:List V} {i:Int} {v:V} {Q:VK}
end
theorem cutV_lo (xs:List V) (k:Nat):cutV xs (some (k:Int)) none=xs.drop k:=by
  unfold cutV
  rw [HT.sIx_nat,HT.sIx_none]
  by_cases h:k≤xs.length
  · rw [Nat.min_eq_left h]
    exact List.take_of_length_le (by rw [List.length_drop]; exact Nat.le_refl _)
  · rw [Nat.min_eq_right (by omega),List.drop_of_length_le (Nat.le_refl _),List.drop_of_length_le (by omega),List.take_nil]
theorem cutV_hi (xs:List V) (k:Nat):cutV xs none (some (k:Int))=xs.take k:=by
  unfold cutV
  rw [HT.sIx_nat,HT.sIx_none,List.drop_zero,Nat.sub_zero]
  by_cases h:k≤xs.length
  · rw [Nat.min_eq_left h]
  · rw [Nat.min_eq_right (by omega),List.take_of_length_le (Nat.le_refl _),List.take_of_length_le (by omega)]
@[irreducible] def rSlN (K:PySem.W.Frag):V→Option Int→Option Int→Hp→VK→Prop:=rSlL K
theorem sl_listN {X:Cx} (K:PySem.W.Frag) (h:X.K=K:=by rfl):SlR X (rSlN K):=by subst h; unfold rSlN; exact sl_list
theorem slL {K:PySem.W.Frag} {H:Hp} {a:Addr} {xs ys:List V} {lo hi:Option Int} {Q:VK} (h:H a=some (.lst xs)) (e:cutV xs lo hi=ys) (k:∀ q H',H q=none→H' q=some (.lst ys)→Same H H'→Q (.ref q) H'):rSlN K (.ref a) lo hi H Q:=by
  unfold rSlN; exact ⟨a,xs,rfl,SqL.of h,fun p hp=>by rw [e]; exact k p _ hp upd_same (Same.upd hp)⟩
end L2
set_option Elab.async false
set_option linter.all false
set_option maxRecDepth 100000
namespace L2
open PySem
section
variable {σ:St} {js:List Nat} {te:TE} {H:Hp} {Q:VK}
theorem snoc_all {R:Nat→V→Prop} {ys:List V} {y:V} (h:∀ (j:Nat) z,ys[j]?=some z→R j z) (r:R ys.length y):∀ (j:Nat) z,(ys++[y])[j]?=some z→R j z:=fun j z hj=>by
  by_cases hji:j<ys.length
  · rw [List.getElem?_append_left hji] at hj; exact h j z hj
  · rw [List.getElem?_append_right (by omega)] at hj
    have:j - ys.length=0:=by
      by_cases q:j - ys.length=0
      · exact q
      · rw [List.getElem?_eq_none (by simp; omega)] at hj; cases hj
    rw [this] at hj
    have hj':y=z:=by simpa using hj
    have:j=ys.length:=by omega
    subst this hj'
    exact r
theorem comp_mapT {J:It} {n:Nat} (src:Nat→V→Prop) (R:Nat→V→Hp→Prop) (hR:∀ i y H1 H2,SameT H1 H2→R i y H1→R i y H2) (hz:n≤100000)
    (hg:∀ i H',Same H H'→i<n→J.go i H'∧∀ x H3,J.yld i H' x H3→H3=H'∧src i x) (hst:∀ H',Same H H'→J.stop n H')
    (hs:∀ i x H' (Q':VK),src i x→i<n→Same H H'→(∀ y H5,Same H' H5→R i y H5→Q' y H5)→te (some x::slots σ js) H' Q')
    (hd:∀ D ys H',H D=none→H' D=some (.lst ys)→Same H H'→ys.length=n→(∀ (i:Nat) (y:V),ys[i]?=some y→R i y H')→Q (.ref D) H'):CompB J σ js tYes te H Q:=by
  refine comp_any (J:=J) (n:=n) src hz (fun D i ys H'=>H D=none∧Same H H'∧∀ (i:Nat) (y:V),ys[i]?=some y→R i y H') (fun D H1 hD _ s=>⟨hD,s,fun i y h=>by simp at h⟩)
    (fun D i ys H' hi _ p=>hg i H' p.2.1 hi) (fun D ys H' _ p=>hst H' p.2.1) (fun D i x ys H' hx hi hy hD p=>?_) (fun D ys H' hy hD hD' p=>hd D ys H' hD hD' p.2.1 hy p.2.2)
  refine hs i x H' _ hx hi p.2.1 fun y H5 s5 r=>?_
  refine ⟨s5 _ _ hD,fun H6 hD6 s6=>⟨p.1,Same.thru p.1 (p.2.1.trans s5) s6,?_⟩⟩
  have t6:=s6.t (s5 _ _ hD)
  exact snoc_all (R:=fun j z=>R j z H6) (fun j z hj=>hR j z _ _ (s5.t.trans t6) (p.2.2 j z hj)) (by rw [hy]; exact hR i y _ _ t6 r)
theorem comp_mapL {K:PySem.W.Frag} {a:Addr} {xs:List V} (R:Nat→V→Hp→Prop) (hR:∀ i y H1 H2,SameT H1 H2→R i y H1→R i y H2) (hz:xs.length≤100000) (hl:H a=some (.lst xs))
    (hs:∀ i x H' (Q':VK),xs[i]?=some x→Same H H'→(∀ y H5,Same H' H5→R i y H5→Q' y H5)→te (some x::slots σ js) H' Q')
    (hd:∀ D ys H',H D=none→H' D=some (.lst ys)→Same H H'→ys.length=xs.length→(∀ (i:Nat) (y:V),ys[i]?=some y→R i y H')→Q (.ref D) H'):CompB (Itl K a) σ js tYes te H Q :=
  comp_mapT (fun i x=>xs[i]?=some x) R hR hz (fun i H' s hi=>⟨⟨xs,xs[i],SqL.of (s _ _ hl),by simp [hi]⟩,fun x H3 y=>⟨y.1,y.2 xs (SqL.of (s _ _ hl))⟩⟩) (fun H' s=>⟨xs,SqL.of (s _ _ hl),Nat.le_refl _⟩)
    (fun i x H' Q' hx _ s k=>hs i x H' Q' hx s k) hd
theorem comp_mapU {K:PySem.W.Frag} {a:Addr} {xs:List V} (R:Nat→V→Hp→Prop) (hR:∀ i y H1 H2,SameT H1 H2→R i y H1→R i y H2) (hz:xs.length≤100000) (hl:H a=some (.tup xs))
    (hs:∀ i x H' (Q':VK),xs[i]?=some x→Same H H'→(∀ y H5,Same H' H5→R i y H5→Q' y H5)→te (some x::slots σ js) H' Q')
    (hd:∀ D ys H',H D=none→H' D=some (.lst ys)→Same H H'→ys.length=xs.length→(∀ (i:Nat) (y:V),ys[i]?=some y→R i y H')→Q (.ref D) H'):CompB (Itt K a) σ js tYes te H Q :=
  comp_mapT (fun i x=>xs[i]?=some x) R hR hz (fun i H' s hi=>⟨⟨xs,xs[i],SqT.of (s _ _ hl),by simp [hi]⟩,fun x H3 y=>⟨y.1,y.2 xs (SqT.of (s _ _ hl))⟩⟩) (fun H' s=>⟨xs,SqT.of (s _ _ hl),Nat.le_refl _⟩)
    (fun i x H' Q' hx _ s k=>hs i x H' Q' hx s k) hd
theorem SameBut.thru {p l:Addr} {H0 H1 H2:Hp} (hl:H0 l=none) (s:SameBut p H0 H1) (b:SameBut l H1 H2):SameBut p H0 H2:=fun c o e=>by
  have n:=Hide.ne e
  have e0:H0 c=some o:=by rw [Hide.at n] at e; exact e
  have nl:c≠l:=fun z=>by subst z; rw [hl] at e0; cases e0
  exact Hide.of n (b.at nl (s.at n e0))
end
end L2
set_option Elab.async false
set_option linter.all false
set_option maxRecDepth 100000
namespace L2
open PySem PySem.Spec PyProof.Rows
section
variable {X:Cx}
@[irreducible] def rCatU (K:PySem.W.Frag):R2:=fun x y H Q=>∃ a b xs ys,x=.ref a∧y=.ref b∧H a=some (.tup xs)∧H b=some (.tup ys)∧xs.length+ys.length≤1000∧∀ c H',Same H H'→H' c=some (.tup (xs++ys))→Q (.ref c) H'
theorem catU {K:PySem.W.Frag} {H:Hp} {Q:VK} {a b:Addr} {xs ys:List V} (h1:H a=some (.tup xs)) (h2:H b=some (.tup ys)) (hz:xs.length+ys.length≤1000) (k:∀ c H',Same H H'→H' c=some (.tup (xs++ys))→Q (.ref c) H'):rCatU K (.ref a) (.ref b) H Q:=by
  unfold rCatU; exact ⟨a,b,xs,ys,rfl,rfl,h1,h2,hz,k⟩
theorem op_catU (K:PySem.W.Frag) (hK:X.K=K:=by rfl):OpR X (binaryOp .Add) (rCatU K):=by
  subst hK
  unfold rCatU
  intro pins s σ H x y v u Q I rx ry h
  obtain ⟨a,b,xs,ys,rfl,rfl,ha,hb,hz,q⟩:=h
  by_cases hx:xs=[]
  · cases rx
    cases ry
    subst hx
    obtain ⟨its,r1,p1,_⟩:=I.tuple (SqT.of ha)
    obtain ⟨its2,r2,p2,_⟩:=I.tuple (SqT.of hb)
    cases r1
    obtain ⟨⟨cls,dd,data,sl⟩,ho,hc,n,hd⟩:=id p1
    obtain ⟨⟨cls2,dd2,data2,sl2⟩,ho2,hc2,n2,hd2⟩:=id p2
    simp only at hc hd hc2 hd2
    subst hc hd hc2 hd2
    exact concat_meets ⟨_,ho,rfl⟩ ⟨_,ho2,rfl⟩ noFill_tuple_add seq_tuple_add PySem.F.slot_tuple_add PySem.F.entry_tuple_add (PySem.F.args_tuple_add_2 _ _)
      (tuple_addW0 a b _ _ n n2 dd dd2 sl sl2 rfl) ⟨ho,ho2,⟨.ref b,H,I,rfl,q b H (Same.refl _) hb⟩⟩
  · refine op_catT pins s σ H _ _ v u Q I rx ry ⟨a,b,xs,ys,rfl,rfl,SqT.of ha,SqT.of hb,hx,Nat.le_trans hz (by decide),fun e=>?_,fun _ p hp=>q p _ (Same.upd hp) upd_same⟩
    subst e
    exact q a H (Same.refl _) (by rw [List.append_nil]; exact ha)
end
section
variable {X:Cx}
end
end L2
set_option Elab.async false
set_option linter.all false
set_option maxRecDepth 100000
namespace L2
open PySem PySem.Spec PyProof.Rows
theorem wt_mono {X:Cx} {e:Expr} {t:TT} (h:PTw X e t):PTw X e (tMono t):=⟨h.p.mono⟩
end L2
namespace L2
def ctxC:Nat:=82
end L2
set_option Elab.async false
set_option linter.all false
set_option maxRecDepth 100000
namespace L2
open PySem
def CzV (cls:Value) (vs:Array Value):Prop:=5<vs.size∧(vs[2]?=some .none∨cls=.ref ctxC)
theorem CzV.sz {cls:Value} {vs:Array Value} (h:CzV cls vs):1<vs.size:=Nat.lt_of_le_of_lt (by decide) h.1
theorem CzV.set {cls:Value} {vs:Array Value} {i:Nat} {v:Value} (h:CzV cls vs) (hi:i≠2):CzV cls (vs.setIfInBounds i v):=⟨by simpa using h.1,h.2.imp (fun e=>by rw [Array.getElem?_setIfInBounds_ne hi]; exact e) id⟩
def ExcAt (h:Heap) (a:Addr) (cls:Value) (od:Option Addr) (st:Option (Addr × Value)):Prop :=
  ∃ oe vs,h.get? a=some oe∧oe.cls=cls∧oe.dict=od∧oe.data=.fields vs∧CzV cls vs ∧
    match st with
    | none=>vs[1]?=some .none
    | some (T,fl)=>vs[1]?=some (.ref T)∧T≠a∧∃ oT ts,h.get? T=some oT∧oT.data=.fields ts∧3<ts.size∧ts[3]?=some fl
structure Kp (fs ex:List Addr) (h h':Heap):Prop where
  keep:∀ b o,h.get? b=some o→b ∉ fs→b ∉ ex→h'.get? b=some o
  slot:∀ b o,h.get? b=some o→b∈fs→b ∉ ex→∃ sl,h'.get? b=some { o with slots:=sl }
theorem Kp.any {fs ex:List Addr} {h h':Heap} (k:Kp fs ex h h') {b:Addr} {o:Obj} (e:h.get? b=some o) (n:b ∉ ex):∃ sl,h'.get? b=some { o with slots:=sl }:=by
  by_cases m:b∈fs
  · exact k.slot b o e m n
  · exact ⟨o.slots,k.keep b o e m n⟩
def stT:Option (Addr × Value)→List Addr
  | none=>[]
  | some (T,_)=>[T]
section
variable {M:Model} {A:Around} {E:Value→Shared→Prop} {s:Shared} {env:Env} {outer:List Env} {base:Heap} {L a:Addr} {cls:Value} {od:Option Addr}
theorem entry_ok {oe:Obj} {vs:Array Value} {head:Value} {had:Bool} {Q:Unit→Shared→Prop} (hfr:A.frames=some (env::outer)) (hl:s.heap.FunFrames base (env::outer)) (hf:env.frame=some L)
    (he:s.heap.get? a=some oe) (hc:oe.cls=cls) (ho:oe.dict=od) (hd:oe.data=.fields vs) (hz:CzV cls vs)
    (k:∀ h' T',ExcAt h' a cls od (some (T',rawInt L))→s.heap.get? T'=none→Kp ((env::outer).filterMap (·.frame)) [a] s.heap h'→Q () { s with heap:=h' }) :
    wpAny M A (do
      let fo ← frameOf env
      let pl ← entryPlaceOf L had
      let en ← EntryCells.newEntry head fo .none (rawInt L) .none pl
      setField (.ref a) 1 en) Q E s:=by
  have na:a ∉ (env::outer).filterMap (·.frame):=fun m=>by
    obtain ⟨_,o,e,nf⟩:=hl.mem m
    rw [he] at e
    cases e
    exact nf vs hd
  refine wpAny_bind (wpAny_frameOf_fun hfr hl hf fun h1 so=>?_)
  refine wpAny_bind (wpAny_entryPlaceOf fun pl ip=>?_)
  unfold EntryCells.newEntry newFields
  refine wpAny_bind (wpAny_newObj_type ?_ (ip.sizeOk5 ..))
  have e1:h1.get? a=some oe:=(so.2.1 a na).trans he
  generalize hT:({ cls:=.type "traceback",dict:=none,data:=.fields ([head,Value.ref L,Value.none,rawInt L,Value.none]++(if pl.isEmpty then List.replicate 6 Value.none else pl)).toArray }:Obj)=oT
  have e2:(h1.push oT).get? a=some oe:=Heap.get?_push_of_some _ e1
  refine wpAny_setField e2 hd hz.sz (k _ h1.objs.size ?_ ?_ ?_)
  · have ne:h1.objs.size≠a:=Nat.ne_of_gt (Heap.lt_size e1)
    have d3:=Obj.data_mapFields hd (·.setIfInBounds 1 (Value.ref h1.objs.size))
    refine ⟨_,_,Heap.get?_update_self _ e2 (Obj.isFreed_of_fields d3),?_,?_,d3,hz.set (by decide),by simp [hz.sz],ne,oT,_,?_,by rw [← hT],?_,?_⟩
    · rw [Obj.cls_mapFields]; exact hc
    · rw [← ho]
      obtain ⟨_,_,dt,_⟩:=oe
      cases dt <;> rfl
    · rw [Heap.get?_update_other _ _ (Ne.symm ne)]
      exact Heap.get?_push_size h1 (by rw [← hT]; rfl)
    · simp only [List.size_toArray,List.length_append,List.length_cons,List.length_nil] <;> omega
    · simp
  · cases q:s.heap.get? h1.objs.size with
    | none=>rfl
    | some o=>exact absurd (Heap.lt_size q) (by rw [so.1]; exact Nat.lt_irrefl _)
  · refine ⟨fun b o e n1 n2=>?_,fun b o e n1 n2=>?_⟩
    · have e3:h1.get? b=some o:=(so.2.1 b n1).trans e
      have nb:a≠b:=fun z=>n2 (by rw [z]; exact List.mem_cons_self)
      rw [Heap.get?_update_other _ _ nb]
      exact Heap.get?_push_of_some _ e3
    · obtain ⟨sl,e3⟩:=so.2.2 b o e
      have nb:a≠b:=fun z=>n2 (by rw [z]; exact List.mem_cons_self)
      refine ⟨sl,?_⟩
      rw [Heap.get?_update_other _ _ nb]
      exact Heap.get?_push_of_some _ e3
theorem note_ok {st:Option (Addr × Value)} {Q:Unit→Shared→Prop} (hfr:A.frames=some (env::outer)) (hl:s.heap.FunFrames base (env::outer)) (hf:env.frame=some L)
    (x:ExcAt s.heap a cls od st) (hst:st=none∨∃ T,st=some (T,.none))
    (k:∀ h' T',ExcAt h' a cls od (some (T',rawInt L))→s.heap.get? T'=none→Kp ((env::outer).filterMap (·.frame)) (a::stT st) s.heap h'→Q () { s with heap:=h' }) :
    wpAny M A (noteFrame (.ref a) env) Q E s:=by
  obtain ⟨oe,vs,he,hc,ho,hd,hz,x⟩:=x
  unfold noteFrame
  simp only [hf]
  rcases hst with rfl | ⟨T,rfl⟩
  · refine wpAny_bind (wpAny_field he hd x ?_)
    rw [if_neg (by decide)]
    exact entry_ok hfr hl hf he hc ho hd hz k
  · obtain ⟨x1,nT,oT,ts,hT,dT,zT,x3⟩:=x
    refine wpAny_bind (wpAny_field he hd x1 ?_)
    rw [if_pos (by simp)]
    refine wpAny_bind (wpAny_field hT dT x3 ?_)
    rw [if_neg (by simp [rawInt])]
    refine wpAny_bind (wpAny_setField hT dT zT ?_)
    have other:∀ b,b≠T→(s.heap.update T (Obj.mapFields (·.setIfInBounds 3 Value.none))).get? b=s.heap.get? b:=fun b hb=>Heap.get?_update_other _ _ (Ne.symm hb)
    have nrec:∀ b o,s.heap.get? b=some o→(∀ ws,o.data ≠ .fields ws)→b≠T:=fun b o e nf z=>by
      subst z; rw [hT] at e; cases e; exact nf ts dT
    refine entry_ok (hfr:=hfr) (hl:=hl.of_keeps fun b o e nf=>⟨o,(other b (nrec b o e nf)).trans e,rfl⟩) hf ((other a (Ne.symm nT)).trans he) hc ho hd hz fun h' T' y1 y2 y3=>k h' T' y1 ?_ ?_
    · by_cases z:T'=T
      · subst z
        have:=Heap.get?_update_self (Obj.mapFields (·.setIfInBounds 3 Value.none)) hT (Obj.isFreed_of_fields (Obj.data_mapFields dT _))
        rw [this] at y2; cases y2
      · rw [← other T' z]; exact y2
    · refine ⟨fun b o e n1 n2=>y3.keep b o ((other b fun z=>n2 (by rw [z]; simp [stT])).trans e) n1 fun z=>n2 (List.mem_cons.mpr (.inl (List.mem_singleton.mp z))),fun b o e n1 n2=>y3.slot b o ((other b fun z=>n2 (by rw [z]; simp [stT])).trans e) n1 fun z=>n2 (List.mem_cons.mpr (.inl (List.mem_singleton.mp z)))⟩
theorem land_ok {T:Addr} {fl:Value} {Q:Unit→Shared→Prop} (x:ExcAt s.heap a cls od (some (T,fl)))
    (k:∀ h',ExcAt h' a cls od (some (T,.none))→(∀ b o,b≠T→s.heap.get? b=some o→h'.get? b=some o)→Q () { s with heap:=h' }):wpAny M A (setFlight (.ref a) none) Q E s:=by
  obtain ⟨oe,vs,he,hc,ho,hd,hz,x1,nT,oT,ts,hT,dT,zT,x3⟩:=x
  unfold setFlight
  refine wpAny_bind (wpAny_field he hd x1 ?_)
  rw [if_pos (by simp)]
  refine wpAny_setField hT dT zT (k _ ?_ fun b o hb e=>?_)
  · have d2:=Obj.data_mapFields dT (·.setIfInBounds 3 Value.none)
    exact ⟨oe,vs,by rw [Heap.get?_update_other _ _ nT]; exact he,hc,ho,hd,hz,x1,nT,_,_,Heap.get?_update_self _ hT (Obj.isFreed_of_fields d2),d2,by simpa using zT,by simp [zT]⟩
  · rw [Heap.get?_update_other _ _ (Ne.symm hb)]; exact e
theorem leave_ok {st:Option (Addr × Value)} {Q:Unit→Shared→Prop} (hfr:A.frames=some (env::outer)) (hl:s.heap.FunFrames base (env::outer)) (hf:env.frame=some L)
    (x:ExcAt s.heap a cls od st) (hst:st=none∨∃ T,st=some (T,.none))
    (k:∀ h' T',ExcAt h' a cls od (some (T',.none))→s.heap.get? T'=none→Kp ((env::outer).filterMap (·.frame)) (a::stT st) s.heap h'→Q () { s with heap:=h' }) :
    wpAny M A (leaving env (.ref a)) Q E s:=by
  unfold leaving
  refine wpAny_bind (note_ok hfr hl hf x hst fun h1 T1 y1 y2 y3=>?_)
  refine land_ok y1 fun h2 z1 z2=>?_
  refine k h2 T1 z1 y2 ⟨fun b o e n1 n2=>z2 b o (fun q=>?_) (y3.keep b o e n1 n2),fun b o e n1 n2=>?_⟩
  · subst q; rw [y2] at e; cases e
  · obtain ⟨sl,e1⟩:=y3.slot b o e n1 n2
    exact ⟨sl,z2 b _ (fun q=>by subst q; rw [y2] at e; cases e) e1⟩
end
end L2
set_option Elab.async false
set_option linter.all false
set_option maxRecDepth 100000
namespace L2
open PySem PySem.Spec PyProof.Rows
section
variable {P:Program} {w:World} {H H1 H2:Hp} {h h1 h2 base:Heap} {fs fs2 ex:List Addr} {a:Addr} {o:HO}
theorem ObjOk.get (x:ObjOk P w H h a o):∃ ob,h.get? a=some ob:=by
  cases o with
  | lst xs=>obtain ⟨_,_,_,_,e⟩:=x; exact ⟨_,e⟩
  | tup xs=>obtain ⟨_,_,_,o,e,_⟩:=x; exact ⟨_,e⟩
  | dK kvs=>obtain ⟨_,_,_,_,o,_,_,e,_⟩:=x; exact ⟨_,e⟩
  | dT kvs=>obtain ⟨_,_,_,_,o,_,_,e,_⟩:=x; exact ⟨_,e⟩
  | set S n=>obtain ⟨o,_,_,_,e,_⟩:=x; exact ⟨_,e⟩
  | ins C dx fs=>obtain ⟨_,_,_,e,_⟩:=x; exact ⟨_,e⟩
  | own y=>obtain ⟨_,e⟩:=x; exact ⟨_,e⟩
  | xd fs=>obtain ⟨_,⟨_,_,_,e,_⟩,_⟩:=x; exact ⟨_,e⟩
  | rng lo hi=>obtain ⟨_,_,_,e⟩:=x; exact ⟨_,e⟩
  | frz ob u=>obtain ⟨e,_⟩:=x; exact ⟨_,e⟩
  | tbl ps=>exact ⟨_,(show h.get? a=some _ from x)⟩
  | met f y=>exact ⟨_,(show h.get? a=some _ from x)⟩
  | ext φ=>obtain ⟨_,e,_⟩:=x; exact e
theorem HOk.kp (x:HOk P w H h) (k:Kp fs ex h h1) (hf:∀ b∈fs,H b=none) (he:∀ b∈ex,H b=none):HOk P w H h1:=fun a o e =>
  (x a o e).stay (fun b u hb q=>by
    have nb:H b≠none:=by
      rcases hb with rfl | hb
      · rw [e]; simp
      · rw [hb]; simp
    exact k.keep b u q (fun z=>nb (hf b z)) fun z=>nb (he b z)) (fun _ q=>q) fun _ _ q=>q
theorem Un.tr (u:Un fs [] H H1 h h1) (v:Un fs2 [] H1 H2 h1 h2) (hf:∀ b∈fs2,b∈fs∨h.get? b=none):Un fs [] H H2 h h2 where
  keep:=fun b o e n m _=>v.keep b o (u.keep b o e n m (by simp)) (u.free b o e n (by simp)) (fun z=>(hf b z).elim m fun q=>by rw [e] at q; cases q) (by simp)
  slot:=fun b o e n m _=>by
    obtain ⟨s1,e1⟩:=u.slot b o e n m (by simp)
    obtain ⟨s2,e2⟩:=v.any e1 (u.free b o e n (by simp)) (by simp)
    exact ⟨s2,e2⟩
  free:=fun b o e n _=>by
    obtain ⟨o1,e1⟩:=u.there b o e (by simp)
    exact v.free b o1 e1 (u.free b o e n (by simp)) (by simp)
  there:=fun b o e _=>by
    obtain ⟨o1,e1⟩:=u.there b o e (by simp)
    exact v.there b o1 e1 (by simp)
  tups:=fun b xs e=>v.tups b xs (u.tups b xs e)
  frzs:=fun b ob xs e=>v.frzs b ob xs (u.frzs b ob xs e)
  tbls:=fun b ps e=>by
    obtain ⟨m1,e1⟩:=u.tbls b ps e
    obtain ⟨m2,e2⟩:=v.tbls b _ e1
    exact ⟨m1++m2,by rw [e2,Array.append_assoc]⟩
theorem Un.kp (u:Un fs [] H H1 h h1) (k:Kp fs2 ex h1 h2) (hf:∀ b∈fs2,b∈fs∨h.get? b=none) (he:∀ b∈ex,h.get? b=none):Un fs [] H H1 h h2 where
  keep:=fun b o e n m _=>k.keep b o (u.keep b o e n m (by simp)) (fun z=>(hf b z).elim m fun q=>by rw [e] at q; cases q) fun z=>by rw [he b z] at e; cases e
  slot:=fun b o e n m _=>by
    obtain ⟨s1,e1⟩:=u.slot b o e n m (by simp)
    obtain ⟨s2,e2⟩:=k.any e1 fun z=>by rw [he b z] at e; cases e
    exact ⟨s2,e2⟩
  free:=u.free
  there:=fun b o e _=>by
    obtain ⟨o1,e1⟩:=u.there b o e (by simp)
    obtain ⟨s2,e2⟩:=k.any e1 fun z=>by rw [he b z] at e; cases e
    exact ⟨_,e2⟩
  tups:=u.tups
  frzs:=u.frzs
  tbls:=u.tbls
theorem Un.put {u:HO} (x:Un fs [] H H1 h h1) (ha:h.get? a=none) (hn:H1 a=none):Un fs [] H (upd H1 a u) h h1 where
  keep:=x.keep
  slot:=x.slot
  free:=fun b ob e n m=>by rw [upd_ne (fun z=>by subst z; rw [ha] at e; cases e)]; exact x.free b ob e n m
  there:=x.there
  tups:=fun b xs e=>by rw [upd_ne (ne_of_none (x.tups b xs e) hn)]; exact x.tups b xs e
  frzs:=fun b ob xs e=>by rw [upd_ne (ne_of_none (x.frzs b ob xs e) hn)]; exact x.frzs b ob xs e
  tbls:=fun b ps e=>by
    obtain ⟨m,q⟩:=x.tbls b ps e
    exact ⟨m,by rw [upd_ne (ne_of_none q hn)]; exact q⟩
theorem HOk.put {u:HO} (x:HOk P w H h) (hn:H a=none) (new:ObjOk P w (upd H a u) h a u):HOk P w (upd H a u) h:=fun b v e=>by
  by_cases hb:b=a
  · subst hb; rw [upd_same] at e; cases e; exact new
  · rw [upd_ne hb] at e
    exact (x b v e).stay (fun c q _ r=>r) (fun c q=>by rw [upd_ne (ne_of_none q hn)]; exact q) fun c xs q=>by rw [upd_ne (ne_of_none q hn)]; exact q
theorem funFrames_kp:∀ {l:List Env},(∀ b∈frs l,∀ o,h.get? b=some o→∃ sl,h1.get? b=some { o with slots:=sl })→h.FunFrames base l→h1.FunFrames base l
  | [],_,_=>trivial
  | env::r,k,⟨hk,⟨L,o,hf,hn,ho,hd⟩,hr⟩=>by
    have hL:L∈frs (env::r):=List.mem_filterMap.mpr ⟨env,List.mem_cons_self,hf⟩
    obtain ⟨sl,e⟩:=k L hL o ho
    refine ⟨hk,⟨L,_,hf,hn,e,hd⟩,funFrames_kp (fun b hb=>k b ?_) hr⟩
    obtain ⟨e',m,q⟩:=List.mem_filterMap.mp hb
    exact List.mem_filterMap.mpr ⟨e',List.mem_cons_of_mem _ m,q⟩
end
def CX1 (P:Program) (w:World):CXT:=fun outer H s E e s'=>∃ (a T:Addr) (cls:Value) (od:Option Addr) (H':Hp),e=.ref a∧s'.os=s.os∧AllBare s'.gens∧Un (frs outer) [] H H' s.heap s'.heap∧HOk P w H' s'.heap ∧
  s.heap.get? a=none∧s.heap.get? T=none∧H' a=none∧H' T=none∧ExcAt s'.heap a cls od (some (T,.none))∧E cls od H'
structure XPass (X:Cx) (Ex:St→XK):Prop where
  p:∀ (pins:List (Addr × Obj)) (σ:St) (H:Hp) (s:Shared) (e:Value) (s':Shared),Inv X pins σ H s→CX1 X.prog X.w X.stack H s (Ex σ) e s'→X.xe e s'
structure XMade (X:Cx) (Ex:St→XK):Prop where
  p:∀ (pins:List (Addr × Obj)) (σ:St) (H:Hp) (s:Shared) (h':Heap) (tk:Nat) (a:Addr) (cls:Value) (od:Option Addr),Inv X pins σ H s→(∀ b o,s.heap.get? b=some o→h'.get? b=some o)→s.heap.get? a=none→H a=none →
    ExcAt h' a cls od none→Ex σ cls od H→X.xe (.ref a) { s with heap:=h',toks:=tk }
section
variable {P:Program} {w:World} {K:PySem.W.Frag} {mg:Str→Option Value} {base:Heap} {N:List Str} {qual:Str} {scope:Scope} {f:Addr} {cd:Value} {A:Around} {outer:List Env} {s:Shared} {H:Hp} {E:XK}
theorem leave_fn {pins:List (Addr × Obj)} {σ:St} {H1 H2:Hp} {s1 s2:Shared} {a:Addr} {cls:Value} {od:Option Addr} {st:Option (Addr × Value)}
    (I:Inv (cxOf (CX1 P w) P w K mg base N qual scope f cd A outer s H E) pins σ H1 s1) (os:s2.os=s1.os) (bare:AllBare s2.gens)
    (un:Un (frs (cxOf (CX1 P w) P w K mg base N qual scope f cd A outer s H E).stack) [] H1 H2 s1.heap s2.heap) (hok:HOk P w H2 s2.heap) (x:ExcAt s2.heap a cls od st) (hst:st=none∨∃ T,st=some (T,.none))
    (fa:s1.heap.get? a=none) (na:H2 a=none) (fT:∀ T∈stT st,s1.heap.get? T=none) (nT:∀ T∈stT st,H2 T=none) (q:E cls od H2) :
    (cxOf (CX1 P w) P w K mg base N qual scope f cd A outer s H E).xe (.ref a) s2:=by
  have hff:s2.heap.FunFrames (cxOf (CX1 P w) P w K mg base N qual scope f cd A outer s H E).base (cxOf (CX1 P w) P w K mg base N qual scope f cd A outer s H E).stack :=
    funFrames_kp (fun b hb o e=>un.any e (I.stkFree b hb) (by simp)) I.stack
  have old:∀ b,s1.heap.get? b=none→s.heap.get? b=none:=fun b e=>by
    cases q:s.heap.get? b with
    | none=>rfl
    | some o =>
      obtain ⟨o',e'⟩:=I.base.there b o q (by intro z; cases z)
      rw [e] at e'; cases e'
  have old2:∀ b,s2.heap.get? b=none→s1.heap.get? b=none:=fun b e=>by
    cases q:s1.heap.get? b with
    | none=>rfl
    | some o =>
      obtain ⟨o',e'⟩:=un.there b o q (by simp)
      rw [e] at e'; cases e'
  have hfs:∀ b∈frs (cxOf (CX1 P w) P w K mg base N qual scope f cd A outer s H E).stack,b∈frs outer∨s.heap.get? b=none:=fun b hb=>by
    have hb':b∈s.heap.objs.size::frs outer:=hb
    rcases List.mem_cons.mp hb' with z | z
    · right
      rw [z]
      exact Heap.get?_none_of_le (Nat.le_refl _)
    · exact .inl z
  show wpAny (model P w) (A.deeper (envOfC qual scope s.heap.objs.size f cd)) (leaving (envOfC qual scope s.heap.objs.size f cd) (.ref a)) _ _ s2
  refine leave_ok I.ok.frames hff rfl x hst fun h3 T3 y1 y2 y3=>?_
  have hfree:∀ b∈frs (cxOf (CX1 P w) P w K mg base N qual scope f cd A outer s H E).stack,H2 b=none:=fun b hb=>by
    have ff:=I.stack
    obtain ⟨_,o,ho,_⟩:=ff.mem hb
    exact un.free b o ho (I.stkFree b hb) (by simp)
  have hex:∀ b∈a::stT st,s1.heap.get? b=none:=fun b hb=>by
    rcases List.mem_cons.mp hb with rfl | hb
    · exact fa
    · exact fT b hb
  refine ⟨a,T3,cls,od,H2,rfl,os.trans I.os,bare,((I.base.tr un hfs).kp y3 hfs fun b hb=>old b (hex b hb)),hok.kp y3 hfree (fun b hb=>?_),old a fa,old T3 (old2 T3 y2),na,?_,y1,q⟩
  · rcases List.mem_cons.mp hb with rfl | hb
    · exact na
    · exact nT b hb
  · cases z:H2 T3 with
    | none=>rfl
    | some u =>
      obtain ⟨ob,e⟩:=(hok T3 u z).get
      rw [y2] at e; cases e
theorem xpass_fn:XPass (cxOf (CX1 P w) P w K mg base N qual scope f cd A outer s H E) (fun _=>E):=⟨fun pins σ H1 s1 e s2 I hc=>by
  obtain ⟨a,T,cls,od,H2,rfl,os,bare,un,hok,fa,fT,na,nT,x,q⟩:=hc
  exact leave_fn I os bare un hok x (.inr ⟨T,rfl⟩) fa na (fun b hb=>by cases List.mem_singleton.mp hb; exact fT) (fun b hb=>by cases List.mem_singleton.mp hb; exact nT) q⟩
theorem xmade_fn:XMade (cxOf (CX1 P w) P w K mg base N qual scope f cd A outer s H E) (fun _=>E):=⟨fun pins σ H1 s1 h' tk a cls od I k fa na x q =>
  leave_fn (s2:={ s1 with heap:=h',toks:=tk }) I rfl I.bare (Un.kept k) (I.hok.kept k) x (.inl rfl) fa na (fun b hb=>by cases hb) (fun b hb=>by cases hb) q⟩
end
def tCallX (sp:Sp) (Ex:St→XK) (t:TA):TE:=fun σ H Q=>t σ H fun vs H1=>sp vs H1 Q (Ex σ)
section
variable {X:Cx} {k:Nat} {f C:Addr} {fd:FuncData} {ps:List Str} {sp:Sp} {Ex:St→XK} {x:Str} {p pos np cpos:Pos} {e:Expr} {es:List Expr} {t:TA}
theorem run_fnX {pins:List (Addr × Obj)} {σ:St} {H:Hp} {s:Shared} {Q:VK} {us:List Value} {vs:List V} (F:FnOk X.prog X.w X.K X.mg X.base (CX1 X.prog X.w) k f fd ps sp) (hr:Room k X.A) (hb:Binds X.K fd ps []) (hx:XPass X Ex)
    (I:Inv X pins σ H s) (r:Vals vs us) (h:sp vs H Q (Ex σ)):wpAny (model X.prog X.w) X.A (call (.ref f) us) (EP X pins σ Q) X.xe s:=by
  have hl:(us++[]).length=ps.length:=by rw [List.append_nil,← r.length]; exact F.len _ _ _ _ h
  have hbt:=hb s us I.kIn hl
  rw [List.append_nil] at hbt
  refine wpAny_call (codeAny_mono (F.run X.A X.stack s H ⟨us,[]⟩ us vs Q (Ex σ) hr I.env0 hbt r h) fun r s' hq=>?_)
  cases r with
  | error e=>exact hx.p pins σ H s e s' I hq
  | ok fl =>
    cases fl with
    | ret u=>exact I.after hq
    | next=>exact False.elim hq
    | brk=>exact False.elim hq
    | cont=>exact False.elim hq
theorem we_fnX (F:FnC (CX1 X.prog X.w) X.prog X.w X.K X.mg X.base k x ps sp) (hr:Room k X.A) (hx:XPass X Ex) (ha:PAw X (e::es) t) (hg:Gl X x:=by rfl)
    (hdb:(x == ("__debug__" : Str))=false:=by decide) (he:starEach (e::es) X.env=(false,eval e X.env)::starEach es X.env:=by first | exact se_Name | exact se_Constant | exact se_BoolOp | exact se_BinOp | exact se_UnaryOp | exact se_IfExp | exact se_Dict | exact se_ListComp | exact se_Compare | exact se_Call | exact se_Attribute | exact se_Subscript | exact se_List | exact se_Tuple | exact se_JoinedStr | exact se_GeneratorExp)
    (hpl:(backTo pos (starEach es X.env)).any (·.1)=false:=by repeat (first | exact ap_nil | refine ap_cons (by first | exact se_Name | exact se_Constant | exact se_BoolOp | exact se_BinOp | exact se_UnaryOp | exact se_IfExp | exact se_Dict | exact se_ListComp | exact se_Compare | exact se_Call | exact se_Attribute | exact se_Subscript | exact se_List | exact se_Tuple | exact se_JoinedStr | exact se_GeneratorExp) ?_)) :
    PEw X (.Call (.Name x p) (e::es) [] pos) (tCallX sp Ex t):=⟨by
  obtain ⟨f,fd,h1,h2,h3,h4⟩:=F.ex
  intro pins s σ H Q I h
  refine wpAny_Call_Name_kw (ld_glob I hg h2 ?_ hdb)
  refine PySem.W.callWith_K (h₀:=X.base) I.ok.mod.kin h3 (thn (ha.p pos pins s σ H _ I h) fun us s1 ⟨vs,H1,I1,r,q⟩=>⟨I1.kIn,?_⟩) he hpl
  exact run_fnX h1 hr h4 hx I1 r q⟩
end
theorem Fun.okx {P:Program} {w:World} {K:PySem.W.Frag} {mg:Str→Option Value} {base:Heap} {x qual:Str} {st:Stmt} {f:Addr} {fd:FuncData} {N ps:List Str} {k:Nat} {sp:Sp} (F:Fun K x qual st f fd) (S:FnScope N ps (defScope st)) (len:∀ vs H Q E,sp vs H Q E→vs.length=ps.length)
    (hbody:∀ (cdv:Value) (A:Around) (outer:List Env) (s:Shared) (H:Hp) (vs:List V) (Q:VK) (E:XK),Room k (A.deeper (envOfC qual (defScope st) s.heap.objs.size f cdv))→sp vs H Q E →
      XPass (cxOf (CX1 P w) P w K mg base N qual (defScope st) f cdv A outer s H E) (fun _=>E)→XMade (cxOf (CX1 P w) P w K mg base N qual (defScope st) f cdv A outer s H E) (fun _=>E) →
      ∃ t,PSsw (cxOf (CX1 P w) P w K mg base N qual (defScope st) f cdv A outer s H E) (defBody st) t∧t { nx:=fun _ H'=>Q .non H',rt:=Q } (start N vs) H):FnOk P w K mg base (CX1 P w) (k+1) f fd ps sp:=by
  obtain ⟨oc,od,kV,doc,pm,an,cdv,ct,osl,rfl,lk,hcd⟩:=F.ex
  refine fn_of lk hcd S len fun A outer s H vs Q E hr hsp=>?_
  obtain ⟨t,h,q⟩:=hbody cdv A outer s H vs Q E hr hsp xpass_fn xmade_fn
  exact ⟨t,h.p,q⟩
theorem exc_obj {K:PySem.W.Frag} {h:Heap} {C:Addr} {bmB:List Value} {newId:String} (X:K.In h) (q:PySem.W.excIn K C bmB newId=true) :
    ∃ bm N nm qn bs hdct sn sub ab col dd k0 k1 k2 k3 k5 mN,h.get? C=some (excClassObj nm qn C N bs bm hdct sn sub ab col dd k0 k1 k2 k3 k5 newId)∧h.Ns N mN∧mN "__init__" = none∧OwnTail h bmB bm:=by
  unfold PySem.W.excIn at q
  cases e:K.lookup C with
  | none=>rw [e] at q; cases q
  | some o =>
    rw [e] at q
    obtain ⟨oc,dd,dt,sl⟩:=o
    split at q
    · rename_i _ dd' cd sl' ho
      cases ho
      split at q
      · rename_i C' bm k0 k1 k2 k3 n k5 hm hs
        rw [Bool.and_eq_true,Bool.and_eq_true,Bool.and_eq_true,Bool.and_eq_true,Bool.and_eq_true] at q
        obtain ⟨⟨⟨⟨⟨q1,q2⟩,q3⟩,q4⟩,q5⟩,q6⟩:=q
        have q1:C'=C:=by simpa using q1
        have q2:n=newId:=by simpa using q2
        have q3:cd.hasDel=false:=by simpa using q3
        have q6:PySem.W.nsIn K cd.ns "__init__" = some none:=by simpa using q6
        subst q1 q2
        obtain ⟨nm,bs,mro,ns,qn,hd,sn,sub,ab,col,del⟩:=cd
        cases hm
        cases q3
        obtain ⟨l⟩:=sl
        cases hs
        exact ⟨bm,ns,nm,qn,bs,hd,sn,sub,ab,col,dd,k0,k1,k2,k3,k5,_,X _ _ e,.of_isNs (PySem.W.isNs_of_in X q5),PySem.W.nsMap_none_of_in X q5 q6,PySem.W.tail_of_in X q4⟩
      · cases q
    · cases q
theorem MadeExcOf.at {h h':Heap} {a:Addr} {cls:Value} {args:List Value} (x:Heap.MadeExcOf h h' a cls args):ExcAt h' a cls none none:=by
  obtain ⟨t,e,_,_⟩:=x.there
  exact ⟨_,_,e,rfl,rfl,rfl,⟨by show 5<6; decide,.inl rfl⟩,rfl⟩
def tRaise (cls:Value) (Ex:St→XK) (t:TA):TS:=fun _ σ H=>t σ H fun vs H1=>vs.length≤64∧Ex σ cls none H1
abbrev mroVE:List Value:=[.type "ValueError",.type "Exception",.type "BaseException",.type "object"]
section
variable {X:Cx} {C:Addr} {Ex:St→XK} {x:Str} {pos np cpos:Pos} {e:Expr} {es:List Expr} {t:TA}
theorem ws_raise (q:PySem.W.excIn X.K C mroVE "ValueError.__new__" = true) (hm:X.mg x=some (.ref C)) (hc:X.calm=true) (hx:XMade X Ex) (ha:PAw X (e::es) t) (hg:Gl X x:=by rfl)
    (hdb:(x == ("__debug__" : Str))=false:=by decide) (he:starEach (e::es) X.env=(false,eval e X.env)::starEach es X.env:=by first | exact se_Name | exact se_Constant | exact se_BoolOp | exact se_BinOp | exact se_UnaryOp | exact se_IfExp | exact se_Dict | exact se_ListComp | exact se_Compare | exact se_Call | exact se_Attribute | exact se_Subscript | exact se_List | exact se_Tuple | exact se_JoinedStr | exact se_GeneratorExp)
    (hpl:(backTo cpos (starEach es X.env)).any (·.1)=false:=by repeat (first | exact ap_nil | refine ap_cons (by first | exact se_Name | exact se_Constant | exact se_BoolOp | exact se_BinOp | exact se_UnaryOp | exact se_IfExp | exact se_Dict | exact se_ListComp | exact se_Compare | exact se_Call | exact se_Attribute | exact se_Subscript | exact se_List | exact se_Tuple | exact se_JoinedStr | exact se_GeneratorExp) ?_)) :
    PSw X (.Raise (some (.Call (.Name x np) (e::es) [] cpos)) none pos) (tRaise (.ref C) Ex t):=⟨by
  intro pins s σ H D I h
  obtain ⟨bm,N,nm,qn,bs,hdct,sn,sub,ab,col,dd,k0,k1,k2,k3,k5,mN,hC,hN,hni,TL⟩:=exc_obj I.ok.mod.kin q
  have FB:=PySem.F.excBase_ValueError
  refine wpAny_Raise_call_subT (C:=C) (nm:=nm) (q:=qn) (N:=N) (bs:=bs) (bm:=bm) (hdct:=hdct) (sn:=sn) (sub:=sub) (ab:=ab) (col:=col) (dd:=dd) (k0:=k0) (k1:=k1) (k2:=k2) (k3:=k3) (k5:=k5) FB (mN:=mN)
    (TL.hasType FB.hasBase) (I.ok.hd hc) ?_ hni (ld_glob I hg hm ⟨rfl,?_⟩ hdb)
  · rw [he]
    show (false || (backTo cpos (starEach es X.env)).any (·.1))=false
    rw [hpl]; rfl
  · have hA:=ha.p cpos pins s σ H _ I h
    rw [he] at hA ⊢
    refine Calls.evalArgs_plain (thn hA fun us s1 ⟨vs,H1,I1,r,hz,q⟩=>⟨rfl,?_,I1.bk _ _ hC,hN.keeps I1.bk,TL.keeps I1.bk,fun h' a x=>?_⟩)
    · rw [← r.length]; exact small64 hz
    · have fresh:=x.new
      have na:H1 a=none:=by
        cases z:H1 a with
        | none=>rfl
        | some u=>obtain ⟨ob,e⟩:=(I1.hok a u z).get; rw [fresh] at e; cases e
      exact hx.p pins σ H1 s1 h' s1.toks a _ none I1 x.keeps fresh na (MadeExcOf.at x) q⟩
end
end L2
set_option Elab.async false
set_option linter.all false
set_option maxRecDepth 100000
namespace L2
open PySem PySem.W PySem.Spec PySem.Calls PyProof.Rows
structure ExcCls (K:Frag) (C:Addr):Prop where
  ga:findIn K (.ref C) "__getattribute__" = some (some (.builtin "BaseException.__getattribute__"))
  gt:findIn K (.ref C) "__getattr__" = some none
  sub:subIn K (.ref C) (.type "BaseException")=some true
  cls:(clsIn K C).isSome=true
  kc:findIn K (.ref C) "__class__" = some (some (.builtin "object.__class__"))
  kg:specialIn K (.builtin "object.__class__") "__get__" = some (some (.builtin "getset_descriptor.__get__"))
  kt:takesIn K (.builtin "object.__class__")=some true
  ob:mroIn K C (.type "object")=some true
section
variable {prog:Program} {w:World} {A:Around} {E:Value→Shared→Prop} {s:Shared} {K:Frag} {x C:Addr} {ox:Obj} {od:Option Obj} {name:Str}
theorem exc_check {nv:Value} {Q:Unit→Shared→Prop} (c:ExcCls K C) (X:K.In s.heap) (I:InstAt s.heap x ox C od) (h:Q () s):wpAny (model prog w) A (checkBuiltinCall "BaseException.__getattribute__" ⟨[.ref x,nv],[]⟩) Q E s:=by
  have hk:builtinKind "BaseException.__getattribute__" = some .slot:=by decide +kernel
  have hsp:splitId "BaseException.__getattribute__" = some ("BaseException", "__getattribute__"):=by decide +kernel
  have LT:=I.type (M:=model prog w)
  have LS:=looks_subIn (M:=model prog w) X c.sub
  have LI:Looks (model prog w) s.heap (isInstance (.ref x) (.type "BaseException")) true:=LT.andThen LS
  have ha:=F.args_bexc_ga (.ref x) nv
  obtain ⟨hh,g,d,t,os⟩:=s
  simp only [checkBuiltinCall,hk,hsp]
  refine wpAny_bind (LI.at ?_)
  repeat (any_goals (first | assumption | wp_step))
theorem exc_call {v:Value} {tk:Tok} {R:Result→Shared→Prop} (c:ExcCls K C) (X:K.In s.heap) (I:InstAt s.heap x ox C od) (hf:findObj K C od name=some (.value v)) (h:R (.ok (.ret v)) s) :
    codeAny (model prog w) A (.call (.builtin "BaseException.__getattribute__") ⟨[.ref x,.str name tk],[]⟩) R s:=by
  refine codeAny_call_builtin F.attr_ValueError.ga.plain F.entry_bexc_ga (exc_check c X I ?_)
  have LT:=I.type (M:=model prog w)
  have LF:=looks_find (M:=model prog w) X I hf
  obtain ⟨hh,g,d,t,os⟩:=s
  unfold Builtin.«object.__getattribute__»
  refine wpAny_bind ?_
  repeat (any_goals (first | assumption | (refine LT.at ?_) | (refine LF.at ?_) | wp_step))
theorem exc_callB {g a v:Value} {tk:Tok} {R:Result→Shared→Prop} (c:ExcCls K C) (X:K.In s.heap) (I:InstAt s.heap x ox C od) (hf:findObj K C od name=some (.bind g a))
    (h:∀ A' R',(R' (.ok (.ret v)) s)→codeAny (model prog w) A' (.call g ⟨[a,.ref x,.ref C],[]⟩) R' s) (hq:R (.ok (.ret v)) s) :
    codeAny (model prog w) A (.call (.builtin "BaseException.__getattribute__") ⟨[.ref x,.str name tk],[]⟩) R s:=by
  refine codeAny_call_builtin F.attr_ValueError.ga.plain F.entry_bexc_ga (exc_check c X I ?_)
  have LT:=I.type (M:=model prog w)
  have LF:=looks_find (M:=model prog w) X I hf
  obtain ⟨hh,gg,d,t,os⟩:=s
  unfold Builtin.«object.__getattribute__»
  refine wpAny_bind ?_
  repeat (any_goals (first | assumption | (refine LT.at ?_) | (refine LF.at ?_) | (refine h _ _ ?_) | wp_step))
theorem exc_by {v:Value} {nv:Value} {fill expr:Bool} {Q:Value→Shared→Prop} (c:ExcCls K C) (X:K.In s.heap) (I:InstAt s.heap x ox C od)
    (hc:∀ A' R',(R' (.ok (.ret v)) s)→codeAny (model prog w) A' (.call (.builtin "BaseException.__getattribute__") ⟨[.ref x,nv],[]⟩) R' s) (hv:handedIn v=true) (h:Q v s):wpAny (model prog w) A (getAttrBy (.ref x) nv fill expr) Q E s:=by
  have LT:=I.type (M:=model prog w)
  have L1:=looks_findIn (M:=model prog w) X c.ga
  have L2:=looks_findIn (M:=model prog w) X c.gt
  have hb:=F.attr_ValueError.ga.bind (.ref x)
  have n0:(expr&&onTheHeap (Value.builtin "BaseException.__getattribute__"))=false:=by cases expr <;> rfl
  have n1:(onTheHeap (Value.ref C)&&Value.builtin "BaseException.__getattribute__" == Value.builtin "object.__getattribute__")=false:=by
    rw [show (Value.builtin "BaseException.__getattribute__" == Value.builtin "object.__getattribute__")=false by decide +kernel]; rfl
  obtain ⟨hh,g,d,t,os⟩:=s
  unfold getAttrBy
  refine wpAny_holding (wpAny_bind (LT.at (wpAny_bind (L1.at ?_))))
  dsimp only
  rw [if_neg (by rw [n1]; exact Bool.false_ne_true)]
  unfold getAttrByItsOwn hookBefore
  rw [if_pos (show onTheHeap (Value.ref C)=true from rfl)]
  refine wpAny_bind (L2.at (wpAny_bind (wpAny_attempt (wpAny_holding ?_))))
  unfold callGetattribute
  rw [if_neg (by rw [n0]; exact Bool.false_ne_true)]
  unfold boundAndCalled
  refine wpAny_bind (wpAny_of_eq hb (wpAny_call (hc _ _ ?_)))
  exact handed_on hv h
theorem exc_attr {v:Value} {expr:Bool} {Q:Value→Shared→Prop} (c:ExcCls K C) (X:K.In s.heap) (I:InstAt s.heap x ox C od) (hf:findObj K C od name=some (.value v)) (hv:handedIn v=true) (h:Q v { s with toks:=s.toks+1 }) :
    wpAny (model prog w) A (getAttr (.ref x) name expr) Q E s:=by
  unfold getAttr
  refine wpAny_bind (wpAny_mkText ?_)
  exact exc_by (s:={ s with toks:=s.toks+1 }) c X I (fun A' R' q=>exc_call (s:={ s with toks:=s.toks+1 }) c X I hf q) hv h
theorem exc_class {Q:Option Value→Shared→Prop} (c:ExcCls K C) (X:K.In s.heap) (I:InstAt s.heap x ox C od) (h:Q (some (.ref C)) { s with toks:=s.toks+1 }):wpAny (model prog w) A (getAttr? (.ref x) "__class__") Q E s:=by
  have hf:findObj K C od "__class__" = some (.bind (.builtin "getset_descriptor.__get__") (.builtin "object.__class__")):=by
    obtain ⟨cd,hc⟩:=Option.isSome_iff_exists.mp c.cls
    unfold findObj
    rw [hc,Option.bind_some,c.kc,Option.bind_some]
    simp [c.kg,c.kt]
  unfold getAttr? getAttrBy?
  refine wpAny_bind (wpAny_mkText (wpAny_bind (wpAny_attempt ?_)))
  refine exc_by (s:={ s with toks:=s.toks+1 }) c X I (fun A' R' q=>exc_callB (s:={ s with toks:=s.toks+1 }) (v:=.ref C) c X I hf (fun A'' R'' q'=>class_get (s:={ s with toks:=s.toks+1 }) (ox:=ox) (od:=od) X I c.ob q') q) rfl ?_
  exact wpAny_pure h
theorem kitx_exc (c:ExcCls K C):KitX K (.ref x) (.ref C) (fun h=>∃ ox od,InstAt h x ox C od) where
  ty:=fun _ _ _ ⟨_,_,I⟩=>I.type
  it:=fun M h X _=>by
    have e:=c.cls
    unfold clsIn at e
    split at e
    · rename_i ho
      intro A' Q' E' s' k q
      unfold isType loadHead
      exact wpAny_bind (wpAny_loadPart (k _ _ (X _ _ ho)) (wpAny_pure q))
    · cases e
  ne:=fun h tp dd its n sl X htp=>by
    refine Bool.eq_false_iff.mpr fun q=>?_
    obtain rfl:C=tp:=Value.ref.inj (beq_iff_eq.mp q)
    have e:=c.cls
    unfold clsIn at e
    split at e
    · rename_i ho
      have z:=(X _ _ ho).symm.trans htp
      cases z
    · cases e
  ca:=fun X ⟨_,_,I⟩ k=>exc_class c X I k
end
end L2
set_option Elab.async false
set_option linter.all false
set_option maxRecDepth 100000
namespace L2
open PySem PySem.Spec PyProof.Rows
def ExcO (a C:Addr) (od:Option Addr):HO:=.ext fun h=>∃ oe vs,h.get? a=some oe∧oe.cls=.ref C∧oe.dict=od∧oe.data=.fields vs∧1<vs.size
theorem ExcO.ok {P:Program} {w:World} {H:Hp} {h:Heap} {a C:Addr} {od:Option Addr} {st:Option (Addr × Value)} (x:ExcAt h a (.ref C) od st):ObjOk P w H h a (ExcO a C od):=by
  obtain ⟨oe,vs,h1,h2,h3,h4,h5,_⟩:=x
  refine ⟨⟨oe,vs,h1,h2,h3,h4,h5.sz⟩,⟨oe,h1⟩,?_⟩
  rintro g1 g2 ⟨oe,vs,e1,e2,e3,e4,e5⟩ k
  exact ⟨oe,vs,k _ e1,e2,e3,e4,e5⟩
def Cx.tryW (X:Cx) (pins:List (Addr × Obj)) (xe:Value→Shared→Prop):Cx:={ X with pn:=X.pn++pins,xe:=xe }
def Cx.suite (X:Cx) (a:Addr):Cx:={ X with A:=X.A.mark (some (.ref a)),calm:=false,xe:=fun _ _=>False }
def Ends.drop (D:Ends) (i:Nat):Ends:={ nx:=fun σ H=>D.nx (σ.set i none) H,rt:=D.rt,bk:=fun σ H=>D.bk (σ.set i none) H,ct:=fun σ H=>D.ct (σ.set i none) H }
structure Catch (K:PySem.W.Frag) (C2:Addr):Prop where
  ty:PySem.W.typeIn K (.ref C2)=some (.type "type")
  cls:(PySem.W.clsIn K C2).isSome=true
  sub:PySem.W.subIn K (.ref C2) (.type "BaseException")=some true
def tTry (K:PySem.W.Frag) (C2:Addr) (i:Nat) (tb:(St→XK)→TS) (th:TS):TS:=fun D σ H=>∃ Ex:St→XK,tb Ex D σ H ∧
  ∀ σ' cls od H',Ex σ' cls od H'→∃ C,cls=.ref C∧PySem.W.subIn K (.ref C) (.ref C2)=some true∧∀ a,H' a=none→th (D.drop i) (σ'.set i (some (.ref a))) (upd H' a (ExcO a C od))
section
variable {X:Cx} {pins:List (Addr × Obj)} {σ:St} {H:Hp} {s:Shared}
theorem Inv.tryW (I:Inv X pins σ H s) (xe:Value→Shared→Prop):Inv (X.tryW pins xe) [] σ H s :=
  ⟨⟨I.ok.mod,I.ok.kind,I.ok.glob,I.ok.blt,I.ok.above,I.ok.inj,I.ok.has,I.ok.cab,I.ok.hd,I.ok.frames,I.ok.stk,I.ok.exf,I.ok.bs,I.ok.bsz,I.ok.noex,I.ok.exfs,I.ok.funs,I.ok.frf⟩,I.os,I.bare,I.base,I.loc,I.cell,I.free,I.freeC,
    fun p hp=>I.pin p (by have:p∈(X.pn++pins)++[]:=hp; rwa [List.append_nil] at this),I.hok,I.len⟩
theorem Inv.untry {xe:Value→Shared→Prop} {pins':List (Addr × Obj)} (I:Inv (X.tryW pins xe) pins' σ H s):Inv X pins σ H s :=
  ⟨⟨I.ok.mod,I.ok.kind,I.ok.glob,I.ok.blt,I.ok.above,I.ok.inj,I.ok.has,I.ok.cab,I.ok.hd,I.ok.frames,I.ok.stk,I.ok.exf,I.ok.bs,I.ok.bsz,I.ok.noex,I.ok.exfs,I.ok.funs,I.ok.frf⟩,I.os,I.bare,I.base,I.loc,I.cell,I.free,I.freeC,
    fun p hp=>I.pin p (List.mem_append_left _ hp),I.hok,I.len⟩
theorem Inv.suite (I:Inv X pins σ H s) (a:Addr):Inv (X.suite a) pins σ H s :=
  ⟨⟨I.ok.mod,I.ok.kind,I.ok.glob,I.ok.blt,I.ok.above,I.ok.inj,I.ok.has,I.ok.cab,(fun z=>by cases z),I.ok.frames,I.ok.stk,I.ok.exf,I.ok.bs,I.ok.bsz,I.ok.noex,I.ok.exfs,I.ok.funs,I.ok.frf⟩,I.os,I.bare,I.base,I.loc,I.cell,I.free,I.freeC,I.pin,I.hok,I.len⟩
theorem Inv.unsuite {a:Addr} (I:Inv (X.suite a) pins σ H s) (ok:X.Ok):Inv X pins σ H s:=⟨ok,I.os,I.bare,I.base,I.loc,I.cell,I.free,I.freeC,I.pin,I.hok,I.len⟩
theorem Inv.forget {h':Heap} {tk:Nat} {i:Nat} {x:Str} {v:Option Value} {m:Str→Option Value} (I:Inv X pins σ H s) (hN:X.N.Nodup) (hi:X.N[i]?=some x)
    (hl:∀ (i:Nat) (x:Str) (v:V),X.N[i]?=some x→σ[i]?=some (some v)→Vis X.env.scope x→∃ u,RelV v u∧Look X.env s.heap m x u)
    (hn:h'.Ns X.env.locals (fun y=>if y=x then v else m y)) (hs:Heap.SameBut X.env.locals s.heap h'):Inv X pins (σ.set i none) H { s with heap:=h',toks:=tk }:=by
  have hiσ:i<σ.length:=by rw [I.len]; exact (List.getElem?_eq_some_iff.mp hi).1
  have cne:=I.cne
  refine ⟨I.ok,I.os,I.bare,⟨fun b o e n hb hx=>?_,fun b o e n hb hx=>?_,I.base.free,fun b o e hx=>?_,I.base.tups,I.base.frzs,I.base.tbls⟩,⟨_,hn,fun j y w e1 e2 e3=>?_⟩,fun y c e=>?_,I.free,I.freeC,fun p hp=>?_,?_,by simpa using I.len⟩
  · exact (hs.2 b (Nat.ne_of_lt (Nat.lt_of_lt_of_le (Heap.lt_size e) I.ok.above))).trans (I.base.keep b o e n hb hx)
  · obtain ⟨sl,q⟩:=I.base.slot b o e n hb hx
    exact ⟨sl,(hs.2 b (Nat.ne_of_lt (Nat.lt_of_lt_of_le (Heap.lt_size e) I.ok.above))).trans q⟩
  · obtain ⟨o',q⟩:=I.base.there b o e hx
    exact ⟨o',(hs.2 b (Nat.ne_of_lt (Nat.lt_of_lt_of_le (Heap.lt_size e) I.ok.above))).trans q⟩
  · by_cases hj:j=i
    · subst hj
      rw [List.getElem?_set_self hiσ] at e2
      cases e2
    · rw [List.getElem?_set_ne (Ne.symm hj)] at e2
      obtain ⟨u,r,q⟩:=hl j y w e1 e2 e3
      refine ⟨u,r,?_⟩
      rcases q with ⟨k,e⟩ | ⟨k,c,e,z⟩
      · have ny:y≠x:=fun z=>hj (nodup_ix hN e1 (z ▸ hi))
        exact .inl ⟨k,by simp [ny,e]⟩
      · exact .inr ⟨k,c,e,z.sameBut hs (cne y c e)⟩
  · obtain ⟨w,z⟩:=I.cell y c e
    exact ⟨w,z.sameBut hs (cne y c e)⟩
  · obtain ⟨e,n,ne,nf,d⟩:=I.pin p hp
    exact ⟨(hs.2 p.1 ne).trans e,n,ne,nf,d⟩
  · exact fun b u e=>(I.hok b u e).stay (fun c o hc q=>(hs.2 c (fun z=>by
      subst z
      rcases hc with z | z
      · subst z; rw [I.free] at e; cases e
      · rw [I.free] at z; cases z)).trans q) (fun _ q=>q) fun _ _ q=>q
theorem Inv.landed {a T:Addr} {C:Addr} {od:Option Addr} {H2:Hp} {s2:Shared} {h':Heap} {st:Option (Addr × Value)} (I:Inv X pins σ H s) (os:s2.os=s.os) (bare:AllBare s2.gens) (un:Un (frs X.stack) [] H H2 s.heap s2.heap) (hok:HOk X.prog X.w H2 s2.heap)
    (fa:s.heap.get? a=none) (fT:s.heap.get? T=none) (na:H2 a=none) (nT:H2 T=none) (k:Kp (frs X.stack) [a,T] s2.heap h') (x:ExcAt h' a (.ref C) od st):Inv X pins σ (upd H2 a (ExcO a C od)) { s2 with heap:=h' }:=by
  have hfree:∀ b∈frs X.stack,H2 b=none:=fun b hb=>by
    have ff:=I.stack
    obtain ⟨_,o,ho,_⟩:=ff.mem hb
    exact un.free b o ho (I.stkFree b hb) (by simp)
  have hex:∀ b∈[a,T],s.heap.get? b=none:=fun b hb=>by
    rcases List.mem_cons.mp hb with rfl | hb
    · exact fa
    · cases List.mem_singleton.mp hb; exact fT
  have hex2:∀ b∈[a,T],H2 b=none:=fun b hb=>by
    rcases List.mem_cons.mp hb with rfl | hb
    · exact na
    · cases List.mem_singleton.mp hb; exact nT
  exact I.call' (s':={ s2 with heap:=h' }) (ch:=[]) os ((un.kp k (fun b hb=>.inl hb) hex).put fa na) ((hok.kp k hfree hex2).put na (ExcO.ok x)) bare fun b hb=>by cases hb
end
section
variable {M:Model} {A:Around} {E:Value→Shared→Prop} {K:PySem.W.Frag} {s:Shared} {a C C2:Addr} {ox:Obj} {od:Option Obj}
theorem exc_hits' {Q:Bool→Shared→Prop} (X:K.In s.heap) (L4:PySem.W.Looks M s.heap (typeOf (.ref a)) (.ref C)) (c2:Catch K C2) (hsub:PySem.W.subIn K (.ref C) (.ref C2)=some true) (h:Q true s):wpAny M A (excMatches (.ref a) (.ref C2)) Q E s:=by
  have L1:=PySem.W.looks_typeIn (M:=M) X c2.ty
  have L2:=PySem.W.looks_subIn (M:=M) X c2.sub
  have L3:=PySem.W.looks_subIn (M:=M) X hsub
  have L5:PySem.W.Looks M s.heap (isType (.ref C2)) true:=by
    have e:=c2.cls
    unfold PySem.W.clsIn at e
    split at e
    · rename_i ho
      intro A' Q' E' s' k q
      unfold isType loadHead
      exact wpAny_bind (wpAny_loadPart (k _ _ (X _ _ ho)) (wpAny_pure q))
    · cases e
  have f:=tc_notTuple
  obtain ⟨hh,g,d,t,os⟩:=s
  unfold excMatches
  repeat (any_goals (first | assumption | (refine L1.at ?_) | (refine L2.at ?_) | (refine L3.at ?_) | (refine L4.at ?_) | (refine L5.at ?_) | wp_step))
end
end L2
set_option Elab.async false
set_option linter.all false
set_option maxRecDepth 100000
namespace L2
open PySem PySem.Spec PyProof.Rows
section
variable {X:Cx} {x n:Str} {np hpos pos:Pos} {b₀:Stmt} {body suite:List Stmt} {i:Nat} {C2:Addr} {tb:(St→XK)→TS} {th:TS}
theorem behind_suite {pins:List (Addr × Obj)} {a:Addr} {D:Ends} {f:Flow} {s:Shared} (ok:X.Ok) (hN:X.N.Nodup) (hi:X.N[i]?=some n) (hl:X.env.kindOf n=some .local)
    (q:SP (X.suite a) pins (D.drop i) f s):wpAny (model X.prog X.w) X.A (do bindName X.env n .none; unbindBehindTheSuite X.env n hpos) (fun _ s'=>SP X pins D f s') X.xe s:=by
  have hp:(X.env.scope.kind == .class || (X.env.scope.kind == .module&&X.env.locals != X.env.globals))=false:=by rw [ok.kind]; rfl
  have go:∀ {σ:St} {H:Hp} (J:Inv (X.suite a) pins σ H s) {Q:Unit→Shared→Prop},(∀ s',Inv X pins (σ.set i none) H s'→Q () s')→wpAny (model X.prog X.w) X.A (do bindName X.env n .none; unbindBehindTheSuite X.env n hpos) Q X.xe s:=by
    intro σ H J Q k
    have J':=J.unsuite ok
    obtain ⟨m,hn,hl'⟩:=J'.loc
    exact wpAny_nameGoes_keeps hl hn hp fun h' v hn' hs=>k _ (J'.forget hN hi hl' hn' hs)
  cases f with
  | next=>obtain ⟨σ,H,J,q⟩:=q; exact go J fun s' J'=>⟨_,H,J',q⟩
  | brk=>obtain ⟨σ,H,J,q⟩:=q; exact go J fun s' J'=>⟨_,H,J',q⟩
  | cont=>obtain ⟨σ,H,J,q⟩:=q; exact go J fun s' J'=>⟨_,H,J',q⟩
  | ret u=>obtain ⟨v,σ,H,J,r,q⟩:=q; exact go J fun s' J'=>⟨v,_,H,J',r,q⟩
theorem ws_try (hst:X.stack=X.env::X.outer) (hfm:X.env.frame=some X.env.locals) (hg:Gl X x) (hm:X.mg x=some (.ref C2)) (c2:Catch X.K C2) (hN:X.N.Nodup) (hi:X.N[i]?=some n) (hl:X.env.kindOf n=some .local)
    (hb:∀ pins xe Ex,XPass (X.tryW pins xe) Ex→PSsw (X.tryW pins xe) body (tb Ex)) (hs:∀ a,PSsw (X.suite a) (b₀::suite) th) (hd:(x == ("__debug__" : Str))=false:=by decide) :
    PSw X (.Try body [.ExceptHandler (some (.Name x np)) (some n) (b₀::suite) hpos] [] [] pos) (tTry X.K C2 i tb th):=⟨by
  intro pins s σ H D I h
  obtain ⟨Ex,h1,h2⟩:=h
  refine wpAny_Try_except ?_
  generalize hxe:(fun (e:Value) (s₁:Shared)=>wpAny (model X.prog X.w) X.A (noteFrame e X.env) (fun _ s₂=>wpAny (model X.prog X.w) X.A (setFlight e none) (fun _ s₃ =>
    wpAny (model X.prog X.w) X.A (handleBy e X.env [.ExceptHandler (some (.Name x np)) (some n) (b₀::suite) hpos]) (SP X pins D) X.xe s₃) X.xe s₂) X.xe s₁)=xe
  have hx:XPass (X.tryW pins xe) Ex:=⟨fun pins' σ' H1 s1 e s2 I' hc=>by
    obtain ⟨a,T,cls,od,H2,rfl,os,bare,un,hok,fa,fT,na,nT,x0,q⟩:=hc
    obtain ⟨C,rfl,hsub,k⟩:=h2 σ' cls od H2 q
    have I1:Inv X pins σ' H1 s1:=I'.untry
    have un:Un (frs X.stack) [] H1 H2 s1.heap s2.heap:=un
    have hff:s2.heap.FunFrames X.base (X.env::X.outer):=by
      rw [← hst]
      exact funFrames_kp (fun b hb o e=>un.any e (I1.stkFree b hb) (by simp)) I1.stack
    show xe (.ref a) s2
    rw [← hxe]
    refine note_ok (by rw [← hst]; exact I1.ok.frames) hff hfm x0 (.inr ⟨T,rfl⟩) fun h3 T3 y1 y2 y3=>?_
    refine land_ok y1 fun h4 z1 z2=>?_
    have k4:Kp (frs X.stack) [a,T] s2.heap h4:=by
      rw [hst]
      refine ⟨fun b o e n1 n2=>z2 b o (fun q=>by subst q; rw [y2] at e; cases e) (y3.keep b o e n1 n2),fun b o e n1 n2=>?_⟩
      obtain ⟨sl,e1⟩:=y3.slot b o e n1 n2
      exact ⟨sl,z2 b _ (fun q=>by subst q; rw [y2] at e; cases e) e1⟩
    have I4:=I1.landed (h':=h4) os bare un hok fa fT na nT k4 z1
    refine wpAny_handleBy_cons (codeAny_handlers_test ?_) (by intro q; cases q)
    refine Calls.Name_function_global I4.ok.kind hg (Calls.loadGlobal_global (by rw [I4.ok.glob]; exact I4.mod.glob.keeps I4.bk) hm ?_) hd
    have LT:PySem.W.Looks (model X.prog X.w) h4 (typeOf (.ref a)) (.ref C):=by
      obtain ⟨oe,vs,e1,e2,_⟩:=z1
      exact e2 ▸ (PySem.W.Looks.ld e1).andThen .now
    refine exc_hits' I4.kIn LT c2 hsub ?_
    refine codeAny_handlers_suite_as ?_
    refine land_ok z1 fun h5 w1 w2=>?_
    have k5:Kp (frs X.stack) [a,T] s2.heap h5:=by
      refine ⟨fun b o e n1 n2=>w2 b o (fun q=>by subst q; rw [y2] at e; cases e) (k4.keep b o e n1 n2),fun b o e n1 n2=>?_⟩
      obtain ⟨sl,e1⟩:=k4.slot b o e n1 n2
      exact ⟨sl,w2 b _ (fun q=>by subst q; rw [y2] at e; cases e) e1⟩
    have I5:=(I1.landed (h':=h5) os bare un hok fa fT na nT k5 w1).suite a
    refine store_ok (X:=X.suite a) I5 hN hi (.inl hl) (v:=.ref a) rfl (fun s6 I6=>?_) (.inr hl)
    refine wpAny_mono ((hs a).p pins s6 _ _ (D.drop i) I6 (k a na)) (fun f s7 q7=>?_) fun _ _ z=>False.elim z
    exact behind_suite I1.ok hN hi hl q7⟩
  refine wpAny_mono ((hb pins xe Ex hx).p [] s σ H D (I.tryW xe) h1) (fun f s' q=>?_) fun e s' q=>q
  cases f with
  | next=>obtain ⟨σ',H',J,q⟩:=q; exact wpAny_execs_nil ⟨σ',H',J.untry,q⟩
  | brk=>obtain ⟨σ',H',J,q⟩:=q; exact ⟨σ',H',J.untry,q⟩
  | cont=>obtain ⟨σ',H',J,q⟩:=q; exact ⟨σ',H',J.untry,q⟩
  | ret u=>obtain ⟨v,σ',H',J,r,q⟩:=q; exact ⟨v,σ',H',J.untry,r,q⟩⟩
end
end L2
set_option Elab.async false
set_option linter.all false
set_option maxRecDepth 100000
namespace L2
open PySem PySem.Spec PyProof.Rows
def tTryB (K:PySem.W.Frag) (C2:Addr) (tb:(St→XK)→TS) (th:TS):TS:=fun D σ H=>∃ Ex:St→XK,tb Ex D σ H ∧
  ∀ σ' cls od H',Ex σ' cls od H'→∃ C,cls=.ref C∧PySem.W.subIn K (.ref C) (.ref C2)=some true∧∀ a,H' a=none→th D σ' (upd H' a (ExcO a C od))
section
variable {X:Cx} {x:Str} {np hpos pos:Pos} {b₀:Stmt} {body suite:List Stmt} {C2:Addr} {tb:(St→XK)→TS} {th:TS}
end
end L2
set_option Elab.async false
set_option linter.all false
set_option maxRecDepth 100000
namespace L2
open PySem
end L2
set_option Elab.async false
set_option linter.all false
set_option maxRecDepth 100000
namespace L2
open PySem PySem.Spec PyProof.Rows
end L2
set_option Elab.async false
set_option linter.all false
set_option maxRecDepth 100000
namespace L2
open PySem PySem.W PySem.Spec PySem.Calls PyProof.Rows
structure NoDig (K:Frag):Prop where
  ok:nsOkIn K cStatics=true
  no:nsIn K cStatics "sys.int_max_str_digits" = some none
theorem NoDig.at {K:Frag} {h:Heap} (n:NoDig K) (X:K.In h):h.NoDigits:=⟨_,.of_isNs (isNs_of_in X n.ok),nsMap_none_of_in X n.ok n.no⟩
section
variable {X:Cx}
@[irreducible] def rStrI:List V→Hp→VK→Prop:=fun xs H Q=>∃ i:Int,xs=[.int i]∧i.natAbs<10^4300∧Q (.str (toString i)) H
theorem rstrI {i:Int} {H:Hp} {Q:VK} (h:i.natAbs<10^4300) (q:Q (.str (toString i)) H):rStrI [.int i] H Q:=by unfold rStrI; exact ⟨i,rfl,h,q⟩
theorem cl_strI (hc:X.calm=true) (nd:NoDig X.K):CallR X (.type "str") rStrI:=by
  unfold rStrI
  intro pins s σ H xs us Q I r h
  obtain ⟨i,rfl,hz,q⟩:=h
  obtain ⟨u,rfl,t,rfl⟩:=vals1 r
  exact PyProof.Rows.str_of_int_or (I.ok.hd hc) (nd.at I.kIn) (fun _=>⟨.str _,H,I.tok _,⟨_,rfl⟩,q⟩) (fun h=>absurd hz (Nat.not_lt.mpr h))
@[irreducible] def rStarts:V→List V→Hp→VK→Prop:=fun x xs H Q=>∃ a b,x=.str a∧xs=[.str b]∧Q (.bl (Txt.startswith a b)) H
theorem rstarts {a b:Str} {H:Hp} {Q:VK} (q:Q (.bl (Txt.startswith a b)) H):rStarts (.str a) [.str b] H Q:=by unfold rStarts; exact ⟨a,b,rfl,rfl,q⟩
theorem mt_starts:MtR X "str.startswith" rStarts:=by
  unfold rStarts
  intro pins s σ H x xs v us Q I rx rv h
  obtain ⟨a,b,rfl,rfl,q⟩:=h
  obtain ⟨t,rfl⟩:=rx
  obtain ⟨u,rfl,t',rfl⟩:=vals1 rv
  exact SC.startswith ⟨.bl _,H,I,rfl,q⟩
theorem vals_strs:∀ (l:List (Str × Tok)),Vals (l.map fun p=>V.str p.1) (strValues l)
  | []=>.nil
  | (x,t)::r=>.cons ⟨t,rfl⟩ (vals_strs r)
@[irreducible] def rSplit:V→List V→Hp→VK→Prop:=fun x xs H Q=>∃ a b,x=.str a∧xs=[.str b]∧(b.length == 0)=false∧a.length≤sizeLine∧(Txt.split a b).length≤sizeLine∧∀ p,H p=none→Q (.ref p) (upd H p (.lst ((Txt.split a b).map V.str)))
theorem rsplit {a b:Str} {H:Hp} {Q:VK} (h1:(b.length == 0)=false) (h2:a.length≤sizeLine) (h3:(Txt.split a b).length≤sizeLine) (q:∀ p H',H p=none→H' p=some (.lst ((Txt.split a b).map V.str))→Same H H'→Q (.ref p) H'):rSplit (.str a) [.str b] H Q:=by
  unfold rSplit; exact ⟨a,b,rfl,rfl,h1,h2,h3,fun p hp=>q p _ hp upd_same (Same.upd hp)⟩
theorem mt_split:MtR X "str.split" rSplit:=by
  unfold rSplit
  intro pins s σ H x xs v us Q I rx rv h
  obtain ⟨x,y,rfl,rfl,hy,hsz,hz,q⟩:=h
  obtain ⟨t,rfl⟩:=rx
  obtain ⟨_,rfl,u,rfl⟩:=vals1 rv
  unfold Txt.split at hz q
  cases h1:(decide (x.length<y.length) || decide (Builtin.Str.strKind x<Builtin.Str.strKind y))
  · rw [h1,if_neg Bool.false_ne_true] at hz q
    cases hf:(Builtin.Str.occurrences x y 0 x.length (x.length+1)).isEmpty
    · rw [hf,if_neg Bool.false_ne_true] at hz q
      refine call_meets F.slot_str_split (typeIs_str _ _ _) F.entry_str_split (F.args_str_split_2 _ _) (meets_str_split_sep x y t u h1 hy hf hsz hz) ?_
      rw [strsFrom_eq]
      refine ⟨.ref _,_,I.lnew (t':=_) (ys:=_) ?_ ?_,rfl,q _ I.fresh⟩
      · have e:=numbered_texts s.toks (Builtin.Str.partsBetween x (Builtin.Str.occurrences x y 0 x.length (x.length+1)) y.length)
        have v:=vals_strs (numbered s.toks (Builtin.Str.partsBetween x (Builtin.Str.occurrences x y 0 x.length (x.length+1)) y.length))
        rw [show (fun p:Str × Tok=>V.str p.1)=V.str ∘ Prod.fst from rfl,← List.map_map,e] at v
        exact v
      · rw [List.length_map]; exact hz
    · rw [hf,if_pos rfl] at hz q
      exact call_meets F.slot_str_split (typeIs_str _ _ _) F.entry_str_split (F.args_str_split_2 _ _) (meets_str_split_not_found x y t u h1 hy hf)
        ⟨.ref _,_,I.lnew (t':=s.toks) (its:=[.str x t]) (ys:=[V.str x]) (.cons ⟨t,rfl⟩ .nil) (by show 1≤sizeLine; decide),rfl,q _ I.fresh⟩
  · rw [h1,if_pos rfl] at hz q
    exact call_meets F.slot_str_split (typeIs_str _ _ _) F.entry_str_split (F.args_str_split_2 _ _) (meets_str_split_cannot_occur x y t u h1)
      ⟨.ref _,_,I.lnew (t':=s.toks) (its:=[.str x t]) (ys:=[V.str x]) (.cons ⟨t,rfl⟩ .nil) (by show 1≤sizeLine; decide),rfl,q _ I.fresh⟩
def Signs (t:Str):Prop:=∀ c∈t.cps.toList,c=45∨(48≤c∧c≤57)
@[irreducible] def rIntT:List V→Hp→VK→Prop:=fun xs H Q=>∃ t n,xs=[.str t]∧Signs t∧PySem.intText? t=some n∧t.length≤sizeLine∧Q (.int n) H
theorem rintT {t:Str} {n:Int} {H:Hp} {Q:VK} (hs:Signs t) (h:PySem.intText? t=some n) (z:t.length≤sizeLine) (q:Q (.int n) H):rIntT [.str t] H Q:=by unfold rIntT; exact ⟨t,n,rfl,hs,h,z,q⟩
end
section
open PySem.NumText
theorem wpAny_intMax {M:Model} {A:Around} {E:Value→Shared→Prop} {s:Shared} {Q:Nat→Shared→Prop} (nd:s.heap.NoDigits) (h:Q 4300 s):wpAny M A Builtin.intMaxStrDigits Q E s:=by
  obtain ⟨mc,hns,hnone⟩:=nd
  unfold Builtin.intMaxStrDigits
  refine wpAny_bind (wpAny_nsGet hns ?_)
  rw [hnone]
  exact wpAny_pure h
theorem wp_textB {M:Model} {A:Around} {E:Value→Shared→Prop} {s:Shared} {Q:Value→Shared→Prop} {v:Value} {text:List Nat} {n:Int} (nd:s.heap.NoDigits)
    (hs:¬ (text.takeWhile (· != 0)).length≤640) (hr:(int_private% "readNumeral") 4300 10 (text.takeWhile (· != 0))=(int_private% "Numeral.value") n)
    (ha:((text.takeWhile (· != 0)).length == text.length)=true) (h:Q (.int n s.toks) { s with toks:=s.toks+1 }) :
    wpAny M A ((int_private% "intFromText") v text 10) Q E s:=by
  obtain ⟨hp,g,d,tk,os⟩:=s
  repeat (any_goals (first
    | assumption
    | (with_reducible refine wpAny_intMax nd ?_)
    | (with_reducible refine wpAny_ite_false (decide_eq_false hs) ?_)
    | (with_reducible refine wpAny_ite_true (decide_eq_true ha) ?_)
    | wp_step))
  all_goals (try rw [hr])
  all_goals (try dsimp only)
  repeat (any_goals (first
    | assumption
    | (with_reducible refine wpAny_intMax nd ?_)
    | (with_reducible refine wpAny_ite_false (decide_eq_false hs) ?_)
    | (with_reducible refine wpAny_ite_true (decide_eq_true ha) ?_)
    | wp_step))
open PySem.W.KIN in
set_option maxHeartbeats 4000000 in
theorem meets_textB {x:PySem.Str} {u:Tok} {n:Int} (hx:x.length≤sizeLine) (hl:¬ (numSeenOf x).length≤640) (hn:PySem.intText? x=some n) :
    Meets (Builtin.«int.__new__» ⟨[.type "int",.str x u],[]⟩) (fun A R s=>s.heap.NoDigits∧R (.ok (.ret (.int n s.toks))) { s with toks:=s.toks+1 }) :=
  .of_wp fun prog w A R s h=>by
    obtain ⟨nd,h⟩:=h
    obtain ⟨hp,g,d,tk,os⟩:=s
    have f1:=F.conv_sub_int
    have f2:=F.madeHere_int
    have f3:=str_int
    have f4:=str_idx
    have f5:=str_trunc
    have f6:typeOf (.str x u)=pure (.type "str"):=rfl
    have hr:(int_private% "readNumeral") 4300 10 (numSeenOf x)=(int_private% "Numeral.value") n∧((numSeenOf x).length == (numTextOf x).length)=true:=by
      rcases read4300 x hx with ⟨m,h1,h2,h3⟩ | ⟨h1,_⟩
      · rw [hn] at h1
        injection h1 with h1
        subst h1
        exact ⟨h3,h2⟩
      · rw [hn] at h1
        cases h1
    have hk:=KIN.Hid.mk (And.intro hl hr)
    clear hr hl hn hx
    repeat (any_goals (first
      | assumption
      | ((with_reducible show wpAny _ _ ((int_private% "intFromText") _ _ _) _ _ _); refine wp_textB nd hk.out.1 hk.out.2.1 hk.out.2.2 ?_)
      | wp_step))
    all_goals first | exact ⟨_,rfl,h⟩ | skip
end
section
open PySem.NumText
variable {X:Cx}
theorem cl_intT (nd:NoDig X.K):CallR X (.type "int") rIntT:=by
  unfold rIntT
  intro pins s σ H xs us Q I r h
  obtain ⟨x,n,rfl,hs,hn,hz,q⟩:=h
  obtain ⟨_,rfl,t,rfl⟩:=vals1 r
  have e:=(numText_signs hs).2
  have el:(numSeenOf x).length=x.length:=by rw [e]; exact Array.length_toList
  by_cases hl:x.length≤640
  · exact KIN.call_text hn hl ⟨.int n,H,I.tok _,⟨_,rfl⟩,q⟩
  · exact call_int_1 (meets_textB hz (by rw [el]; exact hl) hn) ⟨nd.at I.kIn,typeIs_int _ _ _,⟨.int n,H,I.tok _,⟨_,rfl⟩,q⟩⟩
end
end L2
set_option Elab.async false
set_option linter.all false
set_option maxRecDepth 100000
namespace L2
open PySem PySem.W PySem.Spec PySem.Calls PyProof.Rows
section
variable {X:Cx}
def rSlS:V→Option Int→Option Int→Hp→VK→Prop:=fun x lo hi H Q=>∃ a,x=.str a∧a.length≤sizeLine∧Q (.str (Txt.slice a lo hi)) H
theorem sl_str:SlR X rSlS:=by
  intro pins s σ H x v vl vu lo hi sl Q I rx hs pl pu h
  obtain ⟨a,rfl,hz,q⟩:=h
  obtain ⟨t,rfl⟩:=rx
  refine ⟨"str",_,F.slot_str_getitem.lookup,typeIs_str _ _ _,?_⟩
  have fin:∀ (l u:Option (Int × Tok)),l.map (·.1)=lo→u.map (·.1)=hi→s.heap.IsSlice sl l u none→wpAny (model X.prog X.w) X.A (getItem (.str a t) (.ref sl)) (EP X pins σ Q) X.xe s:=by
    intro l u el eu hsl
    refine wpAny_getItem_str_slice (st:=none) hsl rfl ?_
    refine post_val_or_str ⟨?_,fun t' k=>⟨.str (Txt.slice a lo hi),H,I.tok _,⟨t',?_⟩,q⟩⟩
    · have:=Txt.slice_le a lo hi
      unfold Txt.slice at this
      rw [← el,← eu] at this
      exact Nat.le_trans this hz
    · unfold Txt.slice
      rw [← el,← eu]
      rfl
  cases pl with
  | none =>
    cases pu with
    | none=>exact fin none none rfl rfl hs
    | int j tj=>exact fin none (some (j,tj)) rfl rfl hs
  | int i ti =>
    cases pu with
    | none=>exact fin (some (i,ti)) none rfl rfl hs
    | int j tj=>exact fin (some (i,ti)) (some (j,tj)) rfl rfl hs
@[irreducible] def rAll:List V→Hp→VK→Prop:=fun xs H Q=>∃ (p:Addr) (bs:List Bool),xs=[.ref p]∧H p=some (.lst (bs.map V.bl))∧Q (.bl (bs.all id)) H
theorem rall {p:Addr} {bs:List Bool} {H:Hp} {Q:VK} (e:H p=some (.lst (bs.map V.bl))) (q:Q (.bl (bs.all id)) H):rAll [.ref p] H Q:=by unfold rAll; exact ⟨p,bs,rfl,e,q⟩
theorem bools_of {bs:List Bool}:∀ {us:List Value},Vals (bs.map V.bl) us→LSm.BoolsAre us bs:=by
  induction bs with
  | nil=>intro us r; cases r; exact .nil
  | cons b bs ih =>
    intro us r
    cases r with
    | cons r t=>cases (show _=Value.bool b from r); exact .cons b (ih t)
theorem cl_all (hc:X.calm=true):CallR X (.builtin "all") rAll:=by
  unfold rAll
  intro pins s σ H xs us Q I r h
  obtain ⟨p,bs,rfl,e,q⟩:=h
  obtain ⟨_,rfl,r1⟩:=vals1 r
  cases r1
  obtain ⟨z,its,n,rv,hl,eo⟩:=I.lstM e
  have hL:s.heap.IsList p its.toArray:=⟨_,eo,rfl,n,rfl⟩
  have hb:=bools_of rv
  have hlt:p<s.heap.objs.size:=Heap.lt_size eo
  refine call_all_walk (wpAny_pyIter_list hL ?_)
  refine ⟨s.heap.objs.size,[s.heap.objs.size,p],[s.heap.objs.size],its.toArray.size,_,_,fun i=>(bs[i]?).getD true,rfl,Walks.list (A:=X.A.in1) (I.ok.hd hc) _ p (Nat.ne_of_lt hlt) its.toArray,
    ⟨⟨_,Heap.get?_push_size _ rfl,rfl,rfl⟩,hL.push _⟩,fun i v s' Q' E' hP hQ=>?_,fun h' tk hk=>?_⟩
  · obtain ⟨b,e,rfl⟩:=hb.get i v (by simpa using hP)
    simp only [e,Option.getD_some] at hQ
    exact wpAny_truthy_bool hQ
  · have e:((List.range its.toArray.size).all fun i=>(bs[i]?).getD true)=bs.all id:=by
      rw [List.size_toArray,hb.length]; exact LSm.range_all bs
    rw [e]
    exact ⟨.bl _,H,I.kept (LSm.kept_iter hk),rfl,q⟩
end
end L2
set_option Elab.async false
set_option linter.all false
set_option maxRecDepth 100000
namespace L2
open PySem PySem.W PySem.Spec PySem.Calls PyProof.Rows
section
variable {prog:Program} {w:World} {A:Around} {E:Value→Shared→Prop} {s:Shared} {I:Addr}
end
section
variable {X:Cx} {o a:Expr} {to:TE} {ta:TA} {np p2 apos cpos:Pos}
end
end L2
set_option Elab.async false
set_option linter.all false
set_option maxRecDepth 100000
namespace L2
open PySem PySem.W PySem.Spec PySem.Calls PyProof.Rows
def Its (x:Str):It:=⟨fun i _=>i<x.cps.size,fun i H v H'=>H'=H∧∃ c,x.cps[i]?=some c∧v=.str ⟨#[c]⟩,fun i _=>x.cps.size≤i⟩
theorem turn_str {P:Program} {w:World} {K:PySem.W.Frag} {tg:Expr} {x:Str} {t:Tok} {it:Addr}:Turn P w K tg (Its x) [it] it (fun i h=>h.IsStrIter it (strIterType x) x t i) where
  mem:=by simp
  obj:=fun i h st b hb=>by
    have e:b=it:=by simpa using hb
    subst e
    obtain ⟨o,e,c,d⟩:=st
    exact ⟨o,e,fun v z=>by rw [d] at z; cases z⟩
  keep:=fun i h h' st k=>let ⟨o,e,r⟩:=st; ⟨o,k it (by simp) o e,r⟩
  item:=by
    intro X hP hw hK hc i pins s σ H E I hf st hg
    subst hP hw hK
    obtain ⟨f0,f1,f2,f3,f4,f5⟩:=hf it (by simp)
    have hx:x.cps[i]?=some x.cps[i]:=Array.getElem?_eq_getElem hg
    have fin:∀ h',h'.IsStrIter it (strIterType x) x t (i+1)→Heap.SameBut it s.heap h'→∃ u,some (Value.str ⟨#[x.cps[i]]⟩ s.toks)=some u ∧
        wpAny (model X.prog X.w) X.A (letOwnedTupleGo tg (.ref it) u) (fun _ s2=>∃ v H',Inv X pins σ H' s2∧RelV v u∧(Its x).yld i H v H'∧s2.heap.IsStrIter it (strIterType x) x t (i+1)∧∀ b∈[it],H' b=none) E { s with heap:=h',toks:=s.toks+1 }:=by
      intro h' st' sb
      have I1:Inv X pins σ H { s with heap:=h',toks:=s.toks+1 }:=I.turned (t':=s.toks+1) (fun b o hb e=>(sb.2 b hb).trans e) f0 f1 f3 f4 f5
      obtain ⟨o,e,c,d⟩:=id st'
      refine ⟨_,rfl,go_of (s:={ s with heap:=h',toks:=s.toks+1 }) e c d ?_ ⟨.str ⟨#[x.cps[i]]⟩,H,I1,⟨_,rfl⟩,⟨rfl,_,hx,rfl⟩,st',fun b hb=>(hf b hb).1⟩⟩
      unfold strIterType
      split <;> decide
    cases ha:x.cps.all (· < 128)
    · have e:strIterType x = "str_iterator" := by unfold strIterType; rw [ha]; rfl
      rw [e] at st
      exact wpAny_pyNext_wide_item st hx fun h' st' sb=>fin h' (by rw [e]; exact st') sb
    · have e:strIterType x = "str_ascii_iterator" := by unfold strIterType; rw [ha]; rfl
      rw [e] at st
      exact wpAny_pyNext_ascii_item st hx fun h' st' sb=>fin h' (by rw [e]; exact st') sb
  done:=by
    intro X hP hw hK hc i pins s σ H E I hf st hg
    subst hP hw hK
    obtain ⟨f0,f1,f2,f3,f4,f5⟩:=hf it (by simp)
    have hx:x.cps[i]?=none:=Array.getElem?_eq_none hg
    unfold strIterType at st
    cases ha:x.cps.all (· < 128)
    · rw [ha] at st
      exact wpAny_pyNext_wide_end (I.ok.hd hc) st hx fun h' eb=>⟨rfl,I.turned (t':=s.toks) (fun b o hb e=>eb b o hb e) f0 f1 f3 f4 f5⟩
    · rw [ha] at st
      exact wpAny_pyNext_ascii_end (I.ok.hd hc) st hx fun h' eb=>⟨rfl,I.turned (t':=s.toks) (fun b o hb e=>eb b o hb e) f0 f1 f3 f4 f5⟩
  self:=fun A i s Q E st h=>by
    unfold strIterType at st
    cases ha:x.cps.all (· < 128)
    · rw [ha] at st; exact wpAny_pyIter_striter_wide st h
    · rw [ha] at st; exact wpAny_pyIter_striter_ascii st h
section
variable {X:Cx} {tg:Expr}
def iStr (tl:TE):TI:=fun σ H R=>tl σ H fun v H1=>∃ x,v=.str x∧R (Its x) H1
theorem wi_str {l:Expr} {tl:TE} (hl:PEw X l tl):PIw X tg l (iStr tl):=⟨by
  intro pins s σ H R I h
  refine thn (hl.p pins s σ H _ I h) fun v s1 ⟨x,H1,I1,r1,q1⟩=>?_
  obtain ⟨a,e,q⟩:=q1
  subst e
  obtain ⟨t,rfl⟩:=r1
  refine wpAny_pyIter_strU ?_
  refine ⟨s1.heap.objs.size,[s1.heap.objs.size],_,_,H1,rfl,I1.kept (t':=s1.toks) fun b o e=>Heap.get?_push_of_some _ e,turn_str,⟨_,Heap.get?_push_size _ rfl,rfl,rfl⟩,fun b hb=>?_,q⟩
  have e:b=s1.heap.objs.size:=by simpa using hb
  subst e
  exact I1.fpOk (Nat.le_refl _) (I1.hok.fresh (Nat.le_refl _))⟩
end
section
variable {js:List Nat} {te:TE} {tc:TT} {σ:St} {H:Hp} {Q:VK}
theorem comp_str {x:Str} (p:Nat→Bool) (f:Nat→V) (hz:x.length≤100000)
    (ht:∀ c H' (Q':Bool→Hp→Prop),c∈x.cps.toList→Q' (p c) H'→tc (some (.str ⟨#[c]⟩)::slots σ js) H' Q')
    (he:∀ c H' (Q':VK),c∈x.cps.toList→Q' (f c) H'→te (some (.str ⟨#[c]⟩)::slots σ js) H' Q')
    (hd:∀ D H',H D=none→H' D=some (.lst ((x.cps.toList.filter p).map f))→Same H H'→Q (.ref D) H'):CompB (Its x) σ js tc te H Q:=by
  unfold CompB
  intro D hD
  refine ⟨fun i m ys H'=>m=x.cps.size - i∧i≤x.cps.size∧ys=((x.cps.toList.take i).filter p).map f∧H' D=some (.lst ys)∧∀ b o,H b=some o→H' b=some o,⟨x.cps.size,by simp,Nat.zero_le _,rfl,upd_same,Same.upd hD⟩,?_⟩
  rintro i m ys H2 ⟨rfl,hi,hy,hD2,sm⟩
  refine ⟨hD2,?_⟩
  by_cases hlt:i<x.cps.size
  · have hl:ys.length≤i:=by
      rw [hy,List.length_map]
      refine Nat.le_trans (List.length_filter_le _ _) ?_
      rw [List.length_take]
      exact Nat.min_le_left _ _
    have hx:x.cps[i]?=some x.cps[i]:=Array.getElem?_eq_getElem hlt
    have hm:x.cps[i]∈x.cps.toList:=by simp
    have hti:x.cps.toList.take (i+1)=x.cps.toList.take i++[x.cps[i]]:=by
      rw [List.take_add_one]
      congr 1
      simp [hlt]
    refine .inr ⟨hlt,Nat.lt_of_le_of_lt (m:=100000) (by have:x.length=x.cps.size:=rfl; omega) (by decide),fun v H3 hy3=>?_⟩
    obtain ⟨rfl,c,hc,rfl⟩:=hy3
    rw [hx] at hc
    cases hc
    refine ⟨fun b H4=>b=p x.cps[i]∧H4=H3,ht _ _ _ hm ⟨rfl,rfl⟩,?_⟩
    rintro b H4 ⟨rfl,rfl⟩
    by_cases hp:p x.cps[i]=true
    · rw [if_pos hp]
      refine ⟨fun v H5=>v=f x.cps[i]∧H5=H4,he _ _ _ hm ⟨rfl,rfl⟩,?_⟩
      rintro v H5 ⟨rfl,rfl⟩
      refine ⟨hD2,x.cps.size - (i+1),by omega,rfl,hlt,?_,upd_same,fun b o hb=>?_⟩
      · rw [hti,List.filter_append,List.map_append,hy]
        simp [hp]
      · rw [upd_ne (ne_of_none hb hD)]
        exact sm b o hb
    · rw [if_neg hp]
      refine ⟨hD2,x.cps.size - (i+1),by omega,rfl,hlt,?_,hD2,sm⟩
      rw [hti,List.filter_append,List.map_append,hy]
      simp [hp]
  · have e:i=x.cps.size:=by omega
    subst e
    refine .inl ⟨Nat.le_refl _,hd D H2 hD ?_ sm⟩
    rw [hD2,hy,List.take_of_length_le (by simp)]
end
end L2
set_option Elab.async false
set_option linter.all false
set_option maxRecDepth 100000
namespace L2
open PySem PySem.W PySem.Spec PySem.Calls PyProof.Rows
section
variable {prog:Program} {w:World} {A:Around} {E:Value→Shared→Prop} {s:Shared}
end
section
variable {X:Cx}
end
end L2
set_option Elab.async false
set_option linter.all false
set_option maxRecDepth 100000
namespace Mt
open PySem PySem.NumText
abbrev dig (c:Nat):Bool:=decide (48≤c)&&decide (c≤57)
def figs (t:Str):Bool:=t.cps.toList.all dig
theorem figs_all {t:Str} (h:figs t=true):AllDigits t.cps.toList:=fun c hc=>by
  have:=List.all_eq_true.mp h c hc
  simpa [dig] using this
theorem in_figs (c:Nat):(!(Builtin.Str.occurrences (Str.ofString "0123456789") ⟨#[c]⟩ 0 (Str.ofString "0123456789").length 1).isEmpty)=dig c:=by
  rw [StrLaws.found_one]
  have e:(Str.ofString "0123456789").cps.toList=[48,49,50,51,52,53,54,55,56,57]:=by decide +kernel
  rw [e]
  unfold dig
  rw [← Bool.decide_and]
  refine decide_eq_decide.mpr ?_
  simp only [List.mem_cons,List.not_mem_nil,or_false]
  omega
theorem str_ext {a b:Str} (h:a.cps.toList=b.cps.toList):a=b:=by
  cases a; cases b
  congr 1
  exact Array.toList_inj.mp h
theorem len_toList (t:Str):t.cps.toList.length=t.length:=by simp [Str.length]
theorem starts_one (t:Str) (c:Nat):Txt.startswith t ⟨#[c]⟩=decide (t.cps.toList.head?=some c):=by
  unfold Txt.startswith
  cases h:t.cps.toList with
  | nil =>
    have e:t.length=0:=by rw [← len_toList,h]; rfl
    have e1:(⟨#[c]⟩:Str).length=1:=rfl
    rw [e,e1]
    simp
  | cons x r =>
    have e:t=⟨(x::r).toArray⟩:=str_ext (by rw [h])
    rw [e]
    have e1:(⟨#[c]⟩:Str).length=1:=rfl
    have e2:(⟨(x::r).toArray⟩:Str).length=r.length+1:=rfl
    unfold Builtin.Str.subAt
    rw [e1,e2]
    have e3:((x::r).toArray.extract 0 (0+1))=#[x]:=by simp
    rw [e3]
    simp [BEq.beq,List.isEqv]
theorem slice_from {t:Str} {i:Int} (h0:0≤i) (h:i≤t.length):(Txt.slice t (some i) none).cps.toList=t.cps.toList.drop i.toNat:=by
  have e:Txt.slice t (some i) none=StrLaws.sliceText t (some i) none:=rfl
  rw [e,StrLaws.sliceText_from ⟨h0,by rw [len_toList]; exact h⟩]
  show List.take _ (List.drop _ _)=_
  refine List.take_of_length_le ?_
  rw [List.length_drop,len_toList]
  omega
theorem slice_to {t:Str} {j:Int} (h0:0≤j) (h:j≤t.length):(Txt.slice t none (some j)).cps.toList=t.cps.toList.take j.toNat:=by
  have e:Txt.slice t none (some j)=StrLaws.sliceText t none (some j):=rfl
  rw [e,StrLaws.sliceText_to ⟨h0,by rw [len_toList]; exact h⟩]
  show List.take _ (List.drop 0 _)=_
  rw [List.drop_zero,Int.sub_zero]
def val (t:Str):Nat:=digitsVal t.cps.toList
def zero:Str:=Str.ofString "0"
def wrB (t:Str):Bool:=!t.cps.toList.isEmpty&&figs t && !(decide (t.cps.toList.head?=some 48) && !decide (t=zero))
def neg (t:Str):Bool:=decide (t.cps.toList.head?=some 45)
def fg (t:Str):Str:=if neg t=true then ⟨(t.cps.toList.drop 1).toArray⟩ else t
def rdB (t:Str):Bool:=decide (1≤(fg t).length)&&decide ((fg t).length≤4000)&&figs (fg t) && !(decide ((fg t).cps.toList.head?=some 48) && !decide (t=zero))
def rdV (t:Str):Int:=if neg t=true then -((val (fg t):Nat):Int) else ((val (fg t):Nat):Int)
def rd (t:Str):Option Int:=if rdB t=true then some (rdV t) else none
theorem fg_len (t:Str):(fg t).length≤t.length:=by
  unfold fg
  split
  · rw [← len_toList,← len_toList]
    show (List.drop 1 _).length≤_
    rw [List.length_drop]; omega
  · exact Nat.le_refl _
theorem zero_cps:zero.cps.toList=[48]:=by decide +kernel
end Mt
set_option Elab.async false
set_option linter.all false
set_option maxRecDepth 100000
namespace Mt
open PySem PySem.NumText
theorem app_cps (a b:Str):(a++b).cps.toList=a.cps.toList++b.cps.toList:=by
  show (a.cps++b.cps).toList=_
  simp
def dg (m:Nat):List Nat:=(Nat.toDigits 10 m).map Char.toNat
def tx (n:Int):Str:=Str.ofString (toString n)
theorem tx_nat (m:Nat):(tx (m:Int)).cps.toList=dg m:=by
  unfold tx dg
  exact W.KIN.signs_num m
theorem tx_neg (m:Nat):(tx (-((m+1:Nat):Int))).cps.toList=45::dg (m+1):=by
  unfold tx dg
  have e:(-((m+1:Nat):Int))=Int.negSucc m:=rfl
  rw [e,PyProof.Rows.signs_ofString]
  show ("-" ++ Nat.repr (m+1)).toList.map Char.toNat=_
  rw [String.toList_append,List.map_append,Nat.toList_repr]
  rfl
theorem dg_all (m:Nat):AllDigits (dg m):=fun c hc=>by
  obtain ⟨ch,hch,e⟩:=List.mem_map.mp hc
  have r:=PyProof.Rows.digit_range (Nat.isDigit_of_mem_toDigits (by decide) (by decide) hch)
  rw [← e]
  exact r
theorem ofNat_back {l:List Nat} (h:AllDigits l):(l.map Char.ofNat).map Char.toNat=l:=by
  induction l with
  | nil=>rfl
  | cons c r ih =>
    have hc:=h.head
    have:(Char.ofNat c).toNat=c:=by
      have:∀ d:Nat,d≤9→(Char.ofNat (48+d)).toNat=48+d:=by decide
      have:=this (c - 48) (by omega)
      rwa [show 48+(c - 48)=c by omega] at this
    rw [List.map_cons,List.map_cons,this,ih h.tail]
theorem dg_of {l:List Nat} (h:AllDigits l) (hn:l≠[]) (hh:l.length=1∨∃ c r,l=c::r∧49≤c):dg (digitsVal l)=l:=by
  unfold dg
  have hl:l.length=(l.length - 1)+1:=by
    cases l with
    | nil=>exact absurd rfl hn
    | cons c r=>simp
  rw [toDigits_digitsVal (l.length - 1) l hl h (by rcases hh with e | e; exact .inl (by omega); exact .inr e),ofNat_back h]
theorem dv_from (b:List Nat):∀ a:Nat,b.foldl (fun acc c=>acc*10+(c - 48)) a=a*10^b.length+digitsVal b:=by
  induction b with
  | nil=>intro a; show a=a*1+0; omega
  | cons c r ih =>
    intro a
    show r.foldl (fun acc c=>acc*10+(c - 48)) (a*10+(c - 48))=_
    have e:digitsVal (c::r)=r.foldl (fun acc c=>acc*10+(c - 48)) (0*10+(c - 48)):=rfl
    rw [e,ih,ih,List.length_cons,Nat.pow_succ,Nat.zero_mul,Nat.zero_add,Nat.add_mul,Nat.mul_assoc,Nat.mul_comm 10 (10^r.length)]
    omega
def sl:Str:=⟨#[47]⟩
theorem join2 (p q:Str) (r:List Str):(Str.join sl (p::q::r)).cps.toList=p.cps.toList++47::(Str.join sl (q::r)).cps.toList:=by
  show (p++sl++Str.join sl (q::r)).cps.toList=_
  rw [app_cps,app_cps]
  show p.cps.toList++[47]++_=_
  simp
theorem split_ne (x:Str):Txt.split x sl≠[]:=fun h=>by
  have:=PyProof.Rows.split_pos x sl
  rw [h] at this
  exact absurd this (by decide)
theorem le_sum {p:Str}:∀ {l:List Str},p∈l→p.length≤(l.map (·.length)).sum
  | [],h=>by cases h
  | q::r,h=>by
    rw [List.map_cons,List.sum_cons]
    rcases List.mem_cons.mp h with rfl | h
    · omega
    · have:=le_sum h; omega
theorem part_len {x p:Str} (h:p∈Txt.split x sl):p.length≤x.length:=by
  have:=PyProof.Rows.split_weight x sl (by decide)
  have h1:p.length≤((Txt.split x sl).map (·.length)).sum:=le_sum h
  have h2:=PyProof.Rows.split_pos x sl
  omega
end Mt
set_option linter.all false
namespace Mf
def lw (n d:Int):Int × Int:=(n / (Int.gcd n d:Int),d / (Int.gcd n d:Int))
structure Low (n d:Int):Prop where
  pos:0<d
  low:Int.gcd n d=1
theorem gcd_pos {n d:Int} (h:0<d):0<(Int.gcd n d:Int):=by
  have:=Int.gcd_pos_of_ne_zero_right n (Int.ne_of_gt h)
  omega
theorem lw_low {n d:Int} (h:0<d):Low (lw n d).1 (lw n d).2:=by
  have g:=gcd_pos (n:=n) h
  refine ⟨?_,?_⟩
  · exact Int.ediv_pos_of_pos_of_dvd h (Int.le_of_lt g) (Int.gcd_dvd_right n d)
  · exact Int.gcd_ediv_gcd_ediv_gcd (by omega)
theorem lw_eq {n d:Int}:(lw n d).1*(Int.gcd n d:Int)=n∧(lw n d).2*(Int.gcd n d:Int)=d :=
  ⟨Int.ediv_mul_cancel (Int.gcd_dvd_left n d),Int.ediv_mul_cancel (Int.gcd_dvd_right n d)⟩
end Mf
set_option linter.all false
namespace Mf
abbrev Fr:=Int × Int
def LowF (f:Fr):Prop:=Low f.1 f.2
theorem lw_le {n d:Int} (h:0<d):(lw n d).2≤d∧(lw n d).1.natAbs≤n.natAbs:=by
  obtain ⟨e1,e2⟩:=lw_eq (n:=n) (d:=d)
  have g:=gcd_pos (n:=n) h
  have p:=(lw_low (n:=n) h).pos
  generalize (lw n d).1=a at *
  generalize (lw n d).2=b at *
  generalize (Int.gcd n d:Int)=G at *
  refine ⟨?_,?_⟩
  · rw [← e2]; have:=Int.mul_le_mul_of_nonneg_left (show (1:Int)≤G by omega) (Int.le_of_lt p); simpa using this
  · rw [← e1,Int.natAbs_mul]
    exact Nat.le_mul_of_pos_right _ (by omega)
end Mf
set_option Elab.async false
set_option linter.all false
namespace Mf
end Mf
set_option Elab.async false
set_option linter.all false
set_option maxRecDepth 100000
namespace L2
open PySem PySem.Spec PyProof.Rows
theorem Room.u1 {k:Nat} {A:Around} (r:Room k A):A.units+1<cLine:=by have:=r.units; omega
@[irreducible] def rDG:R2:=fun x y H Q=>∃ a v,x=.ref a∧DGet H a y (some v)∧Q v H
@[irreducible] def rDP (D:Ends) (σ:St) (x y v:V) (H:Hp):Prop:=∃ a H4,x=.ref a∧DPut H a y v H4∧D.nx σ H4
def tDPut (td ty tv:TE):TS:=fun D σ H=>tv σ H fun v H1=>td σ H1 fun x H2=>ty σ H2 fun y H3=>rDP D σ x y v H3
structure PPsw (X:Cx) (pos:Pos) (keys:List (Option Expr)) (values:List Expr) (trs:List (TE × TE)):Prop where p:PPs X pos keys values trs
section
variable {X:Cx} {o i value k v:Expr} {td ty tv tk:TE} {pos pos':Pos} {ks:List (Option Expr)} {vs:List Expr} {trs:List (TE × TE)}
theorem we_dget (hu:X.A.units+1<cLine) (ho:PEw X o td) (hi:PEw X i ty) (hs:NoSl i:=by intro _ _; rfl):PEw X (.Subscript o i pos) (tOp rDG td ty):=⟨by unfold rDG; exact pe_dget hu ho.p hi.p hs⟩
theorem ws_dput (hu:X.A.units+1<cLine) (ho:PEw X o td) (hi:PEw X i ty) (hv:PEw X value tv) (hs:swapsWith value (some (.Subscript o i pos')) pos.line X.env=pure false:=by rfl) :
    PSw X (.Assign [.Subscript o i pos'] value pos) (tDPut td ty tv):=⟨by unfold tDPut rDP; exact ps_dput hu ho.p hi.p hv.p hs⟩
theorem wpp_nil:PPsw X pos [] [] []:=⟨pps_nil⟩
theorem wpp_cons (hk:PEw X k tk) (hv:PEw X v tv) (hr:PPsw X pos ks vs trs):PPsw X pos (some k::ks) (v::vs) ((tk,tv)::trs):=⟨pps_cons hk.p hv.p hr.p⟩
theorem we_disp (h:PPsw X pos ks vs trs) (hall:ks.all (·.isSome)=true:=by rfl) (hl:ks.length=vs.length:=by rfl) (h0:ks≠[]:=by intro h; cases h) (h15:ks.length≤15:=by decide):PEw X (.Dict ks vs pos) (tDisp trs):=⟨pe_disp h.p hall hl h0 h15⟩
end
theorem dgS {H:Hp} {p:Addr} {kvs:List (Key × V)} {x:Str} {v:V} {Q:VK} (e:H p=some (.dK kvs)) (hv:valV kvs (.inr x)=some v) (q:Q v H):rDG (.ref p) (.str x) H Q:=by
  unfold rDG; exact ⟨p,v,rfl,hv ▸ DGet.k (k:=.inr x) e,q⟩
theorem dpS {H:Hp} {p:Addr} {kvs kvs2:List (Key × V)} {x:Str} {v:V} {D:Ends} {σ:St} (e:H p=some (.dK kvs)) (hl:kvs.length≤64) (hk:putK kvs (.inr x) v=kvs2) (q:∀ H',H' p=some (.dK kvs2)→SameBut p H H'→D.nx σ H') :
    rDP D σ (.ref p) (.str x) v H:=by
  unfold rDP
  exact ⟨p,_,rfl,DPut.k (k:=.inr x) e (Nat.lt_of_le_of_lt hl (by decide)),q _ (by rw [hk]; exact upd_same) SameBut.self⟩
theorem SameBut.tD {H H':Hp} {p:Addr} (s:SameBut p H H') {xs:List (Key × V)} (hp:H p=some (.dK xs)):SameT H H':=fun b ys h=>s.at (ne_of h hp (by intro z; cases z)) h
section
variable {σ:St} {js:List Nat} {te:TE} {H:Hp} {Q:VK}
end
end L2
set_option Elab.async false
set_option linter.all false
set_option maxRecDepth 100000
namespace L2
open PySem PySem.Spec PyProof.Rows
section
variable {prog:Program} {w:World} {A:Around} {E:Value→Shared→Prop} {s:Shared} {l:Addr} {xs:Array (Int × Tok)}
end
section
variable {js:List Nat} {te:TE} {tc:TT} {σ:St} {H:Hp} {Q:VK}
end
end L2
set_option Elab.async false
set_option linter.all false
namespace Mf
end Mf
set_option Elab.async false
set_option linter.all false
namespace Mf
end Mf
set_option Elab.async false
set_option linter.all false
set_option maxRecDepth 100000
namespace HT
open PySem PyProof.Rows
section
variable {prog:Program} {w:World} {A:Around} {E:Value→Shared→Prop} {s:Shared}
end
end HT
namespace L2
open PySem PySem.W PySem.Spec PySem.Calls PyProof.Rows
section
variable {X:Cx}
end
end L2
set_option Elab.async false
set_option linter.all false
set_option maxRecDepth 100000
namespace HT
open PySem PySem.W PyProof.Rows
section
variable {n:Nat} {lt:Nat→Nat→Bool}
end
end HT
set_option Elab.async false
set_option linter.all false
set_option maxRecDepth 100000
namespace HT
open PySem PySem.W PyProof.Rows
section
variable {n:Nat} {lt:Nat→Nat→Bool}
end
end HT
set_option Elab.async false
set_option linter.all false
set_option maxRecDepth 100000
namespace L2
open PySem PySem.Spec PySem.W PyProof.Rows HT
theorem valsC {x:V} {xs:List V} {us:List Value} (r:Vals (x::xs) us):∃ u us',us=u::us'∧RelV x u∧Vals xs us':=by
  cases r with
  | cons h t=>exact ⟨_,_,rfl,h,t⟩
section
variable {prog:Program} {w:World} {A:Around} {E:Value→Shared→Prop} {s:Shared} {Q:Bool→Shared→Prop}
end
end L2
set_option Elab.async false
set_option linter.all false
set_option maxRecDepth 100000
namespace L2
open PySem PySem.Spec PySem.W PyProof.Rows HT
abbrev cD (c:List Int):PyData:=.tuple (c.map .int)
theorem cD_rep {H:Hp} {c:List Int} {v:V} (h:Rep H (cD c) v):∃ a,v=.ref a∧H a=some (.tup (c.map V.int)):=by
  unfold Rep at h
  obtain ⟨a,xs,rfl,h1,h2⟩:=h
  have hx:xs=c.map V.int:=by
    clear h1
    induction c generalizing xs with
    | nil=>unfold RepL at h2; exact h2
    | cons z c ih =>
      rw [List.map_cons] at h2
      unfold RepL at h2
      obtain ⟨x,xs',rfl,h3,h4⟩:=h2
      cases (show x=V.int z from h3)
      rw [ih _ h4]; rfl
  subst hx
  exact ⟨a,rfl,h1⟩
open Classical in
section
variable {X:Cx} {pins:List (Addr × Obj)} {σ:St} {H:Hp} {s:Shared}
end
section
variable {X:Cx}
end
end L2
set_option Elab.async false
set_option linter.all false
set_option maxRecDepth 100000
namespace L2
open PySem PySem.W PySem.Spec PySem.Calls PyProof.Rows
section
variable {prog:Program} {w:World} {A:Around} {E:Value→Shared→Prop} {h:Heap} {g:Array GenState} {d:Drawn} {t:Nat} {os:OsState}
variable {nm q:Str} {C N:Addr} {bs bm bmB:List Value} {hdct:Bool} {sn:List Str} {sub:List Value} {ab:Bool} {col:Option Bool} {dd:Option Addr} {k0 k1 k2 k3 k5:Option Value} {B newId initId:String}
theorem type_call_excI (F:ExcBaseFacts B newId initId bmB) (T:OwnTail h bmB bm) {rest:List Value} {fI:Addr} {Q:Fin→Shared→Prop}
    (hC:h.get? C=some (excClassObj nm q C N bs bm hdct sn sub ab col dd k0 k1 k2 k3 k5 newId)) (hi:Looks (model prog w) h (typeLookup (.ref C) "__init__") (some (.ref fI)))
    (hf:∀ self,Looks (model prog w) h (bindSpecial (.ref fI) self) (.ref fI,[self]))
    (hq:∀ h' e,Heap.MadeExcOf h h' e (.ref C) rest →
      wpAny (model prog w) A (call (.ref fI) (.ref e::rest)) (fun r s'=>r=.none∧Q (.done (.ret (.ref e))) s') E ⟨h',g,d,t,os⟩) (hrest:rest.length≤sizeLine:=by size_fits) :
    wpAny (model prog w) A (Builtin.«type.__call__» ⟨.ref C::rest,[]⟩) Q E ⟨h,g,d,t,os⟩:=by
  repeat (first | with_reducible refine wpAny_loadPart_at hC ?_ | with_reducible refine wpAny_madeBy_exc hC ?_ | wp_step)
  refine codeAny_call_builtin_code (Code.quiet_builtin _ F.quiet) (wpAny_check_new_subT F T hC ?_)
  refine codeAny_exc_new_subT F T hC ?_ hrest
  show wpAny _ _ _ _ _ _
  have hC₁:=Heap.get?_push_of_some { cls:=.ref C,data:=.fields #[.ref h.objs.size,.none,.none,.none,.bool false,.none] }
    (Heap.get?_push_of_some { cls:=.type "tuple",data:=.seq rest.toArray } hC)
  have kk:∀ b o,h.get? b=some o→((h.push { cls:=.type "tuple",data:=.seq rest.toArray }).push { cls:=.ref C,data:=.fields #[.ref h.objs.size,.none,.none,.none,.bool false,.none] }).get? b=some o:=fun b o e=>Heap.get?_push_of_some _ (Heap.get?_push_of_some _ e)
  have hget:((h.push { cls:=.type "tuple",data:=.seq rest.toArray }).push
      { cls:=.ref C,data:=.fields #[.ref h.objs.size,.none,.none,.none,.bool false,.none] }).get? (h.objs.size+1)=some
      { cls:=.ref C,data:=.fields #[.ref h.objs.size,.none,.none,.none,.bool false,.none] }:=by heap_get
  have hcC:(Value.ref C::bm).contains (.ref C)=true:=by simp
  unfold isInstance
  repeat (first | with_reducible refine wpAny_loadPart_at hget ?_ | (with_reducible refine wpAny_isSubtype_exc hC₁ ?_; rw [hcC]) | wp_step)
  show wpAny _ _ (typeLookup (.ref C) _) _ _ _
  refine (hi.keeps kk).at ?_
  refine wpAny_holding (wpAny_bind (((hf _).keeps kk).at ?_))
  refine wpAny_bind (wpAny_mono (hq _ (h.objs.size+1) ⟨fun b o hb=>Heap.get?_push_of_some _ (Heap.get?_push_of_some _ hb),Heap.get?_none_of_le (Nat.le_succ _),h.objs.size,hget,Heap.get?_none_of_le (Nat.le_refl _),?_⟩) (fun r s' hr=>?_) fun _ _ x=>x)
  · exact Heap.get?_push_of_some _ (Heap.get?_push_at rfl rfl)
  · obtain ⟨rfl,hQ⟩:=hr
    wp_walk
    exact hQ
theorem call_excI (F:ExcBaseFacts B newId initId bmB) (T:OwnTail h bmB bm) {rest:List Value} {fI:Addr} {Q:Value→Shared→Prop}
    (hC:h.get? C=some (excClassObj nm q C N bs bm hdct sn sub ab col dd k0 k1 k2 k3 k5 newId)) (hi:Looks (model prog w) h (typeLookup (.ref C) "__init__") (some (.ref fI)))
    (hf:∀ self,Looks (model prog w) h (bindSpecial (.ref fI) self) (.ref fI,[self]))
    (hq:∀ h' e,Heap.MadeExcOf h h' e (.ref C) rest →
      wpAny (model prog w) (A.under (.builtin "type.__call__" ⟨.ref C::rest,[]⟩)) (call (.ref fI) (.ref e::rest)) (fun r s'=>r=.none∧Q (.ref e) s') E ⟨h',g,d,t,os⟩) (hrest:rest.length≤sizeLine:=by size_fits) :
    wpAny (model prog w) A (call (.ref C) rest) Q E ⟨h,g,d,t,os⟩:=by
  have f1:=tc_lookup
  have f2:=tc_bind (.ref C)
  have hT:(⟨h,g,d,t,os⟩:Shared).TypeIs (.ref C) "type" := ⟨_,hC,rfl⟩
  refine wpAny_call (codeAny_of_tree ?_)
  show wpAny _ _ (callAny (.ref C) _) _ _ _
  repeat (any_goals (first | assumption | with_reducible refine wpAny_loadPart_at hC ?_ | wp_step))
  refine ⟨rfl,?_⟩
  refine codeAny_call_builtin_at (Code.quiet_builtin _ (by decide +kernel)) entry_typeCall (wpAny_check_type_call_sub hC (type_call_excI (hrest:=hrest) F T hC hi hf fun h' e hm=>?_))
  exact hq h' e hm
end
def excShape (K:Frag) (C:Addr) (bmB:List Value) (newId:String):Bool:=match K.lookup C with
  | some ⟨.type "type",_,.cls cd,sl⟩=>(match cd.mro,sl.toList with
    | .ref C' :: bm,[_,_,_,_,some (.builtin n),_]=>C' == C&&n == newId && !cd.hasDel&&tailIn K bmB bm&&nsOkIn K cd.ns
    | _,_=>false)
  | _=>false
theorem excShape_obj {K:Frag} {h:Heap} {C:Addr} {bmB:List Value} {newId:String} (X:K.In h) (q:excShape K C bmB newId=true) :
    ∃ bm N nm qn bs hdct sn sub ab col dd k0 k1 k2 k3 k5,h.get? C=some (excClassObj nm qn C N bs bm hdct sn sub ab col dd k0 k1 k2 k3 k5 newId)∧OwnTail h bmB bm:=by
  unfold excShape at q
  cases e:K.lookup C with
  | none=>rw [e] at q; cases q
  | some o =>
    rw [e] at q
    obtain ⟨oc,dd,dt,sl⟩:=o
    split at q
    · rename_i _ dd' cd sl' ho
      cases ho
      split at q
      · rename_i C' bm k0 k1 k2 k3 n k5 hm hs
        rw [Bool.and_eq_true,Bool.and_eq_true,Bool.and_eq_true,Bool.and_eq_true] at q
        obtain ⟨⟨⟨⟨q1,q2⟩,q3⟩,q4⟩,q5⟩:=q
        have q1:C'=C:=by simpa using q1
        have q2:n=newId:=by simpa using q2
        have q3:cd.hasDel=false:=by simpa using q3
        subst q1 q2
        obtain ⟨nm,bs,mro,ns,qn,hd,sn,sub,ab,col,del⟩:=cd
        cases hm
        cases q3
        obtain ⟨l⟩:=sl
        cases hs
        exact ⟨bm,ns,nm,qn,bs,hd,sn,sub,ab,col,dd,k0,k1,k2,k3,k5,X _ _ e,tail_of_in X q4⟩
      · cases q
    · cases q
structure MkX (K:Frag) (C f:Addr):Prop where
  shape:excShape K C mroVE "ValueError.__new__" = true
  init:findIn K (.ref C) "__init__" = some (some (.ref f))
  fn:isFn K (.ref f)=true
  kp:keepIn K (.ref C)=true
section
variable {prog:Program} {w:World} {A:Around} {E:Value→Shared→Prop} {s:Shared} {K:Frag} {C f:Addr} {rest:List Value}
theorem make_exc {Q:Value→Shared→Prop} (M:MkX K C f) (X:K.In s.heap)
    (hq:∀ h' e,Heap.MadeExcOf s.heap h' e (.ref C) rest →
      wpAny (model prog w) (A.under (.builtin "type.__call__" ⟨.ref C::rest,[]⟩)) (call (.ref f) (.ref e::rest)) (fun r s'=>r=.none∧Q (.ref e) s') E { s with heap:=h' }) (hrest:rest.length≤sizeLine) :
    wpAny (model prog w) A (call (.ref C) rest) Q E s:=by
  obtain ⟨bm,N,nm,qn,bs,hdct,sn,sub,ab,col,dd,k0,k1,k2,k3,k5,hC,TL⟩:=excShape_obj X M.shape
  obtain ⟨hh,g,d,t,os⟩:=s
  exact call_excI (hrest:=hrest) PySem.F.excBase_ValueError TL hC (looks_findIn X M.init) (fun self=>bind_fn X self (beq_iff_eq.mp M.fn)) hq
end
end L2
set_option Elab.async false
set_option linter.all false
set_option maxRecDepth 100000
namespace L2
open PySem PySem.W PySem.Spec PySem.Calls PyProof.Rows Builtin Builtin.ObjectAttr
def XdO (d:Addr) (fs:List (Str × V)):HO:=.ext fun h=>∃ mA,h.Ns1 d mA∧(∀ f,RelO (fs.lookup f) (mA f))∧PySem.Within mA (fs.map (·.1))
theorem XdO.ok {P:Program} {w:World} {H:Hp} {h:Heap} {d:Addr} {fs:List (Str × V)} {mA:Str→Option Value} (n:h.Ns1 d mA) (r:∀ f,RelO (fs.lookup f) (mA f)) (wi:PySem.Within mA (fs.map (·.1))):ObjOk P w H h d (XdO d fs):=by
  refine ⟨⟨mA,n,r,wi⟩,(let ⟨o,_,_,e,_⟩:=n; ⟨o,e⟩),?_⟩
  rintro g1 g2 ⟨mA,n,r,wi⟩ k
  exact ⟨mA,n.at fun o e=>k o e,r,wi⟩
def XHas (H:Hp):Option Addr→Prop
  | none=>True
  | some d=>∃ fs,H d=some (XdO d fs)
theorem exc_get {X:Cx} {pins:List (Addr × Obj)} {σ:St} {H:Hp} {s:Shared} {a C:Addr} {od:Option Addr} (I:Inv X pins σ H s) (h:H a=some (ExcO a C od)) (hd:XHas H od):∃ ox d,InstAt s.heap a ox C d:=by
  obtain ⟨⟨oe,vs,e1,e2,e3,e4,_⟩,_⟩:=I.hok a _ h
  cases od with
  | none=>exact ⟨oe,none,⟨e1,e2,by unfold notCls; rw [e4],by rw [e3]; trivial⟩⟩
  | some d =>
    obtain ⟨fs,hd⟩:=hd
    obtain ⟨_,⟨o,e⟩,_⟩:=I.hok d _ hd
    exact ⟨oe,some o,⟨e1,e2,by unfold notCls; rw [e4],by rw [e3]; exact e⟩⟩
def onlyVE:List Value→Bool
  | [.type a,.type b,.type c,.type d]=>a == "ValueError" && b == "Exception" && c == "BaseException" && d == "object"
  | .ref _::r=>onlyVE r
  | _=>false
theorem onlyVE_ref {c:Addr} {r:List Value} (e:onlyVE (.ref c::r)=true):onlyVE r=true:=by
  unfold onlyVE at e
  exact e
theorem onlyVE_base {l:List Value} (e:onlyVE l=true) (n:∀ c r,l ≠ .ref c::r):l=mroVE:=by
  unfold onlyVE at e
  split at e
  · simp only [Bool.and_eq_true,beq_iff_eq] at e
    obtain ⟨⟨⟨rfl,rfl⟩,rfl⟩,rfl⟩:=e
    rfl
  · exact absurd rfl (n _ _)
  · cases e
theorem onlyVE_ind {P:List Value→Prop} (hb:P mroVE) (hs:∀ c r,P r→P (.ref c::r)):∀ {l:List Value},onlyVE l=true→P l:=by
  intro l
  induction l with
  | nil=>intro e; exact absurd e (by decide)
  | cons v r ih =>
    intro e
    cases v with
    | ref c=>exact hs c r (ih (onlyVE_ref e))
    | _=>rw [onlyVE_base e (fun c r z=>by cases z)]; exact hb
structure ExcSet (K:Frag) (C:Addr):Prop where
  hd:hasDictIn K C=true
  po:((clsIn K C).any fun cd=>onlyVE cd.mro)=true
  sa:findIn K (.ref C) "__setattr__" = some (some (.builtin "object.__setattr__"))
section
variable {prog:Program} {w:World} {A:Around} {E:Value→Shared→Prop} {s:Shared} {K:Frag} {x C:Addr} {R:Result→Shared→Prop}
theorem osaX_open {ox:Obj} {od:Option Obj} {name:Str} {tk:Tok} {v:Value} (X:K.In s.heap) (I:InstAt s.heap x ox C od) (c:ExcSet K C) (ht:findIn K (.ref C) name=some none)
    (h:∀ b,wpAny (model prog w) A.in1 (storeInOwnDict (.ref x) (.ref C) (.str name tk) name v b)
      (fun fin s'=>match fin with | .done f=>R (.ok f) s' | .again c'=>c'.quiet=true∧codeAny (model prog w) A c' R s') (fun e s'=>R (.error e) s') s) :
    codeAny (model prog w) A (.call (.builtin "object.__setattr__") ⟨[.ref x,.str name tk,v],[]⟩) R s:=by
  have SF:=PySem.F.store_object
  obtain ⟨cd,hc,ho⟩:=any_some c.po
  have ne:cd.mro.isEmpty=false:=onlyVE_ind (P:=fun l=>l.isEmpty=false) rfl (fun _ _ _=>rfl) ho
  have hob:cd.mro.contains (.type "object")=true:=onlyVE_ind (P:=fun l=>l.contains (.type "object")=true) (by decide +kernel) (fun c r z=>by rw [List.contains_cons,z,Bool.or_true]) ho
  have hre:refuseLoop (.ref x) "__setattr__" cd.mro=pure ():=onlyVE_ind (P:=fun l=>refuseLoop (.ref x) "__setattr__" l=pure ()) (PySem.F.store_ValueError.passes _) (fun c r z=>by rw [refuseLoop_ref]; exact z) ho
  have sub:Looks (model prog w) s.heap (isInstance (.ref x) (.type "object")) true:=I.type.andThen (looks_mroIn X (by unfold mroIn; rw [hc,Option.bind_some,if_neg (by rw [ne]; decide),hob]))
  refine codeAny_call_builtin SF.slot.plain SF.entry (@check_slot (model prog w) _ _ s "object.__setattr__" "object" "__setattr__" (.ref x) [.str name tk,v] [] _ SF.kind SF.split sub (SF.args (.ref x) (.str name tk) v) ?_)
  have hm:Looks (model prog w) s.heap (mroOf (.ref C)) cd.mro:=(looks_clsIn X hc).andThen .now
  rw [osa_eq,refuse_eq]
  refine wpAny_bind (wpAny_bind (I.type.here (wpAny_bind (hm.here ?_))))
  rw [hre]
  refine wpAny_pure (wpAny_bind (I.type.here (wpAny_bind ((looks_findIn X ht).here (wpAny_bind (wpAny_pure ?_))))))
  exact h _
theorem set_exc0 {ox:Obj} {vs:Array Value} {name:Str} {v:Value} {Q:Unit→Shared→Prop} (X:K.In s.heap) (c:ExcSet K C) (na:findIn K (.ref C) name=some none) (hx:s.heap.get? x=some ox) (hc:ox.cls=.ref C) (hd:ox.data=.fields vs) (ho:ox.dict=none)
    (h:∀ h',h'.get? x=some { ox with dict:=some s.heap.objs.size }→h'.Ns1 s.heap.objs.size (fun y=>if y=name then some v else none)→(∀ b o,b≠x→s.heap.get? b=some o→h'.get? b=some o)→Q () { s with heap:=h',toks:=s.toks+2 }) :
    wpAny (model prog w) A (setAttr (.ref x) name v) Q E s:=by
  have I:InstAt s.heap x ox C none:=⟨hx,hc,by unfold notCls; rw [hd],by rw [ho]; trivial⟩
  refine set_plain X I c.sa (osaX_open (s:={ s with toks:=s.toks+1 }) X I c na fun b=>?_)
  obtain ⟨cd,hcd,hd'⟩:=any_some c.hd
  obtain ⟨oc,od,dt,sl⟩:=ox
  dsimp only at hc hd ho
  subst hc hd ho
  refine wpAny_bind (wpAny_pure (wpAny_bind (wpAny_bind (wpAny_loadPart hx (wpAny_bind (Looks.here (s:={ s with toks:=s.toks+1 }) (looks_clsIn X hcd) ?_))))))
  rw [hd']
  show wpAny (model prog w) A.in1 (do
                let d ← alloc { cls:=Value.type "dict",data:=Data.dict #[] }
                update x fun o=>{ cls:=o.cls,dict:=some d,data:=o.data,slots:=o.slots }
                pure (some d)) _ _ _
  have hx₁:(s.heap.push { cls:=.type "dict",data:=.dict #[] }).get? x=some { cls:=Value.ref C,data:=Data.fields vs,slots:=sl }:=Heap.get?_push_of_some _ hx
  have hxs:x≠s.heap.objs.size:=Nat.ne_of_lt (Heap.lt_size hx)
  refine wpAny_bind (wpAny_alloc' ?_)
  refine wpAny_bind (wpAny_update' hx₁ ?_)
  refine wpAny_pure ?_
  have hgd:((s.heap.push { cls:=.type "dict",data:=.dict #[] }).update x fun o=>{ cls:=o.cls,dict:=some s.heap.objs.size,data:=o.data,slots:=o.slots }).get? s.heap.objs.size
      = some { cls:=.type "dict",data:=.dict #[] } :=
    (Heap.get?_update_ne _ _ _ _ hxs.symm).trans (Heap.get?_push_at rfl rfl)
  have hnd:((s.heap.push { cls:=.type "dict",data:=.dict #[] }).update x fun o=>{ cls:=o.cls,dict:=some s.heap.objs.size,data:=o.data,slots:=o.slots }).Ns s.heap.objs.size (fun _=>none) :=
    ⟨_,#[],_,hgd,rfl,fun e he=>absurd he (by simp),fun _=>rfl⟩
  show wpAny _ _ (storeInDict s.heap.objs.size (.str name s.toks) name v) _ _ _
  unfold storeInDict newKeyGuard
  refine wpAny_bind (wpAny_pure (wpAny_bind (wpAny_nsSet1 (Heap.Ns1.of_empty hnd) fun h' hn' hs=>?_)))
  obtain ⟨oD,esD,epD,hoD,hdD,hcD⟩:=hn'.count (Within.cons name v Within.nil)
  refine wpAny_bind (wpAny_lookBehind hoD (by rw [hdD]; exact pastItsLine_dict (Nat.le_trans hcD (by rw [List.length_cons,List.length_nil,sizeLine_eq]; omega))) ?_)
  refine wpAny_pure (h h' ?_ hn' fun b ob hbx hb=>?_)
  · refine (hs.2 x hxs).trans (Heap.get?_update_self _ hx₁ ?_)
    rfl
  · exact (hs.2 b (Nat.ne_of_lt (Heap.lt_size hb))).trans ((Heap.get?_update_ne _ _ _ _ hbx).trans (Heap.get?_push_of_some _ hb))
theorem set_exc1 {ox:Obj} {vs:Array Value} {d:Addr} {mA:Str→Option Value} {ns:List Str} {name:Str} {v:Value} {Q:Unit→Shared→Prop} (X:K.In s.heap) (c:ExcSet K C) (na:findIn K (.ref C) name=some none) (hx:s.heap.get? x=some ox) (hc:ox.cls=.ref C) (hd:ox.data=.fields vs) (ho:ox.dict=some d)
    (hn:s.heap.Ns1 d mA) (hw:PySem.Within mA ns) (hsz:ns.length≤1000)
    (h:∀ h',h'.Ns1 d (fun y=>if y=name then some v else mA y)→Heap.SameBut d s.heap h'→Q () { s with heap:=h',toks:=s.toks+2 }) :
    wpAny (model prog w) A (setAttr (.ref x) name v) Q E s:=by
  have I:∃ od,InstAt s.heap x ox C (some od):=by
    obtain ⟨o,_,_,e,_⟩:=id hn
    exact ⟨o,hx,hc,by unfold notCls; rw [hd],by rw [ho]; exact e⟩
  obtain ⟨o,I⟩:=I
  refine set_plain X I c.sa (osaX_open (s:={ s with toks:=s.toks+1 }) X I c na fun b=>?_)
  obtain ⟨cd,hcd,hd'⟩:=any_some c.hd
  obtain ⟨oc,od,dt,sl⟩:=ox
  dsimp only at hc hd ho
  subst hc hd ho
  refine wpAny_bind (wpAny_pure (wpAny_bind (wpAny_bind (wpAny_loadPart hx (wpAny_bind (Looks.here (s:={ s with toks:=s.toks+1 }) (looks_clsIn X hcd) ?_))))))
  rw [hd']
  refine wpAny_pure (a:=some d) (wpAny_bind (wpAny_pure (wpAny_bind ?_)))
  refine wpAny_nsSet1 (s:={ s with toks:=s.toks+1 }) hn fun h' hn2 hs2=>?_
  obtain ⟨oD,esD,epD,hoD,hdD,hcD⟩:=hn2.count (PySem.Within.cons name v hw)
  refine wpAny_bind (wpAny_lookBehind hoD (by rw [hdD]; exact pastItsLine_dict (Nat.le_trans hcD (by rw [List.length_cons,sizeLine_eq]; omega))) ?_)
  exact wpAny_pure (h _ hn2 hs2)
end
section
variable {X:Cx} {pins:List (Addr × Obj)} {σ:St} {H:Hp} {s:Shared} {a C d:Addr} {fs:List (Str × V)} {f:Str} {v:V} {A:Around} {E:Value→Shared→Prop}
theorem upd_self {o:HO} (h:H a=some o):upd H a o=H:=by
  funext b
  by_cases e:b=a
  · subst e; rw [upd_same,h]
  · rw [upd_ne e]
theorem exc_read {b:Bool} {Q:Value→Shared→Prop} (I:Inv X pins σ H s) (e:H a=some (ExcO a C (some d))) (ed:H d=some (XdO d fs)) (c:ExcCls X.K C) (hh:hasDictIn X.K C=true) (n:NoAttr X.K C f) (l:fs.lookup f=some v)
    (h:∀ u s',Inv X pins σ H s'→RelV v u→Q u s'):wpAny (model X.prog X.w) A (getAttr (.ref a) f b) Q E s:=by
  obtain ⟨⟨oe,vs,e1,e2,e3,e4,_⟩,_⟩:=I.hok a _ e
  obtain ⟨⟨mA,nn,r,_⟩,_⟩:=I.hok d _ ed
  obtain ⟨od,ho,hl⟩:=lookIn_ns nn
  obtain ⟨u,hu,ru⟩:=RelO.some_of (v:=v) (o:=mA f) (by rw [← l]; exact r f)
  exact exc_attr (od:=some od) c I.kIn ⟨e1,e2,by unfold notCls; rw [e4],by rw [e3]; exact ho⟩ (findObj_own hh n rfl (by rw [hl,hu])) (handed_of ru) (h u _ (I.tok _) ru)
end
theorem vals_cons {x:V} {xs:List V} {us:List Value} (r:Vals (x::xs) us):∃ u ur,us=u::ur∧RelV x u∧Vals xs ur:=by cases r with | cons a b=>exact ⟨_,_,rfl,a,b⟩
def tFldX (K:Frag) (ta:TE) (f:Str):TE:=fun σ H Q=>ta σ H fun x H1=>∃ a C d fs v,x=.ref a∧H1 a=some (ExcO a C (some d))∧H1 d=some (XdO d fs)∧ExcCls K C∧hasDictIn K C=true∧NoAttr K C f∧fs.lookup f=some v∧Q v H1
structure FnI (P:Program) (w:World) (K:Frag) (mg:Str→Option Value) (base:Heap) (k:Nat) (C:Addr) (ps:List Str) (sp:Sp):Prop where
  ex:∃ f fd,FnOk P w K mg base CX0 k f fd ps sp∧MkX K C f∧Binds K fd ps []
structure BaseCls (K:Frag) (C:Addr):Prop where
  rd:readsIn K C (.type "type")=true
  fd:findCls K (.ref C) (.type "type") "__init__" = some (.val (.builtin "ValueError.__init__"))
  ga:specialIn K (.ref C) "__getattribute__" = some (some (.builtin "type.__getattribute__"))
section
variable {X:Cx} {k:Nat} {f C:Addr} {fd:FuncData} {ps:List Str} {sp:Sp} {x g:Str} {p pos np apos pos':Pos} {e o value:Expr} {es:List Expr} {t:TA} {ta tv:TE}
theorem we_fldX (he:PEw X e ta) (hb:attributeBase e g X.env (eval e X.env)=eval e X.env:=by rfl):PEw X (.Attribute e g pos) (tFldX X.K ta g):=⟨by
  intro pins s σ H Q I h
  refine attr_of hb (thn (he.p pins s σ H _ I h) fun u s1 ⟨x,H1,I1,rx,a,C,d,fs,v,ex,ea,ed,c,hh,n,l,q⟩=>?_)
  subst ex
  obtain rfl:u=Value.ref a:=rx
  exact exc_read I1 ea ed c hh n l fun u' s2 I2 ru=>⟨v,H1,I2,ru,q⟩⟩
@[irreducible] def rIsY (K:PySem.W.Frag):List V→Hp→VK→Prop:=fun xs H Q=>∃ a C od c u b,xs=[.ref a,c]∧H a=some (ExcO a C od)∧XHas H od∧ExcCls K C∧RelV c u∧PySem.W.kitOne K (.ref C) u=some b∧Q (.bl b) H
theorem ryI {K:PySem.W.Frag} {H:Hp} {Q:VK} {a C:Addr} {od:Option Addr} {c:V} {b:Bool} (ha:H a=some (ExcO a C od)) (hx:XHas H od) (ec:ExcCls K C) (u:Value) (ru:RelV c u) (e:PySem.W.kitOne K (.ref C) u=some b) (q:Q (.bl b) H):rIsY K [.ref a,c] H Q:=by
  unfold rIsY; exact ⟨a,C,od,c,u,b,rfl,ha,hx,ec,ru,e,q⟩
theorem cl_isiY:CallR X (.builtin "isinstance") (rIsY X.K):=by
  unfold rIsY
  intro pins s σ H xs us Q I r h
  obtain ⟨a,C,od,c,u,b,rfl,ha,hx,ec,ru,e,q⟩:=h
  obtain ⟨u1,w',rfl,r1,r2⟩:=vals2 r
  cases (show u1=Value.ref a from r1)
  have hi:=exc_get I ha hx
  have:w'=u:=by
    cases c with
    | ref p=>cases ru; cases r2; rfl
    | ty n=>cases ru; cases r2; rfl
    | non=>cases ru; cases r2; rfl
    | bl _=>cases ru; cases r2; rfl
    | int i=>obtain ⟨t,rfl⟩:=ru; simp [PySem.W.kitOne,PySem.W.kitCls] at e
    | str i=>obtain ⟨t,rfl⟩:=ru; simp [PySem.W.kitOne,PySem.W.kitCls] at e
    | byt i=>obtain ⟨t,rfl⟩:=ru; simp [PySem.W.kitOne,PySem.W.kitCls] at e
    | flt i=>obtain ⟨t,rfl⟩:=ru; simp [PySem.W.kitOne,PySem.W.kitCls] at e
  subst this
  exact PySem.W.kia_one (kitx_exc ec) I.kIn hi e (fun z=>nomatch z) fun tk=>⟨.bl b,H,I.tok _,rfl,q⟩
end
end L2
set_option Elab.async false
set_option linter.all false
set_option maxRecDepth 100000
namespace L2
open PySem PySem.W PySem.Spec PySem.Calls PyProof.Rows
def excAll (K:Frag) (C:Addr):Bool:=findIn K (.ref C) "__getattribute__" == some (some (.builtin "BaseException.__getattribute__"))&&findIn K (.ref C) "__getattr__" == some none&&subIn K (.ref C) (.type "BaseException") == some true &&
  (clsIn K C).isSome&&findIn K (.ref C) "__class__" == some (some (.builtin "object.__class__"))&&specialIn K (.builtin "object.__class__") "__get__" == some (some (.builtin "getset_descriptor.__get__")) &&
  takesIn K (.builtin "object.__class__") == some true&&mroIn K C (.type "object") == some true
theorem excAll.cls {K:Frag} {C:Addr} (h:excAll K C=true):ExcCls K C:=by
  unfold excAll at h
  simp only [Bool.and_eq_true,beq_iff_eq] at h
  obtain ⟨⟨⟨⟨⟨⟨⟨a,b⟩,c⟩,d⟩,e⟩,f⟩,g⟩,i⟩:=h
  exact ⟨a,b,c,d,e,f,g,i⟩
def setAll (K:Frag) (C:Addr) (ns:List Str):Bool:=hasDictIn K C&&(clsIn K C).any (fun cd=>onlyVE cd.mro)&&findIn K (.ref C) "__setattr__" == some (some (.builtin "object.__setattr__"))&&excShape K C mroVE "ValueError.__new__" &&
  ns.all fun n=>findIn K (.ref C) n == some none
theorem setAll.set {K:Frag} {C:Addr} {ns:List Str} (h:setAll K C ns=true):ExcSet K C:=by
  unfold setAll at h
  simp only [Bool.and_eq_true,beq_iff_eq] at h
  obtain ⟨⟨⟨⟨a,b⟩,c⟩,d⟩,e⟩:=h
  exact ⟨a,b,c⟩
theorem setAll.shape {K:Frag} {C:Addr} {ns:List Str} (h:setAll K C ns=true):excShape K C mroVE "ValueError.__new__" = true:=by
  unfold setAll at h
  simp only [Bool.and_eq_true,beq_iff_eq] at h
  exact h.1.2
theorem setAll.no {K:Frag} {C:Addr} {ns:List Str} (h:setAll K C ns=true) {n:Str} (hn:n∈ns):NoAttr K C n:=by
  unfold setAll at h
  simp only [Bool.and_eq_true,beq_iff_eq] at h
  have:=List.all_eq_true.mp h.2 n hn
  exact beq_iff_eq.mp this
def baseAll (K:Frag) (C:Addr):Bool:=readsIn K C (.type "type")&&specialIn K (.ref C) "__getattribute__" == some (some (.builtin "type.__getattribute__")) &&
  (match findCls K (.ref C) (.type "type") "__init__" with | some (.val (.builtin i))=>i == "ValueError.__init__" | _=>false)
theorem baseAll.base {K:Frag} {C:Addr} (h:baseAll K C=true):BaseCls K C:=by
  unfold baseAll at h
  simp only [Bool.and_eq_true,beq_iff_eq] at h
  obtain ⟨⟨a,b⟩,c⟩:=h
  refine ⟨a,?_,b⟩
  split at c
  · rename_i i e
    rw [e,beq_iff_eq.mp c]
  · cases c
end L2
set_option Elab.async false
set_option linter.all false
set_option maxRecDepth 100000
namespace L2
open PySem PySem.W PySem.Spec PySem.Calls PyProof.Rows Builtin Builtin.ObjectAttr
def ExcN (a C:Addr) (od:Option Addr):HO:=.ext fun h=>∃ oe vs,h.get? a=some oe∧oe.cls=.ref C∧oe.dict=od∧oe.data=.fields vs∧CzV (.ref C) vs∧vs[1]?=some Value.none
section
variable {P:Program} {w:World} {H:Hp} {h:Heap} {a C:Addr} {od:Option Addr}
theorem ExcN.ok (x:ExcAt h a (.ref C) od none):ObjOk P w H h a (ExcN a C od):=by
  obtain ⟨oe,vs,e1,e2,e3,e4,e5,e6⟩:=x
  refine ⟨⟨oe,vs,e1,e2,e3,e4,e5,e6⟩,⟨oe,e1⟩,?_⟩
  rintro g1 g2 ⟨oe,vs,e1,e2,e3,e4,e5,e6⟩ k
  exact ⟨oe,vs,k _ e1,e2,e3,e4,e5,e6⟩
theorem ExcN.exc (x:ObjOk P w H h a (ExcN a C od)):ExcAt h a (.ref C) od none:=by
  obtain ⟨⟨oe,vs,e1,e2,e3,e4,e5,e6⟩,_⟩:=x
  exact ⟨oe,vs,e1,e2,e3,e4,e5,e6⟩
end
section
variable {prog:Program} {w:World} {A:Around} {E:Value→Shared→Prop} {s:Shared} {K:Frag} {x C:Addr}
theorem base_initN {oe:Obj} {vs:Array Value} {rest:List Value} {Q:Value→Shared→Prop} (X:K.In s.heap) (sh:excShape K C mroVE "ValueError.__new__" = true) (he:s.heap.get? x=some oe) (hc:oe.cls=.ref C) (hd:oe.data=.fields vs) (hz':CzV (.ref C) vs) (hv:vs[1]?=some Value.none) (hr:rest.length≤sizeLine)
    (k:∀ h',ExcAt h' x (.ref C) oe.dict none→(∀ b o,b≠x→s.heap.get? b=some o→h'.get? b=some o)→Q .none { s with heap:=h' }) :
    wpAny (model prog w) A (call (.builtin "ValueError.__init__") (.ref x::rest)) Q E s:=by
  obtain ⟨bm,N,nm,qn,bs,hdct,sn,sub,ab,col,dd,k0,k1,k2,k3,k5,hC,TL⟩:=excShape_obj X sh
  have F:=PySem.F.excBase_ValueError
  have hz:=hz'.sz
  obtain ⟨hh,g,d,t,os⟩:=s
  refine wpAny_call (codeAny_call_builtin F.init.plain F.initEntry (wpAny_check_init_subT F TL hC he hc ?_))
  unfold Builtin.«BaseException.__init__»
  dsimp only
  refine wpAny_bind (wpAny_newTuple ?_ hr)
  dsimp only at he hC k ⊢
  have he₁:(hh.push { cls:=Value.type "tuple",data:=Data.seq rest.toArray }).get? x=some oe:=Heap.get?_push_of_some _ he
  have h0:vs[0]?=some vs[0]:=Array.getElem?_eq_getElem (by omega)
  unfold BaseException.bexcPut
  refine wpAny_bind (wpAny_bind (wpAny_field he₁ hd h0 ?_))
  refine wpAny_bind (wpAny_setField he₁ hd (by omega) ?_)
  have d3:=Obj.data_mapFields hd (·.setIfInBounds 0 (Value.ref hh.objs.size))
  have fin:Q .none { heap:=(hh.push { cls:=Value.type "tuple",data:=Data.seq rest.toArray }).update x (Obj.mapFields (·.setIfInBounds 0 (Value.ref hh.objs.size))),gens:=g,drawn:=d,toks:=t,os:=os }:=by
    refine k _ ⟨_,_,Heap.get?_update_self _ he₁ (Obj.isFreed_of_fields d3),?_,?_,d3,hz'.set (by decide),?_⟩ fun b o hb e=>?_
    · rw [Obj.cls_mapFields]; exact hc
    · obtain ⟨_,_,dt,_⟩:=oe
      cases dt <;> rfl
    · show (vs.setIfInBounds 0 _)[1]?=some Value.none
      rw [Array.getElem?_setIfInBounds_ne (by decide)]; exact hv
    · rw [Heap.get?_update_other _ _ (Ne.symm hb)]
      exact Heap.get?_push_of_some _ e
  split
  · exact wpAny_letGo (wpAny_pure fin)
  · exact wpAny_pure (wpAny_pure fin)
end
section
variable {X:Cx} {pins:List (Addr × Obj)} {σ:St} {H:Hp} {s:Shared} {a C d:Addr} {fs:List (Str × V)} {f:Str} {v:V} {A:Around} {E:Value→Shared→Prop}
theorem excN_set0 {y:V} {u:Value} {Q:Unit→Shared→Prop} (I:Inv X pins σ H s) (e:H a=some (ExcN a C none)) (c:ExcSet X.K C) (n:NoAttr X.K C f) (ry:RelV y u)
    (h:∀ d s',H d=none→d≠a→Inv X pins σ (upd (upd H a (ExcN a C (some d))) d (XdO d [(f,y)])) s'→Q () s'):wpAny (model X.prog X.w) A (setAttr (.ref a) f u) Q E s:=by
  obtain ⟨⟨oe,vs,e1,e2,e3,e4,e5,e6⟩,_⟩:=I.hok a _ e
  refine set_exc0 I.kIn c n e1 e2 e4 e3 fun h' x1 x2 x3=>h s.heap.objs.size _ I.fresh (Nat.ne_of_gt (Heap.lt_size e1)) ?_
  have nd:s.heap.objs.size≠a:=Nat.ne_of_gt (Heap.lt_size e1)
  have hn:upd H a (ExcN a C (some s.heap.objs.size)) s.heap.objs.size=none:=by rw [upd_ne nd]; exact I.fresh
  have mu:Mut (H a):=by rw [e]; exact True.intro
  have w1:HOk X.prog X.w (upd H a (ExcN a C (some s.heap.objs.size))) h':=I.hok.write mu (.inl rfl) x3 ⟨_,x1⟩ (ExcN.ok ⟨_,_,x1,e2,rfl,e4,e5,e6⟩)
  have w2:Un X.fs [] H (upd H a (ExcN a C (some s.heap.objs.size))) s.heap h':=Un.write mu (.inl rfl) x3 ⟨_,x1⟩
  refine I.un (w2.put (Heap.get?_none_of_le (Nat.le_refl _)) hn) (w1.put hn (XdO.ok x2 (fun g=>?_) fun g hg=>?_))
  · show RelO (List.lookup g [(f,y)]) _
    by_cases q:g=f
    · rw [if_pos q,q]
      simp only [List.lookup,beq_self_eq_true]
      exact ry
    · rw [if_neg q]
      have:(g == f)=false:=beq_eq_false_iff_ne.mpr q
      simp only [List.lookup,this]
      trivial
  · by_cases q:g=f
    · subst q; simp
    · exact absurd (if_neg q) hg
theorem excN_set1 {y:V} {u:Value} {Q:Unit→Shared→Prop} (I:Inv X pins σ H s) (e:H a=some (ExcN a C (some d))) (ed:H d=some (XdO d fs)) (c:ExcSet X.K C) (n:NoAttr X.K C f) (hl:fs.length<1000) (ry:RelV y u)
    (h:∀ s',Inv X pins σ (upd H d (XdO d (putF f y fs))) s'→Q () s'):wpAny (model X.prog X.w) A (setAttr (.ref a) f u) Q E s:=by
  obtain ⟨⟨oe,vs,e1,e2,e3,e4,e5,e6⟩,_⟩:=I.hok a _ e
  obtain ⟨⟨mA,nn,r,wi⟩,_⟩:=I.hok d _ ed
  refine set_exc1 I.kIn c n e1 e2 e4 e3 nn wi (by rw [List.length_map]; omega) fun h' O' sb=>h _ ?_
  have hd:∃ o,h'.get? d=some o:=let ⟨o,_,_,e',_⟩:=O'; ⟨o,e'⟩
  refine I.write (x:=d) (e:=d) (by rw [ed]; exact True.intro) (.inl rfl) (fun b q hb z=>(sb.2 b hb).trans z) hd (XdO.ok O' (fun g=>?_) fun g hg=>?_)
  · show RelO ((putF f y fs).lookup g) (if g=f then some u else mA g)
    rw [lookup_putF]
    by_cases q:g=f
    · rw [if_pos q,if_pos q]; exact ry
    · rw [if_neg q,if_neg q]; exact r g
  · by_cases q:g=f
    · rw [q]; exact (keys_putF f y fs).1
    · refine (keys_putF f y fs).2 g (wi g fun z=>hg ?_)
      show (if g=f then some u else mA g)=none
      rw [if_neg q]; exact z
theorem Inv.excMadeN {h':Heap} {args:List Value} (I:Inv X pins σ H s) (x:Heap.MadeExcOf s.heap h' a (.ref C) args):H a=none∧Inv X pins σ (upd H a (ExcN a C none)) { s with heap:=h' }:=by
  have na:H a=none:=by
    cases z:H a with
    | none=>rfl
    | some u=>obtain ⟨ob,e⟩:=(I.hok a u z).get; rw [x.new] at e; cases e
  exact ⟨na,I.un (t':=s.toks) ((Un.kept x.keeps).put x.new na) ((I.hok.kept x.keeps).put na (ExcN.ok (MadeExcOf.at x)))⟩
end
def tBaseN (K:Frag) (t:TA):TE:=fun σ H Q=>t σ H fun vs H1=>∃ a C od r,vs=.ref a::r∧vs.length≤64∧H1 a=some (ExcN a C od)∧excShape K C mroVE "ValueError.__new__" = true∧Q .non H1
def sFldN (K:Frag) (ta tv:TE) (f:Str):TS:=fun D σ H=>tv σ H fun y H1=>ta σ H1 fun x H2=>∃ a C,x=.ref a∧ExcSet K C∧NoAttr K C f ∧
  ((H2 a=some (ExcN a C none)∧∀ d,H2 d=none→d≠a→D.nx σ (upd (upd H2 a (ExcN a C (some d))) d (XdO d [(f,y)]))) ∨
    ∃ d fs,H2 a=some (ExcN a C (some d))∧H2 d=some (XdO d fs)∧fs.length<1000∧D.nx σ (upd H2 d (XdO d (putF f y fs))))
section
variable {X:Cx} {k:Nat} {f C:Addr} {fd:FuncData} {ps:List Str} {sp:Sp} {x g:Str} {p pos np apos pos':Pos} {e o value:Expr} {es:List Expr} {t:TA} {ta tv:TE}
theorem we_baseN {E0a:Addr} {pl:Sem Bool} (B:BaseCls X.K E0a) (hm:X.mg x=some (.ref E0a)) (ha:PAw X (e::es) t) (hg:Gl X x:=by rfl)
    (hdb:(x == ("__debug__" : Str))=false:=by decide) (he:starEach (e::es) X.env=(false,eval e X.env)::starEach es X.env:=by first | exact se_Name | exact se_Constant | exact se_Call | exact se_Subscript | exact se_Tuple)
    (hpl:(backTo pos (starEach es X.env)).any (·.1)=false:=by repeat (first | exact ap_nil | refine ap_cons (by first | exact se_Name | exact se_Constant | exact se_Call | exact se_Subscript | exact se_Tuple) ?_))
    (ht:eval (.Call (.Attribute (.Name x np) "__init__" apos) (e::es) [] pos) X.env=(do
      let ov ← eval (.Name x np) X.env
      standAt apos.atName
      let (f,first) ← holding [ov] (getMethod ov "__init__" pl)
      callWith pos f first (backTo pos (starEach (e::es) X.env)) (backToKw pos (keywordEach [] X.env))):=by rfl) :
    PEw X (.Call (.Attribute (.Name x np) "__init__" apos) (e::es) [] pos) (tBaseN X.K t):=⟨by
  intro pins s σ H Q I h
  refine PySem.W.methodCall_KW (pl:=pl) (ld_glob I hg hm ?_ hdb) ht
  refine method_cls I.kIn B.ga (cls_value I.kIn B.rd B.fd rfl ?_)
  have I0:Inv X pins σ H { s with toks:=s.toks+1 }:=I.tok _
  have hA:=ha.p pos pins _ σ H _ I0 h
  rw [he] at hA ⊢
  refine Calls.callWith_builtin (by show (false || (backTo pos (starEach es X.env)).any (·.1))=false; rw [hpl] <;> rfl) (Calls.evalArgs_plain (thn hA fun us s1 ⟨vs,H1,I1,r,a,C,od,rr,ev,hz,e,sh,q⟩=>?_))
  subst ev
  obtain ⟨u,ur,rfl,r1,rr⟩:=vals_cons r
  · cases (show u=Value.ref a from r1)
    obtain ⟨⟨oe,vs,e1,e2,e3,e4,e5,e6⟩,_⟩:=I1.hok a _ e
    refine base_initN I1.kIn sh e1 e2 e4 e5 e6 (by rw [← rr.length]; exact small64 (Nat.le_trans (Nat.le_succ _) hz)) fun h' x1 x6=>?_
    rw [e3] at x1
    have I2:Inv X pins σ (upd H1 a (ExcN a C od)) { s1 with heap:=h' }:=I1.write (x:=a) (e:=a) (t':=s1.toks) (by rw [e]; exact True.intro) (.inl rfl) (fun b o hb q=>x6 b o hb q) (let ⟨oe,vs,y,_⟩:=x1; ⟨oe,y⟩) (ExcN.ok x1)
    rw [upd_self e] at I2
    exact ⟨V.non,H1,I2,rfl,q⟩⟩
theorem ws_fldN (ha:PEw X o ta) (hv:PEw X value tv) (hs:swapsWith value (some (.Attribute o g pos')) pos.line X.env=pure false:=by rfl):PSw X (.Assign [.Attribute o g pos'] value pos) (sFldN X.K ta tv g):=⟨by
  intro pins s σ H D I h
  refine plainObj_wpAny_Assign_Attribute (thn (hv.p pins s σ H _ I h) fun u s1 ⟨y,H1,I1,ry,q⟩=>thn (ha.p pins s1 σ H1 _ I1 q) fun ov s2 ⟨x,H2,I2,rx,a,C,ex,c,n,q2⟩=>?_) hs
  subst ex
  obtain rfl:ov=Value.ref a:=rx
  rcases q2 with ⟨ea,q2⟩ | ⟨d,fs,ea,ed,l,q2⟩
  · exact excN_set0 I2 ea c n ry fun d s3 nd na I3=>⟨σ,_,I3,q2 d nd na⟩
  · exact excN_set1 I2 ea ed c n l ry fun s3 I3=>⟨σ,_,I3,q2⟩⟩
end
def del (H:Hp) (a:Addr):Hp:=fun b=>if b=a then none else H b
theorem del_same {H:Hp} {a:Addr}:del H a a=none:=if_pos rfl
theorem del_ne {H:Hp} {a b:Addr} (h:b≠a):del H a b=H b:=if_neg h
theorem HOk.del {P:Program} {w:World} {H:Hp} {h:Heap} {a:Addr} {F:Heap→Prop} (x:HOk P w H h) (e:H a=some (.ext F)):HOk P w (del H a) h:=fun b o q=>by
  by_cases hb:b=a
  · subst hb; rw [del_same] at q; cases q
  · rw [del_ne hb] at q
    refine (x b o q).stay (fun c u _ r=>r) (fun c r=>?_) fun c xs r=>?_
    · rw [del_ne (fun z=>by subst z; rw [e] at r; cases r)]; exact r
    · rw [del_ne (fun z=>by subst z; rw [e] at r; cases r)]; exact r
theorem Un.del {fs:List Addr} {H H1:Hp} {h h1:Heap} {a:Addr} {F:Heap→Prop} (x:Un fs [] H H1 h h1) (e:H1 a=some (.ext F)):Un fs [] H (L2.del H1 a) h h1 where
  keep:=x.keep
  slot:=x.slot
  free:=fun b ob q n m=>by
    by_cases hb:b=a
    · subst hb; exact del_same
    · rw [del_ne hb]; exact x.free b ob q n m
  there:=x.there
  tups:=fun b xs q=>by have r:=x.tups b xs q; rw [del_ne (fun z=>by subst z; rw [e] at r; cases r)]; exact r
  frzs:=fun b ob xs q=>by have r:=x.frzs b ob xs q; rw [del_ne (fun z=>by subst z; rw [e] at r; cases r)]; exact r
  tbls:=fun b ps q=>by
    obtain ⟨m,r⟩:=x.tbls b ps q
    exact ⟨m,by rw [del_ne (fun z=>by subst z; rw [e] at r; cases r)]; exact r⟩
structure XMadeG (X:Cx) (Ex:St→XK):Prop where
  p:∀ (pins:List (Addr × Obj)) (σ:St) (H1 H2:Hp) (s1 s2:Shared) (a:Addr) (cls:Value) (od:Option Addr),Inv X pins σ H1 s1→s2.os=s1.os→AllBare s2.gens→Un (frs X.stack) [] H1 H2 s1.heap s2.heap→HOk X.prog X.w H2 s2.heap →
    ExcAt s2.heap a cls od none→s1.heap.get? a=none→H2 a=none→Ex σ cls od H2→X.xe (.ref a) s2
theorem xmadeG_fn {P:Program} {w:World} {K:PySem.W.Frag} {mg:Str→Option Value} {base:Heap} {N:List Str} {qual:Str} {scope:Scope} {f:Addr} {cd:Value} {A:Around} {outer:List Env} {s:Shared} {H:Hp} {E:XK} :
    XMadeG (cxOf (CX1 P w) P w K mg base N qual scope f cd A outer s H E) (fun _=>E):=⟨fun pins σ H1 H2 s1 s2 a cls od I os bare un hok x fa na q =>
  leave_fn I os bare un hok x (.inl rfl) fa na (fun b hb=>by cases hb) (fun b hb=>by cases hb) q⟩
section
variable {M:Model} {A:Around} {E:Value→Shared→Prop} {env:Env} {K:Frag} {C:Addr}
theorem raise_made {s:Shared} {x:Sem Value} {Q:Flow→Shared→Prop} (sh:excShape K C mroVE "ValueError.__new__" = true) (hh:A.handled=none)
    (h:wpAny M A x (fun v s₁=>∃ e od,v=.ref e∧K.In s₁.heap∧ExcAt s₁.heap e (.ref C) od none∧E (.ref e) s₁) E s) :
    wpAny M A (raiseStmt env (some x) none) Q E s:=by
  unfold raiseStmt
  refine wpAny_bind (wpAny_mono h (fun v s₁ h₁=>?_) fun _ _ x=>x)
  obtain ⟨e,od,rfl,X,⟨oe,vs,he,hc,ho,hd,hz,hv⟩,hE⟩:=h₁
  obtain ⟨bm,N,nm,qn,bs,hdct,sn,sub,ab,col,dd,k0,k1,k2,k3,k5,hC,TL⟩:=excShape_obj X sh
  have hbase:bm.contains (.type "BaseException")=true:=TL.hasType PySem.F.excBase_ValueError.hasBase
  have hcB:(Value.ref C::bm).contains (.type "BaseException")=true:=by rw [List.contains_cons,hbase,Bool.or_true]
  obtain ⟨hp,g,d,tk,os⟩:=s₁
  obtain ⟨oc,odd,dt,sl⟩:=oe
  dsimp only at hc ho hd he hC hE
  subst hc hd
  repeat (first | with_reducible refine wpAny_loadPart_at he ?_ | with_reducible refine wpAny_loadPart_at hC ?_ | (with_reducible refine wpAny_isSubtype_exc hC ?_; rw [hcB]) | wp_step)
  rw [hv]
  refine wpAny_pure ?_
  rw [if_neg (by decide)]
  exact wpAny_pure (wpAny_raiseNew_none hh hE)
end
def tRaiseX (C:Addr) (sp:Sp) (Ex:St→XK) (t:TA):TS:=fun _ σ H=>t σ H fun vs H1=>vs.length≤64∧∀ a,H1 a=none →
  sp (.ref a::vs) (upd H1 a (ExcN a C none)) (fun v H2=>v=.non∧∃ od,H2 a=some (ExcN a C od)∧Ex σ (.ref C) od (del H2 a)) E0
section
variable {X:Cx} {k:Nat} {f C:Addr} {fd:FuncData} {ps:List Str} {sp:Sp} {Ex:St→XK} {x:Str} {pos np cpos:Pos} {e:Expr} {es:List Expr} {t:TA}
theorem run_makeN {pins:List (Addr × Obj)} {σ:St} {H:Hp} {s:Shared} {us:List Value} {vs:List V} (M:MkX X.K C f) (F:FnOk X.prog X.w X.K X.mg X.base CX0 k f fd ps sp) (hr:Room (k+1) X.A) (hb:Binds X.K fd ps []) (hx:XMadeG X Ex)
    (I:Inv X pins σ H s) (r:Vals vs us) (hz:vs.length≤64)
    (h:∀ a,H a=none→sp (.ref a::vs) (upd H a (ExcN a C none)) (fun v H2=>v=.non∧∃ od,H2 a=some (ExcN a C od)∧Ex σ (.ref C) od (del H2 a)) E0) :
    wpAny (model X.prog X.w) X.A (call (.ref C) us) (fun v s₁=>∃ e od,v=.ref e∧X.K.In s₁.heap∧ExcAt s₁.heap e (.ref C) od none∧X.xe (.ref e) s₁) X.xe s:=by
  refine make_exc M I.kIn (fun h' a x=>?_) (by rw [← r.length]; exact small64 hz)
  obtain ⟨na,I2⟩:=I.excMadeN x
  have hq:=h a na
  have r2:Vals (V.ref a::vs) (Value.ref a::us):=.cons rfl r
  have hl:(Value.ref a::us++[]).length=ps.length:=by
    have e:=r2.length
    rw [F.len _ _ _ _ hq] at e
    rw [List.append_nil]
    exact e.symm
  have hbt:=hb _ (Value.ref a::us) I2.kIn hl
  rw [List.append_nil] at hbt
  refine wpAny_call (codeAny_mono (F.run _ X.stack _ _ ⟨Value.ref a::us,[]⟩ (Value.ref a::us) _ _ E0 (hr.make C us []) (I2.env0.make C us []) hbt r2 hq) fun r s' hq'=>?_)
  cases r with
  | error e=>exact False.elim hq'
  | ok fl =>
    cases fl with
    | ret u =>
      have hc:=hq'
      obtain ⟨v,H',os,bare,un,hok,rv,ev,od,eN,q3⟩:=hq'
      subst ev
      obtain ⟨_,_,I3,_,_⟩:=I2.after hc
      have un1:Un (frs X.stack) [] H H' s.heap s'.heap:=((Un.kept x.keeps).put x.new na).tr un fun b hb=>.inl hb
      exact ⟨rv,a,od,rfl,I3.kIn,ExcN.exc (hok a _ eN),hx.p pins σ H (del H' a) s s' a _ od I os bare (un1.del eN) (hok.del eN) (ExcN.exc (hok a _ eN)) x.new del_same q3⟩
    | next=>exact False.elim hq'
    | brk=>exact False.elim hq'
    | cont=>exact False.elim hq'
theorem ws_raiseX (F:FnI X.prog X.w X.K X.mg X.base k C ps sp) (hm:X.mg x=some (.ref C)) (hc:X.calm=true) (hr:Room (k+1) X.A) (hx:XMadeG X Ex) (ha:PAw X (e::es) t) (hg:Gl X x:=by rfl)
    (hdb:(x == ("__debug__" : Str))=false:=by decide) (he:starEach (e::es) X.env=(false,eval e X.env)::starEach es X.env:=by first | exact se_Name | exact se_Constant | exact se_BinOp | exact se_Call | exact se_Subscript | exact se_Tuple)
    (hpl:(backTo cpos (starEach es X.env)).any (·.1)=false:=by repeat (first | exact ap_nil | refine ap_cons (by first | exact se_Name | exact se_Constant | exact se_BinOp | exact se_Call | exact se_Subscript | exact se_Tuple) ?_)) :
    PSw X (.Raise (some (.Call (.Name x np) (e::es) [] cpos)) none pos) (tRaiseX C sp Ex t):=⟨by
  obtain ⟨f,fd,h1,h2,h3⟩:=F.ex
  intro pins s σ H D I h
  rw [arm_exec_Raise]
  refine wpAny_bind (wpAny_standAt ?_)
  show wpAny _ _ (raiseStmt X.env (some (do let v ← eval (.Call (.Name x np) (e::es) [] cpos) X.env; standAt pos; pure v)) none) _ _ _
  refine raise_made h2.shape (I.ok.hd hc) (wpAny_bind (wpAny_mono (Q:=fun v s₁=>∃ e od,v=.ref e∧X.K.In s₁.heap∧ExcAt s₁.heap e (.ref C) od none∧X.xe (.ref e) s₁) ?_ (fun v s₁ h₁=>wpAny_bind (wpAny_standAt (wpAny_pure h₁))) fun _ _ x=>x))
  refine wpAny_Call_Name_kw (ld_glob I hg hm ?_ hdb)
  refine PySem.W.callWith_K (h₀:=X.base) I.ok.mod.kin h2.kp (thn (ha.p cpos pins s σ H _ I h) fun us s1 ⟨vs,H1,I1,r,hz,q⟩=>⟨I1.kIn,?_⟩) he hpl
  exact run_makeN h2 h1 hr h3 hx I1 r hz q⟩
end
end L2
set_option Elab.async false
set_option linter.all false
set_option maxRecDepth 100000
namespace HT
open PySem PySem.Spec PyProof.Rows PySem.Builtin
section
variable {prog:Program} {w:World} {A:Around} {E:Value→Shared→Prop} {s:Shared}
end
end HT
set_option Elab.async false
set_option linter.all false
set_option maxRecDepth 100000
namespace HT
open PySem PySem.Spec PyProof.Rows PySem.Builtin
section
variable {prog:Program} {w:World} {A:Around} {E:Value→Shared→Prop} {s:Shared} {K:Type} [DecidableEq K] {knd:HeapKind prog w K}
end
end HT
set_option Elab.async false
set_option linter.all false
set_option maxRecDepth 100000
namespace L2
open PySem PySem.Spec PySem.W PyProof.Rows HT
section
variable {X:Cx} {pins:List (Addr × Obj)} {σ:St} {H:Hp}
end
end L2
set_option Elab.async false
set_option linter.all false
set_option maxRecDepth 100000
namespace HT
open PySem PySem.Spec PyProof.Rows
section
variable {prog:Program} {w:World} {A:Around} {E:Value→Shared→Prop} {s:Shared} {it d:Addr} {es:Array DictEntry} {ep i:Nat} {od:Obj}
end
end HT
set_option Elab.async false
set_option linter.all false
set_option maxRecDepth 100000
namespace L2
open PySem PySem.Spec PySem.W PyProof.Rows HT
section
variable {X:Cx} {pins:List (Addr × Obj)} {σ:St} {H:Hp} {s:Shared}
end
section
variable {X:Cx} {tg:Expr}
end
end L2
set_option Elab.async false
set_option linter.all false
set_option maxRecDepth 100000
namespace HT
open PySem PySem.Spec PyProof.Rows PySem.W
section
variable {prog:Program} {w:World} {A:Around} {d:Addr} {o:Obj} {es:Array DictEntry} {ep:Nat}
end
end HT
namespace L2
open PySem PySem.Spec PySem.W PyProof.Rows HT
end L2
set_option Elab.async false
set_option linter.all false
set_option maxRecDepth 100000
namespace L2
open PySem PySem.Spec PySem.W PyProof.Rows HT
section
variable {prog:Program} {w:World} {A:Around} {E:Value→Shared→Prop} {s:Shared}
end
end L2
set_option Elab.async false
set_option linter.all false
set_option maxRecDepth 100000
namespace HT
open PySem PySem.Spec PyProof.Rows PySem.W
section
variable {prog:Program} {w:World} {A:Around} {E:Value→Shared→Prop} {s:Shared} {it d:Addr} {es:Array DictEntry} {ep i:Nat} {od:Obj}
end
end HT
set_option Elab.async false
set_option linter.all false
set_option maxRecDepth 100000
namespace L2
open PySem PySem.Spec PySem.W PyProof.Rows HT
section
variable {X:Cx} {tg:Expr}
end
section
variable {X:Cx} {o e:Expr} {apos cpos:Pos} {td ty:TE}
end
end L2
namespace L2
open PySem PySem.Spec PySem.W PyProof.Rows HT
end L2
namespace L2
open PySem
theorem cl_tupK {X:Cx} (K:PySem.W.Frag) (hK:X.K=K:=by rfl):CallR X (.type "tuple") (fun xs H Q=>∃ p ys,xs=[.ref p]∧((SqL K H p ys∧∀ l,H l=none→Q (.ref l) (upd H l (.tup ys)))∨(SqT K H p ys∧Q (.ref p) H))):=by
  subst hK; exact call_tuple_of
end L2
set_option Elab.async false
set_option linter.all false
set_option maxRecDepth 100000
namespace L2
open PySem
section
variable {js:List Nat} {te:TE} {tc:TT} {σ:St} {H:Hp} {Q:VK}
end
end L2
set_option Elab.async false
set_option linter.all false
set_option maxRecDepth 100000
namespace L2
open PySem PySem.Spec PyProof.Rows
section
variable {X:Cx} {pins:List (Addr × Obj)} {σ:St} {H:Hp} {s:Shared} {scope:Scope} {x x2:Str} {N':List Str} {js:List Nat} {fp:List Addr}
end
section
variable {X:Cx} {pins:List (Addr × Obj)} {σ:St} {H:Hp} {s:Shared} {scope:Scope} {x:Str} {N':List Str} {js:List Nat} {fp:List Addr} {elt iter:Expr} {px pos:Pos} {tg:Expr} {x2:Str} {te:TE}
end
section
variable {X:Cx} {scope:Scope} {x x2 y:Str} {N':List Str} {js:List Nat} {elt iter tg:Expr} {py pos spos:Pos} {te:TE} {wi:TI} {i:Nat}
end
end L2
set_option Elab.async false
set_option linter.all false
set_option maxRecDepth 100000
namespace HT
open PySem PySem.Spec PyProof.Rows
section
variable {prog:Program} {w:World} {A:Around} {E:Value→Shared→Prop} {s:Shared} {d:Addr} {o:Obj} {es:Array DictEntry} {ep:Nat}
end
end HT
namespace L2
open PySem PySem.Spec PySem.W PyProof.Rows HT
section
variable {X:Cx} {o e f k v:Expr} {apos cpos pos:Pos} {td ty tx tk tv:TE}
end
end L2
set_option Elab.async false
set_option linter.all false
set_option maxRecDepth 100000
namespace L2
open PySem PySem.Spec PySem.W PyProof.Rows HT
@[irreducible] def rIsW (K:PySem.W.Frag):List V→Hp→VK→Prop:=fun xs H Q=>∃ a C od tp cs b,xs=[.ref a,.ref tp]∧H a=some (ExcO a C od)∧XHas H od∧ExcCls K C∧H tp=some (.tup cs)∧(∀ us,Vals cs us→kitAny K (.ref C) us=some b)∧Q (.bl b) H
theorem rwI {K:PySem.W.Frag} {H:Hp} {Q:VK} {a C tp:Addr} {od:Option Addr} {cs:List V} {b:Bool} (ha:H a=some (ExcO a C od)) (hx:XHas H od) (ec:ExcCls K C) (ht:H tp=some (.tup cs)) (e:∀ us,Vals cs us→kitAny K (.ref C) us=some b) (q:Q (.bl b) H):rIsW K [.ref a,.ref tp] H Q:=by
  unfold rIsW; exact ⟨a,C,od,tp,cs,b,rfl,ha,hx,ec,ht,e,q⟩
theorem cl_isiW {X:Cx} (K:PySem.W.Frag) (hK:X.K=K:=by rfl):CallR X (.builtin "isinstance") (rIsW K):=by
  subst hK
  unfold rIsW
  intro pins s σ H xs us Q I r h
  obtain ⟨a,C,od,tp,cs,b,rfl,ha,hx,ec,ht,e,q⟩:=h
  obtain ⟨u,w',rfl,r1,r2⟩:=vals2 r
  cases (show u=Value.ref a from r1)
  cases (show w'=Value.ref tp from r2)
  have hi:=exc_get I ha hx
  obtain ⟨_,its,rt,o,e1,e2,n,e3⟩:=(show ObjOk X.prog X.w H s.heap tp (.tup cs) from I.hok tp _ ht)
  obtain ⟨oc,odd,odt,osl⟩:=o
  cases e2
  cases e3
  exact kia_tup (kitx_exc ec) I.kIn hi e1 (e its rt) (fun z=>nomatch z) fun tk=>⟨.bl b,H,I.tok _,rfl,q⟩
theorem cl_isiYK {X:Cx} (K:PySem.W.Frag) (hK:X.K=K:=by rfl):CallR X (.builtin "isinstance") (rIsY K):=by subst hK; exact cl_isiY
end L2
set_option Elab.async false
set_option linter.all false
set_option maxRecDepth 100000
namespace L2
open PySem PySem.Spec PySem.W PyProof.Rows HT
section
variable {K:PySem.W.Frag} {H:Hp} {x:V} {d:PyData} {Q:VK}
end
section
variable {σ:St} {js:List Nat} {te:TE} {H:Hp} {Q:VK}
end
end L2
set_option Elab.async false
set_option linter.all false
set_option maxRecDepth 100000
namespace L2
open PySem PySem.Spec PyProof.Rows
section
variable {M:Model} {A:Around} {E:Value→Shared→Prop} {s:Shared} {env:Env} {outer:List Env} {base:Heap} {L a:Addr} {cls:Value} {od:Option Addr}
theorem note_any {T:Addr} {fl:Value} {Q:Unit→Shared→Prop} (hfr:A.frames=some (env::outer)) (hl:s.heap.FunFrames base (env::outer)) (hf:env.frame=some L)
    (x:ExcAt s.heap a cls od (some (T,fl)))
    (k:∀ h' T',ExcAt h' a cls od (some (T',rawInt L))→(T'=T∨s.heap.get? T'=none)→Kp ((env::outer).filterMap (·.frame)) [a,T] s.heap h'→Q () { s with heap:=h' }) :
    wpAny M A (noteFrame (.ref a) env) Q E s:=by
  have x0:=x
  obtain ⟨oe,vs,he,hc,ho,hd,hz,x1,nT,oT,ts,hT,dT,zT,x3⟩:=x
  unfold noteFrame
  simp only [hf]
  refine wpAny_bind (wpAny_field he hd x1 ?_)
  rw [if_pos (by simp)]
  refine wpAny_bind (wpAny_field hT dT x3 ?_)
  by_cases hfl:fl=rawInt L
  · subst hfl
    rw [if_pos (by simp)]
    exact wpAny_pure (k s.heap T x0 (.inl rfl) ⟨fun b o e _ _=>e,fun b o e _ _=>⟨o.slots,e⟩⟩)
  rw [if_neg (by simpa using hfl)]
  refine wpAny_bind (wpAny_setField hT dT zT ?_)
  have other:∀ b,b≠T→(s.heap.update T (Obj.mapFields (·.setIfInBounds 3 Value.none))).get? b=s.heap.get? b:=fun b hb=>Heap.get?_update_other _ _ (Ne.symm hb)
  have nrec:∀ b o,s.heap.get? b=some o→(∀ ws,o.data ≠ .fields ws)→b≠T:=fun b o e nf z=>by
    subst z; rw [hT] at e; cases e; exact nf ts dT
  refine entry_ok (hfr:=hfr) (hl:=hl.of_keeps fun b o e nf=>⟨o,(other b (nrec b o e nf)).trans e,rfl⟩) hf ((other a (Ne.symm nT)).trans he) hc ho hd hz fun h' T' y1 y2 y3=>k h' T' y1 (.inr ?_) ?_
  · by_cases z:T'=T
    · subst z
      have:=Heap.get?_update_self (Obj.mapFields (·.setIfInBounds 3 Value.none)) hT (Obj.isFreed_of_fields (Obj.data_mapFields dT _))
      rw [this] at y2; cases y2
    · rw [← other T' z]; exact y2
  · refine ⟨fun b o e n1 n2=>y3.keep b o ((other b fun z=>n2 (by rw [z]; simp)).trans e) n1 fun z=>n2 (List.mem_cons.mpr (.inl (List.mem_singleton.mp z))),fun b o e n1 n2=>y3.slot b o ((other b fun z=>n2 (by rw [z]; simp)).trans e) n1 fun z=>n2 (List.mem_cons.mpr (.inl (List.mem_singleton.mp z)))⟩
theorem mark_ok {T:Addr} {fl:Value} {fr:Option Addr} {Q:Unit→Shared→Prop} (x:ExcAt s.heap a cls od (some (T,fl)))
    (k:∀ h' fl',ExcAt h' a cls od (some (T,fl'))→(∀ b o,b≠T→s.heap.get? b=some o→h'.get? b=some o)→Q () { s with heap:=h' }):wpAny M A (setFlight (.ref a) fr) Q E s:=by
  obtain ⟨oe,vs,he,hc,ho,hd,hz,x1,nT,oT,ts,hT,dT,zT,x3⟩:=x
  unfold setFlight
  refine wpAny_bind (wpAny_field he hd x1 ?_)
  rw [if_pos (by simp)]
  refine wpAny_setField hT dT zT (k _ (fr.elim .none fun f=>rawInt f) ?_ fun b o hb e=>?_)
  · have d2:=Obj.data_mapFields dT (·.setIfInBounds 3 (fr.elim Value.none fun f=>rawInt f))
    exact ⟨oe,vs,by rw [Heap.get?_update_other _ _ nT]; exact he,hc,ho,hd,hz,x1,nT,_,_,Heap.get?_update_self _ hT (Obj.isFreed_of_fields d2),d2,by simpa using zT,by simp [zT]⟩
  · rw [Heap.get?_update_other _ _ (Ne.symm hb)]; exact e
end
def CXa (P:Program) (w:World):CXT:=fun outer H s E e s'=>∃ (a T:Addr) (cls:Value) (od:Option Addr) (H':Hp) (fl:Value),e=.ref a∧s'.os=s.os∧AllBare s'.gens∧Un (frs outer) [] H H' s.heap s'.heap∧HOk P w H' s'.heap ∧
  s.heap.get? a=none∧s.heap.get? T=none∧H' a=none∧H' T=none∧ExcAt s'.heap a cls od (some (T,fl))∧E cls od H'
structure XPassA (X:Cx) (Ex:St→XK):Prop where
  p:∀ (pins:List (Addr × Obj)) (σ:St) (H:Hp) (s:Shared) (e:Value) (s':Shared),Inv X pins σ H s→CXa X.prog X.w X.stack H s (Ex σ) e s'→X.xe e s'
  st:X.stack=X.env::X.outer
  fm:X.env.frame=some X.env.locals
section
variable {X:Cx} {x:Str} {np hpos pos:Pos} {b₀:Stmt} {body suite:List Stmt} {C2:Addr} {tb:(St→XK)→TS} {th:TS}
theorem ws_tryA (hst:X.stack=X.env::X.outer) (hfm:X.env.frame=some X.env.locals) (hg:Gl X x) (hm:X.mg x=some (.ref C2)) (c2:Catch X.K C2)
    (hb:∀ pins xe Ex,XPassA (X.tryW pins xe) Ex→PSsw (X.tryW pins xe) body (tb Ex)) (hs:∀ a,PSsw (X.suite a) (b₀::suite) th) (hd:(x == ("__debug__" : Str))=false:=by decide) :
    PSw X (.Try body [.ExceptHandler (some (.Name x np)) none (b₀::suite) hpos] [] [] pos) (tTryB X.K C2 tb th):=⟨by
  intro pins s σ H D I h
  obtain ⟨Ex,h1,h2⟩:=h
  refine wpAny_Try_except ?_
  generalize hxe:(fun (e:Value) (s₁:Shared)=>wpAny (model X.prog X.w) X.A (noteFrame e X.env) (fun _ s₂=>wpAny (model X.prog X.w) X.A (setFlight e none) (fun _ s₃ =>
    wpAny (model X.prog X.w) X.A (handleBy e X.env [.ExceptHandler (some (.Name x np)) none (b₀::suite) hpos]) (SP X pins D) X.xe s₃) X.xe s₂) X.xe s₁)=xe
  have hx:XPassA (X.tryW pins xe) Ex:=⟨fun pins' σ' H1 s1 e s2 I' hc=>by
    obtain ⟨a,T,cls,od,H2,fl,rfl,os,bare,un,hok,fa,fT,na,nT,x0,q⟩:=hc
    obtain ⟨C,rfl,hsub,k⟩:=h2 σ' cls od H2 q
    have I1:Inv X pins σ' H1 s1:=I'.untry
    have un:Un (frs X.stack) [] H1 H2 s1.heap s2.heap:=un
    have hff:s2.heap.FunFrames X.base (X.env::X.outer):=by
      rw [← hst]
      exact funFrames_kp (fun b hb o e=>un.any e (I1.stkFree b hb) (by simp)) I1.stack
    show xe (.ref a) s2
    rw [← hxe]
    refine note_any (by rw [← hst]; exact I1.ok.frames) hff hfm x0 fun h3 T3 y1 y2 y3=>?_
    have nT3:∀ b o,s2.heap.get? b=some o→b ∉ [a,T]→b≠T3:=fun b o e n2 q=>by
      subst q
      rcases y2 with rfl | y2
      · exact n2 (by simp)
      · rw [y2] at e; cases e
    refine land_ok y1 fun h4 z1 z2=>?_
    have k4:Kp (frs X.stack) [a,T] s2.heap h4:=by
      rw [hst]
      refine ⟨fun b o e n1 n2=>z2 b o (nT3 b o e n2) (y3.keep b o e n1 n2),fun b o e n1 n2=>?_⟩
      obtain ⟨sl,e1⟩:=y3.slot b o e n1 n2
      exact ⟨sl,z2 b _ (nT3 b o e n2) e1⟩
    have I4:=I1.landed (h':=h4) os bare un hok fa fT na nT k4 z1
    refine wpAny_handleBy_cons (codeAny_handlers_test ?_) (by intro q; cases q)
    refine Calls.Name_function_global I4.ok.kind hg (Calls.loadGlobal_global (by rw [I4.ok.glob]; exact I4.mod.glob.keeps I4.bk) hm ?_) hd
    have LT:PySem.W.Looks (model X.prog X.w) h4 (typeOf (.ref a)) (.ref C):=by
      obtain ⟨oe,vs,e1,e2,_⟩:=z1
      exact e2 ▸ (PySem.W.Looks.ld e1).andThen .now
    refine exc_hits' I4.kIn LT c2 hsub ?_
    refine codeAny_handlers_suite ?_
    refine land_ok z1 fun h5 w1 w2=>?_
    have k5:Kp (frs X.stack) [a,T] s2.heap h5:=by
      refine ⟨fun b o e n1 n2=>w2 b o (nT3 b o e n2) (k4.keep b o e n1 n2),fun b o e n1 n2=>?_⟩
      obtain ⟨sl,e1⟩:=k4.slot b o e n1 n2
      exact ⟨sl,w2 b _ (nT3 b o e n2) e1⟩
    have I5:=(I1.landed (h':=h5) os bare un hok fa fT na nT k5 w1).suite a
    refine wpAny_mono ((hs a).p pins _ _ _ D I5 (k a na)) (fun f s7 q7=>?_) fun _ _ z=>False.elim z
    cases f with
    | next=>obtain ⟨σ8,H8,J,q⟩:=q7; exact ⟨σ8,H8,J.unsuite I1.ok,q⟩
    | brk=>obtain ⟨σ8,H8,J,q⟩:=q7; exact ⟨σ8,H8,J.unsuite I1.ok,q⟩
    | cont=>obtain ⟨σ8,H8,J,q⟩:=q7; exact ⟨σ8,H8,J.unsuite I1.ok,q⟩
    | ret u=>obtain ⟨v,σ8,H8,J,r,q⟩:=q7; exact ⟨v,σ8,H8,J.unsuite I1.ok,r,q⟩,hst,hfm⟩
  refine wpAny_mono ((hb pins xe Ex hx).p [] s σ H D (I.tryW xe) h1) (fun f s' q=>?_) fun e s' q=>q
  cases f with
  | next=>obtain ⟨σ',H',J,q⟩:=q; exact wpAny_execs_nil ⟨σ',H',J.untry,q⟩
  | brk=>obtain ⟨σ',H',J,q⟩:=q; exact ⟨σ',H',J.untry,q⟩
  | cont=>obtain ⟨σ',H',J,q⟩:=q; exact ⟨σ',H',J.untry,q⟩
  | ret u=>obtain ⟨v,σ',H',J,r,q⟩:=q; exact ⟨v,σ',H',J.untry,r,q⟩⟩
end
def Cx.wxe (X:Cx) (xe:Value→Shared→Prop):Cx:={ X with xe:=xe }
theorem Inv.wxe {X:Cx} {pins:List (Addr × Obj)} {σ:St} {H:Hp} {s:Shared} (I:Inv X pins σ H s) (xe:Value→Shared→Prop):Inv (X.wxe xe) pins σ H s :=
  ⟨⟨I.ok.mod,I.ok.kind,I.ok.glob,I.ok.blt,I.ok.above,I.ok.inj,I.ok.has,I.ok.cab,I.ok.hd,I.ok.frames,I.ok.stk,I.ok.exf,I.ok.bs,I.ok.bsz,I.ok.noex,I.ok.exfs,I.ok.funs,I.ok.frf⟩,I.os,I.bare,I.base,I.loc,I.cell,I.free,I.freeC,I.pin,I.hok,I.len⟩
theorem Inv.unwxe {X:Cx} {pins:List (Addr × Obj)} {σ:St} {H:Hp} {s:Shared} {xe:Value→Shared→Prop} (I:Inv (X.wxe xe) pins σ H s):Inv X pins σ H s:=I.wxe X.xe
theorem compLoop_genX {prog:Program} {w:World} {A:Around} {R:Result→Shared→Prop} {s:Shared} {elt target iter:Expr} {ifs:List Expr} {scope:Scope} {pos:Pos} {it acc:Value} {env:Env} {Xx:Value→Shared→Prop} (I:Nat→Shared→Prop)
    (hX:∀ e s',Xx e s'→wpAny (model prog w) A (noteFrame e env) (fun _ s''=>R (.error e) s'') (fun e s''=>R (.error e) s'') s')
    (turn:∀ n s,I n s→wpAny (model prog w) A (pyNext it) (fun r s₁=>match r with
      | none=>R (.ok .next) s₁
      | some v=>wpAny (model prog w) A (letOwnedTupleGo target it v) (fun _ s₁'=>wpAny (model prog w) A (assign target env v) (fun _ s₂ =>
          wpAny (model prog w) A (forIn ifs true fun c r=>if r=true then do let ok ← isTrue c env (eval c env); pure (ForInStep.yield ok) else pure (ForInStep.yield r)) (fun ok s₃ =>
            if ok=true then wpAny (model prog w) A (eval elt env) (fun x s₄=>wpAny (model prog w) A (call (.builtin "list.append") [acc,x]) (fun _ s₅=>∃ m,m<n∧I m s₅) NoX s₄) Xx s₃
            else ∃ m,m<n∧I m s₃) NoX s₂) NoX s₁') NoX s₁) NoX s)
    (n:Nat) (h:I n s):codeAny (model prog w) A (.compLoop (.ListComp elt [⟨target,iter,ifs,0⟩] scope pos) 0 it acc env) R s:=by
  refine codeAny_loop rfl I (fun n s hI=>?_) n h
  show wpAny _ A ((compTurn (.ListComp elt [⟨target,iter,ifs,0⟩] scope pos) 0 it acc env).onRaise (fun x=>do noteFrame x env; theTreesLotGoes x)) _ _ s
  refine wpAny_noted ?_
  rw [compTurn_list]
  refine wpAny_bind (wpAny_standAt (wpAny_bind (wpAny_mono (turn n s hI) (fun r s₁ h₁=>?_) fun _ _ h'=>h'.elim)))
  cases r with
  | none=>exact wpAny_pure h₁
  | some v =>
    refine wpAny_bind (wpAny_mono h₁ (fun _ s₁' h₁'=>?_) fun _ _ h'=>h'.elim)
    refine wpAny_bind (wpAny_mono h₁' (fun _ s₂ h₂=>wpAny_bind (wpAny_mono h₂ (fun ok s₃ h₃=>?_) fun _ _ h'=>h'.elim)) fun _ _ h'=>h'.elim)
    cases ok with
    | false=>exact wpAny_pure ⟨rfl,h₃⟩
    | true =>
      exact wpAny_bind (wpAny_bind (wpAny_mono h₃ (fun x s₄ h₄=>wpAny_bind (wpAny_mono h₄ (fun _ s₅ h₅=>wpAny_pure (wpAny_pure ⟨rfl,h₅⟩)) fun _ _ h'=>h'.elim)) fun e s' h'=>hX e s' h'))
section
variable {X:Cx} {pins:List (Addr × Obj)} {σ:St} {H:Hp} {s:Shared} {scope:Scope} {x:Str} {N':List Str} {js:List Nat} {fp:List Addr} {elt iter:Expr} {px pos:Pos} {ifs:List Expr} {tc:TT} {te:TE} {EX:XK}
theorem comp_blockX {J:It} {it:Addr} {tn:Nat→Heap→Prop} {RR:Value→Addr→Result→Shared→Prop} {E:Value→Shared→Prop} {Q:VK}
    (S:CScope X scope x N' js) (I:Inv X pins σ H s) (T:Turn X.prog X.w X.K (.Name x px) J fp it tn) (h0:tn 0 s.heap) (hf:∀ b∈fp,FpOk X pins H b)
    (ht:∀ C fp s₀ H₀,PTs (cxC X scope C fp s₀ H₀ N') ifs tc) (he:∀ C fp s₀ H₀ xe,XPass ((cxC X scope C fp s₀ H₀ N').wxe xe) (fun _=>EX)→PE ((cxC X scope C fp s₀ H₀ N').wxe xe) elt te)
    (R:∀ D,H D=none→∃ W:Nat→Nat→List V→Hp→Prop,(∃ m,W 0 m [] (upd H D (.lst []))) ∧
      ∀ i m ys H2,W i m ys H2→H2 D=some (.lst ys)∧((J.stop i H2∧Q (.ref D) H2)∨(J.go i H2∧ys.length<sizeLine∧∀ x H3,J.yld i H2 x H3 →
        tc (some x::slots σ js) H3 fun b H4=>if b=true then te (some x::slots σ js) H4 fun y H5=>H5 D=some (.lst ys)∧∃ m',m' < m∧W (i+1) m' (ys++[y]) (upd H5 D (.lst (ys++[y])))
          else H4 D=some (.lst ys)∧∃ m',m' < m∧W (i+1) m' ys H4)))
    (hRR:∀ (D:Addr) (H3:Hp) (s3:Shared) (σ':St) (H':Hp) (s':Shared),Inv X pins σ H3 s3→(∀ b∈fp,FpOk X pins H3 b)→Inv (cxC X scope s3.heap.objs.size fp s3 H3 N') [] σ' H' s'→Q (.ref D) H'→RR (.ref D) s3.heap.objs.size (.ok .next) s')
    (hRX:∀ (D:Addr) (H3:Hp) (s3:Shared) (σ':St) (H':Hp) (s':Shared),Inv X pins σ H3 s3→(∀ b∈fp,FpOk X pins H3 b)→Inv (cxC X scope s3.heap.objs.size fp s3 H3 N') [] σ' H' s'→∀ e s2,CX1 X.prog X.w X.stack H' s' EX e s2 →
      wpAny (model X.prog X.w) X.A (noteFrame e X.env) (fun _ s''=>RR (.ref D) s3.heap.objs.size (.error e) s'') (fun e s''=>RR (.ref D) s3.heap.objs.size (.error e) s'') s2) :
    wpAny (model X.prog X.w) X.A (newList []) (fun acc s₃=>wpAny (model X.prog X.w) X.A (newFunctionEnv scope X.env.globals (clOf X scope) [] X.env.qual none .none (some X.env)) (fun cenv s₄ =>
      codeAny (model X.prog X.w) X.A (.compStart (.ListComp elt [⟨.Name x px,iter,ifs,0⟩] scope pos) 0 (.ref it) acc { cenv with scope:=relabel scope X.env }) (RR acc cenv.locals) s₄) E s₃) E s:=by
  have hb:∀ b∈fp,b<s.heap.objs.size:=fun b hb=>by
    obtain ⟨o,e,_⟩:=T.obj 0 _ h0 b hb
    exact Heap.lt_size e
  refine wpAny_newObj_type (wpAny_newFunctionEnv S.cell (by intro y hy; simp at hy) (fun h₁ hns₁ hsb₁=>?_) S.kind)
  have hDn:H s.heap.objs.size=none:=I.hok.fresh (Nat.le_refl _)
  obtain ⟨W,⟨m0,hw0⟩,hW⟩:=R _ hDn
  have I3:Inv X pins σ (upd H s.heap.objs.size (.lst [])) { s with heap:=s.heap.push { cls:=.type "list",dict:=none,data:=.seq ([]:List Value).toArray } }:=I.lnew (its:=[]) (ys:=[]) (t':=s.toks) .nil (Nat.zero_le _)
  have hf3:∀ b∈fp,FpOk X pins (upd H s.heap.objs.size (.lst [])) b:=fun b hb' =>
    ⟨by rw [upd_ne (fun e=>by have:=hb b hb'; rw [e] at this; exact Nat.lt_irrefl _ this)]; exact (hf b hb').1,(hf b hb').2⟩
  have hb3:∀ b∈fp,b<(s.heap.push { cls:=.type "list",dict:=none,data:=.seq ([]:List Value).toArray }).objs.size:=fun b hb'=>by
    rw [Heap.size_push]; exact Nat.lt_succ_of_lt (hb b hb')
  have hkeep:∀ b o,(s.heap.push { cls:=.type "list",dict:=none,data:=.seq ([]:List Value).toArray }).get? b=some o→h₁.get? b=some o:=fun b o e =>
    hsb₁.extBut b o (fun q=>by have:=Heap.lt_size e; rw [q] at this; exact Nat.lt_irrefl _ this) (Heap.get?_push_of_some _ e)
  have J4:=cxC_inv (h':=h₁) (tk:=s.toks+([]:List (Str × Value)).length) S I3 hf3 hb3 hns₁ hkeep
  have t4:tn 0 h₁:=T.keep 0 _ _ h0 fun b hb' o e=>hkeep b o (Heap.get?_push_of_some _ e)
  have loop:codeAny (model X.prog X.w) X.A (.compLoop (.ListComp elt [⟨.Name x px,iter,ifs,0⟩] scope pos) 0 (.ref it) (.ref s.heap.objs.size) (compEnvC scope (clOf X scope) (s.heap.push { cls:=.type "list",dict:=none,data:=.seq ([]:List Value).toArray }).objs.size X.env))
      (RR (.ref s.heap.objs.size) (s.heap.push { cls:=.type "list",dict:=none,data:=.seq ([]:List Value).toArray }).objs.size) { s with heap:=h₁,toks:=s.toks+([]:List (Str × Value)).length }:=by
    generalize hXx:(fun (e:Value) (s2:Shared)=>wpAny (model X.prog X.w) X.A (noteFrame e X.env) (fun _ s''=>RR (.ref s.heap.objs.size) (s.heap.push { cls:=.type "list",dict:=none,data:=.seq ([]:List Value).toArray }).objs.size (.error e) s'') (fun e s''=>RR (.ref s.heap.objs.size) (s.heap.push { cls:=.type "list",dict:=none,data:=.seq ([]:List Value).toArray }).objs.size (.error e) s'') s2)=Xx
    have hPass:XPass ((cxC X scope (s.heap.push { cls:=.type "list",dict:=none,data:=.seq ([]:List Value).toArray }).objs.size fp { s with heap:=s.heap.push { cls:=.type "list",dict:=none,data:=.seq ([]:List Value).toArray } } (upd H s.heap.objs.size (.lst [])) N').wxe Xx) (fun _=>EX):=⟨fun pins' σ' H1 s1 e s2 J hc=>by
      show Xx e s2
      rw [← hXx]
      have J':Inv (cxC X scope (s.heap.push { cls:=.type "list",dict:=none,data:=.seq ([]:List Value).toArray }).objs.size fp { s with heap:=s.heap.push { cls:=.type "list",dict:=none,data:=.seq ([]:List Value).toArray } } (upd H s.heap.objs.size (.lst [])) N') ([]++pins') σ' H1 s1:=J.unwxe
      exact hRX _ _ _ σ' H1 s1 I3 hf3 J'.unpinned e s2 hc⟩
    refine compLoop_genX (Xx:=Xx) (fun n s'=>∃ (i:Nat) (ys:List V) (H2:Hp) (o:Option V),Inv (cxC X scope _ fp _ _ N') [] (o::slots σ js) H2 s'∧tn i s'.heap∧(∀ b∈fp,H2 b=none)∧W i n ys H2) (fun e s' h'=>by rw [← hXx] at h'; exact h') ?_ m0 ⟨0,[],_,none,J4,t4,fun b hb'=>(hf3 b hb').1,hw0⟩
    rintro n s' ⟨i,ys,H2,o,J2,t2,f2,w2⟩
    obtain ⟨hD,hcase⟩:=hW i n ys H2 w2
    have Fp:∀ b∈fp,FpOk (cxC X scope (s.heap.push { cls:=.type "list",dict:=none,data:=.seq ([]:List Value).toArray }).objs.size fp { s with heap:=s.heap.push { cls:=.type "list",dict:=none,data:=.seq ([]:List Value).toArray } } (upd H s.heap.objs.size (.lst [])) N') [] H2 b:=fun b hb' =>
      ⟨f2 b hb',(J2.ok.exf b hb').1,J2.ok.exfs b hb',.inl hb',(J2.ok.exf b hb').2,fun p hp=>by cases hp⟩
    rcases hcase with ⟨hstop,hq⟩ | ⟨hgo,hz,hturn⟩
    · refine wpAny_mono (T.done (cxC X scope _ fp _ _ N') rfl rfl rfl rfl i [] s' _ H2 NoX J2 Fp t2 hstop) (fun r s1 ⟨hr,J5⟩=>?_) fun _ _ f=>f
      subst hr
      exact hRR _ _ _ _ _ _ I3 hf3 J5 hq
    · refine wpAny_mono (T.item (cxC X scope _ fp _ _ N') rfl rfl rfl rfl i [] s' _ H2 NoX J2 Fp t2 hgo) (fun r s1 ⟨u,hr,hx⟩=>?_) fun _ _ f=>f
      subst hr
      refine wpAny_mono hx (fun _ s2 ⟨v,H3,J3,rv,hy,t3,f3⟩=>?_) fun _ _ f=>f
      have Fp3:∀ b∈fp,FpOk (cxC X scope (s.heap.push { cls:=.type "list",dict:=none,data:=.seq ([]:List Value).toArray }).objs.size fp { s with heap:=s.heap.push { cls:=.type "list",dict:=none,data:=.seq ([]:List Value).toArray } } (upd H s.heap.objs.size (.lst [])) N') [] H3 b:=fun b hb' =>
        ⟨f3 b hb',(J3.ok.exf b hb').1,J3.ok.exfs b hb',.inl hb',(J3.ok.exf b hb').2,fun p hp=>by cases hp⟩
      have P3:=J3.pinned Fp3 (T.obj (i+1) _ t3)
      have keepT:∀ {σ':St} {Hx:Hp} {sx:Shared},Inv (cxC X scope (s.heap.push { cls:=.type "list",dict:=none,data:=.seq ([]:List Value).toArray }).objs.size fp { s with heap:=s.heap.push { cls:=.type "list",dict:=none,data:=.seq ([]:List Value).toArray } } (upd H s.heap.objs.size (.lst [])) N') ([]++pinsAt fp s2.heap) σ' Hx sx→tn (i+1) sx.heap∧∀ b∈fp,Hx b=none:=fun Jx =>
        ⟨T.keep (i+1) _ _ t3 fun b hb' ob e=>(Jx.pin (b,ob) (List.mem_append_right _ (List.mem_append_right _ (mem_pinsAt hb' e)))).1,fun b hb'=>by
          obtain ⟨ob,e,_⟩:=T.obj (i+1) _ t3 b hb'
          exact (Jx.pin (b,ob) (List.mem_append_right _ (List.mem_append_right _ (mem_pinsAt hb' e)))).2.1⟩
      refine wpAny_assign_Name (store_ok P3 (i:=0) (x:=x) (v:=v) ?nd ?hi ?hx rv (fun s5 J5=>?_) ?hfn)
      case nd=>exact S.nd
      case hi=>exact S.zero
      case hx=>exact .inl (lookup_relabel_local S.own)
      case hfn=>exact .inr (lookup_relabel_local S.own)
      have J5':Inv _ _ (some v::slots σ js) H3 s5:=J5
      refine wpAny_mono (ht _ _ _ _ _ _ _ _ _ J5' (hturn v H3 hy)) (fun ok s6 ⟨H6,J6,q6⟩=>?_) fun _ _ f=>f
      dsimp only at q6
      by_cases hok:ok=true
      · rw [if_pos hok] at q6 ⊢
        refine wpAny_mono (he _ _ _ _ Xx hPass _ _ _ _ _ (J6.wxe Xx) q6) (fun y s7 ⟨w',H7,J7,r7,hD7,m',hm',w7⟩=>?_) fun _ _ f=>f
        have J7:=J7.unwxe
        refine wpAny_mono (mt_append (X:=cxC X scope _ fp _ _ N') _ _ _ _ (.ref s.heap.objs.size) [w'] (.ref s.heap.objs.size) [y] (fun _ H8=>H8=upd H7 s.heap.objs.size (.lst (ys++[w']))) J7 rfl (.cons r7 .nil) ⟨_,_,_,rfl,rfl,hD7,hz,rfl⟩) (fun _ s8 ⟨_,H8,J8,_,e8⟩=>?_) fun _ _ f=>f
        subst e8
        obtain ⟨k1,k2⟩:=keepT J8
        exact ⟨m',hm',i+1,ys++[w'],_,some v,J8.unpinned,k1,k2,w7⟩
      · rw [if_neg hok] at q6 ⊢
        obtain ⟨_,m',hm',w7⟩:=q6
        obtain ⟨k1,k2⟩:=keepT J6
        exact ⟨m',hm',i+1,ys,_,some v,J6.unpinned,k1,k2,w7⟩
  refine codeAny_compStart_list loop (T.self X.A 0 _ _ _ t4 loop)
def Heap.setAt (h:Heap) (C:Addr) (h2:Heap):Heap:=⟨h.objs.setIfInBounds C ((h2.objs[C]?).getD default),h.life⟩
theorem Heap.setAt_same {h h2:Heap} {C:Addr} (h1:C<h.objs.size) (hz:C<h2.objs.size):(Heap.setAt h C h2).get? C=h2.get? C:=by
  unfold Heap.setAt PySem.Heap.get?
  simp [Array.getElem?_setIfInBounds_self_of_lt h1,Array.getElem?_eq_getElem hz]
theorem Heap.setAt_other {h h2:Heap} {C b:Addr} (n:b≠C):(Heap.setAt h C h2).get? b=h.get? b:=by
  unfold Heap.setAt PySem.Heap.get?
  simp [Array.getElem?_setIfInBounds_ne (Ne.symm n)]
theorem pe_compX {wi:TI} {Ex:St→XK} {te:XK→TE} (hx:XPassA X Ex) (S:CScope X scope x N' js) (hi:PI X (.Name x px) iter wi) (ht:∀ C fp s₀ H₀,PTs (cxC X scope C fp s₀ H₀ N') ifs tc)
    (he:∀ EX C fp s₀ H₀ xe,XPass ((cxC X scope C fp s₀ H₀ N').wxe xe) (fun _=>EX)→PE ((cxC X scope C fp s₀ H₀ N').wxe xe) elt (te EX))
    (hs:∀ x,foldedSetIterable iter X.env x=pure x:=by intro _; rfl):PE X (.ListComp elt [⟨.Name x px,iter,ifs,0⟩] scope pos) (fun σ H Q=>tComp wi js tc (te (Ex σ)) σ H Q):=by
  intro pins s σ H Q I h
  rw [eval_ListComp]
  refine wpAny_comprehension_free (use:=none) rfl hs (closureFor_eq (S.cells I.ok)) S.kind S.names (wpAny_mono (hi pins s σ H _ I h) (fun v s1 h1=>?_) fun _ _ e=>e)
  refine wpAny_mono h1 (fun itv s2 ⟨it,fp,tn,J,H2,e,I2,T,t0,hf,R⟩=>?_) fun _ _ e=>e
  subst e
  refine comp_blockX (EX:=Ex σ) S I2 T t0 hf ht (he (Ex σ)) R ?_ ?_
  · intro D H3 s3 σ' H' s' I3 hf3 J3 q
    obtain ⟨m,hm,_⟩:=J3.loc
    exact ⟨m,hm,fun h' hs'=>⟨.ref D,H',cxC_back S I3 hf3 J3 hs',rfl,q⟩⟩
  · intro D H3 s3 σ' H' s' I3 hf3 J3 e s4 hc
    obtain ⟨a,T1,cls,od,H4,rfl,os,bare,un,hok,fa,fT,na,nT,x0,q⟩:=hc
    have I4:Inv X pins σ H' s':=cxC_back S I3 hf3 J3 (Heap.SameBut.refl ..)
    have hst:=hx.st
    have hff:s4.heap.FunFrames X.base (X.env::X.outer):=by
      rw [← hst]
      exact funFrames_kp (fun b hb o e=>un.any e (I4.stkFree b hb) (by simp)) I4.stack
    obtain ⟨m,hm,_⟩:=J3.loc
    have hm:s'.heap.Ns s3.heap.objs.size m:=hm
    have hC':H' s3.heap.objs.size=none:=J3.free
    have hCf:s3.heap.objs.size ∉ frs X.stack:=fun z=>by
      have:=(I3.stack.mem z).2
      obtain ⟨o,e,_⟩:=this
      exact Nat.lt_irrefl _ (Heap.lt_size e)
    refine note_ok (by rw [← hst]; exact I4.ok.frames) hff hx.fm x0 (.inr ⟨T1,rfl⟩) fun h5 T5 y1 y2 y3=>?_
    rw [← hst] at y3
    have keepC:∀ o,s'.heap.get? s3.heap.objs.size=some o→h5.get? s3.heap.objs.size=some o∧s3.heap.objs.size≠a∧s3.heap.objs.size≠T1∧s3.heap.objs.size≠T5:=fun o e=>by
      have n1:s3.heap.objs.size≠a:=fun z=>by rw [z,fa] at e; cases e
      have n2:s3.heap.objs.size≠T1:=fun z=>by rw [z,fT] at e; cases e
      have e4:=un.keep _ o e hC' hCf (by simp)
      refine ⟨y3.keep _ o e4 hCf (by simp [stT,n1,n2]),n1,n2,fun z=>by rw [← z,e4] at y2; cases y2⟩
    obtain ⟨oC,eC⟩:∃ o,s'.heap.get? s3.heap.objs.size=some o:=by
      have:=hm
      obtain ⟨_,_,_,ho,_⟩:=this
      exact ⟨_,ho⟩
    obtain ⟨eC5,nCa,nCT,nC5⟩:=keepC oC eC
    refine ⟨m,Heap.Ns.at hm fun o e=>(keepC o e).1,fun h6 hs6 cenv _=>?_⟩
    have y1':ExcAt h6 a cls od (some (T5,rawInt X.env.locals)):=by
      obtain ⟨oe,vs,g1,g2,g3,g4,g5,g6,g7,oT,ts,g8,g9,g10,g11⟩:=y1
      exact ⟨oe,vs,(hs6.2 a (Ne.symm nCa)).trans g1,g2,g3,g4,g5,g6,g7,oT,ts,(hs6.2 T5 (Ne.symm nC5)).trans g8,g9,g10,g11⟩
    unfold PySem.passOn
    have y1'':=y1'
    obtain ⟨oe,vs,g1,g2,g3,g4,g5,g6,g7,oT,ts,g8,g9,g10,g11⟩:=y1''
    refine wpAny_bind (wpAny_field (s:={ s4 with heap:=h6 }) g1 g4 g6 ?_)
    rw [if_neg (by simp)]
    refine wpAny_bind (mark_ok (s:={ s4 with heap:=h6 }) y1' fun h7 fl z1 z2=>?_)
    refine wpAny_throw ?_
    have szC:s3.heap.objs.size<s'.heap.objs.size:=Heap.lt_size eC
    have sz6:s3.heap.objs.size<h6.objs.size:=by rw [hs6.1]; exact Heap.lt_size eC5
    have sb:Heap.SameBut s3.heap.objs.size s'.heap (Heap.setAt s'.heap s3.heap.objs.size h6):=⟨by simp [Heap.setAt],fun b hb=>Heap.setAt_other hb⟩
    have IB:=cxC_back S I3 hf3 J3 sb
    have old1:∀ b,s'.heap.get? b=none→b≠s3.heap.objs.size→(Heap.setAt s'.heap s3.heap.objs.size h6).get? b=none:=fun b e n=>by rw [Heap.setAt_other n]; exact e
    have old2:s'.heap.get? T5=none:=by
      cases z:s'.heap.get? T5 with
      | none=>rfl
      | some o =>
        obtain ⟨o',e'⟩:=un.there T5 o z (by simp)
        rw [y2] at e'; cases e'
    have nT5:H4 T5=none:=by
      cases z:H4 T5 with
      | none=>rfl
      | some u =>
        obtain ⟨ob,e⟩:=(hok T5 u z).get
        rw [y2] at e; cases e
    have hfree:∀ b∈frs X.stack,H4 b=none:=fun b hb=>by
      have ff:=I4.stack
      obtain ⟨_,o,ho,_⟩:=ff.mem hb
      exact un.free b o ho (I4.stkFree b hb) (by simp)
    have H4C:H4 s3.heap.objs.size=none:=un.free _ oC eC hC' (by simp)
    have step:∀ b o,s4.heap.get? b=some o→b≠s3.heap.objs.size→b ∉ frs X.stack→b≠a→b≠T1→h7.get? b=some o:=fun b o e n1 n2 n3 n4 =>
      z2 b o (fun z=>by subst z; rw [y2] at e; cases e) ((hs6.2 b n1).trans (y3.keep b o e n2 (by simp [stT,n3,n4])))
    have step2:∀ b o,s4.heap.get? b=some o→b≠s3.heap.objs.size→b≠a→b≠T1→∃ sl,h7.get? b=some { o with slots:=sl }:=fun b o e n1 n3 n4=>by
      obtain ⟨sl,e1⟩:=y3.any e (by simp [stT,n3,n4])
      exact ⟨sl,z2 b _ (fun z=>by subst z; rw [y2] at e; cases e) ((hs6.2 b n1).trans e1)⟩
    have hC7:∀ o,(Heap.setAt s'.heap s3.heap.objs.size h6).get? s3.heap.objs.size=some o→h7.get? s3.heap.objs.size=some o:=fun o e=>by
      rw [Heap.setAt_same szC sz6] at e
      exact z2 _ o nC5 e
    have fresh:∀ {b:Addr} {o:Obj} {d:Addr},s'.heap.get? b=some o→s'.heap.get? d=none→b≠d:=fun e1 e2 z=>by rw [z,e2] at e1; cases e1
    refine hx.p pins σ H' _ (.ref a) _ IB ⟨a,T5,cls,od,H4,fl,rfl,os,bare,?_,?_,old1 a fa (Ne.symm nCa),old1 T5 old2 (Ne.symm nC5),na,nT5,z1,q⟩
    · exact {
        keep:=fun b o e n m' _=>by
          by_cases hb:b=s3.heap.objs.size
          · subst hb; exact hC7 o e
          · have e':s'.heap.get? b=some o:=by rw [← Heap.setAt_other (h2:=h6) hb]; exact e
            exact step b o (un.keep b o e' n m' (by simp)) hb m' (fresh e' fa) (fresh e' fT)
        slot:=fun b o e n m' _=>by
          by_cases hb:b=s3.heap.objs.size
          · subst hb; exact ⟨o.slots,hC7 o e⟩
          · have e':s'.heap.get? b=some o:=by rw [← Heap.setAt_other (h2:=h6) hb]; exact e
            obtain ⟨sl,e4⟩:=un.slot b o e' n m' (by simp)
            obtain ⟨sl2,e7⟩:=step2 b _ e4 hb (fresh e' fa) (fresh e' fT)
            exact ⟨sl2,e7⟩
        free:=fun b o e n _=>by
          by_cases hb:b=s3.heap.objs.size
          · subst hb; exact H4C
          · have e':s'.heap.get? b=some o:=by rw [← Heap.setAt_other (h2:=h6) hb]; exact e
            exact un.free b o e' n (by simp)
        there:=fun b o e _=>by
          by_cases hb:b=s3.heap.objs.size
          · subst hb; exact ⟨o,hC7 o e⟩
          · have e':s'.heap.get? b=some o:=by rw [← Heap.setAt_other (h2:=h6) hb]; exact e
            obtain ⟨o4,e4⟩:=un.there b o e' (by simp)
            obtain ⟨sl2,e7⟩:=step2 b _ e4 hb (fresh e' fa) (fresh e' fT)
            exact ⟨_,e7⟩
        tups:=un.tups
        frzs:=un.frzs
        tbls:=un.tbls }
    · exact fun b u e=>(hok b u e).stay (fun c o hc e4=>by
        have nc:H4 c≠none:=by
          rcases hc with rfl | hc
          · rw [e]; simp
          · rw [hc]; simp
        exact step c o e4 (fun z=>nc (by rw [z]; exact H4C)) (fun z=>nc (hfree c z)) (fun z=>nc (by rw [z]; exact na)) (fun z=>nc (by rw [z]; exact nT))) (fun _ q=>q) fun _ _ q=>q
end
def tCompX (wi:TI) (js:List Nat) (tc:TT) (te:XK→TE) (Ex:St→XK):TE:=fun σ H Q=>wi σ H fun J H1=>CompB J σ js tc (te (Ex σ)) H1 Q
theorem we_cmpX {X:Cx} {Ex:St→XK} {scope:Scope} {x:Str} {N':List Str} {js:List Nat} {px pos:Pos} {iter elt:Expr} {ifs:List Expr} {wi:TI} {tc:L2.TT} {te:XK→TE} (hx:XPassA X Ex) (S:CScope X scope x N' js) (hi:PIw X (.Name x px) iter wi) (ht:∀ C fp s₀ H₀,PTsw (cxC X scope C fp s₀ H₀ N') ifs tc)
    (he:∀ EX C fp s₀ H₀ xe,XPass ((cxC X scope C fp s₀ H₀ N').wxe xe) (fun _=>EX)→PEw ((cxC X scope C fp s₀ H₀ N').wxe xe) elt (te EX))
    (hs:∀ x,foldedSetIterable iter X.env x=pure x:=by intro _; rfl):PEw X (.ListComp elt [⟨.Name x px,iter,ifs,0⟩] scope pos) (tCompX wi js tc te Ex) :=
  ⟨by unfold tCompX CompB; exact pe_compX (te:=fun EX=>tMonoE (te EX)) hx S hi.p (fun C fp s₀ H₀=>(ht C fp s₀ H₀).p.mono) (fun EX C fp s₀ H₀ xe h=>(he EX C fp s₀ H₀ xe h).p.mono) hs⟩
theorem ws_brk {X:Cx} {pos:Pos}:PSw X (.Break pos) tBreak:=⟨ps_break⟩
end L2
set_option Elab.async false
set_option linter.all false
set_option maxRecDepth 100000
namespace L2
open PySem PySem.Spec PyProof.Rows
def nonU:Value→Bool
  | .none=>true
  | _=>false
def nonD:PyData→Bool
  | .none=>true
  | _=>false
theorem eqv_non (d:PyData):PyData.eqv d .none=nonD d:=by cases d <;> rfl
section
variable {X:Cx} {pins:List (Addr × Obj)} {σ:St} {H:Hp} {s:Shared}
theorem nonU_at {d:PyData} {y:V} {u:Value} (h:Rep H d y) (r:RelV y u):nonU u=nonD d:=by
  cases d with
  | none=>cases (show y=.non from h); cases r; rfl
  | bool b=>cases (show y=.bl b from h); cases r; rfl
  | int n=>cases (show y=.int n from h); obtain ⟨t,rfl⟩:=r; rfl
  | str z=>cases (show y=.str z from h); obtain ⟨t,rfl⟩:=r; rfl
  | list ds=>unfold Rep at h; obtain ⟨a,xs,rfl,_⟩:=h; cases r; rfl
  | tuple ds=>unfold Rep at h; obtain ⟨a,xs,rfl,_⟩:=h; cases r; rfl
  | dict kvs=>unfold Rep at h; obtain ⟨_,a,rfl,_⟩:=h; cases r; rfl
theorem nonU_any:∀ {ds:List PyData} {ys:List V} {us:List Value},RepL H ds ys→Vals ys us→us.any nonU=ds.any nonD
  | [],ys,us,r,v=>by
    unfold RepL at r
    cases (show ys=[] from r)
    cases v
    rfl
  | d::ds,ys,us,r,v=>by
    unfold RepL at r
    obtain ⟨y,ys',rfl,r1,r2⟩:=r
    obtain ⟨u,us',rfl,rv,v'⟩:=valsC v
    rw [List.any_cons,List.any_cons,nonU_at r1 rv,nonU_any r2 v']
theorem nonU_mem (I:Inv X pins σ H s) (hu:X.A.units+64<cLine):∀ {ds:List PyData} {ys:List V} {us:List Value},RepL H ds ys→Vals ys us→(∀ d∈ds,PyData.canLay0 d=true)→∀ u∈us,SeqAt.EqAt X.A.in1 s u .none (nonU u)
  | [],ys,us,r,vv,_=>by
    unfold RepL at r
    cases (show ys=[] from r)
    cases vv
    exact fun u hu=>by cases hu
  | d::ds,ys,us,r,vv,hl=>by
    unfold RepL at r
    obtain ⟨y,ys',rfl,r1,r2⟩:=r
    obtain ⟨u,us',rfl,rv,v'⟩:=valsC vv
    intro u' hu'
    rcases List.mem_cons.mp hu' with rfl | hu'
    · obtain ⟨bs,rb⟩:=r1.reads I rv
      rw [nonU_at r1 rv,← eqv_non]
      refine SeqAt.eqAt_reads d .none _ s _ _ bs [] rb .none (hl d (List.mem_cons_self ..)) rfl ?_
      have h1:PyData.depth .none=0:=rfl
      have:X.A.in1.units≤X.A.units+1:=by
        first
          | exact Nat.le_refl _
          | (unfold Around.in1; simp)
      rw [h1]
      omega
    · exact nonU_mem I hu r2 v' (fun e he=>hl e (List.mem_cons_of_mem _ he)) u' hu'
end
@[irreducible] def rInN (K:PySem.W.Frag):R2:=fun x y H Q=>∃ (p:Addr) (ys:List V) (ds:List PyData),x=.non∧y=.ref p∧(SqL K H p ys∨SqT K H p ys)∧RepL H ds ys∧(∀ d∈ds,PyData.canLay0 d=true)∧Q (.bl (ds.any nonD)) H
theorem riN {K:PySem.W.Frag} {p:Addr} {ys:List V} {ds:List PyData} {H:Hp} {Q:VK} (h:SqL K H p ys∨SqT K H p ys) (r:RepL H ds ys) (hl:∀ d∈ds,PyData.canLay0 d=true) (q:Q (.bl (ds.any nonD)) H):rInN K .non (.ref p) H Q:=by
  unfold rInN; exact ⟨p,ys,ds,rfl,rfl,h,r,hl,q⟩
theorem op_inN {X:Cx} (K:PySem.W.Frag) (hu:X.A.units+64<cLine) (hK:X.K=K:=by rfl):OpR X (compareOp .In) (rInN K):=by
  subst hK
  unfold rInN
  intro pins s σ H x y v u Q I rx ry h
  obtain ⟨p,ys,ds,rfl,rfl,hq,r,hl,q⟩:=h
  cases rx
  cases ry
  rcases hq with hq | hq
  · obtain ⟨its,r',pl,hz⟩:=I.list hq
    refine SeqAt.in_listAt nonU pl.isList (fun w hw=>nonU_mem I hu r r' hl w (by simpa using hw)) ⟨.bl _,H,I,rfl,?_⟩
    rw [show its.toArray.any nonU=its.any nonU by simp,nonU_any r r']
    exact q
  · obtain ⟨its,r',pl,hz⟩:=I.tuple hq
    refine SeqAt.in_tupleAt nonU pl (fun w hw=>nonU_mem I hu r r' hl w (by simpa using hw)) ⟨.bl _,H,I,rfl,?_⟩
    rw [show its.toArray.any nonU=its.any nonU by simp,nonU_any r r']
    exact q
end L2
set_option Elab.async false
set_option linter.all false
set_option maxRecDepth 100000
namespace L2
open PySem PySem.Spec PyProof.Rows
structure FcLike (p L:Addr) (Fd:Nat→Hp→Prop):Prop where
  but:∀ n D H1 H2,D≠p→D≠L→SameBut D H1 H2→Fd n H1→Fd n H2
  same:∀ n H1 H2,Same H1 H2→Fd n H1→Fd n H2
  dic:∀ n H',Fd n H'→∃ xs,H' p=some (.dK xs)
  np:∀ n H' D,Fd n H'→H' D=none→D≠p∧D≠L
section
variable {σ:St} {js:List Nat} {te:TE} {H:Hp} {Q:VK}
theorem comp_fc {J:It} {n:Nat} {p L:Addr} {Fd:Nat→Hp→Prop} (fl:FcLike p L Fd) (F0:Fd 0 H) (src:Nat→V→Prop) (R:Nat→V→Hp→Prop) (hR:∀ i y H1 H2,SameT H1 H2→R i y H1→R i y H2) (hz:n≤100000)
    (hg:∀ i H',SameBut p H H'→i<n→J.go i H'∧∀ x H3,J.yld i H' x H3→H3=H'∧src i x) (hst:∀ H',SameBut p H H'→J.stop n H')
    (hs:∀ i x H' (Q':VK),src i x→i<n→Fd i H'→SameBut p H H'→(∀ y H5,Fd (i+1) H5→SameBut p H' H5→R i y H5→Q' y H5)→te (some x::slots σ js) H' Q')
    (hd:∀ D ys H',H D=none→H' D=some (.lst ys)→Fd n H'→SameBut p H H'→ys.length=n→(∀ (i:Nat) (y:V),ys[i]?=some y→R i y H')→Q (.ref D) H'):CompB J σ js tYes te H Q:=by
  refine comp_any (J:=J) (n:=n) src hz (fun D i ys H'=>H D=none∧Fd i H'∧SameBut p H H'∧∀ (i:Nat) (y:V),ys[i]?=some y→R i y H') (fun D H1 hD _ s=>⟨hD,fl.same _ _ _ s F0,s.but,fun i y h=>by simp at h⟩)
    (fun D i ys H' hi _ q=>hg i H' q.2.2.1 hi) (fun D ys H' _ q=>hst H' q.2.2.1) (fun D i x ys H' hx hi hy hD q=>?_) (fun D ys H' hy hD hD' q=>hd D ys H' hD hD' q.2.1 q.2.2.1 hy q.2.2.2)
  obtain ⟨np,nL⟩:=fl.np _ _ _ F0 q.1
  refine hs i x H' _ hx hi q.2.1 q.2.2.1 fun y H5 F5 s5 r=>?_
  obtain ⟨xs,hp⟩:=fl.dic _ H' q.2.1
  have hD5:=s5.at np hD
  refine ⟨hD5,fun H6 hD6 s6=>⟨q.1,fl.but _ D _ _ np nL s6 F5,SameBut.thru q.1 (q.2.2.1.trans s5) s6,?_⟩⟩
  have t6:=s6.t hD5
  exact snoc_all (R:=fun j z=>R j z H6) (fun j z hj=>hR j z _ _ ((s5.tD hp).trans t6) (q.2.2.2 j z hj)) (by rw [hy]; exact hR i y _ _ t6 r)
theorem comp_fcR {lo:Int} {n:Nat} {p L:Addr} {Fd:Nat→Hp→Prop} (fl:FcLike p L Fd) (F0:Fd 0 H) (R:Nat→V→Hp→Prop) (hR:∀ i y H1 H2,SameT H1 H2→R i y H1→R i y H2) (hz:n≤100000)
    (hs:∀ i H' (Q':VK),i<n→Fd i H'→SameBut p H H'→(∀ y H5,Fd (i+1) H5→SameBut p H' H5→R i y H5→Q' y H5)→te (some (.int (lo+(i:Nat)))::slots σ js) H' Q')
    (hd:∀ D ys H',H D=none→H' D=some (.lst ys)→Fd n H'→SameBut p H H'→ys.length=n→(∀ (i:Nat) (y:V),ys[i]?=some y→R i y H')→Q (.ref D) H'):CompB (Itr lo n) σ js tYes te H Q :=
  comp_fc fl F0 (fun i x=>x=.int (lo+(i:Nat))) R hR hz (fun i H' s hi=>⟨hi,fun x H3 y=>y⟩) (fun H' s=>Nat.le_refl _)
    (fun i x H' Q' hx hi f s k=>by subst hx; exact hs i H' Q' hi f s k) hd
end
end L2
set_option Elab.async false
set_option linter.all false
set_option maxRecDepth 100000
namespace L2
open PySem PySem.Spec PyProof.Rows
structure CScopeN (X:Cx) (scope:Scope) (xs:List Str) (N':List Str) (js:List Nat):Prop where
  calm:X.calm=true
  free:∀ y∈scope.names,y.2=.free→X.env.kindOf y.1=some .cell
  cell:∀ y∈scope.names,y.2 ≠ .cell
  kind:scope.kind=.function
  names:∀ y∈scope.names,y.2=.local→scope.names.lookup y.1=some .local
  own:∀ x∈xs,scope.names.lookup x=some .local
  nofl:∀ y,(y,NameKind.free)∈scope.names→scope.names.lookup y=some .local→False
  len:N'.length=xs.length+js.length
  pre:∀ (i:Nat) x,xs[i]?=some x→N'[i]?=some x
  nd:N'.Nodup
  slot:∀ (i:Nat) (j:Nat),js[i]?=some j→∃ y,N'[xs.length+i]?=some y∧X.N[j]?=some y∧(y,NameKind.free)∈scope.names
def gNames:Nat→Nat→TGs
  | _,0=>gNil
  | i,n+1=>gCons (gName i) (gNames (i+1) n)
def gN (K:PySem.W.Frag) (n:Nat):TG:=gTup K n (gNames 0 n)
theorem gNames_run {H:Hp} {r:St} {Q:St→Hp→Prop}:∀ (vs:List V) (pre os:St),os.length=vs.length→Q (pre++(vs.map some++r)) H→gNames pre.length vs.length vs (pre++(os++r)) H Q
  | [],pre,[],_,q=>⟨rfl,q⟩
  | v::vs,pre,o::os,hl,q=>by
    refine ⟨v,vs,rfl,?_⟩
    show gNames (pre.length+1) vs.length vs ((pre++(o::os++r)).set pre.length (some v)) H Q
    have e1:(pre++(o::os++r)).set pre.length (some v)=(pre++[some v])++(os++r):=by
      rw [List.set_append_right _ _ (Nat.le_refl _),Nat.sub_self,List.append_assoc]; rfl
    have e2:pre.length+1=(pre++[some v]).length:=by rw [List.length_append]; rfl
    rw [e1,e2]
    refine gNames_run vs (pre++[some v]) os (by simpa using hl) ?_
    rw [List.append_assoc]; exact q
@[irreducible] def CompN (K:PySem.W.Frag) (n:Nat) (J:It) (σ:St) (js:List Nat) (tc:TT) (te:TE) (H1:Hp) (Q:VK):Prop:=∀ D,H1 D=none→∃ W:Nat→Nat→List V→Hp→Prop,(∃ m,W 0 m [] (upd H1 D (.lst []))) ∧
  ∀ i m ys H2,W i m ys H2→H2 D=some (.lst ys)∧((J.stop i H2∧Q (.ref D) H2)∨(J.go i H2∧ys.length<sizeLine∧∀ x H3,J.yld i H2 x H3→∃ a vs,x=.ref a∧SqT K H3 a vs∧vs.length=n ∧
    tMono tc (vs.map some++slots σ js) H3 fun b H4=>if b=true then tMonoE te (vs.map some++slots σ js) H4 fun y H5=>H5 D=some (.lst ys)∧∃ m',m' < m∧W (i+1) m' (ys++[y]) (upd H5 D (.lst (ys++[y])))
      else H4 D=some (.lst ys)∧∃ m',m' < m∧W (i+1) m' ys H4))
def tCompN (K:PySem.W.Frag) (n:Nat) (wi:TI) (js:List Nat) (tc:TT) (te:TE):TE:=fun σ H Q=>wi σ H fun J H1=>CompN K n J σ js tc te H1 Q
section
variable {X:Cx} {pins:List (Addr × Obj)} {σ:St} {H:Hp} {s:Shared} {scope:Scope} {xs:List Str} {N':List Str} {js:List Nat} {fp:List Addr}
theorem CScopeN.cells (S:CScopeN X scope xs N' js) (ok:X.Ok):∀ y∈scope.names,y.2=.free→∃ c,X.env.cells.lookup y.1=some c:=fun y hy hf=>ok.has _ (.inl (S.free y hy hf))
theorem cxC_okN (S:CScopeN X scope xs N' js) (I:Inv X pins σ H s) (hf:∀ b∈fp,FpOk X pins H b) (hb:∀ b∈fp,b<s.heap.objs.size):(cxC X scope s.heap.objs.size fp s H N').Ok where
  mod:=I.ok.mod
  kind:=S.kind
  glob:=I.ok.glob
  blt:=I.ok.blt
  above:=Nat.le_refl _
  inj:=fun y z c h1 h2=>I.ok.inj y z c (clOf_env (S.cells I.ok) h1) (clOf_env (S.cells I.ok) h2)
  has:=fun y hy=>by
    have hm:(y,NameKind.free)∈scope.names:=by
      rcases hy with hy | hy
      · exact relabel_cases (env:=X.env) hy (.inl rfl) S.cell
      · exact relabel_cases (env:=X.env) hy (.inr rfl) S.cell
    obtain ⟨c,hc⟩:=S.cells I.ok _ hm rfl
    exact ⟨c,clOf_has (S.cells I.ok) hm hc⟩
  cab:=fun _ _ h=>by cases h
  hd:=fun _=>I.ok.hd S.calm
  frames:=I.ok.frames
  stk:=.inl rfl
  exf:=fun b hb'=>⟨fun e=>by have:=hb b hb'; rw [e] at this; exact Nat.lt_irrefl _ this,fun y c h=>(hf b hb').2.2.2.2.1 y c (clOf_env (S.cells I.ok) h)⟩
  bs:=I.bs
  bsz:=Nat.le_trans I.ok.bsz I.sz
  noex:=fun b o e hb'=>by
    rcases (hf b hb').2.2.2.1 with h | h
    · exact I.ok.noex b o e h
    · exact absurd (Nat.lt_of_lt_of_le (Heap.lt_size e) (Nat.le_trans I.ok.bsz h)) (Nat.lt_irrefl _)
  exfs:=fun b hb' hs=>by
    have h2:=I.stkSub b hs
    rcases List.mem_cons.mp h2 with h2 | h2
    · exact (hf b hb').2.1 h2
    · exact (hf b hb').2.2.1 h2
  funs:=I.stack
  frf:=I.stkFree
theorem cxC_invN {h':Heap} {tk:Nat} (S:CScopeN X scope xs N' js) (I:Inv X pins σ H s) (hf:∀ b∈fp,FpOk X pins H b) (hb:∀ b∈fp,b<s.heap.objs.size)
    (hn:h'.Ns s.heap.objs.size (fun _=>none)) (hk:∀ b o,s.heap.get? b=some o→h'.get? b=some o):Inv (cxC X scope s.heap.objs.size fp s H N') [] (List.replicate xs.length none++slots σ js) H { s with heap:=h',toks:=tk } where
  ok:=cxC_okN S I hf hb
  os:=rfl
  bare:=I.bare
  base:=Un.kept hk
  loc:=by
    refine ⟨_,hn,fun i y v hi hv hvis=>?_⟩
    by_cases hlt0:i<xs.length
    · rw [List.getElem?_append_left (by rw [List.length_replicate]; exact hlt0),List.getElem?_replicate,if_pos hlt0] at hv
      cases hv
    · obtain ⟨i,rfl⟩:∃ k,i=xs.length+k:=⟨i - xs.length,by omega⟩
      rw [List.getElem?_append_right (by rw [List.length_replicate]; omega),List.length_replicate,Nat.add_sub_cancel_left] at hv
      have hv':(slots σ js)[i]?=some (some v):=hv
      have hlt:i<js.length:=by
        have:=(List.getElem?_eq_some_iff.mp hv').1
        unfold slots at this
        rwa [List.length_map] at this
      have hj:js[i]?=some js[i]:=List.getElem?_eq_getElem hlt
      obtain ⟨z,h1,h2,h3⟩:=S.slot i _ hj
      have hzy:z=y:=by
        have:N'[xs.length+i]?=some y:=hi
        rw [h1] at this; cases this; rfl
      subst hzy
      rw [slots_get hj] at hv'
      have hσ:σ[js[i]]?=some (some v):=by
        cases q:σ[js[i]]? with
        | none=>rw [q] at hv'; cases hv'
        | some o=>rw [q] at hv'; cases hv'; rfl
      have hkc:X.env.kindOf z=some .cell:=S.free _ h3 rfl
      obtain ⟨m,hm,hl⟩:=I.loc
      obtain ⟨u,ru,lk⟩:=hl _ z v h2 hσ (.inr (.inl hkc))
      rcases lk with ⟨hk1,_⟩ | ⟨_,c,hc,hcell⟩
      · rw [hkc] at hk1; cases hk1
      · refine ⟨u,ru,.inr ⟨?_,c,clOf_has (S.cells I.ok) h3 hc,?_⟩⟩
        · rcases hvis with hvis | hvis | hvis
          · exfalso
            have hcl:=clOf_has (S.cells I.ok) h3 hc
            have hm2:=lookup_mem (l:=(relabel scope X.env).names) hvis
            unfold relabel at hm2
            obtain ⟨⟨n,k⟩,hmem,he⟩:=List.mem_map.mp hm2
            dsimp only at he
            by_cases hq:(k == NameKind.free&&X.env.scope.kind == .function&&X.env.kindOf n == some .cell)=true
            · rw [if_pos hq] at he; cases he
            · rw [if_neg hq] at he
              cases he
              have:=S.names _ hmem rfl
              have l2:=mem_lookup h3
              obtain ⟨c',l2⟩:=l2
              dsimp only at this
              rw [this] at l2
              have key:(relabel scope X.env).names.lookup z=some .local:=lookup_relabel_local this
              have hck:scope.names.lookup z=some .local:=this
              exact S.nofl z h3 hck
          · exact .inl hvis
          · exact .inr hvis
        · obtain ⟨o,e,r⟩:=hcell
          exact ⟨o,hk _ _ e,r⟩
  cell:=fun y c h=>by
    obtain ⟨v,o,e,r⟩:=I.cell y c (clOf_env (S.cells I.ok) h)
    exact ⟨v,o,hk _ _ e,r⟩
  free:=I.hok.fresh (Nat.le_refl _)
  freeC:=fun y c h=>I.freeC y c (clOf_env (S.cells I.ok) h)
  pin:=fun p hp=>by cases hp
  hok:=I.hok.kept hk
  len:=by
    rw [List.length_append,List.length_replicate]
    unfold slots
    rw [List.length_map]; exact S.len.symm
theorem cxC_backN {H2:Hp} {σ':St} {s2:Shared} {h'':Heap} (S:CScopeN X scope xs N' js) (I:Inv X pins σ H s) (hf:∀ b∈fp,FpOk X pins H b)
    (J:Inv (cxC X scope s.heap.objs.size fp s H N') [] σ' H2 s2) (hs:Heap.SameBut s.heap.objs.size s2.heap h''):Inv X pins σ H2 { s2 with heap:=h'' }:=by
  have hC:H2 s.heap.objs.size=none:=J.free
  have ne:∀ {b:Addr} {o:Obj},s.heap.get? b=some o→b≠s.heap.objs.size:=fun e q=>by
    have:=Heap.lt_size e; rw [q] at this; exact Nat.lt_irrefl _ this
  refine I.call' (s':={ s2 with heap:=h'' }) (ch:=fp) (by rw [show ({ s2 with heap:=h'' }:Shared).os=s2.os from rfl]; exact J.os) ?_ (J.hok.but hC fun b u hb q=>hs.extBut b u hb q) J.bare fun b hb=>⟨(hf b hb).2.2.2.1,(hf b hb).2.1,(hf b hb).2.2.2.2.1,(hf b hb).2.2.2.2.2⟩
  have U:=J.base
  exact {
    keep:=fun b o e n h1 h2=>hs.extBut b o (ne e) (U.keep b o e n h1 h2)
    slot:=fun b o e n h1 h2=>by
      obtain ⟨sl,q⟩:=U.slot b o e n h1 h2
      exact ⟨sl,hs.extBut b _ (ne e) q⟩
    free:=U.free
    there:=fun b o e h2=>by
      obtain ⟨o',q⟩:=U.there b o e h2
      exact ⟨o',hs.extBut b _ (ne e) q⟩
    tups:=U.tups
    frzs:=U.frzs
    tbls:=U.tbls }
end
section
variable {X:Cx} {pins:List (Addr × Obj)} {σ:St} {H:Hp} {s:Shared} {scope:Scope} {xs:List Str} {N':List Str} {js:List Nat} {fp:List Addr} {elt iter:Expr} {px pos:Pos} {tg:Expr} {ifs:List Expr} {tc:TT} {te:TE}
theorem comp_blockN {J:It} {it:Addr} {tn:Nat→Heap→Prop} {RR:Value→Addr→Result→Shared→Prop} {E:Value→Shared→Prop} {Q:VK}
    (S:CScopeN X scope xs N' js) (I:Inv X pins σ H s) (T:Turn X.prog X.w X.K tg J fp it tn) (h0:tn 0 s.heap) (hf:∀ b∈fp,FpOk X pins H b)
    (hg:∀ C fp s₀ H₀,PG (cxC X scope C fp s₀ H₀ N') tg (gN X.K xs.length)) (ht:∀ C fp s₀ H₀,PTs (cxC X scope C fp s₀ H₀ N') ifs tc) (he:∀ C fp s₀ H₀,PE (cxC X scope C fp s₀ H₀ N') elt te)
    (R:∀ D,H D=none→∃ W:Nat→Nat→List V→Hp→Prop,(∃ m,W 0 m [] (upd H D (.lst []))) ∧
      ∀ i m ys H2,W i m ys H2→H2 D=some (.lst ys)∧((J.stop i H2∧Q (.ref D) H2)∨(J.go i H2∧ys.length<sizeLine∧∀ x H3,J.yld i H2 x H3→∃ a vs,x=.ref a∧SqT X.K H3 a vs∧vs.length=xs.length ∧
        tc (vs.map some++slots σ js) H3 fun b H4=>if b=true then te (vs.map some++slots σ js) H4 fun y H5=>H5 D=some (.lst ys)∧∃ m',m' < m∧W (i+1) m' (ys++[y]) (upd H5 D (.lst (ys++[y])))
          else H4 D=some (.lst ys)∧∃ m',m' < m∧W (i+1) m' ys H4)))
    (hRR:∀ (D:Addr) (H3:Hp) (s3:Shared) (σ':St) (H':Hp) (s':Shared),Inv X pins σ H3 s3→(∀ b∈fp,FpOk X pins H3 b)→Inv (cxC X scope s3.heap.objs.size fp s3 H3 N') [] σ' H' s'→Q (.ref D) H'→RR (.ref D) s3.heap.objs.size (.ok .next) s') :
    wpAny (model X.prog X.w) X.A (newList []) (fun acc s₃=>wpAny (model X.prog X.w) X.A (newFunctionEnv scope X.env.globals (clOf X scope) [] X.env.qual none .none (some X.env)) (fun cenv s₄ =>
      codeAny (model X.prog X.w) X.A (.compStart (.ListComp elt [⟨tg,iter,ifs,0⟩] scope pos) 0 (.ref it) acc { cenv with scope:=relabel scope X.env }) (RR acc cenv.locals) s₄) E s₃) E s:=by
  have hb:∀ b∈fp,b<s.heap.objs.size:=fun b hb=>by
    obtain ⟨o,e,_⟩:=T.obj 0 _ h0 b hb
    exact Heap.lt_size e
  refine wpAny_newObj_type (wpAny_newFunctionEnv S.cell (by intro y hy; simp at hy) (fun h₁ hns₁ hsb₁=>?_) S.kind)
  have hDn:H s.heap.objs.size=none:=I.hok.fresh (Nat.le_refl _)
  obtain ⟨W,⟨m0,hw0⟩,hW⟩:=R _ hDn
  have I3:Inv X pins σ (upd H s.heap.objs.size (.lst [])) { s with heap:=s.heap.push { cls:=.type "list",dict:=none,data:=.seq ([]:List Value).toArray } }:=I.lnew (its:=[]) (ys:=[]) (t':=s.toks) .nil (Nat.zero_le _)
  have hf3:∀ b∈fp,FpOk X pins (upd H s.heap.objs.size (.lst [])) b:=fun b hb' =>
    ⟨by rw [upd_ne (fun e=>by have:=hb b hb'; rw [e] at this; exact Nat.lt_irrefl _ this)]; exact (hf b hb').1,(hf b hb').2⟩
  have hb3:∀ b∈fp,b<(s.heap.push { cls:=.type "list",dict:=none,data:=.seq ([]:List Value).toArray }).objs.size:=fun b hb'=>by
    rw [Heap.size_push]; exact Nat.lt_succ_of_lt (hb b hb')
  have hkeep:∀ b o,(s.heap.push { cls:=.type "list",dict:=none,data:=.seq ([]:List Value).toArray }).get? b=some o→h₁.get? b=some o:=fun b o e =>
    hsb₁.extBut b o (fun q=>by have:=Heap.lt_size e; rw [q] at this; exact Nat.lt_irrefl _ this) (Heap.get?_push_of_some _ e)
  have J4:=cxC_invN (h':=h₁) (tk:=s.toks+([]:List (Str × Value)).length) S I3 hf3 hb3 hns₁ hkeep
  have t4:tn 0 h₁:=T.keep 0 _ _ h0 fun b hb' o e=>hkeep b o (Heap.get?_push_of_some _ e)
  have loop:codeAny (model X.prog X.w) X.A (.compLoop (.ListComp elt [⟨tg,iter,ifs,0⟩] scope pos) 0 (.ref it) (.ref s.heap.objs.size) (compEnvC scope (clOf X scope) (s.heap.push { cls:=.type "list",dict:=none,data:=.seq ([]:List Value).toArray }).objs.size X.env))
      (RR (.ref s.heap.objs.size) (s.heap.push { cls:=.type "list",dict:=none,data:=.seq ([]:List Value).toArray }).objs.size) { s with heap:=h₁,toks:=s.toks+([]:List (Str × Value)).length }:=by
    refine compLoop_gen (fun n s'=>∃ (i:Nat) (ys:List V) (H2:Hp) (os:St),os.length=xs.length∧Inv (cxC X scope _ fp _ _ N') [] (os++slots σ js) H2 s'∧tn i s'.heap∧(∀ b∈fp,H2 b=none)∧W i n ys H2) ?_ m0 ⟨0,[],_,_,List.length_replicate,J4,t4,fun b hb'=>(hf3 b hb').1,hw0⟩
    rintro n s' ⟨i,ys,H2,os,hos,J2,t2,f2,w2⟩
    obtain ⟨hD,hcase⟩:=hW i n ys H2 w2
    have Fp:∀ b∈fp,FpOk (cxC X scope (s.heap.push { cls:=.type "list",dict:=none,data:=.seq ([]:List Value).toArray }).objs.size fp { s with heap:=s.heap.push { cls:=.type "list",dict:=none,data:=.seq ([]:List Value).toArray } } (upd H s.heap.objs.size (.lst [])) N') [] H2 b:=fun b hb' =>
      ⟨f2 b hb',(J2.ok.exf b hb').1,J2.ok.exfs b hb',.inl hb',(J2.ok.exf b hb').2,fun p hp=>by cases hp⟩
    rcases hcase with ⟨hstop,hq⟩ | ⟨hgo,hz,hturn⟩
    · refine wpAny_mono (T.done (cxC X scope _ fp _ _ N') rfl rfl rfl rfl i [] s' _ H2 NoX J2 Fp t2 hstop) (fun r s1 ⟨hr,J5⟩=>?_) fun _ _ f=>f
      subst hr
      exact hRR _ _ _ _ _ _ I3 hf3 J5 hq
    · refine wpAny_mono (T.item (cxC X scope _ fp _ _ N') rfl rfl rfl rfl i [] s' _ H2 NoX J2 Fp t2 hgo) (fun r s1 ⟨u,hr,hx⟩=>?_) fun _ _ f=>f
      subst hr
      refine wpAny_mono hx (fun _ s2 ⟨v,H3,J3,rv,hy,t3,f3⟩=>?_) fun _ _ f=>f
      have Fp3:∀ b∈fp,FpOk (cxC X scope (s.heap.push { cls:=.type "list",dict:=none,data:=.seq ([]:List Value).toArray }).objs.size fp { s with heap:=s.heap.push { cls:=.type "list",dict:=none,data:=.seq ([]:List Value).toArray } } (upd H s.heap.objs.size (.lst [])) N') [] H3 b:=fun b hb' =>
        ⟨f3 b hb',(J3.ok.exf b hb').1,J3.ok.exfs b hb',.inl hb',(J3.ok.exf b hb').2,fun p hp=>by cases hp⟩
      have P3:=J3.pinned Fp3 (T.obj (i+1) _ t3)
      have keepT:∀ {σ':St} {Hx:Hp} {sx:Shared},Inv (cxC X scope (s.heap.push { cls:=.type "list",dict:=none,data:=.seq ([]:List Value).toArray }).objs.size fp { s with heap:=s.heap.push { cls:=.type "list",dict:=none,data:=.seq ([]:List Value).toArray } } (upd H s.heap.objs.size (.lst [])) N') ([]++pinsAt fp s2.heap) σ' Hx sx→tn (i+1) sx.heap∧∀ b∈fp,Hx b=none:=fun Jx =>
        ⟨T.keep (i+1) _ _ t3 fun b hb' ob e=>(Jx.pin (b,ob) (List.mem_append_right _ (List.mem_append_right _ (mem_pinsAt hb' e)))).1,fun b hb'=>by
          obtain ⟨ob,e,_⟩:=T.obj (i+1) _ t3 b hb'
          exact (Jx.pin (b,ob) (List.mem_append_right _ (List.mem_append_right _ (mem_pinsAt hb' e)))).2.1⟩
      obtain ⟨a,vs,ev,hq,hl,qe⟩:=hturn v H3 hy
      subst ev
      refine wpAny_mono (hg _ _ _ _ _ _ (os++slots σ js) H3 (.ref a) u (fun σ' H'=>σ'=vs.map some++slots σ js∧H'=H3) P3 rv ⟨a,vs,rfl,hq,hl,?_⟩) (fun _ s5 ⟨σ5,H5,J5,e5,e6⟩=>?_) fun _ _ f=>f
      · have:=gNames_run (H:=H3) (r:=slots σ js) (Q:=fun σ' H'=>σ'=vs.map some++slots σ js∧H'=H3) vs [] os (by rw [hos,hl]) ⟨rfl,rfl⟩
        rw [hl] at this
        exact this
      subst e5 e6
      refine wpAny_mono (ht _ _ _ _ _ _ _ _ _ J5 qe) (fun ok s6 ⟨H6,J6,q6⟩=>?_) fun _ _ f=>f
      dsimp only at q6
      by_cases hok:ok=true
      · rw [if_pos hok] at q6 ⊢
        refine wpAny_mono (he _ _ _ _ _ _ _ _ _ J6 q6) (fun y s7 ⟨w',H7,J7,r7,hD7,m',hm',w7⟩=>?_) fun _ _ f=>f
        refine wpAny_mono (mt_append (X:=cxC X scope _ fp _ _ N') _ _ _ _ (.ref s.heap.objs.size) [w'] (.ref s.heap.objs.size) [y] (fun _ H8=>H8=upd H7 s.heap.objs.size (.lst (ys++[w']))) J7 rfl (.cons r7 .nil) ⟨_,_,_,rfl,rfl,hD7,hz,rfl⟩) (fun _ s8 ⟨_,H8,J8,_,e8⟩=>?_) fun _ _ f=>f
        subst e8
        obtain ⟨k1,k2⟩:=keepT J8
        exact ⟨m',hm',i+1,ys++[w'],_,vs.map some,by rw [List.length_map,hl],J8.unpinned,k1,k2,w7⟩
      · rw [if_neg hok] at q6 ⊢
        obtain ⟨_,m',hm',w7⟩:=q6
        obtain ⟨k1,k2⟩:=keepT J6
        exact ⟨m',hm',i+1,ys,_,vs.map some,by rw [List.length_map,hl],J6.unpinned,k1,k2,w7⟩
  refine codeAny_compStart_list loop (T.self X.A 0 _ _ _ t4 loop)
theorem ps_setCompN {wi:TI} {y:Str} {py spos:Pos} {i:Nat} (S:CScopeN X scope xs N' js) (hN:X.N.Nodup) (hiN:X.N[i]?=some y) (hy:X.env.kindOf y=some .local) (hi:PI X tg iter wi) (hg:∀ C fp s₀ H₀,PG (cxC X scope C fp s₀ H₀ N') tg (gN X.K xs.length)) (ht:∀ C fp s₀ H₀,PTs (cxC X scope C fp s₀ H₀ N') ifs tc) (he:∀ C fp s₀ H₀,PE (cxC X scope C fp s₀ H₀ N') elt te)
    (hsw:swapsWith (.ListComp elt [⟨tg,iter,ifs,0⟩] scope pos) (some (.Name y py)) spos.line X.env=pure true) (hs:∀ x,foldedSetIterable iter X.env x=pure x:=by intro _; rfl) :
    PS X (.Assign [.Name y py] (.ListComp elt [⟨tg,iter,ifs,0⟩] scope pos) spos) (tAsg (tCompN X.K xs.length wi js tc te) (gName i)):=by
  intro pins s σ H D0 I h
  rw [exec_Assign_Name_used _ _ _ _ hsw]
  refine wpAny_bind (wpAny_standAt (wpAny_bind ?_))
  show wpAny _ X.A (do let _ ← comprehension (.ListComp elt [⟨tg,iter,ifs,0⟩] scope pos) scope X.env _ (newList []) false (eval iter X.env) (some (assign (.Name y py) X.env))) _ _ s
  refine wpAny_bind (wpAny_mono (wpAny_comprehension_free (use:=some (assign (.Name y py) X.env)) (Q:=fun _ s'=>SP X pins D0 .next s') rfl hs (closureFor_eq (S.cells I.ok)) S.kind S.names (wpAny_mono (hi pins s σ H _ I h) (fun v s1 h1=>?_) fun _ _ e=>e)) (fun _ s' hq=>wpAny_pure (wpAny_pure hq)) fun _ _ e=>e)
  refine wpAny_mono h1 (fun itv s2 ⟨it,fp,tn,J,H2,e,I2,T,t0,hf,R⟩=>?_) fun _ _ e=>e
  subst e
  refine comp_blockN (te:=tMonoE te) (tc:=tMono tc) (Q:=fun v H'=>gName i v σ H' D0.nx) S I2 T t0 hf hg (fun C fp s₀ H₀=>(ht C fp s₀ H₀).mono) (fun C fp s₀ H₀=>(he C fp s₀ H₀).mono) (by unfold CompN at R; exact R) ?_
  intro D H3 s3 σ' H' s' I3 hf3 J3 q
  obtain ⟨m,hm,_⟩:=J3.loc
  have IX:Inv X pins σ H' s':=cxC_backN S I3 hf3 J3 (Heap.SameBut.refl ..)
  have hCL:s3.heap.objs.size≠X.env.locals:=fun e=>by have:=I3.lt; rw [e] at this; exact Nat.lt_irrefl _ this
  show wpAny _ X.A (assign (.Name y py) X.env (.ref D)) _ _ _
  refine wpAny_assign_Name (store_ok2 IX hN hiN (.inl hy) (v:=.ref D) rfl (fun s5 I5 hsb=>?_) (.inr hy))
  obtain ⟨a,hsb,ha⟩:=hsb
  have hCa:s3.heap.objs.size≠a:=by
    rcases ha with rfl | ha
    · exact hCL
    · intro e
      obtain ⟨v,o,eo,_⟩:=I3.cell y a ha
      have:=Heap.lt_size eo
      rw [← e] at this
      exact Nat.lt_irrefl _ this
  refine ⟨m,hm.sameBut hsb hCa,fun h' hs'=>⟨_,H',?_,q⟩⟩
  exact I5.turned (it:=s3.heap.objs.size) (t':=s5.toks) (fun b o n e=>hs'.extBut b o n e) J3.free hCL (.inr I3.sz)
    (fun z c hz e=>by
      obtain ⟨v,o,eo,_⟩:=I3.cell z c hz
      have:=Heap.lt_size eo
      rw [e] at this
      exact Nat.lt_irrefl _ this)
    (fun p hp e=>by
      have:=Heap.lt_size (I3.pin p hp).1
      rw [e] at this
      exact Nat.lt_irrefl _ this)
end
section
variable {X:Cx} {scope:Scope} {x1 x2 x3 y:Str} {N':List Str} {js:List Nat} {elt iter tg:Expr} {ifs:List Expr} {py pos spos:Pos} {tc:TT} {te:TE} {wi:TI} {i:Nat}
theorem wg_nm {xs:List Str} {k:Nat} {x:Str} {p:Pos} (S:CScopeN X scope xs N' js) (h:xs[k]?=some x) (C:Addr) (fp:List Addr) (s₀:Shared) (H₀:Hp):PGw (cxC X scope C fp s₀ H₀ N') (.Name x p) (gName k) :=
  have l:=S.own x (List.mem_of_getElem? h)
  wg_name S.nd (S.pre k x h) (.inl (lookup_relabel_local l)) (.inr (lookup_relabel_local l))
theorem wg_two {p1 p2 pt:Pos} {kk:Nat} (S:CScopeN X scope [x1,x2] N' js) (C:Addr) (fp:List Addr) (s₀:Shared) (H₀:Hp):PGw (cxC X scope C fp s₀ H₀ N') (.Tuple [.Name x1 p1,.Name x2 p2] kk pt) (gN X.K 2) :=
  wg_tup rfl (wgs_cons (wg_nm S rfl C fp s₀ H₀) (wgs_cons (wg_nm S rfl C fp s₀ H₀) wgs_nil))
theorem ws_setCompN2 {p1 p2 pt:Pos} {kk:Nat} (S:CScopeN X scope [x1,x2] N' js) (hN:X.N.Nodup) (hiN:X.N[i]?=some y) (hy:X.env.kindOf y=some .local) (hi:PIw X (.Tuple [.Name x1 p1,.Name x2 p2] kk pt) iter wi) (ht:∀ C fp s₀ H₀,PTsw (cxC X scope C fp s₀ H₀ N') ifs tc) (he:∀ C fp s₀ H₀,PEw (cxC X scope C fp s₀ H₀ N') elt te)
    (hsw:swapsWith (.ListComp elt [⟨.Tuple [.Name x1 p1,.Name x2 p2] kk pt,iter,ifs,0⟩] scope pos) (some (.Name y py)) spos.line X.env=pure true:=by rfl) (hs:∀ x,foldedSetIterable iter X.env x=pure x:=by intro _; rfl) :
    PSw X (.Assign [.Name y py] (.ListComp elt [⟨.Tuple [.Name x1 p1,.Name x2 p2] kk pt,iter,ifs,0⟩] scope pos) spos) (tAsg (tCompN X.K 2 wi js tc te) (gName i)) :=
  ⟨ps_setCompN S hN hiN hy hi.p (fun C fp s₀ H₀=>(wg_two S C fp s₀ H₀).p) (fun C fp s₀ H₀=>(ht C fp s₀ H₀).p) (fun C fp s₀ H₀=>(he C fp s₀ H₀).p) hsw hs⟩
end
def cscNOk (psc scope:Scope) (N:List Str) (xs N':List Str) (js:List Nat):Bool :=
  (scope.names.all fun y=>!(y.2 == .free) || psc.names.lookup y.1 == some .cell)&&(scope.names.all fun y=>!(y.2 == .cell))&&scope.kind == .function &&
  (scope.names.all fun y=>!(y.2 == .local) || scope.names.lookup y.1 == some .local)&&(xs.all fun x=>scope.names.lookup x == some .local) &&
  (scope.names.all fun y=>!(y.2 == .free) || !(scope.names.lookup y.1 == some .local))&&N'.length == xs.length+js.length&&N'.take xs.length == xs&&decide N'.Nodup &&
  ((List.range js.length).all fun i=>match js[i]?,N'[xs.length+i]? with
    | some j,some y=>N[j]? == some y&&scope.names.contains (y,NameKind.free)
    | _,_=>false)
theorem CScopeN.of {X:Cx} {psc scope:Scope} {N:List Str} {xs N':List Str} {js:List Nat} (h:cscNOk psc scope N xs N' js=true) (hX:X.env.scope=psc) (hN:X.N=N) (hc:X.calm=true):CScopeN X scope xs N' js:=by
  unfold cscNOk at h
  simp only [Bool.and_eq_true] at h
  obtain ⟨⟨⟨⟨⟨⟨⟨⟨⟨h1,h2⟩,h3⟩,h4⟩,h5⟩,h6⟩,h7⟩,h8⟩,h9⟩,h10⟩:=h
  rw [List.all_eq_true] at h1 h2 h4 h5 h6 h10
  refine ⟨hc,fun y hy e=>?_,fun y hy e=>?_,by simpa using h3,fun y hy e=>?_,fun x hx=>by simpa using h5 x hx,fun y hy e=>?_,by simpa using h7,fun i x hx=>?_,of_decide_eq_true h9,fun i j hj=>?_⟩
  · have:=h1 y hy
    rw [e] at this
    show X.env.scope.names.lookup y.1=_
    rw [hX]
    simpa using this
  · have:=h2 y hy
    rw [e] at this
    simp at this
  · have:=h4 y hy
    rw [e] at this
    simpa using this
  · have:=h6 _ hy
    rw [e] at this
    simp at this
  · have e8:N'.take xs.length=xs:=by simpa using h8
    have hi:i<xs.length:=(List.getElem?_eq_some_iff.mp hx).1
    rw [← hx]
    conv=>rhs; rw [← e8]
    rw [List.getElem?_take,if_pos hi]
  · have hi:i<js.length:=(List.getElem?_eq_some_iff.mp hj).1
    have:=h10 i (List.mem_range.mpr hi)
    rw [hj] at this
    cases q:N'[xs.length+i]? with
    | none=>rw [q] at this; simp at this
    | some y =>
      rw [q] at this
      simp only [Bool.and_eq_true] at this
      exact ⟨y,rfl,by rw [hN]; simpa using this.1,List.contains_iff_mem.mp this.2⟩
section
variable {js:List Nat} {te:TE} {tc:TT} {σ:St} {H:Hp} {Q:VK}
end
end L2
set_option Elab.async false
set_option linter.all false
set_option maxRecDepth 100000
namespace L2
open PySem
section
variable {js:List Nat} {te:TE} {tc:TT} {σ:St} {H:Hp} {Q:VK}
end
end L2
set_option Elab.async false
set_option linter.all false
set_option maxRecDepth 100000
namespace Kw
open PySem L2 Mf
def top (i:Nat):Stmt:=PySem.Challenge.pw_earlystop_k61_lines_of_no_paper.main.body.getD i (.Pass ⟨0,0,0,0⟩)
structure Cl where
  EarlyError:Addr
  NoTrial:Addr
  NoRule:Addr
  NoBounds:Addr
  NoLook:Addr
  NoPaper:Addr
  NoLines:Addr
  NoFraction:Addr
  NoOrder:Addr
  NoBack:Addr
  NoRow:Addr
  tok_FIGURES:Tok
  tok_MOST_FIGURES:Tok
  tok_LEAST_NAMES:Tok
  tok_MOST_NAMES:Tok
  tok_ENTRY_WORD:Tok
  tok_SAYS_WORD:Tok
  tok_PAPER_WORD:Tok
  tok_PRICE_WORD:Tok
  tok_WORTH_WORD:Tok
structure Txt (K:PySem.W.Frag) (mg:Str→Option Value) (c:Cl):Prop where
  b_list:mg "list" = none
  b_len:mg "len" = none
  b_abs:mg "abs" = none
  b_isinstance:mg "isinstance" = none
  b_repr:mg "repr" = none
  b_range:mg "range" = none
  b_int:mg "int" = none
  b_bool:mg "bool" = none
  b_tuple:mg "tuple" = none
  b_str:mg "str" = none
  b_ValueError:mg "ValueError" = none
  b_all:mg "all" = none
  b_sum:mg "sum" = none
  b_max:mg "max" = none
  b_sorted:mg "sorted" = none
  g_EarlyError:mg "EarlyError" = some (.ref c.EarlyError)
  g_NoTrial:mg "NoTrial" = some (.ref c.NoTrial)
  g_NoRule:mg "NoRule" = some (.ref c.NoRule)
  g_NoBounds:mg "NoBounds" = some (.ref c.NoBounds)
  g_NoLook:mg "NoLook" = some (.ref c.NoLook)
  g_NoPaper:mg "NoPaper" = some (.ref c.NoPaper)
  g_NoLines:mg "NoLines" = some (.ref c.NoLines)
  g_NoOrder:mg "NoOrder" = some (.ref c.NoOrder)
  g_NoBack:mg "NoBack" = some (.ref c.NoBack)
  g_NoRow:mg "NoRow" = some (.ref c.NoRow)
  g_NoFraction:mg "NoFraction" = some (.ref c.NoFraction)
  g_FIGURES:mg "FIGURES" = some (.str (Str.ofString "0123456789") c.tok_FIGURES)
  g_MOST_FIGURES:mg "MOST_FIGURES" = some (.int 4000 c.tok_MOST_FIGURES)
  g_LEAST_NAMES:mg "LEAST_NAMES" = some (.int 2 c.tok_LEAST_NAMES)
  g_MOST_NAMES:mg "MOST_NAMES" = some (.int 4 c.tok_MOST_NAMES)
  g_ENTRY_WORD:mg "ENTRY_WORD" = some (.str (Str.ofString "on") c.tok_ENTRY_WORD)
  g_SAYS_WORD:mg "SAYS_WORD" = some (.str (Str.ofString "say") c.tok_SAYS_WORD)
  g_PAPER_WORD:mg "PAPER_WORD" = some (.str (Str.ofString "paper") c.tok_PAPER_WORD)
  g_PRICE_WORD:mg "PRICE_WORD" = some (.str (Str.ofString "price") c.tok_PRICE_WORD)
  g_WORTH_WORD:mg "WORTH_WORD" = some (.str (Str.ofString "worth") c.tok_WORTH_WORD)
  x_NoFraction:PySem.W.excIn K c.NoFraction mroVE "ValueError.__new__" = true
  e_NoFraction:ExcCls K c.NoFraction
  c_NoFraction:Catch K c.NoFraction
  c_EarlyError:Catch K c.EarlyError
  s1:PySem.W.subIn K (.ref c.NoFraction) (.ref c.NoFraction)=some true
  bb_EarlyError:baseAll K c.EarlyError=true
  st_NoLines:setAll K c.NoLines ["line"]=true
  ec_NoLines:excAll K c.NoLines=true
  s2:PySem.W.subIn K (.ref c.NoLines) (.ref c.EarlyError)=some true
  k1:PySem.W.kitAny K (.ref c.NoLines) [.ref c.NoBack,.ref c.NoBounds,.ref c.NoFraction,.ref c.NoLook,.ref c.NoOrder,.ref c.NoPaper,.ref c.NoRow,.ref c.NoRule,.ref c.NoTrial]=some false
  k2:PySem.W.kitOne K (.ref c.NoLines) (.ref c.NoLines)=some true
  k3:PySem.W.kitOne K (.ref c.NoLines) (.type "ValueError")=some true
  n1:PySem.W.nsOkIn K cStatics=true
  n2:PySem.W.nsIn K cStatics "sys.int_max_str_digits" = some none
theorem Txt.bc_EarlyError {K:PySem.W.Frag} {mg:Str→Option Value} {c:Cl} (T:Txt K mg c):BaseCls K c.EarlyError:=baseAll.base T.bb_EarlyError
theorem Txt.nd {K:PySem.W.Frag} {mg:Str→Option Value} {c:Cl} (T:Txt K mg c):NoDig K:=⟨T.n1,T.n2⟩
abbrev s__law_feed:Stmt:=(top 43)
theorem sc__law_feed:FnScope ["_law_script"] ["_law_script"] (defScope s__law_feed):=⟨rfl,rfl,rfl,by decide +kernel,rfl,by decide +kernel,by decide +kernel⟩
abbrev s__law_draw:Stmt:=(top 44)
theorem sc__law_draw:FnScope ["_law_feed_here", "_law_many", "_law_found", "_law_at", "_law_cells", "_law_cell", "_law_number"] ["_law_feed_here", "_law_many"] (defScope s__law_draw):=⟨rfl,rfl,rfl,by decide +kernel,rfl,by decide +kernel,by decide +kernel⟩
abbrev s__law_frac:Stmt:=(top 45)
theorem sc__law_frac:FnScope ["_law_n", "_law_d", "_law_one", "_law_other"] ["_law_n", "_law_d"] (defScope s__law_frac):=⟨rfl,rfl,rfl,by decide +kernel,rfl,by decide +kernel,by decide +kernel⟩
theorem iteTe {b:Bool} {A B:Prop} (h:b=true) (k:A):if b=true then A else B:=by rw [h,if_pos rfl]; exact k
theorem iteFe {b:Bool} {A B:Prop} (h:b=false) (k:B):if b=true then A else B:=by rw [h,if_neg (by decide)]; exact k
theorem sqL_keep {K:PySem.W.Frag} {H H':Hp} {a:Addr} {xs:List V} (s:Same H H') (h:SqL K H a xs):SqL K H' a xs:=by
  rcases h with (h | ⟨o,h⟩) | h
  · exact .inl (.inl (s _ _ h))
  · exact .inl (.inr ⟨o,s _ _ h⟩)
  · exact .inr h
theorem RepL.drop {H:Hp}:∀ {ds:List PyData} {vs:List V} (n:Nat),RepL H ds vs→RepL H (ds.drop n) (vs.drop n)
  | [],_,n,h=>by cases (show _=[] from h); rw [List.drop_nil,List.drop_nil]; exact RepL.nil
  | d::ds,_,0,h=>h
  | d::ds,_,n+1,h=>by
    unfold RepL at h
    obtain ⟨x,xs,rfl,h1,h2⟩:=h
    exact RepL.drop n h2
def Shp (n:Nat) (d:PyData):Prop:=PyData.canLay0 d=true∧PyData.depth d≤n
theorem Shp.all {n:Nat}:∀ {ds:List PyData},(∀ d∈ds,Shp n d)→PyData.canLayAll0 ds=true∧PyData.depthAll ds≤n
  | [],_=>⟨rfl,Nat.zero_le _⟩
  | d::ds,h=>by
    obtain ⟨h1,h2⟩:=h d (List.mem_cons_self ..)
    obtain ⟨h3,h4⟩:=Shp.all fun e he=>h e (List.mem_cons_of_mem _ he)
    refine ⟨?_,?_⟩
    · show (PyData.canLay0 d&&PyData.canLayAll0 ds)=true
      rw [h1,h3]; rfl
    · show max (PyData.depth d) (PyData.depthAll ds)≤n
      omega
theorem Shp.tup {n:Nat} {ds:List PyData} (h:∀ d∈ds,Shp n d):Shp (n+1) (.tuple ds):=⟨(Shp.all h).1,by have:=(Shp.all h).2; show PyData.depthAll ds+1≤n+1; omega⟩
theorem Shp.lst {n:Nat} {ds:List PyData} (h:∀ d∈ds,Shp n d):Shp (n+1) (.list ds):=⟨(Shp.all h).1,by have:=(Shp.all h).2; show PyData.depthAll ds+1≤n+1; omega⟩
theorem Shp.int (i:Int):Shp 1 (.int i):=⟨rfl,by simp [PyData.depth]⟩
theorem Shp.ok {n:Nat} {d:PyData} (h:Shp n d) (hn:n≤64:=by decide):SeqAt.shaped d=true:=by
  unfold SeqAt.shaped
  rw [h.1,Bool.true_and]
  exact decide_eq_true (by have:=h.2; omega)
theorem big_nn {z:Int} (h:(10:Int)^Int.toNat 18≤z):0≤z:=Int.le_trans (by decide) h
abbrev fdD (L:Addr) (t l:Int):List (Key × V):=[(.inr "cells",.ref L),(.inr "at",.int t),(.inr "left",.int l)]
structure FeedC (H:Hp) (p L:Addr) (n:Nat):Prop where
  ex:∃ (ns:List Int) (t l:Int),H p=some (.dK (fdD L t l))∧H L=some (.lst (ns.map V.int))∧ns.length≤63∧0≤l∧0≤t∧t+n≤1000000000000
theorem FeedC.there {H:Hp} {p L:Addr} {n:Nat} (F:FeedC H p L n):∃ o,H p=some o:=by obtain ⟨ns,t,l,h,_⟩:=F.ex; exact ⟨_,h⟩
theorem FeedC.ne {H:Hp} {p L q:Addr} {n:Nat} (F:FeedC H p L n) (hq:H q=none):q≠p:=fun e=>by
  subst e; obtain ⟨o,h⟩:=F.there; rw [h] at hq; cases hq
theorem FeedC.neL {H:Hp} {p L q:Addr} {n:Nat} (F:FeedC H p L n) (hq:H q=none):q≠L:=fun e=>by
  subst e; obtain ⟨ns,t,l,h,h2,_⟩:=F.ex; rw [h2] at hq; cases hq
theorem FeedC.same {H H':Hp} {p L:Addr} {n:Nat} (F:FeedC H p L n) (s:Same H H'):FeedC H' p L n:=by
  obtain ⟨ns,t,l,h1,h2,h3⟩:=F.ex
  exact ⟨ns,t,l,s _ _ h1,s _ _ h2,h3⟩
theorem FeedC.but {H H':Hp} {p L D:Addr} {n:Nat} (F:FeedC H p L n) (s:SameBut D H H') (n1:D≠p) (n2:D≠L):FeedC H' p L n:=by
  obtain ⟨ns,t,l,h1,h2,h3⟩:=F.ex
  exact ⟨ns,t,l,s.at (Ne.symm n1) h1,s.at (Ne.symm n2) h2,h3⟩
theorem FeedC.less {H:Hp} {p L:Addr} {n m:Nat} (F:FeedC H p L n) (h:m≤n):FeedC H p L m:=by
  obtain ⟨ns,t,l,e,e2,e3,l0,t0,r⟩:=F.ex
  exact ⟨ns,t,l,e,e2,e3,l0,t0,by omega⟩
theorem FeedC.t {H H':Hp} {p L:Addr} {n:Nat} (F:FeedC H p L n) (s:SameBut p H H'):SameT H H':=by
  obtain ⟨ns,t,l,h,_⟩:=F.ex
  exact s.tD h
theorem FeedC.like {p L:Addr} (f:Nat→Nat):FcLike p L (fun i H=>FeedC H p L (f i)) :=
  ⟨fun _ D H1 H2 n1 n2 s F=>F.but s n1 n2,fun _ H1 H2 s F=>F.same s,fun _ H' F=>by obtain ⟨ns,t,l,h,_⟩:=F.ex; exact ⟨_,h⟩,fun _ H' D F h=>⟨F.ne h,F.neL h⟩⟩
@[irreducible] def sp_feed (K:PySem.W.Frag):Sp:=fun vs H Q _=>∃ (a:Addr) (ns:List Int),vs=[.ref a]∧SqL K H a (ns.map V.int)∧ns.length≤63∧∀ p L H',FeedC H' p L 1000000000000→Same H H'→H p=none→H L=none→Q (.ref p) H'
theorem sp_feed_i {K:PySem.W.Frag} {H:Hp} {Q:VK} {E:XK} {a:Addr} {ns:List Int} (h:SqL K H a (ns.map V.int)) (hl:ns.length≤63) (k:∀ p L H',FeedC H' p L 1000000000000→Same H H'→H p=none→H L=none→Q (.ref p) H'):sp_feed K [.ref a] H Q E:=by
  unfold sp_feed; exact ⟨a,ns,rfl,h,hl,k⟩
@[irreducible] def sp_draw:Sp:=fun vs H Q _=>∃ (p L:Addr) (n:Nat) (m:Int),vs=[.ref p,.int m]∧FeedC H p L (n+1)∧0<m∧bits m≤200∧∀ x H',0≤x→x<m→FeedC H' p L n→SameBut p H H'→Q (.int x) H'
theorem sp_draw_i {H:Hp} {Q:VK} {E:XK} {p L:Addr} {n:Nat} {m:Int} (F:FeedC H p L (n+1)) (h:0<m) (hb:bits m≤200) (k:∀ x H',0≤x→x<m→FeedC H' p L n→SameBut p H H'→Q (.int x) H'):sp_draw [.ref p,.int m] H Q E:=by
  unfold sp_draw; exact ⟨p,L,n,m,rfl,F,h,hb,k⟩
theorem bitsle {i:Int} {n:Nat} (h:i.natAbs<2^n):bits i≤n:=PySem.intBits_le_iff.mpr h
@[irreducible] def sp_law (K:PySem.W.Frag):Sp:=fun vs H Q _=>∃ (a:Addr) (ns:List Int),vs=[.ref a]∧SqL K H a (ns.map V.int)∧ns.length≤63∧∀ H',Q (.bl true) H'
theorem sp_law_i {K:PySem.W.Frag} {H:Hp} {a:Addr} {ns:List Int} (h:SqL K H a (ns.map V.int)) (hl:ns.length≤63):sp_law K [.ref a] H (fun v _=>v=.bl true) (fun _ _ _=>False):=by
  unfold sp_law; exact ⟨a,ns,rfl,h,hl,fun _=>rfl⟩
theorem RepL_ints {H:Hp}:∀ ns:List Int,RepL H (ns.map PyData.int) (ns.map V.int)
  | []=>RepL.nil
  | n::ns=>RepL.cons (Rep.int n) (RepL_ints ns)
theorem ints_nil {ns:List Int}:PyData.eqv (.list (ns.map PyData.int)) (.list [])=decide (ns=[]):=by
  cases ns <;> simp [PyData.eqv,PyData.eqvAll]
theorem shaped_ints (ns:List Int):SeqAt.shaped (.list (ns.map PyData.int))=true:=(Shp.lst (n:=1) fun d hd=>by
  obtain ⟨i,_,rfl⟩:=List.mem_map.mp hd
  exact Shp.int i).ok
section
variable {P:Program} {w:World} {K:PySem.W.Frag} {mg:Str→Option Value} {base:Heap} {c:Cl}
theorem ok__law_feed {f:Addr} {fd:FuncData} (F:Fun K "_law_feed" "_law_feed" s__law_feed f fd) (T:Txt K mg c):FnOk P w K mg base CX0 1 f fd ["_law_script"] (sp_feed K):=by
  refine F.okw sc__law_feed (fun vs H Q E h=>?_) (fun cdv A outer s H vs Q E hr h=>?_)
  · unfold sp_feed at h
    obtain ⟨a,ns,rfl,_⟩:=h
    rfl
  · unfold sp_feed at h
    obtain ⟨a,ns,rfl,hS,hl,k⟩:=h
    refine ⟨_,(wss_one (ws_ret (we_disp (wpp_cons we_str (we_cT call_list_of (by rfl) T.b_list (by decide +kernel) (wa_k (we_slice sl_list (we_v 0) wo_none (wo_some we_int)) wa_nil)) (wpp_cons we_str we_int (wpp_cons we_str we_int wpp_nil)))))),?_⟩
    intro p hp
    have s0:=Same.upd (o:=.dK []) hp
    have e0:(upd H p (.dK [])) p=some (.dK []):=upd_same
    generalize upd H p (.dK [])=H0 at s0 e0
    refine ⟨_,rfl,_,rfl,a,_,rfl,sqL_keep s0 hS,fun q1 h1=>?_⟩
    refine ⟨q1,_,rfl,.inl (SqL.of upd_same),fun q2 h2=>?_⟩
    have e1:cutV (ns.map V.int) none (some 63)=ns.map V.int:=by
      unfold cutV
      have:HT.sIx (ns.map V.int).length (ns.map V.int).length (some 63)=(ns.map V.int).length:=by
        rw [show ((63:Int))=((63:Nat):Int) from rfl,HT.sIx_nat,List.length_map]; omega
      rw [this,HT.sIx_none,List.drop_zero,Nat.sub_zero]
      exact List.take_of_length_le (Nat.le_refl _)
    have s2:=(Same.upd (o:=.lst (cutV (ns.map V.int) none (some 63))) h1).trans (Same.upd (o:=.lst (cutV (ns.map V.int) none (some 63))) h2)
    have e2:(upd (upd H0 q1 (.lst (cutV (ns.map V.int) none (some 63)))) q2 (.lst (cutV (ns.map V.int) none (some 63)))) q2=some (.lst (ns.map V.int)):=by rw [upd_same,e1]
    have f2:H0 q2=none:=(Same.upd h1).free h2
    generalize upd (upd H0 q1 (.lst (cutV (ns.map V.int) none (some 63)))) q2 (.lst (cutV (ns.map V.int) none (some 63)))=H2 at s2 e2
    have n2:q2≠p:=fun z=>by rw [z,e0] at f2; cases f2
    refine ⟨s2 _ _ e0,fdD q2 0 0,rfl,by show 3≤15; decide,?_⟩
    refine k p q2 _ ⟨ns,0,0,?_,?_,hl,by decide,by decide,by decide⟩ ?_ hp (s0.free f2)
    · rw [upd_same]; rfl
    · rw [L2.upd_ne n2]; exact e2
    · intro b o h
      have nb:b≠p:=fun e=>by subst e; rw [hp] at h; cases h
      rw [L2.upd_ne nb]; exact s2 _ _ (s0 _ _ h)
set_option maxHeartbeats 4000000 in
theorem ok__law_draw {f:Addr} {fd:FuncData} (F:Fun K "_law_draw" "_law_draw" s__law_draw f fd) (T:Txt K mg c):FnOk P w K mg base CX0 1 f fd ["_law_feed_here", "_law_many"] sp_draw:=by
  refine F.okw sc__law_draw (fun vs H Q E h=>?_) (fun cdv A outer s H vs Q E hr h=>?_)
  · unfold sp_draw at h
    obtain ⟨p,L,n,m,rfl,_⟩:=h
    rfl
  · unfold sp_draw at h
    obtain ⟨p,L,n,m,rfl,F,hm,hb,k⟩:=h
    obtain ⟨ns,t,l,hp,hL,hl,h0,h1,h2⟩:=F.ex
    refine ⟨_,(wss_cons (ws_if (wt_cmp op_gt (we_dget hr.u1 (we_v 0) we_str) we_int (nomark _)) (wss_cons (ws_set (i:=2) sc__law_draw.nd rfl (Or.inl rfl) (we_op op_mod (we_dget hr.u1 (we_v 0) we_str) (we_v 1)))
      (wss_cons (ws_dput hr.u1 (we_v 0) we_str (we_op op_fdivB (we_dget hr.u1 (we_v 0) we_str) (we_v 1)))
      (wss_one (ws_ret (we_v 2))))) wss_nil)
      (wss_cons (ws_set (i:=3) sc__law_draw.nd rfl (Or.inl rfl) (we_dget hr.u1 (we_v 0) we_str))
      (wss_cons (ws_dput hr.u1 (we_v 0) we_str (we_op op_add (we_v 3) we_int))
      (wss_cons (ws_set (i:=4) sc__law_draw.nd rfl (Or.inl rfl) (we_dget hr.u1 (we_v 0) we_str))
      (wss_cons (ws_cut (ws_set (i:=5) sc__law_draw.nd rfl (Or.inl rfl) (we_ifExp (wt_cmp (op_neD hr.units) (we_v 4) (we_lst wa_nil) (nomark _)) (we_ix ix_seq (we_v 4) (we_op op_mod (we_v 3) (we_cB cl_len (by rfl) T.b_len (by decide +kernel) (wa_k (we_v 4) wa_nil))) (fun _ _=>rfl)) (we_op op_mulB (we_v 3) (we_v 3)))))
      (wss_cons (ws_if (wt_mono (wt_w (ww_and (wt_cmp op_ge (we_v 5) (we_op op_pow we_int we_int) (nomark _)) (ww_and1 (wt_cmp op_lt (we_v 3) (we_cB cl_len (by rfl) T.b_len (by decide +kernel) (wa_k (we_v 4) wa_nil)) (nomark _)))))) (wss_cons (ws_dput hr.u1 (we_v 0) we_str (we_op op_fdivB (we_v 5) (we_v 1)))
      (wss_one (ws_ret (we_op op_mod (we_v 5) (we_v 1))))) wss_nil)
      (wss_cons (ws_set (i:=6) sc__law_draw.nd rfl (Or.inl rfl) (we_op op_mod (we_op op_mulB (we_op op_add (we_op op_mod (we_v 5) we_int) we_int) (we_op op_add we_int (we_op op_mulB we_int (we_v 3)))) we_int))
      (wss_one (ws_ret (we_op op_mod (we_op op_fdivB (we_op op_mod (we_op op_add (we_op op_mulB (we_v 6) we_int) (we_op op_mulB (we_op op_mulB (we_v 3) (we_v 3)) we_int)) we_int) we_int) (we_v 1))))))))))),?_⟩
    refine ⟨_,rfl,?_⟩
    refine dgS hp rfl ?_
    refine ⟨_,_,rfl,rfl,_,rfl,?_⟩
    refine iteD (fun e0=>?_) (fun e0=>?_)
    · refine ⟨_,rfl,?_⟩
      refine dgS hp rfl ?_
      refine ⟨_,rfl,_,_,rfl,rfl,hm,?_⟩
      refine ⟨_,rfl,?_⟩
      refine dgS hp rfl ?_
      refine ⟨_,rfl,_,_,rfl,rfl,⟨hm,Nat.le_trans hb (by decide)⟩,?_⟩
      refine ⟨_,rfl,?_⟩
      refine dpS (kvs2:=fdD L t (l / m)) hp (by show 3≤64; decide) rfl fun H2 hp2 s2=>?_
      have nL:L≠p:=fun z=>by rw [z,hp] at hL; cases hL
      refine ⟨_,rfl,?_⟩
      exact k _ H2 (Int.emod_nonneg _ (by omega)) (Int.emod_lt_of_pos _ hm) ⟨ns,t,l / m,hp2,s2.at nL hL,hl,Int.ediv_nonneg h0 (by omega),by omega,by omega⟩ s2
    · have nL:L≠p:=fun z=>by rw [z,hp] at hL; cases hL
      refine ⟨_,rfl,?_⟩
      refine dgS hp rfl ?_
      refine ⟨_,rfl,_,_,rfl,rfl,_,rfl,?_⟩
      refine dpS (kvs2:=fdD L (t+1) l) hp (by show 3≤64; decide) rfl fun H1 hp1 s1=>?_
      have hL1:=s1.at nL hL
      refine ⟨_,rfl,?_⟩
      refine dgS hp1 rfl ?_
      have bt:bits t≤64:=PySem.intBits_le_64 (by omega) (by omega)
      have bt':bits (7919:Int)≤64:=by decide +kernel
      have F2:∀ {H3:Hp},Same H1 H3→FeedC H3 p L n:=fun s3=>⟨ns,t+1,l,s3 _ _ hp1,s3 _ _ hL1,hl,h0,by omega,by omega⟩
      refine ⟨fun σ H3=>∃ cc:Int,σ=[some (.ref p),some (.int m),none,some (.int t),some (.ref L),some (.int cc),none]∧Same H1 H3,?_,?_⟩
      · rintro σ H3 ⟨cc,rfl,s3⟩
        have e3p:=s3 _ _ hp1
        have e3L:=s3 _ _ hL1
        refine ⟨fun b H4=>H4=H3∧(b=true→0≤cc),?_,?_⟩
        · refine ⟨_,rfl,_,_,rfl,rfl,⟨by decide,by decide,by decide⟩,_,_,rfl,rfl,_,rfl,?_⟩
          refine iteD (fun e1=>?_) (fun e1=>?_)
          · refine ⟨_,rfl,_,rfl,?_⟩
            refine rlL e3L ?_
            exact ⟨_,_,rfl,rfl,_,rfl,rfl,fun _=>big_nn e1⟩
          · exact ⟨rfl,fun h=>by cases h⟩
        · rintro b H4 ⟨rfl,hcc⟩
          cases b with
          | true =>
            have hcc:=hcc rfl
            refine iteT ?_
            refine ⟨_,rfl,_,rfl,_,_,rfl,rfl,⟨hm,Nat.le_trans hb (by decide)⟩,?_⟩
            refine ⟨_,rfl,?_⟩
            refine dpS (kvs2:=fdD L (t+1) (cc / m)) e3p (by show 3≤64; decide) rfl fun H5 hp5 s5=>?_
            refine ⟨_,rfl,_,rfl,_,_,rfl,rfl,hm,?_⟩
            exact k _ H5 (Int.emod_nonneg _ (by omega)) (Int.emod_lt_of_pos _ hm) ⟨ns,t+1,cc / m,hp5,s5.at nL e3L,hl,Int.ediv_nonneg hcc (by omega),by omega,by omega⟩ ((s1.trans s3.but).trans s5)
          | false =>
            refine iteF ?_
            have c0:=Int.emod_nonneg cc (b:=2147483629) (by decide)
            have c1:=Int.emod_lt_of_pos cc (b:=2147483629) (by decide)
            refine ⟨_,rfl,_,_,rfl,rfl,(by show (0:Int)<2147483629; decide),_,_,rfl,rfl,_,rfl,_,_,rfl,rfl,IntMulOk.of_left bt',_,_,rfl,rfl,_,_,rfl,rfl,IntMulOk.of_left (PySem.intBits_le_64 (by omega) (by omega)),_,_,rfl,rfl,(by show (0:Int)<2147483647; decide),?_⟩
            generalize (cc % 2147483629+1)*(48271+7919*t) % 2147483647=z
            refine ⟨_,rfl,_,_,rfl,rfl,IntMulOk.of_right (by decide +kernel),_,rfl,_,rfl,_,_,rfl,rfl,IntMulOk.of_left bt,_,_,rfl,rfl,IntMulOk.of_right (by decide +kernel),_,_,rfl,rfl,_,_,rfl,rfl,(by show (0:Int)<2147483399; decide),_,_,rfl,rfl,⟨by decide,by decide +kernel⟩,_,rfl,_,_,rfl,rfl,hm,?_⟩
            exact k _ H4 (Int.emod_nonneg _ (by omega)) (Int.emod_lt_of_pos _ hm) (F2 s3) (s1.trans s3.but)
      · refine ⟨_,rfl,?_⟩
        refine nwL (by show 0≤64; decide) fun q2 H2 hq2 e2 s2=>?_
        refine reD (d:=.list (ns.map PyData.int)) (d':=.list []) (Rep.lst (s2 _ _ hL1) (RepL_ints ns)) (Rep.lst e2 RepL.nil) (shaped_ints ns) rfl ?_
        rw [ints_nil]
        refine ⟨_,rfl,?_⟩
        by_cases ens:ns=[]
        · refine iteFe (by rw [decide_eq_true ens]; rfl) ?_
          refine ⟨_,rfl,_,rfl,_,_,rfl,rfl,IntMulOk.of_left bt,?_⟩
          exact ⟨_,rfl,s2⟩
        · refine iteTe (by rw [decide_eq_false ens]; rfl) ?_
          have lp:0<ns.length:=List.length_pos_iff.mpr ens
          refine ⟨_,rfl,_,rfl,_,rfl,?_⟩
          refine rlL (s2 _ _ hL1) ?_
          rw [List.length_map]
          refine ⟨_,_,rfl,rfl,(by omega),?_⟩
          have g0:=Int.emod_nonneg t (b:=(ns.length:Int)) (by omega)
          have g1:=Int.emod_lt_of_pos t (b:=(ns.length:Int)) (by omega)
          have hj:∃ z,ns[(t % (ns.length:Int)).toNat]?=some z:=⟨_,List.getElem?_eq_getElem (by omega)⟩
          obtain ⟨z,hz⟩:=hj
          have hat:atI (ns.map V.int) (t % (ns.length:Int))=some (.int z):=by
            have:=atI_nat (xs:=ns.map V.int) (j:=(t % (ns.length:Int)).toNat) (v:=V.int z) (by rw [List.getElem?_map,hz]; rfl)
            rwa [Int.toNat_of_nonneg g0] at this
          refine ixL (s2 _ _ hL1) hat ?_
          exact ⟨_,rfl,s2⟩
end
abbrev frD (f:Fr):PyData:=.tuple [.int f.1,.int f.2]
theorem frD_at {H:Hp} {f:Fr} {v:V} (h:Rep H (frD f) v):∃ a,v=.ref a∧H a=some (.tup [.int f.1,.int f.2]):=by
  unfold Rep RepL RepL RepL at h
  obtain ⟨a,_,rfl,h1,x,_,rfl,r1,y,_,rfl,r2,rfl⟩:=h
  cases (show x=V.int f.1 from r1)
  cases (show y=V.int f.2 from r2)
  exact ⟨a,rfl,h1⟩
theorem frD_of {H:Hp} {f:Fr} {a:Addr} (h:H a=some (.tup [.int f.1,.int f.2])):Rep H (frD f) (.ref a):=Rep.tup h (RepL.cons (Rep.int _) (RepL.cons (Rep.int _) RepL.nil))
theorem frD_flat (f:Fr):flatD (frD f)=true:=rfl
@[irreducible] def sp_cd:Sp:=fun vs H Q _=>∃ n d:Int,vs=[.int n,.int d]∧0<d∧Q (.int (Int.gcd n d)) H
theorem sp_cd_i {H:Hp} {Q:VK} {E:XK} {n d:Int} (h:0<d) (q:Q (.int (Int.gcd n d)) H):sp_cd [.int n,.int d] H Q E:=by unfold sp_cd; exact ⟨n,d,rfl,h,q⟩
def NewF (H:Hp) (Q:VK) (f:Fr):Prop:=∀ q H',H q=none→H' q=some (.tup [.int f.1,.int f.2])→Same H H'→Q (.ref q) H'
theorem gcd_le {n d:Int} (h:0<d):(Int.gcd n d:Int)≤d:=Int.le_of_dvd h (Int.gcd_dvd_right n d)
theorem gcd_sz {n d:Int} {k:Nat} (h:0<d) (z:d.natAbs<2^k):(Int.gcd n d:Int).natAbs<2^k:=by
  have:=gcd_le (n:=n) h
  have:=gcd_pos (n:=n) h
  omega
theorem divOk {n d:Int} (h:0<d) (z:d.natAbs<2^9000):CDivB n d:=⟨h,bitsOf z⟩
abbrev shD (fs:List Fr):PyData:=.tuple (fs.map frD)
theorem frs_flat:∀ fs:List Fr,flatDs (fs.map frD)=true
  | []=>rfl
  | f::fs=>by show (flatD (frD f)&&flatDs (fs.map frD))=true; rw [frs_flat fs]; rfl
theorem shD_flat (fs:List Fr):flatD (shD fs)=true:=frs_flat fs
@[irreducible] def sp_lfrac:Sp:=fun vs H Q _=>∃ n d:Int,vs=[.int n,.int d]∧0<d∧d.natAbs<2^9000∧NewF H Q (lw n d)
theorem sp_lfrac_i {H:Hp} {Q:VK} {E:XK} {n d:Int} (h:0<d) (z:d.natAbs<2^9000) (q:NewF H Q (lw n d)):sp_lfrac [.int n,.int d] H Q E:=by unfold sp_lfrac; exact ⟨n,d,rfl,h,z,q⟩
section
variable {P:Program} {w:World} {K:PySem.W.Frag} {mg:Str→Option Value} {base:Heap} {c:Cl}
theorem ok__law_frac {f:Addr} {fd:FuncData} (F:Fun K "_law_frac" "_law_frac" s__law_frac f fd) (T:Txt K mg c):FnOk P w K mg base CX0 1 f fd ["_law_n", "_law_d"] sp_lfrac:=by
  refine F.okw sc__law_frac (fun vs H Q E h=>?_) (fun cdv A outer s H vs Q E hr h=>?_)
  · unfold sp_lfrac at h
    obtain ⟨n,d,rfl,_⟩:=h
    rfl
  · unfold sp_lfrac at h
    obtain ⟨n,d,rfl,hd,hz,q⟩:=h
    refine ⟨_,(wss_cons (ws_set (i:=2) sc__law_frac.nd rfl (Or.inl rfl) (we_cB cl_abs (by rfl) T.b_abs (by decide +kernel) (wa_k (we_v 0) wa_nil)))
      (wss_cons (ws_set (i:=3) sc__law_frac.nd rfl (Or.inl rfl) (we_v 1))
      (wss_cons (ws_while PassesOwn.never (wt_cmp op_gt (we_v 3) we_int (nomark _)) (wss_one (ws_par (i:=2) (j:=3) rfl sc__law_frac.nd rfl rfl (by decide) rfl rfl (wa_k (we_v 3) (wa_k (we_op op_mod (we_v 2) (we_v 3)) wa_nil)) rfl)))
      (wss_one (ws_ret (we_tup (wa_k (we_op op_fdivB (we_v 0) (we_v 2)) (wa_k (we_op op_fdivB (we_v 1) (we_v 2)) wa_nil)))))))),?_⟩
    refine ⟨_,rfl,?_⟩
    refine raI ?_
    refine ⟨_,rfl,?_⟩
    refine while_r (fun m σ H'=>∃ (u v:Int),σ=[some (.int n),some (.int d),some (.int u),some (.int v)]∧0≤v∧Int.gcd u v=Int.gcd n d∧(v=0→0<u)∧H'=H∧m=v.toNat)
      (fun σ H'=>σ=[some (.int n),some (.int d),some (.int (Int.gcd n d)),some (.int 0)]∧H'=H)
      _ ⟨(n.natAbs:Int),d,rfl,by omega,by rw [Int.gcd_eq_natAbs_gcd_natAbs,Int.gcd_eq_natAbs_gcd_natAbs,Int.natAbs_natCast],by omega,rfl,rfl⟩ ?_ ?_
    · rintro m σ H2 ⟨u,v,rfl,hb,hg,h0,rfl,rfl⟩
      refine ⟨_,rfl,_,_,rfl,rfl,_,rfl,?_⟩
      refine iteD (fun e=>?_) (fun e=>?_)
      · refine ⟨_,rfl,_,rfl,_,rfl,_,_,rfl,rfl,e,_,_,rfl,?_⟩
        have e1:=Int.emod_lt_of_pos u e
        have e2:=Int.emod_nonneg u (b:=v) (by omega)
        exact ⟨_,by omega,v,u % v,rfl,e2,by rw [gcd_step,hg],fun _=>e,rfl,rfl⟩
      · have hb0:v=0:=by omega
        subst hb0
        have hu:=h0 rfl
        have e1:=gcd_end hu
        rw [hg] at e1
        rw [e1]
        exact ⟨rfl,rfl⟩
    · rintro σ H2 ⟨rfl,rfl⟩
      have hg:=gcd_pos (n:=n) hd
      have zg:CDivB n (Int.gcd n d:Int):=divOk hg (gcd_sz hd hz)
      refine ⟨_,rfl,_,rfl,_,_,rfl,rfl,zg,?_⟩
      refine ⟨_,rfl,_,rfl,_,_,rfl,rfl,zg,?_⟩
      refine nwT (by show 2≤64; decide) fun p H3 hp e3 s3=>?_
      exact q p H3 hp e3 s3
end
abbrev ctD (cs:List Int):PyData:=.tuple (cs.map .int)
theorem ints_flat:∀ fs:List Int,flatDs (fs.map PyData.int)=true
  | []=>rfl
  | f::fs=>by show (flatD (.int f)&&flatDs (fs.map PyData.int))=true; rw [ints_flat fs]; rfl
theorem ctD_flat (cs:List Int):flatD (ctD cs)=true:=ints_flat cs
theorem shD_at {H:Hp} {fs:List Fr} {v:V} (h:Rep H (shD fs) v):∃ a xs,v=.ref a∧H a=some (.tup xs)∧RepL H (fs.map frD) xs:=by
  unfold Rep at h; exact h
theorem eqv_int (x y:Int):PyData.eqv (.int x) (.int y)=decide (x=y):=by
  show (x == y)=_
  rw [Bool.beq_eq_decide_eq]
theorem eqv_ints:∀ a b:List Int,PyData.eqvAll (a.map PyData.int) (b.map PyData.int)=decide (a=b)
  | [],[]=>by simp [PyData.eqvAll]
  | [],_::_=>by simp [PyData.eqvAll]
  | _::_,[]=>by simp [PyData.eqvAll]
  | x::a,y::b=>by
    have ih:=eqv_ints a b
    rw [List.map_cons,List.map_cons]
    show (PyData.eqv (.int x) (.int y)&&PyData.eqvAll _ _)=_
    rw [ih,eqv_int]
    by_cases h:x=y <;> by_cases h':a=b <;> simp [h,h']
theorem eqv_ct (a b:List Int):PyData.eqv (ctD a) (ctD b)=decide (a=b):=eqv_ints a b
theorem eqv_fr (f g:Fr):PyData.eqv (frD f) (frD g)=decide (f=g):=by
  have h:=eqv_ct [f.1,f.2] [g.1,g.2]
  refine (show PyData.eqv (frD f) (frD g)=_ from h).trans ?_
  obtain ⟨f1,f2⟩:=f
  obtain ⟨g1,g2⟩:=g
  simp
abbrev Ent:=List Int × List Fr
abbrev enD (e:Ent):PyData:=.tuple [ctD e.1,shD e.2]
abbrev ruD (es:List Ent):PyData:=.tuple (es.map enD)
end Kw
set_option Elab.async false
set_option linter.all false
set_option maxRecDepth 100000
namespace Kw
open PySem L2 Mf Mt PySem.NumText
abbrev s_is_whole:Stmt:=(top 15)
theorem sc_is_whole:FnScope ["thing"] ["thing"] (defScope s_is_whole):=⟨rfl,rfl,rfl,by decide +kernel,rfl,by decide +kernel,by decide +kernel⟩
abbrev s_common_divisor:Stmt:=(top 16)
theorem sc_common_divisor:FnScope ["number", "above_nought", "divided", "divisor", "rest"] ["number", "above_nought"] (defScope s_common_divisor):=⟨rfl,rfl,rfl,by decide +kernel,rfl,by decide +kernel,by decide +kernel⟩
abbrev s_are_figures:Stmt:=(top 17)
theorem sc_are_figures:FnScope ["text"] ["text"] (defScope s_are_figures):=⟨rfl,rfl,rfl,by decide +kernel,rfl,by decide +kernel,by decide +kernel⟩
abbrev s_read_whole:Stmt:=(top 18)
theorem sc_read_whole:FnScope ["text", "figures"] ["text"] (defScope s_read_whole):=⟨rfl,rfl,rfl,by decide +kernel,rfl,by decide +kernel,by decide +kernel⟩
abbrev s_is_fraction:Stmt:=(top 20)
theorem sc_is_fraction:FnScope ["thing"] ["thing"] (defScope s_is_fraction):=⟨rfl,rfl,rfl,by decide +kernel,rfl,by decide +kernel,by decide +kernel⟩
abbrev s_read_fraction:Stmt:=(top 21)
theorem sc_read_fraction:FnScope ["text", "numbers", "read"] ["text"] (defScope s_read_fraction):=⟨rfl,rfl,rfl,by decide +kernel,rfl,by decide +kernel,by decide +kernel⟩
theorem ok_common_divisor {f:Addr} {fd:FuncData} (F:Fun K "common_divisor" "common_divisor" s_common_divisor f fd) (T:Txt K mg c):FnOk P w K mg base CX0 1 f fd ["number", "above_nought"] sp_cd:=by
  refine F.okw sc_common_divisor (fun vs H Q E h=>?_) (fun cdv A outer s H vs Q E hr h=>?_)
  · unfold sp_cd at h
    obtain ⟨n,d,rfl,_⟩:=h
    rfl
  · unfold sp_cd at h
    obtain ⟨n,d,rfl,hd,q⟩:=h
    refine ⟨_,(wss_cons (ws_set (i:=2) sc_common_divisor.nd rfl (Or.inl rfl) (we_v 0))
      (wss_cons (ws_set (i:=3) sc_common_divisor.nd rfl (Or.inl rfl) (we_v 1))
      (wss_cons (ws_while PassesOwn.never (wt_cmp op_ne (we_v 3) we_int (nomark _)) (wss_cons (ws_set (i:=4) sc_common_divisor.nd rfl (Or.inl rfl) (we_op op_mod (we_v 2) (we_v 3)))
      (wss_cons (ws_set (i:=2) sc_common_divisor.nd rfl (Or.inl rfl) (we_v 3))
      (wss_one (ws_set (i:=3) sc_common_divisor.nd rfl (Or.inl rfl) (we_v 4))))))
      (wss_one (ws_ret (we_v 2)))))),?_⟩
    refine ⟨_,rfl,_,rfl,?_⟩
    refine while_r (fun m σ H'=>∃ (a b:Int) (c:Option V),σ=[some (.int n),some (.int d),some (.int a),some (.int b),c]∧0≤b∧Int.gcd a b=Int.gcd n d∧(b=0→0<a)∧H'=H∧m=b.toNat)
      (fun σ H'=>∃ (c:Option V),σ=[some (.int n),some (.int d),some (.int (Int.gcd n d)),some (.int 0),c]∧H'=H)
      _ ⟨n,d,none,rfl,by omega,rfl,by omega,rfl,rfl⟩ ?_ ?_
    · rintro m σ H2 ⟨a,b,c,rfl,hb,hg,h0,rfl,rfl⟩
      refine ⟨_,rfl,rfl,_,rfl,?_⟩
      refine iteDN (fun e=>?_) (fun e=>?_)
      · have hb':0<b:=by
          rcases Int.lt_or_eq_of_le hb with h | h
          · exact h
          · exact absurd (congrArg V.int h.symm) e
        refine ⟨_,rfl,_,rfl,_,_,rfl,rfl,hb',_,rfl,_,rfl,?_⟩
        have e1:=Int.emod_lt_of_pos a hb'
        have e2:=Int.emod_nonneg a (b:=b) (by omega)
        exact ⟨_,by omega,b,a % b,_,rfl,e2,by rw [gcd_step,hg],fun _=>hb',rfl,rfl⟩
      · have hb0:b=0:=by injection e
        subst hb0
        have ha:=h0 rfl
        have e1:=gcd_end ha
        rw [hg] at e1
        rw [e1]
        exact ⟨c,rfl,rfl⟩
    · rintro σ H2 ⟨c,rfl,rfl⟩
      exact ⟨_,rfl,q⟩
def optV:Option Int→V
  | none=>.non
  | some n=>.int n
def optD:Option Int→PyData
  | none=>.none
  | some n=>.int n
theorem optR {H:Hp}:∀ o:Option Int,Rep H (optD o) (optV o)
  | none=>Rep.non
  | some n=>Rep.int n
@[irreducible] def sp_whole:Sp:=fun vs H Q _=>∃ o,vs=[optV o]∧Q (.bl o.isSome) H
theorem sp_whole_i {o:Option Int} {H:Hp} {Q:VK} {E:XK} (q:Q (.bl o.isSome) H):sp_whole [optV o] H Q E:=by unfold sp_whole; exact ⟨o,rfl,q⟩
@[irreducible] def sp_aref:Sp:=fun vs H Q _=>∃ t,vs=[.str t]∧t.length≤20000∧∀ H',Same H H'→Q (.bl (decide (1≤t.length)&&decide (t.length≤4000)&&figs t)) H'
theorem sp_aref_i {t:Str} {H:Hp} {Q:VK} {E:XK} (z:t.length≤20000) (q:∀ H',Same H H'→Q (.bl (decide (1≤t.length)&&decide (t.length≤4000)&&figs t)) H'):sp_aref [.str t] H Q E:=by unfold sp_aref; exact ⟨t,rfl,z,q⟩
@[irreducible] def sp_readw:Sp:=fun vs H Q _=>∃ t,vs=[.str t]∧t.length≤20000∧∀ H',Same H H'→Q (optV (rd t)) H'
theorem sp_readw_i {t:Str} {H:Hp} {Q:VK} {E:XK} (z:t.length≤20000) (q:∀ H',Same H H'→Q (optV (rd t)) H'):sp_readw [.str t] H Q E:=by unfold sp_readw; exact ⟨t,rfl,z,q⟩
theorem line20 {n:Nat} (h:n≤20000):n≤sizeLine:=Nat.le_trans h (by decide)
theorem iteNE {a b:Str} {A B:Prop} (h:a≠b) (x:A):if (!decide (V.str a=V.str b))=true then A else B:=by
  rw [decide_eq_false (fun z=>h (by injection z))]
  exact x
theorem rlS {K:PySem.W.Frag} {H:Hp} {Q:VK} {t:Str} (z:t.length≤sizeLine) (q:Q (.int t.length) H):rLen K [V.str t] H Q:=by
  unfold rLen
  refine ⟨_,_,rfl,?_,q⟩
  first | exact ⟨z,rfl⟩ | exact ⟨rfl,z⟩ | exact z | exact .inl ⟨z,rfl⟩ | exact rfl
section
variable {P:Program} {w:World} {K:PySem.W.Frag} {mg:Str→Option Value} {base:Heap} {c:Cl}
theorem ok_is_whole {f:Addr} {fd:FuncData} (F:Fun K "is_whole" "is_whole" s_is_whole f fd) (T:Txt K mg c):FnOk P w K mg base CX0 1 f fd ["thing"] sp_whole:=by
  refine F.okw sc_is_whole (fun vs H Q E h=>?_) (fun cdv A outer s H vs Q E hr h=>?_)
  · unfold sp_whole at h
    obtain ⟨o,rfl,_⟩:=h
    rfl
  · unfold sp_whole at h
    obtain ⟨o,rfl,q⟩:=h
    refine ⟨_,(wss_one (ws_ret (we_and (we_cB cl_isi (by rfl) T.b_isinstance (by decide +kernel) (wa_k (we_v 0) (wa_k (we_bltn (v:=.ty "int") (u:=.type "int") rfl T.b_int (by decide +kernel) rfl) wa_nil))) (we_one (we_not (we_cB cl_isi (by rfl) T.b_isinstance (by decide +kernel) (wa_k (we_v 0) (wa_k (we_bltn (v:=.ty "bool") (u:=.type "bool") rfl T.b_bool (by decide +kernel) rfl) wa_nil)))))))),?_⟩
    cases o with
    | none =>
      refine ⟨_,rfl,?_⟩
      refine riI Rep.non ?_
      refine ⟨_,rfl,?_⟩
      refine iteF ?_
      exact q
    | some n =>
      refine ⟨_,rfl,?_⟩
      refine riI (Rep.int n) ?_
      refine ⟨_,rfl,?_⟩
      refine iteT ?_
      refine ⟨_,rfl,?_⟩
      refine riI (Rep.int n) ?_
      refine ⟨_,rfl,?_⟩
      exact q
theorem ok_are_figures {f:Addr} {fd:FuncData} (F:Fun K "are_figures" "are_figures" s_are_figures f fd) (T:Txt K mg c):FnOk P w K mg base CX0 1 f fd ["text"] sp_aref:=by
  refine F.okw sc_are_figures (fun vs H Q E h=>?_) (fun cdv A outer s H vs Q E hr h=>?_)
  · unfold sp_aref at h
    obtain ⟨t,rfl,_⟩:=h
    rfl
  · unfold sp_aref at h
    obtain ⟨t,rfl,z,q⟩:=h
    refine ⟨_,(wss_one (ws_ret (we_and (we_chain op_le op_le we_int (we_cB cl_len (by rfl) T.b_len (by decide +kernel) (wa_k (we_v 0) wa_nil)) (we_glob (v:=.int 4000) rfl T.g_MOST_FIGURES ⟨_,rfl⟩)) (we_one (we_cB (cl_all rfl) (by rfl) T.b_all (by decide +kernel) (wa_k (we_comp (CScope.of (psc:=defScope s_are_figures) (N:=["text"]) (N':=["sign"]) (js:=[]) (by decide +kernel) rfl rfl rfl) (wi_str (we_v 0)) (fun _ _ _ _=>wts_nil) (fun _ _ _ _=>(we_cmp op_in_str (we_v 0) (we_glob (v:=.str (Str.ofString "0123456789")) rfl T.g_FIGURES ⟨_,rfl⟩) (by with_unfolding_all rfl)))) wa_nil)))))),?_⟩
    refine ⟨_,rfl,?_⟩
    refine rlS (line20 z) ?_
    refine ⟨_,_,rfl,rfl,_,rfl,?_⟩
    refine iteD (fun h1=>?_) (fun h1=>?_)
    · refine ⟨_,_,rfl,rfl,_,rfl,?_⟩
      refine iteD (fun h2=>?_) (fun h2=>?_)
      · refine ⟨_,rfl,_,rfl,?_⟩
        refine comp_str (x:=t) (fun _=>true) (fun x=>V.bl (dig x)) (by omega) (fun x H' Q' _ q=>q) (fun x H' Q' _ q=>?_) fun D H1 hD e s1=>?_
        · refine ⟨_,rfl,_,_,rfl,rfl,?_⟩
          rw [in_figs]
          exact q
        · have e:H1 D=some (.lst ((t.cps.toList.map dig).map V.bl)):=by
            rw [e,List.filter_eq_self.mpr (fun _ _=>rfl),List.map_map]
            rfl
          refine rall e ?_
          have q1:=q H1 s1
          rw [decide_eq_true (show 1≤t.length by omega),decide_eq_true (show t.length≤4000 by omega)] at q1
          have e2:(t.cps.toList.map dig).all id=figs t:=by unfold figs; rw [List.all_map]; rfl
          rw [e2]
          exact q1
      · have q1:=q H (Same.refl _)
        rw [decide_eq_false (show ¬ t.length≤4000 by omega),Bool.and_false,Bool.false_and] at q1
        exact q1
    · have q1:=q H (Same.refl _)
      rw [decide_eq_false (show ¬ 1≤t.length by omega),Bool.false_and,Bool.false_and] at q1
      refine ⟨_,rfl,?_⟩
      refine iteF ?_
      exact q1
theorem ok_read_whole {f:Addr} {fd:FuncData} (F:Fun K "read_whole" "read_whole" s_read_whole f fd) (T:Txt K mg c) (F_are_figures:FnC CX0 P w K mg base 1 "are_figures" ["text"] sp_aref):FnOk P w K mg base CX0 2 f fd ["text"] sp_readw:=by
  refine F.okw sc_read_whole (fun vs H Q E h=>?_) (fun cdv A outer s H vs Q E hr h=>?_)
  · unfold sp_readw at h
    obtain ⟨t,rfl,_⟩:=h
    rfl
  · unfold sp_readw at h
    obtain ⟨t,rfl,z,q⟩:=h
    refine ⟨_,(wss_cons (ws_cut (ws_set (i:=1) sc_read_whole.nd rfl (Or.inl rfl) (we_ifExp (wt_val (we_bm PySem.F.plainAttrs_str PySem.F.slot_str_startswith PySem.F.type_str_startswith mt_starts (we_v 0) (wa_k we_str wa_nil))) (we_slice sl_str (we_v 0) (wo_some we_int) wo_none) (we_v 0))))
      (wss_cons (ws_if (wt_not (wt_val (we_fn F_are_figures (hr.mono (by decide)) (wa_k (we_v 1) wa_nil)))) (wss_one (ws_ret we_non)) wss_nil)
      (wss_cons (ws_if (wt_w (ww_and (wt_val (we_bm PySem.F.plainAttrs_str PySem.F.slot_str_startswith PySem.F.type_str_startswith mt_starts (we_v 1) (wa_k we_str wa_nil))) (ww_and1 (wt_cmp op_ne (we_v 0) we_str (nomark _))))) (wss_one (ws_ret we_non)) wss_nil)
      (wss_one (ws_ret (we_cT (cl_intT T.nd) (by rfl) T.b_int (by decide +kernel) (wa_k (we_v 0) wa_nil))))))),?_⟩
    have zf:=fg_len t
    have es:Txt.startswith t (Str.ofString "-")=neg t:=starts_one t 45
    have e0:Txt.startswith (fg t) (Str.ofString "0")=decide ((fg t).cps.toList.head?=some 48):=starts_one (fg t) 48
    refine ⟨fun σ H'=>σ=[some (.str t),some (.str (fg t))]∧H'=H,?_,?_⟩
    · rintro σ H1 ⟨rfl,rfl⟩
      refine ⟨_,rfl,?_⟩
      refine sp_aref_i (by omega) fun H2 s2=>?_
      refine ⟨_,rfl,?_⟩
      have q2:=q H2 s2
      by_cases h1:(decide (1≤(fg t).length)&&decide ((fg t).length≤4000)&&figs (fg t))=true
      · rw [h1]
        refine iteF ?_
        refine ⟨_,rfl,rfl,?_⟩
        refine rstarts ?_
        rw [e0]
        refine ⟨_,rfl,?_⟩
        have hd:rdB t=!(decide ((fg t).cps.toList.head?=some 48) && !decide (t=zero)):=by
          unfold rdB; rw [h1,Bool.true_and]
        have go:rdB t=true→tRet (tCB rIntT (tCons (tVar 0) tNil)) { nx:=fun x H'=>Q V.non H',rt:=Q } [some (.str t),some (.str (fg t))] H2:=by
          intro hb
          refine ⟨_,rfl,?_⟩
          have h2:figs (fg t)=true:=by
            simp only [Bool.and_eq_true] at h1
            exact h1.2
          have h3:1≤(fg t).length:=by
            simp only [Bool.and_eq_true] at h1
            exact of_decide_eq_true h1.1.1
          have h4:(fg t).length≤4000:=by
            simp only [Bool.and_eq_true] at h1
            exact of_decide_eq_true h1.1.2
          have hne:(fg t).cps.toList≠[]:=fun e=>by
            rw [← len_toList,e] at h3
            exact absurd h3 (by decide)
          unfold rd at q2
          rw [if_pos hb] at q2
          by_cases hn:neg t=true
          · have ec:t.cps.toList=45::(fg t).cps.toList:=by
              have hh:t.cps.toList.head?=some 45:=of_decide_eq_true hn
              unfold fg
              rw [if_pos hn]
              cases q3:t.cps.toList with
              | nil=>rw [q3] at hh; cases hh
              | cons x r=>rw [q3] at hh; cases hh; rfl
            have hl:t.length=(fg t).length+1:=by rw [← len_toList,ec,List.length_cons,len_toList]
            refine rintT (n:=rdV t) ?_ ?_ (line20 z) q2
            · intro x hx
              rw [ec] at hx
              rcases List.mem_cons.mp hx with rfl | hx
              · exact .inl rfl
              · exact .inr (figs_all h2 x hx)
            · unfold rdV
              rw [if_pos hn]
              exact PySem.intText_neg ec (figs_all h2) hne (by omega)
          · have ef:fg t=t:=by unfold fg; rw [if_neg hn]
            rw [ef] at h2 hne h4
            refine rintT (n:=rdV t) ?_ ?_ (line20 z) q2
            · exact fun x hx=>.inr (figs_all h2 x hx)
            · unfold rdV
              rw [if_neg hn,ef]
              exact PySem.intText_digits (figs_all h2) hne (by omega)
        by_cases c1:(fg t).cps.toList.head?=some 48
        · rw [decide_eq_true c1] at hd ⊢
          refine iteT ?_
          refine ⟨_,rfl,rfl,_,rfl,?_⟩
          by_cases c2:t=zero
          · rw [decide_eq_true c2] at hd
            refine iteNS (by rw [c2]; rfl) ?_
            exact go (by rw [hd]; rfl)
          · rw [decide_eq_false c2] at hd
            refine iteNE (fun z=>c2 z) ?_
            unfold rd at q2
            rw [hd] at q2
            exact q2
        · rw [decide_eq_false c1] at hd ⊢
          refine iteF ?_
          exact go (by rw [hd]; rfl)
      · have h1:(decide (1≤(fg t).length)&&decide ((fg t).length≤4000)&&figs (fg t))=false:=by simpa using h1
        rw [h1]
        refine iteT ?_
        have:rdB t=false:=by unfold rdB; rw [h1,Bool.false_and]
        unfold rd at q2
        rw [this] at q2
        exact q2
    · refine ⟨_,rfl,rfl,?_⟩
      refine rstarts ?_
      rw [es]
      refine ⟨_,rfl,?_⟩
      by_cases hn:neg t=true
      · rw [hn]
        refine iteT ?_
        have hh:t.cps.toList.head?=some 45:=of_decide_eq_true hn
        have h1:1≤t.length:=by
          rw [← len_toList]
          cases q3:t.cps.toList with
          | nil=>rw [q3] at hh; cases hh
          | cons x r=>simp
        have ef:Txt.slice t (some 1) none=fg t:=str_ext (by
          rw [slice_from (by decide) (by omega)]
          unfold fg
          rw [if_pos hn]
          rfl)
        refine ⟨_,rfl,_,rfl,t,rfl,line20 z,?_⟩
        rw [ef]
        exact ⟨rfl,rfl⟩
      · have ef:fg t=t:=by unfold fg; rw [if_neg hn]
        have hn:neg t=false:=by simpa using hn
        rw [hn]
        refine iteF ?_
        exact ⟨_,rfl,by rw [ef]; rfl,rfl⟩
end
def isf:List (Option Int)→Bool
  | [some n,some d]=>decide (1≤d)&&decide (Int.gcd n d=1)
  | _=>false
theorem isf_len {os:List (Option Int)} (h:os.length≠2):isf os=false:=by
  match os,h with
  | [],_=>rfl
  | [a],_=>cases a <;> rfl
  | [a,b],h=>exact absurd rfl h
  | a::b::c::r,_=>cases a <;> cases b <;> rfl
theorem app_len (a b:Str):(a++b).length=a.length+b.length:=by
  rw [← len_toList,← len_toList,← len_toList,app_cps,List.length_append]
@[irreducible] def sp_isf:Sp:=fun vs H Q _=>∃ (a:Addr) (os:List (Option Int)),vs=[.ref a]∧H a=some (.tup (os.map optV))∧os.length≤20000∧Q (.bl (isf os)) H
theorem sp_isf_i {a:Addr} {os:List (Option Int)} {H:Hp} {Q:VK} {E:XK} (e:H a=some (.tup (os.map optV))) (z:os.length≤20000) (q:Q (.bl (isf os)) H):sp_isf [.ref a] H Q E:=by unfold sp_isf; exact ⟨a,os,rfl,e,z,q⟩
section
variable {P:Program} {w:World} {K:PySem.W.Frag} {mg:Str→Option Value} {base:Heap} {c:Cl}
theorem ok_is_fraction {f:Addr} {fd:FuncData} (F:Fun K "is_fraction" "is_fraction" s_is_fraction f fd) (T:Txt K mg c) (F_is_whole:FnC CX0 P w K mg base 1 "is_whole" ["thing"] sp_whole) (F_common_divisor:FnC CX0 P w K mg base 1 "common_divisor" ["number", "above_nought"] sp_cd):FnOk P w K mg base CX0 2 f fd ["thing"] sp_isf:=by
  refine F.okw sc_is_fraction (fun vs H Q E h=>?_) (fun cdv A outer s H vs Q E hr h=>?_)
  · unfold sp_isf at h
    obtain ⟨t,_,rfl,_⟩:=h
    rfl
  · unfold sp_isf at h
    obtain ⟨a,os,rfl,e,z,q⟩:=h
    have rp:Rep H (.tuple (os.map optD)) (.ref a):=Rep.tup e (by
      clear e q z
      induction os with
      | nil=>exact RepL.nil
      | cons o r ih=>exact RepL.cons (optR o) ih)
    refine ⟨_,(wss_cons (ws_if (wt_w (ww_or (wt_not (wt_val (we_cB cl_isi (by rfl) T.b_isinstance (by decide +kernel) (wa_k (we_v 0) (wa_k (we_bltn (v:=.ty "tuple") (u:=.type "tuple") rfl T.b_tuple (by decide +kernel) rfl) wa_nil))))) (ww_or1 (wt_cmp op_ne (we_cB cl_len (by rfl) T.b_len (by decide +kernel) (wa_k (we_v 0) wa_nil)) we_int (nomark _))))) (wss_one (ws_ret we_bl)) wss_nil)
      (wss_cons (ws_if (wt_w (ww_or (wt_not (wt_val (we_fn F_is_whole (hr.mono (by decide)) (wa_k (we_ix ix_seq (we_v 0) we_int (fun _ _=>rfl)) wa_nil)))) (ww_or1 (wt_not (wt_val (we_fn F_is_whole (hr.mono (by decide)) (wa_k (we_ix ix_seq (we_v 0) we_int (fun _ _=>rfl)) wa_nil))))))) (wss_one (ws_ret we_bl)) wss_nil)
      (wss_one (ws_ret (we_and (we_cmp op_ge (we_ix ix_seq (we_v 0) we_int (fun _ _=>rfl)) we_int (nomark _)) (we_one (we_cmp op_eq (we_fn F_common_divisor (hr.mono (by decide)) (wa_k (we_ix ix_seq (we_v 0) we_int (fun _ _=>rfl)) (wa_k (we_ix ix_seq (we_v 0) we_int (fun _ _=>rfl)) wa_nil))) we_int (nomark _)))))))),?_⟩
    refine ⟨_,rfl,?_⟩
    refine riI rp ?_
    refine ⟨_,rfl,?_⟩
    refine iteF ?_
    refine ⟨_,rfl,?_⟩
    refine rlT e ?_
    refine ⟨rfl,_,rfl,?_⟩
    by_cases hl:os.length=2
    · match os,hl with
      | [o1,o2],_ =>
      refine iteF ?_
      refine ⟨_,rfl,?_⟩
      refine ixT e rfl ?_
      refine sp_whole_i ?_
      refine ⟨_,rfl,?_⟩
      cases o1 with
      | none =>
        refine iteT ?_
        refine iteT ?_
        exact q
      | some n =>
        refine iteF ?_
        refine ⟨_,rfl,?_⟩
        refine ixT e rfl ?_
        refine sp_whole_i ?_
        refine ⟨_,rfl,?_⟩
        cases o2 with
        | none =>
          refine iteT ?_
          exact q
        | some d =>
          refine iteF ?_
          refine ⟨_,rfl,?_⟩
          refine ixT e rfl ?_
          refine ⟨_,_,rfl,rfl,_,rfl,?_⟩
          have eq:isf [some n,some d]=(decide (1≤d)&&decide (Int.gcd n d=1)):=rfl
          rw [eq] at q
          refine iteD (fun h1=>?_) (fun h1=>?_)
          · rw [decide_eq_true h1,Bool.true_and] at q
            refine ⟨_,rfl,?_⟩
            refine ixT e rfl ?_
            refine ⟨_,rfl,?_⟩
            refine ixT e rfl ?_
            refine sp_cd_i (by omega) ?_
            refine ⟨rfl,?_⟩
            have:decide (V.int (Int.gcd n d:Int)=V.int 1)=decide (Int.gcd n d=1):=decide_eq_decide.mpr ⟨fun z=>by injection z with z; omega,fun z=>by rw [z]; rfl⟩
            rw [this]
            exact q
          · rw [decide_eq_false h1,Bool.false_and] at q
            exact q
    · rw [decide_eq_false (fun z=>hl (by injection z with z; rw [List.length_map] at z; omega))]
      refine iteT ?_
      rw [isf_len hl] at q
      exact q
end
def rdF:List (Option Int)→Option Fr
  | [some n]=>some (n,1)
  | [some n,some d]=>if (!decide (d=1)&&isf [some n,some d])=true then some (n,d) else none
  | _=>none
def words (t:Str):List Str:=Txt.split t sl
def rdT (t:Str):Option Fr:=rdF ((words t).map rd)
@[irreducible] def sp_readf (C:Addr):Sp:=fun vs H Q E=>∃ t,vs=[.str t]∧t.length≤10000∧(rdT t=none→∀ H',Same H H'→E (.ref C) none H')∧(∀ g,rdT t=some g→∀ a H',H' a=some (.tup [.int g.1,.int g.2])→Same H H'→Q (.ref a) H')
theorem sp_readf_i {C:Addr} {t:Str} {H:Hp} {Q:VK} {E:XK} (z:t.length≤10000) (e:rdT t=none→∀ H',Same H H'→E (.ref C) none H') (q:∀ g,rdT t=some g→∀ a H',H' a=some (.tup [.int g.1,.int g.2])→Same H H'→Q (.ref a) H'):sp_readf C [.str t] H Q E:=by
  unfold sp_readf; exact ⟨t,rfl,z,e,q⟩
theorem words_len (t:Str):(words t).length≤t.length+2:=PyProof.Rows.split_le t sl
theorem opts_of {ws:List Str} {ys:List V} (hl:ys.length=ws.length) (h:∀ (i:Nat) (y:V),ys[i]?=some y→∃ u,ws[i]?=some u∧y=optV (rd u)):ys=(ws.map rd).map optV:=by
  refine List.ext_getElem? fun i=>?_
  rw [List.getElem?_map,List.getElem?_map]
  cases q:ys[i]? with
  | none =>
    have:ws[i]?=none:=by
      rw [List.getElem?_eq_none_iff] at q ⊢
      omega
    rw [this]; rfl
  | some y =>
    obtain ⟨u,h1,h2⟩:=h i y q
    rw [h1,h2]; rfl
section
variable {P:Program} {w:World} {K:PySem.W.Frag} {mg:Str→Option Value} {base:Heap} {c:Cl}
set_option maxHeartbeats 4000000 in
theorem ok_read_fraction {f:Addr} {fd:FuncData} (F:Fun K "read_fraction" "read_fraction" s_read_fraction f fd) (T:Txt K mg c) (F_read_whole:FnC CX0 P w K mg base 2 "read_whole" ["text"] sp_readw) (F_is_fraction:FnC CX0 P w K mg base 2 "is_fraction" ["thing"] sp_isf) :
    FnOk P w K mg base (CX1 P w) 3 f fd ["text"] (sp_readf c.NoFraction):=by
  refine F.okx sc_read_fraction (fun vs H Q E h=>?_) (fun cdv A outer s H vs Q E hr h hx hmd=>?_)
  · unfold sp_readf at h
    obtain ⟨n,rfl,_⟩:=h
    rfl
  · unfold sp_readf at h
    obtain ⟨t,rfl,z,he,q⟩:=h
    have hw:=words_len t
    have hbl:∀ u∈words t,u.length≤20000:=fun u hu=>Nat.le_trans (part_len hu) (by omega)
    refine ⟨_,(wss_cons (ws_setComp (i:=1) (CScope.of (psc:=defScope s_read_fraction) (N:=["text", "numbers", "read"]) (N':=["part"]) (js:=[]) (by decide +kernel) rfl rfl rfl) sc_read_fraction.nd rfl rfl (wi_list (we_bm PySem.F.plainAttrs_str PySem.F.slot_str_split PySem.F.type_str_split mt_split (we_v 0) (wa_k we_str wa_nil))) (fun _ _ _ _=>wts_nil) (fun _ _ _ _=>(we_fn F_read_whole (hr.mono (by decide)) (wa_k (we_v 0) wa_nil))))
      (wss_cons (ws_cut (ws_if (wt_cmp op_eq (we_cB cl_len (by rfl) T.b_len (by decide +kernel) (wa_k (we_v 1) wa_nil)) we_int (nomark _)) (wss_one (ws_expr (we_bm PySem.F.plainAttrs_list PySem.F.slot_list_append PySem.F.type_list_append mt_app (we_v 1) (wa_k we_int wa_nil)))) (wss_one (ws_if (wt_cmp op_eq (we_ix ix_seq (we_v 1) we_int (fun _ _=>rfl)) we_int (nomark _)) (wss_one (ws_raise T.x_NoFraction T.g_NoFraction rfl hmd (wa_k we_str wa_nil))) wss_nil))))
      (wss_cons (ws_set (i:=2) sc_read_fraction.nd rfl (Or.inl rfl) (we_cT call_tuple_of (by rfl) T.b_tuple (by decide +kernel) (wa_k (we_v 1) wa_nil)))
      (wss_cons (ws_if (wt_not (wt_val (we_fn F_is_fraction (hr.mono (by decide)) (wa_k (we_v 2) wa_nil)))) (wss_one (ws_raise T.x_NoFraction T.g_NoFraction rfl hmd (wa_k we_str wa_nil))) wss_nil)
      (wss_one (ws_ret (we_v 2))))))),?_⟩
    refine ⟨_,rfl,rfl,?_⟩
    refine rsplit (by decide) (line20 (by omega)) (line20 (show (words t).length≤20000 by omega)) fun p1 H1 hp1 e1 s1=>?_
    have e1:H1 p1=some (.lst ((words t).map V.str)):=e1
    refine ⟨p1,rfl,⟨_,SqL.of e1⟩,?_⟩
    refine comp_map (xs:=(words t).map V.str) (fun i y=>∃ u,(words t)[i]?=some u∧y=optV (rd u)) (by rw [List.length_map]; omega) (SqL.of e1) ?_ ?_
    · intro i x H' Q' hx s' k
      rw [List.getElem?_map] at hx
      cases q3:(words t)[i]? with
      | none=>rw [q3] at hx; cases hx
      | some u =>
        rw [q3] at hx
        cases hx
        refine ⟨_,rfl,?_⟩
        exact sp_readw_i (hbl u (List.mem_of_getElem? q3)) fun H5 s5=>k _ H5 s5 ⟨u,q3,rfl⟩
    · intro D ys H2 hD e2 s2 hl hy
      have ey:=opts_of (by rw [hl,List.length_map]) hy
      subst ey
      have S2:=s1.trans s2
      generalize ho:(words t).map rd=os at e2
      have hos:rdT t=rdF os:=by unfold rdT; rw [ho]
      have hlo:os.length=(words t).length:=by rw [← ho,List.length_map]
      have hne:os≠[]:=fun e=>by
        rw [e] at hlo
        exact split_ne t (List.length_eq_zero_iff.mp hlo.symm)
      refine ⟨fun σ H'=>∃ os2:List (Option Int),σ=[some (.str t),some (.ref D),none]∧H' D=some (.lst (os2.map optV))∧Same H H'∧os2.length≤10010∧(isf os2=true→∃ n d,os2=[some n,some d]∧rdT t=some (n,d))∧(isf os2=false→rdT t=none),?_,?_⟩
      · rintro σ H3 ⟨os2,rfl,e3,s3,hl3,h1,h2⟩
        refine ⟨_,rfl,D,_,rfl,.inl ⟨SqL.of e3,fun l hl=>?_⟩⟩
        have e4:=upd_same (H:=H3) (a:=l) (o:=.tup (os2.map optV))
        have s4:=Same.upd (o:=.tup (os2.map optV)) hl
        generalize upd H3 l (.tup (os2.map optV))=H4 at e4 s4 ⊢
        refine ⟨_,rfl,?_⟩
        refine sp_isf_i e4 (by omega) ?_
        refine ⟨_,rfl,?_⟩
        cases hi:isf os2 with
        | true =>
          obtain ⟨n,d,eo,er⟩:=h1 hi
          refine iteF ?_
          refine ⟨_,rfl,?_⟩
          rw [eo] at e4
          exact q _ er l H4 e4 (s3.trans s4)
        | false =>
          refine iteT ?_
          exact ⟨by decide,he (h2 hi) H4 (s3.trans s4)⟩
      · refine ⟨_,rfl,?_⟩
        refine rlL e2 ?_
        refine ⟨rfl,_,rfl,?_⟩
        rw [List.length_map]
        match os,hne with
        | [o],_ =>
          refine iteT ?_
          refine ⟨_,rfl,tyL e2,?_⟩
          refine appL e2 (by simp) fun H3 e3 s3=>?_
          refine ⟨[o,some 1],rfl,e3,s1.trans (Same.thru hD s2 s3),by simp,?_,?_⟩
          · intro hi
            cases o with
            | none=>cases hi
            | some n=>exact ⟨n,1,rfl,by rw [hos]; rfl⟩
          · intro hi
            cases o with
            | none=>rw [hos]; rfl
            | some n =>
              have:isf [some n,some 1]=true:=by
                show (decide ((1:Int)≤1)&&decide (Int.gcd n 1=1))=true
                rw [Int.gcd_one_right]
                rfl
              rw [this] at hi
              cases hi
        | o1::o2::r,_ =>
          have hn1:¬ ((o1::o2::r).length:Int)=1:=by simp; omega
          rw [decide_eq_false (fun x=>hn1 (by injection x))]
          refine iteF ?_
          refine ⟨_,rfl,?_⟩
          refine ixL e2 (v:=optV o2) (atI_nat (j:=1) rfl) ?_
          have fin:o2≠some 1→∃ os2:List (Option Int),[some (V.str t),some (V.ref D),none]=[some (.str t),some (.ref D),none]∧H2 D=some (.lst (os2.map optV))∧Same H H2∧os2.length≤10010∧(isf os2=true→∃ n d,os2=[some n,some d]∧rdT t=some (n,d))∧(isf os2=false→rdT t=none):=by
            intro h2
            refine ⟨o1::o2::r,rfl,e2,S2,by rw [hlo]; omega,?_,?_⟩
            · intro hi
              cases o1 with
              | none=>cases hi
              | some n =>
                cases o2 with
                | none=>cases hi
                | some d =>
                  cases r with
                  | cons _ _=>cases hi
                  | nil =>
                    refine ⟨n,d,rfl,?_⟩
                    rw [hos]
                    show (if (!decide (d=1)&&isf [some n,some d])=true then some (n,d) else none)=_
                    rw [hi,decide_eq_false (fun x=>h2 (by rw [x]))]
                    rfl
            · intro hi
              rw [hos]
              cases o1 with
              | none=>cases r <;> rfl
              | some n =>
                cases o2 with
                | none=>cases r <;> rfl
                | some d =>
                  cases r with
                  | cons _ _=>rfl
                  | nil =>
                    show (if (!decide (d=1)&&isf [some n,some d])=true then some (n,d) else none)=_
                    rw [hi,Bool.and_false]
                    rfl
          have bad:o2=some 1→rdT t=none:=by
            intro h2
            rw [hos,h2]
            cases o1 with
            | none=>cases r <;> rfl
            | some n =>
              cases r with
              | cons _ _=>rfl
              | nil=>rfl
          cases o2 with
          | none =>
            refine ⟨rfl,_,rfl,?_⟩
            refine iteF ?_
            exact fin (by simp)
          | some d =>
            refine ⟨rfl,_,rfl,?_⟩
            refine iteD (fun h=>?_) (fun h=>?_)
            · have hd:d=1:=by injection h
              exact ⟨by decide,he (bad (by rw [hd])) H2 S2⟩
            · exact fin (fun x=>h (by injection x with x; rw [x]; rfl))
end
end Kw
set_option Elab.async false
set_option linter.all false
set_option maxRecDepth 100000
namespace L2
open PySem
section
variable {js:List Nat} {te:TE} {σ:St} {H:Hp} {Q:VK}
end
end L2
set_option Elab.async false
set_option linter.all false
set_option maxRecDepth 100000
namespace L2
open PySem
section
variable {X:Cx} {scope:Scope} {x1 x2 x3 y:Str} {N':List Str} {js:List Nat} {elt iter tg:Expr} {ifs:List Expr} {py pos spos:Pos} {tc:TT} {te:TE} {wi wj:TI} {i:Nat}
end
end L2
set_option Elab.async false
set_option linter.all false
set_option maxRecDepth 100000
namespace Kw
open PySem L2 Mf Mt
def bk:Str:=Str.ofString " "
theorem bk_cps:bk.cps.toList=[32]:=by decide +kernel
theorem cutB:∀ {p a s b:List Nat},32 ∉ p→32 ∉ a→p++32::s=a++32::b→p=a∧s=b
  | [],[],_,_,_,_,e=>by injection e with _ e; exact ⟨rfl,e⟩
  | [],x::a,_,_,_,ha,e=>by injection e with e _; exact absurd (by rw [e]; exact List.mem_cons_self) ha
  | y::p,[],_,_,hp,_,e=>by injection e with e _; exact absurd (by rw [← e]; exact List.mem_cons_self) hp
  | y::p,x::a,s,b,hp,ha,e=>by
    injection e with e1 e2
    obtain ⟨h1,h2⟩:=cutB (fun z=>hp (List.mem_cons_of_mem _ z)) (fun z=>ha (List.mem_cons_of_mem _ z)) e2
    exact ⟨by rw [e1,h1],h2⟩
theorem joinB (p q:Str) (r:List Str):(Str.join bk (p::q::r)).cps.toList=p.cps.toList++32::(Str.join bk (q::r)).cps.toList:=by
  show (p++bk++Str.join bk (q::r)).cps.toList=_
  rw [app_cps,app_cps,bk_cps]
  simp
theorem join_inj:∀ {a b:List Str},a≠[]→b≠[]→(∀ p∈a,32 ∉ p.cps.toList)→(∀ p∈b,32 ∉ p.cps.toList)→(Str.join bk a).cps.toList=(Str.join bk b).cps.toList→a=b
  | [],_,h,_,_,_,_=>absurd rfl h
  | _,[],_,h,_,_,_=>absurd rfl h
  | [x],[y],_,_,_,_,e=>by rw [str_ext (show x.cps.toList=y.cps.toList from e)]
  | [x],y::z::r,_,_,ha,_,e=>by
    rw [joinB] at e
    exact absurd (show 32∈x.cps.toList by rw [show x.cps.toList=_ from e]; simp) (ha x (by simp))
  | x::u::r,[y],_,_,_,hb,e=>by
    rw [joinB] at e
    exact absurd (show 32∈y.cps.toList by rw [show y.cps.toList=_ from e.symm]; simp) (hb y (by simp))
  | x::u::r,y::z::t,_,_,ha,hb,e=>by
    rw [joinB,joinB] at e
    obtain ⟨e1,e2⟩:=cutB (ha x (by simp)) (hb y (by simp)) e
    rw [str_ext e1,join_inj (a:=u::r) (b:=z::t) (by simp) (by simp) (fun p hp=>ha p (List.mem_cons_of_mem _ hp)) (fun p hp=>hb p (List.mem_cons_of_mem _ hp)) e2]
theorem join_is (ts:List Str):Txt.join bk ts=Str.join bk ts:=by unfold Txt.join; rw [StrLaws.glued_eq_join]
theorem split_back {ts:List Str} (hn:ts≠[]) (hf:∀ p∈ts,32 ∉ p.cps.toList):Txt.split (Txt.join bk ts) bk=ts:=by
  rw [join_is]
  refine join_inj ?_ hn ?_ hf ?_
  · intro h
    have:=PyProof.Rows.split_pos (Str.join bk ts) bk
    rw [h] at this
    exact absurd this (by decide)
  · have e:bk=⟨#[32]⟩:=str_ext bk_cps
    rw [e]
    exact StrLaws.split_free _ 32
  · rw [StrLaws.join_split]
def TT (f:Fr):Str:=if f.2=1 then tx f.1 else tx f.1++sl++tx f.2
theorem tx_blank {n:Int} (x:Nat) (hx:x<45):x ∉ (tx n).cps.toList:=by
  intro h
  rcases Int.lt_or_le n 0 with hn | hn
  · obtain ⟨m,rfl⟩:∃ m:Nat,n=-((m+1:Nat):Int):=⟨(-n - 1).toNat,by omega⟩
    rw [tx_neg] at h
    rcases List.mem_cons.mp h with h | h
    · omega
    · have:=dg_all _ x h; omega
  · obtain ⟨m,rfl⟩:=Int.eq_ofNat_of_zero_le hn
    rw [tx_nat] at h
    have:=dg_all _ x h
    omega
theorem TT_free (f:Fr):32 ∉ (TT f).cps.toList:=by
  unfold TT
  split
  · exact tx_blank 32 (by decide)
  · rw [app_cps,app_cps]
    intro h
    rcases List.mem_append.mp h with h | h
    · rcases List.mem_append.mp h with h | h
      · exact tx_blank 32 (by decide) h
      · exact absurd h (by decide)
    · exact tx_blank 32 (by decide) h
theorem sumlen {B:Nat}:∀ {ts:List Str},(∀ t∈ts,t.length≤B)→(ts.map (·.length)).sum≤B*ts.length
  | [],_=>by simp
  | t::ts,h=>by
    have h1:=sumlen fun u hu=>h u (List.mem_cons_of_mem _ hu)
    have h2:=h t (by simp)
    rw [List.map_cons,List.sum_cons,List.length_cons,Nat.mul_add]; omega
theorem join_len:∀ (ts:List Str),(Str.join bk ts).length≤(ts.map (·.length)).sum+ts.length
  | []=>by decide
  | [x]=>by show x.length≤_; simp
  | x::y::r=>by
    have ih:=join_len (y::r)
    rw [← len_toList,joinB,List.length_append,List.length_cons,len_toList,len_toList]
    rw [List.map_cons,List.sum_cons,List.length_cons]
    omega
theorem tx_lenG {n:Int} (h:n.natAbs<10^50):(tx n).length≤51:=by
  unfold tx
  rw [PySem.ofString_length]
  exact Nat.le_trans (int_text_length_le10 (k:=50) (by decide) h) (by decide)
structure FrT (f:Fr):Prop where
  low:LowF f
  n:f.1.natAbs<10^50
  d:f.2.natAbs<10^50
theorem TT_len {f:Fr} (h:FrT f):(TT f).length≤103:=by
  have a1:=tx_lenG h.n
  have a2:=tx_lenG h.d
  have e:sl.length=1:=rfl
  unfold TT
  split
  · omega
  · rw [app_len,app_len,e]; omega
def wOn:Str:=Str.ofString "on"
def wSay:Str:=Str.ofString "say"
def wRule:Str:=Str.ofString "rule"
def wdE (e:Ent):List Str:=wOn::(e.1.map tx++wSay::e.2.map TT)
structure EnT (F W:Nat) (e:Ent):Prop where
  c:e.1.length=F
  s:e.2.length=1+W
  n:∀ x∈e.1,0≤x∧x.natAbs<10^50
  f:∀ f∈e.2,FrT f
theorem wdE_len {F W:Nat} {e:Ent} (h:EnT F W e) (f4:F≤4) (w4:W≤4):(wdE e).length≤11∧∀ p∈wdE e,p.length≤103:=by
  have h1:=h.c
  have h2:=h.s
  refine ⟨by unfold wdE; simp only [List.length_cons,List.length_append,List.length_map]; omega,fun p hp=>?_⟩
  rcases List.mem_cons.mp hp with rfl | hp
  · decide +kernel
  rcases List.mem_append.mp hp with hp | hp
  · obtain ⟨x,hx,rfl⟩:=List.mem_map.mp hp
    have:=tx_lenG (h.n x hx).2
    omega
  rcases List.mem_cons.mp hp with rfl | hp
  · decide +kernel
  · obtain ⟨x,hx,rfl⟩:=List.mem_map.mp hp
    exact TT_len (h.f x hx)
theorem join_ok {ts:List Str} (h1:ts.length≤11) (h2:∀ p∈ts,p.length≤103):(ts.map (·.length)).sum+ts.length*bk.length≤16777216:=by
  have h3:=sumlen h2
  have e:bk.length=1:=by decide +kernel
  rw [e]; omega
theorem line_len {ts:List Str} (h1:ts.length≤11) (h2:∀ p∈ts,p.length≤103):(Txt.join bk ts).length≤1200:=by
  rw [join_is]
  have h3:=sumlen h2
  have:=join_len ts
  omega
theorem tup_at {H:Hp} {ds:List PyData} {v:V} (h:Rep H (.tuple ds) v):∃ a xs,v=.ref a∧H a=some (.tup xs)∧RepL H ds xs:=by unfold Rep at h; exact h
theorem RepL_two {H:Hp} {d e:PyData} {xs:List V} (h:RepL H [d,e] xs):∃ x y,xs=[x,y]∧Rep H d x∧Rep H e y:=by
  unfold RepL RepL RepL at h
  obtain ⟨x,_,rfl,h1,y,_,rfl,h2,rfl⟩:=h
  exact ⟨x,y,rfl,h1,h2⟩
theorem reps_get {α:Type} {H:Hp} {g:α→PyData} {fs:List α} {vs:List V} (h:RepL H (fs.map g) vs) {i:Nat} {v:V} (e:vs[i]?=some v):∃ f,fs[i]?=some f∧Rep H (g f) v:=by
  obtain ⟨d,h1,h2⟩:=h.get e
  rw [List.getElem?_map] at h1
  cases q:fs[i]? with
  | none=>rw [q] at h1; cases h1
  | some f=>rw [q] at h1; cases h1; exact ⟨f,rfl,h2⟩
theorem reps_get' {α:Type} {H:Hp} {g:α→PyData} {fs:List α} {vs:List V} (h:RepL H (fs.map g) vs) {i:Nat} {f:α} (e:fs[i]?=some f):∃ v,vs[i]?=some v∧Rep H (g f) v :=
  h.get' (by rw [List.getElem?_map,e]; rfl)
theorem reps_len {α:Type} {H:Hp} {g:α→PyData} {fs:List α} {vs:List V} (h:RepL H (fs.map g) vs):vs.length=fs.length:=by rw [h.len,List.length_map]
theorem take_snoc {α:Type} {l:List α} {i:Nat} {x:α} (h:l[i]?=some x):l.take (i+1)=l.take i++[x]:=by
  rw [List.take_add_one,h]; rfl
abbrev s__law_shown:Stmt:=(top 46)
theorem sc__law_shown:FnScope ["_law_one"] ["_law_one"] (defScope s__law_shown):=⟨rfl,rfl,rfl,by decide +kernel,rfl,by decide +kernel,by decide +kernel⟩
theorem cnts_at {H:Hp} {ns:List Int} {v:V} (h:Rep H (ctD ns) v):∃ a,v=.ref a∧H a=some (.tup (ns.map V.int)):=cD_rep h
theorem strs_of_map {α:Type} {l:List α} {f:α→Str} {ys:List V} (hl:ys.length=l.length) (h:∀ (i:Nat) (y:V),ys[i]?=some y→∃ x,l[i]?=some x∧y=.str (f x)):ys=(l.map f).map V.str:=by
  refine List.ext_getElem? fun i=>?_
  rw [List.getElem?_map,List.getElem?_map]
  by_cases z:i<ys.length
  · obtain ⟨x,h1,h2⟩:=h i _ (List.getElem?_eq_getElem z)
    rw [List.getElem?_eq_getElem z,h2,h1]; rfl
  · rw [List.getElem?_eq_none (by omega),List.getElem?_eq_none (by omega)]; rfl
@[irreducible] def sp_lsn:Sp:=fun vs H Q _=>∃ (v:V) (f:Fr),vs=[v]∧Rep H (frD f) v∧FrT f∧∀ H',Same H H'→Q (.str (TT f)) H'
theorem sp_lsn_i {H:Hp} {Q:VK} {E:XK} {v:V} {f:Fr} (h1:Rep H (frD f) v) (h2:FrT f) (k:∀ H',Same H H'→Q (.str (TT f)) H'):sp_lsn [v] H Q E:=by
  unfold sp_lsn; exact ⟨v,f,rfl,h1,h2,k⟩
theorem ints_ex {P:Int→Prop}:∀ {ys:List V},(∀ (i:Nat) (y:V),ys[i]?=some y→∃ x,y=.int x∧P x)→∃ ns:List Int,ys=ns.map V.int∧∀ x∈ns,P x
  | [],_=>⟨[],rfl,fun f hf=>by cases hf⟩
  | y::ys,h=>by
    obtain ⟨x,rfl,h2⟩:=h 0 y rfl
    obtain ⟨ns,rfl,g3⟩:=ints_ex (ys:=ys) fun i y hy=>h (i+1) y (by simpa using hy)
    exact ⟨x::ns,rfl,fun g hg=>by
      rcases List.mem_cons.mp hg with rfl | hg
      · exact h2
      · exact g3 g hg⟩
theorem p4300 {x:Int} (h:x.natAbs<10^50):x.natAbs<10^4300:=Nat.lt_of_lt_of_le h (Nat.pow_le_pow_right (by decide) (by decide))
section
variable {P:Program} {w:World} {K:PySem.W.Frag} {mg:Str→Option Value} {base:Heap} {c:Cl}
theorem ok__law_shown {f:Addr} {fd:FuncData} (F:Fun K "_law_shown" "_law_shown" s__law_shown f fd) (T:Txt K mg c):FnOk P w K mg base CX0 1 f fd ["_law_one"] sp_lsn:=by
  refine F.okw sc__law_shown (fun vs H Q E h=>?_) (fun cdv A outer s H vs Q E hr h=>?_)
  · unfold sp_lsn at h
    obtain ⟨v,f,rfl,_⟩:=h
    rfl
  · unfold sp_lsn at h
    obtain ⟨v,f,rfl,rv,ft,k⟩:=h
    obtain ⟨a,rfl,ha⟩:=frD_at rv
    refine ⟨_,(wss_cons (ws_if (wt_cmp op_eq (we_ix ix_seq (we_v 0) we_int (fun _ _=>rfl)) we_int (nomark _)) (wss_one (ws_ret (we_cT (cl_strI rfl T.nd) (by rfl) T.b_str (by decide +kernel) (wa_k (we_ix ix_seq (we_v 0) we_int (fun _ _=>rfl)) wa_nil)))) wss_nil)
      (wss_one (ws_ret (we_op op_add_str (we_op op_add_str (we_cT (cl_strI rfl T.nd) (by rfl) T.b_str (by decide +kernel) (wa_k (we_ix ix_seq (we_v 0) we_int (fun _ _=>rfl)) wa_nil)) we_str) (we_cT (cl_strI rfl T.nd) (by rfl) T.b_str (by decide +kernel) (wa_k (we_ix ix_seq (we_v 0) we_int (fun _ _=>rfl)) wa_nil)))))),?_⟩
    refine ⟨_,rfl,?_⟩
    refine ixT ha rfl ?_
    refine ⟨rfl,_,rfl,?_⟩
    refine iteD (fun hl=>?_) (fun hl=>?_)
    · have hd:f.2=1:=by injection hl
      refine ⟨_,rfl,?_⟩
      refine ixT ha rfl ?_
      refine rstrI (p4300 ft.n) ?_
      have:=k H (Same.refl _)
      unfold TT at this
      rw [if_pos hd] at this
      exact this
    · have hd:¬ f.2=1:=fun z=>hl (by rw [z])
      refine ⟨_,rfl,?_⟩
      refine ixT ha rfl ?_
      refine rstrI (p4300 ft.n) ?_
      refine ⟨_,_,rfl,rfl,?_,?_⟩
      · have:=tx_lenG ft.n
        exact line20 (show (tx f.1).length+(Str.ofString "/").length≤20000 by rw [show (Str.ofString "/").length=1 by decide +kernel]; omega)
      refine ⟨_,rfl,?_⟩
      refine ixT ha rfl ?_
      refine rstrI (p4300 ft.d) ?_
      refine ⟨_,_,rfl,rfl,?_,?_⟩
      · have h1:=tx_lenG ft.n
        have h2:=tx_lenG ft.d
        exact line20 (show (tx f.1++Str.ofString "/").length+(tx f.2).length≤20000 by rw [app_len,show (Str.ofString "/").length=1 by decide +kernel]; omega)
      have:=k H (Same.refl _)
      unfold TT at this
      rw [if_neg hd] at this
      exact this
end
end Kw
set_option Elab.async false
set_option linter.all false
set_option maxRecDepth 100000
namespace HT
open PySem PySem.W PyProof.Rows
section
variable {prog:Program} {w:World} {A:Around} {E:Value→Shared→Prop} {s:Shared}
end
end HT
namespace L2
open PySem PySem.Spec PyProof.Rows
section
variable {X:Cx} {e st:Expr} {te ts:TE} {pos p2:Pos}
end
end L2
set_option Elab.async false
set_option linter.all false
set_option maxRecDepth 100000
namespace Kw
open PySem L2 Mf Mt
abbrev s_read_counts:Stmt:=(top 23)
theorem sc_read_counts:FnScope ["words", "many", "numbers"] ["words", "many"] (defScope s_read_counts):=⟨rfl,rfl,rfl,by decide +kernel,rfl,by decide +kernel,by decide +kernel⟩
abbrev s_read_fractions:Stmt:=(top 24)
theorem sc_read_fractions:FnScope ["words", "many"] ["words", "many"] (defScope s_read_fractions):=⟨rfl,rfl,rfl,by decide +kernel,rfl,by decide +kernel,by decide +kernel⟩
def geB:Option Int→Bool
  | some n=>decide (0≤n)
  | none=>false
def rdC (ts:List Str) (m:Nat):Option (List Int):=if ts.length=m∧(ts.map rd).all geB=true then some ((ts.map rd).map fun o=>o.getD 0) else none
def OptR (H:Hp) (o:Option PyData) (v:V):Prop:=match o with
  | none=>v=.non
  | some d=>Rep H d v
@[irreducible] def sp_rdcG:Sp:=fun vs H Q _=>∃ (a:Addr) (ts:List Str) (m:Nat),vs=[.ref a,.int (m:Int)]∧H a=some (.lst (ts.map V.str))∧ts.length≤1000∧(∀ t∈ts,t.length≤20000)∧∀ v H',Same H H'→OptR H' ((rdC ts m).map ctD) v→Q v H'
theorem sp_rdcG_i {H:Hp} {Q:VK} {E:XK} {a:Addr} {ts:List Str} {m:Nat} (h1:H a=some (.lst (ts.map V.str))) (h2:ts.length≤1000) (h3:∀ t∈ts,t.length≤20000) (k:∀ v H',Same H H'→OptR H' ((rdC ts m).map ctD) v→Q v H'):sp_rdcG [.ref a,.int (m:Int)] H Q E:=by
  unfold sp_rdcG; exact ⟨a,ts,m,rfl,h1,h2,h3,k⟩
theorem vals_map {α β:Type} {l:List α} {g:α→β} {f:β→V} {ys:List V} (hl:ys.length=l.length) (h:∀ (i:Nat) (y:V),ys[i]?=some y→∃ x,l[i]?=some x∧y=f (g x)):ys=(l.map g).map f:=by
  refine List.ext_getElem? fun i=>?_
  rw [List.getElem?_map,List.getElem?_map]
  by_cases z:i<ys.length
  · obtain ⟨x,h1,h2⟩:=h i _ (List.getElem?_eq_getElem z)
    rw [List.getElem?_eq_getElem z,h2,h1]; rfl
  · rw [List.getElem?_eq_none (by omega),List.getElem?_eq_none (by omega)]; rfl
theorem ints_rep {H:Hp}:∀ ns:List Int,RepL H (ns.map PyData.int) (ns.map V.int)
  | []=>RepL.nil
  | n::ns=>RepL.cons (Rep.int n) (ints_rep ns)
theorem opts_ints:∀ {os:List (Option Int)},os.all geB=true→os.map optV=(os.map fun o=>o.getD 0).map V.int
  | [],_=>rfl
  | none::os,h=>by rw [List.all_cons] at h; cases h
  | some n::os,h=>by
    rw [List.all_cons,Bool.and_eq_true] at h
    rw [List.map_cons,List.map_cons,List.map_cons,opts_ints h.2]; rfl
section
variable {P:Program} {w:World} {K:PySem.W.Frag} {mg:Str→Option Value} {base:Heap} {c:Cl}
theorem ok_read_counts {f:Addr} {fd:FuncData} (F:Fun K "read_counts" "read_counts" s_read_counts f fd) (T:Txt K mg c) (F_read_whole:FnC CX0 P w K mg base 2 "read_whole" ["text"] sp_readw):FnOk P w K mg base CX0 3 f fd ["words", "many"] sp_rdcG:=by
  refine F.okw sc_read_counts (fun vs H Q E h=>?_) (fun cdv A outer s H vs Q E hr h=>?_)
  · unfold sp_rdcG at h
    obtain ⟨a,ts,m,rfl,_⟩:=h
    rfl
  · unfold sp_rdcG at h
    obtain ⟨a,ts,m,rfl,ha,h4,hz,k⟩:=h
    refine ⟨_,(wss_cons (ws_setComp (i:=2) (CScope.of (psc:=defScope s_read_counts) (N:=["words", "many", "numbers"]) (N':=["word"]) (js:=[]) (by decide +kernel) rfl rfl rfl) sc_read_counts.nd rfl rfl (wi_list (we_v 0)) (fun _ _ _ _=>wts_nil) (fun _ _ _ _=>(we_fn F_read_whole (hr.mono (by decide)) (wa_k (we_v 0) wa_nil))))
      (wss_cons (ws_if (wt_mono (wt_w (ww_or (wt_cmp op_ne (we_cB cl_len (by rfl) T.b_len (by decide +kernel) (wa_k (we_v 2) wa_nil)) (we_v 1) (nomark _)) (ww_or1 (wt_not (wt_val (we_cB (cl_all rfl) (by rfl) T.b_all (by decide +kernel) (wa_k (we_comp (CScope.of (psc:=defScope s_read_counts) (N:=["words", "many", "numbers"]) (N':=["number"]) (js:=[]) (by decide +kernel) rfl rfl rfl) (wi_list (we_v 2)) (fun _ _ _ _=>wts_nil) (fun _ _ _ _=>(we_and (we_cmp op_notN (we_v 0) we_non (nomark _)) (we_one (we_cmp op_ge (we_v 0) we_int (nomark _)))))) wa_nil)))))))) (wss_one (ws_ret we_non)) wss_nil)
      (wss_one (ws_ret (we_cT call_tuple_of (by rfl) T.b_tuple (by decide +kernel) (wa_k (we_v 2) wa_nil)))))),?_⟩
    refine ⟨_,rfl,a,rfl,⟨_,SqL.of ha⟩,?_⟩
    refine comp_mapL (fun i y _=>∃ x,ts[i]?=some x∧y=optV (rd x)) (fun _ _ _ _ _ h=>h) (by rw [List.length_map]; omega) ha (fun i y H' Q' hy s' k'=>?_) (fun D ys H1 hD e1 s1 hy hr1=>?_)
    · rw [List.getElem?_map] at hy
      obtain ⟨x,hx,rfl⟩:=Option.map_eq_some_iff.mp hy
      refine ⟨_,rfl,?_⟩
      exact sp_readw_i (hz x (List.mem_of_getElem? hx)) fun H2 s2=>k' _ H2 s2 ⟨x,hx,rfl⟩
    rw [List.length_map] at hy
    have ey:=vals_map (g:=rd) (f:=optV) hy hr1
    subst ey
    refine ⟨fun b H'=>Same H1 H'∧b=(rdC ts m).isNone,?_,?_⟩
    · refine ⟨_,rfl,?_⟩
      refine rlL e1 ?_
      rw [List.length_map,List.length_map]
      refine ⟨_,rfl,rfl,_,rfl,?_⟩
      by_cases hm:ts.length=m
      · refine iteFe (by simp [hm]) ?_
        refine ⟨_,rfl,D,rfl,⟨_,SqL.of e1⟩,?_⟩
        refine comp_mapL (fun i y _=>∃ x,ts[i]?=some x∧y=.bl (geB (rd x))) (fun _ _ _ _ _ h=>h) (by rw [List.length_map,List.length_map]; omega) e1 (fun i y H' Q' hy s' k'=>?_) (fun D2 ys H2 hD2 e2 s2 hy2 hr2=>?_)
        · rw [List.getElem?_map,List.getElem?_map] at hy
          obtain ⟨o,ho,rfl⟩:=Option.map_eq_some_iff.mp hy
          obtain ⟨x,hx,rfl⟩:=Option.map_eq_some_iff.mp ho
          refine ⟨_,rfl,rfl,?_⟩
          refine ⟨_,rfl,?_⟩
          cases hrd:rd x with
          | none =>
            refine iteFe (by simp [optV]) ?_
            exact k' _ H' (Same.refl _) ⟨x,hx,by rw [hrd]; rfl⟩
          | some n =>
            refine iteTe (by simp [optV]) ?_
            refine ⟨_,rfl,_,_,rfl,rfl,?_⟩
            exact k' _ H' (Same.refl _) ⟨x,hx,by rw [hrd]; rfl⟩
        rw [List.length_map,List.length_map] at hy2
        have ey:=vals_map (g:=fun x=>geB (rd x)) (f:=V.bl) hy2 hr2
        subst ey
        refine rall e2 ?_
        refine ⟨_,rfl,s2,?_⟩
        unfold rdC
        have ea:(ts.map fun x=>geB (rd x)).all id=(ts.map rd).all geB:=by rw [List.all_map,List.all_map]; rfl
        rw [ea]
        by_cases h:(ts.map rd).all geB=true
        · rw [if_pos ⟨hm,h⟩,h]; rfl
        · rw [if_neg fun z=>h z.2,Bool.eq_false_iff.mpr h]; rfl
      · refine iteTe (by simp; omega) ⟨Same.refl _,?_⟩
        unfold rdC
        rw [if_neg fun z=>hm z.1]; rfl
    rintro b H2 ⟨s2,rfl⟩
    cases h:rdC ts m with
    | none =>
      refine iteTe rfl ?_
      exact k .non H2 (s1.trans s2) (by rw [h]; rfl)
    | some ns =>
      refine iteFe rfl ?_
      refine ⟨_,rfl,?_⟩
      refine ⟨D,_,rfl,.inl ⟨SqL.of (s2 _ _ e1),fun l hl=>?_⟩⟩
      have hn:ts.length=m∧(ts.map rd).all geB=true:=by
        unfold rdC at h
        by_cases z:ts.length=m∧(ts.map rd).all geB=true
        · exact z
        · rw [if_neg z] at h; cases h
      have hns:ns=(ts.map rd).map fun o=>o.getD 0:=by
        unfold rdC at h
        rw [if_pos hn] at h
        cases h; rfl
      refine k _ _ ((s1.trans s2).trans (Same.upd hl)) ?_
      rw [h]
      show Rep _ (ctD ns) _
      refine Rep.tup upd_same ?_
      rw [opts_ints hn.2,← hns]
      exact ints_rep ns
end
def rdS (ts:List Str):Option (List Fr):=ts.mapM rdT
def rdFs (ts:List Str) (m:Nat):Option (List Fr):=if ts.length=m then rdS ts else none
@[irreducible] def sp_rdfG:Sp:=fun vs H Q _=>∃ (a:Addr) (ts:List Str) (m:Nat),vs=[.ref a,.int (m:Int)]∧H a=some (.lst (ts.map V.str))∧ts.length≤1000∧(∀ t∈ts,t.length≤10000)∧∀ v H',Same H H'→OptR H' ((rdFs ts m).map shD) v→Q v H'
theorem sp_rdfG_i {H:Hp} {Q:VK} {E:XK} {a:Addr} {ts:List Str} {m:Nat} (h1:H a=some (.lst (ts.map V.str))) (h2:ts.length≤1000) (h3:∀ t∈ts,t.length≤10000) (k:∀ v H',Same H H'→OptR H' ((rdFs ts m).map shD) v→Q v H'):sp_rdfG [.ref a,.int (m:Int)] H Q E:=by
  unfold sp_rdfG; exact ⟨a,ts,m,rfl,h1,h2,h3,k⟩
theorem rdS_none {ts:List Str} {t:Str} (h:t∈ts) (e:rdT t=none):rdS ts=none:=by
  unfold rdS
  induction ts with
  | nil=>cases h
  | cons u r ih =>
    rw [List.mapM_cons]
    rcases List.mem_cons.mp h with rfl | h
    · rw [e]; rfl
    · cases rdT u with
      | none=>rfl
      | some g=>rw [ih h]; rfl
theorem rdS_some {ts:List Str} (h:∀ t∈ts,(rdT t).isSome=true):rdS ts=some (ts.map fun t=>(rdT t).getD (0,1)):=by
  unfold rdS
  induction ts with
  | nil=>rfl
  | cons u r ih =>
    rw [List.mapM_cons,ih fun t ht=>h t (List.mem_cons_of_mem _ ht)]
    obtain ⟨g,hg⟩:=Option.isSome_iff_exists.mp (h u List.mem_cons_self)
    rw [hg,List.map_cons,hg]; rfl
theorem reps_of {α:Type} {H:Hp} {g:α→PyData}:∀ {fs:List α} {ys:List V},ys.length=fs.length→(∀ (i:Nat) (y:V),ys[i]?=some y→∃ f,fs[i]?=some f∧Rep H (g f) y)→RepL H (fs.map g) ys
  | [],[],_,_=>RepL.nil
  | [],y::ys,hl,_=>by simp at hl
  | f::fs,[],hl,_=>by simp at hl
  | f::fs,y::ys,hl,h=>by
    obtain ⟨f',h1,h2⟩:=h 0 y rfl
    cases h1
    exact RepL.cons h2 (reps_of (by simpa using hl) fun i y hy=>h (i+1) y (by simpa using hy))
theorem wi_listK {X:Cx} {l tg:Expr} {tl:TE} (K:PySem.W.Frag) (hl:PEw X l tl) (hK:X.K=K:=by rfl):PIw X tg l (iList K tl):=by subst hK; exact wi_list hl
section
variable {P:Program} {w:World} {K:PySem.W.Frag} {mg:Str→Option Value} {base:Heap} {c:Cl}
theorem ok_read_fractions {f:Addr} {fd:FuncData} (F:Fun K "read_fractions" "read_fractions" s_read_fractions f fd) (T:Txt K mg c) (F_read_fraction:FnC (CX1 P w) P w K mg base 3 "read_fraction" ["text"] (sp_readf c.NoFraction)):FnOk P w K mg base CX0 4 f fd ["words", "many"] sp_rdfG:=by
  refine F.okw sc_read_fractions (fun vs H Q E h=>?_) (fun cdv A outer s H vs Q E hr h=>?_)
  · unfold sp_rdfG at h
    obtain ⟨a,ts,m,rfl,_⟩:=h
    rfl
  · unfold sp_rdfG at h
    obtain ⟨a,ts,m,rfl,ha,h5,hz,k⟩:=h
    refine ⟨_,(wss_cons (ws_if (wt_cmp op_ne (we_cB cl_len (by rfl) T.b_len (by decide +kernel) (wa_k (we_v 0) wa_nil)) (we_v 1) (nomark _)) (wss_one (ws_ret we_non)) wss_nil)
      (wss_one (ws_tryA rfl rfl rfl T.g_NoFraction T.c_NoFraction (fun _ _ _ hx=>(wss_one (ws_ret (we_cT (cl_tupK K) (by rfl) T.b_tuple (by decide +kernel) (wa_k (we_cmpX hx (CScope.of (psc:=defScope s_read_fractions) (N:=["words", "many"]) (N':=["word"]) (js:=[]) (by decide +kernel) rfl rfl rfl) (wi_listK K (we_v 0)) (fun _ _ _ _=>wts_nil) (fun _ _ _ _ _ _ hx=>(we_fnX F_read_fraction (hr.mono (by decide)) hx (wa_k (we_v 0) wa_nil)))) wa_nil))))) (fun _=>(wss_one (ws_ret we_non)))))),?_⟩
    refine ⟨_,rfl,?_⟩
    refine rlL ha ?_
    rw [List.length_map]
    refine ⟨_,rfl,rfl,_,rfl,?_⟩
    by_cases hm:ts.length=m
    · refine iteFe (by simp [hm]) ?_
      refine ⟨fun _ cls od H'=>cls=.ref c.NoFraction∧rdS ts=none∧Same H H',?_,?_⟩
      · refine ⟨_,rfl,a,rfl,⟨_,SqL.of ha⟩,?_⟩
        refine comp_mapL (fun i y H'=>∃ f,(ts[i]?.map rdT)=some (some f)∧Rep H' (frD f) y) (fun i y Ha Hb s ⟨f,h1,h2⟩=>⟨f,h1,h2.flat s (frD_flat f)⟩) (by rw [List.length_map]; omega) ha (fun i y H' Q' hy s' k'=>?_) (fun D ys H1 hD e1 s1 hy hr1=>?_)
        · rw [List.getElem?_map] at hy
          obtain ⟨t,ht,rfl⟩:=Option.map_eq_some_iff.mp hy
          have hm':=List.mem_of_getElem? ht
          refine ⟨_,rfl,?_⟩
          refine sp_readf_i (hz t hm') (fun z H2 s2=>⟨rfl,rdS_none hm' z,s'.trans s2⟩) fun g hg b H2 e2 s2=>?_
          exact k' _ H2 s2 ⟨g,by rw [ht]; exact congrArg some hg,frD_of e2⟩
        · rw [List.length_map] at hy
          have all:∀ t∈ts,(rdT t).isSome=true:=fun t ht=>by
            obtain ⟨i,hi⟩:=List.mem_iff_getElem?.mp ht
            have hil:=(List.getElem?_eq_some_iff.mp hi).1
            obtain ⟨f,h1,_⟩:=hr1 i _ (List.getElem?_eq_getElem (by omega))
            rw [hi] at h1
            injection h1 with h1
            rw [h1]; rfl
          have er:=rdS_some all
          refine ⟨D,_,rfl,.inl ⟨SqL.of e1,fun l hl=>?_⟩⟩
          refine k _ _ (s1.trans (Same.upd hl)) ?_
          unfold rdFs
          rw [if_pos hm,er]
          show Rep _ (shD _) _
          refine Rep.tup upd_same ((reps_of (by rw [List.length_map]; exact hy) fun i y hy=>?_).same (Same.upd hl))
          obtain ⟨f,h1,h2⟩:=hr1 i y hy
          obtain ⟨t,h3,h4⟩:=Option.map_eq_some_iff.mp h1
          exact ⟨f,by rw [List.getElem?_map,h3]; show some ((rdT t).getD (0,1))=_; rw [h4]; rfl,h2⟩
      · rintro σ' cls od H' ⟨rfl,hn,s'⟩
        refine ⟨_,rfl,T.s1,fun x hx=>?_⟩
        refine k _ _ (s'.trans (Same.upd hx)) ?_
        unfold rdFs
        rw [if_pos hm,hn]; rfl
    · refine iteTe (by simp; omega) ?_
      refine k _ H (Same.refl _) ?_
      unfold rdFs
      rw [if_neg hm]; rfl
end
end Kw
set_option Elab.async false
set_option linter.all false
set_option maxRecDepth 100000
namespace Kw
open PySem L2 Mf Mt
abbrev s_read_entry:Stmt:=(top 32)
theorem sc_read_entry:FnScope ["words", "sizes", "place", "counts", "says"] ["words", "sizes"] (defScope s_read_entry):=⟨rfl,rfl,rfl,by decide +kernel,rfl,by decide +kernel,by decide +kernel⟩
abbrev s_entries_behind:Stmt:=(top 31)
theorem sc_entries_behind:FnScope ["lines", "line", "sizes", "found", "text", "entry"] ["lines", "line", "sizes"] (defScope s_entries_behind):=⟨rfl,rfl,rfl,by decide +kernel,rfl,by decide +kernel,by decide +kernel⟩
structure Sw (n w:Nat) (d:PyData):Prop where
  sh:PyData.showable d=true
  nd:PyData.hasDict d=false
  dp:PyData.depth d≤n
  wd:shW d≤w
theorem Sw.all {n w:Nat}:∀ {ds:List PyData},(∀ d∈ds,Sw n w d)→PyData.showableAll ds=true∧PyData.hasDictAll ds=false∧PyData.depthAll ds≤n∧shWs ds≤ds.length*(w+2)
  | [],_=>⟨rfl,rfl,Nat.zero_le _,Nat.zero_le _⟩
  | d::ds,h=>by
    obtain ⟨a,b,c,e⟩:=h d (List.mem_cons_self ..)
    obtain ⟨a',b',c',e'⟩:=Sw.all fun x hx=>h x (List.mem_cons_of_mem d hx)
    refine ⟨?_,?_,?_,?_⟩
    · show (PyData.showable d&&PyData.showableAll ds)=true
      rw [a,a']; rfl
    · show (PyData.hasDict d || PyData.hasDictAll ds)=false
      rw [b,b']; rfl
    · show max (PyData.depth d) (PyData.depthAll ds)≤n
      omega
    · show shW d+2+shWs ds≤(ds.length+1)*(w+2)
      rw [Nat.add_mul,Nat.one_mul]; omega
theorem Sw.tup {n w k:Nat} {ds:List PyData} (h:∀ d∈ds,Sw n w d) (hl:ds.length≤k):Sw (n+1) (k*(w+2)+4) (.tuple ds):=by
  obtain ⟨a,b,c,e⟩:=Sw.all h
  refine ⟨a,b,by show PyData.depthAll ds+1≤n+1; omega,?_⟩
  show shWs ds+4≤_
  have:=Nat.mul_le_mul_right (w+2) hl
  omega
theorem Sw.le {n w m v:Nat} {d:PyData} (h:Sw n w d) (hn:n≤m:=by decide) (hw:w≤v:=by decide):Sw m v d:=⟨h.sh,h.nd,Nat.le_trans h.dp hn,Nat.le_trans h.wd hw⟩
theorem Sw.int {x:Int} {k:Nat} (h:x.natAbs<2^k) (hk:k≤1900:=by decide):Sw 1 1921 (.int x) :=
  ⟨showInt (n:=1900) (Nat.lt_of_lt_of_le h (Nat.pow_le_pow_right (by decide) hk)),rfl,by simp [PyData.depth],Nat.le_refl _⟩
theorem rrW {H:Hp} {Q:VK} {x:V} {d:PyData} {n w:Nat} (r:Rep H d x) (h:Sw n w d) (hn:n≤60) (hw:w≤16000000) (q:Q (.str d.shown) H):rRepr [x] H Q :=
  rrI r h.sh h.nd (Nat.le_trans h.dp hn) (Nat.le_trans (shown_le _ h.sh h.nd) (Nat.le_trans h.wd (Nat.le_trans hw (by decide)))) q
theorem strs_rep {H:Hp}:∀ ts:List Str,RepL H (ts.map PyData.str) (ts.map V.str)
  | []=>RepL.nil
  | t::ts=>RepL.cons (Rep.str t) (strs_rep ts)
def lowS (s:Str):Prop:=∀ c∈s.cps.toList,c<200
theorem join_low:∀ ts:List Str,(∀ p∈ts,lowS p)→lowS (Str.join bk ts)
  | [],_=>by
    have:(Str.join bk []).cps.toList=[]:=by decide
    intro c hc
    rw [this] at hc; cases hc
  | [x],h=>h x (by simp)
  | x::y::r,h=>by
    intro c hc
    rw [joinB] at hc
    rcases List.mem_append.mp hc with hc | hc
    · exact h x (by simp) c hc
    · rcases List.mem_cons.mp hc with rfl | hc
      · decide
      · exact join_low (y::r) (fun p hp=>h p (List.mem_cons_of_mem _ hp)) c hc
theorem lowS_ok {t:Str} (h:lowS t):PyData.strOk t=true:=by
  unfold PyData.strOk
  rw [← Array.all_toList]
  exact List.all_eq_true.mpr fun c hc=>decide_eq_true (by have:=h c hc; omega)
def Thin (t:Str):Prop:=∀ u v,words t=[u,v]→v.length≤2500∨(u.length≤2500∧val (fg u)≠0)
structure RwK (r:List Str):Prop where
  ne:r≠[]
  free:∀ p∈r,32 ∉ p.cps.toList
  len:r.length≤40
  sz:∀ p∈r,p.length≤6000
  lo:∀ p∈r,∀ c∈p.cps.toList,c<128
  th:∀ p∈r,Thin p
abbrev lnOf (r:List Str):Str:=Txt.join bk r
theorem RwK.back {r:List Str} (h:RwK r):Txt.split (lnOf r) bk=r:=split_back h.ne h.free
theorem RwK.ll {r:List Str} (h:RwK r):(lnOf r).length≤250000:=by
  unfold lnOf
  rw [join_is]
  have h1:=join_len r
  have h2:=sumlen h.sz
  have:=h.len
  have h3:6000*r.length≤6000*40:=Nat.mul_le_mul_left _ this
  omega
theorem RwK.low {r:List Str} (h:RwK r):∀ p∈r,lowS p:=fun p hp c hc=>by
  have:=h.lo p hp c hc; omega
theorem lineM {n:Nat} (h:n≤1000000):n≤sizeLine:=Nat.le_trans h (by decide)
theorem cut_mid (xs:List V) {a b:Nat} (h:a≤b):cutV xs (some (a:Int)) (some (b:Int))=(xs.drop a).take (b - a):=by
  unfold cutV
  rw [HT.sIx_nat,HT.sIx_nat]
  by_cases ha:a≤xs.length
  · rw [Nat.min_eq_left ha]
    by_cases hb:b≤xs.length
    · rw [Nat.min_eq_left hb]
    · rw [Nat.min_eq_right (by omega),List.take_of_length_le (by rw [List.length_drop]; omega),List.take_of_length_le (by rw [List.length_drop]; omega)]
  · rw [List.drop_eq_nil_of_le (show xs.length≤min a xs.length by omega),List.drop_eq_nil_of_le (show xs.length≤a by omega),List.take_nil,List.take_nil]
def rdE (F W:Nat) (ts:List Str):Option Ent:=match rdC ((ts.drop 1).take F) F,rdFs (ts.drop (F+2)) (1+W) with
  | some cs,some fs=>if ts[0]?=some wOn∧ts[F+1]?=some wSay then some (cs,fs) else none
  | _,_=>none
theorem rdE_c {F W:Nat} {ts:List Str} (h:rdC ((ts.drop 1).take F) F=none):rdE F W ts=none:=by unfold rdE; rw [h]
theorem rdE_s {F W:Nat} {ts:List Str} (h:rdFs (ts.drop (F+2)) (1+W)=none):rdE F W ts=none:=by unfold rdE; rw [h]; cases rdC ((ts.drop 1).take F) F <;> rfl
theorem rdE_0 {F W:Nat} {ts:List Str} (h:¬ ts[0]?=some wOn):rdE F W ts=none:=by
  unfold rdE
  cases rdC ((ts.drop 1).take F) F with
  | none=>rfl
  | some cs=>cases rdFs (ts.drop (F+2)) (1+W) with
    | none=>rfl
    | some fs=>exact if_neg fun z=>h z.1
theorem rdE_ok {F W:Nat} {ts:List Str} {cs:List Int} {fs:List Fr} (h1:rdC ((ts.drop 1).take F) F=some cs) (h2:rdFs (ts.drop (F+2)) (1+W)=some fs) (h0:ts[0]?=some wOn):rdE F W ts=if ts[F+1]?=some wSay then some (cs,fs) else none:=by
  unfold rdE
  rw [h1,h2]
  by_cases z:ts[F+1]?=some wSay
  · rw [if_pos z]; exact if_pos ⟨h0,z⟩
  · rw [if_neg z]; exact if_neg fun q=>z q.2
theorem rdFs_len {ts:List Str} {m:Nat} {fs:List Fr} (h:rdFs ts m=some fs):ts.length=m:=by
  unfold rdFs at h
  by_cases z:ts.length=m
  · exact z
  · rw [if_neg z] at h; cases h
theorem optR_same {H H':Hp} {o:Option PyData} {v:V} (h:OptR H o v) (s:Same H H'):OptR H' o v:=by
  cases o with
  | none=>exact h
  | some d=>exact (show Rep H d v from h).same s
@[irreducible] def sp_rdeG:Sp:=fun vs H Q _=>∃ (a z:Addr) (F W:Nat) (ts:List Str),vs=[.ref a,.ref z]∧H a=some (.lst (ts.map V.str))∧H z=some (.tup [.int (F:Int),.int (W:Int)])∧RwK ts∧F≤4∧W≤4∧∀ v H',Same H H'→OptR H' ((rdE F W ts).map enD) v→Q v H'
theorem sp_rdeG_i {H:Hp} {Q:VK} {E:XK} {a z:Addr} {F W:Nat} {ts:List Str} (h1:H a=some (.lst (ts.map V.str))) (h2:H z=some (.tup [.int (F:Int),.int (W:Int)])) (h3:RwK ts) (f4:F≤4) (w4:W≤4) (k:∀ v H',Same H H'→OptR H' ((rdE F W ts).map enD) v→Q v H'):sp_rdeG [.ref a,.ref z] H Q E:=by
  unfold sp_rdeG; exact ⟨a,z,F,W,ts,rfl,h1,h2,h3,f4,w4,k⟩
def ens (F W:Nat):List (List Str)→List Ent
  | []=>[]
  | r::rs=>match rdE F W r with
    | none=>[]
    | some e=>e::ens F W rs
theorem ens_le (F W:Nat):∀ rs,(ens F W rs).length≤rs.length
  | []=>Nat.le_refl _
  | r::rs=>by
    have:=ens_le F W rs
    unfold ens
    cases rdE F W r with
    | none=>exact Nat.zero_le _
    | some e=>rw [List.length_cons,List.length_cons]; omega
theorem en_flat (e:Ent):flatD (enD e)=true:=by
  show (flatD (ctD e.1)&&(flatD (shD e.2)&&true))=true
  rw [show flatD (ctD e.1)=true from ints_flat e.1,shD_flat]; rfl
theorem ru_flat:∀ es:List Ent,flatDs (es.map enD)=true
  | []=>rfl
  | e::es=>by show (flatD (enD e)&&flatDs (es.map enD))=true; rw [ru_flat es,en_flat]; rfl
@[irreducible] def sp_ebhG:Sp:=fun vs H Q _=>∃ (a z:Addr) (F W:Nat) (t:V) (rs:List (List Str)),vs=[.ref a,.int 1,.ref z]∧H a=some (.lst (t::(rs.map lnOf).map V.str))∧H z=some (.tup [.int (F:Int),.int (W:Int)])∧(∀ r∈rs,RwK r)∧F≤4∧W≤4∧rs.length≤400∧∀ v H',Same H H'→Rep H' (ruD (ens F W rs)) v→Q v H'
theorem sp_ebhG_i {H:Hp} {Q:VK} {E:XK} {a z:Addr} {F W:Nat} {t:V} {rs:List (List Str)} (h1:H a=some (.lst (t::(rs.map lnOf).map V.str))) (h2:H z=some (.tup [.int (F:Int),.int (W:Int)])) (h3:∀ r∈rs,RwK r) (f4:F≤4) (w4:W≤4) (hl:rs.length≤400) (k:∀ v H',Same H H'→Rep H' (ruD (ens F W rs)) v→Q v H'):sp_ebhG [.ref a,.int 1,.ref z] H Q E:=by
  unfold sp_ebhG; exact ⟨a,z,F,W,t,rs,rfl,h1,h2,h3,f4,w4,hl,k⟩
section
variable {P:Program} {w:World} {K:PySem.W.Frag} {mg:Str→Option Value} {base:Heap} {c:Cl}
set_option maxHeartbeats 4000000 in
theorem ok_read_entry {f:Addr} {fd:FuncData} (F:Fun K "read_entry" "read_entry" s_read_entry f fd) (T:Txt K mg c) (F_read_counts:FnC CX0 P w K mg base 3 "read_counts" ["words", "many"] sp_rdcG) (F_read_fractions:FnC CX0 P w K mg base 4 "read_fractions" ["words", "many"] sp_rdfG):FnOk P w K mg base CX0 5 f fd ["words", "sizes"] sp_rdeG:=by
  refine F.okw sc_read_entry (fun vs H Q E h=>?_) (fun cdv A outer s H vs Q E hr h=>?_)
  · unfold sp_rdeG at h
    obtain ⟨a,z,F,W,e,rfl,_⟩:=h
    rfl
  · unfold sp_rdeG at h
    obtain ⟨a,z,F,W,ts,rfl,ha,hz,rw0,f4,w4,k⟩:=h
    obtain ⟨t0,ts0,et⟩:=List.exists_cons_of_ne_nil rw0.ne
    have ln:=rw0.len
    have cut1:cutV (ts.map V.str) (some 1) (some ((1:Int)+(F:Int)))=((ts.drop 1).take F).map V.str:=by
      rw [show ((1:Int)+(F:Int))=((1+F:Nat):Int) by omega,show (some (1:Int))=some ((1:Nat):Int) from rfl,cut_mid _ (by omega),show 1+F - 1=F by omega,List.map_take,List.map_drop]
    have cut2:cutV (ts.map V.str) (some ((1:Int)+(F:Int)+1)) none=(ts.drop (F+2)).map V.str:=by
      rw [show ((1:Int)+(F:Int)+1)=((F+2:Nat):Int) by omega,cutV_lo,List.map_drop]
    have at0:atI (ts.map V.str) 0=some (V.str t0):=by rw [et]; exact atI_nat (j:=0) rfl
    have g0:ts[0]?=some t0:=by rw [et]; rfl
    refine ⟨_,(wss_cons (ws_set (i:=2) sc_read_entry.nd rfl (Or.inl rfl) (we_op op_add we_int (we_ix ix_seq (we_v 1) we_int (fun _ _=>rfl))))
      (wss_cons (ws_set (i:=3) sc_read_entry.nd rfl (Or.inl rfl) (we_fn F_read_counts (hr.mono (by decide)) (wa_k (we_slice (sl_listN K) (we_v 0) (wo_some we_int) (wo_some (we_v 2))) (wa_k (we_ix ix_seq (we_v 1) we_int (fun _ _=>rfl)) wa_nil))))
      (wss_cons (ws_set (i:=4) sc_read_entry.nd rfl (Or.inl rfl) (we_fn F_read_fractions (hr.mono (by decide)) (wa_k (we_slice (sl_listN K) (we_v 0) (wo_some (we_op op_add (we_v 2) we_int)) wo_none) (wa_k (we_op op_add we_int (we_ix ix_seq (we_v 1) we_int (fun _ _=>rfl))) wa_nil))))
      (wss_cons (ws_if (wt_mono (wt_w (ww_or (wt_cmp op_ne (we_ix ix_seq (we_v 0) we_int (fun _ _=>rfl)) (we_glob (v:=.str (Str.ofString "on")) rfl T.g_ENTRY_WORD ⟨_,rfl⟩) (nomark _)) (ww_or (wt_cmp op_isN (we_v 3) we_non (nomark _)) (ww_or (wt_cmp op_isN (we_v 4) we_non (nomark _)) (ww_or1 (wt_cmp op_ne (we_ix ix_seq (we_v 0) (we_v 2) (fun _ _=>rfl)) (we_glob (v:=.str (Str.ofString "say")) rfl T.g_SAYS_WORD ⟨_,rfl⟩) (nomark _)))))))) (wss_one (ws_ret we_non)) wss_nil)
      (wss_one (ws_ret (we_tup (wa_k (we_v 3) (wa_k (we_v 4) wa_nil))))))))),?_⟩
    refine ⟨_,rfl,?_⟩
    refine ixT hz rfl ?_
    refine ⟨_,_,rfl,rfl,?_⟩
    refine ⟨_,rfl,_,rfl,_,rfl,_,rfl,?_⟩
    refine slL (ys:=((ts.drop 1).take F).map V.str) ha cut1 fun q1 H1 hq1 e1 s1=>?_
    refine ⟨_,rfl,?_⟩
    refine ixT (s1 _ _ hz) rfl ?_
    refine sp_rdcG_i e1 (by rw [List.length_take]; omega) (fun t ht=>?_) fun v2 H2 s2 r2=>?_
    · have:=rw0.sz t (List.mem_of_mem_drop (List.mem_of_mem_take ht)); omega
    have s02:=s1.trans s2
    refine ⟨_,rfl,_,rfl,_,_,rfl,rfl,_,rfl,?_⟩
    refine slL (ys:=(ts.drop (F+2)).map V.str) (s02 _ _ ha) cut2 fun q3 H3 hq3 e3 s3=>?_
    have s03:=s02.trans s3
    refine ⟨_,rfl,?_⟩
    refine ixT (s03 _ _ hz) rfl ?_
    refine ⟨_,_,rfl,rfl,?_⟩
    have eW:((fun i j=>V.int (i+j)) (1:Int) (W:Int))=V.int ((1+W:Nat):Int):=by show V.int (1+(W:Int))=_; congr 1
    rw [eW]
    refine sp_rdfG_i e3 (by rw [List.length_drop]; omega) (fun t ht=>?_) fun v4 H4 s4 r4=>?_
    · have:=rw0.sz t (List.mem_of_mem_drop ht); omega
    have s04:=s03.trans s4
    have r2':=optR_same r2 (s3.trans s4)
    refine ⟨fun b H'=>H'=H4∧b=(rdE F W ts).isNone∧(b=false→∃ cs fs,rdC ((ts.drop 1).take F) F=some cs∧rdFs (ts.drop (F+2)) (1+W)=some fs∧rdE F W ts=some (cs,fs)),?_,?_⟩
    · refine ⟨_,rfl,?_⟩
      refine ixL (s04 _ _ ha) at0 ?_
      refine ⟨rfl,_,rfl,?_⟩
      by_cases h0:t0=wOn
      · refine iteFe (by rw [h0]; simp; rfl) ?_
        subst h0
        refine ⟨_,rfl,rfl,_,rfl,?_⟩
        cases hc:rdC ((ts.drop 1).take F) F with
        | none =>
          rw [hc] at r2'
          cases (show v2=.non from r2')
          refine iteTe (by simp) ?_
          exact ⟨rfl,by rw [rdE_c hc]; rfl,fun z=>by cases z⟩
        | some cs =>
          rw [hc] at r2'
          obtain ⟨d2,rfl,hd2⟩:=cnts_at (show Rep H4 (ctD cs) v2 from r2')
          refine iteFe (by simp) ?_
          refine ⟨_,rfl,rfl,_,rfl,?_⟩
          cases hs:rdFs (ts.drop (F+2)) (1+W) with
          | none =>
            rw [hs] at r4
            cases (show v4=.non from r4)
            refine iteTe (by simp) ?_
            exact ⟨rfl,by rw [rdE_s hs]; rfl,fun z=>by cases z⟩
          | some fs =>
            rw [hs] at r4
            obtain ⟨d4,x4,rfl,hd4,rx4⟩:=shD_at (show Rep H4 (shD fs) v4 from r4)
            refine iteFe (by simp) ?_
            have hl:=rdFs_len hs
            rw [List.length_drop] at hl
            obtain ⟨u,hu⟩:∃ u,ts[F+1]?=some u:=⟨_,List.getElem?_eq_getElem (by omega)⟩
            have atp:atI (ts.map V.str) ((1:Int)+(F:Int))=some (V.str u):=by
              rw [show ((1:Int)+(F:Int))=((F+1:Nat):Int) by omega]
              exact atI_nat (by rw [List.getElem?_map,hu]; rfl)
            refine ⟨_,rfl,_,rfl,?_⟩
            refine ixL (s04 _ _ ha) atp ?_
            have eo:=rdE_ok hc hs g0
            rw [hu] at eo
            refine ⟨rfl,_,rfl,rfl,?_⟩
            by_cases hw:u=wSay
            · subst hw
              rw [if_pos rfl] at eo
              rw [eo]
              exact ⟨by simp [wSay],fun _=>⟨cs,fs,rfl,rfl,rfl⟩⟩
            · rw [if_neg (fun z=>hw (by injection z))] at eo
              rw [eo]
              have e1:(!decide (V.str u=V.str (Str.ofString "say")))=true:=by rw [decide_eq_false (fun z=>hw (by injection z))]; rfl
              exact ⟨e1,fun z=>by rw [e1] at z; cases z⟩
      · refine iteTe (by rw [decide_eq_false (fun z=>h0 (by injection z))]; rfl) ?_
        exact ⟨rfl,by rw [rdE_0 (fun z=>h0 (by rw [g0] at z; injection z))]; rfl,fun z=>by cases z⟩
    rintro b H5 ⟨rfl,hb,hb2⟩
    cases b with
    | true =>
      refine iteT ?_
      refine k _ H5 s04 ?_
      rw [Option.isNone_iff_eq_none.mp hb.symm]; rfl
    | false =>
      refine iteF ?_
      obtain ⟨cs,fs,h1,h2,h3⟩:=hb2 rfl
      rw [h1] at r2'
      rw [h2] at r4
      refine ⟨_,rfl,_,rfl,?_⟩
      refine nwT (by show 2≤64; decide) fun q6 H6 hq6 e6 s6=>?_
      refine k _ H6 (s04.trans s6) ?_
      rw [h3]
      exact Rep.tup e6 (RepL.cons ((show Rep H5 (ctD cs) v2 from r2').same s6) (RepL.cons ((show Rep H5 (shD fs) v4 from r4).same s6) RepL.nil))
set_option maxHeartbeats 4000000 in
theorem ok_entries_behind {f:Addr} {fd:FuncData} (F:Fun K "entries_behind" "entries_behind" s_entries_behind f fd) (T:Txt K mg c) (F_read_entry:FnC CX0 P w K mg base 5 "read_entry" ["words", "sizes"] sp_rdeG):FnOk P w K mg base CX0 6 f fd ["lines", "line", "sizes"] sp_ebhG:=by
  refine F.okw sc_entries_behind (fun vs H Q E h=>?_) (fun cdv A outer s H vs Q E hr h=>?_)
  · unfold sp_ebhG at h
    obtain ⟨a,z,F,W,t,es,rfl,_⟩:=h
    rfl
  · unfold sp_ebhG at h
    obtain ⟨a,z,F,W,t,rs,rfl,ha,hz,en,f4,w4,hl,k⟩:=h
    refine ⟨_,(wss_cons (ws_set (i:=3) sc_entries_behind.nd rfl (Or.inl rfl) (we_lst wa_nil))
      (wss_cons (ws_for PassesOwn.never rfl (wi_list (we_slice (sl_listN K) (we_v 0) (wo_some (we_v 1)) wo_none)) (wg_name (i:=4) sc_entries_behind.nd rfl (Or.inl rfl)) (wss_cons (ws_set (i:=5) sc_entries_behind.nd rfl (Or.inl rfl) (we_fn F_read_entry (hr.mono (by decide)) (wa_k (we_bm PySem.F.plainAttrs_str PySem.F.slot_str_split PySem.F.type_str_split mt_split (we_v 4) (wa_k we_str wa_nil)) (wa_k (we_v 2) wa_nil))))
      (wss_cons (ws_if (wt_cmp op_isN (we_v 5) we_non (nomark _)) (wss_one ws_brk) wss_nil)
      (wss_one (ws_expr (we_bm PySem.F.plainAttrs_list PySem.F.slot_list_append PySem.F.type_list_append mt_app (we_v 3) (wa_k (we_v 5) wa_nil)))))))
      (wss_one (ws_ret (we_cT call_tuple_of (by rfl) T.b_tuple (by decide +kernel) (wa_k (we_v 3) wa_nil)))))),?_⟩
    refine nwL (by show 0≤64; decide) fun L H1 hL e1 s1=>?_
    refine ⟨_,rfl,_,rfl,_,rfl,?_⟩
    refine slL (ys:=(rs.map lnOf).map V.str) (s1 _ _ ha) (by rw [show (some (1:Int))=some ((1:Nat):Int) from rfl,cutV_lo]; rfl) fun q2 H2 hq2 e2 s2=>?_
    have nL:q2≠L:=fun z=>by rw [z,e1] at hq2; cases hq2
    have fin:∀ (σ:St) (H3:Hp) (o4 o5:Option V) (ys:List V),Same H H3→H3 L=some (.lst ys)→RepL H3 ((ens F W rs).map enD) ys→∀ l,H3 l=none→Q (.ref l) (upd H3 l (.tup ys)):=fun σ H3 o4 o5 ys s3 eL3 r3 l hl=>k _ _ (s3.trans (Same.upd hl)) (Rep.tup upd_same (r3.same (Same.upd hl)))
    refine ⟨q2,rfl,⟨_,SqL.of e2⟩,?_⟩
    refine for_list (xs:=(rs.map lnOf).map V.str) (fun i σ H'=>∃ (o4 o5:Option V) (ys:List V) (es:List Ent),σ=[some (.ref a),some (.int 1),some (.ref z),some (.ref L),o4,o5]∧Same H H'∧H' q2=some (.lst ((rs.map lnOf).map V.str))∧H' L=some (.lst ys)∧RepL H' (es.map enD) ys∧es.length≤i∧ens F W rs=es++ens F W (rs.drop i)) ⟨_,_,[],[],rfl,s1.trans s2,e2,s2 _ _ e1,RepL.nil,Nat.le_refl _,rfl⟩ (fun i σ H' _ q=>?_) ?_ ?_
    · obtain ⟨_,_,_,_,_,_,e',_⟩:=q
      exact SqL.of e'
    · rintro i y σ H3 hy ⟨o4,o5,ys,es,rfl,s3,e3,eL3,r3,hle,hens⟩
      rw [List.getElem?_map,List.getElem?_map] at hy
      obtain ⟨u,hu,rfl⟩:=Option.map_eq_some_iff.mp hy
      obtain ⟨r,he,rfl⟩:=Option.map_eq_some_iff.mp hu
      have hi:=(List.getElem?_eq_some_iff.mp he).1
      have E1:=en r (List.mem_of_getElem? he)
      have ll:=E1.ll
      have sb:=E1.back
      have lr:=E1.len
      have lys:=reps_len r3
      have dr:rs.drop i=r::rs.drop (i+1):=by
        rw [List.drop_eq_getElem_cons hi]
        congr 1
        exact (List.getElem?_eq_some_iff.mp he).2
      refine ⟨_,rfl,?_⟩
      refine ⟨rfl,?_⟩
      refine rsplit (b:=bk) (by decide +kernel) (lineM (by omega)) (by rw [sb]; exact lineM (by omega)) fun p1 H4 hp1 e4 s4=>?_
      rw [sb] at e4
      refine ⟨_,rfl,?_⟩
      refine sp_rdeG_i e4 ((s3.trans s4) _ _ hz) E1 f4 w4 fun v5 H5 s5 r5=>?_
      have s35:=s4.trans s5
      refine ⟨_,rfl,rfl,_,rfl,?_⟩
      cases hE:rdE F W r with
      | none =>
        rw [hE] at r5
        cases (show v5=.non from r5)
        refine iteTe (by simp) ?_
        have ee:ens F W rs=es:=by
          rw [hens,dr]
          unfold ens
          rw [hE,List.append_nil]
        rw [← ee] at r3
        refine ⟨_,rfl,?_⟩
        exact ⟨L,_,rfl,.inl ⟨SqL.of (s35 _ _ eL3),fun l hl=>fin [] _ none none _ (s3.trans s35) (s35 _ _ eL3) (r3.same s35) l hl⟩⟩
      | some e =>
        rw [hE] at r5
        obtain ⟨d5,x5,rfl,hd5,rx5⟩:=tup_at (show Rep H5 (enD e) v5 from r5)
        refine iteFe (by simp) ?_
        refine ⟨_,rfl,tyL (s35 _ _ eL3),_,rfl,?_⟩
        refine appL (s35 _ _ eL3) (by omega) fun H6 e6 b6=>?_
        have t6:=b6.t (s35 _ _ eL3)
        refine ⟨_,_,_,es++[e],rfl,Same.thru hL (s3.trans s35) b6,b6.at nL (s35 _ _ e3),e6,?_,?_,?_⟩
        · rw [List.map_append]
          exact RepL.snoc ((r3.same s35).flat t6 (ru_flat _)) ((show Rep H5 (enD e) (.ref d5) from r5).flat t6 (en_flat _))
        · rw [List.length_append,List.length_singleton]; omega
        · rw [hens,dr,List.append_assoc]
          conv=>lhs; unfold ens
          rw [hE]; rfl
    · rintro σ H3 ⟨o4,o5,ys,es,rfl,s3,e3,eL3,r3,hle,hens⟩
      rw [List.length_map,List.length_map,List.drop_length,show ens F W []=[] from rfl,List.append_nil] at hens
      rw [← hens] at r3
      refine ⟨_,rfl,?_⟩
      exact ⟨L,_,rfl,.inl ⟨SqL.of eL3,fun l hl=>fin [] _ none none _ s3 eL3 r3 l hl⟩⟩
end
end Kw
set_option Elab.async false
set_option linter.all false
set_option maxRecDepth 100000
namespace Kw
open PySem L2 Mf Mt
abbrev s_NoLines___init__:Stmt:=(inClass (top 7) 0)
theorem sc_NoLines___init__:FnScope ["self", "line"] ["self", "line"] (defScope s_NoLines___init__):=⟨rfl,rfl,rfl,by decide +kernel,rfl,by decide +kernel,by decide +kernel⟩
abbrev s_read_head:Stmt:=(top 30)
theorem sc_read_head:FnScope ["lines", "words", "found", "sizes"] ["lines", "words"] (defScope s_read_head):=⟨rfl,rfl,rfl,by decide +kernel,rfl,by decide +kernel,by decide +kernel⟩
@[irreducible] def sp_iniN (C:Addr) (n:Str):Sp:=fun vs H Q _=>∃ a x,vs=[.ref a,x]∧H a=some (ExcN a C none)∧∀ d,H d=none→d≠a→Q .non (upd (upd H a (ExcN a C (some d))) d (XdO d [(n,x)]))
theorem sp_iniN_i {C:Addr} {n:Str} {H:Hp} {Q:VK} {E:XK} {a:Addr} {x:V} (e:H a=some (ExcN a C none)) (q:∀ d,H d=none→d≠a→Q .non (upd (upd H a (ExcN a C (some d))) d (XdO d [(n,x)]))):sp_iniN C n [.ref a,x] H Q E:=by
  unfold sp_iniN; exact ⟨a,x,rfl,e,q⟩
abbrev Flt (C:Addr) (l:Nat) (H:Hp) (E:XK):Prop:=∀ H' d,Same H H'→H' d=some (XdO d [("line",.int (l:Int))])→E (.ref C) (some d) H'
theorem Flt.same {C:Addr} {l:Nat} {H H':Hp} {E:XK} (h:Flt C l H E) (s:Same H H'):Flt C l H' E:=fun H2 d s2 e=>h H2 d (s.trans s2) e
theorem rz37 {C:Addr} {l:Nat} {H1:Hp} {Ex:XK} (h:Flt C l H1 Ex):[V.int (l:Int)].length≤64∧∀ a,H1 a=none→sp_iniN C "line" (.ref a::[.int (l:Int)]) (upd H1 a (ExcN a C none)) (fun v H2=>v=.non∧∃ od,H2 a=some (ExcN a C od)∧Ex (.ref C) od (del H2 a)) E0:=by
  refine ⟨by show 1≤64; decide,fun ex hex=>?_⟩
  refine sp_iniN_i upd_same fun d hd hne=>?_
  refine ⟨rfl,some d,by rw [upd_ne (Ne.symm hne),upd_same],h _ d (fun b o e=>?_) (by rw [del_ne hne,upd_same])⟩
  have n1:b≠ex:=fun z=>by subst z; rw [hex] at e; cases e
  have hd2:H1 d=none:=by rw [upd_ne hne] at hd; exact hd
  have n2:b≠d:=fun z=>by subst z; rw [hd2] at e; cases e
  rw [del_ne n1,upd_ne n2,upd_ne n1,upd_ne n1]; exact e
theorem eqv_strs:∀ a b:List Str,PyData.eqvAll (a.map PyData.str) (b.map PyData.str)=decide (a=b)
  | [],[]=>by simp [PyData.eqvAll]
  | [],_::_=>by simp [PyData.eqvAll]
  | _::_,[]=>by simp [PyData.eqvAll]
  | x::a,y::b=>by
    have ih:=eqv_strs a b
    rw [List.map_cons,List.map_cons]
    show ((x == y)&&PyData.eqvAll _ _)=_
    rw [ih]
    by_cases h:x=y <;> by_cases h':a=b <;> simp [h,h']
theorem Shp.str {t:Str} (h:lowS t):Shp 1 (.str t):=⟨lowS_ok h,by simp [PyData.depth]⟩
theorem strs_shp {l:List Str} (h:∀ t∈l,lowS t):SeqAt.shaped (.list (l.map PyData.str))=true:=(Shp.lst (n:=1) fun d hd=>by
  obtain ⟨t,ht,rfl⟩:=List.mem_map.mp hd
  exact Shp.str (h t ht)).ok
def wPaper:Str:=Str.ofString "paper"
def wPrice:Str:=Str.ofString "price"
def wWorth:Str:=Str.ofString "worth"
def wNone:Str:=Str.ofString "none"
def hdS:Option (List Int)→Option (Nat × Nat)
  | some [f,g]=>if (2≤f∧f≤4)∧2≤g∧g≤4 then some (f.toNat,g.toNat) else none
  | _=>none
def hdW (x:Str):List (List Str)→Option (Nat × Nat)
  | []=>none
  | r::_=>if r.take 2=[wPaper,x] then hdS (rdC (r.drop 2) 2) else none
theorem hdW_y {x:Str} {r:List Str} {rs:List (List Str)} (h:r.take 2=[wPaper,x]):hdW x (r::rs)=hdS (rdC (r.drop 2) 2):=by
  show (if r.take 2=[wPaper,x] then _ else _)=_
  rw [if_pos h]
theorem hdW_n {x:Str} {r:List Str} {rs:List (List Str)} (h:¬ r.take 2=[wPaper,x]):hdW x (r::rs)=none:=by
  show (if r.take 2=[wPaper,x] then _ else _)=_
  rw [if_neg h]
theorem rdC_len {ts:List Str} {m:Nat} {ns:List Int} (h:rdC ts m=some ns):ts.length=m∧ns.length=m:=by
  unfold rdC at h
  by_cases z:ts.length=m∧(ts.map rd).all geB=true
  · rw [if_pos z] at h
    injection h with h
    refine ⟨z.1,?_⟩
    rw [← h,List.length_map,List.length_map]; exact z.1
  · rw [if_neg z] at h; cases h
theorem hdW_in {x:Str} {rs:List (List Str)} {F W:Nat} (h:hdW x rs=some (F,W)):2≤F∧F≤4∧2≤W∧W≤4:=by
  cases rs with
  | nil=>cases h
  | cons r rs =>
    by_cases z:r.take 2=[wPaper,x]
    · rw [hdW_y z] at h
      unfold hdS at h
      split at h
      · rename_i f g e
        by_cases q:(2≤f∧f≤4)∧2≤g∧g≤4
        · rw [if_pos q] at h
          injection h with h
          injection h with h1 h2
          omega
        · rw [if_neg q] at h; cases h
      · cases h
    · rw [hdW_n z] at h; cases h
@[irreducible] def sp_rdhP (C:Addr):Sp:=fun vs H Q E=>∃ (a z:Addr) (x:Str) (rs:List (List Str)),vs=[.ref a,.ref z]∧H a=some (.lst ((rs.map lnOf).map V.str))∧H z=some (.lst [.str wPaper,.str x])∧lowS x∧(∀ r∈rs,RwK r)∧(hdW x rs=none→Flt C 0 H E)∧∀ F W,hdW x rs=some (F,W)→∀ v H',Same H H'→H' v=some (.tup [.int (F:Int),.int (W:Int)])→Q (.ref v) H'
theorem sp_rdhP_i {C:Addr} {H:Hp} {Q:VK} {E:XK} {a z:Addr} {x:Str} {rs:List (List Str)} (h1:H a=some (.lst ((rs.map lnOf).map V.str))) (h2:H z=some (.lst [.str wPaper,.str x])) (hx:lowS x) (h3:∀ r∈rs,RwK r) (e:hdW x rs=none→Flt C 0 H E) (k:∀ F W,hdW x rs=some (F,W)→∀ v H',Same H H'→H' v=some (.tup [.int (F:Int),.int (W:Int)])→Q (.ref v) H'):sp_rdhP C [.ref a,.ref z] H Q E:=by
  unfold sp_rdhP; exact ⟨a,z,x,rs,rfl,h1,h2,hx,h3,e,k⟩
section
variable {P:Program} {w:World} {K:PySem.W.Frag} {mg:Str→Option Value} {base:Heap} {c:Cl}
theorem ok_NoLines___init__ {f:Addr} {fd:FuncData} (F:Fun K "__init__" "NoLines.__init__" s_NoLines___init__ f fd) (T:Txt K mg c):FnOk P w K mg base CX0 1 f fd ["self", "line"] (sp_iniN c.NoLines "line"):=by
  refine F.okw sc_NoLines___init__ (fun vs H Q E h=>?_) (fun cdv A outer s H vs Q E hr h=>?_)
  · unfold sp_iniN at h
    obtain ⟨a,x,rfl,_⟩:=h
    rfl
  · unfold sp_iniN at h
    obtain ⟨a,x,rfl,ea,q⟩:=h
    refine ⟨_,(wss_cons (ws_expr (we_baseN T.bc_EarlyError T.g_EarlyError (wa_k (we_v 0) (wa_k (we_v 1) wa_nil))))
      (wss_one (ws_fldN (we_v 0) (we_v 1)))),?_⟩
    refine ⟨_,rfl,_,rfl,a,c.NoLines,none,_,rfl,by show 2≤64; decide,ea,(setAll.shape T.st_NoLines),?_⟩
    refine ⟨_,rfl,_,rfl,a,c.NoLines,rfl,(setAll.set T.st_NoLines),(setAll.no T.st_NoLines (by simp)),.inl ⟨ea,fun d nd na=>?_⟩⟩
    exact q d nd na
set_option maxHeartbeats 4000000 in
theorem ok_read_head {f:Addr} {fd:FuncData} (F:Fun K "read_head" "read_head" s_read_head f fd) (T:Txt K mg c) (F_NoLines___init__:FnI P w K mg base 1 c.NoLines ["self", "line"] (sp_iniN c.NoLines "line")) (F_read_counts:FnC CX0 P w K mg base 3 "read_counts" ["words", "many"] sp_rdcG):FnOk P w K mg base (CX1 P w) 4 f fd ["lines", "words"] (sp_rdhP c.NoLines):=by
  refine F.okx sc_read_head (fun vs H Q E h=>?_) (fun cdv A outer s H vs Q E hr h hx hmd=>?_)
  · unfold sp_rdhP at h
    obtain ⟨a,z,x,rs,rfl,_⟩:=h
    rfl
  · unfold sp_rdhP at h
    obtain ⟨a,z,xx,rs,rfl,ha,hz,hxx,ok,e,k⟩:=h
    refine ⟨_,(wss_cons (ws_if (wt_cmp op_eq (we_cB cl_len (by rfl) T.b_len (by decide +kernel) (wa_k (we_v 0) wa_nil)) we_int (nomark _)) (wss_one (ws_raiseX F_NoLines___init__ T.g_NoLines rfl (hr.mono (by decide)) xmadeG_fn (wa_k we_int wa_nil))) wss_nil)
      (wss_cons (ws_set (i:=2) sc_read_head.nd rfl (Or.inl rfl) (we_bm PySem.F.plainAttrs_str PySem.F.slot_str_split PySem.F.type_str_split mt_split (we_ix ix_seq (we_v 0) we_int (fun _ _=>rfl)) (wa_k we_str wa_nil)))
      (wss_cons (ws_set (i:=3) sc_read_head.nd rfl (Or.inl rfl) (we_fn F_read_counts (hr.mono (by decide)) (wa_k (we_slice (sl_listN K) (we_v 2) (wo_some (we_cB cl_len (by rfl) T.b_len (by decide +kernel) (wa_k (we_v 1) wa_nil))) wo_none) (wa_k we_int wa_nil))))
      (wss_cons (ws_if (wt_mono (wt_w (ww_or (wt_cmp (op_neD hr.units) (we_slice (sl_listN K) (we_v 2) wo_none (wo_some (we_cB cl_len (by rfl) T.b_len (by decide +kernel) (wa_k (we_v 1) wa_nil)))) (we_v 1) (nomark _)) (ww_or (wt_cmp op_isN (we_v 3) we_non (nomark _)) (ww_or1 (wt_not (wt_val (we_cB (cl_all rfl) (by rfl) T.b_all (by decide +kernel) (wa_k (we_comp (CScope.of (psc:=defScope s_read_head) (N:=["lines", "words", "found", "sizes"]) (N':=["one"]) (js:=[]) (by decide +kernel) rfl rfl rfl) (wi_tup (we_v 3)) (fun _ _ _ _=>wts_nil) (fun _ _ _ _=>(we_chain op_le op_le (we_glob (v:=.int 2) rfl T.g_LEAST_NAMES ⟨_,rfl⟩) (we_v 0) (we_glob (v:=.int 4) rfl T.g_MOST_NAMES ⟨_,rfl⟩)))) wa_nil))))))))) (wss_one (ws_raiseX F_NoLines___init__ T.g_NoLines rfl (hr.mono (by decide)) xmadeG_fn (wa_k we_int wa_nil))) wss_nil)
      (wss_one (ws_ret (we_v 3))))))),?_⟩
    refine ⟨_,rfl,?_⟩
    refine rlL ha ?_
    refine ⟨rfl,_,rfl,?_⟩
    cases rs with
    | nil =>
      refine iteT ?_
      exact rz37 (e rfl)
    | cons r rest =>
      have okr:=ok r (List.mem_cons_self ..)
      have ll:=okr.ll
      have lr:=okr.len
      have sb:=okr.back
      rw [decide_eq_false (show ¬ V.int ((((r::rest).map lnOf).map V.str).length:Int)=V.int 0 from fun z=>by injection z with z; rw [List.length_map,List.length_map,List.length_cons] at z; omega)]
      refine iteF ?_
      refine ⟨_,rfl,?_⟩
      refine ixL ha (atI_nat (j:=0) rfl) ?_
      refine ⟨rfl,?_⟩
      refine rsplit (b:=bk) (by decide +kernel) (lineM (by omega)) (by rw [sb]; exact lineM (by omega)) fun p1 H1 hp1 e1 s1=>?_
      rw [sb] at e1
      refine ⟨_,rfl,_,rfl,?_⟩
      refine rlL (s1 _ _ hz) ?_
      refine ⟨_,rfl,?_⟩
      refine slL (ys:=(r.drop 2).map V.str) e1 (by show cutV _ (some ((2:Nat):Int)) none=_; rw [cutV_lo,List.map_drop]) fun q2 H2 hq2 e2 s2=>?_
      refine sp_rdcG_i (m:=2) e2 (by rw [List.length_drop]; omega) (fun t ht=>?_) fun v3 H3 s3 r3=>?_
      · have:=okr.sz t (List.mem_of_mem_drop ht); omega
      have s13:=s2.trans s3
      have s03:=s1.trans s13
      refine ⟨fun b H'=>Same H3 H'∧b=(hdW xx (r::rest)).isNone∧(b=false→∃ F W,hdW xx (r::rest)=some (F,W)∧Rep H3 (ctD [(F:Int),(W:Int)]) v3),?_,?_⟩
      · refine ⟨_,rfl,_,rfl,?_⟩
        refine rlL (s03 _ _ hz) ?_
        refine ⟨_,rfl,?_⟩
        refine slL (ys:=(r.take 2).map V.str) (s13 _ _ e1) (by show cutV _ none (some ((2:Nat):Int))=_; rw [cutV_hi,List.map_take]) fun q4 H4 hq4 e4 s4=>?_
        refine ⟨_,rfl,?_⟩
        refine reD (d:=.list ((r.take 2).map PyData.str)) (d':=.list ([wPaper,xx].map PyData.str)) (Rep.lst e4 (strs_rep _)) (Rep.lst ((s03.trans s4) _ _ hz) (strs_rep [wPaper,xx])) (strs_shp fun t ht=>okr.low t (List.mem_of_mem_take ht)) (strs_shp fun t ht=>by
          simp only [List.mem_cons,List.not_mem_nil,or_false] at ht
          rcases ht with rfl | rfl
          · unfold lowS; decide +kernel
          · exact hxx) ?_
        rw [show PyData.eqv (.list ((r.take 2).map PyData.str)) (.list ([wPaper,xx].map PyData.str))=PyData.eqvAll ((r.take 2).map PyData.str) ([wPaper,xx].map PyData.str) from rfl,eqv_strs]
        refine ⟨_,rfl,?_⟩
        by_cases h0:r.take 2=[wPaper,xx]
        · have g0:=h0
          have eh:hdW xx (r::rest)=hdS (rdC (r.drop 2) 2):=hdW_y g0
          refine iteFe (by rw [decide_eq_true h0]; rfl) ?_
          refine ⟨_,rfl,rfl,_,rfl,?_⟩
          cases hc:rdC (r.drop 2) 2 with
          | none =>
            rw [hc] at r3
            cases (show v3=.non from r3)
            refine iteTe (by simp) ?_
            exact ⟨s4,by rw [eh,hc]; rfl,fun z=>by cases z⟩
          | some ns =>
            rw [hc] at r3
            obtain ⟨_,l2⟩:=rdC_len hc
            obtain ⟨n1,n2,rfl⟩:∃ n1 n2,ns=[n1,n2]:=by
              match ns,l2 with
              | [a,b],_=>exact ⟨a,b,rfl⟩
            obtain ⟨d3,rfl,hd3⟩:=cnts_at (show Rep H3 (ctD [n1,n2]) v3 from r3)
            refine iteFe (by simp) ?_
            refine ⟨_,rfl,d3,rfl,⟨_,SqT.of (s4 _ _ hd3)⟩,?_⟩
            refine comp_mapU (fun i y _=>∃ x,[n1,n2][i]?=some x∧y=.bl (decide (2≤x)&&decide (x≤4))) (fun _ _ _ _ _ h=>h) (by show 2≤_; decide) (s4 _ _ hd3) (fun i y H' Q' hy s' k'=>?_) (fun D2 ys H5 hD2 e5 s5 hy5 hr5=>?_)
            · rw [List.getElem?_map] at hy
              obtain ⟨x,hx,rfl⟩:=Option.map_eq_some_iff.mp hy
              refine ⟨_,rfl,_,_,rfl,rfl,_,rfl,?_⟩
              by_cases c2:2≤x
              · refine iteTe (decide_eq_true c2) ?_
                refine ⟨_,_,rfl,rfl,?_⟩
                exact k' _ H' (Same.refl _) ⟨x,hx,by rw [decide_eq_true c2,Bool.true_and]⟩
              · refine iteFe (decide_eq_false c2) ?_
                exact k' _ H' (Same.refl _) ⟨x,hx,by rw [decide_eq_false c2,Bool.false_and]⟩
            have ey:ys=([n1,n2].map fun x=>decide (2≤x)&&decide (x≤4)).map V.bl:=vals_map (l:=[n1,n2]) (g:=fun x=>decide (2≤x)&&decide (x≤4)) (f:=V.bl) hy5 hr5
            subst ey
            refine rall e5 ?_
            refine ⟨_,rfl,s4.trans s5,?_⟩
            rw [eh,hc]
            show (!((decide (2≤n1)&&decide (n1≤4))&&((decide (2≤n2)&&decide (n2≤4))&&true)))=_∧_
            by_cases q:(2≤n1∧n1≤4)∧2≤n2∧n2≤4
            · have e8:hdS (some [n1,n2])=some (n1.toNat,n2.toNat):=if_pos q
              rw [e8,decide_eq_true q.1.1,decide_eq_true q.1.2,decide_eq_true q.2.1,decide_eq_true q.2.2]
              refine ⟨rfl,fun _=>⟨_,_,rfl,?_⟩⟩
              rw [Int.toNat_of_nonneg (by omega),Int.toNat_of_nonneg (by omega)]
              exact r3
            · have e8:hdS (some [n1,n2])=none:=if_neg q
              have e9:((decide (2≤n1)&&decide (n1≤4))&&((decide (2≤n2)&&decide (n2≤4))&&true))=false:=by
                rw [Bool.eq_false_iff]
                intro z
                simp only [Bool.and_eq_true,decide_eq_true_eq,and_true] at z
                exact q z
              rw [e8]
              have e10:(!([n1,n2].map fun x=>decide (2≤x)&&decide (x≤4)).all id)=true:=by
                show (!((decide (2≤n1)&&decide (n1≤4))&&((decide (2≤n2)&&decide (n2≤4))&&true)))=true
                rw [e9]; rfl
              exact ⟨by rw [e9]; rfl,fun z=>by rw [e10] at z; cases z⟩
        · refine iteTe (by rw [decide_eq_false h0]; rfl) ?_
          refine ⟨s4,?_,fun z=>by cases z⟩
          rw [hdW_n h0]; rfl
      rintro b H4 ⟨s4,hb,hb2⟩
      cases b with
      | true =>
        refine iteT ?_
        exact rz37 ((e (Option.isNone_iff_eq_none.mp hb.symm)).same (s03.trans s4))
      | false =>
        refine iteF ?_
        obtain ⟨F,W,h1,h2⟩:=hb2 rfl
        obtain ⟨d3,rfl,hd3⟩:=cnts_at h2
        refine ⟨_,rfl,?_⟩
        exact k F W h1 d3 H4 (s03.trans s4) (s4 _ _ hd3)
end
end Kw
set_option Elab.async false
set_option linter.all false
set_option maxRecDepth 100000
namespace Kw
open PySem L2 Mf Mt
abbrev s_has_rule:Stmt:=(top 38)
theorem sc_has_rule:FnScope ["lines"] ["lines"] (defScope s_has_rule):=⟨rfl,rfl,rfl,by decide +kernel,rfl,by decide +kernel,by decide +kernel⟩
abbrev s_read_prices:Stmt:=(top 40)
theorem sc_read_prices:FnScope ["words", "sizes"] ["words", "sizes"] (defScope s_read_prices):=⟨rfl,rfl,rfl,by decide +kernel,rfl,by decide +kernel,by decide +kernel⟩
abbrev s_read_worth:Stmt:=(top 41)
theorem sc_read_worth:FnScope ["words", "sizes", "place", "counts", "worth"] ["words", "sizes"] (defScope s_read_worth):=⟨rfl,rfl,rfl,by decide +kernel,rfl,by decide +kernel,by decide +kernel⟩
def rdP (W:Nat) (r:List Str):Option (List Fr):=if r[0]?=some wPrice then rdFs (r.drop 1) W else none
def rdW (F:Nat) (r:List Str):Option (List Int × Fr):=match rdC ((r.drop 1).take F) F,rdFs (r.drop (1+F)) 1 with
  | some cs,some [g]=>if r[0]?=some wWorth then some (cs,g) else none
  | _,_=>none
abbrev woD (p:List Int × Fr):PyData:=.tuple [ctD p.1,frD p.2]
def wos (F:Nat):List (List Str)→Nat→Except Nat (List (List Int × Fr))
  | [],_=>.ok []
  | r::rs,p=>match rdW F r with
    | none=>.error p
    | some x=>match wos F rs (p+1) with
      | .error l=>.error l
      | .ok xs=>.ok (x::xs)
def rdRest (F W:Nat) (rs:List (List Str)) (line:Nat):Except Nat (List Fr × List (List Int × Fr)):=match (rs[line]?).bind (rdP W) with
  | none=>.error line
  | some ps=>match wos F (rs.drop (line+1)) (line+1) with
    | .error l=>.error l
    | .ok xs=>.ok (ps,xs)
abbrev wsD (xs:List (List Int × Fr)):PyData:=.tuple (xs.map woD)
def hasR:List (List Str)→Bool
  | []=>false
  | r::_=>decide (r.take 2=[wPaper,wRule])
def rdPap (rs:List (List Str)):Except Nat PyData :=
  if hasR rs=true then match hdW wRule rs with
    | none=>.error 0
    | some (F,W)=>match rdRest F W rs (1+(ens F W (rs.drop 1)).length) with
      | .error l=>.error l
      | .ok (ps,xs)=>.ok (.tuple [.str wRule,ruD (ens F W (rs.drop 1)),shD ps,wsD xs])
  else match hdW wNone rs with
    | none=>.error 0
    | some (F,W)=>match rdRest F W rs 1 with
      | .error l=>.error l
      | .ok (ps,xs)=>.ok (.tuple [.str wNone,shD ps,wsD xs])
theorem rdW_c {F:Nat} {r:List Str} (h:rdC ((r.drop 1).take F) F=none):rdW F r=none:=by unfold rdW; rw [h]
theorem rdW_s {F:Nat} {r:List Str} (h:rdFs (r.drop (1+F)) 1=none):rdW F r=none:=by unfold rdW; rw [h]; cases rdC ((r.drop 1).take F) F <;> rfl
theorem rdFs_one {ts:List Str} {fs:List Fr} (h:rdFs ts 1=some fs):∃ g,fs=[g]:=by
  have hl:=rdFs_len h
  match ts,hl with
  | [t],_ =>
    have h:rdS [t]=some fs:=by
      unfold rdFs at h
      exact h
    unfold rdS at h
    rw [List.mapM_cons] at h
    cases q:rdT t with
    | none=>rw [q] at h; cases h
    | some g=>rw [q] at h; injection h with h; exact ⟨g,h.symm⟩
theorem rdW_ok {F:Nat} {r:List Str} {cs:List Int} {g:Fr} (h1:rdC ((r.drop 1).take F) F=some cs) (h2:rdFs (r.drop (1+F)) 1=some [g]):rdW F r=if r[0]?=some wWorth then some (cs,g) else none:=by
  unfold rdW; rw [h1,h2]
theorem rdW_0 {F:Nat} {r:List Str} (h:¬ r[0]?=some wWorth):rdW F r=none:=by
  cases hc:rdC ((r.drop 1).take F) F with
  | none=>exact rdW_c hc
  | some cs =>
    cases hs:rdFs (r.drop (1+F)) 1 with
    | none=>exact rdW_s hs
    | some fs =>
      obtain ⟨g,rfl⟩:=rdFs_one hs
      rw [rdW_ok hc hs,if_neg h]
@[irreducible] def sp_hasr:Sp:=fun vs H Q _=>∃ (a:Addr) (rs:List (List Str)),vs=[.ref a]∧H a=some (.lst ((rs.map lnOf).map V.str))∧(∀ r∈rs,RwK r)∧∀ H',Same H H'→Q (.bl (hasR rs)) H'
theorem sp_hasr_i {H:Hp} {Q:VK} {E:XK} {a:Addr} {rs:List (List Str)} (h1:H a=some (.lst ((rs.map lnOf).map V.str))) (h3:∀ r∈rs,RwK r) (k:∀ H',Same H H'→Q (.bl (hasR rs)) H'):sp_hasr [.ref a] H Q E:=by
  unfold sp_hasr; exact ⟨a,rs,rfl,h1,h3,k⟩
@[irreducible] def sp_rdpG:Sp:=fun vs H Q _=>∃ (a z:Addr) (F W:Nat) (ts:List Str),vs=[.ref a,.ref z]∧H a=some (.lst (ts.map V.str))∧H z=some (.tup [.int (F:Int),.int (W:Int)])∧RwK ts∧∀ v H',Same H H'→OptR H' ((rdP W ts).map shD) v→Q v H'
theorem sp_rdpG_i {H:Hp} {Q:VK} {E:XK} {a z:Addr} {F W:Nat} {ts:List Str} (h1:H a=some (.lst (ts.map V.str))) (h2:H z=some (.tup [.int (F:Int),.int (W:Int)])) (h3:RwK ts) (k:∀ v H',Same H H'→OptR H' ((rdP W ts).map shD) v→Q v H'):sp_rdpG [.ref a,.ref z] H Q E:=by
  unfold sp_rdpG; exact ⟨a,z,F,W,ts,rfl,h1,h2,h3,k⟩
@[irreducible] def sp_rdwG:Sp:=fun vs H Q _=>∃ (a z:Addr) (F W:Nat) (ts:List Str),vs=[.ref a,.ref z]∧H a=some (.lst (ts.map V.str))∧H z=some (.tup [.int (F:Int),.int (W:Int)])∧RwK ts∧F≤4∧∀ v H',Same H H'→OptR H' ((rdW F ts).map woD) v→Q v H'
theorem sp_rdwG_i {H:Hp} {Q:VK} {E:XK} {a z:Addr} {F W:Nat} {ts:List Str} (h1:H a=some (.lst (ts.map V.str))) (h2:H z=some (.tup [.int (F:Int),.int (W:Int)])) (h3:RwK ts) (f4:F≤4) (k:∀ v H',Same H H'→OptR H' ((rdW F ts).map woD) v→Q v H'):sp_rdwG [.ref a,.ref z] H Q E:=by
  unfold sp_rdwG; exact ⟨a,z,F,W,ts,rfl,h1,h2,h3,f4,k⟩
section
variable {P:Program} {w:World} {K:PySem.W.Frag} {mg:Str→Option Value} {base:Heap} {c:Cl}
set_option maxHeartbeats 4000000 in
theorem ok_has_rule {f:Addr} {fd:FuncData} (F:Fun K "has_rule" "has_rule" s_has_rule f fd) (T:Txt K mg c):FnOk P w K mg base CX0 1 f fd ["lines"] sp_hasr:=by
  refine F.okw sc_has_rule (fun vs H Q E h=>?_) (fun cdv A outer s H vs Q E hr h=>?_)
  · unfold sp_hasr at h
    obtain ⟨a,rs,rfl,_⟩:=h
    rfl
  · unfold sp_hasr at h
    obtain ⟨a,rs,rfl,ha,ok,k⟩:=h
    refine ⟨_,(wss_one (ws_ret (we_and (we_cmp op_gt (we_cB cl_len (by rfl) T.b_len (by decide +kernel) (wa_k (we_v 0) wa_nil)) we_int (nomark _)) (we_one (we_cmp (op_eqD hr.units) (we_slice (sl_listN K) (we_bm PySem.F.plainAttrs_str PySem.F.slot_str_split PySem.F.type_str_split mt_split (we_ix ix_seq (we_v 0) we_int (fun _ _=>rfl)) (wa_k we_str wa_nil)) wo_none (wo_some we_int)) (we_lst (wa_k (we_glob (v:=.str (Str.ofString "paper")) rfl T.g_PAPER_WORD ⟨_,rfl⟩) (wa_k we_str wa_nil))) (nomark _)))))),?_⟩
    refine ⟨_,rfl,?_⟩
    refine rlL ha ?_
    refine ⟨_,_,rfl,rfl,_,rfl,?_⟩
    cases rs with
    | nil =>
      refine iteFe (by simp) ?_
      exact k H (Same.refl _)
    | cons r rest =>
      have okr:=ok r (List.mem_cons_self ..)
      have ll:=okr.ll
      have lr:=okr.len
      have sb:=okr.back
      refine iteTe (by simp) ?_
      refine ⟨_,rfl,?_⟩
      refine ixL ha (atI_nat (j:=0) rfl) ?_
      refine ⟨rfl,?_⟩
      refine rsplit (b:=bk) (by decide +kernel) (lineM (by omega)) (by rw [sb]; exact lineM (by omega)) fun p1 H1 hp1 e1 s1=>?_
      rw [sb] at e1
      refine ⟨_,rfl,?_⟩
      refine slL (ys:=(r.take 2).map V.str) e1 (by show cutV _ none (some ((2:Nat):Int))=_; rw [cutV_hi,List.map_take]) fun q4 H4 hq4 e4 s4=>?_
      refine nwL (by show 2≤64; decide) fun q5 H5 hq5 e5 s5=>?_
      have e5:H5 q5=some (.lst ([wPaper,wRule].map V.str)):=e5
      refine reD (d:=.list ((r.take 2).map PyData.str)) (d':=.list ([wPaper,wRule].map PyData.str)) (Rep.lst (s5 _ _ e4) (strs_rep _)) (Rep.lst e5 (strs_rep _)) (strs_shp fun t ht=>okr.low t (List.mem_of_mem_take ht)) (by decide +kernel) ?_
      rw [show PyData.eqv (.list ((r.take 2).map PyData.str)) (.list ([wPaper,wRule].map PyData.str))=PyData.eqvAll ((r.take 2).map PyData.str) ([wPaper,wRule].map PyData.str) from rfl,eqv_strs]
      have eb:(true == decide (r.take 2=[wPaper,wRule]))=hasR (r::rest):=by
        show _=decide (r.take 2=[wPaper,wRule])
        cases decide (r.take 2=[wPaper,wRule]) <;> rfl
      rw [eb]
      exact k H5 ((s1.trans s4).trans s5)
set_option maxHeartbeats 4000000 in
theorem ok_read_prices {f:Addr} {fd:FuncData} (F:Fun K "read_prices" "read_prices" s_read_prices f fd) (T:Txt K mg c) (F_read_fractions:FnC CX0 P w K mg base 4 "read_fractions" ["words", "many"] sp_rdfG):FnOk P w K mg base CX0 5 f fd ["words", "sizes"] sp_rdpG:=by
  refine F.okw sc_read_prices (fun vs H Q E h=>?_) (fun cdv A outer s H vs Q E hr h=>?_)
  · unfold sp_rdpG at h
    obtain ⟨a,z,F,W,e,rfl,_⟩:=h
    rfl
  · unfold sp_rdpG at h
    obtain ⟨a,z,F,W,ts,rfl,ha,hz,ok,k⟩:=h
    refine ⟨_,(wss_one (ws_ret (we_ifExp (wt_cmp op_eq (we_ix ix_seq (we_v 0) we_int (fun _ _=>rfl)) (we_glob (v:=.str (Str.ofString "price")) rfl T.g_PRICE_WORD ⟨_,rfl⟩) (nomark _)) (we_fn F_read_fractions (hr.mono (by decide)) (wa_k (we_slice (sl_listN K) (we_v 0) (wo_some we_int) wo_none) (wa_k (we_ix ix_seq (we_v 1) we_int (fun _ _=>rfl)) wa_nil))) we_non))),?_⟩
    have ln:=ok.len
    obtain ⟨t0,ts0,et⟩:=List.exists_cons_of_ne_nil ok.ne
    have g0:ts[0]?=some t0:=by rw [et]; rfl
    refine ⟨_,rfl,?_⟩
    refine ixL ha (v:=.str t0) (by rw [et]; exact atI_nat (j:=0) rfl) ?_
    refine ⟨rfl,_,rfl,?_⟩
    by_cases h0:t0=wPrice
    · refine iteTe (decide_eq_true (by rw [h0]; rfl)) ?_
      refine ⟨_,rfl,_,rfl,?_⟩
      refine slL (ys:=(ts.drop 1).map V.str) ha (by show cutV _ (some ((1:Nat):Int)) none=_; rw [cutV_lo,List.map_drop]) fun q1 H1 hq1 e1 s1=>?_
      refine ⟨_,rfl,?_⟩
      refine ixT (s1 _ _ hz) rfl ?_
      refine sp_rdfG_i e1 (by rw [List.length_drop]; omega) (fun t ht=>?_) fun v H2 s2 r2=>?_
      · have:=ok.sz t (List.mem_of_mem_drop ht); omega
      refine k v H2 (s1.trans s2) ?_
      unfold rdP
      rw [if_pos (by rw [g0,h0])]; exact r2
    · refine iteFe (decide_eq_false fun z=>h0 (by injection z)) ?_
      refine k _ H (Same.refl _) ?_
      unfold rdP
      rw [if_neg (fun z=>h0 (by rw [g0] at z; injection z))]; rfl
set_option maxHeartbeats 4000000 in
theorem ok_read_worth {f:Addr} {fd:FuncData} (F:Fun K "read_worth" "read_worth" s_read_worth f fd) (T:Txt K mg c) (F_read_counts:FnC CX0 P w K mg base 3 "read_counts" ["words", "many"] sp_rdcG) (F_read_fractions:FnC CX0 P w K mg base 4 "read_fractions" ["words", "many"] sp_rdfG):FnOk P w K mg base CX0 5 f fd ["words", "sizes"] sp_rdwG:=by
  refine F.okw sc_read_worth (fun vs H Q E h=>?_) (fun cdv A outer s H vs Q E hr h=>?_)
  · unfold sp_rdwG at h
    obtain ⟨a,z,F,W,e,rfl,_⟩:=h
    rfl
  · unfold sp_rdwG at h
    obtain ⟨a,z,F,W,ts,rfl,ha,hz,rw0,f4,k⟩:=h
    obtain ⟨t0,ts0,et⟩:=List.exists_cons_of_ne_nil rw0.ne
    have ln:=rw0.len
    have cut1:cutV (ts.map V.str) (some 1) (some ((1:Int)+(F:Int)))=((ts.drop 1).take F).map V.str:=by
      rw [show ((1:Int)+(F:Int))=((1+F:Nat):Int) by omega,show (some (1:Int))=some ((1:Nat):Int) from rfl,cut_mid _ (by omega),show 1+F - 1=F by omega,List.map_take,List.map_drop]
    have cut2:cutV (ts.map V.str) (some ((1:Int)+(F:Int))) none=(ts.drop (1+F)).map V.str:=by
      rw [show ((1:Int)+(F:Int))=((1+F:Nat):Int) by omega,cutV_lo,List.map_drop]
    have at0:atI (ts.map V.str) 0=some (V.str t0):=by rw [et]; exact atI_nat (j:=0) rfl
    have g0:ts[0]?=some t0:=by rw [et]; rfl
    refine ⟨_,(wss_cons (ws_set (i:=2) sc_read_worth.nd rfl (Or.inl rfl) (we_op op_add we_int (we_ix ix_seq (we_v 1) we_int (fun _ _=>rfl))))
      (wss_cons (ws_set (i:=3) sc_read_worth.nd rfl (Or.inl rfl) (we_fn F_read_counts (hr.mono (by decide)) (wa_k (we_slice (sl_listN K) (we_v 0) (wo_some we_int) (wo_some (we_v 2))) (wa_k (we_ix ix_seq (we_v 1) we_int (fun _ _=>rfl)) wa_nil))))
      (wss_cons (ws_set (i:=4) sc_read_worth.nd rfl (Or.inl rfl) (we_fn F_read_fractions (hr.mono (by decide)) (wa_k (we_slice (sl_listN K) (we_v 0) (wo_some (we_v 2)) wo_none) (wa_k we_int wa_nil))))
      (wss_cons (ws_if (wt_mono (wt_w (ww_or (wt_cmp op_ne (we_ix ix_seq (we_v 0) we_int (fun _ _=>rfl)) (we_glob (v:=.str (Str.ofString "worth")) rfl T.g_WORTH_WORD ⟨_,rfl⟩) (nomark _)) (ww_or (wt_cmp op_isN (we_v 3) we_non (nomark _)) (ww_or1 (wt_cmp op_isN (we_v 4) we_non (nomark _))))))) (wss_one (ws_ret we_non)) wss_nil)
      (wss_one (ws_ret (we_tup (wa_k (we_v 3) (wa_k (we_ix ix_seq (we_v 4) we_int (fun _ _=>rfl)) wa_nil))))))))),?_⟩
    refine ⟨_,rfl,?_⟩
    refine ixT hz rfl ?_
    refine ⟨_,_,rfl,rfl,?_⟩
    refine ⟨_,rfl,_,rfl,_,rfl,_,rfl,?_⟩
    refine slL (ys:=((ts.drop 1).take F).map V.str) ha cut1 fun q1 H1 hq1 e1 s1=>?_
    refine ⟨_,rfl,?_⟩
    refine ixT (s1 _ _ hz) rfl ?_
    refine sp_rdcG_i e1 (by rw [List.length_take]; omega) (fun t ht=>?_) fun v2 H2 s2 r2=>?_
    · have:=rw0.sz t (List.mem_of_mem_drop (List.mem_of_mem_take ht)); omega
    have s02:=s1.trans s2
    refine ⟨_,rfl,_,rfl,_,rfl,?_⟩
    refine slL (ys:=(ts.drop (1+F)).map V.str) (s02 _ _ ha) cut2 fun q3 H3 hq3 e3 s3=>?_
    have s03:=s02.trans s3
    refine sp_rdfG_i (m:=1) e3 (by rw [List.length_drop]; omega) (fun t ht=>?_) fun v4 H4 s4 r4=>?_
    · have:=rw0.sz t (List.mem_of_mem_drop ht); omega
    have s04:=s03.trans s4
    have r2':=optR_same r2 (s3.trans s4)
    refine ⟨fun b H'=>H'=H4∧b=(rdW F ts).isNone∧(b=false→∃ cs g,rdC ((ts.drop 1).take F) F=some cs∧rdFs (ts.drop (1+F)) 1=some [g]∧rdW F ts=some (cs,g)),?_,?_⟩
    · refine ⟨_,rfl,?_⟩
      refine ixL (s04 _ _ ha) at0 ?_
      refine ⟨rfl,_,rfl,?_⟩
      by_cases h0:t0=wWorth
      · refine iteFe (by rw [h0]; simp; rfl) ?_
        subst h0
        refine ⟨_,rfl,rfl,_,rfl,?_⟩
        cases hc:rdC ((ts.drop 1).take F) F with
        | none =>
          rw [hc] at r2'
          cases (show v2=.non from r2')
          refine iteTe (by simp) ?_
          exact ⟨rfl,by rw [rdW_c hc]; rfl,fun z=>by cases z⟩
        | some cs =>
          rw [hc] at r2'
          obtain ⟨d2,rfl,hd2⟩:=cnts_at (show Rep H4 (ctD cs) v2 from r2')
          refine iteFe (by simp) ?_
          refine ⟨_,rfl,rfl,_,rfl,rfl,?_⟩
          cases hs:rdFs (ts.drop (1+F)) 1 with
          | none =>
            rw [hs] at r4
            cases (show v4=.non from r4)
            exact ⟨by rw [rdW_s hs]; rfl,fun z=>by cases z⟩
          | some fs =>
            obtain ⟨g,rfl⟩:=rdFs_one hs
            rw [hs] at r4
            obtain ⟨d4,x4,rfl,hd4,rx4⟩:=shD_at (show Rep H4 (shD [g]) v4 from r4)
            have eo:=rdW_ok hc hs
            rw [if_pos g0] at eo
            rw [eo]
            exact ⟨by simp,fun _=>⟨cs,g,rfl,rfl,rfl⟩⟩
      · refine iteTe (by rw [decide_eq_false (fun z=>h0 (by injection z))]; rfl) ?_
        exact ⟨rfl,by rw [rdW_0 (fun z=>h0 (by rw [g0] at z; injection z))]; rfl,fun z=>by cases z⟩
    rintro b H5 ⟨rfl,hb,hb2⟩
    cases b with
    | true =>
      refine iteT ?_
      refine k _ H5 s04 ?_
      rw [Option.isNone_iff_eq_none.mp hb.symm]; rfl
    | false =>
      refine iteF ?_
      obtain ⟨cs,g,h1,h2,h3⟩:=hb2 rfl
      rw [h1] at r2'
      rw [h2] at r4
      obtain ⟨d4,x4,rfl,hd4,rx4⟩:=shD_at (show Rep H5 (shD [g]) v4 from r4)
      obtain ⟨x,hx,rx⟩:=reps_get' rx4 (i:=0) (f:=g) rfl
      refine ⟨_,rfl,_,rfl,?_⟩
      refine ixT hd4 (atI_nat (j:=0) hx) ?_
      refine nwT (by show 2≤64; decide) fun q6 H6 hq6 e6 s6=>?_
      refine k _ H6 (s04.trans s6) ?_
      rw [h3]
      exact Rep.tup e6 (RepL.cons ((show Rep H5 (ctD cs) v2 from r2').same s6) (RepL.cons (rx.same s6) RepL.nil))
end
end Kw
set_option Elab.async false
set_option linter.all false
set_option maxRecDepth 100000
namespace Kw
open PySem L2 Mf Mt
abbrev s_read_rest:Stmt:=(top 39)
theorem sc_read_rest:FnScope ["lines", "line", "sizes", "prices", "worths", "place", "worth"] ["lines", "line", "sizes"] (defScope s_read_rest):=⟨rfl,rfl,rfl,by decide +kernel,rfl,by decide +kernel,by decide +kernel⟩
abbrev s_read_paper:Stmt:=(top 37)
theorem sc_read_paper:FnScope ["lines", "sizes", "entries"] ["lines"] (defScope s_read_paper):=⟨rfl,rfl,rfl,by decide +kernel,rfl,by decide +kernel,by decide +kernel⟩
def wcat (xs:List (List Int × Fr)):Except Nat (List (List Int × Fr))→Except Nat (List (List Int × Fr))
  | .error l=>.error l
  | .ok zs=>.ok (xs++zs)
theorem wos_no {F p:Nat} {r:List Str} {rs:List (List Str)} (h:rdW F r=none):wos F (r::rs) p=.error p:=by unfold wos; rw [h]
theorem wos_yes {F p:Nat} {r:List Str} {rs:List (List Str)} {x:List Int × Fr} (h:rdW F r=some x):wos F (r::rs) p=wcat [x] (wos F rs (p+1)):=by
  conv=>lhs; unfold wos
  rw [h]
  cases wos F rs (p+1) <;> rfl
theorem wcat_wcat (xs ys:List (List Int × Fr)) (o:Except Nat (List (List Int × Fr))):wcat xs (wcat ys o)=wcat (xs++ys) o:=by
  cases o with
  | error l=>rfl
  | ok zs=>show Except.ok (xs++(ys++zs))=Except.ok (xs++ys++zs); rw [List.append_assoc]
theorem wo_flat (p:List Int × Fr):flatD (woD p)=true:=by
  show (flatD (ctD p.1)&&(flatD (frD p.2)&&true))=true
  rw [show flatD (ctD p.1)=true from ints_flat p.1,frD_flat]; rfl
theorem wos_flat:∀ es:List (List Int × Fr),flatDs (es.map woD)=true
  | []=>rfl
  | e::es=>by show (flatD (woD e)&&flatDs (es.map woD))=true; rw [wos_flat es,wo_flat]; rfl
@[irreducible] def sp_rest (C:Addr):Sp:=fun vs H Q E=>∃ (a z:Addr) (F W line:Nat) (rs:List (List Str)),vs=[.ref a,.int (line:Int),.ref z]∧H a=some (.lst ((rs.map lnOf).map V.str))∧H z=some (.tup [.int (F:Int),.int (W:Int)])∧(∀ r∈rs,RwK r)∧F≤4∧rs.length≤400∧line≤500∧(∀ l,rdRest F W rs line=.error l→Flt C l H E)∧∀ ps xs,rdRest F W rs line=.ok (ps,xs)→∀ v H',Same H H'→Rep H' (.tuple [shD ps,wsD xs]) v→Q v H'
theorem sp_rest_i {C:Addr} {H:Hp} {Q:VK} {E:XK} {a z:Addr} {F W line:Nat} {rs:List (List Str)} (h1:H a=some (.lst ((rs.map lnOf).map V.str))) (h2:H z=some (.tup [.int (F:Int),.int (W:Int)])) (h3:∀ r∈rs,RwK r) (f4:F≤4) (hl:rs.length≤400) (h5:line≤500) (e:∀ l,rdRest F W rs line=.error l→Flt C l H E) (k:∀ ps xs,rdRest F W rs line=.ok (ps,xs)→∀ v H',Same H H'→Rep H' (.tuple [shD ps,wsD xs]) v→Q v H'):sp_rest C [.ref a,.int (line:Int),.ref z] H Q E:=by
  unfold sp_rest; exact ⟨a,z,F,W,line,rs,rfl,h1,h2,h3,f4,hl,h5,e,k⟩
@[irreducible] def sp_pap (C:Addr):Sp:=fun vs H Q E=>∃ (a:Addr) (rs:List (List Str)),vs=[.ref a]∧H a=some (.lst ((rs.map lnOf).map V.str))∧(∀ r∈rs,RwK r)∧rs.length≤400∧(∀ l,rdPap rs=.error l→Flt C l H E)∧∀ d,rdPap rs=.ok d→∀ v H',Same H H'→Rep H' d v→Q v H'
theorem sp_pap_i {C:Addr} {H:Hp} {Q:VK} {E:XK} {a:Addr} {rs:List (List Str)} (h1:H a=some (.lst ((rs.map lnOf).map V.str))) (h3:∀ r∈rs,RwK r) (hl:rs.length≤400) (e:∀ l,rdPap rs=.error l→Flt C l H E) (k:∀ d,rdPap rs=.ok d→∀ v H',Same H H'→Rep H' d v→Q v H'):sp_pap C [.ref a] H Q E:=by
  unfold sp_pap; exact ⟨a,rs,rfl,h1,h3,hl,e,k⟩
section
variable {P:Program} {w:World} {K:PySem.W.Frag} {mg:Str→Option Value} {base:Heap} {c:Cl}
set_option maxHeartbeats 4000000 in
theorem ok_read_rest {f:Addr} {fd:FuncData} (F:Fun K "read_rest" "read_rest" s_read_rest f fd) (T:Txt K mg c) (F_NoLines___init__:FnI P w K mg base 1 c.NoLines ["self", "line"] (sp_iniN c.NoLines "line")) (F_read_prices:FnC CX0 P w K mg base 5 "read_prices" ["words", "sizes"] sp_rdpG) (F_read_worth:FnC CX0 P w K mg base 5 "read_worth" ["words", "sizes"] sp_rdwG):FnOk P w K mg base (CX1 P w) 6 f fd ["lines", "line", "sizes"] (sp_rest c.NoLines):=by
  refine F.okx sc_read_rest (fun vs H Q E h=>?_) (fun cdv A outer s H vs Q E hr h hx hmd=>?_)
  · unfold sp_rest at h
    obtain ⟨a,z,F,W,line,rs,rfl,_⟩:=h
    rfl
  · unfold sp_rest at h
    obtain ⟨a,z,F,W,line,rs,rfl,ha,hz,ok,f4,hl4,h5,e,k⟩:=h
    refine ⟨_,(wss_cons (ws_cut (ws_set (i:=3) sc_read_rest.nd rfl (Or.inl rfl) (we_ifExp (wt_cmp op_lt (we_v 1) (we_cB cl_len (by rfl) T.b_len (by decide +kernel) (wa_k (we_v 0) wa_nil)) (nomark _)) (we_fn F_read_prices (hr.mono (by decide)) (wa_k (we_bm PySem.F.plainAttrs_str PySem.F.slot_str_split PySem.F.type_str_split mt_split (we_ix ix_seq (we_v 0) (we_v 1) (fun _ _=>rfl)) (wa_k we_str wa_nil)) (wa_k (we_v 2) wa_nil))) we_non)))
      (wss_cons (ws_if (wt_cmp op_isN (we_v 3) we_non (nomark _)) (wss_one (ws_raiseX F_NoLines___init__ T.g_NoLines rfl (hr.mono (by decide)) xmadeG_fn (wa_k (we_v 1) wa_nil))) wss_nil)
      (wss_cons (ws_set (i:=4) sc_read_rest.nd rfl (Or.inl rfl) (we_lst wa_nil))
      (wss_cons (ws_for PassesOwn.leaving rfl (wi_range2 rfl T.b_range (wa_k (we_op op_add (we_v 1) we_int) (wa_k (we_cB cl_len (by rfl) T.b_len (by decide +kernel) (wa_k (we_v 0) wa_nil)) wa_nil))) (wg_name (i:=5) sc_read_rest.nd rfl (Or.inl rfl)) (wss_cons (ws_set (i:=6) sc_read_rest.nd rfl (Or.inl rfl) (we_fn F_read_worth (hr.mono (by decide)) (wa_k (we_bm PySem.F.plainAttrs_str PySem.F.slot_str_split PySem.F.type_str_split mt_split (we_ix ix_seq (we_v 0) (we_v 5) (fun _ _=>rfl)) (wa_k we_str wa_nil)) (wa_k (we_v 2) wa_nil))))
      (wss_cons (ws_if (wt_cmp op_isN (we_v 6) we_non (nomark _)) (wss_one (ws_raiseX F_NoLines___init__ T.g_NoLines rfl (hr.mono (by decide)) xmadeG_fn (wa_k (we_v 5) wa_nil))) wss_nil)
      (wss_one (ws_expr (we_bm PySem.F.plainAttrs_list PySem.F.slot_list_append PySem.F.type_list_append mt_app (we_v 4) (wa_k (we_v 6) wa_nil)))))))
      (wss_one (ws_ret (we_tup (wa_k (we_v 3) (wa_k (we_cT call_tuple_of (by rfl) T.b_tuple (by decide +kernel) (wa_k (we_v 4) wa_nil)) wa_nil))))))))),?_⟩
    refine ⟨fun σ H'=>∃ v,σ=[some (.ref a),some (.int (line:Int)),some (.ref z),some v,none,none,none]∧Same H H'∧OptR H' (((rs[line]?).bind (rdP W)).map shD) v,?_,?_⟩
    case refine_2 =>
      refine ⟨_,rfl,_,rfl,?_⟩
      refine rlL ha ?_
      rw [List.length_map,List.length_map]
      refine ⟨_,_,rfl,rfl,_,rfl,?_⟩
      refine iteD (fun hi=>?_) (fun hi=>?_)
      · have hi:line<rs.length:=by omega
        obtain ⟨r,hr⟩:∃ r,rs[line]?=some r:=⟨_,List.getElem?_eq_getElem hi⟩
        have okr:=ok r (List.mem_of_getElem? hr)
        have ll:=okr.ll
        have lr:=okr.len
        have sb:=okr.back
        refine ⟨_,rfl,_,rfl,?_⟩
        refine ixL ha (v:=.str (lnOf r)) (atI_nat (by rw [List.getElem?_map,List.getElem?_map,hr]; rfl)) ?_
        refine ⟨rfl,?_⟩
        refine rsplit (b:=bk) (by decide +kernel) (lineM (by omega)) (by rw [sb]; exact lineM (by omega)) fun p1 H1 hp1 e1 s1=>?_
        rw [sb] at e1
        refine ⟨_,rfl,?_⟩
        refine sp_rdpG_i e1 (s1 _ _ hz) okr fun v H2 s2 r2=>?_
        exact ⟨v,rfl,s1.trans s2,by rw [hr]; exact r2⟩
      · refine ⟨_,rfl,Same.refl _,?_⟩
        rw [List.getElem?_eq_none (by omega)]; rfl
    rintro σ H1 ⟨v,rfl,s1,r1⟩
    refine ⟨_,rfl,rfl,_,rfl,?_⟩
    cases hp:(rs[line]?).bind (rdP W) with
    | none =>
      rw [hp] at r1
      cases (show v=.non from r1)
      refine iteTe (by simp) ?_
      refine ⟨_,rfl,?_⟩
      refine rz37 ((e line ?_).same s1)
      unfold rdRest; rw [hp]
    | some ps =>
      rw [hp] at r1
      obtain ⟨d1,x1,rfl,hd1,rx1⟩:=shD_at (show Rep H1 (shD ps) v from r1)
      refine iteFe (by simp) ?_
      have hlt:line<rs.length:=by
        refine Classical.byContradiction fun z=>?_
        rw [List.getElem?_eq_none (by omega)] at hp; cases hp
      have eR:∀ o,wos F (rs.drop (line+1)) (line+1)=o→rdRest F W rs line=match o with | .error l=>.error l | .ok xs=>.ok (ps,xs):=fun o ho=>by unfold rdRest; rw [hp,ho]; first | done | rfl
      refine nwL (by show 0≤64; decide) fun L H2 hL e2 s2=>?_
      have s02:=s1.trans s2
      refine ⟨_,rfl,_,_,rfl,rfl,?_⟩
      refine ⟨_,rfl,?_⟩
      refine rlL (s02 _ _ ha) ?_
      rw [List.length_map,List.length_map]
      refine ⟨_,_,rfl,⟨by show (_:Int)≤(line:Int)+1; omega,by show (line:Int)+1<_; omega,by omega,by omega⟩,?_⟩
      rw [show (((rs.length:Nat):Int) - ((line:Int)+1)).toNat=rs.length - (line+1) by omega]
      refine for_range (fun i σ H'=>∃ (o5 o6:Option V) (ys:List V) (xs:List (List Int × Fr)),σ=[some (.ref a),some (.int (line:Int)),some (.ref z),some (.ref d1),some (.ref L),o5,o6]∧Same H H'∧H' d1=some (.tup x1)∧RepL H' (ps.map frD) x1∧H' L=some (.lst ys)∧RepL H' (xs.map woD) ys∧xs.length=i∧wos F (rs.drop (line+1)) (line+1)=wcat xs (wos F (rs.drop (line+1+i)) (line+1+i))) ⟨_,_,[],[],rfl,s02,s2 _ _ hd1,rx1.same s2,e2,RepL.nil,rfl,?_⟩ ?_ ?_
      · show _=wcat [] (wos F (rs.drop (line+1)) (line+1))
        cases wos F (rs.drop (line+1)) (line+1) <;> rfl
      · rintro i σ H3 hi ⟨o5,o6,ys,xs,rfl,s3,e3,rx3,eL3,r3,hxl,hw⟩
        have hi':line+1+i<rs.length:=by omega
        obtain ⟨r,hr⟩:∃ r,rs[line+1+i]?=some r:=⟨_,List.getElem?_eq_getElem hi'⟩
        have okr:=ok r (List.mem_of_getElem? hr)
        have ll:=okr.ll
        have lr:=okr.len
        have sb:=okr.back
        have lys:=reps_len r3
        have dr:rs.drop (line+1+i)=r::rs.drop (line+1+i+1):=by
          rw [List.drop_eq_getElem_cons hi']
          congr 1
          exact (List.getElem?_eq_some_iff.mp hr).2
        refine ⟨_,rfl,_,rfl,?_⟩
        refine ixL (s3 _ _ ha) (v:=.str (lnOf r)) (by
          rw [show ((line:Int)+1+(i:Int))=((line+1+i:Nat):Int) by omega]
          exact atI_nat (by rw [List.getElem?_map,List.getElem?_map,hr]; rfl)) ?_
        refine ⟨rfl,?_⟩
        refine rsplit (b:=bk) (by decide +kernel) (lineM (by omega)) (by rw [sb]; exact lineM (by omega)) fun p1 H4 hp1 e4 s4=>?_
        rw [sb] at e4
        refine ⟨_,rfl,?_⟩
        refine sp_rdwG_i e4 (s4 _ _ (s3 _ _ hz)) okr f4 fun v5 H5 s5 r5=>?_
        have s35:=s4.trans s5
        refine ⟨_,rfl,rfl,_,rfl,?_⟩
        cases hW:rdW F r with
        | none =>
          rw [hW] at r5
          cases (show v5=.non from r5)
          refine iteTe (by simp) ?_
          refine ⟨_,rfl,?_⟩
          rw [dr,wos_no hW] at hw
          have eE:=eR _ hw
          rw [show ((line:Int)+1+(i:Int))=((line+1+i:Nat):Int) by omega]
          exact rz37 ((e _ eE).same (s3.trans s35))
        | some x =>
          rw [hW] at r5
          obtain ⟨d5,x5,rfl,hd5,rx5⟩:=tup_at (show Rep H5 (woD x) v5 from r5)
          refine iteFe (by simp) ?_
          refine ⟨_,rfl,tyL (s35 _ _ eL3),_,rfl,?_⟩
          refine appL (s35 _ _ eL3) (by omega) fun H6 e6 b6=>?_
          have t6:=b6.t (s35 _ _ eL3)
          have hL0:H L=none:=s1.free hL
          have nL:d1≠L:=fun z=>by rw [z,hL] at hd1; cases hd1
          refine ⟨_,_,_,xs++[x],rfl,Same.thru hL0 (s3.trans s35) b6,b6.at nL (s35 _ _ e3),(rx3.same s35).flat t6 (frs_flat _),e6,?_,?_,?_⟩
          · rw [List.map_append]
            exact RepL.snoc ((r3.same s35).flat t6 (wos_flat _)) ((show Rep H5 (woD x) (.ref d5) from r5).flat t6 (wo_flat _))
          · rw [List.length_append,List.length_singleton]; omega
          · rw [hw,dr,wos_yes hW,wcat_wcat]; rfl
      · rintro σ H3 ⟨o5,o6,ys,xs,rfl,s3,e3,rx3,eL3,r3,hxl,hw⟩
        rw [show line+1+(rs.length - (line+1))=rs.length by omega,List.drop_length] at hw
        have hw:wos F (rs.drop (line+1)) (line+1)=.ok xs:=by
          rw [hw]
          show wcat xs (.ok [])=_
          show Except.ok (xs++[])=_
          rw [List.append_nil]
        have eE:=eR _ hw
        refine ⟨_,rfl,_,rfl,?_⟩
        refine ⟨L,_,rfl,.inl ⟨SqL.of eL3,fun l hl=>?_⟩⟩
        have sl:=Same.upd (o:=.tup ys) hl
        have el:(upd H3 l (.tup ys)) l=some (.tup ys):=upd_same
        generalize upd H3 l (.tup ys)=H4 at sl el
        refine nwT (by show 2≤64; decide) fun q5 H5 hq5 e5 s5=>?_
        refine k ps xs eE _ H5 ((s3.trans sl).trans s5) ?_
        exact Rep.tup e5 (RepL.cons (Rep.tup (s5 _ _ (sl _ _ e3)) ((rx3.same sl).same s5)) (RepL.cons (Rep.tup (s5 _ _ el) ((r3.same sl).same s5)) RepL.nil))
set_option maxHeartbeats 4000000 in
theorem ok_read_paper {f:Addr} {fd:FuncData} (F:Fun K "read_paper" "read_paper" s_read_paper f fd) (T:Txt K mg c) (F_has_rule:FnC CX0 P w K mg base 1 "has_rule" ["lines"] sp_hasr) (F_read_head:FnC (CX1 P w) P w K mg base 4 "read_head" ["lines", "words"] (sp_rdhP c.NoLines)) (F_entries_behind:FnC CX0 P w K mg base 6 "entries_behind" ["lines", "line", "sizes"] sp_ebhG) (F_read_rest:FnC (CX1 P w) P w K mg base 6 "read_rest" ["lines", "line", "sizes"] (sp_rest c.NoLines)):FnOk P w K mg base (CX1 P w) 7 f fd ["lines"] (sp_pap c.NoLines):=by
  refine F.okx sc_read_paper (fun vs H Q E h=>?_) (fun cdv A outer s H vs Q E hr h hx hmd=>?_)
  · unfold sp_pap at h
    obtain ⟨a,rs,rfl,_⟩:=h
    rfl
  · unfold sp_pap at h
    obtain ⟨a,rs,rfl,ha,ok,hl,e,k⟩:=h
    refine ⟨_,(wss_cons (ws_if (wt_val (we_fn F_has_rule (hr.mono (by decide)) (wa_k (we_v 0) wa_nil))) (wss_cons (ws_set (i:=1) sc_read_paper.nd rfl (Or.inl rfl) (we_fnX F_read_head (hr.mono (by decide)) hx (wa_k (we_v 0) (wa_k (we_lst (wa_k (we_glob (v:=.str (Str.ofString "paper")) rfl T.g_PAPER_WORD ⟨_,rfl⟩) (wa_k we_str wa_nil))) wa_nil))))
      (wss_cons (ws_set (i:=2) sc_read_paper.nd rfl (Or.inl rfl) (we_fn F_entries_behind (hr.mono (by decide)) (wa_k (we_v 0) (wa_k we_int (wa_k (we_v 1) wa_nil)))))
      (wss_one (ws_ret (we_op (op_catU K) (we_tup (wa_k we_str (wa_k (we_v 2) wa_nil))) (we_fnX F_read_rest (hr.mono (by decide)) hx (wa_k (we_v 0) (wa_k (we_op op_add we_int (we_cB cl_len (by rfl) T.b_len (by decide +kernel) (wa_k (we_v 2) wa_nil))) (wa_k (we_v 1) wa_nil))))))))) wss_nil)
      (wss_cons (ws_set (i:=1) sc_read_paper.nd rfl (Or.inl rfl) (we_fnX F_read_head (hr.mono (by decide)) hx (wa_k (we_v 0) (wa_k (we_lst (wa_k (we_glob (v:=.str (Str.ofString "paper")) rfl T.g_PAPER_WORD ⟨_,rfl⟩) (wa_k we_str wa_nil))) wa_nil))))
      (wss_one (ws_ret (we_op (op_catU K) (we_tup (wa_k we_str wa_nil)) (we_fnX F_read_rest (hr.mono (by decide)) hx (wa_k (we_v 0) (wa_k we_int (wa_k (we_v 1) wa_nil))))))))),?_⟩
    refine ⟨_,rfl,?_⟩
    refine sp_hasr_i ha ok fun H1 s1=>?_
    refine ⟨_,rfl,?_⟩
    cases hR:hasR rs with
    | true =>
      refine iteT ?_
      refine ⟨_,rfl,?_⟩
      refine nwL (by show 2≤64; decide) fun q2 H2 hq2 e2 s2=>?_
      have s02:=s1.trans s2
      refine sp_rdhP_i (x:=wRule) (s02 _ _ ha) e2 (by unfold lowS; decide +kernel) ok (fun h0=>?_) fun F W hFW v3 H3 s3 e3=>?_
      · refine (e 0 ?_).same s02
        unfold rdPap; rw [if_pos hR,h0]
      obtain ⟨f2,f4,w2,w4⟩:=hdW_in hFW
      have s03:=s02.trans s3
      obtain ⟨r,rest,rfl⟩:∃ r rest,rs=r::rest:=by
        cases rs with
        | nil=>cases hFW
        | cons r rest=>exact ⟨r,rest,rfl⟩
      refine ⟨_,rfl,_,rfl,?_⟩
      refine sp_ebhG_i (s03 _ _ ha) e3 (fun x hx=>ok x (List.mem_cons_of_mem _ hx)) f4 w4 (by rw [List.length_cons] at hl; omega) fun v4 H4 s4 r4=>?_
      obtain ⟨d4,x4,rfl,hd4,rx4⟩:=tup_at r4
      have s04:=s03.trans s4
      have lx:=reps_len rx4
      have le:=ens_le F W rest
      rw [List.length_cons] at hl
      have eP:rdPap (r::rest)=match rdRest F W (r::rest) (1+(ens F W rest).length) with | .error l=>.error l | .ok (ps,xs)=>.ok (.tuple [.str wRule,ruD (ens F W rest),shD ps,wsD xs]):=by
        unfold rdPap; rw [if_pos hR,hFW]; rfl
      refine ⟨_,rfl,?_⟩
      refine nwT (by show 2≤64; decide) fun q5 H5 hq5 e5 s5=>?_
      refine ⟨_,rfl,_,rfl,?_⟩
      refine rlT (s5 _ _ hd4) ?_
      rw [lx]
      refine ⟨_,_,rfl,rfl,?_⟩
      refine ⟨_,rfl,?_⟩
      have eL:((fun i j=>V.int (i+j)) (1:Int) ((ens F W rest).length:Int))=V.int ((1+(ens F W rest).length:Nat):Int):=by show V.int (1+((ens F W rest).length:Int))=_; congr 1
      rw [eL]
      have s05:=s04.trans s5
      refine sp_rest_i (s05 _ _ ha) (s5 _ _ (s4 _ _ e3)) ok f4 (by rw [List.length_cons]; omega) (by omega) (fun l hE=>?_) fun ps xs hO v6 H6 s6 r6=>?_
      · refine (e l ?_).same s05
        rw [eP,hE]
      obtain ⟨d6,x6,rfl,hd6,rx6⟩:=tup_at r6
      have l6:x6.length=2:=by rw [rx6.len]; rfl
      refine catU (s6 _ _ e5) hd6 (by rw [l6]; show 2+2≤1000; decide) fun q7 H7 s7 e7=>?_
      have S7:=(s5.trans s6).trans s7
      refine k _ (by rw [eP,hO]) _ H7 (s04.trans S7) ?_
      obtain ⟨y1,y2,rfl,ry1,ry2⟩:=RepL_two rx6
      exact Rep.tup e7 (RepL.cons (Rep.str _) (RepL.cons ((show Rep H4 (ruD (ens F W rest)) (.ref d4) from r4).same S7) (RepL.cons (ry1.same s7) (RepL.cons (ry2.same s7) RepL.nil))))
    | false =>
      refine iteF ?_
      refine ⟨_,rfl,?_⟩
      refine nwL (by show 2≤64; decide) fun q2 H2 hq2 e2 s2=>?_
      have s02:=s1.trans s2
      have nR:¬ hasR rs=true:=by rw [hR]; decide
      refine sp_rdhP_i (x:=wNone) (s02 _ _ ha) e2 (by unfold lowS; decide +kernel) ok (fun h0=>?_) fun F W hFW v3 H3 s3 e3=>?_
      · refine (e 0 ?_).same s02
        unfold rdPap; rw [if_neg nR,h0]
      obtain ⟨f2,f4,w2,w4⟩:=hdW_in hFW
      have s03:=s02.trans s3
      have eP:rdPap rs=match rdRest F W rs 1 with | .error l=>.error l | .ok (ps,xs)=>.ok (.tuple [.str wNone,shD ps,wsD xs]):=by
        unfold rdPap; rw [if_neg nR,hFW]; first | done | rfl
      refine nwT (by show 1≤64; decide) fun q5 H5 hq5 e5 s5=>?_
      refine ⟨_,rfl,_,rfl,?_⟩
      have s05:=s03.trans s5
      refine sp_rest_i (line:=1) (s05 _ _ ha) (s5 _ _ e3) ok f4 hl (by decide) (fun l hE=>?_) fun ps xs hO v6 H6 s6 r6=>?_
      · refine (e l ?_).same s05
        rw [eP,hE]
      obtain ⟨d6,x6,rfl,hd6,rx6⟩:=tup_at r6
      have l6:x6.length=2:=by rw [rx6.len]; rfl
      refine catU (s6 _ _ e5) hd6 (by rw [l6]; show 1+2≤1000; decide) fun q7 H7 s7 e7=>?_
      refine k _ (by rw [eP,hO]) _ H7 ((s05.trans s6).trans s7) ?_
      obtain ⟨y1,y2,rfl,ry1,ry2⟩:=RepL_two rx6
      exact Rep.tup e7 (RepL.cons (Rep.str _) (RepL.cons (ry1.same s7) (RepL.cons (ry2.same s7) RepL.nil)))
end
end Kw
set_option Elab.async false
set_option linter.all false
set_option maxRecDepth 100000
namespace Kw
open PySem L2 Mf Mt
abbrev s__law_whole:Stmt:=(top 50)
theorem sc__law_whole:FnScope ["_law_word"] ["_law_word"] (defScope s__law_whole):=⟨rfl,rfl,rfl,by decide +kernel,rfl,by decide +kernel,by decide +kernel⟩
def lgB (t:Str):Bool:=wrB t&&decide (t.length≤4000)
def lgN (t:Str):Option Nat:=if lgB t=true then some (val t) else none
theorem lgB_eq (t:Str):lgB t=(decide (1≤t.length)&&decide (t.length≤4000)&&figs t && !(decide (t.cps.toList.head?=some 48) && !decide (t=zero))):=by
  unfold lgB wrB
  have e:(!t.cps.toList.isEmpty)=decide (1≤t.length):=by
    rw [← len_toList]
    cases t.cps.toList <;> simp
  rw [e]
  cases decide (1≤t.length) <;> cases decide (t.length≤4000) <;> cases figs t <;> simp
theorem rd_pl {t:Str} (h:neg t=false):rd t=(lgN t).map Int.ofNat:=by
  have hf:fg t=t:=by unfold fg; rw [h]; rfl
  have hb:rdB t=lgB t:=by unfold rdB; rw [hf,lgB_eq]
  unfold rd lgN rdV
  rw [hb,hf,h]
  cases lgB t <;> rfl
theorem val_zero:val zero=0:=by decide +kernel
theorem neg_ne {t:Str} (h:neg t=true):t≠zero:=fun z=>by
  rw [z] at h; exact absurd h (by decide +kernel)
theorem lg_pos {t:Str} (h:lgB t=true):val t=0↔t=zero:=by
  refine ⟨fun e=>?_,fun e=>by rw [e]; exact val_zero⟩
  have hw:wrB t=true:=by unfold lgB at h; rw [Bool.and_eq_true] at h; exact h.1
  unfold wrB at hw
  simp only [Bool.and_eq_true,Bool.not_eq_true',Bool.and_eq_false_iff,decide_eq_false_iff_not] at hw
  obtain ⟨⟨h1,h2⟩,h3⟩:=hw
  rcases h3 with h3 | h3
  · cases q:t.cps.toList with
    | nil=>rw [q] at h1; cases h1
    | cons x r =>
      rw [q] at h3
      have hx:x≠48:=fun z=>h3 (by rw [z]; rfl)
      have ha:=figs_all h2
      rw [q] at ha
      have hd:=ha.head
      have e2:val t=(x - 48)*10^r.length+NumText.digitsVal r:=by
        show NumText.digitsVal t.cps.toList=_
        rw [q]
        have:=dv_from r (0*10+(x - 48))
        have e3:NumText.digitsVal (x::r)=List.foldl (fun acc c=>acc*10+(c - 48)) (0*10+(x - 48)) r:=rfl
        rw [e3,this,Nat.zero_mul,Nat.zero_add]
      have h4:1*10^r.length≤(x - 48)*10^r.length:=Nat.mul_le_mul_right _ (by omega)
      have h5:0<10^r.length:=Nat.pow_pos (by decide)
      omega
  · simpa using h3
theorem rd_ng {t:Str} (h:neg t=true):rd t=match lgN (fg t) with | some 0=>none | some n=>some (-(n:Int)) | none=>none:=by
  have hz:=neg_ne h
  have hb:rdB t=(lgB (fg t) && !decide (fg t=zero)):=by
    unfold rdB
    rw [lgB_eq,decide_eq_false hz]
    by_cases z:fg t=zero
    · rw [z]; decide +kernel
    · rw [decide_eq_false z]
      simp
  unfold rd lgN rdV
  rw [hb,h]
  cases hl:lgB (fg t) with
  | false=>rfl
  | true =>
    by_cases z:fg t=zero
    · rw [decide_eq_true z,z,val_zero]; rfl
    · have hv:val (fg t)≠0:=fun e=>z ((lg_pos hl).mp e)
      rw [decide_eq_false z]
      cases hq:val (fg t) with
      | zero=>exact absurd hq hv
      | succ n=>rfl
theorem lg_neg {t:Str} (h:neg t=true):lgN t=none:=by
  unfold lgN
  rw [if_neg]
  intro hb
  rw [lgB_eq] at hb
  simp only [Bool.and_eq_true] at hb
  have hf:=hb.1.2
  have hh:t.cps.toList.head?=some 45:=of_decide_eq_true h
  cases q:t.cps.toList with
  | nil=>rw [q] at hh; cases hh
  | cons x r =>
    rw [q] at hh
    have hx:x=45:=by injection hh
    unfold figs at hf
    rw [q,List.all_cons,Bool.and_eq_true,hx] at hf
    exact absurd hf.1 (by decide)
def sg (b:Bool) (n:Nat):Int:=if b=true then -(n:Int) else (n:Int)
theorem rdF_long {l:List (Option Int)} (h:2<l.length):rdF l=none:=by
  match l,h with
  | x::y::_::_,_=>cases x <;> cases y <;> rfl
theorem rdF_d {o:Option Int} {p:Str} (h:lgN p=none):rdF [o,rd p]=none:=by
  cases hn:neg p with
  | true =>
    rw [rd_ng hn]
    cases o with
    | none=>cases (match lgN (fg p) with | some 0=>none | some n=>some (-(n:Int)) | none=>none:Option Int) <;> rfl
    | some n =>
      cases lgN (fg p) with
      | none=>rfl
      | some m =>
        cases m with
        | zero=>rfl
        | succ m =>
          show (if (!decide (-((m+1:Nat):Int)=1)&&(decide (1≤-((m+1:Nat):Int))&&decide (Int.gcd n (-((m+1:Nat):Int))=1)))=true then some (n,-((m+1:Nat):Int)) else none)=none
          rw [decide_eq_false (show ¬ 1≤-((m+1:Nat):Int) by omega),Bool.false_and,Bool.and_false]; rfl
  | false =>
    rw [rd_pl hn,h]
    cases o <;> rfl
def sgD (l:List Nat):PyData:=.list (l.map fun x=>PyData.str ⟨#[x]⟩)
theorem sg_rep {H:Hp}:∀ l:List Nat,RepL H (l.map fun x=>PyData.str ⟨#[x]⟩) (l.map fun x=>V.str ⟨#[x]⟩)
  | []=>RepL.nil
  | _::r=>RepL.cons (Rep.str _) (sg_rep r)
theorem one_ok {x:Nat} (h:x<128):PyData.canLay0 (.str ⟨#[x]⟩)=true:=by
  have:∀ y:Nat,y<128→PyData.canLay0 (.str ⟨#[y]⟩)=true:=by decide +kernel
  exact this x h
theorem sg_lay:∀ l:List Nat,(∀ x∈l,x<128)→PyData.canLayAll0 (l.map fun x=>PyData.str ⟨#[x]⟩)=true
  | [],_=>rfl
  | x::r,h=>by
    show (PyData.canLay0 (.str ⟨#[x]⟩)&&PyData.canLayAll0 (r.map fun x=>PyData.str ⟨#[x]⟩))=true
    rw [sg_lay r (fun y hy=>h y (List.mem_cons_of_mem _ hy)),one_ok (h x List.mem_cons_self)]
    rfl
theorem sg_depth:∀ l:List Nat,PyData.depthAll (l.map fun x=>PyData.str ⟨#[x]⟩)=0
  | []=>rfl
  | x::r=>by
    show max 0 (PyData.depthAll (r.map fun x=>PyData.str ⟨#[x]⟩))=0
    rw [sg_depth r]
    rfl
theorem sg_shaped (l:List Nat) (h:∀ x∈l,x<128):SeqAt.shaped (sgD l)=true:=by
  unfold SeqAt.shaped
  rw [Bool.and_eq_true]
  refine ⟨sg_lay l h,decide_eq_true ?_⟩
  show PyData.depthAll (l.map fun x=>PyData.str ⟨#[x]⟩)+1≤64
  rw [sg_depth]
  decide
theorem sg_eqv (l:List Nat):PyData.eqv (sgD l) (.list [])=l.isEmpty:=by
  cases l <;> rfl
theorem part_low37 {t p:Str} (lo:(∀ x∈t.cps.toList,x<128)) (h:p∈words t):∀ x∈p.cps.toList,x<128:=by
  have hj:=StrLaws.join_split t sl
  intro x hx
  refine lo x ?_
  rw [← hj]
  have:∀ l:List Str,p∈l→x∈(Str.join sl l).cps.toList:=by
    intro l
    induction l with
    | nil=>intro h; cases h
    | cons a r ih =>
      intro h
      cases r with
      | nil =>
        rcases List.mem_cons.mp h with rfl | h
        · exact hx
        · cases h
      | cons b r =>
        rw [join2]
        rcases List.mem_cons.mp h with rfl | h
        · exact List.mem_append_left _ hx
        · exact List.mem_append_right _ (List.mem_cons_of_mem _ (ih h))
  exact this _ h
theorem dv_lt:∀ {l:List Nat},NumText.AllDigits l→NumText.digitsVal l<10^l.length
  | [],_=>by decide
  | x::r,h=>by
    have h1:=dv_lt h.tail
    have h2:=h.head
    have e:NumText.digitsVal (x::r)=(x - 48)*10^r.length+NumText.digitsVal r:=by
      have:=dv_from r (0*10+(x - 48))
      have e2:NumText.digitsVal (x::r)=List.foldl (fun acc c=>acc*10+(c - 48)) (0*10+(x - 48)) r:=rfl
      rw [e2,this,Nat.zero_mul,Nat.zero_add]
    rw [e,List.length_cons,Nat.pow_succ]
    have h3:(x - 48)*10^r.length≤9*10^r.length:=Nat.mul_le_mul_right _ (by omega)
    omega
theorem lw_self {n d:Int} (h:0<d):decide (lw n d=(n,d))=decide (Int.gcd n d=1):=by
  refine decide_eq_decide.mpr ⟨fun e=>?_,fun e=>?_⟩
  · have:=(lw_low (n:=n) h).low
    rw [e] at this
    exact this
  · unfold lw
    rw [e]
    simp
def opFr (o:Option Fr):PyData:=match o with | some g=>frD g | none=>.none
theorem lgB_len {t:Str} (h:lgB t=true):t.length≤4000∧figs t=true∧t.cps.toList≠[]:=by
  rw [lgB_eq] at h
  simp only [Bool.and_eq_true,decide_eq_true_eq] at h
  refine ⟨h.1.1.2,h.1.2,fun z=>?_⟩
  have:=h.1.1.1
  rw [← len_toList,z] at this
  exact absurd this (by decide)
theorem p2500 {t:Str} (h:figs t=true) (z:t.length≤2500):val t<2^9000:=by
  have h1:val t<10^t.length:=by
    have:=dv_lt (figs_all h)
    rw [len_toList] at this
    exact this
  have h2:10^t.length≤10^2500:=Nat.pow_le_pow_right (by decide) z
  have h3:10^2500≤2^9000:=by decide +kernel
  exact Nat.lt_of_lt_of_le h1 (Nat.le_trans h2 h3)
theorem slice1 (t:Str):(Txt.slice t none (some 1)).cps.toList=t.cps.toList.take 1:=by
  by_cases h:1≤t.length
  · exact slice_to (by decide) (by omega)
  · have:t=Str.ofString "" := str_ext (by
      have:t.cps.toList.length=0:=by rw [len_toList]; omega
      rw [List.length_eq_zero_iff.mp this]; rfl)
    rw [this]; decide +kernel
theorem eqv_s0 (l:List Str):PyData.eqv (.list (l.map PyData.str)) (.list [])=l.isEmpty:=by
  cases l <;> rfl
theorem geB_eq (t:Str):geB (rd t)=lgB t:=by
  cases hn:neg t with
  | true =>
    have h1:=lg_neg hn
    have h2:lgB t=false:=by
      unfold lgN at h1
      cases q:lgB t with
      | false=>rfl
      | true=>rw [q] at h1; cases h1
    rw [h2,rd_ng hn]
    cases lgN (fg t) with
    | none=>rfl
    | some n =>
      cases n with
      | zero=>rfl
      | succ n=>exact decide_eq_false (show ¬ (0:Int)≤-((n+1:Nat):Int) by omega)
  | false =>
    rw [rd_pl hn]
    unfold lgN
    cases lgB t with
    | false=>rfl
    | true=>exact decide_eq_true (show (0:Int)≤((val t:Nat):Int) by omega)
theorem rdC_eq {ts:List Str} {m:Nat} (hl:ts.length=m):rdC ts m=if ts.all lgB=true then some (ts.map fun t=>((val t:Nat):Int)) else none:=by
  unfold rdC
  have e:(ts.map rd).all geB=ts.all lgB:=by
    rw [List.all_map]
    congr 1
    funext t
    exact geB_eq t
  rw [e]
  by_cases h:ts.all lgB=true
  · rw [if_pos ⟨hl,h⟩,if_pos h,List.map_map]
    congr 1
    refine List.map_congr_left fun t ht=>?_
    have hb:=List.all_eq_true.mp h t ht
    have hn:neg t=false:=by
      cases q:neg t with
      | false=>rfl
      | true =>
        have:=lg_neg q
        unfold lgN at this
        rw [hb] at this; cases this
    show (rd t).getD 0=_
    rw [rd_pl hn]
    unfold lgN
    rw [hb]; rfl
  · rw [if_neg (fun z=>h z.2),if_neg h]
theorem rdE_len {F W:Nat} {ts:List Str} (h:ts.length≠3+F+W):rdE F W ts=none:=by
  refine rdE_s ?_
  unfold rdFs
  rw [if_neg]
  rw [List.length_drop]
  omega
theorem rdE_1 {F W:Nat} {ts:List Str} (h:¬ ts[F+1]?=some wSay):rdE F W ts=none:=by
  unfold rdE
  cases rdC ((ts.drop 1).take F) F with
  | none=>rfl
  | some cs=>cases rdFs (ts.drop (F+2)) (1+W) with
    | none=>rfl
    | some fs=>exact if_neg fun z=>h z.2
theorem any_non {ts:List Str}:((ts.map fun t=>opFr (rdT t)).any nonD)=(rdS ts).isNone:=by
  cases q:(ts.map fun t=>opFr (rdT t)).any nonD with
  | true =>
    rw [List.any_eq_true] at q
    obtain ⟨d,hd,h⟩:=q
    obtain ⟨t,ht,rfl⟩:=List.mem_map.mp hd
    have:rdT t=none:=by
      cases z:rdT t with
      | none=>rfl
      | some g=>rw [z] at h; cases h
    rw [rdS_none ht this]; rfl
  | false =>
    rw [rdS_some]; rfl
    intro t ht
    have:=List.any_eq_false.mp q _ (List.mem_map.mpr ⟨t,ht,rfl⟩)
    cases z:rdT t with
    | some g=>rfl
    | none=>rw [z] at this; exact absurd rfl this
theorem opFr_flat (o:Option Fr):flatD (opFr o)=true:=by
  cases o with
  | none=>rfl
  | some g=>exact frD_flat g
theorem opFr_lay (o:Option Fr):PyData.canLay0 (opFr o)=true:=by
  cases o with
  | none=>rfl
  | some g=>exact (Shp.tup (n:=1) fun d hd=>by
      simp only [List.mem_cons,List.not_mem_nil,or_false] at hd
      rcases hd with rfl | rfl
      · exact Shp.int _
      · exact Shp.int _).1
theorem fr_shaped (f:Fr):SeqAt.shaped (frD f)=true:=(Shp.tup (n:=1) fun d hd=>by
  simp only [List.mem_cons,List.not_mem_nil,or_false] at hd
  rcases hd with rfl | rfl
  · exact Shp.int _
  · exact Shp.int _).ok
def ngV:Option Nat→V
  | none=>.non
  | some n=>.int (n:Int)
def ngD:Option Nat→PyData
  | none=>.none
  | some n=>.int (n:Int)
theorem ng_rep {H:Hp}:∀ o:Option Nat,Rep H (ngD o) (ngV o)
  | none=>Rep.non
  | some n=>Rep.int _
@[irreducible] def sp_lwh:Sp:=fun vs H Q _=>∃ t,vs=[.str t]∧t.length≤4000∧(∀ x∈t.cps.toList,x<128)∧∀ H',Same H H'→Q (ngV (lgN t)) H'
theorem sp_lwh_i {H:Hp} {Q:VK} {E:XK} {t:Str} (h:t.length≤4000) (lo:∀ x∈t.cps.toList,x<128) (q:∀ H',Same H H'→Q (ngV (lgN t)) H'):sp_lwh [.str t] H Q E:=by unfold sp_lwh; exact ⟨t,rfl,h,lo,q⟩
@[irreducible] def sp_lrd:Sp:=fun vs H Q _=>∃ t,vs=[.str t]∧t.length≤300∧(∀ x∈t.cps.toList,x<128)∧∀ v H',Same H H'→Rep H' (opFr (rdT t)) v→Q v H'
theorem sp_lrd_i {H:Hp} {Q:VK} {E:XK} {t:Str} (h:t.length≤300) (lo:∀ x∈t.cps.toList,x<128) (q:∀ v H',Same H H'→Rep H' (opFr (rdT t)) v→Q v H'):sp_lrd [.str t] H Q E:=by unfold sp_lrd; exact ⟨t,rfl,h,lo,q⟩
def m0:Str:=Str.ofString "-0"
def fst61 (p:Str):Str:=if neg p=true∧p≠m0 then fg p else p
theorem fst_rd (p:Str):rd p=(lgN (fst61 p)).map (sg (neg p)):=by
  unfold fst61
  cases hn:neg p with
  | false=>rw [if_neg (fun z=>by cases z.1),rd_pl hn]; cases lgN p <;> rfl
  | true =>
    rw [rd_ng hn]
    by_cases hz:p=m0
    · rw [if_neg (fun z=>z.2 hz),lg_neg hn,hz]
      decide +kernel
    · rw [if_pos ⟨rfl,hz⟩]
      cases hq:lgN (fg p) with
      | none=>rfl
      | some n =>
        cases n with
        | succ n=>rfl
        | zero =>
          exfalso
          have hb:lgB (fg p)=true:=by
            unfold lgN at hq
            cases z:lgB (fg p) with
            | true=>rfl
            | false=>rw [z] at hq; cases hq
          have hv:val (fg p)=0:=by
            unfold lgN at hq
            rw [if_pos hb] at hq
            injection hq
          have e0:=(lg_pos hb).mp hv
          refine hz (str_ext ?_)
          have hh:p.cps.toList.head?=some 45:=of_decide_eq_true hn
          unfold fg at e0
          rw [if_pos hn] at e0
          cases q:p.cps.toList with
          | nil=>rw [q] at hh; cases hh
          | cons x r =>
            rw [q] at hh e0
            have hx:x=45:=by injection hh
            have e1:=congrArg (fun s:Str=>s.cps.toList) e0
            have e1:r=zero.cps.toList:=e1
            rw [hx,e1]; decide +kernel
theorem sl1_dec (t:Str):decide (V.str (Txt.slice t none (some 1))=V.str (Str.ofString "-"))=neg t:=by
  unfold neg
  refine decide_eq_decide.mpr ⟨fun z=>?_,fun z=>?_⟩
  · injection z with z
    have h:=congrArg (fun s:Str=>s.cps.toList) z
    rw [slice1,show (Str.ofString "-").cps.toList=[45] from by decide +kernel] at h
    cases q:t.cps.toList with
    | nil=>rw [q] at h; cases h
    | cons x r =>
      rw [q] at h
      have:x=45:=by injection h
      rw [this]; rfl
  · congr 1
    refine str_ext ?_
    rw [slice1,show (Str.ofString "-").cps.toList=[45] from by decide +kernel]
    cases q:t.cps.toList with
    | nil=>rw [q] at z; cases z
    | cons x r =>
      rw [q] at z
      have:x=45:=by injection z
      rw [this]; rfl
theorem sl1_cut {t:Str} (h:neg t=true):Txt.slice t (some 1) none=fg t:=by
  refine str_ext ?_
  unfold fg
  have hh:t.cps.toList.head?=some 45:=of_decide_eq_true h
  have hl:1≤t.length:=by
    rw [← len_toList]
    cases q:t.cps.toList with
    | nil=>rw [q] at hh; cases hh
    | cons x r=>simp
  rw [if_pos h,slice_from (by decide) (by omega)]
  rfl
theorem fg_mem {t:Str} {x:Nat} (h:x∈(fg t).cps.toList):x∈t.cps.toList:=by
  unfold fg at h
  split at h
  · exact List.mem_of_mem_drop h
  · exact h
theorem fst_len (p:Str):(fst61 p).length≤p.length:=by
  unfold fst61
  split
  · exact fg_len p
  · exact Nat.le_refl _
theorem fst_low {p:Str} (h:∀ x∈p.cps.toList,x<128):∀ x∈(fst61 p).cps.toList,x<128:=by
  unfold fst61
  split
  · exact fun x hx=>h x (fg_mem hx)
  · exact h
theorem two61 {n d:Nat} {b:Bool} (hd:2≤d):rdF [some (sg b n),some (d:Int)]=if Nat.gcd n d=1 then some (sg b n,(d:Int)) else none:=by
  have eg:Int.gcd (sg b n) (d:Int)=Nat.gcd n d:=by
    unfold sg
    cases b
    · rfl
    · rw [if_pos rfl,Int.neg_gcd]; rfl
  show (if (!decide ((d:Int)=1)&&(decide (1≤(d:Int))&&decide (Int.gcd (sg b n) (d:Int)=1)))=true then some (sg b n,(d:Int)) else none)=_
  rw [eg,decide_eq_false (show ¬ (d:Int)=1 by omega),decide_eq_true (show 1≤(d:Int) by omega)]
  by_cases h:Nat.gcd n d=1
  · rw [decide_eq_true h,if_pos h]; rfl
  · rw [decide_eq_false h,if_neg h]; rfl
theorem two61s {n d:Nat} {b:Bool} (hd:d<2):rdF [some (sg b n),some (d:Int)]=none:=by
  show (if (!decide ((d:Int)=1)&&(decide (1≤(d:Int))&&decide (Int.gcd (sg b n) (d:Int)=1)))=true then some (sg b n,(d:Int)) else none)=_
  by_cases h:d=1
  · rw [decide_eq_true (show (d:Int)=1 by omega)]; rfl
  · rw [decide_eq_false (show ¬ 1≤(d:Int) by omega),Bool.false_and,Bool.and_false]; rfl
section
variable {P:Program} {w:World} {K:PySem.W.Frag} {mg:Str→Option Value} {base:Heap} {c:Cl}
set_option maxHeartbeats 4000000 in
theorem ok__law_whole {f:Addr} {fd:FuncData} (F:Fun K "_law_whole" "_law_whole" s__law_whole f fd) (T:Txt K mg c):FnOk P w K mg base CX0 1 f fd ["_law_word"] sp_lwh:=by
  refine F.okw sc__law_whole (fun vs H Q E h=>?_) (fun cdv A outer s H vs Q E hr h=>?_)
  · unfold sp_lwh at h
    obtain ⟨t,rfl,_⟩:=h
    rfl
  · unfold sp_lwh at h
    obtain ⟨t,rfl,hz,lo,q⟩:=h
    refine ⟨_,(wss_cons (ws_if (wt_mono (wt_w (ww_or (wt_cmp op_eq (we_v 0) we_str (nomark _)) (ww_or (wt_cmp (op_neD hr.units) (we_comp (CScope.of (psc:=defScope s__law_whole) (N:=["_law_word"]) (N':=["_law_sign"]) (js:=[]) (by decide +kernel) rfl rfl rfl) (wi_str (we_v 0)) (fun _ _ _ _=>wts_one (wt_cmp op_notin_str (we_v 0) we_str (by with_unfolding_all rfl))) (fun _ _ _ _=>(we_v 0))) (we_lst wa_nil) (nomark _)) (ww_or1 (wt_w (ww_and (wt_cmp op_eq (we_ix ix_seq (we_v 0) we_int (fun _ _=>rfl)) we_str (nomark _)) (ww_and1 (wt_cmp op_ne (we_v 0) we_str (nomark _)))))))))) (wss_one (ws_ret we_non)) wss_nil)
      (wss_one (ws_ret (we_cT (cl_intT T.nd) (by rfl) T.b_int (by decide +kernel) (wa_k (we_v 0) wa_nil))))),?_⟩
    have eb:lgB t=wrB t:=by unfold lgB; rw [decide_eq_true hz,Bool.and_true]
    refine ⟨fun b H'=>Same H H'∧b=!lgB t,?_,?_⟩
    · refine ⟨_,rfl,rfl,_,rfl,?_⟩
      by_cases h0:t.cps.toList=[]
      · have:t=Str.ofString "" := str_ext h0
        rw [decide_eq_true (show V.str t=V.str (Str.ofString "") by rw [this])]
        refine iteT ⟨Same.refl _,?_⟩
        rw [eb]; unfold wrB; rw [h0]; rfl
      · rw [decide_eq_false (fun x=>h0 (by injection x with x; rw [x]; rfl))]
        refine iteF ?_
        refine ⟨_,rfl,_,rfl,?_⟩
        refine comp_str (x:=t) (fun x=>!dig x) (fun x=>V.str ⟨#[x]⟩) (by omega) (fun x H' Q' _ q=>?_) (fun x H' Q' _ q=>⟨_,rfl,q⟩) fun D H3 hD e3 s3=>?_
        · refine ⟨_,rfl,_,_,rfl,rfl,?_⟩
          rw [in_figs]
          exact ⟨_,rfl,q⟩
        · refine nwL (by show 0≤64; decide) fun q2 H4 hq2 e4 s4=>?_
          refine reD (Rep.lst (s4 _ _ e3) (sg_rep _)) (Rep.lst e4 RepL.nil) (sg_shaped _ (fun x hx=>lo x (List.mem_filter.mp hx).1)) rfl ?_
          have S4:=s3.trans s4
          have ee:PyData.eqv (PyData.list ((t.cps.toList.filter fun x=>!dig x).map fun x=>PyData.str ⟨#[x]⟩)) (.list [])=figs t:=by
            rw [show PyData.list ((t.cps.toList.filter fun x=>!dig x).map fun x=>PyData.str ⟨#[x]⟩)=sgD (t.cps.toList.filter fun x=>!dig x) from rfl,sg_eqv]
            unfold figs
            rw [Bool.eq_iff_iff,List.isEmpty_iff,List.filter_eq_nil_iff,List.all_eq_true]
            refine ⟨fun h x hx=>by simpa using h x hx,fun h x hx=>by simpa using h x hx⟩
          rw [ee]
          refine ⟨_,rfl,?_⟩
          cases hf:figs t with
          | false =>
            refine iteT ⟨S4,?_⟩
            rw [eb]; unfold wrB; rw [hf,Bool.and_false,Bool.false_and]; rfl
          | true =>
            refine iteF ?_
            obtain ⟨x0,r0,ec⟩:∃ x0 r0,t.cps.toList=x0::r0:=by
              cases q3:t.cps.toList with
              | nil=>exact absurd q3 h0
              | cons x y=>exact ⟨x,y,rfl⟩
            have hb':lgB t=!(decide (x0=48) && !decide (t=zero)):=by
              rw [eb]
              unfold wrB
              rw [hf,ec]
              simp
            refine ⟨_,rfl,?_⟩
            refine .inr (.inr ⟨t,0,x0,rfl,rfl,line20 (by omega),by rw [ec]; exact atI_nat (j:=0) rfl,?_⟩)
            refine ⟨rfl,_,rfl,?_⟩
            by_cases c1:x0=48
            · rw [decide_eq_true c1] at hb'
              rw [decide_eq_true (show V.str ⟨#[x0]⟩=V.str (Str.ofString "0") by rw [c1]; rfl)]
              refine iteT ?_
              refine ⟨_,rfl,rfl,_,rfl,S4,?_⟩
              rw [hb']
              show (!decide (V.str t=V.str (Str.ofString "0")))=_
              rw [show decide (V.str t=V.str (Str.ofString "0"))=decide (t=zero) from decide_eq_decide.mpr ⟨fun z=>by injection z,fun z=>by rw [z]; rfl⟩]
              cases decide (t=zero) <;> rfl
            · rw [decide_eq_false c1] at hb'
              have ne:¬ V.str ⟨#[x0]⟩=V.str (Str.ofString "0"):=fun x=>c1 (by
                injection x with x
                have h2:[x0]=zero.cps.toList:=congrArg (fun y:Str=>y.cps.toList) x
                rw [zero_cps] at h2
                injection h2)
              rw [decide_eq_false ne]
              refine iteF ⟨S4,?_⟩
              rw [hb']; rfl
    · rintro b H3 ⟨s3,rfl⟩
      cases hwb:lgB t with
      | true =>
        refine iteF ?_
        obtain ⟨w1,w2,w3⟩:=lgB_len hwb
        refine ⟨_,rfl,?_⟩
        refine rintT (fun x hx=>.inr (figs_all w2 x hx)) (PySem.intText_digits (figs_all w2) w3 (by omega)) (line20 (by omega)) ?_
        have:=q H3 s3
        unfold lgN at this
        rw [if_pos hwb] at this
        exact this
      | false =>
        refine iteT ?_
        have:=q H3 s3
        unfold lgN at this
        rw [hwb] at this
        exact this
end
end Kw
set_option Elab.async false
set_option linter.all false
set_option maxRecDepth 100000
namespace Kw
open PySem L2 Mf Mt
abbrev s__law_read:Stmt:=(top 51)
theorem sc__law_read:FnScope ["_law_word", "_law_parts", "_law_first", "_law_numbers", "_law_n"] ["_law_word"] (defScope s__law_read):=⟨rfl,rfl,rfl,by decide +kernel,rfl,by decide +kernel,by decide +kernel⟩
section
variable {P:Program} {w:World} {K:PySem.W.Frag} {mg:Str→Option Value} {base:Heap} {c:Cl}
theorem rdT_no {p:Str} {ps:List Str} (h:none∈lgN (fst61 p)::ps.map lgN):rdF ((p::ps).map rd)=none:=by
  rw [List.map_cons,fst_rd]
  match ps,h with
  | [],h =>
    rw [List.map_nil,List.mem_singleton] at h
    rw [← h]; rfl
  | [q],h =>
    simp only [List.map_cons,List.map_nil,List.mem_cons,List.not_mem_nil,or_false] at h
    rcases h with h | h
    · rw [← h]; show rdF [none,rd q]=none; rfl
    · exact rdF_d h.symm
  | _::_::_,_=>exact rdF_long (by simp)
set_option maxHeartbeats 4000000 in
theorem ok__law_read {f:Addr} {fd:FuncData} (F:Fun K "_law_read" "_law_read" s__law_read f fd) (T:Txt K mg c) (F__law_whole:FnC CX0 P w K mg base 1 "_law_whole" ["_law_word"] sp_lwh) (F__law_frac:FnC CX0 P w K mg base 1 "_law_frac" ["_law_n", "_law_d"] sp_lfrac):FnOk P w K mg base CX0 2 f fd ["_law_word"] sp_lrd:=by
  refine F.okw sc__law_read (fun vs H Q E h=>?_) (fun cdv A outer s H vs Q E hr h=>?_)
  · unfold sp_lrd at h
    obtain ⟨t,rfl,_⟩:=h
    rfl
  · unfold sp_lrd at h
    obtain ⟨t,rfl,hz,lo,q⟩:=h
    refine ⟨_,(wss_cons (ws_set (i:=1) sc__law_read.nd rfl (Or.inl rfl) (we_bm PySem.F.plainAttrs_str PySem.F.slot_str_split PySem.F.type_str_split mt_split (we_v 0) (wa_k we_str wa_nil)))
      (wss_cons (ws_set (i:=2) sc__law_read.nd rfl (Or.inl rfl) (we_ix ix_seq (we_v 1) we_int (fun _ _=>rfl)))
      (wss_cons (ws_cut (ws_if (wt_mono (wt_w (ww_and (wt_cmp op_eq (we_slice sl_str (we_v 2) wo_none (wo_some we_int)) we_str (nomark _)) (ww_and1 (wt_cmp op_ne (we_v 2) we_str (nomark _)))))) (wss_one (ws_set (i:=2) sc__law_read.nd rfl (Or.inl rfl) (we_slice sl_str (we_v 2) (wo_some we_int) wo_none))) wss_nil))
      (wss_cons (ws_setComp (i:=3) (CScope.of (psc:=defScope s__law_read) (N:=["_law_word", "_law_parts", "_law_first", "_law_numbers", "_law_n"]) (N':=["_law_one"]) (js:=[]) (by decide +kernel) rfl rfl rfl) sc__law_read.nd rfl rfl (wi_list (we_op op_cat (we_lst (wa_k (we_v 2) wa_nil)) (we_slice (sl_listN K) (we_v 1) (wo_some we_int) wo_none))) (fun _ _ _ _=>wts_nil) (fun _ _ _ _=>(we_fn F__law_whole (hr.mono (by decide)) (wa_k (we_v 0) wa_nil))))
      (wss_cons (ws_if (wt_mono (wt_w (ww_or (wt_cmp (op_inN K hr.units) we_non (we_v 3) (by with_unfolding_all rfl)) (ww_or1 (wt_cmp op_gt (we_cB cl_len (by rfl) T.b_len (by decide +kernel) (wa_k (we_v 3) wa_nil)) we_int (nomark _)))))) (wss_one (ws_ret we_non)) wss_nil)
      (wss_cons (ws_cut (ws_set (i:=4) sc__law_read.nd rfl (Or.inl rfl) (we_ifExp (wt_cmp op_eq (we_slice sl_str (we_ix ix_seq (we_v 1) we_int (fun _ _=>rfl)) wo_none (wo_some we_int)) we_str (nomark _)) (we_op op_sub we_int (we_ix ix_seq (we_v 3) we_int (fun _ _=>rfl))) (we_ix ix_seq (we_v 3) we_int (fun _ _=>rfl)))))
      (wss_cons (ws_if (wt_cmp op_eq (we_cB cl_len (by rfl) T.b_len (by decide +kernel) (wa_k (we_v 3) wa_nil)) we_int (nomark _)) (wss_one (ws_ret (we_tup (wa_k (we_v 4) (wa_k we_int wa_nil))))) wss_nil)
      (wss_cons (ws_if (wt_mono (wt_w (ww_or (wt_cmp op_lt (we_ix ix_seq (we_v 3) we_int (fun _ _=>rfl)) we_int (nomark _)) (ww_or1 (wt_cmp (op_neD hr.units) (we_fn F__law_frac (hr.mono (by decide)) (wa_k (we_v 4) (wa_k (we_ix ix_seq (we_v 3) we_int (fun _ _=>rfl)) wa_nil))) (we_tup (wa_k (we_v 4) (wa_k (we_ix ix_seq (we_v 3) we_int (fun _ _=>rfl)) wa_nil))) (nomark _)))))) (wss_one (ws_ret we_non)) wss_nil)
      (wss_one (ws_ret (we_tup (wa_k (we_v 4) (wa_k (we_ix ix_seq (we_v 3) we_int (fun _ _=>rfl)) wa_nil))))))))))))),?_⟩
    have hw:=words_len t
    refine ⟨_,rfl,rfl,?_⟩
    refine rsplit (by decide) (line20 (by omega)) (line20 (show (words t).length≤20000 by omega)) fun p1 H1 hp1 e1 s1=>?_
    have e1:H1 p1=some (.lst ((words t).map V.str)):=e1
    obtain ⟨p,ps,er⟩:=List.exists_cons_of_ne_nil (split_ne t)
    have er:words t=p::ps:=er
    rw [er] at e1
    have lw1:(p::ps).length≤310:=by rw [← er]; omega
    rw [List.length_cons] at lw1
    have eT:rdT t=rdF ((p::ps).map rd):=by unfold rdT; rw [er]
    rw [eT] at q
    have sz:∀ u∈p::ps,u.length≤300∧∀ x∈u.cps.toList,x<128:=fun u hu=>by
      rw [← er] at hu
      exact ⟨Nat.le_trans (part_len hu) hz,part_low37 lo hu⟩
    have szp:=sz p (List.mem_cons_self ..)
    have at0:atI ((p::ps).map V.str) 0=some (V.str p):=atI_nat (j:=0) rfl
    refine ⟨_,rfl,?_⟩
    refine ixL e1 at0 ?_
    refine ⟨fun σ H'=>H'=H1∧σ=[some (.str t),some (.ref p1),some (.str (fst61 p)),none,none],?_,?_⟩
    case refine_2 =>
      refine ⟨fun b H'=>H'=H1∧b=decide (neg p=true∧p≠m0),?_,?_⟩
      · refine ⟨_,rfl,_,rfl,?_⟩
        refine ⟨p,rfl,line20 (by omega),?_⟩
        refine ⟨rfl,_,rfl,?_⟩
        rw [sl1_dec]
        cases hn:neg p with
        | true =>
          refine iteT ?_
          refine ⟨_,rfl,rfl,_,rfl,rfl,?_⟩
          show (!decide (V.str p=V.str (Str.ofString "-0")))=_
          by_cases hm:p=m0
          · rw [decide_eq_true (show V.str p=V.str (Str.ofString "-0") by rw [hm]; rfl),decide_eq_false (fun z=>z.2 hm)]; rfl
          · rw [decide_eq_false (show ¬ V.str p=V.str (Str.ofString "-0") from fun z=>hm (by injection z)),decide_eq_true ⟨rfl,hm⟩]; rfl
        | false =>
          refine iteF ⟨rfl,(decide_eq_false (fun z=>by cases z.1)).symm⟩
      · rintro b H' ⟨rfl,rfl⟩
        by_cases hb:neg p=true∧p≠m0
        · refine iteTe (decide_eq_true hb) ?_
          refine ⟨_,rfl,_,rfl,?_⟩
          refine ⟨p,rfl,line20 (by omega),?_⟩
          refine ⟨rfl,?_⟩
          unfold fst61
          rw [if_pos hb,sl1_cut hb.1]; rfl
        · refine iteFe (decide_eq_false hb) ?_
          refine ⟨rfl,?_⟩
          unfold fst61
          rw [if_neg hb]; rfl
    rintro σ H' ⟨rfl,rfl⟩
    refine ⟨_,rfl,?_⟩
    refine nwL (by show 1≤64; decide) fun q2 H2 hq2 e2 s2=>?_
    refine ⟨_,rfl,_,rfl,?_⟩
    refine slL (ys:=ps.map V.str) (s2 _ _ e1) (by show cutV _ (some ((1:Nat):Int)) none=_; rw [cutV_lo]; rfl) fun q3 H3 hq3 e3 s3=>?_
    refine catL (s3 _ _ e2) e3 (by rw [List.length_map]; show 1+ps.length≤_; omega) fun q4 H4 hq4 e4 s4=>?_
    have e4:H4 q4=some (.lst ((fst61 p::ps).map V.str)):=e4
    have S4:=(s2.trans s3).trans s4
    refine ⟨q4,rfl,⟨_,SqL.of e4⟩,?_⟩
    have flen:=fst_len p
    refine comp_mapL (fun i y _=>∃ u,(fst61 p::ps)[i]?=some u∧y=ngV (lgN u)) (fun _ _ _ _ _ h=>h) (by rw [List.length_map,List.length_cons]; omega) e4 (fun i y H' Q' hy s' k'=>?_) (fun D5 ys5 H5 hD5 e5 s5 hy5 hr5=>?_)
    · rw [List.getElem?_map] at hy
      obtain ⟨u,hu,rfl⟩:=Option.map_eq_some_iff.mp hy
      refine ⟨_,rfl,?_⟩
      have hm:=List.mem_of_getElem? hu
      rcases List.mem_cons.mp hm with rfl | hm
      · exact sp_lwh_i (by omega) (fst_low szp.2) fun H8 s8=>k' _ H8 s8 ⟨_,hu,rfl⟩
      · have:=sz u (List.mem_cons_of_mem _ hm)
        exact sp_lwh_i (by omega) this.2 fun H8 s8=>k' _ H8 s8 ⟨u,hu,rfl⟩
    rw [List.length_map] at hy5
    have ey:=vals_map (l:=fst61 p::ps) (g:=lgN) (f:=ngV) hy5 hr5
    subst ey
    have r5:RepL H5 (((fst61 p::ps).map lgN).map ngD) (((fst61 p::ps).map lgN).map ngV):=by
      generalize (fst61 p::ps).map lgN=os
      induction os with
      | nil=>exact RepL.nil
      | cons o os ih=>exact RepL.cons (ng_rep o) ih
    have S5:=S4.trans s5
    have lay:∀ d∈((fst61 p::ps).map lgN).map ngD,PyData.canLay0 d=true:=fun d hd=>by
      obtain ⟨o,_,rfl⟩:=List.mem_map.mp hd
      cases o <;> rfl
    have eAny:(((fst61 p::ps).map lgN).map ngD).any nonD=decide (none∈(fst61 p::ps).map lgN):=by
      generalize (fst61 p::ps).map lgN=os
      induction os with
      | nil=>rfl
      | cons o os ih =>
        rw [List.map_cons,List.any_cons,ih]
        cases o with
        | none=>exact (decide_eq_true (List.mem_cons_self ..)).symm
        | some n =>
          show (false || decide (none∈os))=_
          rw [Bool.false_or]
          exact decide_eq_decide.mpr ⟨fun z=>List.mem_cons_of_mem _ z,fun z=>(List.mem_cons.mp z).resolve_left (fun z=>by cases z)⟩
    refine ⟨fun b H6=>H6=H5∧(b=true→rdF ((p::ps).map rd)=none)∧(b=false→none ∉ (fst61 p::ps).map lgN∧ps.length≤1),?_,?_⟩
    · refine ⟨_,rfl,?_⟩
      refine riN (.inl (SqL.of e5)) r5 lay ?_
      rw [eAny]
      refine ⟨_,rfl,?_⟩
      by_cases hN:none∈(fst61 p::ps).map lgN
      · refine iteTe (decide_eq_true hN) ⟨rfl,fun _=>rdT_no (by rw [List.map_cons] at hN; exact hN),fun z=>by cases z⟩
      · refine iteFe (decide_eq_false hN) ?_
        refine ⟨_,rfl,?_⟩
        refine rlL e5 ?_
        rw [List.length_map,List.length_map,List.length_cons]
        refine ⟨_,_,rfl,rfl,_,rfl,rfl,?_⟩
        by_cases h2:ps.length≤1
        · have e9:decide ((2:Int)<((ps.length+1:Nat):Int))=false:=decide_eq_false (by omega)
          exact ⟨(fun z=>by rw [e9] at z; cases z),fun _=>⟨hN,h2⟩⟩
        · have e9:decide ((2:Int)<((ps.length+1:Nat):Int))=true:=decide_eq_true (by omega)
          exact ⟨fun _=>rdF_long (by rw [List.length_map,List.length_cons]; omega),fun z=>by rw [e9] at z; cases z⟩
    rintro b H6 ⟨rfl,hb1,hb2⟩
    cases b with
    | true =>
      refine iteT ?_
      refine q _ H6 (s1.trans S5) ?_
      rw [hb1 rfl]; exact Rep.non
    | false =>
      refine iteF ?_
      obtain ⟨hN,h2⟩:=hb2 rfl
      obtain ⟨n,hn⟩:∃ n,lgN (fst61 p)=some n:=by
        cases z:lgN (fst61 p) with
        | none=>exact absurd (by rw [List.map_cons,z]; exact List.mem_cons_self ..) hN
        | some n=>exact ⟨n,rfl⟩
      have erp:rd p=some (sg (neg p) n):=by rw [fst_rd,hn]; rfl
      have at5:atI (((fst61 p::ps).map lgN).map ngV) 0=some (.int (n:Int)):=atI_nat (j:=0) (by rw [List.map_cons,List.map_cons,hn]; rfl)
      refine ⟨fun σ H'=>H'=H6∧σ=[some (.str t),some (.ref p1),some (.str (fst61 p)),some (.ref D5),some (.int (sg (neg p) n))],?_,?_⟩
      case refine_2 =>
        refine ⟨_,rfl,?_⟩
        refine ixL (S5 _ _ e1) at0 ?_
        refine ⟨_,rfl,?_⟩
        refine ⟨p,rfl,line20 (by omega),?_⟩
        refine ⟨rfl,_,rfl,?_⟩
        rw [sl1_dec]
        cases hg:neg p with
        | true =>
          refine iteT ?_
          refine ⟨_,rfl,?_⟩
          refine ixL e5 at5 ?_
          refine ⟨_,_,rfl,rfl,rfl,?_⟩
          have es:(0:Int) - (n:Int)=sg true n:=by unfold sg; rw [if_pos rfl]; omega
          rw [← es]; rfl
        | false =>
          refine iteF ?_
          refine ⟨_,rfl,?_⟩
          refine ixL e5 at5 ?_
          exact ⟨rfl,rfl⟩
      rintro σ H7 ⟨rfl,rfl⟩
      refine ⟨_,rfl,?_⟩
      refine rlL e5 ?_
      rw [List.length_map,List.length_map,List.length_cons]
      refine ⟨rfl,_,rfl,?_⟩
      clear eAny lay r5 hr5 hy5 e4 hb1 hb2 at5 at0
      cases ps with
      | nil =>
        refine iteTe (decide_eq_true rfl) ?_
        refine ⟨_,rfl,?_⟩
        refine nwT (by show 2≤64; decide) fun q8 H8 hq8 e8 s8=>?_
        refine q _ H8 ((s1.trans S5).trans s8) ?_
        rw [List.map_cons,erp]
        exact frD_of (f:=(sg (neg p) n,1)) e8
      | cons u ps2 =>
        obtain rfl:ps2=[]:=List.length_eq_zero_iff.mp (by rw [List.length_cons] at h2; omega)
        refine iteFe (decide_eq_false fun z=>by injection z with z; exact absurd z (by simp)) ?_
        obtain ⟨d,hd⟩:∃ d,lgN u=some d:=by
          cases z:lgN u with
          | none=>exact absurd (by rw [List.map_cons,List.map_cons,z]; simp) hN
          | some d=>exact ⟨d,rfl⟩
        have hnu:neg u=false:=by
          cases z:neg u with
          | false=>rfl
          | true=>rw [lg_neg z] at hd; cases hd
        have eru:rd u=some (d:Int):=by rw [rd_pl hnu,hd]; rfl
        have hub:lgB u=true:=by
          unfold lgN at hd
          cases z:lgB u with
          | true=>rfl
          | false=>rw [z] at hd; cases hd
        have hvu:val u=d:=by unfold lgN at hd; rw [if_pos hub] at hd; injection hd
        have e1':atI (((fst61 p::[u]).map lgN).map ngV) 1=some (.int (d:Int)):=atI_nat (j:=1) (by rw [List.map_cons,List.map_cons,List.map_cons,hd]; rfl)
        have eq2:rdF ((p::[u]).map rd)=rdF [some (sg (neg p) n),some (d:Int)]:=by rw [List.map_cons,List.map_cons,erp,eru]; rfl
        rw [eq2] at q
        refine ⟨fun b H8=>Same H7 H8∧b=(rdF [some (sg (neg p) n),some (d:Int)]).isNone∧(b=false→rdF [some (sg (neg p) n),some (d:Int)]=some (sg (neg p) n,(d:Int))),?_,?_⟩
        · refine ⟨_,rfl,?_⟩
          refine ixL e5 e1' ?_
          refine ⟨_,_,rfl,rfl,_,rfl,?_⟩
          by_cases h2d:d<2
          · refine iteTe (decide_eq_true (by omega)) ⟨Same.refl _,by rw [two61s h2d]; rfl,fun z=>by cases z⟩
          · refine iteFe (decide_eq_false (by omega)) ?_
            have d0:(0:Int)<(d:Int):=by omega
            refine ⟨_,rfl,_,rfl,?_⟩
            refine ixL e5 e1' ?_
            refine sp_lfrac_i d0 ?_ fun p5 H8 hp5 e8 s8=>?_
            · rw [Int.natAbs_natCast,← hvu]
              exact p2500 (lgB_len hub).2.1 (by have:=(sz u (by simp)).1; omega)
            refine ⟨_,rfl,_,rfl,?_⟩
            refine ixL (s8 _ _ e5) e1' ?_
            refine nwT (by show 2≤64; decide) fun q9 H9 hq9 e9 s9=>?_
            refine reD (d:=frD (lw (sg (neg p) n) (d:Int))) (d':=frD (sg (neg p) n,(d:Int))) (frD_of (s9 _ _ e8)) (frD_of e9) (fr_shaped _) (fr_shaped _) ?_
            rw [eqv_fr,lw_self d0]
            refine ⟨_,rfl,s8.trans s9,?_⟩
            have eg:Int.gcd (sg (neg p) n) (d:Int)=Nat.gcd n d:=by
              unfold sg
              cases neg p
              · rfl
              · rw [if_pos rfl,Int.neg_gcd]; rfl
            rw [eg,two61 (by omega)]
            by_cases c3:Nat.gcd n d=1
            · rw [decide_eq_true c3,if_pos c3]; exact ⟨rfl,fun _=>rfl⟩
            · rw [decide_eq_false c3,if_neg c3]; exact ⟨rfl,fun z=>by cases z⟩
        rintro b H8 ⟨s8,hb,hb3⟩
        cases b with
        | true =>
          refine iteT ?_
          refine q _ H8 ((s1.trans S5).trans s8) ?_
          rw [Option.isNone_iff_eq_none.mp hb.symm]; exact Rep.non
        | false =>
          refine iteF ?_
          refine ⟨_,rfl,_,rfl,?_⟩
          refine ixL (s8 _ _ e5) e1' ?_
          refine nwT (by show 2≤64; decide) fun q9 H9 hq9 e9 s9=>?_
          refine q _ H9 (((s1.trans S5).trans s8).trans s9) ?_
          rw [hb3 rfl]
          exact frD_of (f:=(sg (neg p) n,(d:Int))) e9
end
end Kw
set_option Elab.async false
set_option linter.all false
set_option maxRecDepth 100000
namespace Kw
open PySem L2 Mf Mt
abbrev s__law_line:Stmt:=(top 52)
theorem sc__law_line:FnScope ["_law_words", "_law_first", "_law_faces", "_law_behind_word", "_law_many", "_law_lead", "_law_counts", "_law_rest"] ["_law_words", "_law_first", "_law_faces", "_law_behind_word", "_law_many"] (defScope s__law_line):=⟨rfl,rfl,rfl,by decide +kernel,rfl,by decide +kernel,by decide +kernel⟩
structure RwS (r:List Str):Prop where
  k:RwK r
  s:∀ p∈r,p.length≤300
def oneB (b:Str):Nat:=if b=Str.ofString "" then 0 else 1
def lnG (first:Str) (F:Nat) (b:Str) (m:Nat) (r:List Str):Option (List Int × List Fr) :=
  if r.length=1+F+oneB b+m∧r[0]?=some first∧(b=Str.ofString "" ∨ r[F+1]?=some b) then
    match rdC ((r.drop 1).take F) F,rdS (r.drop (1+F+oneB b)) with
    | some cs,some fs=>some (cs,fs)
    | _,_=>none
  else none
theorem lnG_no {first b:Str} {F m:Nat} {r:List Str} (h:¬ (r.length=1+F+oneB b+m∧r[0]?=some first∧(b=Str.ofString "" ∨ r[F+1]?=some b))):lnG first F b m r=none:=if_neg h
theorem lnG_yes {first b:Str} {F m:Nat} {r:List Str} (h:r.length=1+F+oneB b+m∧r[0]?=some first∧(b=Str.ofString "" ∨ r[F+1]?=some b)):lnG first F b m r=match rdC ((r.drop 1).take F) F,rdS (r.drop (1+F+oneB b)) with
    | some cs,some fs=>some (cs,fs)
    | _,_=>none:=if_pos h
theorem say_ne:¬ wSay=Str.ofString "" := by decide +kernel
theorem lnG_on {F W:Nat} {r:List Str}:lnG wOn F wSay (1+W) r=rdE F W r:=by
  have e1:oneB wSay=1:=if_neg say_ne
  by_cases h:r.length=1+F+oneB wSay+(1+W)∧r[0]?=some wOn∧(wSay=Str.ofString "" ∨ r[F+1]?=some wSay)
  · rw [lnG_yes h]
    obtain ⟨h1,h2,h3⟩:=h
    have h3:=h3.resolve_left say_ne
    rw [e1,show 1+F+1=F+2 by omega]
    rw [e1] at h1
    have hl:(r.drop (F+2)).length=1+W:=by rw [List.length_drop]; omega
    unfold rdE rdFs
    rw [if_pos hl]
    cases rdC ((r.drop 1).take F) F with
    | none=>rfl
    | some cs =>
      cases rdS (r.drop (F+2)) with
      | none=>rfl
      | some fs=>exact (if_pos ⟨h2,h3⟩).symm
  · rw [lnG_no h]
    by_cases h0:r[0]?=some wOn
    · by_cases h1:r[F+1]?=some wSay
      · refine (rdE_len fun z=>h ⟨by rw [e1]; omega,h0,.inr h1⟩).symm
      · exact (rdE_1 h1).symm
    · exact (rdE_0 h0).symm
theorem lnG_price {W:Nat} {r:List Str}:lnG wPrice 0 (Str.ofString "") W r=(rdP W r).map fun fs=>([],fs):=by
  have e1:oneB (Str.ofString "")=0:=if_pos rfl
  by_cases h:r.length=1+0+oneB (Str.ofString "")+W∧r[0]?=some wPrice∧(Str.ofString "" = Str.ofString "" ∨ r[0+1]?=some (Str.ofString ""))
  · rw [lnG_yes h]
    obtain ⟨h1,h2,_⟩:=h
    rw [e1] at h1
    have hl:(r.drop 1).length=W:=by rw [List.length_drop]; omega
    unfold rdP rdFs
    rw [if_pos h2,if_pos hl,e1]
    show (match rdC ((r.drop 1).take 0) 0,rdS (r.drop 1) with | some cs,some fs=>some (cs,fs) | _,_=>none)=_
    rw [show rdC ((r.drop 1).take 0) 0=some [] from rfl]
    cases rdS (r.drop 1) <;> rfl
  · rw [lnG_no h]
    unfold rdP
    by_cases h0:r[0]?=some wPrice
    · rw [if_pos h0]
      unfold rdFs
      rw [if_neg]
      · rfl
      · intro z
        rw [List.length_drop] at z
        have:0<r.length:=by
          cases r with
          | nil=>cases h0
          | cons=>simp
        exact h ⟨by rw [e1]; omega,h0,.inl rfl⟩
    · rw [if_neg h0]; rfl
theorem lnG_worth {F:Nat} {r:List Str}:lnG wWorth F (Str.ofString "") 1 r=(rdW F r).map fun p=>(p.1,[p.2]):=by
  have e1:oneB (Str.ofString "")=0:=if_pos rfl
  by_cases h:r.length=1+F+oneB (Str.ofString "")+1∧r[0]?=some wWorth∧(Str.ofString "" = Str.ofString "" ∨ r[F+1]?=some (Str.ofString ""))
  · rw [lnG_yes h]
    obtain ⟨h1,h2,_⟩:=h
    rw [e1] at h1
    have hl:(r.drop (1+F)).length=1:=by rw [List.length_drop]; omega
    have es:rdFs (r.drop (1+F)) 1=rdS (r.drop (1+F)):=if_pos hl
    rw [e1,Nat.add_zero]
    cases hc:rdC ((r.drop 1).take F) F with
    | none=>rw [rdW_c hc]; rfl
    | some cs =>
      cases hs:rdS (r.drop (1+F)) with
      | none=>rw [rdW_s (by rw [es]; exact hs)]; rfl
      | some fs =>
        rw [hs] at es
        obtain ⟨g,rfl⟩:=rdFs_one es
        rw [rdW_ok hc es,if_pos h2]; rfl
  · rw [lnG_no h]
    by_cases h0:r[0]?=some wWorth
    · rw [rdW_s]
      · rfl
      · unfold rdFs
        rw [if_neg]
        intro z
        rw [List.length_drop] at z
        exact h ⟨by rw [e1]; omega,h0,.inl rfl⟩
    · rw [rdW_0 h0]; rfl
abbrev lnD (p:List Int × List Fr):PyData:=.tuple [ctD p.1,shD p.2]
@[irreducible] def sp_lline:Sp:=fun vs H Q _=>∃ (a:Addr) (r:List Str) (first b:Str) (F m:Nat),vs=[.ref a,.str first,.int (F:Int),.str b,.int (m:Int)]∧H a=some (.lst (r.map V.str))∧RwS r∧F≤4∧m≤10∧∀ v H',Same H H'→OptR H' ((lnG first F b m r).map lnD) v→Q v H'
theorem sp_lline_i {H:Hp} {Q:VK} {E:XK} {a:Addr} {r:List Str} {first b:Str} {F m:Nat} (h1:H a=some (.lst (r.map V.str))) (h2:RwS r) (f4:F≤4) (hm:m≤10) (k:∀ v H',Same H H'→OptR H' ((lnG first F b m r).map lnD) v→Q v H'):sp_lline [.ref a,.str first,.int (F:Int),.str b,.int (m:Int)] H Q E:=by
  unfold sp_lline; exact ⟨a,r,first,b,F,m,rfl,h1,h2,f4,hm,k⟩
theorem any_ng {ts:List Str}:((ts.map fun t=>ngD (lgN t)).any nonD)=!ts.all lgB:=by
  induction ts with
  | nil=>rfl
  | cons t ts ih =>
    rw [List.map_cons,List.any_cons,ih,List.all_cons]
    unfold lgN
    cases lgB t <;> rfl
section
variable {P:Program} {w:World} {K:PySem.W.Frag} {mg:Str→Option Value} {base:Heap} {c:Cl}
set_option maxHeartbeats 4000000 in
theorem ok__law_line {f:Addr} {fd:FuncData} (F:Fun K "_law_line" "_law_line" s__law_line f fd) (T:Txt K mg c) (F__law_whole:FnC CX0 P w K mg base 1 "_law_whole" ["_law_word"] sp_lwh) (F__law_read:FnC CX0 P w K mg base 2 "_law_read" ["_law_word"] sp_lrd):FnOk P w K mg base CX0 3 f fd ["_law_words", "_law_first", "_law_faces", "_law_behind_word", "_law_many"] sp_lline:=by
  refine F.okw sc__law_line (fun vs H Q E h=>?_) (fun cdv A outer s H vs Q E hr h=>?_)
  · unfold sp_lline at h
    obtain ⟨a,r,first,b,F,m,rfl,_⟩:=h
    rfl
  · unfold sp_lline at h
    obtain ⟨a,r,first,b,F,m,rfl,ha,ok,f4,hm,k⟩:=h
    refine ⟨_,(wss_cons (ws_set (i:=5) sc__law_line.nd rfl (Or.inl rfl) (we_op op_add (we_op op_add we_int (we_v 2)) (we_cT call_int1 (by rfl) T.b_int (by decide +kernel) (wa_k (we_cmp op_ne (we_v 3) we_str (nomark _)) wa_nil))))
      (wss_cons (ws_if (wt_mono (wt_w (ww_or (wt_cmp op_ne (we_cB cl_len (by rfl) T.b_len (by decide +kernel) (wa_k (we_v 0) wa_nil)) (we_op op_add (we_v 5) (we_v 4)) (nomark _)) (ww_or (wt_cmp op_ne (we_ix ix_seq (we_v 0) we_int (fun _ _=>rfl)) (we_v 1) (nomark _)) (ww_or1 (wt_w (ww_and (wt_cmp op_ne (we_v 3) we_str (nomark _)) (ww_and1 (wt_cmp op_ne (we_ix ix_seq (we_v 0) (we_op op_sub (we_v 5) we_int) (fun _ _=>rfl)) (we_v 3) (nomark _)))))))))) (wss_one (ws_ret we_non)) wss_nil)
      (wss_cons (ws_setComp (i:=6) (CScope.of (psc:=defScope s__law_line) (N:=["_law_words", "_law_first", "_law_faces", "_law_behind_word", "_law_many", "_law_lead", "_law_counts", "_law_rest"]) (N':=["_law_word"]) (js:=[]) (by decide +kernel) rfl rfl rfl) sc__law_line.nd rfl rfl (wi_list (we_slice (sl_listN K) (we_v 0) (wo_some we_int) (wo_some (we_op op_add we_int (we_v 2))))) (fun _ _ _ _=>wts_nil) (fun _ _ _ _=>(we_fn F__law_whole (hr.mono (by decide)) (wa_k (we_v 0) wa_nil))))
      (wss_cons (ws_setComp (i:=7) (CScope.of (psc:=defScope s__law_line) (N:=["_law_words", "_law_first", "_law_faces", "_law_behind_word", "_law_many", "_law_lead", "_law_counts", "_law_rest"]) (N':=["_law_word"]) (js:=[]) (by decide +kernel) rfl rfl rfl) sc__law_line.nd rfl rfl (wi_list (we_slice (sl_listN K) (we_v 0) (wo_some (we_v 5)) wo_none)) (fun _ _ _ _=>wts_nil) (fun _ _ _ _=>(we_fn F__law_read (hr.mono (by decide)) (wa_k (we_v 0) wa_nil))))
      (wss_cons (ws_if (wt_mono (wt_w (ww_or (wt_cmp (op_inN K hr.units) we_non (we_v 6) (by with_unfolding_all rfl)) (ww_or1 (wt_cmp (op_inN K hr.units) we_non (we_v 7) (by with_unfolding_all rfl)))))) (wss_one (ws_ret we_non)) wss_nil)
      (wss_one (ws_ret (we_tup (wa_k (we_cT call_tuple_of (by rfl) T.b_tuple (by decide +kernel) (wa_k (we_v 6) wa_nil)) (wa_k (we_cT call_tuple_of (by rfl) T.b_tuple (by decide +kernel) (wa_k (we_v 7) wa_nil)) wa_nil)))))))))),?_⟩
    have lr:=ok.k.len
    obtain ⟨t0,r0,er⟩:=List.exists_cons_of_ne_nil ok.k.ne
    have g0:r[0]?=some t0:=by rw [er]; rfl
    have no:∀ H',Same H H'→lnG first F b m r=none→Q .non H':=fun H' s' h=>k _ H' s' (by rw [h]; rfl)
    refine ⟨_,rfl,_,_,rfl,rfl,?_⟩
    refine ⟨_,rfl,rfl,?_⟩
    refine .inr ⟨_,rfl,?_⟩
    refine ⟨_,_,rfl,rfl,?_⟩
    have eL:((1:Int)+(F:Int)+(if (!decide (V.str b=V.str (Str.ofString "")))=true then 1 else 0))=((1+F+oneB b:Nat):Int):=by
      unfold oneB
      by_cases hb:b=Str.ofString ""
      · rw [if_pos hb,decide_eq_true (show V.str b=V.str (Str.ofString "") by rw [hb])]; simp
      · rw [if_neg hb,decide_eq_false (fun z=>hb (by injection z))]; simp
    change gName 5 (V.int ((1:Int)+(F:Int)+(if (!decide (V.str b=V.str (Str.ofString "")))=true then 1 else 0))) _ _ _
    rw [eL]
    have ob:oneB b≤1:=by unfold oneB; split <;> omega
    refine ⟨fun bb H2=>H2=H∧(bb=true→lnG first F b m r=none)∧(bb=false→(r.length=1+F+oneB b+m∧r[0]?=some first∧(b=Str.ofString "" ∨ r[F+1]?=some b))),?_,?_⟩
    · refine ⟨_,rfl,?_⟩
      refine rlL ha ?_
      rw [List.length_map]
      refine ⟨_,rfl,_,rfl,_,_,rfl,rfl,?_⟩
      refine ⟨rfl,_,rfl,?_⟩
      by_cases hl:r.length=1+F+oneB b+m
      · refine iteFe (by show (!decide (V.int (r.length:Int)=V.int (((1+F+oneB b:Nat):Int)+(m:Int))))=false; rw [decide_eq_true (by congr 1; omega)]; rfl) ?_
        refine ⟨_,rfl,?_⟩
        refine ixL ha (v:=.str t0) (by rw [er]; exact atI_nat (j:=0) rfl) ?_
        refine ⟨_,rfl,rfl,_,rfl,?_⟩
        by_cases h0:t0=first
        · refine iteFe (by show (!decide (V.str t0=V.str first))=false; rw [decide_eq_true (by rw [h0])]; rfl) ?_
          refine ⟨_,rfl,rfl,_,rfl,?_⟩
          by_cases hb:b=Str.ofString ""
          · refine iteFe (by show (!decide (V.str b=V.str (Str.ofString "")))=false; rw [decide_eq_true (by rw [hb])]; rfl) ?_
            exact ⟨rfl,(fun z=>by cases z),fun _=>⟨hl,by rw [g0,h0],.inl hb⟩⟩
          · refine iteTe (by show (!decide (V.str b=V.str (Str.ofString "")))=true; rw [decide_eq_false (fun z=>hb (by injection z))]; rfl) ?_
            have o1:oneB b=1:=if_neg hb
            by_cases hm0:F+1<r.length
            · obtain ⟨u,hu⟩:∃ u,r[F+1]?=some u:=⟨_,List.getElem?_eq_getElem hm0⟩
              refine ⟨_,rfl,_,rfl,_,_,rfl,rfl,?_⟩
              refine ixL ha (v:=.str u) (by
                show atI _ (((1+F+oneB b:Nat):Int) - 1)=_
                rw [o1,show (((1+F+1:Nat):Int) - 1)=((F+1:Nat):Int) by omega]
                exact atI_nat (by rw [List.getElem?_map,hu]; rfl)) ?_
              refine ⟨_,rfl,rfl,_,rfl,rfl,?_⟩
              by_cases hw:u=b
              · have e9:(!decide (V.str u=V.str b))=false:=by rw [hw,decide_eq_true rfl]; rfl
                exact ⟨(fun z=>by rw [e9] at z; cases z),fun _=>⟨hl,by rw [g0,h0],.inr (by rw [hu,hw])⟩⟩
              · have e9:(!decide (V.str u=V.str b))=true:=by rw [decide_eq_false (fun z=>hw (by injection z))]; rfl
                exact ⟨fun _=>lnG_no fun z=>z.2.2.elim hb fun z=>hw (by rw [hu] at z; injection z),fun z=>by rw [e9] at z; cases z⟩
            · exfalso
              omega
        · refine iteTe (by show (!decide (V.str t0=V.str first))=true; rw [decide_eq_false (fun z=>h0 (by injection z))]; rfl) ⟨rfl,fun _=>lnG_no fun z=>h0 (by have:=z.2.1; rw [g0] at this; injection this),fun z=>by cases z⟩
      · refine iteTe (by show (!decide (V.int (r.length:Int)=V.int (((1+F+oneB b:Nat):Int)+(m:Int))))=true; rw [decide_eq_false (fun z=>hl (by injection z with z; omega))]; rfl) ⟨rfl,fun _=>lnG_no fun z=>hl z.1,fun z=>by cases z⟩
    rintro bb H2 ⟨rfl,hb1,hb2⟩
    cases bb with
    | true =>
      refine iteT ?_
      exact no H2 (Same.refl _) (hb1 rfl)
    | false =>
      refine iteF ?_
      have COND:=hb2 rfl
      obtain ⟨hl,_,_⟩:=COND
      have eG:=lnG_yes (hb2 rfl)
      have cut1:cutV (r.map V.str) (some 1) (some ((1:Int)+(F:Int)))=((r.drop 1).take F).map V.str:=by
        rw [show ((1:Int)+(F:Int))=((1+F:Nat):Int) by omega,show (some (1:Int))=some ((1:Nat):Int) from rfl,cut_mid _ (by omega),show 1+F - 1=F by omega,List.map_take,List.map_drop]
      have mem1:∀ t∈(r.drop 1).take F,t∈r:=fun t ht=>List.mem_of_mem_drop (List.mem_of_mem_take ht)
      have len1:((r.drop 1).take F).length=F:=by rw [List.length_take,List.length_drop]; omega
      have mem2:∀ t∈r.drop (1+F+oneB b),t∈r:=fun t ht=>List.mem_of_mem_drop ht
      refine ⟨_,rfl,_,rfl,_,rfl,_,_,rfl,rfl,_,rfl,?_⟩
      refine slL (ys:=((r.drop 1).take F).map V.str) ha cut1 fun q3 H3 hq3 e3 s3=>?_
      refine ⟨q3,rfl,⟨_,SqL.of e3⟩,?_⟩
      refine comp_mapL (fun i y _=>∃ u,((r.drop 1).take F)[i]?=some u∧y=ngV (lgN u)) (fun _ _ _ _ _ h=>h) (by rw [List.length_map]; omega) e3 (fun i y H' Q' hy s' k'=>?_) (fun D4 ys4 H4 hD4 e4 s4 hy4 hr4=>?_)
      · rw [List.getElem?_map] at hy
        obtain ⟨u,hu,rfl⟩:=Option.map_eq_some_iff.mp hy
        have hm:=mem1 u (List.mem_of_getElem? hu)
        refine ⟨_,rfl,?_⟩
        exact sp_lwh_i (by have:=ok.s u hm; omega) (ok.k.lo u hm) fun H8 s8=>k' _ H8 s8 ⟨u,hu,rfl⟩
      rw [List.length_map] at hy4
      have ey:=vals_map (l:=(r.drop 1).take F) (g:=lgN) (f:=ngV) hy4 hr4
      subst ey
      have r4:RepL H4 (((r.drop 1).take F).map fun t=>ngD (lgN t)) ((((r.drop 1).take F).map lgN).map ngV):=by
        generalize (r.drop 1).take F=os
        clear hr4 hy4
        induction os with
        | nil=>exact RepL.nil
        | cons o os ih=>exact RepL.cons (ng_rep _) ih
      have S4:=s3.trans s4
      refine ⟨_,rfl,_,rfl,_,rfl,?_⟩
      refine slL (ys:=(r.drop (1+F+oneB b)).map V.str) (S4 _ _ ha) (by rw [cutV_lo,List.map_drop]) fun q5 H5 hq5 e5 s5=>?_
      refine ⟨q5,rfl,⟨_,SqL.of e5⟩,?_⟩
      refine comp_mapL (fun i y H'=>∃ t,(r.drop (1+F+oneB b))[i]?=some t∧Rep H' (opFr (rdT t)) y) (fun i y Ha Hb s ⟨f,h1,h2⟩=>⟨f,h1,h2.flat s (opFr_flat _)⟩) (by rw [List.length_map,List.length_drop]; omega) e5 (fun i y H' Q' hy s' k'=>?_) (fun D6 ys6 H6 hD6 e6 s6 hy6 hr6=>?_)
      · rw [List.getElem?_map] at hy
        obtain ⟨t,ht,rfl⟩:=Option.map_eq_some_iff.mp hy
        have hm:=mem2 t (List.mem_of_getElem? ht)
        refine ⟨_,rfl,?_⟩
        exact sp_lrd_i (ok.s t hm) (ok.k.lo t hm) fun v H8 s8 r8=>k' _ H8 s8 ⟨t,ht,r8⟩
      rw [List.length_map] at hy6
      have r6:RepL H6 ((r.drop (1+F+oneB b)).map fun t=>opFr (rdT t)) ys6:=reps_of hy6 hr6
      have S6:=s5.trans s6
      have S06:=S4.trans S6
      have eC:=rdC_eq len1
      refine ⟨fun bb H7=>H7=H6∧(bb=true→lnG first F b m r=none)∧(bb=false→((r.drop 1).take F).all lgB=true∧∃ fs,rdS (r.drop (1+F+oneB b))=some fs),?_,?_⟩
      · refine ⟨_,rfl,?_⟩
        refine riN (.inl (SqL.of (S6 _ _ e4))) (r4.same S6) (fun d hd=>by obtain ⟨t,_,rfl⟩:=List.mem_map.mp hd; cases lgN t <;> rfl) ?_
        rw [any_ng]
        refine ⟨_,rfl,?_⟩
        cases hA:((r.drop 1).take F).all lgB with
        | false =>
          refine iteT ⟨rfl,fun _=>?_,fun z=>by cases z⟩
          rw [hA] at eC
          rw [eG,eC]; rfl
        | true =>
          refine iteF ?_
          rw [hA,if_pos rfl] at eC
          refine ⟨_,rfl,?_⟩
          refine riN (.inl (SqL.of e6)) r6 (fun d hd=>by obtain ⟨t,_,rfl⟩:=List.mem_map.mp hd; exact opFr_lay _) ?_
          rw [any_non]
          refine ⟨_,rfl,rfl,?_⟩
          cases hS:rdS (r.drop (1+F+oneB b)) with
          | none =>
            refine ⟨fun _=>?_,fun z=>by cases z⟩
            rw [eG,eC,hS]
          | some fs=>exact ⟨(fun z=>by cases z),fun _=>⟨rfl,fs,rfl⟩⟩
      rintro bb H7 ⟨rfl,hc1,hc2⟩
      cases bb with
      | true =>
        refine iteT ?_
        exact no H7 S06 (hc1 rfl)
      | false =>
        refine iteF ?_
        obtain ⟨hA,fs,hS⟩:=hc2 rfl
        rw [hA,if_pos rfl] at eC
        rw [eC,hS] at eG
        have all2:∀ t∈r.drop (1+F+oneB b),(rdT t).isSome=true:=fun t ht=>by
          cases z:rdT t with
          | some g=>rfl
          | none=>rw [rdS_none ht z] at hS; cases hS
        have efs:fs=(r.drop (1+F+oneB b)).map fun t=>(rdT t).getD (0,1):=by
          have:=rdS_some all2
          rw [hS] at this
          injection this
        have e4':H7 D4=some (.lst ((((r.drop 1).take F).map fun t=>((val t:Nat):Int)).map V.int)):=by
          rw [S6 _ _ e4]
          congr 2
          rw [List.map_map,List.map_map]
          refine List.map_congr_left fun t ht=>?_
          have:=List.all_eq_true.mp hA t ht
          show ngV (lgN t)=V.int ((val t:Nat):Int)
          unfold lgN
          rw [if_pos this]; rfl
        refine ⟨_,rfl,D4,_,rfl,.inl ⟨SqL.of e4',fun l hl=>?_⟩⟩
        have sl:=Same.upd (o:=.tup ((((r.drop 1).take F).map fun t=>((val t:Nat):Int)).map V.int)) hl
        have el:(upd H7 l (.tup ((((r.drop 1).take F).map fun t=>((val t:Nat):Int)).map V.int))) l=some (.tup ((((r.drop 1).take F).map fun t=>((val t:Nat):Int)).map V.int)):=upd_same
        generalize upd H7 l (.tup ((((r.drop 1).take F).map fun t=>((val t:Nat):Int)).map V.int))=H10 at sl el
        refine ⟨_,rfl,D6,_,rfl,.inl ⟨SqL.of (sl _ _ e6),fun l2 hl2=>?_⟩⟩
        have sl2:=Same.upd (o:=.tup ys6) hl2
        have el2:(upd H10 l2 (.tup ys6)) l2=some (.tup ys6):=upd_same
        generalize upd H10 l2 (.tup ys6)=H11 at sl2 el2
        refine nwT (by show 2≤64; decide) fun q12 H12 hq12 e12 s12=>?_
        refine k _ H12 ((S06.trans sl).trans (sl2.trans s12)) ?_
        rw [eG]
        refine Rep.tup e12 (RepL.cons (Rep.tup (s12 _ _ (sl2 _ _ el)) (ints_rep _)) (RepL.cons (Rep.tup (s12 _ _ el2) ?_) RepL.nil))
        have ed:((r.drop (1+F+oneB b)).map fun t=>opFr (rdT t))=fs.map frD:=by
          rw [efs,List.map_map]
          refine List.map_congr_left fun t ht=>?_
          obtain ⟨g,hg⟩:=Option.isSome_iff_exists.mp (all2 t ht)
          show opFr (rdT t)=frD ((rdT t).getD (0,1))
          rw [hg]; rfl
        rw [← ed]
        exact ((r6.same sl).same sl2).same s12
end
end Kw
set_option Elab.async false
set_option linter.all false
set_option maxRecDepth 100000
namespace Kw
open PySem L2 Mf Mt
def sz3:List Str:=["2", "3", "4"]
theorem lg_canon {t:Str} (h:lgB t=true):t.cps.toList=dg (val t):=by
  obtain ⟨_,w2,w3⟩:=lgB_len h
  refine (dg_of (figs_all w2) w3 ?_).symm
  have hw:wrB t=true:=by unfold lgB at h; rw [Bool.and_eq_true] at h; exact h.1
  unfold wrB at hw
  simp only [Bool.and_eq_true,Bool.not_eq_true',Bool.and_eq_false_iff,decide_eq_false_iff_not] at hw
  rcases hw.2 with h3 | h3
  · right
    cases q:t.cps.toList with
    | nil=>exact absurd q w3
    | cons x r =>
      have ha:=figs_all w2
      rw [q] at ha h3
      have hd:=ha.head
      have hx:x≠48:=fun z=>h3 (by rw [z]; rfl)
      exact ⟨x,r,rfl,by omega⟩
  · left
    have:t=zero:=by simpa using h3
    rw [this]; decide +kernel
theorem size_iff {t:Str}:(lgB t=true∧2≤val t∧val t≤4)↔t∈sz3:=by
  refine ⟨fun ⟨h,h2,h4⟩=>?_,fun h=>?_⟩
  · have e:=lg_canon h
    have key:∀ n,n=2∨n=3∨n=4→∀ u:Str,u.cps.toList=dg n→u∈sz3:=fun n hn u hu=>by
      rcases hn with rfl | rfl | rfl
      · have:u = "2" := str_ext (by rw [hu]; decide +kernel)
        rw [this]; decide +kernel
      · have:u = "3" := str_ext (by rw [hu]; decide +kernel)
        rw [this]; decide +kernel
      · have:u = "4" := str_ext (by rw [hu]; decide +kernel)
        rw [this]; decide +kernel
    exact key _ (by omega) t e
  · have:∀ u∈sz3,lgB u=true∧2≤val u∧val u≤4:=by decide +kernel
    exact this t h
theorem ln_low {r:List Str} (h:RwK r):lowS (lnOf r):=by
  unfold lnOf
  rw [join_is]
  exact join_low r h.low
theorem vstr_flat (l:List Str):(l.map V.str).all flatV=true:=by
  rw [List.all_map]
  exact List.all_eq_true.mpr fun _ _=>rfl
theorem inV_strs (x:Str):∀ l:List Str,inV (V.str x) (l.map V.str)=decide (x∈l)
  | []=>rfl
  | y::l=>by
    have ih:=inV_strs x l
    unfold inV at ih ⊢
    rw [List.map_cons,List.any_cons,ih]
    show (eqV (.str y) (.str x) || _)=_
    have:eqV (.str y) (.str x)=decide (x=y):=by
      show (decide (y=x):Bool)=_
      exact decide_eq_decide.mpr ⟨Eq.symm,Eq.symm⟩
    rw [this]
    by_cases h:x=y <;> simp [h]
theorem pap0 {rs:List (List Str)} (h1:hdW wRule rs=none) (h2:hdW wNone rs=none):rdPap rs=.error 0:=by
  unfold rdPap
  by_cases h:hasR rs=true
  · rw [if_pos h,h1]
  · rw [if_neg h,h2]
theorem hdW_len {x:Str} {r:List Str} {rs:List (List Str)} (h:r.length≠4):hdW x (r::rs)=none:=by
  by_cases z:r.take 2=[wPaper,x]
  · rw [hdW_y z]
    have hl:2≤r.length:=by
      have:=congrArg List.length z
      rw [List.length_take] at this
      have:min 2 r.length=2:=this
      omega
    have:rdC (r.drop 2) 2=none:=by
      unfold rdC
      rw [if_neg]
      intro q
      rw [List.length_drop] at q
      omega
    rw [this]; rfl
  · exact hdW_n z
theorem hdW_ok {x u v:Str} {rs:List (List Str)} (h1:u∈sz3) (h2:v∈sz3):hdW x ([wPaper,x,u,v]::rs)=some (val u,val v):=by
  obtain ⟨a1,a2,a3⟩:=size_iff.mpr h1
  obtain ⟨b1,b2,b3⟩:=size_iff.mpr h2
  rw [hdW_y rfl]
  show hdS (rdC [u,v] 2)=_
  rw [rdC_eq (ts:=[u,v]) (m:=2) rfl,if_pos (by rw [List.all_cons,List.all_cons,a1,b1]; rfl)]
  show (if (2≤((val u:Nat):Int)∧((val u:Nat):Int)≤4)∧2≤((val v:Nat):Int)∧((val v:Nat):Int)≤4 then some (((val u:Nat):Int).toNat,((val v:Nat):Int).toNat) else none)=_
  rw [if_pos (by omega)]; rfl
theorem hdW_sz {x y u v:Str} {rs:List (List Str)} (h:¬ (u∈sz3∧v∈sz3)):hdW x ([wPaper,y,u,v]::rs)=none:=by
  by_cases z:[wPaper,y,u,v].take 2=[wPaper,x]
  · rw [hdW_y z]
    show hdS (rdC [u,v] 2)=none
    rw [rdC_eq (ts:=[u,v]) (m:=2) rfl]
    by_cases ha:[u,v].all lgB=true
    · rw [if_pos ha]
      show (if (2≤((val u:Nat):Int)∧((val u:Nat):Int)≤4)∧2≤((val v:Nat):Int)∧((val v:Nat):Int)≤4 then some (((val u:Nat):Int).toNat,((val v:Nat):Int).toNat) else none)=none
      rw [if_neg]
      intro q
      rw [List.all_cons,List.all_cons,Bool.and_eq_true,Bool.and_eq_true] at ha
      exact h ⟨size_iff.mp ⟨ha.1,by omega,by omega⟩,size_iff.mp ⟨ha.2.1,by omega,by omega⟩⟩
    · rw [if_neg ha]; rfl
  · exact hdW_n z
def kW (b:Bool):Str:=if b=true then wRule else wNone
def Es (b:Bool) (F W:Nat) (rest:List (List Str)):List Ent:=if b=true then ens F W rest else []
def mkD (b:Bool) (es:List Ent) (ps:List Fr) (xs:List (List Int × Fr)):PyData:=if b=true then .tuple [.str wRule,ruD es,shD ps,wsD xs] else .tuple [.str wNone,shD ps,wsD xs]
theorem pap_eq {b:Bool} {u v:Str} {rest:List (List Str)} (h1:u∈sz3) (h2:v∈sz3):rdPap ([wPaper,kW b,u,v]::rest)=match rdRest (val u) (val v) ([wPaper,kW b,u,v]::rest) (1+(Es b (val u) (val v) rest).length) with
    | .error l=>.error l
    | .ok (ps,xs)=>.ok (mkD b (Es b (val u) (val v) rest) ps xs):=by
  have eh:=hdW_ok (x:=kW b) (rs:=rest) h1 h2
  unfold rdPap
  cases b with
  | true =>
    have hr:hasR ([wPaper,kW true,u,v]::rest)=true:=by
      show decide ([wPaper,wRule]=[wPaper,wRule])=true
      exact decide_eq_true rfl
    rw [if_pos hr]
    rw [show hdW wRule ([wPaper,kW true,u,v]::rest)=some (val u,val v) from eh]
    rfl
  | false =>
    have hr:¬ hasR ([wPaper,kW false,u,v]::rest)=true:=by
      show ¬ decide ([wPaper,wNone]=[wPaper,wRule])=true
      decide +kernel
    rw [if_neg hr]
    rw [show hdW wNone ([wPaper,kW false,u,v]::rest)=some (val u,val v) from eh]
    rfl
def PhA (b:Bool) (F W:Nat) (rest:List (List Str)) (i:Nat) (es:List Ent):Prop:=if b=true then es.length=i∧ens F W rest=es++ens F W (rest.drop i) else es=[]∧i=0
def PhB (b:Bool) (F W:Nat) (rs rest:List (List Str)) (i:Nat) (es:List Ent) (ps:List Fr) (xs:List (List Int × Fr)):Prop :=
  es=Es b F W rest∧(rs[1+es.length]?).bind (rdP W)=some ps∧1+es.length≤i∧xs.length≤i∧wos F (rs.drop (1+es.length+1)) (1+es.length+1)=wcat xs (wos F (rs.drop (1+i)) (1+i))
theorem phA_0 {b:Bool} {F W:Nat} {rest:List (List Str)}:PhA b F W rest 0 []:=by
  unfold PhA
  cases b
  · exact ⟨rfl,rfl⟩
  · exact ⟨rfl,rfl⟩
theorem drop_at {rest:List (List Str)} {i:Nat} {r:List Str} (hr:rest[i]?=some r):rest.drop i=r::rest.drop (i+1):=by
  have hi:=(List.getElem?_eq_some_iff.mp hr).1
  rw [List.drop_eq_getElem_cons hi]
  congr 1
  exact (List.getElem?_eq_some_iff.mp hr).2
theorem phA_side {F W:Nat} {rest:List (List Str)} {i:Nat} {es:List Ent} {r:List Str} {e:Ent} (h:PhA true F W rest i es) (hr:rest[i]?=some r) (he:rdE F W r=some e):PhA true F W rest (i+1) (es++[e]):=by
  obtain ⟨h1,h2⟩:=h
  refine ⟨by rw [List.length_append,List.length_singleton,h1],?_⟩
  rw [h2,drop_at hr,List.append_assoc]
  conv=>lhs; unfold ens
  rw [he]; rfl
theorem phA_es {b:Bool} {F W:Nat} {rest:List (List Str)} {i:Nat} {es:List Ent} {r:List Str} (h:PhA b F W rest i es) (hr:rest[i]?=some r) (he:b=true→rdE F W r=none):es=Es b F W rest∧es.length=i:=by
  unfold PhA at h
  unfold Es
  cases b with
  | true =>
    obtain ⟨h1,h2⟩:=h
    refine ⟨?_,h1⟩
    rw [if_pos rfl,h2,drop_at hr]
    unfold ens
    rw [he rfl,List.append_nil]
  | false =>
    obtain ⟨h1,h2⟩:=h
    refine ⟨by rw [if_neg (by decide)]; exact h1,by rw [h1,h2]; rfl⟩
theorem phA_end {b:Bool} {F W:Nat} {rest:List (List Str)} {es:List Ent} (h:PhA b F W rest rest.length es):es=Es b F W rest∧es.length=rest.length:=by
  unfold PhA at h
  unfold Es
  cases b with
  | true =>
    obtain ⟨h1,h2⟩:=h
    refine ⟨?_,h1⟩
    rw [if_pos rfl,h2,List.drop_length]
    show es=es++[]
    rw [List.append_nil]
  | false =>
    obtain ⟨h1,h2⟩:=h
    refine ⟨by rw [if_neg (by decide)]; exact h1,by rw [h1,h2]; rfl⟩
section
variable {b:Bool} {F W:Nat} {r0:List Str} {rest:List (List Str)} {i:Nat} {es:List Ent} {r:List Str}
theorem rest_errA (h:PhA b F W rest i es) (hr:rest[i]?=some r) (he:b=true→rdE F W r=none) (hp:rdP W r=none):rdRest F W (r0::rest) (1+(Es b F W rest).length)=.error (1+i):=by
  obtain ⟨h1,h2⟩:=phA_es h hr he
  rw [← h1,h2]
  unfold rdRest
  rw [show (r0::rest)[1+i]?=some r by rw [Nat.add_comm,List.getElem?_cons_succ]; exact hr]
  show (match rdP W r with | none=>_ | some ps=>_)=_
  rw [hp]
theorem phB_of {ps:List Fr} (h:PhA b F W rest i es) (hr:rest[i]?=some r) (he:b=true→rdE F W r=none) (hp:rdP W r=some ps):PhB b F W (r0::rest) rest (i+1) es ps []:=by
  obtain ⟨h1,h2⟩:=phA_es h hr he
  refine ⟨h1,?_,by omega,Nat.zero_le _,?_⟩
  · rw [h2,show (r0::rest)[1+i]?=some r by rw [Nat.add_comm,List.getElem?_cons_succ]; exact hr]
    exact hp
  · rw [h2,show 1+i+1=1+(i+1) by omega]
    cases wos F ((r0::rest).drop (1+(i+1))) (1+(i+1)) <;> rfl
theorem phB_next {ps:List Fr} {xs:List (List Int × Fr)} {x:List Int × Fr} (h:PhB b F W (r0::rest) rest i es ps xs) (hr:rest[i]?=some r) (hw:rdW F r=some x):PhB b F W (r0::rest) rest (i+1) es ps (xs++[x]):=by
  obtain ⟨h1,h2,h3,h4,h5⟩:=h
  refine ⟨h1,h2,by omega,by rw [List.length_append,List.length_singleton]; omega,?_⟩
  have dr:(r0::rest).drop (1+i)=r::(r0::rest).drop (1+(i+1)):=by
    rw [show 1+i=i+1 by omega,show 1+(i+1)=i+1+1 by omega,List.drop_succ_cons,List.drop_succ_cons]
    exact drop_at hr
  rw [h5,dr,wos_yes hw,wcat_wcat,show 1+i+1=1+(i+1) by omega]
theorem rest_errB {ps:List Fr} {xs:List (List Int × Fr)} (h:PhB b F W (r0::rest) rest i es ps xs) (hr:rest[i]?=some r) (hw:rdW F r=none):rdRest F W (r0::rest) (1+(Es b F W rest).length)=.error (1+i):=by
  obtain ⟨h1,h2,h3,h4,h5⟩:=h
  have dr:(r0::rest).drop (1+i)=r::(r0::rest).drop (1+(i+1)):=by
    rw [show 1+i=i+1 by omega,show 1+(i+1)=i+1+1 by omega,List.drop_succ_cons,List.drop_succ_cons]
    exact drop_at hr
  rw [dr,wos_no hw] at h5
  rw [← h1]
  unfold rdRest
  rw [h2,h5]
  first | done | rfl
theorem rest_endA (h:PhA b F W rest rest.length es):rdRest F W (r0::rest) (1+(Es b F W rest).length)=.error (1+rest.length):=by
  obtain ⟨h1,h2⟩:=phA_end h
  rw [← h1,h2]
  unfold rdRest
  rw [List.getElem?_eq_none (by rw [List.length_cons]; omega)]; rfl
theorem rest_endB {ps:List Fr} {xs:List (List Int × Fr)} (h:PhB b F W (r0::rest) rest rest.length es ps xs):es=Es b F W rest∧rdRest F W (r0::rest) (1+(Es b F W rest).length)=.ok (ps,xs):=by
  obtain ⟨h1,h2,h3,h4,h5⟩:=h
  refine ⟨h1,?_⟩
  rw [show 1+rest.length=(r0::rest).length by rw [List.length_cons]; omega,List.drop_length] at h5
  have h5:wos F ((r0::rest).drop (1+es.length+1)) (1+es.length+1)=.ok xs:=by
    rw [h5]
    show Except.ok (xs++[])=_
    rw [List.append_nil]
  rw [← h1]
  unfold rdRest
  rw [h2,h5]
  first | done | rfl
end
def pD:Except Nat PyData→PyData
  | .error l=>.int (l:Int)
  | .ok d=>d
end Kw
set_option Elab.async false
set_option linter.all false
set_option maxRecDepth 100000
namespace Kw
open PySem L2 Mf Mt
abbrev s__law_due:Stmt:=(top 53)
theorem sc__law_due:FnScope ["_law_lines_here", "_law_head", "_law_faces", "_law_ways", "_law_sides", "_law_prices", "_law_told_here", "_law_place", "_law_words", "_law_side", "_law_price", "_law_worth"] ["_law_lines_here"] (defScope s__law_due):=⟨rfl,rfl,rfl,by decide +kernel,rfl,by decide +kernel,by decide +kernel⟩
@[irreducible] def sp_ldue:Sp:=fun vs H Q _=>∃ (a:Addr) (rs:List (List Str)),vs=[.ref a]∧H a=some (.lst ((rs.map lnOf).map V.str))∧(∀ r∈rs,RwS r)∧rs.length≤400∧∀ v H',Same H H'→Rep H' (pD (rdPap rs)) v→Q v H'
theorem sp_ldue_i {H:Hp} {Q:VK} {E:XK} {a:Addr} {rs:List (List Str)} (h1:H a=some (.lst ((rs.map lnOf).map V.str))) (h3:∀ r∈rs,RwS r) (hl:rs.length≤400) (k:∀ v H',Same H H'→Rep H' (pD (rdPap rs)) v→Q v H'):sp_ldue [.ref a] H Q E:=by
  unfold sp_ldue; exact ⟨a,rs,rfl,h1,h3,hl,k⟩
section
variable {P:Program} {w:World} {K:PySem.W.Frag} {mg:Str→Option Value} {base:Heap} {c:Cl}
set_option maxHeartbeats 8000000 in
theorem ok__law_due {f:Addr} {fd:FuncData} (F:Fun K "_law_due" "_law_due" s__law_due f fd) (T:Txt K mg c) (F__law_line:FnC CX0 P w K mg base 3 "_law_line" ["_law_words", "_law_first", "_law_faces", "_law_behind_word", "_law_many"] sp_lline):FnOk P w K mg base CX0 4 f fd ["_law_lines_here"] sp_ldue:=by
  refine F.okw sc__law_due (fun vs H Q E h=>?_) (fun cdv A outer s H vs Q E hr h=>?_)
  · unfold sp_ldue at h
    obtain ⟨a,rs,rfl,_⟩:=h
    rfl
  · unfold sp_ldue at h
    obtain ⟨a,rs,rfl,ha,ok,hl4,k⟩:=h
    refine ⟨_,(wss_cons (ws_cut (ws_set (i:=1) sc__law_due.nd rfl (Or.inl rfl) (we_ifExp (wt_cmp (op_neD hr.units) (we_v 0) (we_lst wa_nil) (nomark _)) (we_bm PySem.F.plainAttrs_str PySem.F.slot_str_split PySem.F.type_str_split mt_split (we_ix ix_seq (we_v 0) we_int (fun _ _=>rfl)) (wa_k we_str wa_nil)) (we_lst wa_nil))))
      (wss_cons (ws_if (wt_mono (wt_w (ww_or (wt_cmp op_ne (we_cB cl_len (by rfl) T.b_len (by decide +kernel) (wa_k (we_v 1) wa_nil)) we_int (nomark _)) (ww_or (wt_cmp op_ne (we_ix ix_seq (we_v 1) we_int (fun _ _=>rfl)) we_str (nomark _)) (ww_or1 (wt_cmp (op_notInK (K:=K)) (we_ix ix_seq (we_v 1) we_int (fun _ _=>rfl)) (we_tup (wa_k we_str (wa_k we_str wa_nil))) (by with_unfolding_all rfl))))))) (wss_one (ws_ret we_int)) wss_nil)
      (wss_cons (ws_if (wt_mono (wt_w (ww_or (wt_cmp (op_notInK (K:=K)) (we_ix ix_seq (we_v 1) we_int (fun _ _=>rfl)) (we_tup (wa_k we_str (wa_k we_str (wa_k we_str wa_nil)))) (by with_unfolding_all rfl)) (ww_or1 (wt_cmp (op_notInK (K:=K)) (we_ix ix_seq (we_v 1) we_int (fun _ _=>rfl)) (we_tup (wa_k we_str (wa_k we_str (wa_k we_str wa_nil)))) (by with_unfolding_all rfl)))))) (wss_one (ws_ret we_int)) wss_nil)
      (wss_cons (ws_set (i:=2) sc__law_due.nd rfl (Or.inl rfl) (we_cT (cl_intT T.nd) (by rfl) T.b_int (by decide +kernel) (wa_k (we_ix ix_seq (we_v 1) we_int (fun _ _=>rfl)) wa_nil)))
      (wss_cons (ws_set (i:=3) sc__law_due.nd rfl (Or.inl rfl) (we_cT (cl_intT T.nd) (by rfl) T.b_int (by decide +kernel) (wa_k (we_ix ix_seq (we_v 1) we_int (fun _ _=>rfl)) wa_nil)))
      (wss_cons (ws_set (i:=4) sc__law_due.nd rfl (Or.inl rfl) (we_lst wa_nil))
      (wss_cons (ws_set (i:=5) sc__law_due.nd rfl (Or.inl rfl) we_non)
      (wss_cons (ws_set (i:=6) sc__law_due.nd rfl (Or.inl rfl) (we_lst wa_nil))
      (wss_cons (ws_for PassesOwn.never rfl (wi_range2 rfl T.b_range (wa_k we_int (wa_k (we_cB cl_len (by rfl) T.b_len (by decide +kernel) (wa_k (we_v 0) wa_nil)) wa_nil))) (wg_name (i:=7) sc__law_due.nd rfl (Or.inl rfl)) (wss_cons (ws_set (i:=8) sc__law_due.nd rfl (Or.inl rfl) (we_bm PySem.F.plainAttrs_str PySem.F.slot_str_split PySem.F.type_str_split mt_split (we_ix ix_seq (we_v 0) (we_v 7) (fun _ _=>rfl)) (wa_k we_str wa_nil)))
      (wss_cons (ws_set (i:=9) sc__law_due.nd rfl (Or.inl rfl) (we_fn F__law_line (hr.mono (by decide)) (wa_k (we_v 8) (wa_k we_str (wa_k (we_v 2) (wa_k we_str (wa_k (we_op op_add we_int (we_v 3)) wa_nil)))))))
      (wss_cons (ws_set (i:=10) sc__law_due.nd rfl (Or.inl rfl) (we_fn F__law_line (hr.mono (by decide)) (wa_k (we_v 8) (wa_k we_str (wa_k we_int (wa_k we_str (wa_k (we_v 3) wa_nil)))))))
      (wss_cons (ws_set (i:=11) sc__law_due.nd rfl (Or.inl rfl) (we_fn F__law_line (hr.mono (by decide)) (wa_k (we_v 8) (wa_k we_str (wa_k (we_v 2) (wa_k we_str (wa_k we_int wa_nil)))))))
      (wss_one (ws_if (wt_mono (wt_w (ww_and (wt_cmp op_isN (we_v 5) we_non (nomark _)) (ww_and (wt_cmp op_eq (we_ix ix_seq (we_v 1) we_int (fun _ _=>rfl)) we_str (nomark _)) (ww_and1 (wt_cmp op_notN (we_v 9) we_non (nomark _))))))) (wss_one (ws_expr (we_bm PySem.F.plainAttrs_list PySem.F.slot_list_append PySem.F.type_list_append mt_app (we_v 4) (wa_k (we_v 9) wa_nil)))) (wss_one (ws_if (wt_mono (wt_w (ww_and (wt_cmp op_isN (we_v 5) we_non (nomark _)) (ww_and1 (wt_cmp op_notN (we_v 10) we_non (nomark _)))))) (wss_one (ws_set (i:=5) sc__law_due.nd rfl (Or.inl rfl) (we_ix ix_seq (we_v 10) we_int (fun _ _=>rfl)))) (wss_one (ws_if (wt_mono (wt_w (ww_and (wt_cmp op_notN (we_v 5) we_non (nomark _)) (ww_and1 (wt_cmp op_notN (we_v 11) we_non (nomark _)))))) (wss_one (ws_expr (we_bm PySem.F.plainAttrs_list PySem.F.slot_list_append PySem.F.type_list_append mt_app (we_v 6) (wa_k (we_tup (wa_k (we_ix ix_seq (we_v 11) we_int (fun _ _=>rfl)) (wa_k (we_ix ix_seq (we_ix ix_seq (we_v 11) we_int (fun _ _=>rfl)) we_int (fun _ _=>rfl)) wa_nil))) wa_nil)))) (wss_one (ws_ret (we_v 7))))))))))))))
      (wss_cons (ws_if (wt_cmp op_isN (we_v 5) we_non (nomark _)) (wss_one (ws_ret (we_cB cl_len (by rfl) T.b_len (by decide +kernel) (wa_k (we_v 0) wa_nil)))) wss_nil)
      (wss_one (ws_ret (we_ifExp (wt_cmp op_eq (we_ix ix_seq (we_v 1) we_int (fun _ _=>rfl)) we_str (nomark _)) (we_tup (wa_k we_str (wa_k (we_v 5) (wa_k (we_cT call_tuple_of (by rfl) T.b_tuple (by decide +kernel) (wa_k (we_v 6) wa_nil)) wa_nil)))) (we_tup (wa_k we_str (wa_k (we_cT call_tuple_of (by rfl) T.b_tuple (by decide +kernel) (wa_k (we_v 4) wa_nil)) (wa_k (we_v 5) (wa_k (we_cT call_tuple_of (by rfl) T.b_tuple (by decide +kernel) (wa_k (we_v 6) wa_nil)) wa_nil)))))))))))))))))),?_⟩
    have no:∀ {H1:Hp} {n:Nat},Same H H1→rdPap rs=.error n→Q (.int (n:Int)) H1:=fun {H1 n} s1 e=>by
      refine k _ H1 s1 ?_
      rw [e]
      exact Rep.int _
    refine ⟨fun σ H'=>∃ hd,σ=[some (.ref a),some (.ref hd),none,none,none,none,none,none,none,none,none,none]∧Same H H'∧H' hd=some (.lst ((rs.headD []).map V.str)),?_,?_⟩
    case refine_2 =>
      refine ⟨_,rfl,?_⟩
      refine nwL (by show 0≤64; decide) fun q1 H1 hq1 e1 s1=>?_
      refine reD (Rep.lst (s1 _ _ ha) (strs_rep _)) (Rep.lst e1 RepL.nil) (strs_shp fun u hu=>?_) rfl ?_
      · obtain ⟨r,hr,rfl⟩:=List.mem_map.mp hu
        exact ln_low (ok r hr).k
      rw [eqv_s0]
      refine ⟨_,rfl,?_⟩
      cases rs with
      | nil =>
        refine iteFe (by simp) ?_
        refine nwL (by show 0≤64; decide) fun q2 H2 hq2 e2 s2=>?_
        exact ⟨q2,rfl,s1.trans s2,e2⟩
      | cons r rest =>
        have okr:=(ok r (List.mem_cons_self ..)).k
        have ll:=okr.ll
        have lr:=okr.len
        have sb:=okr.back
        refine iteTe (by simp) ?_
        refine ⟨_,rfl,?_⟩
        refine ixL (s1 _ _ ha) (atI_nat (j:=0) rfl) ?_
        refine ⟨rfl,?_⟩
        refine rsplit (b:=bk) (by decide +kernel) (lineM (by omega)) (by rw [sb]; exact lineM (by omega)) fun p1 H2 hp1 e2 s2=>?_
        rw [sb] at e2
        exact ⟨p1,rfl,s1.trans s2,e2⟩
    rintro σ H2 ⟨hd,rfl,s02,e2⟩
    refine ⟨fun b H3=>Same H2 H3∧(b=true→rdPap rs=.error 0)∧(b=false→∃ (kb:Bool) (u v:Str) (rest:List (List Str)),rs=[wPaper,kW kb,u,v]::rest),?_,?_⟩
    · refine ⟨_,rfl,?_⟩
      refine rlL e2 ?_
      rw [List.length_map]
      refine ⟨rfl,_,rfl,?_⟩
      by_cases hl:(rs.headD []).length=4
      · refine iteFe (by rw [hl]; rfl) ?_
        obtain ⟨r,rest,rfl⟩:∃ r rest,rs=r::rest:=by
          cases rs with
          | nil=>cases hl
          | cons r rest=>exact ⟨r,rest,rfl⟩
        have hl:r.length=4:=hl
        have e2:H2 hd=some (.lst (r.map V.str)):=e2
        obtain ⟨t0,t1,u,v,rfl⟩:∃ t0 t1 u v,r=[t0,t1,u,v]:=by
          match r,hl with
          | [a,b,c,d],_=>exact ⟨a,b,c,d,rfl⟩
        refine ⟨_,rfl,?_⟩
        refine ixL e2 (v:=.str t0) (atI_nat (j:=0) rfl) ?_
        refine ⟨rfl,_,rfl,?_⟩
        by_cases h0:t0=wPaper
        · refine iteFe (by show (!decide (V.str t0=V.str (Str.ofString "paper")))=false; rw [decide_eq_true (by rw [h0]; rfl)]; rfl) ?_
          subst h0
          refine ⟨_,rfl,?_⟩
          refine ixL e2 (v:=.str t1) (atI_nat (j:=1) rfl) ?_
          refine nwT (by show 2≤64; decide) fun p6 H6 hp6 e6 s6=>?_
          refine ⟨p6,([wRule,wNone]:List Str).map V.str,rfl,.inr (SqT.of e6),rfl,vstr_flat _,?_⟩
          rw [inV_strs]
          refine ⟨_,rfl,s6,?_⟩
          by_cases h1:t1∈[wRule,wNone]
          · have e9:(!decide (t1∈[wRule,wNone]))=false:=by rw [decide_eq_true h1]; rfl
            refine ⟨(fun z=>by rw [if_pos rfl,e9] at z; cases z),fun _=>?_⟩
            simp only [List.mem_cons,List.not_mem_nil,or_false] at h1
            rcases h1 with rfl | rfl
            · exact ⟨true,u,v,rest,rfl⟩
            · exact ⟨false,u,v,rest,rfl⟩
          · have e9:(!decide (t1∈[wRule,wNone]))=true:=by rw [decide_eq_false h1]; rfl
            refine ⟨fun _=>pap0 (hdW_n fun z=>h1 ?_) (hdW_n fun z=>h1 ?_),fun z=>by rw [if_pos rfl,e9] at z; cases z⟩
            · have:t1=wRule:=by injection z with _ z; injection z
              rw [this]; simp
            · have:t1=wNone:=by injection z with _ z; injection z
              rw [this]; simp
        · refine iteTe (by show (!decide (V.str t0=V.str (Str.ofString "paper")))=true; rw [decide_eq_false (fun z=>h0 (by injection z))]; rfl) ⟨Same.refl _,fun _=>pap0 (hdW_n fun z=>h0 (by injection z)) (hdW_n fun z=>h0 (by injection z)),fun z=>by cases z⟩
      · refine iteTe (by show (!decide (V.int ((rs.headD []).length:Int)=V.int 4))=true; rw [decide_eq_false (fun z=>hl (by injection z with z; omega))]; rfl) ⟨Same.refl _,fun _=>?_,fun z=>by cases z⟩
        cases rs with
        | nil=>exact pap0 rfl rfl
        | cons r rest=>exact pap0 (hdW_len hl) (hdW_len hl)
    rintro b H3 ⟨s3,hb1,hb2⟩
    cases b with
    | true =>
      refine iteT ?_
      exact no (s02.trans s3) (hb1 rfl)
    | false =>
      refine iteF ?_
      obtain ⟨kb,u,v,rest,rfl⟩:=hb2 rfl
      clear hb1 hb2
      have s03:=s02.trans s3
      have e3:H3 hd=some (.lst ([wPaper,kW kb,u,v].map V.str)):=s3 _ _ e2
      refine ⟨fun b H4=>Same H3 H4∧b=!decide (u∈sz3∧v∈sz3),?_,?_⟩
      · refine ⟨_,rfl,?_⟩
        refine ixL e3 (v:=.str u) (atI_nat (j:=2) rfl) ?_
        refine nwT (by show 3≤64; decide) fun p6 H6 hp6 e6 s6=>?_
        refine ⟨p6,sz3.map V.str,rfl,.inr (SqT.of e6),rfl,vstr_flat _,?_⟩
        rw [inV_strs]
        refine ⟨_,rfl,?_⟩
        by_cases hu:u∈sz3
        · refine iteFe (by rw [decide_eq_true hu]; rfl) ?_
          refine ⟨_,rfl,?_⟩
          refine ixL (s6 _ _ e3) (v:=.str v) (atI_nat (j:=3) rfl) ?_
          refine nwT (by show 3≤64; decide) fun p7 H7 hp7 e7 s7=>?_
          refine ⟨p7,sz3.map V.str,rfl,.inr (SqT.of e7),rfl,vstr_flat _,?_⟩
          rw [inV_strs]
          refine ⟨_,rfl,s6.trans s7,?_⟩
          by_cases hv:v∈sz3
          · rw [decide_eq_true hv,decide_eq_true ⟨hu,hv⟩]; rfl
          · rw [decide_eq_false hv,decide_eq_false (fun z=>hv z.2)]; rfl
        · refine iteTe (by rw [decide_eq_false hu]; rfl) ⟨s6,?_⟩
          rw [decide_eq_false (fun z=>hu z.1)]; rfl
      rintro b H4 ⟨s4,rfl⟩
      by_cases hS:u∈sz3∧v∈sz3
      · refine iteFe (by rw [decide_eq_true hS]; rfl) ?_
        obtain ⟨hu,hv⟩:=hS
        obtain ⟨a1,a2,a3⟩:=size_iff.mpr hu
        obtain ⟨b1,b2,b3⟩:=size_iff.mpr hv
        have e4:=s4 _ _ e3
        have s04:=s03.trans s4
        have eP:=pap_eq (b:=kb) (rest:=rest) hu hv
        have rint:∀ {u:Str} {Q':VK} {H':Hp},lgB u=true→Q' (.int ((val u:Nat):Int)) H'→rIntT [.str u] H' Q':=fun {u Q' H'} hu q'=>by
          obtain ⟨w1,w2,w3⟩:=lgB_len hu
          exact rintT (fun x hx=>.inr (figs_all w2 x hx)) (PySem.intText_digits (figs_all w2) w3 (by omega)) (line20 (by omega)) q'
        refine ⟨_,rfl,?_⟩
        refine ixL e4 (v:=.str u) (atI_nat (j:=2) rfl) ?_
        refine rint a1 ?_
        refine ⟨_,rfl,?_⟩
        refine ixL e4 (v:=.str v) (atI_nat (j:=3) rfl) ?_
        refine rint b1 ?_
        refine nwL (by show 0≤64; decide) fun LS H5 hLS e5 s5=>?_
        refine nwL (by show 0≤64; decide) fun LT H6 hLT e6 s6=>?_
        have s06:=(s04.trans s5).trans s6
        have nST:LS≠LT:=fun z=>by rw [z,hLT] at e5; cases e5
        have nh:∀ {D:Addr} {ys:List V},H4 D=some (.lst ys)→D≠LS∧D≠LT:=fun h=>⟨(fun z=>by rw [z,hLS] at h; cases h),fun z=>by have:=s5 _ _ h; rw [z,hLT] at this; cases this⟩
        refine ⟨_,rfl,?_⟩
        refine rlL (s06 _ _ ha) ?_
        rw [List.length_map,List.length_map,List.length_cons]
        rw [List.length_cons] at hl4
        refine ⟨_,_,rfl,⟨by decide,by decide,by omega,by omega⟩,?_⟩
        rw [show (((rest.length+1:Nat):Int) - 1).toNat=rest.length by omega]
        have nhd:=nh e4
        have okrest:∀ r∈rest,RwS r:=fun r hr=>ok r (List.mem_cons_of_mem _ hr)
        refine for_range (fun i σ H'=>∃ (pv:V) (o7 o8 o9 o10 o11:Option V) (ysS ysT:List V) (es:List Ent) (xs:List (List Int × Fr)),σ=[some (.ref a),some (.ref hd),some (.int ((val u:Nat):Int)),some (.int ((val v:Nat):Int)),some (.ref LS),some pv,some (.ref LT),o7,o8,o9,o10,o11]∧Same H H'∧H' hd=some (.lst ([wPaper,kW kb,u,v].map V.str))∧H' LS=some (.lst ysS)∧RepL H' (es.map enD) ysS∧H' LT=some (.lst ysT)∧RepL H' (xs.map woD) ysT∧es.length≤i∧xs.length≤i∧((pv=.non∧xs=[]∧PhA kb (val u) (val v) rest i es)∨∃ ps,Rep H' (shD ps) pv∧PhB kb (val u) (val v) ([wPaper,kW kb,u,v]::rest) rest i es ps xs))
          ⟨.non,_,_,_,_,_,[],[],[],[],rfl,s06,s6 _ _ (s5 _ _ e4),s6 _ _ e5,RepL.nil,e6,RepL.nil,Nat.le_refl _,Nat.le_refl _,.inl ⟨rfl,rfl,phA_0⟩⟩ ?_ ?_
        · rintro i σ H7 hi ⟨pv,o7,o8,o9,o10,o11,ysS,ysT,es,xs,rfl,s7,e7,eS7,rS7,eT7,rT7,les,lxs,ph⟩
          have hi:i<rest.length:=hi
          obtain ⟨ri,hri⟩:∃ ri,rest[i]?=some ri:=⟨_,List.getElem?_eq_getElem hi⟩
          have okri:=okrest ri (List.mem_of_getElem? hri)
          have ll:=okri.k.ll
          have lr:=okri.k.len
          have sb:=okri.k.back
          have lyS:=reps_len rS7
          have lyT:=reps_len rT7
          rw [show (1:Int)+(i:Int)=((1+i:Nat):Int) by omega]
          refine ⟨_,rfl,_,rfl,?_⟩
          refine ixL (s7 _ _ ha) (v:=.str (lnOf ri)) (atI_nat (by rw [List.getElem?_map,List.getElem?_map,Nat.add_comm,List.getElem?_cons_succ,hri]; rfl)) ?_
          refine ⟨rfl,?_⟩
          refine rsplit (b:=bk) (by decide +kernel) (lineM (by omega)) (by rw [sb]; exact lineM (by omega)) fun p1 H8 hp1 e8 s8=>?_
          rw [sb] at e8
          refine ⟨_,rfl,_,rfl,_,rfl,_,_,rfl,rfl,?_⟩
          have eW:((fun i j=>V.int (i+j)) (1:Int) ((val v:Nat):Int))=V.int ((1+val v:Nat):Int):=by show V.int (1+((val v:Nat):Int))=_; congr 1
          rw [eW]
          refine sp_lline_i (first:=wOn) (b:=wSay) e8 okri a3 (by omega) fun v1 H9 s9 r1=>?_
          rw [lnG_on] at r1
          refine ⟨_,rfl,_,rfl,?_⟩
          refine sp_lline_i (first:=wPrice) (b:=Str.ofString "") (F:=0) (s9 _ _ e8) okri (by decide) (by omega) fun v2 H10 s10 r2=>?_
          rw [lnG_price] at r2
          refine ⟨_,rfl,_,rfl,?_⟩
          refine sp_lline_i (first:=wWorth) (b:=Str.ofString "") (m:=1) (s10 _ _ (s9 _ _ e8)) okri a3 (by decide) fun v3 H11 s11 r3=>?_
          rw [lnG_worth] at r3
          have S7:Same H7 H11:=((s8.trans s9).trans s10).trans s11
          have r1:=optR_same r1 (s10.trans s11)
          have r2:=optR_same r2 s11
          have s011:=s7.trans S7
          have e11:=S7 _ _ e7
          have eS11:=S7 _ _ eS7
          have eT11:=S7 _ _ eT7
          have hLS0:H LS=none:=s04.free hLS
          have hLT0:H LT=none:=(s04.trans s5).free hLT
          rcases ph with ⟨rfl,rfl,ph⟩ | ⟨ps,rps,ph⟩
          · refine ⟨fun b H'=>H'=H11∧b=(kb&&(rdE (val u) (val v) ri).isSome),?_,?_⟩
            · refine ⟨_,rfl,rfl,_,rfl,?_⟩
              refine iteTe (by decide) ?_
              refine ⟨_,rfl,?_⟩
              refine ixL e11 (v:=.str (kW kb)) (atI_nat (j:=1) rfl) ?_
              refine ⟨rfl,_,rfl,?_⟩
              cases kb with
              | true =>
                refine iteTe (decide_eq_true rfl) ?_
                refine ⟨_,rfl,rfl,_,rfl,rfl,?_⟩
                cases hE:rdE (val u) (val v) ri with
                | none=>rw [hE] at r1; cases (show v1=.non from r1); rfl
                | some e=>rw [hE] at r1; obtain ⟨d1,x1,rfl,_⟩:=tup_at (show Rep H11 (lnD e) v1 from r1); rfl
              | false =>
                refine iteFe (decide_eq_false fun z=>by injection z with z; exact absurd z (by decide +kernel)) ?_
                exact ⟨rfl,rfl⟩
            rintro b H12 ⟨rfl,rfl⟩
            by_cases hside:(kb&&(rdE (val u) (val v) ri).isSome)=true
            · refine iteTe hside ?_
              rw [Bool.and_eq_true] at hside
              obtain ⟨hk,hs⟩:=hside
              subst hk
              obtain ⟨e,he⟩:=Option.isSome_iff_exists.mp hs
              rw [he] at r1
              have r1:Rep H12 (enD e) v1:=r1
              refine ⟨_,rfl,tyL eS11,_,rfl,?_⟩
              refine appL eS11 (by omega) fun H13 e13 b13=>?_
              have t13:=b13.t eS11
              refine ⟨_,_,_,_,_,_,_,_,es++[e],[],rfl,Same.thru hLS0 s011 b13,b13.at nhd.1 e11,e13,?_,b13.at (Ne.symm nST) eT11,(rT7.same S7).flat t13 (wos_flat _),by rw [List.length_append,List.length_singleton]; omega,Nat.zero_le _,.inl ⟨rfl,rfl,phA_side ph hri he⟩⟩
              rw [List.map_append]
              exact RepL.snoc ((rS7.same S7).flat t13 (ru_flat _)) (r1.flat t13 (en_flat _))
            · have hnone:kb=true→rdE (val u) (val v) ri=none:=fun hk=>by
                cases z:rdE (val u) (val v) ri with
                | none=>rfl
                | some e=>exact absurd (by rw [hk,z]; rfl) hside
              refine iteFe (Bool.eq_false_iff.mpr hside) ?_
              refine ⟨fun b H'=>H'=H12∧b=(rdP (val v) ri).isSome,?_,?_⟩
              · refine ⟨_,rfl,rfl,_,rfl,?_⟩
                refine iteTe (by decide) ?_
                refine ⟨_,rfl,rfl,_,rfl,rfl,?_⟩
                cases hP:rdP (val v) ri with
                | none=>rw [hP] at r2; cases (show v2=.non from r2); rfl
                | some fs=>rw [hP] at r2; obtain ⟨d1,x1,rfl,_⟩:=tup_at (show Rep H12 (lnD ([],fs)) v2 from r2); rfl
              rintro b H13 ⟨rfl,rfl⟩
              cases hP:rdP (val v) ri with
              | some fs =>
                rw [hP] at r2
                obtain ⟨d2,x2,rfl,hd2,rx2⟩:=tup_at (show Rep H13 (lnD ([],fs)) v2 from r2)
                obtain ⟨y1,y2,rfl,ry1,ry2⟩:=RepL_two rx2
                refine iteT ?_
                refine ⟨_,rfl,?_⟩
                refine ixT hd2 rfl ?_
                exact ⟨_,_,_,_,_,_,_,_,es,[],rfl,s011,e11,eS11,rS7.same S7,eT11,rT7.same S7,by omega,Nat.zero_le _,.inr ⟨fs,ry2,phB_of ph hri hnone hP⟩⟩
              | none =>
                refine iteF ?_
                refine ⟨fun b H'=>H'=H13∧b=false,?_,?_⟩
                · refine ⟨_,rfl,rfl,_,rfl,?_⟩
                  refine iteFe (by decide) ?_
                  exact ⟨rfl,rfl⟩
                rintro b H14 ⟨rfl,rfl⟩
                refine iteF ?_
                refine ⟨_,rfl,?_⟩
                refine no s011 ?_
                rw [eP,rest_errA ph hri hnone hP]
          · obtain ⟨dp,xp,rfl,hdp,rxp⟩:=shD_at rps
            refine ⟨fun b H'=>H'=H11∧b=false,?_,?_⟩
            · refine ⟨_,rfl,rfl,_,rfl,?_⟩
              refine iteFe (by simp) ?_
              exact ⟨rfl,rfl⟩
            rintro b H12 ⟨rfl,rfl⟩
            refine iteF ?_
            refine ⟨fun b H'=>H'=H12∧b=false,?_,?_⟩
            · refine ⟨_,rfl,rfl,_,rfl,?_⟩
              refine iteFe (by simp) ?_
              exact ⟨rfl,rfl⟩
            rintro b H13 ⟨rfl,rfl⟩
            refine iteF ?_
            refine ⟨fun b H'=>H'=H13∧b=(rdW (val u) ri).isSome,?_,?_⟩
            · refine ⟨_,rfl,rfl,_,rfl,?_⟩
              refine iteTe (by simp) ?_
              refine ⟨_,rfl,rfl,_,rfl,rfl,?_⟩
              cases hW:rdW (val u) ri with
              | none=>rw [hW] at r3; cases (show v3=.non from r3); rfl
              | some x=>rw [hW] at r3; obtain ⟨d1,x1,rfl,_⟩:=tup_at (show Rep H13 (lnD (x.1,[x.2])) v3 from r3); rfl
            rintro b H14 ⟨rfl,rfl⟩
            cases hW:rdW (val u) ri with
            | none =>
              refine iteF ?_
              refine ⟨_,rfl,?_⟩
              refine no s011 ?_
              rw [eP,rest_errB ph hri hW]
            | some x =>
              rw [hW] at r3
              obtain ⟨d3,x3,rfl,hd3,rx3⟩:=tup_at (show Rep H14 (lnD (x.1,[x.2])) v3 from r3)
              obtain ⟨y1,y2,rfl,ry1,ry2⟩:=RepL_two rx3
              obtain ⟨d4,x4,rfl,hd4,rx4⟩:=shD_at ry2
              obtain ⟨z4,hz4,rz4⟩:=reps_get' rx4 (i:=0) (f:=x.2) rfl
              refine iteT ?_
              refine ⟨_,rfl,tyL eT11,?_⟩
              refine ⟨_,rfl,?_⟩
              refine ixT hd3 rfl ?_
              refine ⟨_,rfl,?_⟩
              refine ixT hd3 rfl ?_
              refine ixT hd4 (atI_nat (j:=0) hz4) ?_
              refine nwT (by show 2≤64; decide) fun q15 H15 hq15 e15 s15=>?_
              have eT15:=s15 _ _ eT11
              refine appL eT15 (by omega) fun H16 e16 b16=>?_
              have t16:=b16.t eT15
              have ro:Rep H15 (woD x) (.ref q15):=Rep.tup e15 (RepL.cons (ry1.same s15) (RepL.cons (rz4.same s15) RepL.nil))
              have S15:=S7.trans s15
              refine ⟨_,_,_,_,_,_,_,_,es,xs++[x],rfl,Same.thru hLT0 (s011.trans s15) b16,b16.at nhd.2 (s15 _ _ e11),b16.at nST (s15 _ _ eS11),(rS7.same S15).flat t16 (ru_flat _),e16,?_,by omega,by rw [List.length_append,List.length_singleton]; omega,.inr ⟨ps,(rps.same S15).flat t16 (shD_flat _),phB_next ph hri hW⟩⟩
              rw [List.map_append]
              exact RepL.snoc ((rT7.same S15).flat t16 (wos_flat _)) (ro.flat t16 (wo_flat _))
        · rintro σ H7 ⟨pv,o7,o8,o9,o10,o11,ysS,ysT,es,xs,rfl,s7,e7,eS7,rS7,eT7,rT7,les,lxs,ph⟩
          rcases ph with ⟨rfl,rfl,ph⟩ | ⟨ps,rps,ph⟩
          · refine ⟨_,rfl,rfl,_,rfl,?_⟩
            refine iteTe (by decide) ?_
            refine ⟨_,rfl,?_⟩
            refine rlL (s7 _ _ ha) ?_
            rw [List.length_map,List.length_map,List.length_cons,Nat.add_comm]
            refine no s7 ?_
            rw [eP,rest_endA ph]
          · obtain ⟨dp,xp,rfl,hdp,rxp⟩:=shD_at rps
            obtain ⟨hes,hrest⟩:=rest_endB ph
            rw [hrest] at eP
            have eP:rdPap ([wPaper,kW kb,u,v]::rest)=.ok (mkD kb (Es kb (val u) (val v) rest) ps xs):=eP
            rw [← hes] at eP
            refine ⟨_,rfl,rfl,_,rfl,?_⟩
            refine iteFe (by simp) ?_
            refine ⟨_,rfl,?_⟩
            refine ixL e7 (v:=.str (kW kb)) (atI_nat (j:=1) rfl) ?_
            refine ⟨rfl,_,rfl,?_⟩
            cases kb with
            | false =>
              refine iteTe (decide_eq_true rfl) ?_
              refine ⟨_,rfl,_,rfl,?_⟩
              refine ⟨LT,_,rfl,.inl ⟨SqL.of eT7,fun l hl=>?_⟩⟩
              have sl:=Same.upd (o:=.tup ysT) hl
              have el:(upd H7 l (.tup ysT)) l=some (.tup ysT):=upd_same
              generalize upd H7 l (.tup ysT)=H8 at sl el
              refine nwT (by show 3≤64; decide) fun q9 H9 hq9 e9 s9=>?_
              refine k _ H9 ((s7.trans sl).trans s9) ?_
              rw [eP]
              exact Rep.tup e9 (RepL.cons (Rep.str _) (RepL.cons ((rps.same sl).same s9) (RepL.cons (Rep.tup (s9 _ _ el) ((rT7.same sl).same s9)) RepL.nil)))
            | true =>
              refine iteFe (decide_eq_false fun z=>by injection z with z; exact absurd z (by decide +kernel)) ?_
              refine ⟨_,rfl,?_⟩
              refine ⟨LS,_,rfl,.inl ⟨SqL.of eS7,fun l0 hl0=>?_⟩⟩
              have sl0:=Same.upd (o:=.tup ysS) hl0
              have el0:(upd H7 l0 (.tup ysS)) l0=some (.tup ysS):=upd_same
              generalize upd H7 l0 (.tup ysS)=H8 at sl0 el0
              refine ⟨_,rfl,_,rfl,?_⟩
              refine ⟨LT,_,rfl,.inl ⟨SqL.of (sl0 _ _ eT7),fun l hl=>?_⟩⟩
              have sl:=Same.upd (o:=.tup ysT) hl
              have el:(upd H8 l (.tup ysT)) l=some (.tup ysT):=upd_same
              generalize upd H8 l (.tup ysT)=H9 at sl el
              refine nwT (by show 4≤64; decide) fun q10 H10 hq10 e10 s10=>?_
              have S:=(sl0.trans sl).trans s10
              refine k _ H10 (s7.trans S) ?_
              rw [eP]
              exact Rep.tup e10 (RepL.cons (Rep.str _) (RepL.cons (Rep.tup (s10 _ _ (sl _ _ el0)) (rS7.same S)) (RepL.cons (rps.same S) (RepL.cons (Rep.tup (s10 _ _ el) (rT7.same S)) RepL.nil))))
      · refine iteTe (by rw [decide_eq_false hS]; rfl) ?_
        exact no (s03.trans s4) (pap0 (hdW_sz hS) (hdW_sz hS))
end
end Kw
set_option Elab.async false
set_option linter.all false
set_option maxRecDepth 100000
namespace Kw
open PySem L2 Mf Mt
abbrev s__law_told:Stmt:=(top 55)
theorem sc__law_told:FnScope ["_law_lines_here", "_law_found", "e"] ["_law_lines_here"] (defScope s__law_told):=⟨rfl,rfl,rfl,by decide +kernel,rfl,by decide +kernel,by decide +kernel⟩
theorem we_fldXK {X:Cx} {e:Expr} {g:Str} {pos:Pos} {ta:TE} (K:PySem.W.Frag) (he:PEw X e ta) (hK:X.K=K:=by rfl) (hb:attributeBase e g X.env (eval e X.env)=eval e X.env:=by rfl):PEw X (.Attribute e g pos) (tFldX K ta g):=by subst hK; exact we_fldX he hb
@[irreducible] def sp_told:Sp:=fun vs H Q _=>∃ (x:Addr) (rs:List (List Str)),vs=[.ref x]∧H x=some (.lst ((rs.map lnOf).map V.str))∧(∀ r∈rs,RwK r)∧rs.length≤400∧∀ v H',Same H H'→Rep H' (pD (rdPap rs)) v→Q v H'
theorem sp_told_i {H:Hp} {Q:VK} {E:XK} {x:Addr} {rs:List (List Str)} (h1:H x=some (.lst ((rs.map lnOf).map V.str))) (h3:∀ r∈rs,RwK r) (hl:rs.length≤400) (q:∀ v H',Same H H'→Rep H' (pD (rdPap rs)) v→Q v H'):sp_told [.ref x] H Q E:=by unfold sp_told; exact ⟨x,rs,rfl,h1,h3,hl,q⟩
section
variable {P:Program} {w:World} {K:PySem.W.Frag} {mg:Str→Option Value} {base:Heap} {c:Cl}
set_option maxHeartbeats 4000000 in
theorem ok__law_told {f:Addr} {fd:FuncData} (F:Fun K "_law_told" "_law_told" s__law_told f fd) (T:Txt K mg c) (F_read_paper:FnC (CX1 P w) P w K mg base 7 "read_paper" ["lines"] (sp_pap c.NoLines)):FnOk P w K mg base CX0 8 f fd ["_law_lines_here"] sp_told:=by
  refine F.okw sc__law_told (fun vs H Q E h=>?_) (fun cdv A outer s H vs Q E hr h=>?_)
  · unfold sp_told at h
    obtain ⟨a,rows,rfl,_⟩:=h
    rfl
  · unfold sp_told at h
    obtain ⟨a,rs,rfl,ha,ok,hl,q⟩:=h
    refine ⟨_,(wss_cons (ws_set (i:=1) sc__law_told.nd rfl (Or.inl rfl) we_non)
      (wss_cons (ws_try (i:=2) rfl rfl rfl T.g_EarlyError T.c_EarlyError sc__law_told.nd rfl rfl (fun _ _ _ hx=>(wss_one (ws_set (i:=1) sc__law_told.nd rfl (Or.inl rfl) (we_fnX F_read_paper (hr.mono (by decide)) hx (wa_k (we_v 0) wa_nil))))) (fun _=>(wss_cons (ws_set (i:=1) sc__law_told.nd rfl (Or.inl rfl) we_str)
      (wss_cons (ws_cut (ws_if (wt_mono (wt_w (ww_and (wt_val (we_cB (cl_isiYK K) (by rfl) T.b_isinstance (by decide +kernel) (wa_k (we_v 2) (wa_k (we_glob (v:=.ref c.NoLines) rfl T.g_NoLines rfl) wa_nil)))) (ww_and1 (wt_val (we_cB (cl_isiYK K) (by rfl) T.b_isinstance (by decide +kernel) (wa_k (we_v 2) (wa_k (we_bltn (v:=.ty "ValueError") (u:=.type "ValueError") rfl T.b_ValueError (by decide +kernel) rfl) wa_nil)))))))) (wss_one (ws_set (i:=1) sc__law_told.nd rfl (Or.inl rfl) (we_fldXK K (we_v 2)))) wss_nil))
      (wss_one (ws_if (wt_val (we_cB (cl_isiW K) (by rfl) T.b_isinstance (by decide +kernel) (wa_k (we_v 2) (wa_k (we_tup (wa_k (we_glob (v:=.ref c.NoBack) rfl T.g_NoBack rfl) (wa_k (we_glob (v:=.ref c.NoBounds) rfl T.g_NoBounds rfl) (wa_k (we_glob (v:=.ref c.NoFraction) rfl T.g_NoFraction rfl) (wa_k (we_glob (v:=.ref c.NoLook) rfl T.g_NoLook rfl) (wa_k (we_glob (v:=.ref c.NoOrder) rfl T.g_NoOrder rfl) (wa_k (we_glob (v:=.ref c.NoPaper) rfl T.g_NoPaper rfl) (wa_k (we_glob (v:=.ref c.NoRow) rfl T.g_NoRow rfl) (wa_k (we_glob (v:=.ref c.NoRule) rfl T.g_NoRule rfl) (wa_k (we_glob (v:=.ref c.NoTrial) rfl T.g_NoTrial rfl) wa_nil)))))))))) wa_nil)))) (wss_one (ws_set (i:=1) sc__law_told.nd rfl (Or.inl rfl) we_str)) wss_nil))))))
      (wss_one (ws_ret (we_v 1))))),?_⟩
    refine ⟨fun σ' cls od H'=>∃ l,rdPap rs=.error l∧σ'=[some (.ref a),some .non,none]∧cls=.ref c.NoLines∧Same H H'∧∃ d,od=some d∧H' d=some (XdO d [("line",.int (l:Int))]),?_,?_⟩
    · refine ⟨_,rfl,?_⟩
      refine sp_pap_i ha ok hl (fun l he H' d s1 ed=>⟨l,he,rfl,rfl,s1,d,rfl,ed⟩) fun d he v H1 s1 r1=>?_
      refine ⟨_,rfl,?_⟩
      refine q v H1 s1 ?_
      rw [he]
      exact r1
    · rintro σ' cls od H' ⟨l,he,rfl,rfl,s1,d,rfl,ed⟩
      refine ⟨c.NoLines,rfl,T.s2,fun b na=>?_⟩
      have ea:(upd H' b (ExcO b c.NoLines (some d))) b=some (ExcO b c.NoLines (some d)):=upd_same
      have sa:=Same.upd (o:=ExcO b c.NoLines (some d)) na
      generalize upd H' b (ExcO b c.NoLines (some d))=H1 at ea sa
      have ed:=sa _ _ ed
      have ec:=excAll.cls T.ec_NoLines
      have hx:∀ H2,Same H1 H2→XHas H2 (some d):=fun H2 s'=>⟨_,s' _ _ ed⟩
      refine ⟨fun σ H2=>H2=H1∧σ=[some (.ref a),some (.int (l:Int)),some (.ref b)],?_,?_⟩
      case refine_2 =>
        refine ⟨fun bb H2=>H2=H1∧bb=true,?_,?_⟩
        · refine ⟨_,rfl,?_⟩
          refine ryI (b:=true) ea (hx H1 (Same.refl _)) ec _ rfl T.k2 ?_
          refine ⟨_,rfl,?_⟩
          refine iteT ?_
          refine ⟨_,rfl,?_⟩
          refine ryI (b:=true) ea (hx H1 (Same.refl _)) ec _ rfl T.k3 ?_
          exact ⟨_,rfl,rfl,rfl⟩
        · rintro bb H2 ⟨rfl,rfl⟩
          refine iteT ?_
          refine ⟨_,rfl,b,c.NoLines,d,_,.int (l:Int),rfl,ea,ed,ec,(setAll.set T.st_NoLines).hd,setAll.no T.st_NoLines (by simp),rfl,?_⟩
          exact ⟨rfl,rfl⟩
      rintro σ H2 ⟨rfl,rfl⟩
      refine ⟨_,rfl,?_⟩
      refine nwT (by show 9≤64; decide) fun tp H3 htp e3 s3=>?_
      refine rwI (b:=false) (s3 _ _ ea) (hx H3 s3) ec e3 (fun us hv=>?_) ?_
      · cases hv with | cons r1 hv=>cases hv with | cons r2 hv=>cases hv with | cons r3 hv=>cases hv with | cons r4 hv=>cases hv with | cons r5 hv=>cases hv with | cons r6 hv=>cases hv with | cons r7 hv=>cases hv with | cons r8 hv=>cases hv with | cons r9 hv=>cases hv; cases r1; cases r2; cases r3; cases r4; cases r5; cases r6; cases r7; cases r8; cases r9; exact T.k1
      refine ⟨_,rfl,?_⟩
      refine iteF ?_
      refine ⟨_,rfl,?_⟩
      refine q _ H3 ((s1.trans sa).trans s3) ?_
      rw [he]
      exact Rep.int _
end
end Kw
set_option Elab.async false
set_option linter.all false
set_option maxRecDepth 100000
namespace L2
open PySem PySem.Spec PyProof.Rows
section
variable {σ:St} {js:List Nat} {te:TE} {H:Hp} {Q:VK}
theorem compN_fcL {K:PySem.W.Frag} {n:Nat} {a0:Addr} {xs:List V} {p L:Addr} {Fd:Nat→Hp→Prop} (fl:FcLike p L Fd) (F0:Fd 0 H) (R:Nat→V→Hp→Prop) (hR:∀ i y H1 H2,SameT H1 H2→R i y H1→R i y H2) (hz:xs.length≤100000) (ha:H a0=some (.lst xs))
    (hs:∀ i x H',xs[i]?=some x→Fd i H'→SameBut p H H'→∃ a vs,x=.ref a∧SqT K H' a vs∧vs.length=n∧∀ Q':VK,(∀ y H5,Fd (i+1) H5→SameBut p H' H5→R i y H5→Q' y H5)→te (vs.map some++slots σ js) H' Q')
    (hd:∀ D ys H',H D=none→H' D=some (.lst ys)→Fd xs.length H'→SameBut p H H'→ys.length=xs.length→(∀ (i:Nat) (y:V),ys[i]?=some y→R i y H')→Q (.ref D) H'):CompN K n (Itl K a0) σ js tYes te H Q:=by
  unfold CompN
  intro D hD
  obtain ⟨np,nL⟩:=fl.np _ _ _ F0 hD
  have na:a0≠p:=fun z=>by
    obtain ⟨ys,h⟩:=fl.dic _ H F0
    rw [z,h] at ha; cases ha
  refine ⟨fun i m ys H'=>m=xs.length - i∧i≤xs.length∧ys.length=i∧H' D=some (.lst ys)∧Fd i H'∧SameBut p H H'∧∀ (j:Nat) (y:V),ys[j]?=some y→R j y H',⟨xs.length,by simp,Nat.zero_le _,rfl,upd_same,fl.same _ _ _ (Same.upd hD) F0,(Same.upd hD).but,fun j y h=>by simp at h⟩,?_⟩
  rintro i m ys H2 ⟨rfl,hi,hy,hD2,F2,s2,r2⟩
  refine ⟨hD2,?_⟩
  have ha2:=s2.at na ha
  by_cases hlt:i<xs.length
  · refine .inr ⟨⟨xs,xs[i],SqL.of ha2,by simp [hlt]⟩,Nat.lt_of_le_of_lt (m:=100000) (by omega) (by decide),fun x H3 y3=>?_⟩
    obtain ⟨rfl,hx⟩:=y3
    have hx:=hx xs (SqL.of ha2)
    obtain ⟨a,vs,e,hq,hl,he⟩:=hs i x H3 hx F2 s2
    refine ⟨a,vs,e,hq,hl,fun b H4=>b=true∧H4=H3,⟨rfl,rfl⟩,?_⟩
    rintro b H4 ⟨rfl,rfl⟩
    rw [if_pos rfl]
    refine ⟨fun y H5=>Fd (i+1) H5∧SameBut p H4 H5∧R i y H5,he _ fun y H5 F5 s5 r=>⟨F5,s5,r⟩,?_⟩
    rintro y H5 ⟨F5,s5,r⟩
    have e5:=s5.at np hD2
    obtain ⟨zs,hp⟩:=fl.dic _ H4 F2
    have t6:SameT H5 (upd H5 D (.lst (ys++[y]))):=SameBut.t SameBut.self e5
    refine ⟨e5,_,by omega,rfl,hlt,by rw [List.length_append,List.length_singleton,hy],upd_same,fl.but _ D _ _ np nL SameBut.self F5,SameBut.thru hD (s2.trans s5) SameBut.self,fun j z hj=>?_⟩
    by_cases h:j<ys.length
    · rw [List.getElem?_append_left h] at hj
      exact hR j z _ _ ((s5.tD hp).trans t6) (r2 j z hj)
    · have:j=ys.length:=by
        have:=(List.getElem?_eq_some_iff.mp hj).1
        rw [List.length_append,List.length_singleton] at this
        omega
      subst this
      rw [List.getElem?_append_right (Nat.le_refl _),Nat.sub_self] at hj
      injection hj with hj
      subst hj
      rw [hy]
      exact hR i y _ _ t6 r
  · have he:i=xs.length:=by omega
    subst he
    exact .inl ⟨⟨xs,SqL.of ha2,Nat.le_refl _⟩,hd D ys H2 hD hD2 F2 s2 hy r2⟩
end
end L2
set_option Elab.async false
set_option linter.all false
set_option maxRecDepth 100000
namespace Kw
open PySem L2 Mf Mt
abbrev s__law_any_fraction:Stmt:=(top 48)
theorem sc__law_any_fraction:FnScope ["_law_feed_here", "_law_n"] ["_law_feed_here"] (defScope s__law_any_fraction):=⟨rfl,rfl,rfl,by decide +kernel,rfl,by decide +kernel,by decide +kernel⟩
@[irreducible] def sp_anyf:Sp:=fun vs H Q _=>∃ (p L:Addr) (n:Nat),vs=[.ref p]∧FeedC H p L (n+10)∧∀ v f H',FeedC H' p L n→SameBut p H H'→FrT f→Rep H' (frD f) v→Q v H'
theorem sp_anyf_i {H:Hp} {Q:VK} {E:XK} {p L:Addr} {n:Nat} (F:FeedC H p L (n+10)) (k:∀ v f H',FeedC H' p L n→SameBut p H H'→FrT f→Rep H' (frD f) v→Q v H'):sp_anyf [.ref p] H Q E:=by
  unfold sp_anyf; exact ⟨p,L,n,rfl,F,k⟩
section
variable {P:Program} {w:World} {K:PySem.W.Frag} {mg:Str→Option Value} {base:Heap} {c:Cl}
set_option maxHeartbeats 4000000 in
theorem ok__law_any_fraction {f:Addr} {fd:FuncData} (F:Fun K "_law_any_fraction" "_law_any_fraction" s__law_any_fraction f fd) (T:Txt K mg c) (F__law_draw:FnC CX0 P w K mg base 1 "_law_draw" ["_law_feed_here", "_law_many"] sp_draw) (F__law_frac:FnC CX0 P w K mg base 1 "_law_frac" ["_law_n", "_law_d"] sp_lfrac):FnOk P w K mg base CX0 2 f fd ["_law_feed_here"] sp_anyf:=by
  refine F.okw sc__law_any_fraction (fun vs H Q E h=>?_) (fun cdv A outer s H vs Q E hr h=>?_)
  · unfold sp_anyf at h
    obtain ⟨p,L,n,rfl,_⟩:=h
    rfl
  · unfold sp_anyf at h
    obtain ⟨p,L,n,rfl,F0,k⟩:=h
    refine ⟨_,(wss_cons (ws_set (i:=1) sc__law_any_fraction.nd rfl (Or.inl rfl) (we_ix ix_seq (we_lst (wa_k (we_fn F__law_draw (hr.mono (by decide)) (wa_k (we_v 0) (wa_k we_int wa_nil))) (wa_k (we_op op_sub we_int (we_fn F__law_draw (hr.mono (by decide)) (wa_k (we_v 0) (wa_k we_int wa_nil)))) (wa_k (we_fn F__law_draw (hr.mono (by decide)) (wa_k (we_v 0) (wa_k (we_op op_pow we_int we_int) wa_nil))) wa_nil)))) (we_fn F__law_draw (hr.mono (by decide)) (wa_k (we_v 0) (wa_k we_int wa_nil))) (fun _ _=>rfl)))
      (wss_one (ws_ret (we_fn F__law_frac (hr.mono (by decide)) (wa_k (we_v 1) (wa_k (we_op op_add we_int (we_ix ix_seq (we_lst (wa_k (we_fn F__law_draw (hr.mono (by decide)) (wa_k (we_v 0) (wa_k we_int wa_nil))) (wa_k (we_fn F__law_draw (hr.mono (by decide)) (wa_k (we_v 0) (wa_k we_int wa_nil))) (wa_k (we_fn F__law_draw (hr.mono (by decide)) (wa_k (we_v 0) (wa_k (we_op op_pow we_int we_int) wa_nil))) wa_nil)))) (we_fn F__law_draw (hr.mono (by decide)) (wa_k (we_v 0) (wa_k we_int wa_nil))) (fun _ _=>rfl))) wa_nil)))))),?_⟩
    refine ⟨_,rfl,?_⟩
    refine sp_draw_i (n:=n+9) F0 (by decide) (by decide +kernel) fun x1 H1 a1 b1 F1 s1=>?_
    refine ⟨_,rfl,?_⟩
    refine sp_draw_i (n:=n+8) F1 (by decide) (by decide +kernel) fun x2 H2 a2 b2 F2 s2=>?_
    refine ⟨_,_,rfl,rfl,?_⟩
    refine ⟨_,rfl,_,_,rfl,rfl,⟨by decide,by decide,by decide⟩,?_⟩
    refine sp_draw_i (n:=n+7) F2 (by decide) (by decide +kernel) fun x3 H3 a3 b3 F3 s3=>?_
    have b3:x3<10^40:=b3
    refine nwL (by show 3≤64; decide) fun q4 H4 hq4 e4 s4=>?_
    have F4:=F3.same s4
    have n4:q4≠p:=F3.ne hq4
    refine ⟨_,rfl,?_⟩
    refine sp_draw_i (n:=n+6) F4 (by decide) (by decide +kernel) fun x5 H5 a5 b5 F5 s5=>?_
    obtain ⟨j5,rfl⟩:∃ b:Nat,x5=(b:Int):=⟨x5.toNat,by omega⟩
    obtain ⟨m,hm,hmz⟩:∃ m:Int,[V.int x1,.int (0 - x2),.int x3][j5]?=some (.int m)∧m.natAbs<10^41:=by
      have p40:(10:Int)^40=((10^40:Nat):Int):=by decide +kernel
      have q40:(30:Nat)<10^41:=by decide
      have r40:(10:Nat)^40<10^41:=by decide
      rcases (show j5=0∨j5=1∨j5=2 by omega) with rfl | rfl | rfl
      · exact ⟨x1,rfl,by omega⟩
      · exact ⟨0 - x2,rfl,by omega⟩
      · exact ⟨x3,rfl,by omega⟩
    refine ixL (s5.at n4 e4) (atI_nat hm) ?_
    refine ⟨_,rfl,_,rfl,?_⟩
    refine sp_draw_i (n:=n+5) F5 (by decide) (by decide +kernel) fun y1 G1 c1 d1 F6 t1=>?_
    refine ⟨_,rfl,?_⟩
    refine sp_draw_i (n:=n+4) F6 (by decide) (by decide +kernel) fun y2 G2 c2 d2 F7 t2=>?_
    refine ⟨_,rfl,_,_,rfl,rfl,⟨by decide,by decide,by decide⟩,?_⟩
    refine sp_draw_i (n:=n+3) F7 (by decide) (by decide +kernel) fun y3 G3 c3 d3 F8 t3=>?_
    have d3:y3<10^30:=d3
    refine nwL (by show 3≤64; decide) fun q9 G4 hq9 e9 t4=>?_
    have F9:=F8.same t4
    have n9:q9≠p:=F8.ne hq9
    refine ⟨_,rfl,?_⟩
    refine sp_draw_i (n:=n+2) F9 (by decide) (by decide +kernel) fun z5 G5 g5 h5 F10 t5=>?_
    obtain ⟨j,rfl⟩:∃ b:Nat,z5=(b:Int):=⟨z5.toNat,by omega⟩
    obtain ⟨d,hd,hd0,hdz⟩:∃ d:Int,[V.int y1,.int y2,.int y3][j]?=some (.int d)∧0≤d∧d.natAbs<10^31:=by
      have p30:(10:Int)^30=((10^30:Nat):Int):=by decide +kernel
      have q30:(30:Nat)<10^31:=by decide
      have r30:(10:Nat)^30<10^31:=by decide
      rcases (show j=0∨j=1∨j=2 by omega) with rfl | rfl | rfl
      · exact ⟨y1,rfl,c1,by omega⟩
      · exact ⟨y2,rfl,c2,by omega⟩
      · exact ⟨y3,rfl,c3,by omega⟩
    refine ixL (t5.at n9 e9) (atI_nat hd) ?_
    refine ⟨_,_,rfl,rfl,?_⟩
    have dp:(0:Int)<1+d:=by omega
    have dz:(1+d).natAbs<10^32:=by
      have:(10:Nat)^31+1≤10^32:=by decide
      omega
    refine sp_lfrac_i dp (Nat.lt_trans dz (by decide +kernel)) fun p10 G6 hp10 e10 t6=>?_
    have S:SameBut p H G6:=(((((((((s1.trans s2).trans s3).trans s4.but).trans s5).trans t1).trans t2).trans t3).trans t4.but).trans t5).trans t6.but
    obtain ⟨l1,l2⟩:=lw_le (n:=m) dp
    have lo:=lw_low (n:=m) dp
    have lp:=lo.pos
    have p1:(10:Nat)^41≤10^50:=by decide
    have p2:(10:Nat)^32≤10^50:=by decide
    exact k _ (lw m (1+d)) G6 ((F10.same t6).less (by omega)) S ⟨lo,by omega,by omega⟩ (frD_of e10)
end
end Kw
set_option Elab.async false
set_option linter.all false
set_option maxRecDepth 100000
namespace Kw
open PySem L2 Mf Mt
abbrev s__law_any_paper:Stmt:=(top 49)
theorem sc__law_any_paper:FnScope ["_law_feed_here", "_law_faces", "_law_ways", "_law_sides", "_law_k", "_law_great", "_law_counts", "_law_told_here", "_law_prices"] ["_law_feed_here"] (defScope s__law_any_paper):=⟨rfl,rfl,rfl,by decide +kernel,rfl,by decide +kernel,by decide +kernel⟩
theorem FeedC.neT {H:Hp} {p L q:Addr} {n:Nat} {xs:List V} (F:FeedC H p L n) (hq:H q=some (.tup xs)):q≠p:=fun e=>by
  subst e; obtain ⟨ns,t,l,h,_⟩:=F.ex; rw [h] at hq; cases hq
structure WoT (F:Nat) (x:List Int × Fr):Prop where
  c:x.1.length=F
  n:∀ y∈x.1,0≤y∧y.natAbs<10^50
  f:FrT x.2
structure PapOk (b:Bool) (F W:Nat) (es:List Ent) (ps:List Fr) (xs:List (List Int × Fr)):Prop where
  f:2≤F∧F≤4
  w:2≤W∧W≤4
  e:∀ e∈es,EnT F W e
  el:es.length≤5
  p:ps.length=W
  pt:∀ f∈ps,FrT f
  xn:xs≠[]
  xl:xs.length≤5
  x:∀ x∈xs,WoT F x
@[irreducible] def sp_anyp:Sp:=fun vs H Q _=>∃ (p L:Addr) (n:Nat),vs=[.ref p]∧FeedC H p L (n+1000)∧∀ v b F W es ps xs H',FeedC H' p L n→SameBut p H H'→PapOk b F W es ps xs→Rep H' (mkD b es ps xs) v→Q v H'
theorem sp_anyp_i {H:Hp} {Q:VK} {E:XK} {p L:Addr} {n:Nat} (F:FeedC H p L (n+1000)) (k:∀ v b F W es ps xs H',FeedC H' p L n→SameBut p H H'→PapOk b F W es ps xs→Rep H' (mkD b es ps xs) v→Q v H'):sp_anyp [.ref p] H Q E:=by
  unfold sp_anyp; exact ⟨p,L,n,rfl,F,k⟩
theorem frs_ex61 {H:Hp}:∀ {ys:List V},(∀ (i:Nat) (y:V),ys[i]?=some y→∃ f:Fr,Rep H (frD f) y∧FrT f)→∃ fs:List Fr,fs.length=ys.length∧RepL H (fs.map frD) ys∧∀ f∈fs,FrT f
  | [],_=>⟨[],rfl,RepL.nil,fun f hf=>by cases hf⟩
  | y::ys,h=>by
    obtain ⟨f,h1,h2⟩:=h 0 y rfl
    obtain ⟨fs,g1,g2,g3⟩:=frs_ex61 (ys:=ys) fun i y hy=>h (i+1) y (by simpa using hy)
    exact ⟨f::fs,by rw [List.length_cons,List.length_cons,g1],RepL.cons h1 g2,fun g hg=>by
      rcases List.mem_cons.mp hg with rfl | hg
      · exact h2
      · exact g3 g hg⟩
theorem wos_ex61 {H:Hp} {F:Nat}:∀ {ys:List V},(∀ (i:Nat) (y:V),ys[i]?=some y→∃ x,Rep H (woD x) y∧WoT F x)→∃ xs:List (List Int × Fr),xs.length=ys.length∧RepL H (xs.map woD) ys∧∀ x∈xs,WoT F x
  | [],_=>⟨[],rfl,RepL.nil,fun f hf=>by cases hf⟩
  | y::ys,h=>by
    obtain ⟨f,h1,h2⟩:=h 0 y rfl
    obtain ⟨fs,g1,g2,g3⟩:=wos_ex61 (ys:=ys) fun i y hy=>h (i+1) y (by simpa using hy)
    exact ⟨f::fs,by rw [List.length_cons,List.length_cons,g1],RepL.cons h1 g2,fun g hg=>by
      rcases List.mem_cons.mp hg with rfl | hg
      · exact h2
      · exact g3 g hg⟩
section
variable {P:Program} {w:World} {K:PySem.W.Frag} {mg:Str→Option Value} {base:Heap} {c:Cl}
set_option maxHeartbeats 8000000 in
theorem ok__law_any_paper {f:Addr} {fd:FuncData} (F:Fun K "_law_any_paper" "_law_any_paper" s__law_any_paper f fd) (T:Txt K mg c) (F__law_draw:FnC CX0 P w K mg base 1 "_law_draw" ["_law_feed_here", "_law_many"] sp_draw) (F__law_any_fraction:FnC CX0 P w K mg base 2 "_law_any_fraction" ["_law_feed_here"] sp_anyf):FnOk P w K mg base CX0 3 f fd ["_law_feed_here"] sp_anyp:=by
  refine F.okw sc__law_any_paper (fun vs H Q E h=>?_) (fun cdv A outer s H vs Q E hr h=>?_)
  · unfold sp_anyp at h
    obtain ⟨p,L,n,rfl,_⟩:=h
    rfl
  · unfold sp_anyp at h
    obtain ⟨p,L,n,rfl,F0,k⟩:=h
    refine ⟨_,(wss_cons (ws_set (i:=1) sc__law_any_paper.nd rfl (Or.inl rfl) (we_op op_add we_int (we_fn F__law_draw (hr.mono (by decide)) (wa_k (we_v 0) (wa_k we_int wa_nil)))))
      (wss_cons (ws_set (i:=2) sc__law_any_paper.nd rfl (Or.inl rfl) (we_op op_add we_int (we_fn F__law_draw (hr.mono (by decide)) (wa_k (we_v 0) (wa_k we_int wa_nil)))))
      (wss_cons (ws_set (i:=3) sc__law_any_paper.nd rfl (Or.inl rfl) (we_lst wa_nil))
      (wss_cons (ws_for PassesOwn.never rfl (wi_range1 rfl T.b_range (wa_k (we_op op_add we_int (we_fn F__law_draw (hr.mono (by decide)) (wa_k (we_v 0) (wa_k we_int wa_nil)))) wa_nil)) (wg_name (i:=4) sc__law_any_paper.nd rfl (Or.inl rfl)) (wss_cons (ws_set (i:=5) sc__law_any_paper.nd rfl (Or.inr rfl) (we_cT call_int1 (by rfl) T.b_int (by decide +kernel) (wa_k (we_cmp op_eq (we_fn F__law_draw (hr.mono (by decide)) (wa_k (we_v 0) (wa_k we_int wa_nil))) we_int (nomark _)) wa_nil)))
      (wss_cons (ws_set (i:=6) sc__law_any_paper.nd rfl (Or.inl rfl) (we_cT call_tuple_of (by rfl) T.b_tuple (by decide +kernel) (wa_k (we_comp (CScope.of (psc:=defScope s__law_any_paper) (N:=["_law_feed_here", "_law_faces", "_law_ways", "_law_sides", "_law_k", "_law_great", "_law_counts", "_law_told_here", "_law_prices"]) (N':=["_law_j", "_law_feed_here", "_law_great"]) (js:=[0,5]) (by decide +kernel) rfl rfl rfl) (wi_range1 rfl T.b_range (wa_k (we_v 1) wa_nil)) (fun _ _ _ _=>wts_nil) (fun _ _ _ _=>(we_fn F__law_draw (hr.mono (by decide)) (wa_k (we_v 1) (wa_k (we_ix (ix_seqK K) (we_lst (wa_k we_int (wa_k (we_op op_pow we_int we_int) wa_nil))) (we_v 2) (fun _ _=>rfl)) wa_nil))))) wa_nil)))
      (wss_one (ws_expr (we_bm PySem.F.plainAttrs_list PySem.F.slot_list_append PySem.F.type_list_append mt_app (we_v 3) (wa_k (we_tup (wa_k (we_v 6) (wa_k (we_cT call_tuple_of (by rfl) T.b_tuple (by decide +kernel) (wa_k (we_comp (CScope.of (psc:=defScope s__law_any_paper) (N:=["_law_feed_here", "_law_faces", "_law_ways", "_law_sides", "_law_k", "_law_great", "_law_counts", "_law_told_here", "_law_prices"]) (N':=["_law_way", "_law_feed_here"]) (js:=[0]) (by decide +kernel) rfl rfl rfl) (wi_range1 rfl T.b_range (wa_k (we_op op_add we_int (we_v 2)) wa_nil)) (fun _ _ _ _=>wts_nil) (fun _ _ _ _=>(we_fn F__law_any_fraction (hr.mono (by decide)) (wa_k (we_v 1) wa_nil)))) wa_nil)) wa_nil))) wa_nil)))))))
      (wss_cons (ws_setCompN2 (i:=7) (CScopeN.of (psc:=defScope s__law_any_paper) (N:=["_law_feed_here", "_law_faces", "_law_ways", "_law_sides", "_law_k", "_law_great", "_law_counts", "_law_told_here", "_law_prices"]) (xs:=["_law_counts", "_law_says"]) (N':=["_law_counts", "_law_says", "_law_feed_here"]) (js:=[0]) (by decide +kernel) rfl rfl rfl) sc__law_any_paper.nd rfl rfl (wi_list (we_v 3)) (fun _ _ _ _=>wts_nil) (fun _ _ _ _=>(we_tup (wa_k (we_v 0) (wa_k (we_fn F__law_any_fraction (hr.mono (by decide)) (wa_k (we_v 2) wa_nil)) wa_nil)))))
      (wss_cons (ws_set (i:=8) sc__law_any_paper.nd rfl (Or.inl rfl) (we_cT call_tuple_of (by rfl) T.b_tuple (by decide +kernel) (wa_k (we_comp (CScope.of (psc:=defScope s__law_any_paper) (N:=["_law_feed_here", "_law_faces", "_law_ways", "_law_sides", "_law_k", "_law_great", "_law_counts", "_law_told_here", "_law_prices"]) (N':=["_law_way", "_law_feed_here"]) (js:=[0]) (by decide +kernel) rfl rfl rfl) (wi_range1 rfl T.b_range (wa_k (we_v 2) wa_nil)) (fun _ _ _ _=>wts_nil) (fun _ _ _ _=>(we_fn F__law_any_fraction (hr.mono (by decide)) (wa_k (we_v 1) wa_nil)))) wa_nil)))
      (wss_cons (ws_if (wt_cmp op_eq (we_fn F__law_draw (hr.mono (by decide)) (wa_k (we_v 0) (wa_k we_int wa_nil))) we_int (nomark _)) (wss_one (ws_ret (we_tup (wa_k we_str (wa_k (we_v 8) (wa_k (we_cT call_tuple_of (by rfl) T.b_tuple (by decide +kernel) (wa_k (we_v 7) wa_nil)) wa_nil)))))) wss_nil)
      (wss_one (ws_ret (we_tup (wa_k we_str (wa_k (we_cT call_tuple_of (by rfl) T.b_tuple (by decide +kernel) (wa_k (we_slice (sl_listN K) (we_v 3) (wo_some (we_fn F__law_draw (hr.mono (by decide)) (wa_k (we_v 0) (wa_k we_int wa_nil)))) wo_none) wa_nil)) (wa_k (we_v 8) (wa_k (we_cT call_tuple_of (by rfl) T.b_tuple (by decide +kernel) (wa_k (we_v 7) wa_nil)) wa_nil)))))))))))))),?_⟩
    refine ⟨_,rfl,?_⟩
    refine sp_draw_i (n:=n+999) F0 (by decide) (by decide +kernel) fun x1 H1 a1 b1 F1 s1=>?_
    refine ⟨_,_,rfl,rfl,?_⟩
    obtain ⟨nF,hF⟩:∃ nF:Nat,2+x1=(nF:Int):=⟨(2+x1).toNat,by omega⟩
    rw [show (fun i j=>V.int (i+j)) (2:Int) x1=V.int (nF:Int) from congrArg V.int hF]
    refine ⟨_,rfl,?_⟩
    refine sp_draw_i (n:=n+998) F1 (by decide) (by decide +kernel) fun x2 H2 a2 b2 F2 s2=>?_
    refine ⟨_,_,rfl,rfl,?_⟩
    obtain ⟨nW,hW⟩:∃ nW:Nat,2+x2=(nW:Int):=⟨(2+x2).toNat,by omega⟩
    rw [show (fun i j=>V.int (i+j)) (2:Int) x2=V.int (nW:Int) from congrArg V.int hW]
    refine nwL (by show 0≤64; decide) fun LS H3 hLS e3 s3=>?_
    have F3:=F2.same s3
    have nSp:LS≠p:=F2.ne hLS
    have nSL:LS≠L:=F2.neL hLS
    refine ⟨_,rfl,?_⟩
    refine sp_draw_i (n:=n+997) F3 (by decide) (by decide +kernel) fun x4 H4 a4 b4 F4 s4=>?_
    have S4:SameBut p H H4:=((s1.trans s2).trans s3.but).trans s4
    have S2:SameBut p H H2:=s1.trans s2
    have hLS0:H LS=none:=by
      cases z:H LS with
      | none=>rfl
      | some o=>rw [S2.at nSp z] at hLS; cases hLS
    refine ⟨_,_,rfl,rfl,_,rfl,by omega,by omega,?_⟩
    have e4:=s4.at nSp e3
    refine for_range (fun i σ H'=>∃ (o4 o5 o6:Option V) (ys:List V) (es:List Ent),σ=[some (.ref p),some (.int (nF:Int)),some (.int (nW:Int)),some (.ref LS),o4,o5,o6,none,none]∧FeedC H' p L (n+900 - 100*i)∧SameBut p H H'∧H' LS=some (.lst ys)∧RepL H' (es.map enD) ys∧(∀ e∈es,EnT nF nW e)∧es.length=i) ⟨_,_,_,[],[],rfl,F4.less (by omega),S4,e4,RepL.nil,(fun e he=>by cases he),rfl⟩ ?_ ?_
    · rintro i σ H5 hi ⟨o4,o5,o6,ys,es,rfl,F5,S5,e5,r5,en5,l5⟩
      have hi5:i<5:=by omega
      have lys:=reps_len r5
      refine ⟨_,rfl,?_⟩
      refine sp_draw_i (n:=n+899 - 100*i) (F5.less (by omega)) (by decide) (by decide +kernel) fun x6 H6 a6 b6 F6 s6=>?_
      refine ⟨rfl,?_⟩
      refine .inr ⟨_,rfl,?_⟩
      obtain ⟨gr,hgr⟩:∃ gr:Nat,(if decide (V.int x6=V.int 0)=true then (1:Int) else 0)=(gr:Int)∧gr<2:=by
        by_cases z:decide (V.int x6=V.int 0)=true
        · exact ⟨1,by rw [if_pos z]; rfl,by decide⟩
        · exact ⟨0,by rw [if_neg z]; rfl,by decide⟩
      rw [hgr.1]
      refine ⟨_,rfl,_,rfl,by omega,by omega,?_⟩
      refine comp_fcR (n:=((nF:Int)).toNat) (FeedC.like (fun j=>n+899 - 100*i - j)) (F6.less (by omega)) (fun j y _=>∃ x:Int,y=.int x∧0≤x∧x.natAbs<10^50) (fun _ _ _ _ _ h=>h) (by omega) (fun j H' Q' hj F' s' k'=>?_) (fun D7 ys7 H7 hD7 e7 F7 s7 hy7 hr7=>?_)
      · refine ⟨_,rfl,?_⟩
        refine ⟨_,_,rfl,rfl,⟨by decide,by decide,by decide⟩,?_⟩
        refine nwL (by show 2≤64; decide) fun q8 H8 hq8 e8 s8=>?_
        refine ⟨_,rfl,?_⟩
        obtain ⟨mm,hmm,hm0,hmb⟩:∃ mm:Int,[V.int 4,.int ((10:Int)^(20:Int).toNat)][gr]?=some (.int mm)∧0<mm∧mm≤10^20:=by
          rcases (show gr=0∨gr=1 by omega) with rfl | rfl
          · exact ⟨4,rfl,by decide,by decide⟩
          · exact ⟨(10:Int)^(20:Int).toNat,rfl,by decide,by decide⟩
        refine ixL e8 (atI_nat hmm) ?_
        have p20:(10:Int)^20=((10^20:Nat):Int):=by decide +kernel
        have q20:(10:Nat)^20<2^70:=by decide
        have r20:(10:Nat)^20<10^50:=by decide
        refine sp_draw_i (n:=n+899 - 100*i - (j+1)) ((F'.same s8).less (by omega)) hm0 (Nat.le_trans (bitsle (n:=70) (by omega)) (by decide)) fun x9 H9 a9 b9 F9 s9=>?_
        exact k' _ H9 F9 (s8.but.trans s9) ⟨x9,rfl,a9,by omega⟩
      obtain ⟨cs,hcs,hcp⟩:∃ cs:List Int,ys7=cs.map V.int∧∀ x∈cs,0≤x∧x.natAbs<10^50:=ints_ex fun j y hy=>by
        obtain ⟨x,h1,h2⟩:=hr7 j y hy
        exact ⟨x,h1,h2⟩
      subst hcs
      rw [List.length_map] at hy7
      refine ⟨D7,_,rfl,.inl ⟨SqL.of e7,fun l hl=>?_⟩⟩
      have sl:=Same.upd (o:=.tup (cs.map V.int)) hl
      have el:(upd H7 l (.tup (cs.map V.int))) l=some (.tup (cs.map V.int)):=upd_same
      generalize upd H7 l (.tup (cs.map V.int))=H8 at sl el
      have F8:=F7.same sl
      have S58:SameBut p H5 H8:=(s6.trans s7).trans sl.but
      refine ⟨_,rfl,tyL (S58.at nSp e5),?_⟩
      refine ⟨_,rfl,?_⟩
      refine ⟨_,rfl,_,_,rfl,rfl,_,rfl,by show (_:Int)≤1+(nW:Int); omega,by show (1:Int)+(nW:Int)<_; omega,?_⟩
      refine comp_fcR (n:=((1:Int)+(nW:Int)).toNat) (FeedC.like (fun j=>n+890 - 100*i - 10*j)) (F8.less (by omega)) (fun j y H'=>∃ f:Fr,Rep H' (frD f) y∧FrT f) (fun _ _ _ _ s ⟨f,h1,h2⟩=>⟨f,h1.flat s (frD_flat f),h2⟩) (by omega) (fun j H' Q' hj F' s' k'=>?_) (fun D9 ys9 H9 hD9 e9 F9 s9 hy9 hr9=>?_)
      · refine ⟨_,rfl,?_⟩
        refine sp_anyf_i (n:=n+890 - 100*i - 10*(j+1)) (F'.less (by omega)) fun v f H10 F10 s10 ft r10=>?_
        exact k' _ H10 F10 s10 ⟨f,r10,ft⟩
      obtain ⟨fs,hfl,rfs,hft⟩:=frs_ex61 hr9
      refine ⟨D9,_,rfl,.inl ⟨SqL.of e9,fun l2 hl2=>?_⟩⟩
      have sl2:=Same.upd (o:=.tup ys9) hl2
      have el2:(upd H9 l2 (.tup ys9)) l2=some (.tup ys9):=upd_same
      generalize upd H9 l2 (.tup ys9)=H10 at sl2 el2
      refine nwT (by show 2≤64; decide) fun q11 H11 hq11 e11 s11=>?_
      have nl:l≠p:=F8.neT el
      have S811:SameBut p H8 H11:=(s9.trans sl2.but).trans s11.but
      have S511:SameBut p H5 H11:=S58.trans S811
      have F11:=(F9.same sl2).same s11
      have eS11:=S511.at nSp e5
      have ro:Rep H11 (enD (cs,fs)) (.ref q11):=Rep.tup e11 (RepL.cons (Rep.tup (S811.at nl el) (ints_rep _)) (RepL.cons (Rep.tup (s11 _ _ el2) ((rfs.same sl2).same s11)) RepL.nil))
      refine appL eS11 (by omega) fun H12 e12 b12=>?_
      have t12:=b12.t eS11
      refine ⟨_,_,_,_,es++[(cs,fs)],rfl,(F11.but b12 nSp nSL).less (by omega),SameBut.thru hLS0 (S5.trans S511) b12,e12,?_,fun e he=>?_,by rw [List.length_append,List.length_singleton]; omega⟩
      · rw [List.map_append]
        exact RepL.snoc (r5.flat ((F5.t S511).trans t12) (ru_flat _)) (ro.flat t12 (en_flat _))
      · rcases List.mem_append.mp he with he | he
        · exact en5 e he
        · rw [List.mem_singleton.mp he]
          exact ⟨by show cs.length=nF; omega,by show fs.length=1+nW; omega,hcp,hft⟩
    · rintro σ H5 ⟨o4,o5,o6,ys,es,rfl,F5,S5,e5,r5,en5,l5⟩
      have lys:=reps_len r5
      have hm:1≤es.length∧es.length≤5:=by omega
      refine ⟨_,rfl,LS,rfl,⟨_,SqL.of e5⟩,?_⟩
      refine compN_fcL (FeedC.like (fun j=>n+300 - 10*j)) (F5.less (by omega)) (fun j y H'=>∃ x,Rep H' (woD x) y∧WoT nF x) (fun _ _ _ _ s ⟨f,h1,h2⟩=>⟨f,h1.flat s (wo_flat f),h2⟩) (by omega) e5 (fun j x H' hx F' s'=>?_) (fun D6 ys6 H6 hD6 e6 F6 s6 hy6 hr6=>?_)
      · obtain ⟨e,he,re⟩:=reps_get r5 hx
        have E1:=en5 e (List.mem_of_getElem? he)
        have hj:=(List.getElem?_eq_some_iff.mp hx).1
        obtain ⟨b,zs,rfl,hb,rb⟩:=tup_at (re.flat (F5.t s') (en_flat _))
        obtain ⟨y,z,rfl,ry,rz⟩:=RepL_two rb
        refine ⟨b,_,rfl,SqT.of hb,rfl,fun Q' k'=>?_⟩
        refine ⟨_,rfl,_,rfl,?_⟩
        refine sp_anyf_i (n:=n+300 - 10*(j+1)) (F'.less (by omega)) fun v f H9 F9 s9 ft r9=>?_
        refine nwT (by show 2≤64; decide) fun q10 H10 hq10 e10 s10=>?_
        refine k' _ H10 (F9.same s10) (s9.trans s10.but) ⟨(e.1,f),?_,E1.c,E1.n,ft⟩
        exact Rep.tup e10 (RepL.cons ((ry.flat (F'.t s9) (ctD_flat _)).same s10) (RepL.cons (r9.same s10) RepL.nil))
      obtain ⟨xs,hxl,rxs,hxt⟩:=wos_ex61 hr6
      have nD6:D6≠p:=F5.ne hD6
      refine ⟨_,rfl,_,rfl,by omega,by omega,?_⟩
      refine comp_fcR (n:=((nW:Int)).toNat) (FeedC.like (fun j=>n+200 - 10*j)) (F6.less (by omega)) (fun j y H'=>∃ f:Fr,Rep H' (frD f) y∧FrT f) (fun _ _ _ _ s ⟨f,h1,h2⟩=>⟨f,h1.flat s (frD_flat f),h2⟩) (by omega) (fun j H' Q' hj F' s' k'=>?_) (fun D7 ys7 H7 hD7 e7 F7 s7 hy7 hr7=>?_)
      · refine ⟨_,rfl,?_⟩
        refine sp_anyf_i (n:=n+200 - 10*(j+1)) (F'.less (by omega)) fun v f H10 F10 s10 ft r10=>?_
        exact k' _ H10 F10 s10 ⟨f,r10,ft⟩
      obtain ⟨ps,hpl,rps,hpt⟩:=frs_ex61 hr7
      refine ⟨D7,_,rfl,.inl ⟨SqL.of e7,fun l hl=>?_⟩⟩
      have sl:=Same.upd (o:=.tup ys7) hl
      have el:(upd H7 l (.tup ys7)) l=some (.tup ys7):=upd_same
      generalize upd H7 l (.tup ys7)=H8 at sl el
      have F8:=F7.same sl
      have nl:l≠p:=F8.neT el
      have S68:SameBut p H6 H8:=s7.trans sl.but
      have S58:SameBut p H5 H8:=s6.trans S68
      have rP8:RepL H8 (ps.map frD) ys7:=rps.same sl
      refine ⟨_,rfl,?_⟩
      refine sp_draw_i (n:=n+100) (F8.less (by omega)) (by decide) (by decide +kernel) fun x9 H9 a9 b9 F9 s9=>?_
      have t9:=F8.t s9
      have e69:=s9.at nD6 (S68.at nD6 e6)
      have r69:RepL H9 (xs.map woD) ys6:=(rxs.flat (F6.t S68) (wos_flat _)).flat t9 (wos_flat _)
      have el9:=s9.at nl el
      have rP9:RepL H9 (ps.map frD) ys7:=rP8.flat t9 (frs_flat _)
      have hF4:2≤nF∧nF≤4:=by omega
      have hW4:2≤nW∧nW≤4:=by omega
      have hxn:xs≠[]:=fun z=>by rw [z] at hxl; simp at hxl; omega
      refine ⟨rfl,_,rfl,?_⟩
      by_cases h9:x9=0
      · refine iteTe (decide_eq_true (by rw [h9])) ?_
        refine ⟨_,rfl,_,rfl,?_⟩
        refine ⟨D6,_,rfl,.inl ⟨SqL.of e69,fun l2 hl2=>?_⟩⟩
        have sl2:=Same.upd (o:=.tup ys6) hl2
        have el2:(upd H9 l2 (.tup ys6)) l2=some (.tup ys6):=upd_same
        generalize upd H9 l2 (.tup ys6)=H10 at sl2 el2
        refine nwT (by show 3≤64; decide) fun q11 H11 hq11 e11 s11=>?_
        refine k _ false nF nW [] ps xs H11 (((F9.same sl2).same s11).less (by omega)) ((((S5.trans S58).trans s9).trans sl2.but).trans s11.but) ⟨hF4,hW4,(fun e he=>by cases he),by decide,by omega,hpt,hxn,by omega,hxt⟩ ?_
        exact Rep.tup e11 (RepL.cons (Rep.str _) (RepL.cons (Rep.tup (s11 _ _ (sl2 _ _ el9)) ((rP9.same sl2).same s11)) (RepL.cons (Rep.tup (s11 _ _ el2) ((r69.same sl2).same s11)) RepL.nil)))
      · refine iteFe (decide_eq_false fun z=>h9 (by injection z)) ?_
        refine ⟨_,rfl,_,rfl,?_⟩
        refine sp_draw_i (n:=n+99) (F9.less (by omega)) (by decide) (by decide +kernel) fun x10 H10 a10 b10 F10 s10=>?_
        obtain ⟨j10,rfl⟩:∃ b:Nat,x10=(b:Int):=⟨x10.toNat,by omega⟩
        have S510:SameBut p H5 H10:=(S58.trans s9).trans s10
        have t10:=F9.t s10
        refine ⟨_,rfl,?_⟩
        refine slL (ys:=ys.drop j10) (S510.at nSp e5) (by rw [cutV_lo]) fun q11 H11 hq11 e11 s11=>?_
        refine ⟨q11,_,rfl,.inl ⟨SqL.of e11,fun l0 hl0=>?_⟩⟩
        have sl0:=Same.upd (o:=.tup (ys.drop j10)) hl0
        have el0:(upd H11 l0 (.tup (ys.drop j10))) l0=some (.tup (ys.drop j10)):=upd_same
        generalize upd H11 l0 (.tup (ys.drop j10))=H12 at sl0 el0
        refine ⟨_,rfl,_,rfl,?_⟩
        have S1012:=s11.trans sl0
        refine ⟨D6,_,rfl,.inl ⟨SqL.of (S1012 _ _ (s10.at nD6 e69)),fun l2 hl2=>?_⟩⟩
        have sl2:=Same.upd (o:=.tup ys6) hl2
        have el2:(upd H12 l2 (.tup ys6)) l2=some (.tup ys6):=upd_same
        generalize upd H12 l2 (.tup ys6)=H13 at sl2 el2
        refine nwT (by show 4≤64; decide) fun q14 H14 hq14 e14 s14=>?_
        have S1014:=(S1012.trans sl2).trans s14
        have rd:RepL H14 ((es.drop j10).map enD) (ys.drop j10):=by
          have:=RepL.drop j10 ((r5.flat (F5.t S510) (ru_flat _)).same S1014)
          rw [← List.map_drop] at this
          exact this
        refine k _ true nF nW (es.drop j10) ps xs H14 ((F10.same S1014).less (by omega)) ((S5.trans S510).trans S1014.but) ⟨hF4,hW4,fun e he=>en5 e (List.mem_of_mem_drop he),by rw [List.length_drop]; omega,by omega,hpt,hxn,by omega,hxt⟩ ?_
        exact Rep.tup e14 (RepL.cons (Rep.str _) (RepL.cons (Rep.tup ((sl2.trans s14) _ _ el0) rd) (RepL.cons (Rep.tup (S1014 _ _ (s10.at nl el9)) ((rP9.flat t10 (frs_flat _)).same S1014)) (RepL.cons (Rep.tup (s14 _ _ el2) ((r69.flat t10 (wos_flat _)).same S1014)) RepL.nil))))
end
end Kw
set_option Elab.async false
set_option linter.all false
set_option maxRecDepth 100000
namespace Kw
open PySem L2 Mf Mt
abbrev s__law_lines:Stmt:=(top 47)
theorem sc__law_lines:FnScope ["_law_paper", "_law_prices", "_law_told_here", "_law_lines_here", "_law_counts", "_law_says", "_law_words", "_law_worth"] ["_law_paper"] (defScope s__law_lines):=⟨rfl,rfl,rfl,by decide +kernel,rfl,by decide +kernel,by decide +kernel⟩
theorem joinC {a s:Str} {ws:List Str} (hs:s.cps.toList=a.cps.toList++[32]) (hn:ws≠[]):s++Txt.join bk ws=Txt.join bk (a::ws):=by
  obtain ⟨w0,ws,rfl⟩:=List.exists_cons_of_ne_nil hn
  rw [join_is,join_is]
  refine str_ext ?_
  rw [joinB,app_cps,hs]
  simp
def wdX (x:List Int × Fr):List Str:=wWorth::(x.1.map tx++[TT x.2])
def gP (b:Bool) (F W:Nat) (es:List Ent) (ps:List Fr) (xs:List (List Int × Fr)):List (List Str) :=
  [wPaper,kW b,tx (F:Int),tx (W:Int)]::((if b=true then es.map wdE else [])++(wPrice::ps.map TT)::xs.map wdX)
abbrev lnV (rs:List (List Str)):List V:=(rs.map lnOf).map V.str
@[irreducible] def sp_llp:Sp:=fun vs H Q _=>∃ (v:V) (b:Bool) (F W:Nat) (es:List Ent) (ps:List Fr) (xs:List (List Int × Fr)),vs=[v]∧Rep H (mkD b es ps xs) v∧PapOk b F W es ps xs∧∀ D H',Same H H'→H D=none→H' D=some (.lst (lnV (gP b F W es ps xs)))→Q (.ref D) H'
theorem sp_llp_i {H:Hp} {Q:VK} {E:XK} {v:V} {b:Bool} {F W:Nat} {es:List Ent} {ps:List Fr} {xs:List (List Int × Fr)} (h1:Rep H (mkD b es ps xs) v) (h2:PapOk b F W es ps xs) (k:∀ D H',Same H H'→H D=none→H' D=some (.lst (lnV (gP b F W es ps xs)))→Q (.ref D) H'):sp_llp [v] H Q E:=by
  unfold sp_llp; exact ⟨v,b,F,W,es,ps,xs,rfl,h1,h2,k⟩
theorem mk_at {H:Hp} {b:Bool} {es:List Ent} {ps:List Fr} {xs:List (List Int × Fr)} {v:V} (h:Rep H (mkD b es ps xs) v):∃ (a:Addr) (ys:List V) (vP vX:V),v=.ref a∧H a=some (.tup ys)∧atI ys 0=some (.str (kW b))∧atI ys (-2)=some vP∧atI ys (-1)=some vX∧Rep H (shD ps) vP∧Rep H (wsD xs) vX∧(b=true→∃ vE,atI ys 1=some vE∧Rep H (ruD es) vE):=by
  unfold mkD at h
  cases b with
  | true =>
    rw [if_pos rfl] at h
    obtain ⟨a,ys,rfl,ha,r⟩:=tup_at h
    unfold RepL RepL RepL RepL RepL at r
    obtain ⟨y0,_,rfl,r0,y1,_,rfl,r1,y2,_,rfl,r2,y3,_,rfl,r3,rfl⟩:=r
    cases (show y0=.str wRule from r0)
    exact ⟨a,_,y2,y3,rfl,ha,rfl,rfl,rfl,r2,r3,fun _=>⟨y1,rfl,r1⟩⟩
  | false =>
    rw [if_neg (by decide)] at h
    obtain ⟨a,ys,rfl,ha,r⟩:=tup_at h
    unfold RepL RepL RepL RepL at r
    obtain ⟨y0,_,rfl,r0,y2,_,rfl,r2,y3,_,rfl,r3,rfl⟩:=r
    cases (show y0=.str wNone from r0)
    exact ⟨a,_,y2,y3,rfl,ha,rfl,rfl,rfl,r2,r3,fun z=>by cases z⟩
theorem tx_small {n:Nat} (h:n≤9):((n:Int)).natAbs<10^50:=Nat.lt_of_le_of_lt (show ((n:Int)).natAbs≤9 by omega) (by decide)
theorem headP (b:Bool) (F W:Nat):Str.ofString "paper " ++ kW b++Str.ofString " " ++ tx (F:Int)++Str.ofString " " ++ tx (W:Int)=Txt.join bk [wPaper,kW b,tx (F:Int),tx (W:Int)]:=by
  rw [join_is]
  refine str_ext ?_
  rw [joinB,joinB,joinB,app_cps,app_cps,app_cps,app_cps,app_cps,show (Str.ofString "paper ").cps.toList=wPaper.cps.toList++[32] from by decide +kernel,show (Str.ofString " ").cps.toList=[32] from bk_cps,show (Str.join bk [tx (W:Int)]).cps.toList=(tx (W:Int)).cps.toList from rfl]
  simp
theorem kW_len (b:Bool):(kW b).length=4:=by cases b <;> decide +kernel
theorem jn_small {ts:List Str} (h1:ts.length≤11) (h2:∀ p∈ts,p.length≤103) (a:Str) (ha:a.length≤6):a.length+(Txt.join bk ts).length≤sizeLine:=by
  have:=line_len h1 h2
  exact line20 (by omega)
section
variable {P:Program} {w:World} {K:PySem.W.Frag} {mg:Str→Option Value} {base:Heap} {c:Cl}
set_option maxHeartbeats 8000000 in
theorem ok__law_lines {f:Addr} {fd:FuncData} (F:Fun K "_law_lines" "_law_lines" s__law_lines f fd) (T:Txt K mg c) (F__law_shown:FnC CX0 P w K mg base 1 "_law_shown" ["_law_one"] sp_lsn):FnOk P w K mg base CX0 2 f fd ["_law_paper"] sp_llp:=by
  refine F.okw sc__law_lines (fun vs H Q E h=>?_) (fun cdv A outer s H vs Q E hr h=>?_)
  · unfold sp_llp at h
    obtain ⟨v,b,F,W,es,ps,xs,rfl,_⟩:=h
    rfl
  · unfold sp_llp at h
    obtain ⟨v,b,F,W,es,ps,xs,rfl,rv,ok,k⟩:=h
    refine ⟨_,(wss_cons (ws_set (i:=1) sc__law_lines.nd rfl (Or.inl rfl) (we_ix ix_seq (we_v 0) (we_un un_neg we_int) (fun _ _=>rfl)))
      (wss_cons (ws_set (i:=2) sc__law_lines.nd rfl (Or.inl rfl) (we_ix ix_seq (we_v 0) (we_un un_neg we_int) (fun _ _=>rfl)))
      (wss_cons (ws_set (i:=3) sc__law_lines.nd rfl (Or.inl rfl) (we_lst (wa_k (we_op op_add_str (we_op op_add_str (we_op op_add_str (we_op op_add_str (we_op op_add_str we_str (we_ix ix_seq (we_v 0) we_int (fun _ _=>rfl))) we_str) (we_cT (cl_strI rfl T.nd) (by rfl) T.b_str (by decide +kernel) (wa_k (we_cB cl_len (by rfl) T.b_len (by decide +kernel) (wa_k (we_ix ix_seq (we_ix ix_seq (we_v 2) we_int (fun _ _=>rfl)) we_int (fun _ _=>rfl)) wa_nil)) wa_nil))) we_str) (we_cT (cl_strI rfl T.nd) (by rfl) T.b_str (by decide +kernel) (wa_k (we_cB cl_len (by rfl) T.b_len (by decide +kernel) (wa_k (we_v 1) wa_nil)) wa_nil))) wa_nil)))
      (wss_cons (ws_cut (ws_if (wt_cmp op_eq (we_ix ix_seq (we_v 0) we_int (fun _ _=>rfl)) we_str (nomark _)) (wss_one (ws_for PassesOwn.never rfl (wi_tup (we_ix ix_seq (we_v 0) we_int (fun _ _=>rfl))) (wg_tup rfl (wgs_cons (wg_name (i:=4) sc__law_lines.nd rfl (Or.inl rfl)) (wgs_cons (wg_name (i:=5) sc__law_lines.nd rfl (Or.inl rfl)) wgs_nil))) (wss_cons (ws_set (i:=6) sc__law_lines.nd rfl (Or.inl rfl) (we_op op_cat (we_op op_cat (we_comp (CScope.of (psc:=defScope s__law_lines) (N:=["_law_paper", "_law_prices", "_law_told_here", "_law_lines_here", "_law_counts", "_law_says", "_law_words", "_law_worth"]) (N':=["_law_one"]) (js:=[]) (by decide +kernel) rfl rfl rfl) (wi_tup (we_v 4)) (fun _ _ _ _=>wts_nil) (fun _ _ _ _=>(we_cT (cl_strI rfl T.nd) (by rfl) T.b_str (by decide +kernel) (wa_k (we_v 0) wa_nil)))) (we_lst (wa_k we_str wa_nil))) (we_comp (CScope.of (psc:=defScope s__law_lines) (N:=["_law_paper", "_law_prices", "_law_told_here", "_law_lines_here", "_law_counts", "_law_says", "_law_words", "_law_worth"]) (N':=["_law_one"]) (js:=[]) (by decide +kernel) rfl rfl rfl) (wi_tup (we_v 5)) (fun _ _ _ _=>wts_nil) (fun _ _ _ _=>(we_fn F__law_shown (hr.mono (by decide)) (wa_k (we_v 0) wa_nil))))))
      (wss_one (ws_expr (we_bm PySem.F.plainAttrs_list PySem.F.slot_list_append PySem.F.type_list_append mt_app (we_v 3) (wa_k (we_op op_add_str we_str (we_bm PySem.F.plainAttrs_str PySem.F.slot_str_join PySem.F.type_str_join (mt_join K) we_str (wa_k (we_v 6) wa_nil))) wa_nil))))))) wss_nil))
      (wss_cons (ws_expr (we_bm PySem.F.plainAttrs_list PySem.F.slot_list_append PySem.F.type_list_append mt_app (we_v 3) (wa_k (we_op op_add_str we_str (we_bm PySem.F.plainAttrs_str PySem.F.slot_str_join PySem.F.type_str_join (mt_join K) we_str (wa_k (we_comp (CScope.of (psc:=defScope s__law_lines) (N:=["_law_paper", "_law_prices", "_law_told_here", "_law_lines_here", "_law_counts", "_law_says", "_law_words", "_law_worth"]) (N':=["_law_one"]) (js:=[]) (by decide +kernel) rfl rfl rfl) (wi_tup (we_v 1)) (fun _ _ _ _=>wts_nil) (fun _ _ _ _=>(we_fn F__law_shown (hr.mono (by decide)) (wa_k (we_v 0) wa_nil)))) wa_nil))) wa_nil)))
      (wss_cons (ws_for PassesOwn.never rfl (wi_tup (we_v 2)) (wg_tup rfl (wgs_cons (wg_name (i:=4) sc__law_lines.nd rfl (Or.inl rfl)) (wgs_cons (wg_name (i:=7) sc__law_lines.nd rfl (Or.inl rfl)) wgs_nil))) (wss_one (ws_expr (we_bm PySem.F.plainAttrs_list PySem.F.slot_list_append PySem.F.type_list_append mt_app (we_v 3) (wa_k (we_op op_add_str we_str (we_bm PySem.F.plainAttrs_str PySem.F.slot_str_join PySem.F.type_str_join (mt_join K) we_str (wa_k (we_op op_cat (we_comp (CScope.of (psc:=defScope s__law_lines) (N:=["_law_paper", "_law_prices", "_law_told_here", "_law_lines_here", "_law_counts", "_law_says", "_law_words", "_law_worth"]) (N':=["_law_one"]) (js:=[]) (by decide +kernel) rfl rfl rfl) (wi_tup (we_v 4)) (fun _ _ _ _=>wts_nil) (fun _ _ _ _=>(we_cT (cl_strI rfl T.nd) (by rfl) T.b_str (by decide +kernel) (wa_k (we_v 0) wa_nil)))) (we_lst (wa_k (we_fn F__law_shown (hr.mono (by decide)) (wa_k (we_v 7) wa_nil)) wa_nil))) wa_nil))) wa_nil)))))
      (wss_one (ws_ret (we_v 3))))))))),?_⟩
    obtain ⟨a,ys,vP,vX,rfl,ha,i0,i2,i1,rP,rX,hE⟩:=mk_at rv
    obtain ⟨dP,yP,rfl,hP,rP⟩:=shD_at rP
    obtain ⟨dX,yX,rfl,hX,rX⟩:=tup_at rX
    have lP:=reps_len rP
    have lX:=reps_len rX
    have f4:=ok.f
    have w4:=ok.w
    have okp:=ok.p
    have xl:=ok.xl
    have xpos:0<xs.length:=List.length_pos_iff.mpr ok.xn
    obtain ⟨x0,hx0⟩:∃ x,xs[0]?=some x:=⟨_,List.getElem?_eq_getElem xpos⟩
    have W0:=ok.x x0 (List.mem_of_getElem? hx0)
    obtain ⟨u0,hu0,ru0⟩:=reps_get' rX (i:=0) (f:=x0) hx0
    obtain ⟨b0,z0,rfl,hb0,rb0⟩:=tup_at ru0
    obtain ⟨y0,y1,rfl,ry0,ry1⟩:=RepL_two rb0
    obtain ⟨c0,rfl,hc0⟩:=cnts_at ry0
    have hF50:=tx_small (n:=F) (by omega)
    have hW50:=tx_small (n:=W) (by omega)
    have lF:=tx_lenG hF50
    have lW:=tx_lenG hW50
    have l6:(Str.ofString "paper ").length=6:=by decide +kernel
    have l1:(Str.ofString " ").length=1:=by decide +kernel
    have lk:=kW_len b
    refine ⟨_,rfl,_,rfl,?_⟩
    refine ixT ha i2 ?_
    refine ⟨_,rfl,_,rfl,?_⟩
    refine ixT ha i1 ?_
    refine ⟨_,rfl,?_⟩
    refine ixT ha i0 ?_
    refine ⟨_,_,rfl,rfl,line20 (show (Str.ofString "paper ").length+(kW b).length≤20000 by omega),?_⟩
    refine ⟨_,_,rfl,rfl,line20 (show (Str.ofString "paper " ++ kW b).length+(Str.ofString " ").length≤20000 by rw [app_len]; omega),?_⟩
    refine ⟨_,rfl,?_⟩
    refine ixT hX (atI_nat (j:=0) hu0) ?_
    refine ixT hb0 rfl ?_
    refine rlT hc0 ?_
    rw [List.length_map,W0.c]
    refine rstrI (p4300 hF50) ?_
    refine ⟨_,_,rfl,rfl,line20 (show (Str.ofString "paper " ++ kW b++Str.ofString " ").length+(tx (F:Int)).length≤20000 by rw [app_len,app_len]; omega),?_⟩
    refine ⟨_,_,rfl,rfl,line20 (show (Str.ofString "paper " ++ kW b++Str.ofString " " ++ tx (F:Int)).length+(Str.ofString " ").length≤20000 by rw [app_len,app_len,app_len]; omega),?_⟩
    refine ⟨_,rfl,?_⟩
    refine rlT hP ?_
    rw [lP,okp]
    refine rstrI (p4300 hW50) ?_
    refine ⟨_,_,rfl,rfl,line20 (show (Str.ofString "paper " ++ kW b++Str.ofString " " ++ tx (F:Int)++Str.ofString " ").length+(tx (W:Int)).length≤20000 by rw [app_len,app_len,app_len,app_len]; omega),?_⟩
    refine nwL (by show 1≤64; decide) fun L H1 hL e1 s1=>?_
    have e1:H1 L=some (.lst (lnV [[wPaper,kW b,tx (F:Int),tx (W:Int)]])):=by
      rw [e1]
      exact congrArg (fun z=>some (HO.lst [V.str z])) (headP b F W)
    have lnA:∀ x y:List (List Str),lnV x++lnV y=lnV (x++y):=fun x y=>by unfold lnV; rw [List.map_append,List.map_append]
    refine ⟨fun σ H'=>∃ (o4 o5 o6:Option V),σ=[some (.ref a),some (.ref dP),some (.ref dX),some (.ref L),o4,o5,o6,none]∧Same H H'∧H' L=some (.lst (lnV ([wPaper,kW b,tx (F:Int),tx (W:Int)]::(if b=true then es.map wdE else [])))),?_,?_⟩
    case refine_2 =>
      refine ⟨_,rfl,?_⟩
      refine ixT (s1 _ _ ha) i0 ?_
      refine ⟨rfl,_,rfl,?_⟩
      cases b with
      | false =>
        refine iteFe (decide_eq_false fun z=>by injection z with z; exact absurd z (by decide +kernel)) ?_
        exact ⟨_,_,_,rfl,s1,e1⟩
      | true =>
        refine iteTe (decide_eq_true rfl) ?_
        obtain ⟨vE,iE,rE⟩:=hE rfl
        obtain ⟨dE,yE,rfl,hEE,rEE⟩:=tup_at rE
        have lE:=reps_len rEE
        have el:=ok.el
        refine ⟨_,rfl,?_⟩
        refine ixT (s1 _ _ ha) iE ?_
        refine ⟨dE,rfl,⟨_,SqT.of (s1 _ _ hEE)⟩,?_⟩
        refine for_tup (xs:=yE) (fun i σ H'=>∃ (o4 o5 o6:Option V),σ=[some (.ref a),some (.ref dP),some (.ref dX),some (.ref L),o4,o5,o6,none]∧Same H H'∧H' L=some (.lst (lnV ([wPaper,kW true,tx (F:Int),tx (W:Int)]::(es.take i).map wdE)))) ⟨_,_,_,rfl,s1,e1⟩ (fun i σ H' _ q=>?_) ?_ ?_
        · obtain ⟨_,_,_,_,s',_⟩:=q
          exact SqT.of (s' _ _ hEE)
        · rintro i x σ H2 hx ⟨o4,o5,o6,rfl,s2,e2⟩
          obtain ⟨e,he,re⟩:=reps_get rEE hx
          have hi:=(List.getElem?_eq_some_iff.mp he).1
          have E1:=ok.e e (List.mem_of_getElem? he)
          obtain ⟨z1,z2⟩:=wdE_len E1 (by omega) (by omega)
          obtain ⟨bb,zs,rfl,hb,rb⟩:=tup_at (re.same s2)
          obtain ⟨y,z,rfl,ry,rz⟩:=RepL_two rb
          obtain ⟨d,rfl,hd⟩:=cnts_at ry
          obtain ⟨g,zz,rfl,hg,rzs⟩:=shD_at rz
          have lzs:=reps_len rzs
          have c1:=E1.c
          have c2:=E1.s
          refine ⟨bb,[.ref d,.ref g],rfl,SqT.of hb,rfl,.ref d,[.ref g],rfl,.ref g,[],rfl,rfl,?_⟩
          refine ⟨_,rfl,d,rfl,⟨_,SqT.of hd⟩,?_⟩
          refine comp_mapU (fun i y _=>∃ x,e.1[i]?=some x∧y=.str (tx x)) (fun _ _ _ _ _ h=>h) (by rw [List.length_map]; omega) hd (fun i y H' Q' hy s' k'=>?_) (fun D4 ys4 H4 hD4 e4 s4 hy hr4=>?_)
          · rw [List.getElem?_map] at hy
            obtain ⟨x,hx,rfl⟩:=Option.map_eq_some_iff.mp hy
            refine ⟨_,rfl,?_⟩
            exact rstrI (p4300 (E1.n x (List.mem_of_getElem? hx)).2) (k' _ H' (Same.refl _) ⟨x,hx,rfl⟩)
          have ey:=strs_of_map (f:=tx) (by rw [hy,List.length_map]) hr4
          subst ey
          refine nwL (by show 1≤64; decide) fun q6 H6 hq6 e6 s6=>?_
          refine catL (s6 _ _ e4) e6 (by simp; omega) fun q7 H7 hq7 e7 s7=>?_
          have S7:=(s4.trans s6).trans s7
          refine ⟨_,rfl,g,rfl,⟨_,SqT.of (S7 _ _ hg)⟩,?_⟩
          refine comp_mapU (fun i y _=>∃ x,e.2[i]?=some x∧y=.str (TT x)) (fun _ _ _ _ _ h=>h) (by omega) (S7 _ _ hg) (fun i y H' Q' hy s' k'=>?_) (fun D8 ys8 H8 hD8 e8 s8 hy8 hr8=>?_)
          · obtain ⟨f,hf,rf⟩:=reps_get rzs hy
            refine ⟨_,rfl,?_⟩
            exact sp_lsn_i ((rf.same S7).same s') (E1.f f (List.mem_of_getElem? hf)) fun H9 s9=>k' _ H9 s9 ⟨f,hf,rfl⟩
          have ey8:=strs_of_map (f:=TT) (by omega) hr8
          subst ey8
          refine catL (s8 _ _ e7) e8 (by simp; omega) fun q9 H9 hq9 e9 s9=>?_
          have S9:=(S7.trans s8).trans s9
          have ew:((e.1.map tx).map V.str++[V.str wSay])++(e.2.map TT).map V.str=(e.1.map tx++wSay::e.2.map TT).map V.str:=by simp
          refine ⟨_,rfl,tyL (S9 _ _ e2),?_⟩
          refine ⟨rfl,?_⟩
          refine ⟨_,rfl,?_⟩
          have wl:∀ p∈e.1.map tx++wSay::e.2.map TT,p.length≤103:=fun p hp=>z2 p (List.mem_cons_of_mem _ hp)
          have wn:(e.1.map tx++wSay::e.2.map TT).length≤11:=by unfold wdE at z1; rw [List.length_cons] at z1; omega
          refine rjoin (ts:=e.1.map tx++wSay::e.2.map TT) (sep:=bk) (.inl (SqL.of (by rw [← ew]; exact e9))) (join_ok wn wl) ?_
          refine ⟨_,_,rfl,rfl,jn_small wn wl _ (by decide +kernel),?_⟩
          rw [joinC (a:=wOn) (by decide +kernel) (by simp)]
          refine appL (S9 _ _ e2) (by simp; omega) fun H10 e10 b10=>?_
          refine ⟨_,_,_,rfl,Same.thru hL (s2.trans S9) b10,?_⟩
          rw [take_snoc he,e10]
          congr 2
          unfold lnV
          simp
          rfl
        · rintro σ H2 ⟨o4,o5,o6,rfl,s2,e2⟩
          rw [lE,List.take_length] at e2
          exact ⟨_,_,_,rfl,s2,e2⟩
    rintro σ H2 ⟨o4,o5,o6,rfl,s2,e2⟩
    have ps0:ps.map TT≠[]:=fun z=>by
      have:=congrArg List.length z
      rw [List.length_map] at this
      have:ps.length=0:=this
      omega
    have pT:∀ q∈ps.map TT,q.length≤103:=fun q hq=>by
      obtain ⟨f,hf,rfl⟩:=List.mem_map.mp hq
      exact TT_len (ok.pt f hf)
    have pL:(ps.map TT).length≤11:=by rw [List.length_map]; omega
    have el:=ok.el
    have hd0:(if b=true then es.map wdE else []).length≤5:=by
      cases b
      · exact Nat.zero_le _
      · rw [if_pos rfl,List.length_map]; exact el
    generalize hds:[wPaper,kW b,tx (F:Int),tx (W:Int)]::(if b=true then es.map wdE else [])=hs at e2
    have lhs:hs.length≤6:=by rw [← hds,List.length_cons]; omega
    refine ⟨_,rfl,tyL e2,?_⟩
    refine ⟨rfl,?_⟩
    refine ⟨_,rfl,dP,rfl,⟨_,SqT.of (s2 _ _ hP)⟩,?_⟩
    refine comp_mapU (fun i y _=>∃ x,ps[i]?=some x∧y=.str (TT x)) (fun _ _ _ _ _ h=>h) (by omega) (s2 _ _ hP) (fun i y H' Q' hy s' k'=>?_) (fun D3 ys3 H3 hD3 e3 s3 hy3 hr3=>?_)
    · obtain ⟨f,hf,rf⟩:=reps_get rP hy
      refine ⟨_,rfl,?_⟩
      exact sp_lsn_i ((rf.same s2).same s') (ok.pt f (List.mem_of_getElem? hf)) fun H9 s9=>k' _ H9 s9 ⟨f,hf,rfl⟩
    have ey3:=strs_of_map (f:=TT) (by omega) hr3
    subst ey3
    refine rjoin (ts:=ps.map TT) (sep:=bk) (.inl (SqL.of e3)) (join_ok pL pT) ?_
    refine ⟨_,_,rfl,rfl,jn_small pL pT _ (by decide +kernel),?_⟩
    rw [joinC (a:=wPrice) (by decide +kernel) ps0]
    refine appL (s3 _ _ e2) (by rw [List.length_map,List.length_map]; omega) fun H4 e4 b4=>?_
    have e4:H4 L=some (.lst (lnV (hs++[wPrice::ps.map TT]))):=by
      rw [e4,← lnA]; rfl
    have S4:Same H H4:=Same.thru hL (s2.trans s3) b4
    refine ⟨_,rfl,dX,rfl,⟨_,SqT.of (S4 _ _ hX)⟩,?_⟩
    refine for_tup (xs:=yX) (fun i σ H'=>∃ (o4 o5 o6 o7:Option V),σ=[some (.ref a),some (.ref dP),some (.ref dX),some (.ref L),o4,o5,o6,o7]∧Same H H'∧H' L=some (.lst (lnV (hs++[wPrice::ps.map TT]++(xs.take i).map wdX)))) ⟨_,_,_,_,rfl,S4,by rw [List.take_zero,List.map_nil,List.append_nil]; exact e4⟩ (fun i σ H' _ q=>?_) ?_ ?_
    · obtain ⟨_,_,_,_,_,s',_⟩:=q
      exact SqT.of (s' _ _ hX)
    · rintro i x σ H5 hx ⟨o4,o5,o6,o7,rfl,s5,e5⟩
      obtain ⟨e,he,re⟩:=reps_get rX hx
      have hi:=(List.getElem?_eq_some_iff.mp he).1
      have E1:=ok.x e (List.mem_of_getElem? he)
      obtain ⟨bb,zs,rfl,hb,rb⟩:=tup_at (re.same s5)
      obtain ⟨y,z,rfl,ry,rz⟩:=RepL_two rb
      obtain ⟨d,rfl,hd⟩:=cnts_at ry
      have c1:=E1.c
      refine ⟨bb,[.ref d,z],rfl,SqT.of hb,rfl,.ref d,[z],rfl,z,[],rfl,rfl,?_⟩
      refine ⟨_,rfl,tyL e5,?_⟩
      refine ⟨rfl,?_⟩
      refine ⟨_,rfl,d,rfl,⟨_,SqT.of hd⟩,?_⟩
      refine comp_mapU (fun i y _=>∃ x,e.1[i]?=some x∧y=.str (tx x)) (fun _ _ _ _ _ h=>h) (by rw [List.length_map]; omega) hd (fun i y H' Q' hy s' k'=>?_) (fun D6 ys6 H6 hD6 e6 s6 hy hr6=>?_)
      · rw [List.getElem?_map] at hy
        obtain ⟨x,hx,rfl⟩:=Option.map_eq_some_iff.mp hy
        refine ⟨_,rfl,?_⟩
        exact rstrI (p4300 (E1.n x (List.mem_of_getElem? hx)).2) (k' _ H' (Same.refl _) ⟨x,hx,rfl⟩)
      have ey:=strs_of_map (f:=tx) (by rw [hy,List.length_map]) hr6
      subst ey
      refine ⟨_,rfl,?_⟩
      refine sp_lsn_i (rz.same s6) E1.f fun H7 s7=>?_
      refine nwL (by show 1≤64; decide) fun q8 H8 hq8 e8 s8=>?_
      refine catL (s8 _ _ (s7 _ _ e6)) e8 (by simp; omega) fun q9 H9 hq9 e9 s9=>?_
      have S9:=((s6.trans s7).trans s8).trans s9
      have wl:∀ q∈e.1.map tx++[TT e.2],q.length≤103:=fun q hq=>by
        rcases List.mem_append.mp hq with hq | hq
        · obtain ⟨x,hx,rfl⟩:=List.mem_map.mp hq
          have:=tx_lenG (E1.n x hx).2
          omega
        · rw [List.mem_singleton.mp hq]; exact TT_len E1.f
      have wn:(e.1.map tx++[TT e.2]).length≤11:=by rw [List.length_append,List.length_map,List.length_singleton]; omega
      refine rjoin (ts:=e.1.map tx++[TT e.2]) (sep:=bk) (.inl (SqL.of (by rw [List.map_append]; exact e9))) (join_ok wn wl) ?_
      refine ⟨_,_,rfl,rfl,jn_small wn wl _ (by decide +kernel),?_⟩
      rw [joinC (a:=wWorth) (by decide +kernel) (by simp)]
      refine appL (S9 _ _ e5) (by rw [List.length_map,List.length_map,List.length_append,List.length_append,List.length_map,List.length_take,List.length_singleton]; omega) fun H10 e10 b10=>?_
      refine ⟨_,_,_,_,rfl,Same.thru hL (s5.trans S9) b10,?_⟩
      rw [take_snoc he,List.map_append,← List.append_assoc,← lnA]
      exact e10
    · rintro σ H5 ⟨o4,o5,o6,o7,rfl,s5,e5⟩
      rw [lX,List.take_length,← hds,List.append_assoc] at e5
      refine ⟨_,rfl,?_⟩
      refine k L H5 s5 hL ?_
      rw [e5]; rfl
end
end Kw
set_option Elab.async false
set_option linter.all false
set_option maxRecDepth 100000
namespace Kw
open PySem L2 Mf Mt
abbrev s__law_bent:Stmt:=(top 54)
theorem sc__law_bent:FnScope ["_law_feed_here", "_law_lines_here", "_law_at", "_law_words", "_law_spot", "_law_some", "_law_word", "_law_way"] ["_law_feed_here", "_law_lines_here"] (defScope s__law_bent):=⟨rfl,rfl,rfl,by decide +kernel,rfl,by decide +kernel,by decide +kernel⟩
structure WdS (p:Str):Prop where
  free:32 ∉ p.cps.toList
  sz:p.length≤300
  lo:∀ c∈p.cps.toList,c<128
theorem thin_short {t:Str} (h:t.length≤2500):Thin t:=fun u v e=>.inl (by
  have:v.length≤t.length:=part_len (show v∈Txt.split t sl by rw [show Txt.split t sl=[u,v] from e]; simp)
  omega)
theorem rwS_of {r:List Str} (hn:r≠[]) (hl:r.length≤40) (h:∀ p∈r,WdS p):RwS r:=⟨⟨hn,fun p hp=>(h p hp).free,hl,fun p hp=>by have:=(h p hp).sz; omega,fun p hp=>(h p hp).lo,fun p hp=>thin_short (by have:=(h p hp).sz; omega)⟩,fun p hp=>(h p hp).sz⟩
theorem RwS.wd {r:List Str} (h:RwS r):∀ p∈r,WdS p:=fun p hp=>⟨h.k.free p hp,h.s p hp,h.k.lo p hp⟩
def odd30:List Str:=(["", "0", "00", "-0", "01", "2/4", "1/1", "0/2", "-1/2", "+1", "1_0", "1/", "/2", "1/0", "1/-2", "say", "on"]:List Str)++(["price", "worth", "rule", "none", "paper", "5", "2", "3", "1/2", " ", "1.0", "-", "x"]:List Str)
theorem odd_wd:∀ t∈odd30,t=bk∨WdS t:=by
  have h:∀ t∈odd30,t=bk∨(32 ∉ t.cps.toList∧t.length≤300∧∀ c∈t.cps.toList,c<128):=by decide +kernel
  exact fun t ht=>(h t ht).imp id fun z=>⟨z.1,z.2.1,z.2.2⟩
theorem void_wd:WdS "" := ⟨by decide +kernel,by decide +kernel,by decide +kernel⟩
theorem join_cons {x:Str} {l:List Str} (h:l≠[]):(Txt.join bk (x::l)).cps.toList=x.cps.toList++32::(Txt.join bk l).cps.toList:=by
  obtain ⟨y,l,rfl⟩:=List.exists_cons_of_ne_nil h
  rw [join_is,join_is,joinB]
theorem join_bk:∀ (a b:List Str),Txt.join bk (a++bk::b)=Txt.join bk (a++("" : Str)::("" : Str)::b)
  | [],b=>by
    refine str_ext ?_
    cases b with
    | nil=>decide +kernel
    | cons y b =>
      show (Txt.join bk (bk::y::b)).cps.toList=(Txt.join bk (("" : Str)::("" : Str)::y::b)).cps.toList
      rw [join_cons (x:=bk) (l:=y::b) (by simp),join_cons (x:=("" : Str)) (l:=("" : Str)::y::b) (by simp),join_cons (x:=("" : Str)) (l:=y::b) (by simp),bk_cps]
      rfl
  | x::a,b=>by
    refine str_ext ?_
    rw [List.cons_append,List.cons_append,join_cons (by simp),join_cons (by simp),join_bk a b]
theorem ln_nil:Txt.join bk []=lnOf [""]:=by decide +kernel
def Gd (ts:List Str):Prop:=ts.length≤40∧(∀ u∈ts,u.length≤300)∧∃ r',Txt.join bk ts=lnOf r'∧RwS r'
theorem gd_row {ts:List Str} (hl:ts.length≤40) (h:∀ p∈ts,WdS p):Gd ts:=by
  refine ⟨hl,fun u hu=>(h u hu).sz,?_⟩
  by_cases hn:ts=[]
  · exact ⟨[""],by rw [hn]; exact ln_nil,rwS_of (by simp) (by decide) fun p hp=>by rw [List.mem_singleton.mp hp]; exact void_wd⟩
  · exact ⟨ts,rfl,rwS_of hn hl h⟩
theorem gd_word {a b:List Str} {w:Str} (hl:a.length+b.length≤30) (h:∀ p∈a,WdS p) (h2:∀ p∈b,WdS p) (hw:w=bk∨WdS w):Gd (a++[w]++b):=by
  rcases hw with rfl | hw
  · refine ⟨by rw [List.length_append,List.length_append,List.length_singleton]; omega,fun u hu=>?_,a++("" : Str)::("" : Str)::b,?_,rwS_of (by simp) (by rw [List.length_append,List.length_cons,List.length_cons]; omega) fun p hp=>?_⟩
    · rcases List.mem_append.mp hu with hu | hu
      · rcases List.mem_append.mp hu with hu | hu
        · exact (h u hu).sz
        · rw [List.mem_singleton.mp hu]; decide +kernel
      · exact (h2 u hu).sz
    · rw [List.append_assoc]; exact join_bk a b
    · rcases List.mem_append.mp hp with hp | hp
      · exact h p hp
      · rcases List.mem_cons.mp hp with rfl | hp
        · exact void_wd
        rcases List.mem_cons.mp hp with rfl | hp
        · exact void_wd
        · exact h2 p hp
  · refine gd_row (by rw [List.length_append,List.length_append,List.length_singleton]; omega) fun p hp=>?_
    rcases List.mem_append.mp hp with hp | hp
    · rcases List.mem_append.mp hp with hp | hp
      · exact h p hp
      · rw [List.mem_singleton.mp hp]; exact hw
    · exact h2 p hp
theorem gd_join {ts:List Str} (h:Gd ts):(ts.map (·.length)).sum+ts.length*bk.length≤16777216:=by
  have h3:=sumlen h.2.1
  have e:bk.length=1:=by decide +kernel
  have h4:300*ts.length≤300*40:=Nat.mul_le_mul_left _ h.1
  have:=h.1
  rw [e]; omega
theorem FeedC.nl {H:Hp} {p L q:Addr} {n:Nat} {xs:List V} (F:FeedC H p L n) (hq:H q=some (.lst xs)):q≠p:=fun e=>by
  subst e; obtain ⟨ns,t,l,h,_⟩:=F.ex; rw [h] at hq; cases hq
@[irreducible] def sp_bent:Sp:=fun vs H Q _=>∃ (p L a:Addr) (rs:List (List Str)) (n:Nat),vs=[.ref p,.ref a]∧FeedC H p L (n+10)∧H a=some (.lst (lnV rs))∧(∀ r∈rs,RwS r∧r.length≤11)∧rs≠[]∧rs.length≤20∧∀ rs' D H',FeedC H' p L n→SameBut p H H'→H' D=some (.lst (lnV rs'))→(∀ r∈rs',RwS r)→rs'.length≤22→Q (.ref D) H'
theorem sp_bent_i {H:Hp} {Q:VK} {E:XK} {p L a:Addr} {rs:List (List Str)} {n:Nat} (F:FeedC H p L (n+10)) (ha:H a=some (.lst (lnV rs))) (ok:∀ r∈rs,RwS r∧r.length≤11) (hn:rs≠[]) (hl:rs.length≤20) (k:∀ rs' D H',FeedC H' p L n→SameBut p H H'→H' D=some (.lst (lnV rs'))→(∀ r∈rs',RwS r)→rs'.length≤22→Q (.ref D) H'):sp_bent [.ref p,.ref a] H Q E:=by
  unfold sp_bent; exact ⟨p,L,a,rs,n,rfl,F,ha,ok,hn,hl,k⟩
section
variable {P:Program} {w:World} {K:PySem.W.Frag} {mg:Str→Option Value} {base:Heap} {c:Cl}
set_option maxHeartbeats 8000000 in
theorem ok__law_bent {f:Addr} {fd:FuncData} (F:Fun K "_law_bent" "_law_bent" s__law_bent f fd) (T:Txt K mg c) (F__law_draw:FnC CX0 P w K mg base 1 "_law_draw" ["_law_feed_here", "_law_many"] sp_draw):FnOk P w K mg base CX0 2 f fd ["_law_feed_here", "_law_lines_here"] sp_bent:=by
  refine F.okw sc__law_bent (fun vs H Q E h=>?_) (fun cdv A outer s H vs Q E hr h=>?_)
  · unfold sp_bent at h
    obtain ⟨p,L,a,rs,n,rfl,_⟩:=h
    rfl
  · unfold sp_bent at h
    obtain ⟨p,L,a,rs,n,rfl,F0,ha,ok,hn,hl,k⟩:=h
    refine ⟨_,(wss_cons (ws_set (i:=2) sc__law_bent.nd rfl (Or.inl rfl) (we_fn F__law_draw (hr.mono (by decide)) (wa_k (we_v 0) (wa_k (we_cB cl_len (by rfl) T.b_len (by decide +kernel) (wa_k (we_v 1) wa_nil)) wa_nil))))
      (wss_cons (ws_set (i:=3) sc__law_bent.nd rfl (Or.inl rfl) (we_bm PySem.F.plainAttrs_str PySem.F.slot_str_split PySem.F.type_str_split mt_split (we_ix ix_seq (we_v 1) (we_v 2) (fun _ _=>rfl)) (wa_k we_str wa_nil)))
      (wss_cons (ws_set (i:=4) sc__law_bent.nd rfl (Or.inl rfl) (we_fn F__law_draw (hr.mono (by decide)) (wa_k (we_v 0) (wa_k (we_cB cl_len (by rfl) T.b_len (by decide +kernel) (wa_k (we_v 3) wa_nil)) wa_nil))))
      (wss_cons (ws_set (i:=5) sc__law_bent.nd rfl (Or.inl rfl) (we_lst (wa_k we_str (wa_k we_str (wa_k we_str (wa_k we_str (wa_k we_str (wa_k we_str (wa_k we_str (wa_k we_str (wa_k we_str (wa_k we_str (wa_k we_str (wa_k we_str (wa_k we_str (wa_k we_str (wa_k we_str (wa_k we_str (wa_k we_str wa_nil)))))))))))))))))))
      (wss_cons (ws_set (i:=5) sc__law_bent.nd rfl (Or.inl rfl) (we_op op_cat (we_v 5) (we_lst (wa_k we_str (wa_k we_str (wa_k we_str (wa_k we_str (wa_k we_str (wa_k we_str (wa_k we_str (wa_k we_str (wa_k we_str (wa_k we_str (wa_k we_str (wa_k we_str (wa_k we_str wa_nil))))))))))))))))
      (wss_cons (ws_set (i:=6) sc__law_bent.nd rfl (Or.inl rfl) (we_ix ix_seq (we_v 5) (we_fn F__law_draw (hr.mono (by decide)) (wa_k (we_v 0) (wa_k (we_cB cl_len (by rfl) T.b_len (by decide +kernel) (wa_k (we_v 5) wa_nil)) wa_nil))) (fun _ _=>rfl)))
      (wss_cons (ws_set (i:=7) sc__law_bent.nd rfl (Or.inl rfl) (we_fn F__law_draw (hr.mono (by decide)) (wa_k (we_v 0) (wa_k we_int wa_nil))))
      (wss_cons (ws_cut (ws_if (wt_cmp op_lt (we_v 7) we_int (nomark _)) (wss_one (ws_set (i:=3) sc__law_bent.nd rfl (Or.inl rfl) (we_op op_cat (we_op op_cat (we_slice (sl_listN K) (we_v 3) wo_none (wo_some (we_v 4))) (we_lst (wa_k (we_v 6) wa_nil))) (we_slice (sl_listN K) (we_v 3) (wo_some (we_op op_sub (we_op op_add (we_v 4) we_int) (we_v 7))) wo_none)))) wss_nil))
      (wss_cons (ws_cut (ws_if (wt_cmp op_eq (we_v 7) we_int (nomark _)) (wss_one (ws_set (i:=3) sc__law_bent.nd rfl (Or.inl rfl) (we_op op_cat (we_slice (sl_listN K) (we_v 3) wo_none (wo_some (we_v 4))) (we_slice (sl_listN K) (we_v 3) (wo_some (we_op op_add (we_v 4) we_int)) wo_none)))) wss_nil))
      (wss_cons (ws_cut (ws_if (wt_cmp op_eq (we_v 7) we_int (nomark _)) (wss_one (ws_set (i:=3) sc__law_bent.nd rfl (Or.inl rfl) (we_op op_cat (we_slice (sl_listN K) (we_v 3) wo_none (wo_some (we_op op_add (we_v 4) we_int))) (we_slice (sl_listN K) (we_v 3) (wo_some (we_v 4)) wo_none)))) wss_nil))
      (wss_cons (ws_if (wt_cmp op_lt (we_v 7) we_int (nomark _)) (wss_one (ws_ret (we_op op_cat (we_op op_cat (we_slice (sl_listN K) (we_v 1) wo_none (wo_some (we_v 2))) (we_lst (wa_k (we_bm PySem.F.plainAttrs_str PySem.F.slot_str_join PySem.F.type_str_join (mt_join K) we_str (wa_k (we_v 3) wa_nil)) wa_nil))) (we_slice (sl_listN K) (we_v 1) (wo_some (we_op op_add (we_v 2) we_int)) wo_none)))) wss_nil)
      (wss_cons (ws_if (wt_cmp op_eq (we_v 7) we_int (nomark _)) (wss_one (ws_ret (we_op op_cat (we_slice (sl_listN K) (we_v 1) wo_none (wo_some (we_v 2))) (we_slice (sl_listN K) (we_v 1) (wo_some (we_op op_add (we_v 2) we_int)) wo_none)))) wss_nil)
      (wss_cons (ws_if (wt_cmp op_eq (we_v 7) we_int (nomark _)) (wss_one (ws_ret (we_op op_cat (we_op op_cat (we_slice (sl_listN K) (we_v 1) wo_none (wo_some (we_v 2))) (we_lst (wa_k (we_ix ix_seq (we_v 1) (we_v 2) (fun _ _=>rfl)) wa_nil))) (we_slice (sl_listN K) (we_v 1) (wo_some (we_v 2)) wo_none)))) wss_nil)
      (wss_cons (ws_if (wt_cmp op_eq (we_v 7) we_int (nomark _)) (wss_one (ws_ret (we_slice (sl_listN K) (we_v 1) wo_none (wo_some (we_v 2))))) wss_nil)
      (wss_cons (ws_if (wt_cmp op_eq (we_v 7) we_int (nomark _)) (wss_one (ws_ret (we_op op_cat (we_op op_cat (we_slice (sl_listN K) (we_v 1) wo_none (wo_some (we_v 2))) (we_lst (wa_k we_str wa_nil))) (we_slice (sl_listN K) (we_v 1) (wo_some (we_v 2)) wo_none)))) wss_nil)
      (wss_one (ws_ret (we_op op_cat (we_slice (sl_listN K) (we_v 1) (wo_some (we_v 2)) wo_none) (we_slice (sl_listN K) (we_v 1) wo_none (wo_some (we_v 2))))))))))))))))))))),?_⟩
    have hpos:0<rs.length:=List.length_pos_iff.mpr hn
    have na:a≠p:=F0.nl ha
    refine ⟨_,rfl,_,rfl,?_⟩
    refine rlL ha ?_
    rw [List.length_map,List.length_map]
    refine sp_draw_i (n:=n+9) F0 (by omega) (Nat.le_trans (bitsle (Nat.lt_of_le_of_lt (show ((rs.length:Nat):Int).natAbs≤20 by omega) (show 20<2^5 by decide))) (by decide)) fun x1 H1 a1 b1 F1 s1=>?_
    obtain ⟨at1,rfl⟩:∃ b:Nat,x1=(b:Int):=⟨x1.toNat,by omega⟩
    obtain ⟨r,hr0⟩:∃ r,rs[at1]?=some r:=⟨_,List.getElem?_eq_getElem (by omega)⟩
    obtain ⟨okr,lr⟩:=ok r (List.mem_of_getElem? hr0)
    have wd:=okr.wd
    have ll:=okr.k.ll
    have sb:=okr.k.back
    have rpos:0<r.length:=List.length_pos_iff.mpr okr.k.ne
    have hix:atI (lnV rs) ((at1:Nat):Int)=some (.str (lnOf r)):=atI_nat (by rw [List.getElem?_map,List.getElem?_map,hr0]; rfl)
    have e1:=s1.at na ha
    refine ⟨_,rfl,_,rfl,?_⟩
    refine ixL e1 hix ?_
    refine ⟨rfl,?_⟩
    refine rsplit (b:=bk) (by decide +kernel) (lineM (by omega)) (by rw [sb]; exact lineM (by omega)) fun q2 H2 hq2 e2 s2=>?_
    rw [sb] at e2
    have F2:=F1.same s2
    have n2:q2≠p:=F1.ne hq2
    refine ⟨_,rfl,_,rfl,?_⟩
    refine rlL e2 ?_
    rw [List.length_map]
    refine sp_draw_i (n:=n+8) F2 (by omega) (Nat.le_trans (bitsle (Nat.lt_of_le_of_lt (show ((r.length:Nat):Int).natAbs≤11 by omega) (show 11<2^5 by decide))) (by decide)) fun x3 H3 a3 b3 F3 s3=>?_
    obtain ⟨sp,rfl⟩:∃ b:Nat,x3=(b:Int):=⟨x3.toNat,by omega⟩
    have hsp:sp<r.length:=by omega
    have e3:=s3.at n2 e2
    refine nwL (by show 17≤64; decide) fun q4 H4 hq4 e4 s4=>?_
    refine ⟨_,rfl,?_⟩
    refine nwL (by show 13≤64; decide) fun q5 H5 hq5 e5 s5=>?_
    refine catL (s5 _ _ e4) e5 (by show 17+13≤_; decide) fun q6 H6 hq6 e6 s6=>?_
    have e6:H6 q6=some (.lst (odd30.map V.str)):=e6
    have S36:Same H3 H6:=(s4.trans s5).trans s6
    have F6:=F3.same S36
    have n6:q6≠p:=F6.nl e6
    refine ⟨_,rfl,_,rfl,_,rfl,?_⟩
    refine rlL e6 ?_
    rw [List.length_map]
    refine sp_draw_i (n:=n+7) F6 (by decide +kernel) (by decide +kernel) fun x7 H7 a7 b7 F7 s7=>?_
    obtain ⟨j7,rfl⟩:∃ b:Nat,x7=(b:Int):=⟨x7.toNat,by omega⟩
    obtain ⟨wo,hwo⟩:∃ o,odd30[j7]?=some o:=⟨_,List.getElem?_eq_getElem (by omega)⟩
    have hw:=odd_wd wo (List.mem_of_getElem? hwo)
    refine ixL (s7.at n6 e6) (v:=.str wo) (atI_nat (by rw [List.getElem?_map,hwo]; rfl)) ?_
    refine ⟨_,rfl,?_⟩
    refine sp_draw_i (n:=n+6) F7 (by decide) (by decide +kernel) fun x8 H8 a8 b8 F8 s8=>?_
    have S38:SameBut p H3 H8:=(S36.but.trans s7).trans s8
    have S08:SameBut p H H8:=((s1.trans s2.but).trans s3).trans S38
    have e8:H8 q2=some (.lst (r.map V.str)):=S38.at n2 e3
    have ea8:H8 a=some (.lst (lnV rs)):=S08.at na ha
    have cT:∀ j:Nat,cutV (r.map V.str) none (some ((j:Nat):Int))=(r.take j).map V.str:=fun j=>by rw [cutV_hi,List.map_take]
    have cD:∀ j:Nat,cutV (r.map V.str) (some ((j:Nat):Int)) none=(r.drop j).map V.str:=fun j=>by rw [cutV_lo,List.map_drop]
    have mT:∀ j,∀ u∈r.take j,WdS u:=fun j u hu=>wd u (List.mem_of_mem_take hu)
    have mD:∀ j,∀ u∈r.drop j,WdS u:=fun j u hu=>wd u (List.mem_of_mem_drop hu)
    have lT:∀ j,(r.take j).length≤r.length:=fun j=>by rw [List.length_take]; omega
    have lD:∀ j,(r.drop j).length≤r.length:=fun j=>by rw [List.length_drop]; omega
    have gr:Gd r:=gd_row (by omega) wd
    refine ⟨fun σ H'=>∃ (q:Addr) (ts:List Str),σ=[some (.ref p),some (.ref a),some (.int (at1:Int)),some (.ref q),some (.int (sp:Int)),some (.ref q6),some (.str wo),some (.int x8)]∧Same H8 H'∧H' q=some (.lst (ts.map V.str))∧Gd ts∧(2≤x8→ts=r),?_,?_⟩
    case refine_2 =>
      refine ⟨_,rfl,_,_,rfl,rfl,_,rfl,?_⟩
      refine iteD (fun h2=>?_) (fun h2=>?_)
      · obtain ⟨wy,rfl⟩:∃ b:Nat,x8=(b:Int):=⟨x8.toNat,by omega⟩
        refine ⟨_,rfl,_,rfl,_,rfl,?_⟩
        refine slL (ys:=(r.take sp).map V.str) e8 (cT sp) fun q9 H9 hq9 e9 s9=>?_
        refine ⟨_,rfl,?_⟩
        refine nwL (by show 1≤64; decide) fun qa Ha hqa ea sa=>?_
        refine catL (sa _ _ e9) ea (by rw [List.length_map]; have:=lT sp; show _+1≤_; omega) fun qb Hb hqb eb sb'=>?_
        have Sb:=(s9.trans sa).trans sb'
        refine ⟨_,rfl,_,rfl,_,_,rfl,rfl,_,rfl,_,_,rfl,rfl,_,rfl,?_⟩
        refine slL (ys:=(r.drop (sp+1 - wy)).map V.str) (Sb _ _ e8) (by show cutV _ (some ((sp:Int)+1 - (wy:Int))) none=_; rw [show ((sp:Int)+1 - (wy:Int))=((sp+1 - wy:Nat):Int) by omega]; exact cD _) fun qc Hc hqc ec sc=>?_
        refine catL (sc _ _ eb) ec (by rw [List.length_append,List.length_map,List.length_map]; have:=lT sp; have:=lD (sp+1 - wy); show _+1+_≤_; omega) fun qd Hd hqd ed sd=>?_
        refine ⟨qd,r.take sp++[wo]++r.drop (sp+1 - wy),rfl,(Sb.trans sc).trans sd,by rw [ed,List.map_append,List.map_append]; rfl,gd_word (by have:=lT sp; have:=lD (sp+1 - wy); omega) (mT _) (mD _) hw,fun z=>by omega⟩
      · exact ⟨q2,r,rfl,Same.refl _,e8,gr,fun _=>rfl⟩
    rintro σ G1 ⟨w1,ts1,rfl,z1,y1,g1,h1⟩
    refine ⟨fun σ H'=>∃ (q:Addr) (ts:List Str),σ=[some (.ref p),some (.ref a),some (.int (at1:Int)),some (.ref q),some (.int (sp:Int)),some (.ref q6),some (.str wo),some (.int x8)]∧Same H8 H'∧H' q=some (.lst (ts.map V.str))∧Gd ts∧(3≤x8→ts=r),?_,?_⟩
    case refine_2 =>
      refine ⟨_,rfl,rfl,_,rfl,?_⟩
      by_cases h2:x8=2
      · refine iteTe (decide_eq_true (by rw [h2])) ?_
        obtain rfl:=h1 (by omega)
        refine ⟨_,rfl,_,rfl,_,rfl,?_⟩
        refine slL (ys:=(ts1.take sp).map V.str) y1 (cT sp) fun q9 H9 hq9 e9 s9=>?_
        refine ⟨_,rfl,_,rfl,_,_,rfl,rfl,_,rfl,?_⟩
        refine slL (ys:=(ts1.drop (sp+1)).map V.str) (s9 _ _ y1) (by show cutV _ (some ((sp:Int)+1)) none=_; rw [show ((sp:Int)+1)=((sp+1:Nat):Int) by omega]; exact cD _) fun qc Hc hqc ec sc=>?_
        refine catL (sc _ _ e9) ec (by rw [List.length_map,List.length_map]; have:=lT sp; have:=lD (sp+1); omega) fun qd Hd hqd ed sd=>?_
        refine ⟨qd,ts1.take sp++ts1.drop (sp+1),rfl,((z1.trans s9).trans sc).trans sd,by rw [ed,List.map_append],gd_row (by rw [List.length_append]; have:=lT sp; have:=lD (sp+1); omega) fun u hu=>(List.mem_append.mp hu).elim (mT _ u) (mD _ u),fun z=>by omega⟩
      · refine iteFe (decide_eq_false fun z=>h2 (by injection z)) ?_
        exact ⟨w1,ts1,rfl,z1,y1,g1,fun z=>h1 (by omega)⟩
    rintro σ G2 ⟨w2,ts2,rfl,z2,y2,g2,h2⟩
    refine ⟨fun σ H'=>∃ (q:Addr) (ts:List Str),σ=[some (.ref p),some (.ref a),some (.int (at1:Int)),some (.ref q),some (.int (sp:Int)),some (.ref q6),some (.str wo),some (.int x8)]∧Same H8 H'∧H' q=some (.lst (ts.map V.str))∧Gd ts,?_,?_⟩
    case refine_2 =>
      refine ⟨_,rfl,rfl,_,rfl,?_⟩
      by_cases h3:x8=3
      · refine iteTe (decide_eq_true (by rw [h3])) ?_
        obtain rfl:=h2 (by omega)
        refine ⟨_,rfl,_,rfl,_,_,rfl,rfl,_,rfl,?_⟩
        refine slL (ys:=(ts2.take (sp+1)).map V.str) y2 (by show cutV _ none (some ((sp:Int)+1))=_; rw [show ((sp:Int)+1)=((sp+1:Nat):Int) by omega]; exact cT _) fun q9 H9 hq9 e9 s9=>?_
        refine ⟨_,rfl,_,rfl,_,rfl,?_⟩
        refine slL (ys:=(ts2.drop sp).map V.str) (s9 _ _ y2) (cD sp) fun qc Hc hqc ec sc=>?_
        refine catL (sc _ _ e9) ec (by rw [List.length_map,List.length_map]; have:=lT (sp+1); have:=lD sp; omega) fun qd Hd hqd ed sd=>?_
        refine ⟨qd,ts2.take (sp+1)++ts2.drop sp,rfl,((z2.trans s9).trans sc).trans sd,by rw [ed,List.map_append],gd_row (by rw [List.length_append]; have:=lT (sp+1); have:=lD sp; omega) fun u hu=>(List.mem_append.mp hu).elim (mT _ u) (mD _ u)⟩
      · refine iteFe (decide_eq_false fun z=>h3 (by injection z)) ?_
        exact ⟨w2,ts2,rfl,z2,y2,g2⟩
    rintro σ G3 ⟨w3,ts3,rfl,z3,y3,g3⟩
    have ea3:=z3 _ _ ea8
    have F3':=F8.same z3
    have c1:cutV (lnV rs) none (some ((at1:Nat):Int))=lnV (rs.take at1):=by rw [cutV_hi]; unfold lnV; rw [List.map_take,List.map_take]
    have c2:cutV (lnV rs) (some ((at1:Nat):Int)) none=lnV (rs.drop at1):=by rw [cutV_lo]; unfold lnV; rw [List.map_drop,List.map_drop]
    have c3:cutV (lnV rs) (some (((at1:Nat):Int)+1)) none=lnV (rs.drop (at1+1)):=by rw [show (((at1:Nat):Int)+1)=((at1+1:Nat):Int) by omega,cutV_lo]; unfold lnV; rw [List.map_drop,List.map_drop]
    have lt:(lnV (rs.take at1)).length≤20:=by rw [List.length_map,List.length_map,List.length_take]; omega
    have ld:∀ i,(lnV (rs.drop i)).length≤20:=fun i=>by rw [List.length_map,List.length_map,List.length_drop]; omega
    have mt:∀ r∈rs.take at1,RwS r:=fun r hr=>(ok r (List.mem_of_mem_take hr)).1
    have md:∀ i,∀ r∈rs.drop i,RwS r:=fun i r hr=>(ok r (List.mem_of_mem_drop hr)).1
    have cat:∀ {x y:List (List Str)},(∀ r∈x,RwS r)→(∀ r∈y,RwS r)→∀ r∈x++y,RwS r:=fun h1 h2 r hr=>(List.mem_append.mp hr).elim (h1 r) (h2 r)
    have one:∀ {r':List Str},RwS r'→∀ r∈[r'],RwS r:=fun h r hr=>by rw [List.mem_singleton.mp hr]; exact h
    have lnA:∀ x y:List (List Str),lnV x++lnV y=lnV (x++y):=fun x y=>by unfold lnV; rw [List.map_append,List.map_append]
    have fin:∀ (rs':List (List Str)) (D:Addr) (H':Hp),Same G3 H'→H' D=some (.lst (lnV rs'))→(∀ r∈rs',RwS r)→rs'.length≤22→Q (.ref D) H':=fun rs' D H' s' e' hr' hl'=>k rs' D H' ((F3'.same s').less (by omega)) ((S08.trans z3.but).trans s'.but) e' hr' hl'
    refine ⟨_,rfl,_,_,rfl,rfl,_,rfl,?_⟩
    refine iteD (fun h4=>?_) (fun h4=>?_)
    · obtain ⟨r',hj,okr'⟩:=g3.2.2
      refine ⟨_,rfl,_,rfl,_,rfl,?_⟩
      refine slL ea3 c1 fun q9 H9 hq9 e9 s9=>?_
      refine ⟨rfl,?_⟩
      refine ⟨_,rfl,?_⟩
      refine rjoin (ts:=ts3) (sep:=bk) (.inl (SqL.of (s9 _ _ y3))) (gd_join g3) ?_
      rw [hj]
      refine nwL (by show 1≤64; decide) fun qa Ha hqa ea sa=>?_
      have ea:Ha qa=some (.lst (lnV [r'])):=ea
      refine catL (sa _ _ e9) ea (by show _+1≤_; omega) fun qb Hb hqb eb sb'=>?_
      rw [lnA] at eb
      have Sb:=(s9.trans sa).trans sb'
      refine ⟨_,rfl,_,rfl,_,_,rfl,rfl,_,rfl,?_⟩
      refine slL (Sb _ _ ea3) c3 fun q10 H10 hq10 e10 s10=>?_
      refine catL (s10 _ _ eb) e10 (by rw [← lnA,List.length_append]; have:=ld (at1+1); show _+1+_≤_; omega) fun q11 H11 hq11 e11 s11=>?_
      rw [lnA] at e11
      exact fin _ q11 H11 ((Sb.trans s10).trans s11) e11 (cat (cat mt (one okr')) (md _)) (by rw [List.length_append,List.length_append,List.length_take,List.length_drop]; show _+1+_≤_; omega)
    refine ⟨_,rfl,rfl,_,rfl,?_⟩
    by_cases w4:x8=4
    · refine iteTe (decide_eq_true (by rw [w4])) ?_
      refine ⟨_,rfl,_,rfl,_,rfl,?_⟩
      refine slL ea3 c1 fun q9 H9 hq9 e9 s9=>?_
      refine ⟨_,rfl,_,rfl,_,_,rfl,rfl,_,rfl,?_⟩
      refine slL (s9 _ _ ea3) c3 fun q10 H10 hq10 e10 s10=>?_
      refine catL (s10 _ _ e9) e10 (by have:=ld (at1+1); omega) fun q11 H11 hq11 e11 s11=>?_
      rw [lnA] at e11
      exact fin _ q11 H11 ((s9.trans s10).trans s11) e11 (cat mt (md _)) (by rw [List.length_append,List.length_take,List.length_drop]; omega)
    refine iteFe (decide_eq_false fun z=>w4 (by injection z)) ?_
    refine ⟨_,rfl,rfl,_,rfl,?_⟩
    by_cases w5:x8=5
    · refine iteTe (decide_eq_true (by rw [w5])) ?_
      refine ⟨_,rfl,_,rfl,_,rfl,?_⟩
      refine slL ea3 c1 fun q9 H9 hq9 e9 s9=>?_
      refine ⟨_,rfl,_,rfl,?_⟩
      refine ixL (s9 _ _ ea3) hix ?_
      refine nwL (by show 1≤64; decide) fun qa Ha hqa ea sa=>?_
      have ea:Ha qa=some (.lst (lnV [r])):=ea
      refine catL (sa _ _ e9) ea (by show _+1≤_; omega) fun qb Hb hqb eb sb'=>?_
      rw [lnA] at eb
      have Sb:=(s9.trans sa).trans sb'
      refine ⟨_,rfl,_,rfl,_,rfl,?_⟩
      refine slL (Sb _ _ ea3) c2 fun q10 H10 hq10 e10 s10=>?_
      refine catL (s10 _ _ eb) e10 (by rw [← lnA,List.length_append]; have:=ld at1; show _+1+_≤_; omega) fun q11 H11 hq11 e11 s11=>?_
      rw [lnA] at e11
      exact fin _ q11 H11 ((Sb.trans s10).trans s11) e11 (cat (cat mt (one okr)) (md _)) (by rw [List.length_append,List.length_append,List.length_take,List.length_drop]; show _+1+_≤_; omega)
    refine iteFe (decide_eq_false fun z=>w5 (by injection z)) ?_
    refine ⟨_,rfl,rfl,_,rfl,?_⟩
    by_cases w6:x8=6
    · refine iteTe (decide_eq_true (by rw [w6])) ?_
      refine ⟨_,rfl,_,rfl,_,rfl,?_⟩
      refine slL ea3 c1 fun q9 H9 hq9 e9 s9=>?_
      exact fin _ q9 H9 s9 e9 mt (by rw [List.length_take]; omega)
    refine iteFe (decide_eq_false fun z=>w6 (by injection z)) ?_
    refine ⟨_,rfl,rfl,_,rfl,?_⟩
    by_cases w7:x8=7
    · refine iteTe (decide_eq_true (by rw [w7])) ?_
      refine ⟨_,rfl,_,rfl,_,rfl,?_⟩
      refine slL ea3 c1 fun q9 H9 hq9 e9 s9=>?_
      refine nwL (by show 1≤64; decide) fun qa Ha hqa ea sa=>?_
      have ea:Ha qa=some (.lst (lnV [[""]])):=ea
      refine catL (sa _ _ e9) ea (by show _+1≤_; omega) fun qb Hb hqb eb sb'=>?_
      rw [lnA] at eb
      have Sb:=(s9.trans sa).trans sb'
      refine ⟨_,rfl,_,rfl,_,rfl,?_⟩
      refine slL (Sb _ _ ea3) c2 fun q10 H10 hq10 e10 s10=>?_
      refine catL (s10 _ _ eb) e10 (by rw [← lnA,List.length_append]; have:=ld at1; show _+1+_≤_; omega) fun q11 H11 hq11 e11 s11=>?_
      rw [lnA] at e11
      exact fin _ q11 H11 ((Sb.trans s10).trans s11) e11 (cat (cat mt (one (rwS_of (by simp) (by decide) fun p hp=>by rw [List.mem_singleton.mp hp]; exact void_wd))) (md _)) (by rw [List.length_append,List.length_append,List.length_take,List.length_drop]; show _+1+_≤_; omega)
    refine iteFe (decide_eq_false fun z=>w7 (by injection z)) ?_
    refine ⟨_,rfl,_,rfl,_,rfl,?_⟩
    refine slL ea3 c2 fun q9 H9 hq9 e9 s9=>?_
    refine ⟨_,rfl,_,rfl,_,rfl,?_⟩
    refine slL (s9 _ _ ea3) c1 fun q10 H10 hq10 e10 s10=>?_
    refine catL (s10 _ _ e9) e10 (by have:=ld at1; omega) fun q11 H11 hq11 e11 s11=>?_
    rw [lnA] at e11
    exact fin _ q11 H11 ((s9.trans s10).trans s11) e11 (cat (md _) mt) (by rw [List.length_append,List.length_take,List.length_drop]; omega)
end
end Kw
set_option Elab.async false
set_option linter.all false
set_option maxRecDepth 100000
set_option exponentiation.threshold 2000
namespace Kw
open PySem L2 Mf Mt
theorem lg_val {t:Str} {m:Nat} (h:lgB t=true) (hl:t.length≤m):val t<10^m:=by
  obtain ⟨w1,w2,w3⟩:=lgB_len h
  have h1:val t<10^t.length:=by
    have:=dv_lt (figs_all w2)
    rw [len_toList] at this
    exact this
  exact Nat.lt_of_lt_of_le h1 (Nat.pow_le_pow_right (by decide) hl)
theorem p300:(10:Nat)^300≤2^1000:=by decide +kernel
theorem rd_small {t:Str} {z:Int} (hl:t.length≤300) (h:rd t=some z):z.natAbs<2^1000:=by
  cases hn:neg t with
  | false =>
    rw [rd_pl hn] at h
    unfold lgN at h
    by_cases q:lgB t=true
    · rw [if_pos q] at h
      injection h with h
      rw [← h]
      exact Nat.lt_of_lt_of_le (lg_val q hl) p300
    · rw [if_neg q] at h; cases h
  | true =>
    rw [rd_ng hn] at h
    have hf:(fg t).length≤300:=Nat.le_trans (fg_len t) hl
    unfold lgN at h
    by_cases q:lgB (fg t)=true
    · rw [if_pos q] at h
      have hv:=Nat.lt_of_lt_of_le (lg_val q hf) p300
      cases hq:val (fg t) with
      | zero=>rw [hq] at h; cases h
      | succ k =>
        rw [hq] at h hv
        injection h with h
        rw [← h,Int.natAbs_neg,Int.natAbs_natCast]
        exact hv
    · rw [if_neg q] at h; cases h
theorem rdT_small {t:Str} {f:Fr} (hl:t.length≤300) (h:rdT t=some f):f.1.natAbs<2^1000∧f.2.natAbs<2^1000:=by
  unfold rdT at h
  have pl:∀ u∈words t,u.length≤300:=fun u hu=>Nat.le_trans (part_len hu) hl
  have one:(1:Int).natAbs<2^1000:=Nat.lt_of_lt_of_le (show 1<2^1 by decide) (Nat.pow_le_pow_right (by decide) (by decide))
  match hw:words t with
  | []=>rw [hw] at h; cases h
  | [u] =>
    rw [hw] at h
    have h:rdF [rd u]=some f:=h
    cases q:rd u with
    | none=>rw [q] at h; cases h
    | some z =>
      rw [q] at h
      injection h with h
      rw [← h]
      exact ⟨rd_small (pl u (by rw [hw]; simp)) q,one⟩
  | [u,v] =>
    rw [hw] at h
    have h:rdF [rd u,rd v]=some f:=h
    cases q:rd u with
    | none=>rw [q] at h; cases h
    | some z =>
      cases q2:rd v with
      | none=>rw [q,q2] at h; cases h
      | some d =>
        rw [q,q2] at h
        have h:(if (!decide (d=1)&&isf [some z,some d])=true then some (z,d) else none)=some f:=h
        by_cases c:(!decide (d=1)&&isf [some z,some d])=true
        · rw [if_pos c] at h
          injection h with h
          rw [← h]
          exact ⟨rd_small (pl u (by rw [hw]; simp)) q,rd_small (pl v (by rw [hw]; simp)) q2⟩
        · rw [if_neg c] at h; cases h
  | u::v::x::r=>rw [hw,rdF_long (by simp)] at h; cases h
theorem Sw.i {x:Int} (h:x.natAbs<2^1000):Sw 1 1921 (.int x):=Sw.int (k:=1000) h
theorem Sw.fr {f:Fr} (h:f.1.natAbs<2^1000∧f.2.natAbs<2^1000):Sw 2 3850 (frD f):=Sw.tup (k:=2) (n:=1) (w:=1921) (fun d hd=>by
  simp only [List.mem_cons,List.not_mem_nil,or_false] at hd
  rcases hd with rfl | rfl
  · exact Sw.i h.1
  · exact Sw.i h.2) (Nat.le_refl _)
theorem rdS_all {ts:List Str} {fs:List Fr} (hs:∀ t∈ts,t.length≤300) (h:rdS ts=some fs):fs.length=ts.length∧∀ f∈fs,f.1.natAbs<2^1000∧f.2.natAbs<2^1000:=by
  have all2:∀ t∈ts,(rdT t).isSome=true:=fun t ht=>by
    cases z:rdT t with
    | some g=>rfl
    | none=>rw [rdS_none ht z] at h; cases h
  have e:=rdS_some all2
  rw [h] at e
  injection e with e
  refine ⟨by rw [e,List.length_map],fun f hf=>?_⟩
  rw [e] at hf
  obtain ⟨t,ht,rfl⟩:=List.mem_map.mp hf
  obtain ⟨g,hg⟩:=Option.isSome_iff_exists.mp (all2 t ht)
  rw [hg]
  exact rdT_small (hs t ht) hg
theorem rdC_all {ts:List Str} {m:Nat} {cs:List Int} (hs:∀ t∈ts,t.length≤300) (h:rdC ts m=some cs):cs.length=m∧∀ x∈cs,x.natAbs<2^1000:=by
  obtain ⟨l1,l2⟩:=rdC_len h
  refine ⟨l2,fun x hx=>?_⟩
  rw [rdC_eq l1] at h
  by_cases q:ts.all lgB=true
  · rw [if_pos q] at h
    injection h with h
    rw [← h] at hx
    obtain ⟨t,ht,rfl⟩:=List.mem_map.mp hx
    rw [Int.natAbs_natCast]
    exact Nat.lt_of_lt_of_le (lg_val (List.all_eq_true.mp q t ht) (hs t ht)) p300
  · rw [if_neg q] at h; cases h
theorem Sw.ct {cs:List Int} (hl:cs.length≤4) (h:∀ x∈cs,x.natAbs<2^1000):Sw 2 7696 (ctD cs):=Sw.tup (n:=1) (w:=1921) (k:=4) (fun d hd=>by
  obtain ⟨x,hx,rfl⟩:=List.mem_map.mp hd
  exact Sw.i (h x hx)) (by rw [List.length_map]; exact hl)
theorem Sw.shs {fs:List Fr} (hl:fs.length≤5) (h:∀ f∈fs,f.1.natAbs<2^1000∧f.2.natAbs<2^1000):Sw 3 19264 (shD fs):=Sw.tup (n:=2) (w:=3850) (k:=5) (fun d hd=>by
  obtain ⟨f,hf,rfl⟩:=List.mem_map.mp hd
  exact Sw.fr (h f hf)) (by rw [List.length_map]; exact hl)
theorem two_sw {a b:PyData} {n w:Nat} (h1:Sw n w a) (h2:Sw n w b):Sw (n+1) (2*(w+2)+4) (.tuple [a,b]):=Sw.tup (k:=2) (fun d hd=>by
  simp only [List.mem_cons,List.not_mem_nil,or_false] at hd
  rcases hd with rfl | rfl
  · exact h1
  · exact h2) (Nat.le_refl _)
theorem rdE_sw {F W:Nat} {r:List Str} {e:Ent} (ok:RwS r) (f4:F≤4) (w4:W≤4) (h:rdE F W r=some e):Sw 4 40000 (enD e):=by
  unfold rdE at h
  cases hc:rdC ((r.drop 1).take F) F with
  | none=>rw [hc] at h; cases h
  | some cs =>
    cases hs:rdFs (r.drop (F+2)) (1+W) with
    | none=>rw [hc,hs] at h; cases h
    | some fs =>
      rw [hc,hs] at h
      have h:(if r[0]?=some wOn∧r[F+1]?=some wSay then some (cs,fs) else none)=some e:=h
      by_cases z:r[0]?=some wOn∧r[F+1]?=some wSay
      · rw [if_pos z] at h
        injection h with h
        subst h
        have l3:=rdFs_len hs
        have hS:rdS (r.drop (F+2))=some fs:=by unfold rdFs at hs; rw [if_pos l3] at hs; exact hs
        obtain ⟨c1,c2⟩:=rdC_all (fun t ht=>ok.s t (List.mem_of_mem_drop (List.mem_of_mem_take ht))) hc
        obtain ⟨s1,s2⟩:=rdS_all (fun t ht=>ok.s t (List.mem_of_mem_drop ht)) hS
        exact (two_sw ((Sw.ct (by omega) c2).le (by decide) (show 7696≤19264 by decide)) (Sw.shs (by omega) s2)).le (Nat.le_refl _) (by decide)
      · rw [if_neg z] at h; cases h
theorem ens_sw {F W:Nat} (f4:F≤4) (w4:W≤4):∀ {rs:List (List Str)},(∀ r∈rs,RwS r)→∀ e∈ens F W rs,Sw 4 40000 (enD e)
  | [],_,e,h=>by cases h
  | r::rs,ok,e,h=>by
    unfold ens at h
    cases hE:rdE F W r with
    | none=>rw [hE] at h; cases h
    | some e' =>
      rw [hE] at h
      rcases List.mem_cons.mp h with rfl | h
      · exact rdE_sw (ok r (List.mem_cons_self ..)) f4 w4 hE
      · exact ens_sw f4 w4 (fun x hx=>ok x (List.mem_cons_of_mem _ hx)) e h
theorem rdW_sw {F:Nat} {r:List Str} {x:List Int × Fr} (ok:RwS r) (f4:F≤4) (h:rdW F r=some x):Sw 3 20000 (woD x):=by
  cases hc:rdC ((r.drop 1).take F) F with
  | none=>rw [rdW_c hc] at h; cases h
  | some cs =>
    cases hs:rdFs (r.drop (1+F)) 1 with
    | none=>rw [rdW_s hs] at h; cases h
    | some fs =>
      obtain ⟨g,rfl⟩:=rdFs_one hs
      rw [rdW_ok hc hs] at h
      by_cases z:r[0]?=some wWorth
      · rw [if_pos z] at h
        injection h with h
        subst h
        have l3:=rdFs_len hs
        have hS:rdS (r.drop (1+F))=some [g]:=by unfold rdFs at hs; rw [if_pos l3] at hs; exact hs
        obtain ⟨c1,c2⟩:=rdC_all (fun t ht=>ok.s t (List.mem_of_mem_drop (List.mem_of_mem_take ht))) hc
        obtain ⟨s1,s2⟩:=rdS_all (fun t ht=>ok.s t (List.mem_of_mem_drop ht)) hS
        exact (two_sw (Sw.ct (by omega) c2) ((Sw.fr (s2 g (by simp))).le (Nat.le_refl _) (show 3850≤7696 by decide))).le (Nat.le_refl _) (by decide)
      · rw [if_neg z] at h; cases h
theorem wos_sw {F:Nat} (f4:F≤4):∀ {rs:List (List Str)} {p:Nat} {xs:List (List Int × Fr)},(∀ r∈rs,RwS r)→wos F rs p=.ok xs→xs.length≤rs.length∧∀ x∈xs,Sw 3 20000 (woD x)
  | [],p,xs,_,h=>by
    have h:Except.ok []=Except.ok xs:=h
    injection h with h
    subst h
    exact ⟨Nat.le_refl _,fun x hx=>by cases hx⟩
  | r::rs,p,xs,ok,h=>by
    cases hW:rdW F r with
    | none=>rw [wos_no hW] at h; cases h
    | some x =>
      rw [wos_yes hW] at h
      cases hq:wos F rs (p+1) with
      | error l=>rw [hq] at h; cases h
      | ok ys =>
        rw [hq] at h
        have h:Except.ok ([x]++ys)=Except.ok xs:=h
        injection h with h
        subst h
        obtain ⟨i1,i2⟩:=wos_sw f4 (fun y hy=>ok y (List.mem_cons_of_mem _ hy)) hq
        refine ⟨by rw [List.length_append,List.length_singleton,List.length_cons]; omega,fun y hy=>?_⟩
        rcases List.mem_append.mp hy with hy | hy
        · rw [List.mem_singleton.mp hy]; exact rdW_sw (ok r (List.mem_cons_self ..)) f4 hW
        · exact i2 y hy
theorem rest_sw {F W line:Nat} {rs:List (List Str)} {ps:List Fr} {xs:List (List Int × Fr)} (ok:∀ r∈rs,RwS r) (f4:F≤4) (w4:W≤4) (hl:rs.length≤30) (h:rdRest F W rs line=.ok (ps,xs)):Sw 3 19264 (shD ps)∧Sw 4 600064 (wsD xs):=by
  unfold rdRest at h
  cases hp:(rs[line]?).bind (rdP W) with
  | none=>rw [hp] at h; cases h
  | some qs =>
    rw [hp] at h
    cases hw:wos F (rs.drop (line+1)) (line+1) with
    | error l=>rw [hw] at h; cases h
    | ok ys =>
      rw [hw] at h
      have h:Except.ok (qs,ys)=Except.ok (ps,xs):=h
      injection h with h
      injection h with h1 h2
      subst h1 h2
      obtain ⟨i1,i2⟩:=wos_sw f4 (fun r hr=>ok r (List.mem_of_mem_drop hr)) hw
      rw [List.length_drop] at i1
      refine ⟨?_,Sw.tup (n:=3) (w:=20000) (k:=30) (fun d hd=>by
        obtain ⟨x,hx,rfl⟩:=List.mem_map.mp hd
        exact i2 x hx) (by rw [List.length_map]; omega)⟩
      obtain ⟨r,hr,hP⟩:=Option.bind_eq_some_iff.mp hp
      have okr:=ok r (List.mem_of_getElem? hr)
      unfold rdP at hP
      by_cases z:r[0]?=some wPrice
      · rw [if_pos z] at hP
        have l3:=rdFs_len hP
        have hS:rdS (r.drop 1)=some qs:=by unfold rdFs at hP; rw [if_pos l3] at hP; exact hP
        obtain ⟨s1,s2⟩:=rdS_all (fun t ht=>okr.s t (List.mem_of_mem_drop ht)) hS
        exact Sw.shs (by omega) s2
      · rw [if_neg z] at hP; cases hP
theorem Sw.st {t:Str} (h:(PyData.shown (.str t)).length≤10):Sw 1 600064 (.str t):=⟨rfl,rfl,by simp [PyData.depth],Nat.le_trans (show shW (.str t)≤10 from h) (by decide)⟩
theorem pap_sw {rs:List (List Str)} (ok:∀ r∈rs,RwS r) (hl:rs.length≤30):Sw 6 12000000 (pD (rdPap rs)):=by
  have er:∀ k:Nat,k≤1000→Sw 6 12000000 (pD (.error k)):=fun k hk=>(Sw.int (k:=20) (Nat.lt_of_le_of_lt (show ((k:Int)).natAbs≤1000 by omega) (by decide))).le (by decide) (by decide)
  have wl:∀ {F p:Nat} {rs':List (List Str)} {l:Nat},wos F rs' p=.error l→l≤p+rs'.length:=fun {F p rs' l}=>by
    induction rs' generalizing p l with
    | nil=>intro h; cases h
    | cons r rs' ih =>
      intro h
      cases hW:rdW F r with
      | none=>rw [wos_no hW] at h; injection h with h; rw [List.length_cons]; omega
      | some x =>
        rw [wos_yes hW] at h
        cases hq:wos F rs' (p+1) with
        | ok ys=>rw [hq] at h; cases h
        | error m =>
          rw [hq] at h
          have h:Except.error m=Except.error l:=h
          injection h with h
          have:=ih hq
          rw [List.length_cons]; omega
  have rl:∀ {F W line l:Nat},line≤100→rdRest F W rs line=.error l→l≤1000:=fun {F W line l} hline h=>by
    unfold rdRest at h
    cases hp:(rs[line]?).bind (rdP W) with
    | none=>rw [hp] at h; injection h with h; omega
    | some qs =>
      rw [hp] at h
      cases hw:wos F (rs.drop (line+1)) (line+1) with
      | ok ys=>rw [hw] at h; cases h
      | error m =>
        rw [hw] at h
        have h:Except.error m=Except.error l:=h
        injection h with h
        have:=wl hw
        rw [List.length_drop] at this
        omega
  unfold rdPap
  by_cases hR:hasR rs=true
  · rw [if_pos hR]
    cases hh:hdW wRule rs with
    | none=>exact er 0 (by decide)
    | some p =>
      obtain ⟨F,W⟩:=p
      obtain ⟨f2,f4,w2,w4⟩:=hdW_in hh
      have le:=ens_le F W (rs.drop 1)
      rw [List.length_drop] at le
      show Sw 6 12000000 (pD (match rdRest F W rs (1+(ens F W (rs.drop 1)).length) with | .error l=>.error l | .ok (ps,xs)=>.ok (.tuple [.str wRule,ruD (ens F W (rs.drop 1)),shD ps,wsD xs])))
      cases hr:rdRest F W rs (1+(ens F W (rs.drop 1)).length) with
      | error l=>exact er l (rl (by omega) hr)
      | ok q =>
        obtain ⟨ps,xs⟩:=q
        obtain ⟨s1,s2⟩:=rest_sw ok f4 w4 hl hr
        refine (Sw.tup (n:=5) (w:=1200064) (k:=4) (fun d hd=>?_) (Nat.le_refl _)).le (Nat.le_refl _) (by decide)
        simp only [List.mem_cons,List.not_mem_nil,or_false] at hd
        rcases hd with rfl | rfl | rfl | rfl
        · exact (Sw.st (by decide +kernel)).le (by decide) (by decide)
        · exact (Sw.tup (n:=4) (w:=40000) (k:=30) (fun d hd=>by
            obtain ⟨e,he,rfl⟩:=List.mem_map.mp hd
            exact ens_sw f4 w4 (fun r hr=>ok r (List.mem_of_mem_drop hr)) e he) (by rw [List.length_map]; omega)).le (Nat.le_refl _) (by decide)
        · exact s1.le (by decide) (by decide)
        · exact s2.le (by decide) (by decide)
  · rw [if_neg hR]
    cases hh:hdW wNone rs with
    | none=>exact er 0 (by decide)
    | some p =>
      obtain ⟨F,W⟩:=p
      obtain ⟨f2,f4,w2,w4⟩:=hdW_in hh
      show Sw 6 12000000 (pD (match rdRest F W rs 1 with | .error l=>.error l | .ok (ps,xs)=>.ok (.tuple [.str wNone,shD ps,wsD xs])))
      cases hr:rdRest F W rs 1 with
      | error l=>exact er l (rl (by decide) hr)
      | ok q =>
        obtain ⟨ps,xs⟩:=q
        obtain ⟨s1,s2⟩:=rest_sw ok f4 w4 hl hr
        refine (Sw.tup (n:=4) (w:=600064) (k:=3) (fun d hd=>?_) (Nat.le_refl _)).le (by decide) (by decide)
        simp only [List.mem_cons,List.not_mem_nil,or_false] at hd
        rcases hd with rfl | rfl | rfl
        · exact (Sw.st (by decide +kernel)).le (by decide) (by decide)
        · exact s1.le (by decide) (by decide)
        · exact s2
end Kw
set_option Elab.async false
set_option linter.all false
set_option maxRecDepth 100000
set_option exponentiation.threshold 2000
namespace Kw
open PySem L2 Mf Mt
abbrev s_law:Stmt:=(top 56)
theorem sc_law:FnScope ["_law_script", "_law_feed_here", "_law_turn", "_law_lines_here", "_law_k", "_law_handed", "_law_kept"] ["_law_script"] (defScope s_law):=⟨rfl,rfl,rfl,by decide +kernel,rfl,by decide +kernel,by decide +kernel⟩
theorem tx_128 (n:Int):∀ c∈(tx n).cps.toList,c<128:=by
  intro c h
  rcases Int.lt_or_le n 0 with hn | hn
  · obtain ⟨m,rfl⟩:∃ m:Nat,n=-((m+1:Nat):Int):=⟨(-n - 1).toNat,by omega⟩
    rw [tx_neg] at h
    rcases List.mem_cons.mp h with h | h
    · omega
    · have:=dg_all _ c h; omega
  · obtain ⟨m,rfl⟩:=Int.eq_ofNat_of_zero_le hn
    rw [tx_nat] at h
    have:=dg_all _ c h
    omega
theorem TT_128 (f:Fr):∀ c∈(TT f).cps.toList,c<128:=by
  unfold TT
  split
  · exact tx_128 _
  · intro c h
    rw [app_cps,app_cps] at h
    rcases List.mem_append.mp h with h | h
    · rcases List.mem_append.mp h with h | h
      · exact tx_128 _ c h
      · have:c=47:=by simpa [sl] using h
        omega
    · exact tx_128 _ c h
theorem words_wd:∀ t∈[wOn,wSay,wRule,wNone,wPaper,wPrice,wWorth],WdS t:=by
  have h:∀ t∈[wOn,wSay,wRule,wNone,wPaper,wPrice,wWorth],32 ∉ t.cps.toList∧t.length≤300∧∀ c∈t.cps.toList,c<128:=by decide +kernel
  exact fun t ht=>⟨(h t ht).1,(h t ht).2.1,(h t ht).2.2⟩
theorem tx_wd {n:Int} (h:n.natAbs<10^50):WdS (tx n):=⟨tx_blank 32 (by decide),by have:=tx_lenG h; omega,tx_128 n⟩
theorem TT_wd {f:Fr} (h:FrT f):WdS (TT f):=⟨TT_free f,by have:=TT_len h; omega,TT_128 f⟩
theorem gP_ok {b:Bool} {F W:Nat} {es:List Ent} {ps:List Fr} {xs:List (List Int × Fr)} (ok:PapOk b F W es ps xs):∀ r∈gP b F W es ps xs,RwS r∧r.length≤11:=by
  have f4:=ok.f
  have w4:=ok.w
  have lp:=ok.p
  intro r hr
  unfold gP at hr
  rcases List.mem_cons.mp hr with rfl | hr
  · refine ⟨rwS_of (by simp) (by simp) fun p hp=>?_,by simp⟩
    simp only [List.mem_cons,List.not_mem_nil,or_false] at hp
    rcases hp with rfl | rfl | rfl | rfl
    · exact words_wd _ (by simp)
    · cases b <;> exact words_wd _ (by simp [kW])
    · exact tx_wd (tx_small (by omega))
    · exact tx_wd (tx_small (by omega))
  rcases List.mem_append.mp hr with hr | hr
  · cases b with
    | false=>rw [if_neg (by decide)] at hr; cases hr
    | true =>
      rw [if_pos rfl] at hr
      obtain ⟨e,he,rfl⟩:=List.mem_map.mp hr
      have E:=ok.e e he
      obtain ⟨l1,l2⟩:=wdE_len E f4.2 w4.2
      refine ⟨rwS_of (by simp [wdE]) (by omega) fun p hp=>?_,l1⟩
      rcases List.mem_cons.mp hp with rfl | hp
      · exact words_wd _ (by simp)
      rcases List.mem_append.mp hp with hp | hp
      · obtain ⟨x,hx,rfl⟩:=List.mem_map.mp hp
        exact tx_wd (E.n x hx).2
      rcases List.mem_cons.mp hp with rfl | hp
      · exact words_wd _ (by simp)
      · obtain ⟨x,hx,rfl⟩:=List.mem_map.mp hp
        exact TT_wd (E.f x hx)
  rcases List.mem_cons.mp hr with rfl | hr
  · refine ⟨rwS_of (by simp) (by rw [List.length_cons,List.length_map]; omega) fun p hp=>?_,by rw [List.length_cons,List.length_map]; omega⟩
    rcases List.mem_cons.mp hp with rfl | hp
    · exact words_wd _ (by simp)
    · obtain ⟨x,hx,rfl⟩:=List.mem_map.mp hp
      exact TT_wd (ok.pt x hx)
  · obtain ⟨x,hx,rfl⟩:=List.mem_map.mp hr
    have X:=ok.x x hx
    have lc:=X.c
    have ll:(wdX x).length≤11:=by unfold wdX; rw [List.length_cons,List.length_append,List.length_map,List.length_singleton]; omega
    refine ⟨rwS_of (by simp [wdX]) (by omega) fun p hp=>?_,ll⟩
    rcases List.mem_cons.mp hp with rfl | hp
    · exact words_wd _ (by simp)
    rcases List.mem_append.mp hp with hp | hp
    · obtain ⟨y,hy,rfl⟩:=List.mem_map.mp hp
      exact tx_wd (X.n y hy).2
    · rw [List.mem_singleton.mp hp]
      exact TT_wd X.f
theorem gP_len {b:Bool} {F W:Nat} {es:List Ent} {ps:List Fr} {xs:List (List Int × Fr)} (ok:PapOk b F W es ps xs):(gP b F W es ps xs).length≤20:=by
  have h1:=ok.el
  have h2:=ok.xl
  unfold gP
  rw [List.length_cons,List.length_append,List.length_cons,List.length_map]
  cases b with
  | false=>rw [if_neg (by decide)]; simp; omega
  | true=>rw [if_pos rfl,List.length_map]; omega
section
variable {P:Program} {w:World} {K:PySem.W.Frag} {mg:Str→Option Value} {base:Heap} {c:Cl}
set_option maxHeartbeats 8000000 in
theorem ok_law {f:Addr} {fd:FuncData} (F:Fun K "law" "law" s_law f fd) (T:Txt K mg c)
    (F__law_feed:FnC CX0 P w K mg base 1 "_law_feed" ["_law_script"] (sp_feed K)) (F__law_any_paper:FnC CX0 P w K mg base 3 "_law_any_paper" ["_law_feed_here"] sp_anyp) (F__law_lines:FnC CX0 P w K mg base 2 "_law_lines" ["_law_paper"] sp_llp) (F__law_bent:FnC CX0 P w K mg base 2 "_law_bent" ["_law_feed_here", "_law_lines_here"] sp_bent)
    (F__law_told:FnC CX0 P w K mg base 8 "_law_told" ["_law_lines_here"] sp_told) (F__law_due:FnC CX0 P w K mg base 4 "_law_due" ["_law_lines_here"] sp_ldue):FnOk P w K mg base CX0 9 f fd ["_law_script"] (sp_law K):=by
  refine F.okw sc_law (fun vs H Q E h=>?_) (fun cdv A outer s H vs Q E hr h=>?_)
  · unfold sp_law at h
    obtain ⟨a,ns,rfl,_⟩:=h
    rfl
  · unfold sp_law at h
    obtain ⟨a,ns,rfl,hS,hl,k⟩:=h
    refine ⟨_,(wss_cons (ws_set (i:=1) sc_law.nd rfl (Or.inl rfl) (we_fn F__law_feed (hr.mono (by decide)) (wa_k (we_v 0) wa_nil)))
      (wss_cons (ws_if (wt_cmp (op_neD hr.units) (we_fn F__law_told (hr.mono (by decide)) (wa_k (we_lst wa_nil) wa_nil)) we_int (nomark _)) (wss_one (ws_ret we_bl)) wss_nil)
      (wss_cons (ws_for PassesOwn.never rfl (wi_range1 rfl T.b_range (wa_k we_int wa_nil)) (wg_name (i:=2) sc_law.nd rfl (Or.inl rfl)) (wss_cons (ws_set (i:=3) sc_law.nd rfl (Or.inl rfl) (we_fn F__law_lines (hr.mono (by decide)) (wa_k (we_fn F__law_any_paper (hr.mono (by decide)) (wa_k (we_v 1) wa_nil)) wa_nil)))
      (wss_one (ws_for PassesOwn.never rfl (wi_range1 rfl T.b_range (wa_k we_int wa_nil)) (wg_name (i:=4) sc_law.nd rfl (Or.inl rfl)) (wss_cons (ws_set (i:=5) sc_law.nd rfl (Or.inl rfl) (we_fn F__law_bent (hr.mono (by decide)) (wa_k (we_v 1) (wa_k (we_v 3) wa_nil))))
      (wss_cons (ws_set (i:=6) sc_law.nd rfl (Or.inl rfl) (we_cT call_list_of (by rfl) T.b_list (by decide +kernel) (wa_k (we_v 5) wa_nil)))
      (wss_one (ws_if (wt_mono (wt_w (ww_or (wt_cmp op_ne (we_cB (cl_repr hr.gd hr.units) (by rfl) T.b_repr (by decide +kernel) (wa_k (we_fn F__law_told (hr.mono (by decide)) (wa_k (we_v 5) wa_nil)) wa_nil)) (we_cB (cl_repr hr.gd hr.units) (by rfl) T.b_repr (by decide +kernel) (wa_k (we_fn F__law_due (hr.mono (by decide)) (wa_k (we_v 6) wa_nil)) wa_nil)) (nomark _)) (ww_or1 (wt_cmp (op_neD hr.units) (we_v 5) (we_v 6) (nomark _)))))) (wss_one (ws_ret we_bl)) wss_nil))))))))
      (wss_one (ws_ret we_bl))))),?_⟩
    refine ⟨_,rfl,?_⟩
    refine sp_feed_i hS hl fun p L H1 F1 s1 hp hL=>?_
    refine nwL (by show 0≤64; decide) fun q2 H2 hq2 e2 s2=>?_
    refine sp_told_i (rs:=[]) e2 (fun r hr=>by cases hr) (by decide) fun v3 H3 s3 r3=>?_
    refine reD (d:=.int 0) (d':=.int 0) r3 (Rep.int 0) rfl rfl ?_
    refine ⟨_,rfl,?_⟩
    refine iteFe (by rfl) ?_
    have F3:=(F1.same s2).same s3
    refine ⟨_,rfl,by decide,by decide,?_⟩
    refine for_range (fun i σ H'=>∃ o2 o3 o4 o5 o6:Option V,σ=[some (.ref a),some (.ref p),o2,o3,o4,o5,o6]∧FeedC H' p L (900000000000 - 10000*i)) ⟨_,_,_,_,_,rfl,F3.less (by omega)⟩ ?_ ?_
    · rintro i σ H4 hi ⟨o2,o3,o4,o5,o6,rfl,F4⟩
      refine ⟨_,rfl,?_⟩
      refine sp_anyp_i (n:=900000000000 - 10000*i - 1000) (F4.less (by omega)) fun v b nF nW es ps xs H5 F5 s5 ok r5=>?_
      refine sp_llp_i r5 ok fun D H6 s6 hD e6=>?_
      have gok:=gP_ok ok
      have gl:=gP_len ok
      have F6:=F5.same s6
      have n6:D≠p:=F6.nl e6
      refine ⟨_,rfl,by decide,by decide,?_⟩
      refine for_range (fun j σ H'=>∃ o4 o5 o6:Option V,σ=[some (.ref a),some (.ref p),some (.int (0+(i:Int))),some (.ref D),o4,o5,o6]∧FeedC H' p L (900000000000 - 10000*i - 1000 - 100*j)∧H' D=some (.lst (lnV (gP b nF nW es ps xs)))) ⟨_,_,_,rfl,F6.less (by omega),e6⟩ ?_ ?_
      · rintro j σ H7 hj ⟨o4',o5',o6',rfl,F7,e7⟩
        refine ⟨_,rfl,_,rfl,?_⟩
        refine sp_bent_i (n:=900000000000 - 10000*i - 1000 - 100*(j+1)) (F7.less (by omega)) e7 gok (by unfold gP; simp) gl fun rs D8 H8 F8 s8 e8 ok8 l8=>?_
        have n8:D8≠p:=F8.nl e8
        have sw:=pap_sw ok8 (by omega)
        have okK:∀ r∈rs,RwK r:=fun r hr=>(ok8 r hr).k
        refine ⟨_,rfl,D8,_,rfl,.inl (SqL.of e8),fun l hl=>?_⟩
        have sl:=Same.upd (o:=.lst (lnV rs)) hl
        have el:(upd H8 l (.lst (lnV rs))) l=some (.lst (lnV rs)):=upd_same
        generalize upd H8 l (.lst (lnV rs))=H9 at sl el
        have e9:=sl _ _ e8
        have shp:SeqAt.shaped (.list ((rs.map lnOf).map PyData.str))=true:=strs_shp fun u hu=>by
          obtain ⟨r,hr,rfl⟩:=List.mem_map.mp hu
          exact ln_low (okK r hr)
        refine ⟨fun bb H'=>Same H9 H'∧bb=false,?_,?_⟩
        · refine ⟨_,rfl,?_⟩
          refine sp_told_i e9 okK (by omega) fun v2 H13 s13 r2=>?_
          refine rrW r2 sw (by decide) (by decide) ?_
          refine ⟨_,rfl,?_⟩
          refine sp_ldue_i (s13 _ _ el) ok8 (by omega) fun v3 H14 s14 r3=>?_
          refine rrW r3 sw (by decide) (by decide) ?_
          refine ⟨rfl,_,rfl,?_⟩
          refine iteFe (by simp) ?_
          refine ⟨_,rfl,_,rfl,?_⟩
          have S14:=s13.trans s14
          refine reD (Rep.lst (S14 _ _ e9) (strs_rep _)) (Rep.lst (S14 _ _ el) (strs_rep _)) shp shp ?_
          rw [show PyData.eqv (.list ((rs.map lnOf).map PyData.str)) (.list ((rs.map lnOf).map PyData.str))=PyData.eqvAll ((rs.map lnOf).map PyData.str) ((rs.map lnOf).map PyData.str) from rfl,eqv_strs]
          exact ⟨_,rfl,S14,by simp⟩
        · rintro bb H13 ⟨s13,rfl⟩
          refine iteF ?_
          have eD:H13 D=some (.lst (lnV (gP b nF nW es ps xs))):=s13 _ _ (sl _ _ (s8.at n6 e7))
          exact ⟨_,_,_,rfl,((F8.same sl).same s13).less (by omega),eD⟩
      · rintro σ H11 ⟨o4',o5',o6',rfl,F11,e11⟩
        exact ⟨_,_,_,_,_,rfl,F11.less (by omega)⟩
    · rintro σ H4 ⟨o2,o3,o4,o5,o6,rfl,F4⟩
      exact k _
end
end Kw
set_option Elab.async false
set_option linter.all false
set_option maxRecDepth 100000
namespace Kw
open PySem L2 Mf Mt
theorem len1 {α:Type} {us:List α} (h:us.length=1):∃ a,us=[a]:=match us,h with | [a],_=>⟨a,rfl⟩
theorem len2 {α:Type} {us:List α} (h:us.length=2):∃ a b,us=[a,b]:=match us,h with | [a,b],_=>⟨a,b,rfl⟩
theorem len3 {α:Type} {us:List α} (h:us.length=3):∃ a b c,us=[a,b,c]:=match us,h with | [a,b,c],_=>⟨a,b,c,rfl⟩
theorem len5 {α:Type} {us:List α} (h:us.length=5):∃ a b c d e,us=[a,b,c,d,e]:=match us,h with | [a,b,c,d,e],_=>⟨a,b,c,d,e,rfl⟩
theorem fnc (l:PySem.W.OpenLaw) (w:World) {K:PySem.W.Frag} {h:Heap} {mg:Str→Option Value} (X:K.In h) (G:h.Ns mainGlobals mg) (base:Heap) {n:Str} {f:Addr} {fd:FuncData} {L:Nat} {ps:List Str} {sp:Sp} (a:PySem.W.nsIn K mainGlobals n=some (some (.ref f))) (k:PySem.W.keepIn K (.ref f)=true) (b:Binds K fd ps []) (o:FnOk l.prog w K mg base CX0 L f fd ps sp):FnC CX0 l.prog w K mg base L n ps sp:=⟨_,_,o,PySem.W.mg_of X G a,k,b⟩
set_option maxHeartbeats 0 in
theorem all_mk {l:PySem.W.OpenLaw} {w:World} {K:PySem.W.Frag} {h:Heap} {mg:Str→Option Value} {fa:Addr} {c_EarlyError:Addr} {c_NoTrial:Addr} {c_NoRule:Addr} {c_NoBounds:Addr} {c_NoLook:Addr} {c_NoPaper:Addr} {c_NoLines:Addr} {c_NoFraction:Addr} {c_NoOrder:Addr} {c_NoBack:Addr} {c_NoRow:Addr} {tok_FIGURES:Tok} {tok_MOST_FIGURES:Tok} {tok_LEAST_NAMES:Tok} {tok_MOST_NAMES:Tok} {tok_ENTRY_WORD:Tok} {tok_SAYS_WORD:Tok} {tok_PAPER_WORD:Tok} {tok_PRICE_WORD:Tok} {tok_WORTH_WORD:Tok} {cd_NoFraction:ClassData} {ce_NoFraction:ClassData} {ce_EarlyError:ClassData} (X:K.In h) (G:h.Ns mainGlobals mg) (hfa:mg "law" = some (.ref fa))
    (u_EarlyError:PySem.W.nsIn K mainGlobals "EarlyError" = some (some (.ref c_EarlyError)))
    (u_NoTrial:PySem.W.nsIn K mainGlobals "NoTrial" = some (some (.ref c_NoTrial)))
    (u_NoRule:PySem.W.nsIn K mainGlobals "NoRule" = some (some (.ref c_NoRule)))
    (u_NoBounds:PySem.W.nsIn K mainGlobals "NoBounds" = some (some (.ref c_NoBounds)))
    (u_NoLook:PySem.W.nsIn K mainGlobals "NoLook" = some (some (.ref c_NoLook)))
    (u_NoPaper:PySem.W.nsIn K mainGlobals "NoPaper" = some (some (.ref c_NoPaper)))
    (u_NoLines:PySem.W.nsIn K mainGlobals "NoLines" = some (some (.ref c_NoLines)))
    (u_NoFraction:PySem.W.nsIn K mainGlobals "NoFraction" = some (some (.ref c_NoFraction)))
    (u_NoOrder:PySem.W.nsIn K mainGlobals "NoOrder" = some (some (.ref c_NoOrder)))
    (u_NoBack:PySem.W.nsIn K mainGlobals "NoBack" = some (some (.ref c_NoBack)))
    (u_NoRow:PySem.W.nsIn K mainGlobals "NoRow" = some (some (.ref c_NoRow)))
    (u_FIGURES:PySem.W.nsIn K mainGlobals "FIGURES" = some (some (.str (Str.ofString "0123456789") tok_FIGURES)))
    (u_MOST_FIGURES:PySem.W.nsIn K mainGlobals "MOST_FIGURES" = some (some (.int 4000 tok_MOST_FIGURES)))
    (u_LEAST_NAMES:PySem.W.nsIn K mainGlobals "LEAST_NAMES" = some (some (.int 2 tok_LEAST_NAMES)))
    (u_MOST_NAMES:PySem.W.nsIn K mainGlobals "MOST_NAMES" = some (some (.int 4 tok_MOST_NAMES)))
    (u_ENTRY_WORD:PySem.W.nsIn K mainGlobals "ENTRY_WORD" = some (some (.str (Str.ofString "on") tok_ENTRY_WORD)))
    (u_SAYS_WORD:PySem.W.nsIn K mainGlobals "SAYS_WORD" = some (some (.str (Str.ofString "say") tok_SAYS_WORD)))
    (u_PAPER_WORD:PySem.W.nsIn K mainGlobals "PAPER_WORD" = some (some (.str (Str.ofString "paper") tok_PAPER_WORD)))
    (u_PRICE_WORD:PySem.W.nsIn K mainGlobals "PRICE_WORD" = some (some (.str (Str.ofString "price") tok_PRICE_WORD)))
    (u_WORTH_WORD:PySem.W.nsIn K mainGlobals "WORTH_WORD" = some (some (.str (Str.ofString "worth") tok_WORTH_WORD)))
    (x_NoFraction:PySem.W.excIn K c_NoFraction mroVE "ValueError.__new__" = true)
    (ga_NoFraction:PySem.W.findIn K (.ref c_NoFraction) "__getattribute__" = some (some (.builtin "BaseException.__getattribute__")))
    (gt_NoFraction:PySem.W.findIn K (.ref c_NoFraction) "__getattr__" = some none)
    (su_NoFraction:PySem.W.subIn K (.ref c_NoFraction) (.type "BaseException")=some true)
    (cl_NoFraction:PySem.W.clsIn K c_NoFraction=some cd_NoFraction)
    (kc_NoFraction:PySem.W.findIn K (.ref c_NoFraction) "__class__" = some (some (.builtin "object.__class__")))
    (kg_NoFraction:PySem.W.specialIn K (.builtin "object.__class__") "__get__" = some (some (.builtin "getset_descriptor.__get__")))
    (kt_NoFraction:PySem.W.takesIn K (.builtin "object.__class__")=some true)
    (ob_NoFraction:PySem.W.mroIn K c_NoFraction (.type "object")=some true)
    (ty_NoFraction:PySem.W.typeIn K (.ref c_NoFraction)=some (.type "type"))
    (cm_NoFraction:PySem.W.clsIn K c_NoFraction=some ce_NoFraction)
    (sb_NoFraction:PySem.W.subIn K (.ref c_NoFraction) (.type "BaseException")=some true)
    (ty_EarlyError:PySem.W.typeIn K (.ref c_EarlyError)=some (.type "type"))
    (cm_EarlyError:PySem.W.clsIn K c_EarlyError=some ce_EarlyError)
    (sb_EarlyError:PySem.W.subIn K (.ref c_EarlyError) (.type "BaseException")=some true)
    (y0:PySem.W.subIn K (.ref c_NoFraction) (.ref c_NoFraction)=some true)
    (t0:baseAll K c_EarlyError=true)
    (t1:setAll K c_NoLines ["line"]=true)
    (t2:excAll K c_NoLines=true)
    (t3:PySem.W.subIn K (.ref c_NoLines) (.ref c_EarlyError)=some true)
    (y1:PySem.W.kitAny K (.ref c_NoLines) [.ref c_NoBack,.ref c_NoBounds,.ref c_NoFraction,.ref c_NoLook,.ref c_NoOrder,.ref c_NoPaper,.ref c_NoRow,.ref c_NoRule,.ref c_NoTrial]=some false)
    (y4:PySem.W.kitOne K (.ref c_NoLines) (.ref c_NoLines)=some true)
    (y5:PySem.W.kitOne K (.ref c_NoLines) (.type "ValueError")=some true)
    (y2:PySem.W.nsOkIn K cStatics=true)
    (y3:PySem.W.nsIn K cStatics "sys.int_max_str_digits" = some none)
    (a0:PySem.W.findIn K (.ref c_NoLines) "__init__" = some (some (.ref f0))) (l0:K.lookup f0=some ⟨oc0,od0,.func (PySem.W.fnOf "__init__" "NoLines.__init__" (defArgs s_NoLines___init__) (defBody s_NoLines___init__) (defScope s_NoLines___init__) .none kV0 dc0 pm0 an0 cd0 ct0),sl0⟩) (c0:PySem.W.codeIn K cd0 "NoLines.__init__" = true) (k0:PySem.W.keepIn K (.ref f0)=true) (fn0:PySem.W.isFn K (.ref f0)=true) (kp0:PySem.W.keepIn K (.ref c_NoLines)=true)
    (a1:PySem.W.nsIn K mainGlobals "is_whole" = some (some (.ref f1))) (l1:K.lookup f1=some ⟨oc1,od1,.func (PySem.W.fnOf "is_whole" "is_whole" (defArgs s_is_whole) (defBody s_is_whole) (defScope s_is_whole) .none kV1 dc1 pm1 an1 cd1 ct1),sl1⟩) (c1:PySem.W.codeIn K cd1 "is_whole" = true) (k1:PySem.W.keepIn K (.ref f1)=true)
    (a2:PySem.W.nsIn K mainGlobals "common_divisor" = some (some (.ref f2))) (l2:K.lookup f2=some ⟨oc2,od2,.func (PySem.W.fnOf "common_divisor" "common_divisor" (defArgs s_common_divisor) (defBody s_common_divisor) (defScope s_common_divisor) .none kV2 dc2 pm2 an2 cd2 ct2),sl2⟩) (c2:PySem.W.codeIn K cd2 "common_divisor" = true) (k2:PySem.W.keepIn K (.ref f2)=true)
    (a3:PySem.W.nsIn K mainGlobals "are_figures" = some (some (.ref f3))) (l3:K.lookup f3=some ⟨oc3,od3,.func (PySem.W.fnOf "are_figures" "are_figures" (defArgs s_are_figures) (defBody s_are_figures) (defScope s_are_figures) .none kV3 dc3 pm3 an3 cd3 ct3),sl3⟩) (c3:PySem.W.codeIn K cd3 "are_figures" = true) (k3:PySem.W.keepIn K (.ref f3)=true)
    (a4:PySem.W.nsIn K mainGlobals "read_whole" = some (some (.ref f4))) (l4:K.lookup f4=some ⟨oc4,od4,.func (PySem.W.fnOf "read_whole" "read_whole" (defArgs s_read_whole) (defBody s_read_whole) (defScope s_read_whole) .none kV4 dc4 pm4 an4 cd4 ct4),sl4⟩) (c4:PySem.W.codeIn K cd4 "read_whole" = true) (k4:PySem.W.keepIn K (.ref f4)=true)
    (a5:PySem.W.nsIn K mainGlobals "is_fraction" = some (some (.ref f5))) (l5:K.lookup f5=some ⟨oc5,od5,.func (PySem.W.fnOf "is_fraction" "is_fraction" (defArgs s_is_fraction) (defBody s_is_fraction) (defScope s_is_fraction) .none kV5 dc5 pm5 an5 cd5 ct5),sl5⟩) (c5:PySem.W.codeIn K cd5 "is_fraction" = true) (k5:PySem.W.keepIn K (.ref f5)=true)
    (a6:PySem.W.nsIn K mainGlobals "read_fraction" = some (some (.ref f6))) (l6:K.lookup f6=some ⟨oc6,od6,.func (PySem.W.fnOf "read_fraction" "read_fraction" (defArgs s_read_fraction) (defBody s_read_fraction) (defScope s_read_fraction) .none kV6 dc6 pm6 an6 cd6 ct6),sl6⟩) (c6:PySem.W.codeIn K cd6 "read_fraction" = true) (k6:PySem.W.keepIn K (.ref f6)=true)
    (a7:PySem.W.nsIn K mainGlobals "read_counts" = some (some (.ref f7))) (l7:K.lookup f7=some ⟨oc7,od7,.func (PySem.W.fnOf "read_counts" "read_counts" (defArgs s_read_counts) (defBody s_read_counts) (defScope s_read_counts) .none kV7 dc7 pm7 an7 cd7 ct7),sl7⟩) (c7:PySem.W.codeIn K cd7 "read_counts" = true) (k7:PySem.W.keepIn K (.ref f7)=true)
    (a8:PySem.W.nsIn K mainGlobals "read_fractions" = some (some (.ref f8))) (l8:K.lookup f8=some ⟨oc8,od8,.func (PySem.W.fnOf "read_fractions" "read_fractions" (defArgs s_read_fractions) (defBody s_read_fractions) (defScope s_read_fractions) .none kV8 dc8 pm8 an8 cd8 ct8),sl8⟩) (c8:PySem.W.codeIn K cd8 "read_fractions" = true) (k8:PySem.W.keepIn K (.ref f8)=true)
    (a9:PySem.W.nsIn K mainGlobals "read_head" = some (some (.ref f9))) (l9:K.lookup f9=some ⟨oc9,od9,.func (PySem.W.fnOf "read_head" "read_head" (defArgs s_read_head) (defBody s_read_head) (defScope s_read_head) .none kV9 dc9 pm9 an9 cd9 ct9),sl9⟩) (c9:PySem.W.codeIn K cd9 "read_head" = true) (k9:PySem.W.keepIn K (.ref f9)=true)
    (a10:PySem.W.nsIn K mainGlobals "read_entry" = some (some (.ref f10))) (l10:K.lookup f10=some ⟨oc10,od10,.func (PySem.W.fnOf "read_entry" "read_entry" (defArgs s_read_entry) (defBody s_read_entry) (defScope s_read_entry) .none kV10 dc10 pm10 an10 cd10 ct10),sl10⟩) (c10:PySem.W.codeIn K cd10 "read_entry" = true) (k10:PySem.W.keepIn K (.ref f10)=true)
    (a11:PySem.W.nsIn K mainGlobals "entries_behind" = some (some (.ref f11))) (l11:K.lookup f11=some ⟨oc11,od11,.func (PySem.W.fnOf "entries_behind" "entries_behind" (defArgs s_entries_behind) (defBody s_entries_behind) (defScope s_entries_behind) .none kV11 dc11 pm11 an11 cd11 ct11),sl11⟩) (c11:PySem.W.codeIn K cd11 "entries_behind" = true) (k11:PySem.W.keepIn K (.ref f11)=true)
    (a12:PySem.W.nsIn K mainGlobals "has_rule" = some (some (.ref f12))) (l12:K.lookup f12=some ⟨oc12,od12,.func (PySem.W.fnOf "has_rule" "has_rule" (defArgs s_has_rule) (defBody s_has_rule) (defScope s_has_rule) .none kV12 dc12 pm12 an12 cd12 ct12),sl12⟩) (c12:PySem.W.codeIn K cd12 "has_rule" = true) (k12:PySem.W.keepIn K (.ref f12)=true)
    (a13:PySem.W.nsIn K mainGlobals "read_prices" = some (some (.ref f13))) (l13:K.lookup f13=some ⟨oc13,od13,.func (PySem.W.fnOf "read_prices" "read_prices" (defArgs s_read_prices) (defBody s_read_prices) (defScope s_read_prices) .none kV13 dc13 pm13 an13 cd13 ct13),sl13⟩) (c13:PySem.W.codeIn K cd13 "read_prices" = true) (k13:PySem.W.keepIn K (.ref f13)=true)
    (a14:PySem.W.nsIn K mainGlobals "read_worth" = some (some (.ref f14))) (l14:K.lookup f14=some ⟨oc14,od14,.func (PySem.W.fnOf "read_worth" "read_worth" (defArgs s_read_worth) (defBody s_read_worth) (defScope s_read_worth) .none kV14 dc14 pm14 an14 cd14 ct14),sl14⟩) (c14:PySem.W.codeIn K cd14 "read_worth" = true) (k14:PySem.W.keepIn K (.ref f14)=true)
    (a15:PySem.W.nsIn K mainGlobals "read_rest" = some (some (.ref f15))) (l15:K.lookup f15=some ⟨oc15,od15,.func (PySem.W.fnOf "read_rest" "read_rest" (defArgs s_read_rest) (defBody s_read_rest) (defScope s_read_rest) .none kV15 dc15 pm15 an15 cd15 ct15),sl15⟩) (c15:PySem.W.codeIn K cd15 "read_rest" = true) (k15:PySem.W.keepIn K (.ref f15)=true)
    (a16:PySem.W.nsIn K mainGlobals "read_paper" = some (some (.ref f16))) (l16:K.lookup f16=some ⟨oc16,od16,.func (PySem.W.fnOf "read_paper" "read_paper" (defArgs s_read_paper) (defBody s_read_paper) (defScope s_read_paper) .none kV16 dc16 pm16 an16 cd16 ct16),sl16⟩) (c16:PySem.W.codeIn K cd16 "read_paper" = true) (k16:PySem.W.keepIn K (.ref f16)=true)
    (a17:PySem.W.nsIn K mainGlobals "_law_feed" = some (some (.ref f17))) (l17:K.lookup f17=some ⟨oc17,od17,.func (PySem.W.fnOf "_law_feed" "_law_feed" (defArgs s__law_feed) (defBody s__law_feed) (defScope s__law_feed) .none kV17 dc17 pm17 an17 cd17 ct17),sl17⟩) (c17:PySem.W.codeIn K cd17 "_law_feed" = true) (k17:PySem.W.keepIn K (.ref f17)=true)
    (a18:PySem.W.nsIn K mainGlobals "_law_draw" = some (some (.ref f18))) (l18:K.lookup f18=some ⟨oc18,od18,.func (PySem.W.fnOf "_law_draw" "_law_draw" (defArgs s__law_draw) (defBody s__law_draw) (defScope s__law_draw) .none kV18 dc18 pm18 an18 cd18 ct18),sl18⟩) (c18:PySem.W.codeIn K cd18 "_law_draw" = true) (k18:PySem.W.keepIn K (.ref f18)=true)
    (a19:PySem.W.nsIn K mainGlobals "_law_frac" = some (some (.ref f19))) (l19:K.lookup f19=some ⟨oc19,od19,.func (PySem.W.fnOf "_law_frac" "_law_frac" (defArgs s__law_frac) (defBody s__law_frac) (defScope s__law_frac) .none kV19 dc19 pm19 an19 cd19 ct19),sl19⟩) (c19:PySem.W.codeIn K cd19 "_law_frac" = true) (k19:PySem.W.keepIn K (.ref f19)=true)
    (a20:PySem.W.nsIn K mainGlobals "_law_shown" = some (some (.ref f20))) (l20:K.lookup f20=some ⟨oc20,od20,.func (PySem.W.fnOf "_law_shown" "_law_shown" (defArgs s__law_shown) (defBody s__law_shown) (defScope s__law_shown) .none kV20 dc20 pm20 an20 cd20 ct20),sl20⟩) (c20:PySem.W.codeIn K cd20 "_law_shown" = true) (k20:PySem.W.keepIn K (.ref f20)=true)
    (a21:PySem.W.nsIn K mainGlobals "_law_whole" = some (some (.ref f21))) (l21:K.lookup f21=some ⟨oc21,od21,.func (PySem.W.fnOf "_law_whole" "_law_whole" (defArgs s__law_whole) (defBody s__law_whole) (defScope s__law_whole) .none kV21 dc21 pm21 an21 cd21 ct21),sl21⟩) (c21:PySem.W.codeIn K cd21 "_law_whole" = true) (k21:PySem.W.keepIn K (.ref f21)=true)
    (a22:PySem.W.nsIn K mainGlobals "_law_read" = some (some (.ref f22))) (l22:K.lookup f22=some ⟨oc22,od22,.func (PySem.W.fnOf "_law_read" "_law_read" (defArgs s__law_read) (defBody s__law_read) (defScope s__law_read) .none kV22 dc22 pm22 an22 cd22 ct22),sl22⟩) (c22:PySem.W.codeIn K cd22 "_law_read" = true) (k22:PySem.W.keepIn K (.ref f22)=true)
    (a23:PySem.W.nsIn K mainGlobals "_law_line" = some (some (.ref f23))) (l23:K.lookup f23=some ⟨oc23,od23,.func (PySem.W.fnOf "_law_line" "_law_line" (defArgs s__law_line) (defBody s__law_line) (defScope s__law_line) .none kV23 dc23 pm23 an23 cd23 ct23),sl23⟩) (c23:PySem.W.codeIn K cd23 "_law_line" = true) (k23:PySem.W.keepIn K (.ref f23)=true)
    (a24:PySem.W.nsIn K mainGlobals "_law_due" = some (some (.ref f24))) (l24:K.lookup f24=some ⟨oc24,od24,.func (PySem.W.fnOf "_law_due" "_law_due" (defArgs s__law_due) (defBody s__law_due) (defScope s__law_due) .none kV24 dc24 pm24 an24 cd24 ct24),sl24⟩) (c24:PySem.W.codeIn K cd24 "_law_due" = true) (k24:PySem.W.keepIn K (.ref f24)=true)
    (a25:PySem.W.nsIn K mainGlobals "_law_told" = some (some (.ref f25))) (l25:K.lookup f25=some ⟨oc25,od25,.func (PySem.W.fnOf "_law_told" "_law_told" (defArgs s__law_told) (defBody s__law_told) (defScope s__law_told) .none kV25 dc25 pm25 an25 cd25 ct25),sl25⟩) (c25:PySem.W.codeIn K cd25 "_law_told" = true) (k25:PySem.W.keepIn K (.ref f25)=true)
    (a26:PySem.W.nsIn K mainGlobals "_law_any_fraction" = some (some (.ref f26))) (l26:K.lookup f26=some ⟨oc26,od26,.func (PySem.W.fnOf "_law_any_fraction" "_law_any_fraction" (defArgs s__law_any_fraction) (defBody s__law_any_fraction) (defScope s__law_any_fraction) .none kV26 dc26 pm26 an26 cd26 ct26),sl26⟩) (c26:PySem.W.codeIn K cd26 "_law_any_fraction" = true) (k26:PySem.W.keepIn K (.ref f26)=true)
    (a27:PySem.W.nsIn K mainGlobals "_law_any_paper" = some (some (.ref f27))) (l27:K.lookup f27=some ⟨oc27,od27,.func (PySem.W.fnOf "_law_any_paper" "_law_any_paper" (defArgs s__law_any_paper) (defBody s__law_any_paper) (defScope s__law_any_paper) .none kV27 dc27 pm27 an27 cd27 ct27),sl27⟩) (c27:PySem.W.codeIn K cd27 "_law_any_paper" = true) (k27:PySem.W.keepIn K (.ref f27)=true)
    (a28:PySem.W.nsIn K mainGlobals "_law_lines" = some (some (.ref f28))) (l28:K.lookup f28=some ⟨oc28,od28,.func (PySem.W.fnOf "_law_lines" "_law_lines" (defArgs s__law_lines) (defBody s__law_lines) (defScope s__law_lines) .none kV28 dc28 pm28 an28 cd28 ct28),sl28⟩) (c28:PySem.W.codeIn K cd28 "_law_lines" = true) (k28:PySem.W.keepIn K (.ref f28)=true)
    (a29:PySem.W.nsIn K mainGlobals "_law_bent" = some (some (.ref f29))) (l29:K.lookup f29=some ⟨oc29,od29,.func (PySem.W.fnOf "_law_bent" "_law_bent" (defArgs s__law_bent) (defBody s__law_bent) (defScope s__law_bent) .none kV29 dc29 pm29 an29 cd29 ct29),sl29⟩) (c29:PySem.W.codeIn K cd29 "_law_bent" = true) (k29:PySem.W.keepIn K (.ref f29)=true)
    (a30:PySem.W.nsIn K mainGlobals "law" = some (some (.ref f30))) (l30:K.lookup f30=some ⟨oc30,od30,.func (PySem.W.fnOf "law" "law" (defArgs s_law) (defBody s_law) (defScope s_law) .none kV30 dc30 pm30 an30 cd30 ct30),sl30⟩) (c30:PySem.W.codeIn K cd30 "law" = true) (k30:PySem.W.keepIn K (.ref f30)=true) (z0:PySem.W.nsIn K mainGlobals "list" = some none) (z1:PySem.W.nsIn K mainGlobals "len" = some none) (z2:PySem.W.nsIn K mainGlobals "abs" = some none) (z3:PySem.W.nsIn K mainGlobals "isinstance" = some none) (z4:PySem.W.nsIn K mainGlobals "repr" = some none) (z5:PySem.W.nsIn K mainGlobals "range" = some none) (z6:PySem.W.nsIn K mainGlobals "int" = some none) (z7:PySem.W.nsIn K mainGlobals "bool" = some none) (z8:PySem.W.nsIn K mainGlobals "tuple" = some none) (z9:PySem.W.nsIn K mainGlobals "str" = some none) (z10:PySem.W.nsIn K mainGlobals "ValueError" = some none) (z11:PySem.W.nsIn K mainGlobals "all" = some none) (z12:PySem.W.nsIn K mainGlobals "sum" = some none) (z13:PySem.W.nsIn K mainGlobals "max" = some none) (z14:PySem.W.nsIn K mainGlobals "sorted" = some none) :
    ∃ fd:FuncData,(∀ (s:Shared) (v:Value),BindsTo s fd ⟨[v],[]⟩ [("_law_script",v)])∧∀ base:Heap,K.In base→base.Ns mainGlobals mg→FnOk l.prog w K mg base CX0 9 fa fd ["_law_script"] (sp_law K):=by
  have e:=hfa.symm.trans (PySem.W.mg_of X G a30)
  cases e
  generalize hcl:(⟨c_EarlyError,c_NoTrial,c_NoRule,c_NoBounds,c_NoLook,c_NoPaper,c_NoLines,c_NoFraction,c_NoOrder,c_NoBack,c_NoRow,tok_FIGURES,tok_MOST_FIGURES,tok_LEAST_NAMES,tok_MOST_NAMES,tok_ENTRY_WORD,tok_SAYS_WORD,tok_PAPER_WORD,tok_PRICE_WORD,tok_WORTH_WORD⟩:Cl)=c
  have T:Txt K mg c:=by rw [← hcl]; exact ⟨PySem.W.mg_none_of X G z0,PySem.W.mg_none_of X G z1,PySem.W.mg_none_of X G z2,PySem.W.mg_none_of X G z3,PySem.W.mg_none_of X G z4,PySem.W.mg_none_of X G z5,PySem.W.mg_none_of X G z6,PySem.W.mg_none_of X G z7,PySem.W.mg_none_of X G z8,PySem.W.mg_none_of X G z9,PySem.W.mg_none_of X G z10,PySem.W.mg_none_of X G z11,PySem.W.mg_none_of X G z12,PySem.W.mg_none_of X G z13,PySem.W.mg_none_of X G z14,PySem.W.mg_of X G u_EarlyError,PySem.W.mg_of X G u_NoTrial,PySem.W.mg_of X G u_NoRule,PySem.W.mg_of X G u_NoBounds,PySem.W.mg_of X G u_NoLook,PySem.W.mg_of X G u_NoPaper,PySem.W.mg_of X G u_NoLines,PySem.W.mg_of X G u_NoOrder,PySem.W.mg_of X G u_NoBack,PySem.W.mg_of X G u_NoRow,PySem.W.mg_of X G u_NoFraction,PySem.W.mg_of X G u_FIGURES,PySem.W.mg_of X G u_MOST_FIGURES,PySem.W.mg_of X G u_LEAST_NAMES,PySem.W.mg_of X G u_MOST_NAMES,PySem.W.mg_of X G u_ENTRY_WORD,PySem.W.mg_of X G u_SAYS_WORD,PySem.W.mg_of X G u_PAPER_WORD,PySem.W.mg_of X G u_PRICE_WORD,PySem.W.mg_of X G u_WORTH_WORD,x_NoFraction,⟨ga_NoFraction,gt_NoFraction,su_NoFraction,(by rw [cl_NoFraction]; rfl),kc_NoFraction,kg_NoFraction,kt_NoFraction,ob_NoFraction⟩,⟨ty_NoFraction,(by rw [cm_NoFraction]; rfl),sb_NoFraction⟩,⟨ty_EarlyError,(by rw [cm_EarlyError]; rfl),sb_EarlyError⟩,y0,t0,t1,t2,t3,y1,y4,y5,y2,y3⟩
  have F0:=fun_mk (st:=s_NoLines___init__) l0 c0 k0
  have b0:=F0.binds (ps:=["self", "line"]) fun _ _ _ _ _ _ us hl=>by obtain ⟨_,_,rfl⟩:=len2 (show us.length=2 from hl); rfl
  have G_NoLines___init__:∀ base:Heap,FnI l.prog w K mg base 1 c.NoLines ["self", "line"] (sp_iniN c.NoLines "line"):=fun base=>⟨_,_,ok_NoLines___init__ F0 T,⟨(setAll.shape T.st_NoLines),(by rw [← hcl]; exact a0),fn0,(by rw [← hcl]; exact kp0)⟩,b0⟩
  have F1:=fun_mk (st:=s_is_whole) l1 c1 k1
  have b1:=F1.binds (ps:=["thing"]) fun _ _ _ _ _ _ us hl=>by obtain ⟨_,rfl⟩:=len1 hl; rfl
  have G_is_whole:=fun base=>fnc l w X G base a1 k1 b1 (ok_is_whole F1 T)
  have F2:=fun_mk (st:=s_common_divisor) l2 c2 k2
  have b2:=F2.binds (ps:=["number", "above_nought"]) fun _ _ _ _ _ _ us hl=>by obtain ⟨_,_,rfl⟩:=len2 hl; rfl
  have G_common_divisor:=fun base=>fnc l w X G base a2 k2 b2 (ok_common_divisor F2 T)
  have F3:=fun_mk (st:=s_are_figures) l3 c3 k3
  have b3:=F3.binds (ps:=["text"]) fun _ _ _ _ _ _ us hl=>by obtain ⟨_,rfl⟩:=len1 hl; rfl
  have G_are_figures:=fun base=>fnc l w X G base a3 k3 b3 (ok_are_figures F3 T)
  have F4:=fun_mk (st:=s_read_whole) l4 c4 k4
  have b4:=F4.binds (ps:=["text"]) fun _ _ _ _ _ _ us hl=>by obtain ⟨_,rfl⟩:=len1 hl; rfl
  have G_read_whole:=fun base=>fnc l w X G base a4 k4 b4 (ok_read_whole F4 T (G_are_figures base))
  have F5:=fun_mk (st:=s_is_fraction) l5 c5 k5
  have b5:=F5.binds (ps:=["thing"]) fun _ _ _ _ _ _ us hl=>by obtain ⟨_,rfl⟩:=len1 hl; rfl
  have G_is_fraction:=fun base=>fnc l w X G base a5 k5 b5 (ok_is_fraction F5 T (G_is_whole base) (G_common_divisor base))
  have F6:=fun_mk (st:=s_read_fraction) l6 c6 k6
  have b6:=F6.binds (ps:=["text"]) fun _ _ _ _ _ _ us hl=>by obtain ⟨_,rfl⟩:=len1 hl; rfl
  have G_read_fraction:∀ base:Heap,FnC (CX1 l.prog w) l.prog w K mg base 3 "read_fraction" ["text"] (sp_readf c.NoFraction):=fun base=>⟨_,_,ok_read_fraction F6 T (G_read_whole base) (G_is_fraction base),PySem.W.mg_of X G a6,k6,b6⟩
  have F7:=fun_mk (st:=s_read_counts) l7 c7 k7
  have b7:=F7.binds (ps:=["words", "many"]) fun _ _ _ _ _ _ us hl=>by obtain ⟨_,_,rfl⟩:=len2 hl; rfl
  have G_read_counts:=fun base=>fnc l w X G base a7 k7 b7 (ok_read_counts F7 T (G_read_whole base))
  have F8:=fun_mk (st:=s_read_fractions) l8 c8 k8
  have b8:=F8.binds (ps:=["words", "many"]) fun _ _ _ _ _ _ us hl=>by obtain ⟨_,_,rfl⟩:=len2 hl; rfl
  have G_read_fractions:=fun base=>fnc l w X G base a8 k8 b8 (ok_read_fractions F8 T (G_read_fraction base))
  have F9:=fun_mk (st:=s_read_head) l9 c9 k9
  have b9:=F9.binds (ps:=["lines", "words"]) fun _ _ _ _ _ _ us hl=>by obtain ⟨_,_,rfl⟩:=len2 hl; rfl
  have G_read_head:∀ base:Heap,FnC (CX1 l.prog w) l.prog w K mg base 4 "read_head" ["lines", "words"] (sp_rdhP c.NoLines):=fun base=>⟨_,_,ok_read_head F9 T (G_NoLines___init__ base) (G_read_counts base),PySem.W.mg_of X G a9,k9,b9⟩
  have F10:=fun_mk (st:=s_read_entry) l10 c10 k10
  have b10:=F10.binds (ps:=["words", "sizes"]) fun _ _ _ _ _ _ us hl=>by obtain ⟨_,_,rfl⟩:=len2 hl; rfl
  have G_read_entry:=fun base=>fnc l w X G base a10 k10 b10 (ok_read_entry F10 T (G_read_counts base) (G_read_fractions base))
  have F11:=fun_mk (st:=s_entries_behind) l11 c11 k11
  have b11:=F11.binds (ps:=["lines", "line", "sizes"]) fun _ _ _ _ _ _ us hl=>by obtain ⟨_,_,_,rfl⟩:=len3 hl; rfl
  have G_entries_behind:=fun base=>fnc l w X G base a11 k11 b11 (ok_entries_behind F11 T (G_read_entry base))
  have F12:=fun_mk (st:=s_has_rule) l12 c12 k12
  have b12:=F12.binds (ps:=["lines"]) fun _ _ _ _ _ _ us hl=>by obtain ⟨_,rfl⟩:=len1 hl; rfl
  have G_has_rule:=fun base=>fnc l w X G base a12 k12 b12 (ok_has_rule F12 T)
  have F13:=fun_mk (st:=s_read_prices) l13 c13 k13
  have b13:=F13.binds (ps:=["words", "sizes"]) fun _ _ _ _ _ _ us hl=>by obtain ⟨_,_,rfl⟩:=len2 hl; rfl
  have G_read_prices:=fun base=>fnc l w X G base a13 k13 b13 (ok_read_prices F13 T (G_read_fractions base))
  have F14:=fun_mk (st:=s_read_worth) l14 c14 k14
  have b14:=F14.binds (ps:=["words", "sizes"]) fun _ _ _ _ _ _ us hl=>by obtain ⟨_,_,rfl⟩:=len2 hl; rfl
  have G_read_worth:=fun base=>fnc l w X G base a14 k14 b14 (ok_read_worth F14 T (G_read_counts base) (G_read_fractions base))
  have F15:=fun_mk (st:=s_read_rest) l15 c15 k15
  have b15:=F15.binds (ps:=["lines", "line", "sizes"]) fun _ _ _ _ _ _ us hl=>by obtain ⟨_,_,_,rfl⟩:=len3 hl; rfl
  have G_read_rest:∀ base:Heap,FnC (CX1 l.prog w) l.prog w K mg base 6 "read_rest" ["lines", "line", "sizes"] (sp_rest c.NoLines):=fun base=>⟨_,_,ok_read_rest F15 T (G_NoLines___init__ base) (G_read_prices base) (G_read_worth base),PySem.W.mg_of X G a15,k15,b15⟩
  have F16:=fun_mk (st:=s_read_paper) l16 c16 k16
  have b16:=F16.binds (ps:=["lines"]) fun _ _ _ _ _ _ us hl=>by obtain ⟨_,rfl⟩:=len1 hl; rfl
  have G_read_paper:∀ base:Heap,FnC (CX1 l.prog w) l.prog w K mg base 7 "read_paper" ["lines"] (sp_pap c.NoLines):=fun base=>⟨_,_,ok_read_paper F16 T (G_has_rule base) (G_read_head base) (G_entries_behind base) (G_read_rest base),PySem.W.mg_of X G a16,k16,b16⟩
  have F17:=fun_mk (st:=s__law_feed) l17 c17 k17
  have b17:=F17.binds (ps:=["_law_script"]) fun _ _ _ _ _ _ us hl=>by obtain ⟨_,rfl⟩:=len1 hl; rfl
  have G__law_feed:=fun base=>fnc l w X G base a17 k17 b17 (ok__law_feed F17 T)
  have F18:=fun_mk (st:=s__law_draw) l18 c18 k18
  have b18:=F18.binds (ps:=["_law_feed_here", "_law_many"]) fun _ _ _ _ _ _ us hl=>by obtain ⟨_,_,rfl⟩:=len2 hl; rfl
  have G__law_draw:=fun base=>fnc l w X G base a18 k18 b18 (ok__law_draw F18 T)
  have F19:=fun_mk (st:=s__law_frac) l19 c19 k19
  have b19:=F19.binds (ps:=["_law_n", "_law_d"]) fun _ _ _ _ _ _ us hl=>by obtain ⟨_,_,rfl⟩:=len2 hl; rfl
  have G__law_frac:=fun base=>fnc l w X G base a19 k19 b19 (ok__law_frac F19 T)
  have F20:=fun_mk (st:=s__law_shown) l20 c20 k20
  have b20:=F20.binds (ps:=["_law_one"]) fun _ _ _ _ _ _ us hl=>by obtain ⟨_,rfl⟩:=len1 hl; rfl
  have G__law_shown:=fun base=>fnc l w X G base a20 k20 b20 (ok__law_shown F20 T)
  have F21:=fun_mk (st:=s__law_whole) l21 c21 k21
  have b21:=F21.binds (ps:=["_law_word"]) fun _ _ _ _ _ _ us hl=>by obtain ⟨_,rfl⟩:=len1 hl; rfl
  have G__law_whole:=fun base=>fnc l w X G base a21 k21 b21 (ok__law_whole F21 T)
  have F22:=fun_mk (st:=s__law_read) l22 c22 k22
  have b22:=F22.binds (ps:=["_law_word"]) fun _ _ _ _ _ _ us hl=>by obtain ⟨_,rfl⟩:=len1 hl; rfl
  have G__law_read:=fun base=>fnc l w X G base a22 k22 b22 (ok__law_read F22 T (G__law_whole base) (G__law_frac base))
  have F23:=fun_mk (st:=s__law_line) l23 c23 k23
  have b23:=F23.binds (ps:=["_law_words", "_law_first", "_law_faces", "_law_behind_word", "_law_many"]) fun _ _ _ _ _ _ us hl=>by obtain ⟨_,_,_,_,_,rfl⟩:=len5 hl; rfl
  have G__law_line:=fun base=>fnc l w X G base a23 k23 b23 (ok__law_line F23 T (G__law_whole base) (G__law_read base))
  have F24:=fun_mk (st:=s__law_due) l24 c24 k24
  have b24:=F24.binds (ps:=["_law_lines_here"]) fun _ _ _ _ _ _ us hl=>by obtain ⟨_,rfl⟩:=len1 hl; rfl
  have G__law_due:=fun base=>fnc l w X G base a24 k24 b24 (ok__law_due F24 T (G__law_line base))
  have F25:=fun_mk (st:=s__law_told) l25 c25 k25
  have b25:=F25.binds (ps:=["_law_lines_here"]) fun _ _ _ _ _ _ us hl=>by obtain ⟨_,rfl⟩:=len1 hl; rfl
  have G__law_told:=fun base=>fnc l w X G base a25 k25 b25 (ok__law_told F25 T (G_read_paper base))
  have F26:=fun_mk (st:=s__law_any_fraction) l26 c26 k26
  have b26:=F26.binds (ps:=["_law_feed_here"]) fun _ _ _ _ _ _ us hl=>by obtain ⟨_,rfl⟩:=len1 hl; rfl
  have G__law_any_fraction:=fun base=>fnc l w X G base a26 k26 b26 (ok__law_any_fraction F26 T (G__law_draw base) (G__law_frac base))
  have F27:=fun_mk (st:=s__law_any_paper) l27 c27 k27
  have b27:=F27.binds (ps:=["_law_feed_here"]) fun _ _ _ _ _ _ us hl=>by obtain ⟨_,rfl⟩:=len1 hl; rfl
  have G__law_any_paper:=fun base=>fnc l w X G base a27 k27 b27 (ok__law_any_paper F27 T (G__law_draw base) (G__law_any_fraction base))
  have F28:=fun_mk (st:=s__law_lines) l28 c28 k28
  have b28:=F28.binds (ps:=["_law_paper"]) fun _ _ _ _ _ _ us hl=>by obtain ⟨_,rfl⟩:=len1 hl; rfl
  have G__law_lines:=fun base=>fnc l w X G base a28 k28 b28 (ok__law_lines F28 T (G__law_shown base))
  have F29:=fun_mk (st:=s__law_bent) l29 c29 k29
  have b29:=F29.binds (ps:=["_law_feed_here", "_law_lines_here"]) fun _ _ _ _ _ _ us hl=>by obtain ⟨_,_,rfl⟩:=len2 hl; rfl
  have G__law_bent:=fun base=>fnc l w X G base a29 k29 b29 (ok__law_bent F29 T (G__law_draw base))
  have F30:=fun_mk (st:=s_law) l30 c30 k30
  exact ⟨_,fun s v=>.of_eq rfl,fun base _ _=>ok_law F30 T (G__law_feed base) (G__law_any_paper base) (G__law_lines base) (G__law_bent base) (G__law_told base) (G__law_due base)⟩
end Kw
namespace PySem.W.Fast
def tw6342711463774926336 := ()
def tw427653365039567852 := ()
def tw13964097417612049041 := ()
def tw2350816142414016045 := ()
def tw3248350560997550319 := ()
def tw17532523981194608389 := ()
def tw8236234791674550821 := ()
def tw18257813507016761113 := ()
def tw7836477487608755569 := ()
def tw15026051643088000769 := ()
def tw16027351461959769965 := ()
def tw17299491428588751711 := ()
def tw12326645907393434504 := ()
def tw40059225892302317 := ()
def tw18152884622290804307 := ()
def tw10340292312436737645 := ()
def tw8329516932134329155 := ()
def tw14331669035611281211 := ()
def tw7745777476347039197 := ()
def tw15991678866865140755 := ()
def tw5560530021471487239 := ()
def tw4708214270511734028 := ()
def tw18052666606224986148 := ()
def tw13126619052276967914 := ()
def tw5356894974166212599 := ()
def tw10657326121020050893 := ()
def tw9064143671727198811 := ()
def tw14326605820044956169 := ()
def tw15622345216993405624 := ()
def tw12423582342097135717 := ()
end PySem.W.Fast
open PySem PySem.W PyProof.Rows
set_option maxRecDepth 100000 in
set_option maxHeartbeats 0 in
theorem PySem.Challenge.cw_earlystop_k61_lines_of_no_paper_holds : PySem.Challenge.rw_earlystop_k61_lines_of_no_paper.Holds := by
  w_on; o_law; k_head; (case hw=>w_witness2)
  k_fill
  refine L2.walk_ofK (l:=PySem.Challenge.rw_earlystop_k61_lines_of_no_paper) (n:=63) (k:=9) (x := "_law_script") (CX:=L2.CX0) (sp:=fun K=>Kw.sp_law K) rfl (by decide) rfl ⟨rfl,by decide,by decide,rfl⟩ (fun w h Y=>PySem.W.kIn_of Y) ?F (fun K H a ns hl _ hS=>Kw.sp_law_i hS hl) (fun _ _ _ _ z=>z)
  case F =>
    intro w mg fa h KX G hmg
    refine' Kw.all_mk KX G hmg ?u_EarlyError ?u_NoTrial ?u_NoRule ?u_NoBounds ?u_NoLook ?u_NoPaper ?u_NoLines ?u_NoFraction ?u_NoOrder ?u_NoBack ?u_NoRow ?u_FIGURES ?u_MOST_FIGURES ?u_LEAST_NAMES ?u_MOST_NAMES ?u_ENTRY_WORD ?u_SAYS_WORD ?u_PAPER_WORD ?u_PRICE_WORD ?u_WORTH_WORD ?x_NoFraction ?ga_NoFraction ?gt_NoFraction ?su_NoFraction ?cl_NoFraction ?kc_NoFraction ?kg_NoFraction ?kt_NoFraction ?ob_NoFraction ?ty_NoFraction ?cm_NoFraction ?sb_NoFraction ?ty_EarlyError ?cm_EarlyError ?sb_EarlyError ?y0 ?t0 ?t1 ?t2 ?t3 ?y1 ?y4 ?y5 ?y2 ?y3 ?a0 ?l0 ?c0 ?k0 ?fn0 ?kp0 ?a1 ?l1 ?c1 ?k1 ?a2 ?l2 ?c2 ?k2 ?a3 ?l3 ?c3 ?k3 ?a4 ?l4 ?c4 ?k4 ?a5 ?l5 ?c5 ?k5 ?a6 ?l6 ?c6 ?k6 ?a7 ?l7 ?c7 ?k7 ?a8 ?l8 ?c8 ?k8 ?a9 ?l9 ?c9 ?k9 ?a10 ?l10 ?c10 ?k10 ?a11 ?l11 ?c11 ?k11 ?a12 ?l12 ?c12 ?k12 ?a13 ?l13 ?c13 ?k13 ?a14 ?l14 ?c14 ?k14 ?a15 ?l15 ?c15 ?k15 ?a16 ?l16 ?c16 ?k16 ?a17 ?l17 ?c17 ?k17 ?a18 ?l18 ?c18 ?k18 ?a19 ?l19 ?c19 ?k19 ?a20 ?l20 ?c20 ?k20 ?a21 ?l21 ?c21 ?k21 ?a22 ?l22 ?c22 ?k22 ?a23 ?l23 ?c23 ?k23 ?a24 ?l24 ?c24 ?k24 ?a25 ?l25 ?c25 ?k25 ?a26 ?l26 ?c26 ?k26 ?a27 ?l27 ?c27 ?k27 ?a28 ?l28 ?c28 ?k28 ?a29 ?l29 ?c29 ?k29 ?a30 ?l30 ?c30 ?k30 ?z0 ?z1 ?z2 ?z3 ?z4 ?z5 ?z6 ?z7 ?z8 ?z9 ?z10 ?z11 ?z12 ?z13 ?z14
    (case u_EarlyError=>k_is); (case u_NoTrial=>k_is); (case u_NoRule=>k_is); (case u_NoBounds=>k_is); (case u_NoLook=>k_is); (case u_NoPaper=>k_is); (case u_NoLines=>k_is); (case u_NoFraction=>k_is); (case u_NoOrder=>k_is); (case u_NoBack=>k_is); (case u_NoRow=>k_is); (case u_FIGURES=>k_is); (case u_MOST_FIGURES=>k_is); (case u_LEAST_NAMES=>k_is); (case u_MOST_NAMES=>k_is); (case u_ENTRY_WORD=>k_is); (case u_SAYS_WORD=>k_is); (case u_PAPER_WORD=>k_is); (case u_PRICE_WORD=>k_is); (case u_WORTH_WORD=>k_is); (case x_NoFraction=>k_exc); (case ga_NoFraction=>k_is); (case gt_NoFraction=>k_is); (case su_NoFraction=>k_is); (case cl_NoFraction=>k_is); (case kc_NoFraction=>k_is); (case kg_NoFraction=>k_is); (case kt_NoFraction=>k_is); (case ob_NoFraction=>k_is); (case ty_NoFraction=>k_is); (case cm_NoFraction=>k_is); (case sb_NoFraction=>k_is); (case ty_EarlyError=>k_is); (case cm_EarlyError=>k_is); (case sb_EarlyError=>k_is); (case y0=>k_is); (case t0=>kernel_rfl); (case t1=>kernel_rfl); (case t2=>kernel_rfl); (case t3=>k_is); (case y1=>kit_is); (case y4=>kit_is); (case y5=>kit_is); (case y2=>kernel_rfl); (case y3=>k_is); (case a0=>k_is); (case l0=>k_is); (case c0=>k_is); (case k0=>k_is); (case fn0=>k_is); (case kp0=>k_is); (case a1=>k_is); (case l1=>k_is); (case c1=>k_is); (case k1=>k_is); (case a2=>k_is); (case l2=>k_is); (case c2=>k_is); (case k2=>k_is); (case a3=>k_is); (case l3=>k_is); (case c3=>k_is); (case k3=>k_is); (case a4=>k_is); (case l4=>k_is); (case c4=>k_is); (case k4=>k_is); (case a5=>k_is); (case l5=>k_is); (case c5=>k_is); (case k5=>k_is); (case a6=>k_is); (case l6=>k_is); (case c6=>k_is); (case k6=>k_is); (case a7=>k_is); (case l7=>k_is); (case c7=>k_is); (case k7=>k_is); (case a8=>k_is); (case l8=>k_is); (case c8=>k_is); (case k8=>k_is); (case a9=>k_is); (case l9=>k_is); (case c9=>k_is); (case k9=>k_is); (case a10=>k_is); (case l10=>k_is); (case c10=>k_is); (case k10=>k_is); (case a11=>k_is); (case l11=>k_is); (case c11=>k_is); (case k11=>k_is); (case a12=>k_is); (case l12=>k_is); (case c12=>k_is); (case k12=>k_is); (case a13=>k_is); (case l13=>k_is); (case c13=>k_is); (case k13=>k_is); (case a14=>k_is); (case l14=>k_is); (case c14=>k_is); (case k14=>k_is); (case a15=>k_is); (case l15=>k_is); (case c15=>k_is); (case k15=>k_is); (case a16=>k_is); (case l16=>k_is); (case c16=>k_is); (case k16=>k_is); (case a17=>k_is); (case l17=>k_is); (case c17=>k_is); (case k17=>k_is); (case a18=>k_is); (case l18=>k_is); (case c18=>k_is); (case k18=>k_is); (case a19=>k_is); (case l19=>k_is); (case c19=>k_is); (case k19=>k_is); (case a20=>k_is); (case l20=>k_is); (case c20=>k_is); (case k20=>k_is); (case a21=>k_is); (case l21=>k_is); (case c21=>k_is); (case k21=>k_is); (case a22=>k_is); (case l22=>k_is); (case c22=>k_is); (case k22=>k_is); (case a23=>k_is); (case l23=>k_is); (case c23=>k_is); (case k23=>k_is); (case a24=>k_is); (case l24=>k_is); (case c24=>k_is); (case k24=>k_is); (case a25=>k_is); (case l25=>k_is); (case c25=>k_is); (case k25=>k_is); (case a26=>k_is); (case l26=>k_is); (case c26=>k_is); (case k26=>k_is); (case a27=>k_is); (case l27=>k_is); (case c27=>k_is); (case k27=>k_is); (case a28=>k_is); (case l28=>k_is); (case c28=>k_is); (case k28=>k_is); (case a29=>k_is); (case l29=>k_is); (case c29=>k_is); (case k29=>k_is); (case a30=>k_is); (case l30=>k_is); (case c30=>k_is); (case k30=>k_is); (case z0=>k_is); (case z1=>k_is); (case z2=>k_is); (case z3=>k_is); (case z4=>k_is); (case z5=>k_is); (case z6=>k_is); (case z7=>k_is); (case z8=>k_is); (case z9=>k_is); (case z10=>k_is); (case z11=>k_is); (case z12=>k_is); (case z13=>k_is); (case z14=>k_is)
