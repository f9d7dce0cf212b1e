import PyProof.Rows.All
import Wide.All
import OpenK.AllK
import Wide.FinOn
import Lean
import PyProof.EqAt
import PyProof.EqKinds
import PyProof.TupleCall
import KE.IntBitsLaws
import PyProof.ZipIter
import PyProof.ListMulRoad
import PyProof.AutoListH
import PyProof.Rows.SeqMore
import PyProof.Rows.SumAny
import PyProof.SliceStr2
import PyProof.WalksMore
import KE.KSortTup
import PyProof.AttrMissHeap
import PyProof.TupleIter
import KE.KDictOf
import PyProof.DictWalks
import PyProof.DictValues
import KE.KDictList
import PyProof.Rows.MinMaxN
import PyProof.Rows.TupDisplay
import PyProof.DictTruth
import PyProof.Rows.SortRev
import PyProof.Rows.CallKwBuiltin
import PyProof.EnumMake
import PyProof.Rows.StrJoin2
import PyProof.StrBlockG
import PyProof.Rows.Digits
import PyProof.Rows.StrOr
import PyProof.StrCalls2
import PyProof.StrBlock2
import KE.KIntText
import KE.KRevIter
import KE.LcSums
import PyProof.StationsW
import PyProof.Rows.CatchBare
import OpenK.KRaise
import KE.KIsAll
import OpenK.KOwn
import PyProof.ExcInit
import KE.KLam
import PyProof.ListRange
import PySem.Challenge.RW_earlystop_k27_turned
set_option Elab.async false
set_option linter.all false
set_option maxRecDepth 100000
namespace L2
open PySem PySem.Spec PyProof.Rows
abbrev Key:=Sum Int Str
def keyIs:Key→Value→Bool
  | .inl k,v=>Value.isInt k v
  | .inr x,v=>Value.isStrOf x v
def keyH (w:World):Key→Int
  | .inl k=>hashInt k
  | .inr x=>hashStr w x
theorem keyIs_shape:∀ {k:Key} {v:Value},keyIs k v=true→(∃ i t,k=Sum.inl i∧v=Value.int i t)∨(∃ x t,k=Sum.inr x∧v=Value.str x t)
  | .inl i,v,h=>by
    obtain ⟨t,e⟩:=Value.isInt_shape (k:=i) (v:=v) h
    exact .inl ⟨i,t,rfl,e⟩
  | .inr x,v,h=>by
    obtain ⟨t,e⟩:=Value.isStrOf_shape (x:=x) (v:=v) h
    exact .inr ⟨x,t,rfl,e⟩
theorem keyIs_int (i:Int) (t:Tok):keyIs (.inl i) (.int i t)=true:=by simp [keyIs,Value.isInt]
theorem keyIs_str (x:Str) (t:Tok):keyIs (.inr x) (.str x t)=true:=by simp [keyIs,Value.isStrOf]
theorem key_ll (a b:Int):decide ((Sum.inl a:Key)=Sum.inl b)=(a == b):=by
  by_cases e:a=b
  · subst e; simp
  · have h:¬ (Sum.inl a:Key)=Sum.inl b:=fun q=>e (Sum.inl.inj q)
    rw [decide_eq_false h]
    exact (beq_eq_false_iff_ne.mpr e).symm
theorem key_rr (a b:Str):decide ((Sum.inr a:Key)=Sum.inr b)=decide (a=b):=by
  by_cases e:a=b
  · subst e; simp
  · have h:¬ (Sum.inr a:Key)=Sum.inr b:=fun q=>e (Sum.inr.inj q)
    rw [decide_eq_false h,decide_eq_false e]
theorem key_lr (a:Int) (b:Str):decide ((Sum.inl a:Key)=Sum.inr b)=false:=decide_eq_false (fun q=>nomatch q)
theorem key_rl (a:Str) (b:Int):decide ((Sum.inr a:Key)=Sum.inl b)=false:=decide_eq_false (fun q=>nomatch q)
def mixKind (prog:Program) (w:World):PySem.KeyKind prog w Key where
  is:=keyIs
  hash:=keyH w
  inj:=fun v a b ha hb=>by
    rcases keyIs_shape ha with ⟨i,t,rfl,rfl⟩ | ⟨x,t,rfl,rfl⟩
    · rcases keyIs_shape hb with ⟨j,u,rfl,e⟩ | ⟨y,u,rfl,e⟩
      · injection e with e1 _; rw [e1]
      · exact nomatch e
    · rcases keyIs_shape hb with ⟨j,u,rfl,e⟩ | ⟨y,u,rfl,e⟩
      · exact nomatch e
      · injection e with e1 _; rw [e1]
  byValue:=fun k v h=>by
    rcases keyIs_shape h with ⟨i,t,rfl,rfl⟩ | ⟨x,t,rfl,rfl⟩ <;> rfl
  pyHash:=fun hv h=>by
    rcases keyIs_shape hv with ⟨i,t,rfl,rfl⟩ | ⟨x,t,rfl,rfl⟩
    · exact wpAny_pyHash_int h
    · exact wpAny_pyHash_str h
  eqBool:=fun hu hv h=>by
    rcases keyIs_shape hu with ⟨i,t,rfl,rfl⟩ | ⟨x,t,rfl,rfl⟩
    · rcases keyIs_shape hv with ⟨j,u,rfl,rfl⟩ | ⟨y,u,rfl,rfl⟩
      · rw [key_ll] at h; exact wpAny_eqBool_int h
      · rw [key_lr] at h; exact SeqAt.EqAt.int_str i t y u _ _ _ _ h
    · rcases keyIs_shape hv with ⟨j,u,rfl,rfl⟩ | ⟨y,u,rfl,rfl⟩
      · rw [key_rl] at h; exact SeqAt.EqAt.str_int x t j u _ _ _ _ h
      · rw [key_rr] at h; exact wpAny_eqBool_str h
  «strs» := fun k x t v h=>by
    rcases keyIs_shape h with ⟨i,u,rfl,e⟩ | ⟨y,u,rfl,e⟩
    · exact nomatch e
    · injection e with e1 _
      subst e1
      cases v <;> rfl
theorem mixKind_int (prog:Program) (w:World) (i:Int) (t:Tok):(mixKind prog w).is (.inl i) (.int i t)=true:=keyIs_int i t
theorem mixKind_str (prog:Program) (w:World) (x:Str) (t:Tok):(mixKind prog w).is (.inr x) (.str x t)=true:=keyIs_str x t
end L2
namespace L2
open PySem PySem.Spec PyProof.Rows
inductive V where
  | non | bl (b:Bool) | int (i:Int) | str (x:Str) | byt (b:Array UInt8) | flt (b:UInt64) | ref (a:Addr) | ty (n:String)
  deriving DecidableEq
def RelV:V→Value→Prop
  | .non,u=>u=Value.none
  | .bl b,u=>u=Value.bool b
  | .int i,u=>∃ t,u=Value.int i t
  | .str x,u=>∃ t,u=Value.str x t
  | .byt b,u=>∃ t,u=Value.bytes b t
  | .flt b,u=>∃ t,u=Value.float b t
  | .ref a,u=>u=Value.ref a
  | .ty n,u=>u=Value.type n
abbrev Vals:List V→List Value→Prop:=Paired RelV
theorem Vals.length {xs:List V} {us:List Value} (r:Vals xs us):xs.length=us.length:=Paired.length r
theorem Vals.get:∀ {xs:List V} {us:List Value} {i:Nat} {x:V},Vals xs us→xs[i]?=some x→∃ u,us[i]?=some u∧RelV x u
  | _,_,_,_,.nil,e=>by simp at e
  | _,_,0,_,.cons r _,e=>by simp at e; subst e; exact ⟨_,rfl,r⟩
  | _,_,i+1,x,.cons _ t,e=>by
    obtain ⟨u,h1,h2⟩:=Vals.get (i:=i) (x:=x) t (by simpa using e)
    exact ⟨u,by simpa using h1,h2⟩
theorem Vals.set {x:V} {u:Value} (r:RelV x u):∀ {xs:List V} {us:List Value} (i:Nat),Vals xs us→Vals (xs.set i x) (us.set i u)
  | _,_,_,.nil=>.nil
  | _,_,0,.cons _ t=>.cons r t
  | _,_,i+1,.cons q t=>.cons q (Vals.set r i t)
theorem Vals.append:∀ {xs ys:List V} {us ws:List Value},Vals xs us→Vals ys ws→Vals (xs++ys) (us++ws)
  | _,_,_,_,.nil,s=>s
  | _,_,_,_,.cons r t,s=>.cons r (Vals.append t s)
theorem Vals.take:∀ {xs:List V} {us:List Value} (n:Nat),Vals xs us→Vals (xs.take n) (us.take n)
  | _,_,0,_=>.nil
  | _,_,_+1,.nil=>.nil
  | _,_,n+1,.cons r t=>.cons r (Vals.take n t)
theorem Vals.drop:∀ {xs:List V} {us:List Value} (n:Nat),Vals xs us→Vals (xs.drop n) (us.drop n)
  | _,_,0,r=>r
  | _,_,_+1,.nil=>.nil
  | _,_,n+1,.cons _ t=>Vals.drop n t
def RelO:Option V→Option Value→Prop
  | some v,some u=>RelV v u
  | none,none=>True
  | _,_=>False
def KV {κ:Type}:List (κ × V)→List (κ × Value)→Prop:=Paired fun (p:κ × V) (q:κ × Value)=>p.1=q.1∧RelV p.2 q.2
def kV:Key→V
  | .inl i=>.int i
  | .inr x=>.str x
inductive HO where
  /-- a list -/
  | lst (xs:List V)
  /-- a tuple (never changes) -/
  | tup (xs:List V)
  /-- a dict whose keys are ints and texts; one whose keys are tuples of ints and texts (the empty one is both) -/
  | dK (kvs:List (Key × V)) | dT (kvs:List (List Key × V))
  /-- a set of ints: its members,its size -/
  | set (S:Int→Bool) (n:Nat)
  /-- an instance of the class at C,its dict at dx,its attributes -/
  | ins (C dx:Addr) (fs:List (Str × V))
  /-- the dict of the instance at x -/
  | own (x:Addr)
  /-- the dict of an exception -/
  | xd (fs:List (Str × V))
  /-- a bound method,f of x -/
  | met (f x:Addr)
  /-- a range object lo,lo+1,.. below hi -/
  | rng (lo hi:Int)
  /-- a thing that is known to the object (the script; a dict while a loop walks it): read,never written while it is so -/
  | frz (o:Obj) (u:HO)
  /-- a code object's table -/
  | tbl (ps:Array Value)
  /-- any other thing,by what is true of its one object (a def of one's own: SetO a S n:=HO.ext fun h=>..) -/
  | ext (φ:Heap→Prop)
abbrev Hp:=Addr→Option HO
def upd (H:Hp) (a:Addr) (o:HO):Hp:=fun b=>if b=a then some o else H b
theorem upd_same {H:Hp} {a:Addr} {o:HO}:upd H a o a=some o:=by unfold upd; rw [if_pos rfl]
theorem upd_ne {H:Hp} {a b:Addr} {o:HO} (h:b≠a):upd H a o b=H b:=by unfold upd; rw [if_neg h]
theorem ne_of {H:Hp} {a b:Addr} {o u:HO} (h:H a=some o) (h':H b=some u) (d:o≠u):a≠b:=by
  intro e; subst e; rw [h] at h'; exact d (Option.some.inj h')
theorem ne_of_none {H:Hp} {a b:Addr} {o:HO} (h:H a=some o) (h':H b=none):a≠b:=by
  intro e; subst e; rw [h] at h'; cases h'
section
variable (P:Program) (w:World)
def ObjOk (H:Hp) (h:Heap) (a:Addr):HO→Prop
  | .lst xs=>xs.length≤sizeLine∧∃ (its:List Value) (n:Nat),Vals xs its∧h.get? a=some { cls:=.type "list",data:=.seq its.toArray n }
  | .tup xs=>(xs.length≤sizeLine∧∃ o,h.get? a=some o∧o.dict=none)∧∃ its:List Value,Vals xs its∧IsTup h a its.toArray
  | .dK kvs=>kvs.length≤sizeLine∧(a == sysModules)=false∧∃ vs,KV kvs vs∧h.DictOf (mixKind P w) a vs
  | .dT kvs=>kvs.length≤sizeLine∧(a == sysModules)=false∧∃ xs:List (List Key × Addr × Value),
      Paired (fun (p:List Key × V) (q:List Key × Addr × Value)=>p.1=q.1∧H q.2.1=some (.tup (p.1.map kV))∧RelV p.2 q.2.2) kvs xs ∧
      ∃ o es ep,h.get? a=some o∧o.ExactDict∧o.data=.dict es ep∧es.toList=xs.map (entryOfKey (tupleKind (mixKind P w)))∧(xs.map (·.1)).Nodup
  | .set S n=>h.SetOf (intKind P w) a S n
  | .ins C dx fs=>H dx=some (.own a)∧fs.length≤1000∧dx≠a∧h.get? a=some (PySem.W.instObj C dx) ∧
      ∃ mA,h.Ns1 dx mA∧(∀ f,RelO (fs.lookup f) (mA f))∧PySem.Within mA (fs.map (·.1))
  | .own _=>∃ o,h.get? a=some o
  | .xd fs=>∃ mA,h.Ns1 a mA∧∀ f,RelO (fs.lookup f) (mA f)
  | .rng lo hi=>∃ t u v,h.get? a=some { cls:=.type "range",data:=.fields #[.int lo t,.int hi u,.int 1 v] }
  | .frz o u=>h.get? a=some o∧ObjOk H h a u
  | .tbl ps=>h.get? a=some { cls:=.none,data:=.fields ps }
  | .met f x=>h.get? a=some (PySem.W.methodObj (.ref f) (.ref x))
  | .ext φ=>φ h∧(∃ o,h.get? a=some o)∧∀ h1 h2:Heap,φ h1→(∀ o,h1.get? a=some o→h2.get? a=some o)→φ h2
def HOk (H:Hp) (h:Heap):Prop:=∀ a o,H a=some o→ObjOk P w H h a o
end
section
variable {P:Program} {w:World} {H H':Hp} {h h':Heap} {a:Addr} {o:HO}
theorem ObjOk.lt (x:ObjOk P w H h a o):a<h.objs.size:=by
  cases o with
  | lst xs=>obtain ⟨_,_,_,_,e⟩:=x; exact Heap.lt_size e
  | tup xs=>obtain ⟨_,_,_,p⟩:=x; exact p.lt
  | dK kvs=>obtain ⟨_,_,_,_,o,_,_,e,_⟩:=x; exact Heap.lt_size e
  | dT kvs=>obtain ⟨_,_,_,_,o,_,_,e,_⟩:=x; exact Heap.lt_size e
  | set S n=>obtain ⟨o,_,_,_,e,_⟩:=x; exact Heap.lt_size e
  | ins C dx fs=>obtain ⟨_,_,_,e,_⟩:=x; exact Heap.lt_size e
  | own y=>obtain ⟨_,e⟩:=x; exact Heap.lt_size e
  | xd fs=>obtain ⟨_,⟨_,_,_,e,_⟩,_⟩:=x; exact Heap.lt_size e
  | rng lo hi=>obtain ⟨_,_,_,e⟩:=x; exact Heap.lt_size e
  | frz ob u=>obtain ⟨e,_⟩:=x; exact Heap.lt_size e
  | tbl ps=>exact Heap.lt_size (show h.get? a=some _ from x)
  | met f y=>exact Heap.lt_size (show h.get? a=some _ from x)
  | ext φ=>obtain ⟨_,⟨_,e⟩,_⟩:=x; exact Heap.lt_size e
theorem Paired.mapP {α β:Type} {F G:α→β→Prop}:∀ {l₁:List α} {l₂:List β},Paired F l₁ l₂→(∀ a b,F a b→G a b)→Paired G l₁ l₂
  | _,_,.nil,_=>.nil
  | _,_,.cons r t,f=>.cons (f _ _ r) (Paired.mapP t f)
theorem ObjOk.stay (x:ObjOk P w H h a o) (k:∀ b u,(b=a∨H b=some (.own a))→h.get? b=some u→h'.get? b=some u)
    (ho:∀ b,H b=some (.own a)→H' b=some (.own a)) (ht:∀ b xs,H b=some (.tup xs)→H' b=some (.tup xs)):ObjOk P w H' h' a o:=by
  induction o with
  | lst xs=>obtain ⟨z,its,n,r,e⟩:=x; exact ⟨z,its,n,r,k _ _ (.inl rfl) e⟩
  | tup xs=>obtain ⟨⟨z,on,en,dn⟩,its,r,ob,e,c⟩:=x; exact ⟨⟨z,on,k _ _ (.inl rfl) en,dn⟩,its,r,ob,k _ _ (.inl rfl) e,c⟩
  | dK kvs=>obtain ⟨z,y,vs,r,ob,es,ep,e,c⟩:=x; exact ⟨z,y,vs,r,ob,es,ep,k _ _ (.inl rfl) e,c⟩
  | dT kvs =>
    obtain ⟨z,y,xs,r,ob,es,ep,e,c⟩:=x
    exact ⟨z,y,xs,Paired.mapP r fun p q z=>⟨z.1,ht _ _ z.2.1,z.2.2⟩,ob,es,ep,k _ _ (.inl rfl) e,c⟩
  | set S n=>obtain ⟨ob,es,ep,t,e,c⟩:=x; exact ⟨ob,es,ep,t,k _ _ (.inl rfl) e,c⟩
  | ins C dx fs =>
    obtain ⟨d,z,ne,e,mA,⟨od,es,ep,e2,c⟩,r⟩:=x
    exact ⟨ho _ d,z,ne,k _ _ (.inl rfl) e,mA,⟨od,es,ep,k _ _ (.inr d) e2,c⟩,r⟩
  | own y=>obtain ⟨ob,e⟩:=x; exact ⟨ob,k _ _ (.inl rfl) e⟩
  | xd fs=>obtain ⟨mA,⟨od,es,ep,e,c⟩,r⟩:=x; exact ⟨mA,⟨od,es,ep,k _ _ (.inl rfl) e,c⟩,r⟩
  | rng lo hi=>obtain ⟨t,u,v,e⟩:=x; exact ⟨t,u,v,k _ _ (.inl rfl) e⟩
  | frz ob u ih=>obtain ⟨e,q⟩:=x; exact ⟨k _ _ (.inl rfl) e,ih q⟩
  | tbl ps =>
    have e:h.get? a=some { cls:=.none,data:=.fields ps }:=x
    show h'.get? a=some { cls:=.none,data:=.fields ps }
    exact k a _ (.inl rfl) e
  | met f y =>
    have e:h.get? a=some (PySem.W.methodObj (.ref f) (.ref y)):=x
    show h'.get? a=some (PySem.W.methodObj (.ref f) (.ref y))
    exact k a _ (.inl rfl) e
  | ext φ=>obtain ⟨p,⟨o,e⟩,st⟩:=x; exact ⟨st _ _ p fun o q=>k _ _ (.inl rfl) q,⟨o,k _ _ (.inl rfl) e⟩,st⟩
theorem HOk.lt (x:HOk P w H h) (e:H a=some o):a<h.objs.size:=(x a o e).lt
theorem HOk.fresh (x:HOk P w H h) (e:h.objs.size≤a):H a=none:=by
  cases q:H a with
  | none=>rfl
  | some u=>exact absurd (Nat.lt_of_lt_of_le (x.lt q) e) (Nat.lt_irrefl _)
theorem HOk.kept (x:HOk P w H h) (k:∀ b u,h.get? b=some u→h'.get? b=some u):HOk P w H h':=fun a o e =>
  (x a o e).stay (fun b u _ q=>k b u q) (fun _ q=>q) fun _ _ q=>q
theorem HOk.laid (x:HOk P w H h) (k:∀ b u,h.get? b=some u→h'.get? b=some u) (hp:h.objs.size≤a) (new:ObjOk P w (upd H a o) h' a o):HOk P w (upd H a o) h':=fun b u e=>by
  have hn:=x.fresh hp
  by_cases hb:b=a
  · subst hb; rw [upd_same] at e; cases e; exact new
  · rw [upd_ne hb] at e
    exact (x b u e).stay (fun c v _ q=>k c v q) (fun c q=>by rw [upd_ne (ne_of_none q hn)]; exact q) fun c xs q=>by rw [upd_ne (ne_of_none q hn)]; exact q
end
def Rd (H:Hp) (a:Addr) (u:HO):Prop:=H a=some u∨∃ o,H a=some (.frz o u)
theorem Rd.ok {P:Program} {w:World} {H:Hp} {h:Heap} {a:Addr} {u:HO} (r:Rd H a u) (x:HOk P w H h):ObjOk P w H h a u:=by
  rcases r with r | ⟨o,r⟩
  · exact x a u r
  · obtain ⟨_,q⟩:=x a _ r
    exact q
def Mut:Option HO→Prop
  | some (.lst _)=>True
  | some (.dK _)=>True
  | some (.dT _)=>True
  | some (.set _ _)=>True
  | some (.ins _ _ _)=>True
  | some (.ext _)=>True
  | _=>False
section
variable {P:Program} {w:World} {H:Hp} {h h':Heap} {x e:Addr} {o':HO}
theorem HOk.write (ok:HOk P w H h) (mu:Mut (H x)) (he:e=x∨H e=some (.own x)) (k:∀ b u,b≠e→h.get? b=some u→h'.get? b=some u) (heo:∃ u,h'.get? e=some u)
    (new:ObjOk P w (upd H x o') h' x o'):HOk P w (upd H x o') h':=fun b u q=>by
  have nown:∀ c y,H c=some (.own y)→c≠x:=fun c y r z=>by subst z; rw [r] at mu; exact mu
  have ntup:∀ c xs,H c=some (.tup xs)→c≠x:=fun c xs r z=>by subst z; rw [r] at mu; exact mu
  by_cases hb:b=x
  · subst hb; rw [upd_same] at q; cases q; exact new
  · rw [upd_ne hb] at q
    by_cases hbe:b=e
    · have q':H b=some (.own x):=by
        rcases he with z | z
        · exact absurd (hbe.trans z) hb
        · rw [hbe]; exact z
      rw [q] at q'; cases q'
      obtain ⟨v,hv⟩:=heo
      exact ⟨v,by rw [hbe]; exact hv⟩
    · refine (ok b u q).stay (fun c v hc r=>k c v ?_ r) (fun c r=>by rw [upd_ne (nown c b r)]; exact r) fun c xs r=>by rw [upd_ne (ntup c xs r)]; exact r
      rcases hc with rfl | hc
      · exact hbe
      · rintro rfl
        rcases he with z | z
        · exact nown c b hc z
        · rw [hc] at z; cases z; exact hb rfl
end
structure Un (fs ex:List Addr) (H H':Hp) (h h':Heap):Prop where
  keep:∀ b o,h.get? b=some o→H b=none→b ∉ fs→b ∉ ex→h'.get? b=some o
  slot:∀ b o,h.get? b=some o→H b=none→b∈fs→b ∉ ex→∃ sl,h'.get? b=some { o with slots:=sl }
  free:∀ b o,h.get? b=some o→H b=none→b ∉ ex→H' b=none
  there:∀ b o,h.get? b=some o→b ∉ ex→∃ o',h'.get? b=some o'
  tups:∀ b xs,H b=some (.tup xs)→H' b=some (.tup xs)
  frzs:∀ b o u,H b=some (.frz o u)→H' b=some (.frz o u)
  tbls:∀ b ps,H b=some (.tbl ps)→∃ more,H' b=some (.tbl (ps++more))
section
variable {fs fs' ex ex':List Addr} {H H1 H2:Hp} {h h1 h2 h':Heap} {a x e:Addr} {o:HO}
theorem Un.any (u:Un fs ex H H1 h h1) {b:Addr} {ob:Obj} (q:h.get? b=some ob) (n:H b=none) (hx:b ∉ ex):∃ sl,h1.get? b=some { ob with slots:=sl }:=by
  by_cases hb:b∈fs
  · exact u.slot b ob q n hb hx
  · exact ⟨ob.slots,u.keep b ob q n hb hx⟩
theorem Un.kept (k:∀ b u,h.get? b=some u→h'.get? b=some u):Un fs ex H H h h' :=
  ⟨fun b ob q _ _ _=>k b ob q,fun b ob q _ _ _=>⟨ob.slots,k b ob q⟩,fun _ _ _ n _=>n,fun b ob q _=>⟨ob,k b ob q⟩,fun _ _ q=>q,fun _ _ _ q=>q,fun _ ps q=>⟨#[],by rw [q]; simp⟩⟩
theorem Un.refl:Un fs ex H H h h:=Un.kept fun _ _ q=>q
theorem Un.laid (k:∀ b u,h.get? b=some u→h'.get? b=some u) (hp:h.objs.size≤a) (hn:H a=none):Un fs ex H (upd H a o) h h' where
  keep:=fun b u q _ _ _=>k b u q
  slot:=fun b u q _ _ _=>⟨u.slots,k b u q⟩
  free:=fun b u q n _=>by rw [upd_ne (Nat.ne_of_lt (Nat.lt_of_lt_of_le (Heap.lt_size q) hp))]; exact n
  there:=fun b u q _=>⟨u,k b u q⟩
  tups:=fun b xs q=>by rw [upd_ne (ne_of_none q hn)]; exact q
  frzs:=fun b u xs q=>by rw [upd_ne (ne_of_none q hn)]; exact q
  tbls:=fun b ps q=>⟨#[],by rw [upd_ne (ne_of_none q hn),q]; simp⟩
theorem Un.write (mu:Mut (H x)) (he:e=x∨H e=some (.own x)) (k:∀ b u,b≠e→h.get? b=some u→h'.get? b=some u) (heo:∃ u,h'.get? e=some u):Un fs ex H (upd H x o) h h':=by
  have hx:∀ b,H b=none→b≠x:=fun b n z=>by subst z; rw [n] at mu; exact mu
  have hb:∀ b,H b=none→b≠e:=fun b n z=>by
    subst z
    rcases he with r | r
    · exact hx b n r
    · rw [n] at r; cases r
  have hm:∀ b u,H b=some u→¬ Mut (some u)→b≠x:=fun b u q nm z=>by subst z; rw [q] at mu; exact nm mu
  refine ⟨fun b u q n _ _=>k b u (hb b n) q,fun b u q n _ _=>⟨u.slots,k b u (hb b n) q⟩,fun b u q n _=>by rw [upd_ne (hx b n)]; exact n,fun b u q _=>?_,
    fun b xs q=>by rw [upd_ne (hm b _ q fun z=>z)]; exact q,fun b u xs q=>by rw [upd_ne (hm b _ q fun z=>z)]; exact q,fun b ps q=>⟨#[],by rw [upd_ne (hm b _ q fun z=>z),q]; simp⟩⟩
  by_cases hbe:b=e
  · subst hbe; exact heo
  · exact ⟨u,k b u hbe q⟩
end
def trk (h:Heap) (H:Hp):List Addr:=(List.range h.objs.size).filter fun a=>(H a).isSome
def hidT (h:Heap) (H:Hp):Heap:=PySem.W.hideAll h (trk h H)
theorem hidT_size (h:Heap) (H:Hp):(hidT h H).objs.size=h.objs.size:=PySem.W.hideAll_size _ _
theorem hidT_get {h:Heap} {H:Hp} {b:Addr} {o:Obj} (e:h.get? b=some o) (n:H b=none):(hidT h H).get? b=some o :=
  PySem.W.hideAll_get _ e fun hm=>by
    have q:(H b).isSome=true:=(List.mem_filter.mp hm).2
    rw [n] at q; simp at q
theorem of_hidT {h:Heap} {H:Hp} {b:Addr} {o:Obj} (e:(hidT h H).get? b=some o):h.get? b=some o∧H b=none:=by
  have e':h.get? b=some o:=PySem.W.of_hideAll (trk h H) e
  refine ⟨e',?_⟩
  cases q:H b with
  | none=>rfl
  | some x =>
    have hm:b∈trk h H:=List.mem_filter.mpr ⟨List.mem_range.mpr (Heap.lt_size e'),by simp [q]⟩
    have z:(hidT h H).get? b=none:=PySem.W.hideAll_none (trk h H) hm
    rw [z] at e; cases e
end L2
namespace L2
open PySem PySem.Spec PyProof.Rows
structure Mod (K:PySem.W.Frag) (mg:Str→Option Value) (base:Heap):Prop where
  kin:K.In base
  glob:base.Ns mainGlobals mg
  blt:∃ mb,base.Ns builtinsNs mb∧∀ x:Str,x ≠ "__name__" → mb x=bootBuiltins x
  nolimit:base.NoLimit
/-- the context: a def's body (or a comprehension's block) running. base: fixed through the whole law; s₀,H₀: the entry; outer: the frames whose slots others may change (a def's callers); stack: all frames that run;
   ex: iterators that were made ahead of the entry and are walked here (a comprehension's); fn: the names whose cells were made at the entry (a def: all; a comprehension's block: its own); calm: not within an except suite; pn: pins that every state bears; xe: what is wanted of an exception that leaves the code -/
structure Cx where
  prog:Program
  w:World
  K:PySem.W.Frag
  mg:Str→Option Value
  base:Heap
  A:Around
  N:List Str
  s₀:Shared
  H₀:Hp
  env:Env
  outer:List Env
  stack:List Env
  ex:List Addr
  fn:Str→Bool
  calm:Bool
  pn:List (Addr × Obj)
  xe:Value→Shared→Prop
def frs (l:List Env):List Addr:=l.filterMap (·.frame)
abbrev Cx.fs (X:Cx):List Addr:=frs X.outer
def Vis (sc:Scope) (x:Str):Prop:=sc.names.lookup x=some .local∨sc.names.lookup x=some .cell∨sc.names.lookup x=some .free
def Loc (sc:Scope) (x:Str):Prop:=sc.names.lookup x=some .local∨sc.names.lookup x=some .cell
def Look (env:Env) (h:Heap) (m:Str→Option Value) (x:Str) (u:Value):Prop :=
  (env.kindOf x=some .local∧m x=some u)∨((env.kindOf x=some .cell∨env.kindOf x=some .free)∧∃ c,env.cells.lookup x=some c∧h.IsCell c (some u))
structure Cx.Ok (X:Cx):Prop where
  mod:Mod X.K X.mg X.base
  kind:X.env.scope.kind=.function
  glob:X.env.globals=mainGlobals
  blt:X.env.builtins=builtinsNs
  above:X.s₀.heap.objs.size≤X.env.locals
  inj:∀ x y c,X.env.cells.lookup x=some c→X.env.cells.lookup y=some c→x=y
  has:∀ x,(X.env.kindOf x=some .cell∨X.env.kindOf x=some .free)→∃ c,X.env.cells.lookup x=some c
  cab:∀ x c,X.fn x=true→X.env.cells.lookup x=some c→X.s₀.heap.objs.size≤c
  hd:X.calm=true→X.A.handled=none
  frames:X.A.frames=some X.stack
  stk:X.stack=X.outer∨(X.stack=X.env::X.outer∧X.env.frame=some X.env.locals)
  exf:∀ b∈X.ex,b≠X.env.locals∧∀ x c,X.env.cells.lookup x=some c→c≠b
  bs:∀ b o,X.base.get? b=some o→X.s₀.heap.get? b=some o∧X.H₀ b=none
  bsz:X.base.objs.size≤X.s₀.heap.objs.size
  noex:∀ b o,X.base.get? b=some o→b ∉ X.ex
  exfs:∀ b∈X.ex,b ∉ X.fs
  funs:X.s₀.heap.FunFrames X.base X.outer
  frf:∀ b∈X.fs,X.H₀ b=none
structure Inv (X:Cx) (pins:List (Addr × Obj)) (σ:List (Option V)) (H:Hp) (s:Shared):Prop where
  ok:X.Ok
  os:s.os=X.s₀.os
  bare:AllBare s.gens
  base:Un X.fs X.ex X.H₀ H X.s₀.heap s.heap
  loc:∃ m,s.heap.Ns X.env.locals m∧∀ (i:Nat) (x:Str) (v:V),X.N[i]?=some x→σ[i]?=some (some v)→Vis X.env.scope x→∃ u,RelV v u∧Look X.env s.heap m x u
  cell:∀ x c,X.env.cells.lookup x=some c→∃ v,s.heap.IsCell c v
  free:H X.env.locals=none
  freeC:∀ x c,X.env.cells.lookup x=some c→H c=none
  pin:∀ p∈X.pn++pins,s.heap.get? p.1=some p.2∧H p.1=none∧p.1≠X.env.locals∧p.1 ∉ X.fs∧∀ v,p.2.data ≠ .cell v
  hok:HOk X.prog X.w H s.heap
  len:σ.length=X.N.length
section
variable {X:Cx} {pins:List (Addr × Obj)} {σ:List (Option V)} {H H':Hp} {s:Shared} {h':Heap}
theorem Cx.Ok.nofr (ok:X.Ok) {b:Addr} {o:Obj} (e:X.base.get? b=some o):b ∉ X.fs:=fun hb=>by
  have:=(ok.funs.mem hb).1
  rw [e] at this; cases this
theorem Inv.bs (I:Inv X pins σ H s):∀ b o,X.base.get? b=some o→s.heap.get? b=some o∧H b=none:=fun b o e =>
  ⟨I.base.keep b o (I.ok.bs b o e).1 (I.ok.bs b o e).2 (I.ok.nofr e) (I.ok.noex b o e),I.base.free b o (I.ok.bs b o e).1 (I.ok.bs b o e).2 (I.ok.noex b o e)⟩
theorem Inv.bk (I:Inv X pins σ H s):∀ b o,X.base.get? b=some o→s.heap.get? b=some o:=fun b o e=>(I.bs b o e).1
theorem Inv.mod (I:Inv X pins σ H s):Mod X.K X.mg X.base:=I.ok.mod
theorem Inv.kIn (I:Inv X pins σ H s):X.K.In s.heap:=I.ok.mod.kin.keeps I.bk
theorem Inv.lt (I:Inv X pins σ H s):X.env.locals<s.heap.objs.size:=let ⟨_,hn,_⟩:=I.loc; hn.lt
theorem Inv.sz (I:Inv X pins σ H s):X.s₀.heap.objs.size≤s.heap.objs.size:=Nat.le_trans I.ok.above (Nat.le_of_lt I.lt)
theorem Inv.nofs (I:Inv X pins σ H s) {a:Addr} (h:s.heap.objs.size≤a):a ∉ X.fs:=fun hb=>by
  obtain ⟨_,o,ho,_⟩:=I.ok.funs.mem hb
  exact absurd (Nat.lt_of_lt_of_le (Heap.lt_size ho) (Nat.le_trans I.sz h)) (Nat.lt_irrefl _)
theorem Inv.cne (I:Inv X pins σ H s):∀ x c,X.env.cells.lookup x=some c→c≠X.env.locals:=fun x c e z=>by
  obtain ⟨v,o,ho,hd⟩:=I.cell x c e
  obtain ⟨m,⟨o',es,ep,ho',hd',_⟩,_⟩:=I.loc
  rw [z,ho'] at ho; cases ho; rw [hd'] at hd; cases hd
theorem Inv.funs (I:Inv X pins σ H s):s.heap.FunFrames X.base X.outer:=by
  have all:∀ (l:List Env),(∀ b∈frs l,b∈X.fs)→X.s₀.heap.FunFrames X.base l→s.heap.FunFrames X.base l:=by
    intro l
    induction l with
    | nil=>intro _ _; trivial
    | cons env r ih =>
      intro hs hl
      obtain ⟨hk,⟨L,o,hf,hn,ho,hd⟩,hr⟩:=hl
      have hL:L∈X.fs:=hs L (by unfold frs; rw [List.filterMap_cons,hf]; exact List.mem_cons_self)
      obtain ⟨sl,e⟩:=I.base.slot L o ho (I.ok.frf L hL) hL fun z=>I.ok.exfs L z hL
      exact ⟨hk,⟨L,_,hf,hn,e,hd⟩,ih (fun b hb=>hs b (by unfold frs; rw [List.filterMap_cons,hf]; exact List.mem_cons_of_mem _ hb)) hr⟩
  exact all X.outer (fun _ hb=>hb) I.ok.funs
theorem Inv.stack (I:Inv X pins σ H s):s.heap.FunFrames X.base X.stack:=by
  rcases I.ok.stk with e | ⟨e,hf⟩
  · rw [e]; exact I.funs
  · rw [e]
    obtain ⟨m,hn,_⟩:=I.loc
    refine .cons (by rw [I.ok.kind]; decide) hf hn ?_ I.funs
    exact Heap.get?_none_of_le (Nat.le_trans I.ok.bsz I.ok.above)
theorem Inv.stkSub (I:Inv X pins σ H s):∀ b∈frs X.stack,b∈X.env.locals::X.fs:=fun b hb=>by
  rcases I.ok.stk with e | ⟨e,hf⟩
  · rw [e] at hb; exact List.mem_cons_of_mem _ hb
  · rw [e] at hb
    unfold frs at hb
    rw [List.filterMap_cons,hf] at hb
    exact hb
theorem Inv.stkFree (I:Inv X pins σ H s):∀ b∈frs X.stack,H b=none:=fun b hb=>by
  rcases List.mem_cons.mp (I.stkSub b hb) with e | hb
  · rw [e]; exact I.free
  · obtain ⟨_,o,ho,_⟩:=I.ok.funs.mem hb
    exact I.base.free b o ho (I.ok.frf b hb) fun z=>I.ok.exfs b z hb
theorem Inv.step {g':Array GenState} {t':Nat} {d':Drawn} {ch:List Addr} (I:Inv X pins σ H s)
    (hch:∀ b∈ch,(b∈X.ex∨X.s₀.heap.objs.size≤b)∧b≠X.env.locals∧(∀ x c,X.env.cells.lookup x=some c→c≠b)∧∀ p∈X.pn++pins,p.1≠b)
    (keep:∀ b o,b≠X.env.locals→b ∉ X.fs→b ∉ ch→s.heap.get? b=some o→H b=none→h'.get? b=some o)
    (slot:∀ b o,b≠X.env.locals→b∈X.fs→b ∉ ch→s.heap.get? b=some o→H b=none→∃ sl,h'.get? b=some { o with slots:=sl }) (free:∀ b o,b ∉ ch→s.heap.get? b=some o→H b=none→H' b=none)
    (there:∀ b o,b ∉ ch→s.heap.get? b=some o→∃ o',h'.get? b=some o')
    (tups:∀ b xs,H b=some (.tup xs)→H' b=some (.tup xs)) (frzs:∀ b o u,H b=some (.frz o u)→H' b=some (.frz o u)) (tbls:∀ b ps,H b=some (.tbl ps)→∃ more,H' b=some (.tbl (ps++more)))
    (ns:∀ m,s.heap.Ns X.env.locals m→h'.Ns X.env.locals m) (hok:HOk X.prog X.w H' h') (hg:AllBare g') :
    Inv X pins σ H' { s with heap:=h',gens:=g',drawn:=d',toks:=t' }:=by
  have neL:∀ b o,X.s₀.heap.get? b=some o→b≠X.env.locals:=fun b o e=>Nat.ne_of_lt (Nat.lt_of_lt_of_le (Heap.lt_size e) I.ok.above)
  have neC:∀ b o,X.s₀.heap.get? b=some o→b ∉ X.ex→b ∉ ch:=fun b o e hx hb=>by
    rcases (hch b hb).1 with z | z
    · exact hx z
    · exact absurd (Nat.lt_of_lt_of_le (Heap.lt_size e) z) (Nat.lt_irrefl _)
  have cellK:∀ x c,X.env.cells.lookup x=some c→∀ v,s.heap.IsCell c v→h'.IsCell c v:=fun x c e v ⟨o,ho,hd⟩=>by
    have nch:c ∉ ch:=fun z=>(hch c z).2.2.1 x c e rfl
    by_cases hc:c∈X.fs
    · obtain ⟨sl,q⟩:=slot c o (I.cne x c e) hc nch ho (I.freeC x c e)
      exact ⟨_,q,hd⟩
    · exact ⟨o,keep c o (I.cne x c e) hc nch ho (I.freeC x c e),hd⟩
  refine ⟨I.ok,I.os,hg,⟨fun b o e n hb hx=>?_,fun b o e n hb hx=>?_,fun b o e n hx=>?_,fun b o e hx=>?_,fun b xs e=>tups b xs (I.base.tups b xs e),fun b o xs e=>frzs b o xs (I.base.frzs b o xs e),fun b ps e=>?_⟩,?_,fun x c e=>?_,?_,fun x c e=>?_,fun p hp=>?_,hok,I.len⟩
  · exact keep b o (neL b o e) hb (neC b o e hx) (I.base.keep b o e n hb hx) (I.base.free b o e n hx)
  · obtain ⟨sl,e1⟩:=I.base.slot b o e n hb hx
    obtain ⟨sl',e2⟩:=slot b _ (neL b o e) hb (neC b o e hx) e1 (I.base.free b o e n hx)
    exact ⟨sl',e2⟩
  · obtain ⟨o',e1⟩:=I.base.there b o e hx
    exact free b o' (neC b o e hx) e1 (I.base.free b o e n hx)
  · obtain ⟨o',e1⟩:=I.base.there b o e hx
    exact there b o' (neC b o e hx) e1
  · obtain ⟨m1,e1⟩:=I.base.tbls b ps e
    obtain ⟨m2,e2⟩:=tbls b _ e1
    exact ⟨m1++m2,by rw [e2,Array.append_assoc]⟩
  · obtain ⟨m,hn,hl⟩:=I.loc
    refine ⟨m,ns m hn,fun i x v e1 e2 e3=>?_⟩
    obtain ⟨u,r,l⟩:=hl i x v e1 e2 e3
    refine ⟨u,r,?_⟩
    rcases l with l | ⟨k,c,e,z⟩
    · exact .inl l
    · exact .inr ⟨k,c,e,cellK x c e _ z⟩
  · obtain ⟨v,z⟩:=I.cell x c e
    exact ⟨v,cellK x c e v z⟩
  · obtain ⟨m,⟨o,_,_,ho,_⟩,_⟩:=I.loc
    exact free _ o (fun z=>(hch _ z).2.1 rfl) ho I.free
  · obtain ⟨v,o,ho,hd⟩:=I.cell x c e
    exact free c o (fun z=>(hch c z).2.2.1 x c e rfl) ho (I.freeC x c e)
  · obtain ⟨e,n,ne,nf,d⟩:=I.pin p hp
    have nch:p.1 ∉ ch:=fun z=>(hch p.1 z).2.2.2 p hp rfl
    exact ⟨keep p.1 p.2 ne nf nch e n,free p.1 p.2 nch e n,ne,nf,d⟩
theorem Inv.un {t':Nat} (I:Inv X pins σ H s) (u:Un X.fs [] H H' s.heap h') (hok:HOk X.prog X.w H' h'):Inv X pins σ H' { s with heap:=h',toks:=t' }:=by
  obtain ⟨m,⟨o,es,ep,ho,r⟩,_⟩:=id I.loc
  obtain ⟨sl,hL⟩:=u.any ho I.free (by simp)
  exact I.step (g':=s.gens) (d':=s.drawn) (ch:=[]) (fun _ z=>nomatch z) (fun b o _ hb _ e n=>u.keep b o e n hb (by simp)) (fun b o _ hb _ e n=>u.slot b o e n hb (by simp)) (fun b o _ e n=>u.free b o e n (by simp)) (fun b o _ e=>u.there b o e (by simp)) u.tups u.frzs u.tbls (fun m' hm=>by
    obtain ⟨o',es',ep',ho',r'⟩:=hm
    rw [ho] at ho'; cases ho'
    exact ⟨_,es',ep',hL,r'⟩) hok I.bare
theorem Inv.call {g':Array GenState} {t':Nat} {d':Drawn} {ch:List Addr} (I:Inv X pins σ H s) (u:Un (frs X.stack) ch H H' s.heap h') (hok:HOk X.prog X.w H' h') (hg:AllBare g')
    (hch:∀ b∈ch,(b∈X.ex∨X.s₀.heap.objs.size≤b)∧b≠X.env.locals∧(∀ x c,X.env.cells.lookup x=some c→c≠b)∧∀ p∈X.pn++pins,p.1≠b) :
    Inv X pins σ H' { s with heap:=h',gens:=g',drawn:=d',toks:=t' }:=by
  obtain ⟨m,⟨o,es,ep,ho,r⟩,_⟩:=id I.loc
  obtain ⟨sl,hL⟩:=u.any ho I.free fun z=>(hch _ z).2.1 rfl
  exact I.step (ch:=ch) hch (fun b o hL hb hc e n=>u.keep b o e n (fun z=>(List.mem_cons.mp (I.stkSub b z)).elim hL hb) hc) (fun b o _ _ hc e n=>u.any e n hc) (fun b o hc e n=>u.free b o e n hc) (fun b o hc e=>u.there b o e hc) u.tups u.frzs u.tbls (fun m' hm=>by
    obtain ⟨o',es',ep',ho',r'⟩:=hm
    rw [ho] at ho'; cases ho'
    exact ⟨_,es',ep',hL,r'⟩) hok hg
theorem Inv.turned {t':Nat} {it:Addr} (I:Inv X pins σ H s) (k:∀ b o,b≠it→s.heap.get? b=some o→h'.get? b=some o) (hn:H it=none) (hL:it≠X.env.locals)
    (h1:it∈X.ex∨X.s₀.heap.objs.size≤it) (h2:∀ x c,X.env.cells.lookup x=some c→c≠it) (h3:∀ p∈X.pn++pins,p.1≠it):Inv X pins σ H { s with heap:=h',toks:=t' }:=by
  have nit:∀ b u,H b=some u→b≠it:=fun b u e z=>by rw [z,hn] at e; cases e
  refine I.step (g':=s.gens) (d':=s.drawn) (ch:=[it]) (fun b hb=>?_) (fun b o _ _ hc e _=>k b o (fun z=>hc (by simp [z])) e) (fun b o _ _ hc e _=>⟨o.slots,k b o (fun z=>hc (by simp [z])) e⟩) (fun _ _ _ _ n=>n)
    (fun b o hc e=>⟨o,k b o (fun z=>hc (by simp [z])) e⟩) (fun _ _ e=>e) (fun _ _ _ e=>e) (fun b ps e=>⟨#[],by rw [e]; simp⟩) (fun m hm=>?_) (fun b u e=>?_) I.bare
  · have e:b=it:=by simpa using hb
    subst e
    exact ⟨h1,hL,h2,h3⟩
  · obtain ⟨o,es,ep,ho,r⟩:=hm
    exact ⟨o,es,ep,k _ o (Ne.symm hL) ho,r⟩
  · refine (I.hok b u e).stay (fun c v hc q=>k c v ?_ q) (fun _ q=>q) fun _ _ q=>q
    rcases hc with z | z
    · rw [z]; exact nit b u e
    · exact nit c _ z
theorem Inv.tok (I:Inv X pins σ H s) (t:Nat):Inv X pins σ H { s with toks:=t }:=I.un (h':=s.heap) (t':=t) Un.refl I.hok
theorem Inv.kept {t':Nat} (I:Inv X pins σ H s) (k:∀ b u,s.heap.get? b=some u→h'.get? b=some u):Inv X pins σ H { s with heap:=h',toks:=t' }:=I.un (Un.kept k) (I.hok.kept k)
theorem Inv.laid {a:Addr} {o:HO} {t':Nat} (I:Inv X pins σ H s) (k:∀ b u,s.heap.get? b=some u→h'.get? b=some u) (hp:s.heap.objs.size≤a) (new:ObjOk X.prog X.w (upd H a o) h' a o) :
    Inv X pins σ (upd H a o) { s with heap:=h',toks:=t' }:=I.un (Un.laid k hp (I.hok.fresh hp)) (I.hok.laid k hp new)
theorem Inv.write {x e:Addr} {o:HO} {t':Nat} (I:Inv X pins σ H s) (mu:Mut (H x)) (he:e=x∨H e=some (.own x)) (k:∀ b u,b≠e→s.heap.get? b=some u→h'.get? b=some u) (heo:∃ u,h'.get? e=some u)
    (new:ObjOk X.prog X.w (upd H x o) h' x o):Inv X pins σ (upd H x o) { s with heap:=h',toks:=t' }:=I.un (Un.write mu he k heo) (I.hok.write mu he k heo new)
theorem Inv.pins_of {pins':List (Addr × Obj)} (I:Inv X pins σ H s) (h:∀ p∈pins',s.heap.get? p.1=some p.2∧H p.1=none∧p.1≠X.env.locals∧p.1 ∉ X.fs∧∀ v,p.2.data ≠ .cell v):Inv X pins' σ H s :=
  ⟨I.ok,I.os,I.bare,I.base,I.loc,I.cell,I.free,I.freeC,fun p hp=>(List.mem_append.mp hp).elim (fun z=>I.pin p (List.mem_append_left _ z)) (h p),I.hok,I.len⟩
theorem nodup_ix {N:List Str} (hN:N.Nodup) {i j:Nat} {x:Str} (a:N[i]?=some x) (b:N[j]?=some x):i=j:=by
  obtain ⟨h1,e1⟩:=List.getElem?_eq_some_iff.mp a
  obtain ⟨h2,e2⟩:=List.getElem?_eq_some_iff.mp b
  exact (List.getElem_inj hN).mp (e1.trans e2.symm)
theorem store_ok2 {M:Model} {A:Around} {E:Value→Shared→Prop} {i:Nat} {x:Str} {v:V} {u:Value} {Q:Unit→Shared→Prop} (I:Inv X pins σ H s) (hN:X.N.Nodup) (hi:X.N[i]?=some x) (hx:Loc X.env.scope x) (r:RelV v u)
    (h:∀ s',Inv X pins (σ.set i (some v)) H s'→(∃ a,Heap.SameBut a s.heap s'.heap∧(a=X.env.locals∨X.env.cells.lookup x=some a))→Q () s') (hf:X.fn x=true∨X.env.scope.names.lookup x=some .local:=by first | exact .inl rfl | exact .inr rfl | assumption):wpAny M A (storeName X.env x u) Q E s:=by
  obtain ⟨m,hn,hl⟩:=id I.loc
  have hcls:(X.env.scope.kind == .class || (X.env.scope.kind == .module&&X.env.locals != X.env.globals))=false:=by rw [I.ok.kind]; rfl
  have hiσ:i<σ.length:=by rw [I.len]; exact (List.getElem?_eq_some_iff.mp hi).1
  have cne:=I.cne
  have tracked:∀ {a:Addr} {h':Heap},(∃ o,s.heap.get? a=some o∧H a=none)→Heap.SameBut a s.heap h'→HOk X.prog X.w H h':=fun {a h'} ha hs b ob e=>by
    obtain ⟨_,_,hfree⟩:=ha
    refine (I.hok b ob e).stay (fun c w' hc q=>(hs.2 c ?_).trans q) (fun _ q=>q) fun _ _ q=>q
    rintro rfl
    rcases hc with rfl | hc
    · rw [hfree] at e; cases e
    · rw [hfree] at hc; cases hc
  rcases hx with hk | hk
  · refine wpAny_storeName_local hk hn (fun h' hn' hs=>?_) hcls
    obtain ⟨oL,_,_,hoL,_⟩:=id hn
    refine h _ ⟨I.ok,I.os,I.bare,⟨fun b o e n hb hx=>?_,fun b o e n hb hx=>?_,I.base.free,fun b o e hx=>?_,I.base.tups,I.base.frzs,I.base.tbls⟩,⟨_,hn',fun j y v' e1 e2 e3=>?_⟩,fun y c e=>?_,I.free,I.freeC,fun p hp=>?_,tracked ⟨oL,hoL,I.free⟩ hs,by simpa using I.len⟩ ⟨_,hs,.inl rfl⟩
    · exact (hs.2 b (Nat.ne_of_lt (Nat.lt_of_lt_of_le (Heap.lt_size e) I.ok.above))).trans (I.base.keep b o e n hb hx)
    · obtain ⟨sl,e1⟩:=I.base.slot b o e n hb hx
      exact ⟨sl,(hs.2 b (Nat.ne_of_lt (Nat.lt_of_lt_of_le (Heap.lt_size e) I.ok.above))).trans e1⟩
    · obtain ⟨o',e1⟩:=I.base.there b o e hx
      exact ⟨o',(hs.2 b (Nat.ne_of_lt (Nat.lt_of_lt_of_le (Heap.lt_size e) I.ok.above))).trans e1⟩
    · by_cases hj:j=i
      · subst hj
        rw [hi] at e1; cases e1
        rw [List.getElem?_set_self hiσ] at e2
        cases e2
        exact ⟨u,r,.inl ⟨hk,by simp⟩⟩
      · rw [List.getElem?_set_ne (Ne.symm hj)] at e2
        obtain ⟨u',r',q⟩:=hl j y v' e1 e2 e3
        refine ⟨u',r',?_⟩
        rcases q with ⟨k,e⟩ | ⟨k,c,e,z⟩
        · refine .inl ⟨k,?_⟩
          have:y≠x:=fun e=>hj (nodup_ix hN e1 (e ▸ hi))
          simp [this,e]
        · exact .inr ⟨k,c,e,z.sameBut hs (cne y c e)⟩
    · obtain ⟨w',z⟩:=I.cell y c e
      exact ⟨w',z.sameBut hs (cne y c e)⟩
    · obtain ⟨e,n,ne,nf,d⟩:=I.pin p hp
      exact ⟨(hs.2 p.1 ne).trans e,n,ne,nf,d⟩
  · have hfn:X.fn x=true:=by
      rcases hf with z | z
      · exact z
      · rw [z] at hk; cases hk
    obtain ⟨c,hc⟩:=I.ok.has x (.inl hk)
    obtain ⟨w',z⟩:=I.cell x c hc
    refine wpAny_storeName_cell I.ok.kind hk hc z (fun h' hc' hs=>?_)
    obtain ⟨oc,hoc,hocd⟩:=id z
    refine h { s with heap:=h' } ⟨I.ok,I.os,I.bare,⟨fun b o e n hb hx=>?_,fun b o e n hb hx=>?_,I.base.free,fun b o e hx=>?_,I.base.tups,I.base.frzs,I.base.tbls⟩,⟨m,hn.sameBut hs (Ne.symm (cne x c hc)),fun j y v' e1 e2 e3=>?_⟩,fun y c' e=>?_,I.free,I.freeC,fun p hp=>?_,tracked ⟨oc,hoc,I.freeC x c hc⟩ hs,by simpa using I.len⟩ ⟨c,hs,.inr hc⟩
    · exact (hs.2 b (Nat.ne_of_lt (Nat.lt_of_lt_of_le (Heap.lt_size e) (I.ok.cab x c hfn hc)))).trans (I.base.keep b o e n hb hx)
    · obtain ⟨sl,e1⟩:=I.base.slot b o e n hb hx
      exact ⟨sl,(hs.2 b (Nat.ne_of_lt (Nat.lt_of_lt_of_le (Heap.lt_size e) (I.ok.cab x c hfn hc)))).trans e1⟩
    · obtain ⟨o',e1⟩:=I.base.there b o e hx
      exact ⟨o',(hs.2 b (Nat.ne_of_lt (Nat.lt_of_lt_of_le (Heap.lt_size e) (I.ok.cab x c hfn hc)))).trans e1⟩
    · by_cases hj:j=i
      · subst hj
        rw [hi] at e1; cases e1
        rw [List.getElem?_set_self hiσ] at e2
        cases e2
        exact ⟨u,r,.inr ⟨.inl hk,c,hc,hc'⟩⟩
      · rw [List.getElem?_set_ne (Ne.symm hj)] at e2
        obtain ⟨u',r',q⟩:=hl j y v' e1 e2 e3
        refine ⟨u',r',?_⟩
        rcases q with q | ⟨k,c',e,z'⟩
        · exact .inl q
        · refine .inr ⟨k,c',e,z'.sameBut hs ?_⟩
          rintro rfl
          exact hj (nodup_ix hN e1 (I.ok.inj _ _ _ e hc ▸ hi))
    · by_cases hcc:c'=c
      · subst hcc; exact ⟨_,hc'⟩
      · obtain ⟨w2,z2⟩:=I.cell y c' e
        exact ⟨w2,z2.sameBut hs hcc⟩
    · obtain ⟨e,n,ne,nf,d⟩:=I.pin p hp
      refine ⟨(hs.2 p.1 ?_).trans e,n,ne,nf,d⟩
      intro q
      rw [q,hoc] at e
      have q':oc=p.2:=Option.some.inj e
      exact d w' (by rw [← q']; exact hocd)
theorem store_ok {M:Model} {A:Around} {E:Value→Shared→Prop} {i:Nat} {x:Str} {v:V} {u:Value} {Q:Unit→Shared→Prop} (I:Inv X pins σ H s) (hN:X.N.Nodup) (hi:X.N[i]?=some x) (hx:Loc X.env.scope x) (r:RelV v u)
    (h:∀ s',Inv X pins (σ.set i (some v)) H s'→Q () s') (hf:X.fn x=true∨X.env.scope.names.lookup x=some .local:=by first | exact .inl rfl | exact .inr rfl | assumption):wpAny M A (storeName X.env x u) Q E s :=
  store_ok2 I hN hi hx r (fun s' I' _=>h s' I') hf
theorem Inv.call' {s':Shared} {ch:List Addr} (I:Inv X pins σ H s) (ho:s'.os=s.os) (u:Un (frs X.stack) ch H H' s.heap s'.heap) (hok:HOk X.prog X.w H' s'.heap) (hg:AllBare s'.gens)
    (hch:∀ b∈ch,(b∈X.ex∨X.s₀.heap.objs.size≤b)∧b≠X.env.locals∧(∀ x c,X.env.cells.lookup x=some c→c≠b)∧∀ p∈X.pn++pins,p.1≠b):Inv X pins σ H' s':=by
  obtain ⟨h',g',d',t',o'⟩:=s'
  have e:o'=s.os:=ho
  subst e
  exact I.call (g':=g') (t':=t') (d':=d') u hok hg hch
end
abbrev XK:=Value→Option Addr→Hp→Prop
abbrev St:=List (Option V)
abbrev VK:=V→Hp→Prop
abbrev TE:=St→Hp→VK→Prop
abbrev TT:=St→Hp→(Bool→Hp→Prop)→Prop
abbrev TA:=St→Hp→(List V→Hp→Prop)→Prop
structure Ends where
  nx:St→Hp→Prop
  rt:VK
  bk:St→Hp→Prop:=fun _ _=>False
  ct:St→Hp→Prop:=fun _ _=>False
abbrev TS:=Ends→St→Hp→Prop
def EP (X:Cx) (pins:List (Addr × Obj)) (σ:St) (Q:VK) (u:Value) (s':Shared):Prop:=∃ v H',Inv X pins σ H' s'∧RelV v u∧Q v H'
def TP (X:Cx) (pins:List (Addr × Obj)) (σ:St) (Q:Bool→Hp→Prop) (b:Bool) (s':Shared):Prop:=∃ H',Inv X pins σ H' s'∧Q b H'
def AP (X:Cx) (pins:List (Addr × Obj)) (σ:St) (Q:List V→Hp→Prop) (us:List Value) (s':Shared):Prop:=∃ vs H',Inv X pins σ H' s'∧Vals vs us∧Q vs H'
def SP (X:Cx) (pins:List (Addr × Obj)) (D:Ends) (f:Flow) (s':Shared):Prop :=
  match f with
  | .next=>∃ σ' H',Inv X pins σ' H' s'∧D.nx σ' H'
  | .brk=>∃ σ' H',Inv X pins σ' H' s'∧D.bk σ' H'
  | .cont=>∃ σ' H',Inv X pins σ' H' s'∧D.ct σ' H'
  | .ret u=>∃ v σ' H',Inv X pins σ' H' s'∧RelV v u∧D.rt v H'
def PE (X:Cx) (e:Expr) (t:TE):Prop :=
  ∀ (pins:List (Addr × Obj)) (s:Shared) (σ:St) (H:Hp) (Q:VK),Inv X pins σ H s→t σ H Q→wpAny (model X.prog X.w) X.A (eval e X.env) (EP X pins σ Q) X.xe s
def PT (X:Cx) (e:Expr) (t:TT):Prop :=
  ∀ (pins:List (Addr × Obj)) (s:Shared) (σ:St) (H:Hp) (Q:Bool→Hp→Prop),Inv X pins σ H s→t σ H Q→wpAny (model X.prog X.w) X.A (isTrue e X.env (eval e X.env)) (TP X pins σ Q) X.xe s
def PW (X:Cx) (e:Expr) (t:TT):Prop :=
  ∀ (whole:Sem Value) (pins:List (Addr × Obj)) (s:Shared) (σ:St) (H:Hp) (Q:Bool→Hp→Prop),Inv X pins σ H s→t σ H Q→wpAny (model X.prog X.w) X.A (isTrue e X.env whole) (TP X pins σ Q) X.xe s
theorem PW.pt {X:Cx} {e:Expr} {t:TT} (h:PW X e t):PT X e t:=h _
def PA (X:Cx) (es:List Expr) (t:TA):Prop :=
  ∀ (pos:Pos) (pins:List (Addr × Obj)) (s:Shared) (σ:St) (H:Hp) (Q:List V→Hp→Prop),Inv X pins σ H s→t σ H Q→wpAny (model X.prog X.w) X.A (spliced (backTo pos (starEach es X.env))) (AP X pins σ Q) X.xe s
def PS (X:Cx) (st:Stmt) (t:TS):Prop :=
  ∀ (pins:List (Addr × Obj)) (s:Shared) (σ:St) (H:Hp) (D:Ends),Inv X pins σ H s→t D σ H→wpAny (model X.prog X.w) X.A (exec st X.env) (SP X pins D) X.xe s
def PSs (X:Cx) (st:List Stmt) (t:TS):Prop :=
  ∀ (pins:List (Addr × Obj)) (s:Shared) (σ:St) (H:Hp) (D:Ends),Inv X pins σ H s→t D σ H→wpAny (model X.prog X.w) X.A (execs st X.env) (SP X pins D) X.xe s
theorem thn {α:Type} {t:Sem α} {Q Q':α→Shared→Prop} {M:Model} {A:Around} {E:Value→Shared→Prop} {s:Shared} (h:wpAny M A t Q E s) (hQ:∀ a s,Q a s→Q' a s):wpAny M A t Q' E s:=wpAny_mono h hQ fun _ _ x=>x
end L2
namespace L2
open PySem PySem.Spec PyProof.Rows
section
variable {X:Cx}
def tVar (i:Nat):TE:=fun σ H Q=>∃ v,σ[i]?=some (some v)∧Q v H
def tC (v:V):TE:=fun _ H Q=>Q v H
theorem pe_var {i:Nat} {x:Str} {pos:Pos} (hN:X.N[i]?=some x) (hv:Vis X.env.scope x) (hd:(x == ("__debug__" : Str))=false:=by decide) (hcd:(x == ("__classdict__" : Str))=false:=by decide):PE X (.Name x pos) (tVar i):=by
  intro pins s σ H Q I h
  obtain ⟨v,e,h⟩:=h
  obtain ⟨m,hn,hl⟩:=I.loc
  obtain ⟨u,r,l⟩:=hl i x v hN e hv
  have fin:EP X pins σ Q u s:=⟨v,H,I,r,h⟩
  rcases l with ⟨hk,hm⟩ | ⟨hk,c,hc,hcell⟩
  · exact wpAny_Name (wpAny_loadName_local I.ok.kind hk hn hm fin) hd
  · rcases hk with hk | hk
    · exact wpAny_Name (wpAny_loadName_cell I.ok.kind hk hc hcell fin) hd
    · exact wpAny_Name (wpAny_loadName_free I.ok.kind hk hc hcell fin hcd) hd
theorem pe_int {i j pos}:PE X (.Constant (.int i) j pos) (tC (.int i)):=fun _ _ _ H _ I h=>wpAny_Constant_int ⟨.int i,H,I.tok _,⟨_,rfl⟩,h⟩
theorem pe_bl {b j pos}:PE X (.Constant (.bool b) j pos) (tC (.bl b)):=fun _ _ _ H _ I h=>Constant_bool ⟨.bl b,H,I,rfl,h⟩
theorem pe_non {j pos}:PE X (.Constant .none j pos) (tC .non):=fun _ _ _ H _ I h=>Constant_none ⟨.non,H,I,rfl,h⟩
theorem pe_str {x j pos}:PE X (.Constant (.str x) j pos) (tC (.str x)):=fun _ _ _ H _ I h=>Calls.Constant_str ⟨.str x,H,I.tok _,⟨_,rfl⟩,h⟩
def Gl (X:Cx) (x:Str):Prop:=X.env.kindOf x=some .globalImplicit
theorem ld_glob {E:Value→Shared→Prop} {pins:List (Addr × Obj)} {s:Shared} {σ:St} {H:Hp} {x:Str} {u:Value} {pos:Pos} {Q:Value→Shared→Prop} (I:Inv X pins σ H s) (hg:Gl X x) (hm:X.mg x=some u) (h:Q u s)
    (hd:(x == ("__debug__" : Str))=false:=by decide):wpAny (model X.prog X.w) X.A (eval (.Name x pos) X.env) Q E s :=
  Calls.Name_function_global I.ok.kind hg (Calls.loadGlobal_global (by rw [I.ok.glob]; exact I.mod.glob.keeps I.bk) hm h) hd
theorem ld_blt {E:Value→Shared→Prop} {pins:List (Addr × Obj)} {s:Shared} {σ:St} {H:Hp} {x:Str} {u:Value} {pos:Pos} {Q:Value→Shared→Prop} (I:Inv X pins σ H s) (hg:Gl X x) (hm:X.mg x=none) (hv:bootBuiltins x=some u) (h:Q u s)
    (hn:x ≠ "__name__" := by decide) (hd:(x == ("__debug__" : Str))=false:=by decide):wpAny (model X.prog X.w) X.A (eval (.Name x pos) X.env) Q E s:=by
  obtain ⟨mb,h1,h2⟩:=I.mod.blt
  exact Calls.Name_function_global I.ok.kind hg (Calls.loadGlobal_builtin (by rw [I.ok.glob]; exact I.mod.glob.keeps I.bk) hm (by rw [I.ok.blt]; exact h1.keeps I.bk) ((h2 x hn).trans hv) h) hd
theorem pe_glob {x:Str} {v:V} {u:Value} {pos:Pos} (hg:Gl X x) (hm:X.mg x=some u) (r:RelV v u) (hd:(x == ("__debug__" : Str))=false:=by decide):PE X (.Name x pos) (tC v) :=
  fun _ _ _ H _ I h=>ld_glob I hg hm ⟨v,H,I,r,h⟩ hd
theorem pe_bltn {x:Str} {v:V} {u:Value} {pos:Pos} (hg:Gl X x) (hm:X.mg x=none) (hv:bootBuiltins x=some u) (r:RelV v u) (hn:x ≠ "__name__" := by decide) (hd:(x == ("__debug__" : Str))=false:=by decide):PE X (.Name x pos) (tC v) :=
  fun _ _ _ H _ I h=>ld_blt I hg hm hv ⟨v,H,I,r,h⟩ hn hd
variable {a b:Expr} {ta tb:TE} {pos:Pos}
def tB (t:TE):TT:=fun σ H Q=>t σ H fun x H1=>∃ c,x=.bl c∧Q c H1
theorem pt_val {e:Expr} {t:TE} (h:PE X e t) (he:∀ whole,isTrue e X.env whole=(do let v ← whole; standAt e.pos; holding [v] (truthy v)):=by intro _; rfl):PT X e (tB t):=by
  intro pins s σ H Q I hw
  refine isTrue_plain (thn (h pins s σ H _ I hw) fun v s1 ⟨x,H1,I1,r1,q1⟩=>?_) (he _)
  obtain ⟨d,rfl,q⟩:=q1
  cases r1
  exact wpAny_truthy_bool ⟨H1,I1,q⟩
variable {tA tB':TT} {rest:List Expr}
def tAnd (t u:TT):TT:=fun σ H Q=>t σ H fun c H1=>if c=true then u σ H1 Q else Q false H1
def tOr (t u:TT):TT:=fun σ H Q=>t σ H fun c H1=>if c=true then Q true H1 else u σ H1 Q
def tNot (t:TT):TT:=fun σ H Q=>t σ H fun c H1=>Q (!c) H1
theorem pw_and1 (ha:PT X a tA):PW X (.BoolOp .And [a] pos) tA:=by
  intro wh pins s σ H Q I h
  refine isTrue_and (thn (ha pins s σ H Q I h) fun c s1 e=>?_)
  cases c with
  | true=>exact isTrue_and_nil e
  | false=>exact e
theorem pw_or1 (ha:PT X a tA):PW X (.BoolOp .Or [a] pos) tA:=by
  intro wh pins s σ H Q I h
  refine isTrue_or (thn (ha pins s σ H Q I h) fun c s1 e=>?_)
  cases c with
  | false=>exact isTrue_or_nil e
  | true=>exact e
theorem pw_and (ha:PT X a tA) (hb:PW X (.BoolOp .And (b::rest) pos) tB'):PW X (.BoolOp .And (a::b::rest) pos) (tAnd tA tB'):=by
  intro wh pins s σ H Q I h
  refine isTrue_and (thn (ha pins s σ H _ I h) fun c s1 ⟨H1,I1,q1⟩=>?_)
  cases c with
  | true=>exact hb wh pins s1 σ H1 Q I1 q1
  | false=>exact ⟨H1,I1,q1⟩
theorem pw_or (ha:PT X a tA) (hb:PW X (.BoolOp .Or (b::rest) pos) tB'):PW X (.BoolOp .Or (a::b::rest) pos) (tOr tA tB'):=by
  intro wh pins s σ H Q I h
  refine isTrue_or (thn (ha pins s σ H _ I h) fun c s1 ⟨H1,I1,q1⟩=>?_)
  cases c with
  | true=>exact ⟨H1,I1,q1⟩
  | false=>exact hb wh pins s1 σ H1 Q I1 q1
theorem pt_not (ha:PT X a tA):PT X (.UnaryOp .Not a pos) (tNot tA):=by
  intro pins s σ H Q I h
  exact isTrue_not (ha pins s σ H (fun c H1=>Q (!c) H1) I h)
def tAndV (ta tb:TE):TE:=fun σ H Q=>ta σ H fun x H1=>∃ c,x=.bl c∧if c=true then tb σ H1 Q else Q (.bl false) H1
def tOrV (ta tb:TE):TE:=fun σ H Q=>ta σ H fun x H1=>∃ c,x=.bl c∧if c=true then Q (.bl true) H1 else tb σ H1 Q
def tNotV (ta:TE):TE:=fun σ H Q=>ta σ H fun x H1=>∃ c,x=.bl c∧Q (.bl (!c)) H1
theorem pe_one {op} {t:TE} (h:PE X a t):PE X (.BoolOp op [a] pos) t:=fun pins s σ H Q I hw=>BoolOp_one (h pins s σ H Q I hw)
theorem pe_and (ha:PE X a ta) (hb:PE X (.BoolOp .And (b::rest) pos) tb):PE X (.BoolOp .And (a::b::rest) pos) (tAndV ta tb):=by
  intro pins s σ H Q I h
  refine BoolOp_and (thn (ha pins s σ H _ I h) fun v s1 ⟨x,H1,I1,r1,q1⟩=>?_)
  obtain ⟨c,rfl,q1⟩:=q1
  cases r1
  refine wpAny_truthy_bool ?_
  cases c with
  | true=>exact hb pins s1 σ H1 Q I1 q1
  | false=>exact ⟨.bl false,H1,I1,rfl,q1⟩
theorem pe_or (ha:PE X a ta) (hb:PE X (.BoolOp .Or (b::rest) pos) tb):PE X (.BoolOp .Or (a::b::rest) pos) (tOrV ta tb):=by
  intro pins s σ H Q I h
  refine BoolOp_or (thn (ha pins s σ H _ I h) fun v s1 ⟨x,H1,I1,r1,q1⟩=>?_)
  obtain ⟨c,rfl,q1⟩:=q1
  cases r1
  refine wpAny_truthy_bool ?_
  cases c with
  | false=>exact hb pins s1 σ H1 Q I1 q1
  | true=>exact ⟨.bl true,H1,I1,rfl,q1⟩
theorem pe_not (ha:PE X a ta):PE X (.UnaryOp .Not a pos) (tNotV ta):=by
  intro pins s σ H Q I h
  refine UnaryOp_ (thn (ha pins s σ H _ I h) fun v s1 ⟨x,H1,I1,r1,q1⟩=>?_)
  obtain ⟨c,rfl,q1⟩:=q1
  cases r1
  exact not_of (wpAny_truthy_bool ⟨.bl (!c),H1,I1,rfl,q1⟩)
def tIf (t:TT) (ta tb:TE):TE:=fun σ H Q=>t σ H fun c H1=>if c=true then ta σ H1 Q else tb σ H1 Q
theorem pe_ifExp {c:Expr} (hc:PT X c tA) (ha:PE X a ta) (hb:PE X b tb):PE X (.IfExp c a b pos) (tIf tA ta tb):=by
  intro pins s σ H Q I h
  refine wpAny_IfExp (thn (hc pins s σ H _ I h) fun d s1 ⟨H1,I1,q1⟩=>?_)
  cases d with
  | true=>exact ha pins s1 σ H1 Q I1 q1
  | false=>exact hb pins s1 σ H1 Q I1 q1
end
end L2
namespace L2
open PySem PySem.Spec PyProof.Rows
def SqL (K:PySem.W.Frag) (H:Hp) (a:Addr) (xs:List V):Prop :=
  Rd H a (.lst xs) ∨
    ∃ (o:Obj) (its:Array Value) (n:Nat),K.lookup a=some o∧o.cls=.type "list" ∧ o.dict=none∧o.data=.seq its n∧its.size≤sizeLine∧Vals xs its.toList
def SqT (K:PySem.W.Frag) (H:Hp) (a:Addr) (xs:List V):Prop :=
  Rd H a (.tup xs) ∨
    ∃ (o:Obj) (its:Array Value) (n:Nat),K.lookup a=some o∧o.cls=.type "tuple" ∧ o.data=.seq its n∧its.size≤sizeLine∧Vals xs its.toList
def absV:Value→Option V
  | .none=>some .non
  | .bool b=>some (.bl b)
  | .int i _=>some (.int i)
  | .str x _=>some (.str x)
  | .bytes b _=>some (.byt b)
  | .float b _=>some (.flt b)
  | .ref a=>some (.ref a)
  | .type n=>some (.ty n)
  | _=>none
theorem RelV.abs {x:V} {u:Value} (r:RelV x u):absV u=some x:=by
  cases x with
  | non=>cases r; rfl
  | bl _=>cases r; rfl
  | int _=>obtain ⟨t,rfl⟩:=r; rfl
  | str _=>obtain ⟨t,rfl⟩:=r; rfl
  | byt _=>obtain ⟨t,rfl⟩:=r; rfl
  | flt _=>obtain ⟨t,rfl⟩:=r; rfl
  | ref _=>cases r; rfl
  | ty _=>cases r; rfl
theorem RelV.inj {x y:V} {u:Value} (r:RelV x u) (q:RelV y u):x=y:=Option.some.inj (r.abs.symm.trans q.abs)
theorem Vals.inj:∀ {xs ys:List V} {us:List Value},Vals xs us→Vals ys us→xs=ys
  | _,_,_,.nil,.nil=>rfl
  | _,_,_,.cons r t,.cons r' t'=>by rw [r.inj r',Vals.inj t t']
section
variable {X:Cx} {pins:List (Addr × Obj)} {σ:St} {H:Hp} {s:Shared} {a:Addr} {xs ys:List V}
theorem SqL.of {K:PySem.W.Frag} (h:H a=some (.lst xs)):SqL K H a xs:=.inl (.inl h)
theorem SqT.of {K:PySem.W.Frag} (h:H a=some (.tup xs)):SqT K H a xs:=.inl (.inl h)
theorem Inv.list (I:Inv X pins σ H s) (h:SqL X.K H a xs):∃ its:List Value,Vals xs its∧PlainL s.heap a its.toArray∧xs.length≤sizeLine:=by
  rcases h with h | ⟨o,its,n,hk,hc,hd,hs,hz,r⟩
  · obtain ⟨z,its,n,r,e⟩:=h.ok I.hok
    exact ⟨its,r,⟨_,n,e,rfl,rfl,rfl⟩,z⟩
  · refine ⟨its.toList,r,⟨o,n,I.kIn a o hk,hc,hd,by simpa using hs⟩,?_⟩
    have e:=r.length
    simp only [Array.length_toList] at e
    omega
theorem Inv.tuple (I:Inv X pins σ H s) (h:SqT X.K H a xs):∃ its:List Value,Vals xs its∧IsTup s.heap a its.toArray∧xs.length≤sizeLine:=by
  rcases h with h | ⟨o,its,n,hk,hc,hs,hz,r⟩
  · obtain ⟨⟨z,_⟩,its,r,p⟩:=h.ok I.hok
    exact ⟨its,r,p,z⟩
  · refine ⟨its.toList,r,⟨o,I.kIn a o hk,hc,n,by simpa using hs⟩,?_⟩
    have e:=r.length
    simp only [Array.length_toList] at e
    omega
theorem Inv.list_inj (I:Inv X pins σ H s) (h:SqL X.K H a xs) (h':SqL X.K H a ys):xs=ys:=by
  obtain ⟨its,r,⟨o,n,e,_,_,d⟩,_⟩:=I.list h
  obtain ⟨its',r',⟨o',n',e',_,_,d'⟩,_⟩:=I.list h'
  rw [e] at e'; cases e'
  rw [d] at d'
  injection d' with d1 _
  have:its=its':=by simpa using congrArg Array.toList d1
  subst this
  exact r.inj r'
theorem Inv.tuple_inj (I:Inv X pins σ H s) (h:SqT X.K H a xs) (h':SqT X.K H a ys):xs=ys:=by
  obtain ⟨its,r,⟨o,e,_,n,d⟩,_⟩:=I.tuple h
  obtain ⟨its',r',⟨o',e',_,n',d'⟩,_⟩:=I.tuple h'
  rw [e] at e'; cases e'
  rw [d] at d'
  injection d' with d1 _
  have:its=its':=by simpa using congrArg Array.toList d1
  subst this
  exact r.inj r'
end
abbrev Cx.wish (X:Cx) (E:Value→Shared→Prop):Cx:={ X with xe:=E }
abbrev Cx.nox (X:Cx):Cx:=X.wish fun _ _=>False
theorem Cx.Ok.wish {X:Cx} (ok:X.Ok) (E:Value→Shared→Prop):(X.wish E).Ok :=
  ⟨ok.mod,ok.kind,ok.glob,ok.blt,ok.above,ok.inj,ok.has,ok.cab,ok.hd,ok.frames,ok.stk,ok.exf,ok.bs,ok.bsz,ok.noex,ok.exfs,ok.funs,ok.frf⟩
theorem Cx.Ok.unwish {X:Cx} {E:Value→Shared→Prop} (ok:(X.wish E).Ok):X.Ok :=
  ⟨ok.mod,ok.kind,ok.glob,ok.blt,ok.above,ok.inj,ok.has,ok.cab,ok.hd,ok.frames,ok.stk,ok.exf,ok.bs,ok.bsz,ok.noex,ok.exfs,ok.funs,ok.frf⟩
section
variable {X:Cx} {pins:List (Addr × Obj)} {σ:St} {H:Hp} {s:Shared} {E:Value→Shared→Prop}
theorem Inv.wish (I:Inv X pins σ H s) (E:Value→Shared→Prop):Inv (X.wish E) pins σ H s:=⟨I.ok.wish E,I.os,I.bare,I.base,I.loc,I.cell,I.free,I.freeC,I.pin,I.hok,I.len⟩
theorem Inv.unwish (I:Inv (X.wish E) pins σ H s):Inv X pins σ H s:=⟨I.ok.unwish,I.os,I.bare,I.base,I.loc,I.cell,I.free,I.freeC,I.pin,I.hok,I.len⟩
theorem SP.unwish {D:Ends} {f:Flow} {s':Shared} (h:SP (X.wish E) pins D f s'):SP X pins D f s':=by
  cases f with
  | next=>obtain ⟨σ',H',I,q⟩:=h; exact ⟨σ',H',I.unwish,q⟩
  | brk=>obtain ⟨σ',H',I,q⟩:=h; exact ⟨σ',H',I.unwish,q⟩
  | cont=>obtain ⟨σ',H',I,q⟩:=h; exact ⟨σ',H',I.unwish,q⟩
  | ret u=>obtain ⟨v,σ',H',I,r,q⟩:=h; exact ⟨v,σ',H',I.unwish,r,q⟩
theorem PE.nox {e:Expr} {t:TE} (h:PE X.nox e t):PE X e t:=fun pins s σ H Q I hw =>
  wpAny_mono (h pins s σ H Q (I.wish _) hw) (fun _ _ ⟨v,H',I',r,q⟩=>⟨v,H',I'.unwish,r,q⟩) fun _ _ z=>False.elim z
theorem PSs.nox {st:List Stmt} {t:TS} (h:PSs X.nox st t):PSs X st t:=fun pins s σ H D I hw =>
  wpAny_mono (h pins s σ H D (I.wish _) hw) (fun _ _ q=>q.unwish) fun _ _ z=>False.elim z
end
section
variable {X:Cx} {st:Stmt} {rest:List Stmt} {t u:TS} {e:Expr} {te:TE} {pos:Pos}
def tNext:TS:=fun D σ H=>D.nx σ H
def tSeq (t u:TS):TS:=fun D σ H=>t { D with nx:=u D } σ H
theorem pss_nil:PSs X [] tNext:=fun _ _ σ H _ I h=>wpAny_execs_nil ⟨σ,H,I,h⟩
theorem pss_cons (h1:PS X st t) (h2:PSs X rest u):PSs X (st::rest) (tSeq t u):=by
  intro pins s σ H D I h
  refine wpAny_execs_cons (thn (h1 pins s σ H { D with nx:=u D } I h) fun f s1 q=>?_)
  cases f with
  | next =>
    obtain ⟨σ',H',I',q⟩:=q
    exact h2 pins s1 σ' H' D I' q
  | ret v=>exact q
  | brk=>exact q
  | cont=>exact q
theorem pss_one (h1:PS X st t):PSs X [st] t:=by
  intro pins s σ H D I h
  refine wpAny_execs_cons (thn (h1 pins s σ H D I h) fun f s1 q=>?_)
  cases f with
  | next=>exact wpAny_execs_nil q
  | ret v=>exact q
  | brk=>exact q
  | cont=>exact q
theorem Inv.quiet {pins:List (Addr × Obj)} {σ:St} {H:Hp} {s:Shared} (I:Inv X pins σ H s):interactive X.env=false:=by simp [interactive,I.ok.kind]
def tDrop (te:TE):TS:=fun D σ H=>te σ H fun _ H1=>D.nx σ H1
theorem ps_expr (he:PE X e te) (hs:swapsWith e none pos.line X.env=pure false:=by rfl):PS X (.Expr e pos) (tDrop te):=by
  intro pins s σ H D I h
  exact wpAny_Expr_any (thn (he pins s σ H _ I h) fun v s1 ⟨x,H1,I1,r1,q1⟩=>⟨σ,H1,I1,q1⟩) I.quiet hs
def tRet (te:TE):TS:=fun D σ H=>te σ H D.rt
theorem ps_ret (he:PE X e te):PS X (.Return (some e) pos) (tRet te):=by
  intro pins s σ H D I h
  exact wpAny_Return_some (thn (he pins s σ H _ I h) fun v s1 ⟨x,H1,I1,r1,q1⟩=>⟨x,σ,H1,I1,r1,q1⟩)
def tIfS (c:TT) (t u:TS):TS:=fun D σ H=>c σ H fun b H1=>if b=true then t D σ H1 else u D σ H1
theorem ps_if {c:Expr} {a b:List Stmt} {tc:TT} (hc:PT X c tc) (ha:PSs X a t) (hb:PSs X b u):PS X (.If c a b pos) (tIfS tc t u):=by
  intro pins s σ H D I h
  refine wpAny_If (thn (hc pins s σ H _ I h) fun d s1 ⟨H1,I1,q1⟩=>?_)
  cases d with
  | true=>exact ha pins s1 σ H1 D I1 q1
  | false=>exact hb pins s1 σ H1 D I1 q1
end
abbrev TG:=V→St→Hp→(St→Hp→Prop)→Prop
abbrev TGs:=List V→St→Hp→(St→Hp→Prop)→Prop
def PG (X:Cx) (target:Expr) (t:TG):Prop :=
  ∀ (pins:List (Addr × Obj)) (s:Shared) (σ:St) (H:Hp) (v:V) (u:Value) (Q:St→Hp→Prop),Inv X pins σ H s→RelV v u→t v σ H Q →
    wpAny (model X.prog X.w) X.A (assign target X.env u) (fun _ s'=>∃ σ' H',Inv X pins σ' H' s'∧Q σ' H') X.xe s
def PGs (X:Cx) (ts:List Expr) (t:TGs):Prop :=
  ∀ (pins:List (Addr × Obj)) (s:Shared) (σ:St) (H:Hp) (vs:List V) (us:List Value) (Q:St→Hp→Prop),Inv X pins σ H s→Vals vs us→t vs σ H Q →
    wpAny (model X.prog X.w) X.A (assignInOrder ((assignEach ts X.env).map (·.2)) us) (fun _ s'=>∃ σ' H',Inv X pins σ' H' s'∧Q σ' H') X.xe s
abbrev TSet:=V→V→V→Hp→(Hp→Prop)→Prop
def PSet (X:Cx) (t:TSet):Prop :=
  ∀ (pins:List (Addr × Obj)) (s:Shared) (σ:St) (H:Hp) (o i v:V) (ov iv u:Value) (Q:Hp→Prop),Inv X pins σ H s→RelV o ov→RelV i iv→RelV v u→t o i v H Q →
    wpAny (model X.prog X.w) X.A (setItem ov iv u) (fun _ s'=>∃ H',Inv X pins σ H' s'∧Q H') X.xe s
section
variable {X:Cx} {pos:Pos}
def gName (i:Nat):TG:=fun v σ H Q=>Q (σ.set i (some v)) H
theorem pg_name {i:Nat} {x:Str} (hN:X.N.Nodup) (hi:X.N[i]?=some x) (hx:Loc X.env.scope x) (hf:X.fn x=true∨X.env.scope.names.lookup x=some .local:=by first | exact .inl rfl | exact .inr rfl | assumption):PG X (.Name x pos) (gName i):=by
  intro pins s σ H v u Q I r h
  exact wpAny_assign_Name (store_ok I hN hi hx r (fun s' I'=>⟨_,H,I',h⟩) hf)
def gNil:TGs:=fun vs σ H Q=>vs=[]∧Q σ H
def gCons (t:TG) (u:TGs):TGs:=fun vs σ H Q=>∃ v r,vs=v::r∧t v σ H fun σ' H'=>u r σ' H' Q
theorem pgs_nil:PGs X [] gNil:=by
  intro pins s σ H vs us Q I r h
  obtain ⟨e,h⟩:=h
  subst e
  cases r
  exact assignInOrder_nil ⟨σ,H,I,h⟩
theorem pgs_cons {e:Expr} {es:List Expr} {t:TG} {u:TGs} (h1:PG X e t) (h2:PGs X es u)
    (hs:(assignEach (e::es) X.env).map (·.2)=assign e X.env::(assignEach es X.env).map (·.2):=by rfl):PGs X (e::es) (gCons t u):=by
  intro pins s σ H vs us Q I r h
  obtain ⟨v,vr,e1,h⟩:=h
  subst e1
  cases r with
  | cons r rr =>
    rw [hs]
    refine assignInOrder_cons (thn (h1 pins s σ H _ _ _ I r h) fun _ s1 ⟨σ1,H1,I1,q1⟩=>?_)
    exact h2 pins s1 σ1 H1 _ _ Q I1 rr q1
def gTup (K:PySem.W.Frag) (n:Nat) (t:TGs):TG:=fun v σ H Q=>∃ a xs,v=.ref a∧SqT K H a xs∧xs.length=n∧t xs σ H Q
theorem pg_tup {es:List Expr} {k:Nat} {t:TGs} {n:Nat} (hc:X.calm=true) (h:PGs X es t)
    (hn:(assignEach es X.env).length=n:=by rfl) (hst:(assignEach es X.env).findIdx? (·.1)=none:=by rfl):PG X (.Tuple es k pos) (gTup X.K n t):=by
  intro pins s σ H v u Q I r hw
  obtain ⟨a,xs,e1,hq,hl,hw⟩:=hw
  subst e1
  cases r
  obtain ⟨its,rv,ht,hz⟩:=I.tuple hq
  refine assign_Tuple_tuple (I.ok.hd hc) ht (by simp [hn,← hl,rv.length]) hst fun h' hx=>?_
  have I1:Inv X pins σ H { s with heap:=h' }:=I.kept (t':=s.toks) fun b o e=>hx b o (Nat.ne_of_lt (Heap.lt_size e)) e
  exact h pins _ σ H xs _ Q I1 (by simpa using rv) hw
def gSub (to ti:TE) (t:TSet):TG:=fun v σ H Q=>to σ H fun o H1=>ti σ H1 fun i H2=>t o i v H2 fun H3=>Q σ H3
theorem pg_sub {o i:Expr} {to ti:TE} {t:TSet} (ho:PE X o to) (hi:PE X i ti) (hs:PSet X t)
    (ha:∀ v,assign (.Subscript o i pos) X.env v=(do
      let ov ← holding [v] (eval o X.env)
      let iv ← holding [v,ov] (eval i X.env)
      standAt pos
      holding [v,ov,iv] (setItem ov iv v)
      release [v,ov,iv] []):=by intro _; rfl):PG X (.Subscript o i pos) (gSub to ti t):=by
  intro pins s σ H v u Q I r h
  rw [ha]
  refine wpAny_bind (wpAny_holding (thn (ho pins s σ H _ I h) fun ov s1 ⟨x,H1,I1,r1,q1⟩=>?_))
  refine wpAny_bind (wpAny_holding (thn (hi pins s1 σ H1 _ I1 q1) fun iv s2 ⟨y,H2,I2,r2,q2⟩=>?_))
  refine wpAny_bind (wpAny_standAt (wpAny_bind (wpAny_holding (thn (hs pins s2 σ H2 x y v ov iv u _ I2 r1 r2 r q2) fun _ s3 ⟨H3,I3,q3⟩=>?_))))
  exact wpAny_release ⟨σ,H3,I3,q3⟩
def tAsg (te:TE) (g:TG):TS:=fun D σ H=>te σ H fun x H1=>g x σ H1 D.nx
theorem ps_asg {tg e:Expr} {te:TE} {g:TG} (he:PE X e te) (hg:PG X tg g) (hs:swapsWithSole [tg] e pos.line X.env=pure false:=by rfl) (hw:swappedStores [tg] e X.env=pure none:=by rfl)
    (h1:(assignEach [tg] X.env).map (·.2)=[assign tg X.env]:=by rfl):PS X (.Assign [tg] e pos) (tAsg te g):=by
  intro pins s σ H D I h
  refine wpAny_Assign_stores (thn (he pins s σ H _ I h) fun v s1 ⟨x,H1,I1,r1,q1⟩=>?_) hs hw
  rw [h1]
  exact thn (hg pins s1 σ H1 x v _ I1 r1 q1) fun _ s2 q=>q
theorem ps_set {i:Nat} {x:Str} {e:Expr} {te:TE} {pos':Pos} (hN:X.N.Nodup) (hi:X.N[i]?=some x) (hx:Loc X.env.scope x) (he:PE X e te) (hs:swapsWith e (some (.Name x pos')) pos.line X.env=pure false:=by rfl) (hf:X.fn x=true∨X.env.scope.names.lookup x=some .local:=by first | exact .inl rfl | exact .inr rfl | assumption) :
    PS X (.Assign [.Name x pos'] e pos) (tAsg te (gName i)):=by
  intro pins s σ H D I h
  refine wpAny_Assign_Name (thn (he pins s σ H _ I h) fun v s1 ⟨y,H1,I1,r1,q1⟩=>?_) hs
  exact store_ok I1 hN hi hx r1 (fun s2 I2=>⟨_,H1,I2,q1⟩) hf
def tPar (i j:Nat) (ta:TA):TS:=fun D σ H=>ta σ H fun vs H1=>∃ v w,vs=[v,w]∧D.nx ((σ.set i (some v)).set j (some w)) H1
theorem ps_par {i j:Nat} {x y:Str} {a b:Expr} {ta:TA} {px py pt:Pos} {kt k2 pt2} (hc:X.calm=true) (hN:X.N.Nodup) (hi:X.N[i]?=some x) (hj:X.N[j]?=some y) (hij:i≠j)
    (hx:X.env.scope.names.lookup x=some .local) (hy:X.env.scope.names.lookup y=some .local) (ha:PA X [a,b] ta)
    (hw:swappedStores [.Tuple [.Name x px,.Name y py] kt pt] (.Tuple [a,b] k2 pt2) X.env=pure (some [x,y]))
    (hs:swapsWithSole [.Tuple [.Name x px,.Name y py] kt pt] (.Tuple [a,b] k2 pt2) pos.line X.env=pure false:=by rfl) :
    PS X (.Assign [.Tuple [.Name x px,.Name y py] kt pt] (.Tuple [a,b] k2 pt2) pos) (tPar i j ta):=by
  intro pins s σ H D I h
  rw [exec_Assign_arm]
  refine wpAny_bind (wpAny_standAt ?_)
  rw [hs]
  refine wpAny_bind (wpAny_pure ?_)
  rw [if_neg (by decide)]
  refine wpAny_bind (Tuple_ (thn (ha _ pins s σ H _ I h) fun us s1 ⟨vs,H1,I1,r1,q1⟩=>?_))
  obtain ⟨v,w,e1,q1⟩:=q1
  subst e1
  obtain ⟨u1,u2,rfl,rv,rw'⟩:∃ u1 u2,us=[u1,u2]∧RelV v u1∧RelV w u2:=by
    cases r1 with
    | cons p q =>
      cases q with
      | cons p' q' =>
        cases q'
        exact ⟨_,_,rfl,p,p'⟩
  refine wpAny_newObj_type ?_ (by show 2≤sizeLine; decide)
  have I2:Inv X pins σ H1 { s1 with heap:=s1.heap.push { cls:=.type "tuple",data:=.seq [u1,u2].toArray } }:=I1.kept (t':=s1.toks) fun b o e=>Heap.get?_push_of_some _ e
  rw [hw]
  refine wpAny_bind (wpAny_pure ?_)
  show wpAny (model X.prog X.w) X.A (do rule "assign.swapped-stores"; let items ← unpackItems (.ref s1.heap.objs.size) 2 none; assignInOrder [fun v=>bindName X.env y v,fun v=>bindName X.env x v] items.reverse; pure Flow.next) _ _ _
  refine wpAny_bind (wpAny_rule (wpAny_bind (unpackItems_tuple (items:=#[u1,u2]) (I.ok.hd hc) (IsTup.new s1.heap _) fun h' hx'=>?_)))
  have I3:=I2.kept (h':=h') (t':=s1.toks) fun b o e=>hx' b o (Nat.ne_of_lt (Heap.lt_size e)) e
  show wpAny _ _ (assignInOrder [fun v=>bindName X.env y v,fun v=>bindName X.env x v] [u2,u1] >>= fun _=>pure Flow.next) _ _ _
  refine wpAny_bind (assignInOrder_cons (wpAny_bindName (store_ok I3 hN hj (.inl hy) rw' (fun s2 I4=>?_) (.inr hy))))
  refine assignInOrder_cons (wpAny_bindName (store_ok I4 hN hi (.inl hx) rv (fun s3 I5=>assignInOrder_nil (wpAny_pure ?_)) (.inr hx)))
  rw [List.set_comm _ _ (Ne.symm hij)] at I5
  exact ⟨_,H1,I5,q1⟩
end
section
variable {X:Cx} {pos:Pos}
def tWhile (c:TT) (tb:TS):TS:=fun D σ H=>∃ W:Nat→St→Hp→Prop,(∃ m,W m σ H)∧∀ m σ H,W m σ H →
  c σ H fun b H1=>if b=true then ∃ N:St→Hp→Prop,(∀ σ' H',N σ' H'→∃ m',m' < m∧W m' σ' H')∧tb { D with nx:=N,ct:=N,bk:=D.nx } σ H1 else D.nx σ H1
theorem ps_while {c:Expr} {body:List Stmt} {tc:TT} {tb:TS} (hp:PassesOwn (model X.prog X.w) X.A X.env X.xe) (hc:PT X c tc) (hb:PSs X body tb):PS X (.While c body [] pos) (tWhile tc tb):=by
  intro pins s σ H D I h
  obtain ⟨W,⟨m0,w0⟩,turn⟩:=h
  refine wpAny_While (codeAny_whileLoop (fun n s'=>∃ σ' H',Inv X pins σ' H' s'∧W n σ' H') ?_ m0 ⟨σ,H,I,w0⟩)
  rintro n s1 ⟨σ1,H1,I1,w1⟩
  refine wpAny_passesOwn hp (thn (hc pins s1 σ1 H1 _ I1 (turn n σ1 H1 w1)) fun b s2 ⟨H2,I2,q2⟩=>?_)
  cases b with
  | true =>
    obtain ⟨N,hN,q2⟩:=q2
    rw [if_pos rfl]
    refine wpAny_passesOwn hp (thn (hb pins s2 σ1 H2 _ I2 q2) fun f s3 q3=>?_)
    cases f with
    | next =>
      obtain ⟨σ3,H3,I3,n3⟩:=q3
      obtain ⟨m',hm,w3⟩:=hN σ3 H3 n3
      exact ⟨m',hm,σ3,H3,I3,w3⟩
    | cont =>
      obtain ⟨σ3,H3,I3,n3⟩:=q3
      obtain ⟨m',hm,w3⟩:=hN σ3 H3 n3
      exact ⟨m',hm,σ3,H3,I3,w3⟩
    | brk=>exact q3
    | ret v=>exact q3
  | false =>
    rw [if_neg Bool.false_ne_true]
    exact wpAny_execs_nil ⟨σ1,H2,I2,q2⟩
end
structure It where
  go:Nat→Hp→Prop
  yld:Nat→Hp→V→Hp→Prop
  stop:Nat→Hp→Prop
def FpOk (X:Cx) (pins:List (Addr × Obj)) (H:Hp) (b:Addr):Prop :=
  H b=none∧b≠X.env.locals∧b ∉ X.fs∧(b∈X.ex∨X.s₀.heap.objs.size≤b)∧(∀ x c,X.env.cells.lookup x=some c→c≠b)∧∀ p∈X.pn++pins,p.1≠b
theorem Inv.fpOk {X:Cx} {pins:List (Addr × Obj)} {σ:St} {H H':Hp} {s:Shared} {b:Addr} (I:Inv X pins σ H s) (hb:s.heap.objs.size≤b) (hn:H' b=none):FpOk X pins H' b:=by
  refine ⟨hn,Nat.ne_of_gt (Nat.lt_of_lt_of_le I.lt hb),I.nofs hb,.inr (Nat.le_trans I.sz hb),fun x c e z=>?_,fun p hp z=>?_⟩
  · obtain ⟨v,q⟩:=I.cell x c e
    exact absurd (Nat.lt_of_lt_of_le q.lt (by rw [z]; exact hb)) (Nat.lt_irrefl _)
  · exact absurd (Nat.lt_of_lt_of_le (Heap.lt_size (I.pin p hp).1) (by rw [z]; exact hb)) (Nat.lt_irrefl _)
structure Turn (P:Program) (w:World) (K:PySem.W.Frag) (tg:Expr) (J:It) (fp:List Addr) (it:Addr) (tn:Nat→Heap→Prop):Prop where
  mem:it∈fp
  obj:∀ i h,tn i h→∀ b∈fp,∃ o,h.get? b=some o∧∀ v,o.data ≠ .cell v
  keep:∀ i h h',tn i h→(∀ b∈fp,∀ o,h.get? b=some o→h'.get? b=some o)→tn i h'
  item:∀ (X:Cx),X.prog=P→X.w=w→X.K=K→X.calm=true→∀ (i:Nat) (pins:List (Addr × Obj)) (s:Shared) (σ:St) (H:Hp) (E:Value→Shared→Prop),Inv X pins σ H s→(∀ b∈fp,FpOk X pins H b)→tn i s.heap→J.go i H →
    wpAny (model P w) X.A (pyNext (.ref it)) (fun r s1=>∃ u,r=some u ∧
      wpAny (model P w) X.A (letOwnedTupleGo tg (.ref it) u) (fun _ s2=>∃ x H',Inv X pins σ H' s2∧RelV x u∧J.yld i H x H'∧tn (i+1) s2.heap∧∀ b∈fp,H' b=none) E s1) E s
  done:∀ (X:Cx),X.prog=P→X.w=w→X.K=K→X.calm=true→∀ (i:Nat) (pins:List (Addr × Obj)) (s:Shared) (σ:St) (H:Hp) (E:Value→Shared→Prop),Inv X pins σ H s→(∀ b∈fp,FpOk X pins H b)→tn i s.heap→J.stop i H →
    wpAny (model P w) X.A (pyNext (.ref it)) (fun r s1=>r=none∧Inv X pins σ H s1) E s
  self:∀ (A:Around) (i:Nat) (s:Shared) (Q:Value→Shared→Prop) (E:Value→Shared→Prop),tn i s.heap→Q (.ref it) s→wpAny (model P w) A (pyIter (.ref it)) Q E s
abbrev TI:=St→Hp→(It→Hp→Prop)→Prop
def PIE (X:Cx) (pins:List (Addr × Obj)) (σ:St) (tg:Expr) (R:It→Hp→Prop) (itv:Value) (s2:Shared):Prop :=
  ∃ (it:Addr) (fp:List Addr) (tn:Nat→Heap→Prop) (J:It) (H':Hp),itv=.ref it∧Inv X pins σ H' s2∧Turn X.prog X.w X.K tg J fp it tn∧tn 0 s2.heap∧(∀ b∈fp,FpOk X pins H' b)∧R J H'
def PI (X:Cx) (tg iter:Expr) (wi:TI):Prop :=
  ∀ (pins:List (Addr × Obj)) (s:Shared) (σ:St) (H:Hp) (R:It→Hp→Prop),Inv X pins σ H s→wi σ H R →
    wpAny (model X.prog X.w) X.A (eval iter X.env) (fun v s1=>wpAny (model X.prog X.w) X.A (pyIter v) (PIE X pins σ tg R) X.xe s1) X.xe s
theorem go_of {M:Model} {A:Around} {E:Value→Shared→Prop} {s:Shared} {tg:Expr} {it:Addr} {u:Value} {o:Obj} {n:String} {vs:Array Value} {Q:Unit→Shared→Prop} (ho:s.heap.get? it=some o) (hc:o.cls=.type n) (hd:o.data=.fields vs)
    (hn:["enumerate", "zip", "dict_itemiterator", "dict_reverseitemiterator", "odict_iterator", "itertools.zip_longest", "itertools.pairwise"].contains n=false) (hQ:Q () s):wpAny M A (letOwnedTupleGo tg (.ref it) u) Q E s:=by
  unfold letOwnedTupleGo
  cases tg <;> first
    | exact wpAny_pure hQ
    | (cases u <;> first
        | exact wpAny_pure hQ
        | (refine wpAny_bind (wpAny_load ho ?_)
           rw [hc,hd]
           show wpAny M A (if (["enumerate", "zip", "dict_itemiterator", "dict_reverseitemiterator", "odict_iterator", "itertools.zip_longest", "itertools.pairwise"].contains n&&vs[0]? == some (rawInt _))=true then _ else _) Q E s
           rw [if_neg (by intro h; rw [hn,Bool.false_and] at h; cases h)]
           exact wpAny_pure hQ))
def Itl (K:PySem.W.Frag) (a:Addr):It :=
  ⟨fun i H=>∃ xs x,SqL K H a xs∧xs[i]?=some x,fun i H x H'=>H'=H∧∀ xs,SqL K H a xs→xs[i]?=some x,fun i H=>∃ xs,SqL K H a xs∧xs.length≤i⟩
def Itt (K:PySem.W.Frag) (a:Addr):It :=
  ⟨fun i H=>∃ xs x,SqT K H a xs∧xs[i]?=some x,fun i H x H'=>H'=H∧∀ xs,SqT K H a xs→xs[i]?=some x,fun i H=>∃ xs,SqT K H a xs∧xs.length≤i⟩
def Itr (lo:Int) (n:Nat):It:=⟨fun i _=>i<n,fun i H x H'=>H'=H∧x=.int (lo+i),fun i _=>n≤i⟩
theorem turn_list {P:Program} {w:World} {K:PySem.W.Frag} {tg:Expr} (a it:Addr):Turn P w K tg (Itl K a) [it] it (fun i h=>h.IsListIter it a i) where
  mem:=by simp
  obj:=fun i h st b hb=>by
    have e:b=it:=by simpa using hb
    subst e
    obtain ⟨o,e,c,d⟩:=st
    exact ⟨o,e,fun v z=>by rw [d] at z; cases z⟩
  keep:=fun i h h' st k=>st.at fun o e=>k it (by simp) o e
  item:=by
    intro X hP hw hK hc i pins s σ H E I hf st hg
    subst hP hw hK
    obtain ⟨xs,x,hq,hx⟩:=hg
    obtain ⟨its,rv,p,hz⟩:=I.list hq
    obtain ⟨u,hu,ru⟩:=rv.get hx
    obtain ⟨f0,f1,f2,f3,f4,f5⟩:=hf it (by simp)
    refine wpAny_pyNext_list_item st p.isList (x:=u) (by simpa using hu) fun h' st' sb=>?_
    have I1:Inv X pins σ H { s with heap:=h' }:=I.turned (t':=s.toks) (fun b o hb e=>(sb.2 b hb).trans e) f0 f1 f3 f4 f5
    obtain ⟨o,e,c,d⟩:=id st'
    exact ⟨u,rfl,go_of (s:={ s with heap:=h' }) e c d (by decide) ⟨x,H,I1,ru,⟨rfl,fun ys hy=>by rw [I.list_inj hy hq]; exact hx⟩,st',fun b hb=>(hf b hb).1⟩⟩
  done:=by
    intro X hP hw hK hc i pins s σ H E I hf st hg
    subst hP hw hK
    obtain ⟨xs,hq,hx⟩:=hg
    obtain ⟨its,rv,p,hz⟩:=I.list hq
    obtain ⟨f0,f1,f2,f3,f4,f5⟩:=hf it (by simp)
    have hl:=rv.length
    exact wpAny_pyNext_list_end (I.ok.hd hc) st p.isList (by simp; omega) fun h' eb=>⟨rfl,I.turned (t':=s.toks) (fun b o hb e=>eb b o hb e) f0 f1 f3 f4 f5⟩
  self:=fun _ _ _ _ _ st h=>wpAny_pyIter_listiter st h
theorem turn_tuple {P:Program} {w:World} {K:PySem.W.Frag} {tg:Expr} (a it:Addr):Turn P w K tg (Itt K a) [it] it (fun i h=>h.IsTupleIter it a i) where
  mem:=by simp
  obj:=fun i h st b hb=>by
    have e:b=it:=by simpa using hb
    subst e
    obtain ⟨o,e,c,d⟩:=st
    exact ⟨o,e,fun v z=>by rw [d] at z; cases z⟩
  keep:=fun i h h' st k=>st.at fun o e=>k it (by simp) o e
  item:=by
    intro X hP hw hK hc i pins s σ H E I hf st hg
    subst hP hw hK
    obtain ⟨xs,x,hq,hx⟩:=hg
    obtain ⟨its,rv,p,hz⟩:=I.tuple hq
    obtain ⟨u,hu,ru⟩:=rv.get hx
    obtain ⟨f0,f1,f2,f3,f4,f5⟩:=hf it (by simp)
    refine wpAny_pyNext_tuple_item st (show s.heap.IsTuple a its.toArray from p) (x:=u) (by simpa using hu) fun h' st' sb=>?_
    have I1:Inv X pins σ H { s with heap:=h' }:=I.turned (t':=s.toks) (fun b o hb e=>(sb.2 b hb).trans e) f0 f1 f3 f4 f5
    obtain ⟨o,e,c,d⟩:=id st'
    exact ⟨u,rfl,go_of (s:={ s with heap:=h' }) e c d (by decide) ⟨x,H,I1,ru,⟨rfl,fun ys hy=>by rw [I.tuple_inj hy hq]; exact hx⟩,st',fun b hb=>(hf b hb).1⟩⟩
  done:=by
    intro X hP hw hK hc i pins s σ H E I hf st hg
    subst hP hw hK
    obtain ⟨xs,hq,hx⟩:=hg
    obtain ⟨its,rv,p,hz⟩:=I.tuple hq
    obtain ⟨f0,f1,f2,f3,f4,f5⟩:=hf it (by simp)
    have hl:=rv.length
    exact wpAny_pyNext_tuple_end (I.ok.hd hc) st (show s.heap.IsTuple a its.toArray from p) (by simp; omega) fun h' eb=>⟨rfl,I.turned (t':=s.toks) (fun b o hb e=>eb b o hb e) f0 f1 f3 f4 f5⟩
  self:=fun _ _ _ _ _ st h=>wpAny_pyIter_tupleiter st h
theorem turn_range {P:Program} {w:World} {K:PySem.W.Frag} {tg:Expr} (it:Addr) (lo:Int) (n:Nat):Turn P w K tg (Itr lo n) [it] it (fun i h=>IsRangeIter h it (lo+(i:Nat)*1) ((n:Int) - (i:Nat)) 1) where
  mem:=by simp
  obj:=fun i h st b hb=>by
    have e:b=it:=by simpa using hb
    subst e
    exact ⟨_,st,fun v z=>by
      have z':Data.fields _=Data.cell v:=z
      cases z'⟩
  keep:=fun i h h' st k=>k it (by simp) _ st
  item:=by
    intro X hP hw hK hc i pins s σ H E I hf st hg
    subst hP hw hK
    obtain ⟨f0,f1,f2,f3,f4,f5⟩:=hf it (by simp)
    have W:=Walks.range (prog:=X.prog) (w:=X.w) (I.ok.hd hc) it lo 1 n
    refine W.item i s _ _ hg st fun v h' tk hv st' kk=>?_
    obtain ⟨t,rfl⟩:=hv
    have I1:Inv X pins σ H { s with heap:=h',toks:=tk }:=I.turned (fun b o hb e=>kk b o (by simpa using hb) e) f0 f1 f3 f4 f5
    refine ⟨_,rfl,go_of (s:={ s with heap:=h',toks:=tk }) (n := "range_iterator") st' rfl rfl (by decide) ⟨.int (lo+i),H,I1,⟨t,?_⟩,⟨rfl,rfl⟩,st',fun b hb=>(hf b hb).1⟩⟩
    rw [Int.mul_one]
  done:=by
    intro X hP hw hK hc i pins s σ H E I hf st hg
    subst hP hw hK
    obtain ⟨f0,f1,f2,f3,f4,f5⟩:=hf it (by simp)
    exact wpAny_pyNext_range_end (I.ok.hd hc) st (by have:n≤i:=hg; omega) fun h' eb=>⟨rfl,I.turned (t':=s.toks) (fun b o hb e=>eb b o hb e) f0 f1 f3 f4 f5⟩
  self:=fun _ _ _ _ _ st h=>wpAny_pyIter_rangeiter st h
end L2
namespace L2
open PySem PySem.Spec PyProof.Rows
section
variable {X:Cx} {tg:Expr}
def iList (K:PySem.W.Frag) (tl:TE):TI:=fun σ H R=>tl σ H fun x H1=>∃ a,x=.ref a∧(∃ xs,SqL K H1 a xs)∧R (Itl K a) H1
def iTup (K:PySem.W.Frag) (tl:TE):TI:=fun σ H R=>tl σ H fun x H1=>∃ a,x=.ref a∧(∃ xs,SqT K H1 a xs)∧R (Itt K a) H1
theorem pi_list {l:Expr} {tl:TE} (hl:PE X l tl):PI X tg l (iList X.K tl):=by
  intro pins s σ H R I h
  refine thn (hl pins s σ H _ I h) fun v s1 ⟨x,H1,I1,r1,q1⟩=>?_
  obtain ⟨a,e,⟨xs,hq⟩,q⟩:=q1
  subst e
  cases r1
  obtain ⟨its,rv,p,hz⟩:=I1.list hq
  refine wpAny_pyIter_list p.isList ?_
  refine ⟨s1.heap.objs.size,[s1.heap.objs.size],_,_,H1,rfl,I1.kept (t':=s1.toks) fun b o e=>Heap.get?_push_of_some _ e,turn_list a _,⟨_,Heap.get?_push_size _ rfl,rfl,rfl⟩,fun b hb=>?_,q⟩
  have e:b=s1.heap.objs.size:=by simpa using hb
  subst e
  exact I1.fpOk (Nat.le_refl _) (I1.hok.fresh (Nat.le_refl _))
theorem pi_tup {l:Expr} {tl:TE} (hl:PE X l tl):PI X tg l (iTup X.K tl):=by
  intro pins s σ H R I h
  refine thn (hl pins s σ H _ I h) fun v s1 ⟨x,H1,I1,r1,q1⟩=>?_
  obtain ⟨a,e,⟨xs,hq⟩,q⟩:=q1
  subst e
  cases r1
  obtain ⟨its,rv,p,hz⟩:=I1.tuple hq
  refine wpAny_pyIter_tuple (show s1.heap.IsTuple a its.toArray from p) ?_
  refine ⟨s1.heap.objs.size,[s1.heap.objs.size],_,_,H1,rfl,I1.kept (t':=s1.toks) fun b o e=>Heap.get?_push_of_some _ e,turn_tuple a _,⟨_,Heap.get?_push_size _ rfl,rfl,rfl⟩,fun b hb=>?_,q⟩
  have e:b=s1.heap.objs.size:=by simpa using hb
  subst e
  exact I1.fpOk (Nat.le_refl _) (I1.hok.fresh (Nat.le_refl _))
theorem range_it {pins:List (Addr × Obj)} {σ:St} {H:Hp} {s:Shared} {R:It→Hp→Prop} {E:Value→Shared→Prop} {lo hi:Int} {t u v:Tok} {tk:Nat} (I:Inv X pins σ H s) (h1:-(2^62)≤lo) (h2:lo<2^62) (h3:-(2^62)≤hi) (h4:hi<2^62)
    (q:R (Itr lo (hi - lo).toNat) H):wpAny (model X.prog X.w) X.A (pyIter (.ref s.heap.objs.size)) (PIE X pins σ tg R) E { s with heap:=s.heap.push { cls:=.type "range",data:=.fields #[.int lo t,.int hi u,.int 1 v] },toks:=tk }:=by
  refine wpAny_pyIter_range (IsRange.new ..) (small_one h1 h2 h3 h4) ?_
  have I1:Inv X pins σ H { s with heap:=s.heap.push { cls:=.type "range",data:=.fields #[.int lo t,.int hi u,.int 1 v] },toks:=tk }:=I.kept fun b o e=>Heap.get?_push_of_some _ e
  refine ⟨(s.heap.push { cls:=.type "range",data:=.fields #[.int lo t,.int hi u,.int 1 v] }).objs.size,[(s.heap.push { cls:=.type "range",data:=.fields #[.int lo t,.int hi u,.int 1 v] }).objs.size],_,_,H,rfl,
    I1.kept (t':=tk) fun b o e=>Heap.get?_push_of_some _ e,turn_range _ lo (hi - lo).toNat,?_,fun b hb=>?_,q⟩
  · have e1:lo+((0:Nat):Int)*1=lo:=by simp
    have e2:(((hi - lo).toNat:Nat):Int) - ((0:Nat):Int)=Builtin.Range.rangeSize lo hi 1:=by rw [rangeSize_one]; split <;> omega
    show IsRangeIter _ _ (lo+((0:Nat):Int)*1) ((((hi - lo).toNat:Nat):Int) - ((0:Nat):Int)) 1
    rw [e1,e2]
    exact Heap.get?_push_size _ rfl
  · have e:b=(s.heap.push { cls:=.type "range",data:=.fields #[.int lo t,.int hi u,.int 1 v] }).objs.size:=by simpa using hb
    subst e
    exact I1.fpOk (Nat.le_refl _) (I1.hok.fresh (Nat.le_refl _))
def iRng1 (ta:TA):TI:=fun σ H R=>ta σ H fun vs H1=>∃ j:Int,vs=[.int j]∧-(2^62)≤j∧j<2^62∧R (Itr 0 j.toNat) H1
theorem pi_range1 {a:Expr} {ta:TA} {p pos:Pos} (hg:Gl X "range") (hm:X.mg "range" = none) (ha:PA X [a] ta) (hs:starEach [a] X.env=[(false,eval a X.env)]:=by rfl):PI X tg (.Call (.Name "range" p) [a] [] pos) (iRng1 ta):=by
  intro pins s σ H R I h
  refine Call_ (ld_blt I hg hm boot_range (PyProof.Rows.callWith_type1 (thn (ha pos pins s σ H _ I h) fun us s1 ⟨vs,H1,I1,r1,q1⟩=>?_) hs rfl))
  obtain ⟨j,e,q1,q2,q⟩:=q1
  subst e
  cases r1 with
  | cons r rr =>
    cases rr
    obtain ⟨t,rfl⟩:=r
    exact call_range_1 (range_it I1 (by omega) (by omega) q1 q2 (by simpa using q))
def tFor (wi:TI) (g:TG) (tb:TS):TS:=fun D σ H=>wi σ H fun J H1=>∃ W:Nat→Nat→St→Hp→Prop,(∃ m,W 0 m σ H1)∧∀ i m σ H,W i m σ H →
  (J.stop i H∧D.nx σ H)∨(J.go i H∧∃ N:St→Hp→Prop,(∀ σ' H',N σ' H'→∃ m',m' < m∧W (i+1) m' σ' H')∧∀ x H',J.yld i H x H'→g x σ H' fun σ2 H2=>tb { D with nx:=N,ct:=N,bk:=D.nx } σ2 H2)
def pinsAt (fp:List Addr) (h:Heap):List (Addr × Obj):=fp.filterMap fun b=>(h.get? b).map fun o=>(b,o)
theorem mem_pinsAt {fp:List Addr} {h:Heap} {b:Addr} {o:Obj} (hb:b∈fp) (e:h.get? b=some o):(b,o)∈pinsAt fp h:=List.mem_filterMap.mpr ⟨b,hb,by rw [e]; rfl⟩
theorem of_pinsAt {fp:List Addr} {h:Heap} {p:Addr × Obj} (hp:p∈pinsAt fp h):p.1∈fp∧h.get? p.1=some p.2:=by
  obtain ⟨b,hb,e⟩:=List.mem_filterMap.mp hp
  cases q:h.get? b with
  | none=>rw [q] at e; cases e
  | some o =>
    rw [q] at e
    have e':(b,o)=p:=Option.some.inj e
    subst e'
    exact ⟨hb,q⟩
theorem Inv.pinned {pins:List (Addr × Obj)} {σ:St} {H:Hp} {s:Shared} {fp:List Addr} (I:Inv X pins σ H s) (hf:∀ b∈fp,FpOk X pins H b) (ho:∀ b∈fp,∃ o,s.heap.get? b=some o∧∀ v,o.data ≠ .cell v):Inv X (pins++pinsAt fp s.heap) σ H s :=
  I.pins_of fun p hp=>(List.mem_append.mp hp).elim (fun z=>I.pin p (List.mem_append_right _ z)) fun z=>by
    obtain ⟨hb,e⟩:=of_pinsAt z
    obtain ⟨f0,f1,f2,_⟩:=hf p.1 hb
    obtain ⟨o,e',d⟩:=ho p.1 hb
    rw [e] at e'; cases e'
    exact ⟨e,f0,f1,f2,d⟩
theorem Inv.unpinned {pins pl:List (Addr × Obj)} {σ:St} {H:Hp} {s:Shared} (I:Inv X (pins++pl) σ H s):Inv X pins σ H s:=I.pins_of fun p hp=>I.pin p (List.mem_append_right _ (List.mem_append_left _ hp))
theorem ps_for {iter:Expr} {body:List Stmt} {wi:TI} {g:TG} {tb:TS} {pos:Pos} (hp:PassesOwn (model X.prog X.w) X.A X.env X.xe) (hc:X.calm=true) (hi:PI X tg iter wi) (hg:PG X tg g) (hb:PSs X body tb)
    (hs:∀ x,foldedSetIterable iter X.env x=pure x:=by intro _; rfl):PS X (.For tg iter body [] pos) (tFor wi g tb):=by
  intro pins s σ H D I h
  refine wpAny_For (thn (hi pins s σ H _ I h) fun v s1 h1=>thn h1 fun itv s2 h2=>?_) hs
  obtain ⟨it,fp,tn,J,H2,e,I2,T,st2,f2,W,⟨m0,w0⟩,turn⟩:=h2
  subst e
  have stat:∀ {H':Hp},(∀ b∈fp,H' b=none)→∀ b∈fp,FpOk X pins H' b:=fun hn b hb=>⟨hn b hb,(f2 b hb).2⟩
  refine codeAny_forLoop_any (fun n s'=>∃ i σ' H',Inv X pins σ' H' s'∧tn i s'.heap∧(∀ b∈fp,H' b=none)∧W i n σ' H') ?_ m0 ⟨0,σ,H2,I2,st2,fun b hb=>(f2 b hb).1,w0⟩
  rintro n s3 ⟨i,σ3,H3,I3,st3,fr3,w3⟩
  rcases turn i n σ3 H3 w3 with ⟨stop,qn⟩ | ⟨go,N,hN,step⟩
  · refine wpAny_passesOwn hp (thn (T.done X rfl rfl rfl hc i pins s3 σ3 H3 X.xe I3 (stat fr3) st3 stop) fun r s4 ⟨hr,I4⟩=>?_)
    subst hr
    exact wpAny_execs_nil ⟨σ3,H3,I4,qn⟩
  · refine wpAny_passesOwn hp (thn (T.item X rfl rfl rfl hc i pins s3 σ3 H3 X.xe I3 (stat fr3) st3 go) fun r s4 ⟨u,hr,h4⟩=>?_)
    subst hr
    refine wpAny_passesOwn hp (thn h4 fun _ s5 ⟨x,H5,I5,r5,y5,st5,fr5⟩=>?_)
    have I5':=I5.pinned (stat fr5) (T.obj _ _ st5)
    refine wpAny_passesOwn hp (thn (hg _ s5 σ3 H5 x u _ I5' r5 (step x H5 y5)) fun _ s6 ⟨σ6,H6,I6,q6⟩=>?_)
    refine wpAny_passesOwn hp (thn (hb _ s6 σ6 H6 _ I6 q6) fun f s7 q7=>?_)
    have again:∀ {σ7:St} {H7:Hp},Inv X (pins++pinsAt fp s5.heap) σ7 H7 s7→N σ7 H7→∃ m,m<n∧∃ i σ' H',Inv X pins σ' H' s7∧tn i s7.heap∧(∀ b∈fp,H' b=none)∧W i m σ' H':=fun {σ7 H7} I7 n7=>by
      obtain ⟨m',hm,w7⟩:=hN σ7 H7 n7
      refine ⟨m',hm,i+1,σ7,H7,I7.unpinned,T.keep _ _ _ st5 fun b hb o e=>(I7.pin (b,o) (List.mem_append_right _ (List.mem_append_right _ (mem_pinsAt hb e)))).1,fun b hb=>?_,w7⟩
      obtain ⟨o,e,d⟩:=T.obj _ _ st5 b hb
      exact (I7.pin (b,o) (List.mem_append_right _ (List.mem_append_right _ (mem_pinsAt hb e)))).2.1
    cases f with
    | next=>obtain ⟨σ7,H7,I7,n7⟩:=q7; exact again I7 n7
    | cont=>obtain ⟨σ7,H7,I7,n7⟩:=q7; exact again I7 n7
    | brk=>obtain ⟨σ7,H7,I7,q7⟩:=q7; exact ⟨σ7,H7,I7.unpinned,q7⟩
    | ret v=>obtain ⟨x7,σ7,H7,I7,r7,q7⟩:=q7; exact ⟨x7,σ7,H7,I7.unpinned,r7,q7⟩
end
theorem for_list {K:PySem.W.Frag} {a:Addr} {xs:List V} {g:TG} {tb:TS} {D:Ends} {σ:St} {H:Hp} (Pv:Nat→St→Hp→Prop) (h0:Pv 0 σ H) (hl:∀ i σ H,i≤xs.length→Pv i σ H→SqL K H a xs)
    (hs:∀ i x σ H,xs[i]?=some x→Pv i σ H→g x σ H fun σ2 H2=>tb { D with nx:=Pv (i+1),ct:=Pv (i+1),bk:=D.nx } σ2 H2) (hd:∀ σ H,Pv xs.length σ H→D.nx σ H) :
    ∃ W:Nat→Nat→St→Hp→Prop,(∃ m,W 0 m σ H)∧∀ i m σ H,W i m σ H →
      ((Itl K a).stop i H∧D.nx σ H)∨((Itl K a).go i H∧∃ N:St→Hp→Prop,(∀ σ' H',N σ' H'→∃ m',m' < m∧W (i+1) m' σ' H')∧∀ x H',(Itl K a).yld i H x H'→g x σ H' fun σ2 H2=>tb { D with nx:=N,ct:=N,bk:=D.nx } σ2 H2):=by
  refine ⟨fun i m σ H=>m=xs.length - i∧i≤xs.length∧Pv i σ H,⟨xs.length,by simp,Nat.zero_le _,h0⟩,?_⟩
  rintro i m σ H ⟨rfl,hi,p⟩
  have q:=hl i σ H hi p
  by_cases hlt:i<xs.length
  · refine .inr ⟨⟨xs,xs[i],q,by simp [hlt]⟩,Pv (i+1),fun σ' H' p'=>⟨xs.length - (i+1),by omega,rfl,hlt,p'⟩,fun x H' y=>?_⟩
    obtain ⟨e,y⟩:=y
    subst e
    exact hs i x σ _ (y xs q) p
  · have e:i=xs.length:=by omega
    subst e
    exact .inl ⟨⟨xs,q,Nat.le_refl _⟩,hd σ H p⟩
theorem for_range {lo:Int} {n:Nat} {g:TG} {tb:TS} {D:Ends} {σ:St} {H:Hp} (Pv:Nat→St→Hp→Prop) (h0:Pv 0 σ H)
    (hs:∀ i σ H,i<n→Pv i σ H→g (.int (lo+i)) σ H fun σ2 H2=>tb { D with nx:=Pv (i+1),ct:=Pv (i+1),bk:=D.nx } σ2 H2) (hd:∀ σ H,Pv n σ H→D.nx σ H) :
    ∃ W:Nat→Nat→St→Hp→Prop,(∃ m,W 0 m σ H)∧∀ i m σ H,W i m σ H →
      ((Itr lo n).stop i H∧D.nx σ H)∨((Itr lo n).go i H∧∃ N:St→Hp→Prop,(∀ σ' H',N σ' H'→∃ m',m' < m∧W (i+1) m' σ' H')∧∀ x H',(Itr lo n).yld i H x H'→g x σ H' fun σ2 H2=>tb { D with nx:=N,ct:=N,bk:=D.nx } σ2 H2):=by
  refine ⟨fun i m σ H=>m=n - i∧i≤n∧Pv i σ H,⟨n,by simp,Nat.zero_le _,h0⟩,?_⟩
  rintro i m σ H ⟨rfl,hi,p⟩
  by_cases hlt:i<n
  · refine .inr ⟨hlt,Pv (i+1),fun σ' H' p'=>⟨n - (i+1),by omega,rfl,hlt,p'⟩,fun x H' y=>?_⟩
    obtain ⟨e,y⟩:=y
    subst e y
    exact hs i σ _ hlt p
  · have e:i=n:=by omega
    subst e
    exact .inl ⟨Nat.le_refl _,hd σ H p⟩
end L2
namespace L2
open PySem PySem.Spec PyProof.Rows
abbrev R2:=V→V→Hp→VK→Prop
def OpR (X:Cx) (f:Value→Value→Sem Value) (r:R2):Prop :=
  ∀ (pins:List (Addr × Obj)) (s:Shared) (σ:St) (H:Hp) (x y:V) (v u:Value) (Q:VK),Inv X pins σ H s→RelV x v→RelV y u→r x y H Q →
    wpAny (model X.prog X.w) X.A (f v u) (EP X pins σ Q) X.xe s
def UnR (X:Cx) (f:Value→Sem Value) (r:V→Hp→VK→Prop):Prop :=
  ∀ (pins:List (Addr × Obj)) (s:Shared) (σ:St) (H:Hp) (x:V) (v:Value) (Q:VK),Inv X pins σ H s→RelV x v→r x H Q →
    wpAny (model X.prog X.w) X.A (f v) (EP X pins σ Q) X.xe s
def CallR (X:Cx) (f:Value) (r:List V→Hp→VK→Prop):Prop :=
  ∀ (pins:List (Addr × Obj)) (s:Shared) (σ:St) (H:Hp) (xs:List V) (us:List Value) (Q:VK),Inv X pins σ H s→Vals xs us→r xs H Q →
    wpAny (model X.prog X.w) X.A (call f us) (EP X pins σ Q) X.xe s
def tOp (r:R2) (ta tb:TE):TE:=fun σ H Q=>ta σ H fun x H1=>tb σ H1 fun y H2=>r x y H2 Q
def tUn (r:V→Hp→VK→Prop) (ta:TE):TE:=fun σ H Q=>ta σ H fun x H1=>r x H1 Q
def rI (C:Int→Int→Prop) (g:Int→Int→V):R2:=fun x y H Q=>∃ i j,x=.int i∧y=.int j∧C i j∧Q (g i j) H
def rI0 (g:Int→Int→V):R2:=fun x y H Q=>∃ i j,x=.int i∧y=.int j∧Q (g i j) H
def rU (g:Int→V):V→Hp→VK→Prop:=fun x H Q=>∃ i,x=.int i∧Q (g i) H
section
variable {X:Cx} {a b c:Expr} {ta tb tc:TE} {pos:Pos}
theorem binT (ha:PE X a ta) (hb:PE X b tb) {pins:List (Addr × Obj)} {s:Shared} {σ:St} {H:Hp} {R:V→V→Hp→Prop} (I:Inv X pins σ H s)
    (h:ta σ H fun x H1=>tb σ H1 fun y H2=>R x y H2) {Q:Value→Shared→Prop} {f:Value→Value→Sem Value}
    (hf:∀ v u s2 x y H2,Inv X pins σ H2 s2→RelV x v→RelV y u→R x y H2→wpAny (model X.prog X.w) X.A (f v u) Q X.xe s2) :
    wpAny (model X.prog X.w) X.A (eval a X.env) (fun v s₁=>wpAny (model X.prog X.w) X.A (eval b X.env) (fun u s₂=>wpAny (model X.prog X.w) X.A (f v u) Q X.xe s₂) X.xe s₁) X.xe s:=by
  refine thn (ha pins s σ H _ I h) fun v s1 ⟨x,H1,I1,r1,q1⟩=>?_
  refine thn (hb pins s1 σ H1 _ I1 q1) fun u s2 ⟨y,H2,I2,r2,q2⟩=>?_
  exact hf v u s2 x y H2 I2 r1 r2 q2
theorem pe_op {op:Operator} {r:R2} (ho:OpR X (binaryOp op) r) (ha:PE X a ta) (hb:PE X b tb):PE X (.BinOp a op b pos) (tOp r ta tb):=by
  intro pins s σ H Q I h
  exact wpAny_BinOp (binT ha hb I h fun v u s2 x y H2 I2 rx ry q=>ho pins s2 σ H2 x y v u Q I2 rx ry q)
theorem pe_un {op:UnaryOp} {r:V→Hp→VK→Prop} (ho:UnR X (unaryOp op) r) (ha:PE X a ta):PE X (.UnaryOp op a pos) (tUn r ta):=by
  intro pins s σ H Q I h
  exact UnaryOp_ (thn (ha pins s σ H _ I h) fun v s1 ⟨x,H1,I1,r1,q1⟩=>ho pins s1 σ H1 x v Q I1 r1 q1)
theorem opI {f:Value→Value→Sem Value} {C:Int→Int→Prop} {g:Int→Int→Int}
    (rule:∀ (i j:Int) (t u:Tok) (s:Shared) (Q:Value→Shared→Prop) (E:Value→Shared→Prop),C i j→Q (.int (g i j) s.toks) { s with toks:=s.toks+1 }→wpAny (model X.prog X.w) X.A (f (.int i t) (.int j u)) Q E s) :
    OpR X f (rI C fun i j=>.int (g i j)):=by
  intro pins s σ H x y v u Q I rx ry h
  obtain ⟨i,j,rfl,rfl,hc,q⟩:=h
  obtain ⟨t,rfl⟩:=rx
  obtain ⟨t',rfl⟩:=ry
  exact rule i j t t' s _ _ hc ⟨.int (g i j),H,I.tok _,⟨_,rfl⟩,q⟩
theorem opI0 {f:Value→Value→Sem Value} {g:Int→Int→Int}
    (rule:∀ (i j:Int) (t u:Tok) (s:Shared) (Q:Value→Shared→Prop) (E:Value→Shared→Prop),Q (.int (g i j) s.toks) { s with toks:=s.toks+1 }→wpAny (model X.prog X.w) X.A (f (.int i t) (.int j u)) Q E s) :
    OpR X f (rI0 fun i j=>.int (g i j)):=by
  intro pins s σ H x y v u Q I rx ry h
  obtain ⟨i,j,rfl,rfl,q⟩:=h
  obtain ⟨t,rfl⟩:=rx
  obtain ⟨t',rfl⟩:=ry
  exact rule i j t t' s _ _ ⟨.int (g i j),H,I.tok _,⟨_,rfl⟩,q⟩
theorem opB0 {f:Value→Value→Sem Value} {g:Int→Int→Bool}
    (rule:∀ (i j:Int) (t u:Tok) (s:Shared) (Q:Value→Shared→Prop) (E:Value→Shared→Prop),Q (.bool (g i j)) s→wpAny (model X.prog X.w) X.A (f (.int i t) (.int j u)) Q E s) :
    OpR X f (rI0 fun i j=>.bl (g i j)):=by
  intro pins s σ H x y v u Q I rx ry h
  obtain ⟨i,j,rfl,rfl,q⟩:=h
  obtain ⟨t,rfl⟩:=rx
  obtain ⟨t',rfl⟩:=ry
  exact rule i j t t' s _ _ ⟨.bl (g i j),H,I,rfl,q⟩
def CPow (i j:Int):Prop:=0≤j∧j≤1000000∧i.natAbs<2^64
theorem op_add:OpR X (binaryOp .Add) (rI0 fun i j=>.int (i+j)):=opI0 fun _ _ _ _ _ _ _ q=>add_int q
theorem op_sub:OpR X (binaryOp .Sub) (rI0 fun i j=>.int (i - j)):=opI0 fun _ _ _ _ _ _ _ q=>sub_int q
theorem op_mod:OpR X (binaryOp .Mod) (rI (fun _ j=>0<j) fun i j=>.int (i % j)):=opI fun i j _ _ _ _ _ hc q=>by
  have h1:(0:Int)<j:=hc
  exact mod_int' (by omega) (by rw [Int.fmod_eq_emod_of_nonneg i (by omega)]; exact q)
theorem op_pow:OpR X (binaryOp .Pow) (rI CPow fun i j=>.int (i^j.toNat)):=opI fun _ _ _ _ _ _ _ hc q=>pow_int_small hc.1 hc.2.1 hc.2.2 q
theorem unI {f:Value→Sem Value} {g:Int→Int}
    (rule:∀ (i:Int) (t:Tok) (s:Shared) (Q:Value→Shared→Prop) (E:Value→Shared→Prop),Q (.int (g i) s.toks) { s with toks:=s.toks+1 }→wpAny (model X.prog X.w) X.A (f (.int i t)) Q E s) :
    UnR X f (rU fun i=>.int (g i)):=by
  intro pins s σ H x v Q I rx h
  obtain ⟨i,rfl,q⟩:=h
  obtain ⟨t,rfl⟩:=rx
  exact rule i t s _ _ ⟨.int (g i),H,I.tok _,⟨_,rfl⟩,q⟩
theorem un_neg:UnR X (unaryOp .USub) (rU fun i=>.int (-i)):=unI fun _ _ _ _ _ q=>neg_int q
end
def scal:V→V→Bool
  | .non,.non=>true | .non,.int _=>true | .int _,.non=>true | .non,.bl _=>true | .bl _,.non=>true | .non,.str _=>true | .str _,.non=>true
  | .int _,.int _=>true | .bl _,.bl _=>true | .str _,.str _=>true | .byt _,.byt _=>true
  | .int _,.str _=>true | .str _,.int _=>true | .bl _,.str _=>true | .str _,.bl _=>true
  | _,_=>false
def rEq:R2:=fun x y H Q=>scal x y=true∧Q (.bl (decide (x=y))) H
def rNe:R2:=fun x y H Q=>scal x y=true∧Q (.bl (!decide (x=y))) H
theorem dec_int {i j:Int}:decide (V.int i=V.int j)=(i == j):=by
  rw [Bool.eq_iff_iff]
  simp
theorem dec_bl {i j:Bool}:decide (V.bl i=V.bl j)=(i == j):=by
  rw [Bool.eq_iff_iff]
  simp
theorem dec_str {i j:Str}:decide (V.str i=V.str j)=(i == j):=by
  rw [Bool.eq_iff_iff]
  simp
theorem dec_byt {i j:Array UInt8}:decide (V.byt i=V.byt j)=(i.toList == j.toList):=by
  rw [Bool.eq_iff_iff]
  cases i
  cases j
  simp
section
variable {X:Cx} {a b c:Expr} {ta tb tc:TE} {pos:Pos}
theorem fin_bl {pins:List (Addr × Obj)} {σ:St} {H:Hp} {s:Shared} {Q:VK} {k k':Bool} (I:Inv X pins σ H s) (q:Q (.bl k) H) (e:k=k'):EP X pins σ Q (.bool k') s:=by
  subst e
  exact ⟨.bl k,H,I,rfl,q⟩
theorem op_eq:OpR X (compareOp .Eq) rEq:=by
  intro pins s σ H x y v u Q I rx ry h
  obtain ⟨hs,q⟩:=h
  cases x with
  | non =>
    cases rx
    cases y with
    | non=>cases ry; exact PySem.EqNone.eq_none_none (fin_bl I q (by simp))
    | bl j=>cases ry; exact PySem.EqNone.eq_none_bool (fin_bl I q (by simp))
    | int j=>obtain ⟨t',rfl⟩:=ry; exact PySem.EqNone.eq_none_int (fin_bl I q (by simp))
    | str j=>obtain ⟨t',rfl⟩:=ry; exact PySem.EqNone.eq_none_str (fin_bl I q (by simp))
    | _=>exact absurd (show false=true from hs) Bool.false_ne_true
  | bl i =>
    cases rx
    cases y with
    | non=>cases ry; exact PySem.EqNone.eq_bool_none (fin_bl I q (by simp))
    | bl j=>cases ry; exact eq_bool (fin_bl I q dec_bl)
    | str j=>obtain ⟨t',rfl⟩:=ry; exact PySem.EqMixed.eq_bool_str (fin_bl I q (by simp))
    | _=>exact absurd (show false=true from hs) Bool.false_ne_true
  | int i =>
    obtain ⟨t,rfl⟩:=rx
    cases y with
    | non=>cases ry; exact PySem.EqNone.eq_int_none (fin_bl I q (by simp))
    | int j=>obtain ⟨t',rfl⟩:=ry; exact eq_int (fin_bl I q dec_int)
    | str j=>obtain ⟨t',rfl⟩:=ry; exact PySem.EqMixed.eq_int_str (fin_bl I q (by simp))
    | _=>exact absurd (show false=true from hs) Bool.false_ne_true
  | str i =>
    obtain ⟨t,rfl⟩:=rx
    cases y with
    | non=>cases ry; exact PySem.EqNone.eq_str_none (fin_bl I q (by simp))
    | bl j=>cases ry; exact PySem.EqMixed.eq_str_bool (fin_bl I q (by simp))
    | int j=>obtain ⟨t',rfl⟩:=ry; exact PySem.EqMixed.eq_str_int (fin_bl I q (by simp))
    | str j=>obtain ⟨t',rfl⟩:=ry; exact eq_str (fin_bl I q dec_str)
    | _=>exact absurd (show false=true from hs) Bool.false_ne_true
  | byt i =>
    obtain ⟨t,rfl⟩:=rx
    cases y with
    | byt j=>obtain ⟨t',rfl⟩:=ry; exact PySem.W.eq_bytes (fin_bl I q dec_byt)
    | _=>exact absurd (show false=true from hs) Bool.false_ne_true
  | _=>cases y <;> exact absurd (show false=true from hs) Bool.false_ne_true
theorem op_ne:OpR X (compareOp .NotEq) rNe:=by
  intro pins s σ H x y v u Q I rx ry h
  obtain ⟨hs,q⟩:=h
  cases x with
  | non =>
    cases rx
    cases y with
    | non=>cases ry; exact PySem.EqNone.ne_none_none (fin_bl I q (by simp))
    | bl j=>cases ry; exact PySem.EqNone.ne_none_bool (fin_bl I q (by simp))
    | int j=>obtain ⟨t',rfl⟩:=ry; exact PySem.EqNone.ne_none_int (fin_bl I q (by simp))
    | str j=>obtain ⟨t',rfl⟩:=ry; exact PySem.EqNone.ne_none_str (fin_bl I q (by simp))
    | _=>exact absurd (show false=true from hs) Bool.false_ne_true
  | bl i =>
    cases rx
    cases y with
    | non=>cases ry; exact PySem.EqNone.ne_bool_none (fin_bl I q (by simp))
    | bl j=>cases ry; exact ne_bool (fin_bl I q (congrArg not dec_bl))
    | str j=>obtain ⟨t',rfl⟩:=ry; exact PySem.EqMixed.ne_bool_str (fin_bl I q (by simp))
    | _=>exact absurd (show false=true from hs) Bool.false_ne_true
  | int i =>
    obtain ⟨t,rfl⟩:=rx
    cases y with
    | non=>cases ry; exact PySem.EqNone.ne_int_none (fin_bl I q (by simp))
    | int j=>obtain ⟨t',rfl⟩:=ry; exact ne_int (fin_bl I q (congrArg not dec_int))
    | str j=>obtain ⟨t',rfl⟩:=ry; exact PySem.EqMixed.ne_int_str (fin_bl I q (by simp))
    | _=>exact absurd (show false=true from hs) Bool.false_ne_true
  | str i =>
    obtain ⟨t,rfl⟩:=rx
    cases y with
    | non=>cases ry; exact PySem.EqNone.ne_str_none (fin_bl I q (by simp))
    | bl j=>cases ry; exact PySem.EqMixed.ne_str_bool (fin_bl I q (by simp))
    | int j=>obtain ⟨t',rfl⟩:=ry; exact PySem.EqMixed.ne_str_int (fin_bl I q (by simp))
    | str j=>obtain ⟨t',rfl⟩:=ry; exact ne_str (fin_bl I q (congrArg not dec_str))
    | _=>exact absurd (show false=true from hs) Bool.false_ne_true
  | byt i =>
    obtain ⟨t,rfl⟩:=rx
    cases y with
    | byt j=>obtain ⟨t',rfl⟩:=ry; exact PySem.W.ne_bytes (fin_bl I q (congrArg not dec_byt))
    | _=>exact absurd (show false=true from hs) Bool.false_ne_true
  | _=>cases y <;> exact absurd (show false=true from hs) Bool.false_ne_true
theorem op_gt:OpR X (compareOp .Gt) (rI0 fun i j=>.bl (decide (j<i))):=opB0 fun _ _ _ _ _ _ _ q=>gt_int q
theorem op_isN:OpR X (compareOp .Is) (fun x y H Q=>y=.non∧Q (.bl (decide (x=.non))) H):=by
  intro pins s σ H x y v u Q I rx ry h
  obtain ⟨rfl,q⟩:=h
  cases ry
  refine is_none_gen (fin_bl I q ?_)
  cases x <;> first
    | (cases rx; rfl)
    | (obtain ⟨t,rfl⟩:=rx; rfl)
theorem nomark (b:Expr) {op:CmpOp} (h:op ≠ .In:=by decide) (h2:op ≠ .NotIn:=by decide):behindInMarks op b=false:=by
  have e1:(op == CmpOp.In)=false:=by cases op <;> first | rfl | exact absurd rfl h
  have e2:(op == CmpOp.NotIn)=false:=by cases op <;> first | rfl | exact absurd rfl h2
  cases b <;> simp [behindInMarks,e1,e2]
theorem pe_cmpR {op:CmpOp} {r:R2} (ho:OpR X (compareOp op) r) (ha:PE X a ta) (hb:PE X b tb) (hm:behindInMarks op b=false):PE X (.Compare a [op] [b] pos) (tOp r ta tb):=by
  intro pins s σ H Q I h
  exact wpAny_Compare1 (binT ha hb I h fun v u s2 x y H2 I2 rx ry q=>ho pins s2 σ H2 x y v u Q I2 rx ry q) hm
def tTest (t:TE):TT:=fun σ H Q=>t σ H fun x H'=>∃ k,x=.bl k∧Q k H'
theorem pt_cmpR {op:CmpOp} {r:R2} (ho:OpR X (compareOp op) r) (ha:PE X a ta) (hb:PE X b tb) (hm:behindInMarks op b=false):PT X (.Compare a [op] [b] pos) (tTest (tOp r ta tb)):=by
  intro pins s σ H Q I h
  refine wpAny_isTrue_Compare1 (thn (ha pins s σ H _ I h) fun v s1 ⟨x,H1,I1,r1,q1⟩=>thn (hb pins s1 σ H1 _ I1 q1) fun u s2 ⟨y,H2,I2,r2,q2⟩ =>
    thn (ho pins s2 σ H2 x y v u _ I2 r1 r2 q2) fun c s3 ⟨z,H3,I3,r3,k,e,q3⟩=>?_) hm
  subst e
  cases r3
  exact wpAny_truthy_bool ⟨H3,I3,q3⟩
theorem line63:(sizeLine:Nat)<2^63:=by rw [sizeLine_eq]; decide
theorem vals1 {x:V} {us:List Value} (r:Vals [x] us):∃ u,us=[u]∧RelV x u:=by
  cases r with
  | cons r1 r2=>cases r2; exact ⟨_,rfl,r1⟩
theorem vals2 {x y:V} {us:List Value} (r:Vals [x,y] us):∃ u w',us=[u,w']∧RelV x u∧RelV y w':=by
  cases r with
  | cons r1 r2 =>
    cases r2 with
    | cons r3 r4=>cases r4; exact ⟨_,_,rfl,r1,r3⟩
theorem call_abs:CallR X (.builtin "abs") (fun xs H Q=>∃ i,xs=[.int i]∧Q (.int (if i<0 then -i else i)) H):=by
  intro pins s σ H xs us Q I r h
  obtain ⟨i,rfl,q⟩:=h
  obtain ⟨u,rfl,t,rfl⟩:=vals1 r
  exact call_abs_int fun u tk=>⟨.int (if i<0 then -i else i),H,I.tok _,⟨_,rfl⟩,q⟩
theorem call_max2 (hc:X.calm=true):CallR X (.builtin "max") (fun xs H Q=>∃ i j,xs=[.int i,.int j]∧Q (.int (if j > i then j else i)) H):=by
  intro pins s σ H xs us Q I r h
  obtain ⟨i,j,rfl,q⟩:=h
  obtain ⟨u,w',rfl,⟨t,rfl⟩,⟨t',rfl⟩⟩:=vals2 r
  refine max_two_ints (I.ok.hd hc) fun h' tk k=>⟨_,H,I.kept k,?_,q⟩
  by_cases hj:j > i
  · rw [if_pos hj,if_pos hj]; exact ⟨_,rfl⟩
  · rw [if_neg hj,if_neg hj]; exact ⟨_,rfl⟩
theorem call_int1:CallR X (.type "int") (fun xs H Q=>(∃ i,xs=[.int i]∧Q (.int i) H)∨∃ k,xs=[.bl k]∧Q (.int (if k then 1 else 0)) H):=by
  intro pins s σ H xs us Q I r h
  rcases h with ⟨i,rfl,q⟩ | ⟨k,rfl,q⟩
  · obtain ⟨u,rfl,t,rfl⟩:=vals1 r
    exact call_int_int ⟨.int i,H,I,⟨_,rfl⟩,q⟩
  · obtain ⟨u,rfl,r1⟩:=vals1 r
    cases r1
    exact call_int_bool ⟨.int (if k then 1 else 0),H,I.tok _,⟨_,rfl⟩,q⟩
theorem call_bool1:CallR X (.type "bool") (fun xs H Q=>(∃ i,xs=[.int i]∧Q (.bl (i != 0)) H)∨∃ k,xs=[.bl k]∧Q (.bl k) H):=by
  intro pins s σ H xs us Q I r h
  rcases h with ⟨i,rfl,q⟩ | ⟨k,rfl,q⟩
  · obtain ⟨u,rfl,t,rfl⟩:=vals1 r
    exact call_bool_int ⟨.bl (i != 0),H,I,rfl,q⟩
  · obtain ⟨u,rfl,r1⟩:=vals1 r
    cases r1
    exact call_bool_bool ⟨.bl k,H,I,rfl,q⟩
def LenV (K:PySem.W.Frag) (x:V) (H:Hp) (n:Nat):Prop :=
  match x with
  | .str y=>y.length≤sizeLine∧n=y.length
  | .byt y=>y.size≤sizeLine∧n=y.size
  | .ref p=>(∃ xs,SqL K H p xs∧n=xs.length)∨∃ xs,SqT K H p xs∧n=xs.length
  | _=>False
theorem call_len:CallR X (.builtin "len") (fun xs H Q=>∃ x n,xs=[x]∧LenV X.K x H n∧Q (.int n) H):=by
  intro pins s σ H xs us Q I r h
  obtain ⟨x,n,rfl,e,q⟩:=h
  obtain ⟨u,rfl,rx⟩:=vals1 r
  have hl:=line63
  have hs:sizeLine=16777216:=sizeLine_eq
  cases x with
  | str y =>
    obtain ⟨t,rfl⟩:=rx
    obtain ⟨hy,e'⟩:y.length≤sizeLine∧n=y.length:=e
    subst e'
    exact len_str (by omega) ⟨.int _,H,I.tok _,⟨_,rfl⟩,q⟩
  | byt y =>
    obtain ⟨t,rfl⟩:=rx
    obtain ⟨hy,e'⟩:y.size≤sizeLine∧n=y.size:=e
    subst e'
    exact PySem.W.len_bytes (by omega) ⟨.int _,H,I.tok _,⟨_,rfl⟩,q⟩
  | ref p =>
    cases rx
    have e':(∃ xs,SqL X.K H p xs∧n=xs.length)∨∃ xs,SqT X.K H p xs∧n=xs.length:=e
    rcases e' with ⟨xs,hx,e'⟩ | ⟨xs,hx,e'⟩
    · subst e'
      obtain ⟨its,r',pl,hz⟩:=I.list hx
      have hlen:=r'.length
      exact Calls.call_len_list pl.isList (by simp only [List.size_toArray]; omega) ⟨.int xs.length,H,I.tok _,⟨_,by simp only [List.size_toArray]; rw [hlen]⟩,q⟩
    · subst e'
      obtain ⟨its,r',pl,hz⟩:=I.tuple hx
      have hlen:=r'.length
      exact len_tuple pl (by simp only [List.size_toArray]; omega) ⟨.int xs.length,H,I.tok _,⟨_,by simp only [List.size_toArray]; rw [hlen]⟩,q⟩
  | _=>exact (show False from e).elim
end
end L2
namespace L2
open PySem PySem.Spec PyProof.Rows
structure ObjM (h:Heap) (x dx C:Addr) (mA:Str→Option Value):Prop where
  obj:h.get? x=some (PySem.W.instObj C dx)
  ns:h.Ns1 dx mA
  ne:dx≠x
theorem lookIn_ns {h:Heap} {dx:Addr} {mA:Str→Option Value} (n:h.Ns1 dx mA):∃ od,h.get? dx=some od∧∀ name,PySem.W.lookIn name od=some (mA name):=by
  obtain ⟨o,es,ep,ho,hd,hk,_,hm⟩:=n
  refine ⟨o,ho,fun name=>?_⟩
  have e:=hm name
  unfold nsFind findBy at e
  rw [← Array.find?_toList] at e
  unfold PySem.W.lookIn
  rw [hd]
  dsimp only
  split
  · rename_i y q
    rw [q] at e
    exact congrArg some e
  · rename_i q
    rw [q] at e
    have a:es.toList.any (·.refKey)=false:=by
      rw [List.any_eq_false]
      intro y hy
      obtain ⟨z,t,hkey⟩:=hk y (Array.mem_toList_iff.mp hy)
      simp [DictEntry.refKey,hkey]
    have a':¬ es.toList.any (·.refKey)=true:=by rw [a]; exact Bool.false_ne_true
    rw [if_neg a']
    exact congrArg some e
theorem ObjM.look {h:Heap} {x dx C:Addr} {mA:Str→Option Value} (I:ObjM h x dx C mA):∃ od,PySem.W.InstAt h x (PySem.W.instObj C dx) C (some od)∧∀ name,PySem.W.lookIn name od=some (mA name) :=
  let ⟨od,ho,hl⟩:=lookIn_ns I.ns
  ⟨od,⟨I.obj,rfl,rfl,ho⟩,hl⟩
section
variable {prog:Program} {w:World} {A:Around} {E:Value→Shared→Prop} {s:Shared} {K:PySem.W.Frag} {x dx C f:Addr} {mA:Str→Option Value} {name:Str} {v:Value}
end
theorem RelO.some_of {v:V} {o:Option Value} (r:RelO (some v) o):∃ u,o=some u∧RelV v u:=by
  cases o with
  | none=>exact (show False from r).elim
  | some u=>exact ⟨u,rfl,r⟩
section
variable {P:Program} {w:World} {H H':Hp} {h h':Heap} {a C dx:Addr} {fs fs':List (Str × V)}
theorem ins_get (hok:HOk P w H h) (e:H a=some (.ins C dx fs)):∃ mA,ObjM h a dx C mA∧(∀ f,RelO (fs.lookup f) (mA f))∧PySem.Within mA (fs.map (·.1))∧fs.length≤1000∧H dx=some (.own a):=by
  obtain ⟨d,z,ne,ob,mA,n,r,q⟩:=(show ObjOk P w H h a (.ins C dx fs) from hok a _ e)
  exact ⟨mA,⟨ob,n,ne⟩,r,q,z,d⟩
end
structure Cls (K:PySem.W.Frag) (C:Addr):Prop where
  pg:PySem.W.plainGet K C Str.empty=true
  hd:PySem.W.hasDictIn K C=true
  po:PySem.W.plainOver K C=true
  sa:PySem.W.findIn K (.ref C) "__setattr__" = some (some (.builtin "object.__setattr__"))
theorem Cls.get {K:PySem.W.Frag} {C:Addr} (c:Cls K C) (f:Str):PySem.W.plainGet K C f=true:=c.pg
section
variable {X:Cx} {pins:List (Addr × Obj)} {σ:St} {H:Hp} {s:Shared} {a C dx:Addr} {fs:List (Str × V)} {f:Str} {v:V} {A:Around} {E:Value→Shared→Prop}
end
section
variable {X:Cx} {o e value:Expr} {f:Str} {pos pos' tpos:Pos} {ta tv:TE}
end
section
variable {X:Cx} {pins:List (Addr × Obj)} {σ:St} {H:Hp} {s:Shared} {A:Around} {E:Value→Shared→Prop} {Q:Value→Shared→Prop} {c:Value} {b:Bool}
inductive TyOf (K:PySem.W.Frag) (H:Hp):V→Value→Prop where
  | non:TyOf K H .non (.type "NoneType")
  | bl (x:Bool):TyOf K H (.bl x) (.type "bool")
  | int (i:Int):TyOf K H (.int i) (.type "int")
  | str (x:Str):TyOf K H (.str x) (.type "str")
  | flt (x:UInt64):TyOf K H (.flt x) (.type "float")
  | lst {a:Addr} {xs:List V} (e:H a=some (.lst xs)):TyOf K H (.ref a) (.type "list")
  | frz {a:Addr} {o:Obj} {xs:List V} (e:H a=some (.frz o (.lst xs))):TyOf K H (.ref a) (.type "list")
  | tup {a:Addr} {xs:List V} (e:H a=some (.tup xs)):TyOf K H (.ref a) (.type "tuple")
  | dK {a:Addr} {kvs:List (Key × V)} (e:H a=some (.dK kvs)):TyOf K H (.ref a) (.type "dict")
  | dT {a:Addr} {kvs:List (List Key × V)} (e:H a=some (.dT kvs)):TyOf K H (.ref a) (.type "dict")
  | ins {a C dx:Addr} {fs:List (Str × V)} (e:H a=some (.ins C dx fs)) (cl:Cls K C) (ha:PySem.W.findIn K (.ref C) "__class__" = some (some (.builtin "object.__class__")))
      (hn:PySem.W.specialIn K (.builtin "object.__class__") "__get__" = some (some (.builtin "getset_descriptor.__get__"))) (htk:PySem.W.takesIn K (.builtin "object.__class__")=some true)
      (hm:PySem.W.mroIn K C (.type "object")=some true):TyOf K H (.ref a) (.ref C)
theorem isinst_ok {x:V} {u t:Value} (I:Inv X pins σ H s) (rx:RelV x u) (ty:TyOf X.K H x t) (e:PySem.W.kitOne X.K t c=some b) (h:∀ tk,Q (.bool b) { s with toks:=tk }) :
    wpAny (model X.prog X.w) A (call (.builtin "isinstance") [u,c]) Q E s:=by
  cases ty with
  | non=>cases (show u=Value.none from rx); exact PySem.W.kia_one PySem.W.kitx_none I.kIn True.intro e (fun z=>nomatch z) h
  | bl y=>cases (show u=Value.bool y from rx); exact PySem.W.kia_one PySem.W.kitx_bool I.kIn True.intro e (fun z=>nomatch z) h
  | int i=>obtain ⟨t,q⟩:=(show ∃ t,u=Value.int i t from rx); cases q; exact PySem.W.kia_one PySem.W.kitx_int I.kIn True.intro e (fun z=>nomatch z) h
  | str y=>obtain ⟨t,q⟩:=(show ∃ t,u=Value.str y t from rx); cases q; exact PySem.W.kia_one PySem.W.kitx_str I.kIn True.intro e (fun z=>nomatch z) h
  | flt y=>obtain ⟨t,q⟩:=(show ∃ t,u=Value.float y t from rx); cases q; exact PySem.W.kia_one PySem.W.kitx_float I.kIn True.intro e (fun z=>nomatch z) h
  | @lst a xs ea =>
    cases (show u=Value.ref a from rx)
    obtain ⟨_,_,n,_,h1⟩:=(show ObjOk X.prog X.w H s.heap a (.lst xs) from I.hok a _ ea)
    exact PySem.W.kia_one PySem.W.kitx_list I.kIn ⟨_,h1,rfl⟩ e (fun z=>nomatch z) h
  | @frz a ob xs ea =>
    cases (show u=Value.ref a from rx)
    obtain ⟨_,_,_,n,_,h1⟩:=(show ObjOk X.prog X.w H s.heap a (.frz ob (.lst xs)) from I.hok a _ ea)
    exact PySem.W.kia_one PySem.W.kitx_list I.kIn ⟨_,h1,rfl⟩ e (fun z=>nomatch z) h
  | @tup a xs ea =>
    cases (show u=Value.ref a from rx)
    obtain ⟨_,_,_,p⟩:=(show ObjOk X.prog X.w H s.heap a (.tup xs) from I.hok a _ ea)
    obtain ⟨o,h1,h2,_⟩:=p
    exact PySem.W.kia_one PySem.W.kitx_tuple I.kIn ⟨o,h1,h2⟩ e (fun z=>nomatch z) h
  | @dK a kvs ea =>
    cases (show u=Value.ref a from rx)
    obtain ⟨_,_,vs,_,p⟩:=(show ObjOk X.prog X.w H s.heap a (.dK kvs) from I.hok a _ ea)
    obtain ⟨o,es,ep,h1,h2,_⟩:=p
    exact PySem.W.kia_one PySem.W.kitx_dict I.kIn ⟨o,h1,h2.1⟩ e (fun z=>nomatch z) h
  | @dT a kvs ea =>
    cases (show u=Value.ref a from rx)
    obtain ⟨_,_,xs,_,o,es,ep,h1,h2,_⟩:=(show ObjOk X.prog X.w H s.heap a (.dT kvs) from I.hok a _ ea)
    exact PySem.W.kia_one PySem.W.kitx_dict I.kIn ⟨o,h1,h2.1⟩ e (fun z=>nomatch z) h
  | @ins a C dx fs ea cl ha hn htk hm =>
    cases (show u=Value.ref a from rx)
    obtain ⟨mA,O,_⟩:=ins_get I.hok ea
    obtain ⟨od,J,_⟩:=O.look
    exact PySem.W.kia_one (PySem.W.kitx_own (cl.get _) cl.hd ha hn htk hm) I.kIn J e (fun z=>nomatch z) h
end
end L2
namespace L2
open PySem PySem.Spec PyProof.Rows
structure Room (k:Nat) (A:Around):Prop where
  hd:A.handled=none
  dp:A.depth+3*k+5<recursionLimit
  un:A.units+16*k+200<cLine
  gd:A.guards=some []
theorem Room.mono {j k:Nat} {A:Around} (r:Room k A) (h:j≤k):Room j A:=⟨r.hd,by have:=r.dp; omega,by have:=r.un; omega,r.gd⟩
theorem Room.deeper {k:Nat} {A:Around} (r:Room (k+1) A) (env:Env):Room k (A.deeper env) :=
  ⟨r.hd,by have:=r.dp; show A.depth+1+3*k+5<_; omega,by have:=r.un; show A.units+3+16*k+200<_; omega,r.gd⟩
theorem Room.in1 {k:Nat} {A:Around} (r:Room (k+1) A):Room k A.in1 :=
  ⟨r.hd,by have:=r.dp; show A.depth+3*k+5<_; omega,by have:=r.un; show A.units+1+16*k+200<_; omega,r.gd⟩
theorem Room.depth {k:Nat} {A:Around} (r:Room k A):A.depth<recursionLimit:=by have:=r.dp; omega
theorem Room.units {k:Nat} {A:Around} (r:Room k A):A.units+64<cLine:=by have:=r.un; omega
def tNil:TA:=fun _ H Q=>Q [] H
def tCons (ta:TE) (tr:TA):TA:=fun σ H Q=>ta σ H fun x H1=>tr σ H1 fun xs H2=>Q (x::xs) H2
section
variable {X:Cx} {e:Expr} {es:List Expr} {te:TE} {t:TA} {pos:Pos}
theorem pa_nil:PA X [] tNil:=fun _ _ _ _ H Q I h=>Calls.spliced_nil ⟨[],H,I,.nil,h⟩
theorem pa_cons (ha:PE X e te) (hr:PA X es t) (hs:starEach (e::es) X.env=(false,eval e X.env)::starEach es X.env:=by rfl):PA X (e::es) (tCons te t):=by
  intro pos pins s σ H Q I h
  rw [hs]
  show wpAny _ _ (spliced ((false,eval e X.env)::backTo pos (starEach es X.env))) _ _ s
  refine Calls.spliced_cons (thn (ha pins s σ H _ I h) fun u s1 ⟨x,H1,I1,r1,q1⟩=>?_)
  exact thn (hr pos pins s1 σ H1 _ I1 q1) fun us s2 ⟨xs,H2,I2,r2,q2⟩=>⟨x::xs,H2,I2,.cons r1 r2,q2⟩
def tTup (t:TA):TE:=fun σ H Q=>t σ H fun xs H1=>xs.length≤sizeLine∧∀ p,H1 p=none→Q (.ref p) (upd H1 p (.tup xs))
def tLst (t:TA):TE:=fun σ H Q=>t σ H fun xs H1=>xs.length≤sizeLine∧∀ p,H1 p=none→Q (.ref p) (upd H1 p (.lst xs))
theorem pe_tup {x1} (h:PA X es t):PE X (.Tuple es x1 pos) (tTup t):=by
  intro pins s σ H Q I hq
  refine wpAny_Tuple_spliced (thn (h pos pins s σ H _ I hq) fun us s1 ⟨xs,H1,I1,r,z,q⟩=>⟨by rw [← r.length]; exact z,?_⟩)
  have hf:H1 s1.heap.objs.size=none:=I1.hok.fresh (Nat.le_refl _)
  refine ⟨.ref s1.heap.objs.size,upd H1 s1.heap.objs.size (.tup xs),I1.laid (t':=s1.toks) (fun b u e=>Heap.get?_push_of_some _ e) (Nat.le_refl _) ?_,rfl,q _ hf⟩
  exact ⟨⟨z,_,Heap.get?_push_size _ rfl,rfl⟩,us,r,⟨_,Heap.get?_push_size _ rfl,rfl,_,rfl⟩⟩
theorem pe_lst (h:PA X es t):PE X (.List es pos) (tLst t):=by
  intro pins s σ H Q I hq
  refine wpAny_List_spliced (thn (h pos pins s σ H _ I hq) fun us s1 ⟨xs,H1,I1,r,z,q⟩=>⟨by rw [← r.length]; exact z,?_⟩)
  have hf:H1 s1.heap.objs.size=none:=I1.hok.fresh (Nat.le_refl _)
  refine ⟨.ref s1.heap.objs.size,upd H1 s1.heap.objs.size (.lst xs),I1.laid (t':=s1.toks) (fun b u e=>Heap.get?_push_of_some _ e) (Nat.le_refl _) ?_,rfl,q _ hf⟩
  exact ⟨z,us,0,r,Heap.get?_push_size _ rfl⟩
end
abbrev Sp:=List V→Hp→VK→XK→Prop
abbrev CXT:=List Env→Hp→Shared→XK→Value→Shared→Prop
structure Env0 (P:Program) (w:World) (K:PySem.W.Frag) (mg:Str→Option Value) (base:Heap) (A:Around) (outer:List Env) (s:Shared) (H:Hp):Prop where
  frames:A.frames=some outer
  mod:Mod K mg base
  bs:∀ b o,base.get? b=some o→s.heap.get? b=some o∧H b=none
  bsz:base.objs.size≤s.heap.objs.size
  funs:s.heap.FunFrames base outer
  frf:∀ b∈frs outer,H b=none
  hok:HOk P w H s.heap
  bare:AllBare s.gens
def CE (outer:List Env) (P:Program) (w:World) (H:Hp) (s:Shared) (Q:VK) (u:Value) (s':Shared):Prop :=
  ∃ v H',s'.os=s.os∧AllBare s'.gens∧Un (frs outer) [] H H' s.heap s'.heap∧HOk P w H' s'.heap∧RelV v u∧Q v H'
def CR (CX:CXT) (outer:List Env) (P:Program) (w:World) (H:Hp) (s:Shared) (Q:VK) (E:XK) (r:Result) (s':Shared):Prop :=
  match r with
  | .ok (.ret u)=>CE outer P w H s Q u s'
  | .ok _=>False
  | .error e=>CX outer H s E e s'
structure FnOk (P:Program) (w:World) (K:PySem.W.Frag) (mg:Str→Option Value) (base:Heap) (CX:CXT) (k:Nat) (f:Addr) (fd:FuncData) (ps:List Str) (sp:Sp):Prop where
  len:∀ vs H Q E,sp vs H Q E→vs.length=ps.length
  run:∀ (A:Around) (outer:List Env) (s:Shared) (H:Hp) (args:Args) (us:List Value) (vs:List V) (Q:VK) (E:XK),Room k A→Env0 P w K mg base A outer s H→BindsTo s fd args (ps.zip us)→Vals vs us→sp vs H Q E →
    codeAny (model P w) A (.call (.ref f) args) (CR CX outer P w H s Q E) s
theorem Env0.in1 {P:Program} {w:World} {K:PySem.W.Frag} {mg:Str→Option Value} {base:Heap} {A:Around} {outer:List Env} {s:Shared} {H:Hp} (e:Env0 P w K mg base A outer s H) :
    Env0 P w K mg base A.in1 outer s H:=⟨e.frames,e.mod,e.bs,e.bsz,e.funs,e.frf,e.hok,e.bare⟩
section
variable {X:Cx} {pins:List (Addr × Obj)} {σ:St} {H:Hp} {s s':Shared}
theorem Inv.env0 (I:Inv X pins σ H s):Env0 X.prog X.w X.K X.mg X.base X.A X.stack s H :=
  ⟨I.ok.frames,I.ok.mod,I.bs,Nat.le_trans I.ok.bsz I.sz,I.stack,I.stkFree,I.hok,I.bare⟩
theorem Inv.after {Q:VK} {u:Value} (I:Inv X pins σ H s) (h:CE X.stack X.prog X.w H s Q u s'):EP X pins σ Q u s':=by
  obtain ⟨v,H',os,bare,un,hok,r,q⟩:=h
  obtain ⟨hh,g,d,t,os'⟩:=s'
  obtain rfl:os'=s.os:=os
  exact ⟨v,H',I.call (h':=hh) (g':=g) (d':=d) (t':=t) (ch:=[]) un hok bare (fun b z=>absurd z (by simp)),r,q⟩
end
def tCall (sp:Sp) (dvs:List V) (E:XK) (t:TA):TE:=fun σ H Q=>t σ H fun vs H1=>sp (vs++dvs) H1 Q E
def Binds (K:PySem.W.Frag) (fd:FuncData) (ps:List Str) (ds:List Value):Prop :=
  ∀ (s:Shared) (us:List Value),K.In s.heap→(us++ds).length=ps.length→BindsTo s fd ⟨us,[]⟩ (ps.zip (us++ds))
theorem Binds.all {K:PySem.W.Frag} {fd:FuncData} {ps:List Str} (h:∀ us:List Value,us.length=ps.length→bindArgs fd ⟨us,[]⟩=pure (ps.zip us)):Binds K fd ps []:=fun s us _ hl=>by
  rw [List.append_nil] at hl ⊢
  exact .of_eq (h us hl)
def Passes (CX:CXT) (X:Cx) (E:XK):Prop:=∀ (pins:List (Addr × Obj)) (σ:St) (H:Hp) (s:Shared) (e:Value) (s':Shared),Inv X pins σ H s→CX X.stack H s E e s'→X.xe e s'
section
variable {X:Cx} {CX:CXT} {k:Nat} {f C:Addr} {fd:FuncData} {ps:List Str} {sp:Sp} {dvs:List V} {ds:List Value} {E:XK} {x m:Str} {p pos apos:Pos} {e o:Expr} {es:List Expr} {ta:TE} {t:TA}
theorem run_fn {pins:List (Addr × Obj)} {σ:St} {H:Hp} {s:Shared} {Q:VK} {us:List Value} {vs:List V} (F:FnOk X.prog X.w X.K X.mg X.base CX k f fd ps sp) (hr:Room k X.A) (hb:Binds X.K fd ps ds) (hd:Vals dvs ds) (hx:Passes CX X E)
    (I:Inv X pins σ H s) (r:Vals vs us) (h:sp (vs++dvs) H Q E):wpAny (model X.prog X.w) X.A (call (.ref f) us) (EP X pins σ Q) X.xe s:=by
  have r2:Vals (vs++dvs) (us++ds):=r.append hd
  have hl:(us++ds).length=ps.length:=by rw [← r2.length]; exact F.len _ _ _ _ h
  refine wpAny_call (codeAny_mono (F.run X.A X.stack s H ⟨us,[]⟩ (us++ds) (vs++dvs) Q E hr I.env0 (hb s us I.kIn hl) r2 h) fun r s' hq=>?_)
  cases r with
  | error e=>exact hx pins σ H s e s' I hq
  | ok fl =>
    cases fl with
    | ret u=>exact I.after hq
    | next=>exact False.elim hq
    | brk=>exact False.elim hq
    | cont=>exact False.elim hq
theorem pe_call (F:FnOk X.prog X.w X.K X.mg X.base CX k f fd ps sp) (hr:Room k X.A) (hg:Gl X x) (hm:X.mg x=some (.ref f)) (hk:PySem.W.keepIn X.K (.ref f)=true) (hb:Binds X.K fd ps ds) (hd:Vals dvs ds) (hx:Passes CX X E)
    (ha:PA X (e::es) t) (hdb:(x == ("__debug__" : Str))=false:=by decide) (he:starEach (e::es) X.env=(false,eval e X.env)::starEach es X.env:=by rfl) (hpl:(backTo pos (starEach es X.env)).any (·.1)=false:=by rfl) :
    PE X (.Call (.Name x p) (e::es) [] pos) (tCall sp dvs E t):=by
  intro pins s σ H Q I h
  refine wpAny_Call_Name_kw (ld_glob I hg hm ?_ hdb)
  refine PySem.W.callWith_K (h₀:=X.base) I.ok.mod.kin hk (thn (ha pos pins s σ H _ I h) fun us s1 ⟨vs,H1,I1,r,q⟩=>⟨I1.kIn,?_⟩) he hpl
  exact run_fn F hr hb hd hx I1 r q
end
section
variable {X:Cx} {CX:CXT} {k:Nat} {f C:Addr} {fd:FuncData} {ps ks:List Str} {sp:Sp} {E:XK} {x m:Str} {p pos apos kpos:Pos} {e o:Expr} {es:List Expr} {kws:List Keyword} {te ta:TE} {t tk:TA} {nm:Option Str}
variable {g:List Value→List Value→List Value} {gV:List V→List V→List V}
end
structure FnScope (N P:List Str) (sc:Scope):Prop where
  kind:sc.kind=.function
  co:sc.isCoroutine=false
  gen:sc.isGenerator=false
  nd:N.Nodup
  pre:N.take P.length=P
  par:∀ x∈P,sc.names.lookup x=some .local∨sc.names.lookup x=some .cell
  nofree:∀ y∈sc.names,y.2 ≠ .free
theorem bindL_out {kindOf:Str→Option NameKind} {x:Str}:∀ {binds:List (Str × Value)} {m:Str→Option Value},(∀ v,(x,v) ∉ binds)→bindL kindOf binds m x=m x
  | [],_,_=>rfl
  | (n,v)::r,m,h=>by
    unfold bindL
    rw [bindL_out fun w hw=>h w (List.mem_cons_of_mem _ hw)]
    split
    · have:x≠n:=by rintro rfl; exact h v List.mem_cons_self
      simp [this]
    · rfl
theorem bindC_out {kindOf:Str→Option NameKind} {x:Str}:∀ {binds:List (Str × Value)} {m:Str→Option Value},(∀ v,(x,v) ∉ binds)→bindC kindOf binds m x=m x
  | [],_,_=>rfl
  | (n,v)::r,m,h=>by
    unfold bindC
    rw [bindC_out fun w hw=>h w (List.mem_cons_of_mem _ hw)]
    split
    · rfl
    · have:x≠n:=by rintro rfl; exact h v List.mem_cons_self
      simp [this]
theorem bindL_get {kindOf:Str→Option NameKind} {x:Str} {v:Value}:∀ {P:List Str} {vs:List Value} {i:Nat} {m:Str→Option Value},P.Nodup→P[i]?=some x→vs[i]?=some v→kindOf x=some .local →
    bindL kindOf (P.zip vs) m x=some v
  | [],_,_,_,_,h,_,_=>by simp at h
  | _::_,[],_,_,_,_,h,_=>by simp at h
  | p::P,w::vs,0,m,nd,h1,h2,hk=>by
    simp at h1 h2; subst h1; subst h2
    show bindL kindOf ((p,w)::P.zip vs) m p=_
    unfold bindL
    rw [bindL_out fun v hv=>(List.nodup_cons.mp nd).1 (List.of_mem_zip hv).1,if_pos hk]
    simp
  | p::P,w::vs,i+1,m,nd,h1,h2,hk=>by
    show bindL kindOf ((p,w)::P.zip vs) m x=_
    unfold bindL
    exact bindL_get (i:=i) (List.nodup_cons.mp nd).2 (by simpa using h1) (by simpa using h2) hk
theorem bindC_get {kindOf:Str→Option NameKind} {x:Str} {v:Value}:∀ {P:List Str} {vs:List Value} {i:Nat} {m:Str→Option Value},P.Nodup→P[i]?=some x→vs[i]?=some v→kindOf x≠some .local →
    bindC kindOf (P.zip vs) m x=some v
  | [],_,_,_,_,h,_,_=>by simp at h
  | _::_,[],_,_,_,_,h,_=>by simp at h
  | p::P,w::vs,0,m,nd,h1,h2,hk=>by
    simp at h1 h2; subst h1; subst h2
    show bindC kindOf ((p,w)::P.zip vs) m p=_
    unfold bindC
    rw [bindC_out fun v hv=>(List.nodup_cons.mp nd).1 (List.of_mem_zip hv).1,if_neg hk]
    simp
  | p::P,w::vs,i+1,m,nd,h1,h2,hk=>by
    show bindC kindOf ((p,w)::P.zip vs) m x=_
    unfold bindC
    exact bindC_get (i:=i) (List.nodup_cons.mp nd).2 (by simpa using h1) (by simpa using h2) hk
def start (N:List Str) (vs:List V):St:=vs.map some++List.replicate (N.length - vs.length) none
def cxOf (CX:CXT) (P:Program) (w:World) (K:PySem.W.Frag) (mg:Str→Option Value) (base:Heap) (N:List Str) (qual:Str) (scope:Scope) (f:Addr) (cd:Value) (A:Around) (outer:List Env) (s:Shared) (H:Hp) (E:XK):Cx where
  prog:=P
  w:=w
  K:=K
  mg:=mg
  base:=base
  A:=A.deeper (envOfC qual scope s.heap.objs.size f cd)
  N:=N
  s₀:=s
  H₀:=H
  env:=envOfC qual scope s.heap.objs.size f cd
  outer:=outer
  stack:=envOfC qual scope s.heap.objs.size f cd::outer
  ex:=[]
  calm:=true
  fn:=fun _=>true
  pn:=[]
  xe:=fun e s'=>wpAny (model P w) (A.deeper (envOfC qual scope s.heap.objs.size f cd)) (leaving (envOfC qual scope s.heap.objs.size f cd) e) (fun _ s''=>CX outer H s E e s'') (fun e' s''=>CX outer H s E e' s'') s'
theorem cell_has {sc:Scope} {n:Nat} {x:Str} (h:sc.names.lookup x=some .cell):∃ c,(cellsFrom n sc.names []).lookup x=some c:=by
  have q:=PySem.W.cellsFrom_some sc.names n [] (.inl h)
  exact Option.isSome_iff_exists.mp q
theorem inv_start {CX:CXT} {P:Program} {w:World} {K:PySem.W.Frag} {mg:Str→Option Value} {base:Heap} {N ps:List Str} {qual:Str} {scope:Scope} {f:Addr} {cd:Value} {A:Around} {outer:List Env} {s s1:Shared} {H:Hp} {E:XK} {us:List Value} {vs:List V}
    (S:FnScope N ps scope) (hd:A.handled=none) (e0:Env0 P w K mg base A outer s H) (hl:vs.length=ps.length) (r:Vals vs us)
    (x:InCallC s s.heap.objs.size (bindL (envOfC qual scope s.heap.objs.size f cd).kindOf (ps.zip us) fun _=>none) (cellsFrom (s.heap.objs.size+1) scope.names []) (bindC (envOfC qual scope s.heap.objs.size f cd).kindOf (ps.zip us) fun _=>none) s1) :
    Inv (cxOf CX P w K mg base N qual scope f cd A outer s H E) [] (start N vs) H s1:=by
  have hpl:ps.length≤N.length:=by have:=congrArg List.length S.pre; rw [List.length_take] at this; omega
  obtain ⟨h1,tk,rfl,hk⟩:=x.done
  have noA:∀ b:Addr,b ∉ (cxOf CX P w K mg base N qual scope f cd A outer s H E).ex:=fun b z=>absurd (show b∈([]:List Addr) from z) (by simp)
  refine ⟨⟨e0.mod,S.kind,rfl,rfl,Nat.le_refl _,fun y z c h1 h2=>?_,fun y hy=>?_,fun y c _ h=>?_,fun _=>hd,Around.frames_deeper e0.frames,.inr ⟨rfl,rfl⟩,fun b z=>absurd z (noA b),e0.bs,e0.bsz,fun b _ _=>noA b,fun b z=>absurd z (noA b),e0.funs,e0.frf⟩,
    rfl,e0.bare,Un.kept hk,⟨_,x.toInCall.ns,fun i y v h1 h2 h3=>?_⟩,fun y c h=>⟨_,x.cell y c h⟩,e0.hok.fresh (Nat.le_refl _),fun y c h=>?_,fun p hp=>absurd (show p∈([]:List (Addr × Obj)) from hp) (by simp),e0.hok.kept hk,?_⟩
  · exact name_of_addr x.apart (PySem.mem_of_lookup h1) (PySem.mem_of_lookup h2)
  · have hy:scope.names.lookup y=some .cell∨scope.names.lookup y=some .free:=hy
    rcases hy with hy | hy
    · exact cell_has hy
    · exact absurd rfl (S.nofree _ (PySem.mem_of_lookup hy))
  · exact Nat.le_of_lt (x.above y c (PySem.mem_of_lookup h))
  · have hi:i<vs.length:=by
      unfold start at h2
      by_cases hi:i<vs.length
      · exact hi
      · rw [List.getElem?_append_right (by simpa using hi)] at h2
        rw [List.getElem?_replicate] at h2
        split at h2 <;> cases h2
    have ha:vs[i]?=some v:=by
      unfold start at h2
      rw [List.getElem?_append_left (by simpa using hi),List.getElem?_map] at h2
      cases e:vs[i]? with
      | none=>rw [e] at h2; cases h2
      | some a=>rw [e] at h2; cases h2; rfl
    obtain ⟨u,hu,rv⟩:=r.get ha
    have hp:ps[i]?=some y:=by
      rw [← S.pre,List.getElem?_take_of_lt (by omega)]; exact h1
    have ndP:ps.Nodup:=by rw [← S.pre]; exact S.nd.sublist (List.take_sublist _ _)
    refine ⟨u,rv,?_⟩
    rcases S.par y (List.mem_of_getElem? hp) with k | k
    · exact .inl ⟨k,bindL_get ndP hp hu k⟩
    · obtain ⟨c,e⟩:=cell_has (n:=s.heap.objs.size+1) k
      refine .inr ⟨.inl k,c,e,?_⟩
      have q:=x.cell y c e
      rw [bindC_get ndP hp hu (by show scope.names.lookup y≠_; rw [k]; decide)] at q
      exact q
  · exact e0.hok.fresh (Nat.le_of_lt (x.above y c (PySem.mem_of_lookup h)))
  · unfold start
    show _=N.length
    rw [List.length_append,List.length_map,List.length_replicate]
    omega
theorem fn_of {CX:CXT} {P:Program} {w:World} {K:PySem.W.Frag} {mg:Str→Option Value} {base:Heap} {k:Nat} {f:Addr} {name qual:Str} {params:Arguments} {body:List Stmt} {scope:Scope} {dV kV doc pm cdv ct oc:Value} {an od:Option Addr}
    {osl:Array (Option Value)} {N ps:List Str} {sp:Sp} (lk:K.lookup f=some ⟨oc,od,.func (PySem.W.fnOf name qual params body scope dV kV doc pm an cdv ct),osl⟩) (hcd:PySem.W.codeIn K cdv qual=true) (S:FnScope N ps scope)
    (len:∀ vs H Q E,sp vs H Q E→vs.length=ps.length)
    (hbody:∀ (A:Around) (outer:List Env) (s:Shared) (H:Hp) (vs:List V) (Q:VK) (E:XK),Room k (A.deeper (envOfC qual scope s.heap.objs.size f cdv))→sp vs H Q E →
      ∃ t,PSs (cxOf CX P w K mg base N qual scope f cdv A outer s H E) body t∧t { nx:=fun _ H'=>Q .non H',rt:=Q } (start N vs) H) :
    FnOk P w K mg base CX (k+1) f (PySem.W.fnOf name qual params body scope dV kV doc pm an cdv ct) ps sp:=by
  refine ⟨len,fun A outer s H args us vs Q E hr e0 hb r hsp=>?_⟩
  have hl:=len _ _ _ _ hsp
  have KX:K.In s.heap:=e0.mod.kin.keeps fun b o e=>(e0.bs b o e).1
  have lim:s.heap.NoLimit:=e0.mod.nolimit.keeps fun b o e=>(e0.bs b o e).1
  have hkind:∀ y∈ps.zip us,scope.names.lookup y.1=some .local∨(scope.names.lookup y.1=some .cell∧((cellsFrom (s.heap.objs.size+1) scope.names []).lookup y.1).isSome=true):=fun ⟨n,v⟩ hy=>by
    rcases S.par n (List.of_mem_zip hy).1 with q | q
    · exact .inl q
    · exact .inr ⟨q,PySem.W.cellsFrom_some _ _ _ (.inl q)⟩
  refine codeAny_call_function hr.depth (KX _ _ lk) rfl S.co S.gen rfl (PySem.W.codeRec_of KX hcd) (hb _ _ _ _ ?_)
  refine wpAny_newFunctionEnv_cells S.kind hkind fun env he s1 x=>?_
  subst he
  refine ⟨lim.keeps x.toInCall.keep,codeAny_func ?_⟩
  obtain ⟨t,ht,hq⟩:=hbody A outer s H vs Q E (hr.deeper _) hsp
  have I:Inv (cxOf CX P w K mg base N qual scope f cdv A outer s H E) [] (start N vs) H s1:=inv_start S hr.hd e0 hl r x
  refine wpAny_mono (ht [] s1 (start N vs) H _ I hq) (fun fl s' hs=>?_) fun e s' hs=>hs
  have fin:∀ {σ':St} {H':Hp} {v:V} {u:Value},Inv (cxOf CX P w K mg base N qual scope f cdv A outer s H E) [] σ' H' s'→RelV v u→Q v H'→CE outer P w H s Q u s' :=
    fun {σ' H' v u} J rv q=>⟨v,H',J.os,J.bare,J.base,J.hok,rv,q⟩
  cases fl with
  | ret u =>
    obtain ⟨v,σ',H',J,rv,q⟩:=hs
    exact fin J rv q
  | next =>
    obtain ⟨σ',H',J,q⟩:=hs
    exact fin (v:=V.non) (u:=Value.none) J rfl q
  | brk =>
    obtain ⟨_,_,_,q⟩:=hs
    exact False.elim q
  | cont =>
    obtain ⟨_,_,_,q⟩:=hs
    exact False.elim q
end L2
namespace L2
open PySem PySem.Spec PyProof.Rows
section
variable {X:Cx} {x:Str} {p pos:Pos} {e:Expr} {es:List Expr} {t:TA} {id T:String} {r:List V→Hp→VK→Prop}
def tCB (r:List V→Hp→VK→Prop) (t:TA):TE:=fun σ H Q=>t σ H fun vs H1=>r vs H1 Q
theorem pe_callB (hc:CallR X (.builtin id) r) (hg:Gl X x) (hm:X.mg x=none) (hv:bootBuiltins x=some (.builtin id)) (ha:PA X (e::es) t) (hn:x ≠ "__name__" := by decide) (hdb:(x == ("__debug__" : Str))=false:=by decide)
    (he:starEach (e::es) X.env=(false,eval e X.env)::starEach es X.env:=by rfl) (hpl:(backTo pos (starEach es X.env)).any (·.1)=false:=by rfl):PE X (.Call (.Name x p) (e::es) [] pos) (tCB r t):=by
  intro pins s σ H Q I h
  refine wpAny_Call_Name_kw (ld_blt I hg hm hv ?_ hn hdb)
  exact PyProof.Rows.callWith_builtin1 (thn (ha pos pins s σ H _ I h) fun us s1 ⟨vs,H1,I1,r1,q1⟩=>hc pins s1 σ H1 vs us Q I1 r1 q1) he hpl
theorem pe_callTy (hc:CallR X (.type T) r) (hg:Gl X x) (hm:X.mg x=none) (hv:bootBuiltins x=some (.type T)) (ha:PA X (e::es) t) (hn:x ≠ "__name__" := by decide) (hdb:(x == ("__debug__" : Str))=false:=by decide)
    (he:starEach (e::es) X.env=(false,eval e X.env)::starEach es X.env:=by rfl) (hpl:(backTo pos (starEach es X.env)).any (·.1)=false:=by rfl):PE X (.Call (.Name x p) (e::es) [] pos) (tCB r t):=by
  intro pins s σ H Q I h
  refine wpAny_Call_Name_kw (ld_blt I hg hm hv ?_ hn hdb)
  exact PyProof.Rows.callWith_type1 (thn (ha pos pins s σ H _ I h) fun us s1 ⟨vs,H1,I1,r1,q1⟩=>hc pins s1 σ H1 vs us Q I1 r1 q1) he hpl
end
end L2
namespace HT
open PySem PyProof.Rows
def lexLt:List Int→List Int→Bool
  | [],[]=>false
  | [],_::_=>true
  | _::_,[]=>false
  | x::xs,y::ys=>if x=y then lexLt xs ys else decide (x<y)
theorem lexLt_cons (x y:Int) (xs ys:List Int):lexLt (x::xs) (y::ys)=if x=y then lexLt xs ys else decide (x<y):=rfl
theorem lexLt_nil_nil:lexLt [] []=false:=rfl
theorem lexLt_nil_cons (y:Int) (ys:List Int):lexLt [] (y::ys)=true:=rfl
theorem lexLt_cons_nil (x:Int) (xs:List Int):lexLt (x::xs) []=false:=rfl
theorem eqAt_int (A:Around) (s:Shared) (a:Int) (t:Tok) (c:Int) (u:Tok):∃ e,SeqAt.EqAt A s (.int a t) (.int c u) e∧(e=true↔a=c) :=
  ⟨(a == c),SeqAt.EqAt.int_int a t c u,by simp⟩
theorem rcLt_int (A:Around) (s:Shared) (a:Int) (t:Tok) (c:Int) (u:Tok) (prog:Program) (w:World) (E:Value→Shared→Prop) (Q:Value→Shared→Prop) (h:Q (.bool (decide (a<c))) s) :
    wpAny (model prog w) A (richCompare .Lt (.int a t) (.int c u)) Q E s :=
  (PyProof.Rows.lt_int h:wpAny (model prog w) A (compareOp .Lt (.int a t) (.int c u)) Q E s)
section
open PySem.SeqAt
open PySem.AutoSeq1 (wpAny_loadPart')
open PySem.MeetsSeq PySem.MeetsSeq2 PySem.MeetsSeq3
theorem tuple_lt_ints (l b:Addr) (items items2:Array Value) (n n2:Nat) (dd dd2:Option Addr) (sl sl2:Array (Option Value)) (ns ms:List Int) (hi:IntsAre items.toList ns) (hj:IntsAre items2.toList ms) :
    Meets (Builtin.«tuple.__lt__» ⟨[.ref l,.ref b],[]⟩)
      (fun _ R s=>s.heap.get? l=some { cls:=.type "tuple",dict:=dd,data:=.seq items n,slots:=sl }∧s.heap.get? b=some { cls:=.type "tuple",dict:=dd2,data:=.seq items2 n2,slots:=sl2 } ∧
        R (.ok (.ret (.bool (lexLt ns ms)))) s) :=
  .of_wp fun prog w A R s h=>by
    obtain ⟨hp,g,d,tk,os⟩:=s; obtain ⟨hl,hb,h⟩:=h
    have f2:=AutoSeq1.sub_tuple_tuple
    have z1:items.size=ns.length:=by rw [← hi.length]; simp
    have z2:items2.size=ms.length:=by rw [← hj.length]; simp
    wp_walk using wpAny_loadPart' hl,wpAny_loadPart' hb,wpAny_forIn_list _ (fun rest b s'=>b.1=none∧s'=⟨hp,g,d,tk,os⟩∧∃ (vs ws:List Value) (ns' ms':List Int),rest=vs.zip ws ∧
      IntsAre vs ns'∧IntsAre ws ms'∧ns'.length+items2.size=ms'.length+items.size∧R (.ok (.ret (.bool (lexLt ns' ms')))) ⟨hp,g,d,tk,os⟩) _
    case turn =>
      rintro ⟨y,x⟩ rest b s' ⟨hb',rfl,vs,ws,ns',ms',hz,hvi,hwi,hlen,hR⟩
      cases hvi with
      | nil=>rw [List.zip_nil_left] at hz; cases hz
      | cons a t hvi' =>
        cases hwi with
        | nil=>rw [List.zip_nil_right] at hz; cases hz
        | cons c u hwi' =>
          rw [List.zip_cons_cons] at hz
          injection hz with hyx hrest
          injection hyx with hy hx
          subst hy hx
          rw [lexLt_cons] at hR
          simp only [List.length_cons] at hlen
          obtain ⟨e,he,hiff⟩:=eqAt_int A.in1 ⟨hp,g,d,tk,os⟩ a t c u
          refine wpAny_bind (he prog w _ _ ?_)
          cases e with
          | true =>
            rw [if_pos (hiff.mp rfl)] at hR
            wp_walk
            exact ⟨rfl,rfl,_,_,_,_,hrest,hvi',hwi',by omega,hR⟩
          | false =>
            rw [if_neg (fun q=>absurd (hiff.mpr q) Bool.false_ne_true)] at hR
            have hri:=rcLt_int A.in1 ⟨hp,g,d,tk,os⟩ a t c u prog w
            wp_walk using hri
            exact ⟨_,rfl,by simpa using hR⟩
    case fin =>
      rintro ⟨b1,b2⟩ s' ⟨hb',rfl,vs,ws,ns',ms',hz,hvi,hwi,hlen,hR⟩
      simp only at hb'
      subst hb'
      have hv:lexLt ns' ms'=decide (items.size<items2.size):=by
        cases hvi with
        | nil =>
          cases hwi with
          | nil =>
            simp only [List.length_nil] at hlen
            rw [lexLt_nil_nil]
            exact (decide_eq_false (by omega)).symm
          | cons c u hw =>
            simp only [List.length_nil,List.length_cons] at hlen
            rw [lexLt_nil_cons]
            exact (decide_eq_true (by omega)).symm
        | cons a t hv =>
          cases hwi with
          | nil =>
            simp only [List.length_nil,List.length_cons] at hlen
            rw [lexLt_cons_nil]
            exact (decide_eq_false (by omega)).symm
          | cons c u hw =>
            rw [List.zip_cons_cons] at hz
            cases hz
      rw [hv] at hR
      wp_walk
      exact ⟨_,rfl,by simpa [Builtin.Tuple.tupleCompareSizes] using hR⟩
    case h =>
      exact ⟨rfl,rfl,items.toList,items2.toList,ns,ms,rfl,hi,hj,by omega,h⟩
end
section
variable {prog:Program} {w:World} {A:Around} {E:Value→Shared→Prop} {s:Shared}
theorem lt_tupInts {l b:Addr} {items items2:Array Value} {ns ms:List Int} {Q:Value→Shared→Prop} (hl:IsTup s.heap l items) (hb:IsTup s.heap b items2) (hi:IntsAre items.toList ns) (hj:IntsAre items2.toList ms)
    (hu:A.units<cLine) (h:Q (.bool (lexLt ns ms)) s):wpAny (model prog w) A (compareOp .Lt (.ref l) (.ref b)) Q E s:=by
  obtain ⟨⟨cls,dd,data,sl⟩,ho,hc,n,hd⟩:=id hl
  obtain ⟨⟨cls2,dd2,data2,sl2⟩,ho2,hc2,n2,hd2⟩:=id hb
  simp only at hc hd hc2 hd2
  subst hc hd hc2 hd2
  exact richCompare_meets_room (op:=.Lt) ⟨_,ho,rfl⟩ ⟨_,ho2,rfl⟩ PySem.F.slot_tuple_lt PySem.F.entry_tuple_lt (PySem.F.args_tuple_lt_2 _ _) (tuple_lt_ints l b items items2 n n2 dd dd2 sl sl2 ns ms hi hj)
    ⟨ho,ho2,show Value.bool (lexLt ns ms)≠Value.notImplemented∧Q (.bool (lexLt ns ms)) s from ⟨(fun x=>nomatch x),h⟩⟩ hu
theorem cat_tup {t b:Addr} {vs ws:List Value} {Q:Value→Shared→Prop} (ht:IsTup s.heap t vs.toArray) (hb:IsTup s.heap b ws.toArray) (hv:vs≠[])
    (h1:ws=[]→Q (.ref t) s) (h2:ws≠[]→Q (.ref s.heap.objs.size) { s with heap:=s.heap.push { cls:=.type "tuple",data:=.seq (vs++ws).toArray } })
    (hsz:vs.length+ws.length≤sizeLine):wpAny (model prog w) A (binaryOp .Add (.ref t) (.ref b)) Q E s:=by
  obtain ⟨⟨cls,dd,data,sl⟩,ho,hc,n,hd⟩:=id ht
  obtain ⟨⟨cls2,dd2,data2,sl2⟩,ho2,hc2,n2,hd2⟩:=id hb
  simp only at hc hd hc2 hd2
  subst hc hd hc2 hd2
  have e:vs.toArray++ws.toArray=(vs++ws).toArray:=by simp
  by_cases hw:ws=[]
  · exact concat_meets ⟨_,ho,rfl⟩ ⟨_,ho2,rfl⟩ noFill_tuple_add seq_tuple_add PySem.F.slot_tuple_add PySem.F.entry_tuple_add (PySem.F.args_tuple_add_2 _ _)
      (tuple_addW1 t b vs.toArray ws.toArray n n2 dd dd2 sl sl2 (by simpa using hv) (by simp [hw])) ⟨ho,ho2,h1 hw⟩
  · refine concat_meets ⟨_,ho,rfl⟩ ⟨_,ho2,rfl⟩ noFill_tuple_add seq_tuple_add PySem.F.slot_tuple_add PySem.F.entry_tuple_add (PySem.F.args_tuple_add_2 _ _)
      (tuple_addW2 t b vs.toArray ws.toArray n n2 dd dd2 sl sl2 (by simpa using hv) (by simpa using hw) (by rw [List.size_toArray,List.size_toArray]; exact hsz)) ⟨ho,ho2,?_⟩
    rw [e]
    exact h2 hw
def sIx (n d:Nat):Option Int→Nat
  | none=>d
  | some v=>if v<0 then (v+(n:Int)).toNat else min v.toNat n
theorem sIx_none (n d:Nat):sIx n d none=d:=rfl
theorem sIx_nat (n d k:Nat):sIx n d (some (k:Int))=min k n:=by
  show (if (k:Int)<0 then ((k:Int)+(n:Int)).toNat else min (k:Int).toNat n)=min k n
  rw [if_neg (by omega),Int.toNat_natCast]
theorem sIx_le (n d:Nat) (hd:d≤n) (o:Option Int):sIx n d o≤n:=by
  cases o with
  | none=>exact hd
  | some v =>
    show (if v<0 then (v+(n:Int)).toNat else min v.toNat n)≤n
    by_cases hv:v<0
    · rw [if_pos hv]; omega
    · rw [if_neg hv]; exact Nat.min_le_right _ _
theorem clip_eq (v:Int) (n d:Nat):(if v<0 then max (v+(n:Int)) 0 else min v (n:Int))=((sIx n d (some v):Nat):Int):=by
  show (if v<0 then max (v+(n:Int)) 0 else min v (n:Int))=(((if v<0 then (v+(n:Int)).toNat else min v.toNat n):Nat):Int)
  by_cases hv:v<0
  · simp only [if_pos hv]; omega
  · simp only [if_neg hv]; omega
theorem adjust_gen (lo hi:Option Int) (n:Nat):Builtin.Slice.sliceAdjust lo hi 1 (n:Int)=(((sIx n 0 lo:Nat):Int),((sIx n n hi:Nat):Int)):=by
  have h1:¬ ((1:Int)<0):=by omega
  unfold Builtin.Slice.sliceAdjust
  simp only [h1,if_false]
  refine Prod.ext ?_ ?_
  · cases lo with
    | none=>rfl
    | some v=>exact clip_eq v n 0
  · cases hi with
    | none=>rfl
    | some v=>exact clip_eq v n n
theorem places_gen (i j:Nat):Builtin.Slice.slicePlaces (i:Int) (j:Int) 1=j - i:=by
  unfold Builtin.Slice.slicePlaces
  have h1:(1:Int) > 0:=by omega
  simp only [h1,if_true,Int.ediv_one]
  split <;> omega
theorem slicePart_ {v:Value} {o:Option Int} {Q:Option Int→Shared→Prop} (p:IsPart v o) (h:Q o s):wpAny (model prog w) A (Builtin.Slice.slicePartIndex v) Q E s:=by
  cases p with
  | none=>exact slicePart_none h
  | int i t=>exact slicePart_int h
theorem sliceApplied_gen {sl:Addr} {vl vu:Value} {lo hi:Option Int} {n:Nat} {Q:Int × Int × Nat→Shared→Prop} (hs:s.heap.IsSliceOf sl vl vu .none) (pl:IsPart vl lo) (pu:IsPart vu hi)
    (h:Q (((sIx n 0 lo:Nat):Int),1,sIx n n hi - sIx n 0 lo) s):wpAny (model prog w) A (Builtin.Slice.sliceApplied (.ref sl) (pure (n:Int))) Q E s:=by
  obtain ⟨os,hos,hcs,hds⟩:=id hs
  unfold Builtin.Slice.sliceApplied Builtin.Slice.sliceFields
  refine wpAny_bind (wpAny_bind (wpAny_field hos hds (x:=vl) rfl (wpAny_bind (wpAny_field hos hds (x:=vu) rfl (wpAny_bind (wpAny_field hos hds (x:=.none) rfl (wpAny_pure ?_)))))))
  refine wpAny_bind (slicePart_none ?_)
  show wpAny _ _ (if ((1:Int) == 0)=true then _ else _) _ _ s
  rw [if_neg (by decide)]
  refine wpAny_bind (slicePart_ pl (wpAny_bind (slicePart_ pu (wpAny_bind (wpAny_pure ?_)))))
  show wpAny _ _ (match Builtin.Slice.sliceAdjust lo hi 1 (n:Int) with | (lo,hi)=>pure (lo,(1:Int),Builtin.Slice.slicePlaces lo hi 1)) _ _ s
  rw [adjust_gen lo hi n]
  show wpAny _ _ (pure (((sIx n 0 lo:Nat):Int),(1:Int),Builtin.Slice.slicePlaces ((sIx n 0 lo:Nat):Int) ((sIx n n hi:Nat):Int) 1)) _ _ s
  rw [places_gen]
  exact wpAny_pure h
theorem pick_gen (xs:Array Value) (i k:Nat):((List.range k).filterMap fun (m:Nat)=>xs[((i:Int)+(m:Int)*1).toNat]?).toArray=((xs.toList.drop i).take k).toArray:=by
  have e:(fun (m:Nat)=>xs[((i:Int)+(m:Int)*1).toNat]?)=fun m=>xs[i+m]?:=by
    funext m
    have:((i:Int)+(m:Int)*1).toNat=i+m:=by omega
    rw [this]
  rw [e]
  have:=pick_run xs i k
  rw [List.filterMap_map] at this
  have e2:((fun x=>xs[x]?) ∘ fun x=>i+x)=fun m=>xs[i+m]?:=rfl
  rw [e2] at this
  rw [this]
theorem getItem_tuple_cut {t sl:Addr} {items:Array Value} {vl vu:Value} {lo hi:Option Int} {Q:Value→Shared→Prop} (ht:IsTup s.heap t items) (hs:s.heap.IsSliceOf sl vl vu .none) (pl:IsPart vl lo) (pu:IsPart vu hi)
    (hw:¬ (sIx items.size 0 lo=0∧sIx items.size items.size hi=items.size))
    (h:Q (.ref s.heap.objs.size) { s with heap:=s.heap.push { cls:=.type "tuple",data:=.seq ((items.toList.drop (sIx items.size 0 lo)).take (sIx items.size items.size hi - sIx items.size 0 lo)).toArray } })
    (hsz:items.size≤sizeLine):wpAny (model prog w) A (getItem (.ref t) (.ref sl)) Q E s:=by
  have htake:sizeOk (.seq ((items.toList.drop (sIx items.size 0 lo)).take (sIx items.size items.size hi - sIx items.size 0 lo)).toArray):=by
    show ((items.toList.drop (sIx items.size 0 lo)).take (sIx items.size items.size hi - sIx items.size 0 lo)).toArray.size≤sizeLine
    rw [List.size_toArray,List.length_take,List.length_drop,Array.length_toList]
    omega
  have hj:sIx items.size items.size hi≤items.size:=sIx_le _ _ (Nat.le_refl _) hi
  obtain ⟨os,hos,hcs,hds⟩:=id hs
  have hTs:s.TypeIs (.ref sl) "slice" := ⟨os,hos,hcs⟩
  unfold getItem
  try with_reducible refine wpAny_holding ?_
  first | refine wpAny_bind (wpAny_pure ?_) | skip
  refine wpAny_bind (wpAny_sequenceKey ht.typeIs (by decide) ?_)
  refine wpAny_bind (wpAny_callSpecial?_slot (name:=Str.ofString "__getitem__") ht.typeIs PyProof.Rows.slot_tuple_getitem
    (wpAny_call_entry PyProof.Rows.slot_tuple_getitem ht.typeIs entry_tuple_getitem ?_ (args_tuple_getitem _ _)))
  show wpAny _ _ (Builtin.Tuple.tupleItemsOf (.ref t) >>= _) _ _ s
  refine wpAny_bind (tupleItemsOf_ ht ?_)
  refine wpAny_bind (wpAny_typeOf hTs ?_)
  rw [if_pos (by decide)]
  refine wpAny_bind (sliceApplied_gen hs pl pu ?_)
  have hno:¬ ((((sIx items.size 0 lo:Nat):Int) == 0&&(1:Int) == 1&&(sIx items.size items.size hi - sIx items.size 0 lo) == items.size)=true):=by
    intro q
    rw [Bool.and_eq_true,Bool.and_eq_true] at q
    have q1:((sIx items.size 0 lo:Nat):Int)=0:=eq_of_beq q.1.1
    have q2:sIx items.size items.size hi - sIx items.size 0 lo=items.size:=eq_of_beq q.2
    exact hw ⟨by omega,by omega⟩
  show wpAny _ _ (if (((sIx items.size 0 lo:Nat):Int) == 0&&(1:Int) == 1&&(sIx items.size items.size hi - sIx items.size 0 lo) == items.size)=true then _ else _) _ _ s
  rw [if_neg hno,pick_gen]
  first
    | exact wpAny_bind (m:=Builtin.Tuple.tupleExact _) (wpAny_newObj_type (wpAny_pure ⟨_,rfl,wpAny_pure h⟩) htake)
    | exact wpAny_bind (m:=Builtin.Tuple.tupleExact _) (wpAny_newObj_type (wpAny_bind (wpAny_pure (wpAny_pure ⟨_,rfl,wpAny_pure h⟩))) htake)
    | exact wpAny_bind (wpAny_bind (m:=Builtin.Tuple.tupleExact _) (wpAny_newObj_type (wpAny_pure (wpAny_pure ⟨_,rfl,wpAny_pure h⟩)) htake))
    | exact wpAny_bind (wpAny_bind (m:=Builtin.Tuple.tupleExact _) (wpAny_newObj_type (wpAny_pure ⟨_,rfl,wpAny_pure h⟩) htake))
end
end HT
namespace L2
open PySem PySem.Spec PyProof.Rows
abbrev TO:=St→Hp→(Option Int→Hp→Prop)→Prop
def PO (X:Cx) (e:Option Expr) (t:TO):Prop :=
  ∀ (pins:List (Addr × Obj)) (s:Shared) (σ:St) (H:Hp) (Q:Option Int→Hp→Prop),Inv X pins σ H s→t σ H Q →
    wpAny (model X.prog X.w) X.A (evalPart e X.env) (fun u s'=>∃ o H',Inv X pins σ H' s'∧IsPart u o∧Q o H') X.xe s
def tNoPart:TO:=fun _ H Q=>Q none H
def tPart (t:TE):TO:=fun σ H Q=>t σ H fun x H1=>∃ i,x=.int i∧Q (some i) H1
theorem intsAre_of {ns:List Int}:∀ {us:List Value},Vals (ns.map V.int) us→IntsAre us ns:=by
  induction ns with
  | nil=>intro us r; rw [List.map_nil] at r; cases r; exact .nil
  | cons n ns ih =>
    intro us r
    rw [List.map_cons] at r
    cases r with
    | cons r1 r2 =>
      obtain ⟨t,e⟩:=r1
      subst e
      exact .cons n t (ih r2)
section
variable {X:Cx} {e:Expr} {te:TE} {lo hi:Option Expr} {tl th:TO} {pos p2:Pos}
theorem po_none:PO X none tNoPart:=by
  intro pins s σ H Q I h
  rw [evalPart_none]
  exact wpAny_pure ⟨none,H,I,.none,h⟩
theorem po_some (h:PE X e te):PO X (some e) (tPart te):=by
  intro pins s σ H Q I hw
  rw [evalPart_some]
  refine thn (h pins s σ H _ I hw) fun u s1 ⟨x,H1,I1,r1,q1⟩=>?_
  obtain ⟨i,rfl,q⟩:=q1
  obtain ⟨t,rfl⟩:=r1
  exact ⟨some i,H1,I1,.int i t,q⟩
def SlR (X:Cx) (r:V→Option Int→Option Int→Hp→VK→Prop):Prop :=
  ∀ (pins:List (Addr × Obj)) (s:Shared) (σ:St) (H:Hp) (x:V) (v vl vu:Value) (lo hi:Option Int) (sl:Addr) (Q:VK),Inv X pins σ H s→RelV x v→s.heap.IsSliceOf sl vl vu .none→IsPart vl lo→IsPart vu hi→r x lo hi H Q →
    ∃ T id,typeLookup (.type T) "__getitem__" = pure (some (.builtin id))∧s.TypeIs v T∧wpAny (model X.prog X.w) X.A (getItem v (.ref sl)) (EP X pins σ Q) X.xe s
def tSl (r:V→Option Int→Option Int→Hp→VK→Prop) (te:TE) (tl th:TO):TE:=fun σ H Q=>te σ H fun x H1=>tl σ H1 fun l H2=>th σ H2 fun u H3=>r x l u H3 Q
theorem pe_slice {r:V→Option Int→Option Int→Hp→VK→Prop} (hr:SlR X r) (he:PE X e te) (hl:PO X lo tl) (hu:PO X hi th):PE X (.Subscript e (.Slice lo hi none p2) pos) (tSl r te tl th):=by
  intro pins s σ H Q I h
  refine Subscript_ (thn (he pins s σ H _ I h) fun v s1 ⟨x,H1,I1,r1,q1⟩=>?_)
  refine wpAny_Slice (thn (hl pins s1 σ H1 _ I1 q1) fun vl s2 ⟨l,H2,I2,pl,q2⟩=>thn (hu pins s2 σ H2 _ I2 q2) fun vu s3 ⟨u,H3,I3,pu,q3⟩=>?_)
  rw [evalPart_none]
  refine wpAny_pure ?_
  have I4:Inv X pins σ H3 { s3 with heap:=s3.heap.push { cls:=.type "slice",data:=.fields #[vl,vu,.none] } }:=I3.kept (t':=s3.toks) fun b ob q=>Heap.get?_push_of_some _ q
  obtain ⟨T,id,hT,ht,hg⟩:=hr pins { s3 with heap:=s3.heap.push { cls:=.type "slice",data:=.fields #[vl,vu,.none] } } σ H3 x v vl vu l u s3.heap.objs.size Q I4 r1 (Heap.IsSliceOf.new ..) pl pu q3
  show wpAny (model X.prog X.w) X.A (subscriptTail e (.Slice lo hi none p2) v (.ref s3.heap.objs.size)) (EP X pins σ Q) X.xe { s3 with heap:=s3.heap.push { cls:=.type "slice",data:=.fields #[vl,vu,.none] } }
  exact tail_any (ops:=[.ref s3.heap.objs.size,v]) ht hT hg (by with_unfolding_all rfl)
def cutV (xs:List V) (lo hi:Option Int):List V:=(xs.drop (HT.sIx xs.length 0 lo)).take (HT.sIx xs.length xs.length hi - HT.sIx xs.length 0 lo)
theorem cutV_length (xs:List V) (lo hi:Option Int):(cutV xs lo hi).length≤xs.length:=by
  unfold cutV
  rw [List.length_take,List.length_drop]
  omega
def rSlT (K:PySem.W.Frag):V→Option Int→Option Int→Hp→VK→Prop:=fun x lo hi H Q=>∃ a xs,x=.ref a∧SqT K H a xs ∧
  ¬ (HT.sIx xs.length 0 lo=0∧HT.sIx xs.length xs.length hi=xs.length)∧∀ p,H p=none→Q (.ref p) (upd H p (.tup (cutV xs lo hi)))
theorem sl_tup:SlR X (rSlT X.K):=by
  intro pins s σ H x v vl vu lo hi sl Q I rx hs pl pu h
  obtain ⟨a,xs,rfl,hx,hw,q⟩:=h
  cases rx
  obtain ⟨its,r,ht,hz⟩:=I.tuple hx
  have hlen:its.toArray.size=xs.length:=by rw [List.size_toArray]; exact r.length.symm
  refine ⟨"tuple",_,PyProof.Rows.slot_tuple_getitem.lookup,ht.typeIs,?_⟩
  refine HT.getItem_tuple_cut ht hs pl pu (by rw [hlen]; exact hw) ?_ (by rw [hlen]; exact hz)
  rw [hlen]
  refine ⟨.ref s.heap.objs.size,_,I.laid (t':=s.toks) (o:=.tup (cutV xs lo hi)) (fun b ob q=>Heap.get?_push_of_some _ q) (Nat.le_refl _) ?_,rfl,q _ (I.hok.fresh (Nat.le_refl _))⟩
  exact ⟨⟨Nat.le_trans (cutV_length xs lo hi) hz,_,Heap.get?_push_size _ rfl,rfl⟩,_,(r.drop (HT.sIx xs.length 0 lo)).take (HT.sIx xs.length xs.length hi - HT.sIx xs.length 0 lo),IsTup.new _ _⟩
def rCatT (K:PySem.W.Frag):R2:=fun x y H Q=>∃ a b xs ys,x=.ref a∧y=.ref b∧SqT K H a xs∧SqT K H b ys∧xs≠[]∧xs.length+ys.length≤sizeLine ∧
  (ys=[]→Q (.ref a) H)∧(ys≠[]→∀ p,H p=none→Q (.ref p) (upd H p (.tup (xs++ys))))
theorem Vals.nil_iff {xs:List V} {us:List Value} (r:Vals xs us):us=[]↔xs=[]:=by
  cases r with
  | nil=>simp
  | cons _ _=>simp
theorem op_catT:OpR X (binaryOp .Add) (rCatT X.K):=by
  intro pins s σ H x y v u Q I rx ry h
  obtain ⟨a,b,xs,ys,rfl,rfl,ha,hb,hx,hz,q1,q2⟩:=h
  cases rx
  cases ry
  obtain ⟨its,r1,p1,_⟩:=I.tuple ha
  obtain ⟨its2,r2,p2,_⟩:=I.tuple hb
  refine HT.cat_tup p1 p2 (fun z=>hx (r1.nil_iff.mp z)) (fun z=>⟨.ref a,H,I,rfl,q1 (r2.nil_iff.mp z)⟩) (fun z=>?_) (by rw [← r1.length,← r2.length]; exact hz)
  refine ⟨.ref s.heap.objs.size,_,I.laid (t':=s.toks) (o:=.tup (xs++ys)) (fun b ob q=>Heap.get?_push_of_some _ q) (Nat.le_refl _) ?_,rfl,q2 (fun w=>z (r2.nil_iff.mpr w)) _ (I.hok.fresh (Nat.le_refl _))⟩
  exact ⟨⟨by rw [List.length_append]; exact hz,_,Heap.get?_push_size _ rfl,rfl⟩,_,r1.append r2,IsTup.new _ _⟩
end
end L2
namespace L2
open PySem PySem.Spec PyProof.Rows
def ixN (n:Nat) (i:Int):Option Nat:=if 0≤i then (if i<n then some i.toNat else none) else if -(n:Int)≤i then some (i+n).toNat else none
def atI {α:Type} (xs:List α) (i:Int):Option α:=(ixN xs.length i).bind fun j=>xs[j]?
theorem ixN_seq {n:Nat} {i:Int} {j:Nat} (h:ixN n i=some j):seqIndex? i n=some j∧j<n∧-(n:Int)≤i∧i<n:=by
  unfold ixN at h
  by_cases h0:0≤i
  · rw [if_pos h0] at h
    by_cases h1:i<n
    · rw [if_pos h1] at h
      have e:i.toNat=j:=Option.some.inj h
      exact ⟨by rw [seqIndex_of h0 h1,e],by omega,by omega,h1⟩
    · rw [if_neg h1] at h; cases h
  · rw [if_neg h0] at h
    by_cases h1:-(n:Int)≤i
    · rw [if_pos h1] at h
      have e:(i+n).toNat=j:=Option.some.inj h
      exact ⟨by rw [seqIndex_neg (by omega) h1,e],by omega,h1,by omega⟩
    · rw [if_neg h1] at h; cases h
theorem atI_get {α:Type} {xs:List α} {i:Int} {v:α} (h:atI xs i=some v):∃ j,seqIndex? i xs.length=some j∧xs[j]?=some v∧j<xs.length∧-(xs.length:Int)≤i∧i<xs.length:=by
  unfold atI at h
  cases e:ixN xs.length i with
  | none=>rw [e] at h; cases h
  | some j =>
    rw [e] at h
    obtain ⟨h1,h2,h3,h4⟩:=ixN_seq e
    exact ⟨j,h1,h,h2,h3,h4⟩
theorem atI_nat {α:Type} {xs:List α} {j:Nat} {v:α} (h:xs[j]?=some v):atI xs (j:Int)=some v:=by
  have hj:j<xs.length:=(List.getElem?_eq_some_iff.mp h).1
  have e:ixN xs.length (j:Int)=some j:=by
    unfold ixN
    rw [if_pos (by omega),if_pos (by omega)]; simp
  unfold atI; rw [e]; exact h
def PlainIx (b:Expr):Prop:=∀ o i,subscripted b false o i=operate [o,i] (getItem o i)
def IxR (X:Cx) (r:R2):Prop :=
  ∀ (value slice:Expr) (pins:List (Addr × Obj)) (s:Shared) (σ:St) (H:Hp) (x y:V) (v u:Value) (Q:VK),Inv X pins σ H s→RelV x v→RelV y u→r x y H Q →
    subscripted slice false v u=operate [v,u] (getItem v u)→wpAny (model X.prog X.w) X.A (subscriptTail value slice v u) (EP X pins σ Q) X.xe s
def MtR (X:Cx) (id:String) (r:V→List V→Hp→VK→Prop):Prop :=
  ∀ (pins:List (Addr × Obj)) (s:Shared) (σ:St) (H:Hp) (x:V) (xs:List V) (v:Value) (us:List Value) (Q:VK),Inv X pins σ H s→RelV x v→Vals xs us→r x xs H Q →
    wpAny (model X.prog X.w) X.A (call (.builtin id) (v::us)) (EP X pins σ Q) X.xe s
section
variable {X:Cx} {a b:Expr} {ta tb:TE} {pos:Pos}
theorem IxR.or {r r':R2} (h:IxR X r) (h':IxR X r'):IxR X (fun x y H Q=>r x y H Q∨r' x y H Q):=by
  intro value slice pins s σ H x y v u Q I rx ry q hs
  rcases q with q | q
  · exact h value slice pins s σ H x y v u Q I rx ry q hs
  · exact h' value slice pins s σ H x y v u Q I rx ry q hs
theorem pe_ix {r:R2} (hr:IxR X r) (ha:PE X a ta) (hb:PE X b tb) (hs:PlainIx b):PE X (.Subscript a b pos) (tOp r ta tb):=by
  intro pins s σ H Q I h
  exact Subscript_ (binT ha hb I h fun v u s2 x y H2 I2 rx ry q=>hr a b pins s2 σ H2 x y v u Q I2 rx ry q (hs _ _))
def rIxL (K:PySem.W.Frag):R2:=fun x y H Q=>∃ p xs i v,x=.ref p∧y=.int i∧SqL K H p xs∧atI xs i=some v∧Q v H
def rIxT (K:PySem.W.Frag):R2:=fun x y H Q=>∃ p xs i v,x=.ref p∧y=.int i∧SqT K H p xs∧atI xs i=some v∧Q v H
def rIxS:R2:=fun x y H Q=>∃ z i c,x=.str z∧y=.int i∧z.length≤sizeLine∧atI z.cps.toList i=some c∧Q (.str ⟨#[c]⟩) H
theorem ix_list:IxR X (rIxL X.K):=by
  intro value slice pins s σ H x y v u Q I rx ry h hs
  obtain ⟨p,xs,i,z,rfl,rfl,hq,he,q⟩:=h
  cases rx
  obtain ⟨t,rfl⟩:=ry
  obtain ⟨its,r,pl,hz⟩:=I.list hq
  obtain ⟨j,h1,h2,h3,h4,h5⟩:=atI_get he
  obtain ⟨w,ew,rw'⟩:=r.get h2
  have hl:=r.length
  have hn:=line63
  have fin:EP X pins σ Q w s:=⟨z,H,I,rw',q⟩
  by_cases h0:0≤i
  · have hj:i.toNat=j:=by
      rw [seqIndex_of h0 h5] at h1
      exact Option.some.inj h1
    exact item_listR pl.isList h0 (by omega) (by rw [hj]; simpa using ew) fin hs
  · have hj:(i+(its.toArray.size:Int)).toNat=j:=by
      rw [seqIndex_neg (by omega) h4] at h1
      rw [List.size_toArray,← hl]
      exact Option.some.inj h1
    exact subscriptTail_builtinR (x:=w) pl.isList.typeIs slot_list_getitem.lookup
      (wpAny_getItem_list_neg (Q:=fun r s'=>r=w∧EP X pins σ Q r s') pl.isList (by omega) (by rw [List.size_toArray] <;> omega) (by omega) (by rw [hj]; simpa using ew) ⟨rfl,fin⟩) hs
theorem ix_tup:IxR X (rIxT X.K):=by
  intro value slice pins s σ H x y v u Q I rx ry h hs
  obtain ⟨p,xs,i,z,rfl,rfl,hq,he,q⟩:=h
  cases rx
  obtain ⟨t,rfl⟩:=ry
  obtain ⟨its,r,pl,hz⟩:=I.tuple hq
  obtain ⟨j,h1,h2,h3,h4,h5⟩:=atI_get he
  obtain ⟨w,ew,rw'⟩:=r.get h2
  have hl:=r.length
  have hn:=line63
  have fin:EP X pins σ Q w s:=⟨z,H,I,rw',q⟩
  exact subscriptTail_builtinR (x:=w) pl.typeIs slot_tuple_getitem.lookup
    (getItem_tuple (j:=j) (Q:=fun r s'=>r=w∧EP X pins σ Q r s') pl (by omega) (by omega) (by rw [List.size_toArray,← hl]; exact h1) (by simpa using ew) ⟨rfl,fin⟩) hs
theorem ix_str:IxR X rIxS:=by
  intro value slice pins s σ H x y v u Q I rx ry h hs
  obtain ⟨z,i,c,rfl,rfl,hz,he,q⟩:=h
  obtain ⟨t,rfl⟩:=rx
  obtain ⟨t',rfl⟩:=ry
  obtain ⟨j,h1,h2,h3,h4,h5⟩:=atI_get he
  have hl:z.cps.toList.length=z.length:=by simp [Str.length]
  rw [hl] at h1 h4 h5
  have hn:=line63
  exact tail_any (typeIs_str s z t) slot_str_getitem.lookup (getItem_str (c:=c) (by
    have e1:decide (i < -(2^63:Int))=false:=decide_eq_false (by omega)
    have e2:decide (i ≥ 2^63)=false:=decide_eq_false (by omega)
    rw [e1,e2,Bool.or_false]) (by rw [h1]; simpa using h2) ⟨.str ⟨#[c]⟩,H,I.tok _,⟨_,rfl⟩,q⟩) hs
def rIx (K:PySem.W.Frag):R2:=fun x y H Q=>rIxL K x y H Q∨rIxT K x y H Q∨rIxS x y H Q
theorem ix_seq:IxR X (rIx X.K):=ix_list.or (ix_tup.or ix_str)
theorem mapSeq_set (its:List Value) (n j:Nat) (u:Value):Obj.mapSeq (·.setIfInBounds j u) { cls:=.type "list",data:=.seq its.toArray n }={ cls:=.type "list",data:=.seq (its.set j u).toArray n }:=by
  simp [Obj.mapSeq]
theorem Inv.lst {pins:List (Addr × Obj)} {σ:St} {H:Hp} {s:Shared} {p:Addr} {xs:List V} (I:Inv X pins σ H s) (h:H p=some (.lst xs)) :
    ∃ (its:List Value) (n:Nat),Vals xs its∧s.heap.get? p=some { cls:=.type "list",data:=.seq its.toArray n }∧xs.length≤sizeLine:=by
  obtain ⟨z,its,n,r,e⟩:=I.hok p _ h
  exact ⟨its,n,r,e,z⟩
theorem Inv.lstUpd {pins:List (Addr × Obj)} {σ:St} {H:Hp} {s:Shared} {p:Addr} {xs ys:List V} {its its':List Value} {n n':Nat} {f:Obj→Obj} (I:Inv X pins σ H s) (h:H p=some (.lst xs))
    (ho:s.heap.get? p=some { cls:=.type "list",data:=.seq its.toArray n }) (hf:f { cls:=.type "list",data:=.seq its.toArray n }={ cls:=.type "list",data:=.seq its'.toArray n' }) (r:Vals ys its') (hz:ys.length≤sizeLine) (t:Nat) :
    Inv X pins σ (upd H p (.lst ys)) { s with heap:=s.heap.update p f,toks:=t }:=by
  have e:(s.heap.update p f).get? p=some { cls:=.type "list",data:=.seq its'.toArray n' }:=by
    rw [Heap.get?_update_self f ho (by rw [hf] <;> rfl),hf]
  refine I.write (x:=p) (e:=p) (by rw [h]; trivial) (.inl rfl) (fun b u hb q=>(Heap.get?_update_other _ _ (Ne.symm hb)).trans q) ⟨_,e⟩ ?_
  exact ⟨hz,its',n',r,e⟩
def rSetL:V→V→V→Hp→(Hp→Prop)→Prop:=fun o i v H Q=>∃ p xs k j,o=.ref p∧i=.int k∧H p=some (.lst xs)∧ixN xs.length k=some j∧Q (upd H p (.lst (xs.set j v)))
theorem set_list:PSet X rSetL:=by
  intro pins s σ H o i v ov iv u Q I ro ri rv h
  obtain ⟨p,xs,k,j,rfl,rfl,hp,hj,q⟩:=h
  cases ro
  obtain ⟨t,rfl⟩:=ri
  obtain ⟨its,n,r,ho,hz⟩:=I.lst hp
  obtain ⟨h1,h2,h3,h4⟩:=ixN_seq hj
  have hl:=r.length
  have hn:=line63
  have I':Inv X pins σ (upd H p (.lst (xs.set j v))) { s with heap:=s.heap.update p (Obj.mapSeq (·.setIfInBounds j u)) } :=
    I.lstUpd hp ho (mapSeq_set its n j u) (r.set rv j) (by rw [List.length_set]; exact hz) s.toks
  by_cases h0:0≤k
  · have hk:k.toNat=j:=by
      rw [seqIndex_of h0 h4] at h1
      exact Option.some.inj h1
    exact PySem.W.ki_setAt ho h0 (by omega) (by rw [List.size_toArray,← hl]; exact h4) (by rw [hk]; exact ⟨_,I',q⟩)
  · have hk:(k+(its.toArray.size:Int)).toNat=j:=by
      rw [seqIndex_neg (by omega) h3] at h1
      rw [List.size_toArray,← hl]
      exact Option.some.inj h1
    exact PySem.W.ki_setBack ho (by omega) (by rw [List.size_toArray,← hl]; exact h3) (by omega) (by rw [hk]; exact ⟨_,I',q⟩)
theorem slice_bounds (lo hi:Option Int) (n:Nat):(sliceBounds lo hi none n).1=((HT.sIx n 0 lo:Nat):Int)∧(sliceBounds lo hi none n).2.1=((HT.sIx n n hi:Nat):Int)∧(sliceBounds lo hi none n).2.2=1:=by
  refine ⟨?_,?_,rfl⟩
  · cases lo with
    | none=>simp [sliceBounds,HT.sIx]
    | some i =>
      simp only [sliceBounds,HT.sIx,Option.getD_none,show (1:Int) > 0 by decide,if_true]
      by_cases h:i<0
      · simp only [h,if_true] <;> omega
      · simp only [h,if_false] <;> omega
  · cases hi with
    | none=>simp [sliceBounds,HT.sIx]
    | some i =>
      simp only [sliceBounds,HT.sIx,Option.getD_none,show (1:Int) > 0 by decide,if_true]
      by_cases h:i<0
      · simp only [h,if_true] <;> omega
      · simp only [h,if_false] <;> omega
theorem slicePick_cut (its:List Value) (lo hi:Option Int):slicePick its.toArray lo hi none=((its.drop (HT.sIx its.length 0 lo)).take (HT.sIx its.length its.length hi - HT.sIx its.length 0 lo)).toArray:=by
  obtain ⟨h1,h2,h3⟩:=slice_bounds lo hi its.toArray.size
  unfold slicePick
  rw [h1,h2,h3]
  simp only [sliceRange_one,pick_run,List.size_toArray] <;> rfl
def rSlL (K:PySem.W.Frag):V→Option Int→Option Int→Hp→VK→Prop:=fun x lo hi H Q=>∃ a xs,x=.ref a∧SqL K H a xs∧∀ p,H p=none→Q (.ref p) (upd H p (.lst (cutV xs lo hi)))
theorem sl_list:SlR X (rSlL X.K):=by
  intro pins s σ H x v vl vu lo hi sl Q I rx hs pl pu h
  obtain ⟨a,xs,rfl,hx,q⟩:=h
  cases rx
  obtain ⟨its,r,ht,hz⟩:=I.list hx
  have hlen:=r.length
  refine ⟨"list",_,slot_list_getitem.lookup,ht.isList.typeIs,?_⟩
  refine wpAny_getItem_list_slice ht.isList hs pl pu .none (by simp) ?_ (by rw [List.size_toArray] <;> omega)
  rw [slicePick_cut,← hlen]
  refine ⟨.ref s.heap.objs.size,_,I.laid (t':=s.toks) (o:=.lst (cutV xs lo hi)) (fun b ob q=>Heap.get?_push_of_some _ q) (Nat.le_refl _) ?_,rfl,q _ (I.hok.fresh (Nat.le_refl _))⟩
  exact ⟨Nat.le_trans (cutV_length xs lo hi) hz,_,0,(r.drop (HT.sIx xs.length 0 lo)).take (HT.sIx xs.length xs.length hi - HT.sIx xs.length 0 lo),Heap.get?_push_size _ rfl⟩
def eqV:V→V→Bool
  | .non,.non=>true
  | .bl a,.bl b=>a == b
  | .bl a,.int b=>(if a then 1 else 0) == b
  | .int a,.bl b=>a == (if b then 1 else 0)
  | .int a,.int b=>a == b
  | .str a,.str b=>a == b
  | _,_=>false
theorem call_list_of:CallR X (.type "list") (fun xs H Q=>∃ p ys,xs=[.ref p]∧(SqL X.K H p ys∨SqT X.K H p ys)∧∀ l,H l=none→Q (.ref l) (upd H l (.lst ys))):=by
  intro pins s σ H xs us Q I r h
  obtain ⟨p,ys,rfl,hq,q⟩:=h
  obtain ⟨u,rfl,rx⟩:=vals1 r
  cases rx
  have fin:∀ (its:List Value),Vals ys its→ys.length≤sizeLine→∀ (h':Heap) (c':Nat),(∀ b o',s.heap.get? b=some o'→h'.get? b=some o') →
      h'.get? s.heap.objs.size=some { cls:=.type "list",dict:=none,data:=.seq its.toArray c',slots:=#[] }→EP X pins σ Q (.ref s.heap.objs.size) { s with heap:=h' }:=fun its r' hz h' c' kp e =>
    ⟨.ref s.heap.objs.size,_,I.laid (t':=s.toks) kp (Nat.le_refl _) (show ObjOk X.prog X.w _ h' _ (.lst ys) from ⟨hz,its,c',r',e⟩),rfl,q _ (I.hok.fresh (Nat.le_refl _))⟩
  rcases hq with hq | hq
  · obtain ⟨its,r',pl,hz⟩:=I.list hq
    have hlen:=r'.length
    obtain ⟨o,ho,hc,n,hd⟩:=pl.isList
    exact call_list_seq p (.inl rfl) ho hc hd (fun h' c' kp e=>fin its r' hz h' c' kp e) (by simp only [List.size_toArray] <;> omega)
  · obtain ⟨its,r',pl,hz⟩:=I.tuple hq
    have hlen:=r'.length
    obtain ⟨o,ho,hc,n,hd⟩:=pl
    exact call_list_seq p (.inr rfl) ho hc hd (fun h' c' kp e=>fin its r' hz h' c' kp e) (by simp only [List.size_toArray] <;> omega)
theorem call_tuple_of:CallR X (.type "tuple") (fun xs H Q=>∃ p ys,xs=[.ref p]∧((SqL X.K H p ys∧∀ l,H l=none→Q (.ref l) (upd H l (.tup ys)))∨(SqT X.K H p ys∧Q (.ref p) H))):=by
  intro pins s σ H xs us Q I r h
  obtain ⟨p,ys,rfl,h⟩:=h
  obtain ⟨u,rfl,rx⟩:=vals1 r
  cases rx
  rcases h with ⟨hq,q⟩ | ⟨hq,q⟩
  · obtain ⟨its,r',pl,hz⟩:=I.list hq
    have hlen:=r'.length
    refine call_tuple_list pl.isList (fun h' kp=>?_) (by simp only [List.size_toArray] <;> omega)
    have I1:Inv X pins σ H { s with heap:=h' }:=I.kept (t':=s.toks) kp
    have I2:Inv X pins σ (upd H h'.objs.size (.tup ys)) { s with heap:=h'.push { cls:=.type "tuple",data:=.seq its.toArray } } :=
      I1.laid (t':=s.toks) (fun b o e=>Heap.get?_push_of_some _ e) (Nat.le_refl _) (show ObjOk X.prog X.w _ _ _ (.tup ys) from ⟨⟨hz,_,Heap.get?_push_size _ rfl,rfl⟩,its,r',IsTup.new _ _⟩)
    exact ⟨.ref h'.objs.size,_,I2,rfl,q _ (I1.hok.fresh (Nat.le_refl _))⟩
  · obtain ⟨its,r',pl,hz⟩:=I.tuple hq
    exact call_tuple_same pl ⟨.ref p,H,I,rfl,q⟩
def tyV (K:PySem.W.Frag) (T:String) (x:V) (H:Hp):Prop:=match x with
  | .str _=>T = "str"
  | .int _=>T = "int"
  | .ref p=>(T = "list" ∧ ∃ xs,SqL K H p xs)∨(T = "tuple" ∧ ((∃ o,K.lookup p=some o∧o.cls=.type "tuple" ∧ o.dict=none)∨∃ xs,H p=some (.tup xs))) ∨
      (T = "dict" ∧ ((∃ kvs,H p=some (.dK kvs))∨∃ kvs,H p=some (.dT kvs)))∨(T = "set" ∧ ∃ S n,H p=some (.set S n))
  | _=>False
theorem tyV_is {pins:List (Addr × Obj)} {σ:St} {H:Hp} {s:Shared} {T:String} {x:V} {v:Value} (I:Inv X pins σ H s) (r:RelV x v) (ty:tyV X.K T x H) :
    s.TypeIs v T∧∀ a,v=.ref a→∃ ob,s.heap.get? a=some ob∧ob.dict=none:=by
  cases x with
  | str z =>
    obtain ⟨t,rfl⟩:=r
    cases (show T = "str" from ty)
    exact ⟨typeIs_str s z t,fun _ e=>nomatch e⟩
  | int i =>
    obtain ⟨t,rfl⟩:=r
    cases (show T = "int" from ty)
    exact ⟨typeIs_int s i t,fun _ e=>nomatch e⟩
  | ref p =>
    cases r
    rcases ty with ⟨rfl,xs,hq⟩ | ⟨rfl,⟨o,hk,hc,hd⟩ | ⟨xs,hq⟩⟩ | ⟨rfl,hk⟩ | ⟨rfl,S,n,hk⟩
    · obtain ⟨its,_,pl,_⟩:=I.list hq
      refine ⟨pl.isList.typeIs,fun a e=>?_⟩
      cases e
      obtain ⟨o,n,e,c,hd,_⟩:=pl
      exact ⟨o,e,hd⟩
    · refine ⟨⟨o,I.kIn p o hk,hc⟩,fun a e=>?_⟩
      cases e
      exact ⟨o,I.kIn _ o hk,hd⟩
    · obtain ⟨⟨_,on,en,dn⟩,_,_,o,e1,e2,_⟩:=(show ObjOk X.prog X.w H s.heap p (.tup xs) from I.hok p _ hq)
      refine ⟨⟨o,e1,e2⟩,fun a e=>?_⟩
      cases e
      exact ⟨on,en,dn⟩
    · have z:∃ o,s.heap.get? p=some o∧o.ExactDict:=by
        rcases hk with ⟨kvs,hk⟩ | ⟨kvs,hk⟩
        · obtain ⟨_,_,_,_,o,_,_,e,ex,_⟩:=I.hok p _ hk
          exact ⟨o,e,ex⟩
        · obtain ⟨_,_,_,_,o,_,_,e,ex,_⟩:=I.hok p _ hk
          exact ⟨o,e,ex⟩
      obtain ⟨o,e,ex⟩:=z
      refine ⟨⟨o,e,ex.1⟩,fun a e2=>?_⟩
      cases e2
      exact ⟨o,e,ex.2.1⟩
    · obtain ⟨o,_,_,_,e,ex,_⟩:=I.hok p _ hk
      refine ⟨⟨o,e,ex.1⟩,fun a e2=>?_⟩
      cases e2
      exact ⟨o,e,ex.2.1⟩
  | _=>exact False.elim ty
def tBM (K:PySem.W.Frag) (T:String) (r:V→List V→Hp→VK→Prop) (to:TE) (t:TA):TE:=fun σ H Q=>to σ H fun x H1=>tyV K T x H1∧t σ H1 fun xs H2=>r x xs H2 Q
variable {o e:Expr} {es:List Expr} {to:TE} {t:TA} {name:Str} {apos cpos:Pos} {T id:String} {r:V→List V→Hp→VK→Prop}
theorem pe_bm (pa:PlainAttrs T) (slot:Slot T name id) (hty:typeOf (.builtin id)=pure (.type "method_descriptor")) (hm:MtR X id r) (ho:PE X o to) (ha:PA X (e::es) t)
    (hbase:attributeBase o name X.env (eval o X.env)=eval o X.env:=by rfl)
    (hfew:((backTo cpos (starEach (e::es) X.env)).all (fun x=>!x.1)&&(backToKw cpos (keywordEach [] X.env)).all (fun x=>x.1.isSome)
      && decide ((e::es).length+([]:List Keyword).length+(if ([]:List Keyword).isEmpty then 0 else 1)<30))=true:=by rfl)
    (hline:(apos.endLine == cpos.line)=true:=by rfl) (hs:starEach (e::es) X.env=(false,eval e X.env)::starEach es X.env:=by rfl) (hplain:(backTo cpos (starEach es X.env)).any (·.1)=false:=by rfl) :
    PE X (.Call (.Attribute o name apos) (e::es) [] cpos) (tBM X.K T r to t):=by
  intro pins s σ H Q I h
  refine wpAny_Call_method_late hbase hfew hline rfl (thn (ho pins s σ H _ I h) fun v s1 ⟨x,H1,I1,r1,ty,q1⟩=>?_)
  obtain ⟨h1,h2⟩:=tyV_is I1 r1 ty
  refine ⟨T,id,pa,slot,hty,h1,h2,?_⟩
  have hA:=ha cpos pins s1 σ H1 _ I1 q1
  rw [hs] at hA ⊢
  refine Calls.callWith_builtin (by show (false || (backTo cpos (starEach es X.env)).any (·.1))=false; rw [hplain] <;> rfl) (Calls.evalArgs_plain ?_)
  exact thn hA fun us s2 ⟨vs,H2,I2,r2,q2⟩=>hm pins s2 σ H2 x vs v us Q I2 r1 r2 q2
/- xs.append(e),list.index on a module's tuple .. are MtR facts of 06m -/
end
end L2
namespace L2
open PySem PySem.Spec PyProof.Rows
def MtM (X:Cx) (id:String) (r:V→List V→Hp→VK→Prop):Prop :=
  ∀ (pins:List (Addr × Obj)) (s:Shared) (σ:St) (H:Hp) (x:V) (xs:List V) (v:Value) (us:List Value) (Q:VK),Inv X pins σ H s→RelV x v→Vals xs us→r x xs H Q →
    wpAny (model X.prog X.w) X.A (call (.builtin id) (v::us)) (EP X pins σ Q) X.xe s
theorem Vals.one:∀ {x:V} {us:List Value},Vals [x] us→∃ u,us=[u]∧RelV x u
  | _,_,.cons r .nil=>⟨_,rfl,r⟩
theorem Vals.eraseIdx:∀ {xs:List V} {us:List Value} (i:Nat),Vals xs us→Vals (xs.eraseIdx i) (us.eraseIdx i)
  | _,_,_,.nil=>.nil
  | _,_,0,.cons _ t=>t
  | _,_,i+1,.cons r t=>.cons r (Vals.eraseIdx i t)
theorem Vals.rep {xs:List V} {us:List Value} (h:Vals xs us):∀ k:Nat,Vals (List.replicate k xs).flatten (List.replicate k us).flatten
  | 0=>.nil
  | k+1=>by
    rw [List.replicate_succ,List.replicate_succ,List.flatten_cons,List.flatten_cons]
    exact Vals.append h (Vals.rep h k)
theorem len_erase {α:Type}:∀ (l:List α) (i:Nat),(l.eraseIdx i).length≤l.length
  | [],_=>Nat.le_refl _
  | _::_,0=>Nat.le_succ _
  | _::r,i+1=>Nat.succ_le_succ (len_erase r i)
theorem foldl_rep (its:List Value):∀ (k:Nat) (acc:List Value),
    List.foldl (fun x1 x2=>x1++x2) acc.toArray (List.replicate k its.toArray)=(acc++(List.replicate k its).flatten).toArray
  | 0,acc=>by simp
  | k+1,acc=>by
    have e:acc.toArray++its.toArray=(acc++its).toArray:=by simp
    have e2:(acc++its)++(List.replicate k its).flatten=acc++(List.replicate (k+1) its).flatten:=by
      rw [List.replicate_succ,List.flatten_cons,List.append_assoc]
    rw [← e2,← foldl_rep its k (acc++its),← e,List.replicate_succ,List.foldl_cons]
section
variable {X:Cx} {pins:List (Addr × Obj)} {σ:St} {H:Hp} {s:Shared} {l b:Addr} {xs ys zs:List V}
theorem Inv.lset {its its':List Value} {n:Nat} {f:Array Value→Array Value} {t':Nat} (I:Inv X pins σ H s) (hH:H l=some (.lst xs))
    (e:s.heap.get? l=some { cls:=.type "list",data:=.seq its.toArray n }) (hf:f its.toArray=its'.toArray) (hv:Vals ys its') (hz:ys.length≤sizeLine) :
    Inv X pins σ (upd H l (.lst ys)) { s with heap:=s.heap.update l (Obj.mapSeq f),toks:=t' }:=by
  have q:=PySem.IsL.update e f
  rw [hf] at q
  refine I.write (x:=l) (e:=l) (by rw [hH]; exact trivial) (.inl rfl) (fun b' u hb hu=>(Heap.get?_update_other s.heap (Obj.mapSeq f) (Ne.symm hb)).trans hu) ⟨_,q⟩ ?_
  exact ⟨hz,its',_,hv,q⟩
theorem Inv.lnew {its:List Value} {t':Nat} (I:Inv X pins σ H s) (hv:Vals ys its) (hz:ys.length≤sizeLine) :
    Inv X pins σ (upd H s.heap.objs.size (.lst ys)) { s with heap:=s.heap.push { cls:=.type "list",data:=.seq its.toArray },toks:=t' } :=
  I.laid (fun _ _ q=>Heap.get?_push_of_some _ q) (Nat.le_refl _) ⟨hz,its,0,hv,Heap.get?_push_size _ rfl⟩
theorem Inv.fresh (I:Inv X pins σ H s):H s.heap.objs.size=none:=I.hok.fresh (Nat.le_refl _)
theorem Inv.lstM (I:Inv X pins σ H s) (hH:H l=some (.lst xs)):xs.length≤sizeLine∧∃ (its:List Value) (n:Nat),Vals xs its∧xs.length=its.length∧s.heap.get? l=some { cls:=.type "list",data:=.seq its.toArray n }:=by
  obtain ⟨z,its,n,r,e⟩:=I.hok l _ hH
  exact ⟨z,its,n,r,r.length,e⟩
theorem notLongL {n:Nat} (h:n≤sizeLine):Builtin.List.listTooLong n=false:=by
  unfold Builtin.List.listTooLong
  exact decide_eq_false (by omega)
end
section
variable {X:Cx}
def rAppend:V→List V→Hp→VK→Prop:=fun x vs H Q=>∃ l xs y,x=.ref l∧vs=[y]∧H l=some (.lst xs)∧xs.length<sizeLine∧Q .non (upd H l (.lst (xs++[y])))
theorem mt_append:MtM X "list.append" rAppend:=by
  intro pins s σ H x vs v us Q I rx rv h
  obtain ⟨l,xs,y,rfl,rfl,hH,hz,q⟩:=h
  cases rx
  obtain ⟨u,rfl,ru⟩:=rv.one
  obtain ⟨z,its,n,r,hl,e⟩:=I.lstM hH
  refine call_meets F.slot_list_append ⟨_,e,rfl⟩ F.entry_list_append (F.args_list_append_2 _ _) (PySem.list_append l its.toArray n u (by rw [List.size_toArray]; omega)) ⟨e,?_⟩
  refine ⟨.non,_,I.lset (its':=its++[u]) hH e (by simp) (r.append (.cons ru .nil)) ?_,rfl,q⟩
  rw [List.length_append,List.length_singleton]
  omega
def rExtend:V→List V→Hp→VK→Prop:=fun x vs H Q=>∃ l b xs zs,x=.ref l∧vs=[.ref b]∧H l=some (.lst xs)∧H b=some (.lst zs)∧xs.length+zs.length≤sizeLine∧Q .non (upd H l (.lst (xs++zs)))
theorem mt_extend:MtM X "list.extend" rExtend:=by
  intro pins s σ H x vs v us Q I rx rv h
  obtain ⟨l,b,xs,zs,rfl,rfl,hH,hB,hz,q⟩:=h
  cases rx
  obtain ⟨u,rfl,ru⟩:=rv.one
  cases ru
  obtain ⟨z,its,n,r,hl,e⟩:=I.lstM hH
  obtain ⟨z2,its2,n2,r2,hl2,e2⟩:=I.lstM hB
  have hsz:its.toArray.size+its2.toArray.size≤sizeLine:=by rw [List.size_toArray,List.size_toArray]; omega
  have hlong:¬ (!its.toArray.isEmpty&&Builtin.List.listTooLong (its.toArray.size+its2.toArray.size))=true:=by
    rw [notLongL hsz,Bool.and_false]
    exact Bool.false_ne_true
  refine call_meets F.slot_list_extend ⟨_,e,rfl⟩ F.entry_list_extend (F.args_list_extend_2 _ _)
    (AutoSeq1.list_extend_list_list_0 l its.toArray n b its2.toArray n2 hlong (by rw [List.size_toArray]; omega) (by omega)) ⟨e,e2,?_⟩
  refine ⟨.non,_,I.lset (its':=its++its2) hH e (by simp) (r.append r2) ?_,rfl,q⟩
  rw [List.length_append]
  omega
def rPopAt:V→List V→Hp→VK→Prop:=fun x vs H Q=>∃ l xs i k y,x=.ref l∧vs=[.int i]∧H l=some (.lst xs)∧-(2^63)≤i∧i<2^63∧seqIndex? i xs.length=some k∧xs[k]?=some y∧Q y (upd H l (.lst (xs.eraseIdx k)))
theorem mt_popAt:MtM X "list.pop" rPopAt:=by
  intro pins s σ H x vs v us Q I rx rv h
  obtain ⟨l,xs,i,k,y,rfl,rfl,hH,h1,h2,hk,hy,q⟩:=h
  cases rx
  obtain ⟨u,rfl,ru⟩:=rv.one
  obtain ⟨t,rfl⟩:=ru
  obtain ⟨z,its,n,r,hl,e⟩:=I.lstM hH
  obtain ⟨w,hw,rw'⟩:=r.get hy
  refine call_meets F.slot_list_pop ⟨_,e,rfl⟩ F.entry_list_pop (F.args_list_pop_2 _ _)
    (MeetsSeq.list_pop_at l its.toArray n i t k w (fitsIndex_both h1 h2) (by rw [List.size_toArray,← hl]; exact hk) (by rw [← Array.getElem?_toList]; exact hw) (by rw [List.size_toArray]; omega)) ⟨e,?_⟩
  refine ⟨y,_,I.lset (its':=its.eraseIdx k) hH e ?_ (r.eraseIdx k) ?_,rw',q⟩
  · show its.toArray.eraseIdxIfInBounds k=(its.eraseIdx k).toArray
    rw [List.eraseIdxIfInBounds_toArray]
  · have:=len_erase xs k
    omega
def rCat:R2:=fun x y H Q=>∃ l b xs zs,x=.ref l∧y=.ref b∧H l=some (.lst xs)∧H b=some (.lst zs)∧xs.length+zs.length≤sizeLine∧∀ p,H p=none→Q (.ref p) (upd H p (.lst (xs++zs)))
theorem op_cat:OpR X (binaryOp .Add) rCat:=by
  intro pins s σ H x y v u Q I rx ry h
  obtain ⟨l,b,xs,zs,rfl,rfl,hH,hB,hz,q⟩:=h
  cases rx
  cases ry
  obtain ⟨z,its,n,r,hl,e⟩:=I.lstM hH
  obtain ⟨z2,its2,n2,r2,hl2,e2⟩:=I.lstM hB
  refine PySem.P.add_list e e2 ?_ (by rw [List.size_toArray,List.size_toArray]; omega)
  have ea:its.toArray++its2.toArray=(its++its2).toArray:=by simp
  rw [ea]
  exact ⟨.ref _,_,I.lnew (t':=s.toks) (r.append r2) (by rw [List.length_append]; omega),rfl,q _ I.fresh⟩
def rRep:R2:=fun x y H Q=>∃ l k xs,x=.ref l∧y=.int k∧H l=some (.lst xs)∧-(2^63)≤k∧k<2^63∧xs.length*k.toNat≤sizeLine ∧
  ∀ p,H p=none→Q (.ref p) (upd H p (.lst (List.replicate k.toNat xs).flatten))
theorem len_rep {α:Type} (xs:List α) (k:Nat):(List.replicate k xs).flatten.length=k*xs.length:=by
  induction k with
  | zero=>simp
  | succ k ih=>rw [List.replicate_succ,List.flatten_cons,List.length_append,ih,Nat.succ_mul,Nat.add_comm]
theorem op_rep:OpR X (binaryOp .Mult) rRep:=by
  intro pins s σ H x y v u Q I rx ry h
  obtain ⟨l,k,xs,rfl,rfl,hH,h1,h2,hz,q⟩:=h
  cases rx
  obtain ⟨t,rfl⟩:=ry
  obtain ⟨z,its,n,r,hl,e⟩:=I.lstM hH
  have hlen:its.toArray.size*k.toNat≤sizeLine:=by rw [List.size_toArray,← hl]; exact hz
  have hcap:¬ its.toArray.size*k.toNat > (2^63 - 1) / 8:=by
    have:(sizeLine:Nat)≤(2^63 - 1) / 8:=by decide
    omega
  have hfit:¬ (!Builtin.List.listFitsIndex k)=true:=by
    rw [fitsIndex_both h1 h2]
    exact Bool.false_ne_true
  have hlong:¬ Builtin.List.listTooLong (its.toArray.size*k.toNat)=true:=by
    rw [notLongL hlen]
    exact Bool.false_ne_true
  have hnew:List.foldl (fun x1 x2=>x1++x2) #[] (List.replicate (if its.toArray.isEmpty=true then 0 else k.toNat) its.toArray)=(List.replicate k.toNat its).flatten.toArray:=by
    have f0:∀ m:Nat,List.foldl (fun x1 x2=>x1++x2) #[] (List.replicate m its.toArray)=(List.replicate m its).flatten.toArray:=fun m=>by
      have:=foldl_rep its m []
      rw [List.nil_append] at this
      exact this
    rw [f0]
    cases its with
    | nil=>simp
    | cons a r'=>rw [if_neg (by simp)]
  refine wpAny_binaryOp_repeat_ref (T := "list") (U := "int") (by decide) ⟨_,e,rfl⟩ (fun s'=>typeIs_int s' k t) noFill_list_mul F.fills_int_mul F.slot_int_rmul repeat_list F.slot_int_index.lookup
    (call_meets F.slot_int_rmul (typeIs_int s k t) F.entry_int_rmul (F.args_int_rmul_2 _ _) (int___rmul___int_list k t l its.toArray n)
      ⟨e,rfl,⟨_,e,rfl⟩,call_meets F.slot_list_mul ⟨_,e,rfl⟩ F.entry_list_mul (F.args_list_mul_2 _ _) (AutoListH.list___mul___list_int_3 l its.toArray n k t hfit hcap hlong) ⟨e,?_⟩⟩)
  rw [hnew]
  exact ⟨.ref _,_,I.lnew (t':=s.toks) (r.rep k.toNat) (by rw [len_rep,Nat.mul_comm]; exact hz),rfl,q _ I.fresh⟩
end
section
variable {prog:Program} {w:World} {A:Around} {E:Value→Shared→Prop} {s:Shared}
end
section
variable {X:Cx}
end
end L2
namespace Att
open PySem PySem.W PySem.Calls PyProof.Rows
theorem ints_of_wellAll {P:Params} {h:Heap}:∀ (ns:List Int) (vs:List Value),WellAll P h vs (ns.map WData.int)→IntsAre vs ns:=by
  intro ns
  induction ns with
  | nil =>
    intro vs w
    rw [List.map_nil] at w
    cases w
    exact .nil
  | cons n ns ih =>
    intro vs w
    rw [List.map_cons] at w
    cases w with
    | cons a b =>
      cases a
      exact .cons _ _ (ih _ b)
theorem script_of {l:OpenLaw} {n:Nat} (hn:l.most=some n) {P:Params} {h:Heap} {args:List WData} {vals:List Value}
    (hpre:l.row.toRowW.claim.pre args=true) (hwl:WellAll P h vals args) :
    ∃ a vs ns,vals=[Value.ref a]∧args=[WData.list (ns.map WData.int)]∧h.get? a=some { cls:=.type "list",data:=.seq vs.toArray }∧IntsAre vs ns∧ns.length≤n:=by
  have hsh:WShape.hasAll [] args [.list .int]=true:=(pre_splitW hpre).1
  have hc:l.pre.holds [] { args:=args }=true:=(pre_splitW hpre).2
  obtain ⟨d,r,rfl,h1,h2⟩:=hasAllW_cons hsh
  obtain rfl:=hasAllW_nil h2
  obtain ⟨xs,rfl,h3⟩:=hasW_list h1
  obtain ⟨ns,rfl⟩:=items_int h3
  have hlen:ns.length≤n:=by
    unfold OpenLaw.pre at hc
    have h4:(WTm.not (.lt (.lit (.int (n:Int))) (.len (.arg 0)))).holds [] { args:=[.list (ns.map .int)] }=true:=by
      have h4:=(holds_andW hc).1
      rw [hn] at h4
      exact h4
    have h5:=condW_of h4 (w_not (w_lt w_lit (w_len_list (w_arg rfl))))
    rw [List.length_map] at h5
    refine Nat.le_of_not_lt fun q=>?_
    have q':(n:Int)<((ns.length:Nat):Int):=by omega
    first
      | (rw [decide_eq_true q'] at h5; exact absurd h5 (by decide))
      | (simp at h5; omega)
  cases hwl with
  | cons w1 w2 =>
    cases w2
    cases w1 with
    | list ho hall=>exact ⟨_,_,ns,rfl,rfl,ho,ints_of_wellAll ns _ hall,hlen⟩
theorem post_true (l:OpenLaw) (args:List WData):l.row.toRowW.claim.post args (.bool true) args=true :=
  postW_of (r:=l.row.toRowW) (X:=(true == true))
    (show WShape.has [] (.bool true) .bool=true by first | rfl | decide | simp [WShape.has,WShape.arms,WShape.armsAll])
    (show (WTm.eq .res (.lit (.bool true))).value [] { args:=args,res:=some (.bool true),after:=args }=some (.bool (true == true)) from w_eq_bool (w_res rfl) w_lit) rfl
theorem attach_call {l:OpenLaw} {n:Nat} {q:Program} {loose:List Str} {XP:(Str→Option Value)→Heap→Prop} {YP:World→Heap→Prop} {d:DefRec}
    (hn:l.most=some n) (hdf:d.params.defaults=[])
    (call:∀ (w:World) (s₀ s₁:Shared) (mg mb:Str→Option Value) (fa:Addr) (o:Obj) (pm cd doc:Value) (a:Addr) (vs:List Value) (ns:List Int),
      Ground q loose [] XP w s₀ mg mb s₁.heap→YP w s₁.heap →
      s₁.heap.get? fa=some o→o.data=.func (docDef d.name d.params d.body d.scope pm cd doc)→s₁.heap.CodeRec cd d.name→mg d.name=some (.ref fa) →
      s₁.heap.get? a=some { cls:=.type "list",data:=.seq vs.toArray }→IntsAre vs ns→ns.length≤n→s₁.gens=#[] →
      codeAny (model l.prog w) callerA (.call (.ref fa) ⟨[.ref a],[]⟩) (fun r s'=>r=.ok (.ret (.bool true))∧OldK s₁.heap s'.heap∧s'.os=s₁.os∧AllBare s'.gens) s₁) :
    WalkO q loose XP YP l.row.toRowW d [] (fun f vs=>PySem.call f vs):=by
  intro w s₀ s₁ mg mb G Y fa o pm cd doc dV kV ho hd hcd hD hmg hg args vals as hpre hlay hrd hwl hlo
  obtain rfl:dV=.none:=Dflts.none hD hdf
  obtain rfl:kV=.none:=Dflts.noKw hD
  obtain ⟨a,vs,ns,rfl,rfl,hobj,hints,hlen⟩:=script_of hn hpre hwl
  refine enter_call (codeAny_mono (call w s₀ s₁ mg mb fa o pm cd doc a vs ns G Y ho (fd_plain hd) hcd hmg hobj hints hlen hg) fun r s' hq=>?_)
  obtain ⟨rfl,h2,h3,h4⟩:=hq
  exact ⟨.inl ⟨.bool true,.bool true,[],rfl,fun _=>rfl,.bool true,post_true l _,fun _=>⟨List.Pairwise.nil,fun _ hm=>(nomatch hm)⟩⟩,h2,h3,h4⟩
section
variable {prog:Program} {w:World} {A:Around} {E:Value→Shared→Prop} {s:Shared} {K:Frag}
end
end Att
namespace L2
open PySem PySem.Spec PyProof.Rows
theorem vals_ints:∀ {vs:List Value} {ns:List Int},IntsAre vs ns→Vals (ns.map V.int) vs
  | _,_,.nil=>.nil
  | _,_,.cons n t h=>.cons ⟨t,rfl⟩ (vals_ints h)
end L2
namespace L2
open PySem PySem.Spec PyProof.Rows
end L2
/- THE LAST THEOREM (shape; LID,My.* are yours):
   My.Adr: a structure of the addresses that your layer names (classes,functions); My.Txt K t: a structure (Prop) of the equations over K;
   My.txt_mk:{K} {implicit addresses ..} (e1:nsIn K mainGlobals "law" = some (some (.ref f))) (e2:K.lookup f=some ⟨oc,od,.func (fnOf "law" "law" params body scope dV kV doc pm an cdv ct),sl⟩) (e3:codeIn K cdv "law" = true) .. : ∃ t,My.Txt K t
set_option maxRecDepth 100000 in
set_option maxHeartbeats 0 in
theorem PySem.Challenge.cw_LID_holds : PySem.Challenge.rw_LID.Holds := by
  w_on; o_law; k_head; (case hw=>w_witness2)
  k_fill
  refine L2.walk_of (l:=PySem.Challenge.rw_LID) (n:=63) (k:=40) (x := "script") (CX:=fun w=>..) (sp:=fun _=>My.sp_law) rfl (by decide) rfl ⟨rfl,by decide,by decide⟩ (fun w h Y=>PySem.W.kIn_of Y) ?F ?S ?C
  case F =>
    intro w mg fa h KX G hmg
    have T:∃ t,My.Txt (L2.KOf KX) t:=by
      dsimp only [L2.KOf]                          -- K must stand as «<heap const> w.params» for k_is
      refine' My.txt_mk ?e1 ?e2 ?e3 ..
      (case e1=>PySem.W.k_is)                    -- in the order: a name -> its address -> its object -> its parts
      (case e2=>PySem.W.k_is)
      ..
    obtain ⟨t,T⟩:=T
    have e0:=hmg.symm.trans (PySem.W.mg_of KX G T.law)
    cases e0                                       -- fa is the law's own address
    exact ⟨_,fun s u=>.of_eq rfl,fun base kb nb=>My.law_fn T kb nb⟩     -- if «.of_eq rfl» comes too early: refine' ⟨_,?b,fun base kb nb=>My.law_fn T kb nb⟩; exact fun s u=>.of_eq rfl
  case S=>exact fun w H a ns hl hO hS=>..
  case C=>exact ..
(the tactic k_is has no namespace: write k_is) -/
namespace L2
open PySem PySem.Spec PyProof.Rows
def defArgs (s:Stmt):Arguments:=match s with
  | .FunctionDef _ a _ _ _ _ _ _ _ _=>a
  | _=>{ posonlyargs:=[],args:=[],vararg:=none,kwonlyargs:=[],kw_defaults:=[],kwarg:=none,defaults:=[] }
def defBody (s:Stmt):List Stmt:=match s with
  | .FunctionDef _ _ b _ _ _ _ _ _ _=>b
  | _=>[]
def defScope (s:Stmt):Scope:=match s with
  | .FunctionDef _ _ _ _ _ _ sc _ _ _=>sc
  | _=>{ kind:=.function,names:=[],isGenerator:=false,isCoroutine:=false }
abbrev CX0:CXT:=fun _ _ _ _ _ _=>False
abbrev E0:XK:=fun _ _ _=>False
theorem pass0 {X:Cx}:Passes CX0 X E0:=fun _ _ _ _ _ _ _ h=>h.elim
structure Fun (K:PySem.W.Frag) (x qual:Str) (st:Stmt) (f:Addr) (fd:FuncData):Prop where
  ex:∃ (oc:Value) (od:Option Addr) (kV doc pm:Value) (an:Option Addr) (cdv ct:Value) (osl:Array (Option Value)),
    fd=PySem.W.fnOf x qual (defArgs st) (defBody st) (defScope st) .none kV doc pm an cdv ct∧K.lookup f=some ⟨oc,od,.func fd,osl⟩∧PySem.W.codeIn K cdv qual=true
  kp:PySem.W.keepIn K (.ref f)=true
section
variable {P:Program} {w:World} {K:PySem.W.Frag} {mg:Str→Option Value} {base:Heap}
theorem Fun.ok {x qual:Str} {st:Stmt} {f:Addr} {fd:FuncData} {N ps:List Str} {k:Nat} {sp:Sp} (F:Fun K x qual st f fd) (S:FnScope N ps (defScope st)) (len:∀ vs H Q E,sp vs H Q E→vs.length=ps.length)
    (hbody:∀ (cdv:Value) (A:Around) (outer:List Env) (s:Shared) (H:Hp) (vs:List V) (Q:VK) (E:XK),Room k (A.deeper (envOfC qual (defScope st) s.heap.objs.size f cdv))→sp vs H Q E →
      ∃ t,PSs (cxOf CX0 P w K mg base N qual (defScope st) f cdv A outer s H E).nox (defBody st) t∧t { nx:=fun _ H'=>Q .non H',rt:=Q } (start N vs) H):FnOk P w K mg base CX0 (k+1) f fd ps sp:=by
  obtain ⟨oc,od,kV,doc,pm,an,cdv,ct,osl,rfl,lk,hcd⟩:=F.ex
  refine fn_of lk hcd S len fun A outer s H vs Q E hr hsp=>?_
  obtain ⟨t,h,q⟩:=hbody cdv A outer s H vs Q E hr hsp
  exact ⟨t,h.nox,q⟩
theorem Fun.binds {x qual:Str} {st:Stmt} {f:Addr} {fd:FuncData} {ps:List Str} (F:Fun K x qual st f fd)
    (h:∀ (kV doc pm:Value) (an:Option Addr) (cdv ct:Value) (us:List Value),us.length=ps.length→bindArgs (PySem.W.fnOf x qual (defArgs st) (defBody st) (defScope st) .none kV doc pm an cdv ct) ⟨us,[]⟩=pure (ps.zip us)):Binds K fd ps []:=by
  obtain ⟨oc,od,kV,doc,pm,an,cdv,ct,osl,rfl,lk,hcd⟩:=F.ex
  exact .all (h kV doc pm an cdv ct)
theorem fun_mk {x qual:Str} {st:Stmt} {f:Addr} {oc:Value} {od an:Option Addr} {osl:Array (Option Value)} {kV doc pm cdv ct:Value} (l:K.lookup f=some ⟨oc,od,.func (PySem.W.fnOf x qual (defArgs st) (defBody st) (defScope st) .none kV doc pm an cdv ct),osl⟩)
    (c:PySem.W.codeIn K cdv qual=true) (k:PySem.W.keepIn K (.ref f)=true):Fun K x qual st f (PySem.W.fnOf x qual (defArgs st) (defBody st) (defScope st) .none kV doc pm an cdv ct):=⟨⟨oc,od,kV,doc,pm,an,cdv,ct,osl,rfl,l,c⟩,k⟩
end
theorem small1000 {n:Nat} (h:n≤1000):n<sizeLine:=Nat.lt_of_le_of_lt h (by decide)
section
variable {X:Cx}
theorem pv (i:Nat) {x:Str} {pos:Pos} (hN:X.N[i]?=some x:=by rfl) (hv:Vis X.env.scope x:=by first | exact Or.inl rfl | exact Or.inr (Or.inl rfl) | exact Or.inr (Or.inr rfl)) (hd:(x == ("__debug__" : Str))=false:=by decide)
    (hcd:(x == ("__classdict__" : Str))=false:=by decide):PE X (.Name x pos) (tVar i):=pe_var hN hv hd hcd
end
theorem iteF {A B:Prop} (h:B):if false=true then A else B:=by
  rw [if_neg Bool.false_ne_true]
  exact h
theorem iteT {A B:Prop} (h:A):if true=true then A else B:=by
  rw [if_pos rfl]
  exact h
theorem ite2 {c A B:Prop} [Decidable c] (h1:c→A) (h2:¬ c→B):if c then A else B:=by
  by_cases h:c
  · rw [if_pos h]
    exact h1 h
  · rw [if_neg h]
    exact h2 h
def Same (H H':Hp):Prop:=∀ b o,H b=some o→H' b=some o
theorem Same.refl (H:Hp):Same H H:=fun _ _ h=>h
theorem Same.trans {H H1 H2:Hp} (a:Same H H1) (b:Same H1 H2):Same H H2:=fun c o h=>b c o (a c o h)
theorem Same.free {H H':Hp} (e:Same H H') {l:Addr} (h:H' l=Option.none):H l=Option.none:=by
  cases q:H l with
  | none=>rfl
  | some o =>
    rw [e l o q] at h
    cases h
end L2
set_option Elab.async false
set_option linter.all false
set_option maxRecDepth 100000
namespace L2
open PySem PySem.Spec PyProof.Rows
section
variable {κ:Type} [DecidableEq κ]
def valV (kvs:List (κ × V)) (k:κ):Option V:=(kvs.find? fun kv=>decide (kv.1=k)).map (·.2)
def putK (kvs:List (κ × V)) (k:κ) (v:V):List (κ × V) :=
  if (kvs.any fun kv=>decide (kv.1=k))=true then kvs.map (fun kv=>if kv.1=k then (kv.1,v) else kv) else kvs++[(k,v)]
theorem valV_pos {p:κ × V} {r:List (κ × V)} {k:κ} (e:p.1=k):valV (p::r) k=some p.2:=by simp [valV,List.find?_cons,e]
theorem valV_neg {p:κ × V} {r:List (κ × V)} {k:κ} (e:¬ p.1=k):valV (p::r) k=valV r k:=by simp [valV,List.find?_cons,e]
theorem valV_any (k:κ):∀ kvs:List (κ × V),(kvs.any fun kv=>decide (kv.1=k))=(valV kvs k).isSome
  | []=>rfl
  | p::r=>by
    rw [List.any_cons]
    by_cases e:p.1=k
    · simp only [valV_pos e,decide_eq_true e,Bool.true_or,Option.isSome_some]
    · rw [valV_neg e,decide_eq_false e,Bool.false_or]; exact valV_any k r
theorem length_putK (kvs:List (κ × V)) (k:κ) (v:V):(putK kvs k v).length≤kvs.length+1:=by
  unfold putK
  split
  · rw [List.length_map]; omega
  · rw [List.length_append,List.length_cons,List.length_nil]; omega
theorem RelO.isSome_eq {o:Option V} {u:Option Value} (r:RelO o u):o.isSome=u.isSome:=by
  cases o with
  | none=>cases u with
    | none=>rfl
    | some _=>exact (show False from r).elim
  | some _=>cases u with
    | none=>exact (show False from r).elim
    | some _=>rfl
theorem KV.val {kvs:List (κ × V)} {vs:List (κ × Value)} (r:KV kvs vs) (k:κ):RelO (valV kvs k) (valueAt vs k):=by
  unfold KV at r
  induction r with
  | nil=>exact True.intro
  | @cons p q ps qs h t ih =>
    obtain ⟨h1,h2⟩:=h
    by_cases e:p.1=k
    · have e':q.1=k:=h1.symm.trans e
      have b:valueAt (q::qs) k=some q.2:=by simp [valueAt,List.find?_cons,e']
      rw [valV_pos e,b]; exact h2
    · have e':¬ q.1=k:=fun z=>e (h1.trans z)
      have b:valueAt (q::qs) k=valueAt qs k:=by simp [valueAt,List.find?_cons,e']
      rw [valV_neg e,b]; exact ih
theorem KV.any {kvs:List (κ × V)} {vs:List (κ × Value)} (r:KV kvs vs) (k:κ):(kvs.any fun kv=>decide (kv.1=k))=vs.any fun kv=>decide (kv.1=k):=by
  unfold KV at r
  induction r with
  | nil=>rfl
  | cons h t ih=>rw [List.any_cons,List.any_cons,ih,h.1]
theorem KV.repl {kvs:List (κ × V)} {vs:List (κ × Value)} (r:KV kvs vs) (k:κ) {y:V} {u:Value} (ry:RelV y u) :
    KV (kvs.map fun kv=>if kv.1=k then (kv.1,y) else kv) (vs.map fun kv=>if kv.1=k then (kv.1,u) else kv):=by
  unfold KV at r ⊢
  induction r with
  | nil=>exact .nil
  | @cons p q ps qs h t ih =>
    rw [List.map_cons,List.map_cons]
    refine .cons ?_ ih
    obtain ⟨h1,h2⟩:=h
    by_cases e:p.1=k
    · rw [if_pos e,if_pos (h1.symm.trans e)]; exact ⟨h1,ry⟩
    · rw [if_neg e,if_neg (fun z=>e (h1.trans z))]; exact ⟨h1,h2⟩
theorem KV.put {kvs:List (κ × V)} {vs:List (κ × Value)} (r:KV kvs vs) (k:κ) {y:V} {u:Value} (ry:RelV y u):KV (putK kvs k y) (stored vs k u):=by
  unfold putK stored
  rw [r.any k]
  by_cases e:(vs.any fun kv=>decide (kv.1=k))=true
  · rw [if_pos e,if_pos e]; exact r.repl k ry
  · rw [if_neg e,if_neg e]; exact Paired.snoc r ⟨rfl,ry⟩
theorem KV.length {kvs:List (κ × V)} {vs:List (κ × Value)} (r:KV kvs vs):kvs.length=vs.length:=Paired.length r
end
theorem kV_is {P:Program} {w:World} {k:Key} {u:Value} (r:RelV (kV k) u):(mixKind P w).is k u=true:=by
  cases k with
  | inl i=>obtain ⟨t,e⟩:=(show ∃ t,u=Value.int i t from r); subst e; exact mixKind_int P w i t
  | inr x=>obtain ⟨t,e⟩:=(show ∃ t,u=Value.str x t from r); subst e; exact mixKind_str P w x t
theorem items_are {P:Program} {w:World}:∀ {ks:List Key} {us:List Value},Vals (ks.map kV) us→ItemsAre (mixKind P w) ks us
  | [],_,r=>by rw [List.map_nil] at r; cases r; exact .nil
  | k::ks,_,r=>by
    rw [List.map_cons] at r
    cases r with
    | cons h t=>exact .cons (kV_is h) (items_are t)
abbrev KT (H:Hp):List (List Key × V)→List (List Key × Addr × Value)→Prop:=Paired fun p q=>p.1=q.1∧H q.2.1=some (.tup (p.1.map kV))∧RelV p.2 q.2.2
theorem KT.val {H:Hp} {kvs:List (List Key × V)} {xs:List (List Key × Addr × Value)} (r:KT H kvs xs) (k:List Key):RelO (valV kvs k) ((atKey xs k).map (·.2)):=by
  induction r with
  | nil=>exact True.intro
  | @cons p q ps qs h t ih =>
    obtain ⟨h1,_,h2⟩:=h
    by_cases e:p.1=k
    · have e':q.1=k:=h1.symm.trans e
      have b:atKey (q::qs) k=some q.2:=by simp [atKey,List.find?_cons,e']
      rw [valV_pos e,b]; exact h2
    · have e':¬ q.1=k:=fun z=>e (h1.trans z)
      have b:atKey (q::qs) k=atKey qs k:=by simp [atKey,List.find?_cons,e']
      rw [valV_neg e,b]; exact ih
theorem KT.repl {H:Hp} {kvs:List (List Key × V)} {xs:List (List Key × Addr × Value)} (r:KT H kvs xs) (k:List Key) {y:V} {u:Value} (ry:RelV y u) :
    KT H (kvs.map fun kv=>if kv.1=k then (kv.1,y) else kv) (xs.map (putAt k u)):=by
  induction r with
  | nil=>exact .nil
  | @cons p q ps qs h t ih =>
    rw [List.map_cons,List.map_cons]
    refine .cons ?_ ih
    obtain ⟨h1,h2,h3⟩:=h
    unfold putAt
    by_cases e:p.1=k
    · rw [if_pos e,if_pos (h1.symm.trans e)]; exact ⟨h1,h2,ry⟩
    · rw [if_neg e,if_neg (fun z=>e (h1.trans z))]; exact ⟨h1,h2,h3⟩
theorem KT.put {H:Hp} {kvs:List (List Key × V)} {xs:List (List Key × Addr × Value)} (r:KT H kvs xs) (k:List Key) {b:Addr} {y:V} {u:Value} (hb:H b=some (.tup (k.map kV))) (ry:RelV y u) :
    KT H (putK kvs k y) (storedH xs k b u):=by
  have e:(kvs.any fun kv=>decide (kv.1=k))=(atKey xs k).isSome:=by
    rw [valV_any,(r.val k).isSome_eq,Option.isSome_map]
  unfold putK storedH
  rw [e]
  by_cases q:(atKey xs k).isSome=true
  · rw [if_pos q,if_pos q]; exact r.repl k ry
  · rw [if_neg q,if_neg q]; exact Paired.snoc r ⟨rfl,hb,ry⟩
theorem KT.keeps {H H':Hp} {kvs:List (List Key × V)} {xs:List (List Key × Addr × Value)} (r:KT H kvs xs) (ht:∀ b ys,H b=some (.tup ys)→H' b=some (.tup ys)):KT H' kvs xs :=
  Paired.mapP r fun _ _ z=>⟨z.1,ht _ _ z.2.1,z.2.2⟩
section
variable {P:Program} {w:World} {H:Hp} {h:Heap} {a:Addr}
theorem rd_of {u:HO} (ok:HOk P w H h) (e:Rd H a u):ObjOk P w H h a u:=e.ok ok
theorem dk_rd {kvs:List (Key × V)} (ok:HOk P w H h) (e:Rd H a (.dK kvs)):kvs.length≤sizeLine∧(a == sysModules)=false∧∃ vs,KV kvs vs∧h.DictOf (mixKind P w) a vs :=
  show ObjOk P w H h a (.dK kvs) from rd_of ok e
theorem dk_of {kvs:List (Key × V)} (ok:HOk P w H h) (e:H a=some (.dK kvs)):kvs.length≤sizeLine∧(a == sysModules)=false∧∃ vs,KV kvs vs∧h.DictOf (mixKind P w) a vs:=dk_rd ok (.inl e)
theorem key_of {ks:List Key} (ok:HOk P w H h) (e:H a=some (.tup (ks.map kV))):(tupleKind (mixKind P w)).is h ks a:=by
  obtain ⟨_,its,r,o,h1,h2,n,h3⟩:=(show ObjOk P w H h a (.tup (ks.map kV)) from ok a _ e)
  exact ⟨o,its.toArray,n,h1,h2,h3,by simpa using items_are r⟩
theorem dt_rd {kvs:List (List Key × V)} (ok:HOk P w H h) (e:Rd H a (.dT kvs)):kvs.length≤sizeLine∧(a == sysModules)=false ∧
    ∃ xs,KT H kvs xs∧h.DictOfH (tupleKind (mixKind P w)) a xs:=by
  obtain ⟨z,y,xs,r,o,es,ep,h1,h2,h3,h4,h5⟩:=(show ObjOk P w H h a (.dT kvs) from rd_of ok e)
  refine ⟨z,y,xs,r,o,es,ep,h1,h2,h3,h4,fun x hx=>?_,h5⟩
  have all:∀ {l:List (List Key × V)} {m:List (List Key × Addr × Value)},KT H l m→∀ x∈m,(tupleKind (mixKind P w)).is h x.1 x.2.1:=by
    intro l m q
    induction q with
    | nil=>intro x hx; exact nomatch hx
    | @cons p q ps qs hq t ih =>
      intro x hx
      rcases List.mem_cons.mp hx with e | hx
      · subst e
        exact key_of ok (by rw [← hq.1]; exact hq.2.1)
      · exact ih x hx
  exact all r x hx
theorem dt_of {kvs:List (List Key × V)} (ok:HOk P w H h) (e:H a=some (.dT kvs)):kvs.length≤sizeLine∧(a == sysModules)=false ∧
    ∃ xs,KT H kvs xs∧h.DictOfH (tupleKind (mixKind P w)) a xs:=dt_rd ok (.inl e)
end
def DGet (H:Hp) (a:Addr) (y:V) (r:Option V):Prop :=
  (∃ kvs k,Rd H a (.dK kvs)∧y=kV k∧r=valV kvs k)∨∃ kvs k b,Rd H a (.dT kvs)∧y=.ref b∧H b=some (.tup (k.map kV))∧r=valV kvs k
def DPut (H:Hp) (a:Addr) (y v:V) (H':Hp):Prop :=
  (∃ kvs k,H a=some (.dK kvs)∧y=kV k∧kvs.length<sizeLine∧H'=upd H a (.dK (putK kvs k v))) ∨
  ∃ kvs k b,H a=some (.dT kvs)∧y=.ref b∧H b=some (.tup (k.map kV))∧kvs.length<sizeLine∧H'=upd H a (.dT (putK kvs k v))
theorem DGet.k {H:Hp} {a:Addr} {kvs:List (Key × V)} {k:Key} (e:H a=some (.dK kvs)):DGet H a (kV k) (valV kvs k):=.inl ⟨kvs,k,.inl e,rfl,rfl⟩
theorem DPut.k {H:Hp} {a:Addr} {kvs:List (Key × V)} {k:Key} {v:V} (e:H a=some (.dK kvs)) (hl:kvs.length<sizeLine):DPut H a (kV k) v (upd H a (.dK (putK kvs k v))):=.inl ⟨kvs,k,e,rfl,hl,rfl⟩
section
variable {X:Cx} {pins:List (Addr × Obj)} {σ:St} {H:Hp} {s:Shared} {a:Addr} {y v:V} {u r:Value} {o:Option V} {A:Around} {E:Value→Shared→Prop}
theorem Inv.big (I:Inv X pins σ H s):sysModules<s.heap.objs.size:=by
  have h:mainGlobals<s.heap.objs.size:=(I.mod.glob.keeps I.bk).lt
  exact Nat.lt_trans (by decide) h
theorem d_getItem {Q:Value→Shared→Prop} (hu:A.units+1<cLine) (I:Inv X pins σ H s) (g:DGet H a y (some v)) (ry:RelV y u) (h:∀ w' s',Inv X pins σ H s'→RelV v w'→Q w' s') :
    wpAny (model X.prog X.w) A (getItem (.ref a) u) Q E s:=by
  rcases g with ⟨kvs,k,e,ey,l⟩ | ⟨kvs,k,b,e,ey,eb,l⟩
  · subst ey
    obtain ⟨z,hd,vs,rel,dd⟩:=dk_rd I.hok e
    obtain ⟨w',hw,rw'⟩:=RelO.some_of (v:=v) (o:=valueAt vs k) (by rw [l]; exact rel.val k)
    exact wpAny_getItem_of (kV_is ry) dd.mapOf hw (h w' _ (I.tok _) rw')
  · subst ey
    cases (show u=Value.ref b from ry)
    obtain ⟨z,hd,xs,rel,dd⟩:=dt_rd I.hok e
    obtain ⟨w',hw,rw'⟩:=RelO.some_of (v:=v) (o:=(atKey xs k).map (·.2)) (by rw [l]; exact rel.val k)
    obtain ⟨p,hp,hp2⟩:=Option.map_eq_some_iff.mp hw
    refine wpAny_getItem_heap (tupleKind_room_in1 hu) (key_of I.hok eb) dd hp ?_
    rw [hp2]
    exact h w' _ (I.tok _) rw'
theorem d_write {h':Heap} {t':Nat} {ob:HO} (I:Inv X pins σ H s) (mu:Mut (H a)) (hs:Heap.SameBut a s.heap h') (he:∃ q,h'.get? a=some q) (new:ObjOk X.prog X.w (upd H a ob) h' a ob) :
    Inv X pins σ (upd H a ob) { s with heap:=h',toks:=t' } :=
  I.write (x:=a) (e:=a) mu (.inl rfl) (fun b q hb z=>(hs.2 b hb).trans z) he new
theorem dk_new {P:Program} {w:World} {H':Hp} {h':Heap} {kvs:List (Key × V)} {vs:List (Key × Value)} (z:kvs.length≤sizeLine) (hd:(a == sysModules)=false) (rel:KV kvs vs) (dd:h'.DictOf (mixKind P w) a vs) :
    ObjOk P w H' h' a (.dK kvs):=⟨z,hd,vs,rel,dd⟩
theorem d_setItem {H':Hp} {Q:Unit→Shared→Prop} (hu:A.units+1<cLine) (I:Inv X pins σ H s) (g:DPut H a y v H') (ry:RelV y u) (rv:RelV v r) (h:∀ s',Inv X pins σ H' s'→Q () s') :
    wpAny (model X.prog X.w) A (setItem (.ref a) u r) Q E s:=by
  rcases g with ⟨kvs,k,e,ey,l,eH⟩ | ⟨kvs,k,b,e,ey,eb,l,eH⟩
  · subst ey eH
    obtain ⟨z,hd,vs,rel,dd⟩:=dk_of I.hok e
    have hz:vs.length≤sizeLine:=by rw [← rel.length]; exact z
    have hl:(putK kvs k v).length≤sizeLine:=by have:=length_putK kvs k v; omega
    refine wpAny_setItem_pairs (hsz:=hz) (kV_is ry) dd fun h' dd' hs=>h _ ?_
    have he:∃ q,h'.get? a=some q:=let ⟨q,_,_,hq,_⟩:=dd'; ⟨q,hq⟩
    exact d_write I (by rw [e]; exact True.intro) hs he (dk_new hl hd (rel.put k rv) dd')
  · subst ey eH
    cases (show u=Value.ref b from ry)
    obtain ⟨z,hd,xs,rel,dd⟩:=dt_of I.hok e
    have hz:xs.length≤sizeLine:=by rw [← Paired.length rel]; exact z
    have hl:(putK kvs k v).length≤sizeLine:=by have:=length_putK kvs k v; omega
    refine wpAny_setItem_heap (hsz:=hz) (tupleKind_room_in1 hu) (key_of I.hok eb) dd fun h' dd' hs=>h _ ?_
    obtain ⟨q,es,ep,hq,h2,h3,h4,_,h5⟩:=dd'
    refine d_write I (by rw [e]; exact True.intro) hs ⟨q,hq⟩ ⟨hl,hd,_,(rel.put k eb rv).keeps fun c ys ec=>?_,q,es,ep,hq,h2,h3,h4,h5⟩
    rw [upd_ne (ne_of ec e (fun z=>nomatch z))]
    exact ec
end
section
variable {X:Cx} {pins:List (Addr × Obj)} {σ:St} {H:Hp} {s:Shared} {a:Addr} {kvs:List (Key × V)} {k:Key} {u:Value} {A:Around} {E:Value→Shared→Prop}
end
def NoSl (i:Expr):Prop:=∀ ov iv,subscripted i false ov iv=operate [ov,iv] (getItem ov iv)
theorem subD_of {prog:Program} {w:World} {A:Around} {E:Value→Shared→Prop} {s:Shared} {env:Env} {value slice:Expr} {pos:Pos} {T id:String} {Q:Value→Shared→Prop}
    (hl:typeLookup (.type T) "__getitem__" = pure (some (.builtin id))) (hs:NoSl slice)
    (h:wpAny (model prog w) A (eval value env) (fun o s₁=>wpAny (model prog w) A (eval slice env) (fun i s₂=>s₂.TypeIs o T∧wpAny (model prog w) A (getItem o i) Q E s₂) E s₁) E s) :
    wpAny (model prog w) A (eval (.Subscript value slice pos) env) Q E s:=by
  refine Subscript_ (wpAny_mono h (fun o s₁ h₁=>wpAny_mono h₁ (fun i s₂ h₂=>?_) fun _ _ x=>x) fun _ _ x=>x)
  obtain ⟨hT,h₂⟩:=h₂
  unfold subscriptTail
  refine wpAny_bind ?_
  rw [getitemInPython_of_ne hT.not_modules]
  refine wpAny_bind (wpAny_specialOf hT hl ?_)
  have fin:wpAny (model prog w) A (subscripted slice false o i) (fun r s₃=>wpAny (model prog w) A (letTemporaryGo value o r >>= fun _=>pure r) Q E s₃) E s₂:=by
    rw [hs o i]
    exact wpAny_operating (wpAny_mono h₂ (fun r s₃ h₃=>wpAny_bind (wpAny_letTemporaryGo (wpAny_pure h₃))) fun _ _ x=>x)
  first
    | exact wpAny_pure (wpAny_bind fin)
    | exact wpAny_bind (wpAny_pure (wpAny_bind fin))
    | exact wpAny_bind fin
theorem dict_typeIs {X:Cx} {pins:List (Addr × Obj)} {σ:St} {H:Hp} {s:Shared} {a:Addr} {y:V} {o:Option V} (I:Inv X pins σ H s) (g:DGet H a y o):s.TypeIs (.ref a) "dict" := by
  rcases g with ⟨kvs,k,e,_,_⟩ | ⟨kvs,k,b,e,_,_,_⟩
  · obtain ⟨_,_,vs,_,dd⟩:=dk_rd I.hok e
    exact dd.typeIs
  · obtain ⟨_,_,xs,_,dd⟩:=dt_rd I.hok e
    exact dd.typeIs
def tDGet (td ty:TE):TE:=fun σ H Q=>td σ H fun x H1=>ty σ H1 fun y H2=>∃ a v,x=.ref a∧DGet H2 a y (some v)∧Q v H2
def sDPut (td ty tv:TE):TS:=fun D σ H=>tv σ H fun v H1=>td σ H1 fun x H2=>ty σ H2 fun y H3=>∃ a H4,x=.ref a∧DPut H3 a y v H4∧D.nx σ H4
section
variable {X:Cx} {o i e value:Expr} {pos pos' tpos:Pos} {td ty tv:TE}
theorem pe_dget (hu:X.A.units+1<cLine) (ho:PE X o td) (hi:PE X i ty) (hs:NoSl i):PE X (.Subscript o i pos) (tDGet td ty):=by
  intro pins s σ H Q I h
  refine subD_of PySem.F.slot_dict_getitem.lookup hs (thn (ho pins s σ H _ I h) fun u s1 ⟨x,H1,I1,rx,q1⟩=>thn (hi pins s1 σ H1 _ I1 q1) fun iv s2 ⟨y,H2,I2,ry,a,v,ex,g,q2⟩=>?_)
  subst ex
  obtain rfl:u=Value.ref a:=rx
  exact ⟨dict_typeIs I2 g,d_getItem hu I2 g ry fun w' s3 I3 rw'=>⟨v,H2,I3,rw',q2⟩⟩
theorem ps_dput (hu:X.A.units+1<cLine) (ho:PE X o td) (hi:PE X i ty) (hv:PE X value tv) (hs:swapsWith value (some (.Subscript o i pos')) pos.line X.env=pure false) :
    PS X (.Assign [.Subscript o i pos'] value pos) (sDPut td ty tv):=by
  intro pins s σ H D I h
  refine wpAny_Assign_Subscript (thn (hv pins s σ H _ I h) fun r s1 ⟨v,H1,I1,rv,q1⟩=>thn (ho pins s1 σ H1 _ I1 q1) fun u s2 ⟨x,H2,I2,rx,q2⟩=>thn (hi pins s2 σ H2 _ I2 q2) fun iv s3 ⟨y,H3,I3,ry,a,H4,ex,g,q3⟩=>?_) hs
  subst ex
  obtain rfl:u=Value.ref a:=rx
  exact d_setItem hu I3 g ry rv fun s4 I4=>⟨σ,H4,I4,q3⟩
end
theorem dk_empty {P:Program} {w:World} {H:Hp} (h:Heap) (hb:sysModules<h.objs.size):ObjOk P w H (h.push { cls:=.type "dict",data:=.dict #[] }) h.objs.size (.dK []) :=
  ⟨Nat.zero_le _,beq_eq_false_iff_ne.mpr (Ne.symm (Nat.ne_of_lt hb)),[],.nil,Heap.DictOf.new h⟩
section
variable {X:Cx} {pos:Pos}
end
def tPairs:List (TE × TE)→St→Hp→(List (V × V)→Hp→Prop)→Prop
  | [],_,H,Q=>Q [] H
  | (tk,tv)::r,σ,H,Q=>tk σ H fun x H1=>tv σ H1 fun y H2=>tPairs r σ H2 fun ps H3=>Q ((x,y)::ps) H3
abbrev VV:List (V × V)→List (Value × Value)→Prop:=Paired fun p q=>RelV p.1 q.1∧RelV p.2 q.2
def PPs (X:Cx) (pos:Pos) (keys:List (Option Expr)) (values:List Expr) (trs:List (TE × TE)):Prop :=
  ∀ (pins:List (Addr × Obj)) (s:Shared) (σ:St) (H:Hp) (Q:List (V × V)→Hp→Prop),Inv X pins σ H s→tPairs trs σ H Q →
    wpAny (model X.prog X.w) X.A (evalPairs (pairTrees keys values X.env pos)) (fun vs s'=>∃ ps H',Inv X pins σ H' s'∧VV ps vs∧Q ps H') X.xe s
theorem pps_nil {X:Cx} {pos:Pos}:PPs X pos [] [] []:=fun pins s σ H Q I h=>pairTrees_nil_walk ⟨[],H,I,.nil,h⟩
theorem pps_cons {X:Cx} {pos:Pos} {k v:Expr} {ks:List (Option Expr)} {vs:List Expr} {tk tv:TE} {trs:List (TE × TE)} (hk:PE X k tk) (hv:PE X v tv) (hr:PPs X pos ks vs trs) :
    PPs X pos (some k::ks) (v::vs) ((tk,tv)::trs):=fun pins s σ H Q I h =>
  pairTrees_cons_walk (thn (hk pins s σ H _ I h) fun u s1 ⟨x,H1,I1,rx,q1⟩=>thn (hv pins s1 σ H1 _ I1 q1) fun w2 s2 ⟨y,H2,I2,ry,q2⟩ =>
    thn (hr pins s2 σ H2 _ I2 q2) fun ws s3 ⟨ps,H3,I3,rel,q3⟩=>⟨(x,y)::ps,H3,I3,.cons ⟨rx,ry⟩ rel,q3⟩)
def mergeK (kvs more:List (Key × V)):List (Key × V):=more.foldl (fun acc kv=>putK acc kv.1 kv.2) kvs
theorem KV.merge:∀ {more:List (Key × V)} {rs:List (Key × Value)} {kvs:List (Key × V)} {vs:List (Key × Value)},KV more rs→KV kvs vs→KV (mergeK kvs more) (merged vs rs):=by
  intro more rs kvs vs r
  unfold KV at r
  induction r generalizing kvs vs with
  | nil=>intro q; exact q
  | @cons p q ps qs h t ih =>
    intro r0
    have e:KV (putK kvs p.1 p.2) (stored vs q.1 q.2):=by
      have:=r0.put p.1 h.2
      rw [← h.1]; exact this
    exact ih e
theorem length_mergeK:∀ (more kvs:List (Key × V)),(mergeK kvs more).length≤kvs.length+more.length
  | [],kvs=>by show kvs.length≤kvs.length+0; omega
  | p::r,kvs=>by
    have h1:=length_mergeK r (putK kvs p.1 p.2)
    have h2:=length_putK kvs p.1 p.2
    show (mergeK (putK kvs p.1 p.2) r).length≤_
    rw [List.length_cons]; omega
theorem carries_of {P:Program} {w:World}:∀ {kvs:List (Key × V)} {ws:List (Value × Value)},VV (kvs.map fun kv=>(kV kv.1,kv.2)) ws→∃ rs,Carries (mixKind P w) ws rs∧KV kvs rs
  | [],_,r=>by rw [List.map_nil] at r; cases r; exact ⟨[],True.intro,.nil⟩
  | p::kvs,_,r=>by
    rw [List.map_cons] at r
    cases r with
    | @cons a b as bs h t =>
      obtain ⟨rs,c,q⟩:=carries_of (P:=P) (w:=w) t
      obtain ⟨b1,b2⟩:=b
      exact ⟨(p.1,b2)::rs,⟨kV_is h.1,rfl,c⟩,.cons ⟨rfl,h.2⟩ q⟩
def tDisp (trs:List (TE × TE)):TE:=fun σ H Q=>∀ p,H p=none→tPairs trs σ (upd H p (.dK [])) fun ps H2=>H2 p=some (.dK [])∧∃ kvs:List (Key × V),ps=kvs.map (fun kv=>(kV kv.1,kv.2))∧kvs.length≤15∧Q (.ref p) (upd H2 p (.dK (mergeK [] kvs)))
theorem pe_disp {X:Cx} {pos:Pos} {keys:List (Option Expr)} {values:List Expr} {trs:List (TE × TE)} (h:PPs X pos keys values trs) (hall:keys.all (·.isSome)=true) (hl:keys.length=values.length) (h0:keys≠[])
    (h15:keys.length≤15):PE X (.Dict keys values pos) (tDisp trs):=by
  intro pins s σ H Q I q
  have hn:=I.hok.fresh (Nat.le_refl s.heap.objs.size)
  have I1:=I.laid (a:=s.heap.objs.size) (o:=.dK []) (h':=s.heap.push { cls:=.type "dict",data:=.dict #[] }) (t':=s.toks) (fun _ _ q=>Heap.get?_push_of_some _ q) (Nat.le_refl _) (dk_empty s.heap I.big)
  refine wpAny_Dict_walk (knd:=mixKind X.prog X.w) hall hl h0 h15 (thn (h pins _ σ _ _ I1 (q _ hn)) fun ws s2 ⟨ps,H2,I2,rel,e,kvs,ep,lk,q2⟩=>?_)
  subst ep
  obtain ⟨rs,c,rk⟩:=carries_of (P:=X.prog) (w:=X.w) rel
  obtain ⟨z,hd,vs0,r0,dd⟩:=dk_of I2.hok e
  cases r0
  refine ⟨rs,c,dd,fun h' dd' hs=>⟨.ref s.heap.objs.size,_,?_,rfl,q2⟩⟩
  have hz:(mergeK [] kvs).length≤sizeLine:=by
    have h1:=length_mergeK kvs []
    rw [List.length_nil] at h1
    rw [sizeLine_eq]; omega
  have he:∃ q,h'.get? s.heap.objs.size=some q:=let ⟨q,_,_,hq,_⟩:=dd'; ⟨q,hq⟩
  exact d_write I2 (by rw [e]; exact True.intro) hs he (dk_new hz hd (rk.merge .nil) dd')
section
variable {X:Cx} {pins:List (Addr × Obj)} {σ:St} {H:Hp} {s:Shared} {a:Addr} {y d:V} {u r:Value} {o:Option V} {A:Around} {E:Value→Shared→Prop}
end
section
variable {X:Cx} {o e f:Expr} {apos cpos:Pos} {td ty tx:TE}
end
section
variable {X:Cx} {pins:List (Addr × Obj)} {σ:St} {H:Hp} {s:Shared} {a:Addr} {kvs:List (Key × V)} {A:Around} {E:Value→Shared→Prop}
end
section
variable {X:Cx} {pins:List (Addr × Obj)} {σ:St} {H:Hp} {s:Shared} {a:Addr} {y:V} {u:Value} {A:Around} {E:Value→Shared→Prop}
end
end L2
namespace L2
open PySem PySem.Spec PyProof.Rows
section
variable {κ:Type} [DecidableEq κ]
end
end L2
set_option Elab.async false
set_option linter.all false
set_option maxRecDepth 100000
namespace L2
open PySem PySem.Spec PyProof.Rows
abbrev bits (i:Int):Nat:=Builtin.Int.intBits i
def CDivB (i j:Int):Prop:=0<j∧bits j≤9000
theorem log_of_bits {j:Int} {n:Nat} (h:bits j≤n) (hn:0<n):j.natAbs.log2<n:=by
  unfold bits Builtin.Int.intBits at h
  by_cases hj:(j == 0)=true
  · have:j=0:=by simpa using hj
    subst this
    exact Nat.lt_of_le_of_lt (by decide +kernel:(0:Int).natAbs.log2≤0) hn
  · rw [if_neg hj] at h
    omega
section
variable {X:Cx}
theorem op_fdivB:OpR X (binaryOp .FloorDiv) (rI CDivB fun i j=>.int (i / j)):=opI fun i j _ _ _ _ _ hc q=>by
  refine floordiv_int (by have:=hc.1; omega) ?_ (.inl (PyProof.noPylong_of_log2 (log_of_bits hc.2 (by decide))))
  rw [Int.fdiv_eq_ediv_of_nonneg i (by have:=hc.1; omega)]
  exact q
theorem op_mulB:OpR X (binaryOp .Mult) (rI IntMulOk fun i j=>.int (i*j)):=opI fun _ _ _ _ _ _ _ hc q=>mul_int q hc
end
mutual
def Rep (H:Hp):PyData→V→Prop
  | .none,v=>v=.non
  | .bool b,v=>v=.bl b
  | .int i,v=>v=.int i
  | .str x,v=>v=.str x
  | .list ds,v=>∃ a xs,v=.ref a∧H a=some (.lst xs)∧RepL H ds xs
  | .tuple ds,v=>∃ a xs,v=.ref a∧H a=some (.tup xs)∧RepL H ds xs
  | .dict kvs,v=>kvs=[]∧∃ a,v=.ref a∧H a=some (.dK [])
def RepL (H:Hp):List PyData→List V→Prop
  | [],vs=>vs=[]
  | d::ds,vs=>∃ x xs,vs=x::xs∧Rep H d x∧RepL H ds xs
end
mutual
theorem Rep.same {H H':Hp} (e:Same H H'):∀ {d:PyData} {v:V},Rep H d v→Rep H' d v
  | .none,_,h=>h
  | .bool _,_,h=>h
  | .int _,_,h=>h
  | .str _,_,h=>h
  | .list ds,_,h=>by
    unfold Rep at h ⊢
    obtain ⟨a,xs,rfl,h1,h2⟩:=h
    exact ⟨a,xs,rfl,e _ _ h1,RepL.same e h2⟩
  | .tuple ds,_,h=>by
    unfold Rep at h ⊢
    obtain ⟨a,xs,rfl,h1,h2⟩:=h
    exact ⟨a,xs,rfl,e _ _ h1,RepL.same e h2⟩
  | .dict kvs,_,h=>by
    unfold Rep at h ⊢
    obtain ⟨h0,a,rfl,h1⟩:=h
    exact ⟨h0,a,rfl,e _ _ h1⟩
theorem RepL.same {H H':Hp} (e:Same H H'):∀ {ds:List PyData} {vs:List V},RepL H ds vs→RepL H' ds vs
  | [],_,h=>h
  | d::ds,_,h=>by
    unfold RepL at h ⊢
    obtain ⟨x,xs,rfl,h1,h2⟩:=h
    exact ⟨x,xs,rfl,Rep.same e h1,RepL.same e h2⟩
end
theorem Rep.tup {H:Hp} {a:Addr} {xs:List V} {ds:List PyData} (h:H a=some (.tup xs)) (r:RepL H ds xs):Rep H (.tuple ds) (.ref a):=by
  unfold Rep; exact ⟨a,xs,rfl,h,r⟩
theorem Rep.lst {H:Hp} {a:Addr} {xs:List V} {ds:List PyData} (h:H a=some (.lst xs)) (r:RepL H ds xs):Rep H (.list ds) (.ref a):=by
  unfold Rep; exact ⟨a,xs,rfl,h,r⟩
theorem Rep.int {H:Hp} (i:Int):Rep H (.int i) (.int i):=by unfold Rep; rfl
theorem Rep.bl {H:Hp} (i:Bool):Rep H (.bool i) (.bl i):=by unfold Rep; rfl
theorem Rep.str {H:Hp} (i:Str):Rep H (.str i) (.str i):=by unfold Rep; rfl
theorem Rep.non {H:Hp}:Rep H .none .non:=by unfold Rep; rfl
theorem RepL.nil {H:Hp}:RepL H [] []:=by unfold RepL; rfl
theorem RepL.cons {H:Hp} {d:PyData} {ds:List PyData} {x:V} {xs:List V} (h:Rep H d x) (hs:RepL H ds xs):RepL H (d::ds) (x::xs):=by
  unfold RepL; exact ⟨x,xs,rfl,h,hs⟩
section
variable {X:Cx} {pins:List (Addr × Obj)} {σ:St} {H:Hp} {s:Shared}
mutual
theorem Rep.reads (I:Inv X pins σ H s):∀ {d:PyData} {v:V} {u:Value},Rep H d v→RelV v u→∃ as,Reads s.heap u d as
  | .none,_,u,h,r=>by
    cases (show _=V.non from h); cases (show u=Value.none from r); exact ⟨_,.none⟩
  | .bool b,_,u,h,r=>by
    cases (show _=V.bl b from h); cases (show u=Value.bool b from r); exact ⟨_,.bool b⟩
  | .int b,_,u,h,r=>by
    cases (show _=V.int b from h); obtain ⟨t,q⟩:=(show ∃ t,u=Value.int b t from r); cases q; exact ⟨_,.int b t⟩
  | .str b,_,u,h,r=>by
    cases (show _=V.str b from h); obtain ⟨t,q⟩:=(show ∃ t,u=Value.str b t from r); cases q; exact ⟨_,.str b t⟩
  | .list ds,v,u,h,r=>by
    unfold Rep at h
    obtain ⟨a,xs,rfl,h1,h2⟩:=h
    cases (show u=Value.ref a from r)
    obtain ⟨_,its,n,r',e⟩:=(show ObjOk X.prog X.w H s.heap a (.lst xs) from I.hok a _ h1)
    obtain ⟨as,q⟩:=RepL.reads I h2 r'
    exact ⟨_,.list e rfl rfl (by simpa using q)⟩
  | .tuple ds,v,u,h,r=>by
    unfold Rep at h
    obtain ⟨a,xs,rfl,h1,h2⟩:=h
    cases (show u=Value.ref a from r)
    obtain ⟨_,its,r',o,e,hc,n,hd⟩:=(show ObjOk X.prog X.w H s.heap a (.tup xs) from I.hok a _ h1)
    obtain ⟨as,q⟩:=RepL.reads I h2 r'
    exact ⟨_,.tuple e hc hd (by simpa using q)⟩
  | .dict kvs,v,u,h,r=>by
    unfold Rep at h
    obtain ⟨rfl,a,rfl,h1⟩:=h
    cases (show u=Value.ref a from r)
    obtain ⟨_,_,vs,kv,o,es,ep,e,hx,hd,_,hes,_⟩:=(show ObjOk X.prog X.w H s.heap a (.dK []) from I.hok a _ h1)
    cases kv
    have he:es.toList=[]:=by
      cases q:es.toList with
      | nil=>rfl
      | cons y ys=>rw [q] at hes; cases hes
    exact ⟨_,.dict e hx.1 hd (by rw [he]; exact .nil) (by rw [he]; exact .nil)⟩
theorem RepL.reads (I:Inv X pins σ H s):∀ {ds:List PyData} {vs:List V} {us:List Value},RepL H ds vs→Vals vs us→∃ as,ReadsAll s.heap us ds as
  | [],_,us,h,r=>by
    cases (show _=[] from h); cases r; exact ⟨_,.nil⟩
  | d::ds,_,us,h,r=>by
    unfold RepL at h
    obtain ⟨x,xs,rfl,h1,h2⟩:=h
    cases r with
    | cons r1 r2 =>
      obtain ⟨as,q1⟩:=Rep.reads I h1 r1
      obtain ⟨bs,q2⟩:=RepL.reads I h2 r2
      exact ⟨_,.cons q1 q2⟩
end
end
section
variable {X:Cx}
theorem call_repr (hg:X.A.guards=some []) (hu:X.A.units+64<cLine):CallR X (.builtin "repr") (fun xs H Q=>∃ x d,xs=[x]∧Rep H d x∧d.showable=true∧d.hasDict=false∧d.depth≤60∧d.shown.length≤sizeLine∧Q (.str d.shown) H):=by
  intro pins s σ H xs us Q I r h
  obtain ⟨x,d,rfl,hr,hs,hnd,hdp,hz,q⟩:=h
  obtain ⟨u,rfl,ru⟩:=vals1 r
  obtain ⟨as,rd⟩:=hr.reads I ru
  cases rd with
  | none=>exact PySem.P.repr_of_none ⟨.str _,H,I.tok _,⟨_,rfl⟩,q⟩
  | bool b=>exact PySem.P.repr_of_bool ⟨.str _,H,I.tok _,⟨_,rfl⟩,q⟩
  | int i t=>exact PySem.P.repr_of_int (by simpa [PyData.showable] using hs) ⟨.str _,H,I.tok _,⟨_,rfl⟩,q⟩
  | str y t=>exact PySem.P.repr_of_str ⟨.str _,H,I.tok _,⟨_,rfl⟩,q⟩ hz
  | list a1 a2 a3 a4=>exact repr_of_reads' (.list a1 a2 a3 a4) hs (PyData.noDict_hsm hnd) hg (by omega) (fun _ _ e=>e) (fun h' u tk hk=>⟨.str _,H,I.kept hk,⟨_,rfl⟩,q⟩) hz
  | tuple a1 a2 a3 a4=>exact repr_of_reads' (.tuple a1 a2 a3 a4) hs (PyData.noDict_hsm hnd) hg (by omega) (fun _ _ e=>e) (fun h' u tk hk=>⟨.str _,H,I.kept hk,⟨_,rfl⟩,q⟩) hz
  | dict a1 a2 a3 a4 a5=>simp [PyData.hasDict] at hnd
end
def tyD:PyData→String
  | .none => "NoneType"
  | .bool _ => "bool"
  | .int _ => "int"
  | .str _ => "str"
  | .list _ => "list"
  | .tuple _ => "tuple"
  | .dict _ => "dict"
def isD (T:String) (d:PyData):Bool:=tyD d == T || (T == "int" && tyD d == "bool")
theorem kit_DT : ∀ T ∈ ["int", "bool", "tuple", "str", "list", "dict"], ∀ S ∈ ["NoneType", "bool", "int", "str", "list", "tuple", "dict"],
      PySem.W.kitOne [] (.type S) (.type T)=some (S == T || (T == "int" && S == "bool")):=by decide +kernel
theorem kit_noK (K:PySem.W.Frag) (S T:String):PySem.W.kitOne K (.type S) (.type T)=PySem.W.kitOne [] (.type S) (.type T):=rfl
theorem kit_D (K:PySem.W.Frag) (d:PyData) (T:String) (hT:T = "int" ∨ T = "bool" ∨ T = "tuple" ∨ T = "str" ∨ T = "list" ∨ T = "dict"):PySem.W.kitOne K (.type (tyD d)) (.type T)=some (isD T d):=by
  rw [kit_noK]
  refine kit_DT T ?_ (tyD d) ?_
  · rcases hT with rfl | rfl | rfl | rfl | rfl | rfl <;> decide
  · cases d <;> simp [tyD]
section
variable {X:Cx}
end
end L2
namespace L2
open PySem PySem.Spec PyProof.Rows
structure FnC (CX:CXT) (P:Program) (w:World) (K:PySem.W.Frag) (mg:Str→Option Value) (base:Heap) (k:Nat) (x:Str) (ps:List Str) (sp:Sp):Prop where
  ex:∃ (f:Addr) (fd:FuncData),FnOk P w K mg base CX k f fd ps sp∧mg x=some (.ref f)∧PySem.W.keepIn K (.ref f)=true∧Binds K fd ps []
section
variable {X:Cx} {k:Nat} {ps:List Str} {sp:Sp} {x:Str} {p pos:Pos} {e:Expr} {es:List Expr} {t:TA}
theorem pe_fn (F:FnC CX0 X.prog X.w X.K X.mg X.base k x ps sp) (hr:Room k X.A) (ha:PA X (e::es) t) (hg:Gl X x:=by rfl)
    (hdb:(x == ("__debug__" : Str))=false:=by decide) (he:starEach (e::es) X.env=(false,eval e X.env)::starEach es X.env:=by rfl) (hpl:(backTo pos (starEach es X.env)).any (·.1)=false:=by rfl) :
    PE X (.Call (.Name x p) (e::es) [] pos) (tCall sp [] E0 t):=by
  obtain ⟨f,fd,h1,h2,h3,h4⟩:=F.ex
  exact pe_call h1 hr hg h2 h3 h4 .nil pass0 ha hdb he hpl
end
section
variable {K:PySem.W.Frag} {H:Hp} {p:Addr} {xs:List V} {i:Int} {v:V} {Q:VK}
theorem ixL (h:H p=some (.lst xs)) (e:atI xs i=some v) (q:Q v H):rIx K (.ref p) (.int i) H Q:=.inl ⟨p,xs,i,v,rfl,rfl,SqL.of h,e,q⟩
theorem ixT (h:H p=some (.tup xs)) (e:atI xs i=some v) (q:Q v H):rIx K (.ref p) (.int i) H Q:=.inr (.inl ⟨p,xs,i,v,rfl,rfl,SqT.of h,e,q⟩)
theorem stL {u:V} {Q:Hp→Prop} {j:Nat} (h:H p=some (.lst xs)) (e:ixN xs.length i=some j) (q:Q (upd H p (.lst (xs.set j u)))):rSetL (.ref p) (.int i) u H Q:=⟨p,xs,i,j,rfl,rfl,h,e,q⟩
end
def Hide (p:Addr) (H:Hp):Hp:=fun b=>if b=p then none else H b
theorem Hide.at {p b:Addr} {H:Hp} (h:b≠p):Hide p H b=H b:=by unfold Hide; rw [if_neg h]
theorem Hide.self {p:Addr} {H:Hp}:Hide p H p=none:=by unfold Hide; rw [if_pos rfl]
theorem Hide.same {p:Addr} {H:Hp}:Same (Hide p H) H:=fun b o h=>by
  unfold Hide at h
  by_cases e:b=p
  · rw [if_pos e] at h; cases h
  · rw [if_neg e] at h; exact h
theorem Hide.ne {p b:Addr} {H:Hp} {o:HO} (h:Hide p H b=some o):b≠p:=fun e=>by
  subst e; rw [Hide.self] at h; cases h
theorem Hide.of {p b:Addr} {H:Hp} {o:HO} (n:b≠p) (h:H b=some o):Hide p H b=some o:=by rw [Hide.at n]; exact h
theorem Hide.upd_self {p:Addr} {H:Hp} {o:HO}:Hide p (upd H p o)=Hide p H:=by
  funext b
  by_cases e:b=p
  · subst e; rw [Hide.self,Hide.self]
  · rw [Hide.at e,Hide.at e,L2.upd_ne e]
abbrev SameBut (p:Addr) (H H':Hp):Prop:=Same (Hide p H) (Hide p H')
theorem Same.but {p:Addr} {H H':Hp} (h:Same H H'):SameBut p H H':=fun b o e=>by
  have n:=Hide.ne e
  exact Hide.of n (h _ _ (Hide.same _ _ e))
theorem Same.upd {H:Hp} {q:Addr} {o:HO} (h:H q=none):Same H (upd H q o):=fun b u e=>by
  rw [L2.upd_ne (ne_of_none e h)]; exact e
theorem SameBut.self {p:Addr} {H:Hp} {o:HO}:SameBut p H (upd H p o):=by unfold SameBut; rw [Hide.upd_self]; exact Same.refl _
theorem SameBut.free {p q:Addr} {H H':Hp} (e:SameBut p H H') (hp:∃ o,H' p=some o) (h:H' q=none):H q=none:=by
  cases k:H q with
  | none=>rfl
  | some o =>
    by_cases n:q=p
    · subst n; obtain ⟨o',h'⟩:=hp; rw [h'] at h; cases h
    · have:=Hide.same _ _ (e q o (Hide.of n k)); rw [this] at h; cases h
end L2
namespace L2
open PySem PySem.Spec PyProof.Rows
section
variable {K:PySem.W.Frag} {H:Hp} {p:Addr} {xs:List V} {i:Int} {v:V} {Q:VK}
theorem stG {u:V} {Q:Hp→Prop} {j:Nat} (h:H p=some (.lst xs)) (e:ixN xs.length i=some j) (k:∀ H',H' p=some (.lst (xs.set j u))→SameBut p H H'→Q H'):rSetL (.ref p) (.int i) u H Q :=
  stL h e (k _ upd_same SameBut.self)
theorem alT {Q:V→Hp→Prop} (hz:xs.length≤sizeLine) (k:∀ q H',H q=none→H' q=some (.tup xs)→Same H H'→Q (.ref q) H'):xs.length≤sizeLine∧∀ p,H p=none→Q (.ref p) (upd H p (.tup xs)) :=
  ⟨hz,fun q hq=>k q _ hq upd_same (Same.upd hq)⟩
theorem alL {Q:V→Hp→Prop} (hz:xs.length≤sizeLine) (k:∀ q H',H q=none→H' q=some (.lst xs)→Same H H'→Q (.ref q) H'):xs.length≤sizeLine∧∀ p,H p=none→Q (.ref p) (upd H p (.lst xs)) :=
  ⟨hz,fun q hq=>k q _ hq upd_same (Same.upd hq)⟩
theorem SameBut.at {p b:Addr} {H H':Hp} {o:HO} (s:SameBut p H H') (n:b≠p) (h:H b=some o):H' b=some o:=Hide.same _ _ (s _ _ (Hide.of n h))
end
theorem small64 {n:Nat} (h:n≤64):n≤sizeLine:=Nat.le_trans h (by decide)
theorem iteD {c A B:Prop} [Decidable c] (h1:c→A) (h2:¬ c→B):if decide c=true then A else B :=
  ite2 (fun h=>h1 (of_decide_eq_true h)) (fun h=>h2 (fun k=>h (decide_eq_true k)))
end L2
namespace L2
open PySem PySem.Spec PyProof.Rows
def tMono (c:TT):TT:=fun σ H Q=>∃ Q':Bool→Hp→Prop,c σ H Q'∧∀ b H1,Q' b H1→Q b H1
theorem PT.mono {X:Cx} {e:Expr} {c:TT} (h:PT X e c):PT X e (tMono c):=fun pins s σ H Q I ⟨Q',h1,h2⟩ =>
  thn (h pins s σ H Q' I h1) fun b s' ⟨H',I',q⟩=>⟨H',I',h2 _ _ q⟩
theorem ps_whileM {X:Cx} {pos:Pos} {c:Expr} {body:List Stmt} {tc:TT} {tb:TS} (hp:PassesOwn (model X.prog X.w) X.A X.env X.xe) (hc:PT X c tc) (hb:PSs X body tb):PS X (.While c body [] pos) (tWhile (tMono tc) tb) :=
  ps_while hp hc.mono hb
end L2
namespace L2
open PySem PySem.Spec PyProof.Rows
@[irreducible] def rLen (K:PySem.W.Frag):List V→Hp→VK→Prop:=fun xs H Q=>∃ x n,xs=[x]∧LenV K x H n∧Q (.int n) H
@[irreducible] def rAbs:List V→Hp→VK→Prop:=fun xs H Q=>∃ i,xs=[.int i]∧Q (.int (i.natAbs:Int)) H
@[irreducible] def rRepr:List V→Hp→VK→Prop:=fun xs H Q=>∃ x d,xs=[x]∧Rep H d x∧d.showable=true∧d.hasDict=false∧d.depth≤60∧d.shown.length≤sizeLine∧Q (.str d.shown) H
section
variable {X:Cx} {K:PySem.W.Frag} {H:Hp} {p:Addr} {xs:List V} {Q:VK}
theorem cl_len:CallR X (.builtin "len") (rLen X.K):=by unfold rLen; exact call_len
theorem cl_abs:CallR X (.builtin "abs") rAbs:=by
  unfold rAbs
  exact fun pins s σ H xs us Q I r ⟨i,e,q⟩=>call_abs pins s σ H xs us Q I r ⟨i,e,by
  have:(if i<0 then -i else i)=(i.natAbs:Int):=by split <;> omega
  rw [this]; exact q⟩
theorem cl_repr (hg:X.A.guards=some []) (hu:X.A.units+64<cLine):CallR X (.builtin "repr") rRepr:=by unfold rRepr; exact call_repr hg hu
theorem rlL (h:H p=some (.lst xs)) (q:Q (.int xs.length) H):rLen K [V.ref p] H Q:=by unfold rLen; exact ⟨_,_,rfl,.inl ⟨xs,SqL.of h,rfl⟩,q⟩
theorem rlT (h:H p=some (.tup xs)) (q:Q (.int xs.length) H):rLen K [V.ref p] H Q:=by unfold rLen; exact ⟨_,_,rfl,.inr ⟨xs,SqT.of h,rfl⟩,q⟩
theorem raI {i:Int} (q:Q (.int (i.natAbs:Int)) H):rAbs [V.int i] H Q:=by unfold rAbs; exact ⟨i,rfl,q⟩
theorem rrI {x:V} {d:PyData} (r:Rep H d x) (h1:d.showable=true) (h2:d.hasDict=false) (h3:d.depth≤60) (h4:d.shown.length≤sizeLine) (q:Q (.str d.shown) H):rRepr [x] H Q:=by unfold rRepr; exact ⟨x,d,rfl,r,h1,h2,h3,h4,q⟩
end
end L2
namespace L2
open PySem PySem.Spec PyProof.Rows
theorem while_r {c:TT} {tb:TS} {D:Ends} {σ:St} {H:Hp} (W:Nat→St→Hp→Prop) (R:St→Hp→Prop) (m:Nat) (h0:W m σ H)
    (hs:∀ m σ H,W m σ H→c σ H fun b H1=>if b=true then tb { D with nx:=fun σ' H'=>∃ m',m' < m∧W m' σ' H',ct:=fun σ' H'=>∃ m',m' < m∧W m' σ' H',bk:=D.nx } σ H1 else R σ H1)
    (hd:∀ σ H,R σ H→D.nx σ H):tWhile (tMono c) tb D σ H :=
  ⟨W,⟨m,h0⟩,fun m σ H hw=>⟨_,hs m σ H hw,fun b H1 q=>by
    by_cases hb:b=true
    · rw [if_pos hb] at q ⊢
      exact ⟨_,fun _ _ h=>h,q⟩
    · rw [if_neg hb] at q ⊢
      exact hd _ _ q⟩⟩
end L2
namespace L2
open PySem PySem.Spec PyProof.Rows
def tCut (t:TS):TS:=fun D σ H=>∃ R:St→Hp→Prop,(∀ σ' H',R σ' H'→D.nx σ' H')∧t { D with nx:=R } σ H
theorem ps_cut {X:Cx} {st:Stmt} {t:TS} (h:PS X st t):PS X st (tCut t):=fun pins s σ H D I ⟨R,hR,q⟩ =>
  thn (h pins s σ H _ I q) fun f s' z=>by
    cases f with
    | next=>obtain ⟨σ',H',I',r⟩:=z; exact ⟨σ',H',I',hR _ _ r⟩
    | brk=>exact z
    | cont=>exact z
    | ret u=>exact z
end L2
namespace L2
open PySem PySem.Spec PyProof.Rows
section
variable {es:List Expr} {env:Env}
theorem se_BinOp {a b c d}:starEach (.BinOp a b c d::es) env=(false,eval (.BinOp a b c d) env)::starEach es env:=by rw [starEach] <;> (intros; contradiction)
theorem se_UnaryOp {a b c}:starEach (.UnaryOp a b c::es) env=(false,eval (.UnaryOp a b c) env)::starEach es env:=by rw [starEach] <;> (intros; contradiction)
theorem se_ListComp {a b c d}:starEach (.ListComp a b c d::es) env=(false,eval (.ListComp a b c d) env)::starEach es env:=by rw [starEach] <;> (intros; contradiction)
theorem se_Compare {a b c d}:starEach (.Compare a b c d::es) env=(false,eval (.Compare a b c d) env)::starEach es env:=by rw [starEach] <;> (intros; contradiction)
theorem se_Call {a b c d}:starEach (.Call a b c d::es) env=(false,eval (.Call a b c d) env)::starEach es env:=by rw [starEach] <;> (intros; contradiction)
theorem se_Constant {a b c}:starEach (.Constant a b c::es) env=(false,eval (.Constant a b c) env)::starEach es env:=by rw [starEach] <;> (intros; contradiction)
theorem se_Subscript {a b c}:starEach (.Subscript a b c::es) env=(false,eval (.Subscript a b c) env)::starEach es env:=by rw [starEach] <;> (intros; contradiction)
theorem se_Name {a b}:starEach (.Name a b::es) env=(false,eval (.Name a b) env)::starEach es env:=by rw [starEach] <;> (intros; contradiction)
theorem se_List {a b}:starEach (.List a b::es) env=(false,eval (.List a b) env)::starEach es env:=by rw [starEach] <;> (intros; contradiction)
theorem se_Tuple {a b c}:starEach (.Tuple a b c::es) env=(false,eval (.Tuple a b c) env)::starEach es env:=by rw [starEach] <;> (intros; contradiction)
end
section
variable {X:Cx} {k:Nat} {ps:List Str} {sp:Sp} {x:Str} {p pos:Pos} {e:Expr} {es:List Expr} {te:TE} {t:TA} {id T:String} {r:List V→Hp→VK→Prop}
theorem ap_nil {env:Env}:(backTo pos (starEach [] env)).any (·.1)=false:=rfl
theorem ap_cons {env:Env} (hs:starEach (e::es) env=(false,eval e env)::starEach es env) (h:(backTo pos (starEach es env)).any (·.1)=false):(backTo pos (starEach (e::es) env)).any (·.1)=false:=by
  rw [hs]
  show (false || (backTo pos (starEach es env)).any (·.1))=false
  rw [h]; rfl
end
end L2
set_option Elab.async false
set_option linter.all false
set_option maxRecDepth 100000
namespace L2
open PySem PySem.Spec PyProof.Rows
structure PEw (X:Cx) (e:Expr) (t:TE):Prop where p:PE X e t
structure PTw (X:Cx) (e:Expr) (t:TT):Prop where p:PT X e t
structure PWw (X:Cx) (e:Expr) (t:TT):Prop where p:PW X e t
structure PAw (X:Cx) (es:List Expr) (t:TA):Prop where p:PA X es t
structure PSw (X:Cx) (st:Stmt) (t:TS):Prop where p:PS X st t
structure PSsw (X:Cx) (st:List Stmt) (t:TS):Prop where p:PSs X st t
structure PGw (X:Cx) (e:Expr) (t:TG):Prop where p:PG X e t
structure PGsw (X:Cx) (es:List Expr) (t:TGs):Prop where p:PGs X es t
structure PIw (X:Cx) (tg iter:Expr) (t:TI):Prop where p:PI X tg iter t
structure POw (X:Cx) (e:Option Expr) (t:TO):Prop where p:PO X e t
@[irreducible] def rNewT (xs:List V) (H:Hp) (Q:VK):Prop:=xs.length≤sizeLine∧∀ p,H p=none→Q (.ref p) (upd H p (.tup xs))
@[irreducible] def rNewL (xs:List V) (H:Hp) (Q:VK):Prop:=xs.length≤sizeLine∧∀ p,H p=none→Q (.ref p) (upd H p (.lst xs))
theorem nwT {xs:List V} {H:Hp} {Q:VK} (hz:xs.length≤64) (k:∀ q H',H q=none→H' q=some (.tup xs)→Same H H'→Q (.ref q) H'):rNewT xs H Q:=by unfold rNewT; exact alT (small64 hz) k
theorem nwL {xs:List V} {H:Hp} {Q:VK} (hz:xs.length≤64) (k:∀ q H',H q=none→H' q=some (.lst xs)→Same H H'→Q (.ref q) H'):rNewL xs H Q:=by unfold rNewL; exact alL (small64 hz) k
def tTu (t:TA):TE:=fun σ H Q=>t σ H fun xs H1=>rNewT xs H1 Q
def tLs (t:TA):TE:=fun σ H Q=>t σ H fun xs H1=>rNewL xs H1 Q
section
variable {X:Cx} {a b c e o tg:Expr} {es rest:List Expr} {ta tb tc te to:TE} {tA tB':TT} {t:TA} {pos p p2:Pos} {st:Stmt} {sts body orelse:List Stmt} {ts us:TS} {x:Str} {r r':R2} {id T:String} {rl:List V→Hp→VK→Prop} {k i j:Nat} {ps:List Str} {sp:Sp} {n:Nat}
theorem we_v (i:Nat) {x:Str} {pos:Pos} (hN:X.N[i]?=some x:=by rfl) (hv:Vis X.env.scope x:=by first | exact Or.inl rfl | exact Or.inr (Or.inl rfl) | exact Or.inr (Or.inr rfl)) (hd:(x == ("__debug__" : Str))=false:=by decide)
    (hcd:(x == ("__classdict__" : Str))=false:=by decide):PEw X (.Name x pos) (tVar i):=⟨pv i hN hv hd hcd⟩
theorem we_int {i j pos}:PEw X (.Constant (.int i) j pos) (tC (.int i)):=⟨pe_int⟩
theorem we_bl {b j pos}:PEw X (.Constant (.bool b) j pos) (tC (.bl b)):=⟨pe_bl⟩
theorem we_non {j pos}:PEw X (.Constant .none j pos) (tC .non):=⟨pe_non⟩
theorem we_str {x j pos}:PEw X (.Constant (.str x) j pos) (tC (.str x)):=⟨pe_str⟩
theorem we_glob {v:V} {u:Value} (hg:Gl X x) (hm:X.mg x=some u) (r:RelV v u) (hd:(x == ("__debug__" : Str))=false:=by decide):PEw X (.Name x pos) (tC v):=⟨pe_glob hg hm r hd⟩
theorem we_bltn {v:V} {u:Value} (hg:Gl X x) (hm:X.mg x=none) (hv:bootBuiltins x=some u) (r:RelV v u) (hn:x ≠ "__name__" := by decide) (hd:(x == ("__debug__" : Str))=false:=by decide):PEw X (.Name x pos) (tC v):=⟨pe_bltn hg hm hv r hn hd⟩
theorem we_op {op:Operator} (ho:OpR X (binaryOp op) r) (ha:PEw X a ta) (hb:PEw X b tb):PEw X (.BinOp a op b pos) (tOp r ta tb):=⟨pe_op ho ha.p hb.p⟩
theorem we_un {op:UnaryOp} {r:V→Hp→VK→Prop} (ho:UnR X (unaryOp op) r) (ha:PEw X a ta):PEw X (.UnaryOp op a pos) (tUn r ta):=⟨pe_un ho ha.p⟩
theorem we_cmp {op:CmpOp} (ho:OpR X (compareOp op) r) (ha:PEw X a ta) (hb:PEw X b tb) (hm:behindInMarks op b=false):PEw X (.Compare a [op] [b] pos) (tOp r ta tb):=⟨pe_cmpR ho ha.p hb.p hm⟩
theorem wt_cmp {op:CmpOp} (ho:OpR X (compareOp op) r) (ha:PEw X a ta) (hb:PEw X b tb) (hm:behindInMarks op b=false):PTw X (.Compare a [op] [b] pos) (tTest (tOp r ta tb)):=⟨pt_cmpR ho ha.p hb.p hm⟩
theorem wt_val (h:PEw X e te) (he:∀ whole,isTrue e X.env whole=(do let v ← whole; standAt e.pos; holding [v] (truthy v)):=by intro _; rfl):PTw X e (tB te):=⟨pt_val h.p he⟩
theorem ww_and1 (ha:PTw X a tA):PWw X (.BoolOp .And [a] pos) tA:=⟨pw_and1 ha.p⟩
theorem ww_or1 (ha:PTw X a tA):PWw X (.BoolOp .Or [a] pos) tA:=⟨pw_or1 ha.p⟩
theorem ww_and (ha:PTw X a tA) (hb:PWw X (.BoolOp .And (b::rest) pos) tB'):PWw X (.BoolOp .And (a::b::rest) pos) (tAnd tA tB'):=⟨pw_and ha.p hb.p⟩
theorem ww_or (ha:PTw X a tA) (hb:PWw X (.BoolOp .Or (b::rest) pos) tB'):PWw X (.BoolOp .Or (a::b::rest) pos) (tOr tA tB'):=⟨pw_or ha.p hb.p⟩
theorem wt_w (h:PWw X e tA):PTw X e tA:=⟨h.p.pt⟩
theorem wt_not (ha:PTw X a tA):PTw X (.UnaryOp .Not a pos) (tNot tA):=⟨pt_not ha.p⟩
theorem we_one {op} (h:PEw X a ta):PEw X (.BoolOp op [a] pos) ta:=⟨pe_one h.p⟩
theorem we_and (ha:PEw X a ta) (hb:PEw X (.BoolOp .And (b::rest) pos) tb):PEw X (.BoolOp .And (a::b::rest) pos) (tAndV ta tb):=⟨pe_and ha.p hb.p⟩
theorem we_or (ha:PEw X a ta) (hb:PEw X (.BoolOp .Or (b::rest) pos) tb):PEw X (.BoolOp .Or (a::b::rest) pos) (tOrV ta tb):=⟨pe_or ha.p hb.p⟩
theorem we_not (ha:PEw X a ta):PEw X (.UnaryOp .Not a pos) (tNotV ta):=⟨pe_not ha.p⟩
theorem we_ifExp (hc:PTw X c tA) (ha:PEw X a ta) (hb:PEw X b tb):PEw X (.IfExp c a b pos) (tIf tA ta tb):=⟨pe_ifExp hc.p ha.p hb.p⟩
theorem wa_nil:PAw X [] tNil:=⟨pa_nil⟩
theorem wa_k (ha:PEw X e te) (hr:PAw X es t) (hs:starEach (e::es) X.env=(false,eval e X.env)::starEach es X.env:=by first | exact se_Name | exact se_Constant | exact se_BoolOp | exact se_BinOp | exact se_UnaryOp | exact se_IfExp | exact se_Dict | exact se_ListComp | exact se_Compare | exact se_Call | exact se_Attribute | exact se_Subscript | exact se_List | exact se_Tuple | exact se_JoinedStr | exact se_GeneratorExp):PAw X (e::es) (tCons te t):=⟨pa_cons ha.p hr.p hs⟩
theorem we_tup {x1} (h:PAw X es t):PEw X (.Tuple es x1 pos) (tTu t):=⟨by unfold tTu rNewT; exact pe_tup h.p⟩
theorem we_lst (h:PAw X es t):PEw X (.List es pos) (tLs t):=⟨by unfold tLs rNewL; exact pe_lst h.p⟩
theorem we_ix (hr:IxR X r) (ha:PEw X a ta) (hb:PEw X b tb) (hs:PlainIx b):PEw X (.Subscript a b pos) (tOp r ta tb):=⟨pe_ix hr ha.p hb.p hs⟩
theorem wo_none:POw X none tNoPart:=⟨po_none⟩
theorem wo_some (h:PEw X e te):POw X (some e) (tPart te):=⟨po_some h.p⟩
theorem we_slice {lo hi:Option Expr} {tl th:TO} {r:V→Option Int→Option Int→Hp→VK→Prop} (hr:SlR X r) (he:PEw X e te) (hl:POw X lo tl) (hu:POw X hi th):PEw X (.Subscript e (.Slice lo hi none p2) pos) (tSl r te tl th):=⟨pe_slice hr he.p hl.p hu.p⟩
theorem we_fn (F:FnC CX0 X.prog X.w X.K X.mg X.base k x ps sp) (hr:Room k X.A) (ha:PAw X (e::es) t) (hg:Gl X x:=by rfl)
    (hdb:(x == ("__debug__" : Str))=false:=by decide) (he:starEach (e::es) X.env=(false,eval e X.env)::starEach es X.env:=by first | exact se_Name | exact se_Constant | exact se_BoolOp | exact se_BinOp | exact se_UnaryOp | exact se_IfExp | exact se_Dict | exact se_ListComp | exact se_Compare | exact se_Call | exact se_Attribute | exact se_Subscript | exact se_List | exact se_Tuple | exact se_JoinedStr | exact se_GeneratorExp)
    (hpl:(backTo pos (starEach es X.env)).any (·.1)=false:=by repeat (first | exact ap_nil | refine ap_cons (by first | exact se_Name | exact se_Constant | exact se_BoolOp | exact se_BinOp | exact se_UnaryOp | exact se_IfExp | exact se_Dict | exact se_ListComp | exact se_Compare | exact se_Call | exact se_Attribute | exact se_Subscript | exact se_List | exact se_Tuple | exact se_JoinedStr | exact se_GeneratorExp) ?_)) :
    PEw X (.Call (.Name x p) (e::es) [] pos) (tCall sp [] E0 t):=⟨pe_fn F hr ha.p hg hdb he hpl⟩
theorem we_cB (hc:CallR X (.builtin id) rl) (hg:Gl X x) (hm:X.mg x=none) (hv:bootBuiltins x=some (.builtin id)) (ha:PAw X (e::es) t) (hn:x ≠ "__name__" := by decide) (hdb:(x == ("__debug__" : Str))=false:=by decide)
    (he:starEach (e::es) X.env=(false,eval e X.env)::starEach es X.env:=by first | exact se_Name | exact se_Constant | exact se_BoolOp | exact se_BinOp | exact se_UnaryOp | exact se_IfExp | exact se_Dict | exact se_ListComp | exact se_Compare | exact se_Call | exact se_Attribute | exact se_Subscript | exact se_List | exact se_Tuple | exact se_JoinedStr | exact se_GeneratorExp) (hpl:(backTo pos (starEach es X.env)).any (·.1)=false:=by repeat (first | exact ap_nil | refine ap_cons (by first | exact se_Name | exact se_Constant | exact se_BoolOp | exact se_BinOp | exact se_UnaryOp | exact se_IfExp | exact se_Dict | exact se_ListComp | exact se_Compare | exact se_Call | exact se_Attribute | exact se_Subscript | exact se_List | exact se_Tuple | exact se_JoinedStr | exact se_GeneratorExp) ?_)):PEw X (.Call (.Name x p) (e::es) [] pos) (tCB rl t) :=
  ⟨pe_callB hc hg hm hv ha.p hn hdb he hpl⟩
theorem we_cT (hc:CallR X (.type T) rl) (hg:Gl X x) (hm:X.mg x=none) (hv:bootBuiltins x=some (.type T)) (ha:PAw X (e::es) t) (hn:x ≠ "__name__" := by decide) (hdb:(x == ("__debug__" : Str))=false:=by decide)
    (he:starEach (e::es) X.env=(false,eval e X.env)::starEach es X.env:=by first | exact se_Name | exact se_Constant | exact se_BoolOp | exact se_BinOp | exact se_UnaryOp | exact se_IfExp | exact se_Dict | exact se_ListComp | exact se_Compare | exact se_Call | exact se_Attribute | exact se_Subscript | exact se_List | exact se_Tuple | exact se_JoinedStr | exact se_GeneratorExp) (hpl:(backTo pos (starEach es X.env)).any (·.1)=false:=by repeat (first | exact ap_nil | refine ap_cons (by first | exact se_Name | exact se_Constant | exact se_BoolOp | exact se_BinOp | exact se_UnaryOp | exact se_IfExp | exact se_Dict | exact se_ListComp | exact se_Compare | exact se_Call | exact se_Attribute | exact se_Subscript | exact se_List | exact se_Tuple | exact se_JoinedStr | exact se_GeneratorExp) ?_)):PEw X (.Call (.Name x p) (e::es) [] pos) (tCB rl t) :=
  ⟨pe_callTy hc hg hm hv ha.p hn hdb he hpl⟩
theorem we_bm {name:Str} {apos cpos:Pos} {r:V→List V→Hp→VK→Prop} (pa:PlainAttrs T) (slot:Slot T name id) (hty:typeOf (.builtin id)=pure (.type "method_descriptor")) (hm:MtR X id r) (ho:PEw X o to) (ha:PAw X (e::es) t)
    (hbase:attributeBase o name X.env (eval o X.env)=eval o X.env:=by rfl)
    (hfew:((backTo cpos (starEach (e::es) X.env)).all (fun x=>!x.1)&&(backToKw cpos (keywordEach [] X.env)).all (fun x=>x.1.isSome)
      && decide ((e::es).length+([]:List Keyword).length+(if ([]:List Keyword).isEmpty then 0 else 1)<30))=true:=by rfl)
    (hline:(apos.endLine == cpos.line)=true:=by rfl) (hs:starEach (e::es) X.env=(false,eval e X.env)::starEach es X.env:=by first | exact se_Name | exact se_Constant | exact se_BoolOp | exact se_BinOp | exact se_UnaryOp | exact se_IfExp | exact se_Dict | exact se_ListComp | exact se_Compare | exact se_Call | exact se_Attribute | exact se_Subscript | exact se_List | exact se_Tuple | exact se_JoinedStr | exact se_GeneratorExp) (hplain:(backTo cpos (starEach es X.env)).any (·.1)=false:=by repeat (first | exact ap_nil | refine ap_cons (by first | exact se_Name | exact se_Constant | exact se_BoolOp | exact se_BinOp | exact se_UnaryOp | exact se_IfExp | exact se_Dict | exact se_ListComp | exact se_Compare | exact se_Call | exact se_Attribute | exact se_Subscript | exact se_List | exact se_Tuple | exact se_JoinedStr | exact se_GeneratorExp) ?_)) :
    PEw X (.Call (.Attribute o name apos) (e::es) [] cpos) (tBM X.K T r to t):=⟨pe_bm pa slot hty hm ho.p ha.p hbase hfew hline hs hplain⟩
theorem wss_nil:PSsw X [] tNext:=⟨pss_nil⟩
theorem wss_cons (h1:PSw X st ts) (h2:PSsw X sts us):PSsw X (st::sts) (tSeq ts us):=⟨pss_cons h1.p h2.p⟩
theorem wss_one (h1:PSw X st ts):PSsw X [st] ts:=⟨pss_one h1.p⟩
theorem ws_expr (he:PEw X e te) (hs:swapsWith e none pos.line X.env=pure false:=by rfl):PSw X (.Expr e pos) (tDrop te):=⟨ps_expr he.p hs⟩
theorem ws_ret (he:PEw X e te):PSw X (.Return (some e) pos) (tRet te):=⟨ps_ret he.p⟩
theorem ws_if {c:Expr} {a b:List Stmt} (hc:PTw X c tA) (ha:PSsw X a ts) (hb:PSsw X b us):PSw X (.If c a b pos) (tIfS tA ts us):=⟨ps_if hc.p ha.p hb.p⟩
theorem ws_cut (h:PSw X st ts):PSw X st (tCut ts):=⟨ps_cut h.p⟩
theorem wg_name {i:Nat} {x:Str} (hN:X.N.Nodup) (hi:X.N[i]?=some x) (hx:Loc X.env.scope x) (hf:X.fn x=true∨X.env.scope.names.lookup x=some .local:=by first | exact .inl rfl | exact .inr rfl | assumption):PGw X (.Name x pos) (gName i):=⟨pg_name hN hi hx hf⟩
theorem wgs_nil:PGsw X [] gNil:=⟨pgs_nil⟩
theorem wgs_cons {t:TG} {u:TGs} (h1:PGw X e t) (h2:PGsw X es u)
    (hs:(assignEach (e::es) X.env).map (·.2)=assign e X.env::(assignEach es X.env).map (·.2):=by rfl):PGsw X (e::es) (gCons t u):=⟨pgs_cons h1.p h2.p hs⟩
theorem wg_tup {k:Nat} {t:TGs} {n:Nat} (hc:X.calm=true) (h:PGsw X es t)
    (hn:(assignEach es X.env).length=n:=by rfl) (hst:(assignEach es X.env).findIdx? (·.1)=none:=by rfl):PGw X (.Tuple es k pos) (gTup X.K n t):=⟨pg_tup hc h.p hn hst⟩
theorem wg_sub {i:Expr} {ti:TE} {t:TSet} (ho:PEw X o to) (hi:PEw X i ti) (hs:PSet X t)
    (ha:∀ v,assign (.Subscript o i pos) X.env v=(do
      let ov ← holding [v] (eval o X.env)
      let iv ← holding [v,ov] (eval i X.env)
      standAt pos
      holding [v,ov,iv] (setItem ov iv v)
      release [v,ov,iv] []):=by intro _; rfl):PGw X (.Subscript o i pos) (gSub to ti t):=⟨pg_sub ho.p hi.p hs ha⟩
theorem ws_asg {g:TG} (he:PEw X e te) (hg:PGw X tg g) (hs:swapsWithSole [tg] e pos.line X.env=pure false:=by rfl) (hw:swappedStores [tg] e X.env=pure none:=by rfl) (h1:(assignEach [tg] X.env).map (·.2)=[assign tg X.env]:=by rfl):PSw X (.Assign [tg] e pos) (tAsg te g):=⟨ps_asg he.p hg.p hs hw h1⟩
theorem ws_set {i:Nat} {pos':Pos} (hN:X.N.Nodup) (hi:X.N[i]?=some x) (hx:Loc X.env.scope x) (he:PEw X e te) (hs:swapsWith e (some (.Name x pos')) pos.line X.env=pure false:=by rfl) (hf:X.fn x=true∨X.env.scope.names.lookup x=some .local:=by first | exact .inl rfl | exact .inr rfl | assumption) :
    PSw X (.Assign [.Name x pos'] e pos) (tAsg te (gName i)):=⟨ps_set hN hi hx he.p hs hf⟩
theorem ws_par {i j:Nat} {x y:Str} {ta:TA} {px py pt:Pos} {kt k2 pt2} (hc:X.calm=true) (hN:X.N.Nodup) (hi:X.N[i]?=some x) (hj:X.N[j]?=some y) (hij:i≠j)
    (hx:X.env.scope.names.lookup x=some .local) (hy:X.env.scope.names.lookup y=some .local) (ha:PAw X [a,b] ta)
    (hw:swappedStores [.Tuple [.Name x px,.Name y py] kt pt] (.Tuple [a,b] k2 pt2) X.env=pure (some [x,y]))
    (hs:swapsWithSole [.Tuple [.Name x px,.Name y py] kt pt] (.Tuple [a,b] k2 pt2) pos.line X.env=pure false:=by rfl) :
    PSw X (.Assign [.Tuple [.Name x px,.Name y py] kt pt] (.Tuple [a,b] k2 pt2) pos) (tPar i j ta):=⟨ps_par hc hN hi hj hij hx hy ha.p hw hs⟩
theorem ws_while {c:Expr} {tc:TT} {tb:TS} (hp:PassesOwn (model X.prog X.w) X.A X.env X.xe) (hc:PTw X c tc) (hb:PSsw X body tb):PSw X (.While c body [] pos) (tWhile (tMono tc) tb):=⟨ps_whileM hp hc.p hb.p⟩
theorem wi_list {l:Expr} {tl:TE} (hl:PEw X l tl):PIw X tg l (iList X.K tl):=⟨pi_list hl.p⟩
theorem wi_tup {l:Expr} {tl:TE} (hl:PEw X l tl):PIw X tg l (iTup X.K tl):=⟨pi_tup hl.p⟩
theorem wi_range1 {a:Expr} {ta:TA} {p pos:Pos} (hg:Gl X "range") (hm:X.mg "range" = none) (ha:PAw X [a] ta) (hs:starEach [a] X.env=[(false,eval a X.env)]:=by first | exact se_Name | exact se_Constant | exact se_BoolOp | exact se_BinOp | exact se_UnaryOp | exact se_IfExp | exact se_Dict | exact se_ListComp | exact se_Compare | exact se_Call | exact se_Attribute | exact se_Subscript | exact se_List | exact se_Tuple | exact se_JoinedStr | exact se_GeneratorExp):PIw X tg (.Call (.Name "range" p) [a] [] pos) (iRng1 ta):=⟨pi_range1 hg hm ha.p hs⟩
theorem ws_for {iter:Expr} {wi:TI} {g:TG} {tb:TS} {pos:Pos} (hp:PassesOwn (model X.prog X.w) X.A X.env X.xe) (hc:X.calm=true) (hi:PIw X tg iter wi) (hg:PGw X tg g) (hb:PSsw X body tb)
    (hs:∀ x,foldedSetIterable iter X.env x=pure x:=by intro _; rfl):PSw X (.For tg iter body [] pos) (tFor wi g tb):=⟨ps_for hp hc hi.p hg.p hb.p hs⟩
end
theorem Fun.okw {P:Program} {w:World} {K:PySem.W.Frag} {mg:Str→Option Value} {base:Heap} {x qual:Str} {st:Stmt} {f:Addr} {fd:FuncData} {N ps:List Str} {k:Nat} {sp:Sp} (F:Fun K x qual st f fd) (S:FnScope N ps (defScope st)) (len:∀ vs H Q E,sp vs H Q E→vs.length=ps.length)
    (hbody:∀ (cdv:Value) (A:Around) (outer:List Env) (s:Shared) (H:Hp) (vs:List V) (Q:VK) (E:XK),Room k (A.deeper (envOfC qual (defScope st) s.heap.objs.size f cdv))→sp vs H Q E →
      ∃ t,PSsw (cxOf CX0 P w K mg base N qual (defScope st) f cdv A outer s H E).nox (defBody st) t∧t { nx:=fun _ H'=>Q .non H',rt:=Q } (start N vs) H):FnOk P w K mg base CX0 (k+1) f fd ps sp :=
  F.ok S len fun cdv A outer s H vs Q E hr h=>by
    obtain ⟨t,h1,h2⟩:=hbody cdv A outer s H vs Q E hr h
    exact ⟨t,h1.p,h2⟩
end L2
set_option Elab.async false
set_option linter.all false
set_option maxRecDepth 100000
namespace L2
open PySem PySem.Spec PyProof.Rows
theorem gcd_step (a b:Int):Int.gcd b (a % b)=Int.gcd a b:=by
  have h:=Int.gcd_add_mul_right_right b (a % b) (a / b)
  rw [show a % b+a / b*b=a from by have:=Int.emod_add_mul_ediv a b; rw [Int.mul_comm]; exact this] at h
  rw [← h,Int.gcd_comm]
theorem gcd_end {a:Int} (h:0<a):(Int.gcd a 0:Int)=a:=by rw [Int.gcd_zero_right]; omega
def dTup:PyData→Bool | .tuple _=>true | _=>false
def dInt:PyData→Bool | .int _=>true | .bool _=>true | _=>false
def dBool:PyData→Bool | .bool _=>true | _=>false
def dWhole:PyData→Bool | .int _=>true | _=>false
theorem isD_tup (d:PyData):isD "tuple" d=dTup d:=by cases d <;> simp [isD,tyD,dTup]
theorem isD_int (d:PyData):isD "int" d=dInt d:=by cases d <;> simp [isD,tyD,dInt]
theorem isD_bool (d:PyData):isD "bool" d=dBool d:=by cases d <;> simp [isD,tyD,dBool]
section
variable {H:Hp} {x:V} {d:PyData} {Q:VK}
end
theorem RepL.len {H:Hp}:∀ {ds:List PyData} {vs:List V},RepL H ds vs→vs.length=ds.length
  | [],_,h=>by cases (show _=[] from h); rfl
  | d::ds,_,h=>by
    unfold RepL at h
    obtain ⟨x,xs,rfl,_,h2⟩:=h
    simp [RepL.len h2]
section
variable {p:Addr} {σ:St} {t:TE} {ta:TA} {d:PyData} {ds:List PyData}
end
theorem atI_mem {α:Type} {xs:List α} {x:Int} (h0:0≤x) (h1:x<xs.length):∃ v,atI xs x=some v∧v∈xs∧xs[x.toNat]?=some v:=by
  have h:x.toNat<xs.length:=by omega
  have e:=List.getElem?_eq_getElem h
  have:=atI_nat e
  rw [Int.toNat_of_nonneg h0] at this
  exact ⟨_,this,List.getElem_mem h,e⟩
theorem RepL.append {H:Hp} {es:List PyData} {ws:List V} (h':RepL H es ws):∀ {ds:List PyData} {vs:List V},RepL H ds vs→RepL H (ds++es) (vs++ws)
  | [],_,h=>by cases (show _=[] from h); exact h'
  | d::ds,_,h=>by
    unfold RepL at h
    obtain ⟨x,xs,rfl,h1,h2⟩:=h
    exact RepL.cons h1 (RepL.append h' h2)
end L2
namespace L2
end L2
namespace L2
open PySem PySem.Spec PyProof.Rows
theorem Same.thru {l:Addr} {H0 H1 H2:Hp} (hl:H0 l=none) (s:Same H0 H1) (b:SameBut l H1 H2):Same H0 H2:=fun c o e=>by
  have n:c≠l:=ne_of_none e hl
  exact b.at n (s _ _ e)
theorem catL {H:Hp} {l b:Addr} {xs zs:List V} {Q:VK} (h1:H l=some (.lst xs)) (h2:H b=some (.lst zs)) (hz:xs.length+zs.length≤1000) (k:∀ q H',H q=none→H' q=some (.lst (xs++zs))→Same H H'→Q (.ref q) H'):rCat (.ref l) (.ref b) H Q :=
  ⟨l,b,xs,zs,rfl,rfl,h1,h2,Nat.le_of_lt (small1000 hz),fun q hq=>k q _ hq upd_same (Same.upd hq)⟩
@[irreducible] def rApp:V→List V→Hp→VK→Prop:=rAppend
theorem mt_app {X:Cx}:MtR X "list.append" rApp:=by unfold rApp; exact mt_append
theorem appL {H:Hp} {l:Addr} {xs:List V} {y:V} {Q:VK} (h:H l=some (.lst xs)) (hz:xs.length≤1000) (k:∀ H',H' l=some (.lst (xs++[y]))→SameBut l H H'→Q .non H'):rApp (.ref l) [y] H Q:=by
  unfold rApp; exact ⟨l,xs,y,rfl,rfl,h,small1000 hz,k _ upd_same SameBut.self⟩
theorem tyL {K:PySem.W.Frag} {H:Hp} {l:Addr} {xs:List V} (h:H l=some (.lst xs)):tyV K "list" (.ref l) H:=.inl ⟨rfl,xs,SqL.of h⟩
end L2
set_option Elab.async false
set_option linter.all false
set_option maxRecDepth 100000
namespace L2
open PySem PySem.Spec PyProof.Rows
def closL (env:Env):List (Str × NameKind)→List (Str × Addr)→List (Str × Addr)
  | [],cs=>cs
  | (n,k)::r,cs=>if k == .free then closL env r ((n,(env.cells.lookup n).getD 0)::cs) else closL env r cs
theorem clos_eq (env:Env):∀ (l:List (Str × NameKind)) (cs:List (Str × Addr)),(∀ y∈l,y.2=.free→∃ c,env.cells.lookup y.1=some c) →
    (forIn l cs fun (x:Str × NameKind) r=>if x.2 == .free then (do let c ← cellOf env x.1; pure (ForInStep.yield ((x.1,c)::r)):Sem _) else pure (ForInStep.yield r))=pure (closL env l cs)
  | [],cs,_=>rfl
  | (n,k)::r,cs,h=>by
    rw [List.forIn_cons]
    have ih:=fun cs=>clos_eq env r cs fun y hy=>h y (List.mem_cons_of_mem _ hy)
    by_cases hk:(k == NameKind.free)=true
    · obtain ⟨c,hc⟩:=h (n,k) List.mem_cons_self (by simpa using hk)
      dsimp only at hc
      simp only [hk,if_true,closL,hc,Option.getD_some,cellOf,pure_bind]
      exact ih _
    · simp only [hk,closL,pure_bind]
      exact ih _
theorem closureFor_eq {env:Env} {scope:Scope} (h:∀ y∈scope.names,y.2=.free→∃ c,env.cells.lookup y.1=some c):closureFor scope env=pure (closL env scope.names []):=by
  have e:=clos_eq env scope.names [] h
  unfold closureFor
  simp only [bind_pure]
  exact e
theorem closL_mem {env:Env}:∀ (l:List (Str × NameKind)) (cs:List (Str × Addr)),(∀ y∈l,y.2=.free→∃ c,env.cells.lookup y.1=some c)→∀ p∈closL env l cs,p∈cs∨env.cells.lookup p.1=some p.2
  | [],cs,_,p,hp=>.inl hp
  | (n,k)::r,cs,h,p,hp=>by
    have h':∀ y∈r,y.2=.free→∃ c,env.cells.lookup y.1=some c:=fun y hy=>h y (List.mem_cons_of_mem _ hy)
    unfold closL at hp
    by_cases hk:(k == NameKind.free)=true
    · rw [if_pos hk] at hp
      obtain ⟨c,hc⟩:=h (n,k) List.mem_cons_self (by simpa using hk)
      rcases closL_mem r _ h' p hp with hm | hm
      · rcases List.mem_cons.mp hm with rfl | hm
        · exact .inr (by dsimp only at hc ⊢; rw [hc]; rfl)
        · exact .inl hm
      · exact .inr hm
    · rw [if_neg hk] at hp
      exact closL_mem r cs h' p hp
theorem closL_acc {env:Env}:∀ (l:List (Str × NameKind)) (cs:List (Str × Addr)),∀ p∈cs,p∈closL env l cs
  | [],_,_,hp=>hp
  | (n,k)::r,cs,p,hp=>by
    unfold closL
    by_cases hk:(k == NameKind.free)=true
    · rw [if_pos hk]; exact closL_acc r _ p (List.mem_cons_of_mem _ hp)
    · rw [if_neg hk]; exact closL_acc r _ p hp
theorem closL_has {env:Env}:∀ (l:List (Str × NameKind)) (cs:List (Str × Addr)) (y:Str),(y,NameKind.free)∈l→∃ a,(y,a)∈closL env l cs
  | (n,k)::r,cs,y,hy=>by
    unfold closL
    rcases List.mem_cons.mp hy with e | hm
    · cases e
      rw [if_pos (by rfl)]
      exact ⟨_,closL_acc r _ _ List.mem_cons_self⟩
    · by_cases hk:(k == NameKind.free)=true
      · rw [if_pos hk]; exact closL_has r _ y hm
      · rw [if_neg hk]; exact closL_has r _ y hm
theorem lookup_mem {α β:Type} [BEq α] [LawfulBEq α] {x:α} {c:β}:∀ {l:List (α × β)},l.lookup x=some c→(x,c)∈l
  | [],h=>by cases h
  | (a,b)::r,h=>by
    rw [List.lookup_cons] at h
    by_cases e:(x == a)=true
    · rw [e] at h
      have:x=a:=by simpa using e
      subst this
      cases h
      exact List.mem_cons_self
    · have e':(x == a)=false:=by simpa using e
      rw [e'] at h
      exact List.mem_cons_of_mem _ (lookup_mem h)
theorem mem_lookup {α β:Type} [BEq α] [LawfulBEq α] {x:α} {c:β}:∀ {l:List (α × β)},(x,c)∈l→∃ c',l.lookup x=some c'
  | (a,b)::r,h=>by
    rw [List.lookup_cons]
    by_cases e:(x == a)=true
    · rw [e]; exact ⟨_,rfl⟩
    · have e':(x == a)=false:=by simpa using e
      rw [e']
      rcases List.mem_cons.mp h with q | q
      · cases q; simp at e
      · exact mem_lookup q
def clOf (X:Cx) (scope:Scope):List (Str × Addr):=closL X.env scope.names []
theorem clOf_env {X:Cx} {scope:Scope} (h:∀ y∈scope.names,y.2=.free→∃ c,X.env.cells.lookup y.1=some c) {x:Str} {c:Addr} (e:(clOf X scope).lookup x=some c):X.env.cells.lookup x=some c:=by
  rcases closL_mem scope.names [] h _ (lookup_mem e) with hm | hm
  · cases hm
  · exact hm
theorem clOf_has {X:Cx} {scope:Scope} (h:∀ y∈scope.names,y.2=.free→∃ c,X.env.cells.lookup y.1=some c) {x:Str} (hx:(x,NameKind.free)∈scope.names) {c:Addr} (e:X.env.cells.lookup x=some c):(clOf X scope).lookup x=some c:=by
  obtain ⟨a,ha⟩:=closL_has (env:=X.env) scope.names [] x hx
  obtain ⟨c',hc'⟩:=mem_lookup ha
  have:=clOf_env h hc'
  rw [e] at this
  cases this
  exact hc'
def cxC (X:Cx) (scope:Scope) (C:Addr) (fp:List Addr) (s₀:Shared) (H₀:Hp) (N':List Str):Cx where
  prog:=X.prog
  w:=X.w
  K:=X.K
  mg:=X.mg
  base:=X.base
  A:=X.A
  N:=N'
  s₀:=s₀
  H₀:=H₀
  env:=compEnvC scope (clOf X scope) C X.env
  outer:=X.stack
  stack:=X.stack
  ex:=fp
  fn:=fun _=>false
  calm:=true
  pn:=[]
  xe:=fun _ _=>False
def slots (σ:St) (js:List Nat):St:=js.map fun j=>(σ[j]?).getD none
def PTs (X:Cx) (ifs:List Expr) (t:TT):Prop :=
  ∀ (pins:List (Addr × Obj)) (s:Shared) (σ:St) (H:Hp) (Q:Bool→Hp→Prop),Inv X pins σ H s→t σ H Q →
    wpAny (model X.prog X.w) X.A (forIn ifs true fun c r=>if r=true then do let ok ← isTrue c X.env (eval c X.env); pure (ForInStep.yield ok) else pure (ForInStep.yield r)) (TP X pins σ Q) X.xe s
def tYes:TT:=fun _ H Q=>Q true H
theorem pts_nil {X:Cx}:PTs X [] tYes:=fun pins s σ H Q I h=>wpAny_tests_nil ⟨H,I,h⟩
theorem pts_one {X:Cx} {c:Expr} {t:TT} (h:PT X c t):PTs X [c] t:=fun pins s σ H Q I q=>wpAny_tests_one (h pins s σ H Q I q)
def tComp (wi:TI) (js:List Nat) (tc:TT) (te:TE):TE:=fun σ H Q=>wi σ H fun J H1=>∀ D,H1 D=none→∃ W:Nat→Nat→List V→Hp→Prop,(∃ m,W 0 m [] (upd H1 D (.lst []))) ∧
  ∀ i m ys H2,W i m ys H2→H2 D=some (.lst ys)∧((J.stop i H2∧Q (.ref D) H2)∨(J.go i H2∧ys.length<sizeLine∧∀ x H3,J.yld i H2 x H3 →
    tc (some x::slots σ js) H3 fun b H4=>if b=true then te (some x::slots σ js) H4 fun y H5=>H5 D=some (.lst ys)∧∃ m',m' < m∧W (i+1) m' (ys++[y]) (upd H5 D (.lst (ys++[y])))
      else H4 D=some (.lst ys)∧∃ m',m' < m∧W (i+1) m' ys H4))
structure CScope (X:Cx) (scope:Scope) (x:Str) (N':List Str) (js:List Nat):Prop where
  calm:X.calm=true
  free:∀ y∈scope.names,y.2=.free→X.env.kindOf y.1=some .cell
  cell:∀ y∈scope.names,y.2 ≠ .cell
  kind:scope.kind=.function
  names:∀ y∈scope.names,y.2=.local→scope.names.lookup y.1=some .local
  own:scope.names.lookup x=some .local
  nofl:∀ y,(y,NameKind.free)∈scope.names→scope.names.lookup y=some .local→False
  len:N'.length=js.length+1
  zero:N'[0]?=some x
  nd:N'.Nodup
  slot:∀ (i:Nat) (j:Nat),js[i]?=some j→∃ y,N'[i+1]?=some y∧X.N[j]?=some y∧(y,NameKind.free)∈scope.names
end L2
set_option Elab.async false
set_option linter.all false
set_option maxRecDepth 100000
namespace L2
open PySem PySem.Spec PyProof.Rows
section
variable {X:Cx} {pins:List (Addr × Obj)} {σ:St} {H:Hp} {s:Shared} {scope:Scope} {x:Str} {N':List Str} {js:List Nat} {fp:List Addr}
theorem CScope.cells (S:CScope X scope x N' js) (ok:X.Ok):∀ y∈scope.names,y.2=.free→∃ c,X.env.cells.lookup y.1=some c:=fun y hy hf=>ok.has _ (.inl (S.free y hy hf))
theorem relabel_cases {env:Env}:∀ {names:List (Str × NameKind)} {y:Str} {k:NameKind},(names.map fun (n,k)=>if (k == NameKind.free&&env.scope.kind == .function&&env.kindOf n == some .cell) then (n,NameKind.cell) else (n,k)).lookup y=some k →
    (k=.cell∨k=.free)→(∀ z∈names,z.2 ≠ .cell)→(y,NameKind.free)∈names
  | [],_,_,h,_,_=>by cases h
  | (n,q)::r,y,k,h,hk,hc=>by
    rw [List.map_cons,List.lookup_cons] at h
    have ih:=fun h=>@relabel_cases env r y k h hk fun z hz=>hc z (List.mem_cons_of_mem _ hz)
    by_cases hq:(q == NameKind.free&&env.scope.kind == .function&&env.kindOf n == some .cell)=true
    · dsimp only at h
      rw [if_pos hq] at h
      have qf:q=.free:=by
        rw [Bool.and_eq_true,Bool.and_eq_true] at hq
        simpa using hq.1.1
      subst qf
      by_cases e:(y == n)=true
      · have:y=n:=by simpa using e
        subst this
        exact List.mem_cons_self
      · have e':(y == n)=false:=by simpa using e
        dsimp only at h
        rw [e'] at h
        exact List.mem_cons_of_mem _ (ih h)
    · dsimp only at h
      rw [if_neg hq] at h
      by_cases e:(y == n)=true
      · have:y=n:=by simpa using e
        subst this
        dsimp only at h
        rw [e] at h
        have hkq:k=q:=by injection h with h; exact h.symm
        subst hkq
        rcases hk with rfl | rfl
        · exact absurd rfl (hc _ List.mem_cons_self)
        · exact List.mem_cons_self
      · have e':(y == n)=false:=by simpa using e
        dsimp only at h
        rw [e'] at h
        exact List.mem_cons_of_mem _ (ih h)
theorem cxC_ok (S:CScope X scope x N' js) (I:Inv X pins σ H s) (hf:∀ b∈fp,FpOk X pins H b) (hb:∀ b∈fp,b<s.heap.objs.size):(cxC X scope s.heap.objs.size fp s H N').Ok where
  mod:=I.ok.mod
  kind:=S.kind
  glob:=I.ok.glob
  blt:=I.ok.blt
  above:=Nat.le_refl _
  inj:=fun y z c h1 h2=>I.ok.inj y z c (clOf_env (S.cells I.ok) h1) (clOf_env (S.cells I.ok) h2)
  has:=fun y hy=>by
    have hm:(y,NameKind.free)∈scope.names:=by
      rcases hy with hy | hy
      · exact relabel_cases (env:=X.env) hy (.inl rfl) S.cell
      · exact relabel_cases (env:=X.env) hy (.inr rfl) S.cell
    obtain ⟨c,hc⟩:=S.cells I.ok _ hm rfl
    exact ⟨c,clOf_has (S.cells I.ok) hm hc⟩
  cab:=fun _ _ h=>by cases h
  hd:=fun _=>I.ok.hd S.calm
  frames:=I.ok.frames
  stk:=.inl rfl
  exf:=fun b hb'=>⟨fun e=>by have:=hb b hb'; rw [e] at this; exact Nat.lt_irrefl _ this,fun y c h=>(hf b hb').2.2.2.2.1 y c (clOf_env (S.cells I.ok) h)⟩
  bs:=I.bs
  bsz:=Nat.le_trans I.ok.bsz I.sz
  noex:=fun b o e hb'=>by
    rcases (hf b hb').2.2.2.1 with h | h
    · exact I.ok.noex b o e h
    · exact absurd (Nat.lt_of_lt_of_le (Heap.lt_size e) (Nat.le_trans I.ok.bsz h)) (Nat.lt_irrefl _)
  exfs:=fun b hb' hs=>by
    have h2:=I.stkSub b hs
    rcases List.mem_cons.mp h2 with h2 | h2
    · exact (hf b hb').2.1 h2
    · exact (hf b hb').2.2.1 h2
  funs:=I.stack
  frf:=I.stkFree
theorem slots_get {i j:Nat} (h:js[i]?=some j):(slots σ js)[i]?=some ((σ[j]?).getD none):=by
  unfold slots; rw [List.getElem?_map,h]; rfl
theorem cxC_inv {h':Heap} {tk:Nat} (S:CScope X scope x N' js) (I:Inv X pins σ H s) (hf:∀ b∈fp,FpOk X pins H b) (hb:∀ b∈fp,b<s.heap.objs.size)
    (hn:h'.Ns s.heap.objs.size (fun _=>none)) (hk:∀ b o,s.heap.get? b=some o→h'.get? b=some o):Inv (cxC X scope s.heap.objs.size fp s H N') [] (none::slots σ js) H { s with heap:=h',toks:=tk } where
  ok:=cxC_ok S I hf hb
  os:=rfl
  bare:=I.bare
  base:=Un.kept hk
  loc:=by
    refine ⟨_,hn,fun i y v hi hv hvis=>?_⟩
    cases i with
    | zero=>cases hv
    | succ i =>
      have hv':(slots σ js)[i]?=some (some v):=hv
      have hlt:i<js.length:=by
        have:=(List.getElem?_eq_some_iff.mp hv').1
        unfold slots at this
        rwa [List.length_map] at this
      have hj:js[i]?=some js[i]:=List.getElem?_eq_getElem hlt
      obtain ⟨z,h1,h2,h3⟩:=S.slot i _ hj
      have hzy:z=y:=by
        have:N'[i+1]?=some y:=hi
        rw [h1] at this; cases this; rfl
      subst hzy
      rw [slots_get hj] at hv'
      have hσ:σ[js[i]]?=some (some v):=by
        cases q:σ[js[i]]? with
        | none=>rw [q] at hv'; cases hv'
        | some o=>rw [q] at hv'; cases hv'; rfl
      have hkc:X.env.kindOf z=some .cell:=S.free _ h3 rfl
      obtain ⟨m,hm,hl⟩:=I.loc
      obtain ⟨u,ru,lk⟩:=hl _ z v h2 hσ (.inr (.inl hkc))
      rcases lk with ⟨hk1,_⟩ | ⟨_,c,hc,hcell⟩
      · rw [hkc] at hk1; cases hk1
      · refine ⟨u,ru,.inr ⟨?_,c,clOf_has (S.cells I.ok) h3 hc,?_⟩⟩
        · rcases hvis with hvis | hvis | hvis
          · exfalso
            have hcl:=clOf_has (S.cells I.ok) h3 hc
            have hm2:=lookup_mem (l:=(relabel scope X.env).names) hvis
            unfold relabel at hm2
            obtain ⟨⟨n,k⟩,hmem,he⟩:=List.mem_map.mp hm2
            dsimp only at he
            by_cases hq:(k == NameKind.free&&X.env.scope.kind == .function&&X.env.kindOf n == some .cell)=true
            · rw [if_pos hq] at he; cases he
            · rw [if_neg hq] at he
              cases he
              have:=S.names _ hmem rfl
              have l2:=mem_lookup h3
              obtain ⟨c',l2⟩:=l2
              dsimp only at this
              rw [this] at l2
              have key:(relabel scope X.env).names.lookup z=some .local:=lookup_relabel_local this
              have hck:scope.names.lookup z=some .local:=this
              exact S.nofl z h3 hck
          · exact .inl hvis
          · exact .inr hvis
        · obtain ⟨o,e,r⟩:=hcell
          exact ⟨o,hk _ _ e,r⟩
  cell:=fun y c h=>by
    obtain ⟨v,o,e,r⟩:=I.cell y c (clOf_env (S.cells I.ok) h)
    exact ⟨v,o,hk _ _ e,r⟩
  free:=I.hok.fresh (Nat.le_refl _)
  freeC:=fun y c h=>I.freeC y c (clOf_env (S.cells I.ok) h)
  pin:=fun p hp=>by cases hp
  hok:=I.hok.kept hk
  len:=by
    show (slots σ js).length+1=N'.length
    unfold slots
    rw [List.length_map,S.len]
theorem HOk.but {P:Program} {w:World} {H:Hp} {h h':Heap} {C:Addr} (x:HOk P w H h) (hC:H C=none) (k:∀ b u,b≠C→h.get? b=some u→h'.get? b=some u):HOk P w H h':=fun a o e =>
  (x a o e).stay (fun b u hb q=>k b u (by
    rcases hb with rfl | hb
    · exact ne_of_none e hC
    · exact ne_of_none hb hC) q) (fun _ q=>q) fun _ _ q=>q
theorem cxC_back {H2:Hp} {σ':St} {s2:Shared} {h'':Heap} (S:CScope X scope x N' js) (I:Inv X pins σ H s) (hf:∀ b∈fp,FpOk X pins H b)
    (J:Inv (cxC X scope s.heap.objs.size fp s H N') [] σ' H2 s2) (hs:Heap.SameBut s.heap.objs.size s2.heap h''):Inv X pins σ H2 { s2 with heap:=h'' }:=by
  have hC:H2 s.heap.objs.size=none:=J.free
  have ne:∀ {b:Addr} {o:Obj},s.heap.get? b=some o→b≠s.heap.objs.size:=fun e q=>by
    have:=Heap.lt_size e; rw [q] at this; exact Nat.lt_irrefl _ this
  refine I.call' (s':={ s2 with heap:=h'' }) (ch:=fp) (by rw [show ({ s2 with heap:=h'' }:Shared).os=s2.os from rfl]; exact J.os) ?_ (J.hok.but hC fun b u hb q=>hs.extBut b u hb q) J.bare fun b hb=>⟨(hf b hb).2.2.2.1,(hf b hb).2.1,(hf b hb).2.2.2.2.1,(hf b hb).2.2.2.2.2⟩
  have U:=J.base
  exact {
    keep:=fun b o e n h1 h2=>hs.extBut b o (ne e) (U.keep b o e n h1 h2)
    slot:=fun b o e n h1 h2=>by
      obtain ⟨sl,q⟩:=U.slot b o e n h1 h2
      exact ⟨sl,hs.extBut b _ (ne e) q⟩
    free:=U.free
    there:=fun b o e h2=>by
      obtain ⟨o',q⟩:=U.there b o e h2
      exact ⟨o',hs.extBut b _ (ne e) q⟩
    tups:=U.tups
    frzs:=U.frzs
    tbls:=U.tbls }
end
end L2
set_option Elab.async false
set_option linter.all false
set_option maxRecDepth 100000
namespace L2
open PySem PySem.Spec PyProof.Rows
abbrev NoX:Value→Shared→Prop:=fun _ _=>False
theorem compLoop_gen {prog:Program} {w:World} {A:Around} {R:Result→Shared→Prop} {s:Shared} {elt target iter:Expr} {ifs:List Expr} {scope:Scope} {pos:Pos} {it acc:Value} {env:Env} (I:Nat→Shared→Prop)
    (turn:∀ n s,I n s→wpAny (model prog w) A (pyNext it) (fun r s₁=>match r with
      | none=>R (.ok .next) s₁
      | some v=>wpAny (model prog w) A (letOwnedTupleGo target it v) (fun _ s₁'=>wpAny (model prog w) A (assign target env v) (fun _ s₂ =>
          wpAny (model prog w) A (forIn ifs true fun c r=>if r=true then do let ok ← isTrue c env (eval c env); pure (ForInStep.yield ok) else pure (ForInStep.yield r)) (fun ok s₃ =>
            if ok=true then wpAny (model prog w) A (eval elt env) (fun x s₄=>wpAny (model prog w) A (call (.builtin "list.append") [acc,x]) (fun _ s₅=>∃ m,m<n∧I m s₅) NoX s₄) NoX s₃
            else ∃ m,m<n∧I m s₃) NoX s₂) NoX s₁') NoX s₁) NoX s)
    (n:Nat) (h:I n s):codeAny (model prog w) A (.compLoop (.ListComp elt [⟨target,iter,ifs,0⟩] scope pos) 0 it acc env) R s:=by
  refine codeAny_loop rfl I (fun n s hI=>?_) n h
  show wpAny _ A ((compTurn (.ListComp elt [⟨target,iter,ifs,0⟩] scope pos) 0 it acc env).onRaise (fun x=>do noteFrame x env; theTreesLotGoes x)) _ _ s
  refine wpAny_noted ?_
  rw [compTurn_list]
  refine wpAny_bind (wpAny_standAt (wpAny_bind (wpAny_mono (turn n s hI) (fun r s₁ h₁=>?_) fun _ _ h'=>h'.elim)))
  cases r with
  | none=>exact wpAny_pure h₁
  | some v =>
    refine wpAny_bind (wpAny_mono h₁ (fun _ s₁' h₁'=>?_) fun _ _ h'=>h'.elim)
    refine wpAny_bind (wpAny_mono h₁' (fun _ s₂ h₂=>wpAny_bind (wpAny_mono h₂ (fun ok s₃ h₃=>?_) fun _ _ h'=>h'.elim)) fun _ _ h'=>h'.elim)
    cases ok with
    | false=>exact wpAny_pure ⟨rfl,h₃⟩
    | true =>
      exact wpAny_bind (wpAny_bind (wpAny_mono h₃ (fun x s₄ h₄=>wpAny_bind (wpAny_mono h₄ (fun _ s₅ h₅=>wpAny_pure (wpAny_pure ⟨rfl,h₅⟩)) fun _ _ h'=>h'.elim)) fun _ _ h'=>h'.elim))
section
variable {X:Cx} {pins:List (Addr × Obj)} {σ:St} {H:Hp} {s:Shared} {scope:Scope} {x:Str} {N':List Str} {js:List Nat} {fp:List Addr} {elt iter:Expr} {px pos:Pos} {ifs:List Expr} {tc:TT} {te:TE}
theorem comp_block {J:It} {it:Addr} {tn:Nat→Heap→Prop} {RR:Value→Addr→Result→Shared→Prop} {E:Value→Shared→Prop} {Q:VK}
    (S:CScope X scope x N' js) (I:Inv X pins σ H s) (T:Turn X.prog X.w X.K (.Name x px) J fp it tn) (h0:tn 0 s.heap) (hf:∀ b∈fp,FpOk X pins H b)
    (ht:∀ C fp s₀ H₀,PTs (cxC X scope C fp s₀ H₀ N') ifs tc) (he:∀ C fp s₀ H₀,PE (cxC X scope C fp s₀ H₀ N') elt te)
    (R:∀ D,H D=none→∃ W:Nat→Nat→List V→Hp→Prop,(∃ m,W 0 m [] (upd H D (.lst []))) ∧
      ∀ i m ys H2,W i m ys H2→H2 D=some (.lst ys)∧((J.stop i H2∧Q (.ref D) H2)∨(J.go i H2∧ys.length<sizeLine∧∀ x H3,J.yld i H2 x H3 →
        tc (some x::slots σ js) H3 fun b H4=>if b=true then te (some x::slots σ js) H4 fun y H5=>H5 D=some (.lst ys)∧∃ m',m' < m∧W (i+1) m' (ys++[y]) (upd H5 D (.lst (ys++[y])))
          else H4 D=some (.lst ys)∧∃ m',m' < m∧W (i+1) m' ys H4)))
    (hRR:∀ (D:Addr) (H3:Hp) (s3:Shared) (σ':St) (H':Hp) (s':Shared),Inv X pins σ H3 s3→(∀ b∈fp,FpOk X pins H3 b)→Inv (cxC X scope s3.heap.objs.size fp s3 H3 N') [] σ' H' s'→Q (.ref D) H'→RR (.ref D) s3.heap.objs.size (.ok .next) s') :
    wpAny (model X.prog X.w) X.A (newList []) (fun acc s₃=>wpAny (model X.prog X.w) X.A (newFunctionEnv scope X.env.globals (clOf X scope) [] X.env.qual none .none (some X.env)) (fun cenv s₄ =>
      codeAny (model X.prog X.w) X.A (.compStart (.ListComp elt [⟨.Name x px,iter,ifs,0⟩] scope pos) 0 (.ref it) acc { cenv with scope:=relabel scope X.env }) (RR acc cenv.locals) s₄) E s₃) E s:=by
  have hb:∀ b∈fp,b<s.heap.objs.size:=fun b hb=>by
    obtain ⟨o,e,_⟩:=T.obj 0 _ h0 b hb
    exact Heap.lt_size e
  refine wpAny_newObj_type (wpAny_newFunctionEnv S.cell (by intro y hy; simp at hy) (fun h₁ hns₁ hsb₁=>?_) S.kind)
  have hDn:H s.heap.objs.size=none:=I.hok.fresh (Nat.le_refl _)
  obtain ⟨W,⟨m0,hw0⟩,hW⟩:=R _ hDn
  have I3:Inv X pins σ (upd H s.heap.objs.size (.lst [])) { s with heap:=s.heap.push { cls:=.type "list",dict:=none,data:=.seq ([]:List Value).toArray } }:=I.lnew (its:=[]) (ys:=[]) (t':=s.toks) .nil (Nat.zero_le _)
  have hf3:∀ b∈fp,FpOk X pins (upd H s.heap.objs.size (.lst [])) b:=fun b hb' =>
    ⟨by rw [upd_ne (fun e=>by have:=hb b hb'; rw [e] at this; exact Nat.lt_irrefl _ this)]; exact (hf b hb').1,(hf b hb').2⟩
  have hb3:∀ b∈fp,b<(s.heap.push { cls:=.type "list",dict:=none,data:=.seq ([]:List Value).toArray }).objs.size:=fun b hb'=>by
    rw [Heap.size_push]; exact Nat.lt_succ_of_lt (hb b hb')
  have hkeep:∀ b o,(s.heap.push { cls:=.type "list",dict:=none,data:=.seq ([]:List Value).toArray }).get? b=some o→h₁.get? b=some o:=fun b o e =>
    hsb₁.extBut b o (fun q=>by have:=Heap.lt_size e; rw [q] at this; exact Nat.lt_irrefl _ this) (Heap.get?_push_of_some _ e)
  have J4:=cxC_inv (h':=h₁) (tk:=s.toks+([]:List (Str × Value)).length) S I3 hf3 hb3 hns₁ hkeep
  have t4:tn 0 h₁:=T.keep 0 _ _ h0 fun b hb' o e=>hkeep b o (Heap.get?_push_of_some _ e)
  have loop:codeAny (model X.prog X.w) X.A (.compLoop (.ListComp elt [⟨.Name x px,iter,ifs,0⟩] scope pos) 0 (.ref it) (.ref s.heap.objs.size) (compEnvC scope (clOf X scope) (s.heap.push { cls:=.type "list",dict:=none,data:=.seq ([]:List Value).toArray }).objs.size X.env))
      (RR (.ref s.heap.objs.size) (s.heap.push { cls:=.type "list",dict:=none,data:=.seq ([]:List Value).toArray }).objs.size) { s with heap:=h₁,toks:=s.toks+([]:List (Str × Value)).length }:=by
    refine compLoop_gen (fun n s'=>∃ (i:Nat) (ys:List V) (H2:Hp) (o:Option V),Inv (cxC X scope _ fp _ _ N') [] (o::slots σ js) H2 s'∧tn i s'.heap∧(∀ b∈fp,H2 b=none)∧W i n ys H2) ?_ m0 ⟨0,[],_,none,J4,t4,fun b hb'=>(hf3 b hb').1,hw0⟩
    rintro n s' ⟨i,ys,H2,o,J2,t2,f2,w2⟩
    obtain ⟨hD,hcase⟩:=hW i n ys H2 w2
    have Fp:∀ b∈fp,FpOk (cxC X scope (s.heap.push { cls:=.type "list",dict:=none,data:=.seq ([]:List Value).toArray }).objs.size fp { s with heap:=s.heap.push { cls:=.type "list",dict:=none,data:=.seq ([]:List Value).toArray } } (upd H s.heap.objs.size (.lst [])) N') [] H2 b:=fun b hb' =>
      ⟨f2 b hb',(J2.ok.exf b hb').1,J2.ok.exfs b hb',.inl hb',(J2.ok.exf b hb').2,fun p hp=>by cases hp⟩
    rcases hcase with ⟨hstop,hq⟩ | ⟨hgo,hz,hturn⟩
    · refine wpAny_mono (T.done (cxC X scope _ fp _ _ N') rfl rfl rfl rfl i [] s' _ H2 NoX J2 Fp t2 hstop) (fun r s1 ⟨hr,J5⟩=>?_) fun _ _ f=>f
      subst hr
      exact hRR _ _ _ _ _ _ I3 hf3 J5 hq
    · refine wpAny_mono (T.item (cxC X scope _ fp _ _ N') rfl rfl rfl rfl i [] s' _ H2 NoX J2 Fp t2 hgo) (fun r s1 ⟨u,hr,hx⟩=>?_) fun _ _ f=>f
      subst hr
      refine wpAny_mono hx (fun _ s2 ⟨v,H3,J3,rv,hy,t3,f3⟩=>?_) fun _ _ f=>f
      have Fp3:∀ b∈fp,FpOk (cxC X scope (s.heap.push { cls:=.type "list",dict:=none,data:=.seq ([]:List Value).toArray }).objs.size fp { s with heap:=s.heap.push { cls:=.type "list",dict:=none,data:=.seq ([]:List Value).toArray } } (upd H s.heap.objs.size (.lst [])) N') [] H3 b:=fun b hb' =>
        ⟨f3 b hb',(J3.ok.exf b hb').1,J3.ok.exfs b hb',.inl hb',(J3.ok.exf b hb').2,fun p hp=>by cases hp⟩
      have P3:=J3.pinned Fp3 (T.obj (i+1) _ t3)
      have keepT:∀ {σ':St} {Hx:Hp} {sx:Shared},Inv (cxC X scope (s.heap.push { cls:=.type "list",dict:=none,data:=.seq ([]:List Value).toArray }).objs.size fp { s with heap:=s.heap.push { cls:=.type "list",dict:=none,data:=.seq ([]:List Value).toArray } } (upd H s.heap.objs.size (.lst [])) N') ([]++pinsAt fp s2.heap) σ' Hx sx→tn (i+1) sx.heap∧∀ b∈fp,Hx b=none:=fun Jx =>
        ⟨T.keep (i+1) _ _ t3 fun b hb' ob e=>(Jx.pin (b,ob) (List.mem_append_right _ (List.mem_append_right _ (mem_pinsAt hb' e)))).1,fun b hb'=>by
          obtain ⟨ob,e,_⟩:=T.obj (i+1) _ t3 b hb'
          exact (Jx.pin (b,ob) (List.mem_append_right _ (List.mem_append_right _ (mem_pinsAt hb' e)))).2.1⟩
      refine wpAny_assign_Name (store_ok P3 (i:=0) (x:=x) (v:=v) ?nd ?hi ?hx rv (fun s5 J5=>?_) ?hfn)
      case nd=>exact S.nd
      case hi=>exact S.zero
      case hx=>exact .inl (lookup_relabel_local S.own)
      case hfn=>exact .inr (lookup_relabel_local S.own)
      have J5':Inv _ _ (some v::slots σ js) H3 s5:=J5
      refine wpAny_mono (ht _ _ _ _ _ _ _ _ _ J5' (hturn v H3 hy)) (fun ok s6 ⟨H6,J6,q6⟩=>?_) fun _ _ f=>f
      dsimp only at q6
      by_cases hok:ok=true
      · rw [if_pos hok] at q6 ⊢
        refine wpAny_mono (he _ _ _ _ _ _ _ _ _ J6 q6) (fun y s7 ⟨w',H7,J7,r7,hD7,m',hm',w7⟩=>?_) fun _ _ f=>f
        refine wpAny_mono (mt_append (X:=cxC X scope _ fp _ _ N') _ _ _ _ (.ref s.heap.objs.size) [w'] (.ref s.heap.objs.size) [y] (fun _ H8=>H8=upd H7 s.heap.objs.size (.lst (ys++[w']))) J7 rfl (.cons r7 .nil) ⟨_,_,_,rfl,rfl,hD7,hz,rfl⟩) (fun _ s8 ⟨_,H8,J8,_,e8⟩=>?_) fun _ _ f=>f
        subst e8
        obtain ⟨k1,k2⟩:=keepT J8
        exact ⟨m',hm',i+1,ys++[w'],_,some v,J8.unpinned,k1,k2,w7⟩
      · rw [if_neg hok] at q6 ⊢
        obtain ⟨_,m',hm',w7⟩:=q6
        obtain ⟨k1,k2⟩:=keepT J6
        exact ⟨m',hm',i+1,ys,_,some v,J6.unpinned,k1,k2,w7⟩
  refine codeAny_compStart_list loop (T.self X.A 0 _ _ _ t4 loop)
theorem pe_comp {wi:TI} (S:CScope X scope x N' js) (hi:PI X (.Name x px) iter wi) (ht:∀ C fp s₀ H₀,PTs (cxC X scope C fp s₀ H₀ N') ifs tc) (he:∀ C fp s₀ H₀,PE (cxC X scope C fp s₀ H₀ N') elt te)
    (hs:∀ x,foldedSetIterable iter X.env x=pure x:=by intro _; rfl):PE X (.ListComp elt [⟨.Name x px,iter,ifs,0⟩] scope pos) (tComp wi js tc te):=by
  intro pins s σ H Q I h
  rw [eval_ListComp]
  refine wpAny_comprehension_free (use:=none) rfl hs (closureFor_eq (S.cells I.ok)) S.kind S.names (wpAny_mono (hi pins s σ H _ I h) (fun v s1 h1=>?_) fun _ _ e=>e)
  refine wpAny_mono h1 (fun itv s2 ⟨it,fp,tn,J,H2,e,I2,T,t0,hf,R⟩=>?_) fun _ _ e=>e
  subst e
  refine comp_block S I2 T t0 hf ht he R ?_
  intro D H3 s3 σ' H' s' I3 hf3 J3 q
  obtain ⟨m,hm,_⟩:=J3.loc
  exact ⟨m,hm,fun h' hs'=>⟨.ref D,H',cxC_back S I3 hf3 J3 hs',rfl,q⟩⟩
end
end L2
set_option Elab.async false
set_option linter.all false
set_option maxRecDepth 100000
namespace L2
open PySem PySem.Spec PyProof.Rows
structure PTsw (X:Cx) (ifs:List Expr) (t:TT):Prop where p:PTs X ifs t
def tMonoE (t:TE):TE:=fun σ H Q=>∃ Q':VK,t σ H Q'∧∀ v H1,Q' v H1→Q v H1
theorem PE.mono {X:Cx} {e:Expr} {t:TE} (h:PE X e t):PE X e (tMonoE t):=fun pins s σ H Q I ⟨Q',h1,h2⟩ =>
  thn (h pins s σ H Q' I h1) fun b s' ⟨v,H',I',r,q⟩=>⟨v,H',I',r,h2 _ _ q⟩
theorem PTs.mono {X:Cx} {es:List Expr} {t:TT} (h:PTs X es t):PTs X es (tMono t):=fun pins s σ H Q I ⟨Q',h1,h2⟩ =>
  thn (h pins s σ H Q' I h1) fun b s' ⟨H',I',q⟩=>⟨H',I',h2 _ _ q⟩
@[irreducible] def CompB (J:It) (σ:St) (js:List Nat) (tc:TT) (te:TE) (H1:Hp) (Q:VK):Prop:=∀ D,H1 D=none→∃ W:Nat→Nat→List V→Hp→Prop,(∃ m,W 0 m [] (upd H1 D (.lst []))) ∧
  ∀ i m ys H2,W i m ys H2→H2 D=some (.lst ys)∧((J.stop i H2∧Q (.ref D) H2)∨(J.go i H2∧ys.length<sizeLine∧∀ x H3,J.yld i H2 x H3 →
    tMono tc (some x::slots σ js) H3 fun b H4=>if b=true then tMonoE te (some x::slots σ js) H4 fun y H5=>H5 D=some (.lst ys)∧∃ m',m' < m∧W (i+1) m' (ys++[y]) (upd H5 D (.lst (ys++[y])))
      else H4 D=some (.lst ys)∧∃ m',m' < m∧W (i+1) m' ys H4))
def tCompB (wi:TI) (js:List Nat) (tc:TT) (te:TE):TE:=fun σ H Q=>wi σ H fun J H1=>CompB J σ js tc te H1 Q
section
variable {X:Cx} {scope:Scope} {x y:Str} {N':List Str} {js:List Nat} {elt iter c:Expr} {px py pos spos:Pos} {ifs:List Expr} {tc:TT} {te:TE} {wi:TI} {i:Nat}
theorem wts_nil:PTsw X [] tYes:=⟨pts_nil⟩
theorem wts_one {t:TT} (h:PTw X c t):PTsw X [c] t:=⟨pts_one h.p⟩
theorem we_comp (S:CScope X scope x N' js) (hi:PIw X (.Name x px) iter wi) (ht:∀ C fp s₀ H₀,PTsw (cxC X scope C fp s₀ H₀ N') ifs tc) (he:∀ C fp s₀ H₀,PEw (cxC X scope C fp s₀ H₀ N') elt te)
    (hs:∀ x,foldedSetIterable iter X.env x=pure x:=by intro _; rfl):PEw X (.ListComp elt [⟨.Name x px,iter,ifs,0⟩] scope pos) (tCompB wi js tc te) :=
  ⟨by unfold tCompB CompB; exact pe_comp S hi.p (fun C fp s₀ H₀=>(ht C fp s₀ H₀).p.mono) (fun C fp s₀ H₀=>(he C fp s₀ H₀).p.mono) hs⟩
end
def cscOk (psc scope:Scope) (N:List Str) (x:Str) (N':List Str) (js:List Nat):Bool :=
  (scope.names.all fun y=>!(y.2 == .free) || psc.names.lookup y.1 == some .cell)&&(scope.names.all fun y=>!(y.2 == .cell))&&scope.kind == .function &&
  (scope.names.all fun y=>!(y.2 == .local) || scope.names.lookup y.1 == some .local)&&scope.names.lookup x == some .local &&
  (scope.names.all fun y=>!(y.2 == .free) || !(scope.names.lookup y.1 == some .local))&&N'.length == js.length+1&&N'[0]? == some x&&decide N'.Nodup &&
  ((List.range js.length).all fun i=>match js[i]?,N'[i+1]? with
    | some j,some y=>N[j]? == some y&&scope.names.contains (y,NameKind.free)
    | _,_=>false)
theorem CScope.of {X:Cx} {psc scope:Scope} {N:List Str} {x:Str} {N':List Str} {js:List Nat} (h:cscOk psc scope N x N' js=true) (hX:X.env.scope=psc) (hN:X.N=N) (hc:X.calm=true):CScope X scope x N' js:=by
  unfold cscOk at h
  simp only [Bool.and_eq_true] at h
  obtain ⟨⟨⟨⟨⟨⟨⟨⟨⟨h1,h2⟩,h3⟩,h4⟩,h5⟩,h6⟩,h7⟩,h8⟩,h9⟩,h10⟩:=h
  rw [List.all_eq_true] at h1 h2 h4 h6 h10
  refine ⟨hc,fun y hy e=>?_,fun y hy e=>?_,by simpa using h3,fun y hy e=>?_,by simpa using h5,fun y hy e=>?_,by simpa using h7,by simpa using h8,of_decide_eq_true h9,fun i j hj=>?_⟩
  · have:=h1 y hy
    rw [e] at this
    show X.env.scope.names.lookup y.1=_
    rw [hX]
    simpa using this
  · have:=h2 y hy
    rw [e] at this
    simp at this
  · have:=h4 y hy
    rw [e] at this
    simpa using this
  · have:=h6 _ hy
    rw [e] at this
    simp at this
  · have hi:i<js.length:=(List.getElem?_eq_some_iff.mp hj).1
    have:=h10 i (List.mem_range.mpr hi)
    rw [hj] at this
    cases q:N'[i+1]? with
    | none=>rw [q] at this; simp at this
    | some y =>
      rw [q] at this
      simp only [Bool.and_eq_true] at this
      exact ⟨y,rfl,by rw [hN]; simpa using this.1,List.contains_iff_mem.mp this.2⟩
section
variable {js:List Nat} {te:TE} {tc:TT} {σ:St} {H:Hp} {Q:VK}
theorem comp_any {J:It} {n:Nat} (src:Nat→V→Prop) (hz:n≤100000) (Pv:Addr→Nat→List V→Hp→Prop)
    (h0:∀ D H1,H D=none→H1 D=some (.lst [])→Same H H1→Pv D 0 [] H1)
    (hg:∀ D i ys H',i<n→H' D=some (.lst ys)→Pv D i ys H'→J.go i H'∧∀ x H3,J.yld i H' x H3→H3=H'∧src i x)
    (hst:∀ D ys H',H' D=some (.lst ys)→Pv D n ys H'→J.stop n H')
    (hs:∀ D i x ys H',src i x→i<n→ys.length=i→H' D=some (.lst ys)→Pv D i ys H'→te (some x::slots σ js) H' fun y H5=>H5 D=some (.lst ys)∧∀ H6,H6 D=some (.lst (ys++[y]))→SameBut D H5 H6→Pv D (i+1) (ys++[y]) H6)
    (hd:∀ D ys H',ys.length=n→H D=none→H' D=some (.lst ys)→Pv D n ys H'→Q (.ref D) H') :
    CompB J σ js tYes te H Q:=by
  unfold CompB
  intro D hD
  refine ⟨fun i m ys H'=>m=n - i∧i≤n∧ys.length=i∧H' D=some (.lst ys)∧Pv D i ys H',⟨n,by simp,Nat.zero_le _,rfl,upd_same,h0 D _ hD upd_same (Same.upd hD)⟩,?_⟩
  rintro i m ys H2 ⟨rfl,hi,hy,hD2,p⟩
  refine ⟨hD2,?_⟩
  by_cases hlt:i<n
  · obtain ⟨g1,g2⟩:=hg D i ys H2 hlt hD2 p
    refine .inr ⟨g1,Nat.lt_of_le_of_lt (m:=100000) (by omega) (by decide),fun x H3 hy3=>?_⟩
    obtain ⟨rfl,hx⟩:=g2 x H3 hy3
    refine ⟨fun b H4=>b=true∧H4=H3,⟨rfl,rfl⟩,?_⟩
    rintro b H4 ⟨rfl,rfl⟩
    rw [if_pos rfl]
    refine ⟨_,hs D i x ys H4 hx hlt hy hD2 p,?_⟩
    rintro v H5 ⟨hD5,k⟩
    exact ⟨hD5,n - (i+1),by omega,rfl,hlt,by rw [List.length_append,hy]; rfl,upd_same,k _ upd_same SameBut.self⟩
  · have e:i=n:=by omega
    subst e
    exact .inl ⟨hst D ys H2 hD2 p,hd D ys H2 hy hD hD2 p⟩
end
@[irreducible] def rSum (K:PySem.W.Frag):List V→Hp→VK→Prop:=fun xs H Q=>∃ (p:Addr) (ns:List Int),xs=[.ref p]∧SqL K H p (ns.map V.int)∧Q (.int ns.sum) H
@[irreducible] def rEqD (b:Bool):R2:=fun x y H Q=>∃ d d',Rep H d x∧Rep H d' y∧SeqAt.shaped d=true∧SeqAt.shaped d'=true∧Q (.bl (b == PyData.eqv d d')) H
section
variable {X:Cx}
theorem cl_sum (hc:X.calm=true):CallR X (.builtin "sum") (rSum X.K):=by
  unfold rSum
  intro pins s σ H xs us Q I r h
  obtain ⟨p,ns,rfl,hq,q⟩:=h
  obtain ⟨u,rfl,rx⟩:=vals1 r
  cases rx
  obtain ⟨its,r',pl,hz⟩:=I.list hq
  have hi:=intsAre_of r'
  obtain ⟨xs',e⟩:=hi.allInts.items
  rw [e] at pl
  refine sum_intListG (I.ok.hd hc) pl.isList fun h' tk t' hk=>⟨.int ns.sum,H,I.kept hk,⟨t',?_⟩,q⟩
  rw [preSum_eq,List.take_of_length_le (by simp)]
  rw [← hi.numsOf]
  have e2:its=(intItems xs').toList:=by rw [← e]
  rw [e2,nums_intItems]
theorem rsI {K:PySem.W.Frag} {H:Hp} {p:Addr} {ns:List Int} {Q:VK} (h:SqL K H p (ns.map V.int)) (q:Q (.int ns.sum) H):rSum K [.ref p] H Q:=by unfold rSum; exact ⟨p,ns,rfl,h,q⟩
theorem op_eqD (hu:X.A.units+64<cLine):OpR X (compareOp .Eq) (rEqD true):=by
  unfold rEqD
  intro pins s σ H x y v u Q I rx ry h
  obtain ⟨d,d',h1,h2,s1,s2,q⟩:=h
  obtain ⟨as,ra⟩:=h1.reads I rx
  obtain ⟨bs,rb⟩:=h2.reads I ry
  exact SeqAt.compareEq_shaped ra rb s1 s2 hu ⟨.bl _,H,I,by show _=_; simp,q⟩
theorem op_neD (hu:X.A.units+64<cLine):OpR X (compareOp .NotEq) (rEqD false):=by
  unfold rEqD
  intro pins s σ H x y v u Q I rx ry h
  obtain ⟨d,d',h1,h2,s1,s2,q⟩:=h
  obtain ⟨as,ra⟩:=h1.reads I rx
  obtain ⟨bs,rb⟩:=h2.reads I ry
  exact SeqAt.compareNe_shaped ra rb s1 s2 hu ⟨.bl _,H,I,by show _=_; simp,q⟩
theorem reD {b:Bool} {x y:V} {d d':PyData} {H:Hp} {Q:VK} (h1:Rep H d x) (h2:Rep H d' y) (s1:SeqAt.shaped d=true) (s2:SeqAt.shaped d'=true) (q:Q (.bl (b == PyData.eqv d d')) H):rEqD b x y H Q:=by
  unfold rEqD; exact ⟨d,d',h1,h2,s1,s2,q⟩
end
mutual
theorem eqv_refl:∀ d:PyData,d.hasDict=false→PyData.eqv d d=true
  | .none,_=>by simp [PyData.eqv]
  | .bool _,_=>by simp [PyData.eqv]
  | .int _,_=>by simp [PyData.eqv]
  | .str _,_=>by simp [PyData.eqv]
  | .list xs,h=>by simp only [PyData.eqv]; exact eqvAll_refl xs (by simpa [PyData.hasDict] using h)
  | .tuple xs,h=>by simp only [PyData.eqv]; exact eqvAll_refl xs (by simpa [PyData.hasDict] using h)
  | .dict _,h=>by simp [PyData.hasDict] at h
theorem eqvAll_refl:∀ ds:List PyData,PyData.hasDictAll ds=false→PyData.eqvAll ds ds=true
  | [],_=>by simp [PyData.eqvAll]
  | d::ds,h=>by
    simp only [PyData.hasDictAll,Bool.or_eq_false_iff] at h
    simp only [PyData.eqvAll,eqv_refl d h.1,eqvAll_refl ds h.2,Bool.and_self]
end
mutual
def flatD:PyData→Bool
  | .list _=>false
  | .dict _=>false
  | .tuple ds=>flatDs ds
  | _=>true
def flatDs:List PyData→Bool
  | []=>true
  | d::ds=>flatD d&&flatDs ds
end
def SameT (H H':Hp):Prop:=∀ b xs,H b=some (.tup xs)→H' b=some (.tup xs)
theorem SameT.trans {H H1 H2:Hp} (a:SameT H H1) (b:SameT H1 H2):SameT H H2:=fun c o h=>b c o (a c o h)
theorem Same.t {H H':Hp} (s:Same H H'):SameT H H':=fun b xs h=>s _ _ h
theorem SameBut.t {H H':Hp} {p:Addr} (s:SameBut p H H') {xs:List V} (hp:H p=some (.lst xs)):SameT H H':=fun b ys h=>s.at (ne_of h hp (by intro z; cases z)) h
mutual
theorem Rep.flat {H H':Hp} (s:SameT H H'):∀ {d:PyData} {v:V},flatD d=true→Rep H d v→Rep H' d v
  | .none,_,_,h=>h
  | .bool _,_,_,h=>h
  | .int _,_,_,h=>h
  | .str _,_,_,h=>h
  | .list _,_,f,_=>by simp [flatD] at f
  | .dict _,_,f,_=>by simp [flatD] at f
  | .tuple ds,_,f,h=>by
    unfold Rep at h ⊢
    obtain ⟨a,ys,rfl,h1,h2⟩:=h
    exact ⟨a,ys,rfl,s _ _ h1,RepL.flat s (by simpa [flatD] using f) h2⟩
theorem RepL.flat {H H':Hp} (s:SameT H H'):∀ {ds:List PyData} {vs:List V},flatDs ds=true→RepL H ds vs→RepL H' ds vs
  | [],_,_,h=>h
  | d::ds,_,f,h=>by
    unfold RepL at h ⊢
    obtain ⟨x,ys,rfl,h1,h2⟩:=h
    simp only [flatDs,Bool.and_eq_true] at f
    exact ⟨x,ys,rfl,Rep.flat s f.1 h1,RepL.flat s f.2 h2⟩
end
theorem RepL.get {H:Hp}:∀ {ds:List PyData} {vs:List V} {i:Nat} {v:V},RepL H ds vs→vs[i]?=some v→∃ d,ds[i]?=some d∧Rep H d v
  | [],_,i,v,h,e=>by cases (show _=[] from h); simp at e
  | d::ds,_,i,v,h,e=>by
    unfold RepL at h
    obtain ⟨x,ys,rfl,h1,h2⟩:=h
    cases i with
    | zero=>simp at e; subst e; exact ⟨d,rfl,h1⟩
    | succ i =>
      rw [List.getElem?_cons_succ] at e ⊢
      exact RepL.get h2 e
theorem RepL.get' {H:Hp}:∀ {ds:List PyData} {vs:List V} {i:Nat} {d:PyData},RepL H ds vs→ds[i]?=some d→∃ v,vs[i]?=some v∧Rep H d v
  | [],_,i,d,h,e=>by simp at e
  | d' :: ds,_,i,d,h,e=>by
    unfold RepL at h
    obtain ⟨x,ys,rfl,h1,h2⟩:=h
    cases i with
    | zero=>simp at e; subst e; exact ⟨x,rfl,h1⟩
    | succ i =>
      rw [List.getElem?_cons_succ] at e ⊢
      exact RepL.get' h2 e
theorem RepL.snoc {H:Hp} {ds:List PyData} {vs:List V} {d:PyData} {v:V} (h:RepL H ds vs) (r:Rep H d v):RepL H (ds++[d]) (vs++[v]):=RepL.append (RepL.cons r RepL.nil) h
theorem bitsOf {i:Int} {n:Nat} (h:i.natAbs<2^n):bits i≤n:=PySem.intBits_le_iff.mpr h
mutual
def shW:PyData→Nat
  | .none=>4
  | .bool _=>5
  | .int _=>1921
  | .str x=>(reprText x).length
  | .list xs=>shWs xs+4
  | .tuple xs=>shWs xs+4
  | .dict _=>0
def shWs:List PyData→Nat
  | []=>0
  | x::xs=>shW x+2+shWs xs
end
theorem textFrom_le:∀ (ts:List Str) (k:Nat) (acc:Str),(textFrom k acc ts).length≤acc.length+piled ts
  | [],k,acc=>by show acc.length≤_; omega
  | t::r,k,acc=>by
    have h:=textFrom_le r (k+1) (acc++(if k > 0 then ", " else "" : String)++t)
    have e:(acc++(if k > 0 then ", " else "" : String)++t).length=acc.length+(if k > 0 then 2 else 0)+t.length:=by
      rw [strLen_append,strLen_append]
      split <;> rfl
    rw [e] at h
    rw [piled_cons]
    show (textFrom (k+1) _ r).length≤_
    refine Nat.le_trans h ?_
    split <;> omega
theorem tupleText_le (ts:List Str):(tupleText ts).length≤piled ts+4:=by
  unfold tupleText
  rw [strLen_append,strLen_append]
  have e1:(("(" : Str)).length=1:=rfl
  have e2:((if ts.length == 1 then ",)" else ")" : String):Str).length≤2:=by split <;> decide
  rw [e1]
  by_cases h:ts=[]
  · subst h; have:(Str.join ", " []).length=0:=rfl
    omega
  · have:=join_length_add ts h
    omega
theorem listText_le (ts:List Str):(listText ts).length≤piled ts+4:=by
  unfold listText
  rw [strLen_append]
  have:=textFrom_le ts 0 "["
  have e1:(("[" : String):Str).length=1:=rfl
  have e2:(("]" : String):Str).length=1:=rfl
  rw [e1] at this
  rw [e2]
  omega
mutual
theorem shown_le:∀ d:PyData,d.showable=true→d.hasDict=false→d.shown.length≤shW d
  | .none,_,_=>by simp only [PyData.shown,shW]; decide
  | .bool b,_,_=>by cases b <;> (simp only [PyData.shown,shW]; decide)
  | .int i,h,_=>by
    simp only [PyData.shown,shW]
    exact int_text_len_1921 (by simpa [PyData.showable] using h)
  | .str x,_,_=>by simp only [PyData.shown,shW]; exact Nat.le_refl _
  | .list xs,h,h2=>by
    simp only [PyData.shown,shW]
    have:=shownAll_le xs (by simpa [PyData.showable] using h) (by simpa [PyData.hasDict] using h2)
    have:=listText_le (PyData.shownAll xs)
    omega
  | .tuple xs,h,h2=>by
    simp only [PyData.shown,shW]
    have:=shownAll_le xs (by simpa [PyData.showable] using h) (by simpa [PyData.hasDict] using h2)
    have:=tupleText_le (PyData.shownAll xs)
    omega
  | .dict _,_,h=>by simp [PyData.hasDict] at h
theorem shownAll_le:∀ ds:List PyData,PyData.showableAll ds=true→PyData.hasDictAll ds=false→piled (PyData.shownAll ds)≤shWs ds
  | [],_,_=>by simp only [PyData.shownAll,shWs]; exact Nat.le_refl _
  | d::ds,h,h2=>by
    simp only [PyData.showableAll,Bool.and_eq_true] at h
    simp only [PyData.hasDictAll,Bool.or_eq_false_iff] at h2
    have:=shown_le d h.1 h2.1
    have:=shownAll_le ds h.2 h2.2
    simp only [PyData.shownAll,shWs,piled_cons]
    omega
end
theorem showInt {i:Int} {n:Nat} (h:i.natAbs<2^n) (hn:n≤1920:=by decide):PyData.showable (.int i)=true:=by
  simp only [PyData.showable]
  refine decide_eq_true (log_of_bits (Nat.le_trans (bitsOf h) hn) (by decide))
section
variable {X:Cx} (K:PySem.W.Frag)
theorem ix_seqK (h:X.K=K:=by rfl):IxR X (rIx K):=by subst h; exact ix_seq
theorem cl_lenK (h:X.K=K:=by rfl):CallR X (.builtin "len") (rLen K):=by subst h; exact cl_len
theorem cl_sumK (hc:X.calm=true) (h:X.K=K:=by rfl):CallR X (.builtin "sum") (rSum K):=by subst h; exact cl_sum hc
end
end L2
set_option Elab.async false
set_option linter.all false
set_option maxRecDepth 100000
namespace L2
open PySem
section
variable {prog:Program} {w:World} {A:Around} {E:Value→Shared→Prop} {s:Shared}
end
end L2
set_option Elab.async false
set_option linter.all false
set_option maxRecDepth 100000
namespace L2
open PySem PySem.Spec PyProof.Rows
section
variable {X:Cx} {pins:List (Addr × Obj)} {σ:St} {H:Hp} {s:Shared} {h':Heap}
end
section
variable {prog:Program} {w:World} {A:Around} {E:Value→Shared→Prop} {s:Shared}
end
section
variable {X:Cx}
end
end L2
set_option Elab.async false
set_option linter.all false
set_option maxRecDepth 100000
namespace L2
open PySem
theorem SqT.keep {K:PySem.W.Frag} {H H':Hp} {a:Addr} {xs:List V} (s:Same H H') (h:SqT K H a xs):SqT K H' a xs:=by
  rcases h with (h | ⟨o,h⟩) | h
  · exact .inl (.inl (s _ _ h))
  · exact .inl (.inr ⟨o,s _ _ h⟩)
  · exact .inr h
mutual
def RepK (K:PySem.W.Frag) (H:Hp):PyData→V→Prop
  | .none,v=>v=.non
  | .bool b,v=>v=.bl b
  | .int i,v=>v=.int i
  | .str x,v=>v=.str x
  | .list ds,v=>∃ a xs,v=.ref a∧H a=some (.lst xs)∧RepKL K H ds xs
  | .tuple ds,v=>∃ a xs,v=.ref a∧SqT K H a xs∧RepKL K H ds xs
  | .dict kvs,v=>kvs=[]∧∃ a,v=.ref a∧H a=some (.dK [])
def RepKL (K:PySem.W.Frag) (H:Hp):List PyData→List V→Prop
  | [],vs=>vs=[]
  | d::ds,vs=>∃ x xs,vs=x::xs∧RepK K H d x∧RepKL K H ds xs
end
mutual
theorem Rep.k {K:PySem.W.Frag} {H:Hp}:∀ {d:PyData} {v:V},Rep H d v→RepK K H d v
  | .none,_,h=>h
  | .bool _,_,h=>h
  | .int _,_,h=>h
  | .str _,_,h=>h
  | .list ds,_,h=>by
    unfold Rep at h; unfold RepK
    obtain ⟨a,xs,rfl,h1,h2⟩:=h
    exact ⟨a,xs,rfl,h1,RepL.k h2⟩
  | .tuple ds,_,h=>by
    unfold Rep at h; unfold RepK
    obtain ⟨a,xs,rfl,h1,h2⟩:=h
    exact ⟨a,xs,rfl,SqT.of h1,RepL.k h2⟩
  | .dict kvs,_,h=>by unfold Rep at h; unfold RepK; exact h
theorem RepL.k {K:PySem.W.Frag} {H:Hp}:∀ {ds:List PyData} {vs:List V},RepL H ds vs→RepKL K H ds vs
  | [],_,h=>h
  | d::ds,_,h=>by
    unfold RepL at h; unfold RepKL
    obtain ⟨x,xs,rfl,h1,h2⟩:=h
    exact ⟨x,xs,rfl,Rep.k h1,RepL.k h2⟩
end
section
variable {X:Cx} {pins:List (Addr × Obj)} {σ:St} {H:Hp} {s:Shared}
mutual
theorem RepK.reads (I:Inv X pins σ H s):∀ {d:PyData} {v:V} {u:Value},RepK X.K H d v→RelV v u→∃ as,Reads s.heap u d as
  | .none,_,u,h,r=>by
    cases (show _=V.non from h); cases (show u=Value.none from r); exact ⟨_,.none⟩
  | .bool b,_,u,h,r=>by
    cases (show _=V.bl b from h); cases (show u=Value.bool b from r); exact ⟨_,.bool b⟩
  | .int b,_,u,h,r=>by
    cases (show _=V.int b from h); obtain ⟨t,q⟩:=(show ∃ t,u=Value.int b t from r); cases q; exact ⟨_,.int b t⟩
  | .str b,_,u,h,r=>by
    cases (show _=V.str b from h); obtain ⟨t,q⟩:=(show ∃ t,u=Value.str b t from r); cases q; exact ⟨_,.str b t⟩
  | .list ds,v,u,h,r=>by
    unfold RepK at h
    obtain ⟨a,xs,rfl,h1,h2⟩:=h
    cases (show u=Value.ref a from r)
    obtain ⟨_,its,n,r',e⟩:=(show ObjOk X.prog X.w H s.heap a (.lst xs) from I.hok a _ h1)
    obtain ⟨as,q⟩:=RepKL.reads I h2 r'
    exact ⟨_,.list e rfl rfl (by simpa using q)⟩
  | .tuple ds,v,u,h,r=>by
    unfold RepK at h
    obtain ⟨a,xs,rfl,h1,h2⟩:=h
    cases (show u=Value.ref a from r)
    obtain ⟨its,r',⟨o,e,hc,n,hd⟩,_⟩:=I.tuple h1
    obtain ⟨as,q⟩:=RepKL.reads I h2 r'
    exact ⟨_,.tuple e hc hd (by simpa using q)⟩
  | .dict kvs,v,u,h,r=>Rep.reads I (d:=.dict kvs) (by unfold Rep; unfold RepK at h; exact h) r
theorem RepKL.reads (I:Inv X pins σ H s):∀ {ds:List PyData} {vs:List V} {us:List Value},RepKL X.K H ds vs→Vals vs us→∃ as,ReadsAll s.heap us ds as
  | [],_,us,h,r=>by
    cases (show _=[] from h); cases r; exact ⟨_,.nil⟩
  | d::ds,_,us,h,r=>by
    unfold RepKL at h
    obtain ⟨x,xs,rfl,h1,h2⟩:=h
    cases r with
    | cons r1 r2 =>
      obtain ⟨as,q1⟩:=RepK.reads I h1 r1
      obtain ⟨bs,q2⟩:=RepKL.reads I h2 r2
      exact ⟨_,.cons q1 q2⟩
end
end
section
variable {X:Cx}
end
section
variable {K:PySem.W.Frag} {H:Hp} {p:Addr} {xs:List V} {i:Int} {v:V} {Q:VK}
theorem rlK (h:SqT K H p xs) (q:Q (.int xs.length) H):rLen K [V.ref p] H Q:=by unfold rLen; exact ⟨_,_,rfl,.inr ⟨xs,h,rfl⟩,q⟩
end
theorem cutV_lo (xs:List V) (k:Nat):cutV xs (some (k:Int)) none=xs.drop k:=by
  unfold cutV
  rw [HT.sIx_nat,HT.sIx_none]
  by_cases h:k≤xs.length
  · rw [Nat.min_eq_left h]
    exact List.take_of_length_le (by rw [List.length_drop]; exact Nat.le_refl _)
  · rw [Nat.min_eq_right (by omega),List.drop_of_length_le (Nat.le_refl _),List.drop_of_length_le (by omega),List.take_nil]
theorem cutV_hi (xs:List V) (k:Nat):cutV xs none (some (k:Int))=xs.take k:=by
  unfold cutV
  rw [HT.sIx_nat,HT.sIx_none,List.drop_zero,Nat.sub_zero]
  by_cases h:k≤xs.length
  · rw [Nat.min_eq_left h]
  · rw [Nat.min_eq_right (by omega),List.take_of_length_le (Nat.le_refl _),List.take_of_length_le (by omega)]
end L2
set_option Elab.async false
set_option linter.all false
set_option maxRecDepth 100000
namespace L2
open PySem
section
variable {σ:St} {js:List Nat} {te:TE} {H:Hp} {Q:VK}
theorem snoc_all {R:Nat→V→Prop} {ys:List V} {y:V} (h:∀ (j:Nat) z,ys[j]?=some z→R j z) (r:R ys.length y):∀ (j:Nat) z,(ys++[y])[j]?=some z→R j z:=fun j z hj=>by
  by_cases hji:j<ys.length
  · rw [List.getElem?_append_left hji] at hj; exact h j z hj
  · rw [List.getElem?_append_right (by omega)] at hj
    have:j - ys.length=0:=by
      by_cases q:j - ys.length=0
      · exact q
      · rw [List.getElem?_eq_none (by simp; omega)] at hj; cases hj
    rw [this] at hj
    have hj':y=z:=by simpa using hj
    have:j=ys.length:=by omega
    subst this hj'
    exact r
theorem comp_mapT {J:It} {n:Nat} (src:Nat→V→Prop) (R:Nat→V→Hp→Prop) (hR:∀ i y H1 H2,SameT H1 H2→R i y H1→R i y H2) (hz:n≤100000)
    (hg:∀ i H',Same H H'→i<n→J.go i H'∧∀ x H3,J.yld i H' x H3→H3=H'∧src i x) (hst:∀ H',Same H H'→J.stop n H')
    (hs:∀ i x H' (Q':VK),src i x→i<n→Same H H'→(∀ y H5,Same H' H5→R i y H5→Q' y H5)→te (some x::slots σ js) H' Q')
    (hd:∀ D ys H',H D=none→H' D=some (.lst ys)→Same H H'→ys.length=n→(∀ (i:Nat) (y:V),ys[i]?=some y→R i y H')→Q (.ref D) H'):CompB J σ js tYes te H Q:=by
  refine comp_any (J:=J) (n:=n) src hz (fun D i ys H'=>H D=none∧Same H H'∧∀ (i:Nat) (y:V),ys[i]?=some y→R i y H') (fun D H1 hD _ s=>⟨hD,s,fun i y h=>by simp at h⟩)
    (fun D i ys H' hi _ p=>hg i H' p.2.1 hi) (fun D ys H' _ p=>hst H' p.2.1) (fun D i x ys H' hx hi hy hD p=>?_) (fun D ys H' hy hD hD' p=>hd D ys H' hD hD' p.2.1 hy p.2.2)
  refine hs i x H' _ hx hi p.2.1 fun y H5 s5 r=>?_
  refine ⟨s5 _ _ hD,fun H6 hD6 s6=>⟨p.1,Same.thru p.1 (p.2.1.trans s5) s6,?_⟩⟩
  have t6:=s6.t (s5 _ _ hD)
  exact snoc_all (R:=fun j z=>R j z H6) (fun j z hj=>hR j z _ _ (s5.t.trans t6) (p.2.2 j z hj)) (by rw [hy]; exact hR i y _ _ t6 r)
theorem comp_mapL {K:PySem.W.Frag} {a:Addr} {xs:List V} (R:Nat→V→Hp→Prop) (hR:∀ i y H1 H2,SameT H1 H2→R i y H1→R i y H2) (hz:xs.length≤100000) (hl:H a=some (.lst xs))
    (hs:∀ i x H' (Q':VK),xs[i]?=some x→Same H H'→(∀ y H5,Same H' H5→R i y H5→Q' y H5)→te (some x::slots σ js) H' Q')
    (hd:∀ D ys H',H D=none→H' D=some (.lst ys)→Same H H'→ys.length=xs.length→(∀ (i:Nat) (y:V),ys[i]?=some y→R i y H')→Q (.ref D) H'):CompB (Itl K a) σ js tYes te H Q :=
  comp_mapT (fun i x=>xs[i]?=some x) R hR hz (fun i H' s hi=>⟨⟨xs,xs[i],SqL.of (s _ _ hl),by simp [hi]⟩,fun x H3 y=>⟨y.1,y.2 xs (SqL.of (s _ _ hl))⟩⟩) (fun H' s=>⟨xs,SqL.of (s _ _ hl),Nat.le_refl _⟩)
    (fun i x H' Q' hx _ s k=>hs i x H' Q' hx s k) hd
theorem comp_mapU {K:PySem.W.Frag} {a:Addr} {xs:List V} (R:Nat→V→Hp→Prop) (hR:∀ i y H1 H2,SameT H1 H2→R i y H1→R i y H2) (hz:xs.length≤100000) (hl:H a=some (.tup xs))
    (hs:∀ i x H' (Q':VK),xs[i]?=some x→Same H H'→(∀ y H5,Same H' H5→R i y H5→Q' y H5)→te (some x::slots σ js) H' Q')
    (hd:∀ D ys H',H D=none→H' D=some (.lst ys)→Same H H'→ys.length=xs.length→(∀ (i:Nat) (y:V),ys[i]?=some y→R i y H')→Q (.ref D) H'):CompB (Itt K a) σ js tYes te H Q :=
  comp_mapT (fun i x=>xs[i]?=some x) R hR hz (fun i H' s hi=>⟨⟨xs,xs[i],SqT.of (s _ _ hl),by simp [hi]⟩,fun x H3 y=>⟨y.1,y.2 xs (SqT.of (s _ _ hl))⟩⟩) (fun H' s=>⟨xs,SqT.of (s _ _ hl),Nat.le_refl _⟩)
    (fun i x H' Q' hx _ s k=>hs i x H' Q' hx s k) hd
theorem comp_mapR {lo:Int} {n:Nat} (R:Nat→V→Hp→Prop) (hR:∀ i y H1 H2,SameT H1 H2→R i y H1→R i y H2) (hz:n≤100000)
    (hs:∀ i H' (Q':VK),i<n→Same H H'→(∀ y H5,Same H' H5→R i y H5→Q' y H5)→te (some (.int (lo+(i:Nat)))::slots σ js) H' Q')
    (hd:∀ D ys H',H D=none→H' D=some (.lst ys)→Same H H'→ys.length=n→(∀ (i:Nat) (y:V),ys[i]?=some y→R i y H')→Q (.ref D) H'):CompB (Itr lo n) σ js tYes te H Q :=
  comp_mapT (fun i x=>x=.int (lo+(i:Nat))) R hR hz (fun i H' s hi=>⟨hi,fun x H3 y=>y⟩) (fun H' s=>Nat.le_refl _)
    (fun i x H' Q' hx hi s k=>by subst hx; exact hs i H' Q' hi s k) hd
theorem SameBut.thru {p l:Addr} {H0 H1 H2:Hp} (hl:H0 l=none) (s:SameBut p H0 H1) (b:SameBut l H1 H2):SameBut p H0 H2:=fun c o e=>by
  have n:=Hide.ne e
  have e0:H0 c=some o:=by rw [Hide.at n] at e; exact e
  have nl:c≠l:=fun z=>by subst z; rw [hl] at e0; cases e0
  exact Hide.of n (b.at nl (s.at n e0))
end
theorem RepL.ofIdx {H:Hp}:∀ {ds:List PyData} {ys:List V},ys.length=ds.length→(∀ (i:Nat) (y:V),ys[i]?=some y→∃ d,ds[i]?=some d∧Rep H d y)→RepL H ds ys
  | [],[],_,_=>RepL.nil
  | d::ds,y::ys,hl,h=>by
    obtain ⟨d',e,r⟩:=h 0 y rfl
    cases (show d=d' by simpa using e)
    exact RepL.cons r (RepL.ofIdx (by simpa using hl) fun i z hz=>by simpa using h (i+1) z (by simpa using hz))
  | [],_::_,hl,_=>by simp at hl
  | _::_,[],hl,_=>by simp at hl
theorem ints_of {P:Nat→Int→Prop}:∀ {ys:List V},(∀ (i:Nat) (y:V),ys[i]?=some y→∃ n,y=.int n∧P i n)→∃ ns:List Int,ys=ns.map V.int∧∀ (i:Nat) n,ns[i]?=some n→P i n
  | [],_=>⟨[],rfl,fun i n h=>by simp at h⟩
  | y::ys,h=>by
    obtain ⟨n,rfl,hn⟩:=h 0 y rfl
    obtain ⟨ns,rfl,hs⟩:=ints_of (P:=fun i=>P (i+1)) (ys:=ys) fun i z hz=>h (i+1) z (by simpa using hz)
    refine ⟨n::ns,rfl,fun i m hm=>?_⟩
    cases i with
    | zero=>cases (show n=m by simpa using hm); exact hn
    | succ i=>exact hs i m (by simpa using hm)
end L2
set_option Elab.async false
set_option linter.all false
set_option maxRecDepth 100000
namespace L2
open PySem PySem.Spec PyProof.Rows
theorem Room.u1 {k:Nat} {A:Around} (r:Room k A):A.units+1<cLine:=by have:=r.units; omega
@[irreducible] def rDG:R2:=fun x y H Q=>∃ a v,x=.ref a∧DGet H a y (some v)∧Q v H
@[irreducible] def rDP (D:Ends) (σ:St) (x y v:V) (H:Hp):Prop:=∃ a H4,x=.ref a∧DPut H a y v H4∧D.nx σ H4
def tDPut (td ty tv:TE):TS:=fun D σ H=>tv σ H fun v H1=>td σ H1 fun x H2=>ty σ H2 fun y H3=>rDP D σ x y v H3
structure PPsw (X:Cx) (pos:Pos) (keys:List (Option Expr)) (values:List Expr) (trs:List (TE × TE)):Prop where p:PPs X pos keys values trs
section
variable {X:Cx} {o i value k v:Expr} {td ty tv tk:TE} {pos pos':Pos} {ks:List (Option Expr)} {vs:List Expr} {trs:List (TE × TE)}
theorem we_dget (hu:X.A.units+1<cLine) (ho:PEw X o td) (hi:PEw X i ty) (hs:NoSl i:=by intro _ _; rfl):PEw X (.Subscript o i pos) (tOp rDG td ty):=⟨by unfold rDG; exact pe_dget hu ho.p hi.p hs⟩
theorem ws_dput (hu:X.A.units+1<cLine) (ho:PEw X o td) (hi:PEw X i ty) (hv:PEw X value tv) (hs:swapsWith value (some (.Subscript o i pos')) pos.line X.env=pure false:=by rfl) :
    PSw X (.Assign [.Subscript o i pos'] value pos) (tDPut td ty tv):=⟨by unfold tDPut rDP; exact ps_dput hu ho.p hi.p hv.p hs⟩
theorem wpp_nil:PPsw X pos [] [] []:=⟨pps_nil⟩
theorem wpp_cons (hk:PEw X k tk) (hv:PEw X v tv) (hr:PPsw X pos ks vs trs):PPsw X pos (some k::ks) (v::vs) ((tk,tv)::trs):=⟨pps_cons hk.p hv.p hr.p⟩
theorem we_disp (h:PPsw X pos ks vs trs) (hall:ks.all (·.isSome)=true:=by rfl) (hl:ks.length=vs.length:=by rfl) (h0:ks≠[]:=by intro h; cases h) (h15:ks.length≤15:=by decide):PEw X (.Dict ks vs pos) (tDisp trs):=⟨pe_disp h.p hall hl h0 h15⟩
end
theorem dgS {H:Hp} {p:Addr} {kvs:List (Key × V)} {x:Str} {v:V} {Q:VK} (e:H p=some (.dK kvs)) (hv:valV kvs (.inr x)=some v) (q:Q v H):rDG (.ref p) (.str x) H Q:=by
  unfold rDG; exact ⟨p,v,rfl,hv ▸ DGet.k (k:=.inr x) e,q⟩
theorem dpS {H:Hp} {p:Addr} {kvs kvs2:List (Key × V)} {x:Str} {v:V} {D:Ends} {σ:St} (e:H p=some (.dK kvs)) (hl:kvs.length≤64) (hk:putK kvs (.inr x) v=kvs2) (q:∀ H',H' p=some (.dK kvs2)→SameBut p H H'→D.nx σ H') :
    rDP D σ (.ref p) (.str x) v H:=by
  unfold rDP
  exact ⟨p,_,rfl,DPut.k (k:=.inr x) e (Nat.lt_of_le_of_lt hl (by decide)),q _ (by rw [hk]; exact upd_same) SameBut.self⟩
theorem SameBut.tD {H H':Hp} {p:Addr} (s:SameBut p H H') {xs:List (Key × V)} (hp:H p=some (.dK xs)):SameT H H':=fun b ys h=>s.at (ne_of h hp (by intro z; cases z)) h
structure TapeLike (p:Addr) (Fd:Nat→Hp→Prop):Prop where
  but:∀ n D H1 H2,D≠p→SameBut D H1 H2→Fd n H1→Fd n H2
  same:∀ n H1 H2,Same H1 H2→Fd n H1→Fd n H2
  dic:∀ n H',Fd n H'→∃ xs,H' p=some (.dK xs)
section
variable {σ:St} {js:List Nat} {te:TE} {H:Hp} {Q:VK}
theorem TapeLike.np {p:Addr} {Fd:Nat→Hp→Prop} (fl:TapeLike p Fd) {n:Nat} {H':Hp} {D:Addr} (F:Fd n H') (h:H' D=none):D≠p:=fun e=>by
  obtain ⟨xs,hp⟩:=fl.dic n H' F
  subst e; rw [hp] at h; cases h
theorem comp_tp {J:It} {n:Nat} {p:Addr} {Fd:Nat→Hp→Prop} (fl:TapeLike p Fd) (F0:Fd 0 H) (src:Nat→V→Prop) (R:Nat→V→Hp→Prop) (hR:∀ i y H1 H2,SameT H1 H2→R i y H1→R i y H2) (hz:n≤100000)
    (hg:∀ i H',SameBut p H H'→i<n→J.go i H'∧∀ x H3,J.yld i H' x H3→H3=H'∧src i x) (hst:∀ H',SameBut p H H'→J.stop n H')
    (hs:∀ i x H' (Q':VK),src i x→i<n→Fd i H'→SameBut p H H'→(∀ y H5,Fd (i+1) H5→SameBut p H' H5→R i y H5→Q' y H5)→te (some x::slots σ js) H' Q')
    (hd:∀ D ys H',H D=none→H' D=some (.lst ys)→Fd n H'→SameBut p H H'→ys.length=n→(∀ (i:Nat) (y:V),ys[i]?=some y→R i y H')→Q (.ref D) H'):CompB J σ js tYes te H Q:=by
  refine comp_any (J:=J) (n:=n) src hz (fun D i ys H'=>H D=none∧Fd i H'∧SameBut p H H'∧∀ (i:Nat) (y:V),ys[i]?=some y→R i y H') (fun D H1 hD _ s=>⟨hD,fl.same _ _ _ s F0,s.but,fun i y h=>by simp at h⟩)
    (fun D i ys H' hi _ q=>hg i H' q.2.2.1 hi) (fun D ys H' _ q=>hst H' q.2.2.1) (fun D i x ys H' hx hi hy hD q=>?_) (fun D ys H' hy hD hD' q=>hd D ys H' hD hD' q.2.1 q.2.2.1 hy q.2.2.2)
  have np:=fl.np F0 q.1
  refine hs i x H' _ hx hi q.2.1 q.2.2.1 fun y H5 F5 s5 r=>?_
  obtain ⟨xs,hp⟩:=fl.dic _ H' q.2.1
  have hD5:=s5.at np hD
  refine ⟨hD5,fun H6 hD6 s6=>⟨q.1,fl.but _ D _ _ np s6 F5,SameBut.thru q.1 (q.2.2.1.trans s5) s6,?_⟩⟩
  have t6:=s6.t hD5
  exact snoc_all (R:=fun j z=>R j z H6) (fun j z hj=>hR j z _ _ ((s5.tD hp).trans t6) (q.2.2.2 j z hj)) (by rw [hy]; exact hR i y _ _ t6 r)
theorem comp_tpR {lo:Int} {n:Nat} {p:Addr} {Fd:Nat→Hp→Prop} (fl:TapeLike p Fd) (F0:Fd 0 H) (R:Nat→V→Hp→Prop) (hR:∀ i y H1 H2,SameT H1 H2→R i y H1→R i y H2) (hz:n≤100000)
    (hs:∀ i H' (Q':VK),i<n→Fd i H'→SameBut p H H'→(∀ y H5,Fd (i+1) H5→SameBut p H' H5→R i y H5→Q' y H5)→te (some (.int (lo+(i:Nat)))::slots σ js) H' Q')
    (hd:∀ D ys H',H D=none→H' D=some (.lst ys)→Fd n H'→SameBut p H H'→ys.length=n→(∀ (i:Nat) (y:V),ys[i]?=some y→R i y H')→Q (.ref D) H'):CompB (Itr lo n) σ js tYes te H Q :=
  comp_tp fl F0 (fun i x=>x=.int (lo+(i:Nat))) R hR hz (fun i H' s hi=>⟨hi,fun x H3 y=>y⟩) (fun H' s=>Nat.le_refl _)
    (fun i x H' Q' hx hi f s k=>by subst hx; exact hs i H' Q' hi f s k) hd
end
end L2
set_option Elab.async false
set_option linter.all false
set_option maxRecDepth 100000
namespace L2
open PySem PySem.Spec PyProof.Rows
section
variable {X:Cx}
@[irreducible] def rCatU (K:PySem.W.Frag):R2:=fun x y H Q=>∃ a b xs ys,x=.ref a∧y=.ref b∧H a=some (.tup xs)∧H b=some (.tup ys)∧xs.length+ys.length≤1000∧∀ c H',Same H H'→H' c=some (.tup (xs++ys))→Q (.ref c) H'
theorem catU {K:PySem.W.Frag} {H:Hp} {Q:VK} {a b:Addr} {xs ys:List V} (h1:H a=some (.tup xs)) (h2:H b=some (.tup ys)) (hz:xs.length+ys.length≤1000) (k:∀ c H',Same H H'→H' c=some (.tup (xs++ys))→Q (.ref c) H'):rCatU K (.ref a) (.ref b) H Q:=by
  unfold rCatU; exact ⟨a,b,xs,ys,rfl,rfl,h1,h2,hz,k⟩
theorem op_catU (K:PySem.W.Frag) (hK:X.K=K:=by rfl):OpR X (binaryOp .Add) (rCatU K):=by
  subst hK
  unfold rCatU
  intro pins s σ H x y v u Q I rx ry h
  obtain ⟨a,b,xs,ys,rfl,rfl,ha,hb,hz,q⟩:=h
  by_cases hx:xs=[]
  · cases rx
    cases ry
    subst hx
    obtain ⟨its,r1,p1,_⟩:=I.tuple (SqT.of ha)
    obtain ⟨its2,r2,p2,_⟩:=I.tuple (SqT.of hb)
    cases r1
    obtain ⟨⟨cls,dd,data,sl⟩,ho,hc,n,hd⟩:=id p1
    obtain ⟨⟨cls2,dd2,data2,sl2⟩,ho2,hc2,n2,hd2⟩:=id p2
    simp only at hc hd hc2 hd2
    subst hc hd hc2 hd2
    exact concat_meets ⟨_,ho,rfl⟩ ⟨_,ho2,rfl⟩ noFill_tuple_add seq_tuple_add PySem.F.slot_tuple_add PySem.F.entry_tuple_add (PySem.F.args_tuple_add_2 _ _)
      (tuple_addW0 a b _ _ n n2 dd dd2 sl sl2 rfl) ⟨ho,ho2,⟨.ref b,H,I,rfl,q b H (Same.refl _) hb⟩⟩
  · refine op_catT pins s σ H _ _ v u Q I rx ry ⟨a,b,xs,ys,rfl,rfl,SqT.of ha,SqT.of hb,hx,Nat.le_trans hz (by decide),fun e=>?_,fun _ p hp=>q p _ (Same.upd hp) upd_same⟩
    subst e
    exact q a H (Same.refl _) (by rw [List.append_nil]; exact ha)
end
theorem int_rmul_tuple (a:Int) (t:Tok) (l:Addr) (items:Array Value) (n:Nat) (dd:Option Addr) (sl:Array (Option Value)) :
    Meets (Builtin.«int.__rmul__» ⟨[.int a t,.ref l],[]⟩) (fun _ R s=>s.heap.get? l=some { cls:=.type "tuple",dict:=dd,data:=.seq items n,slots:=sl }∧R (.ok (.ret Value.notImplemented)) s) :=
  .of_wp fun prog w A R s h=>by
    obtain ⟨hp,g,d,tk,os⟩:=s
    obtain ⟨hl,h⟩:=h
    wp_walk
    exact ⟨_,rfl,h⟩
theorem tuple_mulM (l:Addr) (items:Array Value) (n:Nat) (dd:Option Addr) (sl:Array (Option Value)) (k:Int) (u:Tok) (h0:2≤k) (h1:k≤64) (he:items.isEmpty=false) (hz:items.size≤64) (hsz:((List.replicate k.toNat items).foldl (· ++ ·) #[]).size≤sizeLine) :
    Meets (Builtin.«tuple.__mul__» ⟨[.ref l,.int k u],[]⟩) (fun _ R s=>s.heap.get? l=some { cls:=.type "tuple",dict:=dd,data:=.seq items n,slots:=sl }∧R (.ok (.ret (.ref s.heap.objs.size))) { s with heap:=s.heap.push { cls:=.type "tuple",data:=.seq ((List.replicate k.toNat items).foldl (· ++ ·) #[]) } }) :=
  .of_wp fun prog w A R s h=>by
    obtain ⟨hp,g,d,tk,os⟩:=s
    obtain ⟨hl,h⟩:=h
    have f1:=AutoSeq1.idx_int
    wp_walk using wpAny_loadPart' hl
    rw [if_neg (by simp; omega)]
    wp_walk using wpAny_loadPart' hl
    have he':¬ items=#[]:=fun z=>by simp [z] at he
    have hm:(items.size:Int)*k≤4096:=by
      have h2:(items.size:Int)*k≤64*64:=Int.mul_le_mul (by omega) h1 (by omega) (by omega)
      omega
    rw [if_neg (by simp; exact ⟨he',by omega⟩)]
    rw [if_neg (by simp; exact ⟨by omega,he'⟩)]
    show wpAny _ _ (if (items.size:Int)*k > (2^63 - 1) / 8 then _ else _) _ _ _
    rw [if_neg (by omega)]
    show wpAny _ _ (if Builtin.Tuple.tupleTooMany (items.size*k)=true then _ else _) _ _ _
    rw [if_neg (by unfold Builtin.Tuple.tupleTooMany; simp; exact Int.le_trans hm (by decide))]
    wp_walk
    exact ⟨_,rfl,h⟩
theorem noFill_tuple_mul:fillsNumberSlot (.type "tuple") "mul" = pure false:=PySem.fillsNumberSlot_seq (id := "tuple.__mul__") (r:=some (.builtin "tuple.__rmul__")) F.slot_tuple_mul.lookup (by decide +kernel) F.slot_tuple_rmul.lookup (by decide +kernel)
theorem repeat_tuple:seqRepeat? (.type "tuple")=pure (some (.builtin "tuple.__mul__")):=by
  unfold seqRepeat?; rw [PySem.seqSlot_of (T := "tuple") (name := "__mul__") (id := "tuple.__mul__") F.slot_tuple_mul.lookup (by decide +kernel),PySem.seqSlot_of (T := "tuple") (name := "__rmul__") (id := "tuple.__rmul__") F.slot_tuple_rmul.lookup (by decide +kernel)]; rfl
@[irreducible] def rMulT:R2:=fun x y H Q=>∃ a z,∃ k:Nat,x=.ref a∧y=.int (k:Int)∧H a=some (.tup [z])∧2≤k∧k≤64∧∀ c H',Same H H'→H' c=some (.tup (List.replicate k z))→Q (.ref c) H'
theorem mulT {H:Hp} {Q:VK} {a:Addr} {z:V} {k:Nat} (h:H a=some (.tup [z])) (h2:2≤k) (hk:k≤64) (q:∀ c H',Same H H'→H' c=some (.tup (List.replicate k z))→Q (.ref c) H'):rMulT (.ref a) (.int (k:Int)) H Q:=by
  unfold rMulT; exact ⟨a,z,k,rfl,rfl,h,h2,hk,q⟩
section
variable {X:Cx}
theorem op_mulT:OpR X (binaryOp .Mult) rMulT:=by
  unfold rMulT
  intro pins s σ H x y v u Q I rx ry h
  obtain ⟨a,z,k,rfl,rfl,hH,h2,hk,q⟩:=h
  cases rx
  obtain ⟨t,rfl⟩:=(show ∃ t,u=Value.int (k:Int) t from ry)
  obtain ⟨its,r,p,_⟩:=I.tuple (SqT.of hH)
  obtain ⟨w1,rfl,rw1⟩:=vals1 r
  obtain ⟨⟨cls,dd,data,sl⟩,ho,hc,n,hd⟩:=id p
  simp only at hc hd
  subst hc hd
  have flat1:∀ k:Nat,(List.replicate k [w1]).flatten=List.replicate k w1:=fun k=>by
    induction k with
    | zero=>rfl
    | succ k ih=>rw [List.replicate_succ,List.flatten_cons,ih,List.replicate_succ]; rfl
  have f0:List.foldl (fun x1 x2=>x1++x2) #[] (List.replicate k [w1].toArray)=(List.replicate k w1).toArray:=by
    have:=foldl_rep [w1] k []
    rw [List.nil_append,flat1] at this
    exact this
  have vr:∀ k:Nat,Vals (List.replicate k z) (List.replicate k w1):=fun k=>by
    induction k with
    | zero=>exact .nil
    | succ k ih=>exact .cons rw1 ih
  generalize hk':(k:Int)=kk
  have hkk:kk.toNat=k:=by omega
  refine wpAny_binaryOp_repeat_ref (T := "tuple") (U := "int") (by decide) ⟨_,ho,rfl⟩ (fun s'=>typeIs_int s' kk t) noFill_tuple_mul F.fills_int_mul F.slot_int_rmul repeat_tuple F.slot_int_index.lookup
    (call_meets F.slot_int_rmul (typeIs_int s kk t) F.entry_int_rmul (F.args_int_rmul_2 _ _) (int_rmul_tuple kk t a [w1].toArray n dd sl) ⟨ho,rfl,⟨_,ho,rfl⟩,?_⟩)
  refine call_meets F.slot_tuple_mul ⟨_,ho,rfl⟩ F.entry_tuple_mul (F.args_tuple_mul_2 _ _) (tuple_mulM a [w1].toArray n dd sl kk t (by omega) (by omega) rfl (by show 1≤64; decide) (by rw [hkk,f0,List.size_toArray,List.length_replicate]; exact Nat.le_trans hk (by decide))) ⟨ho,?_⟩
  rw [hkk,f0]
  refine ⟨.ref _,_,I.laid (t':=s.toks) (o:=.tup (List.replicate k z)) (fun b ob q=>Heap.get?_push_of_some _ q) (Nat.le_refl _) ?_,rfl,q _ _ (Same.upd (I.hok.fresh (Nat.le_refl _))) upd_same⟩
  exact ⟨⟨by rw [List.length_replicate]; exact small64 hk,_,Heap.get?_push_size _ rfl,rfl⟩,_,vr k,IsTup.new _ _⟩
end
end L2
set_option Elab.async false
set_option linter.all false
set_option maxRecDepth 100000
namespace L2
open PySem PySem.Spec PyProof.Rows
@[irreducible] def rExt:V→List V→Hp→VK→Prop:=rExtend
theorem mt_ext {X:Cx}:MtR X "list.extend" rExt:=by unfold rExt; exact mt_extend
theorem extL {H:Hp} {l b:Addr} {xs zs:List V} {Q:VK} (h:H l=some (.lst xs)) (h2:H b=some (.lst zs)) (hz:xs.length+zs.length≤1000) (k:∀ H',H' l=some (.lst (xs++zs))→SameBut l H H'→Q .non H'):rExt (.ref l) [.ref b] H Q:=by
  unfold rExt; exact ⟨l,b,xs,zs,rfl,rfl,h,h2,Nat.le_of_lt (small1000 hz),k _ upd_same SameBut.self⟩
section
variable {prog:Program} {w:World} {A:Around} {E:Value→Shared→Prop} {s:Shared} {l:Addr} {xs:Array (Int × Tok)}
theorem sum_tupG {Q:Value→Shared→Prop} (hh:A.handled=none) (hl:s.heap.IsTuple l (intItems xs))
    (h:∀ h' tk t',(∀ b o,s.heap.get? b=some o→h'.get? b=some o)→Q (.int (preSum (numAt xs) xs.size) t') { s with heap:=h',toks:=tk }) :
    wpAny (model prog w) A (call (.builtin "sum") [.ref l]) Q E s:=by
  have hlt:l<s.heap.objs.size:=by obtain ⟨_,e,_⟩:=hl; exact Heap.lt_size e
  refine call_sum_walkG (wpAny_pyIter_tuple hl ?_)
  refine ⟨_,[_,l],[_],_,_,_,numAt xs,rfl,Walks.tuple (A:=A.in1) hh _ l (Nat.ne_of_lt hlt) (intItems xs),⟨⟨_,Heap.get?_push_size _ rfl,rfl,rfl⟩,hl.push _⟩,fun c hc=>?_,(fun _ _=>intItems_at),fun h' tk t' hk=>?_⟩
  · show c<(s.heap.push _).objs.size
    rw [Heap.size_push]
    rcases List.mem_cons.mp hc with rfl | hc
    · exact Nat.lt_succ_self _
    · rcases List.mem_cons.mp hc with rfl | hc
      · exact Nat.lt_succ_of_lt hlt
      · cases hc
  · have:=h h' tk t' fun c o e=>by
      refine hk c o (fun hm=>?_) (Heap.get?_push_of_some _ e)
      rcases List.mem_cons.mp hm with e1 | hm
      · exact absurd (e1 ▸ Heap.lt_size e) (Nat.lt_irrefl _)
      · cases hm
    simpa [intItems] using this
end
@[irreducible] def rSumT (K:PySem.W.Frag):List V→Hp→VK→Prop:=fun xs H Q=>∃ (p:Addr) (ns:List Int),xs=[.ref p]∧SqT K H p (ns.map V.int)∧Q (.int ns.sum) H
theorem rsT {K:PySem.W.Frag} {H:Hp} {p:Addr} {ns:List Int} {Q:VK} (h:SqT K H p (ns.map V.int)) (q:Q (.int ns.sum) H):rSumT K [.ref p] H Q:=by unfold rSumT; exact ⟨p,ns,rfl,h,q⟩
theorem cl_sumT {X:Cx} (K:PySem.W.Frag) (hc:X.calm=true) (hK:X.K=K:=by rfl):CallR X (.builtin "sum") (rSumT K):=by
  subst hK
  unfold rSumT
  intro pins s σ H xs us Q I r h
  obtain ⟨p,ns,rfl,hq,q⟩:=h
  obtain ⟨u,rfl,rx⟩:=vals1 r
  cases rx
  obtain ⟨its,r',pl,hz⟩:=I.tuple hq
  have hi:=intsAre_of r'
  obtain ⟨xs',e⟩:=hi.allInts.items
  rw [e] at pl
  refine sum_tupG (I.ok.hd hc) pl fun h' tk t' hk=>⟨.int ns.sum,H,I.kept hk,⟨t',?_⟩,q⟩
  rw [preSum_eq,List.take_of_length_le (by simp)]
  rw [← hi.numsOf]
  have e2:its=(intItems xs').toList:=by rw [← e]
  rw [e2,nums_intItems]
section
variable {js:List Nat} {te:TE} {tc:TT} {σ:St} {H:Hp} {Q:VK}
theorem RepL.atI {α:Type} {g:α→PyData}:∀ {as:List α} {xs:List V},RepL H (as.map g) xs→∀ {i:Nat} {x:V},xs[i]?=some x→∃ a,as[i]?=some a∧Rep H (g a) x:=by
  intro as xs r i x e
  obtain ⟨d,h1,h2⟩:=r.get e
  rw [List.getElem?_map] at h1
  cases q:as[i]? with
  | none=>rw [q] at h1; cases h1
  | some a=>rw [q] at h1; cases h1; exact ⟨a,rfl,h2⟩
theorem comp_fltD {K:PySem.W.Frag} {a:Addr} {xs:List V} {α:Type} {g:α→PyData} {as:List α} (r:RepL H (as.map g) xs) (p:α→Bool) (hz:xs.length≤100000) (hl:H a=some (.lst xs))
    (ht:∀ x c H' (Q':Bool→Hp→Prop),c∈as→Rep H' (g c) x→Same H H'→(∀ H5,Same H' H5→Q' (p c) H5)→tc (some x::slots σ js) H' Q')
    (he:∀ x H' (Q':VK),Q' x H'→te (some x::slots σ js) H' Q')
    (hd:∀ D ys H',H D=none→H' D=some (.lst ys)→Same H H'→RepL H' ((as.filter p).map g) ys→Q (.ref D) H'):CompB (Itl K a) σ js tc te H Q:=by
  unfold CompB
  intro D hD
  have hlen:xs.length=as.length:=by rw [r.len,List.length_map]
  refine ⟨fun i m ys H'=>m=xs.length - i∧i≤xs.length∧H' D=some (.lst ys)∧Same H H'∧RepL H (((as.take i).filter p).map g) ys∧ys.length≤i,⟨xs.length,by simp,Nat.zero_le _,upd_same,Same.upd hD,RepL.nil,Nat.le_refl _⟩,?_⟩
  rintro i m ys H2 ⟨rfl,hi,hD2,s2,ry,hy⟩
  refine ⟨hD2,?_⟩
  by_cases hlt:i<xs.length
  · have hx:xs[i]?=some xs[i]:=List.getElem?_eq_getElem hlt
    refine .inr ⟨⟨xs,_,SqL.of (s2 _ _ hl),hx⟩,Nat.lt_of_le_of_lt (m:=100000) (by omega) (by decide),fun x H3 hy3=>?_⟩
    obtain ⟨rfl,hx3⟩:=hy3
    have hx3:=hx3 xs (SqL.of (s2 _ _ hl))
    obtain ⟨c,hc,rc⟩:=r.atI hx3
    have hti:as.take (i+1)=as.take i++[c]:=by rw [List.take_add_one,hc]; rfl
    refine ⟨fun b H4=>b=p c∧Same H3 H4,ht x c H3 _ (List.mem_of_getElem? hc) (rc.same s2) s2 fun H5 s5=>⟨rfl,s5⟩,?_⟩
    rintro b H4 ⟨rfl,s4⟩
    by_cases hp:p c=true
    · rw [if_pos hp]
      refine ⟨fun y H5=>y=x∧H5=H4,he x H4 _ ⟨rfl,rfl⟩,?_⟩
      rintro y H5 ⟨rfl,rfl⟩
      refine ⟨s4 _ _ hD2,_,?_,rfl,hlt,upd_same,Same.thru hD (s2.trans s4) SameBut.self,?_,?_⟩
      · omega
      · rw [hti,List.filter_append,List.map_append]
        have:List.filter p [c]=[c]:=by simp [hp]
        rw [this]
        exact RepL.snoc ry rc
      · rw [List.length_append,List.length_singleton]; omega
    · rw [if_neg hp]
      refine ⟨s4 _ _ hD2,_,?_,rfl,hlt,s4 _ _ hD2,s2.trans s4,?_,?_⟩
      · omega
      · rw [hti,List.filter_append]
        have:List.filter p [c]=[]:=by simp [hp]
        rw [this,List.append_nil]
        exact ry
      · omega
  · have e:i=xs.length:=by omega
    subst e
    refine .inl ⟨⟨xs,SqL.of (s2 _ _ hl),Nat.le_refl _⟩,hd D ys H2 hD hD2 s2 ?_⟩
    rw [hlen,List.take_length] at ry
    exact ry.same s2
end
end L2
set_option linter.all false
namespace Mf
def lw (n d:Int):Int × Int:=(n / (Int.gcd n d:Int),d / (Int.gcd n d:Int))
theorem gcd_pos {n d:Int} (h:0<d):0<(Int.gcd n d:Int):=by
  have:=Int.gcd_pos_of_ne_zero_right n (Int.ne_of_gt h)
  omega
end Mf
set_option linter.all false
namespace Mf
abbrev Fr:=Int × Int
end Mf
set_option Elab.async false
set_option linter.all false
namespace Mf
end Mf
set_option Elab.async false
set_option linter.all false
namespace Mf
end Mf
set_option Elab.async false
set_option linter.all false
namespace Mf
end Mf
set_option Elab.async false
set_option linter.all false
set_option maxRecDepth 100000
namespace L2
open PySem PySem.Spec PyProof.Rows
theorem we_bmK (K:PySem.W.Frag) {X:Cx} {T id:String} {o e:Expr} {es:List Expr} {to:TE} {t:TA} {name:Str} {apos cpos:Pos} {r:V→List V→Hp→VK→Prop} (pa:PlainAttrs T) (slot:Slot T name id) (hty:typeOf (.builtin id)=pure (.type "method_descriptor")) (hm:MtR X id r) (ho:PEw X o to) (ha:PAw X (e::es) t) (hK:X.K=K:=by rfl)
    (hbase:attributeBase o name X.env (eval o X.env)=eval o X.env:=by rfl)
    (hfew:((backTo cpos (starEach (e::es) X.env)).all (fun x=>!x.1)&&(backToKw cpos (keywordEach [] X.env)).all (fun x=>x.1.isSome)
      && decide ((e::es).length+([]:List Keyword).length+(if ([]:List Keyword).isEmpty then 0 else 1)<30))=true:=by rfl)
    (hline:(apos.endLine == cpos.line)=true:=by rfl) (hs:starEach (e::es) X.env=(false,eval e X.env)::starEach es X.env:=by first | exact se_Name | exact se_Constant | exact se_BoolOp | exact se_BinOp | exact se_UnaryOp | exact se_IfExp | exact se_Dict | exact se_ListComp | exact se_Compare | exact se_Call | exact se_Attribute | exact se_Subscript | exact se_List | exact se_Tuple | exact se_JoinedStr | exact se_GeneratorExp) (hplain:(backTo cpos (starEach es X.env)).any (·.1)=false:=by repeat (first | exact ap_nil | refine ap_cons (by first | exact se_Name | exact se_Constant | exact se_BoolOp | exact se_BinOp | exact se_UnaryOp | exact se_IfExp | exact se_Dict | exact se_ListComp | exact se_Compare | exact se_Call | exact se_Attribute | exact se_Subscript | exact se_List | exact se_Tuple | exact se_JoinedStr | exact se_GeneratorExp) ?_)) :
    PEw X (.Call (.Attribute o name apos) (e::es) [] cpos) (tBM K T r to t):=by subst hK; exact ⟨pe_bm pa slot hty hm ho.p ha.p hbase hfew hline hs hplain⟩
theorem wt_mono {X:Cx} {e:Expr} {t:TT} (h:PTw X e t):PTw X e (tMono t):=⟨h.p.mono⟩
end L2
set_option Elab.async false
set_option linter.all false
set_option maxRecDepth 100000
namespace HT
open PySem PyProof.Rows
section
variable {prog:Program} {w:World} {A:Around} {E:Value→Shared→Prop} {s:Shared}
theorem getItem_tuple_whole {t sl:Addr} {items:Array Value} {vl vu:Value} {lo hi:Option Int} {Q:Value→Shared→Prop} (ht:IsTup s.heap t items) (hs:s.heap.IsSliceOf sl vl vu .none) (pl:IsPart vl lo) (pu:IsPart vu hi)
    (h0:sIx items.size 0 lo=0) (h1:sIx items.size items.size hi=items.size) (h:Q (.ref t) s):wpAny (model prog w) A (getItem (.ref t) (.ref sl)) Q E s:=by
  obtain ⟨os,hos,hcs,hds⟩:=id hs
  have hTs:s.TypeIs (.ref sl) "slice" := ⟨os,hos,hcs⟩
  have hTt:s.TypeIs (.ref t) "tuple" := ht.typeIs
  unfold getItem
  try with_reducible refine wpAny_holding ?_
  first | refine wpAny_bind (wpAny_pure ?_) | skip
  refine wpAny_bind (wpAny_sequenceKey ht.typeIs (by decide) ?_)
  refine wpAny_bind (wpAny_callSpecial?_slot (name:=Str.ofString "__getitem__") ht.typeIs PyProof.Rows.slot_tuple_getitem
    (wpAny_call_entry PyProof.Rows.slot_tuple_getitem ht.typeIs entry_tuple_getitem ?_ (args_tuple_getitem _ _)))
  show wpAny _ _ (Builtin.Tuple.tupleItemsOf (.ref t) >>= _) _ _ s
  refine wpAny_bind (tupleItemsOf_ ht ?_)
  refine wpAny_bind (wpAny_typeOf hTs ?_)
  rw [if_pos (by decide)]
  refine wpAny_bind (sliceApplied_gen hs pl pu ?_)
  have hyes:(((sIx items.size 0 lo:Nat):Int) == 0&&(1:Int) == 1&&(sIx items.size items.size hi - sIx items.size 0 lo) == items.size)=true:=by
    rw [h0,h1]; simp
  show wpAny _ _ (if (((sIx items.size 0 lo:Nat):Int) == 0&&(1:Int) == 1&&(sIx items.size items.size hi - sIx items.size 0 lo) == items.size)=true then _ else _) _ _ s
  rw [if_pos hyes]
  unfold Builtin.Tuple.tupleIsExact
  refine wpAny_bind (wpAny_bind (wpAny_typeOf hTt (wpAny_pure ?_)))
  rw [if_pos (by decide)]
  refine wpAny_bind (wpAny_rule ?_)
  first
    | exact wpAny_pure ⟨_,rfl,wpAny_pure h⟩
    | exact wpAny_bind (wpAny_pure (wpAny_pure ⟨_,rfl,wpAny_pure h⟩))
end
end HT
namespace L2
open PySem PySem.W PySem.Spec PySem.Calls PyProof.Rows
theorem cutV_whole {xs:List V} {lo hi:Option Int} (h0:HT.sIx xs.length 0 lo=0) (h1:HT.sIx xs.length xs.length hi=xs.length):cutV xs lo hi=xs:=by
  unfold cutV
  rw [h0,h1]; simp
section
variable {X:Cx}
@[irreducible] def rSlA (K:PySem.W.Frag):V→Option Int→Option Int→Hp→VK→Prop:=fun x lo hi H Q=>∃ a xs,x=.ref a∧H a=some (.tup xs)∧∀ c H',Same H H'→H' c=some (.tup (cutV xs lo hi))→Q (.ref c) H'
theorem sl_tupA (K:PySem.W.Frag) (hK:X.K=K:=by rfl):SlR X (rSlA K):=by
  unfold rSlA
  subst hK
  intro pins s σ H x v vl vu lo hi sl Q I rx hs pl pu h
  obtain ⟨a,xs,rfl,hx,q⟩:=h
  by_cases hw:HT.sIx xs.length 0 lo=0∧HT.sIx xs.length xs.length hi=xs.length
  · cases rx
    obtain ⟨its,r,ht,hz⟩:=I.tuple (SqT.of hx)
    have hlen:its.toArray.size=xs.length:=by rw [List.size_toArray]; exact r.length.symm
    refine ⟨"tuple",_,PyProof.Rows.slot_tuple_getitem.lookup,ht.typeIs,?_⟩
    refine HT.getItem_tuple_whole ht hs pl pu (by rw [hlen]; exact hw.1) (by rw [hlen]; exact hw.2) ?_
    exact ⟨.ref a,H,I,rfl,q a H (Same.refl _) (by rw [cutV_whole hw.1 hw.2]; exact hx)⟩
  · exact sl_tup pins s σ H (.ref a) v vl vu lo hi sl Q I rx hs pl pu ⟨a,xs,rfl,SqT.of hx,hw,fun p hp=>q p _ (Same.upd hp) upd_same⟩
theorem slA_hi {K:PySem.W.Frag} {H:Hp} {a:Addr} {xs:List V} {k:Nat} {Q:VK} (h:H a=some (.tup xs)) (q:∀ c H',Same H H'→H' c=some (.tup (xs.take k))→Q (.ref c) H'):rSlA K (.ref a) none (some (k:Int)) H Q:=by
  unfold rSlA
  exact ⟨a,xs,rfl,h,fun c H' s e=>q c H' s (by rw [e,cutV_hi])⟩
theorem slA_lo {K:PySem.W.Frag} {H:Hp} {a:Addr} {xs:List V} {k:Nat} {Q:VK} (h:H a=some (.tup xs)) (q:∀ c H',Same H H'→H' c=some (.tup (xs.drop k))→Q (.ref c) H'):rSlA K (.ref a) (some (k:Int)) none H Q:=by
  unfold rSlA
  exact ⟨a,xs,rfl,h,fun c H' s e=>q c H' s (by rw [e,cutV_lo])⟩
theorem tuple_mul1 (l:Addr) (items:Array Value) (n:Nat) (dd:Option Addr) (sl:Array (Option Value)) (u:Tok) :
    Meets (Builtin.«tuple.__mul__» ⟨[.ref l,.int 1 u],[]⟩) (fun _ R s=>s.heap.get? l=some { cls:=.type "tuple",dict:=dd,data:=.seq items n,slots:=sl }∧R (.ok (.ret (.ref l))) s) :=
  .of_wp fun prog w A R s h=>by
    obtain ⟨hp,g,d,tk,os⟩:=s
    obtain ⟨hl,h⟩:=h
    have f1:=AutoSeq1.idx_int
    wp_walk using wpAny_loadPart' hl
    all_goals first | exact ⟨_,rfl,h⟩ | skip
theorem tuple_mul0 (l:Addr) (items:Array Value) (n:Nat) (dd:Option Addr) (sl:Array (Option Value)) (u:Tok) (he:items.isEmpty=false) :
    Meets (Builtin.«tuple.__mul__» ⟨[.ref l,.int 0 u],[]⟩) (fun _ R s=>s.heap.get? l=some { cls:=.type "tuple",dict:=dd,data:=.seq items n,slots:=sl }∧R (.ok (.ret (.ref s.heap.objs.size))) { s with heap:=s.heap.push { cls:=.type "tuple",data:=.seq #[] } }) :=
  .of_wp fun prog w A R s h=>by
    obtain ⟨hp,g,d,tk,os⟩:=s
    obtain ⟨hl,h⟩:=h
    have f1:=AutoSeq1.idx_int
    wp_walk using wpAny_loadPart' hl
    all_goals first | exact ⟨_,rfl,h⟩ | skip
@[irreducible] def rMulA:R2:=fun x y H Q=>∃ a z,∃ k:Nat,x=.ref a∧y=.int (k:Int)∧H a=some (.tup [z])∧k≤64∧∀ c H',Same H H'→H' c=some (.tup (List.replicate k z))→Q (.ref c) H'
theorem mulA {H:Hp} {Q:VK} {a:Addr} {z:V} {k:Nat} (h:H a=some (.tup [z])) (hk:k≤64) (q:∀ c H',Same H H'→H' c=some (.tup (List.replicate k z))→Q (.ref c) H'):rMulA (.ref a) (.int (k:Int)) H Q:=by
  unfold rMulA; exact ⟨a,z,k,rfl,rfl,h,hk,q⟩
theorem op_mulA:OpR X (binaryOp .Mult) rMulA:=by
  unfold rMulA
  intro pins s σ H x y v u Q I rx ry h
  obtain ⟨a,z,k,rfl,rfl,hH,hk,q⟩:=h
  by_cases h2:2≤k
  · exact op_mulT pins s σ H _ _ v u Q I rx ry (mulT hH h2 hk q)
  cases rx
  obtain ⟨t,rfl⟩:=(show ∃ t,u=Value.int (k:Int) t from ry)
  obtain ⟨its,r,p,_⟩:=I.tuple (SqT.of hH)
  obtain ⟨w1,rfl,rw1⟩:=vals1 r
  obtain ⟨⟨cls,dd,data,sl⟩,ho,hc,n,hd⟩:=id p
  simp only at hc hd
  subst hc hd
  have hk2:k=0∨k=1:=by omega
  rcases hk2 with rfl | rfl
  · refine wpAny_binaryOp_repeat_ref (T := "tuple") (U := "int") (by decide) ⟨_,ho,rfl⟩ (fun s'=>typeIs_int s' 0 t) noFill_tuple_mul F.fills_int_mul F.slot_int_rmul repeat_tuple F.slot_int_index.lookup
      (call_meets F.slot_int_rmul (typeIs_int s 0 t) F.entry_int_rmul (F.args_int_rmul_2 _ _) (int_rmul_tuple 0 t a [w1].toArray n dd sl) ⟨ho,rfl,⟨_,ho,rfl⟩,?_⟩)
    refine call_meets F.slot_tuple_mul ⟨_,ho,rfl⟩ F.entry_tuple_mul (F.args_tuple_mul_2 _ _) (tuple_mul0 a [w1].toArray n dd sl t rfl) ⟨ho,?_⟩
    refine ⟨.ref _,_,I.laid (t':=s.toks) (o:=.tup []) (fun b ob q=>Heap.get?_push_of_some _ q) (Nat.le_refl _) ?_,rfl,q _ _ (Same.upd (I.hok.fresh (Nat.le_refl _))) upd_same⟩
    exact ⟨⟨Nat.zero_le _,_,Heap.get?_push_size _ rfl,rfl⟩,[],.nil,IsTup.new _ _⟩
  · refine wpAny_binaryOp_repeat_ref (T := "tuple") (U := "int") (by decide) ⟨_,ho,rfl⟩ (fun s'=>typeIs_int s' 1 t) noFill_tuple_mul F.fills_int_mul F.slot_int_rmul repeat_tuple F.slot_int_index.lookup
      (call_meets F.slot_int_rmul (typeIs_int s 1 t) F.entry_int_rmul (F.args_int_rmul_2 _ _) (int_rmul_tuple 1 t a [w1].toArray n dd sl) ⟨ho,rfl,⟨_,ho,rfl⟩,?_⟩)
    refine call_meets F.slot_tuple_mul ⟨_,ho,rfl⟩ F.entry_tuple_mul (F.args_tuple_mul_2 _ _) (tuple_mul1 a [w1].toArray n dd sl t) ⟨ho,?_⟩
    exact ⟨.ref a,H,I,rfl,q a H (Same.refl _) hH⟩
end
end L2
set_option Elab.async false
set_option linter.all false
set_option maxRecDepth 100000
namespace HT
open PySem PySem.W PyProof.Rows
def KasAll {α:Type} (n:Nat) (lt:Nat→Nat→Bool) (R:α→Prop):KasT α→Prop
  | .ret a=>R a
  | .ask i j k=>i<n∧j<n∧KasAll n lt R (k (lt i j))
section
variable {n:Nat} {lt:Nat→Nat→Bool}
theorem KasAll.bind {α β:Type} {R:α→Prop} {S:β→Prop} {f:α→KasT β}:∀ {t:KasT α},KasAll n lt R t→(∀ a,R a→KasAll n lt S (f a))→KasAll n lt S (t.bind f)
  | .ret a,h,k=>k a h
  | .ask i j t,⟨h1,h2,h3⟩,k=>⟨h1,h2,KasAll.bind (t:=t (lt i j)) h3 k⟩
theorem KasAll.wp {α:Type} {R:α→Prop} {cmp:Nat→Nat→(Bool→Shared→Prop)→Shared→Prop} {Q:α→Shared→Prop} {s:Shared} (hc:∀ i j C,i<n→j<n→C (lt i j) s→cmp i j C s) (q:∀ a,R a→Q a s) :
    ∀ {t:KasT α},KasAll n lt R t→t.kasWp cmp Q s
  | .ret a,h=>q a h
  | .ask i j t,⟨h1,h2,h3⟩=>hc i j _ h1 h2 (KasAll.wp (t:=t (lt i j)) hc q h3)
def Good (n:Nat) (p:Array Nat):Prop:=p.Perm (List.toArray (List.range n))
theorem Good.bd {p:Array Nat} (g:Good n p) (hn:0<n) (i:Nat):p.getD i 0<n:=by
  by_cases hi:i<p.size
  · have e:p.getD i 0=p[i]:=by simp [Array.getD,hi]
    rw [e]
    have m:p[i]∈List.toArray (List.range n):=(Array.Perm.mem_iff g).mp (Array.getElem_mem hi)
    simpa using m
  · have e:p.getD i 0=0:=by simp [Array.getD,hi]
    rw [e]; exact hn
theorem Good.rev {p:Array Nat} (g:Good n p) (i j:Nat):Good n (kas_rev p i j):=(mirror_perm p i j _).trans g
theorem Good.bub {p:Array Nat} (g:Good n p) (i j:Nat):Good n (bubble p i j):=(bubble_perm p i j).trans g
theorem all_asc {p:Array Nat} (g:Good n p) (hn:0<n):∀ (f m:Nat),KasAll n lt (fun _=>True) (kas_asc p f m)
  | 0,m=>True.intro
  | f+1,m=>⟨g.bd hn _,g.bd hn _,by
    cases lt (p.getD m 0) (p.getD (m - 1) 0) with
    | true=>exact True.intro
    | false=>exact all_asc g hn f (m+1)⟩
theorem all_desc (hn:0<n):∀ (f:Nat) {p:Array Nat} (g:Good n p) (m q:Nat),KasAll n lt (fun r=>Good n r.1) (kas_desc f p m q)
  | 0,p,g,m,q=>g
  | f+1,p,g,m,q=>by
    refine ⟨g.bd hn _,g.bd hn _,?_⟩
    cases lt (p.getD m 0) (p.getD (m - 1) 0) with
    | true =>
      show KasAll n lt _ (if q > 0 then _ else _)
      split
      · exact all_desc hn f (g.rev _ _) _ _
      · exact all_desc hn f g _ _
    | false =>
      refine ⟨g.bd hn _,g.bd hn _,?_⟩
      cases lt (p.getD (m - 1) 0) (p.getD m 0) with
      | true=>exact g
      | false=>exact all_desc hn f g _ _
theorem all_tail3 {p:Array Nat} (g:Good n p) (hn:0<n) (m r:Nat):KasAll n lt (fun r=>Good n r.2) (kas_tail3 m r p):=by
  unfold kas_tail3
  exact (all_asc (g.rev 0 m) hn _ _).bind fun _ _=>g.rev 0 m
theorem all_descPart {p:Array Nat} (g:Good n p) (hn:0<n) (m r:Nat):KasAll n lt (fun r=>Good n r.2) (kas_descPart m r p):=by
  unfold kas_descPart
  refine (all_desc hn _ g _ _).bind fun r hr=>?_
  split
  · exact all_tail3 (Good.rev hr _ _) hn _ _
  · exact all_tail3 hr hn _ _
theorem all_count {p:Array Nat} (g:Good n p) (hn:0<n) (m:Nat):KasAll n lt (fun r=>Good n r.2) (kas_count m p):=by
  unfold kas_count
  refine (all_asc g hn _ _).bind fun k _=>?_
  split
  · exact g
  · split
    · refine ⟨g.bd hn _,g.bd hn _,?_⟩
      cases lt (p.getD 0 0) (p.getD (k - 1) 0) with
      | true=>exact g
      | false=>exact all_descPart (g.rev _ _) hn _ _
    · exact all_descPart g hn _ _
theorem all_place {p:Array Nat} (g:Good n p) (hn:0<n) (k:Nat):∀ (f l r:Nat),KasAll n lt (fun _=>True) (kas_place p k f l r)
  | 0,l,r=>True.intro
  | f+1,l,r=>by
    unfold kas_place
    split
    · exact True.intro
    · refine ⟨g.bd hn _,g.bd hn _,?_⟩
      cases lt (p.getD k 0) (p.getD ((l+r) / 2) 0) with
      | true=>exact all_place g hn k f _ _
      | false=>exact all_place g hn k f _ _
theorem all_bin (hn:0<n):∀ (f:Nat) {p:Array Nat} (g:Good n p) (k:Nat),KasAll n lt (Good n) (kas_bin f p k)
  | 0,p,g,k=>g
  | f+1,p,g,k=>by
    unfold kas_bin
    exact (all_place g hn k _ _ _).bind fun l _=>all_bin hn f (g.bub _ _) _
theorem all_sort (hn:0<n):KasAll n lt (Good n) (kas_sort n):=by
  unfold kas_sort
  refine (all_count (Array.Perm.refl _) hn n).bind fun r hr=>?_
  split
  · exact all_bin hn _ hr _
  · exact hr
end
end HT
set_option Elab.async false
set_option linter.all false
set_option maxRecDepth 100000
namespace HT
open PySem PySem.W PyProof.Rows
structure Ord (n:Nat) (lt:Nat→Nat→Bool):Prop where
  tot:∀ i j,i<n→j<n→i≠j→lt i j=false→lt j i=true
  tra:∀ i j k,lt i j=true→lt j k=true→lt i k=true
def Asc (lt:Nat→Nat→Bool) (p:Array Nat) (m:Nat):Prop:=∀ a b,a<b→b<m→lt (p.getD a 0) (p.getD b 0)=true
def Dsc (lt:Nat→Nat→Bool) (p:Array Nat) (m:Nat):Prop:=∀ a b,a<b→b<m→lt (p.getD b 0) (p.getD a 0)=true
section
variable {n:Nat} {lt:Nat→Nat→Bool}
theorem KasAll.mono {α:Type} {R S:α→Prop} (k:∀ a,R a→S a):∀ {t:KasT α},KasAll n lt R t→KasAll n lt S t
  | .ret a,h=>k a h
  | .ask i j t,⟨h1,h2,h3⟩=>⟨h1,h2,KasAll.mono k (t:=t (lt i j)) h3⟩
theorem Good.size {p:Array Nat} (g:Good n p):p.size=n:=by
  have:=(Array.perm_iff_toList_perm.mp g).length_eq
  simpa using this
theorem Good.ne {p:Array Nat} (g:Good n p) {i j:Nat} (hi:i<n) (hj:j<n) (h:i≠j):p.getD i 0≠p.getD j 0:=by
  have hn:p.toList.Nodup:=(Array.perm_iff_toList_perm.mp g).nodup_iff.mpr (by simpa using List.nodup_range)
  have hs:=g.size
  have e1:p.getD i 0=p.toList[i]'(by simpa [hs] using hi):=by simp [Array.getD,hs,hi]
  have e2:p.getD j 0=p.toList[j]'(by simpa [hs] using hj):=by simp [Array.getD,hs,hj]
  rw [e1,e2]
  intro e
  exact h ((List.getElem_inj hn).mp e)
theorem Asc.one {p:Array Nat}:Asc lt p 1:=fun a b h1 h2=>by omega
theorem Asc.more (O:Ord n lt) {p:Array Nat} (g:Good n p) {m:Nat} (h:Asc lt p m) (h1:1≤m) (hm:m<n) (e:lt (p.getD m 0) (p.getD (m - 1) 0)=false):Asc lt p (m+1):=fun a b hab hb=>by
  by_cases q:b<m
  · exact h a b hab q
  · have e':b=m:=by omega
    subst e'
    have l1:lt (p.getD (b - 1) 0) (p.getD b 0)=true:=O.tot _ _ (g.bd (by omega) _) (g.bd (by omega) _) (g.ne (by omega) (by omega) (by omega)) e
    by_cases r:a=b - 1
    · rw [r]; exact l1
    · exact O.tra _ _ _ (h a (b - 1) (by omega) (by omega)) l1
theorem asc_run (O:Ord n lt) {p:Array Nat} (g:Good n p):∀ (f m:Nat),1≤m→m+f≤n→Asc lt p m→KasAll n lt (fun k=>m≤k∧k≤m+f∧Asc lt p k∧(k<m+f→lt (p.getD k 0) (p.getD (k - 1) 0)=true)) (kas_asc p f m)
  | 0,m,_,_,h=>⟨Nat.le_refl _,Nat.le_refl _,h,fun q=>by omega⟩
  | f+1,m,h1,hm,h=>by
    refine ⟨g.bd (by omega) _,g.bd (by omega) _,?_⟩
    cases e:lt (p.getD m 0) (p.getD (m - 1) 0) with
    | true=>exact ⟨Nat.le_refl _,by omega,h,fun _=>e⟩
    | false =>
      refine (show KasAll n lt _ (kas_asc p f (m+1)) from ?_)
      have ih:=asc_run O g f (m+1) (by omega) (by omega) (h.more O g h1 (by omega) e)
      exact KasAll.mono (fun k ⟨a1,a2,a3,a4⟩=>⟨by omega,by omega,a3,fun q=>a4 (by omega)⟩) ih
theorem Dsc.more (O:Ord n lt) {p:Array Nat} {m:Nat} (h:Dsc lt p m) (h1:1≤m) (e:lt (p.getD m 0) (p.getD (m - 1) 0)=true):Dsc lt p (m+1):=fun a b hab hb=>by
  by_cases q:b<m
  · exact h a b hab q
  · have e':b=m:=by omega
    subst e'
    by_cases r:a=b - 1
    · rw [r]; exact e
    · exact O.tra _ _ _ e (h a (b - 1) (by omega) (by omega))
theorem desc_run (O:Ord n lt) {p:Array Nat} (g:Good n p):∀ (f m:Nat),1≤m→m+f≤n→Dsc lt p m→KasAll n lt (fun r=>r.1=p∧r.2.2=0∧m≤r.2.1∧r.2.1≤m+f∧Dsc lt p r.2.1) (kas_desc f p m 0)
  | 0,m,_,_,h=>⟨rfl,rfl,Nat.le_refl _,Nat.le_refl _,h⟩
  | f+1,m,h1,hm,h=>by
    refine ⟨g.bd (by omega) _,g.bd (by omega) _,?_⟩
    cases e:lt (p.getD m 0) (p.getD (m - 1) 0) with
    | true =>
      refine (show KasAll n lt _ (kas_desc f p (m+1) 0) from ?_)
      exact KasAll.mono (fun r ⟨a1,a2,a3,a4,a5⟩=>⟨a1,a2,by omega,by omega,a5⟩) (desc_run O g f (m+1) (by omega) (by omega) (h.more O h1 e))
    | false =>
      refine ⟨g.bd (by omega) _,g.bd (by omega) _,?_⟩
      rw [O.tot _ _ (g.bd (by omega) _) (g.bd (by omega) _) (g.ne (by omega) (by omega) (by omega)) e]
      exact ⟨rfl,rfl,Nat.le_refl _,(show m≤m+(f+1) by omega),h⟩
theorem rev_at {p:Array Nat} {m i:Nat} (hm:m≤p.size):(kas_rev p 0 m).getD i 0=if i<m then p.getD (m - 1 - i) 0 else p.getD i 0:=by
  have e:=getElem?_mirror (xs:=p) (i:=0) (j:=m) hm (m / 2) (by omega) i
  have e':(kas_rev p 0 m)[i]?=if (0≤i∧i<0+m / 2)∨(m - m / 2≤i∧i<m) then p[0+m - 1 - i]? else p[i]?:=e
  have g:∀ (q:Array Nat) (k:Nat),q.getD k 0=q[k]?.getD 0:=fun q k=>by simp [Array.getD_eq_getD_getElem?]
  rw [g,e',g,g]
  by_cases h:i<m
  · rw [if_pos h]
    by_cases h2:(0≤i∧i<0+m / 2)∨(m - m / 2≤i∧i<m)
    · rw [if_pos h2,show 0+m - 1 - i=m - 1 - i by omega]
    · rw [if_neg h2,show m - 1 - i=i by omega]
  · rw [if_neg h,if_neg (by omega)]
theorem Dsc.rev {p:Array Nat} {m:Nat} (h:Dsc lt p m) (hm:m≤p.size):Asc lt (kas_rev p 0 m) m:=fun a b hab hb=>by
  rw [rev_at hm,rev_at hm,if_pos (by omega),if_pos hb]
  exact h _ _ (by omega) (by omega)
theorem count_run (O:Ord n lt) {p:Array Nat} (g:Good n p) (hn:2≤n):KasAll n lt (fun r=>Good n r.2∧1≤r.1∧r.1≤n∧Asc lt r.2 r.1) (kas_count n p):=by
  unfold kas_count
  refine (asc_run O g (n - 1) 1 (Nat.le_refl _) (by omega) Asc.one).bind fun k ⟨k1,k2,k3,k4⟩=>?_
  split
  · exact ⟨g,k1,by show k≤n; omega,k3⟩
  · rename_i hk
    have hkn:k≠n:=fun e=>hk (by simp [e])
    split
    · refine ⟨g.bd (by omega) _,g.bd (by omega) _,?_⟩
      rw [k3 0 (k - 1) (by omega) (by omega)]
      exact ⟨g,k1,by show k≤n; omega,k3⟩
    · have e1:k=1:=by omega
      subst e1
      unfold kas_descPart
      have d2:Dsc lt p 2:=fun a b hab hb=>by
        have e:a=0∧b=1:=by omega
        rw [e.1,e.2]; exact k4 (by omega)
      refine (desc_run O g (n - 2) 2 (by omega) (by omega) d2).bind fun r ⟨r1,r2,r3,r4,r5⟩=>?_
      obtain ⟨p',m,q⟩:=r
      dsimp only at r1 r2 r3 r4 r5 ⊢
      subst r1 r2
      rw [if_neg (by decide)]
      unfold kas_tail3
      have hs:=g.size
      refine (asc_run O (g.rev 0 m) (n - m) m (by omega) (by omega) (r5.rev (by omega))).bind fun k' ⟨a1,a2,a3,_⟩=>?_
      exact ⟨g.rev 0 m,(show 1≤k' by omega),(show k'≤n by omega),a3⟩
theorem place_run (O:Ord n lt) {p:Array Nat} (g:Good n p) {k:Nat} (hk:k<n) (h:Asc lt p k):∀ (f l r:Nat),l≤r→r≤k→r - l≤f→(∀ a,a<l→lt (p.getD a 0) (p.getD k 0)=true)→(∀ a,r≤a→a<k→lt (p.getD k 0) (p.getD a 0)=true) →
    KasAll n lt (fun m=>m≤k∧(∀ a,a<m→lt (p.getD a 0) (p.getD k 0)=true)∧∀ a,m≤a→a<k→lt (p.getD k 0) (p.getD a 0)=true) (kas_place p k f l r)
  | 0,l,r,h1,h2,h3,h4,h5=>⟨by omega,h4,fun a q1 q2=>h5 a (by omega) q2⟩
  | f+1,l,r,h1,h2,h3,h4,h5=>by
    unfold kas_place
    split
    · exact ⟨by omega,h4,fun a q1 q2=>h5 a (by omega) q2⟩
    · refine ⟨g.bd (by omega) _,g.bd (by omega) _,?_⟩
      cases e:lt (p.getD k 0) (p.getD ((l+r) / 2) 0) with
      | true =>
        refine (show KasAll n lt _ (kas_place p k f l ((l+r) / 2)) from ?_)
        refine place_run O g hk h f l ((l+r) / 2) (by omega) (by omega) (by omega) h4 fun a q1 q2=>?_
        by_cases q:a=(l+r) / 2
        · rw [q]; exact e
        · exact O.tra _ _ _ e (h _ _ (by omega) q2)
      | false =>
        refine (show KasAll n lt _ (kas_place p k f ((l+r) / 2+1) r) from ?_)
        have e2:=O.tot _ _ (g.bd (by omega) _) (g.bd (by omega) _) (g.ne hk (by omega) (by omega)) e
        refine place_run O g hk h f ((l+r) / 2+1) r (by omega) (by omega) (by omega) (fun a q1=>?_) h5
        by_cases q:a=(l+r) / 2
        · rw [q]; exact e2
        · exact O.tra _ _ _ (h a ((l+r) / 2) (by omega) (by omega)) e2
theorem bub_at {p:Array Nat} {k m i:Nat} (hk:k<p.size) (hm:m≤k):(bubble p k (k - m)).getD i 0=if i=m then p.getD k 0 else if m<i∧i≤k then p.getD (i - 1) 0 else p.getD i 0:=by
  have e:=getElem?_bubble (xs:=p) hk (k - m) (by omega) i
  have g:∀ (q:Array Nat) (k:Nat),q.getD k 0=q[k]?.getD 0:=fun q k=>by simp [Array.getD_eq_getD_getElem?]
  rw [g,e,g,g,g,show k - (k - m)=m by omega]
  by_cases h:i=m
  · rw [if_pos h,if_pos h]
  · rw [if_neg h,if_neg h]
    by_cases h2:m<i∧i≤k
    · rw [if_pos h2,if_pos h2]
    · rw [if_neg h2,if_neg h2]
theorem bin_run (O:Ord n lt):∀ (f:Nat) {p:Array Nat} (g:Good n p) (k:Nat),k+f=n→Asc lt p k→KasAll n lt (fun p=>Good n p∧Asc lt p n) (kas_bin f p k)
  | 0,p,g,k,hk,h=>⟨g,by rw [← hk]; exact h⟩
  | f+1,p,g,k,hk,h=>by
    unfold kas_bin
    refine (place_run O g (by omega) h k 0 k (by omega) (by omega) (by omega) (fun a q=>by omega) (fun a q1 q2=>by omega)).bind fun m ⟨m1,m2,m3⟩=>?_
    have hs:=g.size
    refine bin_run O f (g.bub _ _) (k+1) (by omega) fun a b hab hb=>?_
    rw [bub_at (by omega) m1,bub_at (by omega) m1]
    by_cases ha:a=m
    · rw [if_pos ha,if_neg (by omega),if_pos (by omega)]
      exact m3 _ (by omega) (by omega)
    · rw [if_neg ha]
      by_cases hb':b=m
      · rw [if_pos hb',if_neg (by omega)]
        exact m2 a (by omega)
      · rw [if_neg hb']
        by_cases q1:m<a∧a≤k
        · rw [if_pos q1,if_pos (by omega)]
          exact h _ _ (by omega) (by omega)
        · rw [if_neg q1]
          by_cases q2:m<b∧b≤k
          · rw [if_pos q2]
            exact h _ _ (by omega) (by omega)
          · rw [if_neg q2]
            exact h _ _ hab (by omega)
theorem sort_run (O:Ord n lt) (hn:2≤n):KasAll n lt (fun p=>Good n p∧Asc lt p n) (kas_sort n):=by
  unfold kas_sort
  refine (count_run O (Array.Perm.refl _) hn).bind fun r ⟨h1,h2,h3,h4⟩=>?_
  split
  · rename_i q
    rw [Nat.max_eq_left h2]
    exact bin_run O _ h1 _ (by omega) h4
  · rename_i q
    have e:r.1=n:=by omega
    exact ⟨h1,e ▸ h4⟩
end
end HT
set_option Elab.async false
set_option linter.all false
set_option maxRecDepth 100000
namespace L2
open PySem PySem.Spec PySem.W PyProof.Rows HT
theorem valsC {x:V} {xs:List V} {us:List Value} (r:Vals (x::xs) us):∃ u us',us=u::us'∧RelV x u∧Vals xs us':=by
  cases r with
  | cons h t=>exact ⟨_,_,rfl,h,t⟩
def lexF (fin:Bool):List Int→List Int→Bool
  | x::a,y::b=>if x=y then lexF fin a b else decide (x<y)
  | _,_=>fin
def lexB (a b:List Int):Bool:=lexF (decide (a.length<b.length)) a b
theorem lexB_nil (a:List Int):lexB a []=false:=by
  unfold lexB; cases a <;> rfl
theorem lexB_nc (y:Int) (b:List Int):lexB [] (y::b)=true:=by unfold lexB; rfl
theorem lexB_cc (x y:Int) (a b:List Int):lexB (x::a) (y::b)=if x=y then lexB a b else decide (x<y):=by
  show (if x=y then lexF (decide ((x::a).length<(y::b).length)) a b else decide (x<y))=_
  rw [List.length_cons,List.length_cons,show decide (a.length+1<b.length+1)=decide (a.length<b.length) by simp]
  rfl
theorem lex_tot:∀ {a b:List Int},a≠b→lexB a b=false→lexB b a=true
  | [],[],h,_=>absurd rfl h
  | [],y::b,_,e=>by rw [lexB_nc] at e; cases e
  | x::a,[],_,_=>lexB_nc _ _
  | x::a,y::b,h,e=>by
    rw [lexB_cc] at e ⊢
    by_cases q:x=y
    · subst q
      rw [if_pos rfl] at e ⊢
      exact lex_tot (fun z=>h (by rw [z])) e
    · rw [if_neg q] at e
      rw [if_neg (Ne.symm q)]
      have:=of_decide_eq_false e
      exact decide_eq_true (by omega)
theorem lex_tra:∀ {a b c:List Int},lexB a b=true→lexB b c=true→lexB a c=true
  | a,b,[],_,h=>by rw [lexB_nil] at h; cases h
  | [],b,z::c,_,_=>lexB_nc _ _
  | x::a,[],z::c,h,_=>by rw [lexB_nil] at h; cases h
  | x::a,y::b,z::c,h1,h2=>by
    rw [lexB_cc] at h1 h2 ⊢
    by_cases q1:x=y
    · subst q1
      rw [if_pos rfl] at h1
      by_cases q2:x=z
      · subst q2
        rw [if_pos rfl] at h2 ⊢
        exact lex_tra h1 h2
      · rw [if_neg q2] at h2 ⊢; exact h2
    · rw [if_neg q1] at h1
      have h1:=of_decide_eq_true h1
      by_cases q2:y=z
      · subst q2
        rw [if_neg q1]; exact decide_eq_true h1
      · rw [if_neg q2] at h2
        have h2:=of_decide_eq_true h2
        rw [if_neg (by omega)]; exact decide_eq_true (by omega)
theorem lex_irr {a:List Int}:lexB a a=false:=by
  induction a with
  | nil=>exact lexB_nil _
  | cons x a ih=>rw [lexB_cc,if_pos rfl]; exact ih
abbrev ltC (cs:List (List Int)):Nat→Nat→Bool:=fun i j=>lexB (cs.getD i []) (cs.getD j [])
theorem ord_of {cs:List (List Int)} (h:cs.Nodup):Ord cs.length (ltC cs):=⟨fun i j hi hj ne e=>lex_tot (fun z=>by
    have e1:cs.getD i []=cs[i]:=by simp [hi]
    have e2:cs.getD j []=cs[j]:=by simp [hj]
    rw [e1,e2] at z
    exact ne ((List.getElem_inj h).mp z)) e,fun i j k h1 h2=>lex_tra h1 h2⟩
section
variable {prog:Program} {w:World} {A:Around} {E:Value→Shared→Prop} {s:Shared} {Q:Bool→Shared→Prop}
theorem katLex_ints {fin:Bool}:∀ {a b:List Int} {us vs:List Value} {i:Nat},Vals (a.map V.int) us→Vals (b.map V.int) vs→Q (lexF fin a b) s→KatLex prog w A true fin Q (us.zip vs) i s
  | [],b,us,vs,i,ha,hb,q=>by cases ha; exact kat_nil (by unfold lexF at q; exact q)
  | x::a,[],us,vs,i,ha,hb,q=>by
    cases hb
    cases us with
    | nil=>exact kat_nil (by unfold lexF at q; exact q)
    | cons u us=>exact kat_nil (by unfold lexF at q; exact q)
  | x::a,y::b,us,vs,i,ha,hb,q=>by
    rw [List.map_cons] at ha hb
    obtain ⟨u,us',rfl,⟨t,rfl⟩,ra⟩:=valsC ha
    obtain ⟨v,vs',rfl,⟨t',rfl⟩,rb⟩:=valsC hb
    rw [List.zip_cons_cons]
    refine kat_cons (wpAny_eqBool_int ?_)
    unfold lexF at q
    by_cases h:x=y
    · rw [if_pos h] at q
      rw [show (x == y)=true by simp [h]]
      exact kat_yes (katLex_ints ra rb q)
    · rw [if_neg h] at q
      rw [show (x == y)=false by simp [h]]
      refine kat_no ?_
      cases (true&&i == 0) with
      | true=>exact oneLt_int q
      | false=>exact kat_one _ _ (lt_int q)
def TupAt (h:Heap) (v:Value) (c:List Int):Prop:=∃ b its,v=.ref b∧IsTup h b (List.toArray its)∧Vals (c.map V.int) its∧c≠[]
abbrev TupsAt (h:Heap):List Value→List (List Int)→Prop:=Paired (TupAt h)
theorem TupsAt.get {h:Heap}:∀ {vs:List Value} {cs:List (List Int)} {i:Nat},TupsAt h vs cs→i<vs.length→TupAt h (vs.getD i Value.none) (cs.getD i [])
  | _,_,_,.nil,hi=>by simp at hi
  | _,_,0,.cons t r,hi=>t
  | v::vs,c::cs,i+1,.cons t r,hi=>by
    have:=TupsAt.get (i:=i) r (by simpa using hi)
    simpa using this
theorem TupsAt.firsts {h:Heap}:∀ {vs:List Value} {cs:List (List Int)},TupsAt h vs cs→∃ fs,KatTups h vs fs∧fs.length=vs.length∧∀ v∈fs,∃ i t,v=Value.int i t
  | _,_,.nil=>⟨[],KatTups.nil,rfl,fun v hv=>by cases hv⟩
  | v::vs,c::cs,.cons t r=>by
    obtain ⟨fs,h1,h2,h3⟩:=TupsAt.firsts r
    obtain ⟨b,its,rfl,⟨o,ho,hc,n,hd⟩,hv,hne⟩:=t
    cases c with
    | nil=>exact absurd rfl hne
    | cons x c =>
      rw [List.map_cons] at hv
      obtain ⟨u,us,rfl,⟨t,rfl⟩,_⟩:=valsC hv
      exact ⟨.int x t::fs,KatTups.cons ho hc hd (by simp) h1,by simp [h2],fun v hv=>by
        rcases List.mem_cons.mp hv with rfl | hv
        · exact ⟨_,_,rfl⟩
        · exact h3 v hv⟩
theorem TupsAt.keep {h h':Heap} (k:∀ b o,h.get? b=some o→o.cls=.type "tuple" → h'.get? b=some o):∀ {vs:List Value} {cs:List (List Int)},TupsAt h vs cs→TupsAt h' vs cs
  | _,_,.nil=>.nil
  | _,_,.cons ⟨b,its,e,⟨o,ho,hc,hd⟩,hv,hne⟩ r=>.cons ⟨b,its,e,⟨o,k b o ho hc,hc,hd⟩,hv,hne⟩ (TupsAt.keep k r)
theorem sort_any {n:Nat} {lt:Nat→Nat→Bool} (hn:2≤n):KasAll n lt (fun p=>Good n p∧(Ord n lt→Asc lt p n)) (kas_sort n):=by
  by_cases O:Ord n lt
  · exact KasAll.mono (fun p h=>⟨h.1,fun _=>h.2⟩) (sort_run O hn)
  · exact KasAll.mono (fun p h=>⟨h,fun z=>absurd z O⟩) (all_sort (by omega))
theorem sort_tups {a:Addr} {vs:List Value} {cs:List (List Int)} {n:Nat} {P:PySem.Fin→Shared→Prop} (ho:s.heap.get? a=some (seqObj "list" vs.toArray n)) (ht:TupsAt s.heap vs cs) (h64:vs.length<64)
    (h:∀ p:Array Nat,Good vs.length p→(Ord vs.length (ltC cs)→Asc (ltC cs) p vs.length)→P (.done (.ret .none)) { s with heap:=sortedHeap s.heap a vs (List.toArray (p.toList.map fun i=>vs.getD i Value.none)) }) :
    wpAny (model prog w) A (Builtin.«list.sort» ⟨[.ref a],[]⟩) P E s:=by
  rw [list_sort_plain]
  have ha:a<s.heap.objs.size:=Heap.lt_size ho
  refine wpAny_bind (listItems_at ho rfl ?_)
  refine wpAny_bind (listUpdate_at ho rfl ?_ (by rw [List.size_toArray,sizeLine_eq]; omega) (Nat.zero_le _))
  obtain ⟨e1,ho1⟩:∃ e1,(s.heap.update a (Obj.mapSeq fun _=>#[])).get? a=some (seqObj "list" #[] e1):=⟨_,get?_update_seq ho (fun _=>#[])⟩
  refine wpAny_bind (seqEpoch_at ho1 rfl ?_)
  refine wpAny_bind (wpAny_newTuple ?_ (by show vs.length≤_; rw [sizeLine_eq]; omega))
  refine wpAny_bind (wpAny_newList ?_ (Nat.zero_le _))
  refine wpAny_holding ?_
  have ho6:(((s.heap.update a (Obj.mapSeq fun _=>#[])).push (seqObj "tuple" vs.toArray 0)).push (seqObj "list" #[] 0)).get? a=some (seqObj "list" #[] e1):=by
    rw [Heap.get?_push_ne _ _ _ (by rw [size_push',Heap.size_update]; exact Nat.ne_of_lt (Nat.lt_succ_of_lt ha)),Heap.get?_push_ne _ _ _ (by rw [Heap.size_update]; exact Nat.ne_of_lt ha)]
    exact ho1
  show wpAny (model prog w) A _ P E { s with heap:=((s.heap.update a (Obj.mapSeq fun _=>#[])).push (seqObj "tuple" vs.toArray 0)).push (seqObj "list" #[] 0) }
  dsimp only
  have fin:∀ st':SortSt,∀ p:Array Nat,Good vs.length p→(Ord vs.length (ltC cs)→Asc (ltC cs) p vs.length)→(arrOf st').map (·.2)=List.toArray (p.toList.map fun i=>vs.getD i Value.none) →
      P (.done (.ret .none)) { s with heap:=sortedHeap s.heap a vs ((arrOf st').map (·.2)) }:=by
    intro st' p hp ho hs
    rw [hs]; exact h p hp ho
  have ht6:TupsAt (((s.heap.update a (Obj.mapSeq fun _=>#[])).push (seqObj "tuple" vs.toArray 0)).push (seqObj "list" #[] 0)) vs cs:=ht.keep fun b o hb hc=>by
    have hne:b≠a:=fun e=>by
      subst e; rw [ho] at hb; cases hb
      exact absurd (show Value.type "list" = Value.type "tuple" from hc) (by decide)
    exact Heap.get?_push_of_some _ (Heap.get?_push_of_some _ (by rw [Heap.get?_update_ne _ _ _ _ hne]; exact hb))
  by_cases h2:vs.toArray.size<2
  · rw [if_pos h2,if_pos h2]
    refine wpAny_bind (wpAny_pure ?_)
    rw [StateT.run_pure]
    refine wpAny_bind (wpAny_pure ?_)
    dsimp only
    refine wpAny_bind (seqEpoch_at ho6 rfl ?_)
    refine wpAny_bind (listUpdate_at ho6 rfl ?_ (hsz2:=by rw [Array.size_map]; show (pairsOf vs).size≤_; rw [pairsOf_size,sizeLine_eq]; omega))
    simp only [bne_self_eq_false,Bool.false_eq_true,if_false]
    refine wpAny_pure (fin (SortSt.mk' general' (vs.toArray.zip vs.toArray) #[] 7 none) (List.toArray (List.range vs.length)) (Array.Perm.refl _) (fun _ a b h1 h3=>by rw [List.size_toArray] at h2; omega) ?_)
    have e:=kat_snds (ks:=vs) (vs:=vs) (st:=SortSt.mk' general' (vs.toArray.zip vs.toArray) #[] 7 none) (p:=List.toArray (List.range vs.length)) rfl (by
      have e:=kas_range (vs.toArray.zip vs.toArray)
      rw [show (vs.toArray.zip vs.toArray).size=vs.length by simp] at e
      exact e.symm)
    exact e
  · rw [if_neg h2,if_neg h2]
    have hl2:2≤vs.length:=by rw [List.size_toArray] at h2; omega
    obtain ⟨fs,k1,k2,k3⟩:=ht6.firsts
    refine wpAny_bind (kat_kind (T:=.type "int") k1 (by omega) (fun v hv=>?_) rfl ?_)
    · obtain ⟨i,t,rfl⟩:=k3 v hv
      exact .now
    refine wpAny_bind (wpAny_mono (kat_run (ks:=vs) (vs:=vs) (G:=fun p s'=>s'={ s with heap:=((s.heap.update a (Obj.mapSeq fun _=>#[])).push (seqObj "tuple" vs.toArray 0)).push (seqObj "list" #[] 0) }∧Good vs.length p∧(Ord vs.length (ltC cs)→Asc (ltC cs) p vs.length))
      (Q:=fun st' s'=>s'={ s with heap:=((s.heap.update a (Obj.mapSeq fun _=>#[])).push (seqObj "tuple" vs.toArray 0)).push (seqObj "list" #[] 0) }∧failedOf st'=none∧∃ p:Array Nat,p.size=vs.length∧(Good vs.length p∧(Ord vs.length (ltC cs)→Asc (ltC cs) p vs.length))∧arrOf st'=p.map (kas_item (vs.toArray.zip vs.toArray)))
      rfl hl2 h64 (fun p' st' s' a1 a2 a3 a4=>⟨a4.1,a3,p',a1,a4.2,a2⟩)
      (KasAll.wp (n:=vs.length) (lt:=ltC cs) (R:=fun p=>Good vs.length p∧(Ord vs.length (ltC cs)→Asc (ltC cs) p vs.length)) (fun i j C hi hj hC=>?_) (fun p hp=>⟨rfl,hp⟩) (sort_any hl2))) ?_ fun _ _ e=>e)
    · obtain ⟨b,its,e1',⟨o,hb,hc,n',hd⟩,hv,_⟩:=ht6.get hi
      obtain ⟨b2,its2,e2',⟨o2,hb2,hc2,n2,hd2⟩,hv2,_⟩:=ht6.get hj
      unfold kas_ask
      rw [e1',e2']
      refine kat_lt hb hd hb2 hd2 ?_
      refine katLex_ints hv hv2 ?_
      have l1:=hv.length
      have l2:=hv2.length
      rw [List.length_map] at l1 l2
      rw [List.size_toArray,List.size_toArray,← l1,← l2]
      exact hC
    rintro ⟨⟨⟩,st'⟩ s' ⟨rfl,hf,p,hp,hg,har⟩
    dsimp only
    have hout:=kat_snds rfl har
    refine wpAny_bind (seqEpoch_at ho6 rfl ?_)
    refine wpAny_bind (listUpdate_at ho6 rfl ?_ (hsz2:=by rw [hout,List.size_toArray,List.length_map,Array.length_toList,hp,sizeLine_eq]; omega))
    rw [hf]
    simp only [bne_self_eq_false,Bool.false_eq_true,if_false]
    exact wpAny_pure (fin st' p hg.1 hg.2 hout)
theorem sorted_tups {l:Addr} {vs:List Value} {cs:List (List Int)} {Q:Value→Shared→Prop} (hl:s.heap.IsList l vs.toArray) (ht:TupsAt s.heap vs cs) (h64:vs.length<64)
    (h:∀ (p:Array Nat) (h':Heap) (D:Addr) (c:Nat),Good vs.length p→(Ord vs.length (ltC cs)→Asc (ltC cs) p vs.length)→(∀ b o,s.heap.get? b=some o→h'.get? b=some o)→s.heap.objs.size≤D→h'.get? D=some (seqObj "list" (List.toArray (p.toList.map fun i=>vs.getD i Value.none)) c)→Q (.ref D) { s with heap:=h' }) :
    wpAny (model prog w) A (call (.builtin "sorted") [.ref l]) Q E s:=by
  refine Calls.call_function_entry kind_sorted plain_sorted entry_sorted (args_sorted1 _) ?_
  unfold Builtin.«sorted»
  refine wpAny_bind (m:=checkCount "sorted" 1 1 _) (wpAny_pure ?_)
  refine wpAny_bind (collect_list hl ?_ (by rw [sizeLine_eq]; omega))
  refine wpAny_bind (wpAny_newList ?_ (by rw [sizeLine_eq]; omega))
  have hsz:((s.heap.push (seqObj "list" #[] 0)).update s.heap.objs.size (Obj.mapSeq (· ++ vs.toArray))).objs.size=s.heap.objs.size+1:=by
    rw [Heap.size_update,size_push']
  have hoL:(((s.heap.push (seqObj "list" #[] 0)).update s.heap.objs.size (Obj.mapSeq (· ++ vs.toArray))).push (seqObj "list" vs.toArray 0)).get? (s.heap.objs.size+1)=some (seqObj "list" vs.toArray 0):=by
    rw [← hsz]; exact Heap.get?_push_size _ rfl
  have keep:∀ b o,s.heap.get? b=some o→(((s.heap.push (seqObj "list" #[] 0)).update s.heap.objs.size (Obj.mapSeq (· ++ vs.toArray))).push (seqObj "list" vs.toArray 0)).get? b=some o:=fun b o q=>by
    have hlt:b<s.heap.objs.size:=Heap.lt_size q
    rw [Heap.get?_push_ne _ _ _ (by rw [hsz]; exact Nat.ne_of_lt (Nat.lt_succ_of_lt hlt)),Heap.get?_update_ne _ _ _ _ (Nat.ne_of_lt hlt),Heap.get?_push_ne _ _ _ (Nat.ne_of_lt hlt)]
    exact q
  show wpAny _ _ _ _ _ { s with heap:=((s.heap.push (seqObj "list" #[] 0)).update s.heap.objs.size (Obj.mapSeq (· ++ vs.toArray))).push (seqObj "list" vs.toArray 0) }
  rw [hsz]
  refine wpAny_bind (wpAny_holding (wpAny_call_entry slot_list_sort ⟨_,hoL,rfl⟩ entry_list_sort ?body (args_list_sort _)))
  generalize hH:((s.heap.push (seqObj "list" #[] 0)).update s.heap.objs.size (Obj.mapSeq (· ++ vs.toArray))).push (seqObj "list" vs.toArray 0)=h1 at *
  refine sort_tups (s:={ s with heap:=h1 }) hoL (ht.keep fun b o hb _=>keep b o hb) h64 fun p hp ho=>⟨_,rfl,wpAny_pure ⟨_,rfl,?_⟩⟩
  have hD:s.heap.objs.size+1<h1.objs.size:=Heap.lt_size hoL
  unfold sortedHeap
  have o1:(h1.update (s.heap.objs.size+1) (Obj.mapSeq fun _=>#[])).get? (s.heap.objs.size+1)=some (seqObj "list" #[] _):=get?_update_seq hoL (fun _=>#[])
  have o2:=Heap.get?_push_of_some (seqObj "list" #[] 0) (Heap.get?_push_of_some (seqObj "tuple" vs.toArray 0) o1)
  refine h p _ (s.heap.objs.size+1) _ hp ho (fun b o q=>?_) (Nat.le_succ _) (get?_update_seq o2 fun _=>List.toArray (p.toList.map fun i=>vs.getD i Value.none))
  have hlt:b<s.heap.objs.size:=Heap.lt_size q
  have hne:b≠s.heap.objs.size+1:=Nat.ne_of_lt (Nat.lt_succ_of_lt hlt)
  rw [Heap.get?_update_ne _ _ _ _ hne]
  exact Heap.get?_push_of_some _ (Heap.get?_push_of_some _ (by rw [Heap.get?_update_ne _ _ _ _ hne]; exact keep b o q))
end
@[irreducible] def rSorted (K:PySem.W.Frag):List V→Hp→VK→Prop:=fun xs H Q=>∃ (p:Addr) (ys:List V) (cs:List (List Int)),xs=[.ref p]∧SqL K H p ys∧RepL H (cs.map fun c=>PyData.tuple (c.map .int)) ys∧(∀ c∈cs,c≠[])∧ys.length<64 ∧
  ∀ q (ix:List Nat) H',ix.Perm (List.range ys.length)→(cs.Nodup→(ix.map fun i=>cs.getD i []).Pairwise fun a b=>lexB a b=true)→H q=none→H' q=some (.lst (ix.map fun i=>ys.getD i .non))→Same H H'→Q (.ref q) H'
theorem rsrt {K:PySem.W.Frag} {H:Hp} {Q:VK} {p:Addr} {ys:List V} {cs:List (List Int)} (h:SqL K H p ys) (r:RepL H (cs.map fun c=>PyData.tuple (c.map .int)) ys) (hc:∀ c∈cs,c≠[]) (hz:ys.length<64)
    (q:∀ q (ix:List Nat) H',ix.Perm (List.range ys.length)→(cs.Nodup→(ix.map fun i=>cs.getD i []).Pairwise fun a b=>lexB a b=true)→H q=none→H' q=some (.lst (ix.map fun i=>ys.getD i .non))→Same H H'→Q (.ref q) H'):rSorted K [.ref p] H Q:=by
  unfold rSorted; exact ⟨p,ys,cs,rfl,h,r,hc,hz,q⟩
theorem tups_of {X:Cx} {pins:List (Addr × Obj)} {σ:St} {H:Hp} {s:Shared} (I:Inv X pins σ H s):∀ {cs:List (List Int)} {ys:List V} {us:List Value},RepL H (cs.map fun c=>PyData.tuple (c.map .int)) ys→(∀ c∈cs,c≠[])→Vals ys us→TupsAt s.heap us cs
  | [],ys,us,r,hc,v=>by
    unfold RepL at r
    cases (show ys=[] from r)
    cases v
    exact .nil
  | c::cs,ys,us,r,hc,v=>by
    rw [List.map_cons] at r
    unfold RepL at r
    obtain ⟨y,ys',rfl,r1,r2⟩:=r
    obtain ⟨u,us',rfl,rv,v'⟩:=valsC v
    refine .cons ?_ (tups_of I r2 (fun c h=>hc c (List.mem_cons_of_mem _ h)) v')
    unfold Rep at r1
    obtain ⟨a,xs,rfl,h1,h2⟩:=r1
    cases rv
    obtain ⟨its,rr,pl,hzz⟩:=I.tuple (SqT.of h1)
    have hx:xs=c.map V.int:=by
      clear rr h1 hc hzz
      induction c generalizing xs with
      | nil=>unfold RepL at h2; exact h2
      | cons z c ih =>
        rw [List.map_cons] at h2
        unfold RepL at h2
        obtain ⟨x,xs',rfl,h3,h4⟩:=h2
        cases (show x=V.int z from h3)
        rw [ih _ h4]; rfl
    subst hx
    exact ⟨a,its,rfl,pl,rr,hc c (List.mem_cons_self ..)⟩
theorem vals_ix {ys:List V} {us:List Value} (v:Vals ys us):∀ ix:List Nat,(∀ i∈ix,i<ys.length)→Vals (ix.map fun i=>ys.getD i .non) (ix.map fun i=>us.getD i Value.none)
  | [],_=>.nil
  | i::ix,h=>by
    have hi:=h i (List.mem_cons_self ..)
    obtain ⟨u,hu,ru⟩:=v.get (i:=i) (x:=ys[i]) (by simp [hi])
    refine .cons ?_ (vals_ix v ix fun j hj=>h j (List.mem_cons_of_mem _ hj))
    have e1:ys.getD i .non=ys[i]:=by simp [hi]
    have e2:us.getD i Value.none=u:=by rw [List.getD_eq_getElem?_getD,hu]; rfl
    show RelV (ys.getD i .non) (us.getD i Value.none)
    rw [e1,e2]; exact ru
theorem cl_srt {X:Cx} (K:PySem.W.Frag) (hK:X.K=K:=by rfl):CallR X (.builtin "sorted") (rSorted K):=by
  subst hK
  unfold rSorted
  intro pins s σ H xs us Q I r h
  obtain ⟨p,ys,cs,rfl,hq,rep,hc,hz,q⟩:=h
  obtain ⟨u,rfl,rx⟩:=vals1 r
  cases rx
  obtain ⟨its,r',pl,hz'⟩:=I.list hq
  have hlen:=r'.length
  obtain ⟨o,n,ho,hcl,hdd,hd⟩:=pl
  refine sorted_tups ⟨o,ho,hcl,n,hd⟩ (tups_of I rep hc r') (by omega) fun pm h' D c hg ho keep hD hget=>?_
  have hperm:pm.toList.Perm (List.range ys.length):=by
    have:=(Array.perm_iff_toList_perm.mp hg)
    rw [hlen]; simpa using this
  have hlt:∀ i∈pm.toList,i<ys.length:=fun i hi=>by
    have:=hperm.mem_iff.mp hi
    simpa using this
  have hl2:(pm.toList.map fun i=>ys.getD i .non).length=ys.length:=by rw [List.length_map,hperm.length_eq,List.length_range]
  refine ⟨.ref D,upd H D (.lst (pm.toList.map fun i=>ys.getD i .non)),I.laid (t':=s.toks) keep hD ⟨by rw [hl2]; exact hz',_,c,vals_ix r' _ hlt,hget⟩,rfl,?_⟩
  have hn:=I.hok.fresh hD
  refine q D pm.toList _ hperm (fun hnd=>?_) hn upd_same (Same.upd hn)
  have lcs:cs.length=its.length:=by rw [← hlen,rep.len,List.length_map]
  have ha:=ho (lcs ▸ ord_of hnd)
  have hsz:=hg.size
  rw [List.pairwise_map,List.pairwise_iff_getElem]
  intro i j hi hj hij
  have hi':i<pm.size:=by simpa using hi
  have hj':j<pm.size:=by simpa using hj
  have e1:pm.toList[i]=pm.getD i 0:=by rw [Array.getElem_toList]; exact (by simp [Array.getD,hi']:pm.getD i 0=pm[i]).symm
  have e2:pm.toList[j]=pm.getD j 0:=by rw [Array.getElem_toList]; exact (by simp [Array.getD,hj']:pm.getD j 0=pm[j]).symm
  rw [e1,e2]
  exact ha i j hij (by rw [← hsz]; simpa using hj)
end L2
set_option Elab.async false
set_option linter.all false
set_option maxRecDepth 100000
namespace L2
open PySem PySem.Spec PySem.W PyProof.Rows HT
abbrev cD (c:List Int):PyData:=.tuple (c.map .int)
theorem eqvI (x y:Int):PyData.eqv (.int x) (.int y)=decide (x=y):=by
  show (x == y)=_
  rw [Bool.beq_eq_decide_eq]
theorem eqvIs:∀ a b:List Int,PyData.eqvAll (a.map PyData.int) (b.map PyData.int)=decide (a=b)
  | [],[]=>by simp [PyData.eqvAll]
  | [],_::_=>by simp [PyData.eqvAll]
  | _::_,[]=>by simp [PyData.eqvAll]
  | x::a,y::b=>by
    have ih:=eqvIs a b
    rw [List.map_cons,List.map_cons]
    show (PyData.eqv (.int x) (.int y)&&PyData.eqvAll _ _)=_
    rw [ih,eqvI]
    by_cases h:x=y <;> by_cases h':a=b <;> simp [h,h']
theorem eqvC (a b:List Int):PyData.eqv (cD a) (cD b)=decide (a=b):=eqvIs a b
theorem layIs:∀ a:List Int,PyData.canLayAll0 (a.map PyData.int)=true
  | []=>rfl
  | x::a=>by
    show (PyData.canLay0 (.int x)&&PyData.canLayAll0 (a.map PyData.int))=true
    rw [layIs a]; rfl
theorem depIs:∀ a:List Int,PyData.depthAll (a.map PyData.int)≤1
  | []=>by show 0≤1; omega
  | x::a=>by
    have:=depIs a
    show max (PyData.depth (.int x)) (PyData.depthAll (a.map PyData.int))≤1
    have:PyData.depth (.int x)≤1:=by simp [PyData.depth]
    omega
theorem cD_rep {H:Hp} {c:List Int} {v:V} (h:Rep H (cD c) v):∃ a,v=.ref a∧H a=some (.tup (c.map V.int)):=by
  unfold Rep at h
  obtain ⟨a,xs,rfl,h1,h2⟩:=h
  have hx:xs=c.map V.int:=by
    clear h1
    induction c generalizing xs with
    | nil=>unfold RepL at h2; exact h2
    | cons z c ih =>
      rw [List.map_cons] at h2
      unfold RepL at h2
      obtain ⟨x,xs',rfl,h3,h4⟩:=h2
      cases (show x=V.int z from h3)
      rw [ih _ h4]; rfl
  subst hx
  exact ⟨a,rfl,h1⟩
theorem map_int_inj {a b:List Int} (h:a.map V.int=b.map V.int):a=b:=by
  induction a generalizing b with
  | nil=>cases b with
    | nil=>rfl
    | cons _ _=>cases h
  | cons x a ih=>cases b with
    | nil=>cases h
    | cons y b =>
      rw [List.map_cons,List.map_cons] at h
      injection h with h1 h2
      injection h1 with h1
      rw [h1,ih h2]
open Classical in
noncomputable def eqC (H:Hp) (c:List Int) (u:Value):Bool:=decide (∃ b,u=.ref b∧H b=some (.tup (c.map V.int)))
section
variable {X:Cx} {pins:List (Addr × Obj)} {σ:St} {H:Hp} {s:Shared}
theorem eqC_at {c c':List Int} {y:V} {u:Value} (h:Rep H (cD c') y) (r:RelV y u):eqC H c u=decide (c'=c):=by
  obtain ⟨a,rfl,ha⟩:=cD_rep h
  cases r
  unfold eqC
  rw [Bool.eq_iff_iff]
  simp only [decide_eq_true_eq]
  constructor
  · rintro ⟨b,e2,hb⟩
    cases e2
    rw [ha] at hb
    injection hb with hb
    injection hb with hb
    exact map_int_inj hb
  · rintro rfl
    exact ⟨a,rfl,ha⟩
theorem eqC_any {c:List Int}:∀ {cs:List (List Int)} {ys:List V} {us:List Value},RepL H (cs.map cD) ys→Vals ys us→us.any (eqC H c)=decide (c∈cs)
  | [],ys,us,r,v=>by
    unfold RepL at r
    cases (show ys=[] from r)
    cases v
    rfl
  | c' :: cs,ys,us,r,v=>by
    rw [List.map_cons] at r
    unfold RepL at r
    obtain ⟨y,ys',rfl,r1,r2⟩:=r
    obtain ⟨u,us',rfl,rv,v'⟩:=valsC v
    rw [List.any_cons,eqC_at r1 rv,eqC_any r2 v']
    by_cases h:c'=c
    · subst h; simp
    · have h':¬ c=c':=fun e=>h e.symm
      simp [h,h']
theorem eqC_mem (I:Inv X pins σ H s) (hu:X.A.units+64<cLine) {c:List Int} {v:Value} {as:List Addr} (rc:Reads s.heap v (cD c) as):∀ {cs:List (List Int)} {ys:List V} {us:List Value},RepL H (cs.map cD) ys→Vals ys us →
    ∀ u∈us,SeqAt.EqAt X.A.in1 s u v (eqC H c u)
  | [],ys,us,r,vv=>by
    unfold RepL at r
    cases (show ys=[] from r)
    cases vv
    exact fun u hu=>by cases hu
  | c' :: cs,ys,us,r,vv=>by
    rw [List.map_cons] at r
    unfold RepL at r
    obtain ⟨y,ys',rfl,r1,r2⟩:=r
    obtain ⟨u,us',rfl,rv,v'⟩:=valsC vv
    intro u' hu'
    rcases List.mem_cons.mp hu' with rfl | hu'
    · obtain ⟨bs,rb⟩:=r1.reads I rv
      rw [eqC_at r1 rv,← eqvC]
      refine SeqAt.eqAt_reads (cD c') (cD c) _ s _ _ bs as rb rc (layIs c') (layIs c) ?_
      have h1:(cD c').depth≤2:=by
        have:=depIs c'
        simp only [PyData.depth]
        omega
      have:X.A.in1.units≤X.A.units+1:=by
        first
          | exact Nat.le_refl _
          | (unfold Around.in1; simp)
      omega
    · exact eqC_mem I hu rc r2 v' u' hu'
end
@[irreducible] def rInT (K:PySem.W.Frag) (neg:Bool):R2:=fun x y H Q=>∃ (p:Addr) (ys:List V) (cs:List (List Int)) (c:List Int),y=.ref p∧(SqL K H p ys∨SqT K H p ys)∧RepL H (cs.map cD) ys∧RepK K H (cD c) x∧Q (.bl (if neg then !decide (c∈cs) else decide (c∈cs))) H
theorem riT {K:PySem.W.Frag} {neg:Bool} {x:V} {p:Addr} {ys:List V} {cs:List (List Int)} {c:List Int} {H:Hp} {Q:VK} (h:SqL K H p ys∨SqT K H p ys) (r:RepL H (cs.map cD) ys) (rx:RepK K H (cD c) x) (q:Q (.bl (if neg then !decide (c∈cs) else decide (c∈cs))) H):rInT K neg x (.ref p) H Q:=by
  unfold rInT; exact ⟨p,ys,cs,c,rfl,h,r,rx,q⟩
section
variable {X:Cx}
theorem op_notinT (K:PySem.W.Frag) (hu:X.A.units+64<cLine) (hK:X.K=K:=by rfl):OpR X (compareOp .NotIn) (rInT K true):=by
  subst hK
  unfold rInT
  intro pins s σ H x y v u Q I rx ry h
  obtain ⟨p,ys,cs,c,rfl,hq,r,rc,q⟩:=h
  cases ry
  obtain ⟨as,ra⟩:=rc.reads I rx
  rcases hq with hq | hq
  · obtain ⟨its,r',pl,hz⟩:=I.list hq
    refine SeqAt.notIn_listAt (eqC H c) pl.isList (fun w hw=>eqC_mem I hu ra r r' w (by simpa using hw)) ⟨.bl _,H,I,rfl,?_⟩
    rw [show its.toArray.any (eqC H c)=its.any (eqC H c) by simp,eqC_any r r']
    exact q
  · obtain ⟨its,r',pl,hz⟩:=I.tuple hq
    refine SeqAt.notIn_tupleAt (eqC H c) pl (fun w hw=>eqC_mem I hu ra r r' w (by simpa using hw)) ⟨.bl _,H,I,rfl,?_⟩
    rw [show its.toArray.any (eqC H c)=its.any (eqC H c) by simp,eqC_any r r']
    exact q
end
end L2
set_option Elab.async false
set_option linter.all false
set_option maxRecDepth 100000
namespace HT
open PySem PySem.Spec PyProof.Rows PySem.Builtin
section
variable {prog:Program} {w:World} {A:Around} {E:Value→Shared→Prop} {s:Shared}
end
end HT
set_option Elab.async false
set_option linter.all false
set_option maxRecDepth 100000
namespace HT
open PySem PySem.Spec PyProof.Rows PySem.Builtin
section
variable {prog:Program} {w:World} {A:Around} {E:Value→Shared→Prop} {s:Shared} {K:Type} [DecidableEq K] {knd:HeapKind prog w K}
end
end HT
set_option Elab.async false
set_option linter.all false
set_option maxRecDepth 100000
namespace L2
open PySem PySem.Spec PySem.W PyProof.Rows HT
section
variable {X:Cx} {pins:List (Addr × Obj)} {σ:St} {H:Hp}
end
end L2
set_option Elab.async false
set_option linter.all false
set_option maxRecDepth 100000
namespace HT
open PySem PySem.Spec PyProof.Rows
section
variable {prog:Program} {w:World} {A:Around} {E:Value→Shared→Prop} {s:Shared} {it d:Addr} {es:Array DictEntry} {ep i:Nat} {od:Obj}
end
end HT
set_option Elab.async false
set_option linter.all false
set_option maxRecDepth 100000
namespace L2
open PySem PySem.Spec PySem.W PyProof.Rows HT
section
variable {X:Cx} {pins:List (Addr × Obj)} {σ:St} {H:Hp} {s:Shared}
end
section
variable {X:Cx} {tg:Expr}
end
end L2
set_option Elab.async false
set_option linter.all false
set_option maxRecDepth 100000
namespace HT
open PySem PySem.Spec PyProof.Rows PySem.W
section
variable {prog:Program} {w:World} {A:Around} {d:Addr} {o:Obj} {es:Array DictEntry} {ep:Nat}
end
end HT
namespace L2
open PySem PySem.Spec PySem.W PyProof.Rows HT
end L2
set_option Elab.async false
set_option linter.all false
set_option maxRecDepth 100000
namespace L2
open PySem PySem.Spec PySem.W PyProof.Rows HT
section
variable {prog:Program} {w:World} {A:Around} {E:Value→Shared→Prop} {s:Shared}
end
end L2
set_option Elab.async false
set_option linter.all false
set_option maxRecDepth 100000
namespace HT
open PySem PySem.Spec PyProof.Rows PySem.W
section
variable {prog:Program} {w:World} {A:Around} {E:Value→Shared→Prop} {s:Shared} {it d:Addr} {es:Array DictEntry} {ep i:Nat} {od:Obj}
end
end HT
set_option Elab.async false
set_option linter.all false
set_option maxRecDepth 100000
namespace L2
open PySem PySem.Spec PySem.W PyProof.Rows HT
section
variable {X:Cx} {tg:Expr}
end
section
variable {X:Cx} {o e:Expr} {apos cpos:Pos} {td ty:TE}
end
end L2
namespace L2
open PySem PySem.Spec PySem.W PyProof.Rows HT
end L2
namespace L2
open PySem
end L2
set_option Elab.async false
set_option linter.all false
set_option maxRecDepth 100000
namespace L2
open PySem
section
variable {js:List Nat} {te:TE} {tc:TT} {σ:St} {H:Hp} {Q:VK}
end
end L2
set_option Elab.async false
set_option linter.all false
set_option maxRecDepth 100000
namespace L2
open PySem PySem.Spec PyProof.Rows
section
variable {X:Cx} {pins:List (Addr × Obj)} {σ:St} {H:Hp} {s:Shared} {scope:Scope} {x x2:Str} {N':List Str} {js:List Nat} {fp:List Addr}
end
section
variable {X:Cx} {pins:List (Addr × Obj)} {σ:St} {H:Hp} {s:Shared} {scope:Scope} {x:Str} {N':List Str} {js:List Nat} {fp:List Addr} {elt iter:Expr} {px pos:Pos} {tg:Expr} {x2:Str} {te:TE}
end
section
variable {X:Cx} {scope:Scope} {x x2 y:Str} {N':List Str} {js:List Nat} {elt iter tg:Expr} {py pos spos:Pos} {te:TE} {wi:TI} {i:Nat}
end
end L2
set_option Elab.async false
set_option linter.all false
set_option maxRecDepth 100000
namespace HT
open PySem PySem.Spec PyProof.Rows
section
variable {prog:Program} {w:World} {A:Around} {E:Value→Shared→Prop} {s:Shared} {d:Addr} {o:Obj} {es:Array DictEntry} {ep:Nat}
end
end HT
namespace L2
open PySem PySem.Spec PySem.W PyProof.Rows HT
section
variable {X:Cx} {o e f k v:Expr} {apos cpos pos:Pos} {td ty tx tk tv:TE}
end
mutual
theorem RepK.keep {K:PySem.W.Frag} {H H':Hp} (s:Same H H'):∀ {d:PyData} {v:V},RepK K H d v→RepK K H' d v
  | .none,_,h=>h
  | .bool _,_,h=>h
  | .int _,_,h=>h
  | .str _,_,h=>h
  | .list ds,_,h=>by
    unfold RepK at h ⊢
    obtain ⟨a,xs,rfl,h1,h2⟩:=h
    exact ⟨a,xs,rfl,s _ _ h1,RepKL.keep s h2⟩
  | .tuple ds,_,h=>by
    unfold RepK at h ⊢
    obtain ⟨a,xs,rfl,h1,h2⟩:=h
    exact ⟨a,xs,rfl,h1.keep s,RepKL.keep s h2⟩
  | .dict kvs,_,h=>by
    unfold RepK at h ⊢
    obtain ⟨e,a,rfl,h1⟩:=h
    exact ⟨e,a,rfl,s _ _ h1⟩
theorem RepKL.keep {K:PySem.W.Frag} {H H':Hp} (s:Same H H'):∀ {ds:List PyData} {vs:List V},RepKL K H ds vs→RepKL K H' ds vs
  | [],_,h=>h
  | d::ds,_,h=>by
    unfold RepKL at h ⊢
    obtain ⟨x,xs,rfl,h1,h2⟩:=h
    exact ⟨x,xs,rfl,RepK.keep s h1,RepKL.keep s h2⟩
end
end L2
set_option Elab.async false
set_option linter.all false
set_option maxRecDepth 100000
namespace L2
open PySem PySem.Spec PyProof.Rows
structure CScopeN (X:Cx) (scope:Scope) (xs:List Str) (N':List Str) (js:List Nat):Prop where
  calm:X.calm=true
  free:∀ y∈scope.names,y.2=.free→X.env.kindOf y.1=some .cell
  cell:∀ y∈scope.names,y.2 ≠ .cell
  kind:scope.kind=.function
  names:∀ y∈scope.names,y.2=.local→scope.names.lookup y.1=some .local
  own:∀ x∈xs,scope.names.lookup x=some .local
  nofl:∀ y,(y,NameKind.free)∈scope.names→scope.names.lookup y=some .local→False
  len:N'.length=xs.length+js.length
  pre:∀ (i:Nat) x,xs[i]?=some x→N'[i]?=some x
  nd:N'.Nodup
  slot:∀ (i:Nat) (j:Nat),js[i]?=some j→∃ y,N'[xs.length+i]?=some y∧X.N[j]?=some y∧(y,NameKind.free)∈scope.names
def gNames:Nat→Nat→TGs
  | _,0=>gNil
  | i,n+1=>gCons (gName i) (gNames (i+1) n)
def gN (K:PySem.W.Frag) (n:Nat):TG:=gTup K n (gNames 0 n)
theorem gNames_run {H:Hp} {r:St} {Q:St→Hp→Prop}:∀ (vs:List V) (pre os:St),os.length=vs.length→Q (pre++(vs.map some++r)) H→gNames pre.length vs.length vs (pre++(os++r)) H Q
  | [],pre,[],_,q=>⟨rfl,q⟩
  | v::vs,pre,o::os,hl,q=>by
    refine ⟨v,vs,rfl,?_⟩
    show gNames (pre.length+1) vs.length vs ((pre++(o::os++r)).set pre.length (some v)) H Q
    have e1:(pre++(o::os++r)).set pre.length (some v)=(pre++[some v])++(os++r):=by
      rw [List.set_append_right _ _ (Nat.le_refl _),Nat.sub_self,List.append_assoc]; rfl
    have e2:pre.length+1=(pre++[some v]).length:=by rw [List.length_append]; rfl
    rw [e1,e2]
    refine gNames_run vs (pre++[some v]) os (by simpa using hl) ?_
    rw [List.append_assoc]; exact q
@[irreducible] def CompN (K:PySem.W.Frag) (n:Nat) (J:It) (σ:St) (js:List Nat) (tc:TT) (te:TE) (H1:Hp) (Q:VK):Prop:=∀ D,H1 D=none→∃ W:Nat→Nat→List V→Hp→Prop,(∃ m,W 0 m [] (upd H1 D (.lst []))) ∧
  ∀ i m ys H2,W i m ys H2→H2 D=some (.lst ys)∧((J.stop i H2∧Q (.ref D) H2)∨(J.go i H2∧ys.length<sizeLine∧∀ x H3,J.yld i H2 x H3→∃ a vs,x=.ref a∧SqT K H3 a vs∧vs.length=n ∧
    tMono tc (vs.map some++slots σ js) H3 fun b H4=>if b=true then tMonoE te (vs.map some++slots σ js) H4 fun y H5=>H5 D=some (.lst ys)∧∃ m',m' < m∧W (i+1) m' (ys++[y]) (upd H5 D (.lst (ys++[y])))
      else H4 D=some (.lst ys)∧∃ m',m' < m∧W (i+1) m' ys H4))
def tCompN (K:PySem.W.Frag) (n:Nat) (wi:TI) (js:List Nat) (tc:TT) (te:TE):TE:=fun σ H Q=>wi σ H fun J H1=>CompN K n J σ js tc te H1 Q
section
variable {X:Cx} {pins:List (Addr × Obj)} {σ:St} {H:Hp} {s:Shared} {scope:Scope} {xs:List Str} {N':List Str} {js:List Nat} {fp:List Addr}
theorem CScopeN.cells (S:CScopeN X scope xs N' js) (ok:X.Ok):∀ y∈scope.names,y.2=.free→∃ c,X.env.cells.lookup y.1=some c:=fun y hy hf=>ok.has _ (.inl (S.free y hy hf))
theorem cxC_okN (S:CScopeN X scope xs N' js) (I:Inv X pins σ H s) (hf:∀ b∈fp,FpOk X pins H b) (hb:∀ b∈fp,b<s.heap.objs.size):(cxC X scope s.heap.objs.size fp s H N').Ok where
  mod:=I.ok.mod
  kind:=S.kind
  glob:=I.ok.glob
  blt:=I.ok.blt
  above:=Nat.le_refl _
  inj:=fun y z c h1 h2=>I.ok.inj y z c (clOf_env (S.cells I.ok) h1) (clOf_env (S.cells I.ok) h2)
  has:=fun y hy=>by
    have hm:(y,NameKind.free)∈scope.names:=by
      rcases hy with hy | hy
      · exact relabel_cases (env:=X.env) hy (.inl rfl) S.cell
      · exact relabel_cases (env:=X.env) hy (.inr rfl) S.cell
    obtain ⟨c,hc⟩:=S.cells I.ok _ hm rfl
    exact ⟨c,clOf_has (S.cells I.ok) hm hc⟩
  cab:=fun _ _ h=>by cases h
  hd:=fun _=>I.ok.hd S.calm
  frames:=I.ok.frames
  stk:=.inl rfl
  exf:=fun b hb'=>⟨fun e=>by have:=hb b hb'; rw [e] at this; exact Nat.lt_irrefl _ this,fun y c h=>(hf b hb').2.2.2.2.1 y c (clOf_env (S.cells I.ok) h)⟩
  bs:=I.bs
  bsz:=Nat.le_trans I.ok.bsz I.sz
  noex:=fun b o e hb'=>by
    rcases (hf b hb').2.2.2.1 with h | h
    · exact I.ok.noex b o e h
    · exact absurd (Nat.lt_of_lt_of_le (Heap.lt_size e) (Nat.le_trans I.ok.bsz h)) (Nat.lt_irrefl _)
  exfs:=fun b hb' hs=>by
    have h2:=I.stkSub b hs
    rcases List.mem_cons.mp h2 with h2 | h2
    · exact (hf b hb').2.1 h2
    · exact (hf b hb').2.2.1 h2
  funs:=I.stack
  frf:=I.stkFree
theorem cxC_invN {h':Heap} {tk:Nat} (S:CScopeN X scope xs N' js) (I:Inv X pins σ H s) (hf:∀ b∈fp,FpOk X pins H b) (hb:∀ b∈fp,b<s.heap.objs.size)
    (hn:h'.Ns s.heap.objs.size (fun _=>none)) (hk:∀ b o,s.heap.get? b=some o→h'.get? b=some o):Inv (cxC X scope s.heap.objs.size fp s H N') [] (List.replicate xs.length none++slots σ js) H { s with heap:=h',toks:=tk } where
  ok:=cxC_okN S I hf hb
  os:=rfl
  bare:=I.bare
  base:=Un.kept hk
  loc:=by
    refine ⟨_,hn,fun i y v hi hv hvis=>?_⟩
    by_cases hlt0:i<xs.length
    · rw [List.getElem?_append_left (by rw [List.length_replicate]; exact hlt0),List.getElem?_replicate,if_pos hlt0] at hv
      cases hv
    · obtain ⟨i,rfl⟩:∃ k,i=xs.length+k:=⟨i - xs.length,by omega⟩
      rw [List.getElem?_append_right (by rw [List.length_replicate]; omega),List.length_replicate,Nat.add_sub_cancel_left] at hv
      have hv':(slots σ js)[i]?=some (some v):=hv
      have hlt:i<js.length:=by
        have:=(List.getElem?_eq_some_iff.mp hv').1
        unfold slots at this
        rwa [List.length_map] at this
      have hj:js[i]?=some js[i]:=List.getElem?_eq_getElem hlt
      obtain ⟨z,h1,h2,h3⟩:=S.slot i _ hj
      have hzy:z=y:=by
        have:N'[xs.length+i]?=some y:=hi
        rw [h1] at this; cases this; rfl
      subst hzy
      rw [slots_get hj] at hv'
      have hσ:σ[js[i]]?=some (some v):=by
        cases q:σ[js[i]]? with
        | none=>rw [q] at hv'; cases hv'
        | some o=>rw [q] at hv'; cases hv'; rfl
      have hkc:X.env.kindOf z=some .cell:=S.free _ h3 rfl
      obtain ⟨m,hm,hl⟩:=I.loc
      obtain ⟨u,ru,lk⟩:=hl _ z v h2 hσ (.inr (.inl hkc))
      rcases lk with ⟨hk1,_⟩ | ⟨_,c,hc,hcell⟩
      · rw [hkc] at hk1; cases hk1
      · refine ⟨u,ru,.inr ⟨?_,c,clOf_has (S.cells I.ok) h3 hc,?_⟩⟩
        · rcases hvis with hvis | hvis | hvis
          · exfalso
            have hcl:=clOf_has (S.cells I.ok) h3 hc
            have hm2:=lookup_mem (l:=(relabel scope X.env).names) hvis
            unfold relabel at hm2
            obtain ⟨⟨n,k⟩,hmem,he⟩:=List.mem_map.mp hm2
            dsimp only at he
            by_cases hq:(k == NameKind.free&&X.env.scope.kind == .function&&X.env.kindOf n == some .cell)=true
            · rw [if_pos hq] at he; cases he
            · rw [if_neg hq] at he
              cases he
              have:=S.names _ hmem rfl
              have l2:=mem_lookup h3
              obtain ⟨c',l2⟩:=l2
              dsimp only at this
              rw [this] at l2
              have key:(relabel scope X.env).names.lookup z=some .local:=lookup_relabel_local this
              have hck:scope.names.lookup z=some .local:=this
              exact S.nofl z h3 hck
          · exact .inl hvis
          · exact .inr hvis
        · obtain ⟨o,e,r⟩:=hcell
          exact ⟨o,hk _ _ e,r⟩
  cell:=fun y c h=>by
    obtain ⟨v,o,e,r⟩:=I.cell y c (clOf_env (S.cells I.ok) h)
    exact ⟨v,o,hk _ _ e,r⟩
  free:=I.hok.fresh (Nat.le_refl _)
  freeC:=fun y c h=>I.freeC y c (clOf_env (S.cells I.ok) h)
  pin:=fun p hp=>by cases hp
  hok:=I.hok.kept hk
  len:=by
    rw [List.length_append,List.length_replicate]
    unfold slots
    rw [List.length_map]; exact S.len.symm
theorem cxC_backN {H2:Hp} {σ':St} {s2:Shared} {h'':Heap} (S:CScopeN X scope xs N' js) (I:Inv X pins σ H s) (hf:∀ b∈fp,FpOk X pins H b)
    (J:Inv (cxC X scope s.heap.objs.size fp s H N') [] σ' H2 s2) (hs:Heap.SameBut s.heap.objs.size s2.heap h''):Inv X pins σ H2 { s2 with heap:=h'' }:=by
  have hC:H2 s.heap.objs.size=none:=J.free
  have ne:∀ {b:Addr} {o:Obj},s.heap.get? b=some o→b≠s.heap.objs.size:=fun e q=>by
    have:=Heap.lt_size e; rw [q] at this; exact Nat.lt_irrefl _ this
  refine I.call' (s':={ s2 with heap:=h'' }) (ch:=fp) (by rw [show ({ s2 with heap:=h'' }:Shared).os=s2.os from rfl]; exact J.os) ?_ (J.hok.but hC fun b u hb q=>hs.extBut b u hb q) J.bare fun b hb=>⟨(hf b hb).2.2.2.1,(hf b hb).2.1,(hf b hb).2.2.2.2.1,(hf b hb).2.2.2.2.2⟩
  have U:=J.base
  exact {
    keep:=fun b o e n h1 h2=>hs.extBut b o (ne e) (U.keep b o e n h1 h2)
    slot:=fun b o e n h1 h2=>by
      obtain ⟨sl,q⟩:=U.slot b o e n h1 h2
      exact ⟨sl,hs.extBut b _ (ne e) q⟩
    free:=U.free
    there:=fun b o e h2=>by
      obtain ⟨o',q⟩:=U.there b o e h2
      exact ⟨o',hs.extBut b _ (ne e) q⟩
    tups:=U.tups
    frzs:=U.frzs
    tbls:=U.tbls }
end
section
variable {X:Cx} {pins:List (Addr × Obj)} {σ:St} {H:Hp} {s:Shared} {scope:Scope} {xs:List Str} {N':List Str} {js:List Nat} {fp:List Addr} {elt iter:Expr} {px pos:Pos} {tg:Expr} {ifs:List Expr} {tc:TT} {te:TE}
theorem comp_blockN {J:It} {it:Addr} {tn:Nat→Heap→Prop} {RR:Value→Addr→Result→Shared→Prop} {E:Value→Shared→Prop} {Q:VK}
    (S:CScopeN X scope xs N' js) (I:Inv X pins σ H s) (T:Turn X.prog X.w X.K tg J fp it tn) (h0:tn 0 s.heap) (hf:∀ b∈fp,FpOk X pins H b)
    (hg:∀ C fp s₀ H₀,PG (cxC X scope C fp s₀ H₀ N') tg (gN X.K xs.length)) (ht:∀ C fp s₀ H₀,PTs (cxC X scope C fp s₀ H₀ N') ifs tc) (he:∀ C fp s₀ H₀,PE (cxC X scope C fp s₀ H₀ N') elt te)
    (R:∀ D,H D=none→∃ W:Nat→Nat→List V→Hp→Prop,(∃ m,W 0 m [] (upd H D (.lst []))) ∧
      ∀ i m ys H2,W i m ys H2→H2 D=some (.lst ys)∧((J.stop i H2∧Q (.ref D) H2)∨(J.go i H2∧ys.length<sizeLine∧∀ x H3,J.yld i H2 x H3→∃ a vs,x=.ref a∧SqT X.K H3 a vs∧vs.length=xs.length ∧
        tc (vs.map some++slots σ js) H3 fun b H4=>if b=true then te (vs.map some++slots σ js) H4 fun y H5=>H5 D=some (.lst ys)∧∃ m',m' < m∧W (i+1) m' (ys++[y]) (upd H5 D (.lst (ys++[y])))
          else H4 D=some (.lst ys)∧∃ m',m' < m∧W (i+1) m' ys H4)))
    (hRR:∀ (D:Addr) (H3:Hp) (s3:Shared) (σ':St) (H':Hp) (s':Shared),Inv X pins σ H3 s3→(∀ b∈fp,FpOk X pins H3 b)→Inv (cxC X scope s3.heap.objs.size fp s3 H3 N') [] σ' H' s'→Q (.ref D) H'→RR (.ref D) s3.heap.objs.size (.ok .next) s') :
    wpAny (model X.prog X.w) X.A (newList []) (fun acc s₃=>wpAny (model X.prog X.w) X.A (newFunctionEnv scope X.env.globals (clOf X scope) [] X.env.qual none .none (some X.env)) (fun cenv s₄ =>
      codeAny (model X.prog X.w) X.A (.compStart (.ListComp elt [⟨tg,iter,ifs,0⟩] scope pos) 0 (.ref it) acc { cenv with scope:=relabel scope X.env }) (RR acc cenv.locals) s₄) E s₃) E s:=by
  have hb:∀ b∈fp,b<s.heap.objs.size:=fun b hb=>by
    obtain ⟨o,e,_⟩:=T.obj 0 _ h0 b hb
    exact Heap.lt_size e
  refine wpAny_newObj_type (wpAny_newFunctionEnv S.cell (by intro y hy; simp at hy) (fun h₁ hns₁ hsb₁=>?_) S.kind)
  have hDn:H s.heap.objs.size=none:=I.hok.fresh (Nat.le_refl _)
  obtain ⟨W,⟨m0,hw0⟩,hW⟩:=R _ hDn
  have I3:Inv X pins σ (upd H s.heap.objs.size (.lst [])) { s with heap:=s.heap.push { cls:=.type "list",dict:=none,data:=.seq ([]:List Value).toArray } }:=I.lnew (its:=[]) (ys:=[]) (t':=s.toks) .nil (Nat.zero_le _)
  have hf3:∀ b∈fp,FpOk X pins (upd H s.heap.objs.size (.lst [])) b:=fun b hb' =>
    ⟨by rw [upd_ne (fun e=>by have:=hb b hb'; rw [e] at this; exact Nat.lt_irrefl _ this)]; exact (hf b hb').1,(hf b hb').2⟩
  have hb3:∀ b∈fp,b<(s.heap.push { cls:=.type "list",dict:=none,data:=.seq ([]:List Value).toArray }).objs.size:=fun b hb'=>by
    rw [Heap.size_push]; exact Nat.lt_succ_of_lt (hb b hb')
  have hkeep:∀ b o,(s.heap.push { cls:=.type "list",dict:=none,data:=.seq ([]:List Value).toArray }).get? b=some o→h₁.get? b=some o:=fun b o e =>
    hsb₁.extBut b o (fun q=>by have:=Heap.lt_size e; rw [q] at this; exact Nat.lt_irrefl _ this) (Heap.get?_push_of_some _ e)
  have J4:=cxC_invN (h':=h₁) (tk:=s.toks+([]:List (Str × Value)).length) S I3 hf3 hb3 hns₁ hkeep
  have t4:tn 0 h₁:=T.keep 0 _ _ h0 fun b hb' o e=>hkeep b o (Heap.get?_push_of_some _ e)
  have loop:codeAny (model X.prog X.w) X.A (.compLoop (.ListComp elt [⟨tg,iter,ifs,0⟩] scope pos) 0 (.ref it) (.ref s.heap.objs.size) (compEnvC scope (clOf X scope) (s.heap.push { cls:=.type "list",dict:=none,data:=.seq ([]:List Value).toArray }).objs.size X.env))
      (RR (.ref s.heap.objs.size) (s.heap.push { cls:=.type "list",dict:=none,data:=.seq ([]:List Value).toArray }).objs.size) { s with heap:=h₁,toks:=s.toks+([]:List (Str × Value)).length }:=by
    refine compLoop_gen (fun n s'=>∃ (i:Nat) (ys:List V) (H2:Hp) (os:St),os.length=xs.length∧Inv (cxC X scope _ fp _ _ N') [] (os++slots σ js) H2 s'∧tn i s'.heap∧(∀ b∈fp,H2 b=none)∧W i n ys H2) ?_ m0 ⟨0,[],_,_,List.length_replicate,J4,t4,fun b hb'=>(hf3 b hb').1,hw0⟩
    rintro n s' ⟨i,ys,H2,os,hos,J2,t2,f2,w2⟩
    obtain ⟨hD,hcase⟩:=hW i n ys H2 w2
    have Fp:∀ b∈fp,FpOk (cxC X scope (s.heap.push { cls:=.type "list",dict:=none,data:=.seq ([]:List Value).toArray }).objs.size fp { s with heap:=s.heap.push { cls:=.type "list",dict:=none,data:=.seq ([]:List Value).toArray } } (upd H s.heap.objs.size (.lst [])) N') [] H2 b:=fun b hb' =>
      ⟨f2 b hb',(J2.ok.exf b hb').1,J2.ok.exfs b hb',.inl hb',(J2.ok.exf b hb').2,fun p hp=>by cases hp⟩
    rcases hcase with ⟨hstop,hq⟩ | ⟨hgo,hz,hturn⟩
    · refine wpAny_mono (T.done (cxC X scope _ fp _ _ N') rfl rfl rfl rfl i [] s' _ H2 NoX J2 Fp t2 hstop) (fun r s1 ⟨hr,J5⟩=>?_) fun _ _ f=>f
      subst hr
      exact hRR _ _ _ _ _ _ I3 hf3 J5 hq
    · refine wpAny_mono (T.item (cxC X scope _ fp _ _ N') rfl rfl rfl rfl i [] s' _ H2 NoX J2 Fp t2 hgo) (fun r s1 ⟨u,hr,hx⟩=>?_) fun _ _ f=>f
      subst hr
      refine wpAny_mono hx (fun _ s2 ⟨v,H3,J3,rv,hy,t3,f3⟩=>?_) fun _ _ f=>f
      have Fp3:∀ b∈fp,FpOk (cxC X scope (s.heap.push { cls:=.type "list",dict:=none,data:=.seq ([]:List Value).toArray }).objs.size fp { s with heap:=s.heap.push { cls:=.type "list",dict:=none,data:=.seq ([]:List Value).toArray } } (upd H s.heap.objs.size (.lst [])) N') [] H3 b:=fun b hb' =>
        ⟨f3 b hb',(J3.ok.exf b hb').1,J3.ok.exfs b hb',.inl hb',(J3.ok.exf b hb').2,fun p hp=>by cases hp⟩
      have P3:=J3.pinned Fp3 (T.obj (i+1) _ t3)
      have keepT:∀ {σ':St} {Hx:Hp} {sx:Shared},Inv (cxC X scope (s.heap.push { cls:=.type "list",dict:=none,data:=.seq ([]:List Value).toArray }).objs.size fp { s with heap:=s.heap.push { cls:=.type "list",dict:=none,data:=.seq ([]:List Value).toArray } } (upd H s.heap.objs.size (.lst [])) N') ([]++pinsAt fp s2.heap) σ' Hx sx→tn (i+1) sx.heap∧∀ b∈fp,Hx b=none:=fun Jx =>
        ⟨T.keep (i+1) _ _ t3 fun b hb' ob e=>(Jx.pin (b,ob) (List.mem_append_right _ (List.mem_append_right _ (mem_pinsAt hb' e)))).1,fun b hb'=>by
          obtain ⟨ob,e,_⟩:=T.obj (i+1) _ t3 b hb'
          exact (Jx.pin (b,ob) (List.mem_append_right _ (List.mem_append_right _ (mem_pinsAt hb' e)))).2.1⟩
      obtain ⟨a,vs,ev,hq,hl,qe⟩:=hturn v H3 hy
      subst ev
      refine wpAny_mono (hg _ _ _ _ _ _ (os++slots σ js) H3 (.ref a) u (fun σ' H'=>σ'=vs.map some++slots σ js∧H'=H3) P3 rv ⟨a,vs,rfl,hq,hl,?_⟩) (fun _ s5 ⟨σ5,H5,J5,e5,e6⟩=>?_) fun _ _ f=>f
      · have:=gNames_run (H:=H3) (r:=slots σ js) (Q:=fun σ' H'=>σ'=vs.map some++slots σ js∧H'=H3) vs [] os (by rw [hos,hl]) ⟨rfl,rfl⟩
        rw [hl] at this
        exact this
      subst e5 e6
      refine wpAny_mono (ht _ _ _ _ _ _ _ _ _ J5 qe) (fun ok s6 ⟨H6,J6,q6⟩=>?_) fun _ _ f=>f
      dsimp only at q6
      by_cases hok:ok=true
      · rw [if_pos hok] at q6 ⊢
        refine wpAny_mono (he _ _ _ _ _ _ _ _ _ J6 q6) (fun y s7 ⟨w',H7,J7,r7,hD7,m',hm',w7⟩=>?_) fun _ _ f=>f
        refine wpAny_mono (mt_append (X:=cxC X scope _ fp _ _ N') _ _ _ _ (.ref s.heap.objs.size) [w'] (.ref s.heap.objs.size) [y] (fun _ H8=>H8=upd H7 s.heap.objs.size (.lst (ys++[w']))) J7 rfl (.cons r7 .nil) ⟨_,_,_,rfl,rfl,hD7,hz,rfl⟩) (fun _ s8 ⟨_,H8,J8,_,e8⟩=>?_) fun _ _ f=>f
        subst e8
        obtain ⟨k1,k2⟩:=keepT J8
        exact ⟨m',hm',i+1,ys++[w'],_,vs.map some,by rw [List.length_map,hl],J8.unpinned,k1,k2,w7⟩
      · rw [if_neg hok] at q6 ⊢
        obtain ⟨_,m',hm',w7⟩:=q6
        obtain ⟨k1,k2⟩:=keepT J6
        exact ⟨m',hm',i+1,ys,_,vs.map some,by rw [List.length_map,hl],J6.unpinned,k1,k2,w7⟩
  refine codeAny_compStart_list loop (T.self X.A 0 _ _ _ t4 loop)
theorem pe_compN {wi:TI} (S:CScopeN X scope xs N' js) (hi:PI X tg iter wi) (hg:∀ C fp s₀ H₀,PG (cxC X scope C fp s₀ H₀ N') tg (gN X.K xs.length)) (ht:∀ C fp s₀ H₀,PTs (cxC X scope C fp s₀ H₀ N') ifs tc) (he:∀ C fp s₀ H₀,PE (cxC X scope C fp s₀ H₀ N') elt te)
    (hs:∀ x,foldedSetIterable iter X.env x=pure x:=by intro _; rfl):PE X (.ListComp elt [⟨tg,iter,ifs,0⟩] scope pos) (tCompN X.K xs.length wi js tc te):=by
  intro pins s σ H Q I h
  rw [eval_ListComp]
  refine wpAny_comprehension_free (use:=none) rfl hs (closureFor_eq (S.cells I.ok)) S.kind S.names (wpAny_mono (hi pins s σ H _ I h) (fun v s1 h1=>?_) fun _ _ e=>e)
  refine wpAny_mono h1 (fun itv s2 ⟨it,fp,tn,J,H2,e,I2,T,t0,hf,R⟩=>?_) fun _ _ e=>e
  subst e
  refine comp_blockN (te:=tMonoE te) (tc:=tMono tc) S I2 T t0 hf hg (fun C fp s₀ H₀=>(ht C fp s₀ H₀).mono) (fun C fp s₀ H₀=>(he C fp s₀ H₀).mono) (by unfold CompN at R; exact R) ?_
  intro D H3 s3 σ' H' s' I3 hf3 J3 q
  obtain ⟨m,hm,_⟩:=J3.loc
  exact ⟨m,hm,fun h' hs'=>⟨.ref D,H',cxC_backN S I3 hf3 J3 hs',rfl,q⟩⟩
theorem ps_setCompN {wi:TI} {y:Str} {py spos:Pos} {i:Nat} (S:CScopeN X scope xs N' js) (hN:X.N.Nodup) (hiN:X.N[i]?=some y) (hy:X.env.kindOf y=some .local) (hi:PI X tg iter wi) (hg:∀ C fp s₀ H₀,PG (cxC X scope C fp s₀ H₀ N') tg (gN X.K xs.length)) (ht:∀ C fp s₀ H₀,PTs (cxC X scope C fp s₀ H₀ N') ifs tc) (he:∀ C fp s₀ H₀,PE (cxC X scope C fp s₀ H₀ N') elt te)
    (hsw:swapsWith (.ListComp elt [⟨tg,iter,ifs,0⟩] scope pos) (some (.Name y py)) spos.line X.env=pure true) (hs:∀ x,foldedSetIterable iter X.env x=pure x:=by intro _; rfl) :
    PS X (.Assign [.Name y py] (.ListComp elt [⟨tg,iter,ifs,0⟩] scope pos) spos) (tAsg (tCompN X.K xs.length wi js tc te) (gName i)):=by
  intro pins s σ H D0 I h
  rw [exec_Assign_Name_used _ _ _ _ hsw]
  refine wpAny_bind (wpAny_standAt (wpAny_bind ?_))
  show wpAny _ X.A (do let _ ← comprehension (.ListComp elt [⟨tg,iter,ifs,0⟩] scope pos) scope X.env _ (newList []) false (eval iter X.env) (some (assign (.Name y py) X.env))) _ _ s
  refine wpAny_bind (wpAny_mono (wpAny_comprehension_free (use:=some (assign (.Name y py) X.env)) (Q:=fun _ s'=>SP X pins D0 .next s') rfl hs (closureFor_eq (S.cells I.ok)) S.kind S.names (wpAny_mono (hi pins s σ H _ I h) (fun v s1 h1=>?_) fun _ _ e=>e)) (fun _ s' hq=>wpAny_pure (wpAny_pure hq)) fun _ _ e=>e)
  refine wpAny_mono h1 (fun itv s2 ⟨it,fp,tn,J,H2,e,I2,T,t0,hf,R⟩=>?_) fun _ _ e=>e
  subst e
  refine comp_blockN (te:=tMonoE te) (tc:=tMono tc) (Q:=fun v H'=>gName i v σ H' D0.nx) S I2 T t0 hf hg (fun C fp s₀ H₀=>(ht C fp s₀ H₀).mono) (fun C fp s₀ H₀=>(he C fp s₀ H₀).mono) (by unfold CompN at R; exact R) ?_
  intro D H3 s3 σ' H' s' I3 hf3 J3 q
  obtain ⟨m,hm,_⟩:=J3.loc
  have IX:Inv X pins σ H' s':=cxC_backN S I3 hf3 J3 (Heap.SameBut.refl ..)
  have hCL:s3.heap.objs.size≠X.env.locals:=fun e=>by have:=I3.lt; rw [e] at this; exact Nat.lt_irrefl _ this
  show wpAny _ X.A (assign (.Name y py) X.env (.ref D)) _ _ _
  refine wpAny_assign_Name (store_ok2 IX hN hiN (.inl hy) (v:=.ref D) rfl (fun s5 I5 hsb=>?_) (.inr hy))
  obtain ⟨a,hsb,ha⟩:=hsb
  have hCa:s3.heap.objs.size≠a:=by
    rcases ha with rfl | ha
    · exact hCL
    · intro e
      obtain ⟨v,o,eo,_⟩:=I3.cell y a ha
      have:=Heap.lt_size eo
      rw [← e] at this
      exact Nat.lt_irrefl _ this
  refine ⟨m,hm.sameBut hsb hCa,fun h' hs'=>⟨_,H',?_,q⟩⟩
  exact I5.turned (it:=s3.heap.objs.size) (t':=s5.toks) (fun b o n e=>hs'.extBut b o n e) J3.free hCL (.inr I3.sz)
    (fun z c hz e=>by
      obtain ⟨v,o,eo,_⟩:=I3.cell z c hz
      have:=Heap.lt_size eo
      rw [e] at this
      exact Nat.lt_irrefl _ this)
    (fun p hp e=>by
      have:=Heap.lt_size (I3.pin p hp).1
      rw [e] at this
      exact Nat.lt_irrefl _ this)
end
section
variable {X:Cx} {scope:Scope} {x1 x2 x3 y:Str} {N':List Str} {js:List Nat} {elt iter tg:Expr} {ifs:List Expr} {py pos spos:Pos} {tc:TT} {te:TE} {wi:TI} {i:Nat}
theorem wg_nm {xs:List Str} {k:Nat} {x:Str} {p:Pos} (S:CScopeN X scope xs N' js) (h:xs[k]?=some x) (C:Addr) (fp:List Addr) (s₀:Shared) (H₀:Hp):PGw (cxC X scope C fp s₀ H₀ N') (.Name x p) (gName k) :=
  have l:=S.own x (List.mem_of_getElem? h)
  wg_name S.nd (S.pre k x h) (.inl (lookup_relabel_local l)) (.inr (lookup_relabel_local l))
theorem wg_two {p1 p2 pt:Pos} {kk:Nat} (S:CScopeN X scope [x1,x2] N' js) (C:Addr) (fp:List Addr) (s₀:Shared) (H₀:Hp):PGw (cxC X scope C fp s₀ H₀ N') (.Tuple [.Name x1 p1,.Name x2 p2] kk pt) (gN X.K 2) :=
  wg_tup rfl (wgs_cons (wg_nm S rfl C fp s₀ H₀) (wgs_cons (wg_nm S rfl C fp s₀ H₀) wgs_nil))
theorem we_compN2 {p1 p2 pt:Pos} {kk:Nat} (S:CScopeN X scope [x1,x2] N' js) (hi:PIw X (.Tuple [.Name x1 p1,.Name x2 p2] kk pt) iter wi) (ht:∀ C fp s₀ H₀,PTsw (cxC X scope C fp s₀ H₀ N') ifs tc) (he:∀ C fp s₀ H₀,PEw (cxC X scope C fp s₀ H₀ N') elt te)
    (hs:∀ x,foldedSetIterable iter X.env x=pure x:=by intro _; rfl):PEw X (.ListComp elt [⟨.Tuple [.Name x1 p1,.Name x2 p2] kk pt,iter,ifs,0⟩] scope pos) (tCompN X.K 2 wi js tc te) :=
  ⟨pe_compN S hi.p (fun C fp s₀ H₀=>(wg_two S C fp s₀ H₀).p) (fun C fp s₀ H₀=>(ht C fp s₀ H₀).p) (fun C fp s₀ H₀=>(he C fp s₀ H₀).p) hs⟩
theorem ws_setCompN2 {p1 p2 pt:Pos} {kk:Nat} (S:CScopeN X scope [x1,x2] N' js) (hN:X.N.Nodup) (hiN:X.N[i]?=some y) (hy:X.env.kindOf y=some .local) (hi:PIw X (.Tuple [.Name x1 p1,.Name x2 p2] kk pt) iter wi) (ht:∀ C fp s₀ H₀,PTsw (cxC X scope C fp s₀ H₀ N') ifs tc) (he:∀ C fp s₀ H₀,PEw (cxC X scope C fp s₀ H₀ N') elt te)
    (hsw:swapsWith (.ListComp elt [⟨.Tuple [.Name x1 p1,.Name x2 p2] kk pt,iter,ifs,0⟩] scope pos) (some (.Name y py)) spos.line X.env=pure true:=by rfl) (hs:∀ x,foldedSetIterable iter X.env x=pure x:=by intro _; rfl) :
    PSw X (.Assign [.Name y py] (.ListComp elt [⟨.Tuple [.Name x1 p1,.Name x2 p2] kk pt,iter,ifs,0⟩] scope pos) spos) (tAsg (tCompN X.K 2 wi js tc te) (gName i)) :=
  ⟨ps_setCompN S hN hiN hy hi.p (fun C fp s₀ H₀=>(wg_two S C fp s₀ H₀).p) (fun C fp s₀ H₀=>(ht C fp s₀ H₀).p) (fun C fp s₀ H₀=>(he C fp s₀ H₀).p) hsw hs⟩
end
def cscNOk (psc scope:Scope) (N:List Str) (xs N':List Str) (js:List Nat):Bool :=
  (scope.names.all fun y=>!(y.2 == .free) || psc.names.lookup y.1 == some .cell)&&(scope.names.all fun y=>!(y.2 == .cell))&&scope.kind == .function &&
  (scope.names.all fun y=>!(y.2 == .local) || scope.names.lookup y.1 == some .local)&&(xs.all fun x=>scope.names.lookup x == some .local) &&
  (scope.names.all fun y=>!(y.2 == .free) || !(scope.names.lookup y.1 == some .local))&&N'.length == xs.length+js.length&&N'.take xs.length == xs&&decide N'.Nodup &&
  ((List.range js.length).all fun i=>match js[i]?,N'[xs.length+i]? with
    | some j,some y=>N[j]? == some y&&scope.names.contains (y,NameKind.free)
    | _,_=>false)
theorem CScopeN.of {X:Cx} {psc scope:Scope} {N:List Str} {xs N':List Str} {js:List Nat} (h:cscNOk psc scope N xs N' js=true) (hX:X.env.scope=psc) (hN:X.N=N) (hc:X.calm=true):CScopeN X scope xs N' js:=by
  unfold cscNOk at h
  simp only [Bool.and_eq_true] at h
  obtain ⟨⟨⟨⟨⟨⟨⟨⟨⟨h1,h2⟩,h3⟩,h4⟩,h5⟩,h6⟩,h7⟩,h8⟩,h9⟩,h10⟩:=h
  rw [List.all_eq_true] at h1 h2 h4 h5 h6 h10
  refine ⟨hc,fun y hy e=>?_,fun y hy e=>?_,by simpa using h3,fun y hy e=>?_,fun x hx=>by simpa using h5 x hx,fun y hy e=>?_,by simpa using h7,fun i x hx=>?_,of_decide_eq_true h9,fun i j hj=>?_⟩
  · have:=h1 y hy
    rw [e] at this
    show X.env.scope.names.lookup y.1=_
    rw [hX]
    simpa using this
  · have:=h2 y hy
    rw [e] at this
    simp at this
  · have:=h4 y hy
    rw [e] at this
    simpa using this
  · have:=h6 _ hy
    rw [e] at this
    simp at this
  · have e8:N'.take xs.length=xs:=by simpa using h8
    have hi:i<xs.length:=(List.getElem?_eq_some_iff.mp hx).1
    rw [← hx]
    conv=>rhs; rw [← e8]
    rw [List.getElem?_take,if_pos hi]
  · have hi:i<js.length:=(List.getElem?_eq_some_iff.mp hj).1
    have:=h10 i (List.mem_range.mpr hi)
    rw [hj] at this
    cases q:N'[xs.length+i]? with
    | none=>rw [q] at this; simp at this
    | some y =>
      rw [q] at this
      simp only [Bool.and_eq_true] at this
      exact ⟨y,rfl,by rw [hN]; simpa using this.1,List.contains_iff_mem.mp this.2⟩
theorem paired_at {α β:Type} {R:α→β→Prop}:∀ {l:List α} {m:List β} {i:Nat} {b:β},Paired R l m→m[i]?=some b→∃ a,l[i]?=some a∧R a b
  | _,_,_,_,.nil,h=>by simp at h
  | _,_,0,b,.cons h t,e=>⟨_,rfl,by cases (show _=b by simpa using e); exact h⟩
  | _,_,i+1,b,.cons h t,e=>by
    obtain ⟨a,h1,h2⟩:=paired_at t (i:=i) (by simpa using e)
    exact ⟨a,by simpa using h1,h2⟩
section
variable {js:List Nat} {te:TE} {tc:TT} {σ:St} {H:Hp} {Q:VK}
theorem compN_flt {K:PySem.W.Frag} {n:Nat} {J:It} {α:Type} {as:List α} (p:α→Bool) (Src:α→V→Prop) (R:α→V→Hp→Prop) (hR:∀ c y H1 H2,SameT H1 H2→R c y H1→R c y H2) (hz:as.length≤100000)
    (hg:∀ i H',Same H H'→i<as.length→J.go i H'∧∀ x H3,J.yld i H' x H3→H3=H'∧∃ c,as[i]?=some c∧Src c x) (hst:∀ H',Same H H'→J.stop as.length H')
    (hs:∀ x c H',c∈as→Src c x→Same H H'→∃ a vs,x=.ref a∧SqT K H' a vs∧vs.length=n∧(∀ Q':Bool→Hp→Prop,(∀ H5,Same H' H5→Q' (p c) H5)→tc (vs.map some++slots σ js) H' Q') ∧
      ∀ H5 (Q':VK),Same H' H5→p c=true→(∀ y H6,Same H5 H6→R c y H6→Q' y H6)→te (vs.map some++slots σ js) H5 Q')
    (hd:∀ D ys H',H D=none→H' D=some (.lst ys)→Same H H'→Paired (fun c y=>R c y H') (as.filter p) ys→Q (.ref D) H'):CompN K n J σ js tc te H Q:=by
  unfold CompN
  intro D hD
  have mono:∀ {H1 H2:Hp} {l:List α} {ys:List V},SameT H1 H2→Paired (fun c y=>R c y H1) l ys→Paired (fun c y=>R c y H2) l ys:=by
    intro H1 H2 l ys s h
    induction h with
    | nil=>exact .nil
    | cons h t ih=>exact .cons (hR _ _ _ _ s h) ih
  have snoc:∀ {H1:Hp} {l:List α} {ys:List V} {c:α} {y:V},Paired (fun c y=>R c y H1) l ys→R c y H1→Paired (fun c y=>R c y H1) (l++[c]) (ys++[y]):=by
    intro H1 l ys c y h r
    induction h with
    | nil=>exact .cons r .nil
    | cons h t ih=>exact .cons h ih
  refine ⟨fun i m ys H'=>m=as.length - i∧i≤as.length∧H' D=some (.lst ys)∧Same H H'∧ys.length≤i∧Paired (fun c y=>R c y H') ((as.take i).filter p) ys,⟨as.length,by simp,Nat.zero_le _,upd_same,Same.upd hD,Nat.le_refl _,.nil⟩,?_⟩
  rintro i m ys H2 ⟨rfl,hi,hD2,s2,hy,pr⟩
  refine ⟨hD2,?_⟩
  by_cases hlt:i<as.length
  · obtain ⟨hgo,hyl⟩:=hg i H2 s2 hlt
    refine .inr ⟨hgo,Nat.lt_of_le_of_lt (m:=100000) (by omega) (by decide),fun x H3 hy3=>?_⟩
    obtain ⟨rfl,c,hc,rc⟩:=hyl x H3 hy3
    have hti:as.take (i+1)=as.take i++[c]:=by rw [List.take_add_one,hc]; rfl
    obtain ⟨a,vs,e,hq,hl,ht,he⟩:=hs x c H3 (List.mem_of_getElem? hc) rc s2
    refine ⟨a,vs,e,hq,hl,fun b H4=>b=p c∧Same H3 H4,ht _ fun H5 s5=>⟨rfl,s5⟩,?_⟩
    rintro b H4 ⟨rfl,s4⟩
    by_cases hp:p c=true
    · rw [if_pos hp]
      refine ⟨fun y H5=>Same H4 H5∧R c y H5,he H4 _ s4 hp fun y H6 s6 r=>⟨s6,r⟩,?_⟩
      rintro y H5 ⟨s5,r⟩
      have e5:=s5 _ _ (s4 _ _ hD2)
      refine ⟨e5,_,?_,rfl,hlt,upd_same,Same.thru hD ((s2.trans s4).trans s5) SameBut.self,?_,?_⟩
      · omega
      · rw [List.length_append,List.length_singleton]; omega
      · rw [hti,List.filter_append,show List.filter p [c]=[c] by simp [hp]]
        have t6:SameT H5 (upd H5 D (.lst (ys++[y]))):=SameBut.t SameBut.self e5
        exact mono t6 (snoc (mono (s4.trans s5).t pr) r)
    · rw [if_neg hp]
      refine ⟨s4 _ _ hD2,_,?_,rfl,hlt,s4 _ _ hD2,s2.trans s4,by omega,?_⟩
      · omega
      · rw [hti,List.filter_append,show List.filter p [c]=[] by simp [hp],List.append_nil]
        exact mono s4.t pr
  · have e:i=as.length:=by omega
    subst e
    refine .inl ⟨hst H2 s2,hd D ys H2 hD hD2 s2 ?_⟩
    rw [List.take_length] at pr
    exact pr
theorem compN_tup {K:PySem.W.Frag} {n:Nat} {a0:Addr} {xs:List V} {α:Type} {as:List α} (p:α→Bool) (Src:α→V→Prop) (R:α→V→Hp→Prop) (hR:∀ c y H1 H2,SameT H1 H2→R c y H1→R c y H2) (hz:as.length≤100000) (ha:H a0=some (.tup xs)) (pr:Paired Src as xs)
    (hs:∀ x c H',c∈as→Src c x→Same H H'→∃ a vs,x=.ref a∧SqT K H' a vs∧vs.length=n∧(∀ Q':Bool→Hp→Prop,(∀ H5,Same H' H5→Q' (p c) H5)→tc (vs.map some++slots σ js) H' Q') ∧
      ∀ H5 (Q':VK),Same H' H5→p c=true→(∀ y H6,Same H5 H6→R c y H6→Q' y H6)→te (vs.map some++slots σ js) H5 Q')
    (hd:∀ D ys H',H D=none→H' D=some (.lst ys)→Same H H'→Paired (fun c y=>R c y H') (as.filter p) ys→Q (.ref D) H'):CompN K n (Itt K a0) σ js tc te H Q:=by
  have hl:xs.length=as.length:=pr.length.symm
  refine compN_flt p Src R hR hz (fun i H' s hi=>⟨⟨xs,xs[i]'(by omega),SqT.of (s _ _ ha),by simp⟩,fun x H3 y=>⟨y.1,?_⟩⟩) (fun H' s=>⟨xs,SqT.of (s _ _ ha),by omega⟩) hs hd
  have hx:=y.2 xs (SqT.of (s _ _ ha))
  obtain ⟨c,h1,h2⟩:=paired_at pr hx
  exact ⟨c,h1,h2⟩
end
end L2
set_option Elab.async false
set_option linter.all false
set_option maxRecDepth 100000
namespace L2
open PySem
section
variable {js:List Nat} {te:TE} {σ:St} {H:Hp} {Q:VK}
end
theorem Paired.ofRepL {H:Hp} {α:Type} {g:α→PyData}:∀ {as:List α} {xs:List V},RepL H (as.map g) xs→Paired (fun a x=>Rep H (g a) x) as xs
  | [],xs,r=>by
    unfold RepL at r
    cases (show xs=[] from r)
    exact .nil
  | a::as,xs,r=>by
    rw [List.map_cons] at r
    unfold RepL at r
    obtain ⟨x,xs',rfl,r1,r2⟩:=r
    exact .cons r1 (Paired.ofRepL r2)
theorem Paired.toRepL {H:Hp} {α:Type} {g:α→PyData}:∀ {as:List α} {xs:List V},Paired (fun a x=>Rep H (g a) x) as xs→RepL H (as.map g) xs
  | _,_,.nil=>RepL.nil
  | _,_,.cons h t=>RepL.cons h (Paired.toRepL t)
end L2
set_option Elab.async false
set_option linter.all false
set_option maxRecDepth 100000
namespace L2
open PySem
section
variable {X:Cx} {scope:Scope} {x1 x2 x3 y:Str} {N':List Str} {js:List Nat} {elt iter tg:Expr} {ifs:List Expr} {py pos spos:Pos} {tc:TT} {te:TE} {wi wj:TI} {i:Nat}
end
end L2
set_option Elab.async false
set_option linter.all false
set_option maxRecDepth 100000
namespace L2
open PySem PySem.Spec PyProof.Rows
@[irreducible] def rPA:V→List V→Hp→VK→Prop:=rPopAt
section
variable {X:Cx}
theorem mt_pa:MtR X "list.pop" rPA:=by unfold rPA; exact mt_popAt
end
theorem popA {H:Hp} {l:Addr} {xs:List V} {i:Nat} {Q:VK} (h:H l=some (.lst xs)) (hi:i<xs.length) (hz:xs.length≤1000) (q:∀ H',H' l=some (.lst (xs.eraseIdx i))→SameBut l H H'→Q xs[i] H'):rPA (.ref l) [.int (i:Int)] H Q:=by
  unfold rPA rPopAt
  refine ⟨l,xs,(i:Int),i,xs[i],rfl,rfl,h,by omega,by omega,?_,by simp [hi],q _ upd_same SameBut.self⟩
  have h1:¬ (i:Int)<0:=by omega
  have h2:(decide (0≤(i:Int))&&decide ((i:Int)<(xs.length:Int)))=true:=by simp; omega
  simp only [seqIndex?,if_neg h1,h2,if_true]
  rfl
end L2
set_option Elab.async false
set_option linter.all false
set_option maxRecDepth 100000
namespace L2
open PySem PySem.Spec PyProof.Rows
theorem boot_sorted:bootBuiltins (Str.ofString "sorted")=some (Value.builtin "sorted"):=by decide +kernel
section
variable {X:Cx}
theorem valsInts:∀ {vs:List Value} {ns:List Int},IntsAre vs ns→Vals (ns.map V.int) vs:=by
  intro vs ns h
  induction h with
  | nil=>exact .nil
  | cons=>rename_i ih; exact .cons ⟨_,rfl⟩ ih
end
end L2
set_option Elab.async false
set_option linter.all false
set_option maxRecDepth 100000
namespace L2
open PySem PySem.Spec PySem.W PyProof.Rows HT
end L2
set_option Elab.async false
set_option linter.all false
set_option maxRecDepth 100000
namespace L2
open PySem PySem.Spec PyProof.Rows
section
variable {prog:Program} {w:World} {A:Around} {E:Value→Shared→Prop} {s:Shared}
end
end L2
set_option Elab.async false
set_option linter.all false
set_option maxRecDepth 100000
namespace L2
open PySem PySem.W PySem.Spec PySem.Calls PyProof.Rows
section
variable {X:Cx}
@[irreducible] def rAll:List V→Hp→VK→Prop:=fun xs H Q=>∃ (p:Addr) (bs:List Bool),xs=[.ref p]∧H p=some (.lst (bs.map V.bl))∧Q (.bl (bs.all id)) H
theorem rall {p:Addr} {bs:List Bool} {H:Hp} {Q:VK} (e:H p=some (.lst (bs.map V.bl))) (q:Q (.bl (bs.all id)) H):rAll [.ref p] H Q:=by unfold rAll; exact ⟨p,bs,rfl,e,q⟩
theorem bools_of {bs:List Bool}:∀ {us:List Value},Vals (bs.map V.bl) us→LSm.BoolsAre us bs:=by
  induction bs with
  | nil=>intro us r; cases r; exact .nil
  | cons b bs ih =>
    intro us r
    cases r with
    | cons r t=>cases (show _=Value.bool b from r); exact .cons b (ih t)
theorem cl_all (hc:X.calm=true):CallR X (.builtin "all") rAll:=by
  unfold rAll
  intro pins s σ H xs us Q I r h
  obtain ⟨p,bs,rfl,e,q⟩:=h
  obtain ⟨_,rfl,r1⟩:=vals1 r
  cases r1
  obtain ⟨z,its,n,rv,hl,eo⟩:=I.lstM e
  have hL:s.heap.IsList p its.toArray:=⟨_,eo,rfl,n,rfl⟩
  have hb:=bools_of rv
  have hlt:p<s.heap.objs.size:=Heap.lt_size eo
  refine call_all_walk (wpAny_pyIter_list hL ?_)
  refine ⟨s.heap.objs.size,[s.heap.objs.size,p],[s.heap.objs.size],its.toArray.size,_,_,fun i=>(bs[i]?).getD true,rfl,Walks.list (A:=X.A.in1) (I.ok.hd hc) _ p (Nat.ne_of_lt hlt) its.toArray,
    ⟨⟨_,Heap.get?_push_size _ rfl,rfl,rfl⟩,hL.push _⟩,fun i v s' Q' E' hP hQ=>?_,fun h' tk hk=>?_⟩
  · obtain ⟨b,e,rfl⟩:=hb.get i v (by simpa using hP)
    simp only [e,Option.getD_some] at hQ
    exact wpAny_truthy_bool hQ
  · have e:((List.range its.toArray.size).all fun i=>(bs[i]?).getD true)=bs.all id:=by
      rw [List.size_toArray,hb.length]; exact LSm.range_all bs
    rw [e]
    exact ⟨.bl _,H,I.kept (LSm.kept_iter hk),rfl,q⟩
end
end L2
namespace L2
def ctxC:Nat:=82
end L2
set_option Elab.async false
set_option linter.all false
set_option maxRecDepth 100000
namespace L2
open PySem
def CzV (cls:Value) (vs:Array Value):Prop:=5<vs.size∧(vs[2]?=some .none∨cls=.ref ctxC)
theorem CzV.sz {cls:Value} {vs:Array Value} (h:CzV cls vs):1<vs.size:=Nat.lt_of_le_of_lt (by decide) h.1
theorem CzV.set {cls:Value} {vs:Array Value} {i:Nat} {v:Value} (h:CzV cls vs) (hi:i≠2):CzV cls (vs.setIfInBounds i v):=⟨by simpa using h.1,h.2.imp (fun e=>by rw [Array.getElem?_setIfInBounds_ne hi]; exact e) id⟩
def ExcAt (h:Heap) (a:Addr) (cls:Value) (od:Option Addr) (st:Option (Addr × Value)):Prop :=
  ∃ oe vs,h.get? a=some oe∧oe.cls=cls∧oe.dict=od∧oe.data=.fields vs∧CzV cls vs ∧
    match st with
    | none=>vs[1]?=some .none
    | some (T,fl)=>vs[1]?=some (.ref T)∧T≠a∧∃ oT ts,h.get? T=some oT∧oT.data=.fields ts∧3<ts.size∧ts[3]?=some fl
structure Kp (fs ex:List Addr) (h h':Heap):Prop where
  keep:∀ b o,h.get? b=some o→b ∉ fs→b ∉ ex→h'.get? b=some o
  slot:∀ b o,h.get? b=some o→b∈fs→b ∉ ex→∃ sl,h'.get? b=some { o with slots:=sl }
theorem Kp.any {fs ex:List Addr} {h h':Heap} (k:Kp fs ex h h') {b:Addr} {o:Obj} (e:h.get? b=some o) (n:b ∉ ex):∃ sl,h'.get? b=some { o with slots:=sl }:=by
  by_cases m:b∈fs
  · exact k.slot b o e m n
  · exact ⟨o.slots,k.keep b o e m n⟩
def stT:Option (Addr × Value)→List Addr
  | none=>[]
  | some (T,_)=>[T]
section
variable {M:Model} {A:Around} {E:Value→Shared→Prop} {s:Shared} {env:Env} {outer:List Env} {base:Heap} {L a:Addr} {cls:Value} {od:Option Addr}
theorem entry_ok {oe:Obj} {vs:Array Value} {head:Value} {had:Bool} {Q:Unit→Shared→Prop} (hfr:A.frames=some (env::outer)) (hl:s.heap.FunFrames base (env::outer)) (hf:env.frame=some L)
    (he:s.heap.get? a=some oe) (hc:oe.cls=cls) (ho:oe.dict=od) (hd:oe.data=.fields vs) (hz:CzV cls vs)
    (k:∀ h' T',ExcAt h' a cls od (some (T',rawInt L))→s.heap.get? T'=none→Kp ((env::outer).filterMap (·.frame)) [a] s.heap h'→Q () { s with heap:=h' }) :
    wpAny M A (do
      let fo ← frameOf env
      let pl ← entryPlaceOf L had
      let en ← EntryCells.newEntry head fo .none (rawInt L) .none pl
      setField (.ref a) 1 en) Q E s:=by
  have na:a ∉ (env::outer).filterMap (·.frame):=fun m=>by
    obtain ⟨_,o,e,nf⟩:=hl.mem m
    rw [he] at e
    cases e
    exact nf vs hd
  refine wpAny_bind (wpAny_frameOf_fun hfr hl hf fun h1 so=>?_)
  refine wpAny_bind (wpAny_entryPlaceOf fun pl ip=>?_)
  unfold EntryCells.newEntry newFields
  refine wpAny_bind (wpAny_newObj_type ?_ (ip.sizeOk5 ..))
  have e1:h1.get? a=some oe:=(so.2.1 a na).trans he
  generalize hT:({ cls:=.type "traceback",dict:=none,data:=.fields ([head,Value.ref L,Value.none,rawInt L,Value.none]++(if pl.isEmpty then List.replicate 6 Value.none else pl)).toArray }:Obj)=oT
  have e2:(h1.push oT).get? a=some oe:=Heap.get?_push_of_some _ e1
  refine wpAny_setField e2 hd hz.sz (k _ h1.objs.size ?_ ?_ ?_)
  · have ne:h1.objs.size≠a:=Nat.ne_of_gt (Heap.lt_size e1)
    have d3:=Obj.data_mapFields hd (·.setIfInBounds 1 (Value.ref h1.objs.size))
    refine ⟨_,_,Heap.get?_update_self _ e2 (Obj.isFreed_of_fields d3),?_,?_,d3,hz.set (by decide),by simp [hz.sz],ne,oT,_,?_,by rw [← hT],?_,?_⟩
    · rw [Obj.cls_mapFields]; exact hc
    · rw [← ho]
      obtain ⟨_,_,dt,_⟩:=oe
      cases dt <;> rfl
    · rw [Heap.get?_update_other _ _ (Ne.symm ne)]
      exact Heap.get?_push_size h1 (by rw [← hT]; rfl)
    · simp only [List.size_toArray,List.length_append,List.length_cons,List.length_nil] <;> omega
    · simp
  · cases q:s.heap.get? h1.objs.size with
    | none=>rfl
    | some o=>exact absurd (Heap.lt_size q) (by rw [so.1]; exact Nat.lt_irrefl _)
  · refine ⟨fun b o e n1 n2=>?_,fun b o e n1 n2=>?_⟩
    · have e3:h1.get? b=some o:=(so.2.1 b n1).trans e
      have nb:a≠b:=fun z=>n2 (by rw [z]; exact List.mem_cons_self)
      rw [Heap.get?_update_other _ _ nb]
      exact Heap.get?_push_of_some _ e3
    · obtain ⟨sl,e3⟩:=so.2.2 b o e
      have nb:a≠b:=fun z=>n2 (by rw [z]; exact List.mem_cons_self)
      refine ⟨sl,?_⟩
      rw [Heap.get?_update_other _ _ nb]
      exact Heap.get?_push_of_some _ e3
theorem note_ok {st:Option (Addr × Value)} {Q:Unit→Shared→Prop} (hfr:A.frames=some (env::outer)) (hl:s.heap.FunFrames base (env::outer)) (hf:env.frame=some L)
    (x:ExcAt s.heap a cls od st) (hst:st=none∨∃ T,st=some (T,.none))
    (k:∀ h' T',ExcAt h' a cls od (some (T',rawInt L))→s.heap.get? T'=none→Kp ((env::outer).filterMap (·.frame)) (a::stT st) s.heap h'→Q () { s with heap:=h' }) :
    wpAny M A (noteFrame (.ref a) env) Q E s:=by
  obtain ⟨oe,vs,he,hc,ho,hd,hz,x⟩:=x
  unfold noteFrame
  simp only [hf]
  rcases hst with rfl | ⟨T,rfl⟩
  · refine wpAny_bind (wpAny_field he hd x ?_)
    rw [if_neg (by decide)]
    exact entry_ok hfr hl hf he hc ho hd hz k
  · obtain ⟨x1,nT,oT,ts,hT,dT,zT,x3⟩:=x
    refine wpAny_bind (wpAny_field he hd x1 ?_)
    rw [if_pos (by simp)]
    refine wpAny_bind (wpAny_field hT dT x3 ?_)
    rw [if_neg (by simp [rawInt])]
    refine wpAny_bind (wpAny_setField hT dT zT ?_)
    have other:∀ b,b≠T→(s.heap.update T (Obj.mapFields (·.setIfInBounds 3 Value.none))).get? b=s.heap.get? b:=fun b hb=>Heap.get?_update_other _ _ (Ne.symm hb)
    have nrec:∀ b o,s.heap.get? b=some o→(∀ ws,o.data ≠ .fields ws)→b≠T:=fun b o e nf z=>by
      subst z; rw [hT] at e; cases e; exact nf ts dT
    refine entry_ok (hfr:=hfr) (hl:=hl.of_keeps fun b o e nf=>⟨o,(other b (nrec b o e nf)).trans e,rfl⟩) hf ((other a (Ne.symm nT)).trans he) hc ho hd hz fun h' T' y1 y2 y3=>k h' T' y1 ?_ ?_
    · by_cases z:T'=T
      · subst z
        have:=Heap.get?_update_self (Obj.mapFields (·.setIfInBounds 3 Value.none)) hT (Obj.isFreed_of_fields (Obj.data_mapFields dT _))
        rw [this] at y2; cases y2
      · rw [← other T' z]; exact y2
    · refine ⟨fun b o e n1 n2=>y3.keep b o ((other b fun z=>n2 (by rw [z]; simp [stT])).trans e) n1 fun z=>n2 (List.mem_cons.mpr (.inl (List.mem_singleton.mp z))),fun b o e n1 n2=>y3.slot b o ((other b fun z=>n2 (by rw [z]; simp [stT])).trans e) n1 fun z=>n2 (List.mem_cons.mpr (.inl (List.mem_singleton.mp z)))⟩
theorem land_ok {T:Addr} {fl:Value} {Q:Unit→Shared→Prop} (x:ExcAt s.heap a cls od (some (T,fl)))
    (k:∀ h',ExcAt h' a cls od (some (T,.none))→(∀ b o,b≠T→s.heap.get? b=some o→h'.get? b=some o)→Q () { s with heap:=h' }):wpAny M A (setFlight (.ref a) none) Q E s:=by
  obtain ⟨oe,vs,he,hc,ho,hd,hz,x1,nT,oT,ts,hT,dT,zT,x3⟩:=x
  unfold setFlight
  refine wpAny_bind (wpAny_field he hd x1 ?_)
  rw [if_pos (by simp)]
  refine wpAny_setField hT dT zT (k _ ?_ fun b o hb e=>?_)
  · have d2:=Obj.data_mapFields dT (·.setIfInBounds 3 Value.none)
    exact ⟨oe,vs,by rw [Heap.get?_update_other _ _ nT]; exact he,hc,ho,hd,hz,x1,nT,_,_,Heap.get?_update_self _ hT (Obj.isFreed_of_fields d2),d2,by simpa using zT,by simp [zT]⟩
  · rw [Heap.get?_update_other _ _ (Ne.symm hb)]; exact e
theorem leave_ok {st:Option (Addr × Value)} {Q:Unit→Shared→Prop} (hfr:A.frames=some (env::outer)) (hl:s.heap.FunFrames base (env::outer)) (hf:env.frame=some L)
    (x:ExcAt s.heap a cls od st) (hst:st=none∨∃ T,st=some (T,.none))
    (k:∀ h' T',ExcAt h' a cls od (some (T',.none))→s.heap.get? T'=none→Kp ((env::outer).filterMap (·.frame)) (a::stT st) s.heap h'→Q () { s with heap:=h' }) :
    wpAny M A (leaving env (.ref a)) Q E s:=by
  unfold leaving
  refine wpAny_bind (note_ok hfr hl hf x hst fun h1 T1 y1 y2 y3=>?_)
  refine land_ok y1 fun h2 z1 z2=>?_
  refine k h2 T1 z1 y2 ⟨fun b o e n1 n2=>z2 b o (fun q=>?_) (y3.keep b o e n1 n2),fun b o e n1 n2=>?_⟩
  · subst q; rw [y2] at e; cases e
  · obtain ⟨sl,e1⟩:=y3.slot b o e n1 n2
    exact ⟨sl,z2 b _ (fun q=>by subst q; rw [y2] at e; cases e) e1⟩
end
end L2
set_option Elab.async false
set_option linter.all false
set_option maxRecDepth 100000
namespace L2
open PySem PySem.Spec PyProof.Rows
section
variable {P:Program} {w:World} {H H1 H2:Hp} {h h1 h2 base:Heap} {fs fs2 ex:List Addr} {a:Addr} {o:HO}
theorem ObjOk.get (x:ObjOk P w H h a o):∃ ob,h.get? a=some ob:=by
  cases o with
  | lst xs=>obtain ⟨_,_,_,_,e⟩:=x; exact ⟨_,e⟩
  | tup xs=>obtain ⟨_,_,_,o,e,_⟩:=x; exact ⟨_,e⟩
  | dK kvs=>obtain ⟨_,_,_,_,o,_,_,e,_⟩:=x; exact ⟨_,e⟩
  | dT kvs=>obtain ⟨_,_,_,_,o,_,_,e,_⟩:=x; exact ⟨_,e⟩
  | set S n=>obtain ⟨o,_,_,_,e,_⟩:=x; exact ⟨_,e⟩
  | ins C dx fs=>obtain ⟨_,_,_,e,_⟩:=x; exact ⟨_,e⟩
  | own y=>obtain ⟨_,e⟩:=x; exact ⟨_,e⟩
  | xd fs=>obtain ⟨_,⟨_,_,_,e,_⟩,_⟩:=x; exact ⟨_,e⟩
  | rng lo hi=>obtain ⟨_,_,_,e⟩:=x; exact ⟨_,e⟩
  | frz ob u=>obtain ⟨e,_⟩:=x; exact ⟨_,e⟩
  | tbl ps=>exact ⟨_,(show h.get? a=some _ from x)⟩
  | met f y=>exact ⟨_,(show h.get? a=some _ from x)⟩
  | ext φ=>obtain ⟨_,e,_⟩:=x; exact e
theorem HOk.kp (x:HOk P w H h) (k:Kp fs ex h h1) (hf:∀ b∈fs,H b=none) (he:∀ b∈ex,H b=none):HOk P w H h1:=fun a o e =>
  (x a o e).stay (fun b u hb q=>by
    have nb:H b≠none:=by
      rcases hb with rfl | hb
      · rw [e]; simp
      · rw [hb]; simp
    exact k.keep b u q (fun z=>nb (hf b z)) fun z=>nb (he b z)) (fun _ q=>q) fun _ _ q=>q
theorem Un.tr (u:Un fs [] H H1 h h1) (v:Un fs2 [] H1 H2 h1 h2) (hf:∀ b∈fs2,b∈fs∨h.get? b=none):Un fs [] H H2 h h2 where
  keep:=fun b o e n m _=>v.keep b o (u.keep b o e n m (by simp)) (u.free b o e n (by simp)) (fun z=>(hf b z).elim m fun q=>by rw [e] at q; cases q) (by simp)
  slot:=fun b o e n m _=>by
    obtain ⟨s1,e1⟩:=u.slot b o e n m (by simp)
    obtain ⟨s2,e2⟩:=v.any e1 (u.free b o e n (by simp)) (by simp)
    exact ⟨s2,e2⟩
  free:=fun b o e n _=>by
    obtain ⟨o1,e1⟩:=u.there b o e (by simp)
    exact v.free b o1 e1 (u.free b o e n (by simp)) (by simp)
  there:=fun b o e _=>by
    obtain ⟨o1,e1⟩:=u.there b o e (by simp)
    exact v.there b o1 e1 (by simp)
  tups:=fun b xs e=>v.tups b xs (u.tups b xs e)
  frzs:=fun b ob xs e=>v.frzs b ob xs (u.frzs b ob xs e)
  tbls:=fun b ps e=>by
    obtain ⟨m1,e1⟩:=u.tbls b ps e
    obtain ⟨m2,e2⟩:=v.tbls b _ e1
    exact ⟨m1++m2,by rw [e2,Array.append_assoc]⟩
theorem Un.kp (u:Un fs [] H H1 h h1) (k:Kp fs2 ex h1 h2) (hf:∀ b∈fs2,b∈fs∨h.get? b=none) (he:∀ b∈ex,h.get? b=none):Un fs [] H H1 h h2 where
  keep:=fun b o e n m _=>k.keep b o (u.keep b o e n m (by simp)) (fun z=>(hf b z).elim m fun q=>by rw [e] at q; cases q) fun z=>by rw [he b z] at e; cases e
  slot:=fun b o e n m _=>by
    obtain ⟨s1,e1⟩:=u.slot b o e n m (by simp)
    obtain ⟨s2,e2⟩:=k.any e1 fun z=>by rw [he b z] at e; cases e
    exact ⟨s2,e2⟩
  free:=u.free
  there:=fun b o e _=>by
    obtain ⟨o1,e1⟩:=u.there b o e (by simp)
    obtain ⟨s2,e2⟩:=k.any e1 fun z=>by rw [he b z] at e; cases e
    exact ⟨_,e2⟩
  tups:=u.tups
  frzs:=u.frzs
  tbls:=u.tbls
theorem Un.put {u:HO} (x:Un fs [] H H1 h h1) (ha:h.get? a=none) (hn:H1 a=none):Un fs [] H (upd H1 a u) h h1 where
  keep:=x.keep
  slot:=x.slot
  free:=fun b ob e n m=>by rw [upd_ne (fun z=>by subst z; rw [ha] at e; cases e)]; exact x.free b ob e n m
  there:=x.there
  tups:=fun b xs e=>by rw [upd_ne (ne_of_none (x.tups b xs e) hn)]; exact x.tups b xs e
  frzs:=fun b ob xs e=>by rw [upd_ne (ne_of_none (x.frzs b ob xs e) hn)]; exact x.frzs b ob xs e
  tbls:=fun b ps e=>by
    obtain ⟨m,q⟩:=x.tbls b ps e
    exact ⟨m,by rw [upd_ne (ne_of_none q hn)]; exact q⟩
theorem HOk.put {u:HO} (x:HOk P w H h) (hn:H a=none) (new:ObjOk P w (upd H a u) h a u):HOk P w (upd H a u) h:=fun b v e=>by
  by_cases hb:b=a
  · subst hb; rw [upd_same] at e; cases e; exact new
  · rw [upd_ne hb] at e
    exact (x b v e).stay (fun c q _ r=>r) (fun c q=>by rw [upd_ne (ne_of_none q hn)]; exact q) fun c xs q=>by rw [upd_ne (ne_of_none q hn)]; exact q
theorem funFrames_kp:∀ {l:List Env},(∀ b∈frs l,∀ o,h.get? b=some o→∃ sl,h1.get? b=some { o with slots:=sl })→h.FunFrames base l→h1.FunFrames base l
  | [],_,_=>trivial
  | env::r,k,⟨hk,⟨L,o,hf,hn,ho,hd⟩,hr⟩=>by
    have hL:L∈frs (env::r):=List.mem_filterMap.mpr ⟨env,List.mem_cons_self,hf⟩
    obtain ⟨sl,e⟩:=k L hL o ho
    refine ⟨hk,⟨L,_,hf,hn,e,hd⟩,funFrames_kp (fun b hb=>k b ?_) hr⟩
    obtain ⟨e',m,q⟩:=List.mem_filterMap.mp hb
    exact List.mem_filterMap.mpr ⟨e',List.mem_cons_of_mem _ m,q⟩
end
def CX1 (P:Program) (w:World):CXT:=fun outer H s E e s'=>∃ (a T:Addr) (cls:Value) (od:Option Addr) (H':Hp),e=.ref a∧s'.os=s.os∧AllBare s'.gens∧Un (frs outer) [] H H' s.heap s'.heap∧HOk P w H' s'.heap ∧
  s.heap.get? a=none∧s.heap.get? T=none∧H' a=none∧H' T=none∧ExcAt s'.heap a cls od (some (T,.none))∧E cls od H'
structure XPass (X:Cx) (Ex:St→XK):Prop where
  p:∀ (pins:List (Addr × Obj)) (σ:St) (H:Hp) (s:Shared) (e:Value) (s':Shared),Inv X pins σ H s→CX1 X.prog X.w X.stack H s (Ex σ) e s'→X.xe e s'
structure XMade (X:Cx) (Ex:St→XK):Prop where
  p:∀ (pins:List (Addr × Obj)) (σ:St) (H:Hp) (s:Shared) (h':Heap) (tk:Nat) (a:Addr) (cls:Value) (od:Option Addr),Inv X pins σ H s→(∀ b o,s.heap.get? b=some o→h'.get? b=some o)→s.heap.get? a=none→H a=none →
    ExcAt h' a cls od none→Ex σ cls od H→X.xe (.ref a) { s with heap:=h',toks:=tk }
section
variable {P:Program} {w:World} {K:PySem.W.Frag} {mg:Str→Option Value} {base:Heap} {N:List Str} {qual:Str} {scope:Scope} {f:Addr} {cd:Value} {A:Around} {outer:List Env} {s:Shared} {H:Hp} {E:XK}
theorem leave_fn {pins:List (Addr × Obj)} {σ:St} {H1 H2:Hp} {s1 s2:Shared} {a:Addr} {cls:Value} {od:Option Addr} {st:Option (Addr × Value)}
    (I:Inv (cxOf (CX1 P w) P w K mg base N qual scope f cd A outer s H E) pins σ H1 s1) (os:s2.os=s1.os) (bare:AllBare s2.gens)
    (un:Un (frs (cxOf (CX1 P w) P w K mg base N qual scope f cd A outer s H E).stack) [] H1 H2 s1.heap s2.heap) (hok:HOk P w H2 s2.heap) (x:ExcAt s2.heap a cls od st) (hst:st=none∨∃ T,st=some (T,.none))
    (fa:s1.heap.get? a=none) (na:H2 a=none) (fT:∀ T∈stT st,s1.heap.get? T=none) (nT:∀ T∈stT st,H2 T=none) (q:E cls od H2) :
    (cxOf (CX1 P w) P w K mg base N qual scope f cd A outer s H E).xe (.ref a) s2:=by
  have hff:s2.heap.FunFrames (cxOf (CX1 P w) P w K mg base N qual scope f cd A outer s H E).base (cxOf (CX1 P w) P w K mg base N qual scope f cd A outer s H E).stack :=
    funFrames_kp (fun b hb o e=>un.any e (I.stkFree b hb) (by simp)) I.stack
  have old:∀ b,s1.heap.get? b=none→s.heap.get? b=none:=fun b e=>by
    cases q:s.heap.get? b with
    | none=>rfl
    | some o =>
      obtain ⟨o',e'⟩:=I.base.there b o q (by intro z; cases z)
      rw [e] at e'; cases e'
  have old2:∀ b,s2.heap.get? b=none→s1.heap.get? b=none:=fun b e=>by
    cases q:s1.heap.get? b with
    | none=>rfl
    | some o =>
      obtain ⟨o',e'⟩:=un.there b o q (by simp)
      rw [e] at e'; cases e'
  have hfs:∀ b∈frs (cxOf (CX1 P w) P w K mg base N qual scope f cd A outer s H E).stack,b∈frs outer∨s.heap.get? b=none:=fun b hb=>by
    have hb':b∈s.heap.objs.size::frs outer:=hb
    rcases List.mem_cons.mp hb' with z | z
    · right
      rw [z]
      exact Heap.get?_none_of_le (Nat.le_refl _)
    · exact .inl z
  show wpAny (model P w) (A.deeper (envOfC qual scope s.heap.objs.size f cd)) (leaving (envOfC qual scope s.heap.objs.size f cd) (.ref a)) _ _ s2
  refine leave_ok I.ok.frames hff rfl x hst fun h3 T3 y1 y2 y3=>?_
  have hfree:∀ b∈frs (cxOf (CX1 P w) P w K mg base N qual scope f cd A outer s H E).stack,H2 b=none:=fun b hb=>by
    have ff:=I.stack
    obtain ⟨_,o,ho,_⟩:=ff.mem hb
    exact un.free b o ho (I.stkFree b hb) (by simp)
  have hex:∀ b∈a::stT st,s1.heap.get? b=none:=fun b hb=>by
    rcases List.mem_cons.mp hb with rfl | hb
    · exact fa
    · exact fT b hb
  refine ⟨a,T3,cls,od,H2,rfl,os.trans I.os,bare,((I.base.tr un hfs).kp y3 hfs fun b hb=>old b (hex b hb)),hok.kp y3 hfree (fun b hb=>?_),old a fa,old T3 (old2 T3 y2),na,?_,y1,q⟩
  · rcases List.mem_cons.mp hb with rfl | hb
    · exact na
    · exact nT b hb
  · cases z:H2 T3 with
    | none=>rfl
    | some u =>
      obtain ⟨ob,e⟩:=(hok T3 u z).get
      rw [y2] at e; cases e
theorem xpass_fn:XPass (cxOf (CX1 P w) P w K mg base N qual scope f cd A outer s H E) (fun _=>E):=⟨fun pins σ H1 s1 e s2 I hc=>by
  obtain ⟨a,T,cls,od,H2,rfl,os,bare,un,hok,fa,fT,na,nT,x,q⟩:=hc
  exact leave_fn I os bare un hok x (.inr ⟨T,rfl⟩) fa na (fun b hb=>by cases List.mem_singleton.mp hb; exact fT) (fun b hb=>by cases List.mem_singleton.mp hb; exact nT) q⟩
theorem xmade_fn:XMade (cxOf (CX1 P w) P w K mg base N qual scope f cd A outer s H E) (fun _=>E):=⟨fun pins σ H1 s1 h' tk a cls od I k fa na x q =>
  leave_fn (s2:={ s1 with heap:=h',toks:=tk }) I rfl I.bare (Un.kept k) (I.hok.kept k) x (.inl rfl) fa na (fun b hb=>by cases hb) (fun b hb=>by cases hb) q⟩
end
def tCallX (sp:Sp) (Ex:St→XK) (t:TA):TE:=fun σ H Q=>t σ H fun vs H1=>sp vs H1 Q (Ex σ)
section
variable {X:Cx} {k:Nat} {f C:Addr} {fd:FuncData} {ps:List Str} {sp:Sp} {Ex:St→XK} {x:Str} {p pos np cpos:Pos} {e:Expr} {es:List Expr} {t:TA}
theorem run_fnX {pins:List (Addr × Obj)} {σ:St} {H:Hp} {s:Shared} {Q:VK} {us:List Value} {vs:List V} (F:FnOk X.prog X.w X.K X.mg X.base (CX1 X.prog X.w) k f fd ps sp) (hr:Room k X.A) (hb:Binds X.K fd ps []) (hx:XPass X Ex)
    (I:Inv X pins σ H s) (r:Vals vs us) (h:sp vs H Q (Ex σ)):wpAny (model X.prog X.w) X.A (call (.ref f) us) (EP X pins σ Q) X.xe s:=by
  have hl:(us++[]).length=ps.length:=by rw [List.append_nil,← r.length]; exact F.len _ _ _ _ h
  have hbt:=hb s us I.kIn hl
  rw [List.append_nil] at hbt
  refine wpAny_call (codeAny_mono (F.run X.A X.stack s H ⟨us,[]⟩ us vs Q (Ex σ) hr I.env0 hbt r h) fun r s' hq=>?_)
  cases r with
  | error e=>exact hx.p pins σ H s e s' I hq
  | ok fl =>
    cases fl with
    | ret u=>exact I.after hq
    | next=>exact False.elim hq
    | brk=>exact False.elim hq
    | cont=>exact False.elim hq
theorem we_fnX (F:FnC (CX1 X.prog X.w) X.prog X.w X.K X.mg X.base k x ps sp) (hr:Room k X.A) (hx:XPass X Ex) (ha:PAw X (e::es) t) (hg:Gl X x:=by rfl)
    (hdb:(x == ("__debug__" : Str))=false:=by decide) (he:starEach (e::es) X.env=(false,eval e X.env)::starEach es X.env:=by first | exact se_Name | exact se_Constant | exact se_BoolOp | exact se_BinOp | exact se_UnaryOp | exact se_IfExp | exact se_Dict | exact se_ListComp | exact se_Compare | exact se_Call | exact se_Attribute | exact se_Subscript | exact se_List | exact se_Tuple | exact se_JoinedStr | exact se_GeneratorExp)
    (hpl:(backTo pos (starEach es X.env)).any (·.1)=false:=by repeat (first | exact ap_nil | refine ap_cons (by first | exact se_Name | exact se_Constant | exact se_BoolOp | exact se_BinOp | exact se_UnaryOp | exact se_IfExp | exact se_Dict | exact se_ListComp | exact se_Compare | exact se_Call | exact se_Attribute | exact se_Subscript | exact se_List | exact se_Tuple | exact se_JoinedStr | exact se_GeneratorExp) ?_)) :
    PEw X (.Call (.Name x p) (e::es) [] pos) (tCallX sp Ex t):=⟨by
  obtain ⟨f,fd,h1,h2,h3,h4⟩:=F.ex
  intro pins s σ H Q I h
  refine wpAny_Call_Name_kw (ld_glob I hg h2 ?_ hdb)
  refine PySem.W.callWith_K (h₀:=X.base) I.ok.mod.kin h3 (thn (ha.p pos pins s σ H _ I h) fun us s1 ⟨vs,H1,I1,r,q⟩=>⟨I1.kIn,?_⟩) he hpl
  exact run_fnX h1 hr h4 hx I1 r q⟩
end
theorem Fun.okx {P:Program} {w:World} {K:PySem.W.Frag} {mg:Str→Option Value} {base:Heap} {x qual:Str} {st:Stmt} {f:Addr} {fd:FuncData} {N ps:List Str} {k:Nat} {sp:Sp} (F:Fun K x qual st f fd) (S:FnScope N ps (defScope st)) (len:∀ vs H Q E,sp vs H Q E→vs.length=ps.length)
    (hbody:∀ (cdv:Value) (A:Around) (outer:List Env) (s:Shared) (H:Hp) (vs:List V) (Q:VK) (E:XK),Room k (A.deeper (envOfC qual (defScope st) s.heap.objs.size f cdv))→sp vs H Q E →
      XPass (cxOf (CX1 P w) P w K mg base N qual (defScope st) f cdv A outer s H E) (fun _=>E)→XMade (cxOf (CX1 P w) P w K mg base N qual (defScope st) f cdv A outer s H E) (fun _=>E) →
      ∃ t,PSsw (cxOf (CX1 P w) P w K mg base N qual (defScope st) f cdv A outer s H E) (defBody st) t∧t { nx:=fun _ H'=>Q .non H',rt:=Q } (start N vs) H):FnOk P w K mg base (CX1 P w) (k+1) f fd ps sp:=by
  obtain ⟨oc,od,kV,doc,pm,an,cdv,ct,osl,rfl,lk,hcd⟩:=F.ex
  refine fn_of lk hcd S len fun A outer s H vs Q E hr hsp=>?_
  obtain ⟨t,h,q⟩:=hbody cdv A outer s H vs Q E hr hsp xpass_fn xmade_fn
  exact ⟨t,h.p,q⟩
theorem exc_obj {K:PySem.W.Frag} {h:Heap} {C:Addr} {bmB:List Value} {newId:String} (X:K.In h) (q:PySem.W.excIn K C bmB newId=true) :
    ∃ bm N nm qn bs hdct sn sub ab col dd k0 k1 k2 k3 k5 mN,h.get? C=some (excClassObj nm qn C N bs bm hdct sn sub ab col dd k0 k1 k2 k3 k5 newId)∧h.Ns N mN∧mN "__init__" = none∧OwnTail h bmB bm:=by
  unfold PySem.W.excIn at q
  cases e:K.lookup C with
  | none=>rw [e] at q; cases q
  | some o =>
    rw [e] at q
    obtain ⟨oc,dd,dt,sl⟩:=o
    split at q
    · rename_i _ dd' cd sl' ho
      cases ho
      split at q
      · rename_i C' bm k0 k1 k2 k3 n k5 hm hs
        rw [Bool.and_eq_true,Bool.and_eq_true,Bool.and_eq_true,Bool.and_eq_true,Bool.and_eq_true] at q
        obtain ⟨⟨⟨⟨⟨q1,q2⟩,q3⟩,q4⟩,q5⟩,q6⟩:=q
        have q1:C'=C:=by simpa using q1
        have q2:n=newId:=by simpa using q2
        have q3:cd.hasDel=false:=by simpa using q3
        have q6:PySem.W.nsIn K cd.ns "__init__" = some none:=by simpa using q6
        subst q1 q2
        obtain ⟨nm,bs,mro,ns,qn,hd,sn,sub,ab,col,del⟩:=cd
        cases hm
        cases q3
        obtain ⟨l⟩:=sl
        cases hs
        exact ⟨bm,ns,nm,qn,bs,hd,sn,sub,ab,col,dd,k0,k1,k2,k3,k5,_,X _ _ e,.of_isNs (PySem.W.isNs_of_in X q5),PySem.W.nsMap_none_of_in X q5 q6,PySem.W.tail_of_in X q4⟩
      · cases q
    · cases q
theorem MadeExcOf.at {h h':Heap} {a:Addr} {cls:Value} {args:List Value} (x:Heap.MadeExcOf h h' a cls args):ExcAt h' a cls none none:=by
  obtain ⟨t,e,_,_⟩:=x.there
  exact ⟨_,_,e,rfl,rfl,rfl,⟨by show 5<6; decide,.inl rfl⟩,rfl⟩
def tRaise (cls:Value) (Ex:St→XK) (t:TA):TS:=fun _ σ H=>t σ H fun vs H1=>vs.length≤64∧Ex σ cls none H1
abbrev mroVE:List Value:=[.type "ValueError",.type "Exception",.type "BaseException",.type "object"]
section
variable {X:Cx} {C:Addr} {Ex:St→XK} {x:Str} {pos np cpos:Pos} {e:Expr} {es:List Expr} {t:TA}
theorem ws_raise (q:PySem.W.excIn X.K C mroVE "ValueError.__new__" = true) (hm:X.mg x=some (.ref C)) (hc:X.calm=true) (hx:XMade X Ex) (ha:PAw X (e::es) t) (hg:Gl X x:=by rfl)
    (hdb:(x == ("__debug__" : Str))=false:=by decide) (he:starEach (e::es) X.env=(false,eval e X.env)::starEach es X.env:=by first | exact se_Name | exact se_Constant | exact se_BoolOp | exact se_BinOp | exact se_UnaryOp | exact se_IfExp | exact se_Dict | exact se_ListComp | exact se_Compare | exact se_Call | exact se_Attribute | exact se_Subscript | exact se_List | exact se_Tuple | exact se_JoinedStr | exact se_GeneratorExp)
    (hpl:(backTo cpos (starEach es X.env)).any (·.1)=false:=by repeat (first | exact ap_nil | refine ap_cons (by first | exact se_Name | exact se_Constant | exact se_BoolOp | exact se_BinOp | exact se_UnaryOp | exact se_IfExp | exact se_Dict | exact se_ListComp | exact se_Compare | exact se_Call | exact se_Attribute | exact se_Subscript | exact se_List | exact se_Tuple | exact se_JoinedStr | exact se_GeneratorExp) ?_)) :
    PSw X (.Raise (some (.Call (.Name x np) (e::es) [] cpos)) none pos) (tRaise (.ref C) Ex t):=⟨by
  intro pins s σ H D I h
  obtain ⟨bm,N,nm,qn,bs,hdct,sn,sub,ab,col,dd,k0,k1,k2,k3,k5,mN,hC,hN,hni,TL⟩:=exc_obj I.ok.mod.kin q
  have FB:=PySem.F.excBase_ValueError
  refine wpAny_Raise_call_subT (C:=C) (nm:=nm) (q:=qn) (N:=N) (bs:=bs) (bm:=bm) (hdct:=hdct) (sn:=sn) (sub:=sub) (ab:=ab) (col:=col) (dd:=dd) (k0:=k0) (k1:=k1) (k2:=k2) (k3:=k3) (k5:=k5) FB (mN:=mN)
    (TL.hasType FB.hasBase) (I.ok.hd hc) ?_ hni (ld_glob I hg hm ⟨rfl,?_⟩ hdb)
  · rw [he]
    show (false || (backTo cpos (starEach es X.env)).any (·.1))=false
    rw [hpl]; rfl
  · have hA:=ha.p cpos pins s σ H _ I h
    rw [he] at hA ⊢
    refine Calls.evalArgs_plain (thn hA fun us s1 ⟨vs,H1,I1,r,hz,q⟩=>⟨rfl,?_,I1.bk _ _ hC,hN.keeps I1.bk,TL.keeps I1.bk,fun h' a x=>?_⟩)
    · rw [← r.length]; exact small64 hz
    · have fresh:=x.new
      have na:H1 a=none:=by
        cases z:H1 a with
        | none=>rfl
        | some u=>obtain ⟨ob,e⟩:=(I1.hok a u z).get; rw [fresh] at e; cases e
      exact hx.p pins σ H1 s1 h' s1.toks a _ none I1 x.keeps fresh na (MadeExcOf.at x) q⟩
end
end L2
set_option Elab.async false
set_option linter.all false
set_option maxRecDepth 100000
namespace L2
open PySem PySem.W PySem.Spec PySem.Calls PyProof.Rows
structure ExcCls (K:Frag) (C:Addr):Prop where
  ga:findIn K (.ref C) "__getattribute__" = some (some (.builtin "BaseException.__getattribute__"))
  gt:findIn K (.ref C) "__getattr__" = some none
  sub:subIn K (.ref C) (.type "BaseException")=some true
  cls:(clsIn K C).isSome=true
  kc:findIn K (.ref C) "__class__" = some (some (.builtin "object.__class__"))
  kg:specialIn K (.builtin "object.__class__") "__get__" = some (some (.builtin "getset_descriptor.__get__"))
  kt:takesIn K (.builtin "object.__class__")=some true
  ob:mroIn K C (.type "object")=some true
section
variable {prog:Program} {w:World} {A:Around} {E:Value→Shared→Prop} {s:Shared} {K:Frag} {x C:Addr} {ox:Obj} {od:Option Obj} {name:Str}
theorem exc_check {nv:Value} {Q:Unit→Shared→Prop} (c:ExcCls K C) (X:K.In s.heap) (I:InstAt s.heap x ox C od) (h:Q () s):wpAny (model prog w) A (checkBuiltinCall "BaseException.__getattribute__" ⟨[.ref x,nv],[]⟩) Q E s:=by
  have hk:builtinKind "BaseException.__getattribute__" = some .slot:=by decide +kernel
  have hsp:splitId "BaseException.__getattribute__" = some ("BaseException", "__getattribute__"):=by decide +kernel
  have LT:=I.type (M:=model prog w)
  have LS:=looks_subIn (M:=model prog w) X c.sub
  have LI:Looks (model prog w) s.heap (isInstance (.ref x) (.type "BaseException")) true:=LT.andThen LS
  have ha:=F.args_bexc_ga (.ref x) nv
  obtain ⟨hh,g,d,t,os⟩:=s
  simp only [checkBuiltinCall,hk,hsp]
  refine wpAny_bind (LI.at ?_)
  repeat (any_goals (first | assumption | wp_step))
theorem exc_callB {g a v:Value} {tk:Tok} {R:Result→Shared→Prop} (c:ExcCls K C) (X:K.In s.heap) (I:InstAt s.heap x ox C od) (hf:findObj K C od name=some (.bind g a))
    (h:∀ A' R',(R' (.ok (.ret v)) s)→codeAny (model prog w) A' (.call g ⟨[a,.ref x,.ref C],[]⟩) R' s) (hq:R (.ok (.ret v)) s) :
    codeAny (model prog w) A (.call (.builtin "BaseException.__getattribute__") ⟨[.ref x,.str name tk],[]⟩) R s:=by
  refine codeAny_call_builtin F.attr_ValueError.ga.plain F.entry_bexc_ga (exc_check c X I ?_)
  have LT:=I.type (M:=model prog w)
  have LF:=looks_find (M:=model prog w) X I hf
  obtain ⟨hh,gg,d,t,os⟩:=s
  unfold Builtin.«object.__getattribute__»
  refine wpAny_bind ?_
  repeat (any_goals (first | assumption | (refine LT.at ?_) | (refine LF.at ?_) | (refine h _ _ ?_) | wp_step))
theorem exc_by {v:Value} {nv:Value} {fill expr:Bool} {Q:Value→Shared→Prop} (c:ExcCls K C) (X:K.In s.heap) (I:InstAt s.heap x ox C od)
    (hc:∀ A' R',(R' (.ok (.ret v)) s)→codeAny (model prog w) A' (.call (.builtin "BaseException.__getattribute__") ⟨[.ref x,nv],[]⟩) R' s) (hv:handedIn v=true) (h:Q v s):wpAny (model prog w) A (getAttrBy (.ref x) nv fill expr) Q E s:=by
  have LT:=I.type (M:=model prog w)
  have L1:=looks_findIn (M:=model prog w) X c.ga
  have L2:=looks_findIn (M:=model prog w) X c.gt
  have hb:=F.attr_ValueError.ga.bind (.ref x)
  have n0:(expr&&onTheHeap (Value.builtin "BaseException.__getattribute__"))=false:=by cases expr <;> rfl
  have n1:(onTheHeap (Value.ref C)&&Value.builtin "BaseException.__getattribute__" == Value.builtin "object.__getattribute__")=false:=by
    rw [show (Value.builtin "BaseException.__getattribute__" == Value.builtin "object.__getattribute__")=false by decide +kernel]; rfl
  obtain ⟨hh,g,d,t,os⟩:=s
  unfold getAttrBy
  refine wpAny_holding (wpAny_bind (LT.at (wpAny_bind (L1.at ?_))))
  dsimp only
  rw [if_neg (by rw [n1]; exact Bool.false_ne_true)]
  unfold getAttrByItsOwn hookBefore
  rw [if_pos (show onTheHeap (Value.ref C)=true from rfl)]
  refine wpAny_bind (L2.at (wpAny_bind (wpAny_attempt (wpAny_holding ?_))))
  unfold callGetattribute
  rw [if_neg (by rw [n0]; exact Bool.false_ne_true)]
  unfold boundAndCalled
  refine wpAny_bind (wpAny_of_eq hb (wpAny_call (hc _ _ ?_)))
  exact handed_on hv h
theorem exc_class {Q:Option Value→Shared→Prop} (c:ExcCls K C) (X:K.In s.heap) (I:InstAt s.heap x ox C od) (h:Q (some (.ref C)) { s with toks:=s.toks+1 }):wpAny (model prog w) A (getAttr? (.ref x) "__class__") Q E s:=by
  have hf:findObj K C od "__class__" = some (.bind (.builtin "getset_descriptor.__get__") (.builtin "object.__class__")):=by
    obtain ⟨cd,hc⟩:=Option.isSome_iff_exists.mp c.cls
    unfold findObj
    rw [hc,Option.bind_some,c.kc,Option.bind_some]
    simp [c.kg,c.kt]
  unfold getAttr? getAttrBy?
  refine wpAny_bind (wpAny_mkText (wpAny_bind (wpAny_attempt ?_)))
  refine exc_by (s:={ s with toks:=s.toks+1 }) c X I (fun A' R' q=>exc_callB (s:={ s with toks:=s.toks+1 }) (v:=.ref C) c X I hf (fun A'' R'' q'=>class_get (s:={ s with toks:=s.toks+1 }) (ox:=ox) (od:=od) X I c.ob q') q) rfl ?_
  exact wpAny_pure h
theorem kitx_exc (c:ExcCls K C):KitX K (.ref x) (.ref C) (fun h=>∃ ox od,InstAt h x ox C od) where
  ty:=fun _ _ _ ⟨_,_,I⟩=>I.type
  it:=fun M h X _=>by
    have e:=c.cls
    unfold clsIn at e
    split at e
    · rename_i ho
      intro A' Q' E' s' k q
      unfold isType loadHead
      exact wpAny_bind (wpAny_loadPart (k _ _ (X _ _ ho)) (wpAny_pure q))
    · cases e
  ne:=fun h tp dd its n sl X htp=>by
    refine Bool.eq_false_iff.mpr fun q=>?_
    obtain rfl:C=tp:=Value.ref.inj (beq_iff_eq.mp q)
    have e:=c.cls
    unfold clsIn at e
    split at e
    · rename_i ho
      have z:=(X _ _ ho).symm.trans htp
      cases z
    · cases e
  ca:=fun X ⟨_,_,I⟩ k=>exc_class c X I k
end
end L2
set_option Elab.async false
set_option linter.all false
set_option maxRecDepth 100000
namespace L2
open PySem PySem.Spec PyProof.Rows
def ExcO (a C:Addr) (od:Option Addr):HO:=.ext fun h=>∃ oe vs,h.get? a=some oe∧oe.cls=.ref C∧oe.dict=od∧oe.data=.fields vs∧1<vs.size
theorem ExcO.ok {P:Program} {w:World} {H:Hp} {h:Heap} {a C:Addr} {od:Option Addr} {st:Option (Addr × Value)} (x:ExcAt h a (.ref C) od st):ObjOk P w H h a (ExcO a C od):=by
  obtain ⟨oe,vs,h1,h2,h3,h4,h5,_⟩:=x
  refine ⟨⟨oe,vs,h1,h2,h3,h4,h5.sz⟩,⟨oe,h1⟩,?_⟩
  rintro g1 g2 ⟨oe,vs,e1,e2,e3,e4,e5⟩ k
  exact ⟨oe,vs,k _ e1,e2,e3,e4,e5⟩
theorem exc_inst {X:Cx} {pins:List (Addr × Obj)} {σ:St} {H:Hp} {s:Shared} {a C:Addr} (I:Inv X pins σ H s) (h:H a=some (ExcO a C none)):∃ ox od,PySem.W.InstAt s.heap a ox C od:=by
  obtain ⟨⟨oe,vs,e1,e2,e3,e4,_⟩,_⟩:=I.hok a _ h
  exact ⟨oe,none,⟨e1,e2,by unfold PySem.W.notCls; rw [e4],by rw [e3]; trivial⟩⟩
@[irreducible] def rIsX (K:PySem.W.Frag):List V→Hp→VK→Prop:=fun xs H Q=>∃ a C c b,xs=[.ref a,c]∧H a=some (ExcO a C none)∧ExcCls K C ∧
  ((∃ u,RelV c u∧PySem.W.kitOne K (.ref C) u=some b)∨∃ tp cs,c=.ref tp∧H tp=some (.tup cs)∧∀ us,Vals cs us→PySem.W.kitAny K (.ref C) us=some b)∧Q (.bl b) H
theorem cl_isiX {X:Cx}:CallR X (.builtin "isinstance") (rIsX X.K):=by
  unfold rIsX
  intro pins s σ H xs us Q I r h
  obtain ⟨a,C,c,b,rfl,ha,ec,hc,q⟩:=h
  obtain ⟨u,w',rfl,r1,r2⟩:=vals2 r
  cases (show u=Value.ref a from r1)
  have hi:=exc_inst I ha
  rcases hc with ⟨u,ru,e⟩ | ⟨tp,cs,rfl,ht,e⟩
  · have:w'=u:=by
      cases c with
      | ref p=>cases ru; cases r2; rfl
      | ty n=>cases ru; cases r2; rfl
      | non=>cases ru; cases r2; rfl
      | bl _=>cases ru; cases r2; rfl
      | int i=>obtain ⟨t,rfl⟩:=ru; simp [PySem.W.kitOne,PySem.W.kitCls] at e
      | str i=>obtain ⟨t,rfl⟩:=ru; simp [PySem.W.kitOne,PySem.W.kitCls] at e
      | byt i=>obtain ⟨t,rfl⟩:=ru; simp [PySem.W.kitOne,PySem.W.kitCls] at e
      | flt i=>obtain ⟨t,rfl⟩:=ru; simp [PySem.W.kitOne,PySem.W.kitCls] at e
    subst this
    exact PySem.W.kia_one (kitx_exc ec) I.kIn hi e (fun z=>nomatch z) fun tk=>⟨.bl b,H,I.tok _,rfl,q⟩
  · cases (show w'=Value.ref tp from r2)
    obtain ⟨_,its,rt,o,e1,e2,n,e3⟩:=(show ObjOk X.prog X.w H s.heap tp (.tup cs) from I.hok tp _ ht)
    obtain ⟨oc,odd,odt,osl⟩:=o
    cases e2
    cases e3
    exact PySem.W.kia_tup (kitx_exc ec) I.kIn hi e1 (e its rt) (fun z=>nomatch z) fun tk=>⟨.bl b,H,I.tok _,rfl,q⟩
theorem rxOne {K:PySem.W.Frag} {H:Hp} {Q:VK} {a C:Addr} {c:V} {b:Bool} (ha:H a=some (ExcO a C none)) (ec:ExcCls K C) (u:Value) (ru:RelV c u) (e:PySem.W.kitOne K (.ref C) u=some b) (q:Q (.bl b) H):rIsX K [.ref a,c] H Q:=by
  unfold rIsX; exact ⟨a,C,c,b,rfl,ha,ec,.inl ⟨u,ru,e⟩,q⟩
theorem rxTup {K:PySem.W.Frag} {H:Hp} {Q:VK} {a C tp:Addr} {cs:List V} {b:Bool} (ha:H a=some (ExcO a C none)) (ec:ExcCls K C) (ht:H tp=some (.tup cs)) (e:∀ us,Vals cs us→PySem.W.kitAny K (.ref C) us=some b) (q:Q (.bl b) H):rIsX K [.ref a,.ref tp] H Q:=by
  unfold rIsX; exact ⟨a,C,_,b,rfl,ha,ec,.inr ⟨tp,cs,rfl,ht,e⟩,q⟩
def Cx.tryW (X:Cx) (pins:List (Addr × Obj)) (xe:Value→Shared→Prop):Cx:={ X with pn:=X.pn++pins,xe:=xe }
def Cx.suite (X:Cx) (a:Addr):Cx:={ X with A:=X.A.mark (some (.ref a)),calm:=false,xe:=fun _ _=>False }
def Ends.drop (D:Ends) (i:Nat):Ends:={ nx:=fun σ H=>D.nx (σ.set i none) H,rt:=D.rt,bk:=fun σ H=>D.bk (σ.set i none) H,ct:=fun σ H=>D.ct (σ.set i none) H }
structure Catch (K:PySem.W.Frag) (C2:Addr):Prop where
  ty:PySem.W.typeIn K (.ref C2)=some (.type "type")
  cls:(PySem.W.clsIn K C2).isSome=true
  sub:PySem.W.subIn K (.ref C2) (.type "BaseException")=some true
def tTry (K:PySem.W.Frag) (C2:Addr) (i:Nat) (tb:(St→XK)→TS) (th:TS):TS:=fun D σ H=>∃ Ex:St→XK,tb Ex D σ H ∧
  ∀ σ' cls od H',Ex σ' cls od H'→∃ C,cls=.ref C∧PySem.W.subIn K (.ref C) (.ref C2)=some true∧∀ a,H' a=none→th (D.drop i) (σ'.set i (some (.ref a))) (upd H' a (ExcO a C od))
section
variable {X:Cx} {pins:List (Addr × Obj)} {σ:St} {H:Hp} {s:Shared}
theorem Inv.tryW (I:Inv X pins σ H s) (xe:Value→Shared→Prop):Inv (X.tryW pins xe) [] σ H s :=
  ⟨⟨I.ok.mod,I.ok.kind,I.ok.glob,I.ok.blt,I.ok.above,I.ok.inj,I.ok.has,I.ok.cab,I.ok.hd,I.ok.frames,I.ok.stk,I.ok.exf,I.ok.bs,I.ok.bsz,I.ok.noex,I.ok.exfs,I.ok.funs,I.ok.frf⟩,I.os,I.bare,I.base,I.loc,I.cell,I.free,I.freeC,
    fun p hp=>I.pin p (by have:p∈(X.pn++pins)++[]:=hp; rwa [List.append_nil] at this),I.hok,I.len⟩
theorem Inv.untry {xe:Value→Shared→Prop} {pins':List (Addr × Obj)} (I:Inv (X.tryW pins xe) pins' σ H s):Inv X pins σ H s :=
  ⟨⟨I.ok.mod,I.ok.kind,I.ok.glob,I.ok.blt,I.ok.above,I.ok.inj,I.ok.has,I.ok.cab,I.ok.hd,I.ok.frames,I.ok.stk,I.ok.exf,I.ok.bs,I.ok.bsz,I.ok.noex,I.ok.exfs,I.ok.funs,I.ok.frf⟩,I.os,I.bare,I.base,I.loc,I.cell,I.free,I.freeC,
    fun p hp=>I.pin p (List.mem_append_left _ hp),I.hok,I.len⟩
theorem Inv.suite (I:Inv X pins σ H s) (a:Addr):Inv (X.suite a) pins σ H s :=
  ⟨⟨I.ok.mod,I.ok.kind,I.ok.glob,I.ok.blt,I.ok.above,I.ok.inj,I.ok.has,I.ok.cab,(fun z=>by cases z),I.ok.frames,I.ok.stk,I.ok.exf,I.ok.bs,I.ok.bsz,I.ok.noex,I.ok.exfs,I.ok.funs,I.ok.frf⟩,I.os,I.bare,I.base,I.loc,I.cell,I.free,I.freeC,I.pin,I.hok,I.len⟩
theorem Inv.unsuite {a:Addr} (I:Inv (X.suite a) pins σ H s) (ok:X.Ok):Inv X pins σ H s:=⟨ok,I.os,I.bare,I.base,I.loc,I.cell,I.free,I.freeC,I.pin,I.hok,I.len⟩
theorem Inv.forget {h':Heap} {tk:Nat} {i:Nat} {x:Str} {v:Option Value} {m:Str→Option Value} (I:Inv X pins σ H s) (hN:X.N.Nodup) (hi:X.N[i]?=some x)
    (hl:∀ (i:Nat) (x:Str) (v:V),X.N[i]?=some x→σ[i]?=some (some v)→Vis X.env.scope x→∃ u,RelV v u∧Look X.env s.heap m x u)
    (hn:h'.Ns X.env.locals (fun y=>if y=x then v else m y)) (hs:Heap.SameBut X.env.locals s.heap h'):Inv X pins (σ.set i none) H { s with heap:=h',toks:=tk }:=by
  have hiσ:i<σ.length:=by rw [I.len]; exact (List.getElem?_eq_some_iff.mp hi).1
  have cne:=I.cne
  refine ⟨I.ok,I.os,I.bare,⟨fun b o e n hb hx=>?_,fun b o e n hb hx=>?_,I.base.free,fun b o e hx=>?_,I.base.tups,I.base.frzs,I.base.tbls⟩,⟨_,hn,fun j y w e1 e2 e3=>?_⟩,fun y c e=>?_,I.free,I.freeC,fun p hp=>?_,?_,by simpa using I.len⟩
  · exact (hs.2 b (Nat.ne_of_lt (Nat.lt_of_lt_of_le (Heap.lt_size e) I.ok.above))).trans (I.base.keep b o e n hb hx)
  · obtain ⟨sl,q⟩:=I.base.slot b o e n hb hx
    exact ⟨sl,(hs.2 b (Nat.ne_of_lt (Nat.lt_of_lt_of_le (Heap.lt_size e) I.ok.above))).trans q⟩
  · obtain ⟨o',q⟩:=I.base.there b o e hx
    exact ⟨o',(hs.2 b (Nat.ne_of_lt (Nat.lt_of_lt_of_le (Heap.lt_size e) I.ok.above))).trans q⟩
  · by_cases hj:j=i
    · subst hj
      rw [List.getElem?_set_self hiσ] at e2
      cases e2
    · rw [List.getElem?_set_ne (Ne.symm hj)] at e2
      obtain ⟨u,r,q⟩:=hl j y w e1 e2 e3
      refine ⟨u,r,?_⟩
      rcases q with ⟨k,e⟩ | ⟨k,c,e,z⟩
      · have ny:y≠x:=fun z=>hj (nodup_ix hN e1 (z ▸ hi))
        exact .inl ⟨k,by simp [ny,e]⟩
      · exact .inr ⟨k,c,e,z.sameBut hs (cne y c e)⟩
  · obtain ⟨w,z⟩:=I.cell y c e
    exact ⟨w,z.sameBut hs (cne y c e)⟩
  · obtain ⟨e,n,ne,nf,d⟩:=I.pin p hp
    exact ⟨(hs.2 p.1 ne).trans e,n,ne,nf,d⟩
  · exact fun b u e=>(I.hok b u e).stay (fun c o hc q=>(hs.2 c (fun z=>by
      subst z
      rcases hc with z | z
      · subst z; rw [I.free] at e; cases e
      · rw [I.free] at z; cases z)).trans q) (fun _ q=>q) fun _ _ q=>q
theorem Inv.landed {a T:Addr} {C:Addr} {od:Option Addr} {H2:Hp} {s2:Shared} {h':Heap} {st:Option (Addr × Value)} (I:Inv X pins σ H s) (os:s2.os=s.os) (bare:AllBare s2.gens) (un:Un (frs X.stack) [] H H2 s.heap s2.heap) (hok:HOk X.prog X.w H2 s2.heap)
    (fa:s.heap.get? a=none) (fT:s.heap.get? T=none) (na:H2 a=none) (nT:H2 T=none) (k:Kp (frs X.stack) [a,T] s2.heap h') (x:ExcAt h' a (.ref C) od st):Inv X pins σ (upd H2 a (ExcO a C od)) { s2 with heap:=h' }:=by
  have hfree:∀ b∈frs X.stack,H2 b=none:=fun b hb=>by
    have ff:=I.stack
    obtain ⟨_,o,ho,_⟩:=ff.mem hb
    exact un.free b o ho (I.stkFree b hb) (by simp)
  have hex:∀ b∈[a,T],s.heap.get? b=none:=fun b hb=>by
    rcases List.mem_cons.mp hb with rfl | hb
    · exact fa
    · cases List.mem_singleton.mp hb; exact fT
  have hex2:∀ b∈[a,T],H2 b=none:=fun b hb=>by
    rcases List.mem_cons.mp hb with rfl | hb
    · exact na
    · cases List.mem_singleton.mp hb; exact nT
  exact I.call' (s':={ s2 with heap:=h' }) (ch:=[]) os ((un.kp k (fun b hb=>.inl hb) hex).put fa na) ((hok.kp k hfree hex2).put na (ExcO.ok x)) bare fun b hb=>by cases hb
end
section
variable {M:Model} {A:Around} {E:Value→Shared→Prop} {K:PySem.W.Frag} {s:Shared} {a C C2:Addr} {ox:Obj} {od:Option Obj}
theorem exc_hits' {Q:Bool→Shared→Prop} (X:K.In s.heap) (L4:PySem.W.Looks M s.heap (typeOf (.ref a)) (.ref C)) (c2:Catch K C2) (hsub:PySem.W.subIn K (.ref C) (.ref C2)=some true) (h:Q true s):wpAny M A (excMatches (.ref a) (.ref C2)) Q E s:=by
  have L1:=PySem.W.looks_typeIn (M:=M) X c2.ty
  have L2:=PySem.W.looks_subIn (M:=M) X c2.sub
  have L3:=PySem.W.looks_subIn (M:=M) X hsub
  have L5:PySem.W.Looks M s.heap (isType (.ref C2)) true:=by
    have e:=c2.cls
    unfold PySem.W.clsIn at e
    split at e
    · rename_i ho
      intro A' Q' E' s' k q
      unfold isType loadHead
      exact wpAny_bind (wpAny_loadPart (k _ _ (X _ _ ho)) (wpAny_pure q))
    · cases e
  have f:=tc_notTuple
  obtain ⟨hh,g,d,t,os⟩:=s
  unfold excMatches
  repeat (any_goals (first | assumption | (refine L1.at ?_) | (refine L2.at ?_) | (refine L3.at ?_) | (refine L4.at ?_) | (refine L5.at ?_) | wp_step))
end
end L2
set_option Elab.async false
set_option linter.all false
set_option maxRecDepth 100000
namespace L2
open PySem PySem.Spec PyProof.Rows
section
variable {X:Cx} {x n:Str} {np hpos pos:Pos} {b₀:Stmt} {body suite:List Stmt} {i:Nat} {C2:Addr} {tb:(St→XK)→TS} {th:TS}
theorem behind_suite {pins:List (Addr × Obj)} {a:Addr} {D:Ends} {f:Flow} {s:Shared} (ok:X.Ok) (hN:X.N.Nodup) (hi:X.N[i]?=some n) (hl:X.env.kindOf n=some .local)
    (q:SP (X.suite a) pins (D.drop i) f s):wpAny (model X.prog X.w) X.A (do bindName X.env n .none; unbindBehindTheSuite X.env n hpos) (fun _ s'=>SP X pins D f s') X.xe s:=by
  have hp:(X.env.scope.kind == .class || (X.env.scope.kind == .module&&X.env.locals != X.env.globals))=false:=by rw [ok.kind]; rfl
  have go:∀ {σ:St} {H:Hp} (J:Inv (X.suite a) pins σ H s) {Q:Unit→Shared→Prop},(∀ s',Inv X pins (σ.set i none) H s'→Q () s')→wpAny (model X.prog X.w) X.A (do bindName X.env n .none; unbindBehindTheSuite X.env n hpos) Q X.xe s:=by
    intro σ H J Q k
    have J':=J.unsuite ok
    obtain ⟨m,hn,hl'⟩:=J'.loc
    exact wpAny_nameGoes_keeps hl hn hp fun h' v hn' hs=>k _ (J'.forget hN hi hl' hn' hs)
  cases f with
  | next=>obtain ⟨σ,H,J,q⟩:=q; exact go J fun s' J'=>⟨_,H,J',q⟩
  | brk=>obtain ⟨σ,H,J,q⟩:=q; exact go J fun s' J'=>⟨_,H,J',q⟩
  | cont=>obtain ⟨σ,H,J,q⟩:=q; exact go J fun s' J'=>⟨_,H,J',q⟩
  | ret u=>obtain ⟨v,σ,H,J,r,q⟩:=q; exact go J fun s' J'=>⟨v,_,H,J',r,q⟩
theorem ws_try (hst:X.stack=X.env::X.outer) (hfm:X.env.frame=some X.env.locals) (hg:Gl X x) (hm:X.mg x=some (.ref C2)) (c2:Catch X.K C2) (hN:X.N.Nodup) (hi:X.N[i]?=some n) (hl:X.env.kindOf n=some .local)
    (hb:∀ pins xe Ex,XPass (X.tryW pins xe) Ex→PSsw (X.tryW pins xe) body (tb Ex)) (hs:∀ a,PSsw (X.suite a) (b₀::suite) th) (hd:(x == ("__debug__" : Str))=false:=by decide) :
    PSw X (.Try body [.ExceptHandler (some (.Name x np)) (some n) (b₀::suite) hpos] [] [] pos) (tTry X.K C2 i tb th):=⟨by
  intro pins s σ H D I h
  obtain ⟨Ex,h1,h2⟩:=h
  refine wpAny_Try_except ?_
  generalize hxe:(fun (e:Value) (s₁:Shared)=>wpAny (model X.prog X.w) X.A (noteFrame e X.env) (fun _ s₂=>wpAny (model X.prog X.w) X.A (setFlight e none) (fun _ s₃ =>
    wpAny (model X.prog X.w) X.A (handleBy e X.env [.ExceptHandler (some (.Name x np)) (some n) (b₀::suite) hpos]) (SP X pins D) X.xe s₃) X.xe s₂) X.xe s₁)=xe
  have hx:XPass (X.tryW pins xe) Ex:=⟨fun pins' σ' H1 s1 e s2 I' hc=>by
    obtain ⟨a,T,cls,od,H2,rfl,os,bare,un,hok,fa,fT,na,nT,x0,q⟩:=hc
    obtain ⟨C,rfl,hsub,k⟩:=h2 σ' cls od H2 q
    have I1:Inv X pins σ' H1 s1:=I'.untry
    have un:Un (frs X.stack) [] H1 H2 s1.heap s2.heap:=un
    have hff:s2.heap.FunFrames X.base (X.env::X.outer):=by
      rw [← hst]
      exact funFrames_kp (fun b hb o e=>un.any e (I1.stkFree b hb) (by simp)) I1.stack
    show xe (.ref a) s2
    rw [← hxe]
    refine note_ok (by rw [← hst]; exact I1.ok.frames) hff hfm x0 (.inr ⟨T,rfl⟩) fun h3 T3 y1 y2 y3=>?_
    refine land_ok y1 fun h4 z1 z2=>?_
    have k4:Kp (frs X.stack) [a,T] s2.heap h4:=by
      rw [hst]
      refine ⟨fun b o e n1 n2=>z2 b o (fun q=>by subst q; rw [y2] at e; cases e) (y3.keep b o e n1 n2),fun b o e n1 n2=>?_⟩
      obtain ⟨sl,e1⟩:=y3.slot b o e n1 n2
      exact ⟨sl,z2 b _ (fun q=>by subst q; rw [y2] at e; cases e) e1⟩
    have I4:=I1.landed (h':=h4) os bare un hok fa fT na nT k4 z1
    refine wpAny_handleBy_cons (codeAny_handlers_test ?_) (by intro q; cases q)
    refine Calls.Name_function_global I4.ok.kind hg (Calls.loadGlobal_global (by rw [I4.ok.glob]; exact I4.mod.glob.keeps I4.bk) hm ?_) hd
    have LT:PySem.W.Looks (model X.prog X.w) h4 (typeOf (.ref a)) (.ref C):=by
      obtain ⟨oe,vs,e1,e2,_⟩:=z1
      exact e2 ▸ (PySem.W.Looks.ld e1).andThen .now
    refine exc_hits' I4.kIn LT c2 hsub ?_
    refine codeAny_handlers_suite_as ?_
    refine land_ok z1 fun h5 w1 w2=>?_
    have k5:Kp (frs X.stack) [a,T] s2.heap h5:=by
      refine ⟨fun b o e n1 n2=>w2 b o (fun q=>by subst q; rw [y2] at e; cases e) (k4.keep b o e n1 n2),fun b o e n1 n2=>?_⟩
      obtain ⟨sl,e1⟩:=k4.slot b o e n1 n2
      exact ⟨sl,w2 b _ (fun q=>by subst q; rw [y2] at e; cases e) e1⟩
    have I5:=(I1.landed (h':=h5) os bare un hok fa fT na nT k5 w1).suite a
    refine store_ok (X:=X.suite a) I5 hN hi (.inl hl) (v:=.ref a) rfl (fun s6 I6=>?_) (.inr hl)
    refine wpAny_mono ((hs a).p pins s6 _ _ (D.drop i) I6 (k a na)) (fun f s7 q7=>?_) fun _ _ z=>False.elim z
    exact behind_suite I1.ok hN hi hl q7⟩
  refine wpAny_mono ((hb pins xe Ex hx).p [] s σ H D (I.tryW xe) h1) (fun f s' q=>?_) fun e s' q=>q
  cases f with
  | next=>obtain ⟨σ',H',J,q⟩:=q; exact wpAny_execs_nil ⟨σ',H',J.untry,q⟩
  | brk=>obtain ⟨σ',H',J,q⟩:=q; exact ⟨σ',H',J.untry,q⟩
  | cont=>obtain ⟨σ',H',J,q⟩:=q; exact ⟨σ',H',J.untry,q⟩
  | ret u=>obtain ⟨v,σ',H',J,r,q⟩:=q; exact ⟨v,σ',H',J.untry,r,q⟩⟩
end
end L2
set_option Elab.async false
set_option linter.all false
set_option maxRecDepth 100000
namespace L2
open PySem PySem.Spec PyProof.Rows
end L2
set_option Elab.async false
set_option linter.all false
set_option maxRecDepth 100000
namespace L2
open PySem PySem.W PySem.Spec PySem.Calls PyProof.Rows
section
variable {prog:Program} {w:World} {A:Around} {E:Value→Shared→Prop} {h:Heap} {g:Array GenState} {d:Drawn} {t:Nat} {os:OsState}
variable {nm q:Str} {C N:Addr} {bs bm bmB:List Value} {hdct:Bool} {sn:List Str} {sub:List Value} {ab:Bool} {col:Option Bool} {dd:Option Addr} {k0 k1 k2 k3 k5:Option Value} {B newId initId:String}
end
section
variable {prog:Program} {w:World} {A:Around} {E:Value→Shared→Prop} {s:Shared} {K:Frag} {C f:Addr} {rest:List Value}
end
end L2
set_option Elab.async false
set_option linter.all false
set_option maxRecDepth 100000
namespace L2
open PySem PySem.W PySem.Spec PySem.Calls PyProof.Rows Builtin Builtin.ObjectAttr
section
variable {prog:Program} {w:World} {A:Around} {E:Value→Shared→Prop} {s:Shared} {K:Frag} {x C:Addr} {R:Result→Shared→Prop}
end
section
variable {X:Cx} {pins:List (Addr × Obj)} {σ:St} {H:Hp} {s:Shared} {a C d:Addr} {fs:List (Str × V)} {f:Str} {v:V} {A:Around} {E:Value→Shared→Prop}
end
section
variable {X:Cx} {k:Nat} {f C:Addr} {fd:FuncData} {ps:List Str} {sp:Sp} {x g:Str} {p pos np apos pos':Pos} {e o value:Expr} {es:List Expr} {t:TA} {ta tv:TE}
end
end L2
set_option Elab.async false
set_option linter.all false
set_option maxRecDepth 100000
namespace L2
open PySem PySem.W PySem.Spec PySem.Calls PyProof.Rows
end L2
set_option Elab.async false
set_option linter.all false
set_option maxRecDepth 100000
namespace L2
open PySem PySem.W PySem.Spec PySem.Calls PyProof.Rows Builtin Builtin.ObjectAttr
section
variable {P:Program} {w:World} {H:Hp} {h:Heap} {a C:Addr} {od:Option Addr}
end
section
variable {prog:Program} {w:World} {A:Around} {E:Value→Shared→Prop} {s:Shared} {K:Frag} {x C:Addr}
end
section
variable {X:Cx} {pins:List (Addr × Obj)} {σ:St} {H:Hp} {s:Shared} {a C d:Addr} {fs:List (Str × V)} {f:Str} {v:V} {A:Around} {E:Value→Shared→Prop}
end
section
variable {X:Cx} {k:Nat} {f C:Addr} {fd:FuncData} {ps:List Str} {sp:Sp} {x g:Str} {p pos np apos pos':Pos} {e o value:Expr} {es:List Expr} {t:TA} {ta tv:TE}
end
section
variable {M:Model} {A:Around} {E:Value→Shared→Prop} {env:Env} {K:Frag} {C:Addr}
end
section
variable {X:Cx} {k:Nat} {f C:Addr} {fd:FuncData} {ps:List Str} {sp:Sp} {Ex:St→XK} {x:Str} {pos np cpos:Pos} {e:Expr} {es:List Expr} {t:TA}
end
end L2
set_option Elab.async false
set_option linter.all false
set_option maxRecDepth 100000
namespace L2
open PySem PySem.Spec PySem.W PyProof.Rows HT
end L2
set_option Elab.async false
set_option linter.all false
set_option maxRecDepth 100000
namespace L2
open PySem PySem.Spec PySem.W PyProof.Rows HT
abbrev kyD (k:List Int):PyData:=.tuple [.int (k.headD 0),cD k.tail]
theorem ky_at {H:Hp} {k:List Int} {v:V} (h:Rep H (kyD k) v):∃ a d,v=.ref a∧H a=some (.tup [.int (k.headD 0),.ref d])∧H d=some (.tup (k.tail.map V.int))∧Rep H (cD k.tail) (.ref d):=by
  unfold Rep at h
  obtain ⟨a,xs,rfl,h1,h2⟩:=h
  unfold RepL at h2
  obtain ⟨x,xs',rfl,h3,h4⟩:=h2
  unfold RepL at h4
  obtain ⟨y,ys',rfl,h5,h6⟩:=h4
  unfold RepL at h6
  cases (show ys'=[] from h6)
  cases (show x=V.int (k.headD 0) from h3)
  obtain ⟨d,rfl,hd⟩:=cD_rep h5
  exact ⟨a,d,rfl,h1,hd,h5⟩
def KyAt (h:Heap) (v:Value) (k:List Int):Prop:=∃ b d t its,v=.ref b∧IsTup h b #[.int (k.headD 0) t,.ref d]∧IsTup h d (List.toArray its)∧IntsAre its k.tail∧(∃ as,Reads h (.ref d) (cD k.tail) as)∧k≠[]
theorem ky_get {h:Heap}:∀ {vs:List Value} {kz:List (List Int)} {i:Nat},Paired (KyAt h) vs kz→i<vs.length→KyAt h (vs.getD i Value.none) (kz.getD i [])
  | _,_,_,.nil,hi=>by simp at hi
  | _,_,0,.cons t r,hi=>t
  | v::vs,c::cs,i+1,.cons t r,hi=>by
    have:=ky_get (i:=i) r (by simpa using hi)
    simpa using this
theorem ky_firsts {h:Heap}:∀ {vs:List Value} {kz:List (List Int)},Paired (KyAt h) vs kz→∃ fs,KatTups h vs fs∧fs.length=vs.length∧∀ v∈fs,∃ i t,v=Value.int i t
  | _,_,.nil=>⟨[],KatTups.nil,rfl,fun v hv=>by cases hv⟩
  | v::vs,k::kz,.cons t r=>by
    obtain ⟨fs,h1,h2,h3⟩:=ky_firsts r
    obtain ⟨b,d,t,its,rfl,⟨o,ho,hc,n,hd⟩,_⟩:=t
    exact ⟨.int (k.headD 0) t::fs,KatTups.cons ho hc hd (by simp) h1,by simp [h2],fun v hv=>by
      rcases List.mem_cons.mp hv with rfl | hv
      · exact ⟨_,_,rfl⟩
      · exact h3 v hv⟩
theorem lexLt_eq:∀ a b:List Int,lexLt a b=lexB a b
  | [],[]=>rfl
  | [],y::b=>(lexB_nc y b).symm
  | x::a,[]=>(lexB_nil _).symm
  | x::a,y::b=>by rw [lexLt_cons,lexB_cc,lexLt_eq a b]
section
variable {prog:Program} {w:World} {A:Around} {E:Value→Shared→Prop} {s:Shared}
theorem ky_lt {x y:Value} {k l:List Int} {Q:Bool→Shared→Prop} (hu:A.units+64<cLine) (hx:KyAt s.heap x k) (hy:KyAt s.heap y l) (q:Q (lexB k l) s):wpAny (model prog w) A (keyLt' (tuples' true) x y) Q E s:=by
  obtain ⟨b,d,t,its,rfl,⟨o,ho,hc,n,hd⟩,td,ti,⟨as,ra⟩,kn⟩:=hx
  obtain ⟨b2,d2,t2,its2,rfl,⟨o2,ho2,hc2,n2,hd2⟩,td2,ti2,⟨bs,rb⟩,ln⟩:=hy
  refine kat_lt ho hd ho2 hd2 ?_
  have ek:k=k.headD 0::k.tail:=by
    cases k with
    | nil=>exact absurd rfl kn
    | cons _ _=>rfl
  have el:l=l.headD 0::l.tail:=by
    cases l with
    | nil=>exact absurd rfl ln
    | cons _ _=>rfl
  rw [ek,el,lexB_cc] at q
  generalize k.headD 0=m at *
  generalize l.headD 0=m2 at *
  show KatLex prog w A true _ Q [(.int m t,.int m2 t2),(.ref d,.ref d2)] 0 s
  refine kat_cons (wpAny_eqBool_int ?_)
  by_cases e:m=m2
  · rw [if_pos e] at q
    rw [show (m == m2)=true by simp [e]]
    refine kat_yes (kat_cons ?_)
    have eqv:=SeqAt.eqAt_reads (cD k.tail) (cD l.tail) A s _ _ as bs ra rb (layIs _) (layIs _) (by
      have h1:(cD k.tail).depth≤2:=by
        have:=depIs k.tail
        simp only [PyData.depth]
        omega
      omega)
    refine eqv prog w _ _ ?_
    rw [eqvC]
    by_cases e2:k.tail=l.tail
    · rw [decide_eq_true e2]
      refine kat_yes (kat_nil ?_)
      rw [e2,lex_irr] at q
      simpa using q
    · rw [decide_eq_false e2]
      refine kat_no (kat_one _ _ ?_)
      refine lt_tupInts td td2 (by simpa using ti) (by simpa using ti2) (by omega) ?_
      rw [lexLt_eq]
      exact q
  · rw [if_neg e] at q
    rw [show (m == m2)=false by simp [e]]
    refine kat_no ?_
    exact oneLt_int q
theorem sk_tail {a kS:Addr} {st:SortSt} {ks out:List Value} {e e1:Nat} {P:PySem.Fin→Shared→Prop} (hout:(arrOf st).map (·.2)=List.toArray out) (hz:out.length<64) (hkz:ks.length<64) (hf:failedOf st=none)
    (hk:s.heap.get? kS=some (seqObj "list" (List.toArray ks) e)) (ha:s.heap.get? a=some (seqObj "list" #[] e1)) (ne:a≠kS)
    (h:P (.done (.ret .none)) { s with heap:=(s.heap.update kS (Obj.mapSeq fun _=>#[])).update a (Obj.mapSeq fun _=>List.toArray out) }):wpAny (model prog w) A (ksk_tail a false e1 (.ref kS) st) P E s:=by
  unfold ksk_tail
  dsimp only
  rw [hout]
  refine wpAny_bind (listUpdate_at hk rfl ?_ (by rw [List.size_toArray,sizeLine_eq]; omega) (Nat.zero_le _))
  refine wpAny_bind (wpAny_letGo ?_)
  have ha2:(s.heap.update kS (Obj.mapSeq fun _=>(#[]:Array Value))).get? a=some (seqObj "list" #[] e1):=by rw [Heap.get?_update_ne _ _ _ _ ne]; exact ha
  refine wpAny_bind (seqEpoch_at ha2 rfl ?_)
  refine wpAny_bind (listUpdate_at ha2 rfl ?_ (Nat.zero_le _) (by
    simp only [Bool.false_eq_true,if_false]
    rw [List.size_toArray,sizeLine_eq]; omega))
  rw [hf]
  simp only [bne_self_eq_false,Bool.false_eq_true,if_false]
  exact wpAny_pure h
theorem sk_end {a kS:Addr} {vs ks:List Value} {kz:List (List Int)} {e e1:Nat} {P:PySem.Fin→Shared→Prop} (hl:ks.length=vs.length) (h64:vs.length<64) (hu:A.units+64<cLine) (hp:Paired (KyAt s.heap) ks kz)
    (hk:s.heap.get? kS=some (seqObj "list" (List.toArray ks) e)) (ha:s.heap.get? a=some (seqObj "list" #[] e1)) (ne:a≠kS)
    (h:∀ p:Array Nat,Good vs.length p→(Ord vs.length (ltC kz)→Asc (ltC kz) p vs.length)→P (.done (.ret .none)) { s with heap:=(s.heap.update kS (Obj.mapSeq fun _=>#[])).update a (Obj.mapSeq fun _=>List.toArray (p.toList.map fun i=>vs.getD i Value.none)) }) :
    wpAny (model prog w) A (ksk_end a false vs.toArray e1 (.ref kS) (List.toArray ks)) P E s:=by
  unfold ksk_end
  dsimp only
  by_cases h2:vs.toArray.size<2
  · simp only [Bool.false_eq_true,if_false,if_pos h2]
    refine wpAny_bind (wpAny_pure ?_)
    rw [StateT.run_pure]
    refine wpAny_bind (wpAny_pure ?_)
    dsimp only
    have ea:=kat_snds (ks:=ks) (vs:=vs) (st:=SortSt.mk' general' ((List.toArray ks).zip vs.toArray) #[] 7 none) (p:=List.toArray (List.range vs.length)) hl (by
      have e:=kas_range ((List.toArray ks).zip vs.toArray)
      rw [show ((List.toArray ks).zip vs.toArray).size=vs.length by simp [hl]] at e
      exact e.symm)
    exact sk_tail ea (by rw [List.length_map,List.length_range]; exact h64) (by omega) rfl hk ha ne (h _ (Array.Perm.refl _) fun _ a b h1 h3=>by rw [List.size_toArray] at h2; omega)
  · simp only [Bool.false_eq_true,if_false,if_neg h2]
    have hl2:2≤vs.length:=by rw [List.size_toArray] at h2; omega
    obtain ⟨fs,k1,k2,k3⟩:=ky_firsts hp
    refine wpAny_bind (kat_kind (T:=.type "int") k1 (by omega) (fun v hv=>?_) rfl ?_)
    · obtain ⟨i,t,rfl⟩:=k3 v hv
      exact .now
    refine wpAny_bind (wpAny_mono (kat_run (ks:=ks) (vs:=vs) (G:=fun p s'=>s'=s∧Good vs.length p∧(Ord vs.length (ltC kz)→Asc (ltC kz) p vs.length))
      (Q:=fun st' s'=>s'=s∧failedOf st'=none∧∃ p:Array Nat,p.size=vs.length∧(Good vs.length p∧(Ord vs.length (ltC kz)→Asc (ltC kz) p vs.length))∧arrOf st'=p.map (kas_item ((List.toArray ks).zip vs.toArray)))
      hl hl2 h64 (fun p' st' s' a1 a2 a3 a4=>⟨a4.1,a3,p',a1,a4.2,a2⟩)
      (KasAll.wp (n:=vs.length) (lt:=ltC kz) (R:=fun p=>Good vs.length p∧(Ord vs.length (ltC kz)→Asc (ltC kz) p vs.length)) (fun i j C hi hj hC=>?_) (fun p hp=>⟨rfl,hp⟩) (sort_any hl2))) ?_ fun _ _ e=>e)
    · unfold kas_ask
      exact ky_lt hu (ky_get hp (by omega)) (ky_get hp (by omega)) hC
    rintro ⟨⟨⟩,st'⟩ s' ⟨rfl,hf,p,hps,hg,har⟩
    dsimp only
    exact sk_tail (kat_snds hl har) (by rw [List.length_map,Array.length_toList,hps]; exact h64) (by omega) hf hk ha ne (h p hg.1 hg.2)
end
section
variable {X:Cx} {pins:List (Addr × Obj)} {σ:St} {H:Hp} {s:Shared}
theorem kys_of (I:Inv X pins σ H s):∀ {kz:List (List Int)} {ys:List V} {us:List Value},RepL H (kz.map kyD) ys→(∀ k∈kz,k≠[])→Vals ys us→Paired (KyAt s.heap) us kz
  | [],ys,us,r,hc,v=>by
    unfold RepL at r
    cases (show ys=[] from r)
    cases v
    exact .nil
  | c::cs,ys,us,r,hc,v=>by
    rw [List.map_cons] at r
    unfold RepL at r
    obtain ⟨y,ys',rfl,r1,r2⟩:=r
    obtain ⟨u,us',rfl,rv,v'⟩:=valsC v
    refine .cons ?_ (kys_of I r2 (fun c h=>hc c (List.mem_cons_of_mem _ h)) v')
    obtain ⟨a,d,rfl,h1,h2,h3⟩:=ky_at r1
    cases rv
    obtain ⟨its,rr,pl,_⟩:=I.tuple (SqT.of h1)
    obtain ⟨u1,us1,rfl,⟨t,rfl⟩,ra⟩:=valsC rr
    obtain ⟨u2,us2,rfl,ru2,rb⟩:=valsC ra
    cases rb
    cases ru2
    obtain ⟨jts,r2,pl2,_⟩:=I.tuple (SqT.of h2)
    exact ⟨a,d,t,jts,rfl,pl,pl2,intsAre_of r2,h3.reads I rfl,hc c (List.mem_cons_self ..)⟩
def KeysBy (sp:Sp) (H:Hp) (ys:List V) (kz:List (List Int)):Prop:=kz.length=ys.length∧(∀ k∈kz,k≠[])∧∀ (i:Nat) (y:V) (k:List Int) (H':Hp),ys[i]?=some y→kz[i]?=some k→Same H H'→sp [y] H' (fun v H''=>Same H' H''∧Rep H'' (kyD k) v) E0
theorem kyD_flat (k:List Int):flatD (kyD k)=true:=by
  have:∀ c:List Int,flatDs (c.map PyData.int)=true:=fun c=>by
    induction c with
    | nil=>rfl
    | cons x c ih=>show (flatD (.int x)&&flatDs (c.map PyData.int))=true; rw [ih]; rfl
  show (flatD (.int (k.headD 0))&&(flatD (cD k.tail)&&true))=true
  rw [show flatD (cD k.tail)=true from this _]; rfl
theorem kys_flat:∀ kz:List (List Int),flatDs (kz.map kyD)=true
  | []=>rfl
  | k::kz=>by show (flatD (kyD k)&&flatDs (kz.map kyD))=true; rw [kys_flat kz,kyD_flat]; rfl
theorem Vals.snoc' {xs:List V} {us:List Value} {x:V} {u:Value} (h:Vals xs us) (r:RelV x u):Vals (xs++[x]) (us++[u]):=h.append (.cons r .nil)
end
@[irreducible] def rSrtK (K:PySem.W.Frag) (sp:Sp) (x:V) (H:Hp) (Q:VK):Prop:=∃ (p:Addr) (ys:List V) (kz:List (List Int)),x=.ref p∧SqL K H p ys∧ys.length<64∧KeysBy sp H ys kz ∧
  ∀ (D:Addr) (ix:List Nat) (H':Hp),ix.Perm (List.range ys.length)→(kz.Nodup→(ix.map fun i=>kz.getD i []).Pairwise fun a b=>lexB a b=true)→H D=none→H' D=some (.lst (ix.map fun i=>ys.getD i .non))→Same H H'→Q (.ref D) H'
theorem asc_list {kz:List (List Int)} {n:Nat} {pm:Array Nat} (hg:Good n pm) (ha:Asc (ltC kz) pm n):(pm.toList.map fun i=>kz.getD i []).Pairwise fun a b=>lexB a b=true:=by
  have hsz:=hg.size
  rw [List.pairwise_map,List.pairwise_iff_getElem]
  intro i j hi hj hij
  have hi':i<pm.size:=by simpa using hi
  have hj':j<pm.size:=by simpa using hj
  have e1:pm.toList[i]=pm.getD i 0:=by rw [Array.getElem_toList]; exact (by simp [Array.getD,hi']:pm.getD i 0=pm[i]).symm
  have e2:pm.toList[j]=pm.getD j 0:=by rw [Array.getElem_toList]; exact (by simp [Array.getD,hj']:pm.getD j 0=pm[j]).symm
  rw [e1,e2]
  exact ha i j hij (by omega)
section
variable {X:Cx} {pins:List (Addr × Obj)} {σ:St} {H:Hp} {s:Shared}
end
end L2
set_option Elab.async false
set_option linter.all false
set_option maxRecDepth 100000
namespace L2
open PySem PySem.Spec PySem.W PyProof.Rows HT
def codeHO (c:Addr) (q:Str):HO:=.ext fun h=>h.CodeRec (.ref c) q
theorem codeHO_of {P:Program} {w:World} {H:Hp} {h:Heap} {c:Addr} {q:Str} (hr:h.CodeRec (.ref c) q):ObjOk P w H h c (codeHO c q):=by
  obtain ⟨c₂,oc,vs,t,e2,hoc,hd,hv⟩:=id hr
  cases e2
  refine ⟨hr,⟨oc,hoc⟩,fun h1 h2 ⟨c3,o3,v3,t3,e3,ho3,hd3,hv3⟩ k=>?_⟩
  cases e3
  exact ⟨c,o3,v3,t3,rfl,k _ ho3,hd3,hv3⟩
structure TabOk (H:Hp) (P:Addr) (q:Str) (pos:Pos):Prop where
  ex:H P=some (.tbl #[])∨∃ c',H P=some (.tbl #[rawInt pos.line,rawInt pos.col,.ref c'])∧H c'=some (codeHO c' q)
def hdIn (K:Frag) (c P:Addr):Bool:=match K.lookup c with
  | some ⟨.type t,_,.fields vs,_⟩=>(match (vs[11]?:Option Value),vs.getD 11 .none,vs.getD 18 .none,vs.getD 7 .none,vs.getD 9 .none,vs.getD 10 .none with
      | some (.ref p),.ref p',.str _ _,.int _ _,.bool _,.int _ _=>t == "code" && p == P&&p' == P && !(c == P)
      | _,_,_,_,_,_=>false)
  | _=>false
theorem hd_of {K:Frag} {h:Heap} {c P:Addr} (X:K.In h) (e:hdIn K c P=true):CodeHd h c P:=by
  unfold hdIn at e
  split at e
  · rename_i t od vs sl ho
    split at e
    · rename_i p p' f1 f2 i1 i2 b1 j1 j2 q1 q2 q3 q4 q5 q6
      simp only [Bool.and_eq_true,Bool.not_eq_true',beq_iff_eq,beq_eq_false_iff_ne] at e
      obtain ⟨⟨⟨e1,e2⟩,e3⟩,e4⟩:=e
      subst e1 e2 e3
      exact ⟨_,vs,_,_,_,_,_,_,_,X _ _ ho,rfl,rfl,q1,q2,q3,q4,q5,q6,e4⟩
    · cases e
  · cases e
def BM (mg:Str→Option Value) (h:Heap):Prop:=∃ bm ob,mg "__builtins__" = some (.ref bm)∧bm≠builtinsNs∧h.get? bm=some ob∧ob.cls=.type "module" ∧ ob.dict=some builtinsNs∧ob.data=.plain
section
variable {X:Cx} {pins:List (Addr × Obj)} {σ:St} {H:Hp} {s:Shared}
theorem mk_lam {P c:Addr} {params:Arguments} {body:Expr} {scope:Scope} {pos:Pos} {Q':Value→Shared→Prop} (I:Inv X pins σ H s) (hcode:X.env.code=.ref c) (hh:hdIn X.K c P=true) (hbm:BM X.mg X.base) (hcl:closureFor scope X.env=pure [])
    (hdef:defaultsOf params X.env=([],[])) (TO:TabOk H P (X.env.qual ++ "<lambda>") pos)
    (h:∀ (f c':Addr) (pm ctv:Value) (H':Hp) (s':Shared),TabOk H' P (X.env.qual ++ "<lambda>") pos→H' c'=some (codeHO c' (X.env.qual ++ "<lambda>"))→SameBut P H H'→s'.heap.objs.size=f+1 →
      Inv X ((f,kla_obj "<lambda>" (X.env.qual ++ "<lambda>") params body scope [] pm c' ctv)::pins) σ H' s'→Q' (.ref f) s') :
    wpAny (model X.prog X.w) X.A (eval (.Lambda params body scope pos) X.env) Q' X.xe s:=by
  refine kla_eval hdef ?_
  have hg:=I.mod.glob.keeps I.bk
  have C:=hd_of I.kIn hh
  obtain ⟨bm,ob,b1,b2,b3,b4,b5,b6⟩:=hbm
  have nP:∀ b o,X.base.get? b=some o→∀ u,H P=some u→b≠P:=fun b o e u hu z=>by
    have:=(I.bs b o e).2
    rw [z,hu] at this; cases this
  obtain ⟨og,eg⟩:∃ o,X.base.get? mainGlobals=some o:=let ⟨o,_,_,e,_⟩:=I.mod.glob; ⟨o,e⟩
  have hbG:bm≠mainGlobals:=fun q=>by
    obtain ⟨o,es,ep,e,hd,_⟩:=I.mod.glob
    rw [q,e] at b3; cases b3; rw [hd] at b6; cases b6
  rcases TO.ex with hP | ⟨c',hP,hc'⟩
  · have hPt:s.heap.get? P=some (tabObj #[]):=I.hok P _ hP
    refine kla_makeFunction (mg:=X.mg) hcl I.ok.glob hg hcode C hPt trivial rfl (nP _ _ eg _ hP) ⟨bm,ob,b1,b2,hbG,nP _ _ b3 _ hP,I.bk _ _ b3,b4,b5,b6⟩ fun c' ctv h' tk hx hge hlt hrec htb=>?_
    generalize hq:X.env.qual++Str.ofString "<lambda>" = q at *
    have hf:H c'=none:=I.hok.fresh hge
    have Pc:P≠c':=fun z=>by rw [z,hf] at hP; cases hP
    have kp:∀ (x:Obj) b o,b≠P→s.heap.get? b=some o→(h'.push x).get? b=some o:=fun x b o n e=>Heap.get?_push_of_some _ (hx b o n e)
    have szh:s.heap.objs.size≤h'.objs.size:=Nat.le_trans hge (Nat.le_of_lt hlt)
    have nc:∀ b u,H b=some u→b≠c':=fun b u e z=>by rw [z,hf] at e; cases e
    have I1:Inv X pins σ (upd (upd H P (.tbl #[rawInt pos.line,rawInt pos.col,.ref c'])) c' (codeHO c' q)) { s with heap:=h'.push (kla_obj "<lambda>" q params body scope [] ((X.mg "__name__").getD .none) c' ctv),toks:=tk }:=by
      refine I.un ⟨fun b o e n _ _=>kp _ b o (fun z=>by rw [z,hP] at n; cases n) e,fun b o e n _ _=>⟨o.slots,kp _ b o (fun z=>by rw [z,hP] at n; cases n) e⟩,fun b o e n _=>?_,fun b o e _=>?_,fun b xs e=>?_,fun b o u e=>?_,fun b ps e=>?_⟩ fun b u e=>?_
      · rw [upd_ne (Nat.ne_of_lt (Nat.lt_of_lt_of_le (Heap.lt_size e) hge)),upd_ne (fun z=>by rw [z,hP] at n; cases n)]
        exact n
      · by_cases z:b=P
        · exact ⟨_,by rw [z]; exact Heap.get?_push_of_some _ htb⟩
        · exact ⟨o,kp _ b o z e⟩
      · rw [upd_ne (nc b _ e),upd_ne (fun z=>by rw [z,hP] at e; cases e)]
        exact e
      · rw [upd_ne (nc b _ e),upd_ne (fun z=>by rw [z,hP] at e; cases e)]
        exact e
      · by_cases z:b=P
        · subst z
          rw [hP] at e
          cases e
          exact ⟨#[rawInt pos.line,rawInt pos.col,.ref c'],by rw [upd_ne Pc,upd_same]; rfl⟩
        · exact ⟨#[],by rw [upd_ne (nc b _ e),upd_ne z,e]; simp⟩
      · by_cases z:b=c'
        · subst z
          rw [upd_same] at e
          cases e
          exact codeHO_of (hrec.keeps fun b o e=>Heap.get?_push_of_some _ e)
        · rw [upd_ne z] at e
          by_cases z2:b=P
          · subst z2
            rw [upd_same] at e
            cases e
            exact Heap.get?_push_of_some _ htb
          · rw [upd_ne z2] at e
            refine (I.hok b u e).stay (fun d v hd' r=>kp _ d v ?_ r) (fun d r=>?_) fun d xs r=>?_
            · rcases hd' with rfl | hd'
              · exact z2
              · intro z3
                rw [z3,hP] at hd'; cases hd'
            · rw [upd_ne (nc d _ r),upd_ne (fun z=>by rw [z,hP] at r; cases r)]
              exact r
            · rw [upd_ne (nc d _ r),upd_ne (fun z=>by rw [z,hP] at r; cases r)]
              exact r
    refine h h'.objs.size c' ((X.mg "__name__").getD .none) ctv _ _ ⟨.inr ⟨c',by rw [upd_ne Pc,upd_same],upd_same⟩⟩ upd_same (fun b o e=>?_) (Heap.size_push ..) (I1.pins_of fun p hp=>?_)
    · have n:=Hide.ne e
      rw [Hide.at n] at e
      refine Hide.of n ?_
      rw [upd_ne (nc b _ e),upd_ne n]
      exact e
    · rcases List.mem_cons.mp hp with rfl | hp
      · exact ⟨Heap.get?_push_size _ rfl,by
          rw [upd_ne (Nat.ne_of_gt hlt),upd_ne (Nat.ne_of_gt (Nat.lt_of_lt_of_le (I.hok.lt hP) szh))]
          exact I.hok.fresh szh,Nat.ne_of_gt (Nat.lt_of_lt_of_le I.lt szh),I.nofs szh,fun v z=>by cases z⟩
      · exact I1.pin p (List.mem_append_right _ hp)
  · have hPt:s.heap.get? P=some (tabObj #[rawInt pos.line,rawInt pos.col,.ref c']):=I.hok P _ hP
    refine kla_makeFunctionHit (mg:=X.mg) (cv:=.ref c') hcl I.ok.glob hg hcode C hPt trivial (codeAmong_snoc [] trivial rfl) ⟨bm,ob,b1,b2,hbG,nP _ _ b3 _ hP,I.bk _ _ b3,b4,b5,b6⟩ fun ctv h' tk hx szh=>?_
    generalize hq:X.env.qual++Str.ofString "<lambda>" = q at *
    have I1:Inv X pins σ H { s with heap:=h'.push (kla_obj "<lambda>" q params body scope [] ((X.mg "__name__").getD .none) c' ctv),toks:=tk }:=I.kept fun b o e=>Heap.get?_push_of_some _ (hx b o e)
    refine h h'.objs.size c' ((X.mg "__name__").getD .none) ctv H _ TO hc' (fun b o e=>e) (Heap.size_push ..) (I1.pins_of fun p hp=>?_)
    rcases List.mem_cons.mp hp with rfl | hp
    · exact ⟨Heap.get?_push_size _ rfl,I.hok.fresh szh,Nat.ne_of_gt (Nat.lt_of_lt_of_le I.lt szh),I.nofs szh,fun v z=>by cases z⟩
    · exact I1.pin p (List.mem_append_right _ hp)
end
def lamB (base h:Heap) (f:Addr):Heap:=hidT h fun b=>if base.get? b=none∧b≠f then some (.own 0) else none
theorem lamB_get {base h:Heap} {f:Addr} (k:∀ b o,base.get? b=some o→h.get? b=some o) {b:Addr} {o:Obj} (e:base.get? b=some o):(lamB base h f).get? b=some o :=
  hidT_get (k b o e) (if_neg fun z=>by rw [e] at z; cases z.1)
theorem lamB_self {base h:Heap} {f:Addr} {o:Obj} (e:h.get? f=some o):(lamB base h f).get? f=some o:=hidT_get e (if_neg fun z=>z.2 rfl)
theorem lamB_of {base h:Heap} {f:Addr} (k:∀ b o,base.get? b=some o→h.get? b=some o) {b:Addr} {o:Obj} (e:(lamB base h f).get? b=some o):base.get? b=some o∨b=f:=by
  obtain ⟨e1,n⟩:=of_hidT e
  by_cases z:b=f
  · exact .inr z
  · cases q:base.get? b with
    | none =>
      rw [if_pos ⟨q,z⟩] at n
      cases n
    | some o' =>
      rw [k b o' q] at e1
      cases e1
      exact .inl rfl
theorem Mod.more {K:Frag} {mg:Str→Option Value} {b b':Heap} (m:Mod K mg b) (k:∀ c o,b.get? c=some o→b'.get? c=some o):Mod K mg b' :=
  ⟨m.kin.keeps k,m.glob.keeps k,let ⟨mb,h1,h2⟩:=m.blt; ⟨mb,h1.keeps k,h2⟩,m.nolimit.keeps k⟩
theorem frames_more {h base B:Heap}:∀ {l:List Env},h.FunFrames base l→(∀ b∈frs l,B.get? b=none)→h.FunFrames B l
  | [],_,_=>trivial
  | env::rest,⟨hk,⟨L,o,hf,hn,ho,hd⟩,hr⟩,k=>⟨hk,⟨L,o,hf,k L (by unfold frs; rw [List.filterMap_cons,hf]; exact List.mem_cons_self ..),ho,hd⟩,frames_more hr fun b hb=>k b (by unfold frs; rw [List.filterMap_cons,hf]; exact List.mem_cons_of_mem _ hb)⟩
section
variable {X:Cx} {pins:List (Addr × Obj)} {σ:St} {H:Hp} {s:Shared}
theorem Inv.envB (I:Inv X pins σ H s) {B:Heap} {f:Addr} {of:Obj} (hp:(f,of)∈pins) (hm:Mod X.K X.mg B) (hB:∀ b o,B.get? b=some o→X.base.get? b=some o∨b=f) (hf:B.get? f=some of) (hz:B.objs.size≤s.heap.objs.size):Env0 X.prog X.w X.K X.mg B X.A X.stack s H:=by
  have e:=I.env0
  obtain ⟨p1,p2,p3,p4,_⟩:=I.pin (f,of) (List.mem_append_right _ hp)
  refine ⟨e.frames,hm,fun b o q=>?_,hz,frames_more e.funs fun b hb=>?_,e.frf,e.hok,e.bare⟩
  · rcases hB b o q with z | rfl
    · exact I.bs b o z
    · rw [hf] at q
      cases q
      exact ⟨p1,p2⟩
  · cases q:B.get? b with
    | none=>rfl
    | some o =>
      exfalso
      rcases hB b o q with z | rfl
      · have:=(e.funs.mem hb).1
        rw [z] at this; cases this
      · rcases List.mem_cons.mp (I.stkSub b hb) with z | z
        · exact p3 z
        · exact p4 z
end
theorem lam_of {P:Program} {w:World} {K:Frag} {mg:Str→Option Value} {B:Heap} {k:Nat} {f c':Addr} {qual:Str} {params:Arguments} {body:Expr} {scope:Scope} {pm ctv:Value} {N ps:List Str} {sp:Sp}
    (hfb:B.get? f=some (kla_obj "<lambda>" qual params body scope [] pm c' ctv)) (S:FnScope N ps scope) (len:∀ vs H Q E,sp vs H Q E→vs.length=ps.length) (hc:∀ vs H Q E,sp vs H Q E→H c'=some (codeHO c' qual))
    (hbody:∀ (A:Around) (outer:List Env) (s:Shared) (H:Hp) (vs:List V) (Q:VK) (E:XK),Room k (A.deeper (envOfC qual scope s.heap.objs.size f (.ref c')))→sp vs H Q E →
      ∃ t:TE,PEw (cxOf CX0 P w K mg B N qual scope f (.ref c') A outer s H E).nox body t∧t (start N vs) H Q) :
    FnOk P w K mg B CX0 (k+1) f (kla_fn "<lambda>" qual params body scope [] pm (.ref c') ctv) ps sp:=by
  refine ⟨len,fun A outer s H args us vs Q E hr e0 hb r hsp=>?_⟩
  have hl:=len _ _ _ _ hsp
  have lim:s.heap.NoLimit:=e0.mod.nolimit.keeps fun b o e=>(e0.bs b o e).1
  have hcd:s.heap.CodeRec (.ref c') qual:=(e0.hok c' _ (hc _ _ _ _ hsp)).1
  have hkind:∀ y∈ps.zip us,scope.names.lookup y.1=some .local∨(scope.names.lookup y.1=some .cell∧((cellsFrom (s.heap.objs.size+1) scope.names []).lookup y.1).isSome=true):=fun ⟨n,v⟩ hy=>by
    rcases S.par n (List.of_mem_zip hy).1 with q | q
    · exact .inl q
    · exact .inr ⟨q,PySem.W.cellsFrom_some _ _ _ (.inl q)⟩
  refine kla_callFunE hr.depth (e0.bs _ _ hfb).1 rfl S.co S.gen rfl hcd (hb _ _ _ _ ?_)
  refine wpAny_newFunctionEnv_cells S.kind hkind fun env he s1 x=>?_
  subst he
  refine ⟨lim.keeps x.toInCall.keep,kla_codeExpr ?_⟩
  obtain ⟨t,ht,hq⟩:=hbody A outer s H vs Q E (hr.deeper _) hsp
  have I:Inv (cxOf CX0 P w K mg B N qual scope f (.ref c') A outer s H E) [] (start N vs) H s1:=inv_start S hr.hd e0 hl r x
  refine wpAny_mono (ht.p.nox [] s1 (start N vs) H _ I hq) (fun u s' hs=>?_) fun e s' hs=>hs
  obtain ⟨v,H',J,rv,q⟩:=hs
  exact ⟨v,H',J.os,J.bare,J.base,J.hok,rv,q⟩
end L2
set_option Elab.async false
set_option linter.all false
set_option maxRecDepth 100000
namespace L2
open PySem PySem.Spec PySem.W PyProof.Rows HT
section
variable {X:Cx} {pins:List (Addr × Obj)} {σ:St} {H:Hp} {s:Shared}
theorem sk_restB {k:Nat} {f:Addr} {fd:FuncData} {ps:List Str} {sp:Sp} {B:Heap} {of:Obj} (hpf:(f,of)∈pins) (hm:Mod X.K X.mg B) (hB:∀ b o,B.get? b=some o→X.base.get? b=some o∨b=f) (hfB:B.get? f=some of) (hz':B.objs.size≤f+1) (F:FnOk X.prog X.w X.K X.mg B CX0 k f fd ps sp) (hb:Binds X.K fd ps []) (hr:Room (k+2) X.A) {a kS:Addr} {ys:List V} {vs:List Value} {kz:List (List Int)} {e1:Nat}
    {P:PySem.Fin→Shared→Prop} {E:Value→Shared→Prop} (I:Inv X ((kS,seqObj "list" #[] 0)::(a,seqObj "list" #[] e1)::pins) σ H s) (nk:X.s₀.heap.objs.size≤kS) (np:∀ p∈X.pn++((a,seqObj "list" #[] e1)::pins),p.1≠kS)
    (rv:Vals ys vs) (h64:vs.length<64) (kb:KeysBy sp H ys kz)
    (h:∀ (p:Array Nat) (ks:List Value) (e:Nat) (H':Hp) (s':Shared),Same H H'→Inv X ((kS,seqObj "list" (List.toArray ks) e)::(a,seqObj "list" #[] e1)::pins) σ H' s'→Good vs.length p→(Ord vs.length (ltC kz)→Asc (ltC kz) p vs.length) →
      P (.done (.ret .none)) { s' with heap:=(s'.heap.update kS (Obj.mapSeq fun _=>#[])).update a (Obj.mapSeq fun _=>List.toArray (p.toList.map fun i=>vs.getD i Value.none)) }) :
    wpAny (model X.prog X.w) X.A.in1.in1 (ksk_rest a (.ref f) false vs.toArray e1 (.ref kS)) P E s:=by
  obtain ⟨kl,kn,kc⟩:=kb
  have lv:=rv.length
  have ne:a≠kS:=np (a,seqObj "list" #[] e1) (List.mem_append_right _ (List.mem_cons_self ..))
  unfold ksk_rest
  refine wpAny_bind (wpAny_rule ?_)
  rw [List.forIn_toArray]
  refine wpAny_bind (ksk_fold (fun i s'=>∃ (H':Hp) (ks:List Value) (kv:List V) (e:Nat),Inv X ((kS,seqObj "list" (List.toArray ks) e)::(a,seqObj "list" #[] e1)::pins) σ H' s'∧Same H H'∧Vals kv ks∧RepL H' ((kz.take i).map kyD) kv) vs 0 s
    ⟨H,[],[],0,I,Same.refl _,.nil,RepL.nil⟩ (fun j x s' hx hI=>?_) fun s' hI=>?_)
  · obtain ⟨H',ks,kv,e,I',sH,rk,rr⟩:=hI
    rw [Nat.zero_add] at rr ⊢
    have hj:j<vs.length:=(List.getElem?_eq_some_iff.mp hx).1
    obtain ⟨y,hy,ry⟩:∃ y,ys[j]?=some y∧RelV y x:=by
      obtain ⟨u,hu,ru⟩:=rv.get (i:=j) (x:=ys[j]'(by omega)) (by simp [show j<ys.length by omega])
      rw [hx] at hu
      cases hu
      exact ⟨_,List.getElem?_eq_getElem (by omega),ru⟩
    obtain ⟨kk,hkk⟩:∃ kk,kz[j]?=some kk:=⟨_,List.getElem?_eq_getElem (by omega)⟩
    have lk:ks.length=min j kz.length:=by rw [← rk.length,rr.len,List.length_map,List.length_take]
    have spec:=kc j y kk H' hy hkk sH
    have hl:([x]++([]:List Value)).length=ps.length:=by rw [← F.len _ _ _ _ spec]; rfl
    have run:=F.run X.A.in1.in1 X.stack s' H' ⟨[x],[]⟩ [x] [y] _ E0 hr.in1.in1 (I'.envB (List.mem_cons_of_mem _ (List.mem_cons_of_mem _ hpf)) hm hB hfB (Nat.le_trans hz' (Heap.lt_size (I'.pin (f,of) (List.mem_append_right _ (List.mem_cons_of_mem _ (List.mem_cons_of_mem _ hpf)))).1))).in1.in1 (hb s' [x] I'.kIn hl) (.cons ry .nil) spec
    refine wpAny_bind (wpAny_attempt (wpAny_call (codeAny_mono run fun r s2 hq=>?_)))
    cases r with
    | error e=>exact False.elim hq
    | ok fl =>
      cases fl with
      | next=>exact False.elim hq
      | brk=>exact False.elim hq
      | cont=>exact False.elim hq
      | ret u =>
        obtain ⟨v,H2,I2,rvu,s2',rkey⟩:=I'.after hq
        dsimp only
        have pk:=I2.pin (kS,seqObj "list" (List.toArray ks) e) (List.mem_append_right _ (List.mem_cons_self ..))
        have ea:(List.toArray ks).push u=List.toArray (ks++[u]):=by simp
        obtain ⟨c2,hc2⟩:∃ c2,(s2.heap.update kS (Obj.mapSeq (·.push u))).get? kS=some (seqObj "list" (List.toArray (ks++[u])) c2):=⟨_,by rw [← ea]; exact get?_update_seq pk.1 (·.push u)⟩
        refine wpAny_bind (listUpdate_at pk.1 rfl ?_ (by rw [List.size_toArray,sizeLine_eq]; omega) (Nat.le_trans (Nat.le_of_eq (Array.size_push ..)) (by rw [List.size_toArray,sizeLine_eq]; omega)))
        have I3:Inv X ((a,seqObj "list" #[] e1)::pins) σ H2 s2:=I2.pins_of fun p hp=>I2.pin p (List.mem_append_right _ (List.mem_cons_of_mem _ hp))
        have I4:=I3.turned (it:=kS) (h':=s2.heap.update kS (Obj.mapSeq (·.push u))) (t':=s2.toks) (fun b o nb hb=>by rw [Heap.get?_update_ne _ _ _ _ nb]; exact hb) pk.2.1 pk.2.2.1 (.inr nk) (fun x c hc z=>by
          obtain ⟨v,o,ho,hd⟩:=I3.cell x c hc
          rw [z,pk.1] at ho
          cases ho
          exact pk.2.2.2.2 v hd) np
        refine wpAny_pure ⟨rfl,H2,ks++[u],kv++[v],c2,?_,sH.trans s2',rk.snoc' rvu,?_⟩
        · refine I4.pins_of fun p hp=>?_
          rcases List.mem_cons.mp hp with rfl | hp
          · exact ⟨hc2,pk.2.1,pk.2.2.1,pk.2.2.2.1,fun v=>by intro z; cases z⟩
          · exact I4.pin p (List.mem_append_right _ hp)
        · rw [List.take_add_one,hkk,List.map_append]
          exact RepL.snoc (rr.flat s2'.t (kys_flat _)) rkey
  · obtain ⟨H',ks,kv,e,I',sH,rk,rr⟩:=hI
    rw [Nat.zero_add,List.take_of_length_le (by omega)] at rr
    have pk:=I'.pin (kS,seqObj "list" (List.toArray ks) e) (List.mem_append_right _ (List.mem_cons_self ..))
    have pa:=I'.pin (a,seqObj "list" #[] e1) (List.mem_append_right _ (List.mem_cons_of_mem _ (List.mem_cons_self ..)))
    refine wpAny_bind (listItems_at pk.1 rfl ?_)
    have lk:ks.length=vs.length:=by rw [← rk.length,rr.len,List.length_map]; omega
    refine sk_end (kz:=kz) lk h64 hr.in1.in1.units (kys_of I' rr kn rk) pk.1 pa.1 ne fun p g1 g2=>?_
    exact h p ks e H' s' sH I' g1 g2
end
section
variable {X:Cx} {pins:List (Addr × Obj)} {σ:St} {H:Hp} {s:Shared}
theorem sk_sortedB {K:PySem.W.Frag} (hK:X.K=K) {k:Nat} {f:Addr} {fd:FuncData} {ps:List Str} {sp:Sp} {B:Heap} {of:Obj} (hpf:(f,of)∈pins) (hm:Mod X.K X.mg B) (hB:∀ b o,B.get? b=some o→X.base.get? b=some o∨b=f) (hfB:B.get? f=some of) (hz':B.objs.size≤f+1) (F:FnOk X.prog X.w X.K X.mg B CX0 k f fd ps sp) (hb:Binds X.K fd ps []) (hr:Room (k+2) X.A) {x:V} {u:Value} {Q:VK} (I:Inv X pins σ H s) (rx:RelV x u) (q:rSrtK K sp x H Q) :
    wpAny (model X.prog X.w) X.A (call (.builtin "sorted") [u] [(Str.ofString "key",.ref f)]) (EP X pins σ Q) X.xe s:=by
  subst hK
  unfold rSrtK at q
  obtain ⟨l,ys,kz,rfl,hq,hz,kb,q⟩:=q
  cases (show u=Value.ref l from rx)
  obtain ⟨vs,rv,pl,hzz⟩:=I.list hq
  have lv:=rv.length
  obtain ⟨o,n,ho,hcl,hdd,hd⟩:=pl
  have hl:s.heap.IsList l vs.toArray:=⟨o,ho,hcl,n,hd⟩
  have h64:vs.length<64:=by omega
  refine call_function_entry_kw kind_sorted plain_sorted entry_sorted (ksk_s1 _ _) ?_
  unfold Builtin.«sorted»
  refine wpAny_bind (m:=checkCount _ _ _ _) (wpAny_pure ?_)
  refine wpAny_bind (collect_list hl ?_ (by rw [sizeLine_eq]; omega))
  have sz0:s.heap.objs.size≤((s.heap.push (seqObj "list" #[] 0)).update s.heap.objs.size (Obj.mapSeq (· ++ vs.toArray))).objs.size:=by rw [Heap.size_update,size_push']; omega
  have kp0:∀ b o,s.heap.get? b=some o→((s.heap.push (seqObj "list" #[] 0)).update s.heap.objs.size (Obj.mapSeq (· ++ vs.toArray))).get? b=some o:=fun b o hb=>by
    have lt:b<s.heap.objs.size:=Heap.lt_size hb
    rw [Heap.get?_update_ne _ _ _ _ (Nat.ne_of_lt lt)]; exact Heap.get?_push_of_some _ hb
  generalize (s.heap.push (seqObj "list" #[] 0)).update s.heap.objs.size (Obj.mapSeq (· ++ vs.toArray))=h1 at sz0 kp0 ⊢
  refine wpAny_bind (wpAny_newList ?_ (by rw [sizeLine_eq]; omega))
  have gD:(h1.push (seqObj "list" vs.toArray 0)).get? h1.objs.size=some (seqObj "list" vs.toArray 0):=Heap.get?_push_size _ rfl
  have sz1:(h1.push (seqObj "list" vs.toArray 0)).objs.size=h1.objs.size+1:=size_push' ..
  have kp1:∀ b o,s.heap.get? b=some o→(h1.push (seqObj "list" vs.toArray 0)).get? b=some o:=fun b o hb=>Heap.get?_push_of_some _ (kp0 b o hb)
  show wpAny _ _ _ _ _ { s with heap:=h1.push (seqObj "list" vs.toArray 0) }
  generalize hD:h1.objs.size=D at *
  generalize h1.push (seqObj "list" vs.toArray 0)=h2 at gD sz1 kp1 ⊢
  refine wpAny_bind (wpAny_holding (wpAny_call_entry_kw slot_list_sort ⟨_,gD,rfl⟩ entry_list_sort ?_ (ksk_l1 _ _)))
  show wpAny (model X.prog X.w) X.A.in1.in1 (Builtin.«list.sort» ⟨[.ref D],[(Str.ofString "key",.ref f)]⟩) _ _ _
  rw [ksk_t1]
  unfold ksk_tree
  refine wpAny_bind (listItems_at gD rfl ?_)
  refine wpAny_bind (listUpdate_at gD rfl ?_ (by rw [List.size_toArray,sizeLine_eq]; omega) (Nat.zero_le _))
  obtain ⟨e1,g1⟩:∃ e1,(h2.update D (Obj.mapSeq fun _=>(#[]:Array Value))).get? D=some (seqObj "list" #[] e1):=⟨_,get?_update_seq gD fun _=>#[]⟩
  have sz2:(h2.update D (Obj.mapSeq fun _=>(#[]:Array Value))).objs.size=D+1:=by rw [Heap.size_update]; exact sz1
  have kp2:∀ b o,s.heap.get? b=some o→(h2.update D (Obj.mapSeq fun _=>(#[]:Array Value))).get? b=some o:=fun b o hb=>by
    have lt:b<s.heap.objs.size:=Heap.lt_size hb
    rw [Heap.get?_update_ne _ _ _ _ (Nat.ne_of_lt (Nat.lt_of_lt_of_le lt sz0))]; exact kp1 b o hb
  show wpAny _ _ _ _ _ { s with heap:=h2.update D (Obj.mapSeq fun _=>(#[]:Array Value)) }
  generalize h2.update D (Obj.mapSeq fun _=>(#[]:Array Value))=h3 at g1 sz2 kp2 ⊢
  refine wpAny_bind (seqEpoch_at g1 rfl ?_)
  refine wpAny_bind (wpAny_newTuple ?_ (by show vs.length≤_; rw [sizeLine_eq]; omega))
  refine wpAny_bind (wpAny_newList ?_ (Nat.zero_le _))
  refine wpAny_holding ?_
  have g2:((h3.push (seqObj "tuple" vs.toArray 0)).push (seqObj "list" #[] 0)).get? D=some (seqObj "list" #[] e1):=Heap.get?_push_of_some _ (Heap.get?_push_of_some _ g1)
  have g3:((h3.push (seqObj "tuple" vs.toArray 0)).push (seqObj "list" #[] 0)).get? (h3.push (seqObj "tuple" vs.toArray 0)).objs.size=some (seqObj "list" #[] 0):=Heap.get?_push_size _ rfl
  have sz3:(h3.push (seqObj "tuple" vs.toArray 0)).objs.size=D+2:=by rw [size_push',sz2]
  have kp3:∀ b o,s.heap.get? b=some o→((h3.push (seqObj "tuple" vs.toArray 0)).push (seqObj "list" #[] 0)).get? b=some o:=fun b o hb=>Heap.get?_push_of_some _ (Heap.get?_push_of_some _ (kp2 b o hb))
  show wpAny _ _ (ksk_rest D (.ref f) false vs.toArray e1 (.ref (h3.push (seqObj "tuple" vs.toArray 0)).objs.size)) _ _ { s with heap:=(h3.push (seqObj "tuple" vs.toArray 0)).push (seqObj "list" #[] 0) }
  rw [sz3] at g3 ⊢
  generalize (h3.push (seqObj "tuple" vs.toArray 0)).push (seqObj "list" #[] 0)=h4 at g2 g3 kp3 ⊢
  have I0:Inv X pins σ H { s with heap:=h4 }:=I.kept (t':=s.toks) kp3
  have dD:s.heap.objs.size≤D:=sz0
  have dD2:s.heap.objs.size≤D+2:=Nat.le_trans sz0 (Nat.le_add_right _ _)
  have nDD:D≠D+2:=Nat.ne_of_lt (Nat.lt_add_of_pos_right (by decide))
  have lL:=I.lt
  have hpin:∀ p∈X.pn++pins,p.1<s.heap.objs.size:=fun p hp=>Heap.lt_size (I.pin p hp).1
  have I1:Inv X ((D+2,seqObj "list" #[] 0)::(D,seqObj "list" #[] e1)::pins) σ H { s with heap:=h4 }:=I0.pins_of fun p hp=>by
    rcases List.mem_cons.mp hp with rfl | hp
    · exact ⟨g3,I.hok.fresh dD2,Nat.ne_of_gt (Nat.lt_of_lt_of_le lL dD2),I.nofs dD2,fun v z=>by cases z⟩
    rcases List.mem_cons.mp hp with rfl | hp
    · exact ⟨g2,I.hok.fresh dD,Nat.ne_of_gt (Nat.lt_of_lt_of_le lL dD),I.nofs dD,fun v z=>by cases z⟩
    exact I0.pin p (List.mem_append_right _ hp)
  have sz00:=I.sz
  refine sk_restB hpf hm hB hfB hz' F hb hr I1 (Nat.le_trans sz00 dD2) (fun p hp=>?_) rv h64 kb fun p ks e H' s' sH I' hg ha=>?_
  · rcases List.mem_append.mp hp with hp | hp
    · exact Nat.ne_of_lt (Nat.lt_of_lt_of_le (hpin p (List.mem_append_left _ hp)) dD2)
    rcases List.mem_cons.mp hp with rfl | hp
    · exact nDD
    · exact Nat.ne_of_lt (Nat.lt_of_lt_of_le (hpin p (List.mem_append_right _ hp)) dD2)
  have pk:=I'.pin (D+2,seqObj "list" (List.toArray ks) e) (List.mem_append_right _ (List.mem_cons_self ..))
  have pa:=I'.pin (D,seqObj "list" #[] e1) (List.mem_append_right _ (List.mem_cons_of_mem _ (List.mem_cons_self ..)))
  have Ip:Inv X pins σ H' s':=I'.pins_of fun p hp=>I'.pin p (List.mem_append_right _ (List.mem_cons_of_mem _ (List.mem_cons_of_mem _ hp)))
  have hperm:p.toList.Perm (List.range ys.length):=by
    have:=(Array.perm_iff_toList_perm.mp hg)
    rw [lv]; simpa using this
  have hlt:∀ i∈p.toList,i<ys.length:=fun i hi=>by
    have:=hperm.mem_iff.mp hi
    simpa using this
  have hl2:(p.toList.map fun i=>ys.getD i .non).length=ys.length:=by rw [List.length_map,hperm.length_eq,List.length_range]
  have hDn:H' D=none:=pa.2.1
  have gfin:((s'.heap.update (D+2) (Obj.mapSeq fun _=>(#[]:Array Value))).update D (Obj.mapSeq fun _=>List.toArray (p.toList.map fun i=>vs.getD i Value.none))).get? D=some (seqObj "list" (List.toArray (p.toList.map fun i=>vs.getD i Value.none)) _) :=
    get?_update_seq (show (s'.heap.update (D+2) (Obj.mapSeq fun _=>(#[]:Array Value))).get? D=some (seqObj "list" #[] e1) by rw [Heap.get?_update_ne _ _ _ _ nDD]; exact pa.1) fun _=>List.toArray (p.toList.map fun i=>vs.getD i Value.none)
  have kfin:∀ b o,b≠D→b≠D+2→s'.heap.get? b=some o→((s'.heap.update (D+2) (Obj.mapSeq fun _=>(#[]:Array Value))).update D (Obj.mapSeq fun _=>List.toArray (p.toList.map fun i=>vs.getD i Value.none))).get? b=some o:=fun b o n1 n2 hb=>by
    rw [Heap.get?_update_ne _ _ _ _ n1,Heap.get?_update_ne _ _ _ _ n2]; exact hb
  generalize (s'.heap.update (D+2) (Obj.mapSeq fun _=>(#[]:Array Value))).update D (Obj.mapSeq fun _=>List.toArray (p.toList.map fun i=>vs.getD i Value.none))=h5 at gfin kfin ⊢
  refine ⟨_,rfl,wpAny_pure ⟨_,rfl,?_⟩⟩
  have nn:∀ b u,H' b=some u→b≠D∧b≠D+2:=fun b u hb=>⟨(fun z=>by rw [z,hDn] at hb; exact nomatch hb),(fun z=>by rw [z,pk.2.1] at hb; exact nomatch hb)⟩
  have ncell:∀ x c,X.env.cells.lookup x=some c→c≠D∧c≠D+2:=fun x c hc=>by
    obtain ⟨v,o,ho,hd⟩:=Ip.cell x c hc
    refine ⟨fun z=>?_,fun z=>?_⟩
    · rw [z,pa.1] at ho; cases ho; exact pa.2.2.2.2 v hd
    · rw [z,pk.1] at ho; cases ho; exact pk.2.2.2.2 v hd
  have mem2:∀ b,b ∉ [D,D+2]→b≠D∧b≠D+2:=fun b hb=>⟨fun z=>hb (by simp [z]),fun z=>hb (by simp [z])⟩
  refine ⟨.ref D,upd H' D (.lst (p.toList.map fun i=>ys.getD i .non)),Ip.step (g':=s'.gens) (d':=s'.drawn) (t':=s'.toks) (ch:=[D,D+2]) (fun b hb=>?_) (fun b o _ _ hc g _=>kfin b o (mem2 b hc).1 (mem2 b hc).2 g) (fun b o _ _ hc g _=>⟨o.slots,kfin b o (mem2 b hc).1 (mem2 b hc).2 g⟩)
    (fun b o hc g n=>by rw [upd_ne (mem2 b hc).1]; exact n) (fun b o hc g=>⟨o,kfin b o (mem2 b hc).1 (mem2 b hc).2 g⟩) (fun b xs g=>by rw [upd_ne (nn b _ g).1]; exact g) (fun b o u g=>by rw [upd_ne (nn b _ g).1]; exact g) (fun b ps g=>⟨#[],by rw [upd_ne (nn b _ g).1,g]; simp⟩)
    (fun m hm=>?_) (fun b u g=>?_) Ip.bare,rfl,?_⟩
  · rcases List.mem_cons.mp hb with rfl | hb
    · exact ⟨.inr (Nat.le_trans sz00 dD),pa.2.2.1,fun x c hc=>(ncell x c hc).1,fun p hp=>Nat.ne_of_lt (Nat.lt_of_lt_of_le (hpin p hp) dD)⟩
    · rw [List.mem_singleton.mp hb]
      exact ⟨.inr (Nat.le_trans sz00 dD2),pk.2.2.1,fun x c hc=>(ncell x c hc).2,fun p hp=>Nat.ne_of_lt (Nat.lt_of_lt_of_le (hpin p hp) dD2)⟩
  · obtain ⟨o,es,ep,ho,r⟩:=hm
    exact ⟨o,es,ep,kfin _ o (Ne.symm pa.2.2.1) (Ne.symm pk.2.2.1) ho,r⟩
  · by_cases hbD:b=D
    · subst hbD
      rw [upd_same] at g
      cases g
      exact ⟨by rw [hl2]; exact hzz,_,_,vals_ix rv _ hlt,gfin⟩
    · rw [upd_ne hbD] at g
      refine (Ip.hok b u g).stay (fun c v hc r=>?_) (fun c r=>by rw [upd_ne (nn c _ r).1]; exact r) fun c xs r=>by rw [upd_ne (nn c _ r).1]; exact r
      have nc:c≠D∧c≠D+2:=by
        rcases hc with rfl | hc
        · exact nn c u g
        · exact nn c _ hc
      exact kfin c v nc.1 nc.2 r
  · refine q D p.toList _ hperm (fun nd=>?_) (I.hok.fresh dD) upd_same (fun b o g=>?_)
    · have:=kb.1
      exact asc_list hg (ha (by have:=ord_of nd; rwa [kb.1,lv] at this))
    · have g':=sH b o g
      rw [upd_ne (nn b o g').1]; exact g'
end
def spL (N:List Str) (c':Addr) (q:Str) (te:TE):Sp:=fun vs H Q _=>vs.length=1∧H c'=some (codeHO c' q)∧te (start N vs) H Q
@[irreducible] def rSrtL (K:PySem.W.Frag) (P:Addr) (qn:Str) (pos:Pos) (N:List Str) (te:TE) (x:V) (H:Hp) (Q:VK):Prop:=∃ (p:Addr) (ys:List V) (kz:List (List Int)),x=.ref p∧SqL K H p ys∧ys.length<64∧TabOk H P qn pos∧kz.length=ys.length∧(∀ k∈kz,k≠[]) ∧
  (∀ (i:Nat) (y:V) (k:List Int) (H':Hp),ys[i]?=some y→kz[i]?=some k→SameBut P H H'→te (start N [y]) H' fun v H''=>Same H' H''∧Rep H'' (kyD k) v) ∧
  ∀ (D:Addr) (ix:List Nat) (H':Hp),ix.Perm (List.range ys.length)→(kz.Nodup→(ix.map fun i=>kz.getD i []).Pairwise fun a b=>lexB a b=true)→H D=none→H' D=some (.lst (ix.map fun i=>ys.getD i .non))→SameBut P H H'→TabOk H' P qn pos→Q (.ref D) H'
def tSrtL (K:PySem.W.Frag) (P:Addr) (qn:Str) (pos:Pos) (N:List Str) (te ta:TE):TE:=fun σ H Q=>ta σ H fun x H1=>rSrtL K P qn pos N te x H1 Q
theorem TabOk.same {H H':Hp} {P:Addr} {q:Str} {pos:Pos} (t:TabOk H P q pos) (s:Same H H'):TabOk H' P q pos:=⟨t.ex.elim (fun h=>.inl (s _ _ h)) fun ⟨c',h1,h2⟩=>.inr ⟨c',s _ _ h1,s _ _ h2⟩⟩
theorem TabOk.at_ {H:Hp} {P:Addr} {q:Str} {pos:Pos} (t:TabOk H P q pos):∃ ps,H P=some (.tbl ps):=t.ex.elim (fun h=>⟨_,h⟩) fun ⟨c',h1,_⟩=>⟨_,h1⟩
theorem SqL.butT {K:Frag} {H H':Hp} {P p:Addr} {xs:List V} {ps:Array Value} (b:SameBut P H H') (hP:H P=some (.tbl ps)) (h:SqL K H p xs):SqL K H' p xs:=by
  rcases h with (h | ⟨o,h⟩) | h
  · exact .inl (.inl (b.at (fun z=>by rw [z,hP] at h; cases h) h))
  · exact .inl (.inr ⟨o,b.at (fun z=>by rw [z,hP] at h; cases h) h⟩)
  · exact .inr h
theorem SameBut.same {P:Addr} {H H1 H2:Hp} (b:SameBut P H H1) (s:Same H1 H2):SameBut P H H2:=fun c o e=>by
  have n:=Hide.ne e
  rw [Hide.at n] at e
  exact Hide.of n (s _ _ (b.at n e))
section
variable {X:Cx}
theorem we_srtL (K:PySem.W.Frag) {P c:Addr} {N:List Str} {z:Str} {params:Arguments} {body:Expr} {scope:Scope} {lpos:Pos} {te:TE} {k:Nat} {a:Expr} {ta:TE} {p pos kp:Pos} {qn:Str} (hcode:X.env.code=.ref c) (hh:hdIn X.K c P=true) (hbm:BM X.mg X.base)
    (S:FnScope N [z] scope) (hbi:∀ (pm ctv:Value) (c':Addr) (u:Value),bindArgs (kla_fn "<lambda>" (X.env.qual ++ "<lambda>") params body scope [] pm (.ref c') ctv) ⟨[u],[]⟩=pure [(z,u)])
    (hbody:∀ (B:Heap) (f c':Addr) (A:Around) (outer:List Env) (s:Shared) (H:Hp) (E:XK),Room k (A.deeper (envOfC (X.env.qual ++ "<lambda>") scope s.heap.objs.size f (.ref c'))) →
      PEw (cxOf CX0 X.prog X.w X.K X.mg B N (X.env.qual ++ "<lambda>") scope f (.ref c') A outer s H E).nox body te)
    (hr:Room (k+1+2) X.A) (hg:Gl X "sorted") (hmg:X.mg "sorted" = none) (ha:PEw X a ta) (hqn:X.env.qual ++ "<lambda>" = qn) (hcl:closureFor scope X.env=pure []:=by rfl) (hdef:defaultsOf params X.env=([],[]):=by rfl) (hK:X.K=K:=by rfl)
    (he:eval (.Call (.Name "sorted" p) [a] [⟨some "key",.Lambda params body scope lpos,kp⟩] pos) X.env=(do callWith pos (← eval (.Name "sorted" p) X.env) [] (backTo pos (starEach [a] X.env)) (backToKw pos (keywordEach [⟨some "key",.Lambda params body scope lpos,kp⟩] X.env))):=by rfl)
    (hs:starEach [a] X.env=[(false,eval a X.env)]:=by first | exact se_Name | exact se_Call | exact se_Subscript | rfl) :
    PEw X (.Call (.Name "sorted" p) [a] [⟨some "key",.Lambda params body scope lpos,kp⟩] pos) (tSrtL K P qn lpos N te ta):=⟨by
  intro pins s σ H Q I h
  rw [he]
  refine wpAny_bind (ld_blt I hg hmg boot_sorted ?_)
  have hbk:backTo pos (starEach [a] X.env)=[(false,eval a X.env)]:=by rw [hs]; rfl
  refine PyProof.Rows.callWith_kw ?_ (by rw [hbk]; rfl) (by rw [hbk]; rfl) rfl rfl
  rw [hbk]
  refine Calls.spliced_cons (thn (ha.p pins s σ H _ I h) fun u s1 ⟨x,H1,I1,rx,q1⟩=>Calls.spliced_nil ?_)
  unfold rSrtL at q1
  obtain ⟨l,ys,kz,rfl,hq,hz,TO,kl,kn,kc,q⟩:=q1
  subst hqn
  obtain ⟨ps0,hP⟩:=TO.at_
  refine kws_cons (mk_lam I1 hcode hh hbm hcl hdef TO fun f c' pm ctv H2 s2 T2 hc2 b2 sz I2=>?_)
  refine kws_nil ?_
  have k2:∀ b o,X.base.get? b=some o→s2.heap.get? b=some o:=I2.bk
  have pf:=I2.pin (f,kla_obj "<lambda>" (X.env.qual ++ "<lambda>") params body scope [] pm c' ctv) (List.mem_append_right _ (List.mem_cons_self ..))
  have hfB:=lamB_self (base:=X.base) pf.1
  have mB:Mod X.K X.mg (lamB X.base s2.heap f):=I2.mod.more fun b o e=>lamB_get k2 e
  have FL:FnOk X.prog X.w X.K X.mg (lamB X.base s2.heap f) CX0 (k+1) f (kla_fn "<lambda>" (X.env.qual ++ "<lambda>") params body scope [] pm (.ref c') ctv) [z] (spL N c' (X.env.qual ++ "<lambda>") te) :=
    lam_of hfB S (fun vs H Q E h=>h.1) (fun vs H Q E h=>h.2.1) fun A outer s H vs Q E hr h=>⟨te,hbody _ f c' A outer s H E hr,h.2.2⟩
  have q2:rSrtK X.K (spL N c' (X.env.qual ++ "<lambda>") te) (.ref l) H2 Q:=by
    unfold rSrtK
    refine ⟨l,ys,kz,rfl,SqL.butT b2 hP (by rw [hK]; exact hq),hz,⟨kl,kn,fun i y kk H' h1 h2 s'=>⟨rfl,s' _ _ hc2,kc i y kk H' h1 h2 (b2.same s')⟩⟩,fun D ix H' p1 p2 p3 p4 p5=>q D ix H' p1 p2 ?_ p4 (b2.same p5) (T2.same p5)⟩
    cases e:H1 D with
    | none=>rfl
    | some o =>
      by_cases zz:D=P
      · obtain ⟨ps2,hP2⟩:=T2.at_
        rw [zz,hP2] at p3; cases p3
      · rw [b2.at zz e] at p3; cases p3
  refine wpAny_mono (sk_sortedB rfl (List.mem_cons_self ..) mB (fun b o e=>lamB_of k2 e) hfB (Nat.le_of_eq (by unfold lamB; rw [hidT_size]; exact sz)) FL (.all fun us hl=>?_) hr I2 rx q2) (fun v s' ⟨y,H',J,r1,r2⟩=>⟨y,H',J.pins_of fun p hp=>J.pin p (List.mem_append_right _ (List.mem_cons_of_mem _ hp)),r1,r2⟩) fun _ _ e=>e
  obtain ⟨u',rfl⟩:∃ u',us=[u']:=by
    cases us with
    | nil=>simp at hl
    | cons u' r =>
      cases r with
      | nil=>exact ⟨u',rfl⟩
      | cons _ _=>simp at hl
  exact hbi pm ctv c' u'⟩
end
end L2
set_option Elab.async false
set_option linter.all false
set_option maxRecDepth 100000
namespace L2
open PySem PySem.Spec PySem.W PyProof.Rows
structure OnlyT (tabs:List (Addr × Addr)) (H:Hp):Prop where
  all:∀ b,H b=none∨(∃ o xs,H b=some (.frz o (.lst xs)))∨(H b=some (.tbl #[])∧b∈tabs.map (·.2))
  tab:∀ q∈tabs,H q.2=some (.tbl #[])
theorem law_callT {P:Program} {w:World} {K:PySem.W.Frag} {mg mb:Str→Option Value} {CX:CXT} {k:Nat} {fa a:Addr} {fd:FuncData} {x:Str} {sp:Sp} {s₁:Shared} {vs:List Value} {ns:List Int} {tabs:List (Addr × Addr)}
    (KX:K.In s₁.heap) (hns:s₁.heap.Ns mainGlobals mg) (hb:s₁.heap.Ns builtinsNs mb) (hbb:∀ x:Str,x ≠ "__name__" → mb x=bootBuiltins x) (hlim:s₁.heap.NoLimit) (hg:s₁.gens=#[])
    (ha:s₁.heap.get? a=some { cls:=.type "list",data:=.seq vs.toArray }) (hi:IntsAre vs ns) (hl:ns.length≤sizeLine) (hr:Room k callerA) (hT:∀ q∈tabs,CodeHd s₁.heap q.1 q.2∧s₁.heap.get? q.2=some (tabObj #[])) (hTK:∀ q∈tabs,K.lookup q.2=none) (hbm:BM mg s₁.heap)
    (F:∀ base:Heap,K.In base→base.Ns mainGlobals mg→BM mg base→FnOk P w K mg base CX k fa fd [x] sp) (hbind:∀ (s:Shared) (u:Value),BindsTo s fd ⟨[u],[]⟩ [(x,u)])
    (hsp:∀ H:Hp,OnlyT tabs H→SqL K H a (ns.map V.int)→sp [.ref a] H (fun v _=>v=.bl true) fun _ _ _=>False)
    (hCX:∀ H e s',CX [] H s₁ (fun _ _ _=>False) e s'→False) :
    codeAny (model P w) callerA (.call (.ref fa) ⟨[.ref a],[]⟩) (fun r s'=>r=.ok (.ret (.bool true))∧OldK s₁.heap s'.heap∧s'.os=s₁.os∧AllBare s'.gens) s₁:=by
  have rv:=vals_ints hi
  have lenV:=hi.length
  have tabAt:∀ b∈tabs.map (·.2),s₁.heap.get? b=some (tabObj #[])∧K.lookup b=none∧isCodeTable s₁.heap b:=fun b hb=>by
    obtain ⟨q,hq,rfl⟩:=List.mem_map.mp hb
    exact ⟨(hT q hq).2,hTK q hq,((hT q hq).1.tab (hT q hq).2).isCodeTable⟩
  have naT:a ∉ tabs.map (·.2):=fun z=>by
    have:=(tabAt a z).1
    rw [ha] at this; cases this
  have core:∀ H:Hp,OnlyT tabs H→SqL K H a (ns.map V.int)→HOk P w H s₁.heap→(∀ b,H b≠none→b=a∨b∈tabs.map (·.2))→(H a≠none→K.lookup a=none) →
      codeAny (model P w) callerA (.call (.ref fa) ⟨[.ref a],[]⟩) (fun r s'=>r=.ok (.ret (.bool true))∧OldK s₁.heap s'.heap∧s'.os=s₁.os∧AllBare s'.gens) s₁:=by
    intro H hO hS hok hA hK
    have base_of:∀ {b:Addr} {o:Obj},s₁.heap.get? b=some o→H b=none→(hidT s₁.heap H).get? b=some o:=fun e n=>hidT_get e n
    have untr:∀ {b:Addr} {o:Obj},s₁.heap.get? b=some o→o ≠ { cls:=.type "list",data:=.seq vs.toArray }→o≠tabObj #[]→H b=none:=fun {b o} e n1 n2=>by
      cases q:H b with
      | none=>rfl
      | some u =>
        exfalso
        rcases hA b (by rw [q]; simp) with rfl | z
        · rw [ha] at e; cases e; exact n1 rfl
        · rw [(tabAt b z).1] at e; cases e; exact n2 rfl
    have noA:∀ {b:Addr} {o:Obj} {es:Array DictEntry} {ep:Nat},s₁.heap.get? b=some o→o.data=.dict es ep→H b=none:=fun {b o es ep} e d =>
      untr e (fun z=>by rw [z] at d; cases d) (fun z=>by rw [z] at d; cases d)
    have nsK:∀ {b:Addr} {m:Str→Option Value},s₁.heap.Ns b m→(hidT s₁.heap H).Ns b m:=fun {b m} ⟨o,es,ep,e,d,r⟩=>⟨o,es,ep,base_of e (noA e d),d,r⟩
    have hKb:K.In (hidT s₁.heap H):=fun b o e=>base_of (KX b o e) (by
      cases q:H b with
      | none=>rfl
      | some u =>
        exfalso
        rcases hA b (by rw [q]; simp) with rfl | z
        · rw [hK (by rw [q]; simp)] at e; cases e
        · rw [(tabAt b z).2.1] at e; cases e)
    have hbmB:BM mg (hidT s₁.heap H):=by
      obtain ⟨bm,ob,h1,h2,h3,h4,h5,h6⟩:=hbm
      exact ⟨bm,ob,h1,h2,base_of h3 (untr h3 (fun z=>by rw [z] at h6; cases h6) (fun z=>by rw [z] at h6; cases h6)),h4,h5,h6⟩
    have hM:Mod K mg (hidT s₁.heap H):=⟨hKb,nsK hns,⟨mb,nsK hb,hbb⟩,let ⟨mc,h1,h2⟩:=hlim; ⟨mc,nsK h1,h2⟩⟩
    have e0:Env0 P w K mg (hidT s₁.heap H) callerA [] s₁ H:=⟨rfl,hM,fun b o e=>of_hidT e,Nat.le_of_eq (hidT_size _ _),trivial,fun b hb=>absurd (show b∈([]:List Addr) from hb) (by simp),hok,.of_eq hg⟩
    refine codeAny_mono ((F _ hKb (nsK hns) hbmB).run callerA [] s₁ H ⟨[.ref a],[]⟩ [.ref a] [.ref a] _ _ hr e0 (hbind s₁ (.ref a)) (.cons rfl .nil) (hsp H hO hS)) fun r s' h=>?_
    cases r with
    | error e=>exact (hCX H e s' h).elim
    | ok fl =>
      cases fl with
      | next=>exact False.elim h
      | brk=>exact False.elim h
      | cont=>exact False.elim h
      | ret u =>
        obtain ⟨v,H',os,bare,un,hok',r',q⟩:=h
        have q':v=.bl true:=q
        subst q'
        obtain rfl:u=Value.bool true:=r'
        have key:∀ b o,s₁.heap.get? b=some o→s'.heap.get? b=some o∨(isCodeTable s₁.heap b∧o=tabObj #[]∧∃ ps,s'.heap.get? b=some (tabObj ps)):=fun b o e=>by
          rcases hO.all b with z | ⟨ob,xs,z⟩ | ⟨z,hm⟩
          · exact .inl (un.keep b o e z (by intro z; exact absurd (show b∈([]:List Addr) from z) (by simp)) (by simp))
          · have z2:=un.frzs b ob _ z
            obtain ⟨e1,_⟩:=hok b _ z
            obtain ⟨e2,_⟩:=hok' b _ z2
            rw [e] at e1; cases e1
            exact .inl e2
          · obtain ⟨more,z2⟩:=un.tbls b _ z
            have e1:=(tabAt b hm).1
            rw [e] at e1; cases e1
            exact .inr ⟨(tabAt b hm).2.2,rfl,_,hok' b _ z2⟩
        refine ⟨rfl,⟨fun b o e=>?_,fun b o e=>?_⟩,os,bare⟩
        · rcases key b o e with z | ⟨ht,rfl,ps,z⟩
          · exact .inl z
          · exact .inr (.inl ⟨ht,rfl,#[],ps,rfl,by rw [Array.empty_append]; exact z⟩)
        · rcases key b o e with z | ⟨_,_,ps,z⟩
          · exact ⟨o,z⟩
          · exact ⟨_,z⟩
  cases hk:K.lookup a with
  | some o =>
    have e:=KX a o hk
    rw [ha] at e
    cases e
    refine core (fun b=>if b∈tabs.map (·.2) then some (.tbl #[]) else none) ⟨fun b=>?_,fun q hq=>if_pos (List.mem_map_of_mem hq)⟩ (.inr ⟨_,vs.toArray,_,hk,rfl,rfl,rfl,by rw [List.size_toArray,lenV]; exact hl,by simpa using rv⟩) (fun b u z=>?_) (fun b z=>?_) fun z=>absurd (if_neg naT) z
    · by_cases hb:b∈tabs.map (·.2)
      · exact .inr (.inr ⟨if_pos hb,hb⟩)
      · exact .inl (if_neg hb)
    · by_cases hb:b∈tabs.map (·.2)
      · have z':=(if_pos hb).symm.trans z
        cases z'
        exact (tabAt b hb).1
      · have z':=(if_neg hb).symm.trans z
        cases z'
    · by_cases hb:b∈tabs.map (·.2)
      · exact .inr hb
      · exact absurd (if_neg hb) z
  | none =>
    refine core (fun b=>if b=a then some (.frz { cls:=.type "list",data:=.seq vs.toArray } (.lst (ns.map V.int))) else if b∈tabs.map (·.2) then some (.tbl #[]) else none) ⟨fun b=>?_,fun q hq=>?_⟩ (.inl (.inr ⟨{ cls:=.type "list",data:=.seq vs.toArray },if_pos rfl⟩)) (fun b u z=>?_) (fun b z=>?_) fun _=>hk
    · by_cases hb:b=a
      · exact .inr (.inl ⟨_,_,if_pos hb⟩)
      · by_cases hb2:b∈tabs.map (·.2)
        · exact .inr (.inr ⟨(if_neg hb).trans (if_pos hb2),hb2⟩)
        · exact .inl ((if_neg hb).trans (if_neg hb2))
    · have hm:q.2∈tabs.map (·.2):=List.mem_map_of_mem hq
      exact (if_neg (show ¬ q.2=a from fun z=>naT (z ▸ hm))).trans (if_pos hm)
    · by_cases hb:b=a
      · have z':=(if_pos hb).symm.trans z
        cases z'
        subst hb
        exact ⟨ha,by rw [List.length_map]; exact hl,vs,_,rv,ha⟩
      · have z1:=(if_neg hb).symm.trans z
        by_cases hb2:b∈tabs.map (·.2)
        · have z':=(if_pos hb2).symm.trans z1
          cases z'
          exact (tabAt b hb2).1
        · have z':=(if_neg hb2).symm.trans z1
          cases z'
    · by_cases hb:b=a
      · exact .inl hb
      · by_cases hb2:b∈tabs.map (·.2)
        · exact .inr hb2
        · exact absurd ((if_neg hb).trans (if_neg hb2)) z
theorem walk_ofT {l:PySem.W.OpenLaw} {n k:Nat} {q:Program} {loose:List Str} {XP:(Str→Option Value)→Heap→Prop} {YP:World→Heap→Prop} {d:DefRec} {K:Params→PySem.W.Frag} {CX:CXT} {tabs:Params→List (Addr × Addr)} {sp:PySem.W.Frag→List (Addr × Addr)→Sp} {x:Str} (nms:List Str)
    (hn:l.most=some n) (hn2:n≤sizeLine) (hdf:d.params.defaults=[]) (hr:Room k callerA)
    (hY:∀ (w:World) (h:Heap),YP w h→(K w.params).In h)
    (hrec:∀ y∈nms,∃ e,(recsOf q).find? (fun e=>e.name == y)=some e) (htab:∀ w:World,nms.map (tabIn (K w.params))=(tabs w.params).map some) (hTK:∀ (w:World),∀ t∈tabs w.params,(K w.params).lookup t.2=none)
    (F:∀ (w:World) (mg:Str→Option Value) (fa:Addr) (h:Heap),(K w.params).In h→h.Ns mainGlobals mg→mg d.name=some (.ref fa) →
      ∃ fd:FuncData,(∀ (s:Shared) (u:Value),BindsTo s fd ⟨[u],[]⟩ [(x,u)]) ∧
        ∀ base:Heap,(K w.params).In base→base.Ns mainGlobals mg→BM mg base→FnOk l.prog w (K w.params) mg base CX k fa fd [x] (sp (K w.params) (tabs w.params)))
    (hsp:∀ (K:PySem.W.Frag) (tabs:List (Addr × Addr)) (H:Hp) (a:Addr) (ns:List Int),ns.length≤n→OnlyT tabs H→SqL K H a (ns.map V.int)→sp K tabs [.ref a] H (fun v _=>v=.bl true) fun _ _ _=>False)
    (hCX:∀ (H:Hp) (s:Shared) (e:Value) (s':Shared),CX [] H s (fun _ _ _=>False) e s'→False) :
    PySem.W.WalkO q loose XP YP l.row.toRowW d [] (fun f vs=>PySem.call f vs):=by
  refine Att.attach_call hn hdf fun w s₀ s₁ mg mb fa o pm cd doc a vs ns G Y ho hd hcd hmg hobj hints hlen hg=>?_
  have KX:=hY w _ Y
  obtain ⟨fd,hb,hF⟩:=F w mg fa _ KX G.T.g hmg
  have hT:∀ t∈tabs w.params,CodeHd s₁.heap t.1 t.2∧s₁.heap.get? t.2=some (tabObj #[]):=fun t ht=>by
    have hm:some t∈nms.map (tabIn (K w.params)):=by rw [htab w]; exact List.mem_map_of_mem ht
    obtain ⟨y,hy,e⟩:=List.mem_map.mp hm
    obtain ⟨dr,hdr⟩:=hrec y hy
    exact tab_of G.T KX hdr e
  exact law_callT KX G.T.g G.T.b G.T.builtins G.T.nolimit hg hobj hints (Nat.le_trans hlen hn2) hr hT (hTK w) G.T.bmain hF hb (fun H hO hS=>hsp _ _ H a ns hlen hO hS) fun H e s'=>hCX H s₁ e s'
theorem Fun.okwL {P:Program} {w:World} {K:PySem.W.Frag} {mg:Str→Option Value} {base:Heap} {x qual:Str} {st:Stmt} {f cA:Addr} {fd:FuncData} {N ps:List Str} {k:Nat} {sp:Sp} (F:Fun K x qual st f fd) (hc:fd.code=.ref cA) (S:FnScope N ps (defScope st)) (len:∀ vs H Q E,sp vs H Q E→vs.length=ps.length)
    (hbody:∀ (A:Around) (outer:List Env) (s:Shared) (H:Hp) (vs:List V) (Q:VK) (E:XK),Room k (A.deeper (envOfC qual (defScope st) s.heap.objs.size f (.ref cA)))→sp vs H Q E →
      ∃ t,PSsw (cxOf CX0 P w K mg base N qual (defScope st) f (.ref cA) A outer s H E).nox (defBody st) t∧t { nx:=fun _ H'=>Q .non H',rt:=Q } (start N vs) H):FnOk P w K mg base CX0 (k+1) f fd ps sp:=by
  obtain ⟨oc,od,kV,doc,pm,an,cdv,ct,osl,rfl,lk,hcd⟩:=F.ex
  obtain rfl:cdv=.ref cA:=hc
  refine fn_of lk hcd S len fun A outer s H vs Q E hr hsp=>?_
  obtain ⟨t,h,q⟩:=hbody A outer s H vs Q E hr hsp
  exact ⟨t,h.p.nox,q⟩
end L2
set_option Elab.async false
set_option linter.all false
set_option maxRecDepth 100000
namespace L2
open PySem PySem.Spec PySem.W PyProof.Rows HT
@[irreducible] def rIsiK (K:PySem.W.Frag):List V→Hp→VK→Prop:=fun xs H Q=>∃ x d T,xs=[x,.ty T]∧RepK K H d x∧(T = "int" ∨ T = "bool" ∨ T = "tuple" ∨ T = "str" ∨ T = "list" ∨ T = "dict")∧Q (.bl (isD T d)) H
theorem cl_isiDK {X:Cx} (K:PySem.W.Frag) (hK:X.K=K:=by rfl):CallR X (.builtin "isinstance") (rIsiK K):=by
  subst hK
  unfold rIsiK
  intro pins s σ H xs us Q I r h
  obtain ⟨x,d,T,rfl,hr,hT,q⟩:=h
  obtain ⟨u,w',rfl,r1,r2⟩:=vals2 r
  cases (show w'=Value.type T from r2)
  have go:∀ {t:Value},TyOf X.K H x t→t=.type (tyD d)→wpAny (model X.prog X.w) X.A (call (.builtin "isinstance") [u,.type T]) (EP X pins σ Q) X.xe s:=fun ty e=>by
    subst e
    exact isinst_ok I r1 ty (kit_D _ d T hT) fun tk=>⟨.bl _,H,I.tok _,rfl,q⟩
  cases d with
  | none=>cases (show x=V.non from hr); exact go .non rfl
  | bool b=>cases (show x=V.bl b from hr); exact go (.bl b) rfl
  | int b=>cases (show x=V.int b from hr); exact go (.int b) rfl
  | str b=>cases (show x=V.str b from hr); exact go (.str b) rfl
  | list ds=>unfold RepK at hr; obtain ⟨a,xs,rfl,h1,h2⟩:=hr; exact go (.lst h1) rfl
  | dict ds=>unfold RepK at hr; obtain ⟨_,a,rfl,h1⟩:=hr; exact go (.dK h1) rfl
  | tuple ds =>
    unfold RepK at hr
    obtain ⟨a,ys,rfl,ha,_⟩:=hr
    cases (show u=Value.ref a from r1)
    obtain ⟨its,_,⟨o,h1,h2,_⟩,_⟩:=I.tuple ha
    exact kia_one kitx_tuple I.kIn ⟨o,h1,h2⟩ (kit_D _ (.tuple ds) T hT) (fun z=>nomatch z) fun tk=>⟨.bl _,H,I.tok _,rfl,q⟩
section
variable {K:PySem.W.Frag} {H:Hp} {x:V} {d:PyData} {Q:VK}
theorem rkI {T:String} (r:RepK K H d x) (q:Q (.bl (isD T d)) H) (hT:(T = "int" ∨ T = "bool" ∨ T = "tuple" ∨ T = "str" ∨ T = "list" ∨ T = "dict"):=by decide):rIsiK K [x,.ty T] H Q:=by unfold rIsiK; exact ⟨x,d,T,rfl,r,hT,q⟩
theorem rkTup (r:RepK K H d x) (q:Q (.bl (dTup d)) H):rIsiK K [x,.ty "tuple"] H Q:=rkI r (by rw [isD_tup]; exact q)
theorem rkInt (r:RepK K H d x) (q:Q (.bl (dInt d)) H):rIsiK K [x,.ty "int"] H Q:=rkI r (by rw [isD_int]; exact q)
theorem rkBool (r:RepK K H d x) (q:Q (.bl (dBool d)) H):rIsiK K [x,.ty "bool"] H Q:=rkI r (by rw [isD_bool]; exact q)
end
theorem RepKL.len {K:PySem.W.Frag} {H:Hp}:∀ {ds:List PyData} {vs:List V},RepKL K H ds vs→vs.length=ds.length
  | [],_,h=>by cases (show _=[] from h); rfl
  | d::ds,_,h=>by
    unfold RepKL at h
    obtain ⟨x,xs,rfl,_,h2⟩:=h
    rw [List.length_cons,List.length_cons,h2.len]
theorem RepKL.at {K:PySem.W.Frag} {H:Hp}:∀ {ds:List PyData} {vs:List V} {i:Nat} {x:V},RepKL K H ds vs→vs[i]?=some x→∃ d,ds[i]?=some d∧RepK K H d x
  | [],_,i,x,h,e=>by cases (show _=[] from h); simp at e
  | d::ds,_,0,x,h,e=>by
    unfold RepKL at h
    obtain ⟨y,xs,rfl,h1,_⟩:=h
    cases (show y=x by simpa using e)
    exact ⟨d,rfl,h1⟩
  | d::ds,_,i+1,x,h,e=>by
    unfold RepKL at h
    obtain ⟨y,xs,rfl,_,h2⟩:=h
    simpa using h2.at (i:=i) (by simpa using e)
section
variable {σ:St} {js:List Nat} {te:TE} {H:Hp} {Q:VK}
theorem comp_mapUK {K:PySem.W.Frag} {a:Addr} {xs:List V} (R:Nat→V→Hp→Prop) (hR:∀ i y H1 H2,SameT H1 H2→R i y H1→R i y H2) (hz:xs.length≤100000) (hl:SqT K H a xs)
    (hs:∀ i x H' (Q':VK),xs[i]?=some x→Same H H'→(∀ y H5,Same H' H5→R i y H5→Q' y H5)→te (some x::slots σ js) H' Q')
    (hd:∀ D ys H',H D=none→H' D=some (.lst ys)→Same H H'→ys.length=xs.length→(∀ (i:Nat) (y:V),ys[i]?=some y→R i y H')→Q (.ref D) H'):CompB (Itt K a) σ js tYes te H Q :=
  comp_mapT (fun i x=>xs[i]?=some x) R hR hz (fun i H' s hi=>⟨⟨xs,xs[i],hl.keep s,by simp [hi]⟩,fun x H3 y=>⟨y.1,y.2 xs (hl.keep s)⟩⟩) (fun H' s=>⟨xs,hl.keep s,Nat.le_refl _⟩)
    (fun i x H' Q' hx _ s k=>hs i x H' Q' hx s k) hd
theorem comp_bools {K:PySem.W.Frag} {a:Addr} {xs:List V} {ds:List PyData} (p:PyData→Bool) (hz:ds.length≤100000) (hl:SqT K H a xs) (hr:RepKL K H ds xs)
    (hs:∀ x d H' (Q':VK),d∈ds→RepK K H' d x→Same H H'→(∀ H5,Same H' H5→Q' (.bl (p d)) H5)→te (some x::slots σ js) H' Q')
    (hd:∀ D H',H D=none→H' D=some (.lst ((ds.map p).map V.bl))→Same H H'→Q (.ref D) H'):CompB (Itt K a) σ js tYes te H Q:=by
  have ll:=hr.len
  refine comp_mapUK (fun i y _=>∃ d,ds[i]?=some d∧y=.bl (p d)) (fun i y H1 H2 s h=>h) (by omega) hl (fun i x H' Q' hx s' k'=>?_) (fun D ys H8 hD hD8 s8 hy8 hr8=>?_)
  · obtain ⟨d,e,r⟩:=hr.at hx
    exact hs x d H' Q' (List.mem_of_getElem? e) (r.keep s') s' fun H5 s5=>k' _ H5 s5 ⟨d,e,rfl⟩
  · have:ys=(ds.map p).map V.bl:=by
      apply List.ext_getElem?
      intro i
      rw [List.getElem?_map,List.getElem?_map]
      cases q:ys[i]? with
      | none =>
        have:ys.length≤i:=List.getElem?_eq_none_iff.mp q
        rw [List.getElem?_eq_none (by omega)]; rfl
      | some y =>
        obtain ⟨d,h1,h2⟩:=hr8 i y q
        rw [h1,h2]; rfl
    rw [this] at hD8
    exact hd D H8 hD hD8 s8
end
end L2
set_option Elab.async false
set_option linter.all false
set_option maxRecDepth 100000
namespace L2
open PySem PySem.Spec PyProof.Rows
theorem eqV_int (a b:Int):eqV (.int a) (.int b)=decide (a=b):=by
  show (a == b)=_
  by_cases h:a=b
  · subst h; simp
  · simp [h]
section
variable {X:Cx}
end
end L2
set_option Elab.async false
set_option linter.all false
set_option maxRecDepth 100000
namespace L2
open PySem PySem.Spec PySem.W PyProof.Rows HT
theorem tix_loop {M:Model} {A:Around} {E:Value→Shared→Prop} {s:Shared} {items:Array Value} {x:Value} {b:Nat→Bool} {j:Nat} {Q:Option PySem.Fin × Unit→Shared→Prop} (hj:j<items.size) (hit:b j=true) (hno:∀ m,m<j→b m=false)
    (he:∀ m y,items[m]?=some y→∀ (Q:Bool→Shared→Prop),Q (b m) s→wpAny M A (eqBool y x) Q E s) (q:Q (some (.done (.ret (.int (j:Int) s.toks))),()) { s with toks:=s.toks+1 }) :
    ∀ (n lo : Nat), lo + n = items.size → lo ≤ j → wpAny M A (forIn (List.range' lo n 1) (none, ()) fun (i : Nat) (__s : Option PySem.Fin × Unit) => (match items[i]? with
                    | some y=>do
                      let __do_lift ← eqBool y x
                      if __do_lift=true then do
                          let __do_lift ← retInt (i:Int)
                          pure (ForInStep.done (some __do_lift,()))
                        else pure (ForInStep.yield (none,()))
                    | x=>pure (ForInStep.yield (none,())))) Q E s
  | 0,lo,h,hl=>by omega
  | n+1,lo,h,hl=>by
    rw [List.range'_succ,List.forIn_cons]
    have e:items[lo]?=some items[lo]:=Array.getElem?_eq_getElem (by omega)
    refine wpAny_bind ?_
    rw [e]
    refine wpAny_bind (he lo _ e _ ?_)
    by_cases z:lo=j
    · subst z
      rw [hit,if_pos rfl]
      refine wpAny_bind ?_
      unfold retInt
      refine wpAny_bind (wpAny_mkInt ?_)
      exact wpAny_pure (wpAny_pure (wpAny_pure q))
    · rw [hno lo (by omega),if_neg (by decide)]
      exact wpAny_pure (tix_loop hj hit hno he q n (lo+1) (by omega) (by omega))
theorem tuple_ixAt (l:Addr) (items:Array Value) (n:Nat) (dd:Option Addr) (sl:Array (Option Value)) (x:Value) (b:Nat→Bool) (j:Nat) (hj:j<items.size) (hit:b j=true) (hno:∀ m,m<j→b m=false) :
    Meets (Builtin.«tuple.index» ⟨[.ref l,x],[]⟩) fun A R s=>s.heap.get? l=some { cls:=.type "tuple",dict:=dd,data:=.seq items n,slots:=sl }∧(∀ m y,items[m]?=some y→SeqAt.EqAt A.in1 s y x (b m))∧R (.ok (.ret (.int (j:Int) s.toks))) { s with toks:=s.toks+1 }:=by
  intro prog w A R s ⟨h1,h2,h3⟩
  unfold Builtin.«tuple.index»
  refine wpAny_bind (m:=selfAndSome _ _ _ _ _) (wpAny_pure ?_)
  refine wpAny_bind (wpAny_tupleItemsOf h1 rfl ?_)
  refine wpAny_bind (wpAny_pure ?_)
  refine wpAny_bind (wpAny_pure ?_)
  refine wpAny_bind ?_
  rw [Std.Legacy.Range.forIn_eq_forIn_range']
  have e:(Std.Legacy.Range.size [0:min items.size items.size])=items.size:=by simp [Std.Legacy.Range.size]
  rw [e]
  refine tix_loop hj hit hno (fun m y hy Q q=>h2 m y hy prog w _ Q q) ?_ items.size 0 (by omega) (by omega)
  exact wpAny_pure h3
section
variable {X:Cx}
end
theorem perm_eq:∀ {l m:List Int},l.Perm m→l.Pairwise (· ≤ ·)→m.Pairwise (· ≤ ·)→l=m
  | [],m,h,_,_=>(List.Perm.nil_eq h)
  | a::l,[],h,_,_=>by have:=h.length_eq; simp at this
  | a::l,b::m,h,h1,h2=>by
    obtain ⟨a1,a2⟩:=List.pairwise_cons.mp h1
    obtain ⟨b1,b2⟩:=List.pairwise_cons.mp h2
    have e:a=b:=by
      have q1:=h.mem_iff (a:=a)
      have q2:=h.mem_iff (a:=b)
      rcases List.mem_cons.mp (q1.mp (List.mem_cons_self ..)) with r | r
      · exact r
      · rcases List.mem_cons.mp (q2.mpr (List.mem_cons_self ..)) with t | t
        · exact t.symm
        · have:=a1 b t
          have:=b1 a r
          omega
    subst e
    rw [perm_eq ((List.perm_cons a).mp h) a2 b2]
end L2
set_option Elab.async false
set_option linter.all false
set_option maxRecDepth 100000
namespace L2
open PySem PySem.Spec PyProof.Rows
section
variable {prog:Program} {w:World} {A:Around} {E:Value→Shared→Prop} {s:Shared}
theorem collect_tup {l:Addr} {vs:List Value} {Q:List Value→Shared→Prop} (hl:IsTup s.heap l vs.toArray)
    (h:Q vs { s with heap:=(s.heap.push (seqObj "list" #[] 0)).update s.heap.objs.size (Obj.mapSeq (· ++ vs.toArray)) }) (hsz:vs.length≤sizeLine) :
    wpAny (model prog w) A (collect (.ref l)) Q E s:=by
  obtain ⟨o,ho,hc,n,hd⟩:=id hl
  unfold collect
  refine wpAny_bind (wpAny_runValue (codeAny_builtin entry_proto_collect' ?_))
  show wpAny _ _ (do again (.builtin "list.__iadd__" ⟨[← newList [],.ref l],[]⟩)) _ _ s
  refine wpAny_bind (wpAny_newList (wpAny_pure ⟨Code.quiet_builtin _ (by decide +kernel),codeAny_builtin entry_list_iadd' ?_⟩))
  show wpAny _ _ (Builtin.List.listExtendWith (.ref s.heap.objs.size) (.ref l) (.ref s.heap.objs.size)) _ _ { s with heap:=s.heap.push (seqObj "list" #[] 0) }
  unfold Builtin.List.listExtendWith
  have ho':(s.heap.push (seqObj "list" #[] 0)).get? l=some o:=Heap.get?_push_of_some _ ho
  refine wpAny_bind (wpAny_typeOf (T := "tuple") ⟨o,ho',hc⟩ ?_)
  have ht:(Value.type "tuple" == Value.type "tuple")=true:=by rfl
  rw [if_pos (by rw [ht]; simp)]
  refine wpAny_bind (listItems_at ho' hd ?_)
  refine wpAny_bind (listItems_at (xs:=#[]) (n:=0) (Heap.get?_push_size _ rfl) rfl ?_)
  rw [if_neg (by simp)]
  refine wpAny_bind (listUpdate_at (xs:=#[]) (n:=0) (Heap.get?_push_size _ rfl) rfl ?_ (Nat.zero_le _) (by show (#[]++vs.toArray).size≤sizeLine+1; simp only [Array.size_append,List.size_toArray,List.length_nil]; omega))
  refine wpAny_pure ?_
  show wpAny (model prog w) A (do
      let o ← load s.heap.objs.size
      match o.data with
      | .seq xs _=>pure xs.toList
      | _=>unsupported "internal:collect") Q E { s with heap:=(s.heap.push (seqObj "list" #[] 0)).update s.heap.objs.size (Obj.mapSeq (· ++ vs.toArray)) }
  refine wpAny_bind (wpAny_load (get?_update_seq (Heap.get?_push_size _ rfl) _) ?_)
  show wpAny _ _ (pure ((#[]:Array Value)++vs.toArray).toList) Q E _
  rw [show ((#[]:Array Value)++vs.toArray).toList=vs by simp]
  exact wpAny_pure h
theorem sorted_intsT {l:Addr} {vs:List Value} {ns:List Int} {Q:Value→Shared→Prop} (hl:IsTup s.heap l vs.toArray) (hI:IntsAre vs ns) (h64:vs.length<64)
    (h:∀ (out:Array Value) (ns':List Int),IntsAre out.toList ns'→ns'.Perm ns→ns'.Pairwise (· ≤ ·)→Q (.ref (s.heap.objs.size+1)) { s with heap:=sortedAll s.heap vs out }) :
    wpAny (model prog w) A (call (.builtin "sorted") [.ref l]) Q E s:=by
  refine Calls.call_function_entry kind_sorted plain_sorted entry_sorted (args_sorted1 _) ?_
  unfold Builtin.«sorted»
  refine wpAny_bind (m:=checkCount "sorted" 1 1 _) (wpAny_pure ?_)
  refine wpAny_bind (collect_tup hl ?_ (by rw [sizeLine_eq]; omega))
  refine wpAny_bind (wpAny_newList ?_)
  have hsz:((s.heap.push (seqObj "list" #[] 0)).update s.heap.objs.size (Obj.mapSeq (· ++ vs.toArray))).objs.size=s.heap.objs.size+1:=by
    rw [Heap.size_update,size_push']
  have hoL:(((s.heap.push (seqObj "list" #[] 0)).update s.heap.objs.size (Obj.mapSeq (· ++ vs.toArray))).push (seqObj "list" vs.toArray 0)).get? (s.heap.objs.size+1)=some (seqObj "list" vs.toArray 0):=by
    rw [← hsz]; exact Heap.get?_push_size _ rfl
  show wpAny _ _ _ _ _ { s with heap:=((s.heap.push (seqObj "list" #[] 0)).update s.heap.objs.size (Obj.mapSeq (· ++ vs.toArray))).push (seqObj "list" vs.toArray 0) }
  rw [hsz]
  refine wpAny_bind (wpAny_holding (wpAny_call_entry slot_list_sort ⟨_,hoL,rfl⟩ entry_list_sort (list_sort_tree hoL hI h64 fun out ns' a1 a2 a3=>⟨_,rfl,?_⟩) (args_list_sort _)))
  exact wpAny_pure ⟨_,rfl,h out ns' a1 a2 a3⟩
end
@[irreducible] def rSrtT (K:PySem.W.Frag):List V→Hp→VK→Prop:=fun xs H Q=>∃ (p:Addr) (ns:List Int),xs=[.ref p]∧H p=some (.tup (ns.map V.int))∧ns.length<64∧∀ (D:Addr) (ns':List Int) (H':Hp),ns'.Perm ns→ns'.Pairwise (· ≤ ·)→H D=none→H' D=some (.lst (ns'.map V.int))→Same H H'→Q (.ref D) H'
theorem rsrtT {K:PySem.W.Frag} {p:Addr} {ns:List Int} {H:Hp} {Q:VK} (h:H p=some (.tup (ns.map V.int))) (hz:ns.length<64) (q:∀ (D:Addr) (ns':List Int) (H':Hp),ns'.Perm ns→ns'.Pairwise (· ≤ ·)→H D=none→H' D=some (.lst (ns'.map V.int))→Same H H'→Q (.ref D) H'):rSrtT K [.ref p] H Q:=by
  unfold rSrtT; exact ⟨p,ns,rfl,h,hz,q⟩
theorem cl_srtT {X:Cx} (K:PySem.W.Frag) (hK:X.K=K:=by rfl):CallR X (.builtin "sorted") (rSrtT K):=by
  subst hK
  unfold rSrtT
  intro pins s σ H xs us Q I r h
  obtain ⟨l,ns,rfl,hq,hz,q⟩:=h
  obtain ⟨u,rfl,rx⟩:=vals1 r
  cases rx
  obtain ⟨its,r',pl,hz'⟩:=I.tuple (SqT.of hq)
  have hlen:=r'.length
  rw [List.length_map] at hlen
  refine sorted_intsT pl (intsAre_of r') (by omega) fun out ns' a1 a2 a3=>?_
  obtain ⟨e,he⟩:=sortedAll_at s.heap its out
  have hn:=I.hok.fresh (a:=s.heap.objs.size+1) (by omega)
  have hl2:ns'.length=ns.length:=a2.length_eq
  refine ⟨.ref _,upd H (s.heap.objs.size+1) (.lst (ns'.map V.int)),I.laid (t':=s.toks) (fun _ _=>sortedAll_old) (by omega) ⟨by rw [List.length_map]; exact Nat.le_trans (show ns'.length≤64 by omega) (by decide),_,e,valsInts a1,?_⟩,rfl,q _ ns' _ a2 a3 hn upd_same (Same.upd hn)⟩
  rw [Array.toArray_toList]
  exact he
end L2
set_option Elab.async false
set_option linter.all false
set_option maxRecDepth 100000
namespace L2
open PySem PySem.Spec PyProof.Rows
@[irreducible] def rLr (vs:List V) (H:Hp) (Q:VK):Prop:=∃ n:Nat,vs=[.int (n:Int)]∧n≤100000∧∀ l,H l=none→Q (.ref l) (upd H l (.lst ((List.range n).map fun (i:Nat)=>V.int (i:Int))))
theorem rlr {n:Nat} {H:Hp} {Q:VK} (hn:n≤100000) (q:∀ l H',H l=none→H' l=some (.lst ((List.range n).map fun (i:Nat)=>V.int (i:Int)))→Same H H'→Q (.ref l) H'):rLr [.int (n:Int)] H Q:=by
  unfold rLr; exact ⟨n,rfl,hn,fun l hl=>q l _ hl upd_same (Same.upd hl)⟩
def tLr (ta:TA):TE:=fun σ H Q=>ta σ H fun vs H1=>rLr vs H1 Q
theorem boot_listL:bootBuiltins (Str.ofString "list")=some (Value.type "list"):=by decide +kernel
theorem boot_rangeL:bootBuiltins (Str.ofString "range")=some (Value.type "range"):=by decide +kernel
theorem vals_range {n:Nat} {acc:Array Value} (h:ItemsOf (fun i v=>∃ t,v=.int (0+(i:Nat)*1) t) acc n):Vals ((List.range n).map fun (i:Nat)=>V.int (i:Int)) acc.toList:=by
  obtain ⟨h1,h2⟩:=h
  have key:∀ (m:Nat) (l:List Value) (k:Nat),l.length=m→(∀ i,(hi:i<l.length)→∃ t,l[i]=.int ((k+i:Nat):Int) t)→Vals ((List.range m).map fun (i:Nat)=>V.int ((k+i:Nat):Int)) l:=by
    intro m
    induction m with
    | zero=>intro l k hl _; cases l with
      | nil=>exact .nil
      | cons=>cases hl
    | succ m ih =>
      intro l k hl hh
      cases l with
      | nil=>cases hl
      | cons a l =>
        rw [List.range_succ_eq_map,List.map_cons,List.map_map]
        obtain ⟨t,ht⟩:=hh 0 (by simp)
        refine .cons ⟨t,ht⟩ ?_
        have:=ih l (k+1) (by simpa using hl) fun i hi=>by
          obtain ⟨t,ht⟩:=hh (i+1) (by simpa using hi)
          refine ⟨t,?_⟩
          have e:k+(i+1)=k+1+i:=by omega
          rw [e] at ht
          simpa using ht
        have e:(fun (i:Nat)=>V.int ((k+i:Nat):Int)) ∘ Nat.succ=fun (i:Nat)=>V.int ((k+1+i:Nat):Int):=by
          funext i
          show V.int ((k+(i+1):Nat):Int)=_
          rw [show k+(i+1)=k+1+i by omega]
        rw [e]; exact this
  have r:=key n acc.toList 0 (by simpa using h1) fun i hi=>by
    have hi':i<acc.size:=by simpa using hi
    obtain ⟨t,ht⟩:=h2 i acc[i] (by simp [hi'])
    exact ⟨t,by rw [Array.getElem_toList,ht,Nat.zero_add,Int.zero_add,Int.mul_one]⟩
  simpa using r
section
variable {X:Cx} {a:Expr} {ta:TA} {p1 np p2 pos:Pos}
theorem we_lrng (hc:X.calm=true) (hg1:Gl X "list") (hm1:X.mg "list" = none) (hg:Gl X "range") (hm:X.mg "range" = none) (ha:PAw X [a] ta) (hs:starEach [a] X.env=[(false,eval a X.env)]:=by first | exact se_Name | exact se_Call | exact se_Subscript | rfl) :
    PEw X (.Call (.Name "list" p1) [.Call (.Name "range" np) [a] [] p2] [] pos) (tLr ta):=⟨by
  intro pins s σ H Q I h
  have hst:starEach [.Call (.Name "range" np) [a] [] p2] X.env=[(false,eval (.Call (.Name "range" np) [a] [] p2) X.env)]:=se_Call
  refine Call_ (ld_blt I hg1 hm1 boot_listL (PyProof.Rows.callWith_type1 ?_ (by rw [hst]; rfl) rfl))
  rw [hst]
  refine Calls.spliced_cons ?_
  refine Call_ (ld_blt I hg hm boot_rangeL (PyProof.Rows.callWith_type1 (thn (ha.p p2 pins s σ H _ I h) fun us s1 ⟨vs,H1,I1,r1,q1⟩=>?_) (by rw [hs]; rfl) rfl))
  unfold rLr at q1
  obtain ⟨n,rfl,hn,q⟩:=q1
  obtain ⟨u,rfl,ru⟩:=vals1 r1
  obtain ⟨t,rfl⟩:=ru
  refine call_range_1 ?_
  have I2:Inv X pins σ H1 { s1 with heap:=s1.heap.push { cls:=.type "range",data:=.fields #[.int 0 s1.toks,.int (n:Int) t,.int 1 (s1.toks+1)] },toks:=s1.toks+1+1 }:=I1.kept fun b o e=>Heap.get?_push_of_some _ e
  refine wpAny_pure ?_
  refine call_list_range (n:=n) (I2.ok.hd hc) (IsRange.new ..) (small_one (by decide) (by decide) (by omega) (by omega)) (by rw [rangeSize_one]; split <;> omega) (by omega) fun h' tk acc c' kp e it=>?_
  have vr:=vals_range it
  have hz:((List.range n).map fun (i:Nat)=>V.int (i:Int)).length≤sizeLine:=by rw [List.length_map,List.length_range]; exact Nat.le_trans hn (by decide)
  exact ⟨.ref _,_,I2.laid (t':=tk) kp (Nat.le_refl _) (show ObjOk X.prog X.w _ h' _ (.lst _) from ⟨hz,acc.toList,c',vr,e⟩),rfl,q _ (I2.hok.fresh (Nat.le_refl _))⟩⟩
end
end L2
set_option Elab.async false
set_option linter.all false
set_option maxRecDepth 100000
namespace L2
open PySem PySem.Spec PySem.W PyProof.Rows HT
@[irreducible] def rIdxTI:V→List V→Hp→VK→Prop:=fun x vs H Q=>∃ (l:Addr) (ns:List Int) (m:Int) (j:Nat),x=.ref l∧vs=[.int m]∧H l=some (.tup (ns.map V.int))∧ns[j]?=some m∧(∀ i,i<j→ns[i]? ≠ some m)∧Q (.int (j:Int)) H
theorem idxTI {H:Hp} {l:Addr} {ns:List Int} {m:Int} {j:Nat} {Q:VK} (h:H l=some (.tup (ns.map V.int))) (h1:ns[j]?=some m) (h2:∀ i,i<j→ns[i]? ≠ some m) (q:Q (.int (j:Int)) H):rIdxTI (.ref l) [.int m] H Q:=by
  unfold rIdxTI; exact ⟨l,ns,m,j,rfl,rfl,h,h1,h2,q⟩
section
variable {X:Cx}
theorem mt_idxTI (hu:X.A.units+64<cLine):MtR X "tuple.index" rIdxTI:=by
  unfold rIdxTI
  intro pins s σ H x vs v us Q I rx rv h
  obtain ⟨l,ns,m0,j,rfl,rfl,hH,h1,h2,q⟩:=h
  cases rx
  obtain ⟨u,rfl,ru⟩:=vals1 rv
  have ry:RepK X.K H (.int m0) (.int m0):=by unfold RepK; rfl
  obtain ⟨as,ra⟩:=ry.reads I ru
  obtain ⟨its,r',p,_⟩:=I.tuple (SqT.of hH)
  obtain ⟨⟨cls,dd,data,sl⟩,e,hcl,n,hdd⟩:=id p
  simp only at hcl hdd
  subst hcl hdd
  have hl:=r'.length
  rw [List.length_map] at hl
  have lj:j<ns.length:=(List.getElem?_eq_some_iff.mp h1).1
  refine call_meets F.slot_tuple_index ⟨_,e,rfl⟩ F.entry_tuple_index (F.args_tuple_index_2 _ _) (tuple_ixAt l its.toArray n _ _ u (fun m=>decide (ns[m]?=some m0)) j (by rw [List.size_toArray]; omega) (decide_eq_true h1) fun m hm=>decide_eq_false (h2 m hm)) ⟨e,fun m w hw=>?_,?_⟩
  · have hw':its[m]?=some w:=by simpa using hw
    have lm:=(List.getElem?_eq_some_iff.mp hw').1
    obtain ⟨v',hv',rv'⟩:∃ v',(ns.map V.int)[m]?=some v'∧RelV v' w:=by
      obtain ⟨u',hu',ru'⟩:=r'.get (i:=m) (x:=(ns.map V.int)[m]'(by rw [List.length_map]; omega)) (List.getElem?_eq_getElem (by rw [List.length_map]; omega))
      rw [hw'] at hu'
      cases hu'
      exact ⟨_,List.getElem?_eq_getElem (by rw [List.length_map]; omega),ru'⟩
    rw [List.getElem?_map] at hv'
    obtain ⟨a,ha,rfl⟩:=Option.map_eq_some_iff.mp hv'
    have rd:RepK X.K H (.int a) (.int a):=by unfold RepK; rfl
    obtain ⟨bs,rb⟩:=rd.reads I rv'
    have e2:decide (ns[m]?=some m0)=PyData.eqv (.int a) (.int m0):=by
      rw [ha]
      simp only [PyData.eqv,Option.some.injEq]
      exact (eqV_int a m0).symm.trans rfl
    rw [e2]
    refine SeqAt.eqAt_reads (.int a) (.int m0) _ s _ _ bs as rb ra rfl rfl ?_
    have h1:(PyData.int a).depth≤2:=by simp [PyData.depth]
    have:X.A.in1.units≤X.A.units+1:=by
      first
        | exact Nat.le_refl _
        | (unfold Around.in1; simp)
    omega
  · exact ⟨.int _,H,I.tok _,⟨_,rfl⟩,q⟩
end
structure GoodFn (P:Program) (w:World) (K:PySem.W.Frag) (mg:Str→Option Value) (base:Heap) (k:Nat) (f:Addr) (sp:Sp):Prop where
  ex:∃ (j:Nat) (fd:FuncData) (ps:List Str),FnOk P w K mg base (CX1 P w) j f fd ps sp∧PySem.W.keepIn K (.ref f)=true∧Binds K fd ps []∧j≤k
theorem GoodFn.of {P:Program} {w:World} {K:PySem.W.Frag} {mg:Str→Option Value} {base:Heap} {j k:Nat} {x:Str} {ps:List Str} {sp:Sp} {f:Addr} (F:FnC (CX1 P w) P w K mg base j x ps sp) (hm:mg x=some (.ref f)) (hr:j≤k):GoodFn P w K mg base k f sp:=by
  obtain ⟨f',fd,h1,h2,h3,h4⟩:=F.ex
  rw [hm] at h2
  cases h2
  exact ⟨j,fd,ps,h1,h3,h4,hr⟩
def tCallV (P:Program) (w:World) (K:PySem.W.Frag) (mg:Str→Option Value) (base:Heap) (k:Nat) (Ex:St→XK) (tf:TE) (t:TA):TE:=fun σ H Q=>tf σ H fun v H1=>∃ f sp,v=.ref f∧GoodFn P w K mg base k f sp∧t σ H1 fun vs H2=>sp vs H2 Q (Ex σ)
section
variable {X:Cx}
theorem we_itmX (P:Program) (w:World) (K:PySem.W.Frag) (mg:Str→Option Value) (base:Heap) {k:Nat} {Ex:St→XK} {pos:Pos} {fe e:Expr} {es:List Expr} {tf:TE} {t:TA} (hr:Room k X.A) (hx:XPass X Ex) (hf:PEw X fe tf) (ha:PAw X (e::es) t)
    (hev:eval (.Call fe (e::es) [] pos) X.env=(do callWith pos (← eval fe X.env) [] (backTo pos (starEach (e::es) X.env)) (backToKw pos (keywordEach [] X.env))):=by rfl)
    (hP:X.prog=P:=by rfl) (hw:X.w=w:=by rfl) (hK:X.K=K:=by rfl) (hmg:X.mg=mg:=by rfl) (hbs:X.base=base:=by rfl)
    (he:starEach (e::es) X.env=(false,eval e X.env)::starEach es X.env:=by first | exact se_Name | exact se_Constant | exact se_BoolOp | exact se_BinOp | exact se_UnaryOp | exact se_IfExp | exact se_Dict | exact se_ListComp | exact se_Compare | exact se_Call | exact se_Attribute | exact se_Subscript | exact se_List | exact se_Tuple | exact se_JoinedStr | exact se_GeneratorExp)
    (hpl:(backTo pos (starEach es X.env)).any (·.1)=false:=by repeat (first | exact ap_nil | refine ap_cons (by first | exact se_Name | exact se_Constant | exact se_BoolOp | exact se_BinOp | exact se_UnaryOp | exact se_IfExp | exact se_Dict | exact se_ListComp | exact se_Compare | exact se_Call | exact se_Attribute | exact se_Subscript | exact se_List | exact se_Tuple | exact se_JoinedStr | exact se_GeneratorExp) ?_)) :
    PEw X (.Call fe (e::es) [] pos) (tCallV P w K mg base k Ex tf t):=⟨by
  subst hP hw hK hmg hbs
  intro pins s σ H Q I h
  rw [hev]
  refine wpAny_bind (thn (hf.p pins s σ H _ I h) fun u s1 ⟨v,H1,I1,rv,q⟩=>?_)
  obtain ⟨f,sp,rfl,G,q⟩:=q
  cases (show u=Value.ref f from rv)
  obtain ⟨j,fd,ps,h1,h3,h4,hj⟩:=G.ex
  refine PySem.W.callWith_K (h₀:=X.base) I1.ok.mod.kin h3 (thn (ha.p pos pins s1 σ H1 _ I1 q) fun us s2 ⟨vs,H2,I2,r,q2⟩=>⟨I2.kIn,?_⟩) he hpl
  exact run_fnX h1 (hr.mono hj) h4 hx I2 r q2⟩
end
theorem Fun.okxL {P:Program} {w:World} {K:PySem.W.Frag} {mg:Str→Option Value} {base:Heap} {x qual:Str} {st:Stmt} {f cA:Addr} {fd:FuncData} {N ps:List Str} {k:Nat} {sp:Sp} (F:Fun K x qual st f fd) (hc:fd.code=.ref cA) (S:FnScope N ps (defScope st)) (len:∀ vs H Q E,sp vs H Q E→vs.length=ps.length)
    (hbody:∀ (A:Around) (outer:List Env) (s:Shared) (H:Hp) (vs:List V) (Q:VK) (E:XK),Room k (A.deeper (envOfC qual (defScope st) s.heap.objs.size f (.ref cA)))→sp vs H Q E →
      XPass (cxOf (CX1 P w) P w K mg base N qual (defScope st) f (.ref cA) A outer s H E) (fun _=>E)→XMade (cxOf (CX1 P w) P w K mg base N qual (defScope st) f (.ref cA) A outer s H E) (fun _=>E) →
      ∃ t,PSsw (cxOf (CX1 P w) P w K mg base N qual (defScope st) f (.ref cA) A outer s H E) (defBody st) t∧t { nx:=fun _ H'=>Q .non H',rt:=Q } (start N vs) H):FnOk P w K mg base (CX1 P w) (k+1) f fd ps sp:=by
  obtain ⟨oc,od,kV,doc,pm,an,cdv,ct,osl,rfl,lk,hcd⟩:=F.ex
  obtain rfl:cdv=.ref cA:=hc
  refine fn_of lk hcd S len fun A outer s H vs Q E hr hsp=>?_
  obtain ⟨t,h,q⟩:=hbody A outer s H vs Q E hr hsp xpass_fn xmade_fn
  exact ⟨t,h.p,q⟩
end L2
set_option Elab.async false
set_option linter.all false
set_option maxRecDepth 100000
namespace L2
open PySem PySem.Spec PyProof.Rows
end L2
set_option Elab.async false
set_option linter.all false
set_option maxRecDepth 100000
namespace L2
open PySem PySem.Spec PyProof.Rows
section
variable {X:Cx} {x:Str} {np hpos pos:Pos} {b₀:Stmt} {body suite:List Stmt} {C2:Addr} {tb:(St→XK)→TS} {th:TS}
end
end L2
set_option Elab.async false
set_option linter.all false
set_option maxRecDepth 100000
namespace Kw
open PySem L2 Mf
def top (i:Nat):Stmt:=PySem.Challenge.pw_earlystop_k27_turned.main.body.getD i (.Pass ⟨0,0,0,0⟩)
structure Cl where
  NoOrder:Addr
  NoBack:Addr
  NoBounds:Addr
  NoFraction:Addr
  NoLines:Addr
  NoLook:Addr
  NoPaper:Addr
  NoRow:Addr
  NoRule:Addr
  NoTrial:Addr
  ways_turned:Addr
  faces_turned:Addr
  rule_ways_turned:Addr
  rule_faces_turned:Addr
structure Txt (K:PySem.W.Frag) (mg:Str→Option Value) (c:Cl):Prop where
  b_list:mg "list" = none
  b_len:mg "len" = none
  b_abs:mg "abs" = none
  b_repr:mg "repr" = none
  b_range:mg "range" = none
  b_sum:mg "sum" = none
  b_max:mg "max" = none
  b_int:mg "int" = none
  b_bool:mg "bool" = none
  b_sorted:mg "sorted" = none
  b_isinstance:mg "isinstance" = none
  b_all:mg "all" = none
  b_tuple:mg "tuple" = none
  b_ValueError:mg "ValueError" = none
  g_NoOrder:mg "NoOrder" = some (.ref c.NoOrder)
  g_NoBack:mg "NoBack" = some (.ref c.NoBack)
  g_NoBounds:mg "NoBounds" = some (.ref c.NoBounds)
  g_NoFraction:mg "NoFraction" = some (.ref c.NoFraction)
  g_NoLines:mg "NoLines" = some (.ref c.NoLines)
  g_NoLook:mg "NoLook" = some (.ref c.NoLook)
  g_NoPaper:mg "NoPaper" = some (.ref c.NoPaper)
  g_NoRow:mg "NoRow" = some (.ref c.NoRow)
  g_NoRule:mg "NoRule" = some (.ref c.NoRule)
  g_NoTrial:mg "NoTrial" = some (.ref c.NoTrial)
  g_ways_turned:mg "ways_turned" = some (.ref c.ways_turned)
  g_faces_turned:mg "faces_turned" = some (.ref c.faces_turned)
  g_rule_ways_turned:mg "rule_ways_turned" = some (.ref c.rule_ways_turned)
  g_rule_faces_turned:mg "rule_faces_turned" = some (.ref c.rule_faces_turned)
  x_NoOrder:PySem.W.excIn K c.NoOrder mroVE "ValueError.__new__" = true
  e_NoOrder:ExcCls K c.NoOrder
  c_NoOrder:Catch K c.NoOrder
  s1:PySem.W.subIn K (.ref c.NoOrder) (.ref c.NoOrder)=some true
  k1:PySem.W.kitAny K (.ref c.NoOrder) [.ref c.NoBack,.ref c.NoBounds,.ref c.NoFraction,.ref c.NoLines,.ref c.NoLook]=some false
  k2:PySem.W.kitAny K (.ref c.NoOrder) [.ref c.NoPaper,.ref c.NoRow,.ref c.NoRule,.ref c.NoTrial]=some false
  k3:PySem.W.kitOne K (.ref c.NoOrder) (.type "ValueError")=some true
abbrev s__law_tape:Stmt:=(top 32)
theorem sc__law_tape:FnScope ["_law_script", "_law_at", "_law_cell"] ["_law_script", "_law_at"] (defScope s__law_tape):=⟨rfl,rfl,rfl,by decide +kernel,rfl,by decide +kernel,by decide +kernel⟩
abbrev s__law_pick:Stmt:=(top 33)
theorem sc__law_pick:FnScope ["_law_tape_here", "_law_many", "_law_turn", "_law_found", "_law_stirred"] ["_law_tape_here", "_law_many"] (defScope s__law_pick):=⟨rfl,rfl,rfl,by decide +kernel,rfl,by decide +kernel,by decide +kernel⟩
abbrev s__law_frac:Stmt:=(top 34)
theorem sc__law_frac:FnScope ["_law_n", "_law_d", "_law_one", "_law_other"] ["_law_n", "_law_d"] (defScope s__law_frac):=⟨rfl,rfl,rfl,by decide +kernel,rfl,by decide +kernel,by decide +kernel⟩
abbrev s__law_shares:Stmt:=(top 35)
theorem sc__law_shares:FnScope ["_law_tape_here", "_law_many", "_law_parts"] ["_law_tape_here", "_law_many"] (defScope s__law_shares):=⟨rfl,rfl,rfl,by decide +kernel,rfl,by decide +kernel,by decide +kernel⟩
abbrev s__law_says:Stmt:=(top 37)
theorem sc__law_says:FnScope ["_law_tape_here", "_law_ways", "_law_stops", "_law_plain", "_law_place"] ["_law_tape_here", "_law_ways", "_law_stops", "_law_plain"] (defScope s__law_says):=⟨rfl,rfl,rfl,by decide +kernel,rfl,by decide +kernel,by decide +kernel⟩
abbrev s__law_next:Stmt:=(top 38)
theorem sc__law_next:FnScope ["_law_counts", "_law_says_here"] ["_law_counts", "_law_says_here"] (defScope s__law_next):=⟨rfl,rfl,rfl,by decide +kernel,rfl,by decide +kernel,by decide +kernel⟩
abbrev s__law_rule:Stmt:=(top 39)
theorem sc__law_rule:FnScope ["_law_tape_here", "_law_faces", "_law_ways", "_law_most", "_law_plain", "_law_found", "_law_level", "_law_later", "_law_counts", "_law_says_here"] ["_law_tape_here", "_law_faces", "_law_ways", "_law_most", "_law_plain"] (defScope s__law_rule):=⟨rfl,rfl,rfl,by decide +kernel,rfl,by decide +kernel,by decide +kernel⟩
abbrev s__law_sizes:Stmt:=(top 40)
theorem sc__law_sizes:FnScope ["_law_tape_here", "_law_faces", "_law_most"] ["_law_tape_here"] (defScope s__law_sizes):=⟨rfl,rfl,rfl,by decide +kernel,rfl,by decide +kernel,by decide +kernel⟩
abbrev s_law:Stmt:=(top 48)
theorem sc_law:FnScope ["_law_script", "_law_k", "_law_tape_here", "_law_faces", "_law_ways", "_law_most", "_law_trial_here", "_law_rule_here", "_law_way", "_law_many", "_law_order_here", "_law_thing", "_law_back", "_law_found", "_law_due_here", "_law_bent_here", "_law_fixed"] ["_law_script"] (defScope s_law):=⟨rfl,rfl,rfl,by decide +kernel,rfl,by decide +kernel,by decide +kernel⟩
abbrev tpD (c l t:Int):List (Key × V):=[(.inr "cell",.int c),(.inr "left",.int l),(.inr "turn",.int t)]
structure TapeAt (H:Hp) (p:Addr) (n:Nat):Prop where
  ex:∃ c l t:Int,H p=some (.dK (tpD c l t))∧0≤l∧0≤t∧t+n≤1000000000000
theorem TapeAt.ne {H:Hp} {p q:Addr} {n:Nat} (F:TapeAt H p n) (hq:H q=none):q≠p:=fun e=>by
  subst e; obtain ⟨c,l,t,h,_⟩:=F.ex; rw [h] at hq; cases hq
theorem TapeAt.there {H:Hp} {p:Addr} {n:Nat} (F:TapeAt H p n):∃ o,H p=some o:=by obtain ⟨c,l,t,h,_⟩:=F.ex; exact ⟨_,h⟩
theorem TapeAt.neL {H:Hp} {p q:Addr} {n:Nat} {xs:List V} (F:TapeAt H p n) (hq:H q=some (.lst xs)):q≠p:=fun e=>by
  subst e; obtain ⟨c,l,t,h,_⟩:=F.ex; rw [h] at hq; cases hq
theorem TapeAt.neT {H:Hp} {p q:Addr} {n:Nat} {xs:List V} (F:TapeAt H p n) (hq:H q=some (.tup xs)):q≠p:=fun e=>by
  subst e; obtain ⟨c,l,t,h,_⟩:=F.ex; rw [h] at hq; cases hq
theorem TapeAt.same {H H':Hp} {p:Addr} {n:Nat} (F:TapeAt H p n) (s:Same H H'):TapeAt H' p n:=by
  obtain ⟨c,l,t,h,r⟩:=F.ex
  exact ⟨c,l,t,s _ _ h,r⟩
theorem TapeAt.but {H H':Hp} {p D:Addr} {n:Nat} (F:TapeAt H p n) (s:SameBut D H H') (n1:D≠p):TapeAt H' p n:=by
  obtain ⟨c,l,t,h,r⟩:=F.ex
  exact ⟨c,l,t,s.at (Ne.symm n1) h,r⟩
theorem TapeAt.less {H:Hp} {p:Addr} {n m:Nat} (F:TapeAt H p n) (h:m≤n):TapeAt H p m:=by
  obtain ⟨c,l,t,e,l0,t0,r⟩:=F.ex
  exact ⟨c,l,t,e,l0,t0,by omega⟩
theorem TapeAt.t {H H':Hp} {p:Addr} {n:Nat} (F:TapeAt H p n) (s:SameBut p H H'):SameT H H':=by
  obtain ⟨c,l,t,h,_⟩:=F.ex
  exact s.tD h
theorem TapeAt.like {p:Addr} {n:Nat} (f:Nat→Nat):TapeLike p (fun i H=>TapeAt H p (f i)) :=
  ⟨fun _ D H1 H2 n1 s F=>F.but s n1,fun _ H1 H2 s F=>F.same s,fun _ H' F=>by obtain ⟨c,l,t,h,_⟩:=F.ex; exact ⟨_,h⟩⟩
@[irreducible] def sp_tape (K:PySem.W.Frag):Sp:=fun vs H Q _=>∃ (a:Addr) (ns:List Int) (k:Int),vs=[.ref a,.int k]∧SqL K H a (ns.map V.int)∧ns.length≤63∧0≤k∧∀ p H',TapeAt H' p 1000000000000→Same H H'→H p=none→Q (.ref p) H'
theorem sp_tape_i {K:PySem.W.Frag} {H:Hp} {Q:VK} {E:XK} {a:Addr} {ns:List Int} {k:Int} (h:SqL K H a (ns.map V.int)) (hl:ns.length≤63) (hk:0≤k) (q:∀ p H',TapeAt H' p 1000000000000→Same H H'→H p=none→Q (.ref p) H'):sp_tape K [.ref a,.int k] H Q E:=by
  unfold sp_tape; exact ⟨a,ns,k,rfl,h,hl,hk,q⟩
@[irreducible] def sp_pick:Sp:=fun vs H Q _=>∃ (p:Addr) (n:Nat) (m:Int),vs=[.ref p,.int m]∧TapeAt H p (n+1)∧0<m∧bits m≤64∧∀ x H',0≤x→x<m→TapeAt H' p n→SameBut p H H'→Q (.int x) H'
theorem sp_pick_i {H:Hp} {Q:VK} {E:XK} {p:Addr} {n:Nat} {m:Int} (F:TapeAt H p (n+1)) (h:0<m) (hb:bits m≤64) (k:∀ x H',0≤x→x<m→TapeAt H' p n→SameBut p H H'→Q (.int x) H'):sp_pick [.ref p,.int m] H Q E:=by
  unfold sp_pick; exact ⟨p,n,m,rfl,F,h,hb,k⟩
theorem bitsle {i:Int} {n:Nat} (h:i.natAbs<2^n):bits i≤n:=PySem.intBits_le_iff.mpr h
theorem rlQ {K:PySem.W.Frag} {H:Hp} {p:Addr} {xs:List V} {Q:VK} (h:SqL K H p xs) (q:Q (.int xs.length) H):rLen K [V.ref p] H Q:=by unfold rLen; exact ⟨_,_,rfl,.inl ⟨xs,h,rfl⟩,q⟩
section
variable {P:Program} {w:World} {K:PySem.W.Frag} {mg:Str→Option Value} {base:Heap} {c:Cl}
theorem ok__law_tape {f:Addr} {fd:FuncData} (F:Fun K "_law_tape" "_law_tape" s__law_tape f fd) (T:Txt K mg c):FnOk P w K mg base CX0 1 f fd ["_law_script", "_law_at"] (sp_tape K):=by
  refine F.okw sc__law_tape (fun vs H Q E h=>?_) (fun cdv A outer s H vs Q E hr h=>?_)
  · unfold sp_tape at h
    obtain ⟨a,ns,i,rfl,_⟩:=h
    rfl
  · unfold sp_tape at h
    obtain ⟨a,ns,i,rfl,hS,hl,hi,k⟩:=h
    refine ⟨_,(wss_cons (ws_set (i:=2) sc__law_tape.nd rfl (Or.inl rfl) (we_v 1))
      (wss_cons (ws_cut (ws_if (wt_cmp op_gt (we_cB cl_len (by rfl) T.b_len (by decide +kernel) (wa_k (we_v 0) wa_nil)) we_int (nomark _)) (wss_one (ws_set (i:=2) sc__law_tape.nd rfl (Or.inl rfl) (we_op op_add (we_ix ix_seq (we_v 0) (we_op op_mod (we_v 1) (we_cB cl_len (by rfl) T.b_len (by decide +kernel) (wa_k (we_v 0) wa_nil))) (fun _ _=>rfl)) (we_op op_fdivB (we_v 1) (we_cB cl_len (by rfl) T.b_len (by decide +kernel) (wa_k (we_v 0) wa_nil)))))) wss_nil))
      (wss_one (ws_ret (we_disp (wpp_cons we_str (we_v 2) (wpp_cons we_str (we_cB (call_max2 rfl) (by rfl) T.b_max (by decide +kernel) (wa_k we_int (wa_k (we_op op_sub (we_v 2) (we_op op_pow we_int we_int)) wa_nil))) (wpp_cons we_str we_int wpp_nil)))))))),?_⟩
    refine ⟨_,rfl,?_⟩
    refine ⟨fun σ H3=>∃ c:Int,σ=[some (.ref a),some (.int i),some (.int c)]∧H3=H,?_,?_⟩
    · rintro σ H3 ⟨c,rfl,rfl⟩
      intro p hp
      refine ⟨_,rfl,?_⟩
      refine ⟨_,rfl,_,_,rfl,rfl,⟨by decide,by decide,by decide⟩,_,_,rfl,rfl,_,_,rfl,?_⟩
      refine ⟨upd_same,tpD c (if c - 10^18 > 0 then c - 10^18 else 0) 0,rfl,by show 3≤15; decide,?_⟩
      refine k p _ ⟨c,(if c - 10^18 > 0 then c - 10^18 else 0),0,?_,by split <;> omega,by decide,by decide⟩ ?_ hp
      · rw [upd_same]; rfl
      · intro b o h
        have nb:b≠p:=fun e=>by subst e; rw [hp] at h; cases h
        rw [L2.upd_ne nb,L2.upd_ne nb]; exact h
    · refine ⟨_,rfl,?_⟩
      refine rlQ hS ?_
      refine ⟨_,_,rfl,rfl,_,rfl,?_⟩
      rw [List.length_map]
      refine iteD (fun e1=>?_) (fun e1=>?_)
      · refine ⟨_,rfl,_,rfl,_,rfl,?_⟩
        refine rlQ hS ?_
        rw [List.length_map]
        refine ⟨_,_,rfl,rfl,e1,?_⟩
        have g0:=Int.emod_nonneg i (b:=(ns.length:Int)) (by omega)
        have g1:=Int.emod_lt_of_pos i e1
        have hj:∃ z,ns[(i % (ns.length:Int)).toNat]?=some z:=⟨_,List.getElem?_eq_getElem (by omega)⟩
        obtain ⟨z,hz⟩:=hj
        have hat:atI (ns.map V.int) (i % (ns.length:Int))=some (.int z):=by
          have:=atI_nat (xs:=ns.map V.int) (j:=(i % (ns.length:Int)).toNat) (v:=V.int z) (by rw [List.getElem?_map,hz]; rfl)
          rwa [Int.toNat_of_nonneg g0] at this
        refine .inl ⟨a,_,_,_,rfl,rfl,hS,hat,?_⟩
        refine ⟨_,rfl,_,rfl,?_⟩
        refine rlQ hS ?_
        rw [List.length_map]
        refine ⟨_, _, rfl, rfl, ⟨e1, bitsle (by have : ((ns.length : Int)).natAbs ≤ 63 := by omega
                                                exact Nat.lt_of_le_of_lt this (Nat.lt_of_lt_of_le (show 63<2^6 by decide) (Nat.pow_le_pow_right (by decide) (by decide))))⟩,?_⟩
        refine ⟨_,_,rfl,rfl,?_⟩
        exact ⟨_,rfl,rfl⟩
      · exact ⟨_,rfl,rfl⟩
theorem ok__law_pick {f:Addr} {fd:FuncData} (F:Fun K "_law_pick" "_law_pick" s__law_pick f fd) (T:Txt K mg c):FnOk P w K mg base CX0 1 f fd ["_law_tape_here", "_law_many"] sp_pick:=by
  refine F.okw sc__law_pick (fun vs H Q E h=>?_) (fun cdv A outer s H vs Q E hr h=>?_)
  · unfold sp_pick at h
    obtain ⟨p,n,m,rfl,_⟩:=h
    rfl
  · unfold sp_pick at h
    obtain ⟨p,n,m,rfl,F,hm,hb,k⟩:=h
    obtain ⟨c,l,t,hp,h0,h1,h2⟩:=F.ex
    refine ⟨_,(wss_cons (ws_set (i:=2) sc__law_pick.nd rfl (Or.inl rfl) (we_op op_add (we_dget hr.u1 (we_v 0) we_str) we_int))
      (wss_cons (ws_dput hr.u1 (we_v 0) we_str (we_v 2))
      (wss_cons (ws_if (wt_cmp op_gt (we_dget hr.u1 (we_v 0) we_str) we_int (nomark _)) (wss_cons (ws_set (i:=3) sc__law_pick.nd rfl (Or.inl rfl) (we_op op_mod (we_dget hr.u1 (we_v 0) we_str) (we_v 1)))
      (wss_cons (ws_dput hr.u1 (we_v 0) we_str (we_op op_fdivB (we_dget hr.u1 (we_v 0) we_str) (we_v 1)))
      (wss_one (ws_ret (we_v 3))))) wss_nil)
      (wss_cons (ws_set (i:=4) sc__law_pick.nd rfl (Or.inl rfl) (we_op op_mulB (we_op op_add (we_op op_add (we_op op_mod (we_dget hr.u1 (we_v 0) we_str) we_int) (we_op op_mulB (we_op op_mulB we_int (we_v 2)) (we_v 2))) we_int) we_int))
      (wss_cons (ws_set (i:=4) sc__law_pick.nd rfl (Or.inl rfl) (we_op op_mulB (we_op op_add (we_op op_mod (we_v 4) we_int) (we_op op_mulB we_int (we_v 2))) we_int))
      (wss_one (ws_ret (we_op op_mod (we_op op_fdivB (we_op op_mod (we_v 4) we_int) we_int) (we_v 1))))))))),?_⟩
    refine ⟨_,rfl,?_⟩
    refine dgS hp rfl ?_
    refine ⟨_,_,rfl,rfl,?_⟩
    refine ⟨_,rfl,_,rfl,?_⟩
    refine dpS (kvs2:=tpD c l (t+1)) hp (by show 3≤64; decide) rfl fun H1 hp1 s1=>?_
    refine ⟨_,rfl,?_⟩
    refine dgS hp1 rfl ?_
    refine ⟨_,_,rfl,rfl,_,rfl,?_⟩
    refine iteD (fun e0=>?_) (fun e0=>?_)
    · refine ⟨_,rfl,?_⟩
      refine dgS hp1 rfl ?_
      refine ⟨_,rfl,_,_,rfl,rfl,hm,?_⟩
      refine ⟨_,rfl,?_⟩
      refine dgS hp1 rfl ?_
      refine ⟨_,rfl,_,_,rfl,rfl,⟨hm,Nat.le_trans hb (by decide)⟩,?_⟩
      refine ⟨_,rfl,?_⟩
      refine dpS (kvs2:=tpD c (l / m) (t+1)) hp1 (by show 3≤64; decide) rfl fun H2 hp2 s2=>?_
      refine ⟨_,rfl,?_⟩
      exact k _ H2 (Int.emod_nonneg _ (by omega)) (Int.emod_lt_of_pos _ hm) ⟨c,l / m,t+1,hp2,Int.ediv_nonneg h0 (by omega),by omega,by omega⟩ (s1.trans s2)
    · have bt:bits (t+1)≤64:=PySem.intBits_le_64 (by omega) (by omega)
      refine ⟨_,rfl,?_⟩
      refine dgS hp1 rfl ?_
      have c0:=Int.emod_nonneg c (b:=2147483647) (by decide)
      have c1:=Int.emod_lt_of_pos c (b:=2147483647) (by decide)
      refine ⟨_,_,rfl,rfl,(by show (0:Int)<2147483647; decide),?_⟩
      refine ⟨_,rfl,_,_,rfl,rfl,IntMulOk.of_left (by decide +kernel),_,rfl,_,_,rfl,rfl,IntMulOk.of_right bt,_,_,rfl,rfl,_,_,rfl,rfl,_,_,rfl,rfl,IntMulOk.of_right (by decide +kernel),?_⟩
      generalize hz:(c % 2147483647+31*(t+1)*(t+1)+1)*48271=z
      refine ⟨_,rfl,_,_,rfl,rfl,(by show (0:Int)<2147483629; decide),_,rfl,_,_,rfl,rfl,IntMulOk.of_left (by decide +kernel),_,_,rfl,rfl,_,_,rfl,rfl,IntMulOk.of_right (by decide +kernel),?_⟩
      generalize hy:(z % 2147483629+7*(t+1))*69621=y
      refine ⟨_,rfl,_,_,rfl,rfl,(by show (0:Int)<2147483587; decide),_,_,rfl,rfl,⟨by decide,by decide +kernel⟩,_,rfl,_,_,rfl,rfl,hm,?_⟩
      exact k _ H1 (Int.emod_nonneg _ (by omega)) (Int.emod_lt_of_pos _ hm) ⟨c,l,t+1,hp1,h0,by omega,by omega⟩ s1
end
abbrev frD (f:Fr):PyData:=.tuple [.int f.1,.int f.2]
theorem frD_of {H:Hp} {f:Fr} {a:Addr} (h:H a=some (.tup [.int f.1,.int f.2])):Rep H (frD f) (.ref a):=Rep.tup h (RepL.cons (Rep.int _) (RepL.cons (Rep.int _) RepL.nil))
theorem frD_flat (f:Fr):flatD (frD f)=true:=rfl
def NewF (H:Hp) (Q:VK) (f:Fr):Prop:=∀ q H',H q=none→H' q=some (.tup [.int f.1,.int f.2])→Same H H'→Q (.ref q) H'
theorem gcd_le {n d:Int} (h:0<d):(Int.gcd n d:Int)≤d:=Int.le_of_dvd h (Int.gcd_dvd_right n d)
theorem gcd_sz {n d:Int} {k:Nat} (h:0<d) (z:d.natAbs<2^k):(Int.gcd n d:Int).natAbs<2^k:=by
  have:=gcd_le (n:=n) h
  have:=gcd_pos (n:=n) h
  omega
theorem divOk {n d:Int} (h:0<d) (z:d.natAbs<2^9000):CDivB n d:=⟨h,bitsOf z⟩
abbrev shD (fs:List Fr):PyData:=.tuple (fs.map frD)
theorem frs_flat:∀ fs:List Fr,flatDs (fs.map frD)=true
  | []=>rfl
  | f::fs=>by show (flatD (frD f)&&flatDs (fs.map frD))=true; rw [frs_flat fs]; rfl
theorem shD_flat (fs:List Fr):flatD (shD fs)=true:=frs_flat fs
structure SyOk (n:Nat) (fs:List Fr):Prop where
  ex:∃ ns:List Int,ns.length=n∧(∀ x∈ns,0≤x∧x≤7)∧0<ns.sum∧fs=ns.map fun x=>lw x ns.sum
theorem sum_le7:∀ {ns:List Int},(∀ x∈ns,0≤x∧x≤7)→0≤ns.sum∧ns.sum≤7*(ns.length:Int)
  | [],_=>by simp
  | n::ns,h=>by
    have h1:=sum_le7 (ns:=ns) fun x hx=>h x (List.mem_cons_of_mem _ hx)
    have h2:=h n (List.mem_cons_self ..)
    rw [List.sum_cons,List.length_cons]
    omega
theorem sum_pos {ns:List Int} (h:∀ x∈ns,0≤x∧x≤7) {n:Int} (hn:n∈ns) (p:0<n):0<ns.sum:=by
  induction ns with
  | nil=>cases hn
  | cons a r ih =>
    have h1:=sum_le7 (ns:=r) fun x hx=>h x (List.mem_cons_of_mem _ hx)
    have h2:=h a (List.mem_cons_self ..)
    rw [List.sum_cons]
    rcases List.mem_cons.mp hn with rfl | hr
    · omega
    · have:=ih (fun x hx=>h x (List.mem_cons_of_mem _ hx)) hr
      omega
theorem SyOk.len {n:Nat} {fs:List Fr} (h:SyOk n fs):fs.length=n:=by
  obtain ⟨ns,h1,_,_,rfl⟩:=h.ex
  rw [List.length_map,h1]
theorem SyOk.zero {n:Nat} {fs:List Fr} (h:SyOk n fs):SyOk (1+n) ((0,1)::fs):=by
  obtain ⟨ns,h1,h2,h3,rfl⟩:=h.ex
  refine ⟨0::ns,by rw [List.length_cons]; omega,fun x hx=>?_,by rw [List.sum_cons]; omega,?_⟩
  · rcases List.mem_cons.mp hx with rfl | hx
    · omega
    · exact h2 x hx
  · rw [List.sum_cons,List.map_cons,Int.zero_add]
    have:lw 0 ns.sum=(0,1):=by
      unfold lw
      rw [Int.gcd_zero_left]
      have hn:((ns.sum.natAbs:Nat):Int)=ns.sum:=by omega
      rw [hn,Int.zero_ediv,Int.ediv_self (by omega)]
    rw [this]
def ind (p:Nat) (n:Nat):List Int:=(List.range n).map fun k:Nat=>if (k:Int)=(p:Int) then 1 else 0
theorem ind_len (p n:Nat):(ind p n).length=n:=by unfold ind; rw [List.length_map,List.length_range]
theorem ind_mem {p n:Nat}:∀ x∈ind p n,0≤x∧x≤1:=fun x hx=>by
  unfold ind at hx
  obtain ⟨k,_,rfl⟩:=List.mem_map.mp hx
  split <;> omega
theorem ind_sum (p:Nat):∀ n:Nat,(ind p n).sum=if p<n then 1 else 0
  | 0=>by simp [ind]
  | n+1=>by
    have ih:=ind_sum p n
    have e:ind p (n+1)=ind p n++[if (n:Int)=(p:Int) then 1 else 0]:=by
      unfold ind; rw [List.range_succ,List.map_append]; rfl
    rw [e,List.sum_append,ih,List.sum_singleton]
    by_cases h:p<n
    · rw [if_pos h,if_neg (by omega),if_pos (by omega)]; rfl
    · rw [if_neg h]
      by_cases h2:p=n
      · subst h2; rw [if_pos rfl,if_pos (by omega)]; rfl
      · rw [if_neg (by omega),if_neg (by omega)]; rfl
theorem lw_1 (x:Int):lw x 1=(x,1):=by
  unfold lw
  rw [Int.gcd_one_right]
  simp
theorem SyOk.one {p n:Nat} (h:p<n):SyOk n ((ind p n).map fun x=>(x,1)):=by
  have e:=ind_sum p n
  rw [if_pos h] at e
  refine ⟨ind p n,ind_len p n,fun x hx=>?_,by omega,?_⟩
  · have:=ind_mem x hx; omega
  · rw [e]; exact List.map_congr_left fun x _=>(lw_1 x).symm
@[irreducible] def sp_lfrac:Sp:=fun vs H Q _=>∃ n d:Int,vs=[.int n,.int d]∧0<d∧d.natAbs<2^9000∧NewF H Q (lw n d)
theorem sp_lfrac_i {H:Hp} {Q:VK} {E:XK} {n d:Int} (h:0<d) (z:d.natAbs<2^9000) (q:NewF H Q (lw n d)):sp_lfrac [.int n,.int d] H Q E:=by unfold sp_lfrac; exact ⟨n,d,rfl,h,z,q⟩
@[irreducible] def sp_shares:Sp:=fun vs H Q _=>∃ (p:Addr) (n m:Nat),vs=[.ref p,.int (m:Int)]∧TapeAt H p (n+8)∧0<m∧m≤5∧∀ v fs H',TapeAt H' p n→SameBut p H H'→Rep H' (shD fs) v→SyOk m fs→Q v H'
theorem sp_shares_i {H:Hp} {Q:VK} {E:XK} {p:Addr} {n m:Nat} (F:TapeAt H p (n+8)) (m0:0<m) (m5:m≤5) (k:∀ v fs H',TapeAt H' p n→SameBut p H H'→Rep H' (shD fs) v→SyOk m fs→Q v H'):sp_shares [.ref p,.int (m:Int)] H Q E:=by
  unfold sp_shares; exact ⟨p,n,m,rfl,F,m0,m5,k⟩
theorem repN {H:Hp} {Q:VK} {l:Addr} {z:V} {k:Nat} (h:H l=some (.lst [z])) (hk:k≤64) (q:∀ c H',H c=none→H' c=some (.lst (List.replicate k z))→Same H H'→Q (.ref c) H'):rRep (.ref l) (.int (k:Int)) H Q:=by
  refine ⟨l,k,[z],rfl,rfl,h,by omega,by omega,?_,fun p hp=>?_⟩
  · show 1*((k:Int)).toNat≤sizeLine
    rw [Nat.one_mul,Int.toNat_natCast]; exact small64 hk
  · rw [Int.toNat_natCast]
    have e:∀ k:Nat,(List.replicate k [z]).flatten=List.replicate k z:=fun k=>by
      induction k with
      | zero=>rfl
      | succ k ih=>rw [List.replicate_succ,List.flatten_cons,ih,List.replicate_succ]; rfl
    rw [e]
    exact q p _ hp upd_same (Same.upd hp)
theorem mem_setZ {k:Nat} {b:Nat} (hb:b<k):(∀ x∈(List.replicate k (0:Int)).set b 1,0≤x∧x≤7)∧0<((List.replicate k (0:Int)).set b 1).sum:=by
  have h1:∀ x∈(List.replicate k (0:Int)).set b 1,0≤x∧x≤7:=fun x hx=>by
    rcases List.mem_or_eq_of_mem_set hx with h | rfl
    · have:=List.eq_of_mem_replicate h; omega
    · omega
  exact ⟨h1,sum_pos h1 (n:=1) (List.mem_iff_getElem?.mpr ⟨b,by rw [List.getElem?_set_self (by simpa using hb)]⟩) (by decide)⟩
section
variable {P:Program} {w:World} {K:PySem.W.Frag} {mg:Str→Option Value} {base:Heap} {c:Cl}
theorem ok__law_frac {f:Addr} {fd:FuncData} (F:Fun K "_law_frac" "_law_frac" s__law_frac f fd) (T:Txt K mg c):FnOk P w K mg base CX0 1 f fd ["_law_n", "_law_d"] sp_lfrac:=by
  refine F.okw sc__law_frac (fun vs H Q E h=>?_) (fun cdv A outer s H vs Q E hr h=>?_)
  · unfold sp_lfrac at h
    obtain ⟨n,d,rfl,_⟩:=h
    rfl
  · unfold sp_lfrac at h
    obtain ⟨n,d,rfl,hd,hz,q⟩:=h
    refine ⟨_,(wss_cons (ws_set (i:=2) sc__law_frac.nd rfl (Or.inl rfl) (we_cB cl_abs (by rfl) T.b_abs (by decide +kernel) (wa_k (we_v 0) wa_nil)))
      (wss_cons (ws_set (i:=3) sc__law_frac.nd rfl (Or.inl rfl) (we_v 1))
      (wss_cons (ws_while PassesOwn.never (wt_cmp op_gt (we_v 3) we_int (nomark _)) (wss_one (ws_par (i:=2) (j:=3) rfl sc__law_frac.nd rfl rfl (by decide) rfl rfl (wa_k (we_v 3) (wa_k (we_op op_mod (we_v 2) (we_v 3)) wa_nil)) rfl)))
      (wss_one (ws_ret (we_tup (wa_k (we_op op_fdivB (we_v 0) (we_v 2)) (wa_k (we_op op_fdivB (we_v 1) (we_v 2)) wa_nil)))))))),?_⟩
    refine ⟨_,rfl,?_⟩
    refine raI ?_
    refine ⟨_,rfl,?_⟩
    refine while_r (fun m σ H'=>∃ (u v:Int),σ=[some (.int n),some (.int d),some (.int u),some (.int v)]∧0≤v∧Int.gcd u v=Int.gcd n d∧(v=0→0<u)∧H'=H∧m=v.toNat)
      (fun σ H'=>σ=[some (.int n),some (.int d),some (.int (Int.gcd n d)),some (.int 0)]∧H'=H)
      _ ⟨(n.natAbs:Int),d,rfl,by omega,by rw [Int.gcd_eq_natAbs_gcd_natAbs,Int.gcd_eq_natAbs_gcd_natAbs,Int.natAbs_natCast],by omega,rfl,rfl⟩ ?_ ?_
    · rintro m σ H2 ⟨u,v,rfl,hb,hg,h0,rfl,rfl⟩
      refine ⟨_,rfl,_,_,rfl,rfl,_,rfl,?_⟩
      refine iteD (fun e=>?_) (fun e=>?_)
      · refine ⟨_,rfl,_,rfl,_,rfl,_,_,rfl,rfl,e,_,_,rfl,?_⟩
        have e1:=Int.emod_lt_of_pos u e
        have e2:=Int.emod_nonneg u (b:=v) (by omega)
        exact ⟨_,by omega,v,u % v,rfl,e2,by rw [gcd_step,hg],fun _=>e,rfl,rfl⟩
      · have hb0:v=0:=by omega
        subst hb0
        have hu:=h0 rfl
        have e1:=gcd_end hu
        rw [hg] at e1
        rw [e1]
        exact ⟨rfl,rfl⟩
    · rintro σ H2 ⟨rfl,rfl⟩
      have hg:=gcd_pos (n:=n) hd
      have zg:CDivB n (Int.gcd n d:Int):=divOk hg (gcd_sz hd hz)
      refine ⟨_,rfl,_,rfl,_,_,rfl,rfl,zg,?_⟩
      refine ⟨_,rfl,_,rfl,_,_,rfl,rfl,zg,?_⟩
      refine nwT (by show 2≤64; decide) fun p H3 hp e3 s3=>?_
      exact q p H3 hp e3 s3
set_option maxHeartbeats 4000000 in
theorem ok__law_shares {f:Addr} {fd:FuncData} (F:Fun K "_law_shares" "_law_shares" s__law_shares f fd) (T:Txt K mg c)
    (F__law_pick:FnC CX0 P w K mg base 1 "_law_pick" ["_law_tape_here", "_law_many"] sp_pick) (F__law_frac:FnC CX0 P w K mg base 1 "_law_frac" ["_law_n", "_law_d"] sp_lfrac):FnOk P w K mg base CX0 2 f fd ["_law_tape_here", "_law_many"] sp_shares:=by
  refine F.okw sc__law_shares (fun vs H Q E h=>?_) (fun cdv A outer s H vs Q E hr h=>?_)
  · unfold sp_shares at h
    obtain ⟨p,n,m,rfl,_⟩:=h
    rfl
  · unfold sp_shares at h
    obtain ⟨p,n,m,rfl,F,m0,m5,k⟩:=h
    refine ⟨_,(wss_cons (ws_set (i:=2) sc__law_shares.nd rfl (Or.inr rfl) (we_comp (CScope.of (psc:=defScope s__law_shares) (N:=["_law_tape_here", "_law_many", "_law_parts"]) (N':=["_law_k", "_law_tape_here"]) (js:=[0]) (by decide +kernel) rfl rfl rfl) (wi_range1 rfl T.b_range (wa_k (we_v 1) wa_nil)) (fun _ _ _ _=>wts_nil) (fun _ _ _ _=>(we_ix (ix_seqK K) (we_lst (wa_k we_int (wa_k we_int (wa_k we_int (wa_k we_int (wa_k we_int (wa_k we_int wa_nil))))))) (we_fn F__law_pick (hr.mono (by decide)) (wa_k (we_v 1) (wa_k we_int wa_nil))) (fun _ _=>rfl)))))
      (wss_cons (ws_cut (ws_if (wt_mono (wt_w (ww_or (wt_cmp op_eq (we_cB (cl_sum rfl) (by rfl) T.b_sum (by decide +kernel) (wa_k (we_v 2) wa_nil)) we_int (nomark _)) (ww_or1 (wt_cmp op_eq (we_fn F__law_pick (hr.mono (by decide)) (wa_k (we_v 0) (wa_k we_int wa_nil))) we_int (nomark _)))))) (wss_cons (ws_set (i:=2) sc__law_shares.nd rfl (Or.inr rfl) (we_op op_rep (we_lst (wa_k we_int wa_nil)) (we_v 1)))
      (wss_one (ws_asg we_int (wg_sub (we_v 2) (we_fn F__law_pick (hr.mono (by decide)) (wa_k (we_v 0) (wa_k (we_v 1) wa_nil))) set_list)))) wss_nil))
      (wss_one (ws_ret (we_cT call_tuple_of (by rfl) T.b_tuple (by decide +kernel) (wa_k (we_comp (CScope.of (psc:=defScope s__law_shares) (N:=["_law_tape_here", "_law_many", "_law_parts"]) (N':=["_law_part", "_law_parts"]) (js:=[2]) (by decide +kernel) rfl rfl rfl) (wi_list (we_v 2)) (fun _ _ _ _=>wts_nil) (fun _ _ _ _=>(we_fn F__law_frac (hr.mono (by decide)) (wa_k (we_v 0) (wa_k (we_cB (cl_sumK K rfl) (by rfl) T.b_sum (by decide +kernel) (wa_k (we_v 1) wa_nil)) wa_nil))))) wa_nil)))))),?_⟩
    refine ⟨_,rfl,_,rfl,by omega,by omega,?_⟩
    refine comp_tpR (TapeAt.like (n:=n) fun i=>n+8 - i) F (fun _ y _=>∃ x,y=.int x∧0≤x∧x≤7) (fun _ _ _ _ _ h=>h) (by omega) (fun i H' Q' hi F' s' k'=>?_) (fun D ys H1 hD hD1 F1 s1 hy hr1=>?_)
    · refine nwL (by show 6≤64; decide) fun q1 H2 hq1 e1 s1=>?_
      refine ⟨_,rfl,?_⟩
      refine sp_pick_i (n:=n+8 - (i+1)) ((F'.same s1).less (by omega)) (by decide) (by decide +kernel) fun x H3 x0 x1 F3 s3=>?_
      obtain ⟨v,hat,hmem,_⟩:=atI_mem (xs:=[V.int 0,V.int 1,V.int 1,V.int 2,V.int 3,V.int 7]) x0 x1
      refine ixL (s3.at (F'.ne hq1) e1) hat ?_
      refine k' _ H3 F3 (s1.but.trans s3) ?_
      simp only [List.mem_cons,List.not_mem_nil,or_false] at hmem
      rcases hmem with rfl | rfl | rfl | rfl | rfl | rfl <;> exact ⟨_,rfl,by decide,by decide⟩
    · obtain ⟨ns,rfl,hn⟩:=ints_of (P:=fun _ x=>0≤x∧x≤7) hr1
      rw [List.length_map] at hy
      have npD:=F.ne hD
      have hn':∀ x∈ns,0≤x∧x≤7:=fun x hx=>by
        obtain ⟨i,hi⟩:=List.mem_iff_getElem?.mp hx
        exact hn i x hi
      refine ⟨fun σ H3=>∃ (D:Addr) (ns:List Int),σ=[some (.ref p),some (.int (m:Int)),some (.ref D)]∧H3 D=some (.lst (ns.map V.int))∧ns.length=m∧(∀ x∈ns,0≤x∧x≤7)∧0<ns.sum∧TapeAt H3 p n∧SameBut p H H3,?_,?_⟩
      · clear hD hD1 hr1 hn hn' hy npD F1 s1
        rintro σ H3 ⟨D,ns,rfl,hD3,hl,hn,hS,F3,s3⟩
        refine ⟨_,rfl,D,rfl,⟨_,SqL.of hD3⟩,?_⟩
        have h35:=sum_le7 hn
        refine comp_mapL (fun i y H'=>∃ n,ns[i]?=some n∧Rep H' (frD (lw n ns.sum)) y) (fun i y H1 H2 s ⟨n,h1,h2⟩=>⟨n,h1,h2.flat s (frD_flat _)⟩) (by rw [List.length_map]; omega) hD3 (fun i x H' Q' hx s' k'=>?_) (fun D3 ys H8 hD3' hD8 s8 hy8 hr8=>?_)
        · rw [List.getElem?_map] at hx
          obtain ⟨n',hn',rfl⟩:=(show ∃ n,ns[i]?=some n∧V.int n=x by
            cases q:ns[i]? with
            | none=>rw [q] at hx; cases hx
            | some n=>rw [q] at hx; cases hx; exact ⟨n,rfl,rfl⟩)
          refine ⟨_,rfl,_,rfl,?_⟩
          refine rsI (SqL.of (s' _ _ hD3)) ?_
          refine sp_lfrac_i hS (Nat.lt_of_lt_of_le (show ns.sum.natAbs<2^10 by show ns.sum.natAbs<1024; omega) (Nat.pow_le_pow_right (by decide) (by decide))) ?_
          intro q9 H9 hq9 e9 s9
          exact k' _ H9 s9 ⟨n',hn',frD_of e9⟩
        · refine ⟨D3,ys,rfl,.inl ⟨SqL.of hD8,fun l hl'=>?_⟩⟩
          have sl:=Same.upd (o:=.tup ys) hl'
          have el:(upd H8 l (.tup ys)) l=some (.tup ys):=upd_same
          generalize upd H8 l (.tup ys)=H9 at sl el
          refine k _ (ns.map fun n=>lw n ns.sum) H9 ((F3.same s8).same sl) (s3.trans (s8.trans sl).but) (Rep.tup el ?_) ⟨ns,hl,hn,hS,rfl⟩
          refine RepL.ofIdx (by rw [hy8,List.length_map,List.length_map,List.length_map]) fun i y hi=>?_
          obtain ⟨n,h1,h2⟩:=hr8 i y hi
          exact ⟨frD (lw n ns.sum),by rw [List.getElem?_map,List.getElem?_map,h1]; rfl,h2.same sl⟩
      · refine ⟨fun b H4=>TapeAt H4 p (n+1)∧SameBut p H H4∧H4 D=some (.lst (ns.map V.int))∧(b=false→0<ns.sum),?_,?_⟩
        · refine ⟨_,rfl,?_⟩
          refine rsI (SqL.of hD1) ?_
          refine ⟨rfl,_,rfl,?_⟩
          refine iteD (fun e0=>?_) (fun e0=>?_)
          · exact ⟨F1.less (by omega),s1,hD1,fun h=>by cases h⟩
          · refine ⟨_,rfl,?_⟩
            refine sp_pick_i (n:=n+1) (F1.less (by omega)) (by decide) (by decide +kernel) fun x H2 x0 x1 F2 s2=>?_
            refine ⟨rfl,_,rfl,F2,s1.trans s2,s2.at npD hD1,fun _=>?_⟩
            have:=(sum_le7 hn').1
            have:ns.sum≠0:=fun h=>e0 (congrArg V.int h)
            omega
        · rintro b H2 ⟨F2,s2,hD2,hS⟩
          cases b with
          | false=>exact iteF ⟨D,ns,rfl,hD2,by omega,hn',hS rfl,F2.less (by omega),s2⟩
          | true =>
            refine iteT ?_
            refine nwL (by show 1≤64; decide) fun q1 H3 hq1 e1 s3=>?_
            refine ⟨_,rfl,?_⟩
            refine repN e1 (by omega) fun q2 H4 hq2 e2 s4=>?_
            have F4:=(F2.same s3).same s4
            have n2:q2≠p:=(F2.same s3).ne hq2
            refine ⟨_,rfl,_,rfl,_,rfl,?_⟩
            refine sp_pick_i F4 (by omega) (bitsle (Nat.lt_of_le_of_lt (show ((m:Int)).natAbs≤5 by omega) (by decide))) fun x H5 x0 x1 F5 s5=>?_
            obtain ⟨b,rfl⟩:∃ b:Nat,x=(b:Int):=⟨x.toNat,by omega⟩
            have hD5:=s5.at n2 e2
            have hj:ixN (List.replicate m (V.int 0)).length (b:Int)=some b:=by
              unfold ixN
              rw [if_pos x0,if_pos (by rw [List.length_replicate]; omega)]; rfl
            refine stG hD5 hj fun H6 e6 s6=>?_
            have e7:(List.replicate m (V.int 0)).set b (V.int 1)=(((List.replicate m (0:Int)).set b 1).map V.int):=by
              rw [List.map_set,List.map_replicate]
            have hm:=mem_setZ (k:=m) (b:=b) (by omega)
            have h2:H q2=none:=SameBut.free s2 F2.there (s3.free hq2)
            exact ⟨q2,(List.replicate m (0:Int)).set b 1,rfl,by rw [e6,e7],by rw [List.length_set,List.length_replicate],hm.1,hm.2,F5.but s6 n2,
              SameBut.thru h2 ((s2.trans (s3.trans s4).but).trans s5) s6⟩
end
@[irreducible] def sp_says:Sp:=fun vs H Q _=>∃ (p:Addr) (n W:Nat) (st pl:Bool),vs=[.ref p,.int (W:Int),.bl st,.bl pl]∧TapeAt H p (n+16)∧2≤W∧W≤4∧∀ v fs H',TapeAt H' p n→SameBut p H H'→Rep H' (shD fs) v→SyOk (1+W) fs→(st=true→fs.head?=some (0,1))→Q v H'
theorem sp_says_i {H:Hp} {Q:VK} {E:XK} {p:Addr} {n W:Nat} {st pl:Bool} (F:TapeAt H p (n+16)) (h2:2≤W) (h4:W≤4) (k:∀ v fs H',TapeAt H' p n→SameBut p H H'→Rep H' (shD fs) v→SyOk (1+W) fs→(st=true→fs.head?=some (0,1))→Q v H'):sp_says [.ref p,.int (W:Int),.bl st,.bl pl] H Q E:=by
  unfold sp_says; exact ⟨p,n,W,st,pl,rfl,F,h2,h4,k⟩
theorem ind_head {p n:Nat} (hp:0<p):((ind p (1+n)).map fun x=>((x,1):Fr)).head?=some (0,1):=by
  unfold ind
  rw [Nat.add_comm,List.range_succ_eq_map,List.map_cons,List.map_cons,List.head?_cons,if_neg (by omega)]
theorem ind_at {p n i:Nat} (h:i<n):(ind p n)[i]?=some (if (i:Int)=(p:Int) then 1 else 0):=by
  unfold ind
  rw [List.getElem?_map,List.getElem?_range h]; rfl
abbrev ctD (cs:List Int):PyData:=.tuple (cs.map .int)
theorem ints_flat:∀ fs:List Int,flatDs (fs.map PyData.int)=true
  | []=>rfl
  | f::fs=>by show (flatD (.int f)&&flatDs (fs.map PyData.int))=true; rw [ints_flat fs]; rfl
theorem ctD_flat (cs:List Int):flatD (ctD cs)=true:=ints_flat cs
theorem RepL_ints {H:Hp}:∀ {ns:List Int} {vs:List V},RepL H (ns.map PyData.int) vs→vs=ns.map V.int
  | [],vs,h=>by unfold RepL at h; exact h
  | n::ns,vs,h=>by
    unfold RepL at h
    obtain ⟨x,xs,rfl,h1,h2⟩:=h
    cases (show x=V.int n from h1)
    rw [RepL_ints h2]; rfl
theorem ctD_at {H:Hp} {cs:List Int} {v:V} (h:Rep H (ctD cs) v):∃ a,v=.ref a∧H a=some (.tup (cs.map V.int)):=by
  unfold Rep at h
  obtain ⟨a,xs,rfl,h1,h2⟩:=h
  cases RepL_ints h2
  exact ⟨a,rfl,h1⟩
theorem RepL.ofInts {H:Hp}:∀ ns:List Int,RepL H (ns.map PyData.int) (ns.map V.int)
  | []=>RepL.nil
  | n::ns=>RepL.cons (Rep.int _) (RepL.ofInts ns)
theorem ctD_of {H:Hp} {cs:List Int} {a:Addr} (h:H a=some (.tup (cs.map V.int))):Rep H (ctD cs) (.ref a):=Rep.tup h (RepL.ofInts cs)
structure SzOk (F W M:Nat):Prop where
  w:2≤W∧W≤4
  f:F=2∧M≤4∨F=3∧M≤3∨F=4∧M≤2
@[irreducible] def sp_sizes:Sp:=fun vs H Q _=>∃ (p:Addr) (n:Nat),vs=[.ref p]∧TapeAt H p (n+3)∧∀ q F W M H',SzOk F W M→TapeAt H' p n→SameBut p H H'→H' q=some (.tup [.int (F:Nat),.int (W:Nat),.int (M:Nat)])→Q (.ref q) H'
theorem sp_sizes_i {H:Hp} {Q:VK} {E:XK} {p:Addr} {n:Nat} (F:TapeAt H p (n+3)) (k:∀ q F W M H',SzOk F W M→TapeAt H' p n→SameBut p H H'→H' q=some (.tup [.int (F:Nat),.int (W:Nat),.int (M:Nat)])→Q (.ref q) H'):sp_sizes [.ref p] H Q E:=by
  unfold sp_sizes; exact ⟨p,n,rfl,F,k⟩
section
variable {P:Program} {w:World} {K:PySem.W.Frag} {mg:Str→Option Value} {base:Heap} {c:Cl}
set_option maxHeartbeats 4000000 in
theorem ok__law_says {f:Addr} {fd:FuncData} (F:Fun K "_law_says" "_law_says" s__law_says f fd) (T:Txt K mg c)
    (F__law_pick:FnC CX0 P w K mg base 1 "_law_pick" ["_law_tape_here", "_law_many"] sp_pick) (F__law_shares:FnC CX0 P w K mg base 2 "_law_shares" ["_law_tape_here", "_law_many"] sp_shares):FnOk P w K mg base CX0 3 f fd ["_law_tape_here", "_law_ways", "_law_stops", "_law_plain"] sp_says:=by
  refine F.okw sc__law_says (fun vs H Q E h=>?_) (fun cdv A outer s H vs Q E hr h=>?_)
  · unfold sp_says at h
    obtain ⟨p,n,W,st,pl,rfl,_⟩:=h
    rfl
  · unfold sp_says at h
    obtain ⟨p,n,W,st,pl,rfl,F,W2,W4,k⟩:=h
    refine ⟨_,(wss_cons (ws_if (wt_mono (wt_w (ww_or (wt_val (we_v 3)) (ww_or1 (wt_cmp op_eq (we_fn F__law_pick (hr.mono (by decide)) (wa_k (we_v 0) (wa_k we_int wa_nil))) we_int (nomark _)))))) (wss_cons (ws_set (i:=4) sc__law_says.nd rfl (Or.inr rfl) (we_op op_add we_int (we_fn F__law_pick (hr.mono (by decide)) (wa_k (we_v 0) (wa_k (we_v 1) wa_nil)))))
      (wss_cons (ws_cut (ws_if (wt_mono (wt_w (ww_and (wt_not (wt_val (we_v 2))) (ww_and1 (wt_cmp op_gt (we_fn F__law_pick (hr.mono (by decide)) (wa_k (we_v 0) (wa_k we_int wa_nil))) we_int (nomark _)))))) (wss_one (ws_set (i:=4) sc__law_says.nd rfl (Or.inr rfl) we_int)) wss_nil))
      (wss_one (ws_ret (we_cT call_tuple_of (by rfl) T.b_tuple (by decide +kernel) (wa_k (we_comp (CScope.of (psc:=defScope s__law_says) (N:=["_law_tape_here", "_law_ways", "_law_stops", "_law_plain", "_law_place"]) (N':=["_law_k", "_law_place"]) (js:=[4]) (by decide +kernel) rfl rfl rfl) (wi_range1 rfl T.b_range (wa_k (we_op op_add we_int (we_v 1)) wa_nil)) (fun _ _ _ _=>wts_nil) (fun _ _ _ _=>(we_tup (wa_k (we_cT call_int1 (by rfl) T.b_int (by decide +kernel) (wa_k (we_cmp op_eq (we_v 0) (we_v 1) (nomark _)) wa_nil)) (wa_k we_int wa_nil))))) wa_nil)))))) wss_nil)
      (wss_cons (ws_if (wt_val (we_v 2)) (wss_one (ws_ret (we_op (op_catU K) (we_tup (wa_k (we_tup (wa_k we_int (wa_k we_int wa_nil))) wa_nil)) (we_fn F__law_shares (hr.mono (by decide)) (wa_k (we_v 0) (wa_k (we_v 1) wa_nil)))))) wss_nil)
      (wss_one (ws_ret (we_fn F__law_shares (hr.mono (by decide)) (wa_k (we_v 0) (wa_k (we_op op_add we_int (we_v 1)) wa_nil))))))),?_⟩
    refine ⟨fun b H1=>TapeAt H1 p (n+15)∧SameBut p H H1,?_,?_⟩
    · refine ⟨_,rfl,_,rfl,?_⟩
      cases pl with
      | true=>exact iteT ⟨F.less (by omega),(Same.refl _).but⟩
      | false =>
        refine iteF ?_
        refine ⟨_,rfl,?_⟩
        refine sp_pick_i (n:=n+15) F (by decide) (by decide +kernel) fun x H2 x0 x1 F2 s2=>?_
        exact ⟨rfl,_,rfl,F2,s2⟩
    · rintro b H1 ⟨F1,s1⟩
      cases b with
      | true =>
        refine iteT ?_
        refine ⟨_,rfl,_,rfl,?_⟩
        refine sp_pick_i (n:=n+14) F1 (by omega) (bitsle (Nat.lt_of_le_of_lt (show ((W:Int)).natAbs≤5 by omega) (by decide))) fun x H2 x0 x1 F2 s2=>?_
        refine ⟨_,_,rfl,rfl,?_⟩
        refine ⟨fun σ H3=>∃ a:Nat,σ=[some (.ref p),some (.int (W:Int)),some (.bl st),some (.bl pl),some (.int (a:Int))]∧a<1+W∧(st=true→0<a)∧TapeAt H3 p n∧SameBut p H H3,?_,?_⟩
        · rintro σ H3 ⟨a,rfl,ha,hs,F3,s3⟩
          refine ⟨_,rfl,_,_,rfl,rfl,_,rfl,by omega,by omega,?_⟩
          refine comp_mapR (fun i y H'=>∃ z,(ind a (1+W))[i]?=some z∧Rep H' (frD (z,1)) y) (fun i y H1 H2 s ⟨z,h1,h2⟩=>⟨z,h1,h2.flat s (frD_flat _)⟩) (by omega) (fun i H' Q' hi s' k'=>?_) (fun D ys H4 hD hD4 s4 hy4 hr4=>?_)
          · refine ⟨_,rfl,_,rfl,rfl,?_⟩
            refine .inr ⟨_,rfl,?_⟩
            refine nwT (by show 2≤64; decide) fun q5 H5 hq5 e5 s5=>?_
            refine k' _ H5 s5 ⟨_,ind_at (by omega),?_⟩
            refine frD_of (f:=(if (i:Int)=(a:Int) then 1 else 0,1)) ?_
            rw [e5,Int.zero_add]
            by_cases h:(i:Int)=(a:Int)
            · rw [if_pos h,if_pos (decide_eq_true (congrArg V.int h))]
            · rw [if_neg h,if_neg (by rw [decide_eq_true_eq]; exact fun z=>h (by injection z))]
          · refine ⟨D,ys,rfl,.inl ⟨SqL.of hD4,fun l hl=>?_⟩⟩
            have sl:=Same.upd (o:=.tup ys) hl
            have el:(upd H4 l (.tup ys)) l=some (.tup ys):=upd_same
            generalize upd H4 l (.tup ys)=H5 at sl el
            refine k _ ((ind a (1+W)).map fun x=>(x,1)) H5 ((F3.same s4).same sl) (s3.trans (s4.trans sl).but) (Rep.tup el ?_) (SyOk.one ha) (fun h=>ind_head (hs h))
            refine RepL.ofIdx (by rw [hy4,List.length_map,List.length_map,ind_len]; omega) fun i y hi=>?_
            obtain ⟨n,h1,h2⟩:=hr4 i y hi
            exact ⟨frD (n,1),by rw [List.getElem?_map,List.getElem?_map,h1]; rfl,h2.same sl⟩
        · refine ⟨fun b H3=>TapeAt H3 p n∧SameBut p H H3∧(b=true→st=false),?_,?_⟩
          · refine ⟨_,rfl,_,rfl,?_⟩
            cases st with
            | true=>exact iteF ⟨F2.less (by omega),s1.trans s2,fun h=>by cases h⟩
            | false =>
              refine iteT ?_
              refine ⟨_,rfl,?_⟩
              refine sp_pick_i (n:=n) (F2.less (by omega)) (by decide) (by decide +kernel) fun y H3 y0 y1 F3 s3=>?_
              exact ⟨_,_,rfl,rfl,_,rfl,F3,(s1.trans s2).trans s3,fun _=>rfl⟩
          · rintro b H3 ⟨F3,s3,hb⟩
            cases b with
            | true =>
              refine iteT ?_
              exact ⟨0,rfl,by omega,(fun h=>by rw [hb rfl] at h; cases h),F3,s3⟩
            | false =>
              refine iteF ?_
              exact ⟨(1+x).toNat,by rw [show (((1+x).toNat:Nat):Int)=1+x by omega]; rfl,by omega,fun _=>by omega,F3,s3⟩
      | false =>
        refine iteF ?_
        refine ⟨_,rfl,_,rfl,?_⟩
        cases st with
        | true =>
          refine iteT ?_
          refine nwT (by show 2≤64; decide) fun q2 H2 hq2 e2 s2=>?_
          refine nwT (by show 1≤64; decide) fun q3 H3 hq3 e3 s3=>?_
          refine ⟨_,rfl,_,rfl,?_⟩
          have n3:q3≠p:=(F1.same s2).ne hq3
          have n2:q2≠p:=F1.ne hq2
          refine sp_shares_i (n:=n) (m:=W) (((F1.same s2).same s3).less (by omega)) (by omega) (by omega) fun v fs H4 F4 s4 r4 ok4=>?_
          obtain ⟨a,xs,rfl,ha,rxs⟩:=(by unfold Rep at r4; exact r4)
          have e4:=s4.at n3 e3
          have e5:=s4.at n2 (s3 _ _ e2)
          refine catU e4 ha (by rw [show ([V.ref q2]:List V).length=1 from rfl,rxs.len,List.length_map,ok4.len]; omega) fun c H5 s5 e6=>?_
          refine k _ ((0,1)::fs) H5 (F4.same s5) (((s1.trans (s2.trans s3).but).trans s4).trans s5.but) (Rep.tup e6 (RepL.cons (frD_of (f:=(0,1)) (s5 _ _ e5)) (rxs.same s5))) ok4.zero (fun _=>rfl)
        | false =>
          refine iteF ?_
          refine ⟨_,rfl,_,rfl,_,_,rfl,rfl,?_⟩
          have e1:(1+(W:Int))=((1+W:Nat):Int):=by omega
          show sp_shares [.ref p,.int (1+(W:Int))] _ _ _
          rw [e1]
          refine sp_shares_i (n:=n) (m:=1+W) (F1.less (by omega)) (by omega) (by omega) fun v fs H4 F4 s4 r4 ok4=>?_
          exact k v fs H4 F4 (s1.trans s4) r4 ok4 (fun h=>by cases h)
set_option maxHeartbeats 4000000 in
theorem ok__law_sizes {f:Addr} {fd:FuncData} (F:Fun K "_law_sizes" "_law_sizes" s__law_sizes f fd) (T:Txt K mg c)
    (F__law_pick:FnC CX0 P w K mg base 1 "_law_pick" ["_law_tape_here", "_law_many"] sp_pick):FnOk P w K mg base CX0 2 f fd ["_law_tape_here"] sp_sizes:=by
  refine F.okw sc__law_sizes (fun vs H Q E h=>?_) (fun cdv A outer s H vs Q E hr h=>?_)
  · unfold sp_sizes at h
    obtain ⟨p,n,rfl,_⟩:=h
    rfl
  · unfold sp_sizes at h
    obtain ⟨p,n,rfl,F,k⟩:=h
    refine ⟨_,(wss_cons (ws_set (i:=1) sc__law_sizes.nd rfl (Or.inl rfl) (we_ix ix_seq (we_lst (wa_k we_int (wa_k we_int (wa_k we_int (wa_k we_int (wa_k we_int (wa_k we_int wa_nil))))))) (we_fn F__law_pick (hr.mono (by decide)) (wa_k (we_v 0) (wa_k we_int wa_nil))) (fun _ _=>rfl)))
      (wss_cons (ws_set (i:=2) sc__law_sizes.nd rfl (Or.inl rfl) (we_ix ix_seq (we_ix ix_seq (we_lst (wa_k (we_lst (wa_k we_int (wa_k we_int (wa_k we_int (wa_k we_int (wa_k we_int (wa_k we_int wa_nil))))))) (wa_k (we_lst (wa_k we_int (wa_k we_int (wa_k we_int (wa_k we_int (wa_k we_int (wa_k we_int wa_nil))))))) (wa_k (we_lst (wa_k we_int (wa_k we_int (wa_k we_int (wa_k we_int (wa_k we_int (wa_k we_int wa_nil))))))) wa_nil)))) (we_op op_sub (we_v 1) we_int) (fun _ _=>rfl)) (we_fn F__law_pick (hr.mono (by decide)) (wa_k (we_v 0) (wa_k we_int wa_nil))) (fun _ _=>rfl)))
      (wss_one (ws_ret (we_tup (wa_k (we_v 1) (wa_k (we_ix ix_seq (we_lst (wa_k we_int (wa_k we_int (wa_k we_int (wa_k we_int wa_nil))))) (we_fn F__law_pick (hr.mono (by decide)) (wa_k (we_v 0) (wa_k we_int wa_nil))) (fun _ _=>rfl)) (wa_k (we_v 2) wa_nil)))))))),?_⟩
    refine nwL (by show 6≤64; decide) fun q1 H1 hq1 e1 s1=>?_
    refine ⟨_,rfl,?_⟩
    refine sp_pick_i (n:=n+2) (F.same s1) (by decide) (by decide +kernel) fun x H2 x0 x1 F2 s2=>?_
    obtain ⟨v,hat,hmem,_⟩:=atI_mem (xs:=[V.int 2,V.int 2,V.int 2,V.int 3,V.int 3,V.int 4]) x0 x1
    refine ixL (s2.at (F.ne hq1) e1) hat ?_
    have S2:SameBut p H H2:=s1.but.trans s2
    have hv:∃ nF:Nat,v=.int (nF:Int)∧(nF=2∨nF=3∨nF=4):=by
      simp only [List.mem_cons,List.not_mem_nil,or_false] at hmem
      rcases hmem with rfl | rfl | rfl | rfl | rfl | rfl
      · exact ⟨2,rfl,by decide⟩
      · exact ⟨2,rfl,by decide⟩
      · exact ⟨2,rfl,by decide⟩
      · exact ⟨3,rfl,by decide⟩
      · exact ⟨3,rfl,by decide⟩
      · exact ⟨4,rfl,by decide⟩
    obtain ⟨nF,rfl,hF⟩:=hv
    clear hat hmem e1 hq1 s1 s2
    refine nwL (by show 6≤64; decide) fun q2 H3 hq2 e2 s3=>?_
    refine nwL (by show 6≤64; decide) fun q3 H4 hq3 e3 s4=>?_
    refine nwL (by show 6≤64; decide) fun q4 H5 hq4 e4 s5=>?_
    refine nwL (by show 3≤64; decide) fun q5 H6 hq5 e5 s6=>?_
    refine ⟨_,rfl,_,_,rfl,rfl,?_⟩
    have F6:=(((F2.same s3).same s4).same s5).same s6
    have S6:SameBut p H H6:=S2.trans (((s3.trans s4).trans s5).trans s6).but
    have g2:=s6 _ _ (s5 _ _ (s4 _ _ e2))
    have g3:=s6 _ _ (s5 _ _ e3)
    have g4:=s6 _ _ e4
    have hrow:∃ (qq:Addr) (ms:List Int),atI [V.ref q2,V.ref q3,V.ref q4] ((nF:Int) - 2)=some (.ref qq)∧H6 qq=some (.lst (ms.map V.int))∧ms.length=6∧∀ m∈ms,∃ M:Nat,m=(M:Int)∧(nF=2∧M≤4∨nF=3∧M≤3∨nF=4∧M≤2):=by
      rcases hF with rfl | rfl | rfl
      · refine ⟨q2,[1,2,3,4,0,3],rfl,g2,rfl,fun m hm=>⟨m.toNat,?_⟩⟩
        simp only [List.mem_cons,List.not_mem_nil,or_false] at hm
        omega
      · refine ⟨q3,[1,2,3,2,0,2],rfl,g3,rfl,fun m hm=>⟨m.toNat,?_⟩⟩
        simp only [List.mem_cons,List.not_mem_nil,or_false] at hm
        omega
      · refine ⟨q4,[1,2,2,1,0,2],rfl,g4,rfl,fun m hm=>⟨m.toNat,?_⟩⟩
        simp only [List.mem_cons,List.not_mem_nil,or_false] at hm
        omega
    obtain ⟨qq,ms,hat,hqq,hms,hall⟩:=hrow
    refine ixL e5 hat ?_
    refine ⟨_,rfl,?_⟩
    refine sp_pick_i (n:=n+1) F6 (by decide) (by decide +kernel) fun y H7 y0 y1 F7 s7=>?_
    obtain ⟨m,hm⟩:∃ m,ms[y.toNat]?=some m:=⟨_,List.getElem?_eq_getElem (by omega)⟩
    have hat2:atI (ms.map V.int) y=some (.int m):=by
      have:=atI_nat (xs:=ms.map V.int) (j:=y.toNat) (v:=V.int m) (by rw [List.getElem?_map,hm]; rfl)
      rwa [Int.toNat_of_nonneg y0] at this
    obtain ⟨M,rfl,hM⟩:=hall m (List.mem_iff_getElem?.mpr ⟨_,hm⟩)
    refine ixL (s7.at (F6.neL hqq) hqq) hat2 ?_
    refine ⟨_,rfl,?_⟩
    refine nwL (by show 4≤64; decide) fun q8 H8 hq8 e8 s8=>?_
    refine ⟨_,rfl,?_⟩
    refine sp_pick_i (n:=n) (F7.same s8) (by decide) (by decide +kernel) fun z H9 z0 z1 F9 s9=>?_
    obtain ⟨v,hat3,hmem3,_⟩:=atI_mem (xs:=[V.int 2,V.int 2,V.int 3,V.int 4]) z0 z1
    refine ixL (s9.at (F7.ne hq8) e8) hat3 ?_
    have hv:∃ nW:Nat,v=.int (nW:Int)∧(2≤nW∧nW≤4):=by
      simp only [List.mem_cons,List.not_mem_nil,or_false] at hmem3
      rcases hmem3 with rfl | rfl | rfl | rfl
      · exact ⟨2,rfl,by decide⟩
      · exact ⟨2,rfl,by decide⟩
      · exact ⟨3,rfl,by decide⟩
      · exact ⟨4,rfl,by decide⟩
    obtain ⟨nW,rfl,hW⟩:=hv
    refine ⟨_,rfl,?_⟩
    refine nwT (by show 3≤64; decide) fun q10 H10 hq10 e10 s10=>?_
    exact k q10 nF nW M H10 ⟨hW,hM⟩ (F9.same s10) ((((S6.trans s7).trans s8.but).trans s9).trans s10.but) e10
end
def bump (cs:List Int) (i:Nat):List Int:=cs.take i++[cs.getD i 0+1]++cs.drop (i+1)
def nexts (cs:List Int) (f:Fr):List (List Int):=if f=(0,1) then [] else (List.range cs.length).map (bump cs)
theorem RepL.atX {H:Hp} {α:Type} {g:α→PyData} {as:List α} {xs:List V} (r:RepL H (as.map g) xs) {i:Nat} {a:α} (h:as[i]?=some a):∃ x,xs[i]?=some x∧Rep H (g a) x:=by
  induction as generalizing xs i with
  | nil=>simp at h
  | cons b as ih =>
    rw [List.map_cons] at r
    unfold RepL at r
    obtain ⟨x,xs',rfl,r1,r2⟩:=r
    cases i with
    | zero=>cases (show b=a by simpa using h); exact ⟨x,rfl,r1⟩
    | succ i=>exact ih r2 (by simpa using h)
theorem shD_at {H:Hp} {fs:List Fr} {v:V} (h:Rep H (shD fs) v):∃ a xs,v=.ref a∧H a=some (.tup xs)∧RepL H (fs.map frD) xs:=by
  unfold Rep at h; exact h
theorem slA_loE {K:PySem.W.Frag} {H:Hp} {a:Addr} {xs:List V} {k:Nat} {z:Int} {Q:VK} (hz:z=(k:Int)) (h:H a=some (.tup xs)) (q:∀ c H',Same H H'→H' c=some (.tup (xs.drop k))→Q (.ref c) H'):rSlA K (.ref a) (some z) none H Q:=by
  subst hz; exact slA_lo h q
@[irreducible] def sp_next:Sp:=fun vs H Q _=>∃ (x y:V) (cs:List Int) (f:Fr) (fs:List Fr),vs=[x,y]∧Rep H (ctD cs) x∧Rep H (shD (f::fs)) y∧cs.length≤4∧fs.length≤4 ∧
  ∀ D ys H',H D=none→H' D=some (.lst ys)→RepL H' ((nexts cs f).map ctD) ys→Same H H'→Q (.ref D) H'
theorem sp_next_i {H:Hp} {Q:VK} {E:XK} {x y:V} {cs:List Int} {f:Fr} {fs:List Fr} (h1:Rep H (ctD cs) x) (h2:Rep H (shD (f::fs)) y) (h3:cs.length≤4) (h4:fs.length≤4)
    (k:∀ D ys H',H D=none→H' D=some (.lst ys)→RepL H' ((nexts cs f).map ctD) ys→Same H H'→Q (.ref D) H'):sp_next [x,y] H Q E:=by
  unfold sp_next; exact ⟨x,y,cs,f,fs,rfl,h1,h2,h3,h4,k⟩
theorem eqv_int (x y:Int):PyData.eqv (.int x) (.int y)=decide (x=y):=by
  show (x == y)=_
  rw [Bool.beq_eq_decide_eq]
theorem eqv_ints:∀ a b:List Int,PyData.eqvAll (a.map PyData.int) (b.map PyData.int)=decide (a=b)
  | [],[]=>by simp [PyData.eqvAll]
  | [],_::_=>by simp [PyData.eqvAll]
  | _::_,[]=>by simp [PyData.eqvAll]
  | x::a,y::b=>by
    have ih:=eqv_ints a b
    rw [List.map_cons,List.map_cons]
    show (PyData.eqv (.int x) (.int y)&&PyData.eqvAll _ _)=_
    rw [ih,eqv_int]
    by_cases h:x=y <;> by_cases h':a=b <;> simp [h,h']
theorem eqv_ct (a b:List Int):PyData.eqv (ctD a) (ctD b)=decide (a=b):=eqv_ints a b
theorem eqv_fr (f g:Fr):PyData.eqv (frD f) (frD g)=decide (f=g):=by
  have h:=eqv_ct [f.1,f.2] [g.1,g.2]
  refine (show PyData.eqv (frD f) (frD g)=_ from h).trans ?_
  obtain ⟨f1,f2⟩:=f
  obtain ⟨g1,g2⟩:=g
  simp
section
variable {P:Program} {w:World} {K:PySem.W.Frag} {mg:Str→Option Value} {base:Heap} {c:Cl}
set_option maxHeartbeats 4000000 in
theorem ok__law_next {f:Addr} {fd:FuncData} (F:Fun K "_law_next" "_law_next" s__law_next f fd) (T:Txt K mg c):FnOk P w K mg base CX0 1 f fd ["_law_counts", "_law_says_here"] sp_next:=by
  refine F.okw sc__law_next (fun vs H Q E h=>?_) (fun cdv A outer s H vs Q E hr h=>?_)
  · unfold sp_next at h
    obtain ⟨x,y,cs,f,fs,rfl,_⟩:=h
    rfl
  · unfold sp_next at h
    obtain ⟨x,y,cs,g,fs,rfl,rx,ry,h4,h5,k⟩:=h
    obtain ⟨a,rfl,ha⟩:=ctD_at rx
    obtain ⟨b,xs,rfl,hb,rxs⟩:=shD_at ry
    obtain ⟨z,hz,rz⟩:=RepL.atX (as:=g::fs) rxs (i:=0) (a:=g) rfl
    refine ⟨_,(wss_cons (ws_if (wt_cmp (op_eqD hr.units) (we_ix ix_seq (we_v 1) we_int (fun _ _=>rfl)) (we_tup (wa_k we_int (wa_k we_int wa_nil))) (nomark _)) (wss_one (ws_ret (we_lst wa_nil))) wss_nil)
      (wss_one (ws_ret (we_comp (CScope.of (psc:=defScope s__law_next) (N:=["_law_counts", "_law_says_here"]) (N':=["_law_face", "_law_counts"]) (js:=[0]) (by decide +kernel) rfl rfl rfl) (wi_range1 rfl T.b_range (wa_k (we_cB cl_len (by rfl) T.b_len (by decide +kernel) (wa_k (we_v 0) wa_nil)) wa_nil)) (fun _ _ _ _=>wts_nil) (fun _ _ _ _=>(we_op (op_catU K) (we_op (op_catU K) (we_slice (sl_tupA K) (we_v 1) wo_none (wo_some (we_v 0))) (we_tup (wa_k (we_op op_add (we_ix (ix_seqK K) (we_v 1) (we_v 0) (fun _ _=>rfl)) we_int) wa_nil))) (we_slice (sl_tupA K) (we_v 1) (wo_some (we_op op_add (we_v 0) we_int)) wo_none))))))),?_⟩
    refine ⟨_,rfl,?_⟩
    refine ixT hb (v:=z) (by
      have:=atI_nat (xs:=xs) (j:=0) (v:=z) hz
      exact this) ?_
    refine nwT (by show 2≤64; decide) fun q1 H1 hq1 e1 s1=>?_
    have r1:Rep H1 (frD (0,1)) (.ref q1):=frD_of e1
    refine reD (rz.same s1) r1 rfl rfl ?_
    rw [eqv_fr]
    refine ⟨_,rfl,?_⟩
    rw [Bool.true_beq]
    refine iteD (fun eg=>?_) (fun eg=>?_)
    · refine nwL (by show 0≤64; decide) fun q2 H2 hq2 e2 s2=>?_
      refine k q2 [] H2 (s1.free hq2) e2 ?_ (s1.trans s2)
      unfold nexts
      rw [if_pos eg]
      exact RepL.nil
    · refine ⟨_,rfl,?_⟩
      refine rlT (s1 _ _ ha) ?_
      rw [List.length_map]
      refine ⟨_,rfl,by omega,by omega,?_⟩
      refine comp_mapR (fun i y H'=>i<cs.length∧Rep H' (ctD (bump cs i)) y) (fun i y H1 H2 s ⟨h1,h2⟩=>⟨h1,h2.flat s (ctD_flat _)⟩) (by omega) (fun i H' Q' hi s' k'=>?_) (fun D ys H4 hD hD4 s4 hy4 hr4=>?_)
      · rw [Int.zero_add]
        have hi':i<cs.length:=by omega
        have ha':=s' _ _ (s1 _ _ ha)
        refine ⟨_,rfl,_,rfl,_,rfl,?_⟩
        refine slA_hi ha' fun c2 H2 s2 e2=>?_
        refine ⟨_,rfl,_,rfl,?_⟩
        have hat:atI (cs.map V.int) (i:Int)=some (.int (cs.getD i 0)):=atI_nat (by rw [List.getElem?_map,List.getD_eq_getElem?_getD,List.getElem?_eq_getElem hi']; rfl)
        refine ixT (s2 _ _ ha') hat ?_
        refine ⟨_,_,rfl,rfl,?_⟩
        refine nwT (by show 1≤64; decide) fun c3 H3 hc3 e3 s3=>?_
        refine catU (s3 _ _ e2) e3 (by rw [List.length_take,List.length_map]; show min i cs.length+1≤1000; omega) fun c4 H4 s4 e4=>?_
        refine ⟨_,rfl,_,rfl,_,_,rfl,rfl,?_⟩
        refine ⟨_,rfl,?_⟩
        refine slA_loE (k:=i+1) (by omega) (s4 _ _ (s3 _ _ (s2 _ _ ha'))) fun c5 H5 s5 e5=>?_
        refine catU (s5 _ _ e4) e5 (by rw [List.length_append,List.length_take,List.length_drop,List.length_map]; show min i cs.length+1+(cs.length - (i+1))≤1000; omega) fun c6 H6 s6 e6=>?_
        refine k' _ H6 ((((s2.trans s3).trans s4).trans s5).trans s6) ⟨hi',ctD_of ?_⟩
        rw [e6]
        unfold bump
        rw [List.map_append,List.map_append,List.map_take,List.map_drop]
        rfl
      · refine k D ys H4 (s1.free hD) hD4 ?_ (s1.trans s4)
        unfold nexts
        rw [if_neg eg]
        refine RepL.ofIdx (by rw [hy4,List.length_map,List.length_map,List.length_range]; omega) fun i y hi=>?_
        obtain ⟨h1,h2⟩:=hr4 i y hi
        exact ⟨ctD (bump cs i),by rw [List.getElem?_map,List.getElem?_map,List.getElem?_range h1]; rfl,h2⟩
end
theorem nodup_len {α:Type} [DecidableEq α]:∀ {l m:List α},l.Nodup→(∀ x∈l,x∈m)→l.length≤m.length
  | [],m,_,_=>Nat.zero_le _
  | x::l,m,h,hs=>by
    rw [List.nodup_cons] at h
    have hx:=hs x (List.mem_cons_self ..)
    have h1:=nodup_len (l:=l) (m:=m.erase x) h.2 fun y hy=>(List.mem_erase_of_ne (fun e=>by subst e; exact h.1 hy)).mpr (hs y (List.mem_cons_of_mem _ hy))
    rw [List.length_erase_of_mem hx] at h1
    have:0<m.length:=List.length_pos_of_mem hx
    rw [List.length_cons]
    omega
def allC:Nat→Nat→List (List Int)
  | 0,m=>if m=0 then [[]] else []
  | F+1,m=>(List.range (m+1)).flatMap fun k=>(allC F (m - k)).map fun c=>((k:Nat):Int)::c
theorem nn_sum:∀ {c:List Int},(∀ x∈c,0≤x)→0≤c.sum
  | [],_=>by simp
  | x::c,h=>by
    have h1:=nn_sum (c:=c) fun y hy=>h y (List.mem_cons_of_mem _ hy)
    have h2:=h x (List.mem_cons_self ..)
    rw [List.sum_cons]; omega
theorem allC_mem:∀ {F m:Nat} {c:List Int},c.length=F→(∀ x∈c,0≤x)→c.sum=(m:Int)→c∈allC F m
  | 0,m,c,hl,_,hs=>by
    cases c with
    | nil =>
      rw [List.sum_nil] at hs
      unfold allC
      rw [if_pos (by omega)]
      exact List.mem_cons_self ..
    | cons _ _=>simp at hl
  | F+1,m,c,hl,hn,hs=>by
    cases c with
    | nil=>simp at hl
    | cons x c =>
      have h2:=hn x (List.mem_cons_self ..)
      have hn':∀ y∈c,0≤y:=fun y hy=>hn y (List.mem_cons_of_mem _ hy)
      have h1:=nn_sum hn'
      rw [List.sum_cons] at hs
      unfold allC
      refine List.mem_flatMap.mpr ⟨x.toNat,List.mem_range.mpr (by omega),List.mem_map.mpr ⟨c,allC_mem (by simpa using hl) hn' (by omega),?_⟩⟩
      rw [show ((x.toNat:Nat):Int)=x by omega]
structure CtOk (F:Nat) (j:Nat) (c:List Int):Prop where
  len:c.length=F
  nn:∀ x∈c,0≤x
  sum:c.sum=(j:Int)
structure LvOk (F:Nat) (j:Nat) (cs:List (List Int)):Prop where
  nd:cs.Nodup
  each:∀ c∈cs,CtOk F j c
theorem lens_ok:(∀ m≤4,(allC 2 m).length<64)∧(∀ m≤3,(allC 3 m).length<64)∧(∀ m≤2,(allC 4 m).length<64):=by decide
theorem LvOk.few {F W M j:Nat} {cs:List (List Int)} (h:LvOk F j cs) (z:SzOk F W M) (hj:j≤M):cs.length<64:=by
  have h1:=nodup_len h.nd fun c hc=>allC_mem (h.each c hc).len (h.each c hc).nn (h.each c hc).sum
  obtain ⟨l2,l3,l4⟩:=lens_ok
  rcases z.f with ⟨rfl,hM⟩ | ⟨rfl,hM⟩ | ⟨rfl,hM⟩
  · exact Nat.lt_of_le_of_lt h1 (l2 j (by omega))
  · exact Nat.lt_of_le_of_lt h1 (l3 j (by omega))
  · exact Nat.lt_of_le_of_lt h1 (l4 j (by omega))
theorem bump_set {cs:List Int} {i:Nat} (h:i<cs.length):bump cs i=cs.set i (cs.getD i 0+1):=by
  unfold bump
  rw [List.set_eq_take_append_cons_drop,if_pos h,List.append_assoc]; rfl
theorem bump_ok {F j:Nat} {c:List Int} (h:CtOk F j c) {i:Nat} (hi:i<c.length):CtOk F (j+1) (bump c i):=by
  have hg:c.getD i 0∈c:=by
    rw [List.getD_eq_getElem?_getD,List.getElem?_eq_getElem hi]; exact List.getElem_mem hi
  refine ⟨by rw [bump_set hi,List.length_set]; exact h.len,fun x hx=>?_,?_⟩
  · rw [bump_set hi] at hx
    rcases List.mem_or_eq_of_mem_set hx with hx | rfl
    · exact h.nn x hx
    · have:=h.nn _ hg; omega
  · have e:c=c.take i++[c.getD i 0]++c.drop (i+1):=by
      have e1:c.getD i 0=c[i]:=by rw [List.getD_eq_getElem?_getD,List.getElem?_eq_getElem hi]; rfl
      rw [e1,List.append_assoc,List.singleton_append,← List.drop_eq_getElem_cons hi,List.take_append_drop]
    have hs:=h.sum
    have e2:c.sum=(c.take i).sum+c.getD i 0+(c.drop (i+1)).sum:=by
      conv=>lhs; rw [e]
      rw [List.sum_append,List.sum_append,List.sum_singleton]
    unfold bump
    rw [List.sum_append,List.sum_append,List.sum_singleton]
    omega
theorem bump_inj {c:List Int} {i k:Nat} (hi:i<c.length) (hk:k<c.length) (e:bump c i=bump c k):i=k:=by
  by_cases h:i=k
  · exact h
  · rw [bump_set hi,bump_set hk] at e
    have e1:=congrArg (fun l=>l[i]?) e
    rw [List.getElem?_set_self (by simpa using hi),List.getElem?_set_ne (Ne.symm h),List.getElem?_eq_getElem hi,List.getD_eq_getElem?_getD,List.getElem?_eq_getElem hi] at e1
    injection e1 with e1
    exact absurd e1 (by show ¬ (c[i]+1=c[i]); omega)
theorem nodup_map_on {α β:Type} {f:α→β}:∀ {l:List α},l.Nodup→(∀ x∈l,∀ y∈l,f x=f y→x=y)→(l.map f).Nodup
  | [],_,_=>List.nodup_nil
  | x::l,h,k=>by
    rw [List.nodup_cons] at h
    rw [List.map_cons,List.nodup_cons]
    refine ⟨fun hm=>?_,nodup_map_on h.2 fun a ha b hb=>k a (List.mem_cons_of_mem _ ha) b (List.mem_cons_of_mem _ hb)⟩
    obtain ⟨y,hy,e⟩:=List.mem_map.mp hm
    have:=k y (List.mem_cons_of_mem _ hy) x (List.mem_cons_self ..) e
    subst this
    exact h.1 hy
theorem nexts_ok {F j:Nat} {c:List Int} (h:CtOk F j c) (f:Fr):LvOk F (j+1) (nexts c f):=by
  unfold nexts
  split
  · exact ⟨List.nodup_nil,fun c hc=>by cases hc⟩
  · refine ⟨nodup_map_on List.nodup_range fun x hx y hy e=>bump_inj (by simpa using hx) (by simpa using hy) e,fun d hd=>?_⟩
    obtain ⟨i,hi,rfl⟩:=List.mem_map.mp hd
    exact bump_ok h (by simpa using hi)
theorem LvOk.more {F j:Nat} {ls ms:List (List Int)} (h1:LvOk F j ls) (h2:LvOk F j ms):LvOk F j (ls++ms.filter fun c=>!decide (c∈ls)):=by
  refine ⟨List.nodup_append.mpr ⟨h1.nd,h2.nd.filter _,fun a ha b hb e=>?_⟩,fun c hc=>?_⟩
  · subst e
    have:=(List.mem_filter.mp hb).2
    simp [ha] at this
  · rcases List.mem_append.mp hc with hc | hc
    · exact h1.each c hc
    · exact h2.each c (List.mem_filter.mp hc).1
theorem LvOk.perm {F j:Nat} {ls ms:List (List Int)} (h:LvOk F j ls) (p:ms.Perm ls):LvOk F j ms:=⟨p.nodup_iff.mpr h.nd,fun c hc=>h.each c (p.mem_iff.mp hc)⟩
theorem perm_ix {α:Type} (d:α) {cs:List α} {ix:List Nat} (h:ix.Perm (List.range cs.length)):(ix.map fun i=>cs.getD i d).Perm cs:=by
  have h1:=h.map fun i=>cs.getD i d
  have e:(List.range cs.length).map (fun i=>cs.getD i d)=cs:=by
    apply List.ext_getElem?
    intro i
    rw [List.getElem?_map]
    by_cases hi:i<cs.length
    · rw [List.getElem?_range hi,List.getElem?_eq_getElem hi,Option.map_some,List.getD_eq_getElem?_getD,List.getElem?_eq_getElem hi]; rfl
    · rw [List.getElem?_eq_none (by simpa using hi),List.getElem?_eq_none (by omega)]; rfl
  rwa [e] at h1
abbrev Ent:=List Int × List Fr
abbrev enD (e:Ent):PyData:=.tuple [ctD e.1,shD e.2]
abbrev ruD (es:List Ent):PyData:=.tuple (es.map enD)
theorem enD_flat (e:Ent):flatD (enD e)=true:=by
  show (flatD (ctD e.1)&&(flatD (shD e.2)&&true))=true
  rw [ctD_flat,shD_flat]; rfl
def hd (fs:List Fr):Fr:=fs.headD (0,1)
structure Clo (F:Nat) (es:List Ent) (cs:List (List Int)):Prop where
  fwd:∀ e∈es,∀ c∈nexts e.1 (hd e.2),c∈es.map (·.1)∨c∈cs
  bwd:∀ c,c∈es.map (·.1)∨c∈cs→c=List.replicate F 0∨∃ e∈es,c∈nexts e.1 (hd e.2)
  zero:List.replicate F 0∈es.map (·.1)∨List.replicate F 0∈cs
def LvFrom (ls:List (List Int)) (ne:List Ent):Prop:=∀ c,c∈ls ↔ ∃ e∈ne,c∈nexts e.1 (hd e.2)
theorem LvFrom.more {ls:List (List Int)} {ne:List Ent} {e:Ent} (h:LvFrom ls ne):LvFrom (ls++(nexts e.1 (hd e.2)).filter fun c=>!decide (c∈ls)) (ne++[e]):=fun c=>by
  rw [List.mem_append,List.mem_filter]
  constructor
  · rintro (hl | ⟨hc,_⟩)
    · obtain ⟨a,ha,hc⟩:=(h c).mp hl
      exact ⟨a,List.mem_append_left _ ha,hc⟩
    · exact ⟨e,List.mem_append_right _ (List.mem_singleton.mpr rfl),hc⟩
  · rintro ⟨a,ha,hc⟩
    rcases List.mem_append.mp ha with ha | ha
    · exact .inl ((h c).mpr ⟨a,ha,hc⟩)
    · rw [List.mem_singleton] at ha
      subst ha
      by_cases hl:c∈ls
      · exact .inl hl
      · exact .inr ⟨hc,by simp [hl]⟩
theorem Clo.step {F:Nat} {es ne:List Ent} {cs cs2 ls:List (List Int)} (h:Clo F es cs) (hp:cs2.Perm cs) (hm:ne.map (·.1)=cs2) (hl:LvFrom ls ne):Clo F (es++ne) ls:=by
  have hk:∀ c,c∈(es++ne).map (·.1)↔c∈es.map (·.1)∨c∈cs:=fun c=>by rw [List.map_append,List.mem_append,hm,hp.mem_iff]
  refine ⟨fun e he c hc=>?_,fun c hc=>?_,.inl ((hk _).mpr h.zero)⟩
  · rcases List.mem_append.mp he with he | he
    · exact .inl ((hk c).mpr (h.fwd e he c hc))
    · exact .inr ((hl c).mpr ⟨e,he,hc⟩)
  · rcases hc with hc | hc
    · rcases h.bwd c ((hk c).mp hc) with h0 | ⟨e,he,h1⟩
      · exact .inl h0
      · exact .inr ⟨e,List.mem_append_left _ he,h1⟩
    · obtain ⟨e,he,h1⟩:=(hl c).mp hc
      exact .inr ⟨e,List.mem_append_right _ he,h1⟩
def rk (a b:List Int):Prop:=a.sum<b.sum∨a.sum=b.sum∧lexB a b=true
structure RuOk (F W M:Nat) (es:List Ent):Prop where
  ne:es≠[]
  nd:(es.map (·.1)).Nodup
  each:∀ e∈es,e.1.length=F∧(∀ x∈e.1,0≤x)∧e.1.sum≤(M:Int)∧SyOk (1+W) e.2
  asc:(es.map fun e=>e.1.sum).Pairwise (· ≤ ·)
  len:es.length≤320
  clo:Clo F es []
  rise:(es.map (·.1)).Pairwise rk
structure RuTo (F W M j:Nat) (es:List Ent):Prop where
  nd:(es.map (·.1)).Nodup
  each:∀ e∈es,e.1.length=F∧(∀ x∈e.1,0≤x)∧e.1.sum<(j:Int)∧e.1.sum≤(M:Int)∧SyOk (1+W) e.2
  asc:(es.map fun e=>e.1.sum).Pairwise (· ≤ ·)
  len:es.length≤64*j
  rise:(es.map (·.1)).Pairwise rk
structure RuIn (F W M j:Nat) (es0 es:List Ent) (cs:List (List Int)):Prop where
  ex:∃ ne:List Ent,es=es0++ne∧ne.map (·.1)=cs∧∀ e∈ne,SyOk (1+W) e.2
theorem RuIn.done {F W M j:Nat} {es0 es:List Ent} {cs:List (List Int)} (h0:RuTo F W M j es0) (h:RuIn F W M j es0 es cs) (l:LvOk F j cs) (hj:j≤M) (hl:cs.length≤64) (hx:cs.Pairwise fun a b=>lexB a b=true):RuTo F W M (j+1) es:=by
  obtain ⟨ne,rfl,hm,hs⟩:=h.ex
  have hin:∀ e∈ne,CtOk F j e.1:=fun e he=>l.each e.1 (hm ▸ List.mem_map_of_mem he)
  refine ⟨?_,fun e he=>?_,?_,?_,?_⟩
  · rw [List.map_append]
    refine List.nodup_append.mpr ⟨h0.nd,hm ▸ l.nd,fun a ha b hb e=>?_⟩
    subst e
    obtain ⟨e1,m1,rfl⟩:=List.mem_map.mp ha
    have:=(h0.each e1 m1).2.2.1
    rw [hm] at hb
    have:=(l.each _ hb).sum
    omega
  · rcases List.mem_append.mp he with he | he
    · obtain ⟨a1,a2,a3,a4,a5⟩:=h0.each e he
      exact ⟨a1,a2,by omega,a4,a5⟩
    · have c:=hin e he
      have:=c.sum
      exact ⟨c.len,c.nn,by omega,by omega,hs e he⟩
  · rw [List.map_append]
    refine List.pairwise_append.mpr ⟨h0.asc,?_,fun a ha b hb=>?_⟩
    · have:∀ x∈ne.map (fun e=>e.1.sum),x=(j:Int):=fun x hx=>by
        obtain ⟨e,he,rfl⟩:=List.mem_map.mp hx
        exact (hin e he).sum
      exact List.pairwise_of_forall_mem_list fun a ha b hb=>by rw [this a ha,this b hb]; exact Int.le_refl _
    · obtain ⟨e1,m1,rfl⟩:=List.mem_map.mp ha
      obtain ⟨e2,m2,rfl⟩:=List.mem_map.mp hb
      have:=(h0.each e1 m1).2.2.1
      have:=(hin e2 m2).sum
      omega
  · have hne:ne.length=cs.length:=by rw [← hm,List.length_map]
    have:=h0.len
    rw [List.length_append]
    omega
  · rw [List.map_append,hm]
    refine List.pairwise_append.mpr ⟨h0.rise,hx.imp_of_mem fun ha hb h=>.inr ⟨((l.each _ ha).sum).trans ((l.each _ hb).sum).symm,h⟩,fun a ha b hb=>?_⟩
    obtain ⟨e1,m1,rfl⟩:=List.mem_map.mp ha
    have:=(h0.each e1 m1).2.2.1
    have:=(l.each b hb).sum
    exact .inl (by omega)
theorem RuTo.rule {F W M j:Nat} {es:List Ent} (h:RuTo F W M j es) (hj:j≤5) (hne:es≠[]) (cl:Clo F es []):RuOk F W M es :=
  ⟨hne,h.nd,fun e he=>⟨(h.each e he).1,(h.each e he).2.1,(h.each e he).2.2.2.1,(h.each e he).2.2.2.2⟩,h.asc,by have:=h.len; omega,cl,h.rise⟩
@[irreducible] def sp_rule:Sp:=fun vs H Q _=>∃ (p:Addr) (n F W M:Nat) (pl:Bool),vs=[.ref p,.int (F:Int),.int (W:Int),.int (M:Int),.bl pl]∧TapeAt H p (n+8192)∧SzOk F W M∧∀ v es H',TapeAt H' p n→SameBut p H H'→Rep H' (ruD es) v→RuOk F W M es→Q v H'
theorem sp_rule_i {H:Hp} {Q:VK} {E:XK} {p:Addr} {n F W M:Nat} {pl:Bool} (T:TapeAt H p (n+8192)) (z:SzOk F W M) (k:∀ v es H',TapeAt H' p n→SameBut p H H'→Rep H' (ruD es) v→RuOk F W M es→Q v H'):sp_rule [.ref p,.int (F:Int),.int (W:Int),.int (M:Int),.bl pl] H Q E:=by
  unfold sp_rule; exact ⟨p,n,F,W,M,pl,rfl,T,z,k⟩
theorem cs_shaped (cs:List (List Int)):SeqAt.shaped (.list (cs.map ctD))=true:=by
  have hl:∀ cs:List (List Int),PyData.canLayAll0 (cs.map ctD)=true:=fun cs=>by
    induction cs with
    | nil=>rfl
    | cons c cs ih =>
      show (PyData.canLay0 (ctD c)&&PyData.canLayAll0 (cs.map ctD))=true
      rw [ih,show PyData.canLay0 (ctD c)=PyData.canLayAll0 (c.map .int) from rfl,layIs]; rfl
  have hd:∀ cs:List (List Int),PyData.depthAll (cs.map ctD)≤2:=fun cs=>by
    induction cs with
    | nil=>show 0≤2; omega
    | cons c cs ih =>
      show max (PyData.depth (ctD c)) (PyData.depthAll (cs.map ctD))≤2
      have:=depIs c
      have:PyData.depth (ctD c)≤2:=by simp only [PyData.depth]; omega
      omega
  unfold SeqAt.shaped
  rw [show PyData.canLay0 (.list (cs.map ctD))=PyData.canLayAll0 (cs.map ctD) from rfl,hl,Bool.true_and,decide_eq_true_eq]
  have:=hd cs
  simp only [PyData.depth]
  omega
theorem eqv_nil (cs:List (List Int)):PyData.eqv (.list (cs.map ctD)) (.list [])=decide (cs=[]):=by
  cases cs with
  | nil=>rfl
  | cons c cs=>show PyData.eqvAll (ctD c::cs.map ctD) []=_; simp [PyData.eqvAll]
theorem cts_flat:∀ cs:List (List Int),flatDs (cs.map ctD)=true
  | []=>rfl
  | c::cs=>by show (flatD (ctD c)&&flatDs (cs.map ctD))=true; rw [ctD_flat,cts_flat cs]; rfl
theorem ens_flat:∀ es:List Ent,flatDs (es.map enD)=true
  | []=>rfl
  | e::es=>by show (flatD (enD e)&&flatDs (es.map enD))=true; rw [enD_flat,ens_flat es]; rfl
theorem repl_ix {H:Hp} {cs:List (List Int)} {ws:List V} (r:RepL H (cs.map ctD) ws):∀ ix:List Nat,(∀ i∈ix,i<cs.length)→RepL H ((ix.map fun i=>cs.getD i []).map ctD) (ix.map fun i=>ws.getD i .non)
  | [],_=>RepL.nil
  | i::ix,h=>by
    have hi:=h i (List.mem_cons_self ..)
    obtain ⟨x,hx,rx⟩:=RepL.atX r (i:=i) (a:=cs[i]) (by simp [hi])
    have e1:cs.getD i []=cs[i]:=by simp [hi]
    have e2:ws.getD i .non=x:=by rw [List.getD_eq_getElem?_getD,hx]; rfl
    refine RepL.cons ?_ (repl_ix r ix fun j hj=>h j (List.mem_cons_of_mem _ hj))
    show Rep H (ctD (cs.getD i [])) (ws.getD i .non)
    rw [e1,e2]; exact rx
theorem RuIn.snoc {F W M j:Nat} {es0 es:List Ent} {cs:List (List Int)} {c:List Int} {fs:List Fr} (h:RuIn F W M j es0 es cs) (ok:SyOk (1+W) fs):RuIn F W M j es0 (es++[(c,fs)]) (cs++[c]):=by
  obtain ⟨ne,rfl,hm,hs⟩:=h.ex
  refine ⟨ne++[(c,fs)],by rw [List.append_assoc],by rw [List.map_append,hm]; rfl,fun e he=>?_⟩
  rcases List.mem_append.mp he with he | he
  · exact hs e he
  · rw [List.mem_singleton] at he; subst he; exact ok
theorem RuIn.len {F W M j:Nat} {es0 es:List Ent} {cs:List (List Int)} (h:RuIn F W M j es0 es cs):es.length=es0.length+cs.length:=by
  obtain ⟨ne,rfl,hm,hs⟩:=h.ex
  rw [List.length_append,← hm,List.length_map]
section
variable {P:Program} {w:World} {K:PySem.W.Frag} {mg:Str→Option Value} {base:Heap} {c:Cl}
set_option maxHeartbeats 4000000 in
theorem ok__law_rule {f:Addr} {fd:FuncData} (F:Fun K "_law_rule" "_law_rule" s__law_rule f fd) (T:Txt K mg c)
    (F__law_says:FnC CX0 P w K mg base 3 "_law_says" ["_law_tape_here", "_law_ways", "_law_stops", "_law_plain"] sp_says) (F__law_next:FnC CX0 P w K mg base 1 "_law_next" ["_law_counts", "_law_says_here"] sp_next):FnOk P w K mg base CX0 4 f fd ["_law_tape_here", "_law_faces", "_law_ways", "_law_most", "_law_plain"] sp_rule:=by
  refine F.okw sc__law_rule (fun vs H Q E h=>?_) (fun cdv A outer s H vs Q E hr h=>?_)
  · unfold sp_rule at h
    obtain ⟨p,n,F,W,M,pl,rfl,_⟩:=h
    rfl
  · unfold sp_rule at h
    obtain ⟨p,n,F,W,M,pl,rfl,TP,Z,k⟩:=h
    refine ⟨_,(wss_cons (ws_set (i:=5) sc__law_rule.nd rfl (Or.inl rfl) (we_lst wa_nil))
      (wss_cons (ws_set (i:=6) sc__law_rule.nd rfl (Or.inl rfl) (we_lst (wa_k (we_op op_mulT (we_tup (wa_k we_int wa_nil)) (we_v 1)) wa_nil)))
      (wss_cons (ws_while PassesOwn.never (wt_cmp (op_neD hr.units) (we_v 6) (we_lst wa_nil) (nomark _)) (wss_cons (ws_set (i:=7) sc__law_rule.nd rfl (Or.inr rfl) (we_lst wa_nil))
      (wss_cons (ws_for PassesOwn.never rfl (wi_list (we_cB (cl_srt K) (by rfl) T.b_sorted (by decide +kernel) (wa_k (we_v 6) wa_nil))) (wg_name (i:=8) sc__law_rule.nd rfl (Or.inl rfl)) (wss_cons (ws_set (i:=9) sc__law_rule.nd rfl (Or.inl rfl) (we_fn F__law_says (hr.mono (by decide)) (wa_k (we_v 0) (wa_k (we_v 2) (wa_k (we_cmp op_eq (we_cB (cl_sumT K rfl) (by rfl) T.b_sum (by decide +kernel) (wa_k (we_v 8) wa_nil)) (we_v 3) (nomark _)) (wa_k (we_v 4) wa_nil))))))
      (wss_cons (ws_expr (we_bm PySem.F.plainAttrs_list PySem.F.slot_list_append PySem.F.type_list_append mt_app (we_v 5) (wa_k (we_tup (wa_k (we_v 8) (wa_k (we_v 9) wa_nil))) wa_nil)))
      (wss_one (ws_expr (we_bm PySem.F.plainAttrs_list PySem.F.slot_list_extend PySem.F.type_list_extend mt_ext (we_v 7) (wa_k (we_comp (CScope.of (psc:=defScope s__law_rule) (N:=["_law_tape_here", "_law_faces", "_law_ways", "_law_most", "_law_plain", "_law_found", "_law_level", "_law_later", "_law_counts", "_law_says_here"]) (N':=["_law_one", "_law_later"]) (js:=[7]) (by decide +kernel) rfl rfl rfl) (wi_list (we_fn F__law_next (hr.mono (by decide)) (wa_k (we_v 8) (wa_k (we_v 9) wa_nil)))) (fun _ _ _ _=>wts_one (wt_cmp (op_notinT K hr.units) (we_v 0) (we_v 1) (by with_unfolding_all rfl))) (fun _ _ _ _=>(we_v 0))) wa_nil)))))))
      (wss_one (ws_set (i:=6) sc__law_rule.nd rfl (Or.inl rfl) (we_v 7))))))
      (wss_one (ws_ret (we_cT call_tuple_of (by rfl) T.b_tuple (by decide +kernel) (wa_k (we_v 5) wa_nil))))))),?_⟩
    refine nwL (by show 0≤64; decide) fun fo H1 hfo e1 s1=>?_
    refine nwT (by show 1≤64; decide) fun q2 H2 hq2 e2 s2=>?_
    refine ⟨_,rfl,?_⟩
    have hF:2≤F∧F≤4:=by have:=Z.f; omega
    refine mulT e2 hF.1 (by omega) fun q3 H3 s3 e3=>?_
    refine nwL (by show 1≤64; decide) fun le H4 hle e4 s4=>?_
    have nlf:fo≠p:=TP.ne hfo
    have F4:=(((TP.same s1).same s2).same s3).same s4
    have S4:SameBut p H H4:=((((s1.trans s2).trans s3).trans s4)).but
    have rz:Rep H4 (ctD (List.replicate F 0)) (.ref q3):=ctD_of (by rw [s4 _ _ e3,List.map_replicate])
    have ok0:CtOk F 0 (List.replicate F 0):=⟨List.length_replicate,fun x hx=>by have:=List.eq_of_mem_replicate hx; omega,by
      have:∀ k:Nat,(List.replicate k (0:Int)).sum=0:=fun k=>by
        induction k with
        | zero=>rfl
        | succ k ih=>rw [List.replicate_succ,List.sum_cons,ih]; rfl
      rw [this]; rfl⟩
    have e1':=s4 _ _ (s3 _ _ (s2 _ _ e1))
    have hle0:H le=none:=((s1.trans s2).trans s3).free hle
    have nlp:le≠p:=TP.ne hle0
    have nfl:le≠fo:=fun e=>by subst e; rw [s3 _ _ (s2 _ _ e1)] at hle; cases hle
    refine while_r (fun m σ H'=>∃ (j:Nat) (le:Addr) (o7 o8 o9:Option V) (vs ws:List V) (es:List Ent) (cs:List (List Int)),σ=[some (.ref p),some (.int (F:Int)),some (.int (W:Int)),some (.int (M:Int)),some (.bl pl),some (.ref fo),some (.ref le),o7,o8,o9] ∧
        m=6 - j∧j≤M+1∧(j≤M∨cs=[])∧(j=0→cs≠[])∧(0<j→es≠[])∧TapeAt H' p (n+1024*(6 - j))∧SameBut p H H'∧H' fo=some (.lst vs)∧RepL H' (es.map enD) vs∧H' le=some (.lst ws)∧RepL H' (cs.map ctD) ws∧H le=none∧le≠fo∧LvOk F j cs∧RuTo F W M j es∧Clo F es cs)
      (fun σ H'=>∃ (le:Addr) (o7 o8 o9:Option V) (vs:List V) (es:List Ent),σ=[some (.ref p),some (.int (F:Int)),some (.int (W:Int)),some (.int (M:Int)),some (.bl pl),some (.ref fo),some (.ref le),o7,o8,o9]∧TapeAt H' p n∧SameBut p H H'∧H' fo=some (.lst vs)∧RepL H' (es.map enD) vs∧RuOk F W M es)
      6 ⟨0,le,none,none,none,[],_,[],[List.replicate F 0],rfl,rfl,by omega,.inl (by omega),fun _ h=>by (cases h),fun h=>by omega,F4.less (by omega),S4,e1',RepL.nil,e4,RepL.cons rz RepL.nil,hle0,nfl,⟨by simp,fun c hc=>by (rw [List.mem_singleton] at hc; subst hc; exact ok0)⟩,⟨List.nodup_nil,fun e he=>by (cases he),List.Pairwise.nil,Nat.zero_le _,List.Pairwise.nil⟩,⟨fun e he=>by (cases he),fun c hc=>.inl (by simpa using hc),.inr (by simp)⟩⟩ ?_ ?_
    · clear e1 e2 e3 e4 s1 s2 s3 s4 F4 S4 rz ok0 e1' hle0 nlp nfl hle hq2
      rintro m σ H1 ⟨j,le,o7,o8,o9,vs,ws,es,cs,rfl,rfl,hj,hjc,hj0,hes,F1,S1,hfo1,rfo,hle1,rle,hle0,nfl,LV,RT,CL⟩
      have nlp:le≠p:=TP.ne hle0
      refine ⟨_,rfl,?_⟩
      refine nwL (by show 0≤64; decide) fun q5 H5 hq5 e5 s5=>?_
      refine reD (Rep.lst (s5 _ _ hle1) (rle.same s5)) (Rep.lst e5 RepL.nil) (cs_shaped cs) rfl ?_
      rw [eqv_nil]
      refine ⟨_,rfl,?_⟩
      have hM:M≤4:=by have:=Z.f; omega
      by_cases hc:cs=[]
      · rw [decide_eq_true hc]
        refine iteF ⟨le,o7,o8,o9,vs,es,rfl,(F1.same s5).less (by omega),S1.trans s5.but,s5 _ _ hfo1,rfo.same s5,RT.rule (by omega) (hes ?_) (hc ▸ CL)⟩
        have:j≠0:=fun e=>hj0 e hc
        omega
      · rw [decide_eq_false hc]
        refine iteT ?_
        have hjM:j≤M:=by
          rcases hjc with h | h
          · exact h
          · exact absurd h hc
        have few:=LV.few Z hjM
        have lw':ws.length=cs.length:=by rw [rle.len,List.length_map]
        refine nwL (by show 0≤64; decide) fun la H6 hla e6 s6=>?_
        refine ⟨_,rfl,?_⟩
        have s16:=s5.trans s6
        refine rsrt (cs:=cs) (SqL.of (s16 _ _ hle1)) (rle.same s16) (fun c hc' h=>by have:=(LV.each c hc').len; rw [h] at this; simp at this; omega) (by omega) fun so ix H7 hix hlx hso e7 s7=>?_
        rw [lw'] at hix
        have hixl:∀ i∈ix,i<cs.length:=fun i hi=>by have:=hix.mem_iff.mp hi; simpa using this
        have lix:ix.length=cs.length:=by rw [hix.length_eq,List.length_range]
        have LV2:LvOk F j (ix.map fun i=>cs.getD i []):=LV.perm (perm_ix [] hix)
        have hpm:=perm_ix [] hix
        have hsx:=hlx LV.nd
        have s17:=s16.trans s7
        have rso:RepL H7 ((ix.map fun i=>cs.getD i []).map ctD) (ix.map fun i=>ws.getD i .non):=repl_ix (rle.same s17) ix hixl
        have lcs:(ix.map fun i=>cs.getD i []).length=cs.length:=by rw [List.length_map,lix]
        generalize hcs2:(ix.map fun i=>cs.getD i [])=cs2 at *
        generalize hys2:(ix.map fun i=>ws.getD i V.non)=ys2 at *
        have lys:ys2.length=cs2.length:=by rw [rso.len,List.length_map]
        have hla0:H la=none:=SameBut.free S1 F1.there (s5.free hla)
        have hso0:H so=none:=SameBut.free S1 F1.there (s16.free hso)
        have nla:la≠p:=TP.ne hla0
        have nso:so≠p:=TP.ne hso0
        have nlf':la≠fo:=fun e=>by subst e; rw [s5 _ _ hfo1] at hla; cases hla
        have nsf:so≠fo:=fun e=>by subst e; rw [s16 _ _ hfo1] at hso; cases hso
        have nsl:so≠la:=fun e=>by subst e; rw [e6] at hso; cases hso
        refine ⟨so,rfl,⟨_,SqL.of e7⟩,?_⟩
        refine for_list (xs:=ys2) (fun i σ H'=>∃ (o8 o9:Option V) (vs2 us:List V) (es2:List Ent) (ls:List (List Int)),σ=[some (.ref p),some (.int (F:Int)),some (.int (W:Int)),some (.int (M:Int)),some (.bl pl),some (.ref fo),some (.ref le),some (.ref la),o8,o9] ∧
            TapeAt H' p (n+1024*(6 - j) - 16*i)∧SameBut p H H'∧H' so=some (.lst ys2)∧H' fo=some (.lst vs2)∧RepL H' (es2.map enD) vs2∧H' la=some (.lst us)∧RepL H' (ls.map ctD) us∧RuIn F W M j es es2 (cs2.take i)∧LvOk F (j+1) ls∧(j=M→ls=[])∧RepL H' (cs2.map ctD) ys2∧LvFrom ls (es2.drop es.length))
          ⟨_,_,vs,[],es,[],rfl,(F1.same s17).less (by omega),S1.trans s17.but,e7,s17 _ _ hfo1,rfo.same s17,s7 _ _ e6,RepL.nil,⟨[],by rw [List.append_nil],rfl,fun e he=>by cases he⟩,⟨List.nodup_nil,fun c hc=>by cases hc⟩,fun _=>rfl,rso,fun c=>⟨(fun h=>by cases h),(fun ⟨e,he,_⟩=>by rw [List.drop_length] at he; cases he)⟩⟩ (fun i σ H' _ q=>?_) ?_ ?_
        · obtain ⟨_,_,_,_,_,_,_,_,_,h,_⟩:=q
          exact SqL.of h
        · rintro i x σ H' hx ⟨o8,o9,vs2,us,es2,ls,rfl,F',S',hso',hfo',rfo',hla',rla',RI,LS,hjm,rso',LF⟩
          obtain ⟨c,hci,rx⟩:=rso'.atI hx
          have hi:i<cs2.length:=(List.getElem?_eq_some_iff.mp hci).1
          have okc:=LV2.each c (List.mem_of_getElem? hci)
          obtain ⟨ax,rfl,hax⟩:=ctD_at rx
          refine ⟨_,rfl,_,rfl,_,rfl,?_⟩
          refine rsT (SqT.of hax) ?_
          refine ⟨_,rfl,rfl,_,rfl,?_⟩
          refine sp_says_i (n:=n+1024*(6 - j) - 16*(i+1)) (F'.less (by omega)) Z.w.1 Z.w.2 fun v fs H8 F8 s8 r8 ok8 st8=>?_
          have t8:=F'.t s8
          have hso8:=s8.at nso hso'
          have hfo8:=s8.at nlf hfo'
          have hla8:=s8.at nla hla'
          have rfo8:=rfo'.flat t8 (ens_flat _)
          have rla8:=rla'.flat t8 (cts_flat _)
          have rso8:=rso'.flat t8 (cts_flat _)
          have rx8:=rx.flat t8 (ctD_flat _)
          have hlen:vs2.length≤500:=by
            rw [rfo8.len,List.length_map,RI.len,List.length_take]
            have:=RT.len
            have:64*j≤64*5:=Nat.mul_le_mul_left _ (by omega)
            omega
          refine ⟨_,rfl,tyL hfo8,_,rfl,_,rfl,?_⟩
          refine nwT (by show 2≤64; decide) fun q9 H9 hq9 e9 s9=>?_
          refine appL (s9 _ _ hfo8) (by omega) fun H10 e10 s10=>?_
          have t10:=s10.t (s9 _ _ hfo8)
          have t910:=s9.t.trans t10
          have hso10:=s10.at nsf (s9 _ _ hso8)
          have hla10:=s10.at nlf' (s9 _ _ hla8)
          have rx10:=rx8.flat t910 (ctD_flat _)
          have r10:=r8.flat t910 (shD_flat _)
          have ren:Rep H10 (enD (c,fs)) (.ref q9):=Rep.tup (t10 _ _ e9) (RepL.cons rx10 (RepL.cons r10 RepL.nil))
          have rfo10:RepL H10 ((es2++[(c,fs)]).map enD) (vs2++[.ref q9]):=by
            rw [List.map_append]
            exact RepL.append (RepL.cons ren RepL.nil) (rfo8.flat t910 (ens_flat _))
          have F10:=(F8.same s9).but s10 nlf
          have S10:SameBut p H H10:=SameBut.thru hfo ((S'.trans s8).trans s9.but) s10
          obtain ⟨f0,fr,rfl⟩:∃ f0 fr,fs=f0::fr:=by
            cases fs with
            | nil=>exact absurd (ok8.len) (by rw [List.length_nil]; omega)
            | cons f0 fr=>exact ⟨f0,fr,rfl⟩
          have lfr:fr.length≤4:=by have:=ok8.len; rw [List.length_cons] at this; have:=Z.w; omega
          refine ⟨_,rfl,tyL hla10,_,rfl,_,rfl,?_⟩
          refine sp_next_i rx10 r10 (by rw [okc.len]; omega) lfr fun D ys H11 hD hD11 rD s11=>?_
          refine ⟨D,rfl,⟨_,SqL.of hD11⟩,?_⟩
          have NX:=nexts_ok okc f0
          have lnx:(nexts c f0).length≤4:=by
            unfold nexts
            split
            · exact Nat.zero_le _
            · rw [List.length_map,List.length_range,okc.len]; omega
          have rla11:=(rla8.flat t910 (cts_flat _)).same s11
          have llen:ls.length<64:=by
            by_cases h:j=M
            · rw [hjm h]; decide
            · exact LS.few Z (by omega)
          refine comp_fltD rD (fun d=>!decide (d∈ls)) (by rw [rD.len,List.length_map]; omega) hD11 (fun x' d H' Q' hd rx' s' k'=>?_) (fun x' H' Q' q=>⟨_,rfl,q⟩) (fun D2 ys2 H12 hD2 e12 s12 r12=>?_)
          · refine ⟨_,rfl,_,rfl,?_⟩
            refine riT (.inl (SqL.of (s' _ _ (s11 _ _ hla10)))) (rla11.same s') rx'.k ?_
            exact ⟨_,rfl,k' H' (Same.refl _)⟩
          · have s1112:=s11.trans s12
            refine extL (s1112 _ _ hla10) e12 (by rw [rla8.len,r12.len,List.length_map,List.length_map]; have:=List.length_filter_le (fun d=>!decide (d∈ls)) (nexts c f0); omega) fun H13 e13 s13=>?_
            have t13:=s13.t (s1112 _ _ hla10)
            have tt:=s1112.t.trans t13
            refine ⟨_,_,vs2++[.ref q9],us++ys2,es2++[(c,f0::fr)],ls++(nexts c f0).filter (fun d=>!decide (d∈ls)),rfl,(F10.same s1112).but s13 nla,SameBut.thru hla0 (S10.trans s1112.but) s13,s13.at nsl (s1112 _ _ hso10),s13.at (Ne.symm nlf') (s1112 _ _ e10),rfo10.flat tt (ens_flat _),e13,?_,?_,LS.more NX,fun h=>?_,(rso8.flat t910 (cts_flat _)).flat tt (cts_flat _),?_⟩
            · rw [List.map_append]
              exact RepL.append (r12.flat t13 (cts_flat _)) ((rla11.same s12).flat t13 (cts_flat _))
            · rw [List.take_succ,hci]
              exact RI.snoc ok8
            · have hsum:=okc.sum
              have:=st8 (decide_eq_true (by rw [hsum,h]))
              cases (show f0=(0,1) by simpa using this)
              rw [hjm h]
              rfl
            · have hle2:es.length≤es2.length:=by rw [RI.len]; omega
              rw [List.drop_append_of_le_length hle2]
              exact LvFrom.more (e:=(c,f0::fr)) LF
        · rintro σ H8 ⟨o8,o9,vs2,us,es2,ls,rfl,F8,S8,hso8,hfo8,rfo8,hla8,rla8,RI,LS,hjm,_,LF⟩
          rw [lys,List.take_length] at RI
          have RT2:=RI.done RT LV2 hjM (by omega) hsx
          have CL2:Clo F es2 ls:=by
            obtain ⟨ne,e1,e2,_⟩:=RI.ex
            subst e1
            rw [List.drop_left] at LF
            exact CL.step hpm e2 LF
          refine ⟨_,rfl,6 - (j+1),by omega,j+1,la,_,_,_,vs2,us,es2,ls,rfl,rfl,by omega,?_,fun h=>by omega,fun _ h=>?_,F8.less (by rw [lys]; omega),S8,hfo8,rfo8,hla8,rla8,hla0,nlf',LS,RT2,CL2⟩
          · by_cases h:j=M
            · exact .inr (hjm h)
            · exact .inl (by omega)
          · have:=RI.len
            rw [h] at this
            have h0:cs.length≠0:=fun e=>hc (List.length_eq_zero_iff.mp e)
            simp at this
            omega
    · rintro σ H1 ⟨le,o7,o8,o9,vs,es,rfl,F1,S1,hfo1,rfo,RO⟩
      refine ⟨_,rfl,fo,vs,rfl,.inl ⟨SqL.of hfo1,fun l hl=>?_⟩⟩
      have sl:=Same.upd (o:=.tup vs) hl
      have el:(upd H1 l (.tup vs)) l=some (.tup vs):=upd_same
      generalize upd H1 l (.tup vs)=H2 at sl el
      exact k _ es H2 (F1.same sl) (S1.trans sl.but) (Rep.tup el (rfo.same sl)) RO
end
end Kw
set_option Elab.async false
set_option linter.all false
set_option maxRecDepth 100000
namespace Kw
open PySem L2 Mf
abbrev s_is_whole:Stmt:=(top 13)
theorem sc_is_whole:FnScope ["thing"] ["thing"] (defScope s_is_whole):=⟨rfl,rfl,rfl,by decide +kernel,rfl,by decide +kernel,by decide +kernel⟩
abbrev s_is_tuple_of:Stmt:=(top 15)
theorem sc_is_tuple_of:FnScope ["thing", "many"] ["thing", "many"] (defScope s_is_tuple_of):=⟨rfl,rfl,rfl,by decide +kernel,rfl,by decide +kernel,by decide +kernel⟩
abbrev s__law_trial:Stmt:=(top 36)
theorem sc__law_trial:FnScope ["_law_tape_here", "_law_faces", "_law_ways", "_law_names", "_law_told_here", "_law_found", "_law_k"] ["_law_tape_here", "_law_faces", "_law_ways"] (defScope s__law_trial):=⟨rfl,rfl,rfl,by decide +kernel,rfl,by decide +kernel,by decide +kernel⟩
abbrev wD (w:Str × List Fr):PyData:=.tuple [.str w.1,shD w.2]
abbrev trD (fs:List Str) (ws:List (Str × List Fr)):PyData:=.tuple [.tuple (fs.map .str),.tuple (ws.map wD)]
theorem strs_flat:∀ fs:List Str,flatDs (fs.map PyData.str)=true
  | []=>rfl
  | f::fs=>by show (flatD (.str f)&&flatDs (fs.map PyData.str))=true; rw [strs_flat fs]; rfl
theorem wD_flat (w:Str × List Fr):flatD (wD w)=true:=by
  show (flatD (.str w.1)&&(flatD (shD w.2)&&true))=true
  rw [shD_flat]; rfl
theorem ws_flat:∀ ws:List (Str × List Fr),flatDs (ws.map wD)=true
  | []=>rfl
  | w::ws=>by show (flatD (wD w)&&flatDs (ws.map wD))=true; rw [wD_flat w,ws_flat ws]; rfl
theorem trD_flat (fs:List Str) (ws:List (Str × List Fr)):flatD (trD fs ws)=true:=by
  show (flatD (.tuple (fs.map .str))&&(flatD (.tuple (ws.map wD))&&true))=true
  rw [show flatD (.tuple (fs.map PyData.str))=flatDs (fs.map PyData.str) from rfl,strs_flat,show flatD (.tuple (ws.map wD))=flatDs (ws.map wD) from rfl,ws_flat]; rfl
theorem RepL_strs {H:Hp}:∀ fs:List Str,RepL H (fs.map PyData.str) (fs.map V.str)
  | []=>RepL.nil
  | f::fs=>RepL.cons (Rep.str f) (RepL_strs fs)
theorem tup_at {H:Hp} {ds:List PyData} {v:V} (h:Rep H (.tuple ds) v):∃ a xs,v=.ref a∧H a=some (.tup xs)∧RepL H ds xs:=by unfold Rep at h; exact h
theorem RepL_two {H:Hp} {d e:PyData} {xs:List V} (h:RepL H [d,e] xs):∃ x y,xs=[x,y]∧Rep H d x∧Rep H e y:=by
  unfold RepL RepL RepL at h
  obtain ⟨x,_,rfl,h1,y,_,rfl,h2,rfl⟩:=h
  exact ⟨x,y,rfl,h1,h2⟩
theorem reps_get' {α:Type} {H:Hp} {g:α→PyData} {fs:List α} {vs:List V} (h:RepL H (fs.map g) vs) {i:Nat} {f:α} (e:fs[i]?=some f):∃ v,vs[i]?=some v∧Rep H (g f) v :=
  h.get' (by rw [List.getElem?_map,e]; rfl)
theorem reps_len {α:Type} {H:Hp} {g:α→PyData} {fs:List α} {vs:List V} (h:RepL H (fs.map g) vs):vs.length=fs.length:=by rw [h.len,List.length_map]
def nmF:List Str:=["a", "ab", "abc", "b", "ways", "onx", "zzzzzzzz"]
def nmW:List Str:=["a", "ab", "ba", "saya", "x", "zzzzzzz", "abc"]
structure TrT (F W:Nat) (fs:List Str) (ws:List (Str × List Fr)):Prop where
  f:fs.length=F
  w:ws.length=W
  sh:∀ x∈ws,SyOk F x.2
  nf:∀ x∈fs,x∈nmF
  nw:∀ x∈ws,x.1∈nmW
@[irreducible] def sp_ltrial:Sp:=fun vs H Q _=>∃ (p:Addr) (n F W:Nat),vs=[.ref p,.int (F:Int),.int (W:Int)]∧TapeAt H p (n+64)∧2≤F∧F≤4∧2≤W∧W≤4∧∀ v fs ws H',TapeAt H' p n→SameBut p H H'→Rep H' (trD fs ws) v→TrT F W fs ws→Q v H'
theorem sp_ltrial_i {H:Hp} {Q:VK} {E:XK} {p:Addr} {n F W:Nat} (T:TapeAt H p (n+64)) (h1:2≤F) (h2:F≤4) (h3:2≤W) (h4:W≤4) (k:∀ v fs ws H',TapeAt H' p n→SameBut p H H'→Rep H' (trD fs ws) v→TrT F W fs ws→Q v H'):sp_ltrial [.ref p,.int (F:Int),.int (W:Int)] H Q E:=by
  unfold sp_ltrial; exact ⟨p,n,F,W,rfl,T,h1,h2,h3,h4,k⟩
theorem strs_erase (ss:List Str) (b:Nat):(ss.map V.str).eraseIdx b=(ss.eraseIdx b).map V.str:=by
  induction ss generalizing b with
  | nil=>simp
  | cons a ss ih=>cases b with
    | zero=>rfl
    | succ b=>simp [ih]
theorem erase_len {ss:List Str} {b:Nat} (h:b<ss.length):(ss.eraseIdx b).length+1=ss.length:=by
  rw [List.length_eraseIdx,if_pos h]; omega
section
variable {P:Program} {w:World} {K:PySem.W.Frag} {mg:Str→Option Value} {base:Heap} {c:Cl}
set_option maxHeartbeats 4000000 in
theorem ok__law_trial {f:Addr} {fd:FuncData} (F:Fun K "_law_trial" "_law_trial" s__law_trial f fd) (T:Txt K mg c)
    (F__law_pick:FnC CX0 P w K mg base 1 "_law_pick" ["_law_tape_here", "_law_many"] sp_pick) (F__law_shares:FnC CX0 P w K mg base 2 "_law_shares" ["_law_tape_here", "_law_many"] sp_shares):FnOk P w K mg base CX0 3 f fd ["_law_tape_here", "_law_faces", "_law_ways"] sp_ltrial:=by
  refine F.okw sc__law_trial (fun vs H Q E h=>?_) (fun cdv A outer s H vs Q E hr h=>?_)
  · unfold sp_ltrial at h
    obtain ⟨p,n,F,W,rfl,_⟩:=h
    rfl
  · unfold sp_ltrial at h
    obtain ⟨p,n,F,W,rfl,T0,f2,f4,w2,w4,k⟩:=h
    refine ⟨_,(wss_cons (ws_set (i:=3) sc__law_trial.nd rfl (Or.inr rfl) (we_lst (wa_k we_str (wa_k we_str (wa_k we_str (wa_k we_str (wa_k we_str (wa_k we_str (wa_k we_str wa_nil)))))))))
      (wss_cons (ws_set (i:=4) sc__law_trial.nd rfl (Or.inl rfl) (we_cT call_tuple_of (by rfl) T.b_tuple (by decide +kernel) (wa_k (we_comp (CScope.of (psc:=defScope s__law_trial) (N:=["_law_tape_here", "_law_faces", "_law_ways", "_law_names", "_law_told_here", "_law_found", "_law_k"]) (N':=["_law_k", "_law_tape_here", "_law_names"]) (js:=[0,3]) (by decide +kernel) rfl rfl rfl) (wi_range1 rfl T.b_range (wa_k (we_v 1) wa_nil)) (fun _ _ _ _=>wts_nil) (fun _ _ _ _=>(we_bmK K PySem.F.plainAttrs_list PySem.F.slot_list_pop PySem.F.type_list_pop mt_pa (we_v 2) (wa_k (we_fn F__law_pick (hr.mono (by decide)) (wa_k (we_v 1) (wa_k (we_cB (cl_lenK K) (by rfl) T.b_len (by decide +kernel) (wa_k (we_v 2) wa_nil)) wa_nil))) wa_nil)))) wa_nil)))
      (wss_cons (ws_set (i:=3) sc__law_trial.nd rfl (Or.inr rfl) (we_lst (wa_k we_str (wa_k we_str (wa_k we_str (wa_k we_str (wa_k we_str (wa_k we_str (wa_k we_str wa_nil)))))))))
      (wss_cons (ws_set (i:=5) sc__law_trial.nd rfl (Or.inl rfl) (we_lst wa_nil))
      (wss_cons (ws_for PassesOwn.never rfl (wi_range1 rfl T.b_range (wa_k (we_v 2) wa_nil)) (wg_name (i:=6) sc__law_trial.nd rfl (Or.inl rfl)) (wss_one (ws_expr (we_bm PySem.F.plainAttrs_list PySem.F.slot_list_append PySem.F.type_list_append mt_app (we_v 5) (wa_k (we_tup (wa_k (we_bm PySem.F.plainAttrs_list PySem.F.slot_list_pop PySem.F.type_list_pop mt_pa (we_v 3) (wa_k (we_fn F__law_pick (hr.mono (by decide)) (wa_k (we_v 0) (wa_k (we_cB cl_len (by rfl) T.b_len (by decide +kernel) (wa_k (we_v 3) wa_nil)) wa_nil))) wa_nil)) (wa_k (we_fn F__law_shares (hr.mono (by decide)) (wa_k (we_v 0) (wa_k (we_v 1) wa_nil))) wa_nil))) wa_nil)))))
      (wss_one (ws_ret (we_tup (wa_k (we_v 4) (wa_k (we_cT call_tuple_of (by rfl) T.b_tuple (by decide +kernel) (wa_k (we_v 5) wa_nil)) wa_nil)))))))))),?_⟩
    refine nwL (by show 7≤64; decide) fun L H1 hL e1 s1=>?_
    have T1:=T0.same s1
    have nLp:L≠p:=T0.ne hL
    have e1':H1 L=some (.lst ((["a", "ab", "abc", "b", "ways", "onx", "zzzzzzzz"]:List Str).map V.str)):=e1
    refine ⟨_,rfl,_,rfl,by omega,by omega,?_⟩
    refine comp_any (J:=Itr 0 F) (n:=F) (fun i x=>True) (by omega) (fun D i ys H'=>H1 D=none∧TapeAt H' p (n+64 - i)∧SameBut p H H'∧(∃ ss:List Str,H' L=some (.lst (ss.map V.str))∧ss.length+i=7∧∀ x∈ss,x∈nmF)∧∃ ts:List Str,ys=ts.map V.str∧∀ x∈ts,x∈nmF)
      (fun D H2 hD e2 s2=>⟨hD,T1.same s2,(s1.trans s2).but,⟨_,s2 _ _ e1',rfl,fun x hx=>hx⟩,[],rfl,fun x hx=>by cases hx⟩) (fun D i ys H' hi _ _=>⟨hi,fun x H3 y=>⟨y.1,True.intro⟩⟩) (fun D ys H' _ _=>Nat.le_refl _) (fun D i x ys H' _ hi hy hD q=>?_) (fun D ys H2 hy hD hD2 q=>?_)
    · obtain ⟨hDn,T2,b2,⟨ss,e2,ls,hss⟩,ts,rfl,hts⟩:=q
      refine ⟨_,rfl,tyL e2,_,rfl,_,rfl,?_⟩
      have hsl:0<ss.length:=by omega
      refine rlL e2 ?_
      rw [List.length_map]
      refine sp_pick_i (n:=n+64 - (i+1)) (T2.less (by omega)) (by omega) (bitsle (Nat.lt_of_le_of_lt (show ((ss.length:Int)).natAbs≤7 by omega) (by decide))) fun x H3 x0 x1 T3 b3=>?_
      obtain ⟨b,rfl⟩:∃ b:Nat,x=(b:Int):=⟨x.toNat,by omega⟩
      have e3:=b3.at nLp e2
      have nDp:D≠p:=T1.ne hDn
      have nDL:D≠L:=fun z=>by rw [z,e1] at hDn; cases hDn
      refine popA e3 (by rw [List.length_map]; omega) (by rw [List.length_map]; omega) fun H4 e4 b4=>?_
      have hget:(ss.map V.str)[b]'(by rw [List.length_map]; omega)=V.str (ss[b]'(by omega)):=by rw [List.getElem_map]
      rw [hget]
      refine ⟨b4.at nDL (b3.at nDp hD),fun H6 e6 b6=>⟨hDn,(T3.but b4 nLp).but b6 nDp,?_,⟨ss.eraseIdx b,?_,?_,fun x hx=>hss x (List.mem_of_mem_eraseIdx hx)⟩,ts++[ss[b]'(by omega)],?_,fun x hx=>?_⟩⟩
      · exact SameBut.thru (s1.free hDn) (SameBut.thru hL (b2.trans b3) b4) b6
      · rw [b6.at (Ne.symm nDL) e4,strs_erase]
      · have:=erase_len (ss:=ss) (b:=b) (by omega); omega
      · rw [List.map_append]; rfl
      · rcases List.mem_append.mp hx with hx | hx
        · exact hts x hx
        · rw [List.mem_singleton.mp hx]; exact hss _ (List.getElem_mem _)
    · obtain ⟨hDn,T2,b2,⟨ss,e2,ls,hss⟩,ts,rfl,hts⟩:=q
      have nDp:D≠p:=T1.ne hDn
      rw [List.length_map] at hy
      refine ⟨D,_,rfl,.inl ⟨SqL.of hD2,fun l hl=>?_⟩⟩
      have s3:=Same.upd (o:=.tup (ts.map V.str)) hl
      have e3:(upd H2 l (.tup (ts.map V.str))) l=some (.tup (ts.map V.str)):=upd_same
      generalize upd H2 l (.tup (ts.map V.str))=H3 at s3 e3
      have b3:SameBut p H H3:=b2.trans s3.but
      have T3:=(T2.same s3).less (show n+60≤n+64 - F by omega)
      clear T1 T2 b2 hDn e2 ls hD2 s1 e1 e1' hL nLp nDp
      refine nwL (by show 7≤64; decide) fun L4 H4 hL4 e4 s4=>?_
      have e4':H4 L4=some (.lst ((["a", "ab", "ba", "saya", "x", "zzzzzzz", "abc"]:List Str).map V.str)):=e4
      refine nwL (by show 0≤64; decide) fun M5 H5 hM5 e5 s5=>?_
      have T5:=(T3.same s4).same s5
      have nL:L4≠p:=T3.ne hL4
      have nM:M5≠p:=(T3.same s4).ne hM5
      have nLM:L4≠M5:=fun z=>by rw [← z,e4] at hM5; cases hM5
      have hL0:H L4=none:=SameBut.free b3 T3.there hL4
      have hM0:H M5=none:=SameBut.free b3 T3.there (s4.free hM5)
      refine ⟨_,rfl,_,rfl,by omega,by omega,?_⟩
      rw [show ((W:Int)).toNat=W by omega]
      refine for_range (fun i σ H'=>∃ (o6:Option V) (ss:List Str) (vs:List V) (ws:List (Str × List Fr)),σ=[some (.ref p),some (.int (F:Int)),some (.int (W:Int)),some (.ref L4),some (.ref l),some (.ref M5),o6]∧TapeAt H' p (n+60 - 10*i)∧SameBut p H H'∧H' L4=some (.lst (ss.map V.str))∧ss.length+i=7∧H' M5=some (.lst vs)∧RepL H' (ws.map wD) vs∧ws.length=i∧(∀ x∈ws,SyOk F x.2)∧H' l=some (.tup (ts.map V.str))∧(∀ x∈ss,x∈nmW)∧∀ x∈ws,x.1∈nmW)
        ⟨_,_,[],[],rfl,T5,b3.trans (s4.trans s5).but,s5 _ _ e4',rfl,e5,RepL.nil,rfl,(fun x h=>by cases h),s5 _ _ (s4 _ _ e3),(fun x h=>h),fun x h=>by cases h⟩ ?_ ?_
      · rintro i σ H6 hi ⟨o6,ss,vs,ws,rfl,T6,b6,e6,ls,em6,r6,lw6,hsy,el6,hss,hws⟩
        have hsl:0<ss.length:=by omega
        refine ⟨_,rfl,tyL em6,_,rfl,tyL e6,_,rfl,_,rfl,?_⟩
        refine rlL e6 ?_
        rw [List.length_map]
        refine sp_pick_i (n:=n+60 - 10*i - 1) (T6.less (by omega)) (by omega) (bitsle (Nat.lt_of_le_of_lt (show ((ss.length:Int)).natAbs≤7 by omega) (by decide))) fun x H7 x0 x1 T7 b7=>?_
        obtain ⟨b,rfl⟩:∃ b:Nat,x=(b:Int):=⟨x.toNat,by omega⟩
        refine popA (b7.at nL e6) (by rw [List.length_map]; omega) (by rw [List.length_map]; omega) fun H8 e8 b8=>?_
        have hget:(ss.map V.str)[b]'(by rw [List.length_map]; omega)=V.str (ss[b]'(by omega)):=by rw [List.getElem_map]
        rw [hget]
        have T8:=T7.but b8 nL
        refine ⟨_,rfl,_,rfl,?_⟩
        refine sp_shares_i (n:=n+60 - 10*(i+1)) (T8.less (by omega)) (by omega) (by omega) fun sv fs H9 T9 b9 r9 sy9=>?_
        refine nwT (by show 2≤64; decide) fun q10 H10 hq10 e10 s10=>?_
        have em8:H8 M5=some (.lst vs):=b8.at (Ne.symm nLM) (b7.at nM em6)
        have em10:H10 M5=some (.lst vs):=s10 _ _ (b9.at nM em8)
        have lvs:vs.length=i:=by rw [r6.len,List.length_map,lw6]
        refine appL em10 (by omega) fun H11 e11 b11=>?_
        have t67:=T6.t b7
        have t78:=b8.t (b7.at nL e6)
        have t89:=T8.t b9
        have t11:=b11.t em10
        have tA:=(((t67.trans t78).trans t89).trans s10.t).trans t11
        refine ⟨_,ss.eraseIdx b,vs++[.ref q10],ws++[(ss[b]'(by omega),fs)],rfl,(T9.same s10).but b11 nM,?_,?_,?_,e11,?_,?_,?_,tA _ _ el6,fun x hx=>hss x (List.mem_of_mem_eraseIdx hx),?_⟩
        · exact SameBut.thru hM0 (((SameBut.thru hL0 (b6.trans b7) b8).trans b9).trans s10.but) b11
        · rw [b11.at nLM (s10 _ _ (b9.at nL e8)),strs_erase]
        · have:=erase_len (ss:=ss) (b:=b) (by omega); omega
        · rw [List.map_append]
          refine RepL.snoc (r6.flat tA (ws_flat ws)) ?_
          refine Rep.flat t11 (wD_flat _) (Rep.tup e10 (RepL.cons (Rep.str _) (RepL.cons (r9.same s10) RepL.nil)))
        · rw [List.length_append,lw6]; rfl
        · intro x hx
          rcases List.mem_append.mp hx with hx | hx
          · exact hsy x hx
          · rw [List.mem_singleton.mp hx]; exact sy9
        · intro x hx
          rcases List.mem_append.mp hx with hx | hx
          · exact hws x hx
          · rw [List.mem_singleton.mp hx]; exact hss _ (List.getElem_mem _)
      · rintro σ H6 ⟨o6,ss,vs,ws,rfl,T6,b6,e6,ls,em6,r6,lw6,hsy,el6,hss,hws⟩
        refine ⟨_,rfl,_,rfl,M5,vs,rfl,.inl ⟨SqL.of em6,fun l7 hl7=>?_⟩⟩
        have s7:=Same.upd (o:=.tup vs) hl7
        have e7:(upd H6 l7 (.tup vs)) l7=some (.tup vs):=upd_same
        generalize upd H6 l7 (.tup vs)=H7 at s7 e7
        refine nwT (by show 2≤64; decide) fun q8 H8 hq8 e8 s8=>?_
        refine k _ ts ws H8 (((T6.same s7).same s8).less (by omega)) (b6.trans (s7.trans s8).but) ?_ ⟨by omega,lw6,hsy,hts,hws⟩
        refine Rep.tup e8 (RepL.cons (Rep.tup (s8 _ _ (s7 _ _ el6)) (RepL_strs ts)) (RepL.cons (Rep.tup (s8 _ _ e7) ((r6.same s7).same s8)) RepL.nil))
end
def isTupN (n:Int):PyData→Bool
  | .tuple ds=>decide ((ds.length:Int)=n)
  | _=>false
@[irreducible] def sp_whole (K:PySem.W.Frag):Sp:=fun vs H Q _=>∃ x d,vs=[x]∧RepK K H d x∧Q (.bl (dWhole d)) H
theorem sp_whole_i {K:PySem.W.Frag} {H:Hp} {Q:VK} {E:XK} {x:V} {d:PyData} (r:RepK K H d x) (q:Q (.bl (dWhole d)) H):sp_whole K [x] H Q E:=by unfold sp_whole; exact ⟨x,d,rfl,r,q⟩
@[irreducible] def sp_tupof (K:PySem.W.Frag):Sp:=fun vs H Q _=>∃ x d n,vs=[x,.int n]∧RepK K H d x∧Q (.bl (isTupN n d)) H
theorem sp_tupof_i {K:PySem.W.Frag} {H:Hp} {Q:VK} {E:XK} {x:V} {d:PyData} {n:Int} (r:RepK K H d x) (q:Q (.bl (isTupN n d)) H):sp_tupof K [x,.int n] H Q E:=by unfold sp_tupof; exact ⟨x,d,n,rfl,r,q⟩
theorem iteTe {b:Bool} {A B:Prop} (h:b=true) (k:A):if b=true then A else B:=by rw [h,if_pos rfl]; exact k
theorem iteFe {b:Bool} {A B:Prop} (h:b=false) (k:B):if b=true then A else B:=by rw [h,if_neg (by decide)]; exact k
section
variable {P:Program} {w:World} {K:PySem.W.Frag} {mg:Str→Option Value} {base:Heap} {c:Cl}
theorem ok_is_whole {f:Addr} {fd:FuncData} (F:Fun K "is_whole" "is_whole" s_is_whole f fd) (T:Txt K mg c):FnOk P w K mg base CX0 1 f fd ["thing"] (sp_whole K):=by
  refine F.okw sc_is_whole (fun vs H Q E h=>?_) (fun cdv A outer s H vs Q E hr h=>?_)
  · unfold sp_whole at h
    obtain ⟨x,d,rfl,_⟩:=h
    rfl
  · unfold sp_whole at h
    obtain ⟨x,d,rfl,r,q⟩:=h
    refine ⟨_,(wss_one (ws_ret (we_and (we_cB (cl_isiDK K) (by rfl) T.b_isinstance (by decide +kernel) (wa_k (we_v 0) (wa_k (we_bltn (v:=.ty "int") (u:=.type "int") rfl T.b_int (by decide +kernel) rfl) wa_nil))) (we_one (we_not (we_cB (cl_isiDK K) (by rfl) T.b_isinstance (by decide +kernel) (wa_k (we_v 0) (wa_k (we_bltn (v:=.ty "bool") (u:=.type "bool") rfl T.b_bool (by decide +kernel) rfl) wa_nil)))))))),?_⟩
    refine ⟨_,rfl,?_⟩
    refine rkInt r ?_
    refine ⟨_,rfl,?_⟩
    cases d
    case int i=>exact iteT ⟨_,rfl,rkBool r ⟨_,rfl,q⟩⟩
    case bool i=>exact iteT ⟨_,rfl,rkBool r ⟨_,rfl,q⟩⟩
    all_goals exact iteF q
theorem ok_is_tuple_of {f:Addr} {fd:FuncData} (F:Fun K "is_tuple_of" "is_tuple_of" s_is_tuple_of f fd) (T:Txt K mg c):FnOk P w K mg base CX0 1 f fd ["thing", "many"] (sp_tupof K):=by
  refine F.okw sc_is_tuple_of (fun vs H Q E h=>?_) (fun cdv A outer s H vs Q E hr h=>?_)
  · unfold sp_tupof at h
    obtain ⟨x,d,n,rfl,_⟩:=h
    rfl
  · unfold sp_tupof at h
    obtain ⟨x,d,n,rfl,r,q⟩:=h
    refine ⟨_,(wss_one (ws_ret (we_and (we_cB (cl_isiDK K) (by rfl) T.b_isinstance (by decide +kernel) (wa_k (we_v 0) (wa_k (we_bltn (v:=.ty "tuple") (u:=.type "tuple") rfl T.b_tuple (by decide +kernel) rfl) wa_nil))) (we_one (we_cmp op_eq (we_cB cl_len (by rfl) T.b_len (by decide +kernel) (wa_k (we_v 0) wa_nil)) (we_v 1) (nomark _)))))),?_⟩
    refine ⟨_,rfl,?_⟩
    refine rkTup r ?_
    refine ⟨_,rfl,?_⟩
    cases d with
    | tuple ds =>
      refine iteT ?_
      unfold RepK at r
      obtain ⟨a,xs,rfl,ha,rl⟩:=r
      refine ⟨_,rfl,?_⟩
      refine rlK ha ?_
      refine ⟨_,rfl,rfl,?_⟩
      have e:decide (V.int (xs.length:Int)=V.int n)=isTupN n (.tuple ds):=by
        show _=decide ((ds.length:Int)=n)
        rw [rl.len]
        exact decide_eq_decide.mpr ⟨fun z=>by injection z,fun z=>by rw [z]⟩
      rw [e]
      exact q
    | _=>exact iteF q
end
end Kw
set_option Elab.async false
set_option linter.all false
set_option maxRecDepth 100000
namespace Kw
open PySem L2 Mf
abbrev s_is_order:Stmt:=(top 23)
theorem sc_is_order:FnScope ["thing", "many"] ["thing", "many"] (defScope s_is_order):=⟨rfl,rfl,rfl,by decide +kernel,rfl,by decide +kernel,by decide +kernel⟩
abbrev s_check_order:Stmt:=(top 24)
theorem sc_check_order:FnScope ["thing", "many"] ["thing", "many"] (defScope s_check_order):=⟨rfl,rfl,rfl,by decide +kernel,rfl,by decide +kernel,by decide +kernel⟩
abbrev s_turned:Stmt:=(top 25)
theorem sc_turned:FnScope ["things", "order"] ["things", "order"] (defScope s_turned):=⟨rfl,rfl,rfl,by decide +kernel,rfl,by decide +kernel,by decide +kernel⟩
def Shp (n:Nat) (d:PyData):Prop:=PyData.canLay0 d=true∧PyData.depth d≤n
theorem Shp.all {n:Nat}:∀ {ds:List PyData},(∀ d∈ds,Shp n d)→PyData.canLayAll0 ds=true∧PyData.depthAll ds≤n
  | [],_=>⟨rfl,Nat.zero_le _⟩
  | d::ds,h=>by
    obtain ⟨h1,h2⟩:=h d (List.mem_cons_self ..)
    obtain ⟨h3,h4⟩:=Shp.all fun e he=>h e (List.mem_cons_of_mem _ he)
    refine ⟨?_,?_⟩
    · show (PyData.canLay0 d&&PyData.canLayAll0 ds)=true
      rw [h1,h3]; rfl
    · show max (PyData.depth d) (PyData.depthAll ds)≤n
      omega
theorem Shp.tup {n:Nat} {ds:List PyData} (h:∀ d∈ds,Shp n d):Shp (n+1) (.tuple ds):=⟨(Shp.all h).1,by have:=(Shp.all h).2; show PyData.depthAll ds+1≤n+1; omega⟩
theorem Shp.lst {n:Nat} {ds:List PyData} (h:∀ d∈ds,Shp n d):Shp (n+1) (.list ds):=⟨(Shp.all h).1,by have:=(Shp.all h).2; show PyData.depthAll ds+1≤n+1; omega⟩
theorem Shp.int (i:Int):Shp 1 (.int i):=⟨rfl,by simp [PyData.depth]⟩
theorem Shp.ok {n:Nat} {d:PyData} (h:Shp n d) (hn:n≤64:=by decide):SeqAt.shaped d=true:=by
  unfold SeqAt.shaped
  rw [h.1,Bool.true_and]
  exact decide_eq_true (by have:=h.2; omega)
theorem Shp.up {n m:Nat} {d:PyData} (h:Shp n d) (hm:n≤m):Shp m d:=⟨h.1,Nat.le_trans h.2 hm⟩
abbrev iO (o:List Nat):List Int:=o.map fun k:Nat=>(k:Int)
structure OrdOk (n:Nat) (o:List Nat):Prop where
  perm:o.Perm (List.range n)
  le:n≤4
theorem OrdOk.len {n:Nat} {o:List Nat} (h:OrdOk n o):o.length=n:=by rw [h.perm.length_eq,List.length_range]
theorem OrdOk.lt {n:Nat} {o:List Nat} (h:OrdOk n o):∀ k∈o,k<n:=fun k hk=>List.mem_range.mp (h.perm.mem_iff.mp hk)
theorem repl_ints {H:Hp}:∀ ns:List Int,RepL H (ns.map PyData.int) (ns.map V.int)
  | []=>RepL.nil
  | n::ns=>RepL.cons (Rep.int n) (repl_ints ns)
theorem li_dict:∀ c:List Int,PyData.hasDictAll (c.map PyData.int)=false
  | []=>rfl
  | x::c=>by show (PyData.hasDict (.int x) || PyData.hasDictAll (c.map PyData.int))=false; rw [li_dict c]; rfl
theorem li_shaped (c:List Int):SeqAt.shaped (.list (c.map PyData.int))=true:=(Shp.lst (n:=1) fun d hd'=>by
  obtain ⟨z,_,rfl⟩:=List.mem_map.mp hd'
  exact Shp.int z).ok
def turnV (xs:List V) (o:List Nat):List V:=o.map fun k=>xs.getD k .non
@[irreducible] def sp_turned:Sp:=fun vs H Q _=>∃ (a b:Addr) (xs:List V) (o:List Nat),vs=[.ref a,.ref b]∧H a=some (.tup xs)∧H b=some (.tup ((iO o).map V.int))∧(∀ k∈o,k<xs.length)∧o.length≤64∧∀ c H',Same H H'→H' c=some (.tup (turnV xs o))→Q (.ref c) H'
theorem sp_turned_i {H:Hp} {Q:VK} {E:XK} {a b:Addr} {xs:List V} {o:List Nat} (h1:H a=some (.tup xs)) (h2:H b=some (.tup ((iO o).map V.int))) (h3:∀ k∈o,k<xs.length) (h4:o.length≤64) (q:∀ c H',Same H H'→H' c=some (.tup (turnV xs o))→Q (.ref c) H'):sp_turned [.ref a,.ref b] H Q E:=by unfold sp_turned; exact ⟨a,b,xs,o,rfl,h1,h2,h3,h4,q⟩
def intOf:PyData→Int
  | .int i=>i
  | _=>0
abbrev orD (o:List Nat):PyData:=.tuple ((iO o).map .int)
def ordB (n:Nat):PyData→Bool
  | .tuple ds=>decide (ds.length=n)&&(ds.all dWhole&&decide ((ds.map intOf).Perm (iO (List.range n))))
  | _=>false
theorem whole_eq:∀ {ds:List PyData},ds.all dWhole=true→ds=(ds.map intOf).map .int
  | [],_=>rfl
  | d::ds,h=>by
    rw [List.all_cons,Bool.and_eq_true] at h
    rw [List.map_cons,List.map_cons,← whole_eq h.2]
    cases d with
    | int i=>rfl
    | _=>cases h.1
theorem ints_all:∀ ns:List Int,(ns.map PyData.int).all dWhole=true
  | []=>rfl
  | n::ns=>by rw [List.map_cons,List.all_cons,ints_all ns]; rfl
theorem ints_of27 (ns:List Int):(ns.map PyData.int).map intOf=ns:=by
  rw [List.map_map]; exact List.map_id _
theorem io_nat (o:List Nat):(iO o).map Int.toNat=o:=by
  rw [List.map_map]
  conv=>rhs; rw [← List.map_id o]
  exact List.map_congr_left fun k _=>by show (k:Int).toNat=k; omega
theorem ord_of {n:Nat} {d:PyData} (h:ordB n d=true) (hn:n≤4):∃ o,d=orD o∧OrdOk n o:=by
  cases d with
  | tuple ds =>
    have h:(decide (ds.length=n)&&(ds.all dWhole&&decide ((ds.map intOf).Perm (iO (List.range n)))))=true:=h
    rw [Bool.and_eq_true,Bool.and_eq_true,decide_eq_true_eq,decide_eq_true_eq] at h
    obtain ⟨_,h2,h3⟩:=h
    have hp:=h3.map Int.toNat
    rw [io_nat] at hp
    refine ⟨(ds.map intOf).map Int.toNat,?_,hp,hn⟩
    have e:iO ((ds.map intOf).map Int.toNat)=ds.map intOf:=by
      show ((ds.map intOf).map Int.toNat).map _=_
      rw [List.map_map]
      conv=>rhs; rw [← List.map_id (ds.map intOf)]
      refine List.map_congr_left fun z hz=>?_
      obtain ⟨k,_,rfl⟩:=List.mem_map.mp (h3.mem_iff.mp hz)
      show (((k:Int).toNat:Nat):Int)=(k:Int)
      omega
    show PyData.tuple ds=.tuple ((iO _).map .int)
    rw [e,← whole_eq h2]
  | _=>cases h
theorem ord_ok {n:Nat} {o:List Nat} (h:OrdOk n o):ordB n (orD o)=true:=by
  show (decide (((iO o).map PyData.int).length=n)&&(((iO o).map PyData.int).all dWhole&&decide ((((iO o).map PyData.int).map intOf).Perm (iO (List.range n)))))=true
  rw [ints_all,ints_of27,decide_eq_true (show ((iO o).map PyData.int).length=n by rw [List.length_map,List.length_map]; exact h.len),decide_eq_true (show (iO o).Perm (iO (List.range n)) from h.perm.map _)]; rfl
theorem ints_at27 {H:Hp} {v:V} {ns:List Int} (h:Rep H (.tuple (ns.map .int)) v):∃ b,v=.ref b∧H b=some (.tup (ns.map V.int)):=by
  unfold Rep at h
  obtain ⟨a,xs,rfl,h1,h2⟩:=h
  have:xs=ns.map V.int:=by
    clear h1
    induction ns generalizing xs with
    | nil=>exact h2
    | cons n ns ih =>
      rw [List.map_cons] at h2
      unfold RepL at h2
      obtain ⟨x,xs',rfl,h3,h4⟩:=h2
      cases (show x=V.int n from h3)
      rw [ih _ h4]; rfl
  exact ⟨a,rfl,by rw [h1,this]⟩
theorem or_at {H:Hp} {v:V} {o:List Nat} (h:Rep H (orD o) v):∃ b,v=.ref b∧H b=some (.tup ((iO o).map V.int)):=ints_at27 h
theorem or_of {H:Hp} {b:Addr} {o:List Nat} (h:H b=some (.tup ((iO o).map V.int))):Rep H (orD o) (.ref b):=Rep.tup h (repl_ints _)
@[irreducible] def sp_isordB:Sp:=fun vs H Q _=>∃ (x:V) (d:PyData) (n:Nat),vs=[x,.int (n:Int)]∧Rep H d x∧n≤60∧∀ H',Same H H'→Q (.bl (ordB n d)) H'
theorem sp_isordB_i {H:Hp} {Q:VK} {E:XK} {x:V} {d:PyData} {n:Nat} (h1:Rep H d x) (h2:n≤60) (q:∀ H',Same H H'→Q (.bl (ordB n d)) H'):sp_isordB [x,.int (n:Int)] H Q E:=by unfold sp_isordB; exact ⟨x,d,n,rfl,h1,h2,q⟩
@[irreducible] def sp_chkB (C:Addr):Sp:=fun vs H Q E=>∃ (x:V) (d:PyData) (n:Nat),vs=[x,.int (n:Int)]∧Rep H d x∧n≤60∧(ordB n d=false→∀ H',Same H H'→E (.ref C) none H')∧(ordB n d=true→∀ H',Same H H'→Q .non H')
theorem sp_chkB_i {C:Addr} {H:Hp} {Q:VK} {E:XK} {x:V} {d:PyData} {n:Nat} (h1:Rep H d x) (h2:n≤60) (e:ordB n d=false→∀ H',Same H H'→E (.ref C) none H') (q:ordB n d=true→∀ H',Same H H'→Q .non H'):sp_chkB C [x,.int (n:Int)] H Q E:=by unfold sp_chkB; exact ⟨x,d,n,rfl,h1,h2,e,q⟩
section
variable {P:Program} {w:World} {K:PySem.W.Frag} {mg:Str→Option Value} {base:Heap} {c:Cl}
set_option maxHeartbeats 4000000 in
theorem ok_is_order {f:Addr} {fd:FuncData} (F:Fun K "is_order" "is_order" s_is_order f fd) (T:Txt K mg c) (F_is_tuple_of:FnC CX0 P w K mg base 1 "is_tuple_of" ["thing", "many"] (sp_tupof K)) (F_is_whole:FnC CX0 P w K mg base 1 "is_whole" ["thing"] (sp_whole K)):FnOk P w K mg base CX0 2 f fd ["thing", "many"] sp_isordB:=by
  refine F.okw sc_is_order (fun vs H Q E h=>?_) (fun cdv A outer s H vs Q E hr h=>?_)
  · unfold sp_isordB at h
    obtain ⟨x,d,n,rfl,_⟩:=h
    rfl
  · unfold sp_isordB at h
    obtain ⟨x,d,n,rfl,r,n60,q⟩:=h
    refine ⟨_,(wss_one (ws_ret (we_and (we_fn F_is_tuple_of (hr.mono (by decide)) (wa_k (we_v 0) (wa_k (we_v 1) wa_nil))) (we_and (we_cB (cl_all rfl) (by rfl) T.b_all (by decide +kernel) (wa_k (we_comp (CScope.of (psc:=defScope s_is_order) (N:=["thing", "many"]) (N':=["one"]) (js:=[]) (by decide +kernel) rfl rfl rfl) (wi_tup (we_v 0)) (fun _ _ _ _=>wts_nil) (fun _ _ _ _=>(we_fn F_is_whole (hr.mono (by decide)) (wa_k (we_v 0) wa_nil)))) wa_nil)) (we_one (we_cmp (op_eqD hr.units) (we_cB (cl_srtT K) (by rfl) T.b_sorted (by decide +kernel) (wa_k (we_v 0) wa_nil)) (we_lrng rfl rfl T.b_list rfl T.b_range (wa_k (we_v 1) wa_nil)) (nomark _))))))),?_⟩
    refine ⟨_,rfl,_,rfl,?_⟩
    refine sp_tupof_i r.k ?_
    refine ⟨_,rfl,?_⟩
    by_cases ht:isTupN (n:Int) d=true
    · refine iteTe ht ?_
      cases d with
      | tuple ds =>
        have hl:ds.length=n:=by have:(ds.length:Int)=(n:Int):=of_decide_eq_true ht; omega
        have r0:=r
        unfold Rep at r
        obtain ⟨b,xs,rfl,hb,rl⟩:=r
        have rk:=r0.k (K:=K)
        unfold RepK at rk
        obtain ⟨a2,xs2,e2,ha2,rlk⟩:=rk
        injection e2 with e2
        subst e2
        refine ⟨_,rfl,b,rfl,⟨_,ha2⟩,?_⟩
        refine comp_bools dWhole (by omega) ha2 rlk (fun x d H' Q' hd rd s' k'=>?_) (fun D H1 hD e1 s1=>?_)
        · refine ⟨_,rfl,?_⟩
          exact sp_whole_i rd (k' H' (Same.refl _))
        · refine rall e1 ?_
          refine ⟨_,rfl,?_⟩
          have eall:(ds.map dWhole).all id=ds.all dWhole:=by rw [List.all_map]; rfl
          have eo:ordB n (.tuple ds)=(ds.all dWhole&&decide ((ds.map intOf).Perm (iO (List.range n)))):=by
            show (decide (ds.length=n)&&_)=_
            rw [decide_eq_true hl,Bool.true_and]
          rw [eo] at q
          by_cases hall:ds.all dWhole=true
          · rw [eall,hall]
            rw [hall,Bool.true_and] at q
            refine iteT ?_
            have eds:=whole_eq hall
            have hb2:H b=some (.tup ((ds.map intOf).map V.int)):=by
              rw [eds] at r0
              obtain ⟨b',e3,h3⟩:=ints_at27 r0
              cases e3
              exact h3
            refine ⟨_,rfl,?_⟩
            refine rsrtT (s1 _ _ hb2) (by rw [List.length_map]; omega) fun D2 ns H2 pm as hD2 e2 s2=>?_
            refine ⟨_,rfl,?_⟩
            refine rlr (by omega) fun l H3 hl3 e3 s3=>?_
            have ra:Rep H3 (.list (ns.map PyData.int)) (.ref D2):=Rep.lst (s3 _ _ e2) (repl_ints _)
            have rb:Rep H3 (.list ((iO (List.range n)).map PyData.int)) (.ref l):=by
              refine Rep.lst e3 ?_
              rw [show ((List.range n).map fun (i:Nat)=>V.int (i:Int))=(iO (List.range n)).map V.int by rw [List.map_map]; rfl]
              exact repl_ints _
            refine reD ra rb (li_shaped _) (li_shaped _) ?_
            have ee:PyData.eqv (.list (ns.map PyData.int)) (.list ((iO (List.range n)).map PyData.int))=decide ((ds.map intOf).Perm (iO (List.range n))):=by
              show PyData.eqvAll (ns.map PyData.int) ((iO (List.range n)).map PyData.int)=_
              rw [show PyData.eqvAll (ns.map PyData.int) ((iO (List.range n)).map PyData.int)=decide (ns=iO (List.range n)) from eqvC ns (iO (List.range n))]
              refine decide_eq_decide.mpr ⟨fun z=>?_,fun z=>?_⟩
              · rw [← z]; exact pm.symm
              · exact perm_eq (pm.trans z) as (List.pairwise_map.mpr (List.pairwise_lt_range.imp fun h=>by omega))
            rw [ee,Bool.true_beq]
            exact q H3 ((s1.trans s2).trans s3)
          · have hall':ds.all dWhole=false:=by simpa using hall
            rw [eall,hall']
            rw [hall',Bool.false_and] at q
            exact iteF (q H1 s1)
      | _=>cases ht
    · have ht':isTupN (n:Int) d=false:=by simpa using ht
      refine iteFe ht' ?_
      have:=q H (Same.refl _)
      rw [show ordB n d=false by
        cases d with
        | tuple ds =>
          have hl:¬ (ds.length:Int)=(n:Int):=of_decide_eq_false ht'
          show (decide (ds.length=n)&&_)=false
          rw [decide_eq_false (by omega),Bool.false_and]
        | _=>rfl] at this
      exact this
theorem ok_check_order {f:Addr} {fd:FuncData} (F:Fun K "check_order" "check_order" s_check_order f fd) (T:Txt K mg c) (F_is_order:FnC CX0 P w K mg base 2 "is_order" ["thing", "many"] sp_isordB):FnOk P w K mg base (CX1 P w) 3 f fd ["thing", "many"] (sp_chkB c.NoOrder):=by
  refine F.okx sc_check_order (fun vs H Q E h=>?_) (fun cdv A outer s H vs Q E hr h hx hmd=>?_)
  · unfold sp_chkB at h
    obtain ⟨x,d,n,rfl,_⟩:=h
    rfl
  · unfold sp_chkB at h
    obtain ⟨x,d,n,rfl,r,n60,e,q⟩:=h
    refine ⟨_,(wss_one (ws_if (wt_not (wt_val (we_fn F_is_order (hr.mono (by decide)) (wa_k (we_v 0) (wa_k (we_v 1) wa_nil))))) (wss_one (ws_raise T.x_NoOrder T.g_NoOrder rfl hmd (wa_k we_str wa_nil))) wss_nil)),?_⟩
    refine ⟨_,rfl,_,rfl,?_⟩
    refine sp_isordB_i r n60 fun H1 s1=>?_
    refine ⟨_,rfl,?_⟩
    by_cases ho:ordB n d=true
    · rw [ho]
      exact iteF (q ho H1 s1)
    · have ho':ordB n d=false:=by simpa using ho
      rw [ho']
      refine iteT ?_
      exact ⟨by show 1≤64; decide,e ho' H1 s1⟩
theorem ok_turned {f:Addr} {fd:FuncData} (F:Fun K "turned" "turned" s_turned f fd) (T:Txt K mg c):FnOk P w K mg base CX0 1 f fd ["things", "order"] sp_turned:=by
  refine F.okw sc_turned (fun vs H Q E h=>?_) (fun cdv A outer s H vs Q E hr h=>?_)
  · unfold sp_turned at h
    obtain ⟨a,b,xs,o,rfl,_⟩:=h
    rfl
  · unfold sp_turned at h
    obtain ⟨a,b,xs,o,rfl,ha,hb,hx,ho,q⟩:=h
    refine ⟨_,(wss_one (ws_ret (we_cT call_tuple_of (by rfl) T.b_tuple (by decide +kernel) (wa_k (we_comp (CScope.of (psc:=defScope s_turned) (N:=["things", "order"]) (N':=["place", "things"]) (js:=[0]) (by decide +kernel) rfl rfl rfl) (wi_tup (we_v 1)) (fun _ _ _ _=>wts_nil) (fun _ _ _ _=>(we_ix (ix_seqK K) (we_v 1) (we_v 0) (fun _ _=>rfl)))) wa_nil)))),?_⟩
    refine ⟨_,rfl,b,rfl,⟨_,SqT.of hb⟩,?_⟩
    refine comp_mapU (fun i y H'=>∃ k,o[i]?=some k∧y=xs.getD k .non) (fun i y H1 H2 s h=>h) (by rw [List.length_map,List.length_map]; omega) hb (fun i x H' Q' hx' s' k'=>?_) (fun D ys H2 hD e2 s2 hy hr2=>?_)
    · rw [List.getElem?_map,List.getElem?_map] at hx'
      cases ho':o[i]? with
      | none=>rw [ho'] at hx'; cases hx'
      | some k =>
        rw [ho'] at hx'
        cases hx'
        have hk:=hx k (List.mem_of_getElem? ho')
        refine ⟨_,rfl,_,rfl,?_⟩
        refine ixT (s' _ _ ha) (atI_nat (j:=k) (v:=xs.getD k .non) (by rw [List.getD_eq_getElem?_getD,List.getElem?_eq_getElem hk]; rfl)) ?_
        exact k' _ H' (Same.refl _) ⟨k,ho',rfl⟩
    · refine ⟨D,ys,rfl,.inl ⟨SqL.of e2,fun l hl=>?_⟩⟩
      have sl:=Same.upd (o:=.tup ys) hl
      refine q l _ (s2.trans sl) ?_
      rw [upd_same]
      congr 2
      refine List.ext_getElem? fun i=>?_
      unfold turnV
      rw [List.length_map,List.length_map] at hy
      by_cases hi:i<o.length
      · obtain ⟨k,h1,h2⟩:=hr2 i (ys[i]'(by omega)) (List.getElem?_eq_getElem _)
        rw [List.getElem?_eq_getElem (by omega),h2,List.getElem?_map,h1]; rfl
      · rw [List.getElem?_eq_none (by omega),List.getElem?_eq_none (by rw [List.length_map]; omega)]
end
end Kw
set_option Elab.async false
set_option linter.all false
set_option maxRecDepth 100000
namespace Kw
open PySem L2 Mf
abbrev s_faces_of:Stmt:=(top 17)
theorem sc_faces_of:FnScope ["trial"] ["trial"] (defScope s_faces_of):=⟨rfl,rfl,rfl,by decide +kernel,rfl,by decide +kernel,by decide +kernel⟩
abbrev s_ways_of:Stmt:=(top 18)
theorem sc_ways_of:FnScope ["trial"] ["trial"] (defScope s_ways_of):=⟨rfl,rfl,rfl,by decide +kernel,rfl,by decide +kernel,by decide +kernel⟩
abbrev s_rule_faces:Stmt:=(top 20)
theorem sc_rule_faces:FnScope ["rule"] ["rule"] (defScope s_rule_faces):=⟨rfl,rfl,rfl,by decide +kernel,rfl,by decide +kernel,by decide +kernel⟩
abbrev s_rule_ways:Stmt:=(top 21)
theorem sc_rule_ways:FnScope ["rule"] ["rule"] (defScope s_rule_ways):=⟨rfl,rfl,rfl,by decide +kernel,rfl,by decide +kernel,by decide +kernel⟩
abbrev s_ways_turned:Stmt:=(top 26)
theorem sc_ways_turned:FnScope ["trial", "order"] ["trial", "order"] (defScope s_ways_turned):=⟨rfl,rfl,rfl,by decide +kernel,rfl,by decide +kernel,by decide +kernel⟩
abbrev s_faces_turned:Stmt:=(top 27)
theorem sc_faces_turned:FnScope ["trial", "order"] ["trial", "order"] (defScope s_faces_turned):=⟨rfl,rfl,rfl,by decide +kernel,rfl,by decide +kernel,by decide +kernel⟩
abbrev s_rule_ways_turned:Stmt:=(top 28)
theorem sc_rule_ways_turned:FnScope ["rule", "order"] ["rule", "order"] (defScope s_rule_ways_turned):=⟨rfl,rfl,rfl,by decide +kernel,rfl,by decide +kernel,by decide +kernel⟩
abbrev s_rule_faces_turned:Stmt:=(top 29)
theorem sc_rule_faces_turned:FnScope ["rule", "order", "entries"] ["rule", "order"] (defScope s_rule_faces_turned):=⟨rfl,rfl,rfl,by decide +kernel,rfl,by decide +kernel,by decide +kernel⟩
theorem ruD_at {H:Hp} {es:List Ent} {v:V} (h:Rep H (ruD es) v):∃ a xs,v=.ref a∧H a=some (.tup xs)∧RepL H (es.map enD) xs:=by
  unfold Rep at h; exact h
theorem enD_at {H:Hp} {e:Ent} {v:V} (h:Rep H (enD e) v):∃ a x y,v=.ref a∧H a=some (.tup [x,y])∧Rep H (ctD e.1) x∧Rep H (shD e.2) y:=by
  unfold Rep RepL RepL RepL at h
  obtain ⟨a,_,rfl,h1,x,_,rfl,r1,y,_,rfl,r2,rfl⟩:=h
  exact ⟨a,x,y,rfl,h1,r1,r2⟩
theorem repl_take {H:Hp}:∀ {ds:List PyData} {vs:List V} (n:Nat),RepL H ds vs→RepL H (ds.take n) (vs.take n)
  | [],_,n,h=>by cases (show _=[] from h); rw [List.take_nil,List.take_nil]; exact RepL.nil
  | d::ds,_,0,h=>RepL.nil
  | d::ds,_,n+1,h=>by
    unfold RepL at h
    obtain ⟨x,xs,rfl,h1,h2⟩:=h
    exact RepL.cons h1 (repl_take n h2)
theorem RepL.dropR {H:Hp}:∀ {ds:List PyData} {vs:List V} (n:Nat),RepL H ds vs→RepL H (ds.drop n) (vs.drop n)
  | [],_,n,h=>by cases (show _=[] from h); rw [List.drop_nil,List.drop_nil]; exact RepL.nil
  | d::ds,_,0,h=>h
  | d::ds,_,n+1,h=>by
    unfold RepL at h
    obtain ⟨x,xs,rfl,h1,h2⟩:=h
    exact RepL.dropR n h2
def turnL {α:Type} (d:α) (l:List α) (o:List Nat):List α:=o.map fun k=>l.getD k d
theorem turn_rep {H:Hp} {α:Type} {g:α→PyData} {d:α} {l:List α} {xs:List V} (r:RepL H (l.map g) xs) {o:List Nat} (ho:∀ k∈o,k<l.length):RepL H ((turnL d l o).map g) (turnV xs o):=by
  refine RepL.ofIdx (by unfold turnL turnV; rw [List.length_map,List.length_map,List.length_map]) fun i y hy=>?_
  unfold turnV at hy
  rw [List.getElem?_map] at hy
  obtain ⟨k,hk,rfl⟩:=Option.map_eq_some_iff.mp hy
  have hl:=ho k (List.mem_of_getElem? hk)
  obtain ⟨v,h1,h2⟩:=reps_get' r (i:=k) (f:=l.getD k d) (by rw [List.getD_eq_getElem?_getD,List.getElem?_eq_getElem hl]; rfl)
  refine ⟨g (l.getD k d),?_,?_⟩
  · unfold turnL
    rw [List.map_map,List.getElem?_map,hk]; rfl
  · rw [show xs.getD k .non=v by rw [List.getD_eq_getElem?_getD,h1]; rfl]
    exact h2
@[irreducible] def sp_facesof:Sp:=fun vs H Q _=>∃ v fs ws,vs=[v]∧Rep H (trD fs ws) v∧Q (.int (fs.length:Nat)) H
theorem sp_facesof_i {H:Hp} {Q:VK} {E:XK} {v:V} {fs:List Str} {ws:List (Str × List Fr)} (h:Rep H (trD fs ws) v) (q:Q (.int (fs.length:Nat)) H):sp_facesof [v] H Q E:=by unfold sp_facesof; exact ⟨v,fs,ws,rfl,h,q⟩
@[irreducible] def sp_rws:Sp:=fun vs H Q _=>∃ (v:V) (e:Ent) (es:List Ent),vs=[v]∧Rep H (ruD (e::es)) v∧Q (.int ((e.2.length:Nat) - 1)) H
theorem sp_rws_i {H:Hp} {Q:VK} {E:XK} {v:V} {e:Ent} {es:List Ent} (h:Rep H (ruD (e::es)) v) (k:Q (.int ((e.2.length:Nat) - 1)) H):sp_rws [v] H Q E:=by
  unfold sp_rws; exact ⟨v,e,es,rfl,h,k⟩
abbrev w0:Str × List Fr:=("",[])
def fturn (ws:List (Str × List Fr)) (o:List Nat):List (Str × List Fr):=ws.map fun w=>(w.1,turnL (0,1) w.2 o)
def sayT (fs:List Fr) (o:List Nat):List Fr:=fs.take 1++turnL (0,1) (fs.drop 1) o
def ruT (es:List Ent) (o:List Nat):List Ent:=es.map fun e=>(e.1,sayT e.2 o)
structure RuN (F W:Nat) (es:List Ent):Prop where
  ne:es≠[]
  nd:(es.map (·.1)).Nodup
  each:∀ e∈es,e.1.length=F∧e.2.length=1+W
  few:es.length≤50
abbrev Ref (C:Addr) (n:Nat) (d:PyData) (H:Hp) (E:XK):Prop:=ordB n d=false→∀ H',Same H H'→E (.ref C) none H'
theorem filter_all {α:Type} (l:List α):l.filter (fun _=>true)=l:=List.filter_eq_self.mpr fun _ _=>rfl
@[irreducible] def sp_waysof:Sp:=fun vs H Q _=>∃ v fs ws,vs=[v]∧Rep H (trD fs ws) v∧Q (.int (ws.length:Nat)) H
theorem sp_waysof_i {H:Hp} {Q:VK} {E:XK} {v:V} {fs:List Str} {ws:List (Str × List Fr)} (h:Rep H (trD fs ws) v) (q:Q (.int (ws.length:Nat)) H):sp_waysof [v] H Q E:=by unfold sp_waysof; exact ⟨v,fs,ws,rfl,h,q⟩
@[irreducible] def sp_rfs:Sp:=fun vs H Q _=>∃ (v:V) (e:Ent) (es:List Ent),vs=[v]∧Rep H (ruD (e::es)) v∧Q (.int (e.1.length:Nat)) H
theorem sp_rfs_i {H:Hp} {Q:VK} {E:XK} {v:V} {e:Ent} {es:List Ent} (h:Rep H (ruD (e::es)) v) (k:Q (.int (e.1.length:Nat)) H):sp_rfs [v] H Q E:=by
  unfold sp_rfs; exact ⟨v,e,es,rfl,h,k⟩
@[irreducible] def sp_wturn (C:Addr):Sp:=fun vs H Q E=>∃ (t y:V) (d:PyData) (fs:List Str) (ws:List (Str × List Fr)),vs=[t,y]∧Rep H (trD fs ws) t∧Rep H d y∧ws.length≤4∧Ref C ws.length d H E∧∀ o,d=orD o→OrdOk ws.length o→∀ v H',Same H H'→Rep H' (trD fs (turnL w0 ws o)) v→Q v H'
theorem sp_wturn_i {C:Addr} {H:Hp} {Q:VK} {E:XK} {t y:V} {d:PyData} {fs:List Str} {ws:List (Str × List Fr)} (h1:Rep H (trD fs ws) t) (h2:Rep H d y) (h3:ws.length≤4) (e:Ref C ws.length d H E) (q:∀ o,d=orD o→OrdOk ws.length o→∀ v H',Same H H'→Rep H' (trD fs (turnL w0 ws o)) v→Q v H'):sp_wturn C [t,y] H Q E:=by unfold sp_wturn; exact ⟨t,y,d,fs,ws,rfl,h1,h2,h3,e,q⟩
@[irreducible] def sp_fturn (C:Addr):Sp:=fun vs H Q E=>∃ (t y:V) (d:PyData) (fs:List Str) (ws:List (Str × List Fr)),vs=[t,y]∧Rep H (trD fs ws) t∧Rep H d y∧fs.length≤4∧(∀ w∈ws,w.2.length=fs.length)∧ws.length≤64∧Ref C fs.length d H E∧∀ o,d=orD o→OrdOk fs.length o→∀ v H',Same H H'→Rep H' (trD (turnL "" fs o) (fturn ws o)) v→Q v H'
theorem sp_fturn_i {C:Addr} {H:Hp} {Q:VK} {E:XK} {t y:V} {d:PyData} {fs:List Str} {ws:List (Str × List Fr)} (h1:Rep H (trD fs ws) t) (h2:Rep H d y) (h3:fs.length≤4) (h4:∀ w∈ws,w.2.length=fs.length) (h5:ws.length≤64) (e:Ref C fs.length d H E) (q:∀ o,d=orD o→OrdOk fs.length o→∀ v H',Same H H'→Rep H' (trD (turnL "" fs o) (fturn ws o)) v→Q v H'):sp_fturn C [t,y] H Q E:=by unfold sp_fturn; exact ⟨t,y,d,fs,ws,rfl,h1,h2,h3,h4,h5,e,q⟩
@[irreducible] def sp_rwturn (C:Addr):Sp:=fun vs H Q E=>∃ (r y:V) (d:PyData) (es:List Ent) (F W:Nat),vs=[r,y]∧Rep H (ruD es) r∧Rep H d y∧RuN F W es∧W≤4∧Ref C W d H E∧∀ o,d=orD o→OrdOk W o→∀ v H',Same H H'→Rep H' (ruD (ruT es o)) v→Q v H'
theorem sp_rwturn_i {C:Addr} {H:Hp} {Q:VK} {E:XK} {r y:V} {d:PyData} {es:List Ent} {F W:Nat} (h1:Rep H (ruD es) r) (h2:Rep H d y) (h3:RuN F W es) (h4:W≤4) (e:Ref C W d H E) (q:∀ o,d=orD o→OrdOk W o→∀ v H',Same H H'→Rep H' (ruD (ruT es o)) v→Q v H'):sp_rwturn C [r,y] H Q E:=by unfold sp_rwturn; exact ⟨r,y,d,es,F,W,rfl,h1,h2,h3,h4,e,q⟩
def turnC (cs:List Int) (o:List Nat):List Int:=turnL 0 cs o
abbrev lamP:Pos:=⟨80,37,80,76⟩
abbrev lamQ:Str := "rule_faces_turned" ++ ".<locals>." ++ "<lambda>"
structure TurnF (es:List Ent) (o:List Nat) (es':List Ent):Prop where
  perm:es'.Perm (es.map fun e=>(turnC e.1 o,e.2))
  rise:(es'.map (·.1)).Pairwise rk
@[irreducible] def sp_rfturn (C P:Addr):Sp:=fun vs H Q E=>∃ (r y:V) (d:PyData) (es:List Ent) (F W:Nat),vs=[r,y]∧Rep H (ruD es) r∧Rep H d y∧RuN F W es∧F≤4∧TabOk H P lamQ lamP∧Ref C F d H E∧∀ o,d=orD o→OrdOk F o→∀ v es' H',SameBut P H H'→TabOk H' P lamQ lamP→TurnF es o es'→Rep H' (ruD es') v→Q v H'
theorem sp_rfturn_i {C P:Addr} {H:Hp} {Q:VK} {E:XK} {r y:V} {d:PyData} {es:List Ent} {F W:Nat} (h1:Rep H (ruD es) r) (h2:Rep H d y) (h3:RuN F W es) (h4:F≤4) (h5:TabOk H P lamQ lamP) (e:Ref C F d H E) (q:∀ o,d=orD o→OrdOk F o→∀ v es' H',SameBut P H H'→TabOk H' P lamQ lamP→TurnF es o es'→Rep H' (ruD es') v→Q v H'):sp_rfturn C P [r,y] H Q E:=by unfold sp_rfturn; exact ⟨r,y,d,es,F,W,rfl,h1,h2,h3,h4,h5,e,q⟩
theorem turnC_inj {F:Nat} {o:List Nat} (ok:OrdOk F o) {a b:List Int} (ha:a.length=F) (hb:b.length=F) (h:turnC a o=turnC b o):a=b:=by
  refine List.ext_getElem (by omega) fun k h1 h2=>?_
  have hk:k∈o:=ok.perm.mem_iff.mpr (List.mem_range.mpr (by omega))
  obtain ⟨i,hi⟩:=List.mem_iff_getElem?.mp hk
  have e:=congrArg (fun l:List Int=>l[i]?) h
  unfold turnC turnL at e
  rw [List.getElem?_map,List.getElem?_map,hi] at e
  have e:a.getD k 0=b.getD k 0:=by simpa using e
  rw [List.getD_eq_getElem?_getD,List.getD_eq_getElem?_getD,List.getElem?_eq_getElem h1,List.getElem?_eq_getElem h2] at e
  exact e
theorem turnF_of {F W:Nat} {es:List Ent} {o ix:List Nat} (R:RuN F W es) (ok:OrdOk F o) (pm:ix.Perm (List.range es.length)) (srt:(es.map fun e:Ent=>(turnC e.1 o).sum::turnC e.1 o).Nodup→(ix.map fun i=>(es.map fun e:Ent=>(turnC e.1 o).sum::turnC e.1 o).getD i []).Pairwise fun a b=>lexB a b=true) :
    TurnF es o (turnL ([],[]) (es.map fun e:Ent=>(turnC e.1 o,e.2)) ix):=by
  have hl:∀ k∈ix,k<es.length:=fun k hk=>List.mem_range.mp (pm.mem_iff.mp hk)
  refine ⟨?_,?_⟩
  · unfold turnL
    refine (pm.map _).trans ?_
    rw [show (List.range es.length).map (fun k=>(es.map fun e:Ent=>(turnC e.1 o,e.2)).getD k ([],[]))=es.map fun e:Ent=>(turnC e.1 o,e.2) from ?_]
    refine List.ext_getElem? fun i=>?_
    rw [List.getElem?_map,List.getElem?_map]
    by_cases hi:i<es.length
    · rw [List.getElem?_range hi,List.getElem?_eq_getElem hi]
      show some (List.getD _ i _)=_
      rw [List.getD_eq_getElem?_getD,List.getElem?_map,List.getElem?_eq_getElem hi]; rfl
    · rw [List.getElem?_eq_none (by rw [List.length_range]; omega),List.getElem?_eq_none (by omega)]; rfl
  · have nd:(es.map fun e:Ent=>(turnC e.1 o).sum::turnC e.1 o).Nodup:=by
      have h2:=nodup_map_on (f:=fun c:List Int=>(turnC c o).sum::turnC c o) R.nd fun x hx y hy e=>by
        obtain ⟨a,ha,rfl⟩:=List.mem_map.mp hx
        obtain ⟨b,hb,rfl⟩:=List.mem_map.mp hy
        injection e with _ e
        exact turnC_inj ok (R.each a ha).1 (R.each b hb).1 e
      rw [List.map_map] at h2
      exact h2
    have h1:=List.pairwise_map.mp (srt nd)
    unfold turnL
    rw [List.map_map,List.pairwise_map]
    refine h1.imp_of_mem fun {i j} hi hj h=>?_
    have gi:∀ k∈ix,∃ e:Ent,(es.map fun e:Ent=>(turnC e.1 o).sum::turnC e.1 o).getD k []=(turnC e.1 o).sum::turnC e.1 o∧((es.map fun e:Ent=>(turnC e.1 o,e.2)).getD k ([],[])).1=turnC e.1 o:=fun k hk=>by
      have:=hl k hk
      refine ⟨es[k],?_,?_⟩
      · rw [List.getD_eq_getElem?_getD,List.getElem?_map,List.getElem?_eq_getElem this]; rfl
      · rw [List.getD_eq_getElem?_getD,List.getElem?_map,List.getElem?_eq_getElem this]; rfl
    obtain ⟨a,a1,a2⟩:=gi i hi
    obtain ⟨b,b1,b2⟩:=gi j hj
    rw [a1,b1,lexB_cc] at h
    show rk ((es.map fun e:Ent=>(turnC e.1 o,e.2)).getD i ([],[])).1 ((es.map fun e:Ent=>(turnC e.1 o,e.2)).getD j ([],[])).1
    rw [a2,b2]
    by_cases q:(turnC a.1 o).sum=(turnC b.1 o).sum
    · rw [if_pos q] at h
      exact .inr ⟨q,h⟩
    · rw [if_neg q] at h
      exact .inl (of_decide_eq_true h)
section
variable {P:Program} {w:World} {K:PySem.W.Frag} {mg:Str→Option Value} {base:Heap} {c:Cl}
theorem ok_faces_of {f:Addr} {fd:FuncData} (F:Fun K "faces_of" "faces_of" s_faces_of f fd) (T:Txt K mg c):FnOk P w K mg base CX0 1 f fd ["trial"] sp_facesof:=by
  refine F.okw sc_faces_of (fun vs H Q E h=>?_) (fun cdv A outer s H vs Q E hr h=>?_)
  · unfold sp_facesof at h
    obtain ⟨v,fs,ws,rfl,_⟩:=h
    rfl
  · unfold sp_facesof at h
    obtain ⟨v,fs,ws,rfl,h,q⟩:=h
    obtain ⟨ta,tvs,rfl,hta,rtv⟩:=tup_at h
    obtain ⟨xf,xw,rfl,rf,rw'⟩:=RepL_two rtv
    obtain ⟨fa,fvs,rfl,hfa,rfv⟩:=tup_at rf
    refine ⟨_,(wss_one (ws_ret (we_cB cl_len (by rfl) T.b_len (by decide +kernel) (wa_k (we_ix ix_seq (we_v 0) we_int (fun _ _=>rfl)) wa_nil)))),?_⟩
    refine ⟨_,rfl,?_⟩
    refine ixT hta rfl ?_
    refine rlT hfa ?_
    rw [reps_len rfv]
    exact q
theorem ok_rule_ways {f:Addr} {fd:FuncData} (F:Fun K "rule_ways" "rule_ways" s_rule_ways f fd) (T:Txt K mg c):FnOk P w K mg base CX0 1 f fd ["rule"] sp_rws:=by
  refine F.okw sc_rule_ways (fun vs H Q E h=>?_) (fun cdv A outer s H vs Q E hr h=>?_)
  · unfold sp_rws at h
    obtain ⟨v,e,es,rfl,_⟩:=h
    rfl
  · unfold sp_rws at h
    obtain ⟨v,e,es,rfl,r,q⟩:=h
    obtain ⟨a,xs,rfl,ha,rxs⟩:=ruD_at r
    obtain ⟨z,hz,rz⟩:=reps_get' rxs (i:=0) (f:=e) rfl
    obtain ⟨b,u,v,rfl,hb,ru,rv⟩:=enD_at rz
    obtain ⟨sa,svs,rfl,hsa,rsv⟩:=shD_at rv
    refine ⟨_,(wss_one (ws_ret (we_op op_sub (we_cB cl_len (by rfl) T.b_len (by decide +kernel) (wa_k (we_ix ix_seq (we_ix ix_seq (we_v 0) we_int (fun _ _=>rfl)) we_int (fun _ _=>rfl)) wa_nil)) we_int))),?_⟩
    refine ⟨_,rfl,?_⟩
    refine ixT ha (atI_nat (j:=0) hz) ?_
    refine ixT hb rfl ?_
    refine rlT hsa ?_
    rw [reps_len rsv]
    exact ⟨_,_,rfl,rfl,q⟩
theorem ok_ways_of {f:Addr} {fd:FuncData} (F:Fun K "ways_of" "ways_of" s_ways_of f fd) (T:Txt K mg c):FnOk P w K mg base CX0 1 f fd ["trial"] sp_waysof:=by
  refine F.okw sc_ways_of (fun vs H Q E h=>?_) (fun cdv A outer s H vs Q E hr h=>?_)
  · unfold sp_waysof at h
    obtain ⟨v,fs,ws,rfl,_⟩:=h
    rfl
  · unfold sp_waysof at h
    obtain ⟨v,fs,ws,rfl,h,q⟩:=h
    obtain ⟨ta,tvs,rfl,hta,rtv⟩:=tup_at h
    obtain ⟨xf,xw,rfl,rf,rw'⟩:=RepL_two rtv
    obtain ⟨fa,fvs,rfl,hfa,rfv⟩:=tup_at rw'
    refine ⟨_,(wss_one (ws_ret (we_cB cl_len (by rfl) T.b_len (by decide +kernel) (wa_k (we_ix ix_seq (we_v 0) we_int (fun _ _=>rfl)) wa_nil)))),?_⟩
    refine ⟨_,rfl,?_⟩
    refine ixT hta rfl ?_
    refine rlT hfa ?_
    rw [reps_len rfv]
    exact q
theorem ok_rule_faces {f:Addr} {fd:FuncData} (F:Fun K "rule_faces" "rule_faces" s_rule_faces f fd) (T:Txt K mg c):FnOk P w K mg base CX0 1 f fd ["rule"] sp_rfs:=by
  refine F.okw sc_rule_faces (fun vs H Q E h=>?_) (fun cdv A outer s H vs Q E hr h=>?_)
  · unfold sp_rfs at h
    obtain ⟨v,e,es,rfl,_⟩:=h
    rfl
  · unfold sp_rfs at h
    obtain ⟨v,e,es,rfl,r,q⟩:=h
    obtain ⟨a,xs,rfl,ha,rxs⟩:=ruD_at r
    obtain ⟨z,hz,rz⟩:=RepL.atX rxs (i:=0) (a:=e) rfl
    obtain ⟨b,u,v,rfl,hb,ru,rv⟩:=enD_at rz
    obtain ⟨cu,rfl,hcu⟩:=ctD_at ru
    refine ⟨_,(wss_one (ws_ret (we_cB cl_len (by rfl) T.b_len (by decide +kernel) (wa_k (we_ix ix_seq (we_ix ix_seq (we_v 0) we_int (fun _ _=>rfl)) we_int (fun _ _=>rfl)) wa_nil)))),?_⟩
    refine ⟨_,rfl,?_⟩
    refine ixT ha (atI_nat (j:=0) hz) ?_
    refine ixT hb rfl ?_
    refine rlT hcu ?_
    rw [List.length_map]
    exact q
theorem ok_ways_turned {f:Addr} {fd:FuncData} (F:Fun K "ways_turned" "ways_turned" s_ways_turned f fd) (T:Txt K mg c) (F_check_order:FnC (CX1 P w) P w K mg base 3 "check_order" ["thing", "many"] (sp_chkB c.NoOrder)) (F_ways_of:FnC CX0 P w K mg base 1 "ways_of" ["trial"] sp_waysof) (F_turned:FnC CX0 P w K mg base 1 "turned" ["things", "order"] sp_turned):FnOk P w K mg base (CX1 P w) 4 f fd ["trial", "order"] (sp_wturn c.NoOrder):=by
  refine F.okx sc_ways_turned (fun vs H Q E h=>?_) (fun cdv A outer s H vs Q E hr h hx hmd=>?_)
  · unfold sp_wturn at h
    obtain ⟨t,y,d,fs,ws,rfl,_⟩:=h
    rfl
  · unfold sp_wturn at h
    obtain ⟨t,y,d,fs,ws,rfl,rt,ry,l4,e,q⟩:=h
    have rt0:=rt
    obtain ⟨ta,tvs,rfl,hta,rtv⟩:=tup_at rt
    obtain ⟨xf,xw,rfl,rf,rw'⟩:=RepL_two rtv
    obtain ⟨wa,wvs,rfl,hwa,rwv⟩:=tup_at rw'
    have lw':=reps_len rwv
    refine ⟨_,(wss_cons (ws_expr (we_fnX F_check_order (hr.mono (by decide)) hx (wa_k (we_v 1) (wa_k (we_fn F_ways_of (hr.mono (by decide)) (wa_k (we_v 0) wa_nil)) wa_nil))))
      (wss_one (ws_ret (we_tup (wa_k (we_ix ix_seq (we_v 0) we_int (fun _ _=>rfl)) (wa_k (we_fn F_turned (hr.mono (by decide)) (wa_k (we_ix ix_seq (we_v 0) we_int (fun _ _=>rfl)) (wa_k (we_v 1) wa_nil))) wa_nil)))))),?_⟩
    refine ⟨_,rfl,_,rfl,?_⟩
    refine sp_waysof_i rt0 ?_
    refine sp_chkB_i ry (by omega) e fun hO H1 s1=>?_
    obtain ⟨o,rfl,ok⟩:=ord_of hO l4
    obtain ⟨b,rfl,hb⟩:=or_at ry
    have q:=q o rfl ok
    refine ⟨_,rfl,?_⟩
    refine ixT (s1 _ _ hta) rfl ?_
    refine ⟨_,rfl,?_⟩
    refine ixT (s1 _ _ hta) rfl ?_
    refine ⟨_,rfl,?_⟩
    refine sp_turned_i (s1 _ _ hwa) (s1 _ _ hb) (fun k hk=>by rw [lw']; exact ok.lt k hk) (by rw [ok.len]; omega) fun c2 H2 s2 e2=>?_
    refine nwT (by show 2≤64; decide) fun q3 H3 hq3 e3 s3=>?_
    have s13:=(s1.trans s2).trans s3
    refine q _ H3 s13 (Rep.tup e3 (RepL.cons (rf.same s13) (RepL.cons (Rep.tup (s3 _ _ e2) ?_) RepL.nil)))
    exact turn_rep (rwv.same s13) fun k hk=>ok.lt k hk
set_option maxHeartbeats 4000000 in
theorem ok_faces_turned {f:Addr} {fd:FuncData} (F:Fun K "faces_turned" "faces_turned" s_faces_turned f fd) (T:Txt K mg c) (F_check_order:FnC (CX1 P w) P w K mg base 3 "check_order" ["thing", "many"] (sp_chkB c.NoOrder)) (F_faces_of:FnC CX0 P w K mg base 1 "faces_of" ["trial"] sp_facesof) (F_turned:FnC CX0 P w K mg base 1 "turned" ["things", "order"] sp_turned):FnOk P w K mg base (CX1 P w) 4 f fd ["trial", "order"] (sp_fturn c.NoOrder):=by
  refine F.okx sc_faces_turned (fun vs H Q E h=>?_) (fun cdv A outer s H vs Q E hr h hx hmd=>?_)
  · unfold sp_fturn at h
    obtain ⟨t,y,d,fs,ws,rfl,_⟩:=h
    rfl
  · unfold sp_fturn at h
    obtain ⟨t,y,d,fs,ws,rfl,rt,ry,l4,hw,hl,e,q⟩:=h
    have rt0:=rt
    obtain ⟨ta,tvs,rfl,hta,rtv⟩:=tup_at rt
    obtain ⟨xf,xw,rfl,rf,rw'⟩:=RepL_two rtv
    obtain ⟨fa,fvs,rfl,hfa,rfv⟩:=tup_at rf
    obtain ⟨wa,wvs,rfl,hwa,rwv⟩:=tup_at rw'
    have lf:=reps_len rfv
    refine ⟨_,(wss_cons (ws_expr (we_fnX F_check_order (hr.mono (by decide)) hx (wa_k (we_v 1) (wa_k (we_fn F_faces_of (hr.mono (by decide)) (wa_k (we_v 0) wa_nil)) wa_nil))))
      (wss_one (ws_ret (we_tup (wa_k (we_fn F_turned (hr.mono (by decide)) (wa_k (we_ix ix_seq (we_v 0) we_int (fun _ _=>rfl)) (wa_k (we_v 1) wa_nil))) (wa_k (we_cT call_tuple_of (by rfl) T.b_tuple (by decide +kernel) (wa_k (we_compN2 (CScopeN.of (psc:=defScope s_faces_turned) (N:=["trial", "order"]) (xs:=["name", "shares"]) (N':=["name", "shares", "order"]) (js:=[1]) (by decide +kernel) rfl rfl rfl) (wi_tup (we_ix ix_seq (we_v 0) we_int (fun _ _=>rfl))) (fun _ _ _ _=>wts_nil) (fun _ _ _ _=>(we_tup (wa_k (we_v 0) (wa_k (we_fn F_turned (hr.mono (by decide)) (wa_k (we_v 1) (wa_k (we_v 2) wa_nil))) wa_nil))))) wa_nil)) wa_nil)))))),?_⟩
    refine ⟨_,rfl,_,rfl,?_⟩
    refine sp_facesof_i rt0 ?_
    refine sp_chkB_i ry (by omega) e fun hO H1 s1=>?_
    obtain ⟨o,rfl,ok⟩:=ord_of hO l4
    obtain ⟨b,rfl,hb⟩:=or_at ry
    have q:=q o rfl ok
    refine ⟨_,rfl,?_⟩
    refine ixT (s1 _ _ hta) rfl ?_
    refine ⟨_,rfl,?_⟩
    refine sp_turned_i (s1 _ _ hfa) (s1 _ _ hb) (fun k hk=>by rw [lf]; exact ok.lt k hk) (by rw [ok.len]; omega) fun c2 H2 s2 e2=>?_
    have s12:=s1.trans s2
    refine ⟨_,rfl,?_⟩
    refine ixT (s12 _ _ hta) rfl ?_
    refine ⟨wa,rfl,⟨_,SqT.of (s12 _ _ hwa)⟩,?_⟩
    refine compN_tup (fun _=>true) (fun w x=>Rep H2 (wD w) x) (fun w y H'=>Rep H' (wD (w.1,turnL (0,1) w.2 o)) y) (fun w y H1 H2 s r=>r.flat s (wD_flat _)) (by omega) (s12 _ _ hwa) (Paired.ofRepL (rwv.same s12)) (fun x w H' hm rw0 s'=>?_) (fun D ys H3 hD e3 s3 pr=>?_)
    · obtain ⟨pa,pvs,rfl,hpa,rpv⟩:=tup_at (rw0.same s')
      obtain ⟨y1,y2,rfl,ry1,ry2⟩:=RepL_two rpv
      obtain ⟨sha,shs,rfl,hsha,rshs⟩:=shD_at ry2
      refine ⟨pa,[y1,.ref sha],rfl,SqT.of hpa,rfl,fun Q' h=>h H' (Same.refl _),fun H5 Q' s5 _ k'=>?_⟩
      have lsh:=reps_len rshs
      have hww:=hw w hm
      refine ⟨_,rfl,_,rfl,_,rfl,?_⟩
      refine sp_turned_i (s5 _ _ hsha) (s5 _ _ (s' _ _ (s12 _ _ hb))) (fun k hk=>by rw [lsh,hww]; exact ok.lt k hk) (by rw [ok.len]; omega) fun c6 H6 s6 e6=>?_
      refine nwT (by show 2≤64; decide) fun q7 H7 hq7 e7 s7=>?_
      have s57:=(s5.trans s6).trans s7
      refine k' _ H7 (s6.trans s7) (Rep.tup e7 (RepL.cons (ry1.same s57) (RepL.cons (Rep.tup (s7 _ _ e6) ?_) RepL.nil)))
      exact turn_rep (rshs.same s57) fun k hk=>by rw [hww]; exact ok.lt k hk
    · rw [filter_all] at pr
      refine ⟨D,ys,rfl,.inl ⟨SqL.of e3,fun l hl=>?_⟩⟩
      have sl:=Same.upd (o:=.tup ys) hl
      have el:upd H3 l (.tup ys) l=some (.tup ys):=upd_same
      generalize upd H3 l (.tup ys)=H4 at sl el
      refine nwT (by show 2≤64; decide) fun q5 H5 hq5 e5 s5=>?_
      have s25:=(s3.trans sl).trans s5
      have rys:RepL H5 ((fturn ws o).map wD) ys:=by
        have:=Paired.toRepL (g:=fun w:Str × List Fr=>wD (w.1,turnL (0,1) w.2 o)) pr
        unfold fturn
        rw [List.map_map]
        exact (this.same sl).same s5
      refine q _ H5 (s12.trans s25) (Rep.tup e5 (RepL.cons (Rep.tup (s25 _ _ e2) ?_) (RepL.cons (Rep.tup (s5 _ _ el) rys) RepL.nil)))
      exact turn_rep (rfv.same (s12.trans s25)) fun k hk=>ok.lt k hk
set_option maxHeartbeats 4000000 in
theorem ok_rule_ways_turned {f:Addr} {fd:FuncData} (F:Fun K "rule_ways_turned" "rule_ways_turned" s_rule_ways_turned f fd) (T:Txt K mg c) (F_check_order:FnC (CX1 P w) P w K mg base 3 "check_order" ["thing", "many"] (sp_chkB c.NoOrder)) (F_rule_ways:FnC CX0 P w K mg base 1 "rule_ways" ["rule"] sp_rws) (F_turned:FnC CX0 P w K mg base 1 "turned" ["things", "order"] sp_turned):FnOk P w K mg base (CX1 P w) 4 f fd ["rule", "order"] (sp_rwturn c.NoOrder):=by
  refine F.okx sc_rule_ways_turned (fun vs H Q E h=>?_) (fun cdv A outer s H vs Q E hr h hx hmd=>?_)
  · unfold sp_rwturn at h
    obtain ⟨r,y,d,es,F,W,rfl,_⟩:=h
    rfl
  · unfold sp_rwturn at h
    obtain ⟨r,y,d,es,F,W,rfl,rr,ry,R,l4,e,q⟩:=h
    have rr0:=rr
    obtain ⟨a,xs,rfl,ha,rxs⟩:=ruD_at rr
    have ls:=R.few
    refine ⟨_,(wss_cons (ws_expr (we_fnX F_check_order (hr.mono (by decide)) hx (wa_k (we_v 1) (wa_k (we_fn F_rule_ways (hr.mono (by decide)) (wa_k (we_v 0) wa_nil)) wa_nil))))
      (wss_one (ws_ret (we_cT call_tuple_of (by rfl) T.b_tuple (by decide +kernel) (wa_k (we_compN2 (CScopeN.of (psc:=defScope s_rule_ways_turned) (N:=["rule", "order"]) (xs:=["counts", "says"]) (N':=["counts", "says", "order"]) (js:=[1]) (by decide +kernel) rfl rfl rfl) (wi_tup (we_v 0)) (fun _ _ _ _=>wts_nil) (fun _ _ _ _=>(we_tup (wa_k (we_v 0) (wa_k (we_op (op_catU K) (we_slice (sl_tupA K) (we_v 1) wo_none (wo_some we_int)) (we_fn F_turned (hr.mono (by decide)) (wa_k (we_slice (sl_tupA K) (we_v 1) (wo_some we_int) wo_none) (wa_k (we_v 2) wa_nil)))) wa_nil))))) wa_nil))))),?_⟩
    obtain ⟨e0,r',rfl⟩:=List.exists_cons_of_ne_nil R.ne
    have le0:=(R.each e0 (List.mem_cons_self ..)).2
    refine ⟨_,rfl,_,rfl,?_⟩
    refine sp_rws_i rr0 ?_
    rw [show ((e0.2.length:Nat):Int) - 1=(W:Nat) by rw [le0]; omega]
    refine sp_chkB_i ry (by omega) e fun hO H1 s1=>?_
    obtain ⟨o,rfl,ok⟩:=ord_of hO l4
    obtain ⟨b,rfl,hb⟩:=or_at ry
    have q:=q o rfl ok
    refine ⟨_,rfl,a,rfl,⟨_,SqT.of (s1 _ _ ha)⟩,?_⟩
    refine compN_tup (fun _=>true) (fun e x=>Rep H1 (enD e) x) (fun e y H'=>Rep H' (enD (e.1,sayT e.2 o)) y) (fun w y H1 H2 s r=>r.flat s (enD_flat _)) (by omega) (s1 _ _ ha) (Paired.ofRepL (rxs.same s1)) (fun x e H' hm re s'=>?_) (fun D ys H3 hD e3 s3 pr=>?_)
    · obtain ⟨eb,u,v,rfl,heb,ru,rv⟩:=enD_at (re.same s')
      obtain ⟨sa,svs,rfl,hsa,rsv⟩:=shD_at rv
      refine ⟨eb,[u,.ref sa],rfl,SqT.of heb,rfl,fun Q' h=>h H' (Same.refl _),fun H5 Q' s5 _ k'=>?_⟩
      have lsv:=reps_len rsv
      have hle:=(R.each e hm).2
      refine ⟨_,rfl,_,rfl,_,rfl,?_⟩
      refine slA_hi (k:=1) (s5 _ _ hsa) fun p6 H6 s6 e6=>?_
      refine ⟨_,rfl,_,rfl,?_⟩
      refine slA_loE (k:=1) rfl (s6 _ _ (s5 _ _ hsa)) fun p7 H7 s7 e7=>?_
      refine ⟨_,rfl,?_⟩
      have s67:=s6.trans s7
      refine sp_turned_i e7 (s67 _ _ (s5 _ _ (s' _ _ (s1 _ _ hb)))) (fun k hk=>by have:=ok.lt k hk; rw [List.length_drop,lsv,hle]; omega) (by rw [ok.len]; omega) fun c8 H8 s8 e8=>?_
      refine catU (s8 _ _ (s7 _ _ e6)) e8 (by unfold turnV; rw [List.length_take,List.length_map,ok.len]; omega) fun c9 H9 s9 e9=>?_
      refine nwT (by show 2≤64; decide) fun q10 H10 hq10 e10 s10=>?_
      have s510:=(((s5.trans s67).trans s8).trans s9).trans s10
      refine k' _ H10 (((s67.trans s8).trans s9).trans s10) (Rep.tup e10 (RepL.cons (ru.same s510) (RepL.cons (Rep.tup (s10 _ _ e9) ?_) RepL.nil)))
      unfold sayT
      rw [List.map_append]
      have rs:=rsv.same s510
      refine RepL.append ?_ ?_
      · refine turn_rep ?_ fun k hk=>by have:=ok.lt k hk; rw [List.length_drop,hle]; omega
        rw [List.map_drop]
        exact RepL.dropR 1 rs
      · rw [List.map_take]
        exact repl_take 1 rs
    · rw [filter_all] at pr
      refine ⟨D,ys,rfl,.inl ⟨SqL.of e3,fun l hl=>?_⟩⟩
      have sl:=Same.upd (o:=.tup ys) hl
      refine q _ _ ((s1.trans s3).trans sl) (Rep.tup upd_same ?_)
      have:=Paired.toRepL (g:=fun e:Ent=>enD (e.1,sayT e.2 o)) pr
      unfold ruT
      rw [List.map_map]
      exact this.same sl
set_option maxHeartbeats 4000000 in
theorem ok_rule_faces_turned {f cA tA:Addr} {fd:FuncData} (F:Fun K "rule_faces_turned" "rule_faces_turned" s_rule_faces_turned f fd) (T:Txt K mg c) (hcd:fd.code=.ref cA) (hh:hdIn K cA tA=true) (hbm:BM mg base) (F_check_order:FnC (CX1 P w) P w K mg base 3 "check_order" ["thing", "many"] (sp_chkB c.NoOrder)) (F_rule_faces:FnC CX0 P w K mg base 1 "rule_faces" ["rule"] sp_rfs) (F_turned:FnC CX0 P w K mg base 1 "turned" ["things", "order"] sp_turned):FnOk P w K mg base (CX1 P w) 8 f fd ["rule", "order"] (sp_rfturn c.NoOrder tA):=by
  refine F.okxL hcd sc_rule_faces_turned (fun vs H Q E h=>?_) (fun A outer s H vs Q E hr h hx hmd=>?_)
  · unfold sp_rfturn at h
    obtain ⟨r,y,d,es,F,W,rfl,_⟩:=h
    rfl
  · unfold sp_rfturn at h
    obtain ⟨r,y,d,es,F,W,rfl,rr,ry,R,l4,TO,e,q⟩:=h
    have rr0:=rr
    have few:=R.few
    refine ⟨_,(wss_cons (ws_expr (we_fnX F_check_order (hr.mono (by decide)) hx (wa_k (we_v 1) (wa_k (we_fn F_rule_faces (hr.mono (by decide)) (wa_k (we_v 0) wa_nil)) wa_nil))))
      (wss_cons (ws_setCompN2 (i:=2) (CScopeN.of (psc:=defScope s_rule_faces_turned) (N:=["rule", "order", "entries"]) (xs:=["counts", "says"]) (N':=["counts", "says", "order"]) (js:=[1]) (by decide +kernel) rfl rfl rfl) sc_rule_faces_turned.nd rfl rfl (wi_tup (we_v 0)) (fun _ _ _ _=>wts_nil) (fun _ _ _ _=>(we_tup (wa_k (we_fn F_turned (hr.mono (by decide)) (wa_k (we_v 0) (wa_k (we_v 2) wa_nil))) (wa_k (we_v 1) wa_nil)))))
      (wss_one (ws_ret (we_cT call_tuple_of (by rfl) T.b_tuple (by decide +kernel) (wa_k (we_srtL K (k:=4) (N:=["entry"]) (z := "entry") rfl hh hbm ⟨rfl,rfl,rfl,by decide +kernel,rfl,by decide +kernel,by decide +kernel⟩ (fun _ _ _ _=>rfl) (fun B f c1 A outer s H E hr=>(we_tup (wa_k (we_cB (cl_sumT K rfl) (by rfl) T.b_sum (by decide +kernel) (wa_k (we_ix (ix_seqK K) (we_v 0) we_int (fun _ _=>rfl)) wa_nil)) (wa_k (we_ix (ix_seqK K) (we_v 0) we_int (fun _ _=>rfl)) wa_nil)))) (hr.mono (by decide)) (by rfl) T.b_sorted (we_v 2) rfl) wa_nil)))))),?_⟩
    obtain ⟨ra,rxs,rfl,hra,rrx⟩:=ruD_at rr
    have hl0:∀ e∈es,e.1.length=F:=fun e he=>(R.each e he).1
    refine ⟨_,rfl,_,rfl,?_⟩
    obtain ⟨e0,r',ees⟩:=List.exists_cons_of_ne_nil R.ne
    refine sp_rfs_i (e:=e0) (es:=r') (by rw [← ees]; exact rr0) ?_
    rw [hl0 e0 (by rw [ees]; exact List.mem_cons_self ..)]
    refine sp_chkB_i ry (by omega) e fun hO H1 s1=>?_
    obtain ⟨o,rfl,ok⟩:=ord_of hO l4
    obtain ⟨b,rfl,hb⟩:=or_at ry
    have q:=q o rfl ok
    refine ⟨_,rfl,ra,rfl,⟨_,SqT.of (s1 _ _ hra)⟩,?_⟩
    refine compN_tup (fun _=>true) (fun e x=>Rep H1 (enD e) x) (fun e y H'=>Rep H' (enD (turnC e.1 o,e.2)) y) (fun w y H1 H2 s r=>r.flat s (enD_flat _)) (by omega) (s1 _ _ hra) (Paired.ofRepL (rrx.same s1)) (fun x e H' hm re s'=>?_) (fun D ys H3 hD e3 s3 pr=>?_)
    · obtain ⟨eb,u,v,rfl,heb,ru,rv⟩:=enD_at (re.same s')
      obtain ⟨cu,rfl,hcu⟩:=ctD_at ru
      refine ⟨eb,[.ref cu,v],rfl,SqT.of heb,rfl,fun Q' h=>h H' (Same.refl _),fun H5 Q' s5 _ k'=>?_⟩
      have hle:=hl0 e hm
      refine ⟨_,rfl,_,rfl,?_⟩
      refine sp_turned_i (s5 _ _ hcu) (s5 _ _ (s' _ _ (s1 _ _ hb))) (fun k hk=>by rw [List.length_map,hle]; exact ok.lt k hk) (by rw [ok.len]; omega) fun c6 H6 s6 e6=>?_
      refine ⟨_,rfl,?_⟩
      refine nwT (by show 2≤64; decide) fun q7 H7 hq7 e7 s7=>?_
      refine k' _ H7 (s6.trans s7) (Rep.tup e7 (RepL.cons (ctD_of ?_) (RepL.cons (rv.same ((s5.trans s6).trans s7)) RepL.nil)))
      rw [s7 _ _ e6]
      congr 2
      unfold turnV turnC turnL
      rw [List.map_map]
      refine List.map_congr_left fun k hk=>?_
      have hk':k<e.1.length:=by rw [hle]; exact ok.lt k hk
      show (e.1.map V.int).getD k .non=V.int (e.1.getD k 0)
      rw [List.getD_eq_getElem?_getD,List.getElem?_map,List.getD_eq_getElem?_getD,List.getElem?_eq_getElem hk']; rfl
    · rw [filter_all] at pr
      have lys:ys.length=es.length:=pr.length.symm
      have s13:=s1.trans s3
      have TO3:=TO.same s13
      obtain ⟨ps,hps⟩:=TO3.at_
      refine ⟨_,rfl,?_⟩
      unfold rSrtL
      refine ⟨D,ys,es.map fun e=>(turnC e.1 o).sum::turnC e.1 o,rfl,SqL.of e3,by omega,TO3,by rw [List.length_map,lys],fun k hk=>?_,fun i y k H' hy hk b'=>?_,fun D2 ix H4 pm srt hD2 e4 b4 T4=>?_⟩
      · obtain ⟨e,_,rfl⟩:=List.mem_map.mp hk
        exact List.cons_ne_nil _ _
      · obtain ⟨e,he,re⟩:=paired_at pr hy
        rw [List.getElem?_map,he] at hk
        cases hk
        have t':SameT H3 H':=fun a xs ha=>b'.at (fun z=>by rw [z,hps] at ha; cases ha) ha
        obtain ⟨eb,u,v,rfl,heb,ru,rv⟩:=enD_at (re.flat t' (enD_flat _))
        obtain ⟨cu,rfl,hcu⟩:=ctD_at ru
        refine ⟨_,rfl,?_⟩
        refine ixT heb rfl ?_
        refine rsT (SqT.of hcu) ?_
        refine ⟨_,rfl,?_⟩
        refine ixT heb rfl ?_
        refine nwT (by show 2≤64; decide) fun q7 H7 hq7 e7 s7=>⟨s7,?_⟩
        exact Rep.tup e7 (RepL.cons (Rep.int _) (RepL.cons (ctD_of (s7 _ _ hcu)) RepL.nil))
      · refine ⟨D2,_,rfl,.inl ⟨SqL.of e4,fun l hl=>?_⟩⟩
        have sl:=Same.upd (o:=.tup (ix.map fun i=>ys.getD i .non)) hl
        have hix:∀ k∈ix,k<(es.map fun e:Ent=>(turnC e.1 o,e.2)).length:=fun k hk=>by
          have:=List.mem_range.mp (pm.mem_iff.mp hk)
          rw [List.length_map]; omega
        have t4:SameT H3 H4:=fun a xs ha=>b4.at (fun z=>by rw [z,hps] at ha; cases ha) ha
        have r0:=Paired.toRepL (g:=fun e:Ent=>enD (turnC e.1 o,e.2)) pr
        have r1:RepL H3 ((es.map fun e:Ent=>(turnC e.1 o,e.2)).map enD) ys:=by rw [List.map_map]; exact r0
        have r2:=turn_rep (d:=(([],[]):Ent)) ((r1.flat t4 (ens_flat _)).same sl) hix
        refine q (.ref l) (turnL ([],[]) (es.map fun e:Ent=>(turnC e.1 o,e.2)) ix) _ ?_ (T4.same sl) ?_ (Rep.tup upd_same r2)
        · refine SameBut.same ?_ sl
          intro a ob ha
          have n:=Hide.ne ha
          rw [Hide.at n] at ha
          exact Hide.of n (b4.at n (s13 _ _ ha))
        · exact turnF_of R ok (by rw [← lys]; exact pm) srt
end
end Kw
set_option Elab.async false
set_option linter.all false
set_option maxRecDepth 100000
namespace Kw
open PySem L2 Mf
abbrev s_undone:Stmt:=(top 30)
theorem sc_undone:FnScope ["order"] ["order"] (defScope s_undone):=⟨rfl,rfl,rfl,by decide +kernel,rfl,by decide +kernel,by decide +kernel⟩
def undo (o:List Nat):List Nat:=(List.range o.length).map fun k=>o.idxOf k
def undB:PyData→Bool
  | .tuple ds=>!ds.isEmpty&&ordB ds.length (.tuple ds)
  | _=>false
theorem ord_idx {n:Nat} {o:List Nat} (h:OrdOk n o) {k:Nat} (hk:k<n):o.idxOf k<o.length∧o[o.idxOf k]?=some k∧∀ i,i<o.idxOf k→o[i]? ≠ some k:=by
  have hm:k∈o:=h.perm.mem_iff.mpr (List.mem_range.mpr hk)
  have hl:=List.idxOf_lt_length_of_mem hm
  refine ⟨hl,?_,fun i hi e=>?_⟩
  · rw [List.getElem?_eq_getElem hl,List.getElem_idxOf]
  · have h2:i<o.length:=by omega
    rw [List.getElem?_eq_getElem h2] at e
    have e:o[i]=k:=by injection e
    have:=List.not_of_lt_findIdx (p:=fun x=>x == k) (xs:=o) (i:=i) hi
    simp [e] at this
@[irreducible] def sp_undone (C:Addr):Sp:=fun vs H Q E=>∃ (y:V) (d:PyData),vs=[y]∧Rep H d y∧(∀ ds,d=.tuple ds→ds.length≤4)∧(undB d=false→∀ H',Same H H'→E (.ref C) none H')∧∀ n o,d=orD o→OrdOk n o→∀ b H',Same H H'→H' b=some (.tup ((iO (undo o)).map V.int))→Q (.ref b) H'
theorem sp_undone_i {C:Addr} {H:Hp} {Q:VK} {E:XK} {y:V} {d:PyData} (h1:Rep H d y) (h2:∀ ds,d=.tuple ds→ds.length≤4) (e:undB d=false→∀ H',Same H H'→E (.ref C) none H') (q:∀ n o,d=orD o→OrdOk n o→∀ b H',Same H H'→H' b=some (.tup ((iO (undo o)).map V.int))→Q (.ref b) H'):sp_undone C [y] H Q E:=by unfold sp_undone; exact ⟨y,d,rfl,h1,h2,e,q⟩
section
variable {P:Program} {w:World} {K:PySem.W.Frag} {mg:Str→Option Value} {base:Heap} {c:Cl}
set_option maxHeartbeats 4000000 in
theorem ok_undone {f:Addr} {fd:FuncData} (F:Fun K "undone" "undone" s_undone f fd) (T:Txt K mg c) (F_check_order:FnC (CX1 P w) P w K mg base 3 "check_order" ["thing", "many"] (sp_chkB c.NoOrder)):FnOk P w K mg base (CX1 P w) 4 f fd ["order"] (sp_undone c.NoOrder):=by
  refine F.okx sc_undone (fun vs H Q E h=>?_) (fun cdv A outer s H vs Q E hr h hx hmd=>?_)
  · unfold sp_undone at h
    obtain ⟨y,d,rfl,_⟩:=h
    rfl
  · unfold sp_undone at h
    obtain ⟨y,d,rfl,r,l4,e,q⟩:=h
    refine ⟨_,(wss_cons (ws_if (wt_w (ww_or (wt_not (wt_val (we_cB (cl_isiDK K) (by rfl) T.b_isinstance (by decide +kernel) (wa_k (we_v 0) (wa_k (we_bltn (v:=.ty "tuple") (u:=.type "tuple") rfl T.b_tuple (by decide +kernel) rfl) wa_nil))))) (ww_or1 (wt_cmp op_eq (we_cB cl_len (by rfl) T.b_len (by decide +kernel) (wa_k (we_v 0) wa_nil)) we_int (nomark _))))) (wss_one (ws_raise T.x_NoOrder T.g_NoOrder rfl hmd (wa_k we_str wa_nil))) wss_nil)
      (wss_cons (ws_expr (we_fnX F_check_order (hr.mono (by decide)) hx (wa_k (we_v 0) (wa_k (we_cB cl_len (by rfl) T.b_len (by decide +kernel) (wa_k (we_v 0) wa_nil)) wa_nil))))
      (wss_one (ws_ret (we_cT call_tuple_of (by rfl) T.b_tuple (by decide +kernel) (wa_k (we_comp (CScope.of (psc:=defScope s_undone) (N:=["order"]) (N':=["place", "order"]) (js:=[0]) (by decide +kernel) rfl rfl rfl) (wi_range1 rfl T.b_range (wa_k (we_cB cl_len (by rfl) T.b_len (by decide +kernel) (wa_k (we_v 0) wa_nil)) wa_nil)) (fun _ _ _ _=>wts_nil) (fun _ _ _ _=>(we_bmK K PySem.F.plainAttrs_tuple PySem.F.slot_tuple_index PySem.F.type_tuple_index (mt_idxTI hr.units) (we_v 1) (wa_k (we_v 0) wa_nil)))) wa_nil)))))),?_⟩
    refine ⟨_,rfl,?_⟩
    refine rkTup r.k ?_
    refine ⟨_,rfl,?_⟩
    by_cases ht:dTup d=true
    · obtain ⟨ds,rfl⟩:∃ ds,d=.tuple ds:=by
        cases d with
        | tuple ds=>exact ⟨ds,rfl⟩
        | _=>cases ht
      refine iteF ?_
      have l4:=l4 ds rfl
      have r0:=r
      unfold Rep at r
      obtain ⟨a,xs,rfl,ha,rl⟩:=r
      have hl:=rl.len
      refine ⟨_,rfl,?_⟩
      refine rlT ha ?_
      refine ⟨rfl,_,rfl,?_⟩
      by_cases z:xs.length=0
      · have hd:ds=[]:=List.eq_nil_of_length_eq_zero (by omega)
        subst hd
        rw [z]
        refine iteT ?_
        exact ⟨by show 1≤64; decide,e rfl H (Same.refl _)⟩
      · refine iteFe (decide_eq_false fun w=>z (by have w:=V.int.inj w; omega)) ?_
        have he:ds.isEmpty=false:=by cases ds with | nil=>exact absurd hl z | cons _ _=>rfl
        refine ⟨_,rfl,_,rfl,?_⟩
        refine rlT ha ?_
        rw [hl]
        refine sp_chkB_i r0 (by omega) (fun hO=>e (by show (!ds.isEmpty&&ordB ds.length (.tuple ds))=false; rw [hO,Bool.and_false])) fun hO H1 s1=>?_
        obtain ⟨o,eo,ok⟩:=ord_of hO l4
        rw [eo] at r0
        obtain ⟨b,eb,hb⟩:=or_at r0
        cases eb
        have lo:=ok.len
        have hl2:xs.length=o.length:=by omega
        rw [hb] at ha
        refine ⟨_,rfl,?_⟩
        refine rlT (s1 _ _ hb) ?_
        rw [List.length_map,List.length_map]
        refine ⟨_,rfl,by omega,by omega,?_⟩
        rw [show ((o.length:Int)).toNat=o.length by omega]
        refine comp_mapR (fun i y _=>y=.int ((o.idxOf i:Nat):Int)) (fun _ _ _ _ _ h=>h) (by omega) (fun i H' Q' hi s' k'=>?_) (fun D ys H2 hD e2 s2 hy hr2=>?_)
        · refine ⟨_,rfl,.inr (.inl ⟨rfl,.inr ⟨_,s' _ _ (s1 _ _ hb)⟩⟩),_,rfl,?_⟩
          obtain ⟨g1,g2,g3⟩:=ord_idx ok (k:=i) (by omega)
          refine idxTI (s' _ _ (s1 _ _ hb)) (m:=0+(i:Int)) (j:=o.idxOf i) (by rw [List.getElem?_map,g2]; simp) (fun j hj ej=>?_) ?_
          · rw [List.getElem?_map] at ej
            obtain ⟨k,hk,ek⟩:=Option.map_eq_some_iff.mp ej
            exact g3 j hj (by rw [hk]; congr 1; omega)
          · exact k' _ H' (Same.refl _) rfl
        · refine ⟨D,ys,rfl,.inl ⟨SqL.of e2,fun l hl'=>?_⟩⟩
          have sl:=Same.upd (o:=.tup ys) hl'
          refine q ds.length o eo ok l _ ((s1.trans s2).trans sl) ?_
          rw [upd_same]
          congr 2
          refine List.ext_getElem? fun i=>?_
          unfold undo
          by_cases hi:i<o.length
          · have:=hr2 i (ys[i]'(by omega)) (List.getElem?_eq_getElem _)
            rw [List.getElem?_eq_getElem (by omega),this,List.getElem?_map,List.getElem?_map,List.getElem?_map,List.getElem?_range hi]; rfl
          · rw [List.getElem?_eq_none (by omega),List.getElem?_eq_none (by rw [List.length_map,List.length_map,List.length_map,List.length_range]; omega)]
    · have ht':dTup d=false:=by simpa using ht
      rw [ht']
      refine iteT ?_
      exact ⟨by show 1≤64; decide,e (by cases d <;> first | rfl | cases ht') H (Same.refl _)⟩
end
end Kw
set_option Elab.async false
set_option linter.all false
set_option maxRecDepth 100000
namespace Kw
open PySem L2 Mf
abbrev s__law_strange:Stmt:=(top 41)
theorem sc__law_strange:FnScope ["_law_error", "_law_kinds"] ["_law_error"] (defScope s__law_strange):=⟨rfl,rfl,rfl,by decide +kernel,rfl,by decide +kernel,by decide +kernel⟩
abbrev s__law_told:Stmt:=(top 43)
theorem sc__law_told:FnScope ["_law_way", "_law_thing", "_law_order_here", "_law_error", "_law_found", "e"] ["_law_way", "_law_thing", "_law_order_here"] (defScope s__law_told):=⟨rfl,rfl,rfl,by decide +kernel,rfl,by decide +kernel,by decide +kernel⟩
abbrev s__law_undone:Stmt:=(top 44)
theorem sc__law_undone:FnScope ["_law_order_here", "_law_error", "_law_found", "e"] ["_law_order_here"] (defScope s__law_undone):=⟨rfl,rfl,rfl,by decide +kernel,rfl,by decide +kernel,by decide +kernel⟩
def okS:PyData→Bool
  | .none=>true
  | .bool _=>true
  | .int i=>decide (i.natAbs<2^140)
  | .str x=>decide ((reprText x).length≤100)&&PyData.strOk x
  | _=>false
def okT:List Nat→PyData→Bool
  | [],d=>okS d
  | w::ws,d=>match d with
    | .tuple ds=>decide (ds.length≤w)&&ds.all (okT ws)
    | .list ds=>decide (ds.length≤w)&&ds.all (okT ws)
    | d=>okS d
def wW:List Nat→Nat
  | []=>1921
  | w::ws=>1921+w*(wW ws+2)+4
theorem wW_ge:∀ ws,1921≤wW ws
  | []=>Nat.le_refl _
  | w::ws=>by show 1921≤1921+w*(wW ws+2)+4; omega
structure OkF (d:PyData) (k W:Nat):Prop where
  sh:d.showable=true
  nd:d.hasDict=false
  lay:d.canLay0=true
  dp:d.depth≤k
  wd:shW d≤W
structure OkFs (ds:List PyData) (k W:Nat):Prop where
  sh:PyData.showableAll ds=true
  nd:PyData.hasDictAll ds=false
  lay:PyData.canLayAll0 ds=true
  dp:PyData.depthAll ds≤k
  wd:shWs ds≤ds.length*(W+2)
theorem okS_f {d:PyData} (h:okS d=true):OkF d 2 1921:=by
  cases d with
  | none=>exact ⟨rfl,rfl,rfl,by simp [PyData.depth],by show 4≤1921; decide⟩
  | bool b=>exact ⟨rfl,rfl,rfl,by simp [PyData.depth],by show 5≤1921; decide⟩
  | int i=>exact ⟨showInt (of_decide_eq_true h),rfl,rfl,by simp [PyData.depth],Nat.le_refl _⟩
  | str x =>
    have h:(decide ((reprText x).length≤100)&&PyData.strOk x)=true:=h
    rw [Bool.and_eq_true] at h
    exact ⟨rfl,rfl,by simp only [PyData.canLay0]; exact h.2,by simp [PyData.depth],Nat.le_trans (of_decide_eq_true h.1) (by decide)⟩
  | _=>cases h
theorem okFs_of {k W:Nat}:∀ {ds:List PyData},(∀ d∈ds,OkF d k W)→OkFs ds k W
  | [],_=>⟨rfl,rfl,rfl,Nat.zero_le _,Nat.zero_le _⟩
  | d::ds,h=>by
    have a:=h d (List.mem_cons_self ..)
    have b:=okFs_of fun e he=>h e (List.mem_cons_of_mem _ he)
    refine ⟨?_,?_,?_,?_,?_⟩
    · show (PyData.showable d&&PyData.showableAll ds)=true; rw [a.sh,b.sh]; rfl
    · show (PyData.hasDict d || PyData.hasDictAll ds)=false; rw [a.nd,b.nd]; rfl
    · show (PyData.canLay0 d&&PyData.canLayAll0 ds)=true; rw [a.lay,b.lay]; rfl
    · show max (PyData.depth d) (PyData.depthAll ds)≤k; have:=a.dp; have:=b.dp; omega
    · show shW d+2+shWs ds≤(ds.length+1)*(W+2)
      have:=a.wd; have:=b.wd; rw [Nat.add_mul]; omega
theorem okT_f:∀ {ws:List Nat} {d:PyData},okT ws d=true→OkF d (ws.length+2) (wW ws)
  | [],d,h=>okS_f h
  | w::ws,d,h=>by
    have up:OkF d 2 1921→OkF d ((w::ws).length+2) (wW (w::ws)):=fun a=>⟨a.sh,a.nd,a.lay,Nat.le_trans a.dp (by omega),Nat.le_trans a.wd (wW_ge _)⟩
    have sq:∀ ds:List PyData,(decide (ds.length≤w)&&ds.all (okT ws))=true→OkFs ds (ws.length+2) (wW ws)∧ds.length*(wW ws+2)≤w*(wW ws+2):=fun ds h=>by
      rw [Bool.and_eq_true,decide_eq_true_eq] at h
      exact ⟨okFs_of fun e he=>okT_f (List.all_eq_true.mp h.2 e he),Nat.mul_le_mul_right _ h.1⟩
    cases d with
    | tuple ds =>
      obtain ⟨a,b⟩:=sq ds h
      refine ⟨a.sh,a.nd,a.lay,?_,?_⟩
      · show PyData.depthAll ds+1≤ws.length+1+2; have:=a.dp; omega
      · show shWs ds+4≤1921+w*(wW ws+2)+4; have:=a.wd; omega
    | list ds =>
      obtain ⟨a,b⟩:=sq ds h
      refine ⟨a.sh,a.nd,a.lay,?_,?_⟩
      · show PyData.depthAll ds+1≤ws.length+1+2; have:=a.dp; omega
      · show shWs ds+4≤1921+w*(wW ws+2)+4; have:=a.wd; omega
    | none=>exact up (okS_f h)
    | bool b=>exact up (okS_f h)
    | int i=>exact up (okS_f h)
    | str x=>exact up (okS_f h)
    | dict kvs=>cases (show false=true from h)
theorem okT_tup {w:Nat} {ws:List Nat} {ds:List PyData} (hl:ds.length≤w) (h:∀ d∈ds,okT ws d=true):okT (w::ws) (.tuple ds)=true:=by
  show (decide (ds.length≤w)&&ds.all (okT ws))=true
  rw [decide_eq_true hl,List.all_eq_true.mpr h]; rfl
theorem okT_sc {ws:List Nat} {d:PyData} (h:okS d=true):okT ws d=true:=by
  cases ws with
  | nil=>exact h
  | cons w ws =>
    cases d with
    | tuple _=>cases h
    | list _=>cases h
    | _=>exact h
theorem okT_it {w:Nat} {ws:List Nat} {ds:List PyData} (h:okT (w::ws) (.tuple ds)=true):ds.length≤w∧∀ d∈ds,okT ws d=true:=by
  have h:(decide (ds.length≤w)&&ds.all (okT ws))=true:=h
  rw [Bool.and_eq_true,decide_eq_true_eq] at h
  exact ⟨h.1,List.all_eq_true.mp h.2⟩
structure ShwD (d:PyData):Prop where
  sh:d.showable=true
  nd:d.hasDict=false
  dp:d.depth≤60
  ln:d.shown.length≤sizeLine
theorem shw_of {d:PyData} {k W:Nat} (h:OkF d k W) (hk:k≤60) (hw:W≤sizeLine):ShwD d:=⟨h.sh,h.nd,Nat.le_trans h.dp hk,Nat.le_trans (shown_le _ h.sh h.nd) (Nat.le_trans h.wd hw)⟩
@[irreducible] def sp_strange (C:Addr):Sp:=fun vs H Q _=>∃ (a:Addr),vs=[.ref a]∧H a=some (ExcO a C none)∧∀ H',Same H H'→Q (.bl false) H'
theorem sp_strange_i {C:Addr} {H:Hp} {Q:VK} {E:XK} {a:Addr} (h1:H a=some (ExcO a C none)) (q:∀ H',Same H H'→Q (.bl false) H'):sp_strange C [.ref a] H Q E:=by
  unfold sp_strange; exact ⟨a,rfl,h1,q⟩
inductive Door:Nat→PyData→Nat→(List Nat→PyData→Prop)→Prop
  | d0 {fs:List Str} {ws:List (Str × List Fr)} (h:ws.length≤4) (hs:okT [2,4,2,4,2] (trD fs ws)=true):Door 0 (trD fs ws) ws.length fun o D=>D=trD fs (turnL w0 ws o)
  | d1 {fs:List Str} {ws:List (Str × List Fr)} (h:fs.length≤4) (h2:∀ w∈ws,w.2.length=fs.length) (h3:ws.length≤64) (hs:okT [2,4,2,4,2] (trD fs ws)=true):Door 1 (trD fs ws) fs.length fun o D=>D=trD (turnL "" fs o) (fturn ws o)
  | d2 {es:List Ent} {F W:Nat} (h:RuN F W es) (h2:W≤4) (hs:okT [50,2,5,2] (ruD es)=true):Door 2 (ruD es) W fun o D=>D=ruD (ruT es o)
  | d3 {es:List Ent} {F W:Nat} (h:RuN F W es) (h2:F≤4) (hs:okT [50,2,5,2] (ruD es)=true) (hr:(es.map (·.1)).Pairwise rk):Door 3 (ruD es) F fun o D=>∃ es',TurnF es o es'∧D=ruD es'
def noneD:PyData:=.tuple [.str "none"]
def toldD (d:PyData):PyData:=.tuple [.str "told",d]
@[irreducible] def sp_told (tA:Addr):Sp:=fun vs H Q _=>∃ (wy:Nat) (x y:V) (t d:PyData) (n:Nat) (Res:List Nat→PyData→Prop),vs=[.int (wy:Int),x,y]∧Door wy t n Res∧Rep H t x∧Rep H d y∧TabOk H tA lamQ lamP ∧
  (ordB n d=false→∀ v H',SameBut tA H H'→TabOk H' tA lamQ lamP→Rep H' noneD v→Q v H')∧∀ o,d=orD o→OrdOk n o→∀ v D H',SameBut tA H H'→TabOk H' tA lamQ lamP→Res o D→Rep H' (toldD D) v→Q v H'
theorem sp_told_i {tA:Addr} {H:Hp} {Q:VK} {E:XK} {wy:Nat} {x y:V} {t d:PyData} {n:Nat} {Res:List Nat→PyData→Prop} (h:Door wy t n Res) (h1:Rep H t x) (h2:Rep H d y) (h3:TabOk H tA lamQ lamP) (e:ordB n d=false→∀ v H',SameBut tA H H'→TabOk H' tA lamQ lamP→Rep H' noneD v→Q v H') (q:∀ o,d=orD o→OrdOk n o→∀ v D H',SameBut tA H H'→TabOk H' tA lamQ lamP→Res o D→Rep H' (toldD D) v→Q v H'):sp_told tA [.int (wy:Int),x,y] H Q E:=by
  unfold sp_told; exact ⟨wy,x,y,t,d,n,Res,rfl,h,h1,h2,h3,e,q⟩
@[irreducible] def sp_lundone:Sp:=fun vs H Q _=>∃ (y:V) (d:PyData),vs=[y]∧Rep H d y∧(∀ ds,d=.tuple ds→ds.length≤4)∧(undB d=false→∀ v H',Same H H'→Rep H' noneD v→Q v H')∧∀ n o,d=orD o→OrdOk n o→∀ v H',Same H H'→Rep H' (toldD (orD (undo o))) v→Q v H'
theorem sp_lundone_i {H:Hp} {Q:VK} {E:XK} {y:V} {d:PyData} (h1:Rep H d y) (h2:∀ ds,d=.tuple ds→ds.length≤4) (e:undB d=false→∀ v H',Same H H'→Rep H' noneD v→Q v H') (q:∀ n o,d=orD o→OrdOk n o→∀ v H',Same H H'→Rep H' (toldD (orD (undo o))) v→Q v H'):sp_lundone [y] H Q E:=by
  unfold sp_lundone; exact ⟨y,d,rfl,h1,h2,e,q⟩
section
variable {P:Program} {w:World} {K:PySem.W.Frag} {mg:Str→Option Value} {base:Heap} {c:Cl}
set_option maxHeartbeats 4000000 in
theorem ok__law_strange {f:Addr} {fd:FuncData} (F:Fun K "_law_strange" "_law_strange" s__law_strange f fd) (T:Txt K mg c):FnOk P w K mg base CX0 1 f fd ["_law_error"] (sp_strange c.NoOrder):=by
  refine F.okw sc__law_strange (fun vs H Q E h=>?_) (fun cdv A outer s H vs Q E hr h=>?_)
  · unfold sp_strange at h
    obtain ⟨a,rfl,_⟩:=h
    rfl
  · unfold sp_strange at h
    obtain ⟨a,rfl,ea,q⟩:=h
    refine ⟨_,(wss_cons (ws_set (i:=1) sc__law_strange.nd rfl (Or.inl rfl) (we_lst (wa_k (we_cB cl_isiX (by rfl) T.b_isinstance (by decide +kernel) (wa_k (we_v 0) (wa_k (we_tup (wa_k (we_glob (v:=.ref c.NoBack) rfl T.g_NoBack rfl) (wa_k (we_glob (v:=.ref c.NoBounds) rfl T.g_NoBounds rfl) (wa_k (we_glob (v:=.ref c.NoFraction) rfl T.g_NoFraction rfl) (wa_k (we_glob (v:=.ref c.NoLines) rfl T.g_NoLines rfl) (wa_k (we_glob (v:=.ref c.NoLook) rfl T.g_NoLook rfl) wa_nil)))))) wa_nil))) wa_nil)))
      (wss_cons (ws_expr (we_bm PySem.F.plainAttrs_list PySem.F.slot_list_append PySem.F.type_list_append mt_app (we_v 1) (wa_k (we_cB cl_isiX (by rfl) T.b_isinstance (by decide +kernel) (wa_k (we_v 0) (wa_k (we_tup (wa_k (we_glob (v:=.ref c.NoPaper) rfl T.g_NoPaper rfl) (wa_k (we_glob (v:=.ref c.NoRow) rfl T.g_NoRow rfl) (wa_k (we_glob (v:=.ref c.NoRule) rfl T.g_NoRule rfl) (wa_k (we_glob (v:=.ref c.NoTrial) rfl T.g_NoTrial rfl) wa_nil))))) wa_nil))) wa_nil)))
      (wss_one (ws_ret (we_or (we_cmp (op_neD hr.units) (we_v 1) (we_lst (wa_k we_bl (wa_k we_bl wa_nil))) (nomark _)) (we_one (we_not (we_cB cl_isiX (by rfl) T.b_isinstance (by decide +kernel) (wa_k (we_v 0) (wa_k (we_bltn (v:=.ty "ValueError") (u:=.type "ValueError") rfl T.b_ValueError (by decide +kernel) rfl) wa_nil)))))))))),?_⟩
    refine ⟨_,rfl,?_⟩
    refine nwT (by show 5≤64; decide) fun tp H1 htp e1 s1=>?_
    refine rxTup (b:=false) (s1 _ _ ea) T.e_NoOrder e1 (fun us hv=>?_) ?_
    · cases hv with | cons r1 hv=>cases hv with | cons r2 hv=>cases hv with | cons r3 hv=>cases hv with | cons r4 hv=>cases hv with | cons r5 hv=>cases hv; cases r1; cases r2; cases r3; cases r4; cases r5; exact T.k1
    refine nwL (by show 1≤64; decide) fun ks H2 hks e2 s2=>?_
    have s12:=s1.trans s2
    refine ⟨_,rfl,tyL e2,_,rfl,?_⟩
    refine nwT (by show 4≤64; decide) fun tp2 H3 htp2 e3 s3=>?_
    have s13:=s12.trans s3
    refine rxTup (b:=false) (s13 _ _ ea) T.e_NoOrder e3 (fun us hv=>?_) ?_
    · cases hv with | cons r1 hv=>cases hv with | cons r2 hv=>cases hv with | cons r3 hv=>cases hv with | cons r4 hv=>cases hv; cases r1; cases r2; cases r3; cases r4; exact T.k2
    refine appL (s3 _ _ e2) (by decide) fun H4 e4 b4=>?_
    have hks0:H ks=none:=s1.free hks
    have S4:Same H H4:=Same.thru hks0 s13 b4
    refine ⟨_,rfl,?_⟩
    refine nwL (by show 2≤64; decide) fun q5 H5 hq5 e5 s5=>?_
    refine reD (d:=.list [.bool false,.bool false]) (d':=.list [.bool false,.bool false]) (Rep.lst (s5 _ _ e4) (RepL.cons (Rep.bl _) (RepL.cons (Rep.bl _) RepL.nil))) (Rep.lst e5 (RepL.cons (Rep.bl _) (RepL.cons (Rep.bl _) RepL.nil))) rfl rfl ?_
    refine ⟨_,rfl,?_⟩
    refine iteF ?_
    have S5:=S4.trans s5
    refine ⟨_,rfl,?_⟩
    refine rxOne (b:=true) (S5 _ _ ea) T.e_NoOrder _ rfl T.k3 ?_
    exact ⟨_,rfl,q H5 S5⟩
set_option maxHeartbeats 16000000 in
theorem ok__law_told {f tA:Addr} {fd:FuncData} (F:Fun K "_law_told" "_law_told" s__law_told f fd) (T:Txt K mg c) (F_ways_turned:FnC (CX1 P w) P w K mg base 4 "ways_turned" ["trial", "order"] (sp_wturn c.NoOrder)) (F_faces_turned:FnC (CX1 P w) P w K mg base 4 "faces_turned" ["trial", "order"] (sp_fturn c.NoOrder)) (F_rule_ways_turned:FnC (CX1 P w) P w K mg base 4 "rule_ways_turned" ["rule", "order"] (sp_rwturn c.NoOrder)) (F_rule_faces_turned:FnC (CX1 P w) P w K mg base 8 "rule_faces_turned" ["rule", "order"] (sp_rfturn c.NoOrder tA)) (F__law_strange:FnC CX0 P w K mg base 1 "_law_strange" ["_law_error"] (sp_strange c.NoOrder)):FnOk P w K mg base CX0 9 f fd ["_law_way", "_law_thing", "_law_order_here"] (sp_told tA):=by
  refine F.okw sc__law_told (fun vs H Q E h=>?_) (fun cdv A outer s H vs Q E hr h=>?_)
  · unfold sp_told at h
    obtain ⟨wy,x,y,t,d,n,Res,rfl,_⟩:=h
    rfl
  · unfold sp_told at h
    obtain ⟨wy,x,y,t,d,n,Res,rfl,dr,rt,rd,TO,qe,qr⟩:=h
    refine ⟨_,(wss_cons (ws_set (i:=3) sc__law_told.nd rfl (Or.inl rfl) we_non)
      (wss_cons (ws_set (i:=4) sc__law_told.nd rfl (Or.inl rfl) we_non)
      (wss_cons (ws_try (i:=5) rfl rfl rfl T.g_NoOrder T.c_NoOrder sc__law_told.nd rfl rfl (fun _ _ _ hx=>(wss_one (ws_set (i:=4) sc__law_told.nd rfl (Or.inl rfl) (we_itmX P w K mg base (k:=8) (hr.mono (by decide)) hx (we_ix (ix_seqK K) (we_lst (wa_k (we_glob (v:=.ref c.ways_turned) rfl T.g_ways_turned rfl) (wa_k (we_glob (v:=.ref c.faces_turned) rfl T.g_faces_turned rfl) (wa_k (we_glob (v:=.ref c.rule_ways_turned) rfl T.g_rule_ways_turned rfl) (wa_k (we_glob (v:=.ref c.rule_faces_turned) rfl T.g_rule_faces_turned rfl) wa_nil))))) (we_v 0) (fun _ _=>rfl)) (wa_k (we_v 1) (wa_k (we_v 2) wa_nil)))))) (fun _=>(wss_one (ws_set (i:=3) sc__law_told.nd rfl (Or.inl rfl) (we_v 5)))))
      (wss_cons (ws_if (wt_cmp op_isN (we_v 3) we_non (nomark _)) (wss_one (ws_ret (we_tup (wa_k we_str (wa_k (we_v 4) wa_nil))))) wss_nil)
      (wss_one (ws_ret (we_ifExp (wt_not (wt_val (we_fn F__law_strange (hr.mono (by decide)) (wa_k (we_v 3) wa_nil)))) (we_tup (wa_k we_str wa_nil)) (we_tup (wa_k we_str wa_nil))))))))),?_⟩
    refine ⟨fun σ' cls od H'=>σ'=[some (.int (wy:Int)),some x,some y,some .non,some .non,none]∧cls=.ref c.NoOrder∧od=none∧Same H H'∧ordB n d=false,?_,?_⟩
    · refine nwL (by show 4≤64; decide) fun L H1 hL e1 s1=>?_
      have fin:∀ {v:V} {D:PyData} {H':Hp} {o:List Nat},d=orD o→OrdOk n o→SameBut tA H H'→TabOk H' tA lamQ lamP→Res o D→Rep H' D v→∀ q2 H2,Same H' H2→H2 q2=some (.tup [.str "told",v])→Q (.ref q2) H2:=fun {v D H' o} e ok b' t' rs rv q2 H2 s2 e2=>qr o e ok _ D H2 (b'.same s2) (t'.same s2) rs (Rep.tup e2 (RepL.cons (Rep.str _) (RepL.cons (rv.same s2) RepL.nil)))
      cases dr with
      | d0 h hs =>
        refine ⟨_,rfl,?_⟩
        refine ixL e1 rfl ?_
        refine ⟨_,_,rfl,GoodFn.of F_ways_turned T.g_ways_turned (by decide),?_⟩
        refine ⟨_,rfl,_,rfl,?_⟩
        refine sp_wturn_i (rt.same s1) (rd.same s1) h (fun hO H' s'=>⟨rfl,rfl,rfl,s1.trans s',hO⟩) fun o eo ok v H' s' rv=>?_
        refine ⟨_,rfl,rfl,_,rfl,?_⟩
        refine iteT ?_
        refine ⟨_,rfl,?_⟩
        refine nwT (by show 2≤64; decide) fun q2 H2 hq2 e2 s2=>?_
        exact fin eo ok (s1.trans s').but (TO.same (s1.trans s')) rfl rv q2 H2 s2 e2
      | d1 h h2 h3 hs =>
        refine ⟨_,rfl,?_⟩
        refine ixL e1 rfl ?_
        refine ⟨_,_,rfl,GoodFn.of F_faces_turned T.g_faces_turned (by decide),?_⟩
        refine ⟨_,rfl,_,rfl,?_⟩
        refine sp_fturn_i (rt.same s1) (rd.same s1) h h2 h3 (fun hO H' s'=>⟨rfl,rfl,rfl,s1.trans s',hO⟩) fun o eo ok v H' s' rv=>?_
        refine ⟨_,rfl,rfl,_,rfl,?_⟩
        refine iteT ?_
        refine ⟨_,rfl,?_⟩
        refine nwT (by show 2≤64; decide) fun q2 H2 hq2 e2 s2=>?_
        exact fin eo ok (s1.trans s').but (TO.same (s1.trans s')) rfl rv q2 H2 s2 e2
      | d2 h h2 hs =>
        refine ⟨_,rfl,?_⟩
        refine ixL e1 rfl ?_
        refine ⟨_,_,rfl,GoodFn.of F_rule_ways_turned T.g_rule_ways_turned (by decide),?_⟩
        refine ⟨_,rfl,_,rfl,?_⟩
        refine sp_rwturn_i (rt.same s1) (rd.same s1) h h2 (fun hO H' s'=>⟨rfl,rfl,rfl,s1.trans s',hO⟩) fun o eo ok v H' s' rv=>?_
        refine ⟨_,rfl,rfl,_,rfl,?_⟩
        refine iteT ?_
        refine ⟨_,rfl,?_⟩
        refine nwT (by show 2≤64; decide) fun q2 H2 hq2 e2 s2=>?_
        exact fin eo ok (s1.trans s').but (TO.same (s1.trans s')) rfl rv q2 H2 s2 e2
      | d3 h h2 hs hrs =>
        refine ⟨_,rfl,?_⟩
        refine ixL e1 rfl ?_
        refine ⟨_,_,rfl,GoodFn.of F_rule_faces_turned T.g_rule_faces_turned (by decide),?_⟩
        refine ⟨_,rfl,_,rfl,?_⟩
        refine sp_rfturn_i (rt.same s1) (rd.same s1) h h2 (TO.same s1) (fun hO H' s'=>⟨rfl,rfl,rfl,s1.trans s',hO⟩) fun o eo ok v es' H' b' t' tf rv=>?_
        refine ⟨_,rfl,rfl,_,rfl,?_⟩
        refine iteT ?_
        refine ⟨_,rfl,?_⟩
        refine nwT (by show 2≤64; decide) fun q2 H2 hq2 e2 s2=>?_
        exact fin eo ok (s1.but.trans b') t' ⟨es',tf,rfl⟩ rv q2 H2 s2 e2
    · rintro σ' cls od H' ⟨rfl,rfl,rfl,s',hO⟩
      refine ⟨c.NoOrder,rfl,T.s1,fun a na=>?_⟩
      have ea:(upd H' a (ExcO a c.NoOrder none)) a=some (ExcO a c.NoOrder none):=upd_same
      have sa:=Same.upd (o:=ExcO a c.NoOrder none) na
      generalize upd H' a (ExcO a c.NoOrder none)=H1 at ea sa
      refine ⟨_,rfl,?_⟩
      refine ⟨_,rfl,rfl,_,rfl,?_⟩
      refine iteF ?_
      refine ⟨_,rfl,?_⟩
      refine sp_strange_i ea fun H2 s2=>?_
      refine ⟨_,rfl,?_⟩
      refine iteT ?_
      refine nwT (by show 1≤64; decide) fun q3 H3 hq3 e3 s3=>?_
      have S:=((s'.trans sa).trans s2).trans s3
      exact qe hO _ H3 S.but (TO.same S) (Rep.tup e3 (RepL.cons (Rep.str _) RepL.nil))
set_option maxHeartbeats 16000000 in
theorem ok__law_undone {f:Addr} {fd:FuncData} (F:Fun K "_law_undone" "_law_undone" s__law_undone f fd) (T:Txt K mg c) (F_undone:FnC (CX1 P w) P w K mg base 4 "undone" ["order"] (sp_undone c.NoOrder)) (F__law_strange:FnC CX0 P w K mg base 1 "_law_strange" ["_law_error"] (sp_strange c.NoOrder)):FnOk P w K mg base CX0 5 f fd ["_law_order_here"] sp_lundone:=by
  refine F.okw sc__law_undone (fun vs H Q E h=>?_) (fun cdv A outer s H vs Q E hr h=>?_)
  · unfold sp_lundone at h
    obtain ⟨y,d,rfl,_⟩:=h
    rfl
  · unfold sp_lundone at h
    obtain ⟨y,d,rfl,rd,l4,qe,qr⟩:=h
    refine ⟨_,(wss_cons (ws_set (i:=1) sc__law_undone.nd rfl (Or.inl rfl) we_non)
      (wss_cons (ws_set (i:=2) sc__law_undone.nd rfl (Or.inl rfl) we_non)
      (wss_cons (ws_try (i:=3) rfl rfl rfl T.g_NoOrder T.c_NoOrder sc__law_undone.nd rfl rfl (fun _ _ _ hx=>(wss_one (ws_set (i:=2) sc__law_undone.nd rfl (Or.inl rfl) (we_fnX F_undone (hr.mono (by decide)) hx (wa_k (we_v 0) wa_nil))))) (fun _=>(wss_one (ws_set (i:=1) sc__law_undone.nd rfl (Or.inl rfl) (we_v 3)))))
      (wss_cons (ws_if (wt_cmp op_isN (we_v 1) we_non (nomark _)) (wss_one (ws_ret (we_tup (wa_k we_str (wa_k (we_v 2) wa_nil))))) wss_nil)
      (wss_one (ws_ret (we_ifExp (wt_not (wt_val (we_fn F__law_strange (hr.mono (by decide)) (wa_k (we_v 1) wa_nil)))) (we_tup (wa_k we_str wa_nil)) (we_tup (wa_k we_str wa_nil))))))))),?_⟩
    refine ⟨fun σ' cls od H'=>σ'=[some y,some .non,some .non,none]∧cls=.ref c.NoOrder∧od=none∧Same H H'∧undB d=false,?_,?_⟩
    · refine ⟨_,rfl,?_⟩
      refine sp_undone_i rd l4 (fun hO H' s'=>⟨rfl,rfl,rfl,s',hO⟩) fun n o eo ok b H' s' eb=>?_
      refine ⟨_,rfl,rfl,_,rfl,?_⟩
      refine iteT ?_
      refine ⟨_,rfl,?_⟩
      refine nwT (by show 2≤64; decide) fun q2 H2 hq2 e2 s2=>?_
      exact qr n o eo ok _ H2 (s'.trans s2) (Rep.tup e2 (RepL.cons (Rep.str _) (RepL.cons (or_of (s2 _ _ eb)) RepL.nil)))
    · rintro σ' cls od H' ⟨rfl,rfl,rfl,s',hO⟩
      refine ⟨c.NoOrder,rfl,T.s1,fun a na=>?_⟩
      have ea:(upd H' a (ExcO a c.NoOrder none)) a=some (ExcO a c.NoOrder none):=upd_same
      have sa:=Same.upd (o:=ExcO a c.NoOrder none) na
      generalize upd H' a (ExcO a c.NoOrder none)=H1 at ea sa
      refine ⟨_,rfl,?_⟩
      refine ⟨_,rfl,rfl,_,rfl,?_⟩
      refine iteF ?_
      refine ⟨_,rfl,?_⟩
      refine sp_strange_i ea fun H2 s2=>?_
      refine ⟨_,rfl,?_⟩
      refine iteT ?_
      refine nwT (by show 1≤64; decide) fun q3 H3 hq3 e3 s3=>?_
      exact qe hO _ H3 (((s'.trans sa).trans s2).trans s3) (Rep.tup e3 (RepL.cons (Rep.str _) RepL.nil))
end
end Kw
set_option Elab.async false
set_option linter.all false
set_option maxRecDepth 100000
namespace Kw
open PySem L2 Mf
abbrev s__law_placed:Stmt:=(top 45)
theorem sc__law_placed:FnScope ["_law_row", "_law_order_here"] ["_law_row", "_law_order_here"] (defScope s__law_placed):=⟨rfl,rfl,rfl,by decide +kernel,rfl,by decide +kernel,by decide +kernel⟩
abbrev s__law_due:Stmt:=(top 46)
theorem sc__law_due:FnScope ["_law_way", "_law_thing", "_law_order_here", "_law_ways", "_law_entries"] ["_law_way", "_law_thing", "_law_order_here"] (defScope s__law_due):=⟨rfl,rfl,rfl,by decide +kernel,rfl,by decide +kernel,by decide +kernel⟩
abbrev dueP:Pos:=⟨188,42,188,96⟩
abbrev dueQ:Str := "_law_due" ++ ".<locals>." ++ "<lambda>"
@[irreducible] def sp_due (tB:Addr):Sp:=fun vs H Q _=>∃ (wy:Nat) (x:V) (b:Addr) (t:PyData) (n:Nat) (Res:List Nat→PyData→Prop) (o:List Nat),vs=[.int (wy:Int),x,.ref b]∧Door wy t n Res∧Rep H t x∧H b=some (.tup ((iO o).map V.int))∧OrdOk n o∧TabOk H tB dueQ dueP∧∀ v D H',SameBut tB H H'→TabOk H' tB dueQ dueP→Res o D→Rep H' D v→Q v H'
theorem sp_due_i {tB:Addr} {H:Hp} {Q:VK} {E:XK} {wy:Nat} {x:V} {b:Addr} {t:PyData} {n:Nat} {Res:List Nat→PyData→Prop} {o:List Nat} (h:Door wy t n Res) (h1:Rep H t x) (h2:H b=some (.tup ((iO o).map V.int))) (h3:OrdOk n o) (h4:TabOk H tB dueQ dueP) (q:∀ v D H',SameBut tB H H'→TabOk H' tB dueQ dueP→Res o D→Rep H' D v→Q v H'):sp_due tB [.int (wy:Int),x,.ref b] H Q E:=by
  unfold sp_due; exact ⟨wy,x,b,t,n,Res,o,rfl,h,h1,h2,h3,h4,q⟩
section
variable {P:Program} {w:World} {K:PySem.W.Frag} {mg:Str→Option Value} {base:Heap} {c:Cl}
theorem ok__law_placed {f:Addr} {fd:FuncData} (F:Fun K "_law_placed" "_law_placed" s__law_placed f fd) (T:Txt K mg c):FnOk P w K mg base CX0 1 f fd ["_law_row", "_law_order_here"] sp_turned:=by
  refine F.okw sc__law_placed (fun vs H Q E h=>?_) (fun cdv A outer s H vs Q E hr h=>?_)
  · unfold sp_turned at h
    obtain ⟨a,b,xs,o,rfl,_⟩:=h
    rfl
  · unfold sp_turned at h
    obtain ⟨a,b,xs,o,rfl,ha,hb,hx,ho,q⟩:=h
    refine ⟨_,(wss_one (ws_ret (we_cT call_tuple_of (by rfl) T.b_tuple (by decide +kernel) (wa_k (we_comp (CScope.of (psc:=defScope s__law_placed) (N:=["_law_row", "_law_order_here"]) (N':=["_law_one", "_law_row"]) (js:=[0]) (by decide +kernel) rfl rfl rfl) (wi_tup (we_v 1)) (fun _ _ _ _=>wts_nil) (fun _ _ _ _=>(we_ix (ix_seqK K) (we_v 1) (we_v 0) (fun _ _=>rfl)))) wa_nil)))),?_⟩
    refine ⟨_,rfl,b,rfl,⟨_,SqT.of hb⟩,?_⟩
    refine comp_mapU (fun i y H'=>∃ k,o[i]?=some k∧y=xs.getD k .non) (fun i y H1 H2 s h=>h) (by rw [List.length_map,List.length_map]; omega) hb (fun i x H' Q' hx' s' k'=>?_) (fun D ys H2 hD e2 s2 hy hr2=>?_)
    · rw [List.getElem?_map,List.getElem?_map] at hx'
      cases ho':o[i]? with
      | none=>rw [ho'] at hx'; cases hx'
      | some k =>
        rw [ho'] at hx'
        cases hx'
        have hk:=hx k (List.mem_of_getElem? ho')
        refine ⟨_,rfl,_,rfl,?_⟩
        refine ixT (s' _ _ ha) (atI_nat (j:=k) (v:=xs.getD k .non) (by rw [List.getD_eq_getElem?_getD,List.getElem?_eq_getElem hk]; rfl)) ?_
        exact k' _ H' (Same.refl _) ⟨k,ho',rfl⟩
    · refine ⟨D,ys,rfl,.inl ⟨SqL.of e2,fun l hl=>?_⟩⟩
      have sl:=Same.upd (o:=.tup ys) hl
      refine q l _ (s2.trans sl) ?_
      rw [upd_same]
      congr 2
      refine List.ext_getElem? fun i=>?_
      unfold turnV
      rw [List.length_map,List.length_map] at hy
      by_cases hi:i<o.length
      · obtain ⟨k,h1,h2⟩:=hr2 i (ys[i]'(by omega)) (List.getElem?_eq_getElem _)
        rw [List.getElem?_eq_getElem (by omega),h2,List.getElem?_map,h1]; rfl
      · rw [List.getElem?_eq_none (by omega),List.getElem?_eq_none (by rw [List.length_map]; omega)]
set_option maxHeartbeats 16000000 in
theorem ok__law_due {f cA tB:Addr} {fd:FuncData} (F:Fun K "_law_due" "_law_due" s__law_due f fd) (T:Txt K mg c) (hcd:fd.code=.ref cA) (hh:hdIn K cA tB=true) (hbm:BM mg base) (F__law_placed:FnC CX0 P w K mg base 1 "_law_placed" ["_law_row", "_law_order_here"] sp_turned):FnOk P w K mg base CX0 8 f fd ["_law_way", "_law_thing", "_law_order_here"] (sp_due tB):=by
  refine F.okwL hcd sc__law_due (fun vs H Q E h=>?_) (fun A outer s H vs Q E hr h=>?_)
  · unfold sp_due at h
    obtain ⟨wy,x,b,t,n,Res,o,rfl,_⟩:=h
    rfl
  · unfold sp_due at h
    obtain ⟨wy,x,b,t,n,Res,o,rfl,dr,rt,hb,ok,TO,q⟩:=h
    have l4:=ok.le
    refine ⟨_,(wss_cons (ws_if (wt_cmp op_eq (we_v 0) we_int (nomark _)) (wss_one (ws_ret (we_tup (wa_k (we_ix ix_seq (we_v 1) we_int (fun _ _=>rfl)) (wa_k (we_fn F__law_placed (hr.mono (by decide)) (wa_k (we_ix ix_seq (we_v 1) we_int (fun _ _=>rfl)) (wa_k (we_v 2) wa_nil))) wa_nil))))) wss_nil)
      (wss_cons (ws_if (wt_cmp op_eq (we_v 0) we_int (nomark _)) (wss_cons (ws_setCompN2 (i:=3) (CScopeN.of (psc:=defScope s__law_due) (N:=["_law_way", "_law_thing", "_law_order_here", "_law_ways", "_law_entries"]) (xs:=["_law_name", "_law_shares_here"]) (N':=["_law_name", "_law_shares_here", "_law_order_here"]) (js:=[2]) (by decide +kernel) rfl rfl rfl) sc__law_due.nd rfl rfl (wi_tup (we_ix ix_seq (we_v 1) we_int (fun _ _=>rfl))) (fun _ _ _ _=>wts_nil) (fun _ _ _ _=>(we_tup (wa_k (we_v 0) (wa_k (we_fn F__law_placed (hr.mono (by decide)) (wa_k (we_v 1) (wa_k (we_v 2) wa_nil))) wa_nil)))))
      (wss_one (ws_ret (we_tup (wa_k (we_fn F__law_placed (hr.mono (by decide)) (wa_k (we_ix ix_seq (we_v 1) we_int (fun _ _=>rfl)) (wa_k (we_v 2) wa_nil))) (wa_k (we_cT call_tuple_of (by rfl) T.b_tuple (by decide +kernel) (wa_k (we_v 3) wa_nil)) wa_nil)))))) wss_nil)
      (wss_cons (ws_if (wt_cmp op_eq (we_v 0) we_int (nomark _)) (wss_one (ws_ret (we_cT call_tuple_of (by rfl) T.b_tuple (by decide +kernel) (wa_k (we_compN2 (CScopeN.of (psc:=defScope s__law_due) (N:=["_law_way", "_law_thing", "_law_order_here", "_law_ways", "_law_entries"]) (xs:=["_law_counts", "_law_says_here"]) (N':=["_law_counts", "_law_says_here", "_law_order_here"]) (js:=[2]) (by decide +kernel) rfl rfl rfl) (wi_tup (we_v 1)) (fun _ _ _ _=>wts_nil) (fun _ _ _ _=>(we_tup (wa_k (we_v 0) (wa_k (we_op (op_catU K) (we_slice (sl_tupA K) (we_v 1) wo_none (wo_some we_int)) (we_fn F__law_placed (hr.mono (by decide)) (wa_k (we_slice (sl_tupA K) (we_v 1) (wo_some we_int) wo_none) (wa_k (we_v 2) wa_nil)))) wa_nil))))) wa_nil)))) wss_nil)
      (wss_cons (ws_setCompN2 (i:=4) (CScopeN.of (psc:=defScope s__law_due) (N:=["_law_way", "_law_thing", "_law_order_here", "_law_ways", "_law_entries"]) (xs:=["_law_counts", "_law_says_here"]) (N':=["_law_counts", "_law_says_here", "_law_order_here"]) (js:=[2]) (by decide +kernel) rfl rfl rfl) sc__law_due.nd rfl rfl (wi_tup (we_v 1)) (fun _ _ _ _=>wts_nil) (fun _ _ _ _=>(we_tup (wa_k (we_fn F__law_placed (hr.mono (by decide)) (wa_k (we_v 0) (wa_k (we_v 2) wa_nil))) (wa_k (we_v 1) wa_nil)))))
      (wss_one (ws_ret (we_cT call_tuple_of (by rfl) T.b_tuple (by decide +kernel) (wa_k (we_srtL K (k:=4) (N:=["_law_entry"]) (z := "_law_entry") rfl hh hbm ⟨rfl,rfl,rfl,by decide +kernel,rfl,by decide +kernel,by decide +kernel⟩ (fun _ _ _ _=>rfl) (fun B f c1 A outer s H E hr=>(we_tup (wa_k (we_cB (cl_sumT K rfl) (by rfl) T.b_sum (by decide +kernel) (wa_k (we_ix (ix_seqK K) (we_v 0) we_int (fun _ _=>rfl)) wa_nil)) (wa_k (we_ix (ix_seqK K) (we_v 0) we_int (fun _ _=>rfl)) wa_nil)))) (hr.mono (by decide)) (by rfl) T.b_sorted (we_v 4) rfl) wa_nil)))))))),?_⟩
    refine ⟨_,rfl,rfl,_,rfl,?_⟩
    cases dr with
    | d0 h hs =>
      rename_i fs ws
      refine iteTe rfl ?_
      obtain ⟨ta,tvs,rfl,hta,rtv⟩:=tup_at rt
      obtain ⟨xf,xw,rfl,rf,rw'⟩:=RepL_two rtv
      obtain ⟨wa,wvs,rfl,hwa,rwv⟩:=tup_at rw'
      have lw':=reps_len rwv
      refine ⟨_,rfl,?_⟩
      refine ixT hta rfl ?_
      refine ⟨_,rfl,?_⟩
      refine ixT hta rfl ?_
      refine ⟨_,rfl,?_⟩
      refine sp_turned_i hwa hb (fun k hk=>by rw [lw']; exact ok.lt k hk) (by rw [ok.len]; omega) fun c2 H2 s2 e2=>?_
      refine nwT (by show 2≤64; decide) fun q3 H3 hq3 e3 s3=>?_
      have s13:=s2.trans s3
      refine q _ _ H3 s13.but (TO.same s13) rfl (Rep.tup e3 (RepL.cons (rf.same s13) (RepL.cons (Rep.tup (s3 _ _ e2) ?_) RepL.nil)))
      exact turn_rep (rwv.same s13) fun k hk=>ok.lt k hk
    | d1 h hw hl hs =>
      rename_i fs ws
      refine iteFe rfl ?_
      refine ⟨_,rfl,rfl,_,rfl,?_⟩
      refine iteTe rfl ?_
      obtain ⟨ta,tvs,rfl,hta,rtv⟩:=tup_at rt
      obtain ⟨xf,xw,rfl,rf,rw'⟩:=RepL_two rtv
      obtain ⟨fa,fvs,rfl,hfa,rfv⟩:=tup_at rf
      obtain ⟨wa,wvs,rfl,hwa,rwv⟩:=tup_at rw'
      have lf:=reps_len rfv
      refine ⟨_,rfl,?_⟩
      refine ixT hta rfl ?_
      refine ⟨wa,rfl,⟨_,SqT.of hwa⟩,?_⟩
      refine compN_tup (fun _=>true) (fun w x=>Rep H (wD w) x) (fun w y H'=>Rep H' (wD (w.1,turnL (0,1) w.2 o)) y) (fun w y H1 H2 s r=>r.flat s (wD_flat _)) (by omega) hwa (Paired.ofRepL rwv) (fun x w H' hm rw0 s'=>?_) (fun D ys H3 hD e3 s3 pr=>?_)
      · obtain ⟨pa,pvs,rfl,hpa,rpv⟩:=tup_at (rw0.same s')
        obtain ⟨y1,y2,rfl,ry1,ry2⟩:=RepL_two rpv
        obtain ⟨sha,shs,rfl,hsha,rshs⟩:=shD_at ry2
        refine ⟨pa,[y1,.ref sha],rfl,SqT.of hpa,rfl,fun Q' h=>h H' (Same.refl _),fun H5 Q' s5 _ k'=>?_⟩
        have lsh:=reps_len rshs
        have hww:=hw w hm
        refine ⟨_,rfl,_,rfl,_,rfl,?_⟩
        refine sp_turned_i (s5 _ _ hsha) (s5 _ _ (s' _ _ hb)) (fun k hk=>by rw [lsh,hww]; exact ok.lt k hk) (by rw [ok.len]; omega) fun c6 H6 s6 e6=>?_
        refine nwT (by show 2≤64; decide) fun q7 H7 hq7 e7 s7=>?_
        have s57:=(s5.trans s6).trans s7
        refine k' _ H7 (s6.trans s7) (Rep.tup e7 (RepL.cons (ry1.same s57) (RepL.cons (Rep.tup (s7 _ _ e6) ?_) RepL.nil)))
        exact turn_rep (rshs.same s57) fun k hk=>by rw [hww]; exact ok.lt k hk
      · rw [filter_all] at pr
        refine ⟨_,rfl,?_⟩
        refine ixT (s3 _ _ hta) rfl ?_
        refine ⟨_,rfl,?_⟩
        refine sp_turned_i (s3 _ _ hfa) (s3 _ _ hb) (fun k hk=>by rw [lf]; exact ok.lt k hk) (by rw [ok.len]; omega) fun c2 H2 s2 e2=>?_
        refine ⟨_,rfl,D,ys,rfl,.inl ⟨SqL.of (s2 _ _ e3),fun l hl=>?_⟩⟩
        have sl:=Same.upd (o:=.tup ys) hl
        have el:upd H2 l (.tup ys) l=some (.tup ys):=upd_same
        generalize upd H2 l (.tup ys)=H4 at sl el
        refine nwT (by show 2≤64; decide) fun q5 H5 hq5 e5 s5=>?_
        have s35:=(s2.trans sl).trans s5
        have rys:RepL H5 ((fturn ws o).map wD) ys:=by
          have:=Paired.toRepL (g:=fun w:Str × List Fr=>wD (w.1,turnL (0,1) w.2 o)) pr
          unfold fturn
          rw [List.map_map]
          exact this.same s35
        refine q _ _ H5 (s3.trans s35).but (TO.same (s3.trans s35)) rfl (Rep.tup e5 (RepL.cons (Rep.tup (s5 _ _ (sl _ _ e2)) ?_) (RepL.cons (Rep.tup (s5 _ _ el) rys) RepL.nil)))
        exact turn_rep (rfv.same (s3.trans s35)) fun k hk=>ok.lt k hk
    | d2 R h2 hs =>
      rename_i es F
      refine iteFe rfl ?_
      refine ⟨_,rfl,rfl,_,rfl,?_⟩
      refine iteFe rfl ?_
      refine ⟨_,rfl,rfl,_,rfl,?_⟩
      refine iteTe rfl ?_
      obtain ⟨a,xs,rfl,ha,rxs⟩:=ruD_at rt
      have few:=R.few
      refine ⟨_,rfl,a,rfl,⟨_,SqT.of ha⟩,?_⟩
      refine compN_tup (fun _=>true) (fun e x=>Rep H (enD e) x) (fun e y H'=>Rep H' (enD (e.1,sayT e.2 o)) y) (fun w y H1 H2 s r=>r.flat s (enD_flat _)) (by omega) ha (Paired.ofRepL rxs) (fun x e H' hm re s'=>?_) (fun D ys H3 hD e3 s3 pr=>?_)
      · obtain ⟨eb,u,v,rfl,heb,ru,rv⟩:=enD_at (re.same s')
        obtain ⟨sa,svs,rfl,hsa,rsv⟩:=shD_at rv
        refine ⟨eb,[u,.ref sa],rfl,SqT.of heb,rfl,fun Q' h=>h H' (Same.refl _),fun H5 Q' s5 _ k'=>?_⟩
        have lsv:=reps_len rsv
        have hle:=(R.each e hm).2
        refine ⟨_,rfl,_,rfl,_,rfl,?_⟩
        refine slA_hi (k:=1) (s5 _ _ hsa) fun p6 H6 s6 e6=>?_
        refine ⟨_,rfl,_,rfl,?_⟩
        refine slA_loE (k:=1) rfl (s6 _ _ (s5 _ _ hsa)) fun p7 H7 s7 e7=>?_
        refine ⟨_,rfl,?_⟩
        have s67:=s6.trans s7
        refine sp_turned_i e7 (s67 _ _ (s5 _ _ (s' _ _ hb))) (fun k hk=>by have:=ok.lt k hk; rw [List.length_drop,lsv,hle]; omega) (by rw [ok.len]; omega) fun c8 H8 s8 e8=>?_
        refine catU (s8 _ _ (s7 _ _ e6)) e8 (by unfold turnV; rw [List.length_take,List.length_map,ok.len]; omega) fun c9 H9 s9 e9=>?_
        refine nwT (by show 2≤64; decide) fun q10 H10 hq10 e10 s10=>?_
        have s510:=(((s5.trans s67).trans s8).trans s9).trans s10
        refine k' _ H10 (((s67.trans s8).trans s9).trans s10) (Rep.tup e10 (RepL.cons (ru.same s510) (RepL.cons (Rep.tup (s10 _ _ e9) ?_) RepL.nil)))
        unfold sayT
        rw [List.map_append]
        have rs:=rsv.same s510
        refine RepL.append ?_ ?_
        · refine turn_rep ?_ fun k hk=>by have:=ok.lt k hk; rw [List.length_drop,hle]; omega
          rw [List.map_drop]
          exact RepL.dropR 1 rs
        · rw [List.map_take]
          exact repl_take 1 rs
      · rw [filter_all] at pr
        refine ⟨D,ys,rfl,.inl ⟨SqL.of e3,fun l hl=>?_⟩⟩
        have sl:=Same.upd (o:=.tup ys) hl
        refine q _ _ _ (s3.trans sl).but (TO.same (s3.trans sl)) rfl (Rep.tup upd_same ?_)
        have:=Paired.toRepL (g:=fun e:Ent=>enD (e.1,sayT e.2 o)) pr
        unfold ruT
        rw [List.map_map]
        exact this.same sl
    | d3 R h2 hs hrs =>
      rename_i es W
      refine iteFe rfl ?_
      refine ⟨_,rfl,rfl,_,rfl,?_⟩
      refine iteFe rfl ?_
      refine ⟨_,rfl,rfl,_,rfl,?_⟩
      refine iteFe rfl ?_
      obtain ⟨ra,rxs,rfl,hra,rrx⟩:=ruD_at rt
      have few:=R.few
      have hl0:∀ e∈es,e.1.length=n:=fun e he=>(R.each e he).1
      refine ⟨_,rfl,ra,rfl,⟨_,SqT.of hra⟩,?_⟩
      refine compN_tup (fun _=>true) (fun e x=>Rep H (enD e) x) (fun e y H'=>Rep H' (enD (turnC e.1 o,e.2)) y) (fun w y H1 H2 s r=>r.flat s (enD_flat _)) (by omega) hra (Paired.ofRepL rrx) (fun x e H' hm re s'=>?_) (fun D ys H3 hD e3 s3 pr=>?_)
      · obtain ⟨eb,u,v,rfl,heb,ru,rv⟩:=enD_at (re.same s')
        obtain ⟨cu,rfl,hcu⟩:=ctD_at ru
        refine ⟨eb,[.ref cu,v],rfl,SqT.of heb,rfl,fun Q' h=>h H' (Same.refl _),fun H5 Q' s5 _ k'=>?_⟩
        have hle:=hl0 e hm
        refine ⟨_,rfl,_,rfl,?_⟩
        refine sp_turned_i (s5 _ _ hcu) (s5 _ _ (s' _ _ hb)) (fun k hk=>by rw [List.length_map,hle]; exact ok.lt k hk) (by rw [ok.len]; omega) fun c6 H6 s6 e6=>?_
        refine ⟨_,rfl,?_⟩
        refine nwT (by show 2≤64; decide) fun q7 H7 hq7 e7 s7=>?_
        refine k' _ H7 (s6.trans s7) (Rep.tup e7 (RepL.cons (ctD_of ?_) (RepL.cons (rv.same ((s5.trans s6).trans s7)) RepL.nil)))
        rw [s7 _ _ e6]
        congr 2
        unfold turnV turnC turnL
        rw [List.map_map]
        refine List.map_congr_left fun k hk=>?_
        have hk':k<e.1.length:=by rw [hle]; exact ok.lt k hk
        show (e.1.map V.int).getD k .non=V.int (e.1.getD k 0)
        rw [List.getD_eq_getElem?_getD,List.getElem?_map,List.getD_eq_getElem?_getD,List.getElem?_eq_getElem hk']; rfl
      · rw [filter_all] at pr
        have lys:ys.length=es.length:=pr.length.symm
        have TO3:=TO.same s3
        obtain ⟨ps,hps⟩:=TO3.at_
        refine ⟨_,rfl,?_⟩
        unfold rSrtL
        refine ⟨D,ys,es.map fun e=>(turnC e.1 o).sum::turnC e.1 o,rfl,SqL.of e3,by omega,TO3,by rw [List.length_map,lys],fun k hk=>?_,fun i y k H' hy hk b'=>?_,fun D2 ix H4 pm srt hD2 e4 b4 T4=>?_⟩
        · obtain ⟨e,_,rfl⟩:=List.mem_map.mp hk
          exact List.cons_ne_nil _ _
        · obtain ⟨e,he,re⟩:=paired_at pr hy
          rw [List.getElem?_map,he] at hk
          cases hk
          have t':SameT H3 H':=fun a xs ha=>b'.at (fun z=>by rw [z,hps] at ha; cases ha) ha
          obtain ⟨eb,u,v,rfl,heb,ru,rv⟩:=enD_at (re.flat t' (enD_flat _))
          obtain ⟨cu,rfl,hcu⟩:=ctD_at ru
          refine ⟨_,rfl,?_⟩
          refine ixT heb rfl ?_
          refine rsT (SqT.of hcu) ?_
          refine ⟨_,rfl,?_⟩
          refine ixT heb rfl ?_
          refine nwT (by show 2≤64; decide) fun q7 H7 hq7 e7 s7=>⟨s7,?_⟩
          exact Rep.tup e7 (RepL.cons (Rep.int _) (RepL.cons (ctD_of (s7 _ _ hcu)) RepL.nil))
        · refine ⟨D2,_,rfl,.inl ⟨SqL.of e4,fun l hl=>?_⟩⟩
          have sl:=Same.upd (o:=.tup (ix.map fun i=>ys.getD i .non)) hl
          have hix:∀ k∈ix,k<(es.map fun e:Ent=>(turnC e.1 o,e.2)).length:=fun k hk=>by
            have:=List.mem_range.mp (pm.mem_iff.mp hk)
            rw [List.length_map]; omega
          have t4:SameT H3 H4:=fun a xs ha=>b4.at (fun z=>by rw [z,hps] at ha; cases ha) ha
          have r0:=Paired.toRepL (g:=fun e:Ent=>enD (turnC e.1 o,e.2)) pr
          have r1:RepL H3 ((es.map fun e:Ent=>(turnC e.1 o,e.2)).map enD) ys:=by rw [List.map_map]; exact r0
          have r2:=turn_rep (d:=(([],[]):Ent)) ((r1.flat t4 (ens_flat _)).same sl) hix
          refine q (.ref l) (ruD (turnL ([],[]) (es.map fun e:Ent=>(turnC e.1 o,e.2)) ix)) _ ?_ (T4.same sl) ⟨_,turnF_of R ok (by rw [← lys]; exact pm) srt,rfl⟩ (Rep.tup upd_same r2)
          exact SameBut.same (show SameBut tB H H4 from s3.but.trans b4) sl
end
end Kw
set_option Elab.async false
set_option linter.all false
set_option maxRecDepth 100000
namespace Kw
open PySem L2 Mf
abbrev s__law_order:Stmt:=(top 42)
theorem sc__law_order:FnScope ["_law_tape_here", "_law_many", "_law_left"] ["_law_tape_here", "_law_many"] (defScope s__law_order):=⟨rfl,rfl,rfl,by decide +kernel,rfl,by decide +kernel,by decide +kernel⟩
abbrev s__law_bent:Stmt:=(top 47)
theorem sc__law_bent:FnScope ["_law_tape_here", "_law_order_here", "_law_odd"] ["_law_tape_here", "_law_order_here"] (defScope s__law_bent):=⟨rfl,rfl,rfl,by decide +kernel,rfl,by decide +kernel,by decide +kernel⟩
@[irreducible] def sp_lorder:Sp:=fun vs H Q _=>∃ (p:Addr) (n m:Nat),vs=[.ref p,.int (m:Int)]∧TapeAt H p (n+64)∧m≤4∧∀ l o H',TapeAt H' p n→SameBut p H H'→H' l=some (.tup ((iO o).map V.int))→OrdOk m o→Q (.ref l) H'
theorem sp_lorder_i {H:Hp} {Q:VK} {E:XK} {p:Addr} {n m:Nat} (T:TapeAt H p (n+64)) (h2:m≤4) (k:∀ l o H',TapeAt H' p n→SameBut p H H'→H' l=some (.tup ((iO o).map V.int))→OrdOk m o→Q (.ref l) H'):sp_lorder [.ref p,.int (m:Int)] H Q E:=by
  unfold sp_lorder; exact ⟨p,n,m,rfl,T,h2,k⟩
theorem io_erase (ss:List Nat) (b:Nat):((iO ss).map V.int).eraseIdx b=(iO (ss.eraseIdx b)).map V.int:=by
  induction ss generalizing b with
  | nil=>rfl
  | cons a ss ih =>
    cases b with
    | zero=>rfl
    | succ b=>show V.int _::((iO ss).map V.int).eraseIdx b=V.int _::(iO (ss.eraseIdx b)).map V.int; rw [ih]
theorem erase_perm {ss:List Nat} {b:Nat} (h:b<ss.length):(ss[b]::ss.eraseIdx b).Perm ss:=by
  induction ss generalizing b with
  | nil=>simp at h
  | cons a ss ih =>
    cases b with
    | zero=>exact List.Perm.refl _
    | succ b =>
      have:=ih (b:=b) (by simpa using h)
      have hb:b<ss.length:=by simpa using h
      show (ss[b]::a::ss.eraseIdx b).Perm (a::ss)
      exact (List.Perm.swap _ _ _).trans (this.cons a)
section
variable {P:Program} {w:World} {K:PySem.W.Frag} {mg:Str→Option Value} {base:Heap} {c:Cl}
set_option maxHeartbeats 4000000 in
theorem ok__law_order {f:Addr} {fd:FuncData} (F:Fun K "_law_order" "_law_order" s__law_order f fd) (T:Txt K mg c) (F__law_pick:FnC CX0 P w K mg base 1 "_law_pick" ["_law_tape_here", "_law_many"] sp_pick):FnOk P w K mg base CX0 2 f fd ["_law_tape_here", "_law_many"] sp_lorder:=by
  refine F.okw sc__law_order (fun vs H Q E h=>?_) (fun cdv A outer s H vs Q E hr h=>?_)
  · unfold sp_lorder at h
    obtain ⟨p,n,m,rfl,_⟩:=h
    rfl
  · unfold sp_lorder at h
    obtain ⟨p,n,m,rfl,T0,m4,k⟩:=h
    refine ⟨_,(wss_cons (ws_set (i:=2) sc__law_order.nd rfl (Or.inr rfl) (we_lrng rfl rfl T.b_list rfl T.b_range (wa_k (we_v 1) wa_nil)))
      (wss_one (ws_ret (we_cT call_tuple_of (by rfl) T.b_tuple (by decide +kernel) (wa_k (we_comp (CScope.of (psc:=defScope s__law_order) (N:=["_law_tape_here", "_law_many", "_law_left"]) (N':=["_law_k", "_law_tape_here", "_law_left"]) (js:=[0,2]) (by decide +kernel) rfl rfl rfl) (wi_range1 rfl T.b_range (wa_k (we_v 1) wa_nil)) (fun _ _ _ _=>wts_nil) (fun _ _ _ _=>(we_bmK K PySem.F.plainAttrs_list PySem.F.slot_list_pop PySem.F.type_list_pop mt_pa (we_v 2) (wa_k (we_fn F__law_pick (hr.mono (by decide)) (wa_k (we_v 1) (wa_k (we_cB (cl_lenK K) (by rfl) T.b_len (by decide +kernel) (wa_k (we_v 2) wa_nil)) wa_nil))) wa_nil)))) wa_nil))))),?_⟩
    refine ⟨_,rfl,?_⟩
    refine rlr (by omega) fun L H1 hL e1 s1=>?_
    have T1:=T0.same s1
    have nLp:L≠p:=T0.ne hL
    have e1':H1 L=some (.lst ((iO (List.range m)).map V.int)):=by rw [e1,List.map_map]; rfl
    refine ⟨_,rfl,_,rfl,by omega,by omega,?_⟩
    refine comp_any (J:=Itr 0 m) (n:=m) (fun i x=>True) (by omega) (fun D i ys H'=>H1 D=none∧TapeAt H' p (n+64 - i)∧SameBut p H H'∧∃ ss ts:List Nat,H' L=some (.lst ((iO ss).map V.int))∧ss.length+i=m∧ys=(iO ts).map V.int∧(ts++ss).Perm (List.range m))
      (fun D H2 hD e2 s2=>⟨hD,T1.same s2,(s1.trans s2).but,_,[],s2 _ _ e1',by rw [List.length_range]; omega,rfl,List.Perm.refl _⟩) (fun D i ys H' hi _ _=>⟨hi,fun x H3 y=>⟨y.1,True.intro⟩⟩) (fun D ys H' _ _=>Nat.le_refl _) (fun D i x ys H' _ hi hy hD q=>?_) (fun D ys H2 hy hD hD2 q=>?_)
    · obtain ⟨hDn,T2,b2,ss,ts,e2,ls,rfl,pm⟩:=q
      refine ⟨_,rfl,tyL e2,_,rfl,_,rfl,?_⟩
      have hsl:0<ss.length:=by omega
      refine rlL e2 ?_
      rw [List.length_map,List.length_map]
      refine sp_pick_i (n:=n+64 - (i+1)) (T2.less (by omega)) (by omega) (bitsle (Nat.lt_of_le_of_lt (show ((ss.length:Int)).natAbs≤7 by omega) (by decide))) fun x H3 x0 x1 T3 b3=>?_
      obtain ⟨b,rfl⟩:∃ b:Nat,x=(b:Int):=⟨x.toNat,by omega⟩
      have e3:=b3.at nLp e2
      have nDp:D≠p:=T1.ne hDn
      have nDL:D≠L:=fun z=>by rw [z,e1] at hDn; cases hDn
      refine popA e3 (by rw [List.length_map,List.length_map]; omega) (by rw [List.length_map,List.length_map]; omega) fun H4 e4 b4=>?_
      have hget:((iO ss).map V.int)[b]'(by rw [List.length_map,List.length_map]; omega)=V.int ((ss[b]'(by omega):Nat):Int):=by rw [List.getElem_map,List.getElem_map]
      rw [hget]
      refine ⟨b4.at nDL (b3.at nDp hD),fun H6 e6 b6=>⟨hDn,(T3.but b4 nLp).but b6 nDp,?_,ss.eraseIdx b,ts++[ss[b]'(by omega)],?_,?_,?_,?_⟩⟩
      · exact SameBut.thru (s1.free hDn) (SameBut.thru hL (b2.trans b3) b4) b6
      · rw [b6.at (Ne.symm nDL) e4,io_erase]
      · rw [List.length_eraseIdx,if_pos (by omega)]; omega
      · show _=((ts++[ss[b]'(by omega)]).map fun k:Nat=>(k:Int)).map V.int
        rw [List.map_append,List.map_append]; rfl
      · rw [List.append_assoc]
        exact ((erase_perm (by omega)).append_left ts).trans pm
    · obtain ⟨hDn,T2,b2,ss,ts,e2,ls,rfl,pm⟩:=q
      have es:ss=[]:=List.eq_nil_of_length_eq_zero (by omega)
      rw [es,List.append_nil] at pm
      refine ⟨D,_,rfl,.inl ⟨SqL.of hD2,fun l hl=>?_⟩⟩
      have s3:=Same.upd (o:=.tup ((iO ts).map V.int)) hl
      exact k l ts _ ((T2.same s3).less (by omega)) (b2.trans s3.but) upd_same ⟨pm,m4⟩
end
@[irreducible] def sp_lbent:Sp:=fun vs H Q _=>∃ (p b:Addr) (n m:Nat) (o:List Nat),vs=[.ref p,.ref b]∧TapeAt H p (n+1)∧H b=some (.tup ((iO o).map V.int))∧OrdOk m o∧2≤m∧∀ v d H',TapeAt H' p n→SameBut p H H'→Rep H' d v→ordB m d=false→Q v H'
theorem sp_lbent_i {H:Hp} {Q:VK} {E:XK} {p b:Addr} {n m:Nat} {o:List Nat} (T:TapeAt H p (n+1)) (h1:H b=some (.tup ((iO o).map V.int))) (h2:OrdOk m o) (h3:2≤m) (q:∀ v d H',TapeAt H' p n→SameBut p H H'→Rep H' d v→ordB m d=false→Q v H'):sp_lbent [.ref p,.ref b] H Q E:=by
  unfold sp_lbent; exact ⟨p,b,n,m,o,rfl,T,h1,h2,h3,q⟩
theorem ord_len {m:Nat} {ds:List PyData} (h:ds.length≠m):ordB m (.tuple ds)=false:=by
  show (decide (ds.length=m)&&_)=false
  rw [decide_eq_false h,Bool.false_and]
theorem ord_who {m:Nat} {ds:List PyData} {d:PyData} (h:d∈ds) (hd:dWhole d=false):ordB m (.tuple ds)=false:=by
  show (_&&(ds.all dWhole&&_))=false
  have:ds.all dWhole=false:=by
    rw [Bool.eq_false_iff]
    intro z
    rw [List.all_eq_true.mp z d h] at hd
    cases hd
  rw [this,Bool.false_and,Bool.and_false]
theorem ord_per {m:Nat} {ns:List Int} (h:¬ ns.Perm (iO (List.range m))):ordB m (.tuple (ns.map .int))=false:=by
  show (_&&(_&&decide (((ns.map PyData.int).map intOf).Perm (iO (List.range m)))))=false
  rw [ints_of27,decide_eq_false h,Bool.and_false,Bool.and_false]
theorem no_mem {m:Nat} {ns:List Int} {z:Int} (h:z∈ns) (hz:z<0∨(m:Int)≤z):¬ ns.Perm (iO (List.range m)):=fun q=>by
  obtain ⟨k,hk,rfl⟩:=List.mem_map.mp (q.mem_iff.mp h)
  have:=List.mem_range.mp hk
  omega
def bentL (o:List Nat):List PyData:=[.tuple ((iO o++(iO o).take 1).map .int),.tuple (((iO o).drop 1).map .int),.tuple ((iO o++[(o.length:Int)]).map .int),.tuple (((iO o).map (· + 1)).map .int)]++[.list ((iO o).map .int),.none,.tuple ((iO o).map fun i=>.bool (i != 0)),.str (Str.ofString "01"),.tuple (List.replicate o.length (.int ((iO o).headD 0)))]++[.tuple (List.replicate o.length .none),.tuple [.int 0,.int (-1)]]
theorem bent_no {m:Nat} {o:List Nat} (ok:OrdOk m o) (h2:2≤m):∀ d∈bentL o,ordB m d=false:=fun d hd=>by
  have lo:=ok.len
  have lio:(iO o).length=m:=by rw [List.length_map]; exact lo
  unfold bentL at hd
  simp only [List.mem_append,List.mem_cons,List.not_mem_nil,or_false] at hd
  rcases hd with ((rfl | rfl | rfl | rfl) | (rfl | rfl | rfl | rfl | rfl)) | (rfl | rfl)
  · exact ord_len (by rw [List.length_map,List.length_append,List.length_take,lio]; omega)
  · exact ord_len (by rw [List.length_map,List.length_drop,lio]; omega)
  · exact ord_len (by rw [List.length_map,List.length_append,lio]; show m+1≠m; omega)
  · refine ord_per (no_mem (z:=(m:Int)) ?_ (.inr (Int.le_refl _)))
    have hm:m - 1∈o:=ok.perm.mem_iff.mpr (List.mem_range.mpr (by omega))
    exact List.mem_map.mpr ⟨((m - 1:Nat):Int),List.mem_map.mpr ⟨m - 1,hm,rfl⟩,by omega⟩
  · rfl
  · rfl
  · obtain ⟨a,l,e⟩:=List.exists_cons_of_ne_nil (show iO o≠[] from fun z=>by rw [z] at lio; simp at lio; omega)
    rw [e]
    exact ord_who (List.mem_cons_self ..) rfl
  · rfl
  · have e:List.replicate o.length (PyData.int ((iO o).headD 0))=(List.replicate o.length ((iO o).headD 0)).map .int:=by rw [List.map_replicate]
    rw [e]
    refine ord_per fun q=>?_
    have nd:(iO (List.range m)).Nodup:=by
      have:(List.range m).Nodup:=List.nodup_range
      exact List.pairwise_map.mpr (this.imp fun h e=>h (by omega))
    have nd2:=q.nodup_iff.mpr nd
    rw [lo,show m=(m - 2)+2 by omega] at nd2
    simp [List.replicate_succ] at nd2
  · refine ord_who (d:=.none) (List.mem_replicate.mpr ⟨by omega,rfl⟩) rfl
  · rw [show [PyData.int 0,PyData.int (-1)]=([0,-1]:List Int).map .int from rfl]
    exact ord_per (no_mem (z:=-1) (by simp) (.inl (by decide)))
theorem RepL.app27 {H:Hp}:∀ {ds es:List PyData} {xs ys:List V},RepL H ds xs→RepL H es ys→RepL H (ds++es) (xs++ys)
  | [],es,xs,ys,h1,h2=>by cases (show xs=[] from h1); exact h2
  | d::ds,es,xs,ys,h1,h2=>by
    unfold RepL at h1
    obtain ⟨x,xs',rfl,hx,hr⟩:=h1
    exact RepL.cons hx (RepL.app27 hr h2)
theorem RepL.mem27 {H:Hp}:∀ {ds:List PyData} {xs:List V} {x:V},RepL H ds xs→x∈xs→∃ d∈ds,Rep H d x
  | [],_,x,h,hx=>by cases (show _=[] from h); cases hx
  | d::ds,_,x,h,hx=>by
    unfold RepL at h
    obtain ⟨y,ys,rfl,h1,h2⟩:=h
    rcases List.mem_cons.mp hx with rfl | hx
    · exact ⟨d,List.mem_cons_self ..,h1⟩
    · obtain ⟨e,he,re⟩:=RepL.mem27 h2 hx
      exact ⟨e,List.mem_cons_of_mem _ he,re⟩
theorem rep_repl27 {H:Hp} {d:PyData} {v:V} (r:Rep H d v):∀ k,RepL H (List.replicate k d) (List.replicate k v)
  | 0=>RepL.nil
  | k+1=>RepL.cons r (rep_repl27 r k)
mutual
theorem rep_nosq {H H':Hp} {p:Addr} {n:Nat} (s:SameBut p H H') (hp:TapeAt H p n):∀ {d:PyData} {v:V},d.hasDict=false→Rep H d v→Rep H' d v
  | .none,_,_,h=>h
  | .bool _,_,_,h=>h
  | .int _,_,_,h=>h
  | .str _,_,_,h=>h
  | .list ds,_,f,h=>by
    unfold Rep at h ⊢
    obtain ⟨a,xs,rfl,h1,h2⟩:=h
    exact ⟨a,xs,rfl,s.at (hp.neL h1) h1,repl_nosq s hp f h2⟩
  | .tuple ds,_,f,h=>by
    unfold Rep at h ⊢
    obtain ⟨a,xs,rfl,h1,h2⟩:=h
    exact ⟨a,xs,rfl,s.at (hp.neT h1) h1,repl_nosq s hp f h2⟩
  | .dict kvs,_,f,h=>by cases f
theorem repl_nosq {H H':Hp} {p:Addr} {n:Nat} (s:SameBut p H H') (hp:TapeAt H p n):∀ {ds:List PyData} {vs:List V},PyData.hasDictAll ds=false→RepL H ds vs→RepL H' ds vs
  | [],_,_,h=>h
  | d::ds,_,f,h=>by
    unfold RepL at h ⊢
    obtain ⟨x,xs,rfl,h1,h2⟩:=h
    have f':(d.hasDict || PyData.hasDictAll ds)=false:=f
    rw [Bool.or_eq_false_iff] at f'
    exact ⟨x,xs,rfl,rep_nosq s hp f'.1 h1,repl_nosq s hp f'.2 h2⟩
end
theorem nd_all27:∀ {ds:List PyData},(∀ d∈ds,d.hasDict=false)→PyData.hasDictAll ds=false
  | [],_=>rfl
  | d::ds,h=>by
    show (d.hasDict || PyData.hasDictAll ds)=false
    rw [h d (List.mem_cons_self ..),nd_all27 fun e he=>h e (List.mem_cons_of_mem _ he)]; rfl
theorem bent_nd (o:List Nat):∀ d∈bentL o,d.hasDict=false:=fun d hd=>by
  unfold bentL at hd
  simp only [List.mem_append,List.mem_cons,List.not_mem_nil,or_false] at hd
  have hin:∀ ns:List Int,PyData.hasDictAll (ns.map .int)=false:=fun ns=>nd_all27 fun d hd=>by
    obtain ⟨z,_,rfl⟩:=List.mem_map.mp hd
    rfl
  rcases hd with ((rfl | rfl | rfl | rfl) | (rfl | rfl | rfl | rfl | rfl)) | (rfl | rfl)
  · exact hin _
  · exact hin _
  · exact hin _
  · exact hin _
  · exact hin _
  · rfl
  · exact nd_all27 fun d hd=>by
      obtain ⟨z,_,rfl⟩:=List.mem_map.mp hd
      rfl
  · rfl
  · exact nd_all27 fun d hd=>by rw [List.eq_of_mem_replicate hd]; rfl
  · exact nd_all27 fun d hd=>by rw [List.eq_of_mem_replicate hd]; rfl
  · rfl
theorem vals_map27 {ns:List Int} {f:Int→V} {ys:List V} (hl:ys.length=ns.length) (h:∀ (i:Nat) y,ys[i]?=some y→∃ z,ns[i]?=some z∧y=f z):ys=ns.map f:=by
  refine List.ext_getElem? fun i=>?_
  by_cases hi:i<ys.length
  · obtain ⟨z,h1,h2⟩:=h i (ys[i]'hi) (List.getElem?_eq_getElem hi)
    rw [List.getElem?_eq_getElem hi,List.getElem?_map,h1,h2]; rfl
  · rw [List.getElem?_eq_none (by omega),List.getElem?_eq_none (by rw [List.length_map]; omega)]
theorem repl_bools {H:Hp}:∀ (ns:List Int),RepL H (ns.map fun i=>PyData.bool (i != 0)) (ns.map fun i=>V.bl (i != 0))
  | []=>RepL.nil
  | n::ns=>RepL.cons (Rep.bl _) (repl_bools ns)
section
variable {P:Program} {w:World} {K:PySem.W.Frag} {mg:Str→Option Value} {base:Heap} {c:Cl}
set_option maxHeartbeats 4000000 in
theorem ok__law_bent {f:Addr} {fd:FuncData} (F:Fun K "_law_bent" "_law_bent" s__law_bent f fd) (T:Txt K mg c) (F__law_pick:FnC CX0 P w K mg base 1 "_law_pick" ["_law_tape_here", "_law_many"] sp_pick):FnOk P w K mg base CX0 2 f fd ["_law_tape_here", "_law_order_here"] sp_lbent:=by
  refine F.okw sc__law_bent (fun vs H Q E h=>?_) (fun cdv A outer s H vs Q E hr h=>?_)
  · unfold sp_lbent at h
    obtain ⟨p,b,n,m,o,rfl,_⟩:=h
    rfl
  · unfold sp_lbent at h
    obtain ⟨p,b,n,m,o,rfl,TP,hb,ok,m2,q⟩:=h
    have lo:=ok.len
    have m4:=ok.le
    have lv:((iO o).map V.int).length=m:=by rw [List.length_map,List.length_map]; exact lo
    obtain ⟨a0,l0,e0⟩:=List.exists_cons_of_ne_nil (show iO o≠[] from fun z=>by rw [z] at lv; simp at lv; omega)
    refine ⟨_,(wss_cons (ws_set (i:=2) sc__law_bent.nd rfl (Or.inl rfl) (we_lst (wa_k (we_op (op_catU K) (we_v 1) (we_slice (sl_tupA K) (we_v 1) wo_none (wo_some we_int))) (wa_k (we_slice (sl_tupA K) (we_v 1) (wo_some we_int) wo_none) (wa_k (we_op (op_catU K) (we_v 1) (we_tup (wa_k (we_cB cl_len (by rfl) T.b_len (by decide +kernel) (wa_k (we_v 1) wa_nil)) wa_nil))) (wa_k (we_cT call_tuple_of (by rfl) T.b_tuple (by decide +kernel) (wa_k (we_comp (CScope.of (psc:=defScope s__law_bent) (N:=["_law_tape_here", "_law_order_here", "_law_odd"]) (N':=["_law_one"]) (js:=[]) (by decide +kernel) rfl rfl rfl) (wi_tup (we_v 1)) (fun _ _ _ _=>wts_nil) (fun _ _ _ _=>(we_op op_add (we_v 0) we_int))) wa_nil)) wa_nil))))))
      (wss_cons (ws_set (i:=2) sc__law_bent.nd rfl (Or.inl rfl) (we_op op_cat (we_v 2) (we_lst (wa_k (we_cT call_list_of (by rfl) T.b_list (by decide +kernel) (wa_k (we_v 1) wa_nil)) (wa_k we_non (wa_k (we_cT call_tuple_of (by rfl) T.b_tuple (by decide +kernel) (wa_k (we_comp (CScope.of (psc:=defScope s__law_bent) (N:=["_law_tape_here", "_law_order_here", "_law_odd"]) (N':=["_law_one"]) (js:=[]) (by decide +kernel) rfl rfl rfl) (wi_tup (we_v 1)) (fun _ _ _ _=>wts_nil) (fun _ _ _ _=>(we_cT call_bool1 (by rfl) T.b_bool (by decide +kernel) (wa_k (we_v 0) wa_nil)))) wa_nil)) (wa_k we_str (wa_k (we_op op_mulA (we_slice (sl_tupA K) (we_v 1) wo_none (wo_some we_int)) (we_cB cl_len (by rfl) T.b_len (by decide +kernel) (wa_k (we_v 1) wa_nil))) wa_nil))))))))
      (wss_cons (ws_set (i:=2) sc__law_bent.nd rfl (Or.inl rfl) (we_op op_cat (we_v 2) (we_lst (wa_k (we_op op_mulA (we_tup (wa_k we_non wa_nil)) (we_cB cl_len (by rfl) T.b_len (by decide +kernel) (wa_k (we_v 1) wa_nil))) (wa_k (we_tup (wa_k we_int (wa_k (we_un un_neg we_int) wa_nil))) wa_nil)))))
      (wss_one (ws_ret (we_ix ix_seq (we_v 2) (we_fn F__law_pick (hr.mono (by decide)) (wa_k (we_v 0) (wa_k we_int wa_nil))) (fun _ _=>rfl))))))),?_⟩
    refine ⟨_,rfl,_,rfl,?_⟩
    refine ⟨_,rfl,?_⟩
    refine slA_hi (k:=1) hb fun c1 H1 s1 e1=>?_
    refine catU (s1 _ _ hb) e1 (by rw [List.length_take,lv]; omega) fun c2 H2 s2 e2=>?_
    have S2:=s1.trans s2
    refine ⟨_,rfl,_,rfl,?_⟩
    refine slA_loE (k:=1) rfl (S2 _ _ hb) fun c3 H3 s3 e3=>?_
    have S3:=S2.trans s3
    refine ⟨_,rfl,_,rfl,?_⟩
    refine rlT (S3 _ _ hb) ?_
    refine nwT (by show 1≤64; decide) fun c4 H4 hc4 e4 s4=>?_
    have S4:=S3.trans s4
    refine catU (S4 _ _ hb) e4 (by rw [lv]; show m+1≤1000; omega) fun c5 H5 s5 e5=>?_
    have S5:=S4.trans s5
    have lo':((iO o).map V.int).length≤100000:=by omega
    have hat:∀ (i:Nat) (x:V),((iO o).map V.int)[i]?=some x→∃ z,(iO o)[i]?=some z∧x=.int z:=fun i x hx=>by
      rw [List.getElem?_map] at hx
      obtain ⟨z,hz,rfl⟩:=Option.map_eq_some_iff.mp hx
      exact ⟨z,hz,rfl⟩
    refine ⟨_,rfl,b,rfl,⟨_,SqT.of (S5 _ _ hb)⟩,?_⟩
    refine comp_mapU (fun i y _=>∃ z,(iO o)[i]?=some z∧y=.int (z+1)) (fun _ _ _ _ _ h=>h) lo' (S5 _ _ hb) (fun i x H' Q' hx s' k'=>?_) (fun D6 ys6 H6 hD6 e6 s6 hy6 hr6=>?_)
    · obtain ⟨z,hz,rfl⟩:=hat i x hx
      refine ⟨_,rfl,_,_,rfl,rfl,?_⟩
      exact k' _ H' (Same.refl _) ⟨z,hz,rfl⟩
    have ey6:ys6=(iO o).map fun z=>V.int (z+1):=vals_map27 (by rw [hy6,List.length_map]) hr6
    subst ey6
    refine ⟨D6,_,rfl,.inl ⟨SqL.of e6,fun c7 hc7=>?_⟩⟩
    have s7:=Same.upd (o:=.tup ((iO o).map fun z=>V.int (z+1))) hc7
    have e7:(upd H6 c7 (.tup ((iO o).map fun z=>V.int (z+1)))) c7=some (.tup ((iO o).map fun z=>V.int (z+1))):=upd_same
    generalize upd H6 c7 (.tup ((iO o).map fun z=>V.int (z+1)))=H7 at s7 e7
    have S7:=(S5.trans s6).trans s7
    refine nwL (by show 4≤64; decide) fun L8 H8 hL8 e8 s8=>?_
    have S8:=S7.trans s8
    refine ⟨_,rfl,?_⟩
    refine ⟨_,rfl,b,_,rfl,.inr (SqT.of (S8 _ _ hb)),fun c9 hc9=>?_⟩
    have s9:=Same.upd (o:=.lst ((iO o).map V.int)) hc9
    have e9:(upd H8 c9 (.lst ((iO o).map V.int))) c9=some (.lst ((iO o).map V.int)):=upd_same
    generalize upd H8 c9 (.lst ((iO o).map V.int))=H9 at s9 e9
    have S9:=S8.trans s9
    refine ⟨_,rfl,b,rfl,⟨_,SqT.of (S9 _ _ hb)⟩,?_⟩
    refine comp_mapU (fun i y _=>∃ z,(iO o)[i]?=some z∧y=.bl (z != 0)) (fun _ _ _ _ _ h=>h) lo' (S9 _ _ hb) (fun i x H' Q' hx s' k'=>?_) (fun D10 ys10 H10 hD10 e10 s10 hy10 hr10=>?_)
    · obtain ⟨z,hz,rfl⟩:=hat i x hx
      refine ⟨_,rfl,.inl ⟨_,rfl,?_⟩⟩
      exact k' _ H' (Same.refl _) ⟨z,hz,rfl⟩
    have ey10:ys10=(iO o).map fun z=>V.bl (z != 0):=vals_map27 (by rw [hy10,List.length_map]) hr10
    subst ey10
    refine ⟨D10,_,rfl,.inl ⟨SqL.of e10,fun c11 hc11=>?_⟩⟩
    have s11:=Same.upd (o:=.tup ((iO o).map fun z=>V.bl (z != 0))) hc11
    have e11:(upd H10 c11 (.tup ((iO o).map fun z=>V.bl (z != 0)))) c11=some (.tup ((iO o).map fun z=>V.bl (z != 0))):=upd_same
    generalize upd H10 c11 (.tup ((iO o).map fun z=>V.bl (z != 0)))=H11 at s11 e11
    have S11:=(S9.trans s10).trans s11
    refine ⟨_,rfl,?_⟩
    refine ⟨_,rfl,?_⟩
    refine slA_hi (k:=1) (S11 _ _ hb) fun c12 H12 s12 e12=>?_
    have S12:=S11.trans s12
    refine ⟨_,rfl,?_⟩
    refine rlT (S12 _ _ hb) ?_
    have e12':H12 c12=some (.tup [V.int a0]):=by rw [e12,e0]; rfl
    refine mulA e12' (by omega) fun c13 H13 s13 e13=>?_
    have S13:=S12.trans s13
    refine nwL (by show 5≤64; decide) fun L14 H14 hL14 e14 s14=>?_
    have S14:=S13.trans s14
    have s814:=((((s9.trans s10).trans s11).trans s12).trans s13).trans s14
    refine catL (s814 _ _ e8) e14 (by show 4+5≤1000; decide) fun L15 H15 n15 e15 s15=>?_
    have S15:=S14.trans s15
    refine ⟨_,rfl,?_⟩
    refine nwT (by show 1≤64; decide) fun c16 H16 hc16 e16 s16=>?_
    have S16:=S15.trans s16
    refine ⟨_,rfl,?_⟩
    refine rlT (S16 _ _ hb) ?_
    refine mulA e16 (by omega) fun c17 H17 s17 e17=>?_
    have S17:=S16.trans s17
    refine ⟨_,rfl,?_⟩
    refine nwT (by show 2≤64; decide) fun c18 H18 hc18 e18 s18=>?_
    refine nwL (by show 2≤64; decide) fun L19 H19 hL19 e19 s19=>?_
    have S19:=(S17.trans s18).trans s19
    have s1519:=((s16.trans s17).trans s18).trans s19
    refine catL (s1519 _ _ e15) e19 (by show 9+2≤1000; decide) fun L20 H20 n20 e20 s20=>?_
    have S20:=S19.trans s20
    have s1420:=(s15.trans s1519).trans s20
    have s820:=s814.trans s1420
    have T20:=TP.same S20
    have l20:RepL H20 (bentL o) ([V.ref c2,V.ref c3,V.ref c5,V.ref c7]++[V.ref c9,V.non,V.ref c11,V.str (Str.ofString "01"),V.ref c13]++[V.ref c17,V.ref c18]):=by
      have g2:H20 c2=some (.tup ((iO o++(iO o).take 1).map V.int)):=by
        rw [s820 _ _ (s8 _ _ (s7 _ _ (s6 _ _ (s5 _ _ (s4 _ _ (s3 _ _ e2)))))),List.map_append,List.map_take]
      have g3:H20 c3=some (.tup (((iO o).drop 1).map V.int)):=by
        rw [s820 _ _ (s8 _ _ (s7 _ _ (s6 _ _ (s5 _ _ (s4 _ _ e3))))),List.map_drop]
      have g5:H20 c5=some (.tup ((iO o++[(o.length:Int)]).map V.int)):=by
        rw [s820 _ _ (s8 _ _ (s7 _ _ (s6 _ _ e5))),List.map_append,List.length_map,List.length_map]; rfl
      have g7:H20 c7=some (.tup (((iO o).map (· + 1)).map V.int)):=by
        rw [s820 _ _ (s8 _ _ e7),List.map_map (l:=iO o)]; rfl
      have g9:=s1420 _ _ (s14 _ _ (s13 _ _ (s12 _ _ (s11 _ _ (s10 _ _ e9)))))
      have g11:=s1420 _ _ (s14 _ _ (s13 _ _ (s12 _ _ e11)))
      have g13:H20 c13=some (.tup (List.replicate o.length (V.int ((iO o).headD 0)))):=by
        rw [s1420 _ _ (s14 _ _ e13),lv,lo,e0]; rfl
      have g17:H20 c17=some (.tup (List.replicate o.length V.non)):=by
        rw [s20 _ _ (s19 _ _ (s18 _ _ e17)),lv,lo]
      have g18:=s20 _ _ (s19 _ _ e18)
      unfold bentL
      refine RepL.app27 (RepL.app27 ?_ ?_) ?_
      · exact RepL.cons (Rep.tup g2 (repl_ints _)) (RepL.cons (Rep.tup g3 (repl_ints _)) (RepL.cons (Rep.tup g5 (repl_ints _)) (RepL.cons (Rep.tup g7 (repl_ints _)) RepL.nil)))
      · exact RepL.cons (Rep.lst g9 (repl_ints _)) (RepL.cons Rep.non (RepL.cons (Rep.tup g11 (repl_bools _)) (RepL.cons (Rep.str _) (RepL.cons (Rep.tup g13 (rep_repl27 (Rep.int _) _)) RepL.nil))))
      · exact RepL.cons (Rep.tup g17 (rep_repl27 Rep.non _)) (RepL.cons (Rep.tup g18 (RepL.cons (Rep.int 0) (RepL.cons (Rep.int (-1)) RepL.nil))) RepL.nil)
    refine ⟨_,rfl,?_⟩
    refine ⟨_,rfl,?_⟩
    refine sp_pick_i (n:=n) T20 (by decide) (by decide +kernel) fun z H21 z0 z1 T21 b21=>?_
    obtain ⟨vv,hatv,hmem,_⟩:=atI_mem (xs:=[V.ref c2,V.ref c3,V.ref c5,V.ref c7]++[V.ref c9,V.non,V.ref c11,V.str (Str.ofString "01"),V.ref c13]++[V.ref c17,V.ref c18]) z0 z1
    refine ixL (b21.at (T20.neL e20) e20) hatv ?_
    obtain ⟨dd,hdd,rdd⟩:=RepL.mem27 l20 hmem
    refine q _ dd H21 T21 (S20.but.trans b21) ?_ (bent_no ok m2 dd hdd)
    exact rep_nosq b21 T20 (bent_nd o dd hdd) rdd
end
end Kw
set_option Elab.async false
set_option linter.all false
set_option maxRecDepth 100000
namespace Kw
open PySem L2 Mf
theorem undo_ok {n:Nat} {o:List Nat} (h:OrdOk n o):OrdOk n (undo o):=by
  have lo:=h.len
  refine ⟨?_,h.le⟩
  refine (List.perm_ext_iff_of_nodup ?_ List.nodup_range).mpr fun k=>?_
  · unfold undo
    refine List.pairwise_map.mpr (List.nodup_range.imp_of_mem fun {a b} ha hb hab e=>hab ?_)
    have ha:=List.mem_range.mp ha
    have hb:=List.mem_range.mp hb
    have h1:=(ord_idx h (k:=a) (by omega)).2.1
    have h2:=(ord_idx h (k:=b) (by omega)).2.1
    rw [e,h2] at h1
    injection h1 with h1
    exact h1.symm
  · unfold undo
    rw [List.mem_map,List.mem_range]
    constructor
    · rintro ⟨a,ha,rfl⟩
      have:=(ord_idx h (k:=a) (by have:=List.mem_range.mp ha; omega)).1
      omega
    · intro hk
      have hk':k<o.length:=by omega
      have hm:o[k]<n:=h.lt _ (List.getElem_mem hk')
      refine ⟨o[k],List.mem_range.mpr (by omega),?_⟩
      obtain ⟨g1,g2,_⟩:=ord_idx h (k:=o[k]) hm
      have nd:o.Nodup:=h.perm.nodup_iff.mpr List.nodup_range
      rw [List.getElem?_eq_getElem g1] at g2
      injection g2 with g2
      exact (List.getElem_inj nd).mp g2
theorem getD_lt {α:Type} {d:α} {l:List α} {k:Nat} (h:k<l.length):l.getD k d=l[k]:=by rw [List.getD_eq_getElem?_getD,List.getElem?_eq_getElem h]; rfl
theorem turn_len {α:Type} (d:α) (l:List α) (o:List Nat):(turnL d l o).length=o.length:=by unfold turnL; rw [List.length_map]
theorem turn_undo {α:Type} {d:α} {l:List α} {o:List Nat} (h:OrdOk l.length o):turnL d (turnL d l o) (undo o)=l:=by
  have lo:=h.len
  refine List.ext_getElem? fun i=>?_
  by_cases hi:i<l.length
  · obtain ⟨g1,g2,_⟩:=ord_idx h (k:=i) hi
    have hu:(undo o)[i]?=some (o.idxOf i):=by unfold undo; rw [List.getElem?_map,List.getElem?_range (by omega)]; rfl
    unfold turnL
    rw [List.getElem?_map,hu]
    show some ((o.map fun k=>l.getD k d).getD (o.idxOf i) d)=_
    rw [List.getD_eq_getElem?_getD,List.getElem?_map,g2,List.getElem?_eq_getElem hi]
    show some (l.getD i d)=_
    rw [getD_lt hi]
  · rw [List.getElem?_eq_none (by rw [turn_len,(undo_ok h).len]; omega),List.getElem?_eq_none (by omega)]
theorem turn_mem {α:Type} {d x:α} {l:List α} {o:List Nat} (ho:∀ k∈o,k<l.length) (h:x∈turnL d l o):x∈l:=by
  obtain ⟨k,hk,rfl⟩:=List.mem_map.mp h
  rw [getD_lt (ho k hk)]
  exact List.getElem_mem _
theorem say_len {W:Nat} {fs:List Fr} {o:List Nat} (hl:fs.length=1+W) (h:OrdOk W o):(sayT fs o).length=1+W:=by
  unfold sayT
  rw [List.length_append,List.length_take,turn_len,h.len]; omega
theorem say_undo {W:Nat} {fs:List Fr} {o:List Nat} (hl:fs.length=1+W) (h:OrdOk W o):sayT (sayT fs o) (undo o)=fs:=by
  cases fs with
  | nil=>rw [List.length_nil] at hl; omega
  | cons f fs =>
    have hl':fs.length=W:=by rw [List.length_cons] at hl; omega
    show f::turnL (0,1) (turnL (0,1) fs o) (undo o)=f::fs
    rw [turn_undo (by rw [hl']; exact h)]
theorem ru_undo {F W:Nat} {es:List Ent} {o:List Nat} (R:RuN F W es) (h:OrdOk W o):ruT (ruT es o) (undo o)=es:=by
  unfold ruT
  rw [List.map_map]
  conv=>rhs; rw [← List.map_id es]
  refine List.map_congr_left fun e he=>?_
  show (e.1,sayT (sayT e.2 o) (undo o))=e
  rw [say_undo (R.each e he).2 h]
theorem f_undo {F:Nat} {ws:List (Str × List Fr)} {o:List Nat} (hw:∀ w∈ws,w.2.length=F) (h:OrdOk F o):fturn (fturn ws o) (undo o)=ws:=by
  unfold fturn
  rw [List.map_map]
  conv=>rhs; rw [← List.map_id ws]
  refine List.map_congr_left fun w he=>?_
  show (w.1,turnL (0,1) (turnL (0,1) w.2 o) (undo o))=w
  rw [turn_undo (by rw [hw w he]; exact h)]
theorem rk_asy27 (a b:List Int) (h:rk a b):¬ rk b a:=fun g=>by
  rcases h with h | ⟨h1,h2⟩
  · rcases g with g | ⟨g,_⟩ <;> omega
  · rcases g with g | ⟨_,g2⟩
    · omega
    · have:=lex_tra h2 g2
      rw [lex_irr] at this; cases this
theorem srt_uniq27 {α:Type} {r:α→α→Prop} (asy:∀ a b,r a b→¬ r b a):∀ {l m:List α},l.Pairwise r→m.Pairwise r→(∀ x,x∈l↔x∈m)→l=m
  | [],[],_,_,_=>rfl
  | [],b::m,_,_,h=>by have:=(h b).mpr (List.mem_cons_self ..); cases this
  | a::l,[],_,_,h=>by have:=(h a).mp (List.mem_cons_self ..); cases this
  | a::l,b::m,hl,hm,h=>by
    rw [List.pairwise_cons] at hl hm
    have irr:∀ a,¬ r a a:=fun a q=>asy a a q q
    have e:a=b:=by
      rcases List.mem_cons.mp ((h a).mp (List.mem_cons_self ..)) with q | q
      · exact q
      · rcases List.mem_cons.mp ((h b).mpr (List.mem_cons_self ..)) with q2 | q2
        · exact q2.symm
        · exact absurd (hl.1 b q2) (asy _ _ (hm.1 a q))
    subst e
    rw [srt_uniq27 asy hl.2 hm.2 fun x=>?_]
    constructor
    · intro hx
      rcases List.mem_cons.mp ((h x).mp (List.mem_cons_of_mem _ hx)) with q | q
      · subst q; exact absurd (hl.1 _ hx) (irr _)
      · exact q
    · intro hx
      rcases List.mem_cons.mp ((h x).mpr (List.mem_cons_of_mem _ hx)) with q | q
      · subst q; exact absurd (hm.1 _ hx) (irr _)
      · exact q
theorem rise_perm {l m:List Ent} (p:l.Perm m) (hl:(l.map (·.1)).Pairwise rk) (hm:(m.map (·.1)).Pairwise rk):l=m :=
  srt_uniq27 (r:=fun a b:Ent=>rk a.1 b.1) (fun a b h=>rk_asy27 _ _ h) (List.pairwise_map.mp hl) (List.pairwise_map.mp hm) fun x=>p.mem_iff
theorem TurnF.uniq {es es1 es2:List Ent} {o:List Nat} (h1:TurnF es o es1) (h2:TurnF es o es2):es1=es2:=rise_perm (h1.perm.trans h2.perm.symm) h1.rise h2.rise
theorem rk_nd27 {l:List (List Int)} (h:l.Pairwise rk):l.Nodup:=h.imp fun {a b} q e=>by subst e; exact rk_asy27 _ _ q q
theorem TurnF.run {F W:Nat} {es es':List Ent} {o:List Nat} (h:TurnF es o es') (R:RuN F W es) (ok:OrdOk F o):RuN F W es':=by
  have hm:∀ e∈es',∃ e0∈es,e=(turnC e0.1 o,e0.2):=fun e he=>by
    obtain ⟨e0,h0,rfl⟩:=List.mem_map.mp (h.perm.mem_iff.mp he)
    exact ⟨e0,h0,rfl⟩
  have hl:es'.length=es.length:=by rw [h.perm.length_eq,List.length_map]
  refine ⟨fun z=>R.ne (List.eq_nil_of_length_eq_zero (by rw [← hl,z]; rfl)),rk_nd27 h.rise,fun e he=>?_,by rw [hl]; exact R.few⟩
  obtain ⟨e0,h0,rfl⟩:=hm e he
  exact ⟨by show (turnL 0 e0.1 o).length=F; rw [turn_len]; exact ok.len,(R.each e0 h0).2⟩
theorem TurnF.back {F W:Nat} {es es' es'':List Ent} {o:List Nat} (R:RuN F W es) (hr:(es.map (·.1)).Pairwise rk) (ok:OrdOk F o) (h:TurnF es o es') (h2:TurnF es' (undo o) es''):es''=es:=by
  refine rise_perm ?_ h2.rise hr
  refine h2.perm.trans ((h.perm.map _).trans ?_)
  rw [List.map_map]
  have:es.map ((fun e:Ent=>(turnC e.1 (undo o),e.2)) ∘ fun e:Ent=>(turnC e.1 o,e.2))=es:=by
    conv=>rhs; rw [← List.map_id es]
    refine List.map_congr_left fun e he=>?_
    show (turnL 0 (turnL 0 e.1 o) (undo o),e.2)=e
    rw [turn_undo (by rw [(R.each e he).1]; exact ok)]
  rw [this]
theorem okT_sub {w:Nat} {ws:List Nat} {ds es:List PyData} (h:okT (w::ws) (.tuple ds)=true) (hl:es.length≤w) (hm:∀ d∈es,d∈ds):okT (w::ws) (.tuple es)=true:=okT_tup hl fun d hd=>(okT_it h).2 d (hm d hd)
theorem ok_sh {w:Nat} {fs gs:List Fr} (h:okT [w,2] (shD fs)=true) (hl:gs.length≤w) (hm:∀ f∈gs,f∈fs):okT [w,2] (shD gs)=true:=okT_sub h (by rw [List.length_map]; exact hl) fun d hd=>by
  obtain ⟨f,hf,rfl⟩:=List.mem_map.mp hd
  exact List.mem_map_of_mem (hm f hf)
theorem ok_ct {w:Nat} {a b:List Int} (h:okT [w,2] (ctD a)=true) (hl:b.length≤w) (hm:∀ f∈b,f∈a):okT [w,2] (ctD b)=true:=okT_sub h (by rw [List.length_map]; exact hl) fun d hd=>by
  obtain ⟨f,hf,rfl⟩:=List.mem_map.mp hd
  exact List.mem_map_of_mem (hm f hf)
theorem ok_en {e:Ent} (h:okT [2,5,2] (enD e)=true):okT [5,2] (ctD e.1)=true∧okT [5,2] (shD e.2)=true:=⟨(okT_it h).2 _ (by simp),(okT_it h).2 _ (by simp)⟩
theorem ok_en' {e:Ent} (h1:okT [5,2] (ctD e.1)=true) (h2:okT [5,2] (shD e.2)=true):okT [2,5,2] (enD e)=true:=okT_tup (by show 2≤2; decide) fun d hd=>by
  simp only [List.mem_cons,List.not_mem_nil,or_false] at hd
  rcases hd with rfl | rfl
  · exact h1
  · exact h2
theorem ok_wd {w:Str × List Fr} (h:okT [2,4,2] (wD w)=true):okT [4,2] (.str w.1)=true∧okT [4,2] (shD w.2)=true:=⟨(okT_it h).2 _ (by simp),(okT_it h).2 _ (by simp)⟩
theorem ok_tr {fs:List Str} {ws:List (Str × List Fr)} (h:okT [2,4,2,4,2] (trD fs ws)=true):okT [4,2,4,2] (.tuple (fs.map .str))=true∧okT [4,2,4,2] (.tuple (ws.map wD))=true:=⟨(okT_it h).2 _ (by simp),(okT_it h).2 _ (by simp)⟩
theorem ok_tr' {fs:List Str} {ws:List (Str × List Fr)} (h1:okT [4,2,4,2] (.tuple (fs.map .str))=true) (h2:okT [4,2,4,2] (.tuple (ws.map wD))=true):okT [2,4,2,4,2] (trD fs ws)=true:=okT_tup (by show 2≤2; decide) fun d hd=>by
  simp only [List.mem_cons,List.not_mem_nil,or_false] at hd
  rcases hd with rfl | rfl
  · exact h1
  · exact h2
theorem door_back {wy n:Nat} {t D:PyData} {Res:List Nat→PyData→Prop} {o:List Nat} (dr:Door wy t n Res) (ok:OrdOk n o) (h:Res o D):∃ n' Res',n'=n∧Door wy D n' Res'∧∀ D',Res' (undo o) D'→D'=t:=by
  have lo:=ok.len
  have l4:=ok.le
  cases dr with
  | d0 h0 hs =>
    rename_i fs ws
    cases (show D=trD fs (turnL w0 ws o) from h)
    obtain ⟨k1,k2⟩:=ok_tr hs
    refine ⟨_,_,?_,.d0 (by rw [turn_len]; omega) (ok_tr' k1 (okT_sub k2 (by rw [List.length_map,turn_len]; omega) fun d hd=>?_)),fun D' h'=>?_⟩
    · rw [turn_len]; exact lo
    · obtain ⟨x,hx,rfl⟩:=List.mem_map.mp hd
      exact List.mem_map_of_mem (turn_mem ok.lt hx)
    · rw [show D'=trD fs (turnL w0 (turnL w0 ws o) (undo o)) from h',turn_undo ok]
  | d1 h0 hw hl hs =>
    rename_i fs ws
    cases (show D=trD (turnL "" fs o) (fturn ws o) from h)
    obtain ⟨k1,k2⟩:=ok_tr hs
    refine ⟨_,_,?_,.d1 (by rw [turn_len]; omega) (fun w hm=>?_) (by unfold fturn; rw [List.length_map]; exact hl) (ok_tr' (okT_sub k1 (by rw [List.length_map,turn_len]; omega) fun d hd=>?_) (okT_tup ?_ fun d hd=>?_)),fun D' h'=>?_⟩
    · rw [turn_len]; exact lo
    · obtain ⟨w0,h0',rfl⟩:=List.mem_map.mp hm
      show (turnL (0,1) w0.2 o).length=_
      rw [turn_len,turn_len]
    · obtain ⟨x,hx,rfl⟩:=List.mem_map.mp hd
      exact List.mem_map_of_mem (turn_mem ok.lt hx)
    · have:=(okT_it k2).1
      unfold fturn
      rw [List.length_map,List.length_map]
      rw [List.length_map] at this
      exact this
    · obtain ⟨w1,hw1,rfl⟩:=List.mem_map.mp hd
      obtain ⟨w0,h0',rfl⟩:=List.mem_map.mp hw1
      obtain ⟨q1,q2⟩:=ok_wd ((okT_it k2).2 (wD w0) (List.mem_map_of_mem h0'))
      refine okT_tup (by show 2≤2; decide) fun d hd=>?_
      simp only [List.mem_cons,List.not_mem_nil,or_false] at hd
      rcases hd with rfl | rfl
      · exact q1
      · exact ok_sh q2 (by rw [turn_len]; omega) fun f hf=>turn_mem (fun k hk=>by rw [hw w0 h0']; exact ok.lt k hk) hf
    · rw [show D'=trD (turnL "" (turnL "" fs o) (undo o)) (fturn (fturn ws o) (undo o)) from h',turn_undo ok,f_undo hw ok]
  | d2 R h2 hs =>
    rename_i es F
    cases (show D=ruD (ruT es o) from h)
    have few:=R.few
    refine ⟨_,_,rfl,.d2 (F:=F) ⟨fun z=>R.ne ?_,?_,fun e he=>?_,?_⟩ h2 (okT_tup ?_ fun d hd=>?_),fun D' h'=>?_⟩
    · exact List.map_eq_nil_iff.mp z
    · unfold ruT; rw [List.map_map]; exact R.nd
    · obtain ⟨e0,h0,rfl⟩:=List.mem_map.mp he
      exact ⟨(R.each e0 h0).1,say_len (R.each e0 h0).2 ok⟩
    · unfold ruT; rw [List.length_map]; exact few
    · unfold ruT; rw [List.length_map,List.length_map]; exact few
    · obtain ⟨e1,h1,rfl⟩:=List.mem_map.mp hd
      obtain ⟨e0,h0,rfl⟩:=List.mem_map.mp h1
      obtain ⟨q1,q2⟩:=ok_en ((okT_it hs).2 (enD e0) (List.mem_map_of_mem h0))
      refine ok_en' q1 (ok_sh q2 (by rw [say_len (R.each e0 h0).2 ok]; omega) fun f hf=>?_)
      rcases List.mem_append.mp hf with hf | hf
      · exact List.mem_of_mem_take hf
      · exact List.mem_of_mem_drop (turn_mem (fun k hk=>by have:=ok.lt k hk; have:=(R.each e0 h0).2; rw [List.length_drop]; omega) hf)
    · rw [show D'=ruD (ruT (ruT es o) (undo o)) from h',ru_undo R ok]
  | d3 R h2 hs hr =>
    rename_i es W
    obtain ⟨es',tf,rfl⟩:=h
    have R':=tf.run R ok
    refine ⟨_,_,rfl,.d3 R' h2 (okT_tup (by rw [List.length_map]; exact R'.few) fun d hd=>?_) tf.rise,fun D' h'=>?_⟩
    · obtain ⟨e1,h1,rfl⟩:=List.mem_map.mp hd
      obtain ⟨e0,h0,rfl⟩:=List.mem_map.mp (tf.perm.mem_iff.mp h1)
      obtain ⟨q1,q2⟩:=ok_en ((okT_it hs).2 (enD e0) (List.mem_map_of_mem h0))
      exact ok_en' (ok_ct q1 (by show (turnL 0 e0.1 o).length≤5; rw [turn_len]; omega) fun f hf=>turn_mem (d:=0) (fun k hk=>by rw [(R.each e0 h0).1]; exact ok.lt k hk) hf) q2
    · obtain ⟨es'',tf2,rfl⟩:=h'
      rw [TurnF.back R hr ok tf tf2]
theorem door_uniq {wy n:Nat} {t D1 D2:PyData} {Res:List Nat→PyData→Prop} {o:List Nat} (dr:Door wy t n Res) (h1:Res o D1) (h2:Res o D2):D1=D2:=by
  cases dr with
  | d0 _ _=>exact Eq.trans h1 (Eq.symm h2)
  | d1 _ _ _ _=>exact Eq.trans h1 (Eq.symm h2)
  | d2 _ _ _=>exact Eq.trans h1 (Eq.symm h2)
  | d3 _ _ _ _ =>
    obtain ⟨e1,t1,rfl⟩:=h1
    obtain ⟨e2,t2,rfl⟩:=h2
    rw [t1.uniq t2]
theorem door_shw {wy n:Nat} {t:PyData} {Res:List Nat→PyData→Prop} (dr:Door wy t n Res):ShwD (toldD t):=by
  have key:∀ ws:List Nat,okT ws t=true→ws.length≤10→wW ws≤4000000→ShwD (toldD t):=fun ws h hl hw=>by
    have a:=okT_f h
    refine shw_of (k:=20) (W:=4000200) ⟨?_,?_,?_,?_,?_⟩ (by decide) (by decide)
    · show (true&&(PyData.showable t&&true))=true; rw [a.sh]; rfl
    · show (false || (PyData.hasDict t || false))=false; rw [a.nd]; rfl
    · show (PyData.canLay0 (.str "told")&&(PyData.canLay0 t&&true))=true
      rw [a.lay,show PyData.canLay0 (.str "told")=true by decide +kernel]; rfl
    · show max (PyData.depth (.str "told")) (max (PyData.depth t) 0)+1≤20
      have h1:PyData.depth (.str "told")≤2:=by simp [PyData.depth]
      have:=a.dp
      omega
    · show (reprText "told").length+2+(shW t+2+0)+4≤_
      have h1:(reprText "told").length≤100:=by decide +kernel
      have:=a.wd
      omega
  cases dr with
  | d0 _ hs=>exact key _ hs (by decide) (by decide)
  | d1 _ _ _ hs=>exact key _ hs (by decide) (by decide)
  | d2 _ _ hs=>exact key _ hs (by decide) (by decide)
  | d3 _ _ hs _=>exact key _ hs (by decide) (by decide)
end Kw
set_option linter.all false
namespace Mf
section
variable (F:Nat) (G:List Int→Int)
end
section
variable {F:Nat} {G:List Int→Int} {ks:List (List Int)}
end
end Mf
set_option Elab.async false
set_option linter.all false
set_option maxRecDepth 100000
namespace Kw
open PySem L2 Mf
theorem lens_all:(∀ m≤4,((List.range (m+1)).flatMap (allC 2)).length≤20)∧(∀ m≤3,((List.range (m+1)).flatMap (allC 3)).length≤20)∧(∀ m≤2,((List.range (m+1)).flatMap (allC 4)).length≤20):=by decide
theorem RuOk.few {F W M:Nat} {es:List Ent} (R:RuOk F W M es) (Z:SzOk F W M):es.length≤20:=by
  have h1:=nodup_len R.nd (m:=(List.range (M+1)).flatMap (allC F)) fun c hc=>by
    obtain ⟨e,he,rfl⟩:=List.mem_map.mp hc
    obtain ⟨h1,h2,h3,_⟩:=R.each e he
    have:=nn_sum h2
    exact List.mem_flatMap.mpr ⟨e.1.sum.toNat,List.mem_range.mpr (by omega),allC_mem h1 h2 (by omega)⟩
  rw [List.length_map] at h1
  obtain ⟨l2,l3,l4⟩:=lens_all
  rcases Z.f with ⟨rfl,hM⟩ | ⟨rfl,hM⟩ | ⟨rfl,hM⟩
  · exact Nat.le_trans h1 (l2 M (by omega))
  · exact Nat.le_trans h1 (l3 M (by omega))
  · exact Nat.le_trans h1 (l4 M (by omega))
theorem le_sum27:∀ {c:List Int},(∀ x∈c,0≤x)→∀ {x:Int},x∈c→x≤c.sum
  | [],_,x,h=>by cases h
  | a::c,h,x,m=>by
    have h1:=nn_sum fun x hx=>h x (List.mem_cons_of_mem a hx)
    have h2:=h a (List.mem_cons_self ..)
    rw [List.sum_cons]
    rcases List.mem_cons.mp m with rfl | m
    · omega
    · have:=le_sum27 (fun x hx=>h x (List.mem_cons_of_mem _ hx)) m
      omega
def MkF (σ:St) (t:TE) (d:PyData):Prop:=∀ (H:Hp) (Q:VK),(∀ v H',Same H H'→Rep H' d v→Q v H')→t σ H Q
def MkG (σ:St) (t:TA) (ds:List PyData):Prop:=∀ (H:Hp) (Q:List V→Hp→Prop),(∀ vs H',Same H H'→RepL H' ds vs→Q vs H')→t σ H Q
section
variable {K:PySem.W.Frag} {σ:St} {t t':TE} {ta:TA} {d:PyData} {ds es:List PyData}
theorem mf_int {i:Int}:MkF σ (tC (.int i)) (.int i):=fun H Q k=>k _ H (Same.refl H) (Rep.int i)
theorem mf_str {i:Str}:MkF σ (tC (.str i)) (.str i):=fun H Q k=>k _ H (Same.refl H) (Rep.str i)
theorem mf_non:MkF σ (tC .non) .none:=fun H Q k=>k _ H (Same.refl H) Rep.non
theorem mf_neg {i:Int}:MkF σ (tUn (rU fun i=>.int (-i)) (tC (.int i))) (.int (-i)):=fun H Q k=>⟨i,rfl,k _ H (Same.refl H) (Rep.int (-i))⟩
theorem mf_nil:MkG σ tNil []:=fun H Q k=>k _ H (Same.refl H) RepL.nil
theorem mf_cons (h:MkF σ t d) (hs:MkG σ ta ds):MkG σ (tCons t ta) (d::ds):=fun H Q k =>
  h H _ fun v H1 s1 r1=>hs H1 _ fun vs H2 s2 r2=>k _ H2 (s1.trans s2) (RepL.cons (r1.same s2) r2)
theorem mf_tup (h:MkG σ ta ds) (hz:ds.length≤64):MkF σ (tTu ta) (.tuple ds):=fun H Q k =>
  h H _ fun vs H1 s1 r1=>nwT (by rw [r1.len]; exact hz) fun q H2 hq e2 s2=>k _ H2 (s1.trans s2) (Rep.tup e2 (r1.same s2))
theorem mf_lst (h:MkG σ ta ds) (hz:ds.length≤64):MkF σ (tLs ta) (.list ds):=fun H Q k =>
  h H _ fun vs H1 s1 r1=>nwL (by rw [r1.len]; exact hz) fun q H2 hq e2 s2=>k _ H2 (s1.trans s2) (Rep.lst e2 (r1.same s2))
theorem MkF.use {H:Hp} {Q:VK} (m:MkF σ t d) (k:∀ v H',Same H H'→Rep H' d v→Q v H'):t σ H Q:=m H Q k
end
theorem mf_bl {σ:St} {i:Bool}:MkF σ (tC (.bl i)) (.bool i):=fun H Q k=>k _ H (Same.refl H) (Rep.bl i)
theorem orD_inj {o o':List Nat} (h:orD o=orD o'):o=o':=by
  have h:PyData.tuple ((iO o).map .int)=.tuple ((iO o').map .int):=h
  injection h with h
  have e:(((iO o).map PyData.int).map intOf).map Int.toNat=(((iO o').map PyData.int).map intOf).map Int.toNat:=by rw [h]
  rw [ints_of27,ints_of27,io_nat,io_nat] at e
  exact e
theorem told_shaped (o:List Nat):SeqAt.shaped (toldD (orD o))=true:=(Shp.tup (n:=3) fun d hd=>by
  simp only [List.mem_cons,List.not_mem_nil,or_false] at hd
  rcases hd with rfl | rfl
  · exact ⟨by decide +kernel,by simp [PyData.depth]⟩
  · exact Shp.tup (n:=2) fun d hd=>by
      obtain ⟨z,_,rfl⟩:=List.mem_map.mp hd
      exact (Shp.int z).up (by decide)).ok
theorem told_nd (o:List Nat):(toldD (orD o)).hasDict=false:=by
  show (false || (PyData.hasDictAll ((iO o).map PyData.int) || false))=false
  rw [li_dict]; rfl
theorem und_ok {n:Nat} {o:List Nat} (h:OrdOk n o) (h2:2≤n):undB (orD o)=true:=by
  have lo:=h.len
  show (!((iO o).map PyData.int).isEmpty&&ordB ((iO o).map PyData.int).length (orD o))=true
  rw [List.length_map,List.length_map,lo,ord_ok h]
  cases o with
  | nil=>rw [List.length_nil] at lo; omega
  | cons a o=>rfl
theorem und_ok' {n:Nat} {o:List Nat} (h:OrdOk n o) (h2:o≠[]):undB (orD o)=true:=by
  have lo:=h.len
  show (!((iO o).map PyData.int).isEmpty&&ordB ((iO o).map PyData.int).length (orD o))=true
  rw [List.length_map,List.length_map,lo,ord_ok h]
  cases o with
  | nil=>exact absurd rfl h2
  | cons a o=>rfl
def fixD:List PyData:=[.tuple [.int 0,.int 0],.list [.int 0,.int 1],.tuple [.int 1,.int 2],.tuple [.bool true,.bool false],.none,.tuple [.int 0,.int 2],.str (Str.ofString "0"),.tuple [.int 0,.int (-1)],.tuple [.none]]++[.tuple [.tuple [.int 0]],.int 0]
theorem fix_ok:fixD.all (fun d=>!undB d&&match d with | .tuple ds=>decide (ds.length≤4) && !ds.isEmpty | _=>true)=true:=by decide +kernel
theorem fix_no (d:PyData) (h:d∈fixD):undB d=false∧∀ ds,d=.tuple ds→ds.length≤4:=by
  have:=List.all_eq_true.mp fix_ok d h
  rw [Bool.and_eq_true] at this
  refine ⟨by simpa using this.1,fun ds e=>?_⟩
  subst e
  have h2:(decide (ds.length≤4) && !ds.isEmpty)=true:=this.2
  rw [Bool.and_eq_true] at h2
  exact of_decide_eq_true h2.1
theorem fix_ne (d:PyData) (h:d∈fixD):d ≠ .tuple []:=fun e=>by
  have:=List.all_eq_true.mp fix_ok d h
  rw [Bool.and_eq_true] at this
  subst e
  exact absurd this.2 (by decide)
theorem door_flat {wy n:Nat} {t:PyData} {Res:List Nat→PyData→Prop} (dr:Door wy t n Res):flatD t=true:=by
  cases dr with
  | d0 _ _=>exact trD_flat _ _
  | d1 _ _ _ _=>exact trD_flat _ _
  | d2 _ _ _=>exact ens_flat _
  | d3 _ _ _ _=>exact ens_flat _
theorem told_flat {d:PyData} (h:flatD d=true):flatD (toldD d)=true:=by
  show (flatD (.str "told")&&(flatD d&&true))=true
  rw [h]; rfl
def ButS (S:List Addr) (H H':Hp):Prop:=∀ b o,b ∉ S→H b=some o→H' b=some o
theorem ButS.but {S:List Addr} {p:Addr} {H H1 H2:Hp} (h:ButS S H H1) (hp:p∈S) (b:SameBut p H1 H2):ButS S H H2:=fun a o n e=>b.at (fun z=>n (by rw [z]; exact hp)) (h a o n e)
theorem ButS.same {S:List Addr} {H H1 H2:Hp} (h:ButS S H H1) (b:Same H1 H2):ButS S H H2:=fun a o n e=>b _ _ (h a o n e)
theorem tab_t {H H':Hp} {P:Addr} {q:Str} {pos:Pos} (t:TabOk H P q pos) (b:SameBut P H H'):SameT H H':=by
  obtain ⟨ps,hps⟩:=t.at_
  exact fun a us ha=>b.at (fun z=>by rw [z,hps] at ha; cases ha) ha
theorem tab_oth {H H':Hp} {P P':Addr} {q q':Str} {pos pos':Pos} (t:TabOk H P q pos) (t':TabOk H P' q' pos') (n:P≠P') (b:SameBut P' H H'):TabOk H' P q pos:=by
  obtain ⟨ps,hps⟩:=t'.at_
  exact ⟨t.ex.elim (fun h=>.inl (b.at n h)) fun ⟨c',h1,h2⟩=>.inr ⟨c',b.at n h1,b.at (fun z=>by rw [z,hps] at h2; cases h2) h2⟩⟩
theorem tab_tape {H H':Hp} {p P:Addr} {n:Nat} {q:Str} {pos:Pos} (b:SameBut p H H') (hp:TapeAt H p n) (t:TabOk H P q pos):TabOk H' P q pos:=by
  obtain ⟨c,l,tt,h,_⟩:=hp.ex
  exact ⟨t.ex.elim (fun h'=>.inl (b.at (fun z=>by rw [z,h] at h'; cases h') h')) fun ⟨c',h1,h2⟩=>.inr ⟨c',b.at (fun z=>by rw [z,h] at h1; cases h1) h1,b.at (fun z=>by rw [z,h] at h2; cases h2) h2⟩⟩
theorem TapeAt.tab {H H':Hp} {p P:Addr} {n:Nat} {q:Str} {pos:Pos} (b:SameBut P H H') (hp:TapeAt H p n) (t:TabOk H P q pos):TapeAt H' p n:=by
  obtain ⟨c,l,tt,h,rest⟩:=hp.ex
  refine ⟨c,l,tt,b.at (fun z=>?_) h,rest⟩
  rcases t.ex with h' | ⟨c',h',_⟩
  · rw [← z,h] at h'; cases h'
  · rw [← z,h] at h'; cases h'
theorem nm_ok:(∀ x∈nmF,okS (.str x)=true)∧∀ x∈nmW,okS (.str x)=true:=by decide +kernel
theorem sy_ok27 {n w:Nat} {sy:List Fr} (hn:n≤w) (h5:n≤5) (h:SyOk n sy):okT [w,2] (shD sy)=true:=okT_tup (by rw [List.length_map,h.len]; exact hn) fun d hd=>by
  obtain ⟨f,hf,rfl⟩:=List.mem_map.mp hd
  obtain ⟨ns,h1,h2,h3,rfl⟩:=h.ex
  obtain ⟨x,hx,rfl⟩:=List.mem_map.mp hf
  have h4:=sum_le7 h2
  rw [h1] at h4
  have hx2:=h2 x hx
  have hg:(0:Int)<(Int.gcd x ns.sum:Int):=by
    have:=Int.gcd_pos_of_ne_zero_right x (show ns.sum≠0 by omega)
    omega
  have a1:(lw x ns.sum).1≤x:=by unfold lw; exact Int.ediv_le_self _ (by omega)
  have a2:0≤(lw x ns.sum).1:=by unfold lw; exact Int.ediv_nonneg (by omega) (by omega)
  have a3:(lw x ns.sum).2≤ns.sum:=by unfold lw; exact Int.ediv_le_self _ (by omega)
  have a4:0≤(lw x ns.sum).2:=by unfold lw; exact Int.ediv_nonneg (by omega) (by omega)
  refine okT_tup (by show 2≤2; decide) fun d hd=>?_
  simp only [List.mem_cons,List.not_mem_nil,or_false] at hd
  rcases hd with rfl | rfl
  · exact decide_eq_true (Nat.lt_of_le_of_lt (show (lw x ns.sum).1.natAbs≤100 by omega) (by decide))
  · exact decide_eq_true (Nat.lt_of_le_of_lt (show (lw x ns.sum).2.natAbs≤100 by omega) (by decide))
theorem tr_ok27 {F W:Nat} {fs:List Str} {ws:List (Str × List Fr)} (TR:TrT F W fs ws) (f4:F≤4) (w4:W≤4):okT [2,4,2,4,2] (trD fs ws)=true:=by
  refine ok_tr' (okT_tup (by rw [List.length_map,TR.f]; exact f4) fun d hd=>?_) (okT_tup (by rw [List.length_map,TR.w]; exact w4) fun d hd=>?_)
  · obtain ⟨x,hx,rfl⟩:=List.mem_map.mp hd
    exact okT_sc (nm_ok.1 x (TR.nf x hx))
  · obtain ⟨x,hx,rfl⟩:=List.mem_map.mp hd
    refine okT_tup (by show 2≤2; decide) fun d hd=>?_
    simp only [List.mem_cons,List.not_mem_nil,or_false] at hd
    rcases hd with rfl | rfl
    · exact okT_sc (nm_ok.2 x.1 (TR.nw x hx))
    · exact sy_ok27 f4 (by omega) (TR.sh x hx)
theorem ru_ok27 {F W M:Nat} {es:List Ent} (R:RuOk F W M es) (Z:SzOk F W M):okT [50,2,5,2] (ruD es)=true:=by
  have few:=R.few Z
  refine okT_tup (by rw [List.length_map]; omega) fun d hd=>?_
  obtain ⟨e,he,rfl⟩:=List.mem_map.mp hd
  obtain ⟨r1,r2,r3,r4⟩:=R.each e he
  have hF:F≤4∧M≤4:=by have:=Z.f; omega
  have hW:=Z.w
  refine ok_en' (okT_tup (by rw [List.length_map]; omega) fun d hd=>?_) (sy_ok27 (by omega) (by omega) r4)
  obtain ⟨x,hx,rfl⟩:=List.mem_map.mp hd
  have h1:=r2 x hx
  have h2:x≤e.1.sum:=le_sum27 r2 hx
  exact okT_sc (decide_eq_true (Nat.lt_of_le_of_lt (show x.natAbs≤4 by omega) (by decide)))
theorem doors_of {F W M:Nat} {fs:List Str} {ws:List (Str × List Fr)} {es:List Ent} {i:Nat} (TR:TrT F W fs ws) (R:RuOk F W M es) (Z:SzOk F W M) (hi:i<4) (tv rv:V):∃ (n:Nat) (x:V) (t:PyData) (Res:List Nat→PyData→Prop),([V.int (W:Int),V.int (F:Int)]:List V)[i % 2]?=some (.int (n:Int))∧([tv,rv]:List V)[i / 2]?=some x∧Door i t n Res∧flatD t=true∧(∀ H,Rep H (trD fs ws) tv→Rep H (ruD es) rv→Rep H t x)∧2≤n∧n≤4:=by
  have hF:2≤F∧F≤4:=by have:=Z.f; omega
  have hW:=Z.w
  have few:=R.few Z
  have RN:RuN F W es:=⟨R.ne,R.nd,fun e he=>⟨(R.each e he).1,(R.each e he).2.2.2.len⟩,by omega⟩
  have ot:=tr_ok27 TR hF.2 hW.2
  have or':=ru_ok27 R Z
  have ef:=TR.f
  have ew:=TR.w
  rcases (show i=0∨i=1∨i=2∨i=3 by omega) with rfl | rfl | rfl | rfl
  · exact ⟨_,_,_,_,by rw [← ew]; rfl,rfl,.d0 (by omega) ot,trD_flat fs ws,fun H h _=>h,by omega,by omega⟩
  · exact ⟨_,_,_,_,by rw [← ef]; rfl,rfl,.d1 (by omega) (fun w hw=>by rw [(TR.sh w hw).len,ef]) (by omega) ot,trD_flat fs ws,fun H h _=>h,by omega,by omega⟩
  · exact ⟨_,_,_,_,rfl,rfl,.d2 RN hW.2 or',ens_flat es,fun H _ h=>h,hW⟩
  · exact ⟨_,_,_,_,rfl,rfl,.d3 RN hF.2 or' R.rise,ens_flat es,fun H _ h=>h,hF⟩
@[irreducible] def sp_lawT (K:PySem.W.Frag) (tA tB:Addr):Sp:=fun vs H Q _=>∃ (a:Addr) (ns:List Int),vs=[.ref a]∧SqL K H a (ns.map V.int)∧ns.length≤63∧TabOk H tA lamQ lamP∧TabOk H tB dueQ dueP∧tA≠tB∧∀ H',Q (.bl true) H'
theorem SqL.butS {K:PySem.W.Frag} {H H':Hp} {S:List Addr} {a:Addr} {xs:List V} (b:ButS S H H') (hS:∀ p∈S,∃ ps,H p=some (.tbl ps)) (h:SqL K H a xs):SqL K H' a xs:=by
  have ne:∀ {o:HO},H a=some o→(∀ ps,o ≠ .tbl ps)→a ∉ S:=fun {o} h n q=>by
    obtain ⟨ps,hp⟩:=hS a q
    rw [h] at hp
    injection hp with hp
    exact n _ hp
  rcases h with (h | ⟨o,h⟩) | h
  · exact .inl (.inl (b _ _ (ne h fun _ z=>by cases z) h))
  · exact .inl (.inr ⟨o,b _ _ (ne h fun _ z=>by cases z) h⟩)
  · exact .inr h
section
variable {P:Program} {w:World} {K:PySem.W.Frag} {mg:Str→Option Value} {base:Heap} {c:Cl}
set_option maxHeartbeats 16000000 in
theorem ok_law {f tA tB:Addr} {fd:FuncData} (F:Fun K "law" "law" s_law f fd) (T:Txt K mg c)
    (F__law_tape:FnC CX0 P w K mg base 1 "_law_tape" ["_law_script", "_law_at"] (sp_tape K)) (F__law_sizes:FnC CX0 P w K mg base 2 "_law_sizes" ["_law_tape_here"] sp_sizes) (F__law_trial:FnC CX0 P w K mg base 3 "_law_trial" ["_law_tape_here", "_law_faces", "_law_ways"] sp_ltrial) (F__law_rule:FnC CX0 P w K mg base 4 "_law_rule" ["_law_tape_here", "_law_faces", "_law_ways", "_law_most", "_law_plain"] sp_rule) (F__law_pick:FnC CX0 P w K mg base 1 "_law_pick" ["_law_tape_here", "_law_many"] sp_pick) (F__law_order:FnC CX0 P w K mg base 2 "_law_order" ["_law_tape_here", "_law_many"] sp_lorder) (F__law_told:FnC CX0 P w K mg base 9 "_law_told" ["_law_way", "_law_thing", "_law_order_here"] (sp_told tA)) (F__law_due:FnC CX0 P w K mg base 8 "_law_due" ["_law_way", "_law_thing", "_law_order_here"] (sp_due tB)) (F__law_undone:FnC CX0 P w K mg base 5 "_law_undone" ["_law_order_here"] sp_lundone) (F__law_bent:FnC CX0 P w K mg base 2 "_law_bent" ["_law_tape_here", "_law_order_here"] sp_lbent):FnOk P w K mg base CX0 10 f fd ["_law_script"] (sp_lawT K tA tB):=by
  refine F.okw sc_law (fun vs H Q E h=>?_) (fun cdv A outer s H vs Q E hr h=>?_)
  · unfold sp_lawT at h
    obtain ⟨a,ns,rfl,_⟩:=h
    rfl
  · unfold sp_lawT at h
    obtain ⟨a,ns,rfl,hS,hl,TA0,TB0,nAB,k⟩:=h
    refine ⟨_,(wss_cons (ws_for PassesOwn.never rfl (wi_range1 rfl T.b_range (wa_k (we_op op_add we_int (we_cB cl_len (by rfl) T.b_len (by decide +kernel) (wa_k (we_slice sl_list (we_v 0) wo_none (wo_some we_int)) wa_nil))) wa_nil)) (wg_name (i:=1) sc_law.nd rfl (Or.inl rfl)) (wss_cons (ws_set (i:=2) sc_law.nd rfl (Or.inl rfl) (we_fn F__law_tape (hr.mono (by decide)) (wa_k (we_v 0) (wa_k (we_v 1) wa_nil))))
      (wss_cons (ws_asg (we_fn F__law_sizes (hr.mono (by decide)) (wa_k (we_v 2) wa_nil)) (wg_tup rfl (wgs_cons (wg_name (i:=3) sc_law.nd rfl (Or.inl rfl)) (wgs_cons (wg_name (i:=4) sc_law.nd rfl (Or.inl rfl)) (wgs_cons (wg_name (i:=5) sc_law.nd rfl (Or.inl rfl)) wgs_nil)))))
      (wss_cons (ws_set (i:=6) sc_law.nd rfl (Or.inl rfl) (we_fn F__law_trial (hr.mono (by decide)) (wa_k (we_v 2) (wa_k (we_v 3) (wa_k (we_v 4) wa_nil)))))
      (wss_cons (ws_set (i:=7) sc_law.nd rfl (Or.inl rfl) (we_fn F__law_rule (hr.mono (by decide)) (wa_k (we_v 2) (wa_k (we_v 3) (wa_k (we_v 4) (wa_k (we_v 5) (wa_k (we_cmp op_eq (we_fn F__law_pick (hr.mono (by decide)) (wa_k (we_v 2) (wa_k we_int wa_nil))) we_int (nomark _)) wa_nil)))))))
      (wss_one (ws_for PassesOwn.never rfl (wi_range1 rfl T.b_range (wa_k we_int wa_nil)) (wg_name (i:=8) sc_law.nd rfl (Or.inl rfl)) (wss_cons (ws_set (i:=9) sc_law.nd rfl (Or.inl rfl) (we_ix ix_seq (we_lst (wa_k (we_v 4) (wa_k (we_v 3) wa_nil))) (we_op op_mod (we_v 8) we_int) (fun _ _=>rfl)))
      (wss_cons (ws_set (i:=10) sc_law.nd rfl (Or.inr rfl) (we_fn F__law_order (hr.mono (by decide)) (wa_k (we_v 2) (wa_k (we_v 9) wa_nil))))
      (wss_cons (ws_set (i:=11) sc_law.nd rfl (Or.inl rfl) (we_ix ix_seq (we_lst (wa_k (we_v 6) (wa_k (we_v 7) wa_nil))) (we_op op_fdivB (we_v 8) we_int) (fun _ _=>rfl)))
      (wss_cons (ws_set (i:=12) sc_law.nd rfl (Or.inl rfl) (we_cT call_tuple_of (by rfl) T.b_tuple (by decide +kernel) (wa_k (we_comp (CScope.of (psc:=defScope s_law) (N:=["_law_script", "_law_k", "_law_tape_here", "_law_faces", "_law_ways", "_law_most", "_law_trial_here", "_law_rule_here", "_law_way", "_law_many", "_law_order_here", "_law_thing", "_law_back", "_law_found", "_law_due_here", "_law_bent_here", "_law_fixed"]) (N':=["_law_one", "_law_order_here"]) (js:=[10]) (by decide +kernel) rfl rfl rfl) (wi_range1 rfl T.b_range (wa_k (we_v 9) wa_nil)) (fun _ _ _ _=>wts_nil) (fun _ _ _ _=>(we_bmK K PySem.F.plainAttrs_tuple PySem.F.slot_tuple_index PySem.F.type_tuple_index (mt_idxTI hr.units) (we_v 1) (wa_k (we_v 0) wa_nil)))) wa_nil)))
      (wss_cons (ws_set (i:=13) sc_law.nd rfl (Or.inl rfl) (we_fn F__law_told (hr.mono (by decide)) (wa_k (we_v 8) (wa_k (we_v 11) (wa_k (we_v 10) wa_nil)))))
      (wss_cons (ws_set (i:=14) sc_law.nd rfl (Or.inl rfl) (we_tup (wa_k we_str (wa_k (we_fn F__law_due (hr.mono (by decide)) (wa_k (we_v 8) (wa_k (we_v 11) (wa_k (we_v 10) wa_nil)))) wa_nil))))
      (wss_cons (ws_if (wt_mono (wt_w (ww_or (wt_cmp op_ne (we_cB (cl_repr hr.gd hr.units) (by rfl) T.b_repr (by decide +kernel) (wa_k (we_v 13) wa_nil)) (we_cB (cl_repr hr.gd hr.units) (by rfl) T.b_repr (by decide +kernel) (wa_k (we_v 14) wa_nil)) (nomark _)) (ww_or1 (wt_cmp (op_neD hr.units) (we_fn F__law_undone (hr.mono (by decide)) (wa_k (we_v 10) wa_nil)) (we_tup (wa_k we_str (wa_k (we_v 12) wa_nil))) (nomark _)))))) (wss_one (ws_ret we_bl)) wss_nil)
      (wss_cons (ws_if (wt_cmp op_ne (we_cB (cl_repr hr.gd hr.units) (by rfl) T.b_repr (by decide +kernel) (wa_k (we_fn F__law_told (hr.mono (by decide)) (wa_k (we_v 8) (wa_k (we_ix ix_seq (we_v 13) we_int (fun _ _=>rfl)) (wa_k (we_v 12) wa_nil)))) wa_nil)) (we_cB (cl_repr hr.gd hr.units) (by rfl) T.b_repr (by decide +kernel) (wa_k (we_tup (wa_k we_str (wa_k (we_v 11) wa_nil))) wa_nil)) (nomark _)) (wss_one (ws_ret we_bl)) wss_nil)
      (wss_cons (ws_set (i:=15) sc_law.nd rfl (Or.inl rfl) (we_fn F__law_bent (hr.mono (by decide)) (wa_k (we_v 2) (wa_k (we_v 10) wa_nil))))
      (wss_one (ws_if (wt_cmp (op_neD hr.units) (we_fn F__law_told (hr.mono (by decide)) (wa_k (we_v 8) (wa_k (we_v 11) (wa_k (we_v 15) wa_nil)))) (we_tup (wa_k we_str wa_nil)) (nomark _)) (wss_one (ws_ret we_bl)) wss_nil))))))))))))))))))
      (wss_cons (ws_set (i:=16) sc_law.nd rfl (Or.inl rfl) (we_lst (wa_k (we_tup (wa_k we_int (wa_k we_int wa_nil))) (wa_k (we_lst (wa_k we_int (wa_k we_int wa_nil))) (wa_k (we_tup (wa_k we_int (wa_k we_int wa_nil))) (wa_k (we_tup (wa_k we_bl (wa_k we_bl wa_nil))) (wa_k we_non (wa_k (we_tup (wa_k we_int (wa_k we_int wa_nil))) (wa_k we_str (wa_k (we_tup (wa_k we_int (wa_k (we_un un_neg we_int) wa_nil))) (wa_k (we_tup (wa_k we_non wa_nil)) wa_nil)))))))))))
      (wss_cons (ws_for PassesOwn.never rfl (wi_list (we_op op_cat (we_v 16) (we_lst (wa_k (we_tup (wa_k (we_tup (wa_k we_int wa_nil)) wa_nil)) (wa_k we_int wa_nil))))) (wg_name (i:=11) sc_law.nd rfl (Or.inl rfl)) (wss_one (ws_if (wt_cmp (op_neD hr.units) (we_fn F__law_undone (hr.mono (by decide)) (wa_k (we_v 11) wa_nil)) (we_tup (wa_k we_str wa_nil)) (nomark _)) (wss_one (ws_ret we_bl)) wss_nil)))
      (wss_one (ws_ret (we_and (we_cmp (op_eqD hr.units) (we_fn F__law_undone (hr.mono (by decide)) (wa_k (we_tup (wa_k we_int wa_nil)) wa_nil)) (we_tup (wa_k we_str (wa_k (we_tup (wa_k we_int wa_nil)) wa_nil))) (nomark _)) (we_one (we_cmp (op_eqD hr.units) (we_fn F__law_undone (hr.mono (by decide)) (wa_k (we_tup (wa_k we_int (wa_k we_int (wa_k we_int wa_nil)))) wa_nil)) (we_tup (wa_k we_str (wa_k (we_tup (wa_k we_int (wa_k we_int (wa_k we_int wa_nil)))) wa_nil))) (nomark _))))))))),?_⟩
    refine ⟨_,rfl,_,rfl,a,_,rfl,hS,fun q1 h1=>?_⟩
    refine rlL upd_same ?_
    have s1:=Same.upd (o:=.lst (cutV (ns.map V.int) none (some 9))) h1
    have l19:(cutV (ns.map V.int) none (some 9)).length≤63:=by
      rw [show (some (9:Int))=some ((9:Nat):Int) from rfl,cutV_hi,List.length_take,List.length_map]; omega
    generalize upd H q1 (.lst (cutV (ns.map V.int) none (some 9)))=H0 at s1
    generalize (cutV (ns.map V.int) none (some 9)).length=n0 at l19
    refine ⟨_,_,rfl,rfl,_,rfl,by omega,by omega,?_⟩
    have hTS:∀ p∈[tA,tB],∃ ps,H p=some (.tbl ps):=fun p hp=>by
      simp only [List.mem_cons,List.not_mem_nil,or_false] at hp
      rcases hp with rfl | rfl
      · exact TA0.at_
      · exact TB0.at_
    refine for_range (fun i σ H'=>∃ o1 o2 o3 o4 o5 o6 o7 o8 o9 o10 o11 o12 o13 o14 o15:Option V,σ=[some (.ref a),o1,o2,o3,o4,o5,o6,o7,o8,o9,o10,o11,o12,o13,o14,o15,none]∧ButS [tA,tB] H H'∧TabOk H' tA lamQ lamP∧TabOk H' tB dueQ dueP) ⟨_,_,_,_,_,_,_,_,_,_,_,_,_,_,_,rfl,fun b o _ e=>s1 _ _ e,TA0.same s1,TB0.same s1⟩ ?_ ?_
    · rintro i σ H1 hi ⟨o1,o2,o3,o4,o5,o6,o7,o8,o9,o10,o11,o12,o13,o14,o15,rfl,S1,TA1,TB1⟩
      refine ⟨_,rfl,_,rfl,?_⟩
      refine sp_tape_i (SqL.butS S1 hTS hS) hl (by omega) fun p H2 T2 s2 hp2=>?_
      refine ⟨_,rfl,?_⟩
      refine sp_sizes_i (n:=999999999997) (T2.less (by omega)) fun q3 nF nW nM H3 Z T3 b3 e3=>?_
      have hF:2≤nF∧nF≤4:=by have:=Z.f; omega
      have hW:=Z.w
      refine ⟨q3,_,rfl,SqT.of e3,rfl,?_⟩
      refine ⟨_,_,rfl,_,_,rfl,_,_,rfl,rfl,?_⟩
      refine ⟨_,rfl,_,rfl,_,rfl,?_⟩
      refine sp_ltrial_i (n:=999999999000) (T3.less (by omega)) hF.1 hF.2 hW.1 hW.2 fun tv fs ws H4 T4 b4 r4 TR=>?_
      refine ⟨_,rfl,_,rfl,_,rfl,_,rfl,_,rfl,?_⟩
      refine sp_pick_i (n:=999999998000) (T4.less (by omega)) (by decide) (by decide +kernel) fun x H5 x0 x1 T5 b5=>?_
      refine ⟨rfl,?_⟩
      refine sp_rule_i (n:=1000000) (T5.less (by omega)) Z fun rv es H6 T6 b6 r6 RO=>?_
      have b26:SameBut p H2 H6:=((b3.trans b4).trans b5).trans b6
      have B6:ButS [p,tA,tB] H2 H6:=fun b o n e=>b26.at (fun z=>n (by rw [z]; simp)) e
      have TA6:=tab_tape b26 T2 (TA1.same s2)
      have TB6:=tab_tape b26 T2 (TB1.same s2)
      have r46:Rep H6 (trD fs ws) tv:=(r4.flat (T4.t b5) (trD_flat fs ws)).flat (T5.t b6) (trD_flat fs ws)
      refine ⟨_,rfl,by omega,by omega,?_⟩
      refine for_range (fun j σ H'=>∃ o8 o9 o10 o11 o12 o13 o14 o15:Option V,σ=[some (.ref a),some (.int (0+(i:Int))),some (.ref p),some (.int (nF:Int)),some (.int (nW:Int)),some (.int (nM:Int)),some tv,some rv,o8,o9,o10,o11,o12,o13,o14,o15,none]∧TapeAt H' p (1000000 - 100*j)∧ButS [p,tA,tB] H2 H'∧TabOk H' tA lamQ lamP∧TabOk H' tB dueQ dueP∧Rep H' (trD fs ws) tv∧Rep H' (ruD es) rv)
        ⟨_,_,_,_,_,_,_,_,rfl,T6.less (by omega),B6,TA6,TB6,r46,r6⟩ ?_ ?_
      · rintro j σ H7 hj ⟨o8,o9,o10,o11,o12,o13,o14,o15,rfl,T7,B7,TA7,TB7,rt7,rr7⟩
        have hj4:j<4:=hj
        obtain ⟨n,x,t,Res,g1,g2,dr,ft,rx,n2,n4⟩:=doors_of (i:=j) TR RO Z hj4 tv rv
        rw [show (0:Int)+(j:Int)=(j:Int) from Int.zero_add _]
        refine ⟨_,rfl,_,rfl,?_⟩
        refine nwL (by show 2≤64; decide) fun c8 H8 hc8 e8 s8=>?_
        refine ⟨_,rfl,_,_,rfl,rfl,by show (0:Int)<2; decide,?_⟩
        refine ixL e8 (by rw [show (j:Int) % 2=((j % 2:Nat):Int) by omega]; exact atI_nat g1) ?_
        refine ⟨_,rfl,_,rfl,?_⟩
        have T8:=T7.same s8
        refine sp_lorder_i (n:=1000000 - 100*j - 64) (T8.less (by omega)) n4 fun ob o H9 T9 b9 e9 ok=>?_
        have lo:=ok.len
        have B9:=(B7.same s8).but (by simp) b9
        have TA9:=tab_tape b9 T8 (TA7.same s8)
        have TB9:=tab_tape b9 T8 (TB7.same s8)
        have rt9:Rep H9 (trD fs ws) tv:=(rt7.same s8).flat (T8.t b9) (trD_flat fs ws)
        have rr9:Rep H9 (ruD es) rv:=(rr7.same s8).flat (T8.t b9) (show flatD (ruD es)=true from ens_flat es)
        refine ⟨_,rfl,_,rfl,?_⟩
        refine nwL (by show 2≤64; decide) fun c10 H10 hc10 e10 s10=>?_
        refine ⟨_,rfl,_,_,rfl,rfl,⟨by omega,by decide⟩,?_⟩
        refine ixL e10 (by rw [show (j:Int) / 2=((j / 2:Nat):Int) by omega]; exact atI_nat g2) ?_
        have eo10:=s10 _ _ e9
        refine ⟨_,rfl,_,rfl,by omega,by omega,?_⟩
        rw [show ((n:Int)).toNat=n by omega]
        refine comp_mapR (fun i y _=>y=.int ((o.idxOf i:Nat):Int)) (fun _ _ _ _ _ h=>h) (by omega) (fun i H' Q' hi s' k'=>?_) (fun D11 ys H11 hD11 e11 s11 hy hr11=>?_)
        · refine ⟨_,rfl,.inr (.inl ⟨rfl,.inr ⟨_,s' _ _ eo10⟩⟩),_,rfl,?_⟩
          obtain ⟨g3,g4,g5⟩:=ord_idx ok (k:=i) (by omega)
          refine idxTI (s' _ _ eo10) (m:=0+(i:Int)) (j:=o.idxOf i) (by rw [List.getElem?_map,g4]; simp) (fun j hj ej=>?_) ?_
          · rw [List.getElem?_map] at ej
            obtain ⟨k,hk,ek⟩:=Option.map_eq_some_iff.mp ej
            exact g5 j hj (by rw [hk]; congr 1; omega)
          · exact k' _ H' (Same.refl _) rfl
        refine ⟨D11,_,rfl,.inl ⟨SqL.of e11,fun bk hbk=>?_⟩⟩
        have s12:=Same.upd (o:=.tup ys) hbk
        have e12:(upd H11 bk (.tup ys)) bk=some (.tup ((iO (undo o)).map V.int)):=by
          rw [upd_same]
          congr 2
          refine List.ext_getElem? fun i=>?_
          unfold undo
          by_cases hi:i<o.length
          · have:=hr11 i (ys[i]'(by omega)) (List.getElem?_eq_getElem _)
            rw [List.getElem?_eq_getElem (by omega),this,List.getElem?_map,List.getElem?_map,List.getElem?_map,List.getElem?_range hi]; rfl
          · rw [List.getElem?_eq_none (by omega),List.getElem?_eq_none (by rw [List.length_map,List.length_map,List.length_map,List.length_range]; omega)]
        generalize upd H11 bk (.tup ys)=H12 at s12 e12
        have s912:=(s10.trans s11).trans s12
        have TA12:=TA9.same s912
        have TB12:=TB9.same s912
        refine ⟨_,rfl,_,rfl,_,rfl,?_⟩
        refine sp_told_i dr (rx _ (rt9.same s912) (rr9.same s912)) (or_of (s912 _ _ e9)) TA12 (fun hO=>by rw [ord_ok ok] at hO; cases hO) fun o' eo ok' v13 D H13 b13 TA13 res r13=>?_
        obtain rfl:o=o':=orD_inj eo
        clear eo ok'
        have t13:=tab_t TA12 b13
        have TB13:=tab_oth TB12 TA12 nAB.symm b13
        have eo13:=t13 _ _ (s912 _ _ e9)
        have e13k:=t13 _ _ e12
        have rt13:=(rt9.same s912).flat t13 (trD_flat fs ws)
        have rr13:=(rr9.same s912).flat t13 (show flatD (ruD es)=true from ens_flat es)
        refine ⟨_,rfl,_,rfl,_,rfl,?_⟩
        refine sp_due_i dr (rx _ rt13 rr13) eo13 ok TB13 fun v14 D' H14 b14 TB14 res' r14=>?_
        obtain rfl:D=D':=door_uniq dr res res'
        obtain ⟨n',Res',en,dr',back⟩:=door_back dr ok res
        subst en
        have fD:flatD D=true:=door_flat dr'
        have t14:=tab_t TB13 b14
        refine nwT (by show 2≤64; decide) fun c15 H15 hc15 e15 s15=>?_
        have r15:Rep H15 (toldD D) (.ref c15):=Rep.tup e15 (RepL.cons (Rep.str _) (RepL.cons (r14.same s15) RepL.nil))
        have rf15:Rep H15 (toldD D) v13:=(r13.flat t14 (told_flat fD)).same s15
        have eo15:=s15 _ _ (t14 _ _ eo13)
        have ek15:=s15 _ _ (t14 _ _ e13k)
        have TA15:=(tab_oth TA13 TB13 nAB b14).same s15
        have TB15:=TB14.same s15
        have rt15:=(rt13.flat t14 (trD_flat fs ws)).same s15
        have rr15:=(rr13.flat t14 (show flatD (ruD es)=true from ens_flat es)).same s15
        have B15:=(((B9.same s912).but (by simp) b13).but (p:=tB) (by simp) b14).same s15
        have T15:=(((T9.same s912).tab b13 TA12).tab b14 TB13).same s15
        have shD':=door_shw dr'
        have sht:=door_shw dr
        refine ⟨fun bb H'=>bb=false∧Same H15 H',?_,?_⟩
        · refine ⟨_,rfl,?_⟩
          refine rrI rf15 shD'.sh shD'.nd shD'.dp shD'.ln ?_
          refine ⟨_,rfl,?_⟩
          refine rrI r15 shD'.sh shD'.nd shD'.dp shD'.ln ?_
          refine ⟨rfl,_,rfl,?_⟩
          refine iteFe (by simp) ?_
          refine ⟨_,rfl,?_⟩
          refine sp_lundone_i (or_of eo15) (fun ds e=>by injection e with e; rw [← e,List.length_map,List.length_map]; omega) (fun hU=>by rw [und_ok ok n2] at hU; cases hU) fun n'' o'' eo'' ok'' v16 H16 s16 r16=>?_
          obtain rfl:o=o'':=orD_inj eo''
          refine ⟨_,rfl,?_⟩
          refine nwT (by show 2≤64; decide) fun c17 H17 hc17 e17 s17=>?_
          have s1617:=s16.trans s17
          refine reD (r16.same s17) (d':=toldD (orD (undo o))) (Rep.tup e17 (RepL.cons (Rep.str _) (RepL.cons (or_of (s1617 _ _ ek15)) RepL.nil))) (told_shaped _) (told_shaped _) ?_
          rw [eqv_refl _ (told_nd _)]
          exact ⟨_,rfl,rfl,s1617⟩
        · rintro bb H16 ⟨rfl,s16⟩
          refine iteF ?_
          have rf16:=rf15.same s16
          obtain ⟨fa,fvs,rfl,hfa,rfv⟩:=tup_at (show Rep H16 (.tuple [.str "told",D]) v13 from rf16)
          obtain ⟨y1,y2,rfl,ry1,ry2⟩:=RepL_two rfv
          have TA16:=TA15.same s16
          have TB16:=TB15.same s16
          have ek16:=s16 _ _ ek15
          refine ⟨_,rfl,_,rfl,?_⟩
          refine ixT hfa rfl ?_
          refine ⟨_,rfl,?_⟩
          refine sp_told_i dr' ry2 (or_of ek16) TA16 (fun hO=>by rw [ord_ok (undo_ok ok)] at hO; cases hO) fun o' eo ok' v17 D' H17 b17 TA17 res17 r17=>?_
          obtain rfl:undo o=o':=orD_inj eo
          obtain rfl:D'=t:=back D' res17
          refine rrI r17 sht.sh sht.nd sht.dp sht.ln ?_
          have t17:=tab_t TA16 b17
          have rt17:=(rt15.same s16).flat t17 (trD_flat fs ws)
          have rr17:=(rr15.same s16).flat t17 (show flatD (ruD es)=true from ens_flat es)
          refine ⟨_,rfl,?_⟩
          refine nwT (by show 2≤64; decide) fun c18 H18 hc18 e18 s18=>?_
          have rt18:=rt17.same s18
          have rr18:=rr17.same s18
          refine rrI (d:=toldD D') (Rep.tup e18 (RepL.cons (Rep.str _) (RepL.cons (rx _ rt18 rr18) RepL.nil))) sht.sh sht.nd sht.dp sht.ln ?_
          refine ⟨rfl,_,rfl,?_⟩
          refine iteFe (by simp) ?_
          have TA18:=TA17.same s18
          have TB18:=(tab_oth TB16 TA16 nAB.symm b17).same s18
          have T18:=((T15.same s16).tab b17 TA16).same s18
          have B18:=((B15.same s16).but (p:=tA) (by simp) b17).same s18
          have eo18:=s18 _ _ (t17 _ _ (s16 _ _ eo15))
          refine ⟨_,rfl,_,rfl,?_⟩
          refine sp_lbent_i (n:=1000000 - 100*(j+1)) (T18.less (by omega)) eo18 ok n2 fun v19 d19 H19 T19 b19 r19 ho=>?_
          have TA19:=tab_tape b19 T18 TA18
          have TB19:=tab_tape b19 T18 TB18
          have B19:=B18.but (p:=p) (by simp) b19
          have rt19:=rt18.flat (T18.t b19) (trD_flat fs ws)
          have rr19:=rr18.flat (T18.t b19) (show flatD (ruD es)=true from ens_flat es)
          refine ⟨_,rfl,_,rfl,_,rfl,?_⟩
          refine sp_told_i dr (rx _ rt19 rr19) r19 TA19 (fun _ v20 H20 b20 TA20 r20=>?_) fun o' eo' ok'=>by rw [eo',ord_ok ok'] at ho; cases ho
          have t20:=tab_t TA19 b20
          refine nwT (by show 1≤64; decide) fun c21 H21 hc21 e21 s21=>?_
          refine reD (r20.same s21) (d':=noneD) (Rep.tup e21 (RepL.cons (Rep.str _) RepL.nil)) (by decide +kernel) (by decide +kernel) ?_
          rw [eqv_refl _ (show noneD.hasDict=false from rfl)]
          refine ⟨_,rfl,?_⟩
          refine iteF ?_
          exact ⟨_,_,_,_,_,_,_,_,rfl,(T19.tab b20 TA19).same s21,(B19.but (p:=tA) (by simp) b20).same s21,TA20.same s21,(tab_oth TB19 TA19 nAB.symm b20).same s21,(rt19.flat t20 (trD_flat fs ws)).same s21,(rr19.flat t20 (show flatD (ruD es)=true from ens_flat es)).same s21⟩
      · rintro σ H7 ⟨o8,o9,o10,o11,o12,o13,o14,o15,rfl,T7,B7,TA7,TB7,rt7,rr7⟩
        refine ⟨_,_,_,_,_,_,_,_,_,_,_,_,_,_,_,rfl,?_,TA7,TB7⟩
        intro b o hb e
        have e1:=S1 b o hb e
        refine B7 b o (fun z=>?_) (s2 _ _ e1)
        rcases List.mem_cons.mp z with z | z
        · rw [z,hp2] at e1; cases e1
        · exact hb z
    · rintro σ H1 ⟨o1,o2,o3,o4,o5,o6,o7,o8,o9,o10,o11,o12,o13,o14,o15,rfl,S1,TA1,TB1⟩
      refine MkF.use (mf_lst (mf_cons (mf_tup (mf_cons mf_int (mf_cons mf_int mf_nil)) (Nat.le_of_ble_eq_true rfl)) (mf_cons (mf_lst (mf_cons mf_int (mf_cons mf_int mf_nil)) (Nat.le_of_ble_eq_true rfl)) (mf_cons (mf_tup (mf_cons mf_int (mf_cons mf_int mf_nil)) (Nat.le_of_ble_eq_true rfl)) (mf_cons (mf_tup (mf_cons mf_bl (mf_cons mf_bl mf_nil)) (Nat.le_of_ble_eq_true rfl)) (mf_cons mf_non (mf_cons (mf_tup (mf_cons mf_int (mf_cons mf_int mf_nil)) (Nat.le_of_ble_eq_true rfl)) (mf_cons mf_str (mf_cons (mf_tup (mf_cons mf_int (mf_cons mf_neg mf_nil)) (Nat.le_of_ble_eq_true rfl)) (mf_cons (mf_tup (mf_cons mf_non mf_nil) (Nat.le_of_ble_eq_true rfl)) mf_nil))))))))) (Nat.le_of_ble_eq_true rfl)) fun v2 H2 s2 r2=>?_
      refine ⟨_,rfl,?_⟩
      refine MkF.use (mf_lst (mf_cons (mf_tup (mf_cons (mf_tup (mf_cons mf_int mf_nil) (Nat.le_of_ble_eq_true rfl)) mf_nil) (Nat.le_of_ble_eq_true rfl)) (mf_cons mf_int mf_nil)) (Nat.le_of_ble_eq_true rfl)) fun v3 H3 s3 r3=>?_
      have r2':=r2.same s3
      unfold Rep at r2' r3
      obtain ⟨a2,ys2,rfl,h2,l2⟩:=r2'
      obtain ⟨a3,ys3,rfl,h3,l3⟩:=r3
      have y2:ys2.length=9:=l2.len
      have y3:ys3.length=2:=l3.len
      refine catL h2 h3 (by omega) fun L4 H4 n4 e4 s4=>?_
      have lf:RepL H4 fixD (ys2++ys3):=RepL.app27 (l2.same s4) (l3.same s4)
      refine ⟨L4,rfl,⟨_,SqL.of e4⟩,?_⟩
      refine for_list (xs:=ys2++ys3) (fun i σ H'=>∃ o11:Option V,σ=[some (.ref a),o1,o2,o3,o4,o5,o6,o7,o8,o9,o10,o11,o12,o13,o14,o15,some (.ref a2)]∧Same H4 H') ⟨_,rfl,Same.refl _⟩ (fun i σ H' _ z=>?_) ?_ ?_
      · obtain ⟨_,_,s'⟩:=z
        exact SqL.of (s' _ _ e4)
      · rintro i x σ H5 hx ⟨o11,rfl,s5⟩
        obtain ⟨d,hd,rd⟩:=RepL.mem27 lf (List.mem_of_getElem? hx)
        obtain ⟨u1,u2⟩:=fix_no d hd
        refine ⟨_,rfl,?_⟩
        refine sp_lundone_i (rd.same s5) u2 (fun _ v6 H6 s6 r6=>?_) fun n o eo ok=>by rw [eo,und_ok' ok (fun z=>fix_ne d hd (by rw [eo,z]; rfl))] at u1; cases u1
        refine nwT (by show 1≤64; decide) fun c7 H7 hc7 e7 s7=>?_
        refine reD (r6.same s7) (d':=noneD) (Rep.tup e7 (RepL.cons (Rep.str _) RepL.nil)) (by decide +kernel) (by decide +kernel) ?_
        rw [eqv_refl _ (show noneD.hasDict=false from rfl)]
        refine ⟨_,rfl,?_⟩
        refine iteF ?_
        exact ⟨_,rfl,s5.trans (s6.trans s7)⟩
      · rintro σ H5 ⟨o11,rfl,s5⟩
        refine nwT (by show 1≤64; decide) fun c6 H6 hc6 e6 s6=>?_
        refine sp_lundone_i (d:=orD [0]) (Rep.tup e6 (RepL.cons (Rep.int 0) RepL.nil)) (fun ds e=>by injection e with e; rw [← e]; decide) (fun z=>absurd z (by decide +kernel)) fun n o eo ok v7 H7 s7 r7=>?_
        obtain rfl:[0]=o:=orD_inj eo
        refine nwT (by show 1≤64; decide) fun c8 H8 hc8 e8 s8=>?_
        refine nwT (by show 2≤64; decide) fun c9 H9 hc9 e9 s9=>?_
        refine reD (r7.same (s8.trans s9)) (d':=toldD (orD (undo [0]))) (Rep.tup e9 (RepL.cons (Rep.str _) (RepL.cons (Rep.tup (s9 _ _ e8) (RepL.cons (Rep.int 0) RepL.nil)) RepL.nil))) (told_shaped _) (told_shaped _) ?_
        rw [eqv_refl _ (told_nd _)]
        refine ⟨_,rfl,?_⟩
        refine iteT ?_
        refine nwT (by show 3≤64; decide) fun c10 H10 hc10 e10 s10=>?_
        refine sp_lundone_i (d:=orD [2,0,1]) (Rep.tup e10 (RepL.cons (Rep.int 2) (RepL.cons (Rep.int 0) (RepL.cons (Rep.int 1) RepL.nil)))) (fun ds e=>by injection e with e; rw [← e]; decide) (fun z=>absurd z (by decide +kernel)) fun n o eo ok v11 H11 s11 r11=>?_
        obtain rfl:[2,0,1]=o:=orD_inj eo
        refine nwT (by show 3≤64; decide) fun c12 H12 hc12 e12 s12=>?_
        refine nwT (by show 2≤64; decide) fun c13 H13 hc13 e13 s13=>?_
        refine reD (r11.same (s12.trans s13)) (d':=toldD (orD (undo [2,0,1]))) (Rep.tup e13 (RepL.cons (Rep.str _) (RepL.cons (Rep.tup (s13 _ _ e12) (RepL.cons (Rep.int 1) (RepL.cons (Rep.int 2) (RepL.cons (Rep.int 0) RepL.nil)))) RepL.nil))) (told_shaped _) (told_shaped _) ?_
        rw [eqv_refl _ (told_nd _)]
        exact k H13
end
end Kw
set_option Elab.async false
set_option linter.all false
set_option maxRecDepth 100000
namespace Kw
open PySem L2 Mf
theorem sp_lawT_i {K:PySem.W.Frag} {tA tB a:Addr} {H:Hp} {E:XK} {ns:List Int} (hS:SqL K H a (ns.map V.int)) (hl:ns.length≤63) (hT:H tA=some (.tbl #[])) (hU:H tB=some (.tbl #[])) (hn:tA≠tB):sp_lawT K tA tB [.ref a] H (fun v _=>v=.bl true) E:=by
  unfold sp_lawT; exact ⟨a,ns,rfl,hS,hl,⟨.inl hT⟩,⟨.inl hU⟩,hn,fun _=>rfl⟩
def spT (K:PySem.W.Frag) (tabs:List (Addr × Addr)):Sp:=match tabs with
  | [(_,t),(_,u)]=>cond (Nat.beq t u) (fun _ H Q _=>Q (.bl true) H) (sp_lawT K t u)
  | _=>fun _ H Q _=>Q (.bl true) H
theorem spT_i {K:PySem.W.Frag} {tabs:List (Addr × Addr)} {a:Addr} {H:Hp} {E:XK} {ns:List Int} (hS:SqL K H a (ns.map V.int)) (hl:ns.length≤63) (hT:OnlyT tabs H):spT K tabs [.ref a] H (fun v _=>v=.bl true) E:=by
  unfold spT
  split
  · rename_i c1 t c2 u
    by_cases q:Nat.beq t u=true
    · rw [q]; rfl
    · rw [show Nat.beq t u=false from Bool.eq_false_iff.mpr q]
      exact sp_lawT_i hS hl (hT.tab (c1,t) (by simp)) (hT.tab (c2,u) (by simp)) (fun z=>q (by rw [z]; exact Nat.beq_refl u))
  · rfl
theorem len1 {α:Type} {us:List α} (h:us.length=1):∃ a,us=[a]:=match us,h with | [a],_=>⟨a,rfl⟩
theorem len2 {α:Type} {us:List α} (h:us.length=2):∃ a b,us=[a,b]:=match us,h with | [a,b],_=>⟨a,b,rfl⟩
theorem len3 {α:Type} {us:List α} (h:us.length=3):∃ a b c,us=[a,b,c]:=match us,h with | [a,b,c],_=>⟨a,b,c,rfl⟩
theorem len4 {α:Type} {us:List α} (h:us.length=4):∃ a b c d,us=[a,b,c,d]:=match us,h with | [a,b,c,d],_=>⟨a,b,c,d,rfl⟩
theorem len5 {α:Type} {us:List α} (h:us.length=5):∃ a b c d e,us=[a,b,c,d,e]:=match us,h with | [a,b,c,d,e],_=>⟨a,b,c,d,e,rfl⟩
theorem fnc (l:PySem.W.OpenLaw) (w:World) {K:PySem.W.Frag} {h:Heap} {mg:Str→Option Value} (X:K.In h) (G:h.Ns mainGlobals mg) (base:Heap) {n:Str} {f:Addr} {fd:FuncData} {L:Nat} {ps:List Str} {sp:Sp} (a:PySem.W.nsIn K mainGlobals n=some (some (.ref f))) (k:PySem.W.keepIn K (.ref f)=true) (b:Binds K fd ps []) (o:FnOk l.prog w K mg base CX0 L f fd ps sp):FnC CX0 l.prog w K mg base L n ps sp:=⟨_,_,o,PySem.W.mg_of X G a,k,b⟩
set_option maxHeartbeats 0 in
theorem all_mk {l:PySem.W.OpenLaw} {w:World} {K:PySem.W.Frag} {h:Heap} {mg:Str→Option Value} {fa:Addr} {c_NoOrder:Addr} {c_NoBack:Addr} {c_NoBounds:Addr} {c_NoFraction:Addr} {c_NoLines:Addr} {c_NoLook:Addr} {c_NoPaper:Addr} {c_NoRow:Addr} {c_NoRule:Addr} {c_NoTrial:Addr} {c_ways_turned:Addr} {c_faces_turned:Addr} {c_rule_ways_turned:Addr} {c_rule_faces_turned:Addr} {cd_NoOrder:ClassData} {ce_NoOrder:ClassData} (X:K.In h) (G:h.Ns mainGlobals mg) (hfa:mg "law" = some (.ref fa))
    (u_NoOrder:PySem.W.nsIn K mainGlobals "NoOrder" = some (some (.ref c_NoOrder)))
    (u_NoBack:PySem.W.nsIn K mainGlobals "NoBack" = some (some (.ref c_NoBack)))
    (u_NoBounds:PySem.W.nsIn K mainGlobals "NoBounds" = some (some (.ref c_NoBounds)))
    (u_NoFraction:PySem.W.nsIn K mainGlobals "NoFraction" = some (some (.ref c_NoFraction)))
    (u_NoLines:PySem.W.nsIn K mainGlobals "NoLines" = some (some (.ref c_NoLines)))
    (u_NoLook:PySem.W.nsIn K mainGlobals "NoLook" = some (some (.ref c_NoLook)))
    (u_NoPaper:PySem.W.nsIn K mainGlobals "NoPaper" = some (some (.ref c_NoPaper)))
    (u_NoRow:PySem.W.nsIn K mainGlobals "NoRow" = some (some (.ref c_NoRow)))
    (u_NoRule:PySem.W.nsIn K mainGlobals "NoRule" = some (some (.ref c_NoRule)))
    (u_NoTrial:PySem.W.nsIn K mainGlobals "NoTrial" = some (some (.ref c_NoTrial)))
    (u_ways_turned:PySem.W.nsIn K mainGlobals "ways_turned" = some (some (.ref c_ways_turned)))
    (u_faces_turned:PySem.W.nsIn K mainGlobals "faces_turned" = some (some (.ref c_faces_turned)))
    (u_rule_ways_turned:PySem.W.nsIn K mainGlobals "rule_ways_turned" = some (some (.ref c_rule_ways_turned)))
    (u_rule_faces_turned:PySem.W.nsIn K mainGlobals "rule_faces_turned" = some (some (.ref c_rule_faces_turned)))
    (x_NoOrder:PySem.W.excIn K c_NoOrder mroVE "ValueError.__new__" = true)
    (ga_NoOrder:PySem.W.findIn K (.ref c_NoOrder) "__getattribute__" = some (some (.builtin "BaseException.__getattribute__")))
    (gt_NoOrder:PySem.W.findIn K (.ref c_NoOrder) "__getattr__" = some none)
    (su_NoOrder:PySem.W.subIn K (.ref c_NoOrder) (.type "BaseException")=some true)
    (cl_NoOrder:PySem.W.clsIn K c_NoOrder=some cd_NoOrder)
    (kc_NoOrder:PySem.W.findIn K (.ref c_NoOrder) "__class__" = some (some (.builtin "object.__class__")))
    (kg_NoOrder:PySem.W.specialIn K (.builtin "object.__class__") "__get__" = some (some (.builtin "getset_descriptor.__get__")))
    (kt_NoOrder:PySem.W.takesIn K (.builtin "object.__class__")=some true)
    (ob_NoOrder:PySem.W.mroIn K c_NoOrder (.type "object")=some true)
    (ty_NoOrder:PySem.W.typeIn K (.ref c_NoOrder)=some (.type "type"))
    (cm_NoOrder:PySem.W.clsIn K c_NoOrder=some ce_NoOrder)
    (sb_NoOrder:PySem.W.subIn K (.ref c_NoOrder) (.type "BaseException")=some true)
    (y0:PySem.W.subIn K (.ref c_NoOrder) (.ref c_NoOrder)=some true)
    (y1:PySem.W.kitAny K (.ref c_NoOrder) [.ref c_NoBack,.ref c_NoBounds,.ref c_NoFraction,.ref c_NoLines,.ref c_NoLook]=some false)
    (y2:PySem.W.kitAny K (.ref c_NoOrder) [.ref c_NoPaper,.ref c_NoRow,.ref c_NoRule,.ref c_NoTrial]=some false)
    (y3:PySem.W.kitOne K (.ref c_NoOrder) (.type "ValueError")=some true)
    (a0:PySem.W.nsIn K mainGlobals "_law_tape" = some (some (.ref f0))) (l0:K.lookup f0=some ⟨oc0,od0,.func (PySem.W.fnOf "_law_tape" "_law_tape" (defArgs s__law_tape) (defBody s__law_tape) (defScope s__law_tape) .none kV0 dc0 pm0 an0 cd0 ct0),sl0⟩) (c0:PySem.W.codeIn K cd0 "_law_tape" = true) (k0:PySem.W.keepIn K (.ref f0)=true)
    (a1:PySem.W.nsIn K mainGlobals "_law_pick" = some (some (.ref f1))) (l1:K.lookup f1=some ⟨oc1,od1,.func (PySem.W.fnOf "_law_pick" "_law_pick" (defArgs s__law_pick) (defBody s__law_pick) (defScope s__law_pick) .none kV1 dc1 pm1 an1 cd1 ct1),sl1⟩) (c1:PySem.W.codeIn K cd1 "_law_pick" = true) (k1:PySem.W.keepIn K (.ref f1)=true)
    (a2:PySem.W.nsIn K mainGlobals "_law_frac" = some (some (.ref f2))) (l2:K.lookup f2=some ⟨oc2,od2,.func (PySem.W.fnOf "_law_frac" "_law_frac" (defArgs s__law_frac) (defBody s__law_frac) (defScope s__law_frac) .none kV2 dc2 pm2 an2 cd2 ct2),sl2⟩) (c2:PySem.W.codeIn K cd2 "_law_frac" = true) (k2:PySem.W.keepIn K (.ref f2)=true)
    (a3:PySem.W.nsIn K mainGlobals "_law_shares" = some (some (.ref f3))) (l3:K.lookup f3=some ⟨oc3,od3,.func (PySem.W.fnOf "_law_shares" "_law_shares" (defArgs s__law_shares) (defBody s__law_shares) (defScope s__law_shares) .none kV3 dc3 pm3 an3 cd3 ct3),sl3⟩) (c3:PySem.W.codeIn K cd3 "_law_shares" = true) (k3:PySem.W.keepIn K (.ref f3)=true)
    (a4:PySem.W.nsIn K mainGlobals "_law_says" = some (some (.ref f4))) (l4:K.lookup f4=some ⟨oc4,od4,.func (PySem.W.fnOf "_law_says" "_law_says" (defArgs s__law_says) (defBody s__law_says) (defScope s__law_says) .none kV4 dc4 pm4 an4 cd4 ct4),sl4⟩) (c4:PySem.W.codeIn K cd4 "_law_says" = true) (k4:PySem.W.keepIn K (.ref f4)=true)
    (a5:PySem.W.nsIn K mainGlobals "_law_sizes" = some (some (.ref f5))) (l5:K.lookup f5=some ⟨oc5,od5,.func (PySem.W.fnOf "_law_sizes" "_law_sizes" (defArgs s__law_sizes) (defBody s__law_sizes) (defScope s__law_sizes) .none kV5 dc5 pm5 an5 cd5 ct5),sl5⟩) (c5:PySem.W.codeIn K cd5 "_law_sizes" = true) (k5:PySem.W.keepIn K (.ref f5)=true)
    (a6:PySem.W.nsIn K mainGlobals "_law_next" = some (some (.ref f6))) (l6:K.lookup f6=some ⟨oc6,od6,.func (PySem.W.fnOf "_law_next" "_law_next" (defArgs s__law_next) (defBody s__law_next) (defScope s__law_next) .none kV6 dc6 pm6 an6 cd6 ct6),sl6⟩) (c6:PySem.W.codeIn K cd6 "_law_next" = true) (k6:PySem.W.keepIn K (.ref f6)=true)
    (a7:PySem.W.nsIn K mainGlobals "_law_rule" = some (some (.ref f7))) (l7:K.lookup f7=some ⟨oc7,od7,.func (PySem.W.fnOf "_law_rule" "_law_rule" (defArgs s__law_rule) (defBody s__law_rule) (defScope s__law_rule) .none kV7 dc7 pm7 an7 cd7 ct7),sl7⟩) (c7:PySem.W.codeIn K cd7 "_law_rule" = true) (k7:PySem.W.keepIn K (.ref f7)=true)
    (a8:PySem.W.nsIn K mainGlobals "_law_trial" = some (some (.ref f8))) (l8:K.lookup f8=some ⟨oc8,od8,.func (PySem.W.fnOf "_law_trial" "_law_trial" (defArgs s__law_trial) (defBody s__law_trial) (defScope s__law_trial) .none kV8 dc8 pm8 an8 cd8 ct8),sl8⟩) (c8:PySem.W.codeIn K cd8 "_law_trial" = true) (k8:PySem.W.keepIn K (.ref f8)=true)
    (a9:PySem.W.nsIn K mainGlobals "is_whole" = some (some (.ref f9))) (l9:K.lookup f9=some ⟨oc9,od9,.func (PySem.W.fnOf "is_whole" "is_whole" (defArgs s_is_whole) (defBody s_is_whole) (defScope s_is_whole) .none kV9 dc9 pm9 an9 cd9 ct9),sl9⟩) (c9:PySem.W.codeIn K cd9 "is_whole" = true) (k9:PySem.W.keepIn K (.ref f9)=true)
    (a10:PySem.W.nsIn K mainGlobals "is_tuple_of" = some (some (.ref f10))) (l10:K.lookup f10=some ⟨oc10,od10,.func (PySem.W.fnOf "is_tuple_of" "is_tuple_of" (defArgs s_is_tuple_of) (defBody s_is_tuple_of) (defScope s_is_tuple_of) .none kV10 dc10 pm10 an10 cd10 ct10),sl10⟩) (c10:PySem.W.codeIn K cd10 "is_tuple_of" = true) (k10:PySem.W.keepIn K (.ref f10)=true)
    (a11:PySem.W.nsIn K mainGlobals "is_order" = some (some (.ref f11))) (l11:K.lookup f11=some ⟨oc11,od11,.func (PySem.W.fnOf "is_order" "is_order" (defArgs s_is_order) (defBody s_is_order) (defScope s_is_order) .none kV11 dc11 pm11 an11 cd11 ct11),sl11⟩) (c11:PySem.W.codeIn K cd11 "is_order" = true) (k11:PySem.W.keepIn K (.ref f11)=true)
    (a12:PySem.W.nsIn K mainGlobals "check_order" = some (some (.ref f12))) (l12:K.lookup f12=some ⟨oc12,od12,.func (PySem.W.fnOf "check_order" "check_order" (defArgs s_check_order) (defBody s_check_order) (defScope s_check_order) .none kV12 dc12 pm12 an12 cd12 ct12),sl12⟩) (c12:PySem.W.codeIn K cd12 "check_order" = true) (k12:PySem.W.keepIn K (.ref f12)=true)
    (a13:PySem.W.nsIn K mainGlobals "turned" = some (some (.ref f13))) (l13:K.lookup f13=some ⟨oc13,od13,.func (PySem.W.fnOf "turned" "turned" (defArgs s_turned) (defBody s_turned) (defScope s_turned) .none kV13 dc13 pm13 an13 cd13 ct13),sl13⟩) (c13:PySem.W.codeIn K cd13 "turned" = true) (k13:PySem.W.keepIn K (.ref f13)=true)
    (a14:PySem.W.nsIn K mainGlobals "faces_of" = some (some (.ref f14))) (l14:K.lookup f14=some ⟨oc14,od14,.func (PySem.W.fnOf "faces_of" "faces_of" (defArgs s_faces_of) (defBody s_faces_of) (defScope s_faces_of) .none kV14 dc14 pm14 an14 cd14 ct14),sl14⟩) (c14:PySem.W.codeIn K cd14 "faces_of" = true) (k14:PySem.W.keepIn K (.ref f14)=true)
    (a15:PySem.W.nsIn K mainGlobals "rule_ways" = some (some (.ref f15))) (l15:K.lookup f15=some ⟨oc15,od15,.func (PySem.W.fnOf "rule_ways" "rule_ways" (defArgs s_rule_ways) (defBody s_rule_ways) (defScope s_rule_ways) .none kV15 dc15 pm15 an15 cd15 ct15),sl15⟩) (c15:PySem.W.codeIn K cd15 "rule_ways" = true) (k15:PySem.W.keepIn K (.ref f15)=true)
    (a16:PySem.W.nsIn K mainGlobals "ways_of" = some (some (.ref f16))) (l16:K.lookup f16=some ⟨oc16,od16,.func (PySem.W.fnOf "ways_of" "ways_of" (defArgs s_ways_of) (defBody s_ways_of) (defScope s_ways_of) .none kV16 dc16 pm16 an16 cd16 ct16),sl16⟩) (c16:PySem.W.codeIn K cd16 "ways_of" = true) (k16:PySem.W.keepIn K (.ref f16)=true)
    (a17:PySem.W.nsIn K mainGlobals "rule_faces" = some (some (.ref f17))) (l17:K.lookup f17=some ⟨oc17,od17,.func (PySem.W.fnOf "rule_faces" "rule_faces" (defArgs s_rule_faces) (defBody s_rule_faces) (defScope s_rule_faces) .none kV17 dc17 pm17 an17 cd17 ct17),sl17⟩) (c17:PySem.W.codeIn K cd17 "rule_faces" = true) (k17:PySem.W.keepIn K (.ref f17)=true)
    (a18:PySem.W.nsIn K mainGlobals "ways_turned" = some (some (.ref f18))) (l18:K.lookup f18=some ⟨oc18,od18,.func (PySem.W.fnOf "ways_turned" "ways_turned" (defArgs s_ways_turned) (defBody s_ways_turned) (defScope s_ways_turned) .none kV18 dc18 pm18 an18 cd18 ct18),sl18⟩) (c18:PySem.W.codeIn K cd18 "ways_turned" = true) (k18:PySem.W.keepIn K (.ref f18)=true)
    (a19:PySem.W.nsIn K mainGlobals "faces_turned" = some (some (.ref f19))) (l19:K.lookup f19=some ⟨oc19,od19,.func (PySem.W.fnOf "faces_turned" "faces_turned" (defArgs s_faces_turned) (defBody s_faces_turned) (defScope s_faces_turned) .none kV19 dc19 pm19 an19 cd19 ct19),sl19⟩) (c19:PySem.W.codeIn K cd19 "faces_turned" = true) (k19:PySem.W.keepIn K (.ref f19)=true)
    (a20:PySem.W.nsIn K mainGlobals "rule_ways_turned" = some (some (.ref f20))) (l20:K.lookup f20=some ⟨oc20,od20,.func (PySem.W.fnOf "rule_ways_turned" "rule_ways_turned" (defArgs s_rule_ways_turned) (defBody s_rule_ways_turned) (defScope s_rule_ways_turned) .none kV20 dc20 pm20 an20 cd20 ct20),sl20⟩) (c20:PySem.W.codeIn K cd20 "rule_ways_turned" = true) (k20:PySem.W.keepIn K (.ref f20)=true)
    (a21:PySem.W.nsIn K mainGlobals "rule_faces_turned" = some (some (.ref f21))) (l21:K.lookup f21=some ⟨oc21,od21,.func (PySem.W.fnOf "rule_faces_turned" "rule_faces_turned" (defArgs s_rule_faces_turned) (defBody s_rule_faces_turned) (defScope s_rule_faces_turned) .none kV21 dc21 pm21 an21 (.ref cA21) ct21),sl21⟩) (c21:PySem.W.codeIn K (.ref cA21) "rule_faces_turned" = true) (k21:PySem.W.keepIn K (.ref f21)=true) (hh21:hdIn K cA21 tA=true)
    (a22:PySem.W.nsIn K mainGlobals "undone" = some (some (.ref f22))) (l22:K.lookup f22=some ⟨oc22,od22,.func (PySem.W.fnOf "undone" "undone" (defArgs s_undone) (defBody s_undone) (defScope s_undone) .none kV22 dc22 pm22 an22 cd22 ct22),sl22⟩) (c22:PySem.W.codeIn K cd22 "undone" = true) (k22:PySem.W.keepIn K (.ref f22)=true)
    (a23:PySem.W.nsIn K mainGlobals "_law_strange" = some (some (.ref f23))) (l23:K.lookup f23=some ⟨oc23,od23,.func (PySem.W.fnOf "_law_strange" "_law_strange" (defArgs s__law_strange) (defBody s__law_strange) (defScope s__law_strange) .none kV23 dc23 pm23 an23 cd23 ct23),sl23⟩) (c23:PySem.W.codeIn K cd23 "_law_strange" = true) (k23:PySem.W.keepIn K (.ref f23)=true)
    (a24:PySem.W.nsIn K mainGlobals "_law_told" = some (some (.ref f24))) (l24:K.lookup f24=some ⟨oc24,od24,.func (PySem.W.fnOf "_law_told" "_law_told" (defArgs s__law_told) (defBody s__law_told) (defScope s__law_told) .none kV24 dc24 pm24 an24 cd24 ct24),sl24⟩) (c24:PySem.W.codeIn K cd24 "_law_told" = true) (k24:PySem.W.keepIn K (.ref f24)=true)
    (a25:PySem.W.nsIn K mainGlobals "_law_undone" = some (some (.ref f25))) (l25:K.lookup f25=some ⟨oc25,od25,.func (PySem.W.fnOf "_law_undone" "_law_undone" (defArgs s__law_undone) (defBody s__law_undone) (defScope s__law_undone) .none kV25 dc25 pm25 an25 cd25 ct25),sl25⟩) (c25:PySem.W.codeIn K cd25 "_law_undone" = true) (k25:PySem.W.keepIn K (.ref f25)=true)
    (a26:PySem.W.nsIn K mainGlobals "_law_placed" = some (some (.ref f26))) (l26:K.lookup f26=some ⟨oc26,od26,.func (PySem.W.fnOf "_law_placed" "_law_placed" (defArgs s__law_placed) (defBody s__law_placed) (defScope s__law_placed) .none kV26 dc26 pm26 an26 cd26 ct26),sl26⟩) (c26:PySem.W.codeIn K cd26 "_law_placed" = true) (k26:PySem.W.keepIn K (.ref f26)=true)
    (a27:PySem.W.nsIn K mainGlobals "_law_due" = some (some (.ref f27))) (l27:K.lookup f27=some ⟨oc27,od27,.func (PySem.W.fnOf "_law_due" "_law_due" (defArgs s__law_due) (defBody s__law_due) (defScope s__law_due) .none kV27 dc27 pm27 an27 (.ref cA27) ct27),sl27⟩) (c27:PySem.W.codeIn K (.ref cA27) "_law_due" = true) (k27:PySem.W.keepIn K (.ref f27)=true) (hh27:hdIn K cA27 tU=true)
    (a28:PySem.W.nsIn K mainGlobals "_law_order" = some (some (.ref f28))) (l28:K.lookup f28=some ⟨oc28,od28,.func (PySem.W.fnOf "_law_order" "_law_order" (defArgs s__law_order) (defBody s__law_order) (defScope s__law_order) .none kV28 dc28 pm28 an28 cd28 ct28),sl28⟩) (c28:PySem.W.codeIn K cd28 "_law_order" = true) (k28:PySem.W.keepIn K (.ref f28)=true)
    (a29:PySem.W.nsIn K mainGlobals "_law_bent" = some (some (.ref f29))) (l29:K.lookup f29=some ⟨oc29,od29,.func (PySem.W.fnOf "_law_bent" "_law_bent" (defArgs s__law_bent) (defBody s__law_bent) (defScope s__law_bent) .none kV29 dc29 pm29 an29 cd29 ct29),sl29⟩) (c29:PySem.W.codeIn K cd29 "_law_bent" = true) (k29:PySem.W.keepIn K (.ref f29)=true)
    (a30:PySem.W.nsIn K mainGlobals "law" = some (some (.ref f30))) (l30:K.lookup f30=some ⟨oc30,od30,.func (PySem.W.fnOf "law" "law" (defArgs s_law) (defBody s_law) (defScope s_law) .none kV30 dc30 pm30 an30 cd30 ct30),sl30⟩) (c30:PySem.W.codeIn K cd30 "law" = true) (k30:PySem.W.keepIn K (.ref f30)=true) (z0:PySem.W.nsIn K mainGlobals "list" = some none) (z1:PySem.W.nsIn K mainGlobals "len" = some none) (z2:PySem.W.nsIn K mainGlobals "abs" = some none) (z3:PySem.W.nsIn K mainGlobals "repr" = some none) (z4:PySem.W.nsIn K mainGlobals "range" = some none) (z5:PySem.W.nsIn K mainGlobals "sum" = some none) (z6:PySem.W.nsIn K mainGlobals "max" = some none) (z7:PySem.W.nsIn K mainGlobals "int" = some none) (z8:PySem.W.nsIn K mainGlobals "bool" = some none) (z9:PySem.W.nsIn K mainGlobals "sorted" = some none) (z10:PySem.W.nsIn K mainGlobals "isinstance" = some none) (z11:PySem.W.nsIn K mainGlobals "all" = some none) (z12:PySem.W.nsIn K mainGlobals "tuple" = some none) (z13:PySem.W.nsIn K mainGlobals "ValueError" = some none) :
    ∃ fd:FuncData,(∀ (s:Shared) (v:Value),BindsTo s fd ⟨[v],[]⟩ [("_law_script",v)])∧∀ base:Heap,K.In base→base.Ns mainGlobals mg→BM mg base→FnOk l.prog w K mg base CX0 10 fa fd ["_law_script"] (sp_lawT K tA tU):=by
  have e:=hfa.symm.trans (PySem.W.mg_of X G a30)
  cases e
  generalize hcl:(⟨c_NoOrder,c_NoBack,c_NoBounds,c_NoFraction,c_NoLines,c_NoLook,c_NoPaper,c_NoRow,c_NoRule,c_NoTrial,c_ways_turned,c_faces_turned,c_rule_ways_turned,c_rule_faces_turned⟩:Cl)=c
  have T:Txt K mg c:=by rw [← hcl]; exact ⟨PySem.W.mg_none_of X G z0,PySem.W.mg_none_of X G z1,PySem.W.mg_none_of X G z2,PySem.W.mg_none_of X G z3,PySem.W.mg_none_of X G z4,PySem.W.mg_none_of X G z5,PySem.W.mg_none_of X G z6,PySem.W.mg_none_of X G z7,PySem.W.mg_none_of X G z8,PySem.W.mg_none_of X G z9,PySem.W.mg_none_of X G z10,PySem.W.mg_none_of X G z11,PySem.W.mg_none_of X G z12,PySem.W.mg_none_of X G z13,PySem.W.mg_of X G u_NoOrder,PySem.W.mg_of X G u_NoBack,PySem.W.mg_of X G u_NoBounds,PySem.W.mg_of X G u_NoFraction,PySem.W.mg_of X G u_NoLines,PySem.W.mg_of X G u_NoLook,PySem.W.mg_of X G u_NoPaper,PySem.W.mg_of X G u_NoRow,PySem.W.mg_of X G u_NoRule,PySem.W.mg_of X G u_NoTrial,PySem.W.mg_of X G u_ways_turned,PySem.W.mg_of X G u_faces_turned,PySem.W.mg_of X G u_rule_ways_turned,PySem.W.mg_of X G u_rule_faces_turned,x_NoOrder,⟨ga_NoOrder,gt_NoOrder,su_NoOrder,(by rw [cl_NoOrder]; rfl),kc_NoOrder,kg_NoOrder,kt_NoOrder,ob_NoOrder⟩,⟨ty_NoOrder,(by rw [cm_NoOrder]; rfl),sb_NoOrder⟩,y0,y1,y2,y3⟩
  have F0:=fun_mk (st:=s__law_tape) l0 c0 k0
  have b0:=F0.binds (ps:=["_law_script", "_law_at"]) fun _ _ _ _ _ _ us hl=>by obtain ⟨_,_,rfl⟩:=len2 hl; rfl
  have G__law_tape:=fun base=>fnc l w X G base a0 k0 b0 (ok__law_tape F0 T)
  have F1:=fun_mk (st:=s__law_pick) l1 c1 k1
  have b1:=F1.binds (ps:=["_law_tape_here", "_law_many"]) fun _ _ _ _ _ _ us hl=>by obtain ⟨_,_,rfl⟩:=len2 hl; rfl
  have G__law_pick:=fun base=>fnc l w X G base a1 k1 b1 (ok__law_pick F1 T)
  have F2:=fun_mk (st:=s__law_frac) l2 c2 k2
  have b2:=F2.binds (ps:=["_law_n", "_law_d"]) fun _ _ _ _ _ _ us hl=>by obtain ⟨_,_,rfl⟩:=len2 hl; rfl
  have G__law_frac:=fun base=>fnc l w X G base a2 k2 b2 (ok__law_frac F2 T)
  have F3:=fun_mk (st:=s__law_shares) l3 c3 k3
  have b3:=F3.binds (ps:=["_law_tape_here", "_law_many"]) fun _ _ _ _ _ _ us hl=>by obtain ⟨_,_,rfl⟩:=len2 hl; rfl
  have G__law_shares:=fun base=>fnc l w X G base a3 k3 b3 (ok__law_shares F3 T (G__law_pick base) (G__law_frac base))
  have F4:=fun_mk (st:=s__law_says) l4 c4 k4
  have b4:=F4.binds (ps:=["_law_tape_here", "_law_ways", "_law_stops", "_law_plain"]) fun _ _ _ _ _ _ us hl=>by obtain ⟨_,_,_,_,rfl⟩:=len4 hl; rfl
  have G__law_says:=fun base=>fnc l w X G base a4 k4 b4 (ok__law_says F4 T (G__law_pick base) (G__law_shares base))
  have F5:=fun_mk (st:=s__law_sizes) l5 c5 k5
  have b5:=F5.binds (ps:=["_law_tape_here"]) fun _ _ _ _ _ _ us hl=>by obtain ⟨_,rfl⟩:=len1 hl; rfl
  have G__law_sizes:=fun base=>fnc l w X G base a5 k5 b5 (ok__law_sizes F5 T (G__law_pick base))
  have F6:=fun_mk (st:=s__law_next) l6 c6 k6
  have b6:=F6.binds (ps:=["_law_counts", "_law_says_here"]) fun _ _ _ _ _ _ us hl=>by obtain ⟨_,_,rfl⟩:=len2 hl; rfl
  have G__law_next:=fun base=>fnc l w X G base a6 k6 b6 (ok__law_next F6 T)
  have F7:=fun_mk (st:=s__law_rule) l7 c7 k7
  have b7:=F7.binds (ps:=["_law_tape_here", "_law_faces", "_law_ways", "_law_most", "_law_plain"]) fun _ _ _ _ _ _ us hl=>by obtain ⟨_,_,_,_,_,rfl⟩:=len5 hl; rfl
  have G__law_rule:=fun base=>fnc l w X G base a7 k7 b7 (ok__law_rule F7 T (G__law_says base) (G__law_next base))
  have F8:=fun_mk (st:=s__law_trial) l8 c8 k8
  have b8:=F8.binds (ps:=["_law_tape_here", "_law_faces", "_law_ways"]) fun _ _ _ _ _ _ us hl=>by obtain ⟨_,_,_,rfl⟩:=len3 hl; rfl
  have G__law_trial:=fun base=>fnc l w X G base a8 k8 b8 (ok__law_trial F8 T (G__law_pick base) (G__law_shares base))
  have F9:=fun_mk (st:=s_is_whole) l9 c9 k9
  have b9:=F9.binds (ps:=["thing"]) fun _ _ _ _ _ _ us hl=>by obtain ⟨_,rfl⟩:=len1 hl; rfl
  have G_is_whole:=fun base=>fnc l w X G base a9 k9 b9 (ok_is_whole F9 T)
  have F10:=fun_mk (st:=s_is_tuple_of) l10 c10 k10
  have b10:=F10.binds (ps:=["thing", "many"]) fun _ _ _ _ _ _ us hl=>by obtain ⟨_,_,rfl⟩:=len2 hl; rfl
  have G_is_tuple_of:=fun base=>fnc l w X G base a10 k10 b10 (ok_is_tuple_of F10 T)
  have F11:=fun_mk (st:=s_is_order) l11 c11 k11
  have b11:=F11.binds (ps:=["thing", "many"]) fun _ _ _ _ _ _ us hl=>by obtain ⟨_,_,rfl⟩:=len2 hl; rfl
  have G_is_order:=fun base=>fnc l w X G base a11 k11 b11 (ok_is_order F11 T (G_is_tuple_of base) (G_is_whole base))
  have F12:=fun_mk (st:=s_check_order) l12 c12 k12
  have b12:=F12.binds (ps:=["thing", "many"]) fun _ _ _ _ _ _ us hl=>by obtain ⟨_,_,rfl⟩:=len2 hl; rfl
  have G_check_order:∀ base:Heap,FnC (CX1 l.prog w) l.prog w K mg base 3 "check_order" ["thing", "many"] (sp_chkB c.NoOrder):=fun base=>⟨_,_,ok_check_order F12 T (G_is_order base),PySem.W.mg_of X G a12,k12,b12⟩
  have F13:=fun_mk (st:=s_turned) l13 c13 k13
  have b13:=F13.binds (ps:=["things", "order"]) fun _ _ _ _ _ _ us hl=>by obtain ⟨_,_,rfl⟩:=len2 hl; rfl
  have G_turned:=fun base=>fnc l w X G base a13 k13 b13 (ok_turned F13 T)
  have F14:=fun_mk (st:=s_faces_of) l14 c14 k14
  have b14:=F14.binds (ps:=["trial"]) fun _ _ _ _ _ _ us hl=>by obtain ⟨_,rfl⟩:=len1 hl; rfl
  have G_faces_of:=fun base=>fnc l w X G base a14 k14 b14 (ok_faces_of F14 T)
  have F15:=fun_mk (st:=s_rule_ways) l15 c15 k15
  have b15:=F15.binds (ps:=["rule"]) fun _ _ _ _ _ _ us hl=>by obtain ⟨_,rfl⟩:=len1 hl; rfl
  have G_rule_ways:=fun base=>fnc l w X G base a15 k15 b15 (ok_rule_ways F15 T)
  have F16:=fun_mk (st:=s_ways_of) l16 c16 k16
  have b16:=F16.binds (ps:=["trial"]) fun _ _ _ _ _ _ us hl=>by obtain ⟨_,rfl⟩:=len1 hl; rfl
  have G_ways_of:=fun base=>fnc l w X G base a16 k16 b16 (ok_ways_of F16 T)
  have F17:=fun_mk (st:=s_rule_faces) l17 c17 k17
  have b17:=F17.binds (ps:=["rule"]) fun _ _ _ _ _ _ us hl=>by obtain ⟨_,rfl⟩:=len1 hl; rfl
  have G_rule_faces:=fun base=>fnc l w X G base a17 k17 b17 (ok_rule_faces F17 T)
  have F18:=fun_mk (st:=s_ways_turned) l18 c18 k18
  have b18:=F18.binds (ps:=["trial", "order"]) fun _ _ _ _ _ _ us hl=>by obtain ⟨_,_,rfl⟩:=len2 hl; rfl
  have G_ways_turned:∀ base:Heap,FnC (CX1 l.prog w) l.prog w K mg base 4 "ways_turned" ["trial", "order"] (sp_wturn c.NoOrder):=fun base=>⟨_,_,ok_ways_turned F18 T (G_check_order base) (G_ways_of base) (G_turned base),PySem.W.mg_of X G a18,k18,b18⟩
  have F19:=fun_mk (st:=s_faces_turned) l19 c19 k19
  have b19:=F19.binds (ps:=["trial", "order"]) fun _ _ _ _ _ _ us hl=>by obtain ⟨_,_,rfl⟩:=len2 hl; rfl
  have G_faces_turned:∀ base:Heap,FnC (CX1 l.prog w) l.prog w K mg base 4 "faces_turned" ["trial", "order"] (sp_fturn c.NoOrder):=fun base=>⟨_,_,ok_faces_turned F19 T (G_check_order base) (G_faces_of base) (G_turned base),PySem.W.mg_of X G a19,k19,b19⟩
  have F20:=fun_mk (st:=s_rule_ways_turned) l20 c20 k20
  have b20:=F20.binds (ps:=["rule", "order"]) fun _ _ _ _ _ _ us hl=>by obtain ⟨_,_,rfl⟩:=len2 hl; rfl
  have G_rule_ways_turned:∀ base:Heap,FnC (CX1 l.prog w) l.prog w K mg base 4 "rule_ways_turned" ["rule", "order"] (sp_rwturn c.NoOrder):=fun base=>⟨_,_,ok_rule_ways_turned F20 T (G_check_order base) (G_rule_ways base) (G_turned base),PySem.W.mg_of X G a20,k20,b20⟩
  have F21:=fun_mk (st:=s_rule_faces_turned) l21 c21 k21
  have b21:=F21.binds (ps:=["rule", "order"]) fun _ _ _ _ _ _ us hl=>by obtain ⟨_,_,rfl⟩:=len2 hl; rfl
  have G_rule_faces_turned:∀ base:Heap,BM mg base→FnC (CX1 l.prog w) l.prog w K mg base 8 "rule_faces_turned" ["rule", "order"] (sp_rfturn c.NoOrder tA):=fun base (hbm:BM mg base)=>⟨_,_,ok_rule_faces_turned F21 T rfl hh21 hbm (G_check_order base) (G_rule_faces base) (G_turned base),PySem.W.mg_of X G a21,k21,b21⟩
  have F22:=fun_mk (st:=s_undone) l22 c22 k22
  have b22:=F22.binds (ps:=["order"]) fun _ _ _ _ _ _ us hl=>by obtain ⟨_,rfl⟩:=len1 hl; rfl
  have G_undone:∀ base:Heap,FnC (CX1 l.prog w) l.prog w K mg base 4 "undone" ["order"] (sp_undone c.NoOrder):=fun base=>⟨_,_,ok_undone F22 T (G_check_order base),PySem.W.mg_of X G a22,k22,b22⟩
  have F23:=fun_mk (st:=s__law_strange) l23 c23 k23
  have b23:=F23.binds (ps:=["_law_error"]) fun _ _ _ _ _ _ us hl=>by obtain ⟨_,rfl⟩:=len1 hl; rfl
  have G__law_strange:=fun base=>fnc l w X G base a23 k23 b23 (ok__law_strange F23 T)
  have F24:=fun_mk (st:=s__law_told) l24 c24 k24
  have b24:=F24.binds (ps:=["_law_way", "_law_thing", "_law_order_here"]) fun _ _ _ _ _ _ us hl=>by obtain ⟨_,_,_,rfl⟩:=len3 hl; rfl
  have G__law_told:=fun base (hbm:BM mg base)=>fnc l w X G base a24 k24 b24 (ok__law_told F24 T (G_ways_turned base) (G_faces_turned base) (G_rule_ways_turned base) (G_rule_faces_turned base hbm) (G__law_strange base))
  have F25:=fun_mk (st:=s__law_undone) l25 c25 k25
  have b25:=F25.binds (ps:=["_law_order_here"]) fun _ _ _ _ _ _ us hl=>by obtain ⟨_,rfl⟩:=len1 hl; rfl
  have G__law_undone:=fun base=>fnc l w X G base a25 k25 b25 (ok__law_undone F25 T (G_undone base) (G__law_strange base))
  have F26:=fun_mk (st:=s__law_placed) l26 c26 k26
  have b26:=F26.binds (ps:=["_law_row", "_law_order_here"]) fun _ _ _ _ _ _ us hl=>by obtain ⟨_,_,rfl⟩:=len2 hl; rfl
  have G__law_placed:=fun base=>fnc l w X G base a26 k26 b26 (ok__law_placed F26 T)
  have F27:=fun_mk (st:=s__law_due) l27 c27 k27
  have b27:=F27.binds (ps:=["_law_way", "_law_thing", "_law_order_here"]) fun _ _ _ _ _ _ us hl=>by obtain ⟨_,_,_,rfl⟩:=len3 hl; rfl
  have G__law_due:=fun base (hbm:BM mg base)=>fnc l w X G base a27 k27 b27 (ok__law_due F27 T rfl hh27 hbm (G__law_placed base))
  have F28:=fun_mk (st:=s__law_order) l28 c28 k28
  have b28:=F28.binds (ps:=["_law_tape_here", "_law_many"]) fun _ _ _ _ _ _ us hl=>by obtain ⟨_,_,rfl⟩:=len2 hl; rfl
  have G__law_order:=fun base=>fnc l w X G base a28 k28 b28 (ok__law_order F28 T (G__law_pick base))
  have F29:=fun_mk (st:=s__law_bent) l29 c29 k29
  have b29:=F29.binds (ps:=["_law_tape_here", "_law_order_here"]) fun _ _ _ _ _ _ us hl=>by obtain ⟨_,_,rfl⟩:=len2 hl; rfl
  have G__law_bent:=fun base=>fnc l w X G base a29 k29 b29 (ok__law_bent F29 T (G__law_pick base))
  have F30:=fun_mk (st:=s_law) l30 c30 k30
  exact ⟨_,fun s v=>.of_eq rfl,fun base _ _ hbm=>ok_law F30 T (G__law_tape base) (G__law_sizes base) (G__law_trial base) (G__law_rule base) (G__law_pick base) (G__law_order base) (G__law_told base hbm) (G__law_due base hbm) (G__law_undone base) (G__law_bent base)⟩
end Kw
namespace PySem.W.Fast
def tw3496550218691613829 := ()
def tw1724218263273451343 := ()
def tw9537265550007966708 := ()
def tw1240296408969947658 := ()
def tw5812117889116847159 := ()
def tw2083200424989080763 := ()
def tw16743740055915230849 := ()
def tw5419732451875008113 := ()
def tw13524402371980140858 := ()
def tw10747130836219302862 := ()
def tw8987088515159072 := ()
def tw12072400522964709651 := ()
def tw6287368436692579912 := ()
def tw16664488516613214414 := ()
def tw16858494618050487281 := ()
def tw14723933593966301743 := ()
def tw15677385090308287624 := ()
def tw2688909463811487068 := ()
def tw13367646812712866628 := ()
def tw14318509014618243238 := ()
def tw309690100251689390 := ()
def tw6422387011210689571 := ()
def tw6425867164021378445 := ()
def tw6727754493535878343 := ()
def tw7951188004934903213 := ()
def tw1282870572193666553 := ()
end PySem.W.Fast
open PySem PySem.W PyProof.Rows
set_option maxRecDepth 100000 in
set_option maxHeartbeats 0 in
theorem PySem.Challenge.cw_earlystop_k27_turned_holds : PySem.Challenge.rw_earlystop_k27_turned.Holds := by
  w_on; o_law; k_head; (case hw=>w_witness2)
  k_fill
  refine L2.walk_ofT (l:=PySem.Challenge.rw_earlystop_k27_turned) (n:=63) (k:=10) (x := "_law_script") (CX:=L2.CX0) (tabs:=fun _=>[(269,267),(363,361)]) (sp:=fun K tabs=>Kw.spT K tabs) ["rule_faces_turned", "_law_due"] rfl (by decide) rfl ⟨rfl,by decide,by decide,rfl⟩ (fun w h Y=>PySem.W.km_in_of Y) (fun y hy=>by simp only [List.mem_cons,List.not_mem_nil,or_false] at hy; rcases hy with rfl | rfl <;> exact Option.isSome_iff_exists.mp (by kernel_rfl)) (fun w=>by kernel_rfl) (fun w t ht=>by simp only [List.mem_cons,List.not_mem_nil,or_false] at ht; rcases ht with rfl | rfl <;> kernel_rfl) ?F (fun K tabs H a ns hl hO hS=>Kw.spT_i hS hl hO) (fun _ _ _ _ z=>z)
  case F =>
    intro w mg fa h KX G hmg
    refine' Kw.all_mk KX G hmg ?u_NoOrder ?u_NoBack ?u_NoBounds ?u_NoFraction ?u_NoLines ?u_NoLook ?u_NoPaper ?u_NoRow ?u_NoRule ?u_NoTrial ?u_ways_turned ?u_faces_turned ?u_rule_ways_turned ?u_rule_faces_turned ?x_NoOrder ?ga_NoOrder ?gt_NoOrder ?su_NoOrder ?cl_NoOrder ?kc_NoOrder ?kg_NoOrder ?kt_NoOrder ?ob_NoOrder ?ty_NoOrder ?cm_NoOrder ?sb_NoOrder ?y0 ?y1 ?y2 ?y3 ?a0 ?l0 ?c0 ?k0 ?a1 ?l1 ?c1 ?k1 ?a2 ?l2 ?c2 ?k2 ?a3 ?l3 ?c3 ?k3 ?a4 ?l4 ?c4 ?k4 ?a5 ?l5 ?c5 ?k5 ?a6 ?l6 ?c6 ?k6 ?a7 ?l7 ?c7 ?k7 ?a8 ?l8 ?c8 ?k8 ?a9 ?l9 ?c9 ?k9 ?a10 ?l10 ?c10 ?k10 ?a11 ?l11 ?c11 ?k11 ?a12 ?l12 ?c12 ?k12 ?a13 ?l13 ?c13 ?k13 ?a14 ?l14 ?c14 ?k14 ?a15 ?l15 ?c15 ?k15 ?a16 ?l16 ?c16 ?k16 ?a17 ?l17 ?c17 ?k17 ?a18 ?l18 ?c18 ?k18 ?a19 ?l19 ?c19 ?k19 ?a20 ?l20 ?c20 ?k20 ?a21 ?l21 ?c21 ?k21 ?hh21 ?a22 ?l22 ?c22 ?k22 ?a23 ?l23 ?c23 ?k23 ?a24 ?l24 ?c24 ?k24 ?a25 ?l25 ?c25 ?k25 ?a26 ?l26 ?c26 ?k26 ?a27 ?l27 ?c27 ?k27 ?hh27 ?a28 ?l28 ?c28 ?k28 ?a29 ?l29 ?c29 ?k29 ?a30 ?l30 ?c30 ?k30 ?z0 ?z1 ?z2 ?z3 ?z4 ?z5 ?z6 ?z7 ?z8 ?z9 ?z10 ?z11 ?z12 ?z13
    (case u_NoOrder=>k_is); (case u_NoBack=>k_is); (case u_NoBounds=>k_is); (case u_NoFraction=>k_is); (case u_NoLines=>k_is); (case u_NoLook=>k_is); (case u_NoPaper=>k_is); (case u_NoRow=>k_is); (case u_NoRule=>k_is); (case u_NoTrial=>k_is); (case u_ways_turned=>k_is); (case u_faces_turned=>k_is); (case u_rule_ways_turned=>k_is); (case u_rule_faces_turned=>k_is); (case x_NoOrder=>k_exc); (case ga_NoOrder=>k_is); (case gt_NoOrder=>k_is); (case su_NoOrder=>k_is); (case cl_NoOrder=>k_is); (case kc_NoOrder=>k_is); (case kg_NoOrder=>k_is); (case kt_NoOrder=>k_is); (case ob_NoOrder=>k_is); (case ty_NoOrder=>k_is); (case cm_NoOrder=>k_is); (case sb_NoOrder=>k_is); (case y0=>k_is); (case y1=>kit_is); (case y2=>kit_is); (case y3=>kit_is); (case a0=>k_is); (case l0=>k_is); (case c0=>k_is); (case k0=>k_is); (case a1=>k_is); (case l1=>k_is); (case c1=>k_is); (case k1=>k_is); (case a2=>k_is); (case l2=>k_is); (case c2=>k_is); (case k2=>k_is); (case a3=>k_is); (case l3=>k_is); (case c3=>k_is); (case k3=>k_is); (case a4=>k_is); (case l4=>k_is); (case c4=>k_is); (case k4=>k_is); (case a5=>k_is); (case l5=>k_is); (case c5=>k_is); (case k5=>k_is); (case a6=>k_is); (case l6=>k_is); (case c6=>k_is); (case k6=>k_is); (case a7=>k_is); (case l7=>k_is); (case c7=>k_is); (case k7=>k_is); (case a8=>k_is); (case l8=>k_is); (case c8=>k_is); (case k8=>k_is); (case a9=>k_is); (case l9=>k_is); (case c9=>k_is); (case k9=>k_is); (case a10=>k_is); (case l10=>k_is); (case c10=>k_is); (case k10=>k_is); (case a11=>k_is); (case l11=>k_is); (case c11=>k_is); (case k11=>k_is); (case a12=>k_is); (case l12=>k_is); (case c12=>k_is); (case k12=>k_is); (case a13=>k_is); (case l13=>k_is); (case c13=>k_is); (case k13=>k_is); (case a14=>k_is); (case l14=>k_is); (case c14=>k_is); (case k14=>k_is); (case a15=>k_is); (case l15=>k_is); (case c15=>k_is); (case k15=>k_is); (case a16=>k_is); (case l16=>k_is); (case c16=>k_is); (case k16=>k_is); (case a17=>k_is); (case l17=>k_is); (case c17=>k_is); (case k17=>k_is); (case a18=>k_is); (case l18=>k_is); (case c18=>k_is); (case k18=>k_is); (case a19=>k_is); (case l19=>k_is); (case c19=>k_is); (case k19=>k_is); (case a20=>k_is); (case l20=>k_is); (case c20=>k_is); (case k20=>k_is); (case a21=>k_is); (case l21=>k_is); (case c21=>k_is); (case k21=>k_is); (case hh21=>kernel_rfl); (case a22=>k_is); (case l22=>k_is); (case c22=>k_is); (case k22=>k_is); (case a23=>k_is); (case l23=>k_is); (case c23=>k_is); (case k23=>k_is); (case a24=>k_is); (case l24=>k_is); (case c24=>k_is); (case k24=>k_is); (case a25=>k_is); (case l25=>k_is); (case c25=>k_is); (case k25=>k_is); (case a26=>k_is); (case l26=>k_is); (case c26=>k_is); (case k26=>k_is); (case a27=>k_is); (case l27=>k_is); (case c27=>k_is); (case k27=>k_is); (case hh27=>kernel_rfl); (case a28=>k_is); (case l28=>k_is); (case c28=>k_is); (case k28=>k_is); (case a29=>k_is); (case l29=>k_is); (case c29=>k_is); (case k29=>k_is); (case a30=>k_is); (case l30=>k_is); (case c30=>k_is); (case k30=>k_is); (case z0=>k_is); (case z1=>k_is); (case z2=>k_is); (case z3=>k_is); (case z4=>k_is); (case z5=>k_is); (case z6=>k_is); (case z7=>k_is); (case z8=>k_is); (case z9=>k_is); (case z10=>k_is); (case z11=>k_is); (case z12=>k_is); (case z13=>k_is)
