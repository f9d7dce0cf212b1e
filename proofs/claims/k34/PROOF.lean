import PyProof.Rows.All
import Wide.All
import OpenK.AllK
import Wide.FinOn
import Lean
import PyProof.EqAt
import PyProof.EqKinds
import PyProof.TupleCall
import KE.IntBitsLaws
import PyProof.ZipIter
import PyProof.ListMulRoad
import PyProof.AutoListH
import PyProof.Rows.SeqMore
import PyProof.Rows.SumAny
import PyProof.SliceStr2
import PyProof.WalksMore
import KE.KSortTup
import PyProof.AttrMissHeap
import PyProof.TupleIter
import KE.KDictOf
import PyProof.DictWalks
import PyProof.DictValues
import KE.KDictList
import PyProof.Rows.MinMaxN
import PyProof.Rows.TupDisplay
import PyProof.DictTruth
import PyProof.Rows.SortRev
import PyProof.Rows.CallKwBuiltin
import PyProof.EnumMake
import PyProof.Rows.StrJoin2
import PyProof.StationsW
import PyProof.Rows.CatchBare
import OpenK.KRaise
import KE.KIsAll
import OpenK.KOwn
import PyProof.ExcInit
import PySem.Challenge.RW_earlystop_k34_watches_refuse
set_option Elab.async false
set_option linter.all false
set_option maxRecDepth 100000
namespace L2
open PySem PySem.Spec PyProof.Rows
abbrev Key:=Sum Int Str
def keyIs:Key→Value→Bool
  | .inl k,v=>Value.isInt k v
  | .inr x,v=>Value.isStrOf x v
def keyH (w:World):Key→Int
  | .inl k=>hashInt k
  | .inr x=>hashStr w x
theorem keyIs_shape:∀ {k:Key} {v:Value},keyIs k v=true→(∃ i t,k=Sum.inl i∧v=Value.int i t)∨(∃ x t,k=Sum.inr x∧v=Value.str x t)
  | .inl i,v,h=>by
    obtain ⟨t,e⟩:=Value.isInt_shape (k:=i) (v:=v) h
    exact .inl ⟨i,t,rfl,e⟩
  | .inr x,v,h=>by
    obtain ⟨t,e⟩:=Value.isStrOf_shape (x:=x) (v:=v) h
    exact .inr ⟨x,t,rfl,e⟩
theorem keyIs_int (i:Int) (t:Tok):keyIs (.inl i) (.int i t)=true:=by simp [keyIs,Value.isInt]
theorem keyIs_str (x:Str) (t:Tok):keyIs (.inr x) (.str x t)=true:=by simp [keyIs,Value.isStrOf]
theorem key_ll (a b:Int):decide ((Sum.inl a:Key)=Sum.inl b)=(a == b):=by
  by_cases e:a=b
  · subst e; simp
  · have h:¬ (Sum.inl a:Key)=Sum.inl b:=fun q=>e (Sum.inl.inj q)
    rw [decide_eq_false h]
    exact (beq_eq_false_iff_ne.mpr e).symm
theorem key_rr (a b:Str):decide ((Sum.inr a:Key)=Sum.inr b)=decide (a=b):=by
  by_cases e:a=b
  · subst e; simp
  · have h:¬ (Sum.inr a:Key)=Sum.inr b:=fun q=>e (Sum.inr.inj q)
    rw [decide_eq_false h,decide_eq_false e]
theorem key_lr (a:Int) (b:Str):decide ((Sum.inl a:Key)=Sum.inr b)=false:=decide_eq_false (fun q=>nomatch q)
theorem key_rl (a:Str) (b:Int):decide ((Sum.inr a:Key)=Sum.inl b)=false:=decide_eq_false (fun q=>nomatch q)
def mixKind (prog:Program) (w:World):PySem.KeyKind prog w Key where
  is:=keyIs
  hash:=keyH w
  inj:=fun v a b ha hb=>by
    rcases keyIs_shape ha with ⟨i,t,rfl,rfl⟩ | ⟨x,t,rfl,rfl⟩
    · rcases keyIs_shape hb with ⟨j,u,rfl,e⟩ | ⟨y,u,rfl,e⟩
      · injection e with e1 _; rw [e1]
      · exact nomatch e
    · rcases keyIs_shape hb with ⟨j,u,rfl,e⟩ | ⟨y,u,rfl,e⟩
      · exact nomatch e
      · injection e with e1 _; rw [e1]
  byValue:=fun k v h=>by
    rcases keyIs_shape h with ⟨i,t,rfl,rfl⟩ | ⟨x,t,rfl,rfl⟩ <;> rfl
  pyHash:=fun hv h=>by
    rcases keyIs_shape hv with ⟨i,t,rfl,rfl⟩ | ⟨x,t,rfl,rfl⟩
    · exact wpAny_pyHash_int h
    · exact wpAny_pyHash_str h
  eqBool:=fun hu hv h=>by
    rcases keyIs_shape hu with ⟨i,t,rfl,rfl⟩ | ⟨x,t,rfl,rfl⟩
    · rcases keyIs_shape hv with ⟨j,u,rfl,rfl⟩ | ⟨y,u,rfl,rfl⟩
      · rw [key_ll] at h; exact wpAny_eqBool_int h
      · rw [key_lr] at h; exact SeqAt.EqAt.int_str i t y u _ _ _ _ h
    · rcases keyIs_shape hv with ⟨j,u,rfl,rfl⟩ | ⟨y,u,rfl,rfl⟩
      · rw [key_rl] at h; exact SeqAt.EqAt.str_int x t j u _ _ _ _ h
      · rw [key_rr] at h; exact wpAny_eqBool_str h
  «strs» := fun k x t v h=>by
    rcases keyIs_shape h with ⟨i,u,rfl,e⟩ | ⟨y,u,rfl,e⟩
    · exact nomatch e
    · injection e with e1 _
      subst e1
      cases v <;> rfl
theorem mixKind_int (prog:Program) (w:World) (i:Int) (t:Tok):(mixKind prog w).is (.inl i) (.int i t)=true:=keyIs_int i t
theorem mixKind_str (prog:Program) (w:World) (x:Str) (t:Tok):(mixKind prog w).is (.inr x) (.str x t)=true:=keyIs_str x t
end L2
namespace L2
open PySem PySem.Spec PyProof.Rows
inductive V where
  | non | bl (b:Bool) | int (i:Int) | str (x:Str) | byt (b:Array UInt8) | flt (b:UInt64) | ref (a:Addr) | ty (n:String)
  deriving DecidableEq
def RelV:V→Value→Prop
  | .non,u=>u=Value.none
  | .bl b,u=>u=Value.bool b
  | .int i,u=>∃ t,u=Value.int i t
  | .str x,u=>∃ t,u=Value.str x t
  | .byt b,u=>∃ t,u=Value.bytes b t
  | .flt b,u=>∃ t,u=Value.float b t
  | .ref a,u=>u=Value.ref a
  | .ty n,u=>u=Value.type n
abbrev Vals:List V→List Value→Prop:=Paired RelV
theorem Vals.length {xs:List V} {us:List Value} (r:Vals xs us):xs.length=us.length:=Paired.length r
theorem Vals.get:∀ {xs:List V} {us:List Value} {i:Nat} {x:V},Vals xs us→xs[i]?=some x→∃ u,us[i]?=some u∧RelV x u
  | _,_,_,_,.nil,e=>by simp at e
  | _,_,0,_,.cons r _,e=>by simp at e; subst e; exact ⟨_,rfl,r⟩
  | _,_,i+1,x,.cons _ t,e=>by
    obtain ⟨u,h1,h2⟩:=Vals.get (i:=i) (x:=x) t (by simpa using e)
    exact ⟨u,by simpa using h1,h2⟩
theorem Vals.set {x:V} {u:Value} (r:RelV x u):∀ {xs:List V} {us:List Value} (i:Nat),Vals xs us→Vals (xs.set i x) (us.set i u)
  | _,_,_,.nil=>.nil
  | _,_,0,.cons _ t=>.cons r t
  | _,_,i+1,.cons q t=>.cons q (Vals.set r i t)
theorem Vals.append:∀ {xs ys:List V} {us ws:List Value},Vals xs us→Vals ys ws→Vals (xs++ys) (us++ws)
  | _,_,_,_,.nil,s=>s
  | _,_,_,_,.cons r t,s=>.cons r (Vals.append t s)
theorem Vals.take:∀ {xs:List V} {us:List Value} (n:Nat),Vals xs us→Vals (xs.take n) (us.take n)
  | _,_,0,_=>.nil
  | _,_,_+1,.nil=>.nil
  | _,_,n+1,.cons r t=>.cons r (Vals.take n t)
theorem Vals.drop:∀ {xs:List V} {us:List Value} (n:Nat),Vals xs us→Vals (xs.drop n) (us.drop n)
  | _,_,0,r=>r
  | _,_,_+1,.nil=>.nil
  | _,_,n+1,.cons _ t=>Vals.drop n t
def RelO:Option V→Option Value→Prop
  | some v,some u=>RelV v u
  | none,none=>True
  | _,_=>False
def KV {κ:Type}:List (κ × V)→List (κ × Value)→Prop:=Paired fun (p:κ × V) (q:κ × Value)=>p.1=q.1∧RelV p.2 q.2
def kV:Key→V
  | .inl i=>.int i
  | .inr x=>.str x
inductive HO where
  /-- a list -/
  | lst (xs:List V)
  /-- a tuple (never changes) -/
  | tup (xs:List V)
  /-- a dict whose keys are ints and texts; one whose keys are tuples of ints and texts (the empty one is both) -/
  | dK (kvs:List (Key × V)) | dT (kvs:List (List Key × V))
  /-- a set of ints: its members,its size -/
  | set (S:Int→Bool) (n:Nat)
  /-- an instance of the class at C,its dict at dx,its attributes -/
  | ins (C dx:Addr) (fs:List (Str × V))
  /-- the dict of the instance at x -/
  | own (x:Addr)
  /-- the dict of an exception -/
  | xd (fs:List (Str × V))
  /-- a bound method,f of x -/
  | met (f x:Addr)
  /-- a range object lo,lo+1,.. below hi -/
  | rng (lo hi:Int)
  /-- a thing that is known to the object (the script; a dict while a loop walks it): read,never written while it is so -/
  | frz (o:Obj) (u:HO)
  /-- a code object's table -/
  | tbl (ps:Array Value)
  /-- any other thing,by what is true of its one object (a def of one's own: SetO a S n:=HO.ext fun h=>..) -/
  | ext (φ:Heap→Prop)
abbrev Hp:=Addr→Option HO
def upd (H:Hp) (a:Addr) (o:HO):Hp:=fun b=>if b=a then some o else H b
theorem upd_same {H:Hp} {a:Addr} {o:HO}:upd H a o a=some o:=by unfold upd; rw [if_pos rfl]
theorem upd_ne {H:Hp} {a b:Addr} {o:HO} (h:b≠a):upd H a o b=H b:=by unfold upd; rw [if_neg h]
theorem upd_upd {H:Hp} {a:Addr} {o u:HO}:upd (upd H a o) a u=upd H a u:=by
  funext b; unfold upd; split <;> rfl
theorem ne_of {H:Hp} {a b:Addr} {o u:HO} (h:H a=some o) (h':H b=some u) (d:o≠u):a≠b:=by
  intro e; subst e; rw [h] at h'; exact d (Option.some.inj h')
theorem ne_of_none {H:Hp} {a b:Addr} {o:HO} (h:H a=some o) (h':H b=none):a≠b:=by
  intro e; subst e; rw [h] at h'; cases h'
section
variable (P:Program) (w:World)
def ObjOk (H:Hp) (h:Heap) (a:Addr):HO→Prop
  | .lst xs=>xs.length≤sizeLine∧∃ (its:List Value) (n:Nat),Vals xs its∧h.get? a=some { cls:=.type "list",data:=.seq its.toArray n }
  | .tup xs=>(xs.length≤sizeLine∧∃ o,h.get? a=some o∧o.dict=none)∧∃ its:List Value,Vals xs its∧IsTup h a its.toArray
  | .dK kvs=>kvs.length≤sizeLine∧(a == sysModules)=false∧∃ vs,KV kvs vs∧h.DictOf (mixKind P w) a vs
  | .dT kvs=>kvs.length≤sizeLine∧(a == sysModules)=false∧∃ xs:List (List Key × Addr × Value),
      Paired (fun (p:List Key × V) (q:List Key × Addr × Value)=>p.1=q.1∧H q.2.1=some (.tup (p.1.map kV))∧RelV p.2 q.2.2) kvs xs ∧
      ∃ o es ep,h.get? a=some o∧o.ExactDict∧o.data=.dict es ep∧es.toList=xs.map (entryOfKey (tupleKind (mixKind P w)))∧(xs.map (·.1)).Nodup
  | .set S n=>h.SetOf (intKind P w) a S n
  | .ins C dx fs=>H dx=some (.own a)∧fs.length≤1000∧dx≠a∧h.get? a=some (PySem.W.instObj C dx) ∧
      ∃ mA,h.Ns1 dx mA∧(∀ f,RelO (fs.lookup f) (mA f))∧PySem.Within mA (fs.map (·.1))
  | .own _=>∃ o,h.get? a=some o
  | .xd fs=>∃ mA,h.Ns1 a mA∧∀ f,RelO (fs.lookup f) (mA f)
  | .rng lo hi=>∃ t u v,h.get? a=some { cls:=.type "range",data:=.fields #[.int lo t,.int hi u,.int 1 v] }
  | .frz o u=>h.get? a=some o∧ObjOk H h a u
  | .tbl ps=>h.get? a=some { cls:=.none,data:=.fields ps }
  | .met f x=>h.get? a=some (PySem.W.methodObj (.ref f) (.ref x))
  | .ext φ=>φ h∧(∃ o,h.get? a=some o)∧∀ h1 h2:Heap,φ h1→(∀ o,h1.get? a=some o→h2.get? a=some o)→φ h2
def HOk (H:Hp) (h:Heap):Prop:=∀ a o,H a=some o→ObjOk P w H h a o
end
section
variable {P:Program} {w:World} {H H':Hp} {h h':Heap} {a:Addr} {o:HO}
theorem ObjOk.lt (x:ObjOk P w H h a o):a<h.objs.size:=by
  cases o with
  | lst xs=>obtain ⟨_,_,_,_,e⟩:=x; exact Heap.lt_size e
  | tup xs=>obtain ⟨_,_,_,p⟩:=x; exact p.lt
  | dK kvs=>obtain ⟨_,_,_,_,o,_,_,e,_⟩:=x; exact Heap.lt_size e
  | dT kvs=>obtain ⟨_,_,_,_,o,_,_,e,_⟩:=x; exact Heap.lt_size e
  | set S n=>obtain ⟨o,_,_,_,e,_⟩:=x; exact Heap.lt_size e
  | ins C dx fs=>obtain ⟨_,_,_,e,_⟩:=x; exact Heap.lt_size e
  | own y=>obtain ⟨_,e⟩:=x; exact Heap.lt_size e
  | xd fs=>obtain ⟨_,⟨_,_,_,e,_⟩,_⟩:=x; exact Heap.lt_size e
  | rng lo hi=>obtain ⟨_,_,_,e⟩:=x; exact Heap.lt_size e
  | frz ob u=>obtain ⟨e,_⟩:=x; exact Heap.lt_size e
  | tbl ps=>exact Heap.lt_size (show h.get? a=some _ from x)
  | met f y=>exact Heap.lt_size (show h.get? a=some _ from x)
  | ext φ=>obtain ⟨_,⟨_,e⟩,_⟩:=x; exact Heap.lt_size e
theorem Paired.mapP {α β:Type} {F G:α→β→Prop}:∀ {l₁:List α} {l₂:List β},Paired F l₁ l₂→(∀ a b,F a b→G a b)→Paired G l₁ l₂
  | _,_,.nil,_=>.nil
  | _,_,.cons r t,f=>.cons (f _ _ r) (Paired.mapP t f)
theorem ObjOk.stay (x:ObjOk P w H h a o) (k:∀ b u,(b=a∨H b=some (.own a))→h.get? b=some u→h'.get? b=some u)
    (ho:∀ b,H b=some (.own a)→H' b=some (.own a)) (ht:∀ b xs,H b=some (.tup xs)→H' b=some (.tup xs)):ObjOk P w H' h' a o:=by
  induction o with
  | lst xs=>obtain ⟨z,its,n,r,e⟩:=x; exact ⟨z,its,n,r,k _ _ (.inl rfl) e⟩
  | tup xs=>obtain ⟨⟨z,on,en,dn⟩,its,r,ob,e,c⟩:=x; exact ⟨⟨z,on,k _ _ (.inl rfl) en,dn⟩,its,r,ob,k _ _ (.inl rfl) e,c⟩
  | dK kvs=>obtain ⟨z,y,vs,r,ob,es,ep,e,c⟩:=x; exact ⟨z,y,vs,r,ob,es,ep,k _ _ (.inl rfl) e,c⟩
  | dT kvs =>
    obtain ⟨z,y,xs,r,ob,es,ep,e,c⟩:=x
    exact ⟨z,y,xs,Paired.mapP r fun p q z=>⟨z.1,ht _ _ z.2.1,z.2.2⟩,ob,es,ep,k _ _ (.inl rfl) e,c⟩
  | set S n=>obtain ⟨ob,es,ep,t,e,c⟩:=x; exact ⟨ob,es,ep,t,k _ _ (.inl rfl) e,c⟩
  | ins C dx fs =>
    obtain ⟨d,z,ne,e,mA,⟨od,es,ep,e2,c⟩,r⟩:=x
    exact ⟨ho _ d,z,ne,k _ _ (.inl rfl) e,mA,⟨od,es,ep,k _ _ (.inr d) e2,c⟩,r⟩
  | own y=>obtain ⟨ob,e⟩:=x; exact ⟨ob,k _ _ (.inl rfl) e⟩
  | xd fs=>obtain ⟨mA,⟨od,es,ep,e,c⟩,r⟩:=x; exact ⟨mA,⟨od,es,ep,k _ _ (.inl rfl) e,c⟩,r⟩
  | rng lo hi=>obtain ⟨t,u,v,e⟩:=x; exact ⟨t,u,v,k _ _ (.inl rfl) e⟩
  | frz ob u ih=>obtain ⟨e,q⟩:=x; exact ⟨k _ _ (.inl rfl) e,ih q⟩
  | tbl ps =>
    have e:h.get? a=some { cls:=.none,data:=.fields ps }:=x
    show h'.get? a=some { cls:=.none,data:=.fields ps }
    exact k a _ (.inl rfl) e
  | met f y =>
    have e:h.get? a=some (PySem.W.methodObj (.ref f) (.ref y)):=x
    show h'.get? a=some (PySem.W.methodObj (.ref f) (.ref y))
    exact k a _ (.inl rfl) e
  | ext φ=>obtain ⟨p,⟨o,e⟩,st⟩:=x; exact ⟨st _ _ p fun o q=>k _ _ (.inl rfl) q,⟨o,k _ _ (.inl rfl) e⟩,st⟩
theorem HOk.lt (x:HOk P w H h) (e:H a=some o):a<h.objs.size:=(x a o e).lt
theorem HOk.fresh (x:HOk P w H h) (e:h.objs.size≤a):H a=none:=by
  cases q:H a with
  | none=>rfl
  | some u=>exact absurd (Nat.lt_of_lt_of_le (x.lt q) e) (Nat.lt_irrefl _)
theorem HOk.kept (x:HOk P w H h) (k:∀ b u,h.get? b=some u→h'.get? b=some u):HOk P w H h':=fun a o e =>
  (x a o e).stay (fun b u _ q=>k b u q) (fun _ q=>q) fun _ _ q=>q
theorem HOk.laid (x:HOk P w H h) (k:∀ b u,h.get? b=some u→h'.get? b=some u) (hp:h.objs.size≤a) (new:ObjOk P w (upd H a o) h' a o):HOk P w (upd H a o) h':=fun b u e=>by
  have hn:=x.fresh hp
  by_cases hb:b=a
  · subst hb; rw [upd_same] at e; cases e; exact new
  · rw [upd_ne hb] at e
    exact (x b u e).stay (fun c v _ q=>k c v q) (fun c q=>by rw [upd_ne (ne_of_none q hn)]; exact q) fun c xs q=>by rw [upd_ne (ne_of_none q hn)]; exact q
end
def Rd (H:Hp) (a:Addr) (u:HO):Prop:=H a=some u∨∃ o,H a=some (.frz o u)
theorem Rd.ok {P:Program} {w:World} {H:Hp} {h:Heap} {a:Addr} {u:HO} (r:Rd H a u) (x:HOk P w H h):ObjOk P w H h a u:=by
  rcases r with r | ⟨o,r⟩
  · exact x a u r
  · obtain ⟨_,q⟩:=x a _ r
    exact q
def Mut:Option HO→Prop
  | some (.lst _)=>True
  | some (.dK _)=>True
  | some (.dT _)=>True
  | some (.set _ _)=>True
  | some (.ins _ _ _)=>True
  | some (.ext _)=>True
  | _=>False
section
variable {P:Program} {w:World} {H:Hp} {h h':Heap} {x e:Addr} {o':HO}
theorem HOk.write (ok:HOk P w H h) (mu:Mut (H x)) (he:e=x∨H e=some (.own x)) (k:∀ b u,b≠e→h.get? b=some u→h'.get? b=some u) (heo:∃ u,h'.get? e=some u)
    (new:ObjOk P w (upd H x o') h' x o'):HOk P w (upd H x o') h':=fun b u q=>by
  have nown:∀ c y,H c=some (.own y)→c≠x:=fun c y r z=>by subst z; rw [r] at mu; exact mu
  have ntup:∀ c xs,H c=some (.tup xs)→c≠x:=fun c xs r z=>by subst z; rw [r] at mu; exact mu
  by_cases hb:b=x
  · subst hb; rw [upd_same] at q; cases q; exact new
  · rw [upd_ne hb] at q
    by_cases hbe:b=e
    · have q':H b=some (.own x):=by
        rcases he with z | z
        · exact absurd (hbe.trans z) hb
        · rw [hbe]; exact z
      rw [q] at q'; cases q'
      obtain ⟨v,hv⟩:=heo
      exact ⟨v,by rw [hbe]; exact hv⟩
    · refine (ok b u q).stay (fun c v hc r=>k c v ?_ r) (fun c r=>by rw [upd_ne (nown c b r)]; exact r) fun c xs r=>by rw [upd_ne (ntup c xs r)]; exact r
      rcases hc with rfl | hc
      · exact hbe
      · rintro rfl
        rcases he with z | z
        · exact nown c b hc z
        · rw [hc] at z; cases z; exact hb rfl
end
structure Un (fs ex:List Addr) (H H':Hp) (h h':Heap):Prop where
  keep:∀ b o,h.get? b=some o→H b=none→b ∉ fs→b ∉ ex→h'.get? b=some o
  slot:∀ b o,h.get? b=some o→H b=none→b∈fs→b ∉ ex→∃ sl,h'.get? b=some { o with slots:=sl }
  free:∀ b o,h.get? b=some o→H b=none→b ∉ ex→H' b=none
  there:∀ b o,h.get? b=some o→b ∉ ex→∃ o',h'.get? b=some o'
  tups:∀ b xs,H b=some (.tup xs)→H' b=some (.tup xs)
  frzs:∀ b o u,H b=some (.frz o u)→H' b=some (.frz o u)
  tbls:∀ b ps,H b=some (.tbl ps)→∃ more,H' b=some (.tbl (ps++more))
section
variable {fs fs' ex ex':List Addr} {H H1 H2:Hp} {h h1 h2 h':Heap} {a x e:Addr} {o:HO}
theorem Un.any (u:Un fs ex H H1 h h1) {b:Addr} {ob:Obj} (q:h.get? b=some ob) (n:H b=none) (hx:b ∉ ex):∃ sl,h1.get? b=some { ob with slots:=sl }:=by
  by_cases hb:b∈fs
  · exact u.slot b ob q n hb hx
  · exact ⟨ob.slots,u.keep b ob q n hb hx⟩
theorem Un.kept (k:∀ b u,h.get? b=some u→h'.get? b=some u):Un fs ex H H h h' :=
  ⟨fun b ob q _ _ _=>k b ob q,fun b ob q _ _ _=>⟨ob.slots,k b ob q⟩,fun _ _ _ n _=>n,fun b ob q _=>⟨ob,k b ob q⟩,fun _ _ q=>q,fun _ _ _ q=>q,fun _ ps q=>⟨#[],by rw [q]; simp⟩⟩
theorem Un.refl:Un fs ex H H h h:=Un.kept fun _ _ q=>q
theorem Un.laid (k:∀ b u,h.get? b=some u→h'.get? b=some u) (hp:h.objs.size≤a) (hn:H a=none):Un fs ex H (upd H a o) h h' where
  keep:=fun b u q _ _ _=>k b u q
  slot:=fun b u q _ _ _=>⟨u.slots,k b u q⟩
  free:=fun b u q n _=>by rw [upd_ne (Nat.ne_of_lt (Nat.lt_of_lt_of_le (Heap.lt_size q) hp))]; exact n
  there:=fun b u q _=>⟨u,k b u q⟩
  tups:=fun b xs q=>by rw [upd_ne (ne_of_none q hn)]; exact q
  frzs:=fun b u xs q=>by rw [upd_ne (ne_of_none q hn)]; exact q
  tbls:=fun b ps q=>⟨#[],by rw [upd_ne (ne_of_none q hn),q]; simp⟩
theorem Un.write (mu:Mut (H x)) (he:e=x∨H e=some (.own x)) (k:∀ b u,b≠e→h.get? b=some u→h'.get? b=some u) (heo:∃ u,h'.get? e=some u):Un fs ex H (upd H x o) h h':=by
  have hx:∀ b,H b=none→b≠x:=fun b n z=>by subst z; rw [n] at mu; exact mu
  have hb:∀ b,H b=none→b≠e:=fun b n z=>by
    subst z
    rcases he with r | r
    · exact hx b n r
    · rw [n] at r; cases r
  have hm:∀ b u,H b=some u→¬ Mut (some u)→b≠x:=fun b u q nm z=>by subst z; rw [q] at mu; exact nm mu
  refine ⟨fun b u q n _ _=>k b u (hb b n) q,fun b u q n _ _=>⟨u.slots,k b u (hb b n) q⟩,fun b u q n _=>by rw [upd_ne (hx b n)]; exact n,fun b u q _=>?_,
    fun b xs q=>by rw [upd_ne (hm b _ q fun z=>z)]; exact q,fun b u xs q=>by rw [upd_ne (hm b _ q fun z=>z)]; exact q,fun b ps q=>⟨#[],by rw [upd_ne (hm b _ q fun z=>z),q]; simp⟩⟩
  by_cases hbe:b=e
  · subst hbe; exact heo
  · exact ⟨u,k b u hbe q⟩
end
def trk (h:Heap) (H:Hp):List Addr:=(List.range h.objs.size).filter fun a=>(H a).isSome
def hidT (h:Heap) (H:Hp):Heap:=PySem.W.hideAll h (trk h H)
theorem hidT_size (h:Heap) (H:Hp):(hidT h H).objs.size=h.objs.size:=PySem.W.hideAll_size _ _
theorem hidT_get {h:Heap} {H:Hp} {b:Addr} {o:Obj} (e:h.get? b=some o) (n:H b=none):(hidT h H).get? b=some o :=
  PySem.W.hideAll_get _ e fun hm=>by
    have q:(H b).isSome=true:=(List.mem_filter.mp hm).2
    rw [n] at q; simp at q
theorem of_hidT {h:Heap} {H:Hp} {b:Addr} {o:Obj} (e:(hidT h H).get? b=some o):h.get? b=some o∧H b=none:=by
  have e':h.get? b=some o:=PySem.W.of_hideAll (trk h H) e
  refine ⟨e',?_⟩
  cases q:H b with
  | none=>rfl
  | some x =>
    have hm:b∈trk h H:=List.mem_filter.mpr ⟨List.mem_range.mpr (Heap.lt_size e'),by simp [q]⟩
    have z:(hidT h H).get? b=none:=PySem.W.hideAll_none (trk h H) hm
    rw [z] at e; cases e
end L2
namespace L2
open PySem PySem.Spec PyProof.Rows
structure Mod (K:PySem.W.Frag) (mg:Str→Option Value) (base:Heap):Prop where
  kin:K.In base
  glob:base.Ns mainGlobals mg
  blt:∃ mb,base.Ns builtinsNs mb∧∀ x:Str,x ≠ "__name__" → mb x=bootBuiltins x
  nolimit:base.NoLimit
/-- the context: a def's body (or a comprehension's block) running. base: fixed through the whole law; s₀,H₀: the entry; outer: the frames whose slots others may change (a def's callers); stack: all frames that run;
   ex: iterators that were made ahead of the entry and are walked here (a comprehension's); fn: the names whose cells were made at the entry (a def: all; a comprehension's block: its own); calm: not within an except suite; pn: pins that every state bears; xe: what is wanted of an exception that leaves the code -/
structure Cx where
  prog:Program
  w:World
  K:PySem.W.Frag
  mg:Str→Option Value
  base:Heap
  A:Around
  N:List Str
  s₀:Shared
  H₀:Hp
  env:Env
  outer:List Env
  stack:List Env
  ex:List Addr
  fn:Str→Bool
  calm:Bool
  pn:List (Addr × Obj)
  xe:Value→Shared→Prop
def frs (l:List Env):List Addr:=l.filterMap (·.frame)
abbrev Cx.fs (X:Cx):List Addr:=frs X.outer
def Vis (sc:Scope) (x:Str):Prop:=sc.names.lookup x=some .local∨sc.names.lookup x=some .cell∨sc.names.lookup x=some .free
def Loc (sc:Scope) (x:Str):Prop:=sc.names.lookup x=some .local∨sc.names.lookup x=some .cell
def Look (env:Env) (h:Heap) (m:Str→Option Value) (x:Str) (u:Value):Prop :=
  (env.kindOf x=some .local∧m x=some u)∨((env.kindOf x=some .cell∨env.kindOf x=some .free)∧∃ c,env.cells.lookup x=some c∧h.IsCell c (some u))
structure Cx.Ok (X:Cx):Prop where
  mod:Mod X.K X.mg X.base
  kind:X.env.scope.kind=.function
  glob:X.env.globals=mainGlobals
  blt:X.env.builtins=builtinsNs
  above:X.s₀.heap.objs.size≤X.env.locals
  inj:∀ x y c,X.env.cells.lookup x=some c→X.env.cells.lookup y=some c→x=y
  has:∀ x,(X.env.kindOf x=some .cell∨X.env.kindOf x=some .free)→∃ c,X.env.cells.lookup x=some c
  cab:∀ x c,X.fn x=true→X.env.cells.lookup x=some c→X.s₀.heap.objs.size≤c
  hd:X.calm=true→X.A.handled=none
  frames:X.A.frames=some X.stack
  stk:X.stack=X.outer∨(X.stack=X.env::X.outer∧X.env.frame=some X.env.locals)
  exf:∀ b∈X.ex,b≠X.env.locals∧∀ x c,X.env.cells.lookup x=some c→c≠b
  bs:∀ b o,X.base.get? b=some o→X.s₀.heap.get? b=some o∧X.H₀ b=none
  bsz:X.base.objs.size≤X.s₀.heap.objs.size
  noex:∀ b o,X.base.get? b=some o→b ∉ X.ex
  exfs:∀ b∈X.ex,b ∉ X.fs
  funs:X.s₀.heap.FunFrames X.base X.outer
  frf:∀ b∈X.fs,X.H₀ b=none
structure Inv (X:Cx) (pins:List (Addr × Obj)) (σ:List (Option V)) (H:Hp) (s:Shared):Prop where
  ok:X.Ok
  os:s.os=X.s₀.os
  bare:AllBare s.gens
  base:Un X.fs X.ex X.H₀ H X.s₀.heap s.heap
  loc:∃ m,s.heap.Ns X.env.locals m∧∀ (i:Nat) (x:Str) (v:V),X.N[i]?=some x→σ[i]?=some (some v)→Vis X.env.scope x→∃ u,RelV v u∧Look X.env s.heap m x u
  cell:∀ x c,X.env.cells.lookup x=some c→∃ v,s.heap.IsCell c v
  free:H X.env.locals=none
  freeC:∀ x c,X.env.cells.lookup x=some c→H c=none
  pin:∀ p∈X.pn++pins,s.heap.get? p.1=some p.2∧H p.1=none∧p.1≠X.env.locals∧p.1 ∉ X.fs∧∀ v,p.2.data ≠ .cell v
  hok:HOk X.prog X.w H s.heap
  len:σ.length=X.N.length
section
variable {X:Cx} {pins:List (Addr × Obj)} {σ:List (Option V)} {H H':Hp} {s:Shared} {h':Heap}
theorem Cx.Ok.nofr (ok:X.Ok) {b:Addr} {o:Obj} (e:X.base.get? b=some o):b ∉ X.fs:=fun hb=>by
  have:=(ok.funs.mem hb).1
  rw [e] at this; cases this
theorem Inv.bs (I:Inv X pins σ H s):∀ b o,X.base.get? b=some o→s.heap.get? b=some o∧H b=none:=fun b o e =>
  ⟨I.base.keep b o (I.ok.bs b o e).1 (I.ok.bs b o e).2 (I.ok.nofr e) (I.ok.noex b o e),I.base.free b o (I.ok.bs b o e).1 (I.ok.bs b o e).2 (I.ok.noex b o e)⟩
theorem Inv.bk (I:Inv X pins σ H s):∀ b o,X.base.get? b=some o→s.heap.get? b=some o:=fun b o e=>(I.bs b o e).1
theorem Inv.mod (I:Inv X pins σ H s):Mod X.K X.mg X.base:=I.ok.mod
theorem Inv.kIn (I:Inv X pins σ H s):X.K.In s.heap:=I.ok.mod.kin.keeps I.bk
theorem Inv.lt (I:Inv X pins σ H s):X.env.locals<s.heap.objs.size:=let ⟨_,hn,_⟩:=I.loc; hn.lt
theorem Inv.sz (I:Inv X pins σ H s):X.s₀.heap.objs.size≤s.heap.objs.size:=Nat.le_trans I.ok.above (Nat.le_of_lt I.lt)
theorem Inv.nofs (I:Inv X pins σ H s) {a:Addr} (h:s.heap.objs.size≤a):a ∉ X.fs:=fun hb=>by
  obtain ⟨_,o,ho,_⟩:=I.ok.funs.mem hb
  exact absurd (Nat.lt_of_lt_of_le (Heap.lt_size ho) (Nat.le_trans I.sz h)) (Nat.lt_irrefl _)
theorem Inv.cne (I:Inv X pins σ H s):∀ x c,X.env.cells.lookup x=some c→c≠X.env.locals:=fun x c e z=>by
  obtain ⟨v,o,ho,hd⟩:=I.cell x c e
  obtain ⟨m,⟨o',es,ep,ho',hd',_⟩,_⟩:=I.loc
  rw [z,ho'] at ho; cases ho; rw [hd'] at hd; cases hd
theorem Inv.funs (I:Inv X pins σ H s):s.heap.FunFrames X.base X.outer:=by
  have all:∀ (l:List Env),(∀ b∈frs l,b∈X.fs)→X.s₀.heap.FunFrames X.base l→s.heap.FunFrames X.base l:=by
    intro l
    induction l with
    | nil=>intro _ _; trivial
    | cons env r ih =>
      intro hs hl
      obtain ⟨hk,⟨L,o,hf,hn,ho,hd⟩,hr⟩:=hl
      have hL:L∈X.fs:=hs L (by unfold frs; rw [List.filterMap_cons,hf]; exact List.mem_cons_self)
      obtain ⟨sl,e⟩:=I.base.slot L o ho (I.ok.frf L hL) hL fun z=>I.ok.exfs L z hL
      exact ⟨hk,⟨L,_,hf,hn,e,hd⟩,ih (fun b hb=>hs b (by unfold frs; rw [List.filterMap_cons,hf]; exact List.mem_cons_of_mem _ hb)) hr⟩
  exact all X.outer (fun _ hb=>hb) I.ok.funs
theorem Inv.stack (I:Inv X pins σ H s):s.heap.FunFrames X.base X.stack:=by
  rcases I.ok.stk with e | ⟨e,hf⟩
  · rw [e]; exact I.funs
  · rw [e]
    obtain ⟨m,hn,_⟩:=I.loc
    refine .cons (by rw [I.ok.kind]; decide) hf hn ?_ I.funs
    exact Heap.get?_none_of_le (Nat.le_trans I.ok.bsz I.ok.above)
theorem Inv.stkSub (I:Inv X pins σ H s):∀ b∈frs X.stack,b∈X.env.locals::X.fs:=fun b hb=>by
  rcases I.ok.stk with e | ⟨e,hf⟩
  · rw [e] at hb; exact List.mem_cons_of_mem _ hb
  · rw [e] at hb
    unfold frs at hb
    rw [List.filterMap_cons,hf] at hb
    exact hb
theorem Inv.stkFree (I:Inv X pins σ H s):∀ b∈frs X.stack,H b=none:=fun b hb=>by
  rcases List.mem_cons.mp (I.stkSub b hb) with e | hb
  · rw [e]; exact I.free
  · obtain ⟨_,o,ho,_⟩:=I.ok.funs.mem hb
    exact I.base.free b o ho (I.ok.frf b hb) fun z=>I.ok.exfs b z hb
theorem Inv.step {g':Array GenState} {t':Nat} {d':Drawn} {ch:List Addr} (I:Inv X pins σ H s)
    (hch:∀ b∈ch,(b∈X.ex∨X.s₀.heap.objs.size≤b)∧b≠X.env.locals∧(∀ x c,X.env.cells.lookup x=some c→c≠b)∧∀ p∈X.pn++pins,p.1≠b)
    (keep:∀ b o,b≠X.env.locals→b ∉ X.fs→b ∉ ch→s.heap.get? b=some o→H b=none→h'.get? b=some o)
    (slot:∀ b o,b≠X.env.locals→b∈X.fs→b ∉ ch→s.heap.get? b=some o→H b=none→∃ sl,h'.get? b=some { o with slots:=sl }) (free:∀ b o,b ∉ ch→s.heap.get? b=some o→H b=none→H' b=none)
    (there:∀ b o,b ∉ ch→s.heap.get? b=some o→∃ o',h'.get? b=some o')
    (tups:∀ b xs,H b=some (.tup xs)→H' b=some (.tup xs)) (frzs:∀ b o u,H b=some (.frz o u)→H' b=some (.frz o u)) (tbls:∀ b ps,H b=some (.tbl ps)→∃ more,H' b=some (.tbl (ps++more)))
    (ns:∀ m,s.heap.Ns X.env.locals m→h'.Ns X.env.locals m) (hok:HOk X.prog X.w H' h') (hg:AllBare g') :
    Inv X pins σ H' { s with heap:=h',gens:=g',drawn:=d',toks:=t' }:=by
  have neL:∀ b o,X.s₀.heap.get? b=some o→b≠X.env.locals:=fun b o e=>Nat.ne_of_lt (Nat.lt_of_lt_of_le (Heap.lt_size e) I.ok.above)
  have neC:∀ b o,X.s₀.heap.get? b=some o→b ∉ X.ex→b ∉ ch:=fun b o e hx hb=>by
    rcases (hch b hb).1 with z | z
    · exact hx z
    · exact absurd (Nat.lt_of_lt_of_le (Heap.lt_size e) z) (Nat.lt_irrefl _)
  have cellK:∀ x c,X.env.cells.lookup x=some c→∀ v,s.heap.IsCell c v→h'.IsCell c v:=fun x c e v ⟨o,ho,hd⟩=>by
    have nch:c ∉ ch:=fun z=>(hch c z).2.2.1 x c e rfl
    by_cases hc:c∈X.fs
    · obtain ⟨sl,q⟩:=slot c o (I.cne x c e) hc nch ho (I.freeC x c e)
      exact ⟨_,q,hd⟩
    · exact ⟨o,keep c o (I.cne x c e) hc nch ho (I.freeC x c e),hd⟩
  refine ⟨I.ok,I.os,hg,⟨fun b o e n hb hx=>?_,fun b o e n hb hx=>?_,fun b o e n hx=>?_,fun b o e hx=>?_,fun b xs e=>tups b xs (I.base.tups b xs e),fun b o xs e=>frzs b o xs (I.base.frzs b o xs e),fun b ps e=>?_⟩,?_,fun x c e=>?_,?_,fun x c e=>?_,fun p hp=>?_,hok,I.len⟩
  · exact keep b o (neL b o e) hb (neC b o e hx) (I.base.keep b o e n hb hx) (I.base.free b o e n hx)
  · obtain ⟨sl,e1⟩:=I.base.slot b o e n hb hx
    obtain ⟨sl',e2⟩:=slot b _ (neL b o e) hb (neC b o e hx) e1 (I.base.free b o e n hx)
    exact ⟨sl',e2⟩
  · obtain ⟨o',e1⟩:=I.base.there b o e hx
    exact free b o' (neC b o e hx) e1 (I.base.free b o e n hx)
  · obtain ⟨o',e1⟩:=I.base.there b o e hx
    exact there b o' (neC b o e hx) e1
  · obtain ⟨m1,e1⟩:=I.base.tbls b ps e
    obtain ⟨m2,e2⟩:=tbls b _ e1
    exact ⟨m1++m2,by rw [e2,Array.append_assoc]⟩
  · obtain ⟨m,hn,hl⟩:=I.loc
    refine ⟨m,ns m hn,fun i x v e1 e2 e3=>?_⟩
    obtain ⟨u,r,l⟩:=hl i x v e1 e2 e3
    refine ⟨u,r,?_⟩
    rcases l with l | ⟨k,c,e,z⟩
    · exact .inl l
    · exact .inr ⟨k,c,e,cellK x c e _ z⟩
  · obtain ⟨v,z⟩:=I.cell x c e
    exact ⟨v,cellK x c e v z⟩
  · obtain ⟨m,⟨o,_,_,ho,_⟩,_⟩:=I.loc
    exact free _ o (fun z=>(hch _ z).2.1 rfl) ho I.free
  · obtain ⟨v,o,ho,hd⟩:=I.cell x c e
    exact free c o (fun z=>(hch c z).2.2.1 x c e rfl) ho (I.freeC x c e)
  · obtain ⟨e,n,ne,nf,d⟩:=I.pin p hp
    have nch:p.1 ∉ ch:=fun z=>(hch p.1 z).2.2.2 p hp rfl
    exact ⟨keep p.1 p.2 ne nf nch e n,free p.1 p.2 nch e n,ne,nf,d⟩
theorem Inv.un {t':Nat} (I:Inv X pins σ H s) (u:Un X.fs [] H H' s.heap h') (hok:HOk X.prog X.w H' h'):Inv X pins σ H' { s with heap:=h',toks:=t' }:=by
  obtain ⟨m,⟨o,es,ep,ho,r⟩,_⟩:=id I.loc
  obtain ⟨sl,hL⟩:=u.any ho I.free (by simp)
  exact I.step (g':=s.gens) (d':=s.drawn) (ch:=[]) (fun _ z=>nomatch z) (fun b o _ hb _ e n=>u.keep b o e n hb (by simp)) (fun b o _ hb _ e n=>u.slot b o e n hb (by simp)) (fun b o _ e n=>u.free b o e n (by simp)) (fun b o _ e=>u.there b o e (by simp)) u.tups u.frzs u.tbls (fun m' hm=>by
    obtain ⟨o',es',ep',ho',r'⟩:=hm
    rw [ho] at ho'; cases ho'
    exact ⟨_,es',ep',hL,r'⟩) hok I.bare
theorem Inv.call {g':Array GenState} {t':Nat} {d':Drawn} {ch:List Addr} (I:Inv X pins σ H s) (u:Un (frs X.stack) ch H H' s.heap h') (hok:HOk X.prog X.w H' h') (hg:AllBare g')
    (hch:∀ b∈ch,(b∈X.ex∨X.s₀.heap.objs.size≤b)∧b≠X.env.locals∧(∀ x c,X.env.cells.lookup x=some c→c≠b)∧∀ p∈X.pn++pins,p.1≠b) :
    Inv X pins σ H' { s with heap:=h',gens:=g',drawn:=d',toks:=t' }:=by
  obtain ⟨m,⟨o,es,ep,ho,r⟩,_⟩:=id I.loc
  obtain ⟨sl,hL⟩:=u.any ho I.free fun z=>(hch _ z).2.1 rfl
  exact I.step (ch:=ch) hch (fun b o hL hb hc e n=>u.keep b o e n (fun z=>(List.mem_cons.mp (I.stkSub b z)).elim hL hb) hc) (fun b o _ _ hc e n=>u.any e n hc) (fun b o hc e n=>u.free b o e n hc) (fun b o hc e=>u.there b o e hc) u.tups u.frzs u.tbls (fun m' hm=>by
    obtain ⟨o',es',ep',ho',r'⟩:=hm
    rw [ho] at ho'; cases ho'
    exact ⟨_,es',ep',hL,r'⟩) hok hg
theorem Inv.turned {t':Nat} {it:Addr} (I:Inv X pins σ H s) (k:∀ b o,b≠it→s.heap.get? b=some o→h'.get? b=some o) (hn:H it=none) (hL:it≠X.env.locals)
    (h1:it∈X.ex∨X.s₀.heap.objs.size≤it) (h2:∀ x c,X.env.cells.lookup x=some c→c≠it) (h3:∀ p∈X.pn++pins,p.1≠it):Inv X pins σ H { s with heap:=h',toks:=t' }:=by
  have nit:∀ b u,H b=some u→b≠it:=fun b u e z=>by rw [z,hn] at e; cases e
  refine I.step (g':=s.gens) (d':=s.drawn) (ch:=[it]) (fun b hb=>?_) (fun b o _ _ hc e _=>k b o (fun z=>hc (by simp [z])) e) (fun b o _ _ hc e _=>⟨o.slots,k b o (fun z=>hc (by simp [z])) e⟩) (fun _ _ _ _ n=>n)
    (fun b o hc e=>⟨o,k b o (fun z=>hc (by simp [z])) e⟩) (fun _ _ e=>e) (fun _ _ _ e=>e) (fun b ps e=>⟨#[],by rw [e]; simp⟩) (fun m hm=>?_) (fun b u e=>?_) I.bare
  · have e:b=it:=by simpa using hb
    subst e
    exact ⟨h1,hL,h2,h3⟩
  · obtain ⟨o,es,ep,ho,r⟩:=hm
    exact ⟨o,es,ep,k _ o (Ne.symm hL) ho,r⟩
  · refine (I.hok b u e).stay (fun c v hc q=>k c v ?_ q) (fun _ q=>q) fun _ _ q=>q
    rcases hc with z | z
    · rw [z]; exact nit b u e
    · exact nit c _ z
theorem Inv.tok (I:Inv X pins σ H s) (t:Nat):Inv X pins σ H { s with toks:=t }:=I.un (h':=s.heap) (t':=t) Un.refl I.hok
theorem Inv.kept {t':Nat} (I:Inv X pins σ H s) (k:∀ b u,s.heap.get? b=some u→h'.get? b=some u):Inv X pins σ H { s with heap:=h',toks:=t' }:=I.un (Un.kept k) (I.hok.kept k)
theorem Inv.laid {a:Addr} {o:HO} {t':Nat} (I:Inv X pins σ H s) (k:∀ b u,s.heap.get? b=some u→h'.get? b=some u) (hp:s.heap.objs.size≤a) (new:ObjOk X.prog X.w (upd H a o) h' a o) :
    Inv X pins σ (upd H a o) { s with heap:=h',toks:=t' }:=I.un (Un.laid k hp (I.hok.fresh hp)) (I.hok.laid k hp new)
theorem Inv.write {x e:Addr} {o:HO} {t':Nat} (I:Inv X pins σ H s) (mu:Mut (H x)) (he:e=x∨H e=some (.own x)) (k:∀ b u,b≠e→s.heap.get? b=some u→h'.get? b=some u) (heo:∃ u,h'.get? e=some u)
    (new:ObjOk X.prog X.w (upd H x o) h' x o):Inv X pins σ (upd H x o) { s with heap:=h',toks:=t' }:=I.un (Un.write mu he k heo) (I.hok.write mu he k heo new)
theorem Inv.pins_of {pins':List (Addr × Obj)} (I:Inv X pins σ H s) (h:∀ p∈pins',s.heap.get? p.1=some p.2∧H p.1=none∧p.1≠X.env.locals∧p.1 ∉ X.fs∧∀ v,p.2.data ≠ .cell v):Inv X pins' σ H s :=
  ⟨I.ok,I.os,I.bare,I.base,I.loc,I.cell,I.free,I.freeC,fun p hp=>(List.mem_append.mp hp).elim (fun z=>I.pin p (List.mem_append_left _ z)) (h p),I.hok,I.len⟩
theorem nodup_ix {N:List Str} (hN:N.Nodup) {i j:Nat} {x:Str} (a:N[i]?=some x) (b:N[j]?=some x):i=j:=by
  obtain ⟨h1,e1⟩:=List.getElem?_eq_some_iff.mp a
  obtain ⟨h2,e2⟩:=List.getElem?_eq_some_iff.mp b
  exact (List.getElem_inj hN).mp (e1.trans e2.symm)
theorem store_ok2 {M:Model} {A:Around} {E:Value→Shared→Prop} {i:Nat} {x:Str} {v:V} {u:Value} {Q:Unit→Shared→Prop} (I:Inv X pins σ H s) (hN:X.N.Nodup) (hi:X.N[i]?=some x) (hx:Loc X.env.scope x) (r:RelV v u)
    (h:∀ s',Inv X pins (σ.set i (some v)) H s'→(∃ a,Heap.SameBut a s.heap s'.heap∧(a=X.env.locals∨X.env.cells.lookup x=some a))→Q () s') (hf:X.fn x=true∨X.env.scope.names.lookup x=some .local:=by first | exact .inl rfl | exact .inr rfl | assumption):wpAny M A (storeName X.env x u) Q E s:=by
  obtain ⟨m,hn,hl⟩:=id I.loc
  have hcls:(X.env.scope.kind == .class || (X.env.scope.kind == .module&&X.env.locals != X.env.globals))=false:=by rw [I.ok.kind]; rfl
  have hiσ:i<σ.length:=by rw [I.len]; exact (List.getElem?_eq_some_iff.mp hi).1
  have cne:=I.cne
  have tracked:∀ {a:Addr} {h':Heap},(∃ o,s.heap.get? a=some o∧H a=none)→Heap.SameBut a s.heap h'→HOk X.prog X.w H h':=fun {a h'} ha hs b ob e=>by
    obtain ⟨_,_,hfree⟩:=ha
    refine (I.hok b ob e).stay (fun c w' hc q=>(hs.2 c ?_).trans q) (fun _ q=>q) fun _ _ q=>q
    rintro rfl
    rcases hc with rfl | hc
    · rw [hfree] at e; cases e
    · rw [hfree] at hc; cases hc
  rcases hx with hk | hk
  · refine wpAny_storeName_local hk hn (fun h' hn' hs=>?_) hcls
    obtain ⟨oL,_,_,hoL,_⟩:=id hn
    refine h _ ⟨I.ok,I.os,I.bare,⟨fun b o e n hb hx=>?_,fun b o e n hb hx=>?_,I.base.free,fun b o e hx=>?_,I.base.tups,I.base.frzs,I.base.tbls⟩,⟨_,hn',fun j y v' e1 e2 e3=>?_⟩,fun y c e=>?_,I.free,I.freeC,fun p hp=>?_,tracked ⟨oL,hoL,I.free⟩ hs,by simpa using I.len⟩ ⟨_,hs,.inl rfl⟩
    · exact (hs.2 b (Nat.ne_of_lt (Nat.lt_of_lt_of_le (Heap.lt_size e) I.ok.above))).trans (I.base.keep b o e n hb hx)
    · obtain ⟨sl,e1⟩:=I.base.slot b o e n hb hx
      exact ⟨sl,(hs.2 b (Nat.ne_of_lt (Nat.lt_of_lt_of_le (Heap.lt_size e) I.ok.above))).trans e1⟩
    · obtain ⟨o',e1⟩:=I.base.there b o e hx
      exact ⟨o',(hs.2 b (Nat.ne_of_lt (Nat.lt_of_lt_of_le (Heap.lt_size e) I.ok.above))).trans e1⟩
    · by_cases hj:j=i
      · subst hj
        rw [hi] at e1; cases e1
        rw [List.getElem?_set_self hiσ] at e2
        cases e2
        exact ⟨u,r,.inl ⟨hk,by simp⟩⟩
      · rw [List.getElem?_set_ne (Ne.symm hj)] at e2
        obtain ⟨u',r',q⟩:=hl j y v' e1 e2 e3
        refine ⟨u',r',?_⟩
        rcases q with ⟨k,e⟩ | ⟨k,c,e,z⟩
        · refine .inl ⟨k,?_⟩
          have:y≠x:=fun e=>hj (nodup_ix hN e1 (e ▸ hi))
          simp [this,e]
        · exact .inr ⟨k,c,e,z.sameBut hs (cne y c e)⟩
    · obtain ⟨w',z⟩:=I.cell y c e
      exact ⟨w',z.sameBut hs (cne y c e)⟩
    · obtain ⟨e,n,ne,nf,d⟩:=I.pin p hp
      exact ⟨(hs.2 p.1 ne).trans e,n,ne,nf,d⟩
  · have hfn:X.fn x=true:=by
      rcases hf with z | z
      · exact z
      · rw [z] at hk; cases hk
    obtain ⟨c,hc⟩:=I.ok.has x (.inl hk)
    obtain ⟨w',z⟩:=I.cell x c hc
    refine wpAny_storeName_cell I.ok.kind hk hc z (fun h' hc' hs=>?_)
    obtain ⟨oc,hoc,hocd⟩:=id z
    refine h { s with heap:=h' } ⟨I.ok,I.os,I.bare,⟨fun b o e n hb hx=>?_,fun b o e n hb hx=>?_,I.base.free,fun b o e hx=>?_,I.base.tups,I.base.frzs,I.base.tbls⟩,⟨m,hn.sameBut hs (Ne.symm (cne x c hc)),fun j y v' e1 e2 e3=>?_⟩,fun y c' e=>?_,I.free,I.freeC,fun p hp=>?_,tracked ⟨oc,hoc,I.freeC x c hc⟩ hs,by simpa using I.len⟩ ⟨c,hs,.inr hc⟩
    · exact (hs.2 b (Nat.ne_of_lt (Nat.lt_of_lt_of_le (Heap.lt_size e) (I.ok.cab x c hfn hc)))).trans (I.base.keep b o e n hb hx)
    · obtain ⟨sl,e1⟩:=I.base.slot b o e n hb hx
      exact ⟨sl,(hs.2 b (Nat.ne_of_lt (Nat.lt_of_lt_of_le (Heap.lt_size e) (I.ok.cab x c hfn hc)))).trans e1⟩
    · obtain ⟨o',e1⟩:=I.base.there b o e hx
      exact ⟨o',(hs.2 b (Nat.ne_of_lt (Nat.lt_of_lt_of_le (Heap.lt_size e) (I.ok.cab x c hfn hc)))).trans e1⟩
    · by_cases hj:j=i
      · subst hj
        rw [hi] at e1; cases e1
        rw [List.getElem?_set_self hiσ] at e2
        cases e2
        exact ⟨u,r,.inr ⟨.inl hk,c,hc,hc'⟩⟩
      · rw [List.getElem?_set_ne (Ne.symm hj)] at e2
        obtain ⟨u',r',q⟩:=hl j y v' e1 e2 e3
        refine ⟨u',r',?_⟩
        rcases q with q | ⟨k,c',e,z'⟩
        · exact .inl q
        · refine .inr ⟨k,c',e,z'.sameBut hs ?_⟩
          rintro rfl
          exact hj (nodup_ix hN e1 (I.ok.inj _ _ _ e hc ▸ hi))
    · by_cases hcc:c'=c
      · subst hcc; exact ⟨_,hc'⟩
      · obtain ⟨w2,z2⟩:=I.cell y c' e
        exact ⟨w2,z2.sameBut hs hcc⟩
    · obtain ⟨e,n,ne,nf,d⟩:=I.pin p hp
      refine ⟨(hs.2 p.1 ?_).trans e,n,ne,nf,d⟩
      intro q
      rw [q,hoc] at e
      have q':oc=p.2:=Option.some.inj e
      exact d w' (by rw [← q']; exact hocd)
theorem store_ok {M:Model} {A:Around} {E:Value→Shared→Prop} {i:Nat} {x:Str} {v:V} {u:Value} {Q:Unit→Shared→Prop} (I:Inv X pins σ H s) (hN:X.N.Nodup) (hi:X.N[i]?=some x) (hx:Loc X.env.scope x) (r:RelV v u)
    (h:∀ s',Inv X pins (σ.set i (some v)) H s'→Q () s') (hf:X.fn x=true∨X.env.scope.names.lookup x=some .local:=by first | exact .inl rfl | exact .inr rfl | assumption):wpAny M A (storeName X.env x u) Q E s :=
  store_ok2 I hN hi hx r (fun s' I' _=>h s' I') hf
theorem Inv.call' {s':Shared} {ch:List Addr} (I:Inv X pins σ H s) (ho:s'.os=s.os) (u:Un (frs X.stack) ch H H' s.heap s'.heap) (hok:HOk X.prog X.w H' s'.heap) (hg:AllBare s'.gens)
    (hch:∀ b∈ch,(b∈X.ex∨X.s₀.heap.objs.size≤b)∧b≠X.env.locals∧(∀ x c,X.env.cells.lookup x=some c→c≠b)∧∀ p∈X.pn++pins,p.1≠b):Inv X pins σ H' s':=by
  obtain ⟨h',g',d',t',o'⟩:=s'
  have e:o'=s.os:=ho
  subst e
  exact I.call (g':=g') (t':=t') (d':=d') u hok hg hch
end
abbrev XK:=Value→Option Addr→Hp→Prop
abbrev St:=List (Option V)
abbrev VK:=V→Hp→Prop
abbrev TE:=St→Hp→VK→Prop
abbrev TT:=St→Hp→(Bool→Hp→Prop)→Prop
abbrev TA:=St→Hp→(List V→Hp→Prop)→Prop
structure Ends where
  nx:St→Hp→Prop
  rt:VK
  bk:St→Hp→Prop:=fun _ _=>False
  ct:St→Hp→Prop:=fun _ _=>False
abbrev TS:=Ends→St→Hp→Prop
def EP (X:Cx) (pins:List (Addr × Obj)) (σ:St) (Q:VK) (u:Value) (s':Shared):Prop:=∃ v H',Inv X pins σ H' s'∧RelV v u∧Q v H'
def TP (X:Cx) (pins:List (Addr × Obj)) (σ:St) (Q:Bool→Hp→Prop) (b:Bool) (s':Shared):Prop:=∃ H',Inv X pins σ H' s'∧Q b H'
def AP (X:Cx) (pins:List (Addr × Obj)) (σ:St) (Q:List V→Hp→Prop) (us:List Value) (s':Shared):Prop:=∃ vs H',Inv X pins σ H' s'∧Vals vs us∧Q vs H'
def SP (X:Cx) (pins:List (Addr × Obj)) (D:Ends) (f:Flow) (s':Shared):Prop :=
  match f with
  | .next=>∃ σ' H',Inv X pins σ' H' s'∧D.nx σ' H'
  | .brk=>∃ σ' H',Inv X pins σ' H' s'∧D.bk σ' H'
  | .cont=>∃ σ' H',Inv X pins σ' H' s'∧D.ct σ' H'
  | .ret u=>∃ v σ' H',Inv X pins σ' H' s'∧RelV v u∧D.rt v H'
def PE (X:Cx) (e:Expr) (t:TE):Prop :=
  ∀ (pins:List (Addr × Obj)) (s:Shared) (σ:St) (H:Hp) (Q:VK),Inv X pins σ H s→t σ H Q→wpAny (model X.prog X.w) X.A (eval e X.env) (EP X pins σ Q) X.xe s
def PT (X:Cx) (e:Expr) (t:TT):Prop :=
  ∀ (pins:List (Addr × Obj)) (s:Shared) (σ:St) (H:Hp) (Q:Bool→Hp→Prop),Inv X pins σ H s→t σ H Q→wpAny (model X.prog X.w) X.A (isTrue e X.env (eval e X.env)) (TP X pins σ Q) X.xe s
def PW (X:Cx) (e:Expr) (t:TT):Prop :=
  ∀ (whole:Sem Value) (pins:List (Addr × Obj)) (s:Shared) (σ:St) (H:Hp) (Q:Bool→Hp→Prop),Inv X pins σ H s→t σ H Q→wpAny (model X.prog X.w) X.A (isTrue e X.env whole) (TP X pins σ Q) X.xe s
theorem PW.pt {X:Cx} {e:Expr} {t:TT} (h:PW X e t):PT X e t:=h _
def PA (X:Cx) (es:List Expr) (t:TA):Prop :=
  ∀ (pos:Pos) (pins:List (Addr × Obj)) (s:Shared) (σ:St) (H:Hp) (Q:List V→Hp→Prop),Inv X pins σ H s→t σ H Q→wpAny (model X.prog X.w) X.A (spliced (backTo pos (starEach es X.env))) (AP X pins σ Q) X.xe s
def PS (X:Cx) (st:Stmt) (t:TS):Prop :=
  ∀ (pins:List (Addr × Obj)) (s:Shared) (σ:St) (H:Hp) (D:Ends),Inv X pins σ H s→t D σ H→wpAny (model X.prog X.w) X.A (exec st X.env) (SP X pins D) X.xe s
def PSs (X:Cx) (st:List Stmt) (t:TS):Prop :=
  ∀ (pins:List (Addr × Obj)) (s:Shared) (σ:St) (H:Hp) (D:Ends),Inv X pins σ H s→t D σ H→wpAny (model X.prog X.w) X.A (execs st X.env) (SP X pins D) X.xe s
theorem thn {α:Type} {t:Sem α} {Q Q':α→Shared→Prop} {M:Model} {A:Around} {E:Value→Shared→Prop} {s:Shared} (h:wpAny M A t Q E s) (hQ:∀ a s,Q a s→Q' a s):wpAny M A t Q' E s:=wpAny_mono h hQ fun _ _ x=>x
end L2
namespace L2
open PySem PySem.Spec PyProof.Rows
section
variable {X:Cx}
def tVar (i:Nat):TE:=fun σ H Q=>∃ v,σ[i]?=some (some v)∧Q v H
def tC (v:V):TE:=fun _ H Q=>Q v H
theorem pe_var {i:Nat} {x:Str} {pos:Pos} (hN:X.N[i]?=some x) (hv:Vis X.env.scope x) (hd:(x == ("__debug__" : Str))=false:=by decide) (hcd:(x == ("__classdict__" : Str))=false:=by decide):PE X (.Name x pos) (tVar i):=by
  intro pins s σ H Q I h
  obtain ⟨v,e,h⟩:=h
  obtain ⟨m,hn,hl⟩:=I.loc
  obtain ⟨u,r,l⟩:=hl i x v hN e hv
  have fin:EP X pins σ Q u s:=⟨v,H,I,r,h⟩
  rcases l with ⟨hk,hm⟩ | ⟨hk,c,hc,hcell⟩
  · exact wpAny_Name (wpAny_loadName_local I.ok.kind hk hn hm fin) hd
  · rcases hk with hk | hk
    · exact wpAny_Name (wpAny_loadName_cell I.ok.kind hk hc hcell fin) hd
    · exact wpAny_Name (wpAny_loadName_free I.ok.kind hk hc hcell fin hcd) hd
theorem pe_int {i j pos}:PE X (.Constant (.int i) j pos) (tC (.int i)):=fun _ _ _ H _ I h=>wpAny_Constant_int ⟨.int i,H,I.tok _,⟨_,rfl⟩,h⟩
theorem pe_bl {b j pos}:PE X (.Constant (.bool b) j pos) (tC (.bl b)):=fun _ _ _ H _ I h=>Constant_bool ⟨.bl b,H,I,rfl,h⟩
theorem pe_non {j pos}:PE X (.Constant .none j pos) (tC .non):=fun _ _ _ H _ I h=>Constant_none ⟨.non,H,I,rfl,h⟩
theorem pe_str {x j pos}:PE X (.Constant (.str x) j pos) (tC (.str x)):=fun _ _ _ H _ I h=>Calls.Constant_str ⟨.str x,H,I.tok _,⟨_,rfl⟩,h⟩
def Gl (X:Cx) (x:Str):Prop:=X.env.kindOf x=some .globalImplicit
theorem ld_glob {E:Value→Shared→Prop} {pins:List (Addr × Obj)} {s:Shared} {σ:St} {H:Hp} {x:Str} {u:Value} {pos:Pos} {Q:Value→Shared→Prop} (I:Inv X pins σ H s) (hg:Gl X x) (hm:X.mg x=some u) (h:Q u s)
    (hd:(x == ("__debug__" : Str))=false:=by decide):wpAny (model X.prog X.w) X.A (eval (.Name x pos) X.env) Q E s :=
  Calls.Name_function_global I.ok.kind hg (Calls.loadGlobal_global (by rw [I.ok.glob]; exact I.mod.glob.keeps I.bk) hm h) hd
theorem ld_blt {E:Value→Shared→Prop} {pins:List (Addr × Obj)} {s:Shared} {σ:St} {H:Hp} {x:Str} {u:Value} {pos:Pos} {Q:Value→Shared→Prop} (I:Inv X pins σ H s) (hg:Gl X x) (hm:X.mg x=none) (hv:bootBuiltins x=some u) (h:Q u s)
    (hn:x ≠ "__name__" := by decide) (hd:(x == ("__debug__" : Str))=false:=by decide):wpAny (model X.prog X.w) X.A (eval (.Name x pos) X.env) Q E s:=by
  obtain ⟨mb,h1,h2⟩:=I.mod.blt
  exact Calls.Name_function_global I.ok.kind hg (Calls.loadGlobal_builtin (by rw [I.ok.glob]; exact I.mod.glob.keeps I.bk) hm (by rw [I.ok.blt]; exact h1.keeps I.bk) ((h2 x hn).trans hv) h) hd
theorem pe_glob {x:Str} {v:V} {u:Value} {pos:Pos} (hg:Gl X x) (hm:X.mg x=some u) (r:RelV v u) (hd:(x == ("__debug__" : Str))=false:=by decide):PE X (.Name x pos) (tC v) :=
  fun _ _ _ H _ I h=>ld_glob I hg hm ⟨v,H,I,r,h⟩ hd
theorem pe_bltn {x:Str} {v:V} {u:Value} {pos:Pos} (hg:Gl X x) (hm:X.mg x=none) (hv:bootBuiltins x=some u) (r:RelV v u) (hn:x ≠ "__name__" := by decide) (hd:(x == ("__debug__" : Str))=false:=by decide):PE X (.Name x pos) (tC v) :=
  fun _ _ _ H _ I h=>ld_blt I hg hm hv ⟨v,H,I,r,h⟩ hn hd
variable {a b:Expr} {ta tb:TE} {pos:Pos}
def tB (t:TE):TT:=fun σ H Q=>t σ H fun x H1=>∃ c,x=.bl c∧Q c H1
theorem pt_val {e:Expr} {t:TE} (h:PE X e t) (he:∀ whole,isTrue e X.env whole=(do let v ← whole; standAt e.pos; holding [v] (truthy v)):=by intro _; rfl):PT X e (tB t):=by
  intro pins s σ H Q I hw
  refine isTrue_plain (thn (h pins s σ H _ I hw) fun v s1 ⟨x,H1,I1,r1,q1⟩=>?_) (he _)
  obtain ⟨d,rfl,q⟩:=q1
  cases r1
  exact wpAny_truthy_bool ⟨H1,I1,q⟩
variable {tA tB':TT} {rest:List Expr}
def tAnd (t u:TT):TT:=fun σ H Q=>t σ H fun c H1=>if c=true then u σ H1 Q else Q false H1
def tOr (t u:TT):TT:=fun σ H Q=>t σ H fun c H1=>if c=true then Q true H1 else u σ H1 Q
def tNot (t:TT):TT:=fun σ H Q=>t σ H fun c H1=>Q (!c) H1
theorem pw_and1 (ha:PT X a tA):PW X (.BoolOp .And [a] pos) tA:=by
  intro wh pins s σ H Q I h
  refine isTrue_and (thn (ha pins s σ H Q I h) fun c s1 e=>?_)
  cases c with
  | true=>exact isTrue_and_nil e
  | false=>exact e
theorem pw_or1 (ha:PT X a tA):PW X (.BoolOp .Or [a] pos) tA:=by
  intro wh pins s σ H Q I h
  refine isTrue_or (thn (ha pins s σ H Q I h) fun c s1 e=>?_)
  cases c with
  | false=>exact isTrue_or_nil e
  | true=>exact e
theorem pw_and (ha:PT X a tA) (hb:PW X (.BoolOp .And (b::rest) pos) tB'):PW X (.BoolOp .And (a::b::rest) pos) (tAnd tA tB'):=by
  intro wh pins s σ H Q I h
  refine isTrue_and (thn (ha pins s σ H _ I h) fun c s1 ⟨H1,I1,q1⟩=>?_)
  cases c with
  | true=>exact hb wh pins s1 σ H1 Q I1 q1
  | false=>exact ⟨H1,I1,q1⟩
theorem pw_or (ha:PT X a tA) (hb:PW X (.BoolOp .Or (b::rest) pos) tB'):PW X (.BoolOp .Or (a::b::rest) pos) (tOr tA tB'):=by
  intro wh pins s σ H Q I h
  refine isTrue_or (thn (ha pins s σ H _ I h) fun c s1 ⟨H1,I1,q1⟩=>?_)
  cases c with
  | true=>exact ⟨H1,I1,q1⟩
  | false=>exact hb wh pins s1 σ H1 Q I1 q1
theorem pt_not (ha:PT X a tA):PT X (.UnaryOp .Not a pos) (tNot tA):=by
  intro pins s σ H Q I h
  exact isTrue_not (ha pins s σ H (fun c H1=>Q (!c) H1) I h)
def tAndV (ta tb:TE):TE:=fun σ H Q=>ta σ H fun x H1=>∃ c,x=.bl c∧if c=true then tb σ H1 Q else Q (.bl false) H1
def tNotV (ta:TE):TE:=fun σ H Q=>ta σ H fun x H1=>∃ c,x=.bl c∧Q (.bl (!c)) H1
theorem pe_one {op} {t:TE} (h:PE X a t):PE X (.BoolOp op [a] pos) t:=fun pins s σ H Q I hw=>BoolOp_one (h pins s σ H Q I hw)
theorem pe_and (ha:PE X a ta) (hb:PE X (.BoolOp .And (b::rest) pos) tb):PE X (.BoolOp .And (a::b::rest) pos) (tAndV ta tb):=by
  intro pins s σ H Q I h
  refine BoolOp_and (thn (ha pins s σ H _ I h) fun v s1 ⟨x,H1,I1,r1,q1⟩=>?_)
  obtain ⟨c,rfl,q1⟩:=q1
  cases r1
  refine wpAny_truthy_bool ?_
  cases c with
  | true=>exact hb pins s1 σ H1 Q I1 q1
  | false=>exact ⟨.bl false,H1,I1,rfl,q1⟩
theorem pe_not (ha:PE X a ta):PE X (.UnaryOp .Not a pos) (tNotV ta):=by
  intro pins s σ H Q I h
  refine UnaryOp_ (thn (ha pins s σ H _ I h) fun v s1 ⟨x,H1,I1,r1,q1⟩=>?_)
  obtain ⟨c,rfl,q1⟩:=q1
  cases r1
  exact not_of (wpAny_truthy_bool ⟨.bl (!c),H1,I1,rfl,q1⟩)
def tIf (t:TT) (ta tb:TE):TE:=fun σ H Q=>t σ H fun c H1=>if c=true then ta σ H1 Q else tb σ H1 Q
theorem pe_ifExp {c:Expr} (hc:PT X c tA) (ha:PE X a ta) (hb:PE X b tb):PE X (.IfExp c a b pos) (tIf tA ta tb):=by
  intro pins s σ H Q I h
  refine wpAny_IfExp (thn (hc pins s σ H _ I h) fun d s1 ⟨H1,I1,q1⟩=>?_)
  cases d with
  | true=>exact ha pins s1 σ H1 Q I1 q1
  | false=>exact hb pins s1 σ H1 Q I1 q1
end
end L2
namespace L2
open PySem PySem.Spec PyProof.Rows
def SqL (K:PySem.W.Frag) (H:Hp) (a:Addr) (xs:List V):Prop :=
  Rd H a (.lst xs) ∨
    ∃ (o:Obj) (its:Array Value) (n:Nat),K.lookup a=some o∧o.cls=.type "list" ∧ o.dict=none∧o.data=.seq its n∧its.size≤sizeLine∧Vals xs its.toList
def SqT (K:PySem.W.Frag) (H:Hp) (a:Addr) (xs:List V):Prop :=
  Rd H a (.tup xs) ∨
    ∃ (o:Obj) (its:Array Value) (n:Nat),K.lookup a=some o∧o.cls=.type "tuple" ∧ o.data=.seq its n∧its.size≤sizeLine∧Vals xs its.toList
def absV:Value→Option V
  | .none=>some .non
  | .bool b=>some (.bl b)
  | .int i _=>some (.int i)
  | .str x _=>some (.str x)
  | .bytes b _=>some (.byt b)
  | .float b _=>some (.flt b)
  | .ref a=>some (.ref a)
  | .type n=>some (.ty n)
  | _=>none
theorem RelV.abs {x:V} {u:Value} (r:RelV x u):absV u=some x:=by
  cases x with
  | non=>cases r; rfl
  | bl _=>cases r; rfl
  | int _=>obtain ⟨t,rfl⟩:=r; rfl
  | str _=>obtain ⟨t,rfl⟩:=r; rfl
  | byt _=>obtain ⟨t,rfl⟩:=r; rfl
  | flt _=>obtain ⟨t,rfl⟩:=r; rfl
  | ref _=>cases r; rfl
  | ty _=>cases r; rfl
theorem RelV.inj {x y:V} {u:Value} (r:RelV x u) (q:RelV y u):x=y:=Option.some.inj (r.abs.symm.trans q.abs)
theorem Vals.inj:∀ {xs ys:List V} {us:List Value},Vals xs us→Vals ys us→xs=ys
  | _,_,_,.nil,.nil=>rfl
  | _,_,_,.cons r t,.cons r' t'=>by rw [r.inj r',Vals.inj t t']
section
variable {X:Cx} {pins:List (Addr × Obj)} {σ:St} {H:Hp} {s:Shared} {a:Addr} {xs ys:List V}
theorem SqL.of {K:PySem.W.Frag} (h:H a=some (.lst xs)):SqL K H a xs:=.inl (.inl h)
theorem SqT.of {K:PySem.W.Frag} (h:H a=some (.tup xs)):SqT K H a xs:=.inl (.inl h)
theorem Inv.list (I:Inv X pins σ H s) (h:SqL X.K H a xs):∃ its:List Value,Vals xs its∧PlainL s.heap a its.toArray∧xs.length≤sizeLine:=by
  rcases h with h | ⟨o,its,n,hk,hc,hd,hs,hz,r⟩
  · obtain ⟨z,its,n,r,e⟩:=h.ok I.hok
    exact ⟨its,r,⟨_,n,e,rfl,rfl,rfl⟩,z⟩
  · refine ⟨its.toList,r,⟨o,n,I.kIn a o hk,hc,hd,by simpa using hs⟩,?_⟩
    have e:=r.length
    simp only [Array.length_toList] at e
    omega
theorem Inv.tuple (I:Inv X pins σ H s) (h:SqT X.K H a xs):∃ its:List Value,Vals xs its∧IsTup s.heap a its.toArray∧xs.length≤sizeLine:=by
  rcases h with h | ⟨o,its,n,hk,hc,hs,hz,r⟩
  · obtain ⟨⟨z,_⟩,its,r,p⟩:=h.ok I.hok
    exact ⟨its,r,p,z⟩
  · refine ⟨its.toList,r,⟨o,I.kIn a o hk,hc,n,by simpa using hs⟩,?_⟩
    have e:=r.length
    simp only [Array.length_toList] at e
    omega
theorem Inv.list_inj (I:Inv X pins σ H s) (h:SqL X.K H a xs) (h':SqL X.K H a ys):xs=ys:=by
  obtain ⟨its,r,⟨o,n,e,_,_,d⟩,_⟩:=I.list h
  obtain ⟨its',r',⟨o',n',e',_,_,d'⟩,_⟩:=I.list h'
  rw [e] at e'; cases e'
  rw [d] at d'
  injection d' with d1 _
  have:its=its':=by simpa using congrArg Array.toList d1
  subst this
  exact r.inj r'
theorem Inv.tuple_inj (I:Inv X pins σ H s) (h:SqT X.K H a xs) (h':SqT X.K H a ys):xs=ys:=by
  obtain ⟨its,r,⟨o,e,_,n,d⟩,_⟩:=I.tuple h
  obtain ⟨its',r',⟨o',e',_,n',d'⟩,_⟩:=I.tuple h'
  rw [e] at e'; cases e'
  rw [d] at d'
  injection d' with d1 _
  have:its=its':=by simpa using congrArg Array.toList d1
  subst this
  exact r.inj r'
end
abbrev Cx.wish (X:Cx) (E:Value→Shared→Prop):Cx:={ X with xe:=E }
abbrev Cx.nox (X:Cx):Cx:=X.wish fun _ _=>False
theorem Cx.Ok.wish {X:Cx} (ok:X.Ok) (E:Value→Shared→Prop):(X.wish E).Ok :=
  ⟨ok.mod,ok.kind,ok.glob,ok.blt,ok.above,ok.inj,ok.has,ok.cab,ok.hd,ok.frames,ok.stk,ok.exf,ok.bs,ok.bsz,ok.noex,ok.exfs,ok.funs,ok.frf⟩
theorem Cx.Ok.unwish {X:Cx} {E:Value→Shared→Prop} (ok:(X.wish E).Ok):X.Ok :=
  ⟨ok.mod,ok.kind,ok.glob,ok.blt,ok.above,ok.inj,ok.has,ok.cab,ok.hd,ok.frames,ok.stk,ok.exf,ok.bs,ok.bsz,ok.noex,ok.exfs,ok.funs,ok.frf⟩
section
variable {X:Cx} {pins:List (Addr × Obj)} {σ:St} {H:Hp} {s:Shared} {E:Value→Shared→Prop}
theorem Inv.wish (I:Inv X pins σ H s) (E:Value→Shared→Prop):Inv (X.wish E) pins σ H s:=⟨I.ok.wish E,I.os,I.bare,I.base,I.loc,I.cell,I.free,I.freeC,I.pin,I.hok,I.len⟩
theorem Inv.unwish (I:Inv (X.wish E) pins σ H s):Inv X pins σ H s:=⟨I.ok.unwish,I.os,I.bare,I.base,I.loc,I.cell,I.free,I.freeC,I.pin,I.hok,I.len⟩
theorem SP.unwish {D:Ends} {f:Flow} {s':Shared} (h:SP (X.wish E) pins D f s'):SP X pins D f s':=by
  cases f with
  | next=>obtain ⟨σ',H',I,q⟩:=h; exact ⟨σ',H',I.unwish,q⟩
  | brk=>obtain ⟨σ',H',I,q⟩:=h; exact ⟨σ',H',I.unwish,q⟩
  | cont=>obtain ⟨σ',H',I,q⟩:=h; exact ⟨σ',H',I.unwish,q⟩
  | ret u=>obtain ⟨v,σ',H',I,r,q⟩:=h; exact ⟨v,σ',H',I.unwish,r,q⟩
theorem PSs.nox {st:List Stmt} {t:TS} (h:PSs X.nox st t):PSs X st t:=fun pins s σ H D I hw =>
  wpAny_mono (h pins s σ H D (I.wish _) hw) (fun _ _ q=>q.unwish) fun _ _ z=>False.elim z
end
section
variable {X:Cx} {st:Stmt} {rest:List Stmt} {t u:TS} {e:Expr} {te:TE} {pos:Pos}
def tNext:TS:=fun D σ H=>D.nx σ H
def tSeq (t u:TS):TS:=fun D σ H=>t { D with nx:=u D } σ H
theorem pss_nil:PSs X [] tNext:=fun _ _ σ H _ I h=>wpAny_execs_nil ⟨σ,H,I,h⟩
theorem pss_cons (h1:PS X st t) (h2:PSs X rest u):PSs X (st::rest) (tSeq t u):=by
  intro pins s σ H D I h
  refine wpAny_execs_cons (thn (h1 pins s σ H { D with nx:=u D } I h) fun f s1 q=>?_)
  cases f with
  | next =>
    obtain ⟨σ',H',I',q⟩:=q
    exact h2 pins s1 σ' H' D I' q
  | ret v=>exact q
  | brk=>exact q
  | cont=>exact q
theorem pss_one (h1:PS X st t):PSs X [st] t:=by
  intro pins s σ H D I h
  refine wpAny_execs_cons (thn (h1 pins s σ H D I h) fun f s1 q=>?_)
  cases f with
  | next=>exact wpAny_execs_nil q
  | ret v=>exact q
  | brk=>exact q
  | cont=>exact q
theorem Inv.quiet {pins:List (Addr × Obj)} {σ:St} {H:Hp} {s:Shared} (I:Inv X pins σ H s):interactive X.env=false:=by simp [interactive,I.ok.kind]
def tDrop (te:TE):TS:=fun D σ H=>te σ H fun _ H1=>D.nx σ H1
theorem ps_expr (he:PE X e te) (hs:swapsWith e none pos.line X.env=pure false:=by rfl):PS X (.Expr e pos) (tDrop te):=by
  intro pins s σ H D I h
  exact wpAny_Expr_any (thn (he pins s σ H _ I h) fun v s1 ⟨x,H1,I1,r1,q1⟩=>⟨σ,H1,I1,q1⟩) I.quiet hs
def tRet (te:TE):TS:=fun D σ H=>te σ H D.rt
theorem ps_ret (he:PE X e te):PS X (.Return (some e) pos) (tRet te):=by
  intro pins s σ H D I h
  exact wpAny_Return_some (thn (he pins s σ H _ I h) fun v s1 ⟨x,H1,I1,r1,q1⟩=>⟨x,σ,H1,I1,r1,q1⟩)
def tIfS (c:TT) (t u:TS):TS:=fun D σ H=>c σ H fun b H1=>if b=true then t D σ H1 else u D σ H1
theorem ps_if {c:Expr} {a b:List Stmt} {tc:TT} (hc:PT X c tc) (ha:PSs X a t) (hb:PSs X b u):PS X (.If c a b pos) (tIfS tc t u):=by
  intro pins s σ H D I h
  refine wpAny_If (thn (hc pins s σ H _ I h) fun d s1 ⟨H1,I1,q1⟩=>?_)
  cases d with
  | true=>exact ha pins s1 σ H1 D I1 q1
  | false=>exact hb pins s1 σ H1 D I1 q1
end
abbrev TG:=V→St→Hp→(St→Hp→Prop)→Prop
abbrev TGs:=List V→St→Hp→(St→Hp→Prop)→Prop
def PG (X:Cx) (target:Expr) (t:TG):Prop :=
  ∀ (pins:List (Addr × Obj)) (s:Shared) (σ:St) (H:Hp) (v:V) (u:Value) (Q:St→Hp→Prop),Inv X pins σ H s→RelV v u→t v σ H Q →
    wpAny (model X.prog X.w) X.A (assign target X.env u) (fun _ s'=>∃ σ' H',Inv X pins σ' H' s'∧Q σ' H') X.xe s
def PGs (X:Cx) (ts:List Expr) (t:TGs):Prop :=
  ∀ (pins:List (Addr × Obj)) (s:Shared) (σ:St) (H:Hp) (vs:List V) (us:List Value) (Q:St→Hp→Prop),Inv X pins σ H s→Vals vs us→t vs σ H Q →
    wpAny (model X.prog X.w) X.A (assignInOrder ((assignEach ts X.env).map (·.2)) us) (fun _ s'=>∃ σ' H',Inv X pins σ' H' s'∧Q σ' H') X.xe s
abbrev TSet:=V→V→V→Hp→(Hp→Prop)→Prop
def PSet (X:Cx) (t:TSet):Prop :=
  ∀ (pins:List (Addr × Obj)) (s:Shared) (σ:St) (H:Hp) (o i v:V) (ov iv u:Value) (Q:Hp→Prop),Inv X pins σ H s→RelV o ov→RelV i iv→RelV v u→t o i v H Q →
    wpAny (model X.prog X.w) X.A (setItem ov iv u) (fun _ s'=>∃ H',Inv X pins σ H' s'∧Q H') X.xe s
section
variable {X:Cx} {pos:Pos}
def gName (i:Nat):TG:=fun v σ H Q=>Q (σ.set i (some v)) H
theorem pg_name {i:Nat} {x:Str} (hN:X.N.Nodup) (hi:X.N[i]?=some x) (hx:Loc X.env.scope x) (hf:X.fn x=true∨X.env.scope.names.lookup x=some .local:=by first | exact .inl rfl | exact .inr rfl | assumption):PG X (.Name x pos) (gName i):=by
  intro pins s σ H v u Q I r h
  exact wpAny_assign_Name (store_ok I hN hi hx r (fun s' I'=>⟨_,H,I',h⟩) hf)
def gNil:TGs:=fun vs σ H Q=>vs=[]∧Q σ H
def gCons (t:TG) (u:TGs):TGs:=fun vs σ H Q=>∃ v r,vs=v::r∧t v σ H fun σ' H'=>u r σ' H' Q
theorem pgs_nil:PGs X [] gNil:=by
  intro pins s σ H vs us Q I r h
  obtain ⟨e,h⟩:=h
  subst e
  cases r
  exact assignInOrder_nil ⟨σ,H,I,h⟩
theorem pgs_cons {e:Expr} {es:List Expr} {t:TG} {u:TGs} (h1:PG X e t) (h2:PGs X es u)
    (hs:(assignEach (e::es) X.env).map (·.2)=assign e X.env::(assignEach es X.env).map (·.2):=by rfl):PGs X (e::es) (gCons t u):=by
  intro pins s σ H vs us Q I r h
  obtain ⟨v,vr,e1,h⟩:=h
  subst e1
  cases r with
  | cons r rr =>
    rw [hs]
    refine assignInOrder_cons (thn (h1 pins s σ H _ _ _ I r h) fun _ s1 ⟨σ1,H1,I1,q1⟩=>?_)
    exact h2 pins s1 σ1 H1 _ _ Q I1 rr q1
def gTup (K:PySem.W.Frag) (n:Nat) (t:TGs):TG:=fun v σ H Q=>∃ a xs,v=.ref a∧SqT K H a xs∧xs.length=n∧t xs σ H Q
theorem pg_tup {es:List Expr} {k:Nat} {t:TGs} {n:Nat} (hc:X.calm=true) (h:PGs X es t)
    (hn:(assignEach es X.env).length=n:=by rfl) (hst:(assignEach es X.env).findIdx? (·.1)=none:=by rfl):PG X (.Tuple es k pos) (gTup X.K n t):=by
  intro pins s σ H v u Q I r hw
  obtain ⟨a,xs,e1,hq,hl,hw⟩:=hw
  subst e1
  cases r
  obtain ⟨its,rv,ht,hz⟩:=I.tuple hq
  refine assign_Tuple_tuple (I.ok.hd hc) ht (by simp [hn,← hl,rv.length]) hst fun h' hx=>?_
  have I1:Inv X pins σ H { s with heap:=h' }:=I.kept (t':=s.toks) fun b o e=>hx b o (Nat.ne_of_lt (Heap.lt_size e)) e
  exact h pins _ σ H xs _ Q I1 (by simpa using rv) hw
def gSub (to ti:TE) (t:TSet):TG:=fun v σ H Q=>to σ H fun o H1=>ti σ H1 fun i H2=>t o i v H2 fun H3=>Q σ H3
theorem pg_sub {o i:Expr} {to ti:TE} {t:TSet} (ho:PE X o to) (hi:PE X i ti) (hs:PSet X t)
    (ha:∀ v,assign (.Subscript o i pos) X.env v=(do
      let ov ← holding [v] (eval o X.env)
      let iv ← holding [v,ov] (eval i X.env)
      standAt pos
      holding [v,ov,iv] (setItem ov iv v)
      release [v,ov,iv] []):=by intro _; rfl):PG X (.Subscript o i pos) (gSub to ti t):=by
  intro pins s σ H v u Q I r h
  rw [ha]
  refine wpAny_bind (wpAny_holding (thn (ho pins s σ H _ I h) fun ov s1 ⟨x,H1,I1,r1,q1⟩=>?_))
  refine wpAny_bind (wpAny_holding (thn (hi pins s1 σ H1 _ I1 q1) fun iv s2 ⟨y,H2,I2,r2,q2⟩=>?_))
  refine wpAny_bind (wpAny_standAt (wpAny_bind (wpAny_holding (thn (hs pins s2 σ H2 x y v ov iv u _ I2 r1 r2 r q2) fun _ s3 ⟨H3,I3,q3⟩=>?_))))
  exact wpAny_release ⟨σ,H3,I3,q3⟩
def tAsg (te:TE) (g:TG):TS:=fun D σ H=>te σ H fun x H1=>g x σ H1 D.nx
theorem ps_asg {tg e:Expr} {te:TE} {g:TG} (he:PE X e te) (hg:PG X tg g) (hs:swapsWithSole [tg] e pos.line X.env=pure false:=by rfl) (hw:swappedStores [tg] e X.env=pure none:=by rfl)
    (h1:(assignEach [tg] X.env).map (·.2)=[assign tg X.env]:=by rfl):PS X (.Assign [tg] e pos) (tAsg te g):=by
  intro pins s σ H D I h
  refine wpAny_Assign_stores (thn (he pins s σ H _ I h) fun v s1 ⟨x,H1,I1,r1,q1⟩=>?_) hs hw
  rw [h1]
  exact thn (hg pins s1 σ H1 x v _ I1 r1 q1) fun _ s2 q=>q
theorem ps_set {i:Nat} {x:Str} {e:Expr} {te:TE} {pos':Pos} (hN:X.N.Nodup) (hi:X.N[i]?=some x) (hx:Loc X.env.scope x) (he:PE X e te) (hs:swapsWith e (some (.Name x pos')) pos.line X.env=pure false:=by rfl) (hf:X.fn x=true∨X.env.scope.names.lookup x=some .local:=by first | exact .inl rfl | exact .inr rfl | assumption) :
    PS X (.Assign [.Name x pos'] e pos) (tAsg te (gName i)):=by
  intro pins s σ H D I h
  refine wpAny_Assign_Name (thn (he pins s σ H _ I h) fun v s1 ⟨y,H1,I1,r1,q1⟩=>?_) hs
  exact store_ok I1 hN hi hx r1 (fun s2 I2=>⟨_,H1,I2,q1⟩) hf
def tPar (i j:Nat) (ta:TA):TS:=fun D σ H=>ta σ H fun vs H1=>∃ v w,vs=[v,w]∧D.nx ((σ.set i (some v)).set j (some w)) H1
theorem ps_par {i j:Nat} {x y:Str} {a b:Expr} {ta:TA} {px py pt:Pos} {kt k2 pt2} (hc:X.calm=true) (hN:X.N.Nodup) (hi:X.N[i]?=some x) (hj:X.N[j]?=some y) (hij:i≠j)
    (hx:X.env.scope.names.lookup x=some .local) (hy:X.env.scope.names.lookup y=some .local) (ha:PA X [a,b] ta)
    (hw:swappedStores [.Tuple [.Name x px,.Name y py] kt pt] (.Tuple [a,b] k2 pt2) X.env=pure (some [x,y]))
    (hs:swapsWithSole [.Tuple [.Name x px,.Name y py] kt pt] (.Tuple [a,b] k2 pt2) pos.line X.env=pure false:=by rfl) :
    PS X (.Assign [.Tuple [.Name x px,.Name y py] kt pt] (.Tuple [a,b] k2 pt2) pos) (tPar i j ta):=by
  intro pins s σ H D I h
  rw [exec_Assign_arm]
  refine wpAny_bind (wpAny_standAt ?_)
  rw [hs]
  refine wpAny_bind (wpAny_pure ?_)
  rw [if_neg (by decide)]
  refine wpAny_bind (Tuple_ (thn (ha _ pins s σ H _ I h) fun us s1 ⟨vs,H1,I1,r1,q1⟩=>?_))
  obtain ⟨v,w,e1,q1⟩:=q1
  subst e1
  obtain ⟨u1,u2,rfl,rv,rw'⟩:∃ u1 u2,us=[u1,u2]∧RelV v u1∧RelV w u2:=by
    cases r1 with
    | cons p q =>
      cases q with
      | cons p' q' =>
        cases q'
        exact ⟨_,_,rfl,p,p'⟩
  refine wpAny_newObj_type ?_ (by show 2≤sizeLine; decide)
  have I2:Inv X pins σ H1 { s1 with heap:=s1.heap.push { cls:=.type "tuple",data:=.seq [u1,u2].toArray } }:=I1.kept (t':=s1.toks) fun b o e=>Heap.get?_push_of_some _ e
  rw [hw]
  refine wpAny_bind (wpAny_pure ?_)
  show wpAny (model X.prog X.w) X.A (do rule "assign.swapped-stores"; let items ← unpackItems (.ref s1.heap.objs.size) 2 none; assignInOrder [fun v=>bindName X.env y v,fun v=>bindName X.env x v] items.reverse; pure Flow.next) _ _ _
  refine wpAny_bind (wpAny_rule (wpAny_bind (unpackItems_tuple (items:=#[u1,u2]) (I.ok.hd hc) (IsTup.new s1.heap _) fun h' hx'=>?_)))
  have I3:=I2.kept (h':=h') (t':=s1.toks) fun b o e=>hx' b o (Nat.ne_of_lt (Heap.lt_size e)) e
  show wpAny _ _ (assignInOrder [fun v=>bindName X.env y v,fun v=>bindName X.env x v] [u2,u1] >>= fun _=>pure Flow.next) _ _ _
  refine wpAny_bind (assignInOrder_cons (wpAny_bindName (store_ok I3 hN hj (.inl hy) rw' (fun s2 I4=>?_) (.inr hy))))
  refine assignInOrder_cons (wpAny_bindName (store_ok I4 hN hi (.inl hx) rv (fun s3 I5=>assignInOrder_nil (wpAny_pure ?_)) (.inr hx)))
  rw [List.set_comm _ _ (Ne.symm hij)] at I5
  exact ⟨_,H1,I5,q1⟩
end
section
variable {X:Cx} {pos:Pos}
def tWhile (c:TT) (tb:TS):TS:=fun D σ H=>∃ W:Nat→St→Hp→Prop,(∃ m,W m σ H)∧∀ m σ H,W m σ H →
  c σ H fun b H1=>if b=true then ∃ N:St→Hp→Prop,(∀ σ' H',N σ' H'→∃ m',m' < m∧W m' σ' H')∧tb { D with nx:=N,ct:=N,bk:=D.nx } σ H1 else D.nx σ H1
theorem ps_while {c:Expr} {body:List Stmt} {tc:TT} {tb:TS} (hp:PassesOwn (model X.prog X.w) X.A X.env X.xe) (hc:PT X c tc) (hb:PSs X body tb):PS X (.While c body [] pos) (tWhile tc tb):=by
  intro pins s σ H D I h
  obtain ⟨W,⟨m0,w0⟩,turn⟩:=h
  refine wpAny_While (codeAny_whileLoop (fun n s'=>∃ σ' H',Inv X pins σ' H' s'∧W n σ' H') ?_ m0 ⟨σ,H,I,w0⟩)
  rintro n s1 ⟨σ1,H1,I1,w1⟩
  refine wpAny_passesOwn hp (thn (hc pins s1 σ1 H1 _ I1 (turn n σ1 H1 w1)) fun b s2 ⟨H2,I2,q2⟩=>?_)
  cases b with
  | true =>
    obtain ⟨N,hN,q2⟩:=q2
    rw [if_pos rfl]
    refine wpAny_passesOwn hp (thn (hb pins s2 σ1 H2 _ I2 q2) fun f s3 q3=>?_)
    cases f with
    | next =>
      obtain ⟨σ3,H3,I3,n3⟩:=q3
      obtain ⟨m',hm,w3⟩:=hN σ3 H3 n3
      exact ⟨m',hm,σ3,H3,I3,w3⟩
    | cont =>
      obtain ⟨σ3,H3,I3,n3⟩:=q3
      obtain ⟨m',hm,w3⟩:=hN σ3 H3 n3
      exact ⟨m',hm,σ3,H3,I3,w3⟩
    | brk=>exact q3
    | ret v=>exact q3
  | false =>
    rw [if_neg Bool.false_ne_true]
    exact wpAny_execs_nil ⟨σ1,H2,I2,q2⟩
end
structure It where
  go:Nat→Hp→Prop
  yld:Nat→Hp→V→Hp→Prop
  stop:Nat→Hp→Prop
def FpOk (X:Cx) (pins:List (Addr × Obj)) (H:Hp) (b:Addr):Prop :=
  H b=none∧b≠X.env.locals∧b ∉ X.fs∧(b∈X.ex∨X.s₀.heap.objs.size≤b)∧(∀ x c,X.env.cells.lookup x=some c→c≠b)∧∀ p∈X.pn++pins,p.1≠b
theorem Inv.fpOk {X:Cx} {pins:List (Addr × Obj)} {σ:St} {H H':Hp} {s:Shared} {b:Addr} (I:Inv X pins σ H s) (hb:s.heap.objs.size≤b) (hn:H' b=none):FpOk X pins H' b:=by
  refine ⟨hn,Nat.ne_of_gt (Nat.lt_of_lt_of_le I.lt hb),I.nofs hb,.inr (Nat.le_trans I.sz hb),fun x c e z=>?_,fun p hp z=>?_⟩
  · obtain ⟨v,q⟩:=I.cell x c e
    exact absurd (Nat.lt_of_lt_of_le q.lt (by rw [z]; exact hb)) (Nat.lt_irrefl _)
  · exact absurd (Nat.lt_of_lt_of_le (Heap.lt_size (I.pin p hp).1) (by rw [z]; exact hb)) (Nat.lt_irrefl _)
structure Turn (P:Program) (w:World) (K:PySem.W.Frag) (tg:Expr) (J:It) (fp:List Addr) (it:Addr) (tn:Nat→Heap→Prop):Prop where
  mem:it∈fp
  obj:∀ i h,tn i h→∀ b∈fp,∃ o,h.get? b=some o∧∀ v,o.data ≠ .cell v
  keep:∀ i h h',tn i h→(∀ b∈fp,∀ o,h.get? b=some o→h'.get? b=some o)→tn i h'
  item:∀ (X:Cx),X.prog=P→X.w=w→X.K=K→X.calm=true→∀ (i:Nat) (pins:List (Addr × Obj)) (s:Shared) (σ:St) (H:Hp) (E:Value→Shared→Prop),Inv X pins σ H s→(∀ b∈fp,FpOk X pins H b)→tn i s.heap→J.go i H →
    wpAny (model P w) X.A (pyNext (.ref it)) (fun r s1=>∃ u,r=some u ∧
      wpAny (model P w) X.A (letOwnedTupleGo tg (.ref it) u) (fun _ s2=>∃ x H',Inv X pins σ H' s2∧RelV x u∧J.yld i H x H'∧tn (i+1) s2.heap∧∀ b∈fp,H' b=none) E s1) E s
  done:∀ (X:Cx),X.prog=P→X.w=w→X.K=K→X.calm=true→∀ (i:Nat) (pins:List (Addr × Obj)) (s:Shared) (σ:St) (H:Hp) (E:Value→Shared→Prop),Inv X pins σ H s→(∀ b∈fp,FpOk X pins H b)→tn i s.heap→J.stop i H →
    wpAny (model P w) X.A (pyNext (.ref it)) (fun r s1=>r=none∧Inv X pins σ H s1) E s
  self:∀ (A:Around) (i:Nat) (s:Shared) (Q:Value→Shared→Prop) (E:Value→Shared→Prop),tn i s.heap→Q (.ref it) s→wpAny (model P w) A (pyIter (.ref it)) Q E s
abbrev TI:=St→Hp→(It→Hp→Prop)→Prop
def PIE (X:Cx) (pins:List (Addr × Obj)) (σ:St) (tg:Expr) (R:It→Hp→Prop) (itv:Value) (s2:Shared):Prop :=
  ∃ (it:Addr) (fp:List Addr) (tn:Nat→Heap→Prop) (J:It) (H':Hp),itv=.ref it∧Inv X pins σ H' s2∧Turn X.prog X.w X.K tg J fp it tn∧tn 0 s2.heap∧(∀ b∈fp,FpOk X pins H' b)∧R J H'
def PI (X:Cx) (tg iter:Expr) (wi:TI):Prop :=
  ∀ (pins:List (Addr × Obj)) (s:Shared) (σ:St) (H:Hp) (R:It→Hp→Prop),Inv X pins σ H s→wi σ H R →
    wpAny (model X.prog X.w) X.A (eval iter X.env) (fun v s1=>wpAny (model X.prog X.w) X.A (pyIter v) (PIE X pins σ tg R) X.xe s1) X.xe s
theorem go_of {M:Model} {A:Around} {E:Value→Shared→Prop} {s:Shared} {tg:Expr} {it:Addr} {u:Value} {o:Obj} {n:String} {vs:Array Value} {Q:Unit→Shared→Prop} (ho:s.heap.get? it=some o) (hc:o.cls=.type n) (hd:o.data=.fields vs)
    (hn:["enumerate", "zip", "dict_itemiterator", "dict_reverseitemiterator", "odict_iterator", "itertools.zip_longest", "itertools.pairwise"].contains n=false) (hQ:Q () s):wpAny M A (letOwnedTupleGo tg (.ref it) u) Q E s:=by
  unfold letOwnedTupleGo
  cases tg <;> first
    | exact wpAny_pure hQ
    | (cases u <;> first
        | exact wpAny_pure hQ
        | (refine wpAny_bind (wpAny_load ho ?_)
           rw [hc,hd]
           show wpAny M A (if (["enumerate", "zip", "dict_itemiterator", "dict_reverseitemiterator", "odict_iterator", "itertools.zip_longest", "itertools.pairwise"].contains n&&vs[0]? == some (rawInt _))=true then _ else _) Q E s
           rw [if_neg (by intro h; rw [hn,Bool.false_and] at h; cases h)]
           exact wpAny_pure hQ))
def Itl (K:PySem.W.Frag) (a:Addr):It :=
  ⟨fun i H=>∃ xs x,SqL K H a xs∧xs[i]?=some x,fun i H x H'=>H'=H∧∀ xs,SqL K H a xs→xs[i]?=some x,fun i H=>∃ xs,SqL K H a xs∧xs.length≤i⟩
def Itt (K:PySem.W.Frag) (a:Addr):It :=
  ⟨fun i H=>∃ xs x,SqT K H a xs∧xs[i]?=some x,fun i H x H'=>H'=H∧∀ xs,SqT K H a xs→xs[i]?=some x,fun i H=>∃ xs,SqT K H a xs∧xs.length≤i⟩
def Itr (lo:Int) (n:Nat):It:=⟨fun i _=>i<n,fun i H x H'=>H'=H∧x=.int (lo+i),fun i _=>n≤i⟩
theorem turn_list {P:Program} {w:World} {K:PySem.W.Frag} {tg:Expr} (a it:Addr):Turn P w K tg (Itl K a) [it] it (fun i h=>h.IsListIter it a i) where
  mem:=by simp
  obj:=fun i h st b hb=>by
    have e:b=it:=by simpa using hb
    subst e
    obtain ⟨o,e,c,d⟩:=st
    exact ⟨o,e,fun v z=>by rw [d] at z; cases z⟩
  keep:=fun i h h' st k=>st.at fun o e=>k it (by simp) o e
  item:=by
    intro X hP hw hK hc i pins s σ H E I hf st hg
    subst hP hw hK
    obtain ⟨xs,x,hq,hx⟩:=hg
    obtain ⟨its,rv,p,hz⟩:=I.list hq
    obtain ⟨u,hu,ru⟩:=rv.get hx
    obtain ⟨f0,f1,f2,f3,f4,f5⟩:=hf it (by simp)
    refine wpAny_pyNext_list_item st p.isList (x:=u) (by simpa using hu) fun h' st' sb=>?_
    have I1:Inv X pins σ H { s with heap:=h' }:=I.turned (t':=s.toks) (fun b o hb e=>(sb.2 b hb).trans e) f0 f1 f3 f4 f5
    obtain ⟨o,e,c,d⟩:=id st'
    exact ⟨u,rfl,go_of (s:={ s with heap:=h' }) e c d (by decide) ⟨x,H,I1,ru,⟨rfl,fun ys hy=>by rw [I.list_inj hy hq]; exact hx⟩,st',fun b hb=>(hf b hb).1⟩⟩
  done:=by
    intro X hP hw hK hc i pins s σ H E I hf st hg
    subst hP hw hK
    obtain ⟨xs,hq,hx⟩:=hg
    obtain ⟨its,rv,p,hz⟩:=I.list hq
    obtain ⟨f0,f1,f2,f3,f4,f5⟩:=hf it (by simp)
    have hl:=rv.length
    exact wpAny_pyNext_list_end (I.ok.hd hc) st p.isList (by simp; omega) fun h' eb=>⟨rfl,I.turned (t':=s.toks) (fun b o hb e=>eb b o hb e) f0 f1 f3 f4 f5⟩
  self:=fun _ _ _ _ _ st h=>wpAny_pyIter_listiter st h
theorem turn_tuple {P:Program} {w:World} {K:PySem.W.Frag} {tg:Expr} (a it:Addr):Turn P w K tg (Itt K a) [it] it (fun i h=>h.IsTupleIter it a i) where
  mem:=by simp
  obj:=fun i h st b hb=>by
    have e:b=it:=by simpa using hb
    subst e
    obtain ⟨o,e,c,d⟩:=st
    exact ⟨o,e,fun v z=>by rw [d] at z; cases z⟩
  keep:=fun i h h' st k=>st.at fun o e=>k it (by simp) o e
  item:=by
    intro X hP hw hK hc i pins s σ H E I hf st hg
    subst hP hw hK
    obtain ⟨xs,x,hq,hx⟩:=hg
    obtain ⟨its,rv,p,hz⟩:=I.tuple hq
    obtain ⟨u,hu,ru⟩:=rv.get hx
    obtain ⟨f0,f1,f2,f3,f4,f5⟩:=hf it (by simp)
    refine wpAny_pyNext_tuple_item st (show s.heap.IsTuple a its.toArray from p) (x:=u) (by simpa using hu) fun h' st' sb=>?_
    have I1:Inv X pins σ H { s with heap:=h' }:=I.turned (t':=s.toks) (fun b o hb e=>(sb.2 b hb).trans e) f0 f1 f3 f4 f5
    obtain ⟨o,e,c,d⟩:=id st'
    exact ⟨u,rfl,go_of (s:={ s with heap:=h' }) e c d (by decide) ⟨x,H,I1,ru,⟨rfl,fun ys hy=>by rw [I.tuple_inj hy hq]; exact hx⟩,st',fun b hb=>(hf b hb).1⟩⟩
  done:=by
    intro X hP hw hK hc i pins s σ H E I hf st hg
    subst hP hw hK
    obtain ⟨xs,hq,hx⟩:=hg
    obtain ⟨its,rv,p,hz⟩:=I.tuple hq
    obtain ⟨f0,f1,f2,f3,f4,f5⟩:=hf it (by simp)
    have hl:=rv.length
    exact wpAny_pyNext_tuple_end (I.ok.hd hc) st (show s.heap.IsTuple a its.toArray from p) (by simp; omega) fun h' eb=>⟨rfl,I.turned (t':=s.toks) (fun b o hb e=>eb b o hb e) f0 f1 f3 f4 f5⟩
  self:=fun _ _ _ _ _ st h=>wpAny_pyIter_tupleiter st h
theorem turn_range {P:Program} {w:World} {K:PySem.W.Frag} {tg:Expr} (it:Addr) (lo:Int) (n:Nat):Turn P w K tg (Itr lo n) [it] it (fun i h=>IsRangeIter h it (lo+(i:Nat)*1) ((n:Int) - (i:Nat)) 1) where
  mem:=by simp
  obj:=fun i h st b hb=>by
    have e:b=it:=by simpa using hb
    subst e
    exact ⟨_,st,fun v z=>by
      have z':Data.fields _=Data.cell v:=z
      cases z'⟩
  keep:=fun i h h' st k=>k it (by simp) _ st
  item:=by
    intro X hP hw hK hc i pins s σ H E I hf st hg
    subst hP hw hK
    obtain ⟨f0,f1,f2,f3,f4,f5⟩:=hf it (by simp)
    have W:=Walks.range (prog:=X.prog) (w:=X.w) (I.ok.hd hc) it lo 1 n
    refine W.item i s _ _ hg st fun v h' tk hv st' kk=>?_
    obtain ⟨t,rfl⟩:=hv
    have I1:Inv X pins σ H { s with heap:=h',toks:=tk }:=I.turned (fun b o hb e=>kk b o (by simpa using hb) e) f0 f1 f3 f4 f5
    refine ⟨_,rfl,go_of (s:={ s with heap:=h',toks:=tk }) (n := "range_iterator") st' rfl rfl (by decide) ⟨.int (lo+i),H,I1,⟨t,?_⟩,⟨rfl,rfl⟩,st',fun b hb=>(hf b hb).1⟩⟩
    rw [Int.mul_one]
  done:=by
    intro X hP hw hK hc i pins s σ H E I hf st hg
    subst hP hw hK
    obtain ⟨f0,f1,f2,f3,f4,f5⟩:=hf it (by simp)
    exact wpAny_pyNext_range_end (I.ok.hd hc) st (by have:n≤i:=hg; omega) fun h' eb=>⟨rfl,I.turned (t':=s.toks) (fun b o hb e=>eb b o hb e) f0 f1 f3 f4 f5⟩
  self:=fun _ _ _ _ _ st h=>wpAny_pyIter_rangeiter st h
end L2
namespace L2
open PySem PySem.Spec PyProof.Rows
section
variable {X:Cx} {tg:Expr}
def iList (K:PySem.W.Frag) (tl:TE):TI:=fun σ H R=>tl σ H fun x H1=>∃ a,x=.ref a∧(∃ xs,SqL K H1 a xs)∧R (Itl K a) H1
def iTup (K:PySem.W.Frag) (tl:TE):TI:=fun σ H R=>tl σ H fun x H1=>∃ a,x=.ref a∧(∃ xs,SqT K H1 a xs)∧R (Itt K a) H1
theorem pi_list {l:Expr} {tl:TE} (hl:PE X l tl):PI X tg l (iList X.K tl):=by
  intro pins s σ H R I h
  refine thn (hl pins s σ H _ I h) fun v s1 ⟨x,H1,I1,r1,q1⟩=>?_
  obtain ⟨a,e,⟨xs,hq⟩,q⟩:=q1
  subst e
  cases r1
  obtain ⟨its,rv,p,hz⟩:=I1.list hq
  refine wpAny_pyIter_list p.isList ?_
  refine ⟨s1.heap.objs.size,[s1.heap.objs.size],_,_,H1,rfl,I1.kept (t':=s1.toks) fun b o e=>Heap.get?_push_of_some _ e,turn_list a _,⟨_,Heap.get?_push_size _ rfl,rfl,rfl⟩,fun b hb=>?_,q⟩
  have e:b=s1.heap.objs.size:=by simpa using hb
  subst e
  exact I1.fpOk (Nat.le_refl _) (I1.hok.fresh (Nat.le_refl _))
theorem pi_tup {l:Expr} {tl:TE} (hl:PE X l tl):PI X tg l (iTup X.K tl):=by
  intro pins s σ H R I h
  refine thn (hl pins s σ H _ I h) fun v s1 ⟨x,H1,I1,r1,q1⟩=>?_
  obtain ⟨a,e,⟨xs,hq⟩,q⟩:=q1
  subst e
  cases r1
  obtain ⟨its,rv,p,hz⟩:=I1.tuple hq
  refine wpAny_pyIter_tuple (show s1.heap.IsTuple a its.toArray from p) ?_
  refine ⟨s1.heap.objs.size,[s1.heap.objs.size],_,_,H1,rfl,I1.kept (t':=s1.toks) fun b o e=>Heap.get?_push_of_some _ e,turn_tuple a _,⟨_,Heap.get?_push_size _ rfl,rfl,rfl⟩,fun b hb=>?_,q⟩
  have e:b=s1.heap.objs.size:=by simpa using hb
  subst e
  exact I1.fpOk (Nat.le_refl _) (I1.hok.fresh (Nat.le_refl _))
theorem range_it {pins:List (Addr × Obj)} {σ:St} {H:Hp} {s:Shared} {R:It→Hp→Prop} {E:Value→Shared→Prop} {lo hi:Int} {t u v:Tok} {tk:Nat} (I:Inv X pins σ H s) (h1:-(2^62)≤lo) (h2:lo<2^62) (h3:-(2^62)≤hi) (h4:hi<2^62)
    (q:R (Itr lo (hi - lo).toNat) H):wpAny (model X.prog X.w) X.A (pyIter (.ref s.heap.objs.size)) (PIE X pins σ tg R) E { s with heap:=s.heap.push { cls:=.type "range",data:=.fields #[.int lo t,.int hi u,.int 1 v] },toks:=tk }:=by
  refine wpAny_pyIter_range (IsRange.new ..) (small_one h1 h2 h3 h4) ?_
  have I1:Inv X pins σ H { s with heap:=s.heap.push { cls:=.type "range",data:=.fields #[.int lo t,.int hi u,.int 1 v] },toks:=tk }:=I.kept fun b o e=>Heap.get?_push_of_some _ e
  refine ⟨(s.heap.push { cls:=.type "range",data:=.fields #[.int lo t,.int hi u,.int 1 v] }).objs.size,[(s.heap.push { cls:=.type "range",data:=.fields #[.int lo t,.int hi u,.int 1 v] }).objs.size],_,_,H,rfl,
    I1.kept (t':=tk) fun b o e=>Heap.get?_push_of_some _ e,turn_range _ lo (hi - lo).toNat,?_,fun b hb=>?_,q⟩
  · have e1:lo+((0:Nat):Int)*1=lo:=by simp
    have e2:(((hi - lo).toNat:Nat):Int) - ((0:Nat):Int)=Builtin.Range.rangeSize lo hi 1:=by rw [rangeSize_one]; split <;> omega
    show IsRangeIter _ _ (lo+((0:Nat):Int)*1) ((((hi - lo).toNat:Nat):Int) - ((0:Nat):Int)) 1
    rw [e1,e2]
    exact Heap.get?_push_size _ rfl
  · have e:b=(s.heap.push { cls:=.type "range",data:=.fields #[.int lo t,.int hi u,.int 1 v] }).objs.size:=by simpa using hb
    subst e
    exact I1.fpOk (Nat.le_refl _) (I1.hok.fresh (Nat.le_refl _))
def iRng1 (ta:TA):TI:=fun σ H R=>ta σ H fun vs H1=>∃ j:Int,vs=[.int j]∧-(2^62)≤j∧j<2^62∧R (Itr 0 j.toNat) H1
theorem pi_range1 {a:Expr} {ta:TA} {p pos:Pos} (hg:Gl X "range") (hm:X.mg "range" = none) (ha:PA X [a] ta) (hs:starEach [a] X.env=[(false,eval a X.env)]:=by rfl):PI X tg (.Call (.Name "range" p) [a] [] pos) (iRng1 ta):=by
  intro pins s σ H R I h
  refine Call_ (ld_blt I hg hm boot_range (PyProof.Rows.callWith_type1 (thn (ha pos pins s σ H _ I h) fun us s1 ⟨vs,H1,I1,r1,q1⟩=>?_) hs rfl))
  obtain ⟨j,e,q1,q2,q⟩:=q1
  subst e
  cases r1 with
  | cons r rr =>
    cases rr
    obtain ⟨t,rfl⟩:=r
    exact call_range_1 (range_it I1 (by omega) (by omega) q1 q2 (by simpa using q))
def tFor (wi:TI) (g:TG) (tb:TS):TS:=fun D σ H=>wi σ H fun J H1=>∃ W:Nat→Nat→St→Hp→Prop,(∃ m,W 0 m σ H1)∧∀ i m σ H,W i m σ H →
  (J.stop i H∧D.nx σ H)∨(J.go i H∧∃ N:St→Hp→Prop,(∀ σ' H',N σ' H'→∃ m',m' < m∧W (i+1) m' σ' H')∧∀ x H',J.yld i H x H'→g x σ H' fun σ2 H2=>tb { D with nx:=N,ct:=N,bk:=D.nx } σ2 H2)
def pinsAt (fp:List Addr) (h:Heap):List (Addr × Obj):=fp.filterMap fun b=>(h.get? b).map fun o=>(b,o)
theorem mem_pinsAt {fp:List Addr} {h:Heap} {b:Addr} {o:Obj} (hb:b∈fp) (e:h.get? b=some o):(b,o)∈pinsAt fp h:=List.mem_filterMap.mpr ⟨b,hb,by rw [e]; rfl⟩
theorem of_pinsAt {fp:List Addr} {h:Heap} {p:Addr × Obj} (hp:p∈pinsAt fp h):p.1∈fp∧h.get? p.1=some p.2:=by
  obtain ⟨b,hb,e⟩:=List.mem_filterMap.mp hp
  cases q:h.get? b with
  | none=>rw [q] at e; cases e
  | some o =>
    rw [q] at e
    have e':(b,o)=p:=Option.some.inj e
    subst e'
    exact ⟨hb,q⟩
theorem Inv.pinned {pins:List (Addr × Obj)} {σ:St} {H:Hp} {s:Shared} {fp:List Addr} (I:Inv X pins σ H s) (hf:∀ b∈fp,FpOk X pins H b) (ho:∀ b∈fp,∃ o,s.heap.get? b=some o∧∀ v,o.data ≠ .cell v):Inv X (pins++pinsAt fp s.heap) σ H s :=
  I.pins_of fun p hp=>(List.mem_append.mp hp).elim (fun z=>I.pin p (List.mem_append_right _ z)) fun z=>by
    obtain ⟨hb,e⟩:=of_pinsAt z
    obtain ⟨f0,f1,f2,_⟩:=hf p.1 hb
    obtain ⟨o,e',d⟩:=ho p.1 hb
    rw [e] at e'; cases e'
    exact ⟨e,f0,f1,f2,d⟩
theorem Inv.unpinned {pins pl:List (Addr × Obj)} {σ:St} {H:Hp} {s:Shared} (I:Inv X (pins++pl) σ H s):Inv X pins σ H s:=I.pins_of fun p hp=>I.pin p (List.mem_append_right _ (List.mem_append_left _ hp))
theorem ps_for {iter:Expr} {body:List Stmt} {wi:TI} {g:TG} {tb:TS} {pos:Pos} (hp:PassesOwn (model X.prog X.w) X.A X.env X.xe) (hc:X.calm=true) (hi:PI X tg iter wi) (hg:PG X tg g) (hb:PSs X body tb)
    (hs:∀ x,foldedSetIterable iter X.env x=pure x:=by intro _; rfl):PS X (.For tg iter body [] pos) (tFor wi g tb):=by
  intro pins s σ H D I h
  refine wpAny_For (thn (hi pins s σ H _ I h) fun v s1 h1=>thn h1 fun itv s2 h2=>?_) hs
  obtain ⟨it,fp,tn,J,H2,e,I2,T,st2,f2,W,⟨m0,w0⟩,turn⟩:=h2
  subst e
  have stat:∀ {H':Hp},(∀ b∈fp,H' b=none)→∀ b∈fp,FpOk X pins H' b:=fun hn b hb=>⟨hn b hb,(f2 b hb).2⟩
  refine codeAny_forLoop_any (fun n s'=>∃ i σ' H',Inv X pins σ' H' s'∧tn i s'.heap∧(∀ b∈fp,H' b=none)∧W i n σ' H') ?_ m0 ⟨0,σ,H2,I2,st2,fun b hb=>(f2 b hb).1,w0⟩
  rintro n s3 ⟨i,σ3,H3,I3,st3,fr3,w3⟩
  rcases turn i n σ3 H3 w3 with ⟨stop,qn⟩ | ⟨go,N,hN,step⟩
  · refine wpAny_passesOwn hp (thn (T.done X rfl rfl rfl hc i pins s3 σ3 H3 X.xe I3 (stat fr3) st3 stop) fun r s4 ⟨hr,I4⟩=>?_)
    subst hr
    exact wpAny_execs_nil ⟨σ3,H3,I4,qn⟩
  · refine wpAny_passesOwn hp (thn (T.item X rfl rfl rfl hc i pins s3 σ3 H3 X.xe I3 (stat fr3) st3 go) fun r s4 ⟨u,hr,h4⟩=>?_)
    subst hr
    refine wpAny_passesOwn hp (thn h4 fun _ s5 ⟨x,H5,I5,r5,y5,st5,fr5⟩=>?_)
    have I5':=I5.pinned (stat fr5) (T.obj _ _ st5)
    refine wpAny_passesOwn hp (thn (hg _ s5 σ3 H5 x u _ I5' r5 (step x H5 y5)) fun _ s6 ⟨σ6,H6,I6,q6⟩=>?_)
    refine wpAny_passesOwn hp (thn (hb _ s6 σ6 H6 _ I6 q6) fun f s7 q7=>?_)
    have again:∀ {σ7:St} {H7:Hp},Inv X (pins++pinsAt fp s5.heap) σ7 H7 s7→N σ7 H7→∃ m,m<n∧∃ i σ' H',Inv X pins σ' H' s7∧tn i s7.heap∧(∀ b∈fp,H' b=none)∧W i m σ' H':=fun {σ7 H7} I7 n7=>by
      obtain ⟨m',hm,w7⟩:=hN σ7 H7 n7
      refine ⟨m',hm,i+1,σ7,H7,I7.unpinned,T.keep _ _ _ st5 fun b hb o e=>(I7.pin (b,o) (List.mem_append_right _ (List.mem_append_right _ (mem_pinsAt hb e)))).1,fun b hb=>?_,w7⟩
      obtain ⟨o,e,d⟩:=T.obj _ _ st5 b hb
      exact (I7.pin (b,o) (List.mem_append_right _ (List.mem_append_right _ (mem_pinsAt hb e)))).2.1
    cases f with
    | next=>obtain ⟨σ7,H7,I7,n7⟩:=q7; exact again I7 n7
    | cont=>obtain ⟨σ7,H7,I7,n7⟩:=q7; exact again I7 n7
    | brk=>obtain ⟨σ7,H7,I7,q7⟩:=q7; exact ⟨σ7,H7,I7.unpinned,q7⟩
    | ret v=>obtain ⟨x7,σ7,H7,I7,r7,q7⟩:=q7; exact ⟨x7,σ7,H7,I7.unpinned,r7,q7⟩
end
theorem for_list {K:PySem.W.Frag} {a:Addr} {xs:List V} {g:TG} {tb:TS} {D:Ends} {σ:St} {H:Hp} (Pv:Nat→St→Hp→Prop) (h0:Pv 0 σ H) (hl:∀ i σ H,i≤xs.length→Pv i σ H→SqL K H a xs)
    (hs:∀ i x σ H,xs[i]?=some x→Pv i σ H→g x σ H fun σ2 H2=>tb { D with nx:=Pv (i+1),ct:=Pv (i+1),bk:=D.nx } σ2 H2) (hd:∀ σ H,Pv xs.length σ H→D.nx σ H) :
    ∃ W:Nat→Nat→St→Hp→Prop,(∃ m,W 0 m σ H)∧∀ i m σ H,W i m σ H →
      ((Itl K a).stop i H∧D.nx σ H)∨((Itl K a).go i H∧∃ N:St→Hp→Prop,(∀ σ' H',N σ' H'→∃ m',m' < m∧W (i+1) m' σ' H')∧∀ x H',(Itl K a).yld i H x H'→g x σ H' fun σ2 H2=>tb { D with nx:=N,ct:=N,bk:=D.nx } σ2 H2):=by
  refine ⟨fun i m σ H=>m=xs.length - i∧i≤xs.length∧Pv i σ H,⟨xs.length,by simp,Nat.zero_le _,h0⟩,?_⟩
  rintro i m σ H ⟨rfl,hi,p⟩
  have q:=hl i σ H hi p
  by_cases hlt:i<xs.length
  · refine .inr ⟨⟨xs,xs[i],q,by simp [hlt]⟩,Pv (i+1),fun σ' H' p'=>⟨xs.length - (i+1),by omega,rfl,hlt,p'⟩,fun x H' y=>?_⟩
    obtain ⟨e,y⟩:=y
    subst e
    exact hs i x σ _ (y xs q) p
  · have e:i=xs.length:=by omega
    subst e
    exact .inl ⟨⟨xs,q,Nat.le_refl _⟩,hd σ H p⟩
theorem for_tup {K:PySem.W.Frag} {a:Addr} {xs:List V} {g:TG} {tb:TS} {D:Ends} {σ:St} {H:Hp} (Pv:Nat→St→Hp→Prop) (h0:Pv 0 σ H) (hl:∀ i σ H,i≤xs.length→Pv i σ H→SqT K H a xs)
    (hs:∀ i x σ H,xs[i]?=some x→Pv i σ H→g x σ H fun σ2 H2=>tb { D with nx:=Pv (i+1),ct:=Pv (i+1),bk:=D.nx } σ2 H2) (hd:∀ σ H,Pv xs.length σ H→D.nx σ H) :
    ∃ W:Nat→Nat→St→Hp→Prop,(∃ m,W 0 m σ H)∧∀ i m σ H,W i m σ H →
      ((Itt K a).stop i H∧D.nx σ H)∨((Itt K a).go i H∧∃ N:St→Hp→Prop,(∀ σ' H',N σ' H'→∃ m',m' < m∧W (i+1) m' σ' H')∧∀ x H',(Itt K a).yld i H x H'→g x σ H' fun σ2 H2=>tb { D with nx:=N,ct:=N,bk:=D.nx } σ2 H2):=by
  refine ⟨fun i m σ H=>m=xs.length - i∧i≤xs.length∧Pv i σ H,⟨xs.length,by simp,Nat.zero_le _,h0⟩,?_⟩
  rintro i m σ H ⟨rfl,hi,p⟩
  have q:=hl i σ H hi p
  by_cases hlt:i<xs.length
  · refine .inr ⟨⟨xs,xs[i],q,by simp [hlt]⟩,Pv (i+1),fun σ' H' p'=>⟨xs.length - (i+1),by omega,rfl,hlt,p'⟩,fun x H' y=>?_⟩
    obtain ⟨e,y⟩:=y
    subst e
    exact hs i x σ _ (y xs q) p
  · have e:i=xs.length:=by omega
    subst e
    exact .inl ⟨⟨xs,q,Nat.le_refl _⟩,hd σ H p⟩
theorem for_range {lo:Int} {n:Nat} {g:TG} {tb:TS} {D:Ends} {σ:St} {H:Hp} (Pv:Nat→St→Hp→Prop) (h0:Pv 0 σ H)
    (hs:∀ i σ H,i<n→Pv i σ H→g (.int (lo+i)) σ H fun σ2 H2=>tb { D with nx:=Pv (i+1),ct:=Pv (i+1),bk:=D.nx } σ2 H2) (hd:∀ σ H,Pv n σ H→D.nx σ H) :
    ∃ W:Nat→Nat→St→Hp→Prop,(∃ m,W 0 m σ H)∧∀ i m σ H,W i m σ H →
      ((Itr lo n).stop i H∧D.nx σ H)∨((Itr lo n).go i H∧∃ N:St→Hp→Prop,(∀ σ' H',N σ' H'→∃ m',m' < m∧W (i+1) m' σ' H')∧∀ x H',(Itr lo n).yld i H x H'→g x σ H' fun σ2 H2=>tb { D with nx:=N,ct:=N,bk:=D.nx } σ2 H2):=by
  refine ⟨fun i m σ H=>m=n - i∧i≤n∧Pv i σ H,⟨n,by simp,Nat.zero_le _,h0⟩,?_⟩
  rintro i m σ H ⟨rfl,hi,p⟩
  by_cases hlt:i<n
  · refine .inr ⟨hlt,Pv (i+1),fun σ' H' p'=>⟨n - (i+1),by omega,rfl,hlt,p'⟩,fun x H' y=>?_⟩
    obtain ⟨e,y⟩:=y
    subst e y
    exact hs i σ _ hlt p
  · have e:i=n:=by omega
    subst e
    exact .inl ⟨Nat.le_refl _,hd σ H p⟩
end L2
namespace L2
open PySem PySem.Spec PyProof.Rows
abbrev R2:=V→V→Hp→VK→Prop
def OpR (X:Cx) (f:Value→Value→Sem Value) (r:R2):Prop :=
  ∀ (pins:List (Addr × Obj)) (s:Shared) (σ:St) (H:Hp) (x y:V) (v u:Value) (Q:VK),Inv X pins σ H s→RelV x v→RelV y u→r x y H Q →
    wpAny (model X.prog X.w) X.A (f v u) (EP X pins σ Q) X.xe s
def UnR (X:Cx) (f:Value→Sem Value) (r:V→Hp→VK→Prop):Prop :=
  ∀ (pins:List (Addr × Obj)) (s:Shared) (σ:St) (H:Hp) (x:V) (v:Value) (Q:VK),Inv X pins σ H s→RelV x v→r x H Q →
    wpAny (model X.prog X.w) X.A (f v) (EP X pins σ Q) X.xe s
def CallR (X:Cx) (f:Value) (r:List V→Hp→VK→Prop):Prop :=
  ∀ (pins:List (Addr × Obj)) (s:Shared) (σ:St) (H:Hp) (xs:List V) (us:List Value) (Q:VK),Inv X pins σ H s→Vals xs us→r xs H Q →
    wpAny (model X.prog X.w) X.A (call f us) (EP X pins σ Q) X.xe s
def tOp (r:R2) (ta tb:TE):TE:=fun σ H Q=>ta σ H fun x H1=>tb σ H1 fun y H2=>r x y H2 Q
def tUn (r:V→Hp→VK→Prop) (ta:TE):TE:=fun σ H Q=>ta σ H fun x H1=>r x H1 Q
def rI (C:Int→Int→Prop) (g:Int→Int→V):R2:=fun x y H Q=>∃ i j,x=.int i∧y=.int j∧C i j∧Q (g i j) H
def rI0 (g:Int→Int→V):R2:=fun x y H Q=>∃ i j,x=.int i∧y=.int j∧Q (g i j) H
def rU (g:Int→V):V→Hp→VK→Prop:=fun x H Q=>∃ i,x=.int i∧Q (g i) H
section
variable {X:Cx} {a b c:Expr} {ta tb tc:TE} {pos:Pos}
theorem binT (ha:PE X a ta) (hb:PE X b tb) {pins:List (Addr × Obj)} {s:Shared} {σ:St} {H:Hp} {R:V→V→Hp→Prop} (I:Inv X pins σ H s)
    (h:ta σ H fun x H1=>tb σ H1 fun y H2=>R x y H2) {Q:Value→Shared→Prop} {f:Value→Value→Sem Value}
    (hf:∀ v u s2 x y H2,Inv X pins σ H2 s2→RelV x v→RelV y u→R x y H2→wpAny (model X.prog X.w) X.A (f v u) Q X.xe s2) :
    wpAny (model X.prog X.w) X.A (eval a X.env) (fun v s₁=>wpAny (model X.prog X.w) X.A (eval b X.env) (fun u s₂=>wpAny (model X.prog X.w) X.A (f v u) Q X.xe s₂) X.xe s₁) X.xe s:=by
  refine thn (ha pins s σ H _ I h) fun v s1 ⟨x,H1,I1,r1,q1⟩=>?_
  refine thn (hb pins s1 σ H1 _ I1 q1) fun u s2 ⟨y,H2,I2,r2,q2⟩=>?_
  exact hf v u s2 x y H2 I2 r1 r2 q2
theorem pe_op {op:Operator} {r:R2} (ho:OpR X (binaryOp op) r) (ha:PE X a ta) (hb:PE X b tb):PE X (.BinOp a op b pos) (tOp r ta tb):=by
  intro pins s σ H Q I h
  exact wpAny_BinOp (binT ha hb I h fun v u s2 x y H2 I2 rx ry q=>ho pins s2 σ H2 x y v u Q I2 rx ry q)
theorem pe_un {op:UnaryOp} {r:V→Hp→VK→Prop} (ho:UnR X (unaryOp op) r) (ha:PE X a ta):PE X (.UnaryOp op a pos) (tUn r ta):=by
  intro pins s σ H Q I h
  exact UnaryOp_ (thn (ha pins s σ H _ I h) fun v s1 ⟨x,H1,I1,r1,q1⟩=>ho pins s1 σ H1 x v Q I1 r1 q1)
theorem opI {f:Value→Value→Sem Value} {C:Int→Int→Prop} {g:Int→Int→Int}
    (rule:∀ (i j:Int) (t u:Tok) (s:Shared) (Q:Value→Shared→Prop) (E:Value→Shared→Prop),C i j→Q (.int (g i j) s.toks) { s with toks:=s.toks+1 }→wpAny (model X.prog X.w) X.A (f (.int i t) (.int j u)) Q E s) :
    OpR X f (rI C fun i j=>.int (g i j)):=by
  intro pins s σ H x y v u Q I rx ry h
  obtain ⟨i,j,rfl,rfl,hc,q⟩:=h
  obtain ⟨t,rfl⟩:=rx
  obtain ⟨t',rfl⟩:=ry
  exact rule i j t t' s _ _ hc ⟨.int (g i j),H,I.tok _,⟨_,rfl⟩,q⟩
theorem opI0 {f:Value→Value→Sem Value} {g:Int→Int→Int}
    (rule:∀ (i j:Int) (t u:Tok) (s:Shared) (Q:Value→Shared→Prop) (E:Value→Shared→Prop),Q (.int (g i j) s.toks) { s with toks:=s.toks+1 }→wpAny (model X.prog X.w) X.A (f (.int i t) (.int j u)) Q E s) :
    OpR X f (rI0 fun i j=>.int (g i j)):=by
  intro pins s σ H x y v u Q I rx ry h
  obtain ⟨i,j,rfl,rfl,q⟩:=h
  obtain ⟨t,rfl⟩:=rx
  obtain ⟨t',rfl⟩:=ry
  exact rule i j t t' s _ _ ⟨.int (g i j),H,I.tok _,⟨_,rfl⟩,q⟩
theorem opB0 {f:Value→Value→Sem Value} {g:Int→Int→Bool}
    (rule:∀ (i j:Int) (t u:Tok) (s:Shared) (Q:Value→Shared→Prop) (E:Value→Shared→Prop),Q (.bool (g i j)) s→wpAny (model X.prog X.w) X.A (f (.int i t) (.int j u)) Q E s) :
    OpR X f (rI0 fun i j=>.bl (g i j)):=by
  intro pins s σ H x y v u Q I rx ry h
  obtain ⟨i,j,rfl,rfl,q⟩:=h
  obtain ⟨t,rfl⟩:=rx
  obtain ⟨t',rfl⟩:=ry
  exact rule i j t t' s _ _ ⟨.bl (g i j),H,I,rfl,q⟩
def CPow (i j:Int):Prop:=0≤j∧j≤1000000∧i.natAbs<2^64
theorem op_add:OpR X (binaryOp .Add) (rI0 fun i j=>.int (i+j)):=opI0 fun _ _ _ _ _ _ _ q=>add_int q
theorem op_sub:OpR X (binaryOp .Sub) (rI0 fun i j=>.int (i - j)):=opI0 fun _ _ _ _ _ _ _ q=>sub_int q
theorem op_mod:OpR X (binaryOp .Mod) (rI (fun _ j=>0<j) fun i j=>.int (i % j)):=opI fun i j _ _ _ _ _ hc q=>by
  have h1:(0:Int)<j:=hc
  exact mod_int' (by omega) (by rw [Int.fmod_eq_emod_of_nonneg i (by omega)]; exact q)
theorem op_pow:OpR X (binaryOp .Pow) (rI CPow fun i j=>.int (i^j.toNat)):=opI fun _ _ _ _ _ _ _ hc q=>pow_int_small hc.1 hc.2.1 hc.2.2 q
theorem unI {f:Value→Sem Value} {g:Int→Int}
    (rule:∀ (i:Int) (t:Tok) (s:Shared) (Q:Value→Shared→Prop) (E:Value→Shared→Prop),Q (.int (g i) s.toks) { s with toks:=s.toks+1 }→wpAny (model X.prog X.w) X.A (f (.int i t)) Q E s) :
    UnR X f (rU fun i=>.int (g i)):=by
  intro pins s σ H x v Q I rx h
  obtain ⟨i,rfl,q⟩:=h
  obtain ⟨t,rfl⟩:=rx
  exact rule i t s _ _ ⟨.int (g i),H,I.tok _,⟨_,rfl⟩,q⟩
theorem un_neg:UnR X (unaryOp .USub) (rU fun i=>.int (-i)):=unI fun _ _ _ _ _ q=>neg_int q
end
def scal:V→V→Bool
  | .non,.non=>true | .non,.int _=>true | .int _,.non=>true | .non,.bl _=>true | .bl _,.non=>true | .non,.str _=>true | .str _,.non=>true
  | .int _,.int _=>true | .bl _,.bl _=>true | .str _,.str _=>true | .byt _,.byt _=>true
  | .int _,.str _=>true | .str _,.int _=>true | .bl _,.str _=>true | .str _,.bl _=>true
  | _,_=>false
def rEq:R2:=fun x y H Q=>scal x y=true∧Q (.bl (decide (x=y))) H
def rNe:R2:=fun x y H Q=>scal x y=true∧Q (.bl (!decide (x=y))) H
theorem dec_int {i j:Int}:decide (V.int i=V.int j)=(i == j):=by
  rw [Bool.eq_iff_iff]
  simp
theorem dec_bl {i j:Bool}:decide (V.bl i=V.bl j)=(i == j):=by
  rw [Bool.eq_iff_iff]
  simp
theorem dec_str {i j:Str}:decide (V.str i=V.str j)=(i == j):=by
  rw [Bool.eq_iff_iff]
  simp
theorem dec_byt {i j:Array UInt8}:decide (V.byt i=V.byt j)=(i.toList == j.toList):=by
  rw [Bool.eq_iff_iff]
  cases i
  cases j
  simp
section
variable {X:Cx} {a b c:Expr} {ta tb tc:TE} {pos:Pos}
theorem fin_bl {pins:List (Addr × Obj)} {σ:St} {H:Hp} {s:Shared} {Q:VK} {k k':Bool} (I:Inv X pins σ H s) (q:Q (.bl k) H) (e:k=k'):EP X pins σ Q (.bool k') s:=by
  subst e
  exact ⟨.bl k,H,I,rfl,q⟩
theorem op_eq:OpR X (compareOp .Eq) rEq:=by
  intro pins s σ H x y v u Q I rx ry h
  obtain ⟨hs,q⟩:=h
  cases x with
  | non =>
    cases rx
    cases y with
    | non=>cases ry; exact PySem.EqNone.eq_none_none (fin_bl I q (by simp))
    | bl j=>cases ry; exact PySem.EqNone.eq_none_bool (fin_bl I q (by simp))
    | int j=>obtain ⟨t',rfl⟩:=ry; exact PySem.EqNone.eq_none_int (fin_bl I q (by simp))
    | str j=>obtain ⟨t',rfl⟩:=ry; exact PySem.EqNone.eq_none_str (fin_bl I q (by simp))
    | _=>exact absurd (show false=true from hs) Bool.false_ne_true
  | bl i =>
    cases rx
    cases y with
    | non=>cases ry; exact PySem.EqNone.eq_bool_none (fin_bl I q (by simp))
    | bl j=>cases ry; exact eq_bool (fin_bl I q dec_bl)
    | str j=>obtain ⟨t',rfl⟩:=ry; exact PySem.EqMixed.eq_bool_str (fin_bl I q (by simp))
    | _=>exact absurd (show false=true from hs) Bool.false_ne_true
  | int i =>
    obtain ⟨t,rfl⟩:=rx
    cases y with
    | non=>cases ry; exact PySem.EqNone.eq_int_none (fin_bl I q (by simp))
    | int j=>obtain ⟨t',rfl⟩:=ry; exact eq_int (fin_bl I q dec_int)
    | str j=>obtain ⟨t',rfl⟩:=ry; exact PySem.EqMixed.eq_int_str (fin_bl I q (by simp))
    | _=>exact absurd (show false=true from hs) Bool.false_ne_true
  | str i =>
    obtain ⟨t,rfl⟩:=rx
    cases y with
    | non=>cases ry; exact PySem.EqNone.eq_str_none (fin_bl I q (by simp))
    | bl j=>cases ry; exact PySem.EqMixed.eq_str_bool (fin_bl I q (by simp))
    | int j=>obtain ⟨t',rfl⟩:=ry; exact PySem.EqMixed.eq_str_int (fin_bl I q (by simp))
    | str j=>obtain ⟨t',rfl⟩:=ry; exact eq_str (fin_bl I q dec_str)
    | _=>exact absurd (show false=true from hs) Bool.false_ne_true
  | byt i =>
    obtain ⟨t,rfl⟩:=rx
    cases y with
    | byt j=>obtain ⟨t',rfl⟩:=ry; exact PySem.W.eq_bytes (fin_bl I q dec_byt)
    | _=>exact absurd (show false=true from hs) Bool.false_ne_true
  | _=>cases y <;> exact absurd (show false=true from hs) Bool.false_ne_true
theorem op_ne:OpR X (compareOp .NotEq) rNe:=by
  intro pins s σ H x y v u Q I rx ry h
  obtain ⟨hs,q⟩:=h
  cases x with
  | non =>
    cases rx
    cases y with
    | non=>cases ry; exact PySem.EqNone.ne_none_none (fin_bl I q (by simp))
    | bl j=>cases ry; exact PySem.EqNone.ne_none_bool (fin_bl I q (by simp))
    | int j=>obtain ⟨t',rfl⟩:=ry; exact PySem.EqNone.ne_none_int (fin_bl I q (by simp))
    | str j=>obtain ⟨t',rfl⟩:=ry; exact PySem.EqNone.ne_none_str (fin_bl I q (by simp))
    | _=>exact absurd (show false=true from hs) Bool.false_ne_true
  | bl i =>
    cases rx
    cases y with
    | non=>cases ry; exact PySem.EqNone.ne_bool_none (fin_bl I q (by simp))
    | bl j=>cases ry; exact ne_bool (fin_bl I q (congrArg not dec_bl))
    | str j=>obtain ⟨t',rfl⟩:=ry; exact PySem.EqMixed.ne_bool_str (fin_bl I q (by simp))
    | _=>exact absurd (show false=true from hs) Bool.false_ne_true
  | int i =>
    obtain ⟨t,rfl⟩:=rx
    cases y with
    | non=>cases ry; exact PySem.EqNone.ne_int_none (fin_bl I q (by simp))
    | int j=>obtain ⟨t',rfl⟩:=ry; exact ne_int (fin_bl I q (congrArg not dec_int))
    | str j=>obtain ⟨t',rfl⟩:=ry; exact PySem.EqMixed.ne_int_str (fin_bl I q (by simp))
    | _=>exact absurd (show false=true from hs) Bool.false_ne_true
  | str i =>
    obtain ⟨t,rfl⟩:=rx
    cases y with
    | non=>cases ry; exact PySem.EqNone.ne_str_none (fin_bl I q (by simp))
    | bl j=>cases ry; exact PySem.EqMixed.ne_str_bool (fin_bl I q (by simp))
    | int j=>obtain ⟨t',rfl⟩:=ry; exact PySem.EqMixed.ne_str_int (fin_bl I q (by simp))
    | str j=>obtain ⟨t',rfl⟩:=ry; exact ne_str (fin_bl I q (congrArg not dec_str))
    | _=>exact absurd (show false=true from hs) Bool.false_ne_true
  | byt i =>
    obtain ⟨t,rfl⟩:=rx
    cases y with
    | byt j=>obtain ⟨t',rfl⟩:=ry; exact PySem.W.ne_bytes (fin_bl I q (congrArg not dec_byt))
    | _=>exact absurd (show false=true from hs) Bool.false_ne_true
  | _=>cases y <;> exact absurd (show false=true from hs) Bool.false_ne_true
theorem op_lt:OpR X (compareOp .Lt) (rI0 fun i j=>.bl (decide (i<j))):=opB0 fun _ _ _ _ _ _ _ q=>lt_int q
theorem op_le:OpR X (compareOp .LtE) (rI0 fun i j=>.bl (decide (i≤j))):=opB0 fun _ _ _ _ _ _ _ q=>le_int q
theorem op_gt:OpR X (compareOp .Gt) (rI0 fun i j=>.bl (decide (j<i))):=opB0 fun _ _ _ _ _ _ _ q=>gt_int q
theorem op_ge:OpR X (compareOp .GtE) (rI0 fun i j=>.bl (decide (j≤i))):=opB0 fun _ _ _ _ _ _ _ q=>ge_int q
theorem op_isN:OpR X (compareOp .Is) (fun x y H Q=>y=.non∧Q (.bl (decide (x=.non))) H):=by
  intro pins s σ H x y v u Q I rx ry h
  obtain ⟨rfl,q⟩:=h
  cases ry
  refine is_none_gen (fin_bl I q ?_)
  cases x <;> first
    | (cases rx; rfl)
    | (obtain ⟨t,rfl⟩:=rx; rfl)
theorem op_notN:OpR X (compareOp .IsNot) (fun x y H Q=>y=.non∧Q (.bl (!decide (x=.non))) H):=by
  intro pins s σ H x y v u Q I rx ry h
  obtain ⟨rfl,q⟩:=h
  cases ry
  refine isnot_none_gen (fin_bl I q ?_)
  cases x <;> first
    | (cases rx; rfl)
    | (obtain ⟨t,rfl⟩:=rx; rfl)
theorem nomark (b:Expr) {op:CmpOp} (h:op ≠ .In:=by decide) (h2:op ≠ .NotIn:=by decide):behindInMarks op b=false:=by
  have e1:(op == CmpOp.In)=false:=by cases op <;> first | rfl | exact absurd rfl h
  have e2:(op == CmpOp.NotIn)=false:=by cases op <;> first | rfl | exact absurd rfl h2
  cases b <;> simp [behindInMarks,e1,e2]
theorem pe_cmpR {op:CmpOp} {r:R2} (ho:OpR X (compareOp op) r) (ha:PE X a ta) (hb:PE X b tb) (hm:behindInMarks op b=false):PE X (.Compare a [op] [b] pos) (tOp r ta tb):=by
  intro pins s σ H Q I h
  exact wpAny_Compare1 (binT ha hb I h fun v u s2 x y H2 I2 rx ry q=>ho pins s2 σ H2 x y v u Q I2 rx ry q) hm
def tTest (t:TE):TT:=fun σ H Q=>t σ H fun x H'=>∃ k,x=.bl k∧Q k H'
theorem pt_cmpR {op:CmpOp} {r:R2} (ho:OpR X (compareOp op) r) (ha:PE X a ta) (hb:PE X b tb) (hm:behindInMarks op b=false):PT X (.Compare a [op] [b] pos) (tTest (tOp r ta tb)):=by
  intro pins s σ H Q I h
  refine wpAny_isTrue_Compare1 (thn (ha pins s σ H _ I h) fun v s1 ⟨x,H1,I1,r1,q1⟩=>thn (hb pins s1 σ H1 _ I1 q1) fun u s2 ⟨y,H2,I2,r2,q2⟩ =>
    thn (ho pins s2 σ H2 x y v u _ I2 r1 r2 q2) fun c s3 ⟨z,H3,I3,r3,k,e,q3⟩=>?_) hm
  subst e
  cases r3
  exact wpAny_truthy_bool ⟨H3,I3,q3⟩
def tChain (r r':R2) (ta tb tc:TE):TE:=fun σ H Q=>ta σ H fun x H1=>tb σ H1 fun y H2=>r x y H2 fun z H3=>∃ k,z=.bl k ∧
  (if k=true then tc σ H3 fun w' H4=>r' y w' H4 Q else Q (.bl false) H3)
theorem pe_chain {op op':CmpOp} {r r':R2} (ho:OpR X (compareOp op) r) (ho':OpR X (compareOp op') r') (ha:PE X a ta) (hb:PE X b tb) (hc:PE X c tc)
    (hm:lastMarks [op,op'] [b,c]=false:=by with_unfolding_all rfl):PE X (.Compare a [op,op'] [b,c] pos) (tChain r r' ta tb tc):=by
  intro pins s σ H Q I h
  refine Compare_chain (thn (ha pins s σ H _ I h) fun v s1 ⟨x,H1,I1,r1,q1⟩=>chain_link (thn (hb pins s1 σ H1 _ I1 q1) fun u s2 ⟨y,H2,I2,r2,q2⟩ =>
    thn (ho pins s2 σ H2 x y v u _ I2 r1 r2 q2) fun d s3 ⟨z,H3,I3,r3,k,e,q3⟩=>?_)) hm
  subst e
  cases r3
  refine wpAny_truthy_bool ?_
  cases k with
  | false=>exact ite_ff ⟨.bl false,H3,I3,rfl,q3⟩
  | true=>exact ite_tt (chain_last (thn (hc pins s3 σ H3 _ I3 q3) fun w' s4 ⟨z',H4,I4,r4,q4⟩=>ho' pins s4 σ H4 y z' u w' Q I4 r2 r4 q4))
theorem line63:(sizeLine:Nat)<2^63:=by rw [sizeLine_eq]; decide
theorem vals1 {x:V} {us:List Value} (r:Vals [x] us):∃ u,us=[u]∧RelV x u:=by
  cases r with
  | cons r1 r2=>cases r2; exact ⟨_,rfl,r1⟩
theorem vals2 {x y:V} {us:List Value} (r:Vals [x,y] us):∃ u w',us=[u,w']∧RelV x u∧RelV y w':=by
  cases r with
  | cons r1 r2 =>
    cases r2 with
    | cons r3 r4=>cases r4; exact ⟨_,_,rfl,r1,r3⟩
theorem call_abs:CallR X (.builtin "abs") (fun xs H Q=>∃ i,xs=[.int i]∧Q (.int (if i<0 then -i else i)) H):=by
  intro pins s σ H xs us Q I r h
  obtain ⟨i,rfl,q⟩:=h
  obtain ⟨u,rfl,t,rfl⟩:=vals1 r
  exact call_abs_int fun u tk=>⟨.int (if i<0 then -i else i),H,I.tok _,⟨_,rfl⟩,q⟩
theorem call_max2 (hc:X.calm=true):CallR X (.builtin "max") (fun xs H Q=>∃ i j,xs=[.int i,.int j]∧Q (.int (if j > i then j else i)) H):=by
  intro pins s σ H xs us Q I r h
  obtain ⟨i,j,rfl,q⟩:=h
  obtain ⟨u,w',rfl,⟨t,rfl⟩,⟨t',rfl⟩⟩:=vals2 r
  refine max_two_ints (I.ok.hd hc) fun h' tk k=>⟨_,H,I.kept k,?_,q⟩
  by_cases hj:j > i
  · rw [if_pos hj,if_pos hj]; exact ⟨_,rfl⟩
  · rw [if_neg hj,if_neg hj]; exact ⟨_,rfl⟩
theorem call_min2 (hc:X.calm=true):CallR X (.builtin "min") (fun xs H Q=>∃ i j,xs=[.int i,.int j]∧Q (.int (if j<i then j else i)) H):=by
  intro pins s σ H xs us Q I r h
  obtain ⟨i,j,rfl,q⟩:=h
  obtain ⟨u,w',rfl,⟨t,rfl⟩,⟨t',rfl⟩⟩:=vals2 r
  refine min_two_ints (I.ok.hd hc) fun h' tk k=>⟨_,H,I.kept k,?_,q⟩
  by_cases hj:j<i
  · rw [if_pos hj,if_pos hj]; exact ⟨_,rfl⟩
  · rw [if_neg hj,if_neg hj]; exact ⟨_,rfl⟩
theorem call_int1:CallR X (.type "int") (fun xs H Q=>(∃ i,xs=[.int i]∧Q (.int i) H)∨∃ k,xs=[.bl k]∧Q (.int (if k then 1 else 0)) H):=by
  intro pins s σ H xs us Q I r h
  rcases h with ⟨i,rfl,q⟩ | ⟨k,rfl,q⟩
  · obtain ⟨u,rfl,t,rfl⟩:=vals1 r
    exact call_int_int ⟨.int i,H,I,⟨_,rfl⟩,q⟩
  · obtain ⟨u,rfl,r1⟩:=vals1 r
    cases r1
    exact call_int_bool ⟨.int (if k then 1 else 0),H,I.tok _,⟨_,rfl⟩,q⟩
def LenV (K:PySem.W.Frag) (x:V) (H:Hp) (n:Nat):Prop :=
  match x with
  | .str y=>y.length≤sizeLine∧n=y.length
  | .byt y=>y.size≤sizeLine∧n=y.size
  | .ref p=>(∃ xs,SqL K H p xs∧n=xs.length)∨∃ xs,SqT K H p xs∧n=xs.length
  | _=>False
theorem call_len:CallR X (.builtin "len") (fun xs H Q=>∃ x n,xs=[x]∧LenV X.K x H n∧Q (.int n) H):=by
  intro pins s σ H xs us Q I r h
  obtain ⟨x,n,rfl,e,q⟩:=h
  obtain ⟨u,rfl,rx⟩:=vals1 r
  have hl:=line63
  have hs:sizeLine=16777216:=sizeLine_eq
  cases x with
  | str y =>
    obtain ⟨t,rfl⟩:=rx
    obtain ⟨hy,e'⟩:y.length≤sizeLine∧n=y.length:=e
    subst e'
    exact len_str (by omega) ⟨.int _,H,I.tok _,⟨_,rfl⟩,q⟩
  | byt y =>
    obtain ⟨t,rfl⟩:=rx
    obtain ⟨hy,e'⟩:y.size≤sizeLine∧n=y.size:=e
    subst e'
    exact PySem.W.len_bytes (by omega) ⟨.int _,H,I.tok _,⟨_,rfl⟩,q⟩
  | ref p =>
    cases rx
    have e':(∃ xs,SqL X.K H p xs∧n=xs.length)∨∃ xs,SqT X.K H p xs∧n=xs.length:=e
    rcases e' with ⟨xs,hx,e'⟩ | ⟨xs,hx,e'⟩
    · subst e'
      obtain ⟨its,r',pl,hz⟩:=I.list hx
      have hlen:=r'.length
      exact Calls.call_len_list pl.isList (by simp only [List.size_toArray]; omega) ⟨.int xs.length,H,I.tok _,⟨_,by simp only [List.size_toArray]; rw [hlen]⟩,q⟩
    · subst e'
      obtain ⟨its,r',pl,hz⟩:=I.tuple hx
      have hlen:=r'.length
      exact len_tuple pl (by simp only [List.size_toArray]; omega) ⟨.int xs.length,H,I.tok _,⟨_,by simp only [List.size_toArray]; rw [hlen]⟩,q⟩
  | _=>exact (show False from e).elim
end
end L2
namespace L2
open PySem PySem.Spec PyProof.Rows
structure ObjM (h:Heap) (x dx C:Addr) (mA:Str→Option Value):Prop where
  obj:h.get? x=some (PySem.W.instObj C dx)
  ns:h.Ns1 dx mA
  ne:dx≠x
theorem lookIn_ns {h:Heap} {dx:Addr} {mA:Str→Option Value} (n:h.Ns1 dx mA):∃ od,h.get? dx=some od∧∀ name,PySem.W.lookIn name od=some (mA name):=by
  obtain ⟨o,es,ep,ho,hd,hk,_,hm⟩:=n
  refine ⟨o,ho,fun name=>?_⟩
  have e:=hm name
  unfold nsFind findBy at e
  rw [← Array.find?_toList] at e
  unfold PySem.W.lookIn
  rw [hd]
  dsimp only
  split
  · rename_i y q
    rw [q] at e
    exact congrArg some e
  · rename_i q
    rw [q] at e
    have a:es.toList.any (·.refKey)=false:=by
      rw [List.any_eq_false]
      intro y hy
      obtain ⟨z,t,hkey⟩:=hk y (Array.mem_toList_iff.mp hy)
      simp [DictEntry.refKey,hkey]
    have a':¬ es.toList.any (·.refKey)=true:=by rw [a]; exact Bool.false_ne_true
    rw [if_neg a']
    exact congrArg some e
theorem ObjM.look {h:Heap} {x dx C:Addr} {mA:Str→Option Value} (I:ObjM h x dx C mA):∃ od,PySem.W.InstAt h x (PySem.W.instObj C dx) C (some od)∧∀ name,PySem.W.lookIn name od=some (mA name) :=
  let ⟨od,ho,hl⟩:=lookIn_ns I.ns
  ⟨od,⟨I.obj,rfl,rfl,ho⟩,hl⟩
section
variable {prog:Program} {w:World} {A:Around} {E:Value→Shared→Prop} {s:Shared} {K:PySem.W.Frag} {x dx C f:Addr} {mA:Str→Option Value} {name:Str} {v:Value}
theorem get_map {expr:Bool} {Q:Value→Shared→Prop} (X:K.In s.heap) (I:ObjM s.heap x dx C mA) (hg:PySem.W.plainGet K C name=true) (hh:PySem.W.hasDictIn K C=true)
    (ha:PySem.W.findIn K (.ref C) name=some none) (hv:mA name=some v) (hv':PySem.W.handedIn v=true) (h:Q v { s with toks:=s.toks+1 }) :
    wpAny (model prog w) A (getAttr (.ref x) name expr) Q E s:=by
  obtain ⟨od,J,hl⟩:=I.look
  exact PySem.W.get_value X J (PySem.W.plainGet_of hg).1 (PySem.W.findObj_own hh ha rfl (by rw [hl,hv])) hv' h
theorem get_meth {pl:Sem Bool} {Q:Value × List Value→Shared→Prop} (X:K.In s.heap) (I:ObjM s.heap x dx C mA) (hg:PySem.W.plainGet K C name=true)
    (hf:PySem.W.findIn K (.ref C) name=some (some (.ref f))) (ht:PySem.W.isFn K (.ref f)=true) (hv:mA name=none) (h:Q (.ref f,[.ref x]) s) :
    wpAny (model prog w) A (getMethod (.ref x) name pl) Q E s:=by
  obtain ⟨od,J,hl⟩:=I.look
  exact PySem.W.method_fn X J (PySem.W.plainGet_of hg).1 (PySem.W.plainGet_of hg).2 hf (beq_iff_eq.mp ht) (by show (PySem.W.lookIn name od).map (·.isSome)=some false; rw [hl,hv]; rfl) h
theorem set_map {ns:List Str} {Q:Unit→Shared→Prop} (X:K.In s.heap) (I:ObjM s.heap x dx C mA)
    (hs:PySem.W.findIn K (.ref C) "__setattr__" = some (some (.builtin "object.__setattr__"))) (hp:PySem.W.plainOver K C=true) (ht:PySem.W.takerIn K C name=some none) (hh:PySem.W.hasDictIn K C=true)
    (hw:PySem.Within mA ns) (hsz:ns.length≤sizeLine)
    (h:∀ h',ObjM h' x dx C (fun y=>if y=name then some v else mA y)→Heap.SameBut dx s.heap h'→Q () { s with heap:=h',toks:=s.toks+2 }) :
    wpAny (model prog w) A (setAttr (.ref x) name v) Q E s:=by
  obtain ⟨od,J,hl⟩:=I.look
  refine PySem.W.set_plain X J hs (PySem.W.osa_open (s:={ s with toks:=s.toks+1 }) (r:=none) X J hp ht fun b=>?_)
  obtain ⟨cd,hc,hd'⟩:=PySem.W.any_some hh
  have hx:s.heap.get? x=some ⟨.ref C,some dx,.plain,#[]⟩:=I.obj
  refine wpAny_bind (wpAny_pure (wpAny_bind (wpAny_bind (wpAny_loadPart hx (wpAny_bind (PySem.W.Looks.here (s:={ s with toks:=s.toks+1 }) (PySem.W.looks_clsIn X hc) ?_))))))
  rw [hd']
  refine wpAny_pure (a:=some dx) (wpAny_bind (wpAny_pure (wpAny_bind ?_)))
  refine wpAny_nsSet1 (s:={ s with toks:=s.toks+1 }) I.ns fun h' hn2 hs2=>?_
  obtain ⟨oD,esD,epD,hoD,hdD,hcD⟩:=hn2.count (PySem.Within.cons name v hw)
  refine wpAny_bind (wpAny_lookBehind hoD (by rw [hdD]; exact pastItsLine_dict (Nat.le_trans hcD (by rw [List.length_cons]; omega))) ?_)
  exact wpAny_pure (h _ ⟨(hs2.2 _ (Ne.symm I.ne)).trans I.obj,hn2,I.ne⟩ hs2)
theorem make_map {R:Result→Shared→Prop} {vs:List Value} {kw:List (Str × Value)} (X:K.In s.heap) (hm:PySem.W.makesIn K C=true)
    (hi:PySem.W.findIn K (.ref C) "__init__" = some (some (.ref f))) (hf:PySem.W.typeIn K (.ref f)=some (.type "function"))
    (h:codeAny (model prog w) (A.under (.builtin "type.__call__" ⟨.ref C::vs,kw⟩)) (.call (.ref f) ⟨.ref (s.heap.objs.size+1)::vs,kw⟩) (PySem.W.InitBack (s.heap.objs.size+1) R)
      { s with heap:=(s.heap.push PySem.W.emptyDict).push (PySem.W.instObj C s.heap.objs.size) }) :
    codeAny (model prog w) A (.call (.ref C) ⟨vs,kw⟩) R s:=by
  obtain ⟨hh,g,d,t,os⟩:=s
  exact PySem.W.make_core (PySem.W.makes_of X hm) (PySem.W.looks_findIn X hi) (fun self=>PySem.W.bind_fn X self hf) (.inl rfl) h
end
def putF (f:Str) (v:V):List (Str × V)→List (Str × V)
  | []=>[(f,v)]
  | (g,x)::r=>if g=f then (g,v)::r else (g,x)::putF f v r
theorem lookup_putF (f g:Str) (v:V):∀ fs:List (Str × V),(putF f v fs).lookup g=if g=f then some v else fs.lookup g
  | []=>by
    show List.lookup g [(f,v)]=_
    by_cases h:g=f
    · have hb:(g == f)=true:=beq_iff_eq.mpr h
      simp only [List.lookup,hb,if_pos h]
    · have hb:(g == f)=false:=beq_eq_false_iff_ne.mpr h
      simp only [List.lookup,hb,if_neg h]
  | (k,x)::r=>by
    have ih:=lookup_putF f g v r
    rw [show putF f v ((k,x)::r)=(if k=f then (k,v)::r else (k,x)::putF f v r) from rfl]
    by_cases hk:k=f
    · rw [if_pos hk]
      by_cases h:g=k
      · have hb:(g == k)=true:=beq_iff_eq.mpr h
        simp only [List.lookup,hb,if_pos (h.trans hk)]
      · have hb:(g == k)=false:=beq_eq_false_iff_ne.mpr h
        simp only [List.lookup,hb,if_neg (fun e:g=f=>h (e.trans hk.symm))]
    · rw [if_neg hk]
      by_cases h:g=k
      · have hb:(g == k)=true:=beq_iff_eq.mpr h
        simp only [List.lookup,hb,if_neg (fun e:g=f=>hk (h.symm.trans e))]
      · have hb:(g == k)=false:=beq_eq_false_iff_ne.mpr h
        simp only [List.lookup,hb]
        exact ih
theorem keys_putF (f:Str) (v:V):∀ fs:List (Str × V),f∈(putF f v fs).map (·.1)∧∀ g,g∈fs.map (·.1)→g∈(putF f v fs).map (·.1)
  | []=>⟨by simp [putF],fun g h=>by simp at h⟩
  | (k,x)::r=>by
    obtain ⟨i1,i2⟩:=keys_putF f v r
    rw [show putF f v ((k,x)::r)=(if k=f then (k,v)::r else (k,x)::putF f v r) from rfl]
    by_cases hk:k=f
    · rw [if_pos hk]
      subst hk
      exact ⟨by simp,fun g h=>by simpa using h⟩
    · rw [if_neg hk]
      refine ⟨?_,fun g h=>?_⟩
      · rw [List.map_cons]
        exact List.mem_cons_of_mem _ i1
      · rw [List.map_cons] at h ⊢
        rcases List.mem_cons.mp h with e | e
        · exact List.mem_cons.mpr (.inl e)
        · exact List.mem_cons_of_mem _ (i2 g e)
theorem length_putF (f:Str) (v:V):∀ fs:List (Str × V),(putF f v fs).length≤fs.length+1
  | []=>by simp [putF]
  | (k,x)::r=>by
    have ih:=length_putF f v r
    rw [show putF f v ((k,x)::r)=(if k=f then (k,v)::r else (k,x)::putF f v r) from rfl]
    by_cases hk:k=f
    · rw [if_pos hk,List.length_cons,List.length_cons]; omega
    · rw [if_neg hk,List.length_cons,List.length_cons]; omega
theorem RelO.some_of {v:V} {o:Option Value} (r:RelO (some v) o):∃ u,o=some u∧RelV v u:=by
  cases o with
  | none=>exact (show False from r).elim
  | some u=>exact ⟨u,rfl,r⟩
theorem RelO.none_of {o:Option Value} (r:RelO none o):o=none:=by
  cases o with
  | none=>rfl
  | some u=>exact (show False from r).elim
theorem handed_of {v:V} {u:Value} (r:RelV v u):PySem.W.handedIn u=true:=by
  cases v with
  | non=>cases (show u=Value.none from r); rfl
  | bl b=>cases (show u=Value.bool b from r); rfl
  | int i=>obtain ⟨t,e⟩:=(show ∃ t,u=Value.int i t from r); cases e; rfl
  | str x=>obtain ⟨t,e⟩:=(show ∃ t,u=Value.str x t from r); cases e; rfl
  | byt b=>obtain ⟨t,e⟩:=(show ∃ t,u=Value.bytes b t from r); cases e; rfl
  | flt b=>obtain ⟨t,e⟩:=(show ∃ t,u=Value.float b t from r); cases e; rfl
  | ref a=>cases (show u=Value.ref a from r); rfl
  | ty n=>cases (show u=Value.type n from r); rfl
section
variable {P:Program} {w:World} {H H':Hp} {h h':Heap} {a C dx:Addr} {fs fs':List (Str × V)}
theorem ins_get (hok:HOk P w H h) (e:H a=some (.ins C dx fs)):∃ mA,ObjM h a dx C mA∧(∀ f,RelO (fs.lookup f) (mA f))∧PySem.Within mA (fs.map (·.1))∧fs.length≤1000∧H dx=some (.own a):=by
  obtain ⟨d,z,ne,ob,mA,n,r,q⟩:=(show ObjOk P w H h a (.ins C dx fs) from hok a _ e)
  exact ⟨mA,⟨ob,n,ne⟩,r,q,z,d⟩
end
structure Cls (K:PySem.W.Frag) (C:Addr):Prop where
  pg:PySem.W.plainGet K C Str.empty=true
  hd:PySem.W.hasDictIn K C=true
  po:PySem.W.plainOver K C=true
  sa:PySem.W.findIn K (.ref C) "__setattr__" = some (some (.builtin "object.__setattr__"))
theorem Cls.get {K:PySem.W.Frag} {C:Addr} (c:Cls K C) (f:Str):PySem.W.plainGet K C f=true:=c.pg
def NoAttr (K:PySem.W.Frag) (C:Addr) (f:Str):Prop:=PySem.W.findIn K (.ref C) f=some none
theorem NoAttr.taker {K:PySem.W.Frag} {C:Addr} {f:Str} (n:NoAttr K C f):PySem.W.takerIn K C f=some none:=by
  unfold PySem.W.takerIn
  rw [show PySem.W.findIn K (.ref C) f=some none from n]
  rfl
structure Meth (K:PySem.W.Frag) (C:Addr) (m:Str) (f:Addr):Prop where
  at_:PySem.W.findIn K (.ref C) m=some (some (.ref f))
  fn:PySem.W.isFn K (.ref f)=true
  kp:PySem.W.keepIn K (.ref f)=true
section
variable {X:Cx} {pins:List (Addr × Obj)} {σ:St} {H:Hp} {s:Shared} {a C dx:Addr} {fs:List (Str × V)} {f:Str} {v:V} {A:Around} {E:Value→Shared→Prop}
theorem getattr_ok {b:Bool} {Q:Value→Shared→Prop} (I:Inv X pins σ H s) (e:H a=some (.ins C dx fs)) (c:Cls X.K C) (n:NoAttr X.K C f) (l:fs.lookup f=some v)
    (h:∀ u s',Inv X pins σ H s'→RelV v u→Q u s'):wpAny (model X.prog X.w) A (getAttr (.ref a) f b) Q E s:=by
  obtain ⟨mA,O,r,_,_,_⟩:=ins_get I.hok e
  obtain ⟨u,hu,ru⟩:=RelO.some_of (v:=v) (o:=mA f) (by rw [← l]; exact r f)
  exact get_map I.kIn O (c.get f) c.hd n hu (handed_of ru) (h u _ (I.tok _) ru)
theorem getmeth_ok {m:Str} {g:Addr} {pl:Sem Bool} {Q:Value × List Value→Shared→Prop} (I:Inv X pins σ H s) (e:H a=some (.ins C dx fs)) (c:Cls X.K C) (k:Meth X.K C m g) (l:fs.lookup m=none)
    (h:Q (.ref g,[.ref a]) s):wpAny (model X.prog X.w) A (getMethod (.ref a) m pl) Q E s:=by
  obtain ⟨mA,O,r,_,_,_⟩:=ins_get I.hok e
  have hn:mA m=none:=RelO.none_of (by rw [← l]; exact r m)
  exact get_meth I.kIn O (c.get m) k.at_ k.fn hn h
theorem setattr_ok {y:V} {u:Value} {Q:Unit→Shared→Prop} (I:Inv X pins σ H s) (e:H a=some (.ins C dx fs)) (c:Cls X.K C) (n:NoAttr X.K C f) (hl:fs.length<1000) (ry:RelV y u)
    (h:∀ s',Inv X pins σ (upd H a (.ins C dx (putF f y fs))) s'→Q () s'):wpAny (model X.prog X.w) A (setAttr (.ref a) f u) Q E s:=by
  obtain ⟨mA,O,r,wi,_,ho⟩:=ins_get I.hok e
  have hz:(fs.map (·.1)).length≤sizeLine:=by rw [List.length_map,sizeLine_eq]; omega
  refine set_map I.kIn O c.sa c.po n.taker c.hd wi hz fun h' O' sb=>h _ ?_
  have hd:∃ o,h'.get? dx=some o:=let ⟨o,_,_,e',_⟩:=O'.ns; ⟨o,e'⟩
  refine I.write (x:=a) (e:=dx) (by rw [e]; exact True.intro) (.inr ho) (fun b q hb z=>(sb.2 b hb).trans z) hd ?_
  refine ⟨by rw [upd_ne O.ne]; exact ho,?_,O.ne,O'.obj,_,O'.ns,fun g=>?_,fun g hg=>?_⟩
  · have:=length_putF f y fs; omega
  · show RelO ((putF f y fs).lookup g) (if g=f then some u else mA g)
    rw [lookup_putF]
    by_cases q:g=f
    · rw [if_pos q,if_pos q]; exact ry
    · rw [if_neg q,if_neg q]; exact r g
  · by_cases q:g=f
    · rw [q]; exact (keys_putF f y fs).1
    · refine (keys_putF f y fs).2 g (wi g fun z=>hg ?_)
      show (if g=f then some u else mA g)=none
      rw [if_neg q]; exact z
theorem Inv.made (I:Inv X pins σ H s):Inv X pins σ (upd (upd H s.heap.objs.size (.own (s.heap.objs.size+1))) (s.heap.objs.size+1) (.ins C s.heap.objs.size []))
    { s with heap:=(s.heap.push PySem.W.emptyDict).push (PySem.W.instObj C s.heap.objs.size) }:=by
  have e1:(s.heap.push PySem.W.emptyDict).get? s.heap.objs.size=some PySem.W.emptyDict:=Heap.get?_push_size s.heap rfl
  have e2:((s.heap.push PySem.W.emptyDict).push (PySem.W.instObj C s.heap.objs.size)).get? (s.heap.objs.size+1)=some (PySem.W.instObj C s.heap.objs.size):=by
    have:=Heap.get?_push_size (s.heap.push PySem.W.emptyDict) (o:=PySem.W.instObj C s.heap.objs.size) rfl
    rwa [Heap.size_push] at this
  have e3:(s.heap.push PySem.W.emptyDict).Ns s.heap.objs.size (fun _=>none):=⟨PySem.W.emptyDict,#[],_,e1,rfl,(fun e he=>absurd he (by simp)),fun _=>rfl⟩
  have I1:=I.laid (a:=s.heap.objs.size) (o:=.own (s.heap.objs.size+1)) (h':=s.heap.push PySem.W.emptyDict) (t':=s.toks) (fun b u q=>Heap.get?_push_of_some _ q) (Nat.le_refl _) ⟨_,e1⟩
  refine I1.laid (a:=s.heap.objs.size+1) (o:=.ins C s.heap.objs.size []) (t':=s.toks) (fun b u q=>Heap.get?_push_of_some _ q) (Nat.le_of_eq (Heap.size_push _ _)) ?_
  have ne:s.heap.objs.size≠s.heap.objs.size+1:=Nat.ne_of_lt (Nat.lt_succ_self _)
  refine ⟨by rw [upd_ne ne,upd_same],Nat.zero_le _,ne,e2,fun _=>none,(Heap.Ns1.of_empty e3).at fun o q=>Heap.get?_push_of_some _ q,fun _=>True.intro,fun y hy=>absurd rfl hy⟩
theorem attr_of {prog:Program} {w:World} {env:Env} {e:Expr} {f:Str} {pos:Pos} {s:Shared} {Q:Value→Shared→Prop} (hb:attributeBase e f env (eval e env)=eval e env)
    (h:wpAny (model prog w) A (eval e env) (fun o s₁=>wpAny (model prog w) A (getAttr o f true) Q E s₁) E s):wpAny (model prog w) A (eval (.Attribute e f pos) env) Q E s :=
  Attribute_any_ h (by rw [arm_eval_Attribute,hb])
end
def tFld (K:PySem.W.Frag) (ta:TE) (f:Str):TE:=fun σ H Q=>ta σ H fun x H1=>∃ a C dx fs v,x=.ref a∧H1 a=some (.ins C dx fs)∧Cls K C∧NoAttr K C f∧fs.lookup f=some v∧Q v H1
def sFld (K:PySem.W.Frag) (ta tv:TE) (f:Str):TS:=fun D σ H=>tv σ H fun y H1=>ta σ H1 fun x H2=>∃ a C dx fs,x=.ref a∧H2 a=some (.ins C dx fs)∧Cls K C∧NoAttr K C f∧fs.length<1000 ∧
  D.nx σ (upd H2 a (.ins C dx (putF f y fs)))
section
variable {X:Cx} {o e value:Expr} {f:Str} {pos pos' tpos:Pos} {ta tv:TE}
theorem pe_fld (he:PE X e ta) (hb:attributeBase e f X.env (eval e X.env)=eval e X.env):PE X (.Attribute e f pos) (tFld X.K ta f):=by
  intro pins s σ H Q I h
  refine attr_of hb (thn (he pins s σ H _ I h) fun u s1 ⟨x,H1,I1,rx,a,C,dx,fs,v,ex,ea,c,n,l,q⟩=>?_)
  subst ex
  obtain rfl:u=Value.ref a:=rx
  exact getattr_ok I1 ea c n l fun u' s2 I2 ru=>⟨v,H1,I2,ru,q⟩
theorem ps_fld (ha:PE X o ta) (hv:PE X value tv) (hs:swapsWith value (some (.Attribute o f pos')) pos.line X.env=pure false):PS X (.Assign [.Attribute o f pos'] value pos) (sFld X.K ta tv f):=by
  intro pins s σ H D I h
  refine plainObj_wpAny_Assign_Attribute (thn (hv pins s σ H _ I h) fun u s1 ⟨y,H1,I1,ry,q⟩=>thn (ha pins s1 σ H1 _ I1 q) fun ov s2 ⟨x,H2,I2,rx,a,C,dx,fs,ex,ea,c,n,l,q2⟩=>?_) hs
  subst ex
  obtain rfl:ov=Value.ref a:=rx
  exact setattr_ok I2 ea c n l ry fun s3 I3=>⟨σ,_,I3,q2⟩
end
section
variable {X:Cx} {pins:List (Addr × Obj)} {σ:St} {H:Hp} {s:Shared} {A:Around} {E:Value→Shared→Prop} {Q:Value→Shared→Prop} {c:Value} {b:Bool}
inductive TyOf (K:PySem.W.Frag) (H:Hp):V→Value→Prop where
  | non:TyOf K H .non (.type "NoneType")
  | bl (x:Bool):TyOf K H (.bl x) (.type "bool")
  | int (i:Int):TyOf K H (.int i) (.type "int")
  | str (x:Str):TyOf K H (.str x) (.type "str")
  | flt (x:UInt64):TyOf K H (.flt x) (.type "float")
  | lst {a:Addr} {xs:List V} (e:H a=some (.lst xs)):TyOf K H (.ref a) (.type "list")
  | frz {a:Addr} {o:Obj} {xs:List V} (e:H a=some (.frz o (.lst xs))):TyOf K H (.ref a) (.type "list")
  | tup {a:Addr} {xs:List V} (e:H a=some (.tup xs)):TyOf K H (.ref a) (.type "tuple")
  | dK {a:Addr} {kvs:List (Key × V)} (e:H a=some (.dK kvs)):TyOf K H (.ref a) (.type "dict")
  | dT {a:Addr} {kvs:List (List Key × V)} (e:H a=some (.dT kvs)):TyOf K H (.ref a) (.type "dict")
  | ins {a C dx:Addr} {fs:List (Str × V)} (e:H a=some (.ins C dx fs)) (cl:Cls K C) (ha:PySem.W.findIn K (.ref C) "__class__" = some (some (.builtin "object.__class__")))
      (hn:PySem.W.specialIn K (.builtin "object.__class__") "__get__" = some (some (.builtin "getset_descriptor.__get__"))) (htk:PySem.W.takesIn K (.builtin "object.__class__")=some true)
      (hm:PySem.W.mroIn K C (.type "object")=some true):TyOf K H (.ref a) (.ref C)
theorem isinst_ok {x:V} {u t:Value} (I:Inv X pins σ H s) (rx:RelV x u) (ty:TyOf X.K H x t) (e:PySem.W.kitOne X.K t c=some b) (h:∀ tk,Q (.bool b) { s with toks:=tk }) :
    wpAny (model X.prog X.w) A (call (.builtin "isinstance") [u,c]) Q E s:=by
  cases ty with
  | non=>cases (show u=Value.none from rx); exact PySem.W.kia_one PySem.W.kitx_none I.kIn True.intro e (fun z=>nomatch z) h
  | bl y=>cases (show u=Value.bool y from rx); exact PySem.W.kia_one PySem.W.kitx_bool I.kIn True.intro e (fun z=>nomatch z) h
  | int i=>obtain ⟨t,q⟩:=(show ∃ t,u=Value.int i t from rx); cases q; exact PySem.W.kia_one PySem.W.kitx_int I.kIn True.intro e (fun z=>nomatch z) h
  | str y=>obtain ⟨t,q⟩:=(show ∃ t,u=Value.str y t from rx); cases q; exact PySem.W.kia_one PySem.W.kitx_str I.kIn True.intro e (fun z=>nomatch z) h
  | flt y=>obtain ⟨t,q⟩:=(show ∃ t,u=Value.float y t from rx); cases q; exact PySem.W.kia_one PySem.W.kitx_float I.kIn True.intro e (fun z=>nomatch z) h
  | @lst a xs ea =>
    cases (show u=Value.ref a from rx)
    obtain ⟨_,_,n,_,h1⟩:=(show ObjOk X.prog X.w H s.heap a (.lst xs) from I.hok a _ ea)
    exact PySem.W.kia_one PySem.W.kitx_list I.kIn ⟨_,h1,rfl⟩ e (fun z=>nomatch z) h
  | @frz a ob xs ea =>
    cases (show u=Value.ref a from rx)
    obtain ⟨_,_,_,n,_,h1⟩:=(show ObjOk X.prog X.w H s.heap a (.frz ob (.lst xs)) from I.hok a _ ea)
    exact PySem.W.kia_one PySem.W.kitx_list I.kIn ⟨_,h1,rfl⟩ e (fun z=>nomatch z) h
  | @tup a xs ea =>
    cases (show u=Value.ref a from rx)
    obtain ⟨_,_,_,p⟩:=(show ObjOk X.prog X.w H s.heap a (.tup xs) from I.hok a _ ea)
    obtain ⟨o,h1,h2,_⟩:=p
    exact PySem.W.kia_one PySem.W.kitx_tuple I.kIn ⟨o,h1,h2⟩ e (fun z=>nomatch z) h
  | @dK a kvs ea =>
    cases (show u=Value.ref a from rx)
    obtain ⟨_,_,vs,_,p⟩:=(show ObjOk X.prog X.w H s.heap a (.dK kvs) from I.hok a _ ea)
    obtain ⟨o,es,ep,h1,h2,_⟩:=p
    exact PySem.W.kia_one PySem.W.kitx_dict I.kIn ⟨o,h1,h2.1⟩ e (fun z=>nomatch z) h
  | @dT a kvs ea =>
    cases (show u=Value.ref a from rx)
    obtain ⟨_,_,xs,_,o,es,ep,h1,h2,_⟩:=(show ObjOk X.prog X.w H s.heap a (.dT kvs) from I.hok a _ ea)
    exact PySem.W.kia_one PySem.W.kitx_dict I.kIn ⟨o,h1,h2.1⟩ e (fun z=>nomatch z) h
  | @ins a C dx fs ea cl ha hn htk hm =>
    cases (show u=Value.ref a from rx)
    obtain ⟨mA,O,_⟩:=ins_get I.hok ea
    obtain ⟨od,J,_⟩:=O.look
    exact PySem.W.kia_one (PySem.W.kitx_own (cl.get _) cl.hd ha hn htk hm) I.kIn J e (fun z=>nomatch z) h
end
end L2
namespace L2
open PySem PySem.Spec PyProof.Rows
structure Room (k:Nat) (A:Around):Prop where
  hd:A.handled=none
  dp:A.depth+3*k+5<recursionLimit
  un:A.units+16*k+200<cLine
  gd:A.guards=some []
theorem Room.mono {j k:Nat} {A:Around} (r:Room k A) (h:j≤k):Room j A:=⟨r.hd,by have:=r.dp; omega,by have:=r.un; omega,r.gd⟩
theorem Room.deeper {k:Nat} {A:Around} (r:Room (k+1) A) (env:Env):Room k (A.deeper env) :=
  ⟨r.hd,by have:=r.dp; show A.depth+1+3*k+5<_; omega,by have:=r.un; show A.units+3+16*k+200<_; omega,r.gd⟩
theorem make_depth {A:Around} {C:Addr} {us:List Value} {kw:List (Str × Value)}:(A.under (.builtin "type.__call__" ⟨.ref C::us,kw⟩)).depth=A.depth+1:=by
  first | rfl | simp [Around.under,Code.weight,Code.isCreation,Code.isGuard,Code.isCaller,Code.frames,Code.isFrame,guardIds]
theorem make_units {A:Around} {C:Addr} {us:List Value} {kw:List (Str × Value)}:(A.under (.builtin "type.__call__" ⟨.ref C::us,kw⟩)).units=A.units+1:=by
  first | rfl | simp [Around.under,Code.cUnits,Code.frames,Code.isFrame]
theorem Room.make {k:Nat} {A:Around} (r:Room (k+1) A) (C:Addr) (us:List Value) (kw:List (Str × Value)):Room k (A.under (.builtin "type.__call__" ⟨.ref C::us,kw⟩)) :=
  ⟨r.hd,by have:=r.dp; rw [make_depth]; omega,by have:=r.un; rw [make_units]; omega,by first | exact r.gd | (simpa [Around.under,Code.guards,Code.isGuard,guardIds,pushGuards] using r.gd)⟩
theorem Room.depth {k:Nat} {A:Around} (r:Room k A):A.depth<recursionLimit:=by have:=r.dp; omega
theorem Room.units {k:Nat} {A:Around} (r:Room k A):A.units+64<cLine:=by have:=r.un; omega
def tNil:TA:=fun _ H Q=>Q [] H
def tCons (ta:TE) (tr:TA):TA:=fun σ H Q=>ta σ H fun x H1=>tr σ H1 fun xs H2=>Q (x::xs) H2
section
variable {X:Cx} {e:Expr} {es:List Expr} {te:TE} {t:TA} {pos:Pos}
theorem pa_nil:PA X [] tNil:=fun _ _ _ _ H Q I h=>Calls.spliced_nil ⟨[],H,I,.nil,h⟩
theorem pa_cons (ha:PE X e te) (hr:PA X es t) (hs:starEach (e::es) X.env=(false,eval e X.env)::starEach es X.env:=by rfl):PA X (e::es) (tCons te t):=by
  intro pos pins s σ H Q I h
  rw [hs]
  show wpAny _ _ (spliced ((false,eval e X.env)::backTo pos (starEach es X.env))) _ _ s
  refine Calls.spliced_cons (thn (ha pins s σ H _ I h) fun u s1 ⟨x,H1,I1,r1,q1⟩=>?_)
  exact thn (hr pos pins s1 σ H1 _ I1 q1) fun us s2 ⟨xs,H2,I2,r2,q2⟩=>⟨x::xs,H2,I2,.cons r1 r2,q2⟩
def tTup (t:TA):TE:=fun σ H Q=>t σ H fun xs H1=>xs.length≤sizeLine∧∀ p,H1 p=none→Q (.ref p) (upd H1 p (.tup xs))
def tLst (t:TA):TE:=fun σ H Q=>t σ H fun xs H1=>xs.length≤sizeLine∧∀ p,H1 p=none→Q (.ref p) (upd H1 p (.lst xs))
theorem pe_tup {x1} (h:PA X es t):PE X (.Tuple es x1 pos) (tTup t):=by
  intro pins s σ H Q I hq
  refine wpAny_Tuple_spliced (thn (h pos pins s σ H _ I hq) fun us s1 ⟨xs,H1,I1,r,z,q⟩=>⟨by rw [← r.length]; exact z,?_⟩)
  have hf:H1 s1.heap.objs.size=none:=I1.hok.fresh (Nat.le_refl _)
  refine ⟨.ref s1.heap.objs.size,upd H1 s1.heap.objs.size (.tup xs),I1.laid (t':=s1.toks) (fun b u e=>Heap.get?_push_of_some _ e) (Nat.le_refl _) ?_,rfl,q _ hf⟩
  exact ⟨⟨z,_,Heap.get?_push_size _ rfl,rfl⟩,us,r,⟨_,Heap.get?_push_size _ rfl,rfl,_,rfl⟩⟩
theorem pe_lst (h:PA X es t):PE X (.List es pos) (tLst t):=by
  intro pins s σ H Q I hq
  refine wpAny_List_spliced (thn (h pos pins s σ H _ I hq) fun us s1 ⟨xs,H1,I1,r,z,q⟩=>⟨by rw [← r.length]; exact z,?_⟩)
  have hf:H1 s1.heap.objs.size=none:=I1.hok.fresh (Nat.le_refl _)
  refine ⟨.ref s1.heap.objs.size,upd H1 s1.heap.objs.size (.lst xs),I1.laid (t':=s1.toks) (fun b u e=>Heap.get?_push_of_some _ e) (Nat.le_refl _) ?_,rfl,q _ hf⟩
  exact ⟨z,us,0,r,Heap.get?_push_size _ rfl⟩
end
abbrev Sp:=List V→Hp→VK→XK→Prop
abbrev CXT:=List Env→Hp→Shared→XK→Value→Shared→Prop
structure Env0 (P:Program) (w:World) (K:PySem.W.Frag) (mg:Str→Option Value) (base:Heap) (A:Around) (outer:List Env) (s:Shared) (H:Hp):Prop where
  frames:A.frames=some outer
  mod:Mod K mg base
  bs:∀ b o,base.get? b=some o→s.heap.get? b=some o∧H b=none
  bsz:base.objs.size≤s.heap.objs.size
  funs:s.heap.FunFrames base outer
  frf:∀ b∈frs outer,H b=none
  hok:HOk P w H s.heap
  bare:AllBare s.gens
def CE (outer:List Env) (P:Program) (w:World) (H:Hp) (s:Shared) (Q:VK) (u:Value) (s':Shared):Prop :=
  ∃ v H',s'.os=s.os∧AllBare s'.gens∧Un (frs outer) [] H H' s.heap s'.heap∧HOk P w H' s'.heap∧RelV v u∧Q v H'
def CR (CX:CXT) (outer:List Env) (P:Program) (w:World) (H:Hp) (s:Shared) (Q:VK) (E:XK) (r:Result) (s':Shared):Prop :=
  match r with
  | .ok (.ret u)=>CE outer P w H s Q u s'
  | .ok _=>False
  | .error e=>CX outer H s E e s'
structure FnOk (P:Program) (w:World) (K:PySem.W.Frag) (mg:Str→Option Value) (base:Heap) (CX:CXT) (k:Nat) (f:Addr) (fd:FuncData) (ps:List Str) (sp:Sp):Prop where
  len:∀ vs H Q E,sp vs H Q E→vs.length=ps.length
  run:∀ (A:Around) (outer:List Env) (s:Shared) (H:Hp) (args:Args) (us:List Value) (vs:List V) (Q:VK) (E:XK),Room k A→Env0 P w K mg base A outer s H→BindsTo s fd args (ps.zip us)→Vals vs us→sp vs H Q E →
    codeAny (model P w) A (.call (.ref f) args) (CR CX outer P w H s Q E) s
theorem Env0.make {P:Program} {w:World} {K:PySem.W.Frag} {mg:Str→Option Value} {base:Heap} {A:Around} {outer:List Env} {s:Shared} {H:Hp} (e:Env0 P w K mg base A outer s H) (C:Addr) (us:List Value) (kw:List (Str × Value)) :
    Env0 P w K mg base (A.under (.builtin "type.__call__" ⟨.ref C::us,kw⟩)) outer s H:=⟨by first | exact e.frames | (simpa [Around.under,Code.envs,Code.isFrame,pushEnvs] using e.frames),e.mod,e.bs,e.bsz,e.funs,e.frf,e.hok,e.bare⟩
section
variable {X:Cx} {pins:List (Addr × Obj)} {σ:St} {H:Hp} {s s':Shared}
theorem Inv.env0 (I:Inv X pins σ H s):Env0 X.prog X.w X.K X.mg X.base X.A X.stack s H :=
  ⟨I.ok.frames,I.ok.mod,I.bs,Nat.le_trans I.ok.bsz I.sz,I.stack,I.stkFree,I.hok,I.bare⟩
theorem Inv.after {Q:VK} {u:Value} (I:Inv X pins σ H s) (h:CE X.stack X.prog X.w H s Q u s'):EP X pins σ Q u s':=by
  obtain ⟨v,H',os,bare,un,hok,r,q⟩:=h
  obtain ⟨hh,g,d,t,os'⟩:=s'
  obtain rfl:os'=s.os:=os
  exact ⟨v,H',I.call (h':=hh) (g':=g) (d':=d) (t':=t) (ch:=[]) un hok bare (fun b z=>absurd z (by simp)),r,q⟩
end
def tCall (sp:Sp) (dvs:List V) (E:XK) (t:TA):TE:=fun σ H Q=>t σ H fun vs H1=>sp (vs++dvs) H1 Q E
def tMeth (C:Addr) (m:Str) (sp:Sp) (dvs:List V) (E:XK) (ta:TE) (t:TA):TE:=fun σ H Q=>ta σ H fun x H1=>∃ a dx fs,x=.ref a∧H1 a=some (.ins C dx fs)∧fs.lookup m=none ∧
  t σ H1 fun vs H2=>sp (x::(vs++dvs)) H2 Q E
def tMake (C:Addr) (sp:Sp) (dvs:List V) (E:XK) (t:TA):TE:=fun σ H Q=>t σ H fun vs H1=>∀ x dx,H1 x=none→H1 dx=none→dx≠x →
  sp (.ref x::(vs++dvs)) (upd (upd H1 dx (.own x)) x (.ins C dx [])) (fun v H2=>v=.non∧Q (.ref x) H2) E
def Binds (K:PySem.W.Frag) (fd:FuncData) (ps:List Str) (ds:List Value):Prop :=
  ∀ (s:Shared) (us:List Value),K.In s.heap→(us++ds).length=ps.length→BindsTo s fd ⟨us,[]⟩ (ps.zip (us++ds))
theorem Binds.all {K:PySem.W.Frag} {fd:FuncData} {ps:List Str} (h:∀ us:List Value,us.length=ps.length→bindArgs fd ⟨us,[]⟩=pure (ps.zip us)):Binds K fd ps []:=fun s us _ hl=>by
  rw [List.append_nil] at hl ⊢
  exact .of_eq (h us hl)
def Passes (CX:CXT) (X:Cx) (E:XK):Prop:=∀ (pins:List (Addr × Obj)) (σ:St) (H:Hp) (s:Shared) (e:Value) (s':Shared),Inv X pins σ H s→CX X.stack H s E e s'→X.xe e s'
section
variable {X:Cx} {CX:CXT} {k:Nat} {f C:Addr} {fd:FuncData} {ps:List Str} {sp:Sp} {dvs:List V} {ds:List Value} {E:XK} {x m:Str} {p pos apos:Pos} {e o:Expr} {es:List Expr} {ta:TE} {t:TA}
theorem run_fn {pins:List (Addr × Obj)} {σ:St} {H:Hp} {s:Shared} {Q:VK} {us:List Value} {vs:List V} (F:FnOk X.prog X.w X.K X.mg X.base CX k f fd ps sp) (hr:Room k X.A) (hb:Binds X.K fd ps ds) (hd:Vals dvs ds) (hx:Passes CX X E)
    (I:Inv X pins σ H s) (r:Vals vs us) (h:sp (vs++dvs) H Q E):wpAny (model X.prog X.w) X.A (call (.ref f) us) (EP X pins σ Q) X.xe s:=by
  have r2:Vals (vs++dvs) (us++ds):=r.append hd
  have hl:(us++ds).length=ps.length:=by rw [← r2.length]; exact F.len _ _ _ _ h
  refine wpAny_call (codeAny_mono (F.run X.A X.stack s H ⟨us,[]⟩ (us++ds) (vs++dvs) Q E hr I.env0 (hb s us I.kIn hl) r2 h) fun r s' hq=>?_)
  cases r with
  | error e=>exact hx pins σ H s e s' I hq
  | ok fl =>
    cases fl with
    | ret u=>exact I.after hq
    | next=>exact False.elim hq
    | brk=>exact False.elim hq
    | cont=>exact False.elim hq
theorem pe_call (F:FnOk X.prog X.w X.K X.mg X.base CX k f fd ps sp) (hr:Room k X.A) (hg:Gl X x) (hm:X.mg x=some (.ref f)) (hk:PySem.W.keepIn X.K (.ref f)=true) (hb:Binds X.K fd ps ds) (hd:Vals dvs ds) (hx:Passes CX X E)
    (ha:PA X (e::es) t) (hdb:(x == ("__debug__" : Str))=false:=by decide) (he:starEach (e::es) X.env=(false,eval e X.env)::starEach es X.env:=by rfl) (hpl:(backTo pos (starEach es X.env)).any (·.1)=false:=by rfl) :
    PE X (.Call (.Name x p) (e::es) [] pos) (tCall sp dvs E t):=by
  intro pins s σ H Q I h
  refine wpAny_Call_Name_kw (ld_glob I hg hm ?_ hdb)
  refine PySem.W.callWith_K (h₀:=X.base) I.ok.mod.kin hk (thn (ha pos pins s σ H _ I h) fun us s1 ⟨vs,H1,I1,r,q⟩=>⟨I1.kIn,?_⟩) he hpl
  exact run_fn F hr hb hd hx I1 r q
theorem pe_meth {pl:Sem Bool} (he:PE X o ta) (c:Cls X.K C) (hm:Meth X.K C m f) (F:FnOk X.prog X.w X.K X.mg X.base CX k f fd ps sp) (hr:Room k X.A) (hb:Binds X.K fd ps ds) (hd:Vals dvs ds) (hx:Passes CX X E) (ha:PA X (e::es) t)
    (hst:starEach (e::es) X.env=(false,eval e X.env)::starEach es X.env:=by rfl) (hpl:(backTo pos (starEach es X.env)).any (·.1)=false:=by rfl)
    (ht:eval (.Call (.Attribute o m apos) (e::es) [] pos) X.env=(do
      let ov ← eval o X.env
      standAt apos.atName
      let (f,first) ← holding [ov] (getMethod ov m pl)
      callWith pos f first (backTo pos (starEach (e::es) X.env)) (backToKw pos (keywordEach [] X.env))):=by rfl) :
    PE X (.Call (.Attribute o m apos) (e::es) [] pos) (tMeth C m sp dvs E ta t):=by
  intro pins s σ H Q I h
  refine PySem.W.methodCall_KW (pl:=pl) (thn (he pins s σ H _ I h) fun u s1 ⟨x,H1,I1,rx,a,dx,fs,ex,ea,l,q⟩=>?_) ht
  subst ex
  obtain rfl:u=Value.ref a:=rx
  refine getmeth_ok I1 ea c hm l ?_
  refine PySem.W.callWith_K (first:=[.ref a]) (h₀:=X.base) I.ok.mod.kin hm.kp (thn (ha pos pins s1 σ H1 _ I1 q) fun us s2 ⟨vs,H2,I2,r,q2⟩=>⟨I2.kIn,?_⟩) hst hpl
  exact run_fn (us:=.ref a::us) (vs:=.ref a::vs) F hr hb hd hx I2 (.cons rfl r) q2
theorem pe_meth0 {pl:Sem Bool} (he:PE X o ta) (c:Cls X.K C) (hm:Meth X.K C m f) (F:FnOk X.prog X.w X.K X.mg X.base CX k f fd ps sp) (hr:Room k X.A) (hb:Binds X.K fd ps ds) (hd:Vals dvs ds) (hx:Passes CX X E)
    (ht:eval (.Call (.Attribute o m apos) [] [] pos) X.env=(do
      let ov ← eval o X.env
      standAt apos.atName
      let (f,first) ← holding [ov] (getMethod ov m pl)
      callWith pos f first (backTo pos (starEach [] X.env)) (backToKw pos (keywordEach [] X.env))):=by rfl) :
    PE X (.Call (.Attribute o m apos) [] [] pos) (tMeth C m sp dvs E ta tNil):=by
  intro pins s σ H Q I h
  refine PySem.W.methodCall_KW (pl:=pl) (thn (he pins s σ H _ I h) fun u s1 ⟨x,H1,I1,rx,a,dx,fs,ex,ea,l,q⟩=>?_) ht
  subst ex
  obtain rfl:u=Value.ref a:=rx
  refine getmeth_ok I1 ea c hm l ?_
  exact PySem.W.callWith_K0 (first:=[.ref a]) I1.kIn hm.kp (run_fn (us:=[.ref a]) (vs:=[.ref a]) F hr hb hd hx I1 (.cons rfl .nil) q)
structure Mk (K:PySem.W.Frag) (C f:Addr):Prop where
  makes:PySem.W.makesIn K C=true
  init:PySem.W.findIn K (.ref C) "__init__" = some (some (.ref f))
  fn:PySem.W.isFn K (.ref f)=true
  kp:PySem.W.keepIn K (.ref C)=true
theorem run_make {pins:List (Addr × Obj)} {σ:St} {H:Hp} {s:Shared} {Q:VK} {us:List Value} {vs:List V} (M:Mk X.K C f) (F:FnOk X.prog X.w X.K X.mg X.base CX k f fd ps sp) (hr:Room (k+1) X.A) (hb:Binds X.K fd ps ds) (hd:Vals dvs ds)
    (hx:Passes CX X E) (I:Inv X pins σ H s) (r:Vals vs us)
    (h:∀ x dx,H x=none→H dx=none→dx≠x→sp (.ref x::(vs++dvs)) (upd (upd H dx (.own x)) x (.ins C dx [])) (fun v H2=>v=.non∧Q (.ref x) H2) E) :
    wpAny (model X.prog X.w) X.A (call (.ref C) us) (EP X pins σ Q) X.xe s:=by
  have hq:=h (s.heap.objs.size+1) s.heap.objs.size (I.hok.fresh (Nat.le_succ _)) (I.hok.fresh (Nat.le_refl _)) (Nat.ne_of_lt (Nat.lt_succ_self _))
  have I2:=Inv.made (C:=C) I
  have r2:Vals (V.ref (s.heap.objs.size+1)::(vs++dvs)) (Value.ref (s.heap.objs.size+1)::(us++ds)):=.cons rfl (r.append hd)
  have hl:(Value.ref (s.heap.objs.size+1)::us++ds).length=ps.length:=by
    have e:=r2.length
    rw [F.len _ _ _ _ hq] at e
    exact e.symm
  refine wpAny_call (make_map (f:=f) I.kIn M.makes M.init (beq_iff_eq.mp M.fn) (codeAny_mono (F.run _ X.stack _ _ ⟨Value.ref (s.heap.objs.size+1)::us,[]⟩ (Value.ref (s.heap.objs.size+1)::(us++ds)) _ _ E (hr.make C us [])
    (I2.env0.make C us []) (hb _ (Value.ref (s.heap.objs.size+1)::us) I2.kIn hl) r2 hq) fun r s' hq'=>?_))
  cases r with
  | error e=>exact hx pins σ _ _ e s' I2 hq'
  | ok fl =>
    cases fl with
    | ret u =>
      obtain ⟨v,H',I3,rv,ev,q3⟩:=I2.after hq'
      subst ev
      exact ⟨rv,⟨V.ref (s.heap.objs.size+1),H',I3,rfl,q3⟩⟩
    | next=>exact False.elim hq'
    | brk=>exact False.elim hq'
    | cont=>exact False.elim hq'
theorem pe_make (M:Mk X.K C f) (F:FnOk X.prog X.w X.K X.mg X.base CX k f fd ps sp) (hr:Room (k+1) X.A) (hg:Gl X x) (hm:X.mg x=some (.ref C)) (hb:Binds X.K fd ps ds) (hd:Vals dvs ds) (hx:Passes CX X E)
    (ha:PA X (e::es) t) (hdb:(x == ("__debug__" : Str))=false:=by decide) (he:starEach (e::es) X.env=(false,eval e X.env)::starEach es X.env:=by rfl) (hpl:(backTo pos (starEach es X.env)).any (·.1)=false:=by rfl) :
    PE X (.Call (.Name x p) (e::es) [] pos) (tMake C sp dvs E t):=by
  intro pins s σ H Q I h
  refine wpAny_Call_Name_kw (ld_glob I hg hm ?_ hdb)
  refine PySem.W.callWith_K (h₀:=X.base) I.ok.mod.kin M.kp (thn (ha pos pins s σ H _ I h) fun us s1 ⟨vs,H1,I1,r,q⟩=>⟨I1.kIn,?_⟩) he hpl
  exact run_make M F hr hb hd hx I1 r q
end
section
variable {X:Cx} {CX:CXT} {k:Nat} {f C:Addr} {fd:FuncData} {ps ks:List Str} {sp:Sp} {E:XK} {x m:Str} {p pos apos kpos:Pos} {e o:Expr} {es:List Expr} {kws:List Keyword} {te ta:TE} {t tk:TA} {nm:Option Str}
variable {g:List Value→List Value→List Value} {gV:List V→List V→List V}
end
structure FnScope (N P:List Str) (sc:Scope):Prop where
  kind:sc.kind=.function
  co:sc.isCoroutine=false
  gen:sc.isGenerator=false
  nd:N.Nodup
  pre:N.take P.length=P
  par:∀ x∈P,sc.names.lookup x=some .local∨sc.names.lookup x=some .cell
  nofree:∀ y∈sc.names,y.2 ≠ .free
theorem bindL_out {kindOf:Str→Option NameKind} {x:Str}:∀ {binds:List (Str × Value)} {m:Str→Option Value},(∀ v,(x,v) ∉ binds)→bindL kindOf binds m x=m x
  | [],_,_=>rfl
  | (n,v)::r,m,h=>by
    unfold bindL
    rw [bindL_out fun w hw=>h w (List.mem_cons_of_mem _ hw)]
    split
    · have:x≠n:=by rintro rfl; exact h v List.mem_cons_self
      simp [this]
    · rfl
theorem bindC_out {kindOf:Str→Option NameKind} {x:Str}:∀ {binds:List (Str × Value)} {m:Str→Option Value},(∀ v,(x,v) ∉ binds)→bindC kindOf binds m x=m x
  | [],_,_=>rfl
  | (n,v)::r,m,h=>by
    unfold bindC
    rw [bindC_out fun w hw=>h w (List.mem_cons_of_mem _ hw)]
    split
    · rfl
    · have:x≠n:=by rintro rfl; exact h v List.mem_cons_self
      simp [this]
theorem bindL_get {kindOf:Str→Option NameKind} {x:Str} {v:Value}:∀ {P:List Str} {vs:List Value} {i:Nat} {m:Str→Option Value},P.Nodup→P[i]?=some x→vs[i]?=some v→kindOf x=some .local →
    bindL kindOf (P.zip vs) m x=some v
  | [],_,_,_,_,h,_,_=>by simp at h
  | _::_,[],_,_,_,_,h,_=>by simp at h
  | p::P,w::vs,0,m,nd,h1,h2,hk=>by
    simp at h1 h2; subst h1; subst h2
    show bindL kindOf ((p,w)::P.zip vs) m p=_
    unfold bindL
    rw [bindL_out fun v hv=>(List.nodup_cons.mp nd).1 (List.of_mem_zip hv).1,if_pos hk]
    simp
  | p::P,w::vs,i+1,m,nd,h1,h2,hk=>by
    show bindL kindOf ((p,w)::P.zip vs) m x=_
    unfold bindL
    exact bindL_get (i:=i) (List.nodup_cons.mp nd).2 (by simpa using h1) (by simpa using h2) hk
theorem bindC_get {kindOf:Str→Option NameKind} {x:Str} {v:Value}:∀ {P:List Str} {vs:List Value} {i:Nat} {m:Str→Option Value},P.Nodup→P[i]?=some x→vs[i]?=some v→kindOf x≠some .local →
    bindC kindOf (P.zip vs) m x=some v
  | [],_,_,_,_,h,_,_=>by simp at h
  | _::_,[],_,_,_,_,h,_=>by simp at h
  | p::P,w::vs,0,m,nd,h1,h2,hk=>by
    simp at h1 h2; subst h1; subst h2
    show bindC kindOf ((p,w)::P.zip vs) m p=_
    unfold bindC
    rw [bindC_out fun v hv=>(List.nodup_cons.mp nd).1 (List.of_mem_zip hv).1,if_neg hk]
    simp
  | p::P,w::vs,i+1,m,nd,h1,h2,hk=>by
    show bindC kindOf ((p,w)::P.zip vs) m x=_
    unfold bindC
    exact bindC_get (i:=i) (List.nodup_cons.mp nd).2 (by simpa using h1) (by simpa using h2) hk
def start (N:List Str) (vs:List V):St:=vs.map some++List.replicate (N.length - vs.length) none
def cxOf (CX:CXT) (P:Program) (w:World) (K:PySem.W.Frag) (mg:Str→Option Value) (base:Heap) (N:List Str) (qual:Str) (scope:Scope) (f:Addr) (cd:Value) (A:Around) (outer:List Env) (s:Shared) (H:Hp) (E:XK):Cx where
  prog:=P
  w:=w
  K:=K
  mg:=mg
  base:=base
  A:=A.deeper (envOfC qual scope s.heap.objs.size f cd)
  N:=N
  s₀:=s
  H₀:=H
  env:=envOfC qual scope s.heap.objs.size f cd
  outer:=outer
  stack:=envOfC qual scope s.heap.objs.size f cd::outer
  ex:=[]
  calm:=true
  fn:=fun _=>true
  pn:=[]
  xe:=fun e s'=>wpAny (model P w) (A.deeper (envOfC qual scope s.heap.objs.size f cd)) (leaving (envOfC qual scope s.heap.objs.size f cd) e) (fun _ s''=>CX outer H s E e s'') (fun e' s''=>CX outer H s E e' s'') s'
theorem cell_has {sc:Scope} {n:Nat} {x:Str} (h:sc.names.lookup x=some .cell):∃ c,(cellsFrom n sc.names []).lookup x=some c:=by
  have q:=PySem.W.cellsFrom_some sc.names n [] (.inl h)
  exact Option.isSome_iff_exists.mp q
theorem inv_start {CX:CXT} {P:Program} {w:World} {K:PySem.W.Frag} {mg:Str→Option Value} {base:Heap} {N ps:List Str} {qual:Str} {scope:Scope} {f:Addr} {cd:Value} {A:Around} {outer:List Env} {s s1:Shared} {H:Hp} {E:XK} {us:List Value} {vs:List V}
    (S:FnScope N ps scope) (hd:A.handled=none) (e0:Env0 P w K mg base A outer s H) (hl:vs.length=ps.length) (r:Vals vs us)
    (x:InCallC s s.heap.objs.size (bindL (envOfC qual scope s.heap.objs.size f cd).kindOf (ps.zip us) fun _=>none) (cellsFrom (s.heap.objs.size+1) scope.names []) (bindC (envOfC qual scope s.heap.objs.size f cd).kindOf (ps.zip us) fun _=>none) s1) :
    Inv (cxOf CX P w K mg base N qual scope f cd A outer s H E) [] (start N vs) H s1:=by
  have hpl:ps.length≤N.length:=by have:=congrArg List.length S.pre; rw [List.length_take] at this; omega
  obtain ⟨h1,tk,rfl,hk⟩:=x.done
  have noA:∀ b:Addr,b ∉ (cxOf CX P w K mg base N qual scope f cd A outer s H E).ex:=fun b z=>absurd (show b∈([]:List Addr) from z) (by simp)
  refine ⟨⟨e0.mod,S.kind,rfl,rfl,Nat.le_refl _,fun y z c h1 h2=>?_,fun y hy=>?_,fun y c _ h=>?_,fun _=>hd,Around.frames_deeper e0.frames,.inr ⟨rfl,rfl⟩,fun b z=>absurd z (noA b),e0.bs,e0.bsz,fun b _ _=>noA b,fun b z=>absurd z (noA b),e0.funs,e0.frf⟩,
    rfl,e0.bare,Un.kept hk,⟨_,x.toInCall.ns,fun i y v h1 h2 h3=>?_⟩,fun y c h=>⟨_,x.cell y c h⟩,e0.hok.fresh (Nat.le_refl _),fun y c h=>?_,fun p hp=>absurd (show p∈([]:List (Addr × Obj)) from hp) (by simp),e0.hok.kept hk,?_⟩
  · exact name_of_addr x.apart (PySem.mem_of_lookup h1) (PySem.mem_of_lookup h2)
  · have hy:scope.names.lookup y=some .cell∨scope.names.lookup y=some .free:=hy
    rcases hy with hy | hy
    · exact cell_has hy
    · exact absurd rfl (S.nofree _ (PySem.mem_of_lookup hy))
  · exact Nat.le_of_lt (x.above y c (PySem.mem_of_lookup h))
  · have hi:i<vs.length:=by
      unfold start at h2
      by_cases hi:i<vs.length
      · exact hi
      · rw [List.getElem?_append_right (by simpa using hi)] at h2
        rw [List.getElem?_replicate] at h2
        split at h2 <;> cases h2
    have ha:vs[i]?=some v:=by
      unfold start at h2
      rw [List.getElem?_append_left (by simpa using hi),List.getElem?_map] at h2
      cases e:vs[i]? with
      | none=>rw [e] at h2; cases h2
      | some a=>rw [e] at h2; cases h2; rfl
    obtain ⟨u,hu,rv⟩:=r.get ha
    have hp:ps[i]?=some y:=by
      rw [← S.pre,List.getElem?_take_of_lt (by omega)]; exact h1
    have ndP:ps.Nodup:=by rw [← S.pre]; exact S.nd.sublist (List.take_sublist _ _)
    refine ⟨u,rv,?_⟩
    rcases S.par y (List.mem_of_getElem? hp) with k | k
    · exact .inl ⟨k,bindL_get ndP hp hu k⟩
    · obtain ⟨c,e⟩:=cell_has (n:=s.heap.objs.size+1) k
      refine .inr ⟨.inl k,c,e,?_⟩
      have q:=x.cell y c e
      rw [bindC_get ndP hp hu (by show scope.names.lookup y≠_; rw [k]; decide)] at q
      exact q
  · exact e0.hok.fresh (Nat.le_of_lt (x.above y c (PySem.mem_of_lookup h)))
  · unfold start
    show _=N.length
    rw [List.length_append,List.length_map,List.length_replicate]
    omega
theorem fn_of {CX:CXT} {P:Program} {w:World} {K:PySem.W.Frag} {mg:Str→Option Value} {base:Heap} {k:Nat} {f:Addr} {name qual:Str} {params:Arguments} {body:List Stmt} {scope:Scope} {dV kV doc pm cdv ct oc:Value} {an od:Option Addr}
    {osl:Array (Option Value)} {N ps:List Str} {sp:Sp} (lk:K.lookup f=some ⟨oc,od,.func (PySem.W.fnOf name qual params body scope dV kV doc pm an cdv ct),osl⟩) (hcd:PySem.W.codeIn K cdv qual=true) (S:FnScope N ps scope)
    (len:∀ vs H Q E,sp vs H Q E→vs.length=ps.length)
    (hbody:∀ (A:Around) (outer:List Env) (s:Shared) (H:Hp) (vs:List V) (Q:VK) (E:XK),Room k (A.deeper (envOfC qual scope s.heap.objs.size f cdv))→sp vs H Q E →
      ∃ t,PSs (cxOf CX P w K mg base N qual scope f cdv A outer s H E) body t∧t { nx:=fun _ H'=>Q .non H',rt:=Q } (start N vs) H) :
    FnOk P w K mg base CX (k+1) f (PySem.W.fnOf name qual params body scope dV kV doc pm an cdv ct) ps sp:=by
  refine ⟨len,fun A outer s H args us vs Q E hr e0 hb r hsp=>?_⟩
  have hl:=len _ _ _ _ hsp
  have KX:K.In s.heap:=e0.mod.kin.keeps fun b o e=>(e0.bs b o e).1
  have lim:s.heap.NoLimit:=e0.mod.nolimit.keeps fun b o e=>(e0.bs b o e).1
  have hkind:∀ y∈ps.zip us,scope.names.lookup y.1=some .local∨(scope.names.lookup y.1=some .cell∧((cellsFrom (s.heap.objs.size+1) scope.names []).lookup y.1).isSome=true):=fun ⟨n,v⟩ hy=>by
    rcases S.par n (List.of_mem_zip hy).1 with q | q
    · exact .inl q
    · exact .inr ⟨q,PySem.W.cellsFrom_some _ _ _ (.inl q)⟩
  refine codeAny_call_function hr.depth (KX _ _ lk) rfl S.co S.gen rfl (PySem.W.codeRec_of KX hcd) (hb _ _ _ _ ?_)
  refine wpAny_newFunctionEnv_cells S.kind hkind fun env he s1 x=>?_
  subst he
  refine ⟨lim.keeps x.toInCall.keep,codeAny_func ?_⟩
  obtain ⟨t,ht,hq⟩:=hbody A outer s H vs Q E (hr.deeper _) hsp
  have I:Inv (cxOf CX P w K mg base N qual scope f cdv A outer s H E) [] (start N vs) H s1:=inv_start S hr.hd e0 hl r x
  refine wpAny_mono (ht [] s1 (start N vs) H _ I hq) (fun fl s' hs=>?_) fun e s' hs=>hs
  have fin:∀ {σ':St} {H':Hp} {v:V} {u:Value},Inv (cxOf CX P w K mg base N qual scope f cdv A outer s H E) [] σ' H' s'→RelV v u→Q v H'→CE outer P w H s Q u s' :=
    fun {σ' H' v u} J rv q=>⟨v,H',J.os,J.bare,J.base,J.hok,rv,q⟩
  cases fl with
  | ret u =>
    obtain ⟨v,σ',H',J,rv,q⟩:=hs
    exact fin J rv q
  | next =>
    obtain ⟨σ',H',J,q⟩:=hs
    exact fin (v:=V.non) (u:=Value.none) J rfl q
  | brk =>
    obtain ⟨_,_,_,q⟩:=hs
    exact False.elim q
  | cont =>
    obtain ⟨_,_,_,q⟩:=hs
    exact False.elim q
end L2
namespace L2
open PySem PySem.Spec PyProof.Rows
section
variable {X:Cx} {x:Str} {p pos:Pos} {e:Expr} {es:List Expr} {t:TA} {id T:String} {r:List V→Hp→VK→Prop}
def tCB (r:List V→Hp→VK→Prop) (t:TA):TE:=fun σ H Q=>t σ H fun vs H1=>r vs H1 Q
theorem pe_callB (hc:CallR X (.builtin id) r) (hg:Gl X x) (hm:X.mg x=none) (hv:bootBuiltins x=some (.builtin id)) (ha:PA X (e::es) t) (hn:x ≠ "__name__" := by decide) (hdb:(x == ("__debug__" : Str))=false:=by decide)
    (he:starEach (e::es) X.env=(false,eval e X.env)::starEach es X.env:=by rfl) (hpl:(backTo pos (starEach es X.env)).any (·.1)=false:=by rfl):PE X (.Call (.Name x p) (e::es) [] pos) (tCB r t):=by
  intro pins s σ H Q I h
  refine wpAny_Call_Name_kw (ld_blt I hg hm hv ?_ hn hdb)
  exact PyProof.Rows.callWith_builtin1 (thn (ha pos pins s σ H _ I h) fun us s1 ⟨vs,H1,I1,r1,q1⟩=>hc pins s1 σ H1 vs us Q I1 r1 q1) he hpl
theorem pe_callTy (hc:CallR X (.type T) r) (hg:Gl X x) (hm:X.mg x=none) (hv:bootBuiltins x=some (.type T)) (ha:PA X (e::es) t) (hn:x ≠ "__name__" := by decide) (hdb:(x == ("__debug__" : Str))=false:=by decide)
    (he:starEach (e::es) X.env=(false,eval e X.env)::starEach es X.env:=by rfl) (hpl:(backTo pos (starEach es X.env)).any (·.1)=false:=by rfl):PE X (.Call (.Name x p) (e::es) [] pos) (tCB r t):=by
  intro pins s σ H Q I h
  refine wpAny_Call_Name_kw (ld_blt I hg hm hv ?_ hn hdb)
  exact PyProof.Rows.callWith_type1 (thn (ha pos pins s σ H _ I h) fun us s1 ⟨vs,H1,I1,r1,q1⟩=>hc pins s1 σ H1 vs us Q I1 r1 q1) he hpl
end
end L2
namespace HT
open PySem PyProof.Rows
section
open PySem.SeqAt
open PySem.AutoSeq1 (wpAny_loadPart')
open PySem.MeetsSeq PySem.MeetsSeq2 PySem.MeetsSeq3
end
section
variable {prog:Program} {w:World} {A:Around} {E:Value→Shared→Prop} {s:Shared}
theorem cat_tup {t b:Addr} {vs ws:List Value} {Q:Value→Shared→Prop} (ht:IsTup s.heap t vs.toArray) (hb:IsTup s.heap b ws.toArray) (hv:vs≠[])
    (h1:ws=[]→Q (.ref t) s) (h2:ws≠[]→Q (.ref s.heap.objs.size) { s with heap:=s.heap.push { cls:=.type "tuple",data:=.seq (vs++ws).toArray } })
    (hsz:vs.length+ws.length≤sizeLine):wpAny (model prog w) A (binaryOp .Add (.ref t) (.ref b)) Q E s:=by
  obtain ⟨⟨cls,dd,data,sl⟩,ho,hc,n,hd⟩:=id ht
  obtain ⟨⟨cls2,dd2,data2,sl2⟩,ho2,hc2,n2,hd2⟩:=id hb
  simp only at hc hd hc2 hd2
  subst hc hd hc2 hd2
  have e:vs.toArray++ws.toArray=(vs++ws).toArray:=by simp
  by_cases hw:ws=[]
  · exact concat_meets ⟨_,ho,rfl⟩ ⟨_,ho2,rfl⟩ noFill_tuple_add seq_tuple_add PySem.F.slot_tuple_add PySem.F.entry_tuple_add (PySem.F.args_tuple_add_2 _ _)
      (tuple_addW1 t b vs.toArray ws.toArray n n2 dd dd2 sl sl2 (by simpa using hv) (by simp [hw])) ⟨ho,ho2,h1 hw⟩
  · refine concat_meets ⟨_,ho,rfl⟩ ⟨_,ho2,rfl⟩ noFill_tuple_add seq_tuple_add PySem.F.slot_tuple_add PySem.F.entry_tuple_add (PySem.F.args_tuple_add_2 _ _)
      (tuple_addW2 t b vs.toArray ws.toArray n n2 dd dd2 sl sl2 (by simpa using hv) (by simpa using hw) (by rw [List.size_toArray,List.size_toArray]; exact hsz)) ⟨ho,ho2,?_⟩
    rw [e]
    exact h2 hw
def sIx (n d:Nat):Option Int→Nat
  | none=>d
  | some v=>if v<0 then (v+(n:Int)).toNat else min v.toNat n
theorem sIx_none (n d:Nat):sIx n d none=d:=rfl
theorem sIx_nat (n d k:Nat):sIx n d (some (k:Int))=min k n:=by
  show (if (k:Int)<0 then ((k:Int)+(n:Int)).toNat else min (k:Int).toNat n)=min k n
  rw [if_neg (by omega),Int.toNat_natCast]
theorem sIx_le (n d:Nat) (hd:d≤n) (o:Option Int):sIx n d o≤n:=by
  cases o with
  | none=>exact hd
  | some v =>
    show (if v<0 then (v+(n:Int)).toNat else min v.toNat n)≤n
    by_cases hv:v<0
    · rw [if_pos hv]; omega
    · rw [if_neg hv]; exact Nat.min_le_right _ _
theorem clip_eq (v:Int) (n d:Nat):(if v<0 then max (v+(n:Int)) 0 else min v (n:Int))=((sIx n d (some v):Nat):Int):=by
  show (if v<0 then max (v+(n:Int)) 0 else min v (n:Int))=(((if v<0 then (v+(n:Int)).toNat else min v.toNat n):Nat):Int)
  by_cases hv:v<0
  · simp only [if_pos hv]; omega
  · simp only [if_neg hv]; omega
theorem adjust_gen (lo hi:Option Int) (n:Nat):Builtin.Slice.sliceAdjust lo hi 1 (n:Int)=(((sIx n 0 lo:Nat):Int),((sIx n n hi:Nat):Int)):=by
  have h1:¬ ((1:Int)<0):=by omega
  unfold Builtin.Slice.sliceAdjust
  simp only [h1,if_false]
  refine Prod.ext ?_ ?_
  · cases lo with
    | none=>rfl
    | some v=>exact clip_eq v n 0
  · cases hi with
    | none=>rfl
    | some v=>exact clip_eq v n n
theorem places_gen (i j:Nat):Builtin.Slice.slicePlaces (i:Int) (j:Int) 1=j - i:=by
  unfold Builtin.Slice.slicePlaces
  have h1:(1:Int) > 0:=by omega
  simp only [h1,if_true,Int.ediv_one]
  split <;> omega
theorem slicePart_ {v:Value} {o:Option Int} {Q:Option Int→Shared→Prop} (p:IsPart v o) (h:Q o s):wpAny (model prog w) A (Builtin.Slice.slicePartIndex v) Q E s:=by
  cases p with
  | none=>exact slicePart_none h
  | int i t=>exact slicePart_int h
theorem sliceApplied_gen {sl:Addr} {vl vu:Value} {lo hi:Option Int} {n:Nat} {Q:Int × Int × Nat→Shared→Prop} (hs:s.heap.IsSliceOf sl vl vu .none) (pl:IsPart vl lo) (pu:IsPart vu hi)
    (h:Q (((sIx n 0 lo:Nat):Int),1,sIx n n hi - sIx n 0 lo) s):wpAny (model prog w) A (Builtin.Slice.sliceApplied (.ref sl) (pure (n:Int))) Q E s:=by
  obtain ⟨os,hos,hcs,hds⟩:=id hs
  unfold Builtin.Slice.sliceApplied Builtin.Slice.sliceFields
  refine wpAny_bind (wpAny_bind (wpAny_field hos hds (x:=vl) rfl (wpAny_bind (wpAny_field hos hds (x:=vu) rfl (wpAny_bind (wpAny_field hos hds (x:=.none) rfl (wpAny_pure ?_)))))))
  refine wpAny_bind (slicePart_none ?_)
  show wpAny _ _ (if ((1:Int) == 0)=true then _ else _) _ _ s
  rw [if_neg (by decide)]
  refine wpAny_bind (slicePart_ pl (wpAny_bind (slicePart_ pu (wpAny_bind (wpAny_pure ?_)))))
  show wpAny _ _ (match Builtin.Slice.sliceAdjust lo hi 1 (n:Int) with | (lo,hi)=>pure (lo,(1:Int),Builtin.Slice.slicePlaces lo hi 1)) _ _ s
  rw [adjust_gen lo hi n]
  show wpAny _ _ (pure (((sIx n 0 lo:Nat):Int),(1:Int),Builtin.Slice.slicePlaces ((sIx n 0 lo:Nat):Int) ((sIx n n hi:Nat):Int) 1)) _ _ s
  rw [places_gen]
  exact wpAny_pure h
theorem pick_gen (xs:Array Value) (i k:Nat):((List.range k).filterMap fun (m:Nat)=>xs[((i:Int)+(m:Int)*1).toNat]?).toArray=((xs.toList.drop i).take k).toArray:=by
  have e:(fun (m:Nat)=>xs[((i:Int)+(m:Int)*1).toNat]?)=fun m=>xs[i+m]?:=by
    funext m
    have:((i:Int)+(m:Int)*1).toNat=i+m:=by omega
    rw [this]
  rw [e]
  have:=pick_run xs i k
  rw [List.filterMap_map] at this
  have e2:((fun x=>xs[x]?) ∘ fun x=>i+x)=fun m=>xs[i+m]?:=rfl
  rw [e2] at this
  rw [this]
theorem getItem_tuple_cut {t sl:Addr} {items:Array Value} {vl vu:Value} {lo hi:Option Int} {Q:Value→Shared→Prop} (ht:IsTup s.heap t items) (hs:s.heap.IsSliceOf sl vl vu .none) (pl:IsPart vl lo) (pu:IsPart vu hi)
    (hw:¬ (sIx items.size 0 lo=0∧sIx items.size items.size hi=items.size))
    (h:Q (.ref s.heap.objs.size) { s with heap:=s.heap.push { cls:=.type "tuple",data:=.seq ((items.toList.drop (sIx items.size 0 lo)).take (sIx items.size items.size hi - sIx items.size 0 lo)).toArray } })
    (hsz:items.size≤sizeLine):wpAny (model prog w) A (getItem (.ref t) (.ref sl)) Q E s:=by
  have htake:sizeOk (.seq ((items.toList.drop (sIx items.size 0 lo)).take (sIx items.size items.size hi - sIx items.size 0 lo)).toArray):=by
    show ((items.toList.drop (sIx items.size 0 lo)).take (sIx items.size items.size hi - sIx items.size 0 lo)).toArray.size≤sizeLine
    rw [List.size_toArray,List.length_take,List.length_drop,Array.length_toList]
    omega
  have hj:sIx items.size items.size hi≤items.size:=sIx_le _ _ (Nat.le_refl _) hi
  obtain ⟨os,hos,hcs,hds⟩:=id hs
  have hTs:s.TypeIs (.ref sl) "slice" := ⟨os,hos,hcs⟩
  unfold getItem
  try with_reducible refine wpAny_holding ?_
  first | refine wpAny_bind (wpAny_pure ?_) | skip
  refine wpAny_bind (wpAny_sequenceKey ht.typeIs (by decide) ?_)
  refine wpAny_bind (wpAny_callSpecial?_slot (name:=Str.ofString "__getitem__") ht.typeIs PyProof.Rows.slot_tuple_getitem
    (wpAny_call_entry PyProof.Rows.slot_tuple_getitem ht.typeIs entry_tuple_getitem ?_ (args_tuple_getitem _ _)))
  show wpAny _ _ (Builtin.Tuple.tupleItemsOf (.ref t) >>= _) _ _ s
  refine wpAny_bind (tupleItemsOf_ ht ?_)
  refine wpAny_bind (wpAny_typeOf hTs ?_)
  rw [if_pos (by decide)]
  refine wpAny_bind (sliceApplied_gen hs pl pu ?_)
  have hno:¬ ((((sIx items.size 0 lo:Nat):Int) == 0&&(1:Int) == 1&&(sIx items.size items.size hi - sIx items.size 0 lo) == items.size)=true):=by
    intro q
    rw [Bool.and_eq_true,Bool.and_eq_true] at q
    have q1:((sIx items.size 0 lo:Nat):Int)=0:=eq_of_beq q.1.1
    have q2:sIx items.size items.size hi - sIx items.size 0 lo=items.size:=eq_of_beq q.2
    exact hw ⟨by omega,by omega⟩
  show wpAny _ _ (if (((sIx items.size 0 lo:Nat):Int) == 0&&(1:Int) == 1&&(sIx items.size items.size hi - sIx items.size 0 lo) == items.size)=true then _ else _) _ _ s
  rw [if_neg hno,pick_gen]
  first
    | exact wpAny_bind (m:=Builtin.Tuple.tupleExact _) (wpAny_newObj_type (wpAny_pure ⟨_,rfl,wpAny_pure h⟩) htake)
    | exact wpAny_bind (m:=Builtin.Tuple.tupleExact _) (wpAny_newObj_type (wpAny_bind (wpAny_pure (wpAny_pure ⟨_,rfl,wpAny_pure h⟩))) htake)
    | exact wpAny_bind (wpAny_bind (m:=Builtin.Tuple.tupleExact _) (wpAny_newObj_type (wpAny_pure (wpAny_pure ⟨_,rfl,wpAny_pure h⟩)) htake))
    | exact wpAny_bind (wpAny_bind (m:=Builtin.Tuple.tupleExact _) (wpAny_newObj_type (wpAny_pure ⟨_,rfl,wpAny_pure h⟩) htake))
end
end HT
namespace L2
open PySem PySem.Spec PyProof.Rows
abbrev TO:=St→Hp→(Option Int→Hp→Prop)→Prop
def PO (X:Cx) (e:Option Expr) (t:TO):Prop :=
  ∀ (pins:List (Addr × Obj)) (s:Shared) (σ:St) (H:Hp) (Q:Option Int→Hp→Prop),Inv X pins σ H s→t σ H Q →
    wpAny (model X.prog X.w) X.A (evalPart e X.env) (fun u s'=>∃ o H',Inv X pins σ H' s'∧IsPart u o∧Q o H') X.xe s
def tNoPart:TO:=fun _ H Q=>Q none H
def tPart (t:TE):TO:=fun σ H Q=>t σ H fun x H1=>∃ i,x=.int i∧Q (some i) H1
theorem intsAre_of {ns:List Int}:∀ {us:List Value},Vals (ns.map V.int) us→IntsAre us ns:=by
  induction ns with
  | nil=>intro us r; rw [List.map_nil] at r; cases r; exact .nil
  | cons n ns ih =>
    intro us r
    rw [List.map_cons] at r
    cases r with
    | cons r1 r2 =>
      obtain ⟨t,e⟩:=r1
      subst e
      exact .cons n t (ih r2)
section
variable {X:Cx} {e:Expr} {te:TE} {lo hi:Option Expr} {tl th:TO} {pos p2:Pos}
theorem po_none:PO X none tNoPart:=by
  intro pins s σ H Q I h
  rw [evalPart_none]
  exact wpAny_pure ⟨none,H,I,.none,h⟩
theorem po_some (h:PE X e te):PO X (some e) (tPart te):=by
  intro pins s σ H Q I hw
  rw [evalPart_some]
  refine thn (h pins s σ H _ I hw) fun u s1 ⟨x,H1,I1,r1,q1⟩=>?_
  obtain ⟨i,rfl,q⟩:=q1
  obtain ⟨t,rfl⟩:=r1
  exact ⟨some i,H1,I1,.int i t,q⟩
def SlR (X:Cx) (r:V→Option Int→Option Int→Hp→VK→Prop):Prop :=
  ∀ (pins:List (Addr × Obj)) (s:Shared) (σ:St) (H:Hp) (x:V) (v vl vu:Value) (lo hi:Option Int) (sl:Addr) (Q:VK),Inv X pins σ H s→RelV x v→s.heap.IsSliceOf sl vl vu .none→IsPart vl lo→IsPart vu hi→r x lo hi H Q →
    ∃ T id,typeLookup (.type T) "__getitem__" = pure (some (.builtin id))∧s.TypeIs v T∧wpAny (model X.prog X.w) X.A (getItem v (.ref sl)) (EP X pins σ Q) X.xe s
def tSl (r:V→Option Int→Option Int→Hp→VK→Prop) (te:TE) (tl th:TO):TE:=fun σ H Q=>te σ H fun x H1=>tl σ H1 fun l H2=>th σ H2 fun u H3=>r x l u H3 Q
theorem pe_slice {r:V→Option Int→Option Int→Hp→VK→Prop} (hr:SlR X r) (he:PE X e te) (hl:PO X lo tl) (hu:PO X hi th):PE X (.Subscript e (.Slice lo hi none p2) pos) (tSl r te tl th):=by
  intro pins s σ H Q I h
  refine Subscript_ (thn (he pins s σ H _ I h) fun v s1 ⟨x,H1,I1,r1,q1⟩=>?_)
  refine wpAny_Slice (thn (hl pins s1 σ H1 _ I1 q1) fun vl s2 ⟨l,H2,I2,pl,q2⟩=>thn (hu pins s2 σ H2 _ I2 q2) fun vu s3 ⟨u,H3,I3,pu,q3⟩=>?_)
  rw [evalPart_none]
  refine wpAny_pure ?_
  have I4:Inv X pins σ H3 { s3 with heap:=s3.heap.push { cls:=.type "slice",data:=.fields #[vl,vu,.none] } }:=I3.kept (t':=s3.toks) fun b ob q=>Heap.get?_push_of_some _ q
  obtain ⟨T,id,hT,ht,hg⟩:=hr pins { s3 with heap:=s3.heap.push { cls:=.type "slice",data:=.fields #[vl,vu,.none] } } σ H3 x v vl vu l u s3.heap.objs.size Q I4 r1 (Heap.IsSliceOf.new ..) pl pu q3
  show wpAny (model X.prog X.w) X.A (subscriptTail e (.Slice lo hi none p2) v (.ref s3.heap.objs.size)) (EP X pins σ Q) X.xe { s3 with heap:=s3.heap.push { cls:=.type "slice",data:=.fields #[vl,vu,.none] } }
  exact tail_any (ops:=[.ref s3.heap.objs.size,v]) ht hT hg (by with_unfolding_all rfl)
def cutV (xs:List V) (lo hi:Option Int):List V:=(xs.drop (HT.sIx xs.length 0 lo)).take (HT.sIx xs.length xs.length hi - HT.sIx xs.length 0 lo)
theorem cutV_length (xs:List V) (lo hi:Option Int):(cutV xs lo hi).length≤xs.length:=by
  unfold cutV
  rw [List.length_take,List.length_drop]
  omega
def rSlT (K:PySem.W.Frag):V→Option Int→Option Int→Hp→VK→Prop:=fun x lo hi H Q=>∃ a xs,x=.ref a∧SqT K H a xs ∧
  ¬ (HT.sIx xs.length 0 lo=0∧HT.sIx xs.length xs.length hi=xs.length)∧∀ p,H p=none→Q (.ref p) (upd H p (.tup (cutV xs lo hi)))
theorem sl_tup:SlR X (rSlT X.K):=by
  intro pins s σ H x v vl vu lo hi sl Q I rx hs pl pu h
  obtain ⟨a,xs,rfl,hx,hw,q⟩:=h
  cases rx
  obtain ⟨its,r,ht,hz⟩:=I.tuple hx
  have hlen:its.toArray.size=xs.length:=by rw [List.size_toArray]; exact r.length.symm
  refine ⟨"tuple",_,PyProof.Rows.slot_tuple_getitem.lookup,ht.typeIs,?_⟩
  refine HT.getItem_tuple_cut ht hs pl pu (by rw [hlen]; exact hw) ?_ (by rw [hlen]; exact hz)
  rw [hlen]
  refine ⟨.ref s.heap.objs.size,_,I.laid (t':=s.toks) (o:=.tup (cutV xs lo hi)) (fun b ob q=>Heap.get?_push_of_some _ q) (Nat.le_refl _) ?_,rfl,q _ (I.hok.fresh (Nat.le_refl _))⟩
  exact ⟨⟨Nat.le_trans (cutV_length xs lo hi) hz,_,Heap.get?_push_size _ rfl,rfl⟩,_,(r.drop (HT.sIx xs.length 0 lo)).take (HT.sIx xs.length xs.length hi - HT.sIx xs.length 0 lo),IsTup.new _ _⟩
def rCatT (K:PySem.W.Frag):R2:=fun x y H Q=>∃ a b xs ys,x=.ref a∧y=.ref b∧SqT K H a xs∧SqT K H b ys∧xs≠[]∧xs.length+ys.length≤sizeLine ∧
  (ys=[]→Q (.ref a) H)∧(ys≠[]→∀ p,H p=none→Q (.ref p) (upd H p (.tup (xs++ys))))
theorem Vals.nil_iff {xs:List V} {us:List Value} (r:Vals xs us):us=[]↔xs=[]:=by
  cases r with
  | nil=>simp
  | cons _ _=>simp
theorem op_catT:OpR X (binaryOp .Add) (rCatT X.K):=by
  intro pins s σ H x y v u Q I rx ry h
  obtain ⟨a,b,xs,ys,rfl,rfl,ha,hb,hx,hz,q1,q2⟩:=h
  cases rx
  cases ry
  obtain ⟨its,r1,p1,_⟩:=I.tuple ha
  obtain ⟨its2,r2,p2,_⟩:=I.tuple hb
  refine HT.cat_tup p1 p2 (fun z=>hx (r1.nil_iff.mp z)) (fun z=>⟨.ref a,H,I,rfl,q1 (r2.nil_iff.mp z)⟩) (fun z=>?_) (by rw [← r1.length,← r2.length]; exact hz)
  refine ⟨.ref s.heap.objs.size,_,I.laid (t':=s.toks) (o:=.tup (xs++ys)) (fun b ob q=>Heap.get?_push_of_some _ q) (Nat.le_refl _) ?_,rfl,q2 (fun w=>z (r2.nil_iff.mpr w)) _ (I.hok.fresh (Nat.le_refl _))⟩
  exact ⟨⟨by rw [List.length_append]; exact hz,_,Heap.get?_push_size _ rfl,rfl⟩,_,r1.append r2,IsTup.new _ _⟩
end
end L2
namespace L2
open PySem PySem.Spec PyProof.Rows
def ixN (n:Nat) (i:Int):Option Nat:=if 0≤i then (if i<n then some i.toNat else none) else if -(n:Int)≤i then some (i+n).toNat else none
def atI {α:Type} (xs:List α) (i:Int):Option α:=(ixN xs.length i).bind fun j=>xs[j]?
theorem ixN_seq {n:Nat} {i:Int} {j:Nat} (h:ixN n i=some j):seqIndex? i n=some j∧j<n∧-(n:Int)≤i∧i<n:=by
  unfold ixN at h
  by_cases h0:0≤i
  · rw [if_pos h0] at h
    by_cases h1:i<n
    · rw [if_pos h1] at h
      have e:i.toNat=j:=Option.some.inj h
      exact ⟨by rw [seqIndex_of h0 h1,e],by omega,by omega,h1⟩
    · rw [if_neg h1] at h; cases h
  · rw [if_neg h0] at h
    by_cases h1:-(n:Int)≤i
    · rw [if_pos h1] at h
      have e:(i+n).toNat=j:=Option.some.inj h
      exact ⟨by rw [seqIndex_neg (by omega) h1,e],by omega,h1,by omega⟩
    · rw [if_neg h1] at h; cases h
theorem atI_get {α:Type} {xs:List α} {i:Int} {v:α} (h:atI xs i=some v):∃ j,seqIndex? i xs.length=some j∧xs[j]?=some v∧j<xs.length∧-(xs.length:Int)≤i∧i<xs.length:=by
  unfold atI at h
  cases e:ixN xs.length i with
  | none=>rw [e] at h; cases h
  | some j =>
    rw [e] at h
    obtain ⟨h1,h2,h3,h4⟩:=ixN_seq e
    exact ⟨j,h1,h,h2,h3,h4⟩
theorem atI_nat {α:Type} {xs:List α} {j:Nat} {v:α} (h:xs[j]?=some v):atI xs (j:Int)=some v:=by
  have hj:j<xs.length:=(List.getElem?_eq_some_iff.mp h).1
  have e:ixN xs.length (j:Int)=some j:=by
    unfold ixN
    rw [if_pos (by omega),if_pos (by omega)]; simp
  unfold atI; rw [e]; exact h
def PlainIx (b:Expr):Prop:=∀ o i,subscripted b false o i=operate [o,i] (getItem o i)
def IxR (X:Cx) (r:R2):Prop :=
  ∀ (value slice:Expr) (pins:List (Addr × Obj)) (s:Shared) (σ:St) (H:Hp) (x y:V) (v u:Value) (Q:VK),Inv X pins σ H s→RelV x v→RelV y u→r x y H Q →
    subscripted slice false v u=operate [v,u] (getItem v u)→wpAny (model X.prog X.w) X.A (subscriptTail value slice v u) (EP X pins σ Q) X.xe s
def MtR (X:Cx) (id:String) (r:V→List V→Hp→VK→Prop):Prop :=
  ∀ (pins:List (Addr × Obj)) (s:Shared) (σ:St) (H:Hp) (x:V) (xs:List V) (v:Value) (us:List Value) (Q:VK),Inv X pins σ H s→RelV x v→Vals xs us→r x xs H Q →
    wpAny (model X.prog X.w) X.A (call (.builtin id) (v::us)) (EP X pins σ Q) X.xe s
section
variable {X:Cx} {a b:Expr} {ta tb:TE} {pos:Pos}
theorem IxR.or {r r':R2} (h:IxR X r) (h':IxR X r'):IxR X (fun x y H Q=>r x y H Q∨r' x y H Q):=by
  intro value slice pins s σ H x y v u Q I rx ry q hs
  rcases q with q | q
  · exact h value slice pins s σ H x y v u Q I rx ry q hs
  · exact h' value slice pins s σ H x y v u Q I rx ry q hs
theorem pe_ix {r:R2} (hr:IxR X r) (ha:PE X a ta) (hb:PE X b tb) (hs:PlainIx b):PE X (.Subscript a b pos) (tOp r ta tb):=by
  intro pins s σ H Q I h
  exact Subscript_ (binT ha hb I h fun v u s2 x y H2 I2 rx ry q=>hr a b pins s2 σ H2 x y v u Q I2 rx ry q (hs _ _))
def rIxL (K:PySem.W.Frag):R2:=fun x y H Q=>∃ p xs i v,x=.ref p∧y=.int i∧SqL K H p xs∧atI xs i=some v∧Q v H
def rIxT (K:PySem.W.Frag):R2:=fun x y H Q=>∃ p xs i v,x=.ref p∧y=.int i∧SqT K H p xs∧atI xs i=some v∧Q v H
def rIxS:R2:=fun x y H Q=>∃ z i c,x=.str z∧y=.int i∧z.length≤sizeLine∧atI z.cps.toList i=some c∧Q (.str ⟨#[c]⟩) H
theorem ix_list:IxR X (rIxL X.K):=by
  intro value slice pins s σ H x y v u Q I rx ry h hs
  obtain ⟨p,xs,i,z,rfl,rfl,hq,he,q⟩:=h
  cases rx
  obtain ⟨t,rfl⟩:=ry
  obtain ⟨its,r,pl,hz⟩:=I.list hq
  obtain ⟨j,h1,h2,h3,h4,h5⟩:=atI_get he
  obtain ⟨w,ew,rw'⟩:=r.get h2
  have hl:=r.length
  have hn:=line63
  have fin:EP X pins σ Q w s:=⟨z,H,I,rw',q⟩
  by_cases h0:0≤i
  · have hj:i.toNat=j:=by
      rw [seqIndex_of h0 h5] at h1
      exact Option.some.inj h1
    exact item_listR pl.isList h0 (by omega) (by rw [hj]; simpa using ew) fin hs
  · have hj:(i+(its.toArray.size:Int)).toNat=j:=by
      rw [seqIndex_neg (by omega) h4] at h1
      rw [List.size_toArray,← hl]
      exact Option.some.inj h1
    exact subscriptTail_builtinR (x:=w) pl.isList.typeIs slot_list_getitem.lookup
      (wpAny_getItem_list_neg (Q:=fun r s'=>r=w∧EP X pins σ Q r s') pl.isList (by omega) (by rw [List.size_toArray] <;> omega) (by omega) (by rw [hj]; simpa using ew) ⟨rfl,fin⟩) hs
theorem ix_tup:IxR X (rIxT X.K):=by
  intro value slice pins s σ H x y v u Q I rx ry h hs
  obtain ⟨p,xs,i,z,rfl,rfl,hq,he,q⟩:=h
  cases rx
  obtain ⟨t,rfl⟩:=ry
  obtain ⟨its,r,pl,hz⟩:=I.tuple hq
  obtain ⟨j,h1,h2,h3,h4,h5⟩:=atI_get he
  obtain ⟨w,ew,rw'⟩:=r.get h2
  have hl:=r.length
  have hn:=line63
  have fin:EP X pins σ Q w s:=⟨z,H,I,rw',q⟩
  exact subscriptTail_builtinR (x:=w) pl.typeIs slot_tuple_getitem.lookup
    (getItem_tuple (j:=j) (Q:=fun r s'=>r=w∧EP X pins σ Q r s') pl (by omega) (by omega) (by rw [List.size_toArray,← hl]; exact h1) (by simpa using ew) ⟨rfl,fin⟩) hs
theorem ix_str:IxR X rIxS:=by
  intro value slice pins s σ H x y v u Q I rx ry h hs
  obtain ⟨z,i,c,rfl,rfl,hz,he,q⟩:=h
  obtain ⟨t,rfl⟩:=rx
  obtain ⟨t',rfl⟩:=ry
  obtain ⟨j,h1,h2,h3,h4,h5⟩:=atI_get he
  have hl:z.cps.toList.length=z.length:=by simp [Str.length]
  rw [hl] at h1 h4 h5
  have hn:=line63
  exact tail_any (typeIs_str s z t) slot_str_getitem.lookup (getItem_str (c:=c) (by
    have e1:decide (i < -(2^63:Int))=false:=decide_eq_false (by omega)
    have e2:decide (i ≥ 2^63)=false:=decide_eq_false (by omega)
    rw [e1,e2,Bool.or_false]) (by rw [h1]; simpa using h2) ⟨.str ⟨#[c]⟩,H,I.tok _,⟨_,rfl⟩,q⟩) hs
def rIx (K:PySem.W.Frag):R2:=fun x y H Q=>rIxL K x y H Q∨rIxT K x y H Q∨rIxS x y H Q
theorem ix_seq:IxR X (rIx X.K):=ix_list.or (ix_tup.or ix_str)
theorem mapSeq_set (its:List Value) (n j:Nat) (u:Value):Obj.mapSeq (·.setIfInBounds j u) { cls:=.type "list",data:=.seq its.toArray n }={ cls:=.type "list",data:=.seq (its.set j u).toArray n }:=by
  simp [Obj.mapSeq]
theorem Inv.lst {pins:List (Addr × Obj)} {σ:St} {H:Hp} {s:Shared} {p:Addr} {xs:List V} (I:Inv X pins σ H s) (h:H p=some (.lst xs)) :
    ∃ (its:List Value) (n:Nat),Vals xs its∧s.heap.get? p=some { cls:=.type "list",data:=.seq its.toArray n }∧xs.length≤sizeLine:=by
  obtain ⟨z,its,n,r,e⟩:=I.hok p _ h
  exact ⟨its,n,r,e,z⟩
theorem Inv.lstUpd {pins:List (Addr × Obj)} {σ:St} {H:Hp} {s:Shared} {p:Addr} {xs ys:List V} {its its':List Value} {n n':Nat} {f:Obj→Obj} (I:Inv X pins σ H s) (h:H p=some (.lst xs))
    (ho:s.heap.get? p=some { cls:=.type "list",data:=.seq its.toArray n }) (hf:f { cls:=.type "list",data:=.seq its.toArray n }={ cls:=.type "list",data:=.seq its'.toArray n' }) (r:Vals ys its') (hz:ys.length≤sizeLine) (t:Nat) :
    Inv X pins σ (upd H p (.lst ys)) { s with heap:=s.heap.update p f,toks:=t }:=by
  have e:(s.heap.update p f).get? p=some { cls:=.type "list",data:=.seq its'.toArray n' }:=by
    rw [Heap.get?_update_self f ho (by rw [hf] <;> rfl),hf]
  refine I.write (x:=p) (e:=p) (by rw [h]; trivial) (.inl rfl) (fun b u hb q=>(Heap.get?_update_other _ _ (Ne.symm hb)).trans q) ⟨_,e⟩ ?_
  exact ⟨hz,its',n',r,e⟩
def rSetL:V→V→V→Hp→(Hp→Prop)→Prop:=fun o i v H Q=>∃ p xs k j,o=.ref p∧i=.int k∧H p=some (.lst xs)∧ixN xs.length k=some j∧Q (upd H p (.lst (xs.set j v)))
theorem set_list:PSet X rSetL:=by
  intro pins s σ H o i v ov iv u Q I ro ri rv h
  obtain ⟨p,xs,k,j,rfl,rfl,hp,hj,q⟩:=h
  cases ro
  obtain ⟨t,rfl⟩:=ri
  obtain ⟨its,n,r,ho,hz⟩:=I.lst hp
  obtain ⟨h1,h2,h3,h4⟩:=ixN_seq hj
  have hl:=r.length
  have hn:=line63
  have I':Inv X pins σ (upd H p (.lst (xs.set j v))) { s with heap:=s.heap.update p (Obj.mapSeq (·.setIfInBounds j u)) } :=
    I.lstUpd hp ho (mapSeq_set its n j u) (r.set rv j) (by rw [List.length_set]; exact hz) s.toks
  by_cases h0:0≤k
  · have hk:k.toNat=j:=by
      rw [seqIndex_of h0 h4] at h1
      exact Option.some.inj h1
    exact PySem.W.ki_setAt ho h0 (by omega) (by rw [List.size_toArray,← hl]; exact h4) (by rw [hk]; exact ⟨_,I',q⟩)
  · have hk:(k+(its.toArray.size:Int)).toNat=j:=by
      rw [seqIndex_neg (by omega) h3] at h1
      rw [List.size_toArray,← hl]
      exact Option.some.inj h1
    exact PySem.W.ki_setBack ho (by omega) (by rw [List.size_toArray,← hl]; exact h3) (by omega) (by rw [hk]; exact ⟨_,I',q⟩)
theorem slice_bounds (lo hi:Option Int) (n:Nat):(sliceBounds lo hi none n).1=((HT.sIx n 0 lo:Nat):Int)∧(sliceBounds lo hi none n).2.1=((HT.sIx n n hi:Nat):Int)∧(sliceBounds lo hi none n).2.2=1:=by
  refine ⟨?_,?_,rfl⟩
  · cases lo with
    | none=>simp [sliceBounds,HT.sIx]
    | some i =>
      simp only [sliceBounds,HT.sIx,Option.getD_none,show (1:Int) > 0 by decide,if_true]
      by_cases h:i<0
      · simp only [h,if_true] <;> omega
      · simp only [h,if_false] <;> omega
  · cases hi with
    | none=>simp [sliceBounds,HT.sIx]
    | some i =>
      simp only [sliceBounds,HT.sIx,Option.getD_none,show (1:Int) > 0 by decide,if_true]
      by_cases h:i<0
      · simp only [h,if_true] <;> omega
      · simp only [h,if_false] <;> omega
theorem slicePick_cut (its:List Value) (lo hi:Option Int):slicePick its.toArray lo hi none=((its.drop (HT.sIx its.length 0 lo)).take (HT.sIx its.length its.length hi - HT.sIx its.length 0 lo)).toArray:=by
  obtain ⟨h1,h2,h3⟩:=slice_bounds lo hi its.toArray.size
  unfold slicePick
  rw [h1,h2,h3]
  simp only [sliceRange_one,pick_run,List.size_toArray] <;> rfl
def rSlL (K:PySem.W.Frag):V→Option Int→Option Int→Hp→VK→Prop:=fun x lo hi H Q=>∃ a xs,x=.ref a∧SqL K H a xs∧∀ p,H p=none→Q (.ref p) (upd H p (.lst (cutV xs lo hi)))
theorem sl_list:SlR X (rSlL X.K):=by
  intro pins s σ H x v vl vu lo hi sl Q I rx hs pl pu h
  obtain ⟨a,xs,rfl,hx,q⟩:=h
  cases rx
  obtain ⟨its,r,ht,hz⟩:=I.list hx
  have hlen:=r.length
  refine ⟨"list",_,slot_list_getitem.lookup,ht.isList.typeIs,?_⟩
  refine wpAny_getItem_list_slice ht.isList hs pl pu .none (by simp) ?_ (by rw [List.size_toArray] <;> omega)
  rw [slicePick_cut,← hlen]
  refine ⟨.ref s.heap.objs.size,_,I.laid (t':=s.toks) (o:=.lst (cutV xs lo hi)) (fun b ob q=>Heap.get?_push_of_some _ q) (Nat.le_refl _) ?_,rfl,q _ (I.hok.fresh (Nat.le_refl _))⟩
  exact ⟨Nat.le_trans (cutV_length xs lo hi) hz,_,0,(r.drop (HT.sIx xs.length 0 lo)).take (HT.sIx xs.length xs.length hi - HT.sIx xs.length 0 lo),Heap.get?_push_size _ rfl⟩
def flatV:V→Bool
  | .non=>true
  | .bl _=>true
  | .int _=>true
  | .str _=>true
  | _=>false
def eqV:V→V→Bool
  | .non,.non=>true
  | .bl a,.bl b=>a == b
  | .bl a,.int b=>(if a then 1 else 0) == b
  | .int a,.bl b=>a == (if b then 1 else 0)
  | .int a,.int b=>a == b
  | .str a,.str b=>a == b
  | _,_=>false
theorem eqAt_V {A:Around} {s:Shared} {y x:V} {u v:Value} (ry:RelV y u) (rx:RelV x v) (fy:flatV y=true) (fx:flatV x=true):SeqAt.EqAt A s u v (eqV y x):=by
  cases y with
  | non =>
    cases ry
    cases x with
    | non=>cases rx; exact SeqAt.EqAt.same _
    | bl b=>cases rx; exact SeqAt.EqAt.none_bool b
    | int b=>obtain ⟨t,rfl⟩:=rx; exact SeqAt.EqAt.none_int b t
    | str b=>obtain ⟨t,rfl⟩:=rx; exact SeqAt.EqAt.none_str b t
    | _=>exact absurd (show false=true from fx) Bool.false_ne_true
  | bl a =>
    cases ry
    cases x with
    | non=>cases rx; exact SeqAt.EqAt.bool_none a
    | bl b=>cases rx; exact SeqAt.EqAt.bool_bool a b
    | int b=>obtain ⟨t,rfl⟩:=rx; exact SeqAt.EqAt.bool_int a b t
    | str b=>obtain ⟨t,rfl⟩:=rx; exact SeqAt.EqAt.bool_str a b t
    | _=>exact absurd (show false=true from fx) Bool.false_ne_true
  | int a =>
    obtain ⟨t',rfl⟩:=ry
    cases x with
    | non=>cases rx; exact SeqAt.EqAt.int_none a t'
    | bl b=>cases rx; exact SeqAt.EqAt.int_bool a t' b
    | int b=>obtain ⟨t,rfl⟩:=rx; exact SeqAt.EqAt.int_int a t' b t
    | str b=>obtain ⟨t,rfl⟩:=rx; exact SeqAt.EqAt.int_str a t' b t
    | _=>exact absurd (show false=true from fx) Bool.false_ne_true
  | str a =>
    obtain ⟨t',rfl⟩:=ry
    cases x with
    | non=>cases rx; exact SeqAt.EqAt.str_none a t'
    | bl b=>cases rx; exact SeqAt.EqAt.str_bool a t' b
    | int b=>obtain ⟨t,rfl⟩:=rx; exact SeqAt.EqAt.str_int a t' b t
    | str b=>obtain ⟨t,rfl⟩:=rx; exact SeqAt.EqAt.str_str a t' b t
    | _=>exact absurd (show false=true from fx) Bool.false_ne_true
  | _=>exact absurd (show false=true from fy) Bool.false_ne_true
def eqU (x:V) (u:Value):Bool:=match u with
  | .none=>eqV .non x
  | .bool b=>eqV (.bl b) x
  | .int i _=>eqV (.int i) x
  | .str z _=>eqV (.str z) x
  | _=>false
theorem eqU_of {x y:V} {u:Value} (r:RelV y u) (f:flatV y=true):eqU x u=eqV y x:=by
  cases y with
  | non=>cases r; rfl
  | bl b=>cases r; rfl
  | int i=>obtain ⟨t,rfl⟩:=r; rfl
  | str z=>obtain ⟨t,rfl⟩:=r; rfl
  | _=>exact absurd (show false=true from f) Bool.false_ne_true
theorem any_eqU {x:V}:∀ {xs:List V} {us:List Value},Vals xs us→xs.all flatV=true→us.any (eqU x)=xs.any fun y=>eqV y x
  | _,_,.nil,_=>rfl
  | y::xs,u::us,.cons r t,f=>by
    rw [List.all_cons,Bool.and_eq_true] at f
    rw [List.any_cons,List.any_cons,eqU_of r f.1,any_eqU t f.2]
theorem mem_eqAt {A:Around} {s:Shared} {x:V} {v:Value} (rx:RelV x v) (fx:flatV x=true):∀ {xs:List V} {us:List Value},Vals xs us→xs.all flatV=true→∀ u∈us,SeqAt.EqAt A s u v (eqU x u)
  | _,_,.nil,_=>fun u hu=>by cases hu
  | y::xs,u::us,.cons r t,f=>fun u' hu=>by
    rw [List.all_cons,Bool.and_eq_true] at f
    rcases List.mem_cons.mp hu with rfl | hu
    · rw [eqU_of r f.1]; exact eqAt_V r rx f.1 fx
    · exact mem_eqAt rx fx t f.2 u' hu
def inV (x:V) (xs:List V):Bool:=xs.any fun y=>eqV y x
def rIn (K:PySem.W.Frag) (neg:Bool):R2:=fun x y H Q=>∃ p xs,y=.ref p∧(SqL K H p xs∨SqT K H p xs)∧flatV x=true∧xs.all flatV=true∧Q (.bl (if neg then !inV x xs else inV x xs)) H
theorem op_notIn_seq:OpR X (compareOp .NotIn) (rIn X.K true):=by
  intro pins s σ H x y v u Q I rx ry h
  obtain ⟨p,xs,rfl,hq,fx,fs,q⟩:=h
  cases ry
  rcases hq with hq | hq
  · obtain ⟨its,r,pl,hz⟩:=I.list hq
    refine SeqAt.notIn_listAt (eqU x) pl.isList (fun w hw=>mem_eqAt rx fx r fs w (by simpa using hw)) ⟨.bl _,H,I,rfl,?_⟩
    rw [show its.toArray.any (eqU x)=its.any (eqU x) by simp,any_eqU r fs]
    exact q
  · obtain ⟨its,r,pl,hz⟩:=I.tuple hq
    refine SeqAt.notIn_tupleAt (eqU x) pl (fun w hw=>mem_eqAt rx fx r fs w (by simpa using hw)) ⟨.bl _,H,I,rfl,?_⟩
    rw [show its.toArray.any (eqU x)=its.any (eqU x) by simp,any_eqU r fs]
    exact q
theorem call_list_of:CallR X (.type "list") (fun xs H Q=>∃ p ys,xs=[.ref p]∧(SqL X.K H p ys∨SqT X.K H p ys)∧∀ l,H l=none→Q (.ref l) (upd H l (.lst ys))):=by
  intro pins s σ H xs us Q I r h
  obtain ⟨p,ys,rfl,hq,q⟩:=h
  obtain ⟨u,rfl,rx⟩:=vals1 r
  cases rx
  have fin:∀ (its:List Value),Vals ys its→ys.length≤sizeLine→∀ (h':Heap) (c':Nat),(∀ b o',s.heap.get? b=some o'→h'.get? b=some o') →
      h'.get? s.heap.objs.size=some { cls:=.type "list",dict:=none,data:=.seq its.toArray c',slots:=#[] }→EP X pins σ Q (.ref s.heap.objs.size) { s with heap:=h' }:=fun its r' hz h' c' kp e =>
    ⟨.ref s.heap.objs.size,_,I.laid (t':=s.toks) kp (Nat.le_refl _) (show ObjOk X.prog X.w _ h' _ (.lst ys) from ⟨hz,its,c',r',e⟩),rfl,q _ (I.hok.fresh (Nat.le_refl _))⟩
  rcases hq with hq | hq
  · obtain ⟨its,r',pl,hz⟩:=I.list hq
    have hlen:=r'.length
    obtain ⟨o,ho,hc,n,hd⟩:=pl.isList
    exact call_list_seq p (.inl rfl) ho hc hd (fun h' c' kp e=>fin its r' hz h' c' kp e) (by simp only [List.size_toArray] <;> omega)
  · obtain ⟨its,r',pl,hz⟩:=I.tuple hq
    have hlen:=r'.length
    obtain ⟨o,ho,hc,n,hd⟩:=pl
    exact call_list_seq p (.inr rfl) ho hc hd (fun h' c' kp e=>fin its r' hz h' c' kp e) (by simp only [List.size_toArray] <;> omega)
theorem call_tuple_of:CallR X (.type "tuple") (fun xs H Q=>∃ p ys,xs=[.ref p]∧((SqL X.K H p ys∧∀ l,H l=none→Q (.ref l) (upd H l (.tup ys)))∨(SqT X.K H p ys∧Q (.ref p) H))):=by
  intro pins s σ H xs us Q I r h
  obtain ⟨p,ys,rfl,h⟩:=h
  obtain ⟨u,rfl,rx⟩:=vals1 r
  cases rx
  rcases h with ⟨hq,q⟩ | ⟨hq,q⟩
  · obtain ⟨its,r',pl,hz⟩:=I.list hq
    have hlen:=r'.length
    refine call_tuple_list pl.isList (fun h' kp=>?_) (by simp only [List.size_toArray] <;> omega)
    have I1:Inv X pins σ H { s with heap:=h' }:=I.kept (t':=s.toks) kp
    have I2:Inv X pins σ (upd H h'.objs.size (.tup ys)) { s with heap:=h'.push { cls:=.type "tuple",data:=.seq its.toArray } } :=
      I1.laid (t':=s.toks) (fun b o e=>Heap.get?_push_of_some _ e) (Nat.le_refl _) (show ObjOk X.prog X.w _ _ _ (.tup ys) from ⟨⟨hz,_,Heap.get?_push_size _ rfl,rfl⟩,its,r',IsTup.new _ _⟩)
    exact ⟨.ref h'.objs.size,_,I2,rfl,q _ (I1.hok.fresh (Nat.le_refl _))⟩
  · obtain ⟨its,r',pl,hz⟩:=I.tuple hq
    exact call_tuple_same pl ⟨.ref p,H,I,rfl,q⟩
def tyV (K:PySem.W.Frag) (T:String) (x:V) (H:Hp):Prop:=match x with
  | .str _=>T = "str"
  | .int _=>T = "int"
  | .ref p=>(T = "list" ∧ ∃ xs,SqL K H p xs)∨(T = "tuple" ∧ ((∃ o,K.lookup p=some o∧o.cls=.type "tuple" ∧ o.dict=none)∨∃ xs,H p=some (.tup xs))) ∨
      (T = "dict" ∧ ((∃ kvs,H p=some (.dK kvs))∨∃ kvs,H p=some (.dT kvs)))∨(T = "set" ∧ ∃ S n,H p=some (.set S n))
  | _=>False
theorem tyV_is {pins:List (Addr × Obj)} {σ:St} {H:Hp} {s:Shared} {T:String} {x:V} {v:Value} (I:Inv X pins σ H s) (r:RelV x v) (ty:tyV X.K T x H) :
    s.TypeIs v T∧∀ a,v=.ref a→∃ ob,s.heap.get? a=some ob∧ob.dict=none:=by
  cases x with
  | str z =>
    obtain ⟨t,rfl⟩:=r
    cases (show T = "str" from ty)
    exact ⟨typeIs_str s z t,fun _ e=>nomatch e⟩
  | int i =>
    obtain ⟨t,rfl⟩:=r
    cases (show T = "int" from ty)
    exact ⟨typeIs_int s i t,fun _ e=>nomatch e⟩
  | ref p =>
    cases r
    rcases ty with ⟨rfl,xs,hq⟩ | ⟨rfl,⟨o,hk,hc,hd⟩ | ⟨xs,hq⟩⟩ | ⟨rfl,hk⟩ | ⟨rfl,S,n,hk⟩
    · obtain ⟨its,_,pl,_⟩:=I.list hq
      refine ⟨pl.isList.typeIs,fun a e=>?_⟩
      cases e
      obtain ⟨o,n,e,c,hd,_⟩:=pl
      exact ⟨o,e,hd⟩
    · refine ⟨⟨o,I.kIn p o hk,hc⟩,fun a e=>?_⟩
      cases e
      exact ⟨o,I.kIn _ o hk,hd⟩
    · obtain ⟨⟨_,on,en,dn⟩,_,_,o,e1,e2,_⟩:=(show ObjOk X.prog X.w H s.heap p (.tup xs) from I.hok p _ hq)
      refine ⟨⟨o,e1,e2⟩,fun a e=>?_⟩
      cases e
      exact ⟨on,en,dn⟩
    · have z:∃ o,s.heap.get? p=some o∧o.ExactDict:=by
        rcases hk with ⟨kvs,hk⟩ | ⟨kvs,hk⟩
        · obtain ⟨_,_,_,_,o,_,_,e,ex,_⟩:=I.hok p _ hk
          exact ⟨o,e,ex⟩
        · obtain ⟨_,_,_,_,o,_,_,e,ex,_⟩:=I.hok p _ hk
          exact ⟨o,e,ex⟩
      obtain ⟨o,e,ex⟩:=z
      refine ⟨⟨o,e,ex.1⟩,fun a e2=>?_⟩
      cases e2
      exact ⟨o,e,ex.2.1⟩
    · obtain ⟨o,_,_,_,e,ex,_⟩:=I.hok p _ hk
      refine ⟨⟨o,e,ex.1⟩,fun a e2=>?_⟩
      cases e2
      exact ⟨o,e,ex.2.1⟩
  | _=>exact False.elim ty
def tBM0 (K:PySem.W.Frag) (T:String) (r:V→List V→Hp→VK→Prop) (to:TE):TE:=fun σ H Q=>to σ H fun x H1=>tyV K T x H1∧r x [] H1 Q
def tBM (K:PySem.W.Frag) (T:String) (r:V→List V→Hp→VK→Prop) (to:TE) (t:TA):TE:=fun σ H Q=>to σ H fun x H1=>tyV K T x H1∧t σ H1 fun xs H2=>r x xs H2 Q
variable {o e:Expr} {es:List Expr} {to:TE} {t:TA} {name:Str} {apos cpos:Pos} {T id:String} {r:V→List V→Hp→VK→Prop}
theorem pe_bm0 (pa:PlainAttrs T) (slot:Slot T name id) (hty:typeOf (.builtin id)=pure (.type "method_descriptor")) (hm:MtR X id r) (ho:PE X o to)
    (hbase:attributeBase o name X.env (eval o X.env)=eval o X.env:=by rfl) (hline:(apos.endLine == cpos.line)=true:=by rfl):PE X (.Call (.Attribute o name apos) [] [] cpos) (tBM0 X.K T r to):=by
  intro pins s σ H Q I h
  refine wpAny_Call_method0_late hbase hline (thn (ho pins s σ H _ I h) fun v s1 ⟨x,H1,I1,r1,ty,q1⟩=>?_)
  obtain ⟨h1,h2⟩:=tyV_is I1 r1 ty
  exact ⟨T,id,pa,slot,hty,h1,h2,Calls.callWith_builtin rfl (PySem.evalArgs_none (hm pins s1 σ H1 x [] v [] Q I1 r1 .nil q1))⟩
theorem pe_bm (pa:PlainAttrs T) (slot:Slot T name id) (hty:typeOf (.builtin id)=pure (.type "method_descriptor")) (hm:MtR X id r) (ho:PE X o to) (ha:PA X (e::es) t)
    (hbase:attributeBase o name X.env (eval o X.env)=eval o X.env:=by rfl)
    (hfew:((backTo cpos (starEach (e::es) X.env)).all (fun x=>!x.1)&&(backToKw cpos (keywordEach [] X.env)).all (fun x=>x.1.isSome)
      && decide ((e::es).length+([]:List Keyword).length+(if ([]:List Keyword).isEmpty then 0 else 1)<30))=true:=by rfl)
    (hline:(apos.endLine == cpos.line)=true:=by rfl) (hs:starEach (e::es) X.env=(false,eval e X.env)::starEach es X.env:=by rfl) (hplain:(backTo cpos (starEach es X.env)).any (·.1)=false:=by rfl) :
    PE X (.Call (.Attribute o name apos) (e::es) [] cpos) (tBM X.K T r to t):=by
  intro pins s σ H Q I h
  refine wpAny_Call_method_late hbase hfew hline rfl (thn (ho pins s σ H _ I h) fun v s1 ⟨x,H1,I1,r1,ty,q1⟩=>?_)
  obtain ⟨h1,h2⟩:=tyV_is I1 r1 ty
  refine ⟨T,id,pa,slot,hty,h1,h2,?_⟩
  have hA:=ha cpos pins s1 σ H1 _ I1 q1
  rw [hs] at hA ⊢
  refine Calls.callWith_builtin (by show (false || (backTo cpos (starEach es X.env)).any (·.1))=false; rw [hplain] <;> rfl) (Calls.evalArgs_plain ?_)
  exact thn hA fun us s2 ⟨vs,H2,I2,r2,q2⟩=>hm pins s2 σ H2 x vs v us Q I2 r1 r2 q2
/- xs.append(e),list.index on a module's tuple .. are MtR facts of 06m -/
end
end L2
namespace L2
open PySem PySem.Spec PyProof.Rows
def MtM (X:Cx) (id:String) (r:V→List V→Hp→VK→Prop):Prop :=
  ∀ (pins:List (Addr × Obj)) (s:Shared) (σ:St) (H:Hp) (x:V) (xs:List V) (v:Value) (us:List Value) (Q:VK),Inv X pins σ H s→RelV x v→Vals xs us→r x xs H Q →
    wpAny (model X.prog X.w) X.A (call (.builtin id) (v::us)) (EP X pins σ Q) X.xe s
theorem Vals.one:∀ {x:V} {us:List Value},Vals [x] us→∃ u,us=[u]∧RelV x u
  | _,_,.cons r .nil=>⟨_,rfl,r⟩
theorem Vals.zero:∀ {us:List Value},Vals [] us→us=[]
  | _,.nil=>rfl
theorem Vals.dropLast {xs:List V} {us:List Value} (h:Vals xs us):Vals xs.dropLast us.dropLast:=by
  induction h with
  | nil=>exact .nil
  | cons r t ih =>
    cases t with
    | nil=>exact .nil
    | cons q t'=>exact .cons r ih
theorem Vals.rep {xs:List V} {us:List Value} (h:Vals xs us):∀ k:Nat,Vals (List.replicate k xs).flatten (List.replicate k us).flatten
  | 0=>.nil
  | k+1=>by
    rw [List.replicate_succ,List.replicate_succ,List.flatten_cons,List.flatten_cons]
    exact Vals.append h (Vals.rep h k)
theorem erase_last {α:Type} (l:List α):l.eraseIdx (l.length - 1)=l.dropLast:=by
  induction l with
  | nil=>rfl
  | cons a r ih =>
    cases r with
    | nil=>rfl
    | cons b r =>
      have e:(a::b::r).length - 1=((b::r).length - 1)+1:=by
        have h1:(a::b::r).length=r.length+2:=rfl
        have h2:(b::r).length=r.length+1:=rfl
        omega
      rw [e,List.eraseIdx_cons_succ,ih]
      all_goals rfl
theorem foldl_rep (its:List Value):∀ (k:Nat) (acc:List Value),
    List.foldl (fun x1 x2=>x1++x2) acc.toArray (List.replicate k its.toArray)=(acc++(List.replicate k its).flatten).toArray
  | 0,acc=>by simp
  | k+1,acc=>by
    have e:acc.toArray++its.toArray=(acc++its).toArray:=by simp
    have e2:(acc++its)++(List.replicate k its).flatten=acc++(List.replicate (k+1) its).flatten:=by
      rw [List.replicate_succ,List.flatten_cons,List.append_assoc]
    rw [← e2,← foldl_rep its k (acc++its),← e,List.replicate_succ,List.foldl_cons]
section
variable {X:Cx} {pins:List (Addr × Obj)} {σ:St} {H:Hp} {s:Shared} {l b:Addr} {xs ys zs:List V}
theorem Inv.lset {its its':List Value} {n:Nat} {f:Array Value→Array Value} {t':Nat} (I:Inv X pins σ H s) (hH:H l=some (.lst xs))
    (e:s.heap.get? l=some { cls:=.type "list",data:=.seq its.toArray n }) (hf:f its.toArray=its'.toArray) (hv:Vals ys its') (hz:ys.length≤sizeLine) :
    Inv X pins σ (upd H l (.lst ys)) { s with heap:=s.heap.update l (Obj.mapSeq f),toks:=t' }:=by
  have q:=PySem.IsL.update e f
  rw [hf] at q
  refine I.write (x:=l) (e:=l) (by rw [hH]; exact trivial) (.inl rfl) (fun b' u hb hu=>(Heap.get?_update_other s.heap (Obj.mapSeq f) (Ne.symm hb)).trans hu) ⟨_,q⟩ ?_
  exact ⟨hz,its',_,hv,q⟩
theorem Inv.lnew {its:List Value} {t':Nat} (I:Inv X pins σ H s) (hv:Vals ys its) (hz:ys.length≤sizeLine) :
    Inv X pins σ (upd H s.heap.objs.size (.lst ys)) { s with heap:=s.heap.push { cls:=.type "list",data:=.seq its.toArray },toks:=t' } :=
  I.laid (fun _ _ q=>Heap.get?_push_of_some _ q) (Nat.le_refl _) ⟨hz,its,0,hv,Heap.get?_push_size _ rfl⟩
theorem Inv.fresh (I:Inv X pins σ H s):H s.heap.objs.size=none:=I.hok.fresh (Nat.le_refl _)
theorem Inv.lstM (I:Inv X pins σ H s) (hH:H l=some (.lst xs)):xs.length≤sizeLine∧∃ (its:List Value) (n:Nat),Vals xs its∧xs.length=its.length∧s.heap.get? l=some { cls:=.type "list",data:=.seq its.toArray n }:=by
  obtain ⟨z,its,n,r,e⟩:=I.hok l _ hH
  exact ⟨z,its,n,r,r.length,e⟩
theorem notLongL {n:Nat} (h:n≤sizeLine):Builtin.List.listTooLong n=false:=by
  unfold Builtin.List.listTooLong
  exact decide_eq_false (by omega)
end
section
variable {X:Cx}
def rAppend:V→List V→Hp→VK→Prop:=fun x vs H Q=>∃ l xs y,x=.ref l∧vs=[y]∧H l=some (.lst xs)∧xs.length<sizeLine∧Q .non (upd H l (.lst (xs++[y])))
theorem mt_append:MtM X "list.append" rAppend:=by
  intro pins s σ H x vs v us Q I rx rv h
  obtain ⟨l,xs,y,rfl,rfl,hH,hz,q⟩:=h
  cases rx
  obtain ⟨u,rfl,ru⟩:=rv.one
  obtain ⟨z,its,n,r,hl,e⟩:=I.lstM hH
  refine call_meets F.slot_list_append ⟨_,e,rfl⟩ F.entry_list_append (F.args_list_append_2 _ _) (PySem.list_append l its.toArray n u (by rw [List.size_toArray]; omega)) ⟨e,?_⟩
  refine ⟨.non,_,I.lset (its':=its++[u]) hH e (by simp) (r.append (.cons ru .nil)) ?_,rfl,q⟩
  rw [List.length_append,List.length_singleton]
  omega
def rExtend:V→List V→Hp→VK→Prop:=fun x vs H Q=>∃ l b xs zs,x=.ref l∧vs=[.ref b]∧H l=some (.lst xs)∧H b=some (.lst zs)∧xs.length+zs.length≤sizeLine∧Q .non (upd H l (.lst (xs++zs)))
theorem mt_extend:MtM X "list.extend" rExtend:=by
  intro pins s σ H x vs v us Q I rx rv h
  obtain ⟨l,b,xs,zs,rfl,rfl,hH,hB,hz,q⟩:=h
  cases rx
  obtain ⟨u,rfl,ru⟩:=rv.one
  cases ru
  obtain ⟨z,its,n,r,hl,e⟩:=I.lstM hH
  obtain ⟨z2,its2,n2,r2,hl2,e2⟩:=I.lstM hB
  have hsz:its.toArray.size+its2.toArray.size≤sizeLine:=by rw [List.size_toArray,List.size_toArray]; omega
  have hlong:¬ (!its.toArray.isEmpty&&Builtin.List.listTooLong (its.toArray.size+its2.toArray.size))=true:=by
    rw [notLongL hsz,Bool.and_false]
    exact Bool.false_ne_true
  refine call_meets F.slot_list_extend ⟨_,e,rfl⟩ F.entry_list_extend (F.args_list_extend_2 _ _)
    (AutoSeq1.list_extend_list_list_0 l its.toArray n b its2.toArray n2 hlong (by rw [List.size_toArray]; omega) (by omega)) ⟨e,e2,?_⟩
  refine ⟨.non,_,I.lset (its':=its++its2) hH e (by simp) (r.append r2) ?_,rfl,q⟩
  rw [List.length_append]
  omega
def rPop:V→List V→Hp→VK→Prop:=fun x vs H Q=>∃ l xs y,x=.ref l∧vs=[]∧H l=some (.lst xs)∧xs[xs.length - 1]?=some y∧Q y (upd H l (.lst xs.dropLast))
theorem mt_pop:MtM X "list.pop" rPop:=by
  intro pins s σ H x vs v us Q I rx rv h
  obtain ⟨l,xs,y,rfl,rfl,hH,hy,q⟩:=h
  cases rx
  have hus:=rv.zero
  subst hus
  obtain ⟨z,its,n,r,hl,e⟩:=I.lstM hH
  obtain ⟨u,hu,ru⟩:=r.get hy
  have hy':its.toArray[its.toArray.size - 1]?=some u:=by
    show its.toArray[its.length - 1]?=some u
    rw [← Array.getElem?_toList,← hl]
    exact hu
  refine call_meets F.slot_list_pop ⟨_,e,rfl⟩ F.entry_list_pop (F.args_list_pop_1 _) (MeetsSeq.list_pop_last l its.toArray n u hy' (by rw [List.size_toArray]; omega)) ⟨e,?_⟩
  refine ⟨y,_,I.lset (its':=its.dropLast) hH e ?_ r.dropLast ?_,ru,q⟩
  · show its.toArray.eraseIdxIfInBounds (its.toArray.size - 1)=its.dropLast.toArray
    rw [List.size_toArray,List.eraseIdxIfInBounds_toArray,erase_last]
  · rw [List.length_dropLast]
    omega
def rCat:R2:=fun x y H Q=>∃ l b xs zs,x=.ref l∧y=.ref b∧H l=some (.lst xs)∧H b=some (.lst zs)∧xs.length+zs.length≤sizeLine∧∀ p,H p=none→Q (.ref p) (upd H p (.lst (xs++zs)))
theorem op_cat:OpR X (binaryOp .Add) rCat:=by
  intro pins s σ H x y v u Q I rx ry h
  obtain ⟨l,b,xs,zs,rfl,rfl,hH,hB,hz,q⟩:=h
  cases rx
  cases ry
  obtain ⟨z,its,n,r,hl,e⟩:=I.lstM hH
  obtain ⟨z2,its2,n2,r2,hl2,e2⟩:=I.lstM hB
  refine PySem.P.add_list e e2 ?_ (by rw [List.size_toArray,List.size_toArray]; omega)
  have ea:its.toArray++its2.toArray=(its++its2).toArray:=by simp
  rw [ea]
  exact ⟨.ref _,_,I.lnew (t':=s.toks) (r.append r2) (by rw [List.length_append]; omega),rfl,q _ I.fresh⟩
def rRep:R2:=fun x y H Q=>∃ l k xs,x=.ref l∧y=.int k∧H l=some (.lst xs)∧-(2^63)≤k∧k<2^63∧xs.length*k.toNat≤sizeLine ∧
  ∀ p,H p=none→Q (.ref p) (upd H p (.lst (List.replicate k.toNat xs).flatten))
theorem len_rep {α:Type} (xs:List α) (k:Nat):(List.replicate k xs).flatten.length=k*xs.length:=by
  induction k with
  | zero=>simp
  | succ k ih=>rw [List.replicate_succ,List.flatten_cons,List.length_append,ih,Nat.succ_mul,Nat.add_comm]
theorem op_rep:OpR X (binaryOp .Mult) rRep:=by
  intro pins s σ H x y v u Q I rx ry h
  obtain ⟨l,k,xs,rfl,rfl,hH,h1,h2,hz,q⟩:=h
  cases rx
  obtain ⟨t,rfl⟩:=ry
  obtain ⟨z,its,n,r,hl,e⟩:=I.lstM hH
  have hlen:its.toArray.size*k.toNat≤sizeLine:=by rw [List.size_toArray,← hl]; exact hz
  have hcap:¬ its.toArray.size*k.toNat > (2^63 - 1) / 8:=by
    have:(sizeLine:Nat)≤(2^63 - 1) / 8:=by decide
    omega
  have hfit:¬ (!Builtin.List.listFitsIndex k)=true:=by
    rw [fitsIndex_both h1 h2]
    exact Bool.false_ne_true
  have hlong:¬ Builtin.List.listTooLong (its.toArray.size*k.toNat)=true:=by
    rw [notLongL hlen]
    exact Bool.false_ne_true
  have hnew:List.foldl (fun x1 x2=>x1++x2) #[] (List.replicate (if its.toArray.isEmpty=true then 0 else k.toNat) its.toArray)=(List.replicate k.toNat its).flatten.toArray:=by
    have f0:∀ m:Nat,List.foldl (fun x1 x2=>x1++x2) #[] (List.replicate m its.toArray)=(List.replicate m its).flatten.toArray:=fun m=>by
      have:=foldl_rep its m []
      rw [List.nil_append] at this
      exact this
    rw [f0]
    cases its with
    | nil=>simp
    | cons a r'=>rw [if_neg (by simp)]
  refine wpAny_binaryOp_repeat_ref (T := "list") (U := "int") (by decide) ⟨_,e,rfl⟩ (fun s'=>typeIs_int s' k t) noFill_list_mul F.fills_int_mul F.slot_int_rmul repeat_list F.slot_int_index.lookup
    (call_meets F.slot_int_rmul (typeIs_int s k t) F.entry_int_rmul (F.args_int_rmul_2 _ _) (int___rmul___int_list k t l its.toArray n)
      ⟨e,rfl,⟨_,e,rfl⟩,call_meets F.slot_list_mul ⟨_,e,rfl⟩ F.entry_list_mul (F.args_list_mul_2 _ _) (AutoListH.list___mul___list_int_3 l its.toArray n k t hfit hcap hlong) ⟨e,?_⟩⟩)
  rw [hnew]
  exact ⟨.ref _,_,I.lnew (t':=s.toks) (r.rep k.toNat) (by rw [len_rep,Nat.mul_comm]; exact hz),rfl,q _ I.fresh⟩
end
section
variable {prog:Program} {w:World} {A:Around} {E:Value→Shared→Prop} {s:Shared}
end
section
variable {X:Cx}
end
end L2
namespace Att
open PySem PySem.W PySem.Calls PyProof.Rows
theorem ints_of_wellAll {P:Params} {h:Heap}:∀ (ns:List Int) (vs:List Value),WellAll P h vs (ns.map WData.int)→IntsAre vs ns:=by
  intro ns
  induction ns with
  | nil =>
    intro vs w
    rw [List.map_nil] at w
    cases w
    exact .nil
  | cons n ns ih =>
    intro vs w
    rw [List.map_cons] at w
    cases w with
    | cons a b =>
      cases a
      exact .cons _ _ (ih _ b)
theorem script_of {l:OpenLaw} {n:Nat} (hn:l.most=some n) {P:Params} {h:Heap} {args:List WData} {vals:List Value}
    (hpre:l.row.toRowW.claim.pre args=true) (hwl:WellAll P h vals args) :
    ∃ a vs ns,vals=[Value.ref a]∧args=[WData.list (ns.map WData.int)]∧h.get? a=some { cls:=.type "list",data:=.seq vs.toArray }∧IntsAre vs ns∧ns.length≤n:=by
  have hsh:WShape.hasAll [] args [.list .int]=true:=(pre_splitW hpre).1
  have hc:l.pre.holds [] { args:=args }=true:=(pre_splitW hpre).2
  obtain ⟨d,r,rfl,h1,h2⟩:=hasAllW_cons hsh
  obtain rfl:=hasAllW_nil h2
  obtain ⟨xs,rfl,h3⟩:=hasW_list h1
  obtain ⟨ns,rfl⟩:=items_int h3
  have hlen:ns.length≤n:=by
    unfold OpenLaw.pre at hc
    have h4:(WTm.not (.lt (.lit (.int (n:Int))) (.len (.arg 0)))).holds [] { args:=[.list (ns.map .int)] }=true:=by
      have h4:=(holds_andW hc).1
      rw [hn] at h4
      exact h4
    have h5:=condW_of h4 (w_not (w_lt w_lit (w_len_list (w_arg rfl))))
    rw [List.length_map] at h5
    refine Nat.le_of_not_lt fun q=>?_
    have q':(n:Int)<((ns.length:Nat):Int):=by omega
    first
      | (rw [decide_eq_true q'] at h5; exact absurd h5 (by decide))
      | (simp at h5; omega)
  cases hwl with
  | cons w1 w2 =>
    cases w2
    cases w1 with
    | list ho hall=>exact ⟨_,_,ns,rfl,rfl,ho,ints_of_wellAll ns _ hall,hlen⟩
theorem post_true (l:OpenLaw) (args:List WData):l.row.toRowW.claim.post args (.bool true) args=true :=
  postW_of (r:=l.row.toRowW) (X:=(true == true))
    (show WShape.has [] (.bool true) .bool=true by first | rfl | decide | simp [WShape.has,WShape.arms,WShape.armsAll])
    (show (WTm.eq .res (.lit (.bool true))).value [] { args:=args,res:=some (.bool true),after:=args }=some (.bool (true == true)) from w_eq_bool (w_res rfl) w_lit) rfl
theorem attach_call {l:OpenLaw} {n:Nat} {q:Program} {loose:List Str} {XP:(Str→Option Value)→Heap→Prop} {YP:World→Heap→Prop} {d:DefRec}
    (hn:l.most=some n) (hdf:d.params.defaults=[])
    (call:∀ (w:World) (s₀ s₁:Shared) (mg mb:Str→Option Value) (fa:Addr) (o:Obj) (pm cd doc:Value) (a:Addr) (vs:List Value) (ns:List Int),
      Ground q loose [] XP w s₀ mg mb s₁.heap→YP w s₁.heap →
      s₁.heap.get? fa=some o→o.data=.func (docDef d.name d.params d.body d.scope pm cd doc)→s₁.heap.CodeRec cd d.name→mg d.name=some (.ref fa) →
      s₁.heap.get? a=some { cls:=.type "list",data:=.seq vs.toArray }→IntsAre vs ns→ns.length≤n→s₁.gens=#[] →
      codeAny (model l.prog w) callerA (.call (.ref fa) ⟨[.ref a],[]⟩) (fun r s'=>r=.ok (.ret (.bool true))∧OldK s₁.heap s'.heap∧s'.os=s₁.os∧AllBare s'.gens) s₁) :
    WalkO q loose XP YP l.row.toRowW d [] (fun f vs=>PySem.call f vs):=by
  intro w s₀ s₁ mg mb G Y fa o pm cd doc dV kV ho hd hcd hD hmg hg args vals as hpre hlay hrd hwl hlo
  obtain rfl:dV=.none:=Dflts.none hD hdf
  obtain rfl:kV=.none:=Dflts.noKw hD
  obtain ⟨a,vs,ns,rfl,rfl,hobj,hints,hlen⟩:=script_of hn hpre hwl
  refine enter_call (codeAny_mono (call w s₀ s₁ mg mb fa o pm cd doc a vs ns G Y ho (fd_plain hd) hcd hmg hobj hints hlen hg) fun r s' hq=>?_)
  obtain ⟨rfl,h2,h3,h4⟩:=hq
  exact ⟨.inl ⟨.bool true,.bool true,[],rfl,fun _=>rfl,.bool true,post_true l _,fun _=>⟨List.Pairwise.nil,fun _ hm=>(nomatch hm)⟩⟩,h2,h3,h4⟩
section
variable {prog:Program} {w:World} {A:Around} {E:Value→Shared→Prop} {s:Shared} {K:Frag}
end
end Att
namespace L2
open PySem PySem.Spec PyProof.Rows
theorem vals_ints:∀ {vs:List Value} {ns:List Int},IntsAre vs ns→Vals (ns.map V.int) vs
  | _,_,.nil=>.nil
  | _,_,.cons n t h=>.cons ⟨t,rfl⟩ (vals_ints h)
def Only (H:Hp):Prop:=∀ b,H b=none∨∃ o xs,H b=some (.frz o (.lst xs))
theorem law_call {P:Program} {w:World} {K:PySem.W.Frag} {mg mb:Str→Option Value} {CX:CXT} {k:Nat} {fa a:Addr} {fd:FuncData} {x:Str} {sp:Sp} {s₁:Shared} {vs:List Value} {ns:List Int}
    (KX:K.In s₁.heap) (hns:s₁.heap.Ns mainGlobals mg) (hb:s₁.heap.Ns builtinsNs mb) (hbb:∀ x:Str,x ≠ "__name__" → mb x=bootBuiltins x) (hlim:s₁.heap.NoLimit) (hg:s₁.gens=#[])
    (ha:s₁.heap.get? a=some { cls:=.type "list",data:=.seq vs.toArray }) (hi:IntsAre vs ns) (hl:ns.length≤sizeLine) (hr:Room k callerA)
    (F:∀ base:Heap,K.In base→base.Ns mainGlobals mg→FnOk P w K mg base CX k fa fd [x] sp) (hbind:∀ (s:Shared) (u:Value),BindsTo s fd ⟨[u],[]⟩ [(x,u)])
    (hsp:∀ H:Hp,Only H→SqL K H a (ns.map V.int)→sp [.ref a] H (fun v _=>v=.bl true) fun _ _ _=>False)
    (hCX:∀ H e s',CX [] H s₁ (fun _ _ _=>False) e s'→False) :
    codeAny (model P w) callerA (.call (.ref fa) ⟨[.ref a],[]⟩) (fun r s'=>r=.ok (.ret (.bool true))∧OldK s₁.heap s'.heap∧s'.os=s₁.os∧AllBare s'.gens) s₁:=by
  have rv:=vals_ints hi
  have lenV:=hi.length
  have core:∀ H:Hp,Only H→SqL K H a (ns.map V.int)→HOk P w H s₁.heap→(∀ b,H b≠none→b=a)→(H a≠none→K.lookup a=none) →
      codeAny (model P w) callerA (.call (.ref fa) ⟨[.ref a],[]⟩) (fun r s'=>r=.ok (.ret (.bool true))∧OldK s₁.heap s'.heap∧s'.os=s₁.os∧AllBare s'.gens) s₁:=by
    intro H hO hS hok hA hK
    have base_of:∀ {b:Addr} {o:Obj},s₁.heap.get? b=some o→H b=none→(hidT s₁.heap H).get? b=some o:=fun e n=>hidT_get e n
    have noA:∀ {b:Addr} {o:Obj} {es:Array DictEntry} {ep:Nat},s₁.heap.get? b=some o→o.data=.dict es ep→H b=none:=fun {b o es ep} e d=>by
      cases q:H b with
      | none=>rfl
      | some u =>
        have e':b=a:=hA b (by rw [q]; simp)
        subst e'
        rw [ha] at e; cases e
        have d':Data.seq vs.toArray _=Data.dict es ep:=d
        cases d'
    have nsK:∀ {b:Addr} {m:Str→Option Value},s₁.heap.Ns b m→(hidT s₁.heap H).Ns b m:=fun {b m} ⟨o,es,ep,e,d,r⟩=>⟨o,es,ep,base_of e (noA e d),d,r⟩
    have hKb:K.In (hidT s₁.heap H):=fun b o e=>base_of (KX b o e) (by
      cases q:H b with
      | none=>rfl
      | some u =>
        have e':b=a:=hA b (by rw [q]; simp)
        subst e'
        rw [hK (by rw [q]; simp)] at e; cases e)
    have hM:Mod K mg (hidT s₁.heap H):=⟨hKb,nsK hns,⟨mb,nsK hb,hbb⟩,let ⟨mc,h1,h2⟩:=hlim; ⟨mc,nsK h1,h2⟩⟩
    have e0:Env0 P w K mg (hidT s₁.heap H) callerA [] s₁ H:=⟨rfl,hM,fun b o e=>of_hidT e,Nat.le_of_eq (hidT_size _ _),trivial,fun b hb=>absurd (show b∈([]:List Addr) from hb) (by simp),hok,.of_eq hg⟩
    refine codeAny_mono ((F _ hKb (nsK hns)).run callerA [] s₁ H ⟨[.ref a],[]⟩ [.ref a] [.ref a] _ _ hr e0 (hbind s₁ (.ref a)) (.cons rfl .nil) (hsp H hO hS)) fun r s' h=>?_
    cases r with
    | error e=>exact (hCX H e s' h).elim
    | ok fl =>
      cases fl with
      | next=>exact False.elim h
      | brk=>exact False.elim h
      | cont=>exact False.elim h
      | ret u =>
        obtain ⟨v,H',os,bare,un,hok',r',q⟩:=h
        have q':v=.bl true:=q
        subst q'
        obtain rfl:u=Value.bool true:=r'
        refine ⟨rfl,OldK.of_keep fun b o e=>?_,os,bare⟩
        cases q:H b with
        | none=>exact un.keep b o e q (by intro z; exact absurd (show b∈([]:List Addr) from z) (by simp)) (by simp)
        | some u =>
          rcases hO b with z | ⟨ob,xs,z⟩
          · rw [q] at z; cases z
          · have z2:=un.frzs b ob _ z
            obtain ⟨e1,_⟩:=hok b _ z
            obtain ⟨e2,_⟩:=hok' b _ z2
            rw [e] at e1; cases e1
            exact e2
  cases hk:K.lookup a with
  | some o =>
    have e:=KX a o hk
    rw [ha] at e
    cases e
    refine core (fun _=>none) (fun _=>.inl rfl) (.inr ⟨_,vs.toArray,_,hk,rfl,rfl,rfl,by rw [List.size_toArray,lenV]; exact hl,by simpa using rv⟩) (fun b u z=>by have z':(none:Option HO)=some u:=z; cases z') (fun b z=>absurd rfl z) fun z=>absurd rfl z
  | none =>
    refine core (fun b=>if b=a then some (.frz { cls:=.type "list",data:=.seq vs.toArray } (.lst (ns.map V.int))) else none) (fun b=>?_) (.inl (.inr ⟨{ cls:=.type "list",data:=.seq vs.toArray },if_pos rfl⟩)) (fun b u z=>?_) (fun b z=>?_) fun _=>hk
    · by_cases hb:b=a
      · exact .inr ⟨_,_,if_pos hb⟩
      · exact .inl (if_neg hb)
    · by_cases hb:b=a
      · have z':=(if_pos hb).symm.trans z
        cases z'
        subst hb
        exact ⟨ha,by rw [List.length_map]; exact hl,vs,_,rv,ha⟩
      · have z':=(if_neg hb).symm.trans z
        cases z'
    · by_cases hb:b=a
      · exact hb
      · exact absurd (if_neg hb) z
end L2
namespace L2
open PySem PySem.Spec PyProof.Rows
theorem walk_of {l:PySem.W.OpenLaw} {n k:Nat} {q:Program} {loose:List Str} {XP:(Str→Option Value)→Heap→Prop} {YP:World→Heap→Prop} {d:DefRec} {K:Params→PySem.W.Frag} {CX:World→CXT} {sp:World→Sp} {x:Str}
    (hn:l.most=some n) (hn2:n≤sizeLine) (hdf:d.params.defaults=[]) (hr:Room k callerA)
    (hY:∀ (w:World) (h:Heap),YP w h→(K w.params).In h)
    (F:∀ (w:World) (mg:Str→Option Value) (fa:Addr) (h:Heap),(K w.params).In h→h.Ns mainGlobals mg→mg d.name=some (.ref fa) →
      ∃ fd:FuncData,(∀ (s:Shared) (u:Value),BindsTo s fd ⟨[u],[]⟩ [(x,u)]) ∧
        ∀ base:Heap,(K w.params).In base→base.Ns mainGlobals mg→FnOk l.prog w (K w.params) mg base (CX w) k fa fd [x] (sp w))
    (hsp:∀ (w:World) (H:Hp) (a:Addr) (ns:List Int),ns.length≤n→Only H→SqL (K w.params) H a (ns.map V.int)→sp w [.ref a] H (fun v _=>v=.bl true) fun _ _ _=>False)
    (hCX:∀ (w:World) (H:Hp) (s:Shared) (e:Value) (s':Shared),CX w [] H s (fun _ _ _=>False) e s'→False) :
    PySem.W.WalkO q loose XP YP l.row.toRowW d [] (fun f vs=>PySem.call f vs):=by
  refine Att.attach_call hn hdf fun w s₀ s₁ mg mb fa o pm cd doc a vs ns G Y ho hd hcd hmg hobj hints hlen hg=>?_
  have KX:=hY w _ Y
  obtain ⟨fd,hb,hF⟩:=F w mg fa _ KX G.T.g hmg
  exact law_call KX G.T.g G.T.b G.T.builtins G.T.nolimit hg hobj hints (Nat.le_trans hlen hn2) hr hF hb (fun H hO hS=>hsp w H a ns hlen hO hS) fun H e s'=>hCX w H s₁ e s'
theorem walk_ofK {l:PySem.W.OpenLaw} {n k:Nat} {q:Program} {loose:List Str} {XP:(Str→Option Value)→Heap→Prop} {YP:World→Heap→Prop} {d:DefRec} {K:Params→PySem.W.Frag} {CX:CXT} {sp:PySem.W.Frag→Sp} {x:Str}
    (hn:l.most=some n) (hn2:n≤sizeLine) (hdf:d.params.defaults=[]) (hr:Room k callerA)
    (hY:∀ (w:World) (h:Heap),YP w h→(K w.params).In h)
    (F:∀ (w:World) (mg:Str→Option Value) (fa:Addr) (h:Heap),(K w.params).In h→h.Ns mainGlobals mg→mg d.name=some (.ref fa) →
      ∃ fd:FuncData,(∀ (s:Shared) (u:Value),BindsTo s fd ⟨[u],[]⟩ [(x,u)]) ∧
        ∀ base:Heap,(K w.params).In base→base.Ns mainGlobals mg→FnOk l.prog w (K w.params) mg base CX k fa fd [x] (sp (K w.params)))
    (hsp:∀ (K:PySem.W.Frag) (H:Hp) (a:Addr) (ns:List Int),ns.length≤n→Only H→SqL K H a (ns.map V.int)→sp K [.ref a] H (fun v _=>v=.bl true) fun _ _ _=>False)
    (hCX:∀ (H:Hp) (s:Shared) (e:Value) (s':Shared),CX [] H s (fun _ _ _=>False) e s'→False) :
    PySem.W.WalkO q loose XP YP l.row.toRowW d [] (fun f vs=>PySem.call f vs) :=
  walk_of (K:=K) (CX:=fun _=>CX) (sp:=fun w=>sp (K w.params)) hn hn2 hdf hr hY F (fun w H a ns h1 h2 h3=>hsp (K w.params) H a ns h1 h2 h3) fun _ H s e s'=>hCX H s e s'
end L2
/- THE LAST THEOREM (shape; LID,My.* are yours):
   My.Adr: a structure of the addresses that your layer names (classes,functions); My.Txt K t: a structure (Prop) of the equations over K;
   My.txt_mk:{K} {implicit addresses ..} (e1:nsIn K mainGlobals "law" = some (some (.ref f))) (e2:K.lookup f=some ⟨oc,od,.func (fnOf "law" "law" params body scope dV kV doc pm an cdv ct),sl⟩) (e3:codeIn K cdv "law" = true) .. : ∃ t,My.Txt K t
set_option maxRecDepth 100000 in
set_option maxHeartbeats 0 in
theorem PySem.Challenge.cw_LID_holds : PySem.Challenge.rw_LID.Holds := by
  w_on; o_law; k_head; (case hw=>w_witness2)
  k_fill
  refine L2.walk_of (l:=PySem.Challenge.rw_LID) (n:=63) (k:=40) (x := "script") (CX:=fun w=>..) (sp:=fun _=>My.sp_law) rfl (by decide) rfl ⟨rfl,by decide,by decide⟩ (fun w h Y=>PySem.W.kIn_of Y) ?F ?S ?C
  case F =>
    intro w mg fa h KX G hmg
    have T:∃ t,My.Txt (L2.KOf KX) t:=by
      dsimp only [L2.KOf]                          -- K must stand as «<heap const> w.params» for k_is
      refine' My.txt_mk ?e1 ?e2 ?e3 ..
      (case e1=>PySem.W.k_is)                    -- in the order: a name -> its address -> its object -> its parts
      (case e2=>PySem.W.k_is)
      ..
    obtain ⟨t,T⟩:=T
    have e0:=hmg.symm.trans (PySem.W.mg_of KX G T.law)
    cases e0                                       -- fa is the law's own address
    exact ⟨_,fun s u=>.of_eq rfl,fun base kb nb=>My.law_fn T kb nb⟩     -- if «.of_eq rfl» comes too early: refine' ⟨_,?b,fun base kb nb=>My.law_fn T kb nb⟩; exact fun s u=>.of_eq rfl
  case S=>exact fun w H a ns hl hO hS=>..
  case C=>exact ..
(the tactic k_is has no namespace: write k_is) -/
namespace L2
open PySem PySem.Spec PyProof.Rows
def inClass (s:Stmt) (j:Nat):Stmt:=match s with
  | .ClassDef _ _ _ body _ _ _ _ _ _ _=>body.getD j (.Pass ⟨0,0,0,0⟩)
  | _=>.Pass ⟨0,0,0,0⟩
def defArgs (s:Stmt):Arguments:=match s with
  | .FunctionDef _ a _ _ _ _ _ _ _ _=>a
  | _=>{ posonlyargs:=[],args:=[],vararg:=none,kwonlyargs:=[],kw_defaults:=[],kwarg:=none,defaults:=[] }
def defBody (s:Stmt):List Stmt:=match s with
  | .FunctionDef _ _ b _ _ _ _ _ _ _=>b
  | _=>[]
def defScope (s:Stmt):Scope:=match s with
  | .FunctionDef _ _ _ _ _ _ sc _ _ _=>sc
  | _=>{ kind:=.function,names:=[],isGenerator:=false,isCoroutine:=false }
abbrev CX0:CXT:=fun _ _ _ _ _ _=>False
abbrev E0:XK:=fun _ _ _=>False
theorem pass0 {X:Cx}:Passes CX0 X E0:=fun _ _ _ _ _ _ _ h=>h.elim
structure Fun (K:PySem.W.Frag) (x qual:Str) (st:Stmt) (f:Addr) (fd:FuncData):Prop where
  ex:∃ (oc:Value) (od:Option Addr) (kV doc pm:Value) (an:Option Addr) (cdv ct:Value) (osl:Array (Option Value)),
    fd=PySem.W.fnOf x qual (defArgs st) (defBody st) (defScope st) .none kV doc pm an cdv ct∧K.lookup f=some ⟨oc,od,.func fd,osl⟩∧PySem.W.codeIn K cdv qual=true
  kp:PySem.W.keepIn K (.ref f)=true
section
variable {P:Program} {w:World} {K:PySem.W.Frag} {mg:Str→Option Value} {base:Heap}
theorem Fun.ok {x qual:Str} {st:Stmt} {f:Addr} {fd:FuncData} {N ps:List Str} {k:Nat} {sp:Sp} (F:Fun K x qual st f fd) (S:FnScope N ps (defScope st)) (len:∀ vs H Q E,sp vs H Q E→vs.length=ps.length)
    (hbody:∀ (cdv:Value) (A:Around) (outer:List Env) (s:Shared) (H:Hp) (vs:List V) (Q:VK) (E:XK),Room k (A.deeper (envOfC qual (defScope st) s.heap.objs.size f cdv))→sp vs H Q E →
      ∃ t,PSs (cxOf CX0 P w K mg base N qual (defScope st) f cdv A outer s H E).nox (defBody st) t∧t { nx:=fun _ H'=>Q .non H',rt:=Q } (start N vs) H):FnOk P w K mg base CX0 (k+1) f fd ps sp:=by
  obtain ⟨oc,od,kV,doc,pm,an,cdv,ct,osl,rfl,lk,hcd⟩:=F.ex
  refine fn_of lk hcd S len fun A outer s H vs Q E hr hsp=>?_
  obtain ⟨t,h,q⟩:=hbody cdv A outer s H vs Q E hr hsp
  exact ⟨t,h.nox,q⟩
theorem Fun.binds {x qual:Str} {st:Stmt} {f:Addr} {fd:FuncData} {ps:List Str} (F:Fun K x qual st f fd)
    (h:∀ (kV doc pm:Value) (an:Option Addr) (cdv ct:Value) (us:List Value),us.length=ps.length→bindArgs (PySem.W.fnOf x qual (defArgs st) (defBody st) (defScope st) .none kV doc pm an cdv ct) ⟨us,[]⟩=pure (ps.zip us)):Binds K fd ps []:=by
  obtain ⟨oc,od,kV,doc,pm,an,cdv,ct,osl,rfl,lk,hcd⟩:=F.ex
  exact .all (h kV doc pm an cdv ct)
theorem fun_mk {x qual:Str} {st:Stmt} {f:Addr} {oc:Value} {od an:Option Addr} {osl:Array (Option Value)} {kV doc pm cdv ct:Value} (l:K.lookup f=some ⟨oc,od,.func (PySem.W.fnOf x qual (defArgs st) (defBody st) (defScope st) .none kV doc pm an cdv ct),osl⟩)
    (c:PySem.W.codeIn K cdv qual=true) (k:PySem.W.keepIn K (.ref f)=true):Fun K x qual st f (PySem.W.fnOf x qual (defArgs st) (defBody st) (defScope st) .none kV doc pm an cdv ct):=⟨⟨oc,od,kV,doc,pm,an,cdv,ct,osl,rfl,l,c⟩,k⟩
end
theorem small1000 {n:Nat} (h:n≤1000):n<sizeLine:=Nat.lt_of_le_of_lt h (by decide)
section
variable {X:Cx}
theorem pv (i:Nat) {x:Str} {pos:Pos} (hN:X.N[i]?=some x:=by rfl) (hv:Vis X.env.scope x:=by first | exact Or.inl rfl | exact Or.inr (Or.inl rfl) | exact Or.inr (Or.inr rfl)) (hd:(x == ("__debug__" : Str))=false:=by decide)
    (hcd:(x == ("__classdict__" : Str))=false:=by decide):PE X (.Name x pos) (tVar i):=pe_var hN hv hd hcd
end
theorem iteF {A B:Prop} (h:B):if false=true then A else B:=by
  rw [if_neg Bool.false_ne_true]
  exact h
theorem iteT {A B:Prop} (h:A):if true=true then A else B:=by
  rw [if_pos rfl]
  exact h
theorem ite2 {c A B:Prop} [Decidable c] (h1:c→A) (h2:¬ c→B):if c then A else B:=by
  by_cases h:c
  · rw [if_pos h]
    exact h1 h
  · rw [if_neg h]
    exact h2 h
def Same (H H':Hp):Prop:=∀ b o,H b=some o→H' b=some o
theorem Same.refl (H:Hp):Same H H:=fun _ _ h=>h
theorem Same.trans {H H1 H2:Hp} (a:Same H H1) (b:Same H1 H2):Same H H2:=fun c o h=>b c o (a c o h)
theorem Same.free {H H':Hp} (e:Same H H') {l:Addr} (h:H' l=Option.none):H l=Option.none:=by
  cases q:H l with
  | none=>rfl
  | some o =>
    rw [e l o q] at h
    cases h
end L2
set_option Elab.async false
set_option linter.all false
set_option maxRecDepth 100000
namespace L2
open PySem PySem.Spec PyProof.Rows
section
variable {κ:Type} [DecidableEq κ]
def valV (kvs:List (κ × V)) (k:κ):Option V:=(kvs.find? fun kv=>decide (kv.1=k)).map (·.2)
def putK (kvs:List (κ × V)) (k:κ) (v:V):List (κ × V) :=
  if (kvs.any fun kv=>decide (kv.1=k))=true then kvs.map (fun kv=>if kv.1=k then (kv.1,v) else kv) else kvs++[(k,v)]
theorem valV_pos {p:κ × V} {r:List (κ × V)} {k:κ} (e:p.1=k):valV (p::r) k=some p.2:=by simp [valV,List.find?_cons,e]
theorem valV_neg {p:κ × V} {r:List (κ × V)} {k:κ} (e:¬ p.1=k):valV (p::r) k=valV r k:=by simp [valV,List.find?_cons,e]
theorem valV_any (k:κ):∀ kvs:List (κ × V),(kvs.any fun kv=>decide (kv.1=k))=(valV kvs k).isSome
  | []=>rfl
  | p::r=>by
    rw [List.any_cons]
    by_cases e:p.1=k
    · simp only [valV_pos e,decide_eq_true e,Bool.true_or,Option.isSome_some]
    · rw [valV_neg e,decide_eq_false e,Bool.false_or]; exact valV_any k r
theorem length_putK (kvs:List (κ × V)) (k:κ) (v:V):(putK kvs k v).length≤kvs.length+1:=by
  unfold putK
  split
  · rw [List.length_map]; omega
  · rw [List.length_append,List.length_cons,List.length_nil]; omega
theorem putK_new {kvs:List (κ × V)} {k:κ} (v:V) (h:valV kvs k=none):putK kvs k v=kvs++[(k,v)]:=by
  unfold putK
  rw [valV_any,h]
  exact if_neg (by decide)
theorem RelO.isSome_eq {o:Option V} {u:Option Value} (r:RelO o u):o.isSome=u.isSome:=by
  cases o with
  | none=>cases u with
    | none=>rfl
    | some _=>exact (show False from r).elim
  | some _=>cases u with
    | none=>exact (show False from r).elim
    | some _=>rfl
theorem RelO.getD {o:Option V} {u:Option Value} {d:V} {d':Value} (r:RelO o u) (rd:RelV d d'):RelV (o.getD d) (u.getD d'):=by
  cases o with
  | none=>cases u with
    | none=>exact rd
    | some _=>exact (show False from r).elim
  | some _=>cases u with
    | none=>exact (show False from r).elim
    | some _=>exact r
theorem KV.val {kvs:List (κ × V)} {vs:List (κ × Value)} (r:KV kvs vs) (k:κ):RelO (valV kvs k) (valueAt vs k):=by
  unfold KV at r
  induction r with
  | nil=>exact True.intro
  | @cons p q ps qs h t ih =>
    obtain ⟨h1,h2⟩:=h
    by_cases e:p.1=k
    · have e':q.1=k:=h1.symm.trans e
      have b:valueAt (q::qs) k=some q.2:=by simp [valueAt,List.find?_cons,e']
      rw [valV_pos e,b]; exact h2
    · have e':¬ q.1=k:=fun z=>e (h1.trans z)
      have b:valueAt (q::qs) k=valueAt qs k:=by simp [valueAt,List.find?_cons,e']
      rw [valV_neg e,b]; exact ih
theorem KV.any {kvs:List (κ × V)} {vs:List (κ × Value)} (r:KV kvs vs) (k:κ):(kvs.any fun kv=>decide (kv.1=k))=vs.any fun kv=>decide (kv.1=k):=by
  unfold KV at r
  induction r with
  | nil=>rfl
  | cons h t ih=>rw [List.any_cons,List.any_cons,ih,h.1]
theorem KV.repl {kvs:List (κ × V)} {vs:List (κ × Value)} (r:KV kvs vs) (k:κ) {y:V} {u:Value} (ry:RelV y u) :
    KV (kvs.map fun kv=>if kv.1=k then (kv.1,y) else kv) (vs.map fun kv=>if kv.1=k then (kv.1,u) else kv):=by
  unfold KV at r ⊢
  induction r with
  | nil=>exact .nil
  | @cons p q ps qs h t ih =>
    rw [List.map_cons,List.map_cons]
    refine .cons ?_ ih
    obtain ⟨h1,h2⟩:=h
    by_cases e:p.1=k
    · rw [if_pos e,if_pos (h1.symm.trans e)]; exact ⟨h1,ry⟩
    · rw [if_neg e,if_neg (fun z=>e (h1.trans z))]; exact ⟨h1,h2⟩
theorem KV.put {kvs:List (κ × V)} {vs:List (κ × Value)} (r:KV kvs vs) (k:κ) {y:V} {u:Value} (ry:RelV y u):KV (putK kvs k y) (stored vs k u):=by
  unfold putK stored
  rw [r.any k]
  by_cases e:(vs.any fun kv=>decide (kv.1=k))=true
  · rw [if_pos e,if_pos e]; exact r.repl k ry
  · rw [if_neg e,if_neg e]; exact Paired.snoc r ⟨rfl,ry⟩
theorem KV.length {kvs:List (κ × V)} {vs:List (κ × Value)} (r:KV kvs vs):kvs.length=vs.length:=Paired.length r
end
theorem kV_is {P:Program} {w:World} {k:Key} {u:Value} (r:RelV (kV k) u):(mixKind P w).is k u=true:=by
  cases k with
  | inl i=>obtain ⟨t,e⟩:=(show ∃ t,u=Value.int i t from r); subst e; exact mixKind_int P w i t
  | inr x=>obtain ⟨t,e⟩:=(show ∃ t,u=Value.str x t from r); subst e; exact mixKind_str P w x t
theorem items_are {P:Program} {w:World}:∀ {ks:List Key} {us:List Value},Vals (ks.map kV) us→ItemsAre (mixKind P w) ks us
  | [],_,r=>by rw [List.map_nil] at r; cases r; exact .nil
  | k::ks,_,r=>by
    rw [List.map_cons] at r
    cases r with
    | cons h t=>exact .cons (kV_is h) (items_are t)
abbrev KT (H:Hp):List (List Key × V)→List (List Key × Addr × Value)→Prop:=Paired fun p q=>p.1=q.1∧H q.2.1=some (.tup (p.1.map kV))∧RelV p.2 q.2.2
theorem KT.val {H:Hp} {kvs:List (List Key × V)} {xs:List (List Key × Addr × Value)} (r:KT H kvs xs) (k:List Key):RelO (valV kvs k) ((atKey xs k).map (·.2)):=by
  induction r with
  | nil=>exact True.intro
  | @cons p q ps qs h t ih =>
    obtain ⟨h1,_,h2⟩:=h
    by_cases e:p.1=k
    · have e':q.1=k:=h1.symm.trans e
      have b:atKey (q::qs) k=some q.2:=by simp [atKey,List.find?_cons,e']
      rw [valV_pos e,b]; exact h2
    · have e':¬ q.1=k:=fun z=>e (h1.trans z)
      have b:atKey (q::qs) k=atKey qs k:=by simp [atKey,List.find?_cons,e']
      rw [valV_neg e,b]; exact ih
theorem KT.repl {H:Hp} {kvs:List (List Key × V)} {xs:List (List Key × Addr × Value)} (r:KT H kvs xs) (k:List Key) {y:V} {u:Value} (ry:RelV y u) :
    KT H (kvs.map fun kv=>if kv.1=k then (kv.1,y) else kv) (xs.map (putAt k u)):=by
  induction r with
  | nil=>exact .nil
  | @cons p q ps qs h t ih =>
    rw [List.map_cons,List.map_cons]
    refine .cons ?_ ih
    obtain ⟨h1,h2,h3⟩:=h
    unfold putAt
    by_cases e:p.1=k
    · rw [if_pos e,if_pos (h1.symm.trans e)]; exact ⟨h1,h2,ry⟩
    · rw [if_neg e,if_neg (fun z=>e (h1.trans z))]; exact ⟨h1,h2,h3⟩
theorem KT.put {H:Hp} {kvs:List (List Key × V)} {xs:List (List Key × Addr × Value)} (r:KT H kvs xs) (k:List Key) {b:Addr} {y:V} {u:Value} (hb:H b=some (.tup (k.map kV))) (ry:RelV y u) :
    KT H (putK kvs k y) (storedH xs k b u):=by
  have e:(kvs.any fun kv=>decide (kv.1=k))=(atKey xs k).isSome:=by
    rw [valV_any,(r.val k).isSome_eq,Option.isSome_map]
  unfold putK storedH
  rw [e]
  by_cases q:(atKey xs k).isSome=true
  · rw [if_pos q,if_pos q]; exact r.repl k ry
  · rw [if_neg q,if_neg q]; exact Paired.snoc r ⟨rfl,hb,ry⟩
theorem KT.keeps {H H':Hp} {kvs:List (List Key × V)} {xs:List (List Key × Addr × Value)} (r:KT H kvs xs) (ht:∀ b ys,H b=some (.tup ys)→H' b=some (.tup ys)):KT H' kvs xs :=
  Paired.mapP r fun _ _ z=>⟨z.1,ht _ _ z.2.1,z.2.2⟩
section
variable {P:Program} {w:World} {H:Hp} {h:Heap} {a:Addr}
theorem rd_of {u:HO} (ok:HOk P w H h) (e:Rd H a u):ObjOk P w H h a u:=e.ok ok
theorem dk_rd {kvs:List (Key × V)} (ok:HOk P w H h) (e:Rd H a (.dK kvs)):kvs.length≤sizeLine∧(a == sysModules)=false∧∃ vs,KV kvs vs∧h.DictOf (mixKind P w) a vs :=
  show ObjOk P w H h a (.dK kvs) from rd_of ok e
theorem dk_of {kvs:List (Key × V)} (ok:HOk P w H h) (e:H a=some (.dK kvs)):kvs.length≤sizeLine∧(a == sysModules)=false∧∃ vs,KV kvs vs∧h.DictOf (mixKind P w) a vs:=dk_rd ok (.inl e)
theorem key_of {ks:List Key} (ok:HOk P w H h) (e:H a=some (.tup (ks.map kV))):(tupleKind (mixKind P w)).is h ks a:=by
  obtain ⟨_,its,r,o,h1,h2,n,h3⟩:=(show ObjOk P w H h a (.tup (ks.map kV)) from ok a _ e)
  exact ⟨o,its.toArray,n,h1,h2,h3,by simpa using items_are r⟩
theorem dt_rd {kvs:List (List Key × V)} (ok:HOk P w H h) (e:Rd H a (.dT kvs)):kvs.length≤sizeLine∧(a == sysModules)=false ∧
    ∃ xs,KT H kvs xs∧h.DictOfH (tupleKind (mixKind P w)) a xs:=by
  obtain ⟨z,y,xs,r,o,es,ep,h1,h2,h3,h4,h5⟩:=(show ObjOk P w H h a (.dT kvs) from rd_of ok e)
  refine ⟨z,y,xs,r,o,es,ep,h1,h2,h3,h4,fun x hx=>?_,h5⟩
  have all:∀ {l:List (List Key × V)} {m:List (List Key × Addr × Value)},KT H l m→∀ x∈m,(tupleKind (mixKind P w)).is h x.1 x.2.1:=by
    intro l m q
    induction q with
    | nil=>intro x hx; exact nomatch hx
    | @cons p q ps qs hq t ih =>
      intro x hx
      rcases List.mem_cons.mp hx with e | hx
      · subst e
        exact key_of ok (by rw [← hq.1]; exact hq.2.1)
      · exact ih x hx
  exact all r x hx
theorem dt_of {kvs:List (List Key × V)} (ok:HOk P w H h) (e:H a=some (.dT kvs)):kvs.length≤sizeLine∧(a == sysModules)=false ∧
    ∃ xs,KT H kvs xs∧h.DictOfH (tupleKind (mixKind P w)) a xs:=dt_rd ok (.inl e)
end
def DGet (H:Hp) (a:Addr) (y:V) (r:Option V):Prop :=
  (∃ kvs k,Rd H a (.dK kvs)∧y=kV k∧r=valV kvs k)∨∃ kvs k b,Rd H a (.dT kvs)∧y=.ref b∧H b=some (.tup (k.map kV))∧r=valV kvs k
def DPut (H:Hp) (a:Addr) (y v:V) (H':Hp):Prop :=
  (∃ kvs k,H a=some (.dK kvs)∧y=kV k∧kvs.length<sizeLine∧H'=upd H a (.dK (putK kvs k v))) ∨
  ∃ kvs k b,H a=some (.dT kvs)∧y=.ref b∧H b=some (.tup (k.map kV))∧kvs.length<sizeLine∧H'=upd H a (.dT (putK kvs k v))
theorem DGet.k {H:Hp} {a:Addr} {kvs:List (Key × V)} {k:Key} (e:H a=some (.dK kvs)):DGet H a (kV k) (valV kvs k):=.inl ⟨kvs,k,.inl e,rfl,rfl⟩
theorem DPut.k {H:Hp} {a:Addr} {kvs:List (Key × V)} {k:Key} {v:V} (e:H a=some (.dK kvs)) (hl:kvs.length<sizeLine):DPut H a (kV k) v (upd H a (.dK (putK kvs k v))):=.inl ⟨kvs,k,e,rfl,hl,rfl⟩
section
variable {X:Cx} {pins:List (Addr × Obj)} {σ:St} {H:Hp} {s:Shared} {a:Addr} {y v:V} {u r:Value} {o:Option V} {A:Around} {E:Value→Shared→Prop}
theorem Inv.big (I:Inv X pins σ H s):sysModules<s.heap.objs.size:=by
  have h:mainGlobals<s.heap.objs.size:=(I.mod.glob.keeps I.bk).lt
  exact Nat.lt_trans (by decide) h
theorem d_getItem {Q:Value→Shared→Prop} (hu:A.units+1<cLine) (I:Inv X pins σ H s) (g:DGet H a y (some v)) (ry:RelV y u) (h:∀ w' s',Inv X pins σ H s'→RelV v w'→Q w' s') :
    wpAny (model X.prog X.w) A (getItem (.ref a) u) Q E s:=by
  rcases g with ⟨kvs,k,e,ey,l⟩ | ⟨kvs,k,b,e,ey,eb,l⟩
  · subst ey
    obtain ⟨z,hd,vs,rel,dd⟩:=dk_rd I.hok e
    obtain ⟨w',hw,rw'⟩:=RelO.some_of (v:=v) (o:=valueAt vs k) (by rw [l]; exact rel.val k)
    exact wpAny_getItem_of (kV_is ry) dd.mapOf hw (h w' _ (I.tok _) rw')
  · subst ey
    cases (show u=Value.ref b from ry)
    obtain ⟨z,hd,xs,rel,dd⟩:=dt_rd I.hok e
    obtain ⟨w',hw,rw'⟩:=RelO.some_of (v:=v) (o:=(atKey xs k).map (·.2)) (by rw [l]; exact rel.val k)
    obtain ⟨p,hp,hp2⟩:=Option.map_eq_some_iff.mp hw
    refine wpAny_getItem_heap (tupleKind_room_in1 hu) (key_of I.hok eb) dd hp ?_
    rw [hp2]
    exact h w' _ (I.tok _) rw'
theorem d_write {h':Heap} {t':Nat} {ob:HO} (I:Inv X pins σ H s) (mu:Mut (H a)) (hs:Heap.SameBut a s.heap h') (he:∃ q,h'.get? a=some q) (new:ObjOk X.prog X.w (upd H a ob) h' a ob) :
    Inv X pins σ (upd H a ob) { s with heap:=h',toks:=t' } :=
  I.write (x:=a) (e:=a) mu (.inl rfl) (fun b q hb z=>(hs.2 b hb).trans z) he new
theorem dk_new {P:Program} {w:World} {H':Hp} {h':Heap} {kvs:List (Key × V)} {vs:List (Key × Value)} (z:kvs.length≤sizeLine) (hd:(a == sysModules)=false) (rel:KV kvs vs) (dd:h'.DictOf (mixKind P w) a vs) :
    ObjOk P w H' h' a (.dK kvs):=⟨z,hd,vs,rel,dd⟩
theorem d_setItem {H':Hp} {Q:Unit→Shared→Prop} (hu:A.units+1<cLine) (I:Inv X pins σ H s) (g:DPut H a y v H') (ry:RelV y u) (rv:RelV v r) (h:∀ s',Inv X pins σ H' s'→Q () s') :
    wpAny (model X.prog X.w) A (setItem (.ref a) u r) Q E s:=by
  rcases g with ⟨kvs,k,e,ey,l,eH⟩ | ⟨kvs,k,b,e,ey,eb,l,eH⟩
  · subst ey eH
    obtain ⟨z,hd,vs,rel,dd⟩:=dk_of I.hok e
    have hz:vs.length≤sizeLine:=by rw [← rel.length]; exact z
    have hl:(putK kvs k v).length≤sizeLine:=by have:=length_putK kvs k v; omega
    refine wpAny_setItem_pairs (hsz:=hz) (kV_is ry) dd fun h' dd' hs=>h _ ?_
    have he:∃ q,h'.get? a=some q:=let ⟨q,_,_,hq,_⟩:=dd'; ⟨q,hq⟩
    exact d_write I (by rw [e]; exact True.intro) hs he (dk_new hl hd (rel.put k rv) dd')
  · subst ey eH
    cases (show u=Value.ref b from ry)
    obtain ⟨z,hd,xs,rel,dd⟩:=dt_of I.hok e
    have hz:xs.length≤sizeLine:=by rw [← Paired.length rel]; exact z
    have hl:(putK kvs k v).length≤sizeLine:=by have:=length_putK kvs k v; omega
    refine wpAny_setItem_heap (hsz:=hz) (tupleKind_room_in1 hu) (key_of I.hok eb) dd fun h' dd' hs=>h _ ?_
    obtain ⟨q,es,ep,hq,h2,h3,h4,_,h5⟩:=dd'
    refine d_write I (by rw [e]; exact True.intro) hs ⟨q,hq⟩ ⟨hl,hd,_,(rel.put k eb rv).keeps fun c ys ec=>?_,q,es,ep,hq,h2,h3,h4,h5⟩
    rw [upd_ne (ne_of ec e (fun z=>nomatch z))]
    exact ec
end
section
variable {X:Cx} {pins:List (Addr × Obj)} {σ:St} {H:Hp} {s:Shared} {a:Addr} {kvs:List (Key × V)} {k:Key} {u:Value} {A:Around} {E:Value→Shared→Prop}
end
def NoSl (i:Expr):Prop:=∀ ov iv,subscripted i false ov iv=operate [ov,iv] (getItem ov iv)
theorem subD_of {prog:Program} {w:World} {A:Around} {E:Value→Shared→Prop} {s:Shared} {env:Env} {value slice:Expr} {pos:Pos} {T id:String} {Q:Value→Shared→Prop}
    (hl:typeLookup (.type T) "__getitem__" = pure (some (.builtin id))) (hs:NoSl slice)
    (h:wpAny (model prog w) A (eval value env) (fun o s₁=>wpAny (model prog w) A (eval slice env) (fun i s₂=>s₂.TypeIs o T∧wpAny (model prog w) A (getItem o i) Q E s₂) E s₁) E s) :
    wpAny (model prog w) A (eval (.Subscript value slice pos) env) Q E s:=by
  refine Subscript_ (wpAny_mono h (fun o s₁ h₁=>wpAny_mono h₁ (fun i s₂ h₂=>?_) fun _ _ x=>x) fun _ _ x=>x)
  obtain ⟨hT,h₂⟩:=h₂
  unfold subscriptTail
  refine wpAny_bind ?_
  rw [getitemInPython_of_ne hT.not_modules]
  refine wpAny_bind (wpAny_specialOf hT hl ?_)
  have fin:wpAny (model prog w) A (subscripted slice false o i) (fun r s₃=>wpAny (model prog w) A (letTemporaryGo value o r >>= fun _=>pure r) Q E s₃) E s₂:=by
    rw [hs o i]
    exact wpAny_operating (wpAny_mono h₂ (fun r s₃ h₃=>wpAny_bind (wpAny_letTemporaryGo (wpAny_pure h₃))) fun _ _ x=>x)
  first
    | exact wpAny_pure (wpAny_bind fin)
    | exact wpAny_bind (wpAny_pure (wpAny_bind fin))
    | exact wpAny_bind fin
theorem dict_typeIs {X:Cx} {pins:List (Addr × Obj)} {σ:St} {H:Hp} {s:Shared} {a:Addr} {y:V} {o:Option V} (I:Inv X pins σ H s) (g:DGet H a y o):s.TypeIs (.ref a) "dict" := by
  rcases g with ⟨kvs,k,e,_,_⟩ | ⟨kvs,k,b,e,_,_,_⟩
  · obtain ⟨_,_,vs,_,dd⟩:=dk_rd I.hok e
    exact dd.typeIs
  · obtain ⟨_,_,xs,_,dd⟩:=dt_rd I.hok e
    exact dd.typeIs
def tDGet (td ty:TE):TE:=fun σ H Q=>td σ H fun x H1=>ty σ H1 fun y H2=>∃ a v,x=.ref a∧DGet H2 a y (some v)∧Q v H2
def sDPut (td ty tv:TE):TS:=fun D σ H=>tv σ H fun v H1=>td σ H1 fun x H2=>ty σ H2 fun y H3=>∃ a H4,x=.ref a∧DPut H3 a y v H4∧D.nx σ H4
section
variable {X:Cx} {o i e value:Expr} {pos pos' tpos:Pos} {td ty tv:TE}
theorem pe_dget (hu:X.A.units+1<cLine) (ho:PE X o td) (hi:PE X i ty) (hs:NoSl i):PE X (.Subscript o i pos) (tDGet td ty):=by
  intro pins s σ H Q I h
  refine subD_of PySem.F.slot_dict_getitem.lookup hs (thn (ho pins s σ H _ I h) fun u s1 ⟨x,H1,I1,rx,q1⟩=>thn (hi pins s1 σ H1 _ I1 q1) fun iv s2 ⟨y,H2,I2,ry,a,v,ex,g,q2⟩=>?_)
  subst ex
  obtain rfl:u=Value.ref a:=rx
  exact ⟨dict_typeIs I2 g,d_getItem hu I2 g ry fun w' s3 I3 rw'=>⟨v,H2,I3,rw',q2⟩⟩
theorem ps_dput (hu:X.A.units+1<cLine) (ho:PE X o td) (hi:PE X i ty) (hv:PE X value tv) (hs:swapsWith value (some (.Subscript o i pos')) pos.line X.env=pure false) :
    PS X (.Assign [.Subscript o i pos'] value pos) (sDPut td ty tv):=by
  intro pins s σ H D I h
  refine wpAny_Assign_Subscript (thn (hv pins s σ H _ I h) fun r s1 ⟨v,H1,I1,rv,q1⟩=>thn (ho pins s1 σ H1 _ I1 q1) fun u s2 ⟨x,H2,I2,rx,q2⟩=>thn (hi pins s2 σ H2 _ I2 q2) fun iv s3 ⟨y,H3,I3,ry,a,H4,ex,g,q3⟩=>?_) hs
  subst ex
  obtain rfl:u=Value.ref a:=rx
  exact d_setItem hu I3 g ry rv fun s4 I4=>⟨σ,H4,I4,q3⟩
end
theorem dk_empty {P:Program} {w:World} {H:Hp} (h:Heap) (hb:sysModules<h.objs.size):ObjOk P w H (h.push { cls:=.type "dict",data:=.dict #[] }) h.objs.size (.dK []) :=
  ⟨Nat.zero_le _,beq_eq_false_iff_ne.mpr (Ne.symm (Nat.ne_of_lt hb)),[],.nil,Heap.DictOf.new h⟩
theorem dt_empty {P:Program} {w:World} {H:Hp} (h:Heap) (hb:sysModules<h.objs.size):ObjOk P w H (h.push { cls:=.type "dict",data:=.dict #[] }) h.objs.size (.dT []) :=
  ⟨Nat.zero_le _,beq_eq_false_iff_ne.mpr (Ne.symm (Nat.ne_of_lt hb)),[],.nil,_,#[],0,Heap.get?_push_size _ rfl,⟨rfl,rfl,rfl⟩,rfl,rfl,List.nodup_nil⟩
section
variable {X:Cx} {pos:Pos}
end
def tPairs:List (TE × TE)→St→Hp→(List (V × V)→Hp→Prop)→Prop
  | [],_,H,Q=>Q [] H
  | (tk,tv)::r,σ,H,Q=>tk σ H fun x H1=>tv σ H1 fun y H2=>tPairs r σ H2 fun ps H3=>Q ((x,y)::ps) H3
abbrev VV:List (V × V)→List (Value × Value)→Prop:=Paired fun p q=>RelV p.1 q.1∧RelV p.2 q.2
def PPs (X:Cx) (pos:Pos) (keys:List (Option Expr)) (values:List Expr) (trs:List (TE × TE)):Prop :=
  ∀ (pins:List (Addr × Obj)) (s:Shared) (σ:St) (H:Hp) (Q:List (V × V)→Hp→Prop),Inv X pins σ H s→tPairs trs σ H Q →
    wpAny (model X.prog X.w) X.A (evalPairs (pairTrees keys values X.env pos)) (fun vs s'=>∃ ps H',Inv X pins σ H' s'∧VV ps vs∧Q ps H') X.xe s
theorem pps_nil {X:Cx} {pos:Pos}:PPs X pos [] [] []:=fun pins s σ H Q I h=>pairTrees_nil_walk ⟨[],H,I,.nil,h⟩
theorem pps_cons {X:Cx} {pos:Pos} {k v:Expr} {ks:List (Option Expr)} {vs:List Expr} {tk tv:TE} {trs:List (TE × TE)} (hk:PE X k tk) (hv:PE X v tv) (hr:PPs X pos ks vs trs) :
    PPs X pos (some k::ks) (v::vs) ((tk,tv)::trs):=fun pins s σ H Q I h =>
  pairTrees_cons_walk (thn (hk pins s σ H _ I h) fun u s1 ⟨x,H1,I1,rx,q1⟩=>thn (hv pins s1 σ H1 _ I1 q1) fun w2 s2 ⟨y,H2,I2,ry,q2⟩ =>
    thn (hr pins s2 σ H2 _ I2 q2) fun ws s3 ⟨ps,H3,I3,rel,q3⟩=>⟨(x,y)::ps,H3,I3,.cons ⟨rx,ry⟩ rel,q3⟩)
def mergeK (kvs more:List (Key × V)):List (Key × V):=more.foldl (fun acc kv=>putK acc kv.1 kv.2) kvs
theorem KV.merge:∀ {more:List (Key × V)} {rs:List (Key × Value)} {kvs:List (Key × V)} {vs:List (Key × Value)},KV more rs→KV kvs vs→KV (mergeK kvs more) (merged vs rs):=by
  intro more rs kvs vs r
  unfold KV at r
  induction r generalizing kvs vs with
  | nil=>intro q; exact q
  | @cons p q ps qs h t ih =>
    intro r0
    have e:KV (putK kvs p.1 p.2) (stored vs q.1 q.2):=by
      have:=r0.put p.1 h.2
      rw [← h.1]; exact this
    exact ih e
theorem length_mergeK:∀ (more kvs:List (Key × V)),(mergeK kvs more).length≤kvs.length+more.length
  | [],kvs=>by show kvs.length≤kvs.length+0; omega
  | p::r,kvs=>by
    have h1:=length_mergeK r (putK kvs p.1 p.2)
    have h2:=length_putK kvs p.1 p.2
    show (mergeK (putK kvs p.1 p.2) r).length≤_
    rw [List.length_cons]; omega
theorem carries_of {P:Program} {w:World}:∀ {kvs:List (Key × V)} {ws:List (Value × Value)},VV (kvs.map fun kv=>(kV kv.1,kv.2)) ws→∃ rs,Carries (mixKind P w) ws rs∧KV kvs rs
  | [],_,r=>by rw [List.map_nil] at r; cases r; exact ⟨[],True.intro,.nil⟩
  | p::kvs,_,r=>by
    rw [List.map_cons] at r
    cases r with
    | @cons a b as bs h t =>
      obtain ⟨rs,c,q⟩:=carries_of (P:=P) (w:=w) t
      obtain ⟨b1,b2⟩:=b
      exact ⟨(p.1,b2)::rs,⟨kV_is h.1,rfl,c⟩,.cons ⟨rfl,h.2⟩ q⟩
def tDisp (trs:List (TE × TE)):TE:=fun σ H Q=>∀ p,H p=none→tPairs trs σ (upd H p (.dK [])) fun ps H2=>H2 p=some (.dK [])∧∃ kvs:List (Key × V),ps=kvs.map (fun kv=>(kV kv.1,kv.2))∧kvs.length≤15∧Q (.ref p) (upd H2 p (.dK (mergeK [] kvs)))
theorem pe_disp {X:Cx} {pos:Pos} {keys:List (Option Expr)} {values:List Expr} {trs:List (TE × TE)} (h:PPs X pos keys values trs) (hall:keys.all (·.isSome)=true) (hl:keys.length=values.length) (h0:keys≠[])
    (h15:keys.length≤15):PE X (.Dict keys values pos) (tDisp trs):=by
  intro pins s σ H Q I q
  have hn:=I.hok.fresh (Nat.le_refl s.heap.objs.size)
  have I1:=I.laid (a:=s.heap.objs.size) (o:=.dK []) (h':=s.heap.push { cls:=.type "dict",data:=.dict #[] }) (t':=s.toks) (fun _ _ q=>Heap.get?_push_of_some _ q) (Nat.le_refl _) (dk_empty s.heap I.big)
  refine wpAny_Dict_walk (knd:=mixKind X.prog X.w) hall hl h0 h15 (thn (h pins _ σ _ _ I1 (q _ hn)) fun ws s2 ⟨ps,H2,I2,rel,e,kvs,ep,lk,q2⟩=>?_)
  subst ep
  obtain ⟨rs,c,rk⟩:=carries_of (P:=X.prog) (w:=X.w) rel
  obtain ⟨z,hd,vs0,r0,dd⟩:=dk_of I2.hok e
  cases r0
  refine ⟨rs,c,dd,fun h' dd' hs=>⟨.ref s.heap.objs.size,_,?_,rfl,q2⟩⟩
  have hz:(mergeK [] kvs).length≤sizeLine:=by
    have h1:=length_mergeK kvs []
    rw [List.length_nil] at h1
    rw [sizeLine_eq]; omega
  have he:∃ q,h'.get? s.heap.objs.size=some q:=let ⟨q,_,_,hq,_⟩:=dd'; ⟨q,hq⟩
  exact d_write I2 (by rw [e]; exact True.intro) hs he (dk_new hz hd (rk.merge .nil) dd')
structure M2 (X:Cx) (o:Expr) (m:Str) (apos:Pos) (e f:Expr) (cpos:Pos):Prop where
  base:attributeBase o m X.env (eval o X.env)=eval o X.env
  few:((backTo cpos (starEach [e,f] X.env)).all (fun x=>!x.1)&&(backToKw cpos (keywordEach [] X.env)).all (fun x=>x.1.isSome)
    && decide (([e,f]:List Expr).length+([]:List Keyword).length+(if ([]:List Keyword).isEmpty then 0 else 1)<30))=true
  line:(apos.endLine == cpos.line)=true
  trees:backTo cpos (starEach [e,f] X.env)=[(false,eval e X.env),(false,eval f X.env)]
def IsD (H:Hp) (a:Addr):Prop:=(∃ kvs,Rd H a (.dK kvs))∨∃ kvs,Rd H a (.dT kvs)
theorem isD_at {X:Cx} {pins:List (Addr × Obj)} {σ:St} {H:Hp} {s:Shared} {a:Addr} (I:Inv X pins σ H s) (d:IsD H a) :
    s.TypeIs (.ref a) "dict" ∧ (∀ b,Value.ref a=.ref b→∃ ob,s.heap.get? b=some ob∧ob.dict=none)∧(a == sysModules)=false:=by
  rcases d with ⟨kvs,e⟩ | ⟨kvs,e⟩
  · obtain ⟨_,hd,vs,_,dd⟩:=dk_rd I.hok e
    refine ⟨dd.typeIs,fun b q=>?_,hd⟩
    cases q
    obtain ⟨ob,_,_,h1,h2,_⟩:=dd
    exact ⟨ob,h1,h2.2.1⟩
  · obtain ⟨_,hd,xs,_,dd⟩:=dt_rd I.hok e
    refine ⟨dd.typeIs,fun b q=>?_,hd⟩
    cases q
    obtain ⟨ob,_,_,h1,h2,_⟩:=dd
    exact ⟨ob,h1,h2.2.1⟩
section
variable {X:Cx} {pins:List (Addr × Obj)} {σ:St} {H:Hp} {s:Shared} {a:Addr} {y d:V} {u r:Value} {o:Option V} {A:Around} {E:Value→Shared→Prop}
theorem d_get2 {Q:Value→Shared→Prop} (hu:A.units+1<cLine) (I:Inv X pins σ H s) (g:DGet H a y o) (ry:RelV y u) (rd:RelV d r) (h:∀ w' s',Inv X pins σ H s'→RelV (o.getD d) w'→Q w' s') :
    wpAny (model X.prog X.w) A (call (.builtin "dict.get") [.ref a,u,r]) Q E s:=by
  rcases g with ⟨kvs,k,e,ey,l⟩ | ⟨kvs,k,b,e,ey,eb,l⟩
  · subst ey
    obtain ⟨z,hd,vs,rel,dd⟩:=dk_rd I.hok e
    refine call_meetsIn PySem.F.slot_dict_get dd.typeIs PySem.F.entry_dict_get (PySem.F.args_dict_get_3 _ _ _) (meets_dict_get_default (mixKind X.prog X.w) a (kV_is ry) hd r) ⟨_,dd.mapOf,h _ _ (I.tok _) ?_⟩
    rw [l]
    exact (rel.val k).getD rd
  · subst ey
    cases (show u=Value.ref b from ry)
    obtain ⟨z,hd,xs,rel,dd⟩:=dt_rd I.hok e
    refine call_meetsIn PySem.F.slot_dict_get dd.typeIs PySem.F.entry_dict_get (PySem.F.args_dict_get_3 _ _ _) (meetsH_dict_get_default (tupleKind (mixKind X.prog X.w)) a b hd r) ⟨tupleKind_room_in1 hu,k,xs,key_of I.hok eb,dd,h _ _ (I.tok _) ?_⟩
    rw [l]
    exact (rel.val k).getD rd
end
def tDGet2 (td ty tx:TE):TE:=fun σ H Q=>td σ H fun x H1=>∃ a,x=.ref a∧IsD H1 a∧ty σ H1 fun y H2=>tx σ H2 fun z H3=>∃ o,DGet H3 a y o∧Q (o.getD z) H3
section
variable {X:Cx} {o e f:Expr} {apos cpos:Pos} {td ty tx:TE}
theorem pe_dget2 (hu:X.A.units+1<cLine) (ho:PE X o td) (he:PE X e ty) (hf:PE X f tx) (m:M2 X o "get" apos e f cpos):PE X (.Call (.Attribute o "get" apos) [e,f] [] cpos) (tDGet2 td ty tx):=by
  intro pins s σ H Q I h
  refine wpAny_Call_method m.base m.few m.line PySem.F.plainAttrs_dict PySem.F.slot_dict_get PySem.F.type_dict_get (thn (ho pins s σ H _ I h) fun u s1 ⟨x,H1,I1,rx,a,ex,d,q1⟩=>?_)
  subst ex
  obtain rfl:u=Value.ref a:=rx
  obtain ⟨t1,t2,_⟩:=isD_at I1 d
  refine ⟨t1,t2,?_⟩
  rw [m.trees]
  refine Calls.callWith_builtin rfl (Calls.evalArgs_plain (Calls.spliced_cons (thn (he pins s1 σ H1 _ I1 q1) fun iv s2 ⟨y,H2,I2,ry,q2⟩ =>
    Calls.spliced_cons (thn (hf pins s2 σ H2 _ I2 q2) fun fv s3 ⟨z,H3,I3,rz,ov,g,q3⟩=>Calls.spliced_nil ?_))))
  exact d_get2 hu I3 g ry rz fun w' s4 I4 rw'=>⟨_,H3,I4,rw',q3⟩
end
section
variable {X:Cx} {pins:List (Addr × Obj)} {σ:St} {H:Hp} {s:Shared} {a:Addr} {kvs:List (Key × V)} {A:Around} {E:Value→Shared→Prop}
end
section
variable {X:Cx} {pins:List (Addr × Obj)} {σ:St} {H:Hp} {s:Shared} {a:Addr} {y:V} {u:Value} {A:Around} {E:Value→Shared→Prop}
end
end L2
namespace L2
open PySem PySem.Spec PyProof.Rows
section
variable {κ:Type} [DecidableEq κ]
theorem valV_in {kvs:List (κ × V)} {k:κ} {v:V} (h:valV kvs k=some v):k∈kvs.map (·.1):=by
  have q:(kvs.any fun kv=>decide (kv.1=k))=true:=by
    rw [valV_any,h]
    all_goals rfl
  obtain ⟨p,hp,e⟩:=List.any_eq_true.mp q
  exact List.mem_map.mpr ⟨p,hp,of_decide_eq_true e⟩
end
end L2
set_option Elab.async false
set_option linter.all false
set_option maxRecDepth 100000
namespace L2
open PySem PySem.Spec PyProof.Rows
abbrev bits (i:Int):Nat:=Builtin.Int.intBits i
def CDivB (i j:Int):Prop:=0<j∧bits j≤9000
theorem log_of_bits {j:Int} {n:Nat} (h:bits j≤n) (hn:0<n):j.natAbs.log2<n:=by
  unfold bits Builtin.Int.intBits at h
  by_cases hj:(j == 0)=true
  · have:j=0:=by simpa using hj
    subst this
    exact Nat.lt_of_le_of_lt (by decide +kernel:(0:Int).natAbs.log2≤0) hn
  · rw [if_neg hj] at h
    omega
section
variable {X:Cx}
theorem op_fdivB:OpR X (binaryOp .FloorDiv) (rI CDivB fun i j=>.int (i / j)):=opI fun i j _ _ _ _ _ hc q=>by
  refine floordiv_int (by have:=hc.1; omega) ?_ (.inl (PyProof.noPylong_of_log2 (log_of_bits hc.2 (by decide))))
  rw [Int.fdiv_eq_ediv_of_nonneg i (by have:=hc.1; omega)]
  exact q
theorem op_mulB:OpR X (binaryOp .Mult) (rI IntMulOk fun i j=>.int (i*j)):=opI fun _ _ _ _ _ _ _ hc q=>mul_int q hc
end
mutual
def Rep (H:Hp):PyData→V→Prop
  | .none,v=>v=.non
  | .bool b,v=>v=.bl b
  | .int i,v=>v=.int i
  | .str x,v=>v=.str x
  | .list ds,v=>∃ a xs,v=.ref a∧H a=some (.lst xs)∧RepL H ds xs
  | .tuple ds,v=>∃ a xs,v=.ref a∧H a=some (.tup xs)∧RepL H ds xs
  | .dict kvs,v=>kvs=[]∧∃ a,v=.ref a∧H a=some (.dK [])
def RepL (H:Hp):List PyData→List V→Prop
  | [],vs=>vs=[]
  | d::ds,vs=>∃ x xs,vs=x::xs∧Rep H d x∧RepL H ds xs
end
mutual
theorem Rep.same {H H':Hp} (e:Same H H'):∀ {d:PyData} {v:V},Rep H d v→Rep H' d v
  | .none,_,h=>h
  | .bool _,_,h=>h
  | .int _,_,h=>h
  | .str _,_,h=>h
  | .list ds,_,h=>by
    unfold Rep at h ⊢
    obtain ⟨a,xs,rfl,h1,h2⟩:=h
    exact ⟨a,xs,rfl,e _ _ h1,RepL.same e h2⟩
  | .tuple ds,_,h=>by
    unfold Rep at h ⊢
    obtain ⟨a,xs,rfl,h1,h2⟩:=h
    exact ⟨a,xs,rfl,e _ _ h1,RepL.same e h2⟩
  | .dict kvs,_,h=>by
    unfold Rep at h ⊢
    obtain ⟨h0,a,rfl,h1⟩:=h
    exact ⟨h0,a,rfl,e _ _ h1⟩
theorem RepL.same {H H':Hp} (e:Same H H'):∀ {ds:List PyData} {vs:List V},RepL H ds vs→RepL H' ds vs
  | [],_,h=>h
  | d::ds,_,h=>by
    unfold RepL at h ⊢
    obtain ⟨x,xs,rfl,h1,h2⟩:=h
    exact ⟨x,xs,rfl,Rep.same e h1,RepL.same e h2⟩
end
theorem Rep.tup {H:Hp} {a:Addr} {xs:List V} {ds:List PyData} (h:H a=some (.tup xs)) (r:RepL H ds xs):Rep H (.tuple ds) (.ref a):=by
  unfold Rep; exact ⟨a,xs,rfl,h,r⟩
theorem Rep.lst {H:Hp} {a:Addr} {xs:List V} {ds:List PyData} (h:H a=some (.lst xs)) (r:RepL H ds xs):Rep H (.list ds) (.ref a):=by
  unfold Rep; exact ⟨a,xs,rfl,h,r⟩
theorem Rep.int {H:Hp} (i:Int):Rep H (.int i) (.int i):=by unfold Rep; rfl
theorem Rep.bl {H:Hp} (i:Bool):Rep H (.bool i) (.bl i):=by unfold Rep; rfl
theorem Rep.str {H:Hp} (i:Str):Rep H (.str i) (.str i):=by unfold Rep; rfl
theorem Rep.non {H:Hp}:Rep H .none .non:=by unfold Rep; rfl
theorem RepL.nil {H:Hp}:RepL H [] []:=by unfold RepL; rfl
theorem RepL.cons {H:Hp} {d:PyData} {ds:List PyData} {x:V} {xs:List V} (h:Rep H d x) (hs:RepL H ds xs):RepL H (d::ds) (x::xs):=by
  unfold RepL; exact ⟨x,xs,rfl,h,hs⟩
section
variable {X:Cx} {pins:List (Addr × Obj)} {σ:St} {H:Hp} {s:Shared}
mutual
theorem Rep.reads (I:Inv X pins σ H s):∀ {d:PyData} {v:V} {u:Value},Rep H d v→RelV v u→∃ as,Reads s.heap u d as
  | .none,_,u,h,r=>by
    cases (show _=V.non from h); cases (show u=Value.none from r); exact ⟨_,.none⟩
  | .bool b,_,u,h,r=>by
    cases (show _=V.bl b from h); cases (show u=Value.bool b from r); exact ⟨_,.bool b⟩
  | .int b,_,u,h,r=>by
    cases (show _=V.int b from h); obtain ⟨t,q⟩:=(show ∃ t,u=Value.int b t from r); cases q; exact ⟨_,.int b t⟩
  | .str b,_,u,h,r=>by
    cases (show _=V.str b from h); obtain ⟨t,q⟩:=(show ∃ t,u=Value.str b t from r); cases q; exact ⟨_,.str b t⟩
  | .list ds,v,u,h,r=>by
    unfold Rep at h
    obtain ⟨a,xs,rfl,h1,h2⟩:=h
    cases (show u=Value.ref a from r)
    obtain ⟨_,its,n,r',e⟩:=(show ObjOk X.prog X.w H s.heap a (.lst xs) from I.hok a _ h1)
    obtain ⟨as,q⟩:=RepL.reads I h2 r'
    exact ⟨_,.list e rfl rfl (by simpa using q)⟩
  | .tuple ds,v,u,h,r=>by
    unfold Rep at h
    obtain ⟨a,xs,rfl,h1,h2⟩:=h
    cases (show u=Value.ref a from r)
    obtain ⟨_,its,r',o,e,hc,n,hd⟩:=(show ObjOk X.prog X.w H s.heap a (.tup xs) from I.hok a _ h1)
    obtain ⟨as,q⟩:=RepL.reads I h2 r'
    exact ⟨_,.tuple e hc hd (by simpa using q)⟩
  | .dict kvs,v,u,h,r=>by
    unfold Rep at h
    obtain ⟨rfl,a,rfl,h1⟩:=h
    cases (show u=Value.ref a from r)
    obtain ⟨_,_,vs,kv,o,es,ep,e,hx,hd,_,hes,_⟩:=(show ObjOk X.prog X.w H s.heap a (.dK []) from I.hok a _ h1)
    cases kv
    have he:es.toList=[]:=by
      cases q:es.toList with
      | nil=>rfl
      | cons y ys=>rw [q] at hes; cases hes
    exact ⟨_,.dict e hx.1 hd (by rw [he]; exact .nil) (by rw [he]; exact .nil)⟩
theorem RepL.reads (I:Inv X pins σ H s):∀ {ds:List PyData} {vs:List V} {us:List Value},RepL H ds vs→Vals vs us→∃ as,ReadsAll s.heap us ds as
  | [],_,us,h,r=>by
    cases (show _=[] from h); cases r; exact ⟨_,.nil⟩
  | d::ds,_,us,h,r=>by
    unfold RepL at h
    obtain ⟨x,xs,rfl,h1,h2⟩:=h
    cases r with
    | cons r1 r2 =>
      obtain ⟨as,q1⟩:=Rep.reads I h1 r1
      obtain ⟨bs,q2⟩:=RepL.reads I h2 r2
      exact ⟨_,.cons q1 q2⟩
end
end
section
variable {X:Cx}
theorem call_repr (hg:X.A.guards=some []) (hu:X.A.units+64<cLine):CallR X (.builtin "repr") (fun xs H Q=>∃ x d,xs=[x]∧Rep H d x∧d.showable=true∧d.hasDict=false∧d.depth≤60∧d.shown.length≤sizeLine∧Q (.str d.shown) H):=by
  intro pins s σ H xs us Q I r h
  obtain ⟨x,d,rfl,hr,hs,hnd,hdp,hz,q⟩:=h
  obtain ⟨u,rfl,ru⟩:=vals1 r
  obtain ⟨as,rd⟩:=hr.reads I ru
  cases rd with
  | none=>exact PySem.P.repr_of_none ⟨.str _,H,I.tok _,⟨_,rfl⟩,q⟩
  | bool b=>exact PySem.P.repr_of_bool ⟨.str _,H,I.tok _,⟨_,rfl⟩,q⟩
  | int i t=>exact PySem.P.repr_of_int (by simpa [PyData.showable] using hs) ⟨.str _,H,I.tok _,⟨_,rfl⟩,q⟩
  | str y t=>exact PySem.P.repr_of_str ⟨.str _,H,I.tok _,⟨_,rfl⟩,q⟩ hz
  | list a1 a2 a3 a4=>exact repr_of_reads' (.list a1 a2 a3 a4) hs (PyData.noDict_hsm hnd) hg (by omega) (fun _ _ e=>e) (fun h' u tk hk=>⟨.str _,H,I.kept hk,⟨_,rfl⟩,q⟩) hz
  | tuple a1 a2 a3 a4=>exact repr_of_reads' (.tuple a1 a2 a3 a4) hs (PyData.noDict_hsm hnd) hg (by omega) (fun _ _ e=>e) (fun h' u tk hk=>⟨.str _,H,I.kept hk,⟨_,rfl⟩,q⟩) hz
  | dict a1 a2 a3 a4 a5=>simp [PyData.hasDict] at hnd
end
def tyD:PyData→String
  | .none => "NoneType"
  | .bool _ => "bool"
  | .int _ => "int"
  | .str _ => "str"
  | .list _ => "list"
  | .tuple _ => "tuple"
  | .dict _ => "dict"
theorem Rep.ty {K:PySem.W.Frag} {H:Hp} {d:PyData} {v:V} (h:Rep H d v):TyOf K H v (.type (tyD d)):=by
  cases d with
  | none=>cases (show v=V.non from h); exact .non
  | bool b=>cases (show v=V.bl b from h); exact .bl b
  | int b=>cases (show v=V.int b from h); exact .int b
  | str b=>cases (show v=V.str b from h); exact .str b
  | list ds=>unfold Rep at h; obtain ⟨a,xs,rfl,h1,h2⟩:=h; exact .lst h1
  | tuple ds=>unfold Rep at h; obtain ⟨a,xs,rfl,h1,h2⟩:=h; exact .tup h1
  | dict ds=>unfold Rep at h; obtain ⟨_,a,rfl,h1⟩:=h; exact .dK h1
def isD (T:String) (d:PyData):Bool:=tyD d == T || (T == "int" && tyD d == "bool")
theorem kit_DT : ∀ T ∈ ["int", "bool", "tuple", "str", "list", "dict"], ∀ S ∈ ["NoneType", "bool", "int", "str", "list", "tuple", "dict"],
      PySem.W.kitOne [] (.type S) (.type T)=some (S == T || (T == "int" && S == "bool")):=by decide +kernel
theorem kit_noK (K:PySem.W.Frag) (S T:String):PySem.W.kitOne K (.type S) (.type T)=PySem.W.kitOne [] (.type S) (.type T):=rfl
theorem kit_D (K:PySem.W.Frag) (d:PyData) (T:String) (hT:T = "int" ∨ T = "bool" ∨ T = "tuple" ∨ T = "str" ∨ T = "list" ∨ T = "dict"):PySem.W.kitOne K (.type (tyD d)) (.type T)=some (isD T d):=by
  rw [kit_noK]
  refine kit_DT T ?_ (tyD d) ?_
  · rcases hT with rfl | rfl | rfl | rfl | rfl | rfl <;> decide
  · cases d <;> simp [tyD]
section
variable {X:Cx}
theorem call_isinst:CallR X (.builtin "isinstance") (fun xs H Q=>∃ x d T,xs=[x,.ty T]∧Rep H d x∧(T = "int" ∨ T = "bool" ∨ T = "tuple" ∨ T = "str" ∨ T = "list" ∨ T = "dict")∧Q (.bl (isD T d)) H):=by
  intro pins s σ H xs us Q I r h
  obtain ⟨x,d,T,rfl,hr,hT,q⟩:=h
  obtain ⟨u,w',rfl,r1,r2⟩:=vals2 r
  cases (show w'=Value.type T from r2)
  exact isinst_ok I r1 hr.ty (kit_D _ d T hT) fun tk=>⟨.bl _,H,I.tok _,rfl,q⟩
end
end L2
namespace L2
open PySem PySem.Spec PyProof.Rows
structure FnC (CX:CXT) (P:Program) (w:World) (K:PySem.W.Frag) (mg:Str→Option Value) (base:Heap) (k:Nat) (x:Str) (ps:List Str) (sp:Sp):Prop where
  ex:∃ (f:Addr) (fd:FuncData),FnOk P w K mg base CX k f fd ps sp∧mg x=some (.ref f)∧PySem.W.keepIn K (.ref f)=true∧Binds K fd ps []
section
variable {X:Cx} {k:Nat} {ps:List Str} {sp:Sp} {x:Str} {p pos:Pos} {e:Expr} {es:List Expr} {t:TA}
theorem pe_fn (F:FnC CX0 X.prog X.w X.K X.mg X.base k x ps sp) (hr:Room k X.A) (ha:PA X (e::es) t) (hg:Gl X x:=by rfl)
    (hdb:(x == ("__debug__" : Str))=false:=by decide) (he:starEach (e::es) X.env=(false,eval e X.env)::starEach es X.env:=by rfl) (hpl:(backTo pos (starEach es X.env)).any (·.1)=false:=by rfl) :
    PE X (.Call (.Name x p) (e::es) [] pos) (tCall sp [] E0 t):=by
  obtain ⟨f,fd,h1,h2,h3,h4⟩:=F.ex
  exact pe_call h1 hr hg h2 h3 h4 .nil pass0 ha hdb he hpl
end
section
variable {K:PySem.W.Frag} {H:Hp} {p:Addr} {xs:List V} {i:Int} {v:V} {Q:VK}
theorem ixL (h:H p=some (.lst xs)) (e:atI xs i=some v) (q:Q v H):rIx K (.ref p) (.int i) H Q:=.inl ⟨p,xs,i,v,rfl,rfl,SqL.of h,e,q⟩
theorem ixT (h:H p=some (.tup xs)) (e:atI xs i=some v) (q:Q v H):rIx K (.ref p) (.int i) H Q:=.inr (.inl ⟨p,xs,i,v,rfl,rfl,SqT.of h,e,q⟩)
theorem stL {u:V} {Q:Hp→Prop} {j:Nat} (h:H p=some (.lst xs)) (e:ixN xs.length i=some j) (q:Q (upd H p (.lst (xs.set j u)))):rSetL (.ref p) (.int i) u H Q:=⟨p,xs,i,j,rfl,rfl,h,e,q⟩
end
def Hide (p:Addr) (H:Hp):Hp:=fun b=>if b=p then none else H b
theorem Hide.at {p b:Addr} {H:Hp} (h:b≠p):Hide p H b=H b:=by unfold Hide; rw [if_neg h]
theorem Hide.self {p:Addr} {H:Hp}:Hide p H p=none:=by unfold Hide; rw [if_pos rfl]
theorem Hide.same {p:Addr} {H:Hp}:Same (Hide p H) H:=fun b o h=>by
  unfold Hide at h
  by_cases e:b=p
  · rw [if_pos e] at h; cases h
  · rw [if_neg e] at h; exact h
theorem Hide.ne {p b:Addr} {H:Hp} {o:HO} (h:Hide p H b=some o):b≠p:=fun e=>by
  subst e; rw [Hide.self] at h; cases h
theorem Hide.of {p b:Addr} {H:Hp} {o:HO} (n:b≠p) (h:H b=some o):Hide p H b=some o:=by rw [Hide.at n]; exact h
theorem Hide.upd_self {p:Addr} {H:Hp} {o:HO}:Hide p (upd H p o)=Hide p H:=by
  funext b
  by_cases e:b=p
  · subst e; rw [Hide.self,Hide.self]
  · rw [Hide.at e,Hide.at e,L2.upd_ne e]
abbrev SameBut (p:Addr) (H H':Hp):Prop:=Same (Hide p H) (Hide p H')
theorem Same.but {p:Addr} {H H':Hp} (h:Same H H'):SameBut p H H':=fun b o e=>by
  have n:=Hide.ne e
  exact Hide.of n (h _ _ (Hide.same _ _ e))
theorem Same.upd {H:Hp} {q:Addr} {o:HO} (h:H q=none):Same H (upd H q o):=fun b u e=>by
  rw [L2.upd_ne (ne_of_none e h)]; exact e
theorem SameBut.self {p:Addr} {H:Hp} {o:HO}:SameBut p H (upd H p o):=by unfold SameBut; rw [Hide.upd_self]; exact Same.refl _
theorem SameBut.free {p q:Addr} {H H':Hp} (e:SameBut p H H') (hp:∃ o,H' p=some o) (h:H' q=none):H q=none:=by
  cases k:H q with
  | none=>rfl
  | some o =>
    by_cases n:q=p
    · subst n; obtain ⟨o',h'⟩:=hp; rw [h'] at h; cases h
    · have:=Hide.same _ _ (e q o (Hide.of n k)); rw [this] at h; cases h
end L2
namespace L2
open PySem PySem.Spec PyProof.Rows
section
variable {K:PySem.W.Frag} {H:Hp} {p:Addr} {xs:List V} {i:Int} {v:V} {Q:VK}
theorem stG {u:V} {Q:Hp→Prop} {j:Nat} (h:H p=some (.lst xs)) (e:ixN xs.length i=some j) (k:∀ H',H' p=some (.lst (xs.set j u))→SameBut p H H'→Q H'):rSetL (.ref p) (.int i) u H Q :=
  stL h e (k _ upd_same SameBut.self)
theorem alT {Q:V→Hp→Prop} (hz:xs.length≤sizeLine) (k:∀ q H',H q=none→H' q=some (.tup xs)→Same H H'→Q (.ref q) H'):xs.length≤sizeLine∧∀ p,H p=none→Q (.ref p) (upd H p (.tup xs)) :=
  ⟨hz,fun q hq=>k q _ hq upd_same (Same.upd hq)⟩
theorem alL {Q:V→Hp→Prop} (hz:xs.length≤sizeLine) (k:∀ q H',H q=none→H' q=some (.lst xs)→Same H H'→Q (.ref q) H'):xs.length≤sizeLine∧∀ p,H p=none→Q (.ref p) (upd H p (.lst xs)) :=
  ⟨hz,fun q hq=>k q _ hq upd_same (Same.upd hq)⟩
theorem SameBut.at {p b:Addr} {H H':Hp} {o:HO} (s:SameBut p H H') (n:b≠p) (h:H b=some o):H' b=some o:=Hide.same _ _ (s _ _ (Hide.of n h))
end
theorem small64 {n:Nat} (h:n≤64):n≤sizeLine:=Nat.le_trans h (by decide)
theorem iteD {c A B:Prop} [Decidable c] (h1:c→A) (h2:¬ c→B):if decide c=true then A else B :=
  ite2 (fun h=>h1 (of_decide_eq_true h)) (fun h=>h2 (fun k=>h (decide_eq_true k)))
theorem iteDN {c A B:Prop} [Decidable c] (h1:¬ c→A) (h2:c→B):if (!decide c)=true then A else B :=
  ite2 (fun h=>h1 (fun k=>by rw [decide_eq_true k] at h; exact absurd h (by decide))) (fun h=>h2 (Decidable.of_not_not fun k=>h (by rw [decide_eq_false k]; rfl)))
end L2
namespace L2
open PySem PySem.Spec PyProof.Rows
def tMono (c:TT):TT:=fun σ H Q=>∃ Q':Bool→Hp→Prop,c σ H Q'∧∀ b H1,Q' b H1→Q b H1
theorem PT.mono {X:Cx} {e:Expr} {c:TT} (h:PT X e c):PT X e (tMono c):=fun pins s σ H Q I ⟨Q',h1,h2⟩ =>
  thn (h pins s σ H Q' I h1) fun b s' ⟨H',I',q⟩=>⟨H',I',h2 _ _ q⟩
theorem ps_whileM {X:Cx} {pos:Pos} {c:Expr} {body:List Stmt} {tc:TT} {tb:TS} (hp:PassesOwn (model X.prog X.w) X.A X.env X.xe) (hc:PT X c tc) (hb:PSs X body tb):PS X (.While c body [] pos) (tWhile (tMono tc) tb) :=
  ps_while hp hc.mono hb
end L2
namespace L2
open PySem PySem.Spec PyProof.Rows
@[irreducible] def rLen (K:PySem.W.Frag):List V→Hp→VK→Prop:=fun xs H Q=>∃ x n,xs=[x]∧LenV K x H n∧Q (.int n) H
@[irreducible] def rAbs:List V→Hp→VK→Prop:=fun xs H Q=>∃ i,xs=[.int i]∧Q (.int (i.natAbs:Int)) H
@[irreducible] def rIsi:List V→Hp→VK→Prop:=fun xs H Q=>∃ x d T,xs=[x,.ty T]∧Rep H d x∧(T = "int" ∨ T = "bool" ∨ T = "tuple" ∨ T = "str" ∨ T = "list" ∨ T = "dict")∧Q (.bl (isD T d)) H
@[irreducible] def rRepr:List V→Hp→VK→Prop:=fun xs H Q=>∃ x d,xs=[x]∧Rep H d x∧d.showable=true∧d.hasDict=false∧d.depth≤60∧d.shown.length≤sizeLine∧Q (.str d.shown) H
section
variable {X:Cx} {K:PySem.W.Frag} {H:Hp} {p:Addr} {xs:List V} {Q:VK}
theorem cl_len:CallR X (.builtin "len") (rLen X.K):=by unfold rLen; exact call_len
theorem cl_abs:CallR X (.builtin "abs") rAbs:=by
  unfold rAbs
  exact fun pins s σ H xs us Q I r ⟨i,e,q⟩=>call_abs pins s σ H xs us Q I r ⟨i,e,by
  have:(if i<0 then -i else i)=(i.natAbs:Int):=by split <;> omega
  rw [this]; exact q⟩
theorem cl_isi:CallR X (.builtin "isinstance") rIsi:=by unfold rIsi; exact call_isinst
theorem cl_repr (hg:X.A.guards=some []) (hu:X.A.units+64<cLine):CallR X (.builtin "repr") rRepr:=by unfold rRepr; exact call_repr hg hu
theorem rlL (h:H p=some (.lst xs)) (q:Q (.int xs.length) H):rLen K [V.ref p] H Q:=by unfold rLen; exact ⟨_,_,rfl,.inl ⟨xs,SqL.of h,rfl⟩,q⟩
theorem rlT (h:H p=some (.tup xs)) (q:Q (.int xs.length) H):rLen K [V.ref p] H Q:=by unfold rLen; exact ⟨_,_,rfl,.inr ⟨xs,SqT.of h,rfl⟩,q⟩
theorem raI {i:Int} (q:Q (.int (i.natAbs:Int)) H):rAbs [V.int i] H Q:=by unfold rAbs; exact ⟨i,rfl,q⟩
theorem rrI {x:V} {d:PyData} (r:Rep H d x) (h1:d.showable=true) (h2:d.hasDict=false) (h3:d.depth≤60) (h4:d.shown.length≤sizeLine) (q:Q (.str d.shown) H):rRepr [x] H Q:=by unfold rRepr; exact ⟨x,d,rfl,r,h1,h2,h3,h4,q⟩
theorem riI {x:V} {d:PyData} {T:String} (r:Rep H d x) (q:Q (.bl (isD T d)) H) (hT:(T = "int" ∨ T = "bool" ∨ T = "tuple" ∨ T = "str" ∨ T = "list" ∨ T = "dict"):=by decide):rIsi [x,.ty T] H Q:=by unfold rIsi; exact ⟨x,d,T,rfl,r,hT,q⟩
end
end L2
namespace L2
open PySem PySem.Spec PyProof.Rows
theorem while_r {c:TT} {tb:TS} {D:Ends} {σ:St} {H:Hp} (W:Nat→St→Hp→Prop) (R:St→Hp→Prop) (m:Nat) (h0:W m σ H)
    (hs:∀ m σ H,W m σ H→c σ H fun b H1=>if b=true then tb { D with nx:=fun σ' H'=>∃ m',m' < m∧W m' σ' H',ct:=fun σ' H'=>∃ m',m' < m∧W m' σ' H',bk:=D.nx } σ H1 else R σ H1)
    (hd:∀ σ H,R σ H→D.nx σ H):tWhile (tMono c) tb D σ H :=
  ⟨W,⟨m,h0⟩,fun m σ H hw=>⟨_,hs m σ H hw,fun b H1 q=>by
    by_cases hb:b=true
    · rw [if_pos hb] at q ⊢
      exact ⟨_,fun _ _ h=>h,q⟩
    · rw [if_neg hb] at q ⊢
      exact hd _ _ q⟩⟩
end L2
namespace L2
open PySem PySem.Spec PyProof.Rows
def tCut (t:TS):TS:=fun D σ H=>∃ R:St→Hp→Prop,(∀ σ' H',R σ' H'→D.nx σ' H')∧t { D with nx:=R } σ H
theorem ps_cut {X:Cx} {st:Stmt} {t:TS} (h:PS X st t):PS X st (tCut t):=fun pins s σ H D I ⟨R,hR,q⟩ =>
  thn (h pins s σ H _ I q) fun f s' z=>by
    cases f with
    | next=>obtain ⟨σ',H',I',r⟩:=z; exact ⟨σ',H',I',hR _ _ r⟩
    | brk=>exact z
    | cont=>exact z
    | ret u=>exact z
end L2
namespace L2
open PySem PySem.Spec PyProof.Rows
section
variable {es:List Expr} {env:Env}
theorem se_BinOp {a b c d}:starEach (.BinOp a b c d::es) env=(false,eval (.BinOp a b c d) env)::starEach es env:=by rw [starEach] <;> (intros; contradiction)
theorem se_UnaryOp {a b c}:starEach (.UnaryOp a b c::es) env=(false,eval (.UnaryOp a b c) env)::starEach es env:=by rw [starEach] <;> (intros; contradiction)
theorem se_IfExp {a b c d}:starEach (.IfExp a b c d::es) env=(false,eval (.IfExp a b c d) env)::starEach es env:=by rw [starEach] <;> (intros; contradiction)
theorem se_ListComp {a b c d}:starEach (.ListComp a b c d::es) env=(false,eval (.ListComp a b c d) env)::starEach es env:=by rw [starEach] <;> (intros; contradiction)
theorem se_Compare {a b c d}:starEach (.Compare a b c d::es) env=(false,eval (.Compare a b c d) env)::starEach es env:=by rw [starEach] <;> (intros; contradiction)
theorem se_Call {a b c d}:starEach (.Call a b c d::es) env=(false,eval (.Call a b c d) env)::starEach es env:=by rw [starEach] <;> (intros; contradiction)
theorem se_Constant {a b c}:starEach (.Constant a b c::es) env=(false,eval (.Constant a b c) env)::starEach es env:=by rw [starEach] <;> (intros; contradiction)
theorem se_Attribute {a b c}:starEach (.Attribute a b c::es) env=(false,eval (.Attribute a b c) env)::starEach es env:=by rw [starEach] <;> (intros; contradiction)
theorem se_Subscript {a b c}:starEach (.Subscript a b c::es) env=(false,eval (.Subscript a b c) env)::starEach es env:=by rw [starEach] <;> (intros; contradiction)
theorem se_Name {a b}:starEach (.Name a b::es) env=(false,eval (.Name a b) env)::starEach es env:=by rw [starEach] <;> (intros; contradiction)
theorem se_List {a b}:starEach (.List a b::es) env=(false,eval (.List a b) env)::starEach es env:=by rw [starEach] <;> (intros; contradiction)
theorem se_Tuple {a b c}:starEach (.Tuple a b c::es) env=(false,eval (.Tuple a b c) env)::starEach es env:=by rw [starEach] <;> (intros; contradiction)
end
section
variable {X:Cx} {k:Nat} {ps:List Str} {sp:Sp} {x:Str} {p pos:Pos} {e:Expr} {es:List Expr} {te:TE} {t:TA} {id T:String} {r:List V→Hp→VK→Prop}
theorem ap_nil {env:Env}:(backTo pos (starEach [] env)).any (·.1)=false:=rfl
theorem ap_cons {env:Env} (hs:starEach (e::es) env=(false,eval e env)::starEach es env) (h:(backTo pos (starEach es env)).any (·.1)=false):(backTo pos (starEach (e::es) env)).any (·.1)=false:=by
  rw [hs]
  show (false || (backTo pos (starEach es env)).any (·.1))=false
  rw [h]; rfl
end
end L2
set_option Elab.async false
set_option linter.all false
set_option maxRecDepth 100000
namespace L2
open PySem PySem.Spec PyProof.Rows
structure PEw (X:Cx) (e:Expr) (t:TE):Prop where p:PE X e t
structure PTw (X:Cx) (e:Expr) (t:TT):Prop where p:PT X e t
structure PWw (X:Cx) (e:Expr) (t:TT):Prop where p:PW X e t
structure PAw (X:Cx) (es:List Expr) (t:TA):Prop where p:PA X es t
structure PSw (X:Cx) (st:Stmt) (t:TS):Prop where p:PS X st t
structure PSsw (X:Cx) (st:List Stmt) (t:TS):Prop where p:PSs X st t
structure PGw (X:Cx) (e:Expr) (t:TG):Prop where p:PG X e t
structure PGsw (X:Cx) (es:List Expr) (t:TGs):Prop where p:PGs X es t
structure PIw (X:Cx) (tg iter:Expr) (t:TI):Prop where p:PI X tg iter t
structure POw (X:Cx) (e:Option Expr) (t:TO):Prop where p:PO X e t
@[irreducible] def rNewT (xs:List V) (H:Hp) (Q:VK):Prop:=xs.length≤sizeLine∧∀ p,H p=none→Q (.ref p) (upd H p (.tup xs))
@[irreducible] def rNewL (xs:List V) (H:Hp) (Q:VK):Prop:=xs.length≤sizeLine∧∀ p,H p=none→Q (.ref p) (upd H p (.lst xs))
theorem nwT {xs:List V} {H:Hp} {Q:VK} (hz:xs.length≤64) (k:∀ q H',H q=none→H' q=some (.tup xs)→Same H H'→Q (.ref q) H'):rNewT xs H Q:=by unfold rNewT; exact alT (small64 hz) k
theorem nwL {xs:List V} {H:Hp} {Q:VK} (hz:xs.length≤64) (k:∀ q H',H q=none→H' q=some (.lst xs)→Same H H'→Q (.ref q) H'):rNewL xs H Q:=by unfold rNewL; exact alL (small64 hz) k
def tTu (t:TA):TE:=fun σ H Q=>t σ H fun xs H1=>rNewT xs H1 Q
def tLs (t:TA):TE:=fun σ H Q=>t σ H fun xs H1=>rNewL xs H1 Q
theorem oSeq {ts us:TS} {D:Ends} {σ:St} {H:Hp} (h:ts { D with nx:=us D } σ H):tSeq ts us D σ H:=h
theorem oAsg {te:TE} {g:TG} {D:Ends} {σ:St} {H:Hp} (h:te σ H fun x H1=>g x σ H1 D.nx):tAsg te g D σ H:=h
section
variable {X:Cx} {a b c e o tg:Expr} {es rest:List Expr} {ta tb tc te to:TE} {tA tB':TT} {t:TA} {pos p p2:Pos} {st:Stmt} {sts body orelse:List Stmt} {ts us:TS} {x:Str} {r r':R2} {id T:String} {rl:List V→Hp→VK→Prop} {k i j:Nat} {ps:List Str} {sp:Sp} {n:Nat}
theorem we_v (i:Nat) {x:Str} {pos:Pos} (hN:X.N[i]?=some x:=by rfl) (hv:Vis X.env.scope x:=by first | exact Or.inl rfl | exact Or.inr (Or.inl rfl) | exact Or.inr (Or.inr rfl)) (hd:(x == ("__debug__" : Str))=false:=by decide)
    (hcd:(x == ("__classdict__" : Str))=false:=by decide):PEw X (.Name x pos) (tVar i):=⟨pv i hN hv hd hcd⟩
theorem we_int {i j pos}:PEw X (.Constant (.int i) j pos) (tC (.int i)):=⟨pe_int⟩
theorem we_bl {b j pos}:PEw X (.Constant (.bool b) j pos) (tC (.bl b)):=⟨pe_bl⟩
theorem we_non {j pos}:PEw X (.Constant .none j pos) (tC .non):=⟨pe_non⟩
theorem we_str {x j pos}:PEw X (.Constant (.str x) j pos) (tC (.str x)):=⟨pe_str⟩
theorem we_glob {v:V} {u:Value} (hg:Gl X x) (hm:X.mg x=some u) (r:RelV v u) (hd:(x == ("__debug__" : Str))=false:=by decide):PEw X (.Name x pos) (tC v):=⟨pe_glob hg hm r hd⟩
theorem we_bltn {v:V} {u:Value} (hg:Gl X x) (hm:X.mg x=none) (hv:bootBuiltins x=some u) (r:RelV v u) (hn:x ≠ "__name__" := by decide) (hd:(x == ("__debug__" : Str))=false:=by decide):PEw X (.Name x pos) (tC v):=⟨pe_bltn hg hm hv r hn hd⟩
theorem we_op {op:Operator} (ho:OpR X (binaryOp op) r) (ha:PEw X a ta) (hb:PEw X b tb):PEw X (.BinOp a op b pos) (tOp r ta tb):=⟨pe_op ho ha.p hb.p⟩
theorem we_un {op:UnaryOp} {r:V→Hp→VK→Prop} (ho:UnR X (unaryOp op) r) (ha:PEw X a ta):PEw X (.UnaryOp op a pos) (tUn r ta):=⟨pe_un ho ha.p⟩
theorem we_cmp {op:CmpOp} (ho:OpR X (compareOp op) r) (ha:PEw X a ta) (hb:PEw X b tb) (hm:behindInMarks op b=false):PEw X (.Compare a [op] [b] pos) (tOp r ta tb):=⟨pe_cmpR ho ha.p hb.p hm⟩
theorem wt_cmp {op:CmpOp} (ho:OpR X (compareOp op) r) (ha:PEw X a ta) (hb:PEw X b tb) (hm:behindInMarks op b=false):PTw X (.Compare a [op] [b] pos) (tTest (tOp r ta tb)):=⟨pt_cmpR ho ha.p hb.p hm⟩
theorem we_chain {op op':CmpOp} (ho:OpR X (compareOp op) r) (ho':OpR X (compareOp op') r') (ha:PEw X a ta) (hb:PEw X b tb) (hc:PEw X c tc)
    (hm:lastMarks [op,op'] [b,c]=false:=by with_unfolding_all rfl):PEw X (.Compare a [op,op'] [b,c] pos) (tChain r r' ta tb tc):=⟨pe_chain ho ho' ha.p hb.p hc.p hm⟩
theorem wt_val (h:PEw X e te) (he:∀ whole,isTrue e X.env whole=(do let v ← whole; standAt e.pos; holding [v] (truthy v)):=by intro _; rfl):PTw X e (tB te):=⟨pt_val h.p he⟩
theorem ww_and1 (ha:PTw X a tA):PWw X (.BoolOp .And [a] pos) tA:=⟨pw_and1 ha.p⟩
theorem ww_or1 (ha:PTw X a tA):PWw X (.BoolOp .Or [a] pos) tA:=⟨pw_or1 ha.p⟩
theorem ww_and (ha:PTw X a tA) (hb:PWw X (.BoolOp .And (b::rest) pos) tB'):PWw X (.BoolOp .And (a::b::rest) pos) (tAnd tA tB'):=⟨pw_and ha.p hb.p⟩
theorem ww_or (ha:PTw X a tA) (hb:PWw X (.BoolOp .Or (b::rest) pos) tB'):PWw X (.BoolOp .Or (a::b::rest) pos) (tOr tA tB'):=⟨pw_or ha.p hb.p⟩
theorem wt_w (h:PWw X e tA):PTw X e tA:=⟨h.p.pt⟩
theorem wt_not (ha:PTw X a tA):PTw X (.UnaryOp .Not a pos) (tNot tA):=⟨pt_not ha.p⟩
theorem we_one {op} (h:PEw X a ta):PEw X (.BoolOp op [a] pos) ta:=⟨pe_one h.p⟩
theorem we_and (ha:PEw X a ta) (hb:PEw X (.BoolOp .And (b::rest) pos) tb):PEw X (.BoolOp .And (a::b::rest) pos) (tAndV ta tb):=⟨pe_and ha.p hb.p⟩
theorem we_not (ha:PEw X a ta):PEw X (.UnaryOp .Not a pos) (tNotV ta):=⟨pe_not ha.p⟩
theorem we_ifExp (hc:PTw X c tA) (ha:PEw X a ta) (hb:PEw X b tb):PEw X (.IfExp c a b pos) (tIf tA ta tb):=⟨pe_ifExp hc.p ha.p hb.p⟩
theorem wa_nil:PAw X [] tNil:=⟨pa_nil⟩
theorem wa_k (ha:PEw X e te) (hr:PAw X es t) (hs:starEach (e::es) X.env=(false,eval e X.env)::starEach es X.env:=by first | exact se_Name | exact se_Constant | exact se_BoolOp | exact se_BinOp | exact se_UnaryOp | exact se_IfExp | exact se_Dict | exact se_ListComp | exact se_Compare | exact se_Call | exact se_Attribute | exact se_Subscript | exact se_List | exact se_Tuple | exact se_JoinedStr | exact se_GeneratorExp):PAw X (e::es) (tCons te t):=⟨pa_cons ha.p hr.p hs⟩
theorem we_tup {x1} (h:PAw X es t):PEw X (.Tuple es x1 pos) (tTu t):=⟨by unfold tTu rNewT; exact pe_tup h.p⟩
theorem we_lst (h:PAw X es t):PEw X (.List es pos) (tLs t):=⟨by unfold tLs rNewL; exact pe_lst h.p⟩
theorem we_ix (hr:IxR X r) (ha:PEw X a ta) (hb:PEw X b tb) (hs:PlainIx b):PEw X (.Subscript a b pos) (tOp r ta tb):=⟨pe_ix hr ha.p hb.p hs⟩
theorem wo_none:POw X none tNoPart:=⟨po_none⟩
theorem wo_some (h:PEw X e te):POw X (some e) (tPart te):=⟨po_some h.p⟩
theorem we_slice {lo hi:Option Expr} {tl th:TO} {r:V→Option Int→Option Int→Hp→VK→Prop} (hr:SlR X r) (he:PEw X e te) (hl:POw X lo tl) (hu:POw X hi th):PEw X (.Subscript e (.Slice lo hi none p2) pos) (tSl r te tl th):=⟨pe_slice hr he.p hl.p hu.p⟩
theorem we_fn (F:FnC CX0 X.prog X.w X.K X.mg X.base k x ps sp) (hr:Room k X.A) (ha:PAw X (e::es) t) (hg:Gl X x:=by rfl)
    (hdb:(x == ("__debug__" : Str))=false:=by decide) (he:starEach (e::es) X.env=(false,eval e X.env)::starEach es X.env:=by first | exact se_Name | exact se_Constant | exact se_BoolOp | exact se_BinOp | exact se_UnaryOp | exact se_IfExp | exact se_Dict | exact se_ListComp | exact se_Compare | exact se_Call | exact se_Attribute | exact se_Subscript | exact se_List | exact se_Tuple | exact se_JoinedStr | exact se_GeneratorExp)
    (hpl:(backTo pos (starEach es X.env)).any (·.1)=false:=by repeat (first | exact ap_nil | refine ap_cons (by first | exact se_Name | exact se_Constant | exact se_BoolOp | exact se_BinOp | exact se_UnaryOp | exact se_IfExp | exact se_Dict | exact se_ListComp | exact se_Compare | exact se_Call | exact se_Attribute | exact se_Subscript | exact se_List | exact se_Tuple | exact se_JoinedStr | exact se_GeneratorExp) ?_)) :
    PEw X (.Call (.Name x p) (e::es) [] pos) (tCall sp [] E0 t):=⟨pe_fn F hr ha.p hg hdb he hpl⟩
theorem we_cB (hc:CallR X (.builtin id) rl) (hg:Gl X x) (hm:X.mg x=none) (hv:bootBuiltins x=some (.builtin id)) (ha:PAw X (e::es) t) (hn:x ≠ "__name__" := by decide) (hdb:(x == ("__debug__" : Str))=false:=by decide)
    (he:starEach (e::es) X.env=(false,eval e X.env)::starEach es X.env:=by first | exact se_Name | exact se_Constant | exact se_BoolOp | exact se_BinOp | exact se_UnaryOp | exact se_IfExp | exact se_Dict | exact se_ListComp | exact se_Compare | exact se_Call | exact se_Attribute | exact se_Subscript | exact se_List | exact se_Tuple | exact se_JoinedStr | exact se_GeneratorExp) (hpl:(backTo pos (starEach es X.env)).any (·.1)=false:=by repeat (first | exact ap_nil | refine ap_cons (by first | exact se_Name | exact se_Constant | exact se_BoolOp | exact se_BinOp | exact se_UnaryOp | exact se_IfExp | exact se_Dict | exact se_ListComp | exact se_Compare | exact se_Call | exact se_Attribute | exact se_Subscript | exact se_List | exact se_Tuple | exact se_JoinedStr | exact se_GeneratorExp) ?_)):PEw X (.Call (.Name x p) (e::es) [] pos) (tCB rl t) :=
  ⟨pe_callB hc hg hm hv ha.p hn hdb he hpl⟩
theorem we_cT (hc:CallR X (.type T) rl) (hg:Gl X x) (hm:X.mg x=none) (hv:bootBuiltins x=some (.type T)) (ha:PAw X (e::es) t) (hn:x ≠ "__name__" := by decide) (hdb:(x == ("__debug__" : Str))=false:=by decide)
    (he:starEach (e::es) X.env=(false,eval e X.env)::starEach es X.env:=by first | exact se_Name | exact se_Constant | exact se_BoolOp | exact se_BinOp | exact se_UnaryOp | exact se_IfExp | exact se_Dict | exact se_ListComp | exact se_Compare | exact se_Call | exact se_Attribute | exact se_Subscript | exact se_List | exact se_Tuple | exact se_JoinedStr | exact se_GeneratorExp) (hpl:(backTo pos (starEach es X.env)).any (·.1)=false:=by repeat (first | exact ap_nil | refine ap_cons (by first | exact se_Name | exact se_Constant | exact se_BoolOp | exact se_BinOp | exact se_UnaryOp | exact se_IfExp | exact se_Dict | exact se_ListComp | exact se_Compare | exact se_Call | exact se_Attribute | exact se_Subscript | exact se_List | exact se_Tuple | exact se_JoinedStr | exact se_GeneratorExp) ?_)):PEw X (.Call (.Name x p) (e::es) [] pos) (tCB rl t) :=
  ⟨pe_callTy hc hg hm hv ha.p hn hdb he hpl⟩
theorem we_bm {name:Str} {apos cpos:Pos} {r:V→List V→Hp→VK→Prop} (pa:PlainAttrs T) (slot:Slot T name id) (hty:typeOf (.builtin id)=pure (.type "method_descriptor")) (hm:MtR X id r) (ho:PEw X o to) (ha:PAw X (e::es) t)
    (hbase:attributeBase o name X.env (eval o X.env)=eval o X.env:=by rfl)
    (hfew:((backTo cpos (starEach (e::es) X.env)).all (fun x=>!x.1)&&(backToKw cpos (keywordEach [] X.env)).all (fun x=>x.1.isSome)
      && decide ((e::es).length+([]:List Keyword).length+(if ([]:List Keyword).isEmpty then 0 else 1)<30))=true:=by rfl)
    (hline:(apos.endLine == cpos.line)=true:=by rfl) (hs:starEach (e::es) X.env=(false,eval e X.env)::starEach es X.env:=by first | exact se_Name | exact se_Constant | exact se_BoolOp | exact se_BinOp | exact se_UnaryOp | exact se_IfExp | exact se_Dict | exact se_ListComp | exact se_Compare | exact se_Call | exact se_Attribute | exact se_Subscript | exact se_List | exact se_Tuple | exact se_JoinedStr | exact se_GeneratorExp) (hplain:(backTo cpos (starEach es X.env)).any (·.1)=false:=by repeat (first | exact ap_nil | refine ap_cons (by first | exact se_Name | exact se_Constant | exact se_BoolOp | exact se_BinOp | exact se_UnaryOp | exact se_IfExp | exact se_Dict | exact se_ListComp | exact se_Compare | exact se_Call | exact se_Attribute | exact se_Subscript | exact se_List | exact se_Tuple | exact se_JoinedStr | exact se_GeneratorExp) ?_)) :
    PEw X (.Call (.Attribute o name apos) (e::es) [] cpos) (tBM X.K T r to t):=⟨pe_bm pa slot hty hm ho.p ha.p hbase hfew hline hs hplain⟩
theorem we_bm0 {name:Str} {apos cpos:Pos} {r:V→List V→Hp→VK→Prop} (pa:PlainAttrs T) (slot:Slot T name id) (hty:typeOf (.builtin id)=pure (.type "method_descriptor")) (hm:MtR X id r) (ho:PEw X o to)
    (hbase:attributeBase o name X.env (eval o X.env)=eval o X.env:=by rfl) (hline:(apos.endLine == cpos.line)=true:=by rfl):PEw X (.Call (.Attribute o name apos) [] [] cpos) (tBM0 X.K T r to):=⟨pe_bm0 pa slot hty hm ho.p hbase hline⟩
theorem wss_nil:PSsw X [] tNext:=⟨pss_nil⟩
theorem wss_cons (h1:PSw X st ts) (h2:PSsw X sts us):PSsw X (st::sts) (tSeq ts us):=⟨pss_cons h1.p h2.p⟩
theorem wss_one (h1:PSw X st ts):PSsw X [st] ts:=⟨pss_one h1.p⟩
theorem ws_expr (he:PEw X e te) (hs:swapsWith e none pos.line X.env=pure false:=by rfl):PSw X (.Expr e pos) (tDrop te):=⟨ps_expr he.p hs⟩
theorem ws_ret (he:PEw X e te):PSw X (.Return (some e) pos) (tRet te):=⟨ps_ret he.p⟩
theorem ws_if {c:Expr} {a b:List Stmt} (hc:PTw X c tA) (ha:PSsw X a ts) (hb:PSsw X b us):PSw X (.If c a b pos) (tIfS tA ts us):=⟨ps_if hc.p ha.p hb.p⟩
theorem ws_cut (h:PSw X st ts):PSw X st (tCut ts):=⟨ps_cut h.p⟩
theorem wg_name {i:Nat} {x:Str} (hN:X.N.Nodup) (hi:X.N[i]?=some x) (hx:Loc X.env.scope x) (hf:X.fn x=true∨X.env.scope.names.lookup x=some .local:=by first | exact .inl rfl | exact .inr rfl | assumption):PGw X (.Name x pos) (gName i):=⟨pg_name hN hi hx hf⟩
theorem wgs_nil:PGsw X [] gNil:=⟨pgs_nil⟩
theorem wgs_cons {t:TG} {u:TGs} (h1:PGw X e t) (h2:PGsw X es u)
    (hs:(assignEach (e::es) X.env).map (·.2)=assign e X.env::(assignEach es X.env).map (·.2):=by rfl):PGsw X (e::es) (gCons t u):=⟨pgs_cons h1.p h2.p hs⟩
theorem wg_tup {k:Nat} {t:TGs} {n:Nat} (hc:X.calm=true) (h:PGsw X es t)
    (hn:(assignEach es X.env).length=n:=by rfl) (hst:(assignEach es X.env).findIdx? (·.1)=none:=by rfl):PGw X (.Tuple es k pos) (gTup X.K n t):=⟨pg_tup hc h.p hn hst⟩
theorem wg_sub {i:Expr} {ti:TE} {t:TSet} (ho:PEw X o to) (hi:PEw X i ti) (hs:PSet X t)
    (ha:∀ v,assign (.Subscript o i pos) X.env v=(do
      let ov ← holding [v] (eval o X.env)
      let iv ← holding [v,ov] (eval i X.env)
      standAt pos
      holding [v,ov,iv] (setItem ov iv v)
      release [v,ov,iv] []):=by intro _; rfl):PGw X (.Subscript o i pos) (gSub to ti t):=⟨pg_sub ho.p hi.p hs ha⟩
theorem ws_asg {g:TG} (he:PEw X e te) (hg:PGw X tg g) (hs:swapsWithSole [tg] e pos.line X.env=pure false:=by rfl) (hw:swappedStores [tg] e X.env=pure none:=by rfl) (h1:(assignEach [tg] X.env).map (·.2)=[assign tg X.env]:=by rfl):PSw X (.Assign [tg] e pos) (tAsg te g):=⟨ps_asg he.p hg.p hs hw h1⟩
theorem ws_set {i:Nat} {pos':Pos} (hN:X.N.Nodup) (hi:X.N[i]?=some x) (hx:Loc X.env.scope x) (he:PEw X e te) (hs:swapsWith e (some (.Name x pos')) pos.line X.env=pure false:=by rfl) (hf:X.fn x=true∨X.env.scope.names.lookup x=some .local:=by first | exact .inl rfl | exact .inr rfl | assumption) :
    PSw X (.Assign [.Name x pos'] e pos) (tAsg te (gName i)):=⟨ps_set hN hi hx he.p hs hf⟩
theorem ws_par {i j:Nat} {x y:Str} {ta:TA} {px py pt:Pos} {kt k2 pt2} (hc:X.calm=true) (hN:X.N.Nodup) (hi:X.N[i]?=some x) (hj:X.N[j]?=some y) (hij:i≠j)
    (hx:X.env.scope.names.lookup x=some .local) (hy:X.env.scope.names.lookup y=some .local) (ha:PAw X [a,b] ta)
    (hw:swappedStores [.Tuple [.Name x px,.Name y py] kt pt] (.Tuple [a,b] k2 pt2) X.env=pure (some [x,y]))
    (hs:swapsWithSole [.Tuple [.Name x px,.Name y py] kt pt] (.Tuple [a,b] k2 pt2) pos.line X.env=pure false:=by rfl) :
    PSw X (.Assign [.Tuple [.Name x px,.Name y py] kt pt] (.Tuple [a,b] k2 pt2) pos) (tPar i j ta):=⟨ps_par hc hN hi hj hij hx hy ha.p hw hs⟩
theorem ws_while {c:Expr} {tc:TT} {tb:TS} (hp:PassesOwn (model X.prog X.w) X.A X.env X.xe) (hc:PTw X c tc) (hb:PSsw X body tb):PSw X (.While c body [] pos) (tWhile (tMono tc) tb):=⟨ps_whileM hp hc.p hb.p⟩
theorem wi_list {l:Expr} {tl:TE} (hl:PEw X l tl):PIw X tg l (iList X.K tl):=⟨pi_list hl.p⟩
theorem wi_tup {l:Expr} {tl:TE} (hl:PEw X l tl):PIw X tg l (iTup X.K tl):=⟨pi_tup hl.p⟩
theorem wi_range1 {a:Expr} {ta:TA} {p pos:Pos} (hg:Gl X "range") (hm:X.mg "range" = none) (ha:PAw X [a] ta) (hs:starEach [a] X.env=[(false,eval a X.env)]:=by first | exact se_Name | exact se_Constant | exact se_BoolOp | exact se_BinOp | exact se_UnaryOp | exact se_IfExp | exact se_Dict | exact se_ListComp | exact se_Compare | exact se_Call | exact se_Attribute | exact se_Subscript | exact se_List | exact se_Tuple | exact se_JoinedStr | exact se_GeneratorExp):PIw X tg (.Call (.Name "range" p) [a] [] pos) (iRng1 ta):=⟨pi_range1 hg hm ha.p hs⟩
theorem ws_for {iter:Expr} {wi:TI} {g:TG} {tb:TS} {pos:Pos} (hp:PassesOwn (model X.prog X.w) X.A X.env X.xe) (hc:X.calm=true) (hi:PIw X tg iter wi) (hg:PGw X tg g) (hb:PSsw X body tb)
    (hs:∀ x,foldedSetIterable iter X.env x=pure x:=by intro _; rfl):PSw X (.For tg iter body [] pos) (tFor wi g tb):=⟨ps_for hp hc hi.p hg.p hb.p hs⟩
end
theorem Fun.okw {P:Program} {w:World} {K:PySem.W.Frag} {mg:Str→Option Value} {base:Heap} {x qual:Str} {st:Stmt} {f:Addr} {fd:FuncData} {N ps:List Str} {k:Nat} {sp:Sp} (F:Fun K x qual st f fd) (S:FnScope N ps (defScope st)) (len:∀ vs H Q E,sp vs H Q E→vs.length=ps.length)
    (hbody:∀ (cdv:Value) (A:Around) (outer:List Env) (s:Shared) (H:Hp) (vs:List V) (Q:VK) (E:XK),Room k (A.deeper (envOfC qual (defScope st) s.heap.objs.size f cdv))→sp vs H Q E →
      ∃ t,PSsw (cxOf CX0 P w K mg base N qual (defScope st) f cdv A outer s H E).nox (defBody st) t∧t { nx:=fun _ H'=>Q .non H',rt:=Q } (start N vs) H):FnOk P w K mg base CX0 (k+1) f fd ps sp :=
  F.ok S len fun cdv A outer s H vs Q E hr h=>by
    obtain ⟨t,h1,h2⟩:=hbody cdv A outer s H vs Q E hr h
    exact ⟨t,h1.p,h2⟩
end L2
set_option Elab.async false
set_option linter.all false
set_option maxRecDepth 100000
namespace L2
open PySem PySem.Spec PyProof.Rows
theorem gcd_step (a b:Int):Int.gcd b (a % b)=Int.gcd a b:=by
  have h:=Int.gcd_add_mul_right_right b (a % b) (a / b)
  rw [show a % b+a / b*b=a from by have:=Int.emod_add_mul_ediv a b; rw [Int.mul_comm]; exact this] at h
  rw [← h,Int.gcd_comm]
theorem gcd_end {a:Int} (h:0<a):(Int.gcd a 0:Int)=a:=by rw [Int.gcd_zero_right]; omega
def dTup:PyData→Bool | .tuple _=>true | _=>false
def dInt:PyData→Bool | .int _=>true | .bool _=>true | _=>false
def dBool:PyData→Bool | .bool _=>true | _=>false
def dWhole:PyData→Bool | .int _=>true | _=>false
theorem isD_tup (d:PyData):isD "tuple" d=dTup d:=by cases d <;> simp [isD,tyD,dTup]
theorem isD_int (d:PyData):isD "int" d=dInt d:=by cases d <;> simp [isD,tyD,dInt]
theorem isD_bool (d:PyData):isD "bool" d=dBool d:=by cases d <;> simp [isD,tyD,dBool]
section
variable {H:Hp} {x:V} {d:PyData} {Q:VK}
theorem riTup (r:Rep H d x) (q:Q (.bl (dTup d)) H):rIsi [x,.ty "tuple"] H Q:=riI r (by rw [isD_tup]; exact q)
theorem riInt (r:Rep H d x) (q:Q (.bl (dInt d)) H):rIsi [x,.ty "int"] H Q:=riI r (by rw [isD_int]; exact q)
theorem riBool (r:Rep H d x) (q:Q (.bl (dBool d)) H):rIsi [x,.ty "bool"] H Q:=riI r (by rw [isD_bool]; exact q)
end
def MkE (p:Addr) (σ:St) (t:TE) (d:PyData):Prop:=∀ (H:Hp) (Q:VK),(∃ o,H p=some o)→(∀ v H',Same H H'→Rep (Hide p H') d v→Q v H')→t σ H Q
def MkA (p:Addr) (σ:St) (t:TA) (ds:List PyData):Prop:=∀ (H:Hp) (Q:List V→Hp→Prop),(∃ o,H p=some o)→(∀ vs H',Same H H'→RepL (Hide p H') ds vs→Q vs H')→t σ H Q
theorem RepL.len {H:Hp}:∀ {ds:List PyData} {vs:List V},RepL H ds vs→vs.length=ds.length
  | [],_,h=>by cases (show _=[] from h); rfl
  | d::ds,_,h=>by
    unfold RepL at h
    obtain ⟨x,xs,rfl,_,h2⟩:=h
    simp [RepL.len h2]
section
variable {p:Addr} {σ:St} {t:TE} {ta:TA} {d:PyData} {ds:List PyData}
theorem there_same {H H':Hp} (s:Same H H') (h:∃ o,H p=some o):∃ o,H' p=some o:=by obtain ⟨o,h⟩:=h; exact ⟨o,s _ _ h⟩
theorem mk_int {i:Int}:MkE p σ (tC (.int i)) (.int i):=fun H Q _ k=>k _ H (Same.refl H) (Rep.int i)
theorem mk_bl {i:Bool}:MkE p σ (tC (.bl i)) (.bool i):=fun H Q _ k=>k _ H (Same.refl H) (Rep.bl i)
theorem mk_str {i:Str}:MkE p σ (tC (.str i)) (.str i):=fun H Q _ k=>k _ H (Same.refl H) (Rep.str i)
theorem mk_non:MkE p σ (tC .non) .none:=fun H Q _ k=>k _ H (Same.refl H) Rep.non
theorem mk_neg {i:Int}:MkE p σ (tUn (rU fun i=>.int (-i)) (tC (.int i))) (.int (-i)):=fun H Q _ k=>⟨i,rfl,k _ H (Same.refl H) (Rep.int (-i))⟩
theorem mk_pow {i j:Int} (h:CPow i j):MkE p σ (tOp (rI CPow fun i j=>.int (i^j.toNat)) (tC (.int i)) (tC (.int j))) (.int (i^j.toNat)):=fun H Q _ k=>⟨i,j,rfl,rfl,h,k _ H (Same.refl H) (Rep.int _)⟩
theorem mk_varI {i:Nat} {n:Int} (h:σ[i]?=some (some (.int n))):MkE p σ (tVar i) (.int n):=fun H Q _ k=>⟨_,h,k _ H (Same.refl H) (Rep.int n)⟩
theorem mk_nil:MkA p σ tNil []:=fun H Q _ k=>k _ H (Same.refl H) RepL.nil
theorem mk_cons (h:MkE p σ t d) (hs:MkA p σ ta ds):MkA p σ (tCons t ta) (d::ds):=fun H Q hp k =>
  h H _ hp fun v H1 s1 r1=>hs H1 _ (there_same s1 hp) fun vs H2 s2 r2=>k _ H2 (s1.trans s2) (RepL.cons (r1.same s2.but) r2)
theorem mk_tup (h:MkA p σ ta ds) (hz:ds.length≤64):MkE p σ (tTu ta) (.tuple ds):=fun H Q hp k =>
  h H _ hp fun vs H1 s1 r1=>nwT (by rw [r1.len]; exact hz) fun q H2 hq e2 s2=>k _ H2 (s1.trans s2) (by
    have hp1:=there_same s1 hp
    have n:q≠p:=fun e=>by subst e; obtain ⟨o,h⟩:=hp1; rw [h] at hq; cases hq
    exact Rep.tup (Hide.of n e2) (r1.same s2.but))
theorem mk_lst (h:MkA p σ ta ds) (hz:ds.length≤64):MkE p σ (tLs ta) (.list ds):=fun H Q hp k =>
  h H _ hp fun vs H1 s1 r1=>nwL (by rw [r1.len]; exact hz) fun q H2 hq e2 s2=>k _ H2 (s1.trans s2) (by
    have hp1:=there_same s1 hp
    have n:q≠p:=fun e=>by subst e; obtain ⟨o,h⟩:=hp1; rw [h] at hq; cases hq
    exact Rep.lst (Hide.of n e2) (r1.same s2.but))
end
theorem atI_mem {α:Type} {xs:List α} {x:Int} (h0:0≤x) (h1:x<xs.length):∃ v,atI xs x=some v∧v∈xs∧xs[x.toNat]?=some v:=by
  have h:x.toNat<xs.length:=by omega
  have e:=List.getElem?_eq_getElem h
  have:=atI_nat e
  rw [Int.toNat_of_nonneg h0] at this
  exact ⟨_,this,List.getElem_mem h,e⟩
theorem RepL.append {H:Hp} {es:List PyData} {ws:List V} (h':RepL H es ws):∀ {ds:List PyData} {vs:List V},RepL H ds vs→RepL H (ds++es) (vs++ws)
  | [],_,h=>by cases (show _=[] from h); exact h'
  | d::ds,_,h=>by
    unfold RepL at h
    obtain ⟨x,xs,rfl,h1,h2⟩:=h
    exact RepL.cons h1 (RepL.append h' h2)
end L2
namespace L2
end L2
namespace L2
open PySem PySem.Spec PyProof.Rows
theorem MkE.use {p:Addr} {σ:St} {t:TE} {d:PyData} {H:Hp} {Q:VK} (m:MkE p σ t d) (hp:∃ o,H p=some o) (k:∀ v H',Same H H'→Rep (Hide p H') d v→Q v H'):t σ H Q:=m H Q hp k
theorem Same.thru {l:Addr} {H0 H1 H2:Hp} (hl:H0 l=none) (s:Same H0 H1) (b:SameBut l H1 H2):Same H0 H2:=fun c o e=>by
  have n:c≠l:=ne_of_none e hl
  exact b.at n (s _ _ e)
theorem catL {H:Hp} {l b:Addr} {xs zs:List V} {Q:VK} (h1:H l=some (.lst xs)) (h2:H b=some (.lst zs)) (hz:xs.length+zs.length≤1000) (k:∀ q H',H q=none→H' q=some (.lst (xs++zs))→Same H H'→Q (.ref q) H'):rCat (.ref l) (.ref b) H Q :=
  ⟨l,b,xs,zs,rfl,rfl,h1,h2,Nat.le_of_lt (small1000 hz),fun q hq=>k q _ hq upd_same (Same.upd hq)⟩
@[irreducible] def rApp:V→List V→Hp→VK→Prop:=rAppend
theorem mt_app {X:Cx}:MtR X "list.append" rApp:=by unfold rApp; exact mt_append
theorem appL {H:Hp} {l:Addr} {xs:List V} {y:V} {Q:VK} (h:H l=some (.lst xs)) (hz:xs.length≤1000) (k:∀ H',H' l=some (.lst (xs++[y]))→SameBut l H H'→Q .non H'):rApp (.ref l) [y] H Q:=by
  unfold rApp; exact ⟨l,xs,y,rfl,rfl,h,small1000 hz,k _ upd_same SameBut.self⟩
theorem tyL {K:PySem.W.Frag} {H:Hp} {l:Addr} {xs:List V} (h:H l=some (.lst xs)):tyV K "list" (.ref l) H:=.inl ⟨rfl,xs,SqL.of h⟩
end L2
set_option Elab.async false
set_option linter.all false
set_option maxRecDepth 100000
namespace L2
open PySem PySem.Spec PyProof.Rows
def closL (env:Env):List (Str × NameKind)→List (Str × Addr)→List (Str × Addr)
  | [],cs=>cs
  | (n,k)::r,cs=>if k == .free then closL env r ((n,(env.cells.lookup n).getD 0)::cs) else closL env r cs
theorem clos_eq (env:Env):∀ (l:List (Str × NameKind)) (cs:List (Str × Addr)),(∀ y∈l,y.2=.free→∃ c,env.cells.lookup y.1=some c) →
    (forIn l cs fun (x:Str × NameKind) r=>if x.2 == .free then (do let c ← cellOf env x.1; pure (ForInStep.yield ((x.1,c)::r)):Sem _) else pure (ForInStep.yield r))=pure (closL env l cs)
  | [],cs,_=>rfl
  | (n,k)::r,cs,h=>by
    rw [List.forIn_cons]
    have ih:=fun cs=>clos_eq env r cs fun y hy=>h y (List.mem_cons_of_mem _ hy)
    by_cases hk:(k == NameKind.free)=true
    · obtain ⟨c,hc⟩:=h (n,k) List.mem_cons_self (by simpa using hk)
      dsimp only at hc
      simp only [hk,if_true,closL,hc,Option.getD_some,cellOf,pure_bind]
      exact ih _
    · simp only [hk,closL,pure_bind]
      exact ih _
theorem closureFor_eq {env:Env} {scope:Scope} (h:∀ y∈scope.names,y.2=.free→∃ c,env.cells.lookup y.1=some c):closureFor scope env=pure (closL env scope.names []):=by
  have e:=clos_eq env scope.names [] h
  unfold closureFor
  simp only [bind_pure]
  exact e
theorem closL_mem {env:Env}:∀ (l:List (Str × NameKind)) (cs:List (Str × Addr)),(∀ y∈l,y.2=.free→∃ c,env.cells.lookup y.1=some c)→∀ p∈closL env l cs,p∈cs∨env.cells.lookup p.1=some p.2
  | [],cs,_,p,hp=>.inl hp
  | (n,k)::r,cs,h,p,hp=>by
    have h':∀ y∈r,y.2=.free→∃ c,env.cells.lookup y.1=some c:=fun y hy=>h y (List.mem_cons_of_mem _ hy)
    unfold closL at hp
    by_cases hk:(k == NameKind.free)=true
    · rw [if_pos hk] at hp
      obtain ⟨c,hc⟩:=h (n,k) List.mem_cons_self (by simpa using hk)
      rcases closL_mem r _ h' p hp with hm | hm
      · rcases List.mem_cons.mp hm with rfl | hm
        · exact .inr (by dsimp only at hc ⊢; rw [hc]; rfl)
        · exact .inl hm
      · exact .inr hm
    · rw [if_neg hk] at hp
      exact closL_mem r cs h' p hp
theorem closL_acc {env:Env}:∀ (l:List (Str × NameKind)) (cs:List (Str × Addr)),∀ p∈cs,p∈closL env l cs
  | [],_,_,hp=>hp
  | (n,k)::r,cs,p,hp=>by
    unfold closL
    by_cases hk:(k == NameKind.free)=true
    · rw [if_pos hk]; exact closL_acc r _ p (List.mem_cons_of_mem _ hp)
    · rw [if_neg hk]; exact closL_acc r _ p hp
theorem closL_has {env:Env}:∀ (l:List (Str × NameKind)) (cs:List (Str × Addr)) (y:Str),(y,NameKind.free)∈l→∃ a,(y,a)∈closL env l cs
  | (n,k)::r,cs,y,hy=>by
    unfold closL
    rcases List.mem_cons.mp hy with e | hm
    · cases e
      rw [if_pos (by rfl)]
      exact ⟨_,closL_acc r _ _ List.mem_cons_self⟩
    · by_cases hk:(k == NameKind.free)=true
      · rw [if_pos hk]; exact closL_has r _ y hm
      · rw [if_neg hk]; exact closL_has r _ y hm
theorem lookup_mem {α β:Type} [BEq α] [LawfulBEq α] {x:α} {c:β}:∀ {l:List (α × β)},l.lookup x=some c→(x,c)∈l
  | [],h=>by cases h
  | (a,b)::r,h=>by
    rw [List.lookup_cons] at h
    by_cases e:(x == a)=true
    · rw [e] at h
      have:x=a:=by simpa using e
      subst this
      cases h
      exact List.mem_cons_self
    · have e':(x == a)=false:=by simpa using e
      rw [e'] at h
      exact List.mem_cons_of_mem _ (lookup_mem h)
theorem mem_lookup {α β:Type} [BEq α] [LawfulBEq α] {x:α} {c:β}:∀ {l:List (α × β)},(x,c)∈l→∃ c',l.lookup x=some c'
  | (a,b)::r,h=>by
    rw [List.lookup_cons]
    by_cases e:(x == a)=true
    · rw [e]; exact ⟨_,rfl⟩
    · have e':(x == a)=false:=by simpa using e
      rw [e']
      rcases List.mem_cons.mp h with q | q
      · cases q; simp at e
      · exact mem_lookup q
def clOf (X:Cx) (scope:Scope):List (Str × Addr):=closL X.env scope.names []
theorem clOf_env {X:Cx} {scope:Scope} (h:∀ y∈scope.names,y.2=.free→∃ c,X.env.cells.lookup y.1=some c) {x:Str} {c:Addr} (e:(clOf X scope).lookup x=some c):X.env.cells.lookup x=some c:=by
  rcases closL_mem scope.names [] h _ (lookup_mem e) with hm | hm
  · cases hm
  · exact hm
theorem clOf_has {X:Cx} {scope:Scope} (h:∀ y∈scope.names,y.2=.free→∃ c,X.env.cells.lookup y.1=some c) {x:Str} (hx:(x,NameKind.free)∈scope.names) {c:Addr} (e:X.env.cells.lookup x=some c):(clOf X scope).lookup x=some c:=by
  obtain ⟨a,ha⟩:=closL_has (env:=X.env) scope.names [] x hx
  obtain ⟨c',hc'⟩:=mem_lookup ha
  have:=clOf_env h hc'
  rw [e] at this
  cases this
  exact hc'
def cxC (X:Cx) (scope:Scope) (C:Addr) (fp:List Addr) (s₀:Shared) (H₀:Hp) (N':List Str):Cx where
  prog:=X.prog
  w:=X.w
  K:=X.K
  mg:=X.mg
  base:=X.base
  A:=X.A
  N:=N'
  s₀:=s₀
  H₀:=H₀
  env:=compEnvC scope (clOf X scope) C X.env
  outer:=X.stack
  stack:=X.stack
  ex:=fp
  fn:=fun _=>false
  calm:=true
  pn:=[]
  xe:=fun _ _=>False
def slots (σ:St) (js:List Nat):St:=js.map fun j=>(σ[j]?).getD none
def PTs (X:Cx) (ifs:List Expr) (t:TT):Prop :=
  ∀ (pins:List (Addr × Obj)) (s:Shared) (σ:St) (H:Hp) (Q:Bool→Hp→Prop),Inv X pins σ H s→t σ H Q →
    wpAny (model X.prog X.w) X.A (forIn ifs true fun c r=>if r=true then do let ok ← isTrue c X.env (eval c X.env); pure (ForInStep.yield ok) else pure (ForInStep.yield r)) (TP X pins σ Q) X.xe s
def tYes:TT:=fun _ H Q=>Q true H
theorem pts_nil {X:Cx}:PTs X [] tYes:=fun pins s σ H Q I h=>wpAny_tests_nil ⟨H,I,h⟩
theorem pts_one {X:Cx} {c:Expr} {t:TT} (h:PT X c t):PTs X [c] t:=fun pins s σ H Q I q=>wpAny_tests_one (h pins s σ H Q I q)
def tComp (wi:TI) (js:List Nat) (tc:TT) (te:TE):TE:=fun σ H Q=>wi σ H fun J H1=>∀ D,H1 D=none→∃ W:Nat→Nat→List V→Hp→Prop,(∃ m,W 0 m [] (upd H1 D (.lst []))) ∧
  ∀ i m ys H2,W i m ys H2→H2 D=some (.lst ys)∧((J.stop i H2∧Q (.ref D) H2)∨(J.go i H2∧ys.length<sizeLine∧∀ x H3,J.yld i H2 x H3 →
    tc (some x::slots σ js) H3 fun b H4=>if b=true then te (some x::slots σ js) H4 fun y H5=>H5 D=some (.lst ys)∧∃ m',m' < m∧W (i+1) m' (ys++[y]) (upd H5 D (.lst (ys++[y])))
      else H4 D=some (.lst ys)∧∃ m',m' < m∧W (i+1) m' ys H4))
structure CScope (X:Cx) (scope:Scope) (x:Str) (N':List Str) (js:List Nat):Prop where
  calm:X.calm=true
  free:∀ y∈scope.names,y.2=.free→X.env.kindOf y.1=some .cell
  cell:∀ y∈scope.names,y.2 ≠ .cell
  kind:scope.kind=.function
  names:∀ y∈scope.names,y.2=.local→scope.names.lookup y.1=some .local
  own:scope.names.lookup x=some .local
  nofl:∀ y,(y,NameKind.free)∈scope.names→scope.names.lookup y=some .local→False
  len:N'.length=js.length+1
  zero:N'[0]?=some x
  nd:N'.Nodup
  slot:∀ (i:Nat) (j:Nat),js[i]?=some j→∃ y,N'[i+1]?=some y∧X.N[j]?=some y∧(y,NameKind.free)∈scope.names
end L2
set_option Elab.async false
set_option linter.all false
set_option maxRecDepth 100000
namespace L2
open PySem PySem.Spec PyProof.Rows
section
variable {X:Cx} {pins:List (Addr × Obj)} {σ:St} {H:Hp} {s:Shared} {scope:Scope} {x:Str} {N':List Str} {js:List Nat} {fp:List Addr}
theorem CScope.cells (S:CScope X scope x N' js) (ok:X.Ok):∀ y∈scope.names,y.2=.free→∃ c,X.env.cells.lookup y.1=some c:=fun y hy hf=>ok.has _ (.inl (S.free y hy hf))
theorem relabel_cases {env:Env}:∀ {names:List (Str × NameKind)} {y:Str} {k:NameKind},(names.map fun (n,k)=>if (k == NameKind.free&&env.scope.kind == .function&&env.kindOf n == some .cell) then (n,NameKind.cell) else (n,k)).lookup y=some k →
    (k=.cell∨k=.free)→(∀ z∈names,z.2 ≠ .cell)→(y,NameKind.free)∈names
  | [],_,_,h,_,_=>by cases h
  | (n,q)::r,y,k,h,hk,hc=>by
    rw [List.map_cons,List.lookup_cons] at h
    have ih:=fun h=>@relabel_cases env r y k h hk fun z hz=>hc z (List.mem_cons_of_mem _ hz)
    by_cases hq:(q == NameKind.free&&env.scope.kind == .function&&env.kindOf n == some .cell)=true
    · dsimp only at h
      rw [if_pos hq] at h
      have qf:q=.free:=by
        rw [Bool.and_eq_true,Bool.and_eq_true] at hq
        simpa using hq.1.1
      subst qf
      by_cases e:(y == n)=true
      · have:y=n:=by simpa using e
        subst this
        exact List.mem_cons_self
      · have e':(y == n)=false:=by simpa using e
        dsimp only at h
        rw [e'] at h
        exact List.mem_cons_of_mem _ (ih h)
    · dsimp only at h
      rw [if_neg hq] at h
      by_cases e:(y == n)=true
      · have:y=n:=by simpa using e
        subst this
        dsimp only at h
        rw [e] at h
        have hkq:k=q:=by injection h with h; exact h.symm
        subst hkq
        rcases hk with rfl | rfl
        · exact absurd rfl (hc _ List.mem_cons_self)
        · exact List.mem_cons_self
      · have e':(y == n)=false:=by simpa using e
        dsimp only at h
        rw [e'] at h
        exact List.mem_cons_of_mem _ (ih h)
theorem cxC_ok (S:CScope X scope x N' js) (I:Inv X pins σ H s) (hf:∀ b∈fp,FpOk X pins H b) (hb:∀ b∈fp,b<s.heap.objs.size):(cxC X scope s.heap.objs.size fp s H N').Ok where
  mod:=I.ok.mod
  kind:=S.kind
  glob:=I.ok.glob
  blt:=I.ok.blt
  above:=Nat.le_refl _
  inj:=fun y z c h1 h2=>I.ok.inj y z c (clOf_env (S.cells I.ok) h1) (clOf_env (S.cells I.ok) h2)
  has:=fun y hy=>by
    have hm:(y,NameKind.free)∈scope.names:=by
      rcases hy with hy | hy
      · exact relabel_cases (env:=X.env) hy (.inl rfl) S.cell
      · exact relabel_cases (env:=X.env) hy (.inr rfl) S.cell
    obtain ⟨c,hc⟩:=S.cells I.ok _ hm rfl
    exact ⟨c,clOf_has (S.cells I.ok) hm hc⟩
  cab:=fun _ _ h=>by cases h
  hd:=fun _=>I.ok.hd S.calm
  frames:=I.ok.frames
  stk:=.inl rfl
  exf:=fun b hb'=>⟨fun e=>by have:=hb b hb'; rw [e] at this; exact Nat.lt_irrefl _ this,fun y c h=>(hf b hb').2.2.2.2.1 y c (clOf_env (S.cells I.ok) h)⟩
  bs:=I.bs
  bsz:=Nat.le_trans I.ok.bsz I.sz
  noex:=fun b o e hb'=>by
    rcases (hf b hb').2.2.2.1 with h | h
    · exact I.ok.noex b o e h
    · exact absurd (Nat.lt_of_lt_of_le (Heap.lt_size e) (Nat.le_trans I.ok.bsz h)) (Nat.lt_irrefl _)
  exfs:=fun b hb' hs=>by
    have h2:=I.stkSub b hs
    rcases List.mem_cons.mp h2 with h2 | h2
    · exact (hf b hb').2.1 h2
    · exact (hf b hb').2.2.1 h2
  funs:=I.stack
  frf:=I.stkFree
theorem slots_get {i j:Nat} (h:js[i]?=some j):(slots σ js)[i]?=some ((σ[j]?).getD none):=by
  unfold slots; rw [List.getElem?_map,h]; rfl
theorem cxC_inv {h':Heap} {tk:Nat} (S:CScope X scope x N' js) (I:Inv X pins σ H s) (hf:∀ b∈fp,FpOk X pins H b) (hb:∀ b∈fp,b<s.heap.objs.size)
    (hn:h'.Ns s.heap.objs.size (fun _=>none)) (hk:∀ b o,s.heap.get? b=some o→h'.get? b=some o):Inv (cxC X scope s.heap.objs.size fp s H N') [] (none::slots σ js) H { s with heap:=h',toks:=tk } where
  ok:=cxC_ok S I hf hb
  os:=rfl
  bare:=I.bare
  base:=Un.kept hk
  loc:=by
    refine ⟨_,hn,fun i y v hi hv hvis=>?_⟩
    cases i with
    | zero=>cases hv
    | succ i =>
      have hv':(slots σ js)[i]?=some (some v):=hv
      have hlt:i<js.length:=by
        have:=(List.getElem?_eq_some_iff.mp hv').1
        unfold slots at this
        rwa [List.length_map] at this
      have hj:js[i]?=some js[i]:=List.getElem?_eq_getElem hlt
      obtain ⟨z,h1,h2,h3⟩:=S.slot i _ hj
      have hzy:z=y:=by
        have:N'[i+1]?=some y:=hi
        rw [h1] at this; cases this; rfl
      subst hzy
      rw [slots_get hj] at hv'
      have hσ:σ[js[i]]?=some (some v):=by
        cases q:σ[js[i]]? with
        | none=>rw [q] at hv'; cases hv'
        | some o=>rw [q] at hv'; cases hv'; rfl
      have hkc:X.env.kindOf z=some .cell:=S.free _ h3 rfl
      obtain ⟨m,hm,hl⟩:=I.loc
      obtain ⟨u,ru,lk⟩:=hl _ z v h2 hσ (.inr (.inl hkc))
      rcases lk with ⟨hk1,_⟩ | ⟨_,c,hc,hcell⟩
      · rw [hkc] at hk1; cases hk1
      · refine ⟨u,ru,.inr ⟨?_,c,clOf_has (S.cells I.ok) h3 hc,?_⟩⟩
        · rcases hvis with hvis | hvis | hvis
          · exfalso
            have hcl:=clOf_has (S.cells I.ok) h3 hc
            have hm2:=lookup_mem (l:=(relabel scope X.env).names) hvis
            unfold relabel at hm2
            obtain ⟨⟨n,k⟩,hmem,he⟩:=List.mem_map.mp hm2
            dsimp only at he
            by_cases hq:(k == NameKind.free&&X.env.scope.kind == .function&&X.env.kindOf n == some .cell)=true
            · rw [if_pos hq] at he; cases he
            · rw [if_neg hq] at he
              cases he
              have:=S.names _ hmem rfl
              have l2:=mem_lookup h3
              obtain ⟨c',l2⟩:=l2
              dsimp only at this
              rw [this] at l2
              have key:(relabel scope X.env).names.lookup z=some .local:=lookup_relabel_local this
              have hck:scope.names.lookup z=some .local:=this
              exact S.nofl z h3 hck
          · exact .inl hvis
          · exact .inr hvis
        · obtain ⟨o,e,r⟩:=hcell
          exact ⟨o,hk _ _ e,r⟩
  cell:=fun y c h=>by
    obtain ⟨v,o,e,r⟩:=I.cell y c (clOf_env (S.cells I.ok) h)
    exact ⟨v,o,hk _ _ e,r⟩
  free:=I.hok.fresh (Nat.le_refl _)
  freeC:=fun y c h=>I.freeC y c (clOf_env (S.cells I.ok) h)
  pin:=fun p hp=>by cases hp
  hok:=I.hok.kept hk
  len:=by
    show (slots σ js).length+1=N'.length
    unfold slots
    rw [List.length_map,S.len]
theorem HOk.but {P:Program} {w:World} {H:Hp} {h h':Heap} {C:Addr} (x:HOk P w H h) (hC:H C=none) (k:∀ b u,b≠C→h.get? b=some u→h'.get? b=some u):HOk P w H h':=fun a o e =>
  (x a o e).stay (fun b u hb q=>k b u (by
    rcases hb with rfl | hb
    · exact ne_of_none e hC
    · exact ne_of_none hb hC) q) (fun _ q=>q) fun _ _ q=>q
theorem cxC_back {H2:Hp} {σ':St} {s2:Shared} {h'':Heap} (S:CScope X scope x N' js) (I:Inv X pins σ H s) (hf:∀ b∈fp,FpOk X pins H b)
    (J:Inv (cxC X scope s.heap.objs.size fp s H N') [] σ' H2 s2) (hs:Heap.SameBut s.heap.objs.size s2.heap h''):Inv X pins σ H2 { s2 with heap:=h'' }:=by
  have hC:H2 s.heap.objs.size=none:=J.free
  have ne:∀ {b:Addr} {o:Obj},s.heap.get? b=some o→b≠s.heap.objs.size:=fun e q=>by
    have:=Heap.lt_size e; rw [q] at this; exact Nat.lt_irrefl _ this
  refine I.call' (s':={ s2 with heap:=h'' }) (ch:=fp) (by rw [show ({ s2 with heap:=h'' }:Shared).os=s2.os from rfl]; exact J.os) ?_ (J.hok.but hC fun b u hb q=>hs.extBut b u hb q) J.bare fun b hb=>⟨(hf b hb).2.2.2.1,(hf b hb).2.1,(hf b hb).2.2.2.2.1,(hf b hb).2.2.2.2.2⟩
  have U:=J.base
  exact {
    keep:=fun b o e n h1 h2=>hs.extBut b o (ne e) (U.keep b o e n h1 h2)
    slot:=fun b o e n h1 h2=>by
      obtain ⟨sl,q⟩:=U.slot b o e n h1 h2
      exact ⟨sl,hs.extBut b _ (ne e) q⟩
    free:=U.free
    there:=fun b o e h2=>by
      obtain ⟨o',q⟩:=U.there b o e h2
      exact ⟨o',hs.extBut b _ (ne e) q⟩
    tups:=U.tups
    frzs:=U.frzs
    tbls:=U.tbls }
end
end L2
set_option Elab.async false
set_option linter.all false
set_option maxRecDepth 100000
namespace L2
open PySem PySem.Spec PyProof.Rows
abbrev NoX:Value→Shared→Prop:=fun _ _=>False
theorem compLoop_gen {prog:Program} {w:World} {A:Around} {R:Result→Shared→Prop} {s:Shared} {elt target iter:Expr} {ifs:List Expr} {scope:Scope} {pos:Pos} {it acc:Value} {env:Env} (I:Nat→Shared→Prop)
    (turn:∀ n s,I n s→wpAny (model prog w) A (pyNext it) (fun r s₁=>match r with
      | none=>R (.ok .next) s₁
      | some v=>wpAny (model prog w) A (letOwnedTupleGo target it v) (fun _ s₁'=>wpAny (model prog w) A (assign target env v) (fun _ s₂ =>
          wpAny (model prog w) A (forIn ifs true fun c r=>if r=true then do let ok ← isTrue c env (eval c env); pure (ForInStep.yield ok) else pure (ForInStep.yield r)) (fun ok s₃ =>
            if ok=true then wpAny (model prog w) A (eval elt env) (fun x s₄=>wpAny (model prog w) A (call (.builtin "list.append") [acc,x]) (fun _ s₅=>∃ m,m<n∧I m s₅) NoX s₄) NoX s₃
            else ∃ m,m<n∧I m s₃) NoX s₂) NoX s₁') NoX s₁) NoX s)
    (n:Nat) (h:I n s):codeAny (model prog w) A (.compLoop (.ListComp elt [⟨target,iter,ifs,0⟩] scope pos) 0 it acc env) R s:=by
  refine codeAny_loop rfl I (fun n s hI=>?_) n h
  show wpAny _ A ((compTurn (.ListComp elt [⟨target,iter,ifs,0⟩] scope pos) 0 it acc env).onRaise (fun x=>do noteFrame x env; theTreesLotGoes x)) _ _ s
  refine wpAny_noted ?_
  rw [compTurn_list]
  refine wpAny_bind (wpAny_standAt (wpAny_bind (wpAny_mono (turn n s hI) (fun r s₁ h₁=>?_) fun _ _ h'=>h'.elim)))
  cases r with
  | none=>exact wpAny_pure h₁
  | some v =>
    refine wpAny_bind (wpAny_mono h₁ (fun _ s₁' h₁'=>?_) fun _ _ h'=>h'.elim)
    refine wpAny_bind (wpAny_mono h₁' (fun _ s₂ h₂=>wpAny_bind (wpAny_mono h₂ (fun ok s₃ h₃=>?_) fun _ _ h'=>h'.elim)) fun _ _ h'=>h'.elim)
    cases ok with
    | false=>exact wpAny_pure ⟨rfl,h₃⟩
    | true =>
      exact wpAny_bind (wpAny_bind (wpAny_mono h₃ (fun x s₄ h₄=>wpAny_bind (wpAny_mono h₄ (fun _ s₅ h₅=>wpAny_pure (wpAny_pure ⟨rfl,h₅⟩)) fun _ _ h'=>h'.elim)) fun _ _ h'=>h'.elim))
section
variable {X:Cx} {pins:List (Addr × Obj)} {σ:St} {H:Hp} {s:Shared} {scope:Scope} {x:Str} {N':List Str} {js:List Nat} {fp:List Addr} {elt iter:Expr} {px pos:Pos} {ifs:List Expr} {tc:TT} {te:TE}
theorem comp_block {J:It} {it:Addr} {tn:Nat→Heap→Prop} {RR:Value→Addr→Result→Shared→Prop} {E:Value→Shared→Prop} {Q:VK}
    (S:CScope X scope x N' js) (I:Inv X pins σ H s) (T:Turn X.prog X.w X.K (.Name x px) J fp it tn) (h0:tn 0 s.heap) (hf:∀ b∈fp,FpOk X pins H b)
    (ht:∀ C fp s₀ H₀,PTs (cxC X scope C fp s₀ H₀ N') ifs tc) (he:∀ C fp s₀ H₀,PE (cxC X scope C fp s₀ H₀ N') elt te)
    (R:∀ D,H D=none→∃ W:Nat→Nat→List V→Hp→Prop,(∃ m,W 0 m [] (upd H D (.lst []))) ∧
      ∀ i m ys H2,W i m ys H2→H2 D=some (.lst ys)∧((J.stop i H2∧Q (.ref D) H2)∨(J.go i H2∧ys.length<sizeLine∧∀ x H3,J.yld i H2 x H3 →
        tc (some x::slots σ js) H3 fun b H4=>if b=true then te (some x::slots σ js) H4 fun y H5=>H5 D=some (.lst ys)∧∃ m',m' < m∧W (i+1) m' (ys++[y]) (upd H5 D (.lst (ys++[y])))
          else H4 D=some (.lst ys)∧∃ m',m' < m∧W (i+1) m' ys H4)))
    (hRR:∀ (D:Addr) (H3:Hp) (s3:Shared) (σ':St) (H':Hp) (s':Shared),Inv X pins σ H3 s3→(∀ b∈fp,FpOk X pins H3 b)→Inv (cxC X scope s3.heap.objs.size fp s3 H3 N') [] σ' H' s'→Q (.ref D) H'→RR (.ref D) s3.heap.objs.size (.ok .next) s') :
    wpAny (model X.prog X.w) X.A (newList []) (fun acc s₃=>wpAny (model X.prog X.w) X.A (newFunctionEnv scope X.env.globals (clOf X scope) [] X.env.qual none .none (some X.env)) (fun cenv s₄ =>
      codeAny (model X.prog X.w) X.A (.compStart (.ListComp elt [⟨.Name x px,iter,ifs,0⟩] scope pos) 0 (.ref it) acc { cenv with scope:=relabel scope X.env }) (RR acc cenv.locals) s₄) E s₃) E s:=by
  have hb:∀ b∈fp,b<s.heap.objs.size:=fun b hb=>by
    obtain ⟨o,e,_⟩:=T.obj 0 _ h0 b hb
    exact Heap.lt_size e
  refine wpAny_newObj_type (wpAny_newFunctionEnv S.cell (by intro y hy; simp at hy) (fun h₁ hns₁ hsb₁=>?_) S.kind)
  have hDn:H s.heap.objs.size=none:=I.hok.fresh (Nat.le_refl _)
  obtain ⟨W,⟨m0,hw0⟩,hW⟩:=R _ hDn
  have I3:Inv X pins σ (upd H s.heap.objs.size (.lst [])) { s with heap:=s.heap.push { cls:=.type "list",dict:=none,data:=.seq ([]:List Value).toArray } }:=I.lnew (its:=[]) (ys:=[]) (t':=s.toks) .nil (Nat.zero_le _)
  have hf3:∀ b∈fp,FpOk X pins (upd H s.heap.objs.size (.lst [])) b:=fun b hb' =>
    ⟨by rw [upd_ne (fun e=>by have:=hb b hb'; rw [e] at this; exact Nat.lt_irrefl _ this)]; exact (hf b hb').1,(hf b hb').2⟩
  have hb3:∀ b∈fp,b<(s.heap.push { cls:=.type "list",dict:=none,data:=.seq ([]:List Value).toArray }).objs.size:=fun b hb'=>by
    rw [Heap.size_push]; exact Nat.lt_succ_of_lt (hb b hb')
  have hkeep:∀ b o,(s.heap.push { cls:=.type "list",dict:=none,data:=.seq ([]:List Value).toArray }).get? b=some o→h₁.get? b=some o:=fun b o e =>
    hsb₁.extBut b o (fun q=>by have:=Heap.lt_size e; rw [q] at this; exact Nat.lt_irrefl _ this) (Heap.get?_push_of_some _ e)
  have J4:=cxC_inv (h':=h₁) (tk:=s.toks+([]:List (Str × Value)).length) S I3 hf3 hb3 hns₁ hkeep
  have t4:tn 0 h₁:=T.keep 0 _ _ h0 fun b hb' o e=>hkeep b o (Heap.get?_push_of_some _ e)
  have loop:codeAny (model X.prog X.w) X.A (.compLoop (.ListComp elt [⟨.Name x px,iter,ifs,0⟩] scope pos) 0 (.ref it) (.ref s.heap.objs.size) (compEnvC scope (clOf X scope) (s.heap.push { cls:=.type "list",dict:=none,data:=.seq ([]:List Value).toArray }).objs.size X.env))
      (RR (.ref s.heap.objs.size) (s.heap.push { cls:=.type "list",dict:=none,data:=.seq ([]:List Value).toArray }).objs.size) { s with heap:=h₁,toks:=s.toks+([]:List (Str × Value)).length }:=by
    refine compLoop_gen (fun n s'=>∃ (i:Nat) (ys:List V) (H2:Hp) (o:Option V),Inv (cxC X scope _ fp _ _ N') [] (o::slots σ js) H2 s'∧tn i s'.heap∧(∀ b∈fp,H2 b=none)∧W i n ys H2) ?_ m0 ⟨0,[],_,none,J4,t4,fun b hb'=>(hf3 b hb').1,hw0⟩
    rintro n s' ⟨i,ys,H2,o,J2,t2,f2,w2⟩
    obtain ⟨hD,hcase⟩:=hW i n ys H2 w2
    have Fp:∀ b∈fp,FpOk (cxC X scope (s.heap.push { cls:=.type "list",dict:=none,data:=.seq ([]:List Value).toArray }).objs.size fp { s with heap:=s.heap.push { cls:=.type "list",dict:=none,data:=.seq ([]:List Value).toArray } } (upd H s.heap.objs.size (.lst [])) N') [] H2 b:=fun b hb' =>
      ⟨f2 b hb',(J2.ok.exf b hb').1,J2.ok.exfs b hb',.inl hb',(J2.ok.exf b hb').2,fun p hp=>by cases hp⟩
    rcases hcase with ⟨hstop,hq⟩ | ⟨hgo,hz,hturn⟩
    · refine wpAny_mono (T.done (cxC X scope _ fp _ _ N') rfl rfl rfl rfl i [] s' _ H2 NoX J2 Fp t2 hstop) (fun r s1 ⟨hr,J5⟩=>?_) fun _ _ f=>f
      subst hr
      exact hRR _ _ _ _ _ _ I3 hf3 J5 hq
    · refine wpAny_mono (T.item (cxC X scope _ fp _ _ N') rfl rfl rfl rfl i [] s' _ H2 NoX J2 Fp t2 hgo) (fun r s1 ⟨u,hr,hx⟩=>?_) fun _ _ f=>f
      subst hr
      refine wpAny_mono hx (fun _ s2 ⟨v,H3,J3,rv,hy,t3,f3⟩=>?_) fun _ _ f=>f
      have Fp3:∀ b∈fp,FpOk (cxC X scope (s.heap.push { cls:=.type "list",dict:=none,data:=.seq ([]:List Value).toArray }).objs.size fp { s with heap:=s.heap.push { cls:=.type "list",dict:=none,data:=.seq ([]:List Value).toArray } } (upd H s.heap.objs.size (.lst [])) N') [] H3 b:=fun b hb' =>
        ⟨f3 b hb',(J3.ok.exf b hb').1,J3.ok.exfs b hb',.inl hb',(J3.ok.exf b hb').2,fun p hp=>by cases hp⟩
      have P3:=J3.pinned Fp3 (T.obj (i+1) _ t3)
      have keepT:∀ {σ':St} {Hx:Hp} {sx:Shared},Inv (cxC X scope (s.heap.push { cls:=.type "list",dict:=none,data:=.seq ([]:List Value).toArray }).objs.size fp { s with heap:=s.heap.push { cls:=.type "list",dict:=none,data:=.seq ([]:List Value).toArray } } (upd H s.heap.objs.size (.lst [])) N') ([]++pinsAt fp s2.heap) σ' Hx sx→tn (i+1) sx.heap∧∀ b∈fp,Hx b=none:=fun Jx =>
        ⟨T.keep (i+1) _ _ t3 fun b hb' ob e=>(Jx.pin (b,ob) (List.mem_append_right _ (List.mem_append_right _ (mem_pinsAt hb' e)))).1,fun b hb'=>by
          obtain ⟨ob,e,_⟩:=T.obj (i+1) _ t3 b hb'
          exact (Jx.pin (b,ob) (List.mem_append_right _ (List.mem_append_right _ (mem_pinsAt hb' e)))).2.1⟩
      refine wpAny_assign_Name (store_ok P3 (i:=0) (x:=x) (v:=v) ?nd ?hi ?hx rv (fun s5 J5=>?_) ?hfn)
      case nd=>exact S.nd
      case hi=>exact S.zero
      case hx=>exact .inl (lookup_relabel_local S.own)
      case hfn=>exact .inr (lookup_relabel_local S.own)
      have J5':Inv _ _ (some v::slots σ js) H3 s5:=J5
      refine wpAny_mono (ht _ _ _ _ _ _ _ _ _ J5' (hturn v H3 hy)) (fun ok s6 ⟨H6,J6,q6⟩=>?_) fun _ _ f=>f
      dsimp only at q6
      by_cases hok:ok=true
      · rw [if_pos hok] at q6 ⊢
        refine wpAny_mono (he _ _ _ _ _ _ _ _ _ J6 q6) (fun y s7 ⟨w',H7,J7,r7,hD7,m',hm',w7⟩=>?_) fun _ _ f=>f
        refine wpAny_mono (mt_append (X:=cxC X scope _ fp _ _ N') _ _ _ _ (.ref s.heap.objs.size) [w'] (.ref s.heap.objs.size) [y] (fun _ H8=>H8=upd H7 s.heap.objs.size (.lst (ys++[w']))) J7 rfl (.cons r7 .nil) ⟨_,_,_,rfl,rfl,hD7,hz,rfl⟩) (fun _ s8 ⟨_,H8,J8,_,e8⟩=>?_) fun _ _ f=>f
        subst e8
        obtain ⟨k1,k2⟩:=keepT J8
        exact ⟨m',hm',i+1,ys++[w'],_,some v,J8.unpinned,k1,k2,w7⟩
      · rw [if_neg hok] at q6 ⊢
        obtain ⟨_,m',hm',w7⟩:=q6
        obtain ⟨k1,k2⟩:=keepT J6
        exact ⟨m',hm',i+1,ys,_,some v,J6.unpinned,k1,k2,w7⟩
  refine codeAny_compStart_list loop (T.self X.A 0 _ _ _ t4 loop)
theorem pe_comp {wi:TI} (S:CScope X scope x N' js) (hi:PI X (.Name x px) iter wi) (ht:∀ C fp s₀ H₀,PTs (cxC X scope C fp s₀ H₀ N') ifs tc) (he:∀ C fp s₀ H₀,PE (cxC X scope C fp s₀ H₀ N') elt te)
    (hs:∀ x,foldedSetIterable iter X.env x=pure x:=by intro _; rfl):PE X (.ListComp elt [⟨.Name x px,iter,ifs,0⟩] scope pos) (tComp wi js tc te):=by
  intro pins s σ H Q I h
  rw [eval_ListComp]
  refine wpAny_comprehension_free (use:=none) rfl hs (closureFor_eq (S.cells I.ok)) S.kind S.names (wpAny_mono (hi pins s σ H _ I h) (fun v s1 h1=>?_) fun _ _ e=>e)
  refine wpAny_mono h1 (fun itv s2 ⟨it,fp,tn,J,H2,e,I2,T,t0,hf,R⟩=>?_) fun _ _ e=>e
  subst e
  refine comp_block S I2 T t0 hf ht he R ?_
  intro D H3 s3 σ' H' s' I3 hf3 J3 q
  obtain ⟨m,hm,_⟩:=J3.loc
  exact ⟨m,hm,fun h' hs'=>⟨.ref D,H',cxC_back S I3 hf3 J3 hs',rfl,q⟩⟩
end
end L2
set_option Elab.async false
set_option linter.all false
set_option maxRecDepth 100000
namespace L2
open PySem PySem.Spec PyProof.Rows
structure PTsw (X:Cx) (ifs:List Expr) (t:TT):Prop where p:PTs X ifs t
def tMonoE (t:TE):TE:=fun σ H Q=>∃ Q':VK,t σ H Q'∧∀ v H1,Q' v H1→Q v H1
theorem PE.mono {X:Cx} {e:Expr} {t:TE} (h:PE X e t):PE X e (tMonoE t):=fun pins s σ H Q I ⟨Q',h1,h2⟩ =>
  thn (h pins s σ H Q' I h1) fun b s' ⟨v,H',I',r,q⟩=>⟨v,H',I',r,h2 _ _ q⟩
theorem PTs.mono {X:Cx} {es:List Expr} {t:TT} (h:PTs X es t):PTs X es (tMono t):=fun pins s σ H Q I ⟨Q',h1,h2⟩ =>
  thn (h pins s σ H Q' I h1) fun b s' ⟨H',I',q⟩=>⟨H',I',h2 _ _ q⟩
@[irreducible] def CompB (J:It) (σ:St) (js:List Nat) (tc:TT) (te:TE) (H1:Hp) (Q:VK):Prop:=∀ D,H1 D=none→∃ W:Nat→Nat→List V→Hp→Prop,(∃ m,W 0 m [] (upd H1 D (.lst []))) ∧
  ∀ i m ys H2,W i m ys H2→H2 D=some (.lst ys)∧((J.stop i H2∧Q (.ref D) H2)∨(J.go i H2∧ys.length<sizeLine∧∀ x H3,J.yld i H2 x H3 →
    tMono tc (some x::slots σ js) H3 fun b H4=>if b=true then tMonoE te (some x::slots σ js) H4 fun y H5=>H5 D=some (.lst ys)∧∃ m',m' < m∧W (i+1) m' (ys++[y]) (upd H5 D (.lst (ys++[y])))
      else H4 D=some (.lst ys)∧∃ m',m' < m∧W (i+1) m' ys H4))
def tCompB (wi:TI) (js:List Nat) (tc:TT) (te:TE):TE:=fun σ H Q=>wi σ H fun J H1=>CompB J σ js tc te H1 Q
section
variable {X:Cx} {scope:Scope} {x y:Str} {N':List Str} {js:List Nat} {elt iter c:Expr} {px py pos spos:Pos} {ifs:List Expr} {tc:TT} {te:TE} {wi:TI} {i:Nat}
theorem wts_nil:PTsw X [] tYes:=⟨pts_nil⟩
theorem wts_one {t:TT} (h:PTw X c t):PTsw X [c] t:=⟨pts_one h.p⟩
theorem we_comp (S:CScope X scope x N' js) (hi:PIw X (.Name x px) iter wi) (ht:∀ C fp s₀ H₀,PTsw (cxC X scope C fp s₀ H₀ N') ifs tc) (he:∀ C fp s₀ H₀,PEw (cxC X scope C fp s₀ H₀ N') elt te)
    (hs:∀ x,foldedSetIterable iter X.env x=pure x:=by intro _; rfl):PEw X (.ListComp elt [⟨.Name x px,iter,ifs,0⟩] scope pos) (tCompB wi js tc te) :=
  ⟨by unfold tCompB CompB; exact pe_comp S hi.p (fun C fp s₀ H₀=>(ht C fp s₀ H₀).p.mono) (fun C fp s₀ H₀=>(he C fp s₀ H₀).p.mono) hs⟩
end
def cscOk (psc scope:Scope) (N:List Str) (x:Str) (N':List Str) (js:List Nat):Bool :=
  (scope.names.all fun y=>!(y.2 == .free) || psc.names.lookup y.1 == some .cell)&&(scope.names.all fun y=>!(y.2 == .cell))&&scope.kind == .function &&
  (scope.names.all fun y=>!(y.2 == .local) || scope.names.lookup y.1 == some .local)&&scope.names.lookup x == some .local &&
  (scope.names.all fun y=>!(y.2 == .free) || !(scope.names.lookup y.1 == some .local))&&N'.length == js.length+1&&N'[0]? == some x&&decide N'.Nodup &&
  ((List.range js.length).all fun i=>match js[i]?,N'[i+1]? with
    | some j,some y=>N[j]? == some y&&scope.names.contains (y,NameKind.free)
    | _,_=>false)
theorem CScope.of {X:Cx} {psc scope:Scope} {N:List Str} {x:Str} {N':List Str} {js:List Nat} (h:cscOk psc scope N x N' js=true) (hX:X.env.scope=psc) (hN:X.N=N) (hc:X.calm=true):CScope X scope x N' js:=by
  unfold cscOk at h
  simp only [Bool.and_eq_true] at h
  obtain ⟨⟨⟨⟨⟨⟨⟨⟨⟨h1,h2⟩,h3⟩,h4⟩,h5⟩,h6⟩,h7⟩,h8⟩,h9⟩,h10⟩:=h
  rw [List.all_eq_true] at h1 h2 h4 h6 h10
  refine ⟨hc,fun y hy e=>?_,fun y hy e=>?_,by simpa using h3,fun y hy e=>?_,by simpa using h5,fun y hy e=>?_,by simpa using h7,by simpa using h8,of_decide_eq_true h9,fun i j hj=>?_⟩
  · have:=h1 y hy
    rw [e] at this
    show X.env.scope.names.lookup y.1=_
    rw [hX]
    simpa using this
  · have:=h2 y hy
    rw [e] at this
    simp at this
  · have:=h4 y hy
    rw [e] at this
    simpa using this
  · have:=h6 _ hy
    rw [e] at this
    simp at this
  · have hi:i<js.length:=(List.getElem?_eq_some_iff.mp hj).1
    have:=h10 i (List.mem_range.mpr hi)
    rw [hj] at this
    cases q:N'[i+1]? with
    | none=>rw [q] at this; simp at this
    | some y =>
      rw [q] at this
      simp only [Bool.and_eq_true] at this
      exact ⟨y,rfl,by rw [hN]; simpa using this.1,List.contains_iff_mem.mp this.2⟩
section
variable {js:List Nat} {te:TE} {tc:TT} {σ:St} {H:Hp} {Q:VK}
theorem comp_any {J:It} {n:Nat} (src:Nat→V→Prop) (hz:n≤100000) (Pv:Addr→Nat→List V→Hp→Prop)
    (h0:∀ D H1,H D=none→H1 D=some (.lst [])→Same H H1→Pv D 0 [] H1)
    (hg:∀ D i ys H',i<n→H' D=some (.lst ys)→Pv D i ys H'→J.go i H'∧∀ x H3,J.yld i H' x H3→H3=H'∧src i x)
    (hst:∀ D ys H',H' D=some (.lst ys)→Pv D n ys H'→J.stop n H')
    (hs:∀ D i x ys H',src i x→i<n→ys.length=i→H' D=some (.lst ys)→Pv D i ys H'→te (some x::slots σ js) H' fun y H5=>H5 D=some (.lst ys)∧∀ H6,H6 D=some (.lst (ys++[y]))→SameBut D H5 H6→Pv D (i+1) (ys++[y]) H6)
    (hd:∀ D ys H',ys.length=n→H D=none→H' D=some (.lst ys)→Pv D n ys H'→Q (.ref D) H') :
    CompB J σ js tYes te H Q:=by
  unfold CompB
  intro D hD
  refine ⟨fun i m ys H'=>m=n - i∧i≤n∧ys.length=i∧H' D=some (.lst ys)∧Pv D i ys H',⟨n,by simp,Nat.zero_le _,rfl,upd_same,h0 D _ hD upd_same (Same.upd hD)⟩,?_⟩
  rintro i m ys H2 ⟨rfl,hi,hy,hD2,p⟩
  refine ⟨hD2,?_⟩
  by_cases hlt:i<n
  · obtain ⟨g1,g2⟩:=hg D i ys H2 hlt hD2 p
    refine .inr ⟨g1,Nat.lt_of_le_of_lt (m:=100000) (by omega) (by decide),fun x H3 hy3=>?_⟩
    obtain ⟨rfl,hx⟩:=g2 x H3 hy3
    refine ⟨fun b H4=>b=true∧H4=H3,⟨rfl,rfl⟩,?_⟩
    rintro b H4 ⟨rfl,rfl⟩
    rw [if_pos rfl]
    refine ⟨_,hs D i x ys H4 hx hlt hy hD2 p,?_⟩
    rintro v H5 ⟨hD5,k⟩
    exact ⟨hD5,n - (i+1),by omega,rfl,hlt,by rw [List.length_append,hy]; rfl,upd_same,k _ upd_same SameBut.self⟩
  · have e:i=n:=by omega
    subst e
    exact .inl ⟨hst D ys H2 hD2 p,hd D ys H2 hy hD hD2 p⟩
end
@[irreducible] def rSum (K:PySem.W.Frag):List V→Hp→VK→Prop:=fun xs H Q=>∃ (p:Addr) (ns:List Int),xs=[.ref p]∧SqL K H p (ns.map V.int)∧Q (.int ns.sum) H
@[irreducible] def rEqD (b:Bool):R2:=fun x y H Q=>∃ d d',Rep H d x∧Rep H d' y∧SeqAt.shaped d=true∧SeqAt.shaped d'=true∧Q (.bl (b == PyData.eqv d d')) H
section
variable {X:Cx}
theorem cl_sum (hc:X.calm=true):CallR X (.builtin "sum") (rSum X.K):=by
  unfold rSum
  intro pins s σ H xs us Q I r h
  obtain ⟨p,ns,rfl,hq,q⟩:=h
  obtain ⟨u,rfl,rx⟩:=vals1 r
  cases rx
  obtain ⟨its,r',pl,hz⟩:=I.list hq
  have hi:=intsAre_of r'
  obtain ⟨xs',e⟩:=hi.allInts.items
  rw [e] at pl
  refine sum_intListG (I.ok.hd hc) pl.isList fun h' tk t' hk=>⟨.int ns.sum,H,I.kept hk,⟨t',?_⟩,q⟩
  rw [preSum_eq,List.take_of_length_le (by simp)]
  rw [← hi.numsOf]
  have e2:its=(intItems xs').toList:=by rw [← e]
  rw [e2,nums_intItems]
theorem rsI {K:PySem.W.Frag} {H:Hp} {p:Addr} {ns:List Int} {Q:VK} (h:SqL K H p (ns.map V.int)) (q:Q (.int ns.sum) H):rSum K [.ref p] H Q:=by unfold rSum; exact ⟨p,ns,rfl,h,q⟩
theorem op_eqD (hu:X.A.units+64<cLine):OpR X (compareOp .Eq) (rEqD true):=by
  unfold rEqD
  intro pins s σ H x y v u Q I rx ry h
  obtain ⟨d,d',h1,h2,s1,s2,q⟩:=h
  obtain ⟨as,ra⟩:=h1.reads I rx
  obtain ⟨bs,rb⟩:=h2.reads I ry
  exact SeqAt.compareEq_shaped ra rb s1 s2 hu ⟨.bl _,H,I,by show _=_; simp,q⟩
theorem op_neD (hu:X.A.units+64<cLine):OpR X (compareOp .NotEq) (rEqD false):=by
  unfold rEqD
  intro pins s σ H x y v u Q I rx ry h
  obtain ⟨d,d',h1,h2,s1,s2,q⟩:=h
  obtain ⟨as,ra⟩:=h1.reads I rx
  obtain ⟨bs,rb⟩:=h2.reads I ry
  exact SeqAt.compareNe_shaped ra rb s1 s2 hu ⟨.bl _,H,I,by show _=_; simp,q⟩
theorem reD {b:Bool} {x y:V} {d d':PyData} {H:Hp} {Q:VK} (h1:Rep H d x) (h2:Rep H d' y) (s1:SeqAt.shaped d=true) (s2:SeqAt.shaped d'=true) (q:Q (.bl (b == PyData.eqv d d')) H):rEqD b x y H Q:=by
  unfold rEqD; exact ⟨d,d',h1,h2,s1,s2,q⟩
end
mutual
def flatD:PyData→Bool
  | .list _=>false
  | .dict _=>false
  | .tuple ds=>flatDs ds
  | _=>true
def flatDs:List PyData→Bool
  | []=>true
  | d::ds=>flatD d&&flatDs ds
end
def SameT (H H':Hp):Prop:=∀ b xs,H b=some (.tup xs)→H' b=some (.tup xs)
theorem SameT.trans {H H1 H2:Hp} (a:SameT H H1) (b:SameT H1 H2):SameT H H2:=fun c o h=>b c o (a c o h)
theorem Same.t {H H':Hp} (s:Same H H'):SameT H H':=fun b xs h=>s _ _ h
theorem SameBut.t {H H':Hp} {p:Addr} (s:SameBut p H H') {xs:List V} (hp:H p=some (.lst xs)):SameT H H':=fun b ys h=>s.at (ne_of h hp (by intro z; cases z)) h
mutual
theorem Rep.flat {H H':Hp} (s:SameT H H'):∀ {d:PyData} {v:V},flatD d=true→Rep H d v→Rep H' d v
  | .none,_,_,h=>h
  | .bool _,_,_,h=>h
  | .int _,_,_,h=>h
  | .str _,_,_,h=>h
  | .list _,_,f,_=>by simp [flatD] at f
  | .dict _,_,f,_=>by simp [flatD] at f
  | .tuple ds,_,f,h=>by
    unfold Rep at h ⊢
    obtain ⟨a,ys,rfl,h1,h2⟩:=h
    exact ⟨a,ys,rfl,s _ _ h1,RepL.flat s (by simpa [flatD] using f) h2⟩
theorem RepL.flat {H H':Hp} (s:SameT H H'):∀ {ds:List PyData} {vs:List V},flatDs ds=true→RepL H ds vs→RepL H' ds vs
  | [],_,_,h=>h
  | d::ds,_,f,h=>by
    unfold RepL at h ⊢
    obtain ⟨x,ys,rfl,h1,h2⟩:=h
    simp only [flatDs,Bool.and_eq_true] at f
    exact ⟨x,ys,rfl,Rep.flat s f.1 h1,RepL.flat s f.2 h2⟩
end
theorem RepL.get {H:Hp}:∀ {ds:List PyData} {vs:List V} {i:Nat} {v:V},RepL H ds vs→vs[i]?=some v→∃ d,ds[i]?=some d∧Rep H d v
  | [],_,i,v,h,e=>by cases (show _=[] from h); simp at e
  | d::ds,_,i,v,h,e=>by
    unfold RepL at h
    obtain ⟨x,ys,rfl,h1,h2⟩:=h
    cases i with
    | zero=>simp at e; subst e; exact ⟨d,rfl,h1⟩
    | succ i =>
      rw [List.getElem?_cons_succ] at e ⊢
      exact RepL.get h2 e
theorem RepL.snoc {H:Hp} {ds:List PyData} {vs:List V} {d:PyData} {v:V} (h:RepL H ds vs) (r:Rep H d v):RepL H (ds++[d]) (vs++[v]):=RepL.append (RepL.cons r RepL.nil) h
theorem bitsOf {i:Int} {n:Nat} (h:i.natAbs<2^n):bits i≤n:=PySem.intBits_le_iff.mpr h
theorem mulB {i j:Int} {n m:Nat} (h1:i.natAbs<2^n) (h2:j.natAbs<2^m) (hn:n≤1048576:=by decide) (hm:m≤1048576:=by decide):IntMulOk i j:=by
  refine IntMulOk.of_bits ?_ ?_
  · exact Nat.le_trans (bitsOf h1) hn
  · exact Nat.le_trans (bitsOf h2) hm
mutual
def shW:PyData→Nat
  | .none=>4
  | .bool _=>5
  | .int _=>1921
  | .str x=>(reprText x).length
  | .list xs=>shWs xs+4
  | .tuple xs=>shWs xs+4
  | .dict _=>0
def shWs:List PyData→Nat
  | []=>0
  | x::xs=>shW x+2+shWs xs
end
theorem textFrom_le:∀ (ts:List Str) (k:Nat) (acc:Str),(textFrom k acc ts).length≤acc.length+piled ts
  | [],k,acc=>by show acc.length≤_; omega
  | t::r,k,acc=>by
    have h:=textFrom_le r (k+1) (acc++(if k > 0 then ", " else "" : String)++t)
    have e:(acc++(if k > 0 then ", " else "" : String)++t).length=acc.length+(if k > 0 then 2 else 0)+t.length:=by
      rw [strLen_append,strLen_append]
      split <;> rfl
    rw [e] at h
    rw [piled_cons]
    show (textFrom (k+1) _ r).length≤_
    refine Nat.le_trans h ?_
    split <;> omega
theorem tupleText_le (ts:List Str):(tupleText ts).length≤piled ts+4:=by
  unfold tupleText
  rw [strLen_append,strLen_append]
  have e1:(("(" : Str)).length=1:=rfl
  have e2:((if ts.length == 1 then ",)" else ")" : String):Str).length≤2:=by split <;> decide
  rw [e1]
  by_cases h:ts=[]
  · subst h; have:(Str.join ", " []).length=0:=rfl
    omega
  · have:=join_length_add ts h
    omega
theorem listText_le (ts:List Str):(listText ts).length≤piled ts+4:=by
  unfold listText
  rw [strLen_append]
  have:=textFrom_le ts 0 "["
  have e1:(("[" : String):Str).length=1:=rfl
  have e2:(("]" : String):Str).length=1:=rfl
  rw [e1] at this
  rw [e2]
  omega
mutual
theorem shown_le:∀ d:PyData,d.showable=true→d.hasDict=false→d.shown.length≤shW d
  | .none,_,_=>by simp only [PyData.shown,shW]; decide
  | .bool b,_,_=>by cases b <;> (simp only [PyData.shown,shW]; decide)
  | .int i,h,_=>by
    simp only [PyData.shown,shW]
    exact int_text_len_1921 (by simpa [PyData.showable] using h)
  | .str x,_,_=>by simp only [PyData.shown,shW]; exact Nat.le_refl _
  | .list xs,h,h2=>by
    simp only [PyData.shown,shW]
    have:=shownAll_le xs (by simpa [PyData.showable] using h) (by simpa [PyData.hasDict] using h2)
    have:=listText_le (PyData.shownAll xs)
    omega
  | .tuple xs,h,h2=>by
    simp only [PyData.shown,shW]
    have:=shownAll_le xs (by simpa [PyData.showable] using h) (by simpa [PyData.hasDict] using h2)
    have:=tupleText_le (PyData.shownAll xs)
    omega
  | .dict _,_,h=>by simp [PyData.hasDict] at h
theorem shownAll_le:∀ ds:List PyData,PyData.showableAll ds=true→PyData.hasDictAll ds=false→piled (PyData.shownAll ds)≤shWs ds
  | [],_,_=>by simp only [PyData.shownAll,shWs]; exact Nat.le_refl _
  | d::ds,h,h2=>by
    simp only [PyData.showableAll,Bool.and_eq_true] at h
    simp only [PyData.hasDictAll,Bool.or_eq_false_iff] at h2
    have:=shown_le d h.1 h2.1
    have:=shownAll_le ds h.2 h2.2
    simp only [PyData.shownAll,shWs,piled_cons]
    omega
end
theorem showInt {i:Int} {n:Nat} (h:i.natAbs<2^n) (hn:n≤1920:=by decide):PyData.showable (.int i)=true:=by
  simp only [PyData.showable]
  refine decide_eq_true (log_of_bits (Nat.le_trans (bitsOf h) hn) (by decide))
section
variable {X:Cx} (K:PySem.W.Frag)
theorem ix_seqK (h:X.K=K:=by rfl):IxR X (rIx K):=by subst h; exact ix_seq
theorem cl_sumK (hc:X.calm=true) (h:X.K=K:=by rfl):CallR X (.builtin "sum") (rSum K):=by subst h; exact cl_sum hc
end
end L2
set_option Elab.async false
set_option linter.all false
set_option maxRecDepth 100000
namespace L2
open PySem
section
variable {prog:Program} {w:World} {A:Around} {E:Value→Shared→Prop} {s:Shared}
end
end L2
set_option Elab.async false
set_option linter.all false
set_option maxRecDepth 100000
namespace L2
open PySem PySem.Spec PyProof.Rows
section
variable {X:Cx} {pins:List (Addr × Obj)} {σ:St} {H:Hp} {s:Shared} {h':Heap}
theorem Inv.turnedL {t':Nat} {fp:List Addr} (I:Inv X pins σ H s) (k:∀ b o,b ∉ fp→s.heap.get? b=some o→h'.get? b=some o) (hf:∀ b∈fp,FpOk X pins H b):Inv X pins σ H { s with heap:=h',toks:=t' }:=by
  have nit:∀ b u,H b=some u→b ∉ fp:=fun b u e z=>by rw [(hf b z).1] at e; cases e
  refine I.step (g':=s.gens) (d':=s.drawn) (ch:=fp) (fun b hb=>?_) (fun b o _ _ hc e _=>k b o hc e) (fun b o _ _ hc e _=>⟨o.slots,k b o hc e⟩) (fun _ _ _ _ n=>n)
    (fun b o hc e=>⟨o,k b o hc e⟩) (fun _ _ e=>e) (fun _ _ _ e=>e) (fun b ps e=>⟨#[],by rw [e]; simp⟩) (fun m hm=>?_) (fun b u e=>?_) I.bare
  · obtain ⟨f0,f1,f2,f3,f4,f5⟩:=hf b hb
    exact ⟨f3,f1,f4,f5⟩
  · obtain ⟨o,es,ep,ho,r⟩:=hm
    exact ⟨o,es,ep,k _ o (fun z=>(hf _ z).2.1 rfl) ho,r⟩
  · refine (I.hok b u e).stay (fun c v hc q=>k c v ?_ q) (fun _ q=>q) fun _ _ q=>q
    rcases hc with z | z
    · rw [z]; exact nit b u e
    · exact nit c _ z
end
section
variable {prog:Program} {w:World} {A:Around} {E:Value→Shared→Prop} {s:Shared}
end
section
variable {X:Cx}
end
end L2
set_option Elab.async false
set_option linter.all false
set_option maxRecDepth 100000
namespace L2
open PySem
def intsAre:List Value→List Int→Bool
  | [],[]=>true
  | .int i _::vs,n::ns=>decide (i=n)&&intsAre vs ns
  | _,_=>false
def intsIn (K:PySem.W.Frag) (a:Addr) (ns:List Int):Bool :=
  match K.lookup a with
  | some o=>(match o.cls with | .type n=>n == "tuple" | _=>false)&&(match o.data with | .seq xs _=>decide (xs.size≤64)&&intsAre xs.toList ns | _=>false)
  | none=>false
theorem intsAre.vals:∀ {vs:List Value} {ns:List Int},intsAre vs ns=true→Vals (ns.map V.int) vs
  | [],[],_=>.nil
  | v::vs,n::ns,h=>by
    cases v with
    | int i t =>
      have h':(decide (i=n)&&intsAre vs ns)=true:=h
      rw [Bool.and_eq_true] at h'
      have e:=of_decide_eq_true h'.1
      subst e
      exact .cons ⟨t,rfl⟩ (intsAre.vals h'.2)
    | _=>cases h
  | [],_::_,h=>by cases h
  | v::_,[],h=>by cases v <;> cases h
theorem sqT_ints {K:PySem.W.Frag} {H:Hp} {a:Addr} {ns:List Int} (h:intsIn K a ns=true):SqT K H a (ns.map V.int):=by
  unfold intsIn at h
  split at h
  · rename_i o ho
    rw [Bool.and_eq_true] at h
    obtain ⟨h1,h2⟩:=h
    split at h1
    · rename_i n hn
      split at h2
      · rename_i xs m hx
        rw [Bool.and_eq_true] at h2
        have e:n = "tuple" := by simpa using h1
        subst e
        exact .inr ⟨o,xs,m,ho,hn,hx,small64 (of_decide_eq_true h2.1),intsAre.vals h2.2⟩
      · cases h2
    · cases h1
  · cases h
mutual
def RepK (K:PySem.W.Frag) (H:Hp):PyData→V→Prop
  | .none,v=>v=.non
  | .bool b,v=>v=.bl b
  | .int i,v=>v=.int i
  | .str x,v=>v=.str x
  | .list ds,v=>∃ a xs,v=.ref a∧H a=some (.lst xs)∧RepKL K H ds xs
  | .tuple ds,v=>∃ a xs,v=.ref a∧SqT K H a xs∧RepKL K H ds xs
  | .dict kvs,v=>kvs=[]∧∃ a,v=.ref a∧H a=some (.dK [])
def RepKL (K:PySem.W.Frag) (H:Hp):List PyData→List V→Prop
  | [],vs=>vs=[]
  | d::ds,vs=>∃ x xs,vs=x::xs∧RepK K H d x∧RepKL K H ds xs
end
mutual
theorem Rep.k {K:PySem.W.Frag} {H:Hp}:∀ {d:PyData} {v:V},Rep H d v→RepK K H d v
  | .none,_,h=>h
  | .bool _,_,h=>h
  | .int _,_,h=>h
  | .str _,_,h=>h
  | .list ds,_,h=>by
    unfold Rep at h; unfold RepK
    obtain ⟨a,xs,rfl,h1,h2⟩:=h
    exact ⟨a,xs,rfl,h1,RepL.k h2⟩
  | .tuple ds,_,h=>by
    unfold Rep at h; unfold RepK
    obtain ⟨a,xs,rfl,h1,h2⟩:=h
    exact ⟨a,xs,rfl,SqT.of h1,RepL.k h2⟩
  | .dict kvs,_,h=>by unfold Rep at h; unfold RepK; exact h
theorem RepL.k {K:PySem.W.Frag} {H:Hp}:∀ {ds:List PyData} {vs:List V},RepL H ds vs→RepKL K H ds vs
  | [],_,h=>h
  | d::ds,_,h=>by
    unfold RepL at h; unfold RepKL
    obtain ⟨x,xs,rfl,h1,h2⟩:=h
    exact ⟨x,xs,rfl,Rep.k h1,RepL.k h2⟩
end
theorem RepK.tup {K:PySem.W.Frag} {H:Hp} {a:Addr} {xs:List V} {ds:List PyData} (h:SqT K H a xs) (r:RepKL K H ds xs):RepK K H (.tuple ds) (.ref a):=by
  unfold RepK; exact ⟨a,xs,rfl,h,r⟩
theorem RepKL.ints {K:PySem.W.Frag} {H:Hp}:∀ ns:List Int,RepKL K H (ns.map PyData.int) (ns.map V.int)
  | []=>by unfold RepKL; rfl
  | n::ns=>by unfold RepKL; exact ⟨_,_,rfl,by unfold RepK; rfl,RepKL.ints ns⟩
section
variable {X:Cx} {pins:List (Addr × Obj)} {σ:St} {H:Hp} {s:Shared}
mutual
theorem RepK.reads (I:Inv X pins σ H s):∀ {d:PyData} {v:V} {u:Value},RepK X.K H d v→RelV v u→∃ as,Reads s.heap u d as
  | .none,_,u,h,r=>by
    cases (show _=V.non from h); cases (show u=Value.none from r); exact ⟨_,.none⟩
  | .bool b,_,u,h,r=>by
    cases (show _=V.bl b from h); cases (show u=Value.bool b from r); exact ⟨_,.bool b⟩
  | .int b,_,u,h,r=>by
    cases (show _=V.int b from h); obtain ⟨t,q⟩:=(show ∃ t,u=Value.int b t from r); cases q; exact ⟨_,.int b t⟩
  | .str b,_,u,h,r=>by
    cases (show _=V.str b from h); obtain ⟨t,q⟩:=(show ∃ t,u=Value.str b t from r); cases q; exact ⟨_,.str b t⟩
  | .list ds,v,u,h,r=>by
    unfold RepK at h
    obtain ⟨a,xs,rfl,h1,h2⟩:=h
    cases (show u=Value.ref a from r)
    obtain ⟨_,its,n,r',e⟩:=(show ObjOk X.prog X.w H s.heap a (.lst xs) from I.hok a _ h1)
    obtain ⟨as,q⟩:=RepKL.reads I h2 r'
    exact ⟨_,.list e rfl rfl (by simpa using q)⟩
  | .tuple ds,v,u,h,r=>by
    unfold RepK at h
    obtain ⟨a,xs,rfl,h1,h2⟩:=h
    cases (show u=Value.ref a from r)
    obtain ⟨its,r',⟨o,e,hc,n,hd⟩,_⟩:=I.tuple h1
    obtain ⟨as,q⟩:=RepKL.reads I h2 r'
    exact ⟨_,.tuple e hc hd (by simpa using q)⟩
  | .dict kvs,v,u,h,r=>Rep.reads I (d:=.dict kvs) (by unfold Rep; unfold RepK at h; exact h) r
theorem RepKL.reads (I:Inv X pins σ H s):∀ {ds:List PyData} {vs:List V} {us:List Value},RepKL X.K H ds vs→Vals vs us→∃ as,ReadsAll s.heap us ds as
  | [],_,us,h,r=>by
    cases (show _=[] from h); cases r; exact ⟨_,.nil⟩
  | d::ds,_,us,h,r=>by
    unfold RepKL at h
    obtain ⟨x,xs,rfl,h1,h2⟩:=h
    cases r with
    | cons r1 r2 =>
      obtain ⟨as,q1⟩:=RepK.reads I h1 r1
      obtain ⟨bs,q2⟩:=RepKL.reads I h2 r2
      exact ⟨_,.cons q1 q2⟩
end
end
@[irreducible] def rEqK (K:PySem.W.Frag) (b:Bool):R2:=fun x y H Q=>∃ d d',RepK K H d x∧RepK K H d' y∧SeqAt.shaped d=true∧SeqAt.shaped d'=true∧Q (.bl (b == PyData.eqv d d')) H
section
variable {X:Cx}
theorem op_eqK (K:PySem.W.Frag) (hu:X.A.units+64<cLine) (hK:X.K=K:=by rfl):OpR X (compareOp .Eq) (rEqK K true):=by
  subst hK
  unfold rEqK
  intro pins s σ H x y v u Q I rx ry h
  obtain ⟨d,d',h1,h2,s1,s2,q⟩:=h
  obtain ⟨as,ra⟩:=h1.reads I rx
  obtain ⟨bs,rb⟩:=h2.reads I ry
  exact SeqAt.compareEq_shaped ra rb s1 s2 hu ⟨.bl _,H,I,by show _=_; simp,q⟩
end
section
variable {K:PySem.W.Frag} {H:Hp} {p:Addr} {xs:List V} {i:Int} {v:V} {Q:VK}
theorem reK {b:Bool} {x y:V} {d d':PyData} (h1:RepK K H d x) (h2:RepK K H d' y) (s1:SeqAt.shaped d=true) (s2:SeqAt.shaped d'=true) (q:Q (.bl (b == PyData.eqv d d')) H):rEqK K b x y H Q:=by
  unfold rEqK; exact ⟨d,d',h1,h2,s1,s2,q⟩
theorem ixK (h:SqT K H p xs) (e:atI xs i=some v) (q:Q v H):rIx K (.ref p) (.int i) H Q:=.inr (.inl ⟨p,xs,i,v,rfl,rfl,h,e,q⟩)
end
theorem cutV_lo (xs:List V) (k:Nat):cutV xs (some (k:Int)) none=xs.drop k:=by
  unfold cutV
  rw [HT.sIx_nat,HT.sIx_none]
  by_cases h:k≤xs.length
  · rw [Nat.min_eq_left h]
    exact List.take_of_length_le (by rw [List.length_drop]; exact Nat.le_refl _)
  · rw [Nat.min_eq_right (by omega),List.drop_of_length_le (Nat.le_refl _),List.drop_of_length_le (by omega),List.take_nil]
theorem cutV_hi (xs:List V) (k:Nat):cutV xs none (some (k:Int))=xs.take k:=by
  unfold cutV
  rw [HT.sIx_nat,HT.sIx_none,List.drop_zero,Nat.sub_zero]
  by_cases h:k≤xs.length
  · rw [Nat.min_eq_left h]
  · rw [Nat.min_eq_right (by omega),List.take_of_length_le (Nat.le_refl _),List.take_of_length_le (by omega)]
end L2
set_option Elab.async false
set_option linter.all false
set_option maxRecDepth 100000
namespace L2
open PySem
section
variable {σ:St} {js:List Nat} {te:TE} {H:Hp} {Q:VK}
theorem snoc_all {R:Nat→V→Prop} {ys:List V} {y:V} (h:∀ (j:Nat) z,ys[j]?=some z→R j z) (r:R ys.length y):∀ (j:Nat) z,(ys++[y])[j]?=some z→R j z:=fun j z hj=>by
  by_cases hji:j<ys.length
  · rw [List.getElem?_append_left hji] at hj; exact h j z hj
  · rw [List.getElem?_append_right (by omega)] at hj
    have:j - ys.length=0:=by
      by_cases q:j - ys.length=0
      · exact q
      · rw [List.getElem?_eq_none (by simp; omega)] at hj; cases hj
    rw [this] at hj
    have hj':y=z:=by simpa using hj
    have:j=ys.length:=by omega
    subst this hj'
    exact r
theorem comp_mapT {J:It} {n:Nat} (src:Nat→V→Prop) (R:Nat→V→Hp→Prop) (hR:∀ i y H1 H2,SameT H1 H2→R i y H1→R i y H2) (hz:n≤100000)
    (hg:∀ i H',Same H H'→i<n→J.go i H'∧∀ x H3,J.yld i H' x H3→H3=H'∧src i x) (hst:∀ H',Same H H'→J.stop n H')
    (hs:∀ i x H' (Q':VK),src i x→i<n→Same H H'→(∀ y H5,Same H' H5→R i y H5→Q' y H5)→te (some x::slots σ js) H' Q')
    (hd:∀ D ys H',H D=none→H' D=some (.lst ys)→Same H H'→ys.length=n→(∀ (i:Nat) (y:V),ys[i]?=some y→R i y H')→Q (.ref D) H'):CompB J σ js tYes te H Q:=by
  refine comp_any (J:=J) (n:=n) src hz (fun D i ys H'=>H D=none∧Same H H'∧∀ (i:Nat) (y:V),ys[i]?=some y→R i y H') (fun D H1 hD _ s=>⟨hD,s,fun i y h=>by simp at h⟩)
    (fun D i ys H' hi _ p=>hg i H' p.2.1 hi) (fun D ys H' _ p=>hst H' p.2.1) (fun D i x ys H' hx hi hy hD p=>?_) (fun D ys H' hy hD hD' p=>hd D ys H' hD hD' p.2.1 hy p.2.2)
  refine hs i x H' _ hx hi p.2.1 fun y H5 s5 r=>?_
  refine ⟨s5 _ _ hD,fun H6 hD6 s6=>⟨p.1,Same.thru p.1 (p.2.1.trans s5) s6,?_⟩⟩
  have t6:=s6.t (s5 _ _ hD)
  exact snoc_all (R:=fun j z=>R j z H6) (fun j z hj=>hR j z _ _ (s5.t.trans t6) (p.2.2 j z hj)) (by rw [hy]; exact hR i y _ _ t6 r)
theorem comp_mapL {K:PySem.W.Frag} {a:Addr} {xs:List V} (R:Nat→V→Hp→Prop) (hR:∀ i y H1 H2,SameT H1 H2→R i y H1→R i y H2) (hz:xs.length≤100000) (hl:H a=some (.lst xs))
    (hs:∀ i x H' (Q':VK),xs[i]?=some x→Same H H'→(∀ y H5,Same H' H5→R i y H5→Q' y H5)→te (some x::slots σ js) H' Q')
    (hd:∀ D ys H',H D=none→H' D=some (.lst ys)→Same H H'→ys.length=xs.length→(∀ (i:Nat) (y:V),ys[i]?=some y→R i y H')→Q (.ref D) H'):CompB (Itl K a) σ js tYes te H Q :=
  comp_mapT (fun i x=>xs[i]?=some x) R hR hz (fun i H' s hi=>⟨⟨xs,xs[i],SqL.of (s _ _ hl),by simp [hi]⟩,fun x H3 y=>⟨y.1,y.2 xs (SqL.of (s _ _ hl))⟩⟩) (fun H' s=>⟨xs,SqL.of (s _ _ hl),Nat.le_refl _⟩)
    (fun i x H' Q' hx _ s k=>hs i x H' Q' hx s k) hd
theorem comp_mapR {lo:Int} {n:Nat} (R:Nat→V→Hp→Prop) (hR:∀ i y H1 H2,SameT H1 H2→R i y H1→R i y H2) (hz:n≤100000)
    (hs:∀ i H' (Q':VK),i<n→Same H H'→(∀ y H5,Same H' H5→R i y H5→Q' y H5)→te (some (.int (lo+(i:Nat)))::slots σ js) H' Q')
    (hd:∀ D ys H',H D=none→H' D=some (.lst ys)→Same H H'→ys.length=n→(∀ (i:Nat) (y:V),ys[i]?=some y→R i y H')→Q (.ref D) H'):CompB (Itr lo n) σ js tYes te H Q :=
  comp_mapT (fun i x=>x=.int (lo+(i:Nat))) R hR hz (fun i H' s hi=>⟨hi,fun x H3 y=>y⟩) (fun H' s=>Nat.le_refl _)
    (fun i x H' Q' hx hi s k=>by subst hx; exact hs i H' Q' hi s k) hd
theorem SameBut.thru {p l:Addr} {H0 H1 H2:Hp} (hl:H0 l=none) (s:SameBut p H0 H1) (b:SameBut l H1 H2):SameBut p H0 H2:=fun c o e=>by
  have n:=Hide.ne e
  have e0:H0 c=some o:=by rw [Hide.at n] at e; exact e
  have nl:c≠l:=fun z=>by subst z; rw [hl] at e0; cases e0
  exact Hide.of n (b.at nl (s.at n e0))
end
theorem RepL.ofIdx {H:Hp}:∀ {ds:List PyData} {ys:List V},ys.length=ds.length→(∀ (i:Nat) (y:V),ys[i]?=some y→∃ d,ds[i]?=some d∧Rep H d y)→RepL H ds ys
  | [],[],_,_=>RepL.nil
  | d::ds,y::ys,hl,h=>by
    obtain ⟨d',e,r⟩:=h 0 y rfl
    cases (show d=d' by simpa using e)
    exact RepL.cons r (RepL.ofIdx (by simpa using hl) fun i z hz=>by simpa using h (i+1) z (by simpa using hz))
  | [],_::_,hl,_=>by simp at hl
  | _::_,[],hl,_=>by simp at hl
theorem ints_of {P:Nat→Int→Prop}:∀ {ys:List V},(∀ (i:Nat) (y:V),ys[i]?=some y→∃ n,y=.int n∧P i n)→∃ ns:List Int,ys=ns.map V.int∧∀ (i:Nat) n,ns[i]?=some n→P i n
  | [],_=>⟨[],rfl,fun i n h=>by simp at h⟩
  | y::ys,h=>by
    obtain ⟨n,rfl,hn⟩:=h 0 y rfl
    obtain ⟨ns,rfl,hs⟩:=ints_of (P:=fun i=>P (i+1)) (ys:=ys) fun i z hz=>h (i+1) z (by simpa using hz)
    refine ⟨n::ns,rfl,fun i m hm=>?_⟩
    cases i with
    | zero=>cases (show n=m by simpa using hm); exact hn
    | succ i=>exact hs i m (by simpa using hm)
end L2
set_option Elab.async false
set_option linter.all false
set_option maxRecDepth 100000
namespace L2
open PySem PySem.Spec PyProof.Rows
theorem Room.u1 {k:Nat} {A:Around} (r:Room k A):A.units+1<cLine:=by have:=r.units; omega
@[irreducible] def rDG:R2:=fun x y H Q=>∃ a v,x=.ref a∧DGet H a y (some v)∧Q v H
@[irreducible] def rDP (D:Ends) (σ:St) (x y v:V) (H:Hp):Prop:=∃ a H4,x=.ref a∧DPut H a y v H4∧D.nx σ H4
def tDPut (td ty tv:TE):TS:=fun D σ H=>tv σ H fun v H1=>td σ H1 fun x H2=>ty σ H2 fun y H3=>rDP D σ x y v H3
structure PPsw (X:Cx) (pos:Pos) (keys:List (Option Expr)) (values:List Expr) (trs:List (TE × TE)):Prop where p:PPs X pos keys values trs
section
variable {X:Cx} {o i value k v:Expr} {td ty tv tk:TE} {pos pos':Pos} {ks:List (Option Expr)} {vs:List Expr} {trs:List (TE × TE)}
theorem we_dget (hu:X.A.units+1<cLine) (ho:PEw X o td) (hi:PEw X i ty) (hs:NoSl i:=by intro _ _; rfl):PEw X (.Subscript o i pos) (tOp rDG td ty):=⟨by unfold rDG; exact pe_dget hu ho.p hi.p hs⟩
theorem ws_dput (hu:X.A.units+1<cLine) (ho:PEw X o td) (hi:PEw X i ty) (hv:PEw X value tv) (hs:swapsWith value (some (.Subscript o i pos')) pos.line X.env=pure false:=by rfl) :
    PSw X (.Assign [.Subscript o i pos'] value pos) (tDPut td ty tv):=⟨by unfold tDPut rDP; exact ps_dput hu ho.p hi.p hv.p hs⟩
theorem wpp_nil:PPsw X pos [] [] []:=⟨pps_nil⟩
theorem wpp_cons (hk:PEw X k tk) (hv:PEw X v tv) (hr:PPsw X pos ks vs trs):PPsw X pos (some k::ks) (v::vs) ((tk,tv)::trs):=⟨pps_cons hk.p hv.p hr.p⟩
theorem we_disp (h:PPsw X pos ks vs trs) (hall:ks.all (·.isSome)=true:=by rfl) (hl:ks.length=vs.length:=by rfl) (h0:ks≠[]:=by intro h; cases h) (h15:ks.length≤15:=by decide):PEw X (.Dict ks vs pos) (tDisp trs):=⟨pe_disp h.p hall hl h0 h15⟩
end
theorem dgS {H:Hp} {p:Addr} {kvs:List (Key × V)} {x:Str} {v:V} {Q:VK} (e:H p=some (.dK kvs)) (hv:valV kvs (.inr x)=some v) (q:Q v H):rDG (.ref p) (.str x) H Q:=by
  unfold rDG; exact ⟨p,v,rfl,hv ▸ DGet.k (k:=.inr x) e,q⟩
theorem dpS {H:Hp} {p:Addr} {kvs kvs2:List (Key × V)} {x:Str} {v:V} {D:Ends} {σ:St} (e:H p=some (.dK kvs)) (hl:kvs.length≤64) (hk:putK kvs (.inr x) v=kvs2) (q:∀ H',H' p=some (.dK kvs2)→SameBut p H H'→D.nx σ H') :
    rDP D σ (.ref p) (.str x) v H:=by
  unfold rDP
  exact ⟨p,_,rfl,DPut.k (k:=.inr x) e (Nat.lt_of_le_of_lt hl (by decide)),q _ (by rw [hk]; exact upd_same) SameBut.self⟩
theorem SameBut.tD {H H':Hp} {p:Addr} (s:SameBut p H H') {xs:List (Key × V)} (hp:H p=some (.dK xs)):SameT H H':=fun b ys h=>s.at (ne_of h hp (by intro z; cases z)) h
structure TapeLike (p:Addr) (Fd:Nat→Hp→Prop):Prop where
  but:∀ n D H1 H2,D≠p→SameBut D H1 H2→Fd n H1→Fd n H2
  same:∀ n H1 H2,Same H1 H2→Fd n H1→Fd n H2
  dic:∀ n H',Fd n H'→∃ xs,H' p=some (.dK xs)
section
variable {σ:St} {js:List Nat} {te:TE} {H:Hp} {Q:VK}
theorem TapeLike.np {p:Addr} {Fd:Nat→Hp→Prop} (fl:TapeLike p Fd) {n:Nat} {H':Hp} {D:Addr} (F:Fd n H') (h:H' D=none):D≠p:=fun e=>by
  obtain ⟨xs,hp⟩:=fl.dic n H' F
  subst e; rw [hp] at h; cases h
theorem comp_tp {J:It} {n:Nat} {p:Addr} {Fd:Nat→Hp→Prop} (fl:TapeLike p Fd) (F0:Fd 0 H) (src:Nat→V→Prop) (R:Nat→V→Hp→Prop) (hR:∀ i y H1 H2,SameT H1 H2→R i y H1→R i y H2) (hz:n≤100000)
    (hg:∀ i H',SameBut p H H'→i<n→J.go i H'∧∀ x H3,J.yld i H' x H3→H3=H'∧src i x) (hst:∀ H',SameBut p H H'→J.stop n H')
    (hs:∀ i x H' (Q':VK),src i x→i<n→Fd i H'→SameBut p H H'→(∀ y H5,Fd (i+1) H5→SameBut p H' H5→R i y H5→Q' y H5)→te (some x::slots σ js) H' Q')
    (hd:∀ D ys H',H D=none→H' D=some (.lst ys)→Fd n H'→SameBut p H H'→ys.length=n→(∀ (i:Nat) (y:V),ys[i]?=some y→R i y H')→Q (.ref D) H'):CompB J σ js tYes te H Q:=by
  refine comp_any (J:=J) (n:=n) src hz (fun D i ys H'=>H D=none∧Fd i H'∧SameBut p H H'∧∀ (i:Nat) (y:V),ys[i]?=some y→R i y H') (fun D H1 hD _ s=>⟨hD,fl.same _ _ _ s F0,s.but,fun i y h=>by simp at h⟩)
    (fun D i ys H' hi _ q=>hg i H' q.2.2.1 hi) (fun D ys H' _ q=>hst H' q.2.2.1) (fun D i x ys H' hx hi hy hD q=>?_) (fun D ys H' hy hD hD' q=>hd D ys H' hD hD' q.2.1 q.2.2.1 hy q.2.2.2)
  have np:=fl.np F0 q.1
  refine hs i x H' _ hx hi q.2.1 q.2.2.1 fun y H5 F5 s5 r=>?_
  obtain ⟨xs,hp⟩:=fl.dic _ H' q.2.1
  have hD5:=s5.at np hD
  refine ⟨hD5,fun H6 hD6 s6=>⟨q.1,fl.but _ D _ _ np s6 F5,SameBut.thru q.1 (q.2.2.1.trans s5) s6,?_⟩⟩
  have t6:=s6.t hD5
  exact snoc_all (R:=fun j z=>R j z H6) (fun j z hj=>hR j z _ _ ((s5.tD hp).trans t6) (q.2.2.2 j z hj)) (by rw [hy]; exact hR i y _ _ t6 r)
theorem comp_tpR {lo:Int} {n:Nat} {p:Addr} {Fd:Nat→Hp→Prop} (fl:TapeLike p Fd) (F0:Fd 0 H) (R:Nat→V→Hp→Prop) (hR:∀ i y H1 H2,SameT H1 H2→R i y H1→R i y H2) (hz:n≤100000)
    (hs:∀ i H' (Q':VK),i<n→Fd i H'→SameBut p H H'→(∀ y H5,Fd (i+1) H5→SameBut p H' H5→R i y H5→Q' y H5)→te (some (.int (lo+(i:Nat)))::slots σ js) H' Q')
    (hd:∀ D ys H',H D=none→H' D=some (.lst ys)→Fd n H'→SameBut p H H'→ys.length=n→(∀ (i:Nat) (y:V),ys[i]?=some y→R i y H')→Q (.ref D) H'):CompB (Itr lo n) σ js tYes te H Q :=
  comp_tp fl F0 (fun i x=>x=.int (lo+(i:Nat))) R hR hz (fun i H' s hi=>⟨hi,fun x H3 y=>y⟩) (fun H' s=>Nat.le_refl _)
    (fun i x H' Q' hx hi f s k=>by subst hx; exact hs i H' Q' hi f s k) hd
end
end L2
set_option Elab.async false
set_option linter.all false
set_option maxRecDepth 100000
namespace L2
open PySem PySem.Spec PyProof.Rows
section
variable {X:Cx}
@[irreducible] def rCatU (K:PySem.W.Frag):R2:=fun x y H Q=>∃ a b xs ys,x=.ref a∧y=.ref b∧H a=some (.tup xs)∧H b=some (.tup ys)∧xs.length+ys.length≤1000∧∀ c H',Same H H'→H' c=some (.tup (xs++ys))→Q (.ref c) H'
theorem catU {K:PySem.W.Frag} {H:Hp} {Q:VK} {a b:Addr} {xs ys:List V} (h1:H a=some (.tup xs)) (h2:H b=some (.tup ys)) (hz:xs.length+ys.length≤1000) (k:∀ c H',Same H H'→H' c=some (.tup (xs++ys))→Q (.ref c) H'):rCatU K (.ref a) (.ref b) H Q:=by
  unfold rCatU; exact ⟨a,b,xs,ys,rfl,rfl,h1,h2,hz,k⟩
theorem op_catU (K:PySem.W.Frag) (hK:X.K=K:=by rfl):OpR X (binaryOp .Add) (rCatU K):=by
  subst hK
  unfold rCatU
  intro pins s σ H x y v u Q I rx ry h
  obtain ⟨a,b,xs,ys,rfl,rfl,ha,hb,hz,q⟩:=h
  by_cases hx:xs=[]
  · cases rx
    cases ry
    subst hx
    obtain ⟨its,r1,p1,_⟩:=I.tuple (SqT.of ha)
    obtain ⟨its2,r2,p2,_⟩:=I.tuple (SqT.of hb)
    cases r1
    obtain ⟨⟨cls,dd,data,sl⟩,ho,hc,n,hd⟩:=id p1
    obtain ⟨⟨cls2,dd2,data2,sl2⟩,ho2,hc2,n2,hd2⟩:=id p2
    simp only at hc hd hc2 hd2
    subst hc hd hc2 hd2
    exact concat_meets ⟨_,ho,rfl⟩ ⟨_,ho2,rfl⟩ noFill_tuple_add seq_tuple_add PySem.F.slot_tuple_add PySem.F.entry_tuple_add (PySem.F.args_tuple_add_2 _ _)
      (tuple_addW0 a b _ _ n n2 dd dd2 sl sl2 rfl) ⟨ho,ho2,⟨.ref b,H,I,rfl,q b H (Same.refl _) hb⟩⟩
  · refine op_catT pins s σ H _ _ v u Q I rx ry ⟨a,b,xs,ys,rfl,rfl,SqT.of ha,SqT.of hb,hx,Nat.le_trans hz (by decide),fun e=>?_,fun _ p hp=>q p _ (Same.upd hp) upd_same⟩
    subst e
    exact q a H (Same.refl _) (by rw [List.append_nil]; exact ha)
end
theorem int_rmul_tuple (a:Int) (t:Tok) (l:Addr) (items:Array Value) (n:Nat) (dd:Option Addr) (sl:Array (Option Value)) :
    Meets (Builtin.«int.__rmul__» ⟨[.int a t,.ref l],[]⟩) (fun _ R s=>s.heap.get? l=some { cls:=.type "tuple",dict:=dd,data:=.seq items n,slots:=sl }∧R (.ok (.ret Value.notImplemented)) s) :=
  .of_wp fun prog w A R s h=>by
    obtain ⟨hp,g,d,tk,os⟩:=s
    obtain ⟨hl,h⟩:=h
    wp_walk
    exact ⟨_,rfl,h⟩
theorem tuple_mulM (l:Addr) (items:Array Value) (n:Nat) (dd:Option Addr) (sl:Array (Option Value)) (k:Int) (u:Tok) (h0:2≤k) (h1:k≤64) (he:items.isEmpty=false) (hz:items.size≤64) (hsz:((List.replicate k.toNat items).foldl (· ++ ·) #[]).size≤sizeLine) :
    Meets (Builtin.«tuple.__mul__» ⟨[.ref l,.int k u],[]⟩) (fun _ R s=>s.heap.get? l=some { cls:=.type "tuple",dict:=dd,data:=.seq items n,slots:=sl }∧R (.ok (.ret (.ref s.heap.objs.size))) { s with heap:=s.heap.push { cls:=.type "tuple",data:=.seq ((List.replicate k.toNat items).foldl (· ++ ·) #[]) } }) :=
  .of_wp fun prog w A R s h=>by
    obtain ⟨hp,g,d,tk,os⟩:=s
    obtain ⟨hl,h⟩:=h
    have f1:=AutoSeq1.idx_int
    wp_walk using wpAny_loadPart' hl
    rw [if_neg (by simp; omega)]
    wp_walk using wpAny_loadPart' hl
    have he':¬ items=#[]:=fun z=>by simp [z] at he
    have hm:(items.size:Int)*k≤4096:=by
      have h2:(items.size:Int)*k≤64*64:=Int.mul_le_mul (by omega) h1 (by omega) (by omega)
      omega
    rw [if_neg (by simp; exact ⟨he',by omega⟩)]
    rw [if_neg (by simp; exact ⟨by omega,he'⟩)]
    show wpAny _ _ (if (items.size:Int)*k > (2^63 - 1) / 8 then _ else _) _ _ _
    rw [if_neg (by omega)]
    show wpAny _ _ (if Builtin.Tuple.tupleTooMany (items.size*k)=true then _ else _) _ _ _
    rw [if_neg (by unfold Builtin.Tuple.tupleTooMany; simp; exact Int.le_trans hm (by decide))]
    wp_walk
    exact ⟨_,rfl,h⟩
theorem noFill_tuple_mul:fillsNumberSlot (.type "tuple") "mul" = pure false:=PySem.fillsNumberSlot_seq (id := "tuple.__mul__") (r:=some (.builtin "tuple.__rmul__")) F.slot_tuple_mul.lookup (by decide +kernel) F.slot_tuple_rmul.lookup (by decide +kernel)
theorem repeat_tuple:seqRepeat? (.type "tuple")=pure (some (.builtin "tuple.__mul__")):=by
  unfold seqRepeat?; rw [PySem.seqSlot_of (T := "tuple") (name := "__mul__") (id := "tuple.__mul__") F.slot_tuple_mul.lookup (by decide +kernel),PySem.seqSlot_of (T := "tuple") (name := "__rmul__") (id := "tuple.__rmul__") F.slot_tuple_rmul.lookup (by decide +kernel)]; rfl
@[irreducible] def rMulT:R2:=fun x y H Q=>∃ a z,∃ k:Nat,x=.ref a∧y=.int (k:Int)∧H a=some (.tup [z])∧2≤k∧k≤64∧∀ c H',Same H H'→H' c=some (.tup (List.replicate k z))→Q (.ref c) H'
theorem mulT {H:Hp} {Q:VK} {a:Addr} {z:V} {k:Nat} (h:H a=some (.tup [z])) (h2:2≤k) (hk:k≤64) (q:∀ c H',Same H H'→H' c=some (.tup (List.replicate k z))→Q (.ref c) H'):rMulT (.ref a) (.int (k:Int)) H Q:=by
  unfold rMulT; exact ⟨a,z,k,rfl,rfl,h,h2,hk,q⟩
section
variable {X:Cx}
theorem op_mulT:OpR X (binaryOp .Mult) rMulT:=by
  unfold rMulT
  intro pins s σ H x y v u Q I rx ry h
  obtain ⟨a,z,k,rfl,rfl,hH,h2,hk,q⟩:=h
  cases rx
  obtain ⟨t,rfl⟩:=(show ∃ t,u=Value.int (k:Int) t from ry)
  obtain ⟨its,r,p,_⟩:=I.tuple (SqT.of hH)
  obtain ⟨w1,rfl,rw1⟩:=vals1 r
  obtain ⟨⟨cls,dd,data,sl⟩,ho,hc,n,hd⟩:=id p
  simp only at hc hd
  subst hc hd
  have flat1:∀ k:Nat,(List.replicate k [w1]).flatten=List.replicate k w1:=fun k=>by
    induction k with
    | zero=>rfl
    | succ k ih=>rw [List.replicate_succ,List.flatten_cons,ih,List.replicate_succ]; rfl
  have f0:List.foldl (fun x1 x2=>x1++x2) #[] (List.replicate k [w1].toArray)=(List.replicate k w1).toArray:=by
    have:=foldl_rep [w1] k []
    rw [List.nil_append,flat1] at this
    exact this
  have vr:∀ k:Nat,Vals (List.replicate k z) (List.replicate k w1):=fun k=>by
    induction k with
    | zero=>exact .nil
    | succ k ih=>exact .cons rw1 ih
  generalize hk':(k:Int)=kk
  have hkk:kk.toNat=k:=by omega
  refine wpAny_binaryOp_repeat_ref (T := "tuple") (U := "int") (by decide) ⟨_,ho,rfl⟩ (fun s'=>typeIs_int s' kk t) noFill_tuple_mul F.fills_int_mul F.slot_int_rmul repeat_tuple F.slot_int_index.lookup
    (call_meets F.slot_int_rmul (typeIs_int s kk t) F.entry_int_rmul (F.args_int_rmul_2 _ _) (int_rmul_tuple kk t a [w1].toArray n dd sl) ⟨ho,rfl,⟨_,ho,rfl⟩,?_⟩)
  refine call_meets F.slot_tuple_mul ⟨_,ho,rfl⟩ F.entry_tuple_mul (F.args_tuple_mul_2 _ _) (tuple_mulM a [w1].toArray n dd sl kk t (by omega) (by omega) rfl (by show 1≤64; decide) (by rw [hkk,f0,List.size_toArray,List.length_replicate]; exact Nat.le_trans hk (by decide))) ⟨ho,?_⟩
  rw [hkk,f0]
  refine ⟨.ref _,_,I.laid (t':=s.toks) (o:=.tup (List.replicate k z)) (fun b ob q=>Heap.get?_push_of_some _ q) (Nat.le_refl _) ?_,rfl,q _ _ (Same.upd (I.hok.fresh (Nat.le_refl _))) upd_same⟩
  exact ⟨⟨by rw [List.length_replicate]; exact small64 hk,_,Heap.get?_push_size _ rfl,rfl⟩,_,vr k,IsTup.new _ _⟩
end
end L2
set_option Elab.async false
set_option linter.all false
set_option maxRecDepth 100000
namespace L2
open PySem PySem.Spec PyProof.Rows
@[irreducible] def rExt:V→List V→Hp→VK→Prop:=rExtend
theorem mt_ext {X:Cx}:MtR X "list.extend" rExt:=by unfold rExt; exact mt_extend
theorem extL {H:Hp} {l b:Addr} {xs zs:List V} {Q:VK} (h:H l=some (.lst xs)) (h2:H b=some (.lst zs)) (hz:xs.length+zs.length≤1000) (k:∀ H',H' l=some (.lst (xs++zs))→SameBut l H H'→Q .non H'):rExt (.ref l) [.ref b] H Q:=by
  unfold rExt; exact ⟨l,b,xs,zs,rfl,rfl,h,h2,Nat.le_of_lt (small1000 hz),k _ upd_same SameBut.self⟩
section
variable {prog:Program} {w:World} {A:Around} {E:Value→Shared→Prop} {s:Shared} {l:Addr} {xs:Array (Int × Tok)}
theorem sum_tupG {Q:Value→Shared→Prop} (hh:A.handled=none) (hl:s.heap.IsTuple l (intItems xs))
    (h:∀ h' tk t',(∀ b o,s.heap.get? b=some o→h'.get? b=some o)→Q (.int (preSum (numAt xs) xs.size) t') { s with heap:=h',toks:=tk }) :
    wpAny (model prog w) A (call (.builtin "sum") [.ref l]) Q E s:=by
  have hlt:l<s.heap.objs.size:=by obtain ⟨_,e,_⟩:=hl; exact Heap.lt_size e
  refine call_sum_walkG (wpAny_pyIter_tuple hl ?_)
  refine ⟨_,[_,l],[_],_,_,_,numAt xs,rfl,Walks.tuple (A:=A.in1) hh _ l (Nat.ne_of_lt hlt) (intItems xs),⟨⟨_,Heap.get?_push_size _ rfl,rfl,rfl⟩,hl.push _⟩,fun c hc=>?_,(fun _ _=>intItems_at),fun h' tk t' hk=>?_⟩
  · show c<(s.heap.push _).objs.size
    rw [Heap.size_push]
    rcases List.mem_cons.mp hc with rfl | hc
    · exact Nat.lt_succ_self _
    · rcases List.mem_cons.mp hc with rfl | hc
      · exact Nat.lt_succ_of_lt hlt
      · cases hc
  · have:=h h' tk t' fun c o e=>by
      refine hk c o (fun hm=>?_) (Heap.get?_push_of_some _ e)
      rcases List.mem_cons.mp hm with e1 | hm
      · exact absurd (e1 ▸ Heap.lt_size e) (Nat.lt_irrefl _)
      · cases hm
    simpa [intItems] using this
end
@[irreducible] def rSumT (K:PySem.W.Frag):List V→Hp→VK→Prop:=fun xs H Q=>∃ (p:Addr) (ns:List Int),xs=[.ref p]∧SqT K H p (ns.map V.int)∧Q (.int ns.sum) H
theorem rsT {K:PySem.W.Frag} {H:Hp} {p:Addr} {ns:List Int} {Q:VK} (h:SqT K H p (ns.map V.int)) (q:Q (.int ns.sum) H):rSumT K [.ref p] H Q:=by unfold rSumT; exact ⟨p,ns,rfl,h,q⟩
theorem cl_sumT {X:Cx} (K:PySem.W.Frag) (hc:X.calm=true) (hK:X.K=K:=by rfl):CallR X (.builtin "sum") (rSumT K):=by
  subst hK
  unfold rSumT
  intro pins s σ H xs us Q I r h
  obtain ⟨p,ns,rfl,hq,q⟩:=h
  obtain ⟨u,rfl,rx⟩:=vals1 r
  cases rx
  obtain ⟨its,r',pl,hz⟩:=I.tuple hq
  have hi:=intsAre_of r'
  obtain ⟨xs',e⟩:=hi.allInts.items
  rw [e] at pl
  refine sum_tupG (I.ok.hd hc) pl fun h' tk t' hk=>⟨.int ns.sum,H,I.kept hk,⟨t',?_⟩,q⟩
  rw [preSum_eq,List.take_of_length_le (by simp)]
  rw [← hi.numsOf]
  have e2:its=(intItems xs').toList:=by rw [← e]
  rw [e2,nums_intItems]
section
variable {js:List Nat} {te:TE} {tc:TT} {σ:St} {H:Hp} {Q:VK}
theorem RepL.atI {α:Type} {g:α→PyData}:∀ {as:List α} {xs:List V},RepL H (as.map g) xs→∀ {i:Nat} {x:V},xs[i]?=some x→∃ a,as[i]?=some a∧Rep H (g a) x:=by
  intro as xs r i x e
  obtain ⟨d,h1,h2⟩:=r.get e
  rw [List.getElem?_map] at h1
  cases q:as[i]? with
  | none=>rw [q] at h1; cases h1
  | some a=>rw [q] at h1; cases h1; exact ⟨a,rfl,h2⟩
theorem comp_fltD {K:PySem.W.Frag} {a:Addr} {xs:List V} {α:Type} {g:α→PyData} {as:List α} (r:RepL H (as.map g) xs) (p:α→Bool) (hz:xs.length≤100000) (hl:H a=some (.lst xs))
    (ht:∀ x c H' (Q':Bool→Hp→Prop),c∈as→Rep H' (g c) x→Same H H'→(∀ H5,Same H' H5→Q' (p c) H5)→tc (some x::slots σ js) H' Q')
    (he:∀ x H' (Q':VK),Q' x H'→te (some x::slots σ js) H' Q')
    (hd:∀ D ys H',H D=none→H' D=some (.lst ys)→Same H H'→RepL H' ((as.filter p).map g) ys→Q (.ref D) H'):CompB (Itl K a) σ js tc te H Q:=by
  unfold CompB
  intro D hD
  have hlen:xs.length=as.length:=by rw [r.len,List.length_map]
  refine ⟨fun i m ys H'=>m=xs.length - i∧i≤xs.length∧H' D=some (.lst ys)∧Same H H'∧RepL H (((as.take i).filter p).map g) ys∧ys.length≤i,⟨xs.length,by simp,Nat.zero_le _,upd_same,Same.upd hD,RepL.nil,Nat.le_refl _⟩,?_⟩
  rintro i m ys H2 ⟨rfl,hi,hD2,s2,ry,hy⟩
  refine ⟨hD2,?_⟩
  by_cases hlt:i<xs.length
  · have hx:xs[i]?=some xs[i]:=List.getElem?_eq_getElem hlt
    refine .inr ⟨⟨xs,_,SqL.of (s2 _ _ hl),hx⟩,Nat.lt_of_le_of_lt (m:=100000) (by omega) (by decide),fun x H3 hy3=>?_⟩
    obtain ⟨rfl,hx3⟩:=hy3
    have hx3:=hx3 xs (SqL.of (s2 _ _ hl))
    obtain ⟨c,hc,rc⟩:=r.atI hx3
    have hti:as.take (i+1)=as.take i++[c]:=by rw [List.take_add_one,hc]; rfl
    refine ⟨fun b H4=>b=p c∧Same H3 H4,ht x c H3 _ (List.mem_of_getElem? hc) (rc.same s2) s2 fun H5 s5=>⟨rfl,s5⟩,?_⟩
    rintro b H4 ⟨rfl,s4⟩
    by_cases hp:p c=true
    · rw [if_pos hp]
      refine ⟨fun y H5=>y=x∧H5=H4,he x H4 _ ⟨rfl,rfl⟩,?_⟩
      rintro y H5 ⟨rfl,rfl⟩
      refine ⟨s4 _ _ hD2,_,?_,rfl,hlt,upd_same,Same.thru hD (s2.trans s4) SameBut.self,?_,?_⟩
      · omega
      · rw [hti,List.filter_append,List.map_append]
        have:List.filter p [c]=[c]:=by simp [hp]
        rw [this]
        exact RepL.snoc ry rc
      · rw [List.length_append,List.length_singleton]; omega
    · rw [if_neg hp]
      refine ⟨s4 _ _ hD2,_,?_,rfl,hlt,s4 _ _ hD2,s2.trans s4,?_,?_⟩
      · omega
      · rw [hti,List.filter_append]
        have:List.filter p [c]=[]:=by simp [hp]
        rw [this,List.append_nil]
        exact ry
      · omega
  · have e:i=xs.length:=by omega
    subst e
    refine .inl ⟨⟨xs,SqL.of (s2 _ _ hl),Nat.le_refl _⟩,hd D ys H2 hD hD2 s2 ?_⟩
    rw [hlen,List.take_length] at ry
    exact ry.same s2
end
end L2
set_option linter.all false
namespace Mf
def lw (n d:Int):Int × Int:=(n / (Int.gcd n d:Int),d / (Int.gcd n d:Int))
structure Low (n d:Int):Prop where
  pos:0<d
  low:Int.gcd n d=1
theorem gcd_pos {n d:Int} (h:0<d):0<(Int.gcd n d:Int):=by
  have:=Int.gcd_pos_of_ne_zero_right n (Int.ne_of_gt h)
  omega
theorem lw_low {n d:Int} (h:0<d):Low (lw n d).1 (lw n d).2:=by
  have g:=gcd_pos (n:=n) h
  refine ⟨?_,?_⟩
  · exact Int.ediv_pos_of_pos_of_dvd h (Int.le_of_lt g) (Int.gcd_dvd_right n d)
  · exact Int.gcd_ediv_gcd_ediv_gcd (by omega)
theorem lw_eq {n d:Int}:(lw n d).1*(Int.gcd n d:Int)=n∧(lw n d).2*(Int.gcd n d:Int)=d :=
  ⟨Int.ediv_mul_cancel (Int.gcd_dvd_left n d),Int.ediv_mul_cancel (Int.gcd_dvd_right n d)⟩
theorem lw_cross {n d:Int}:(lw n d).1*d=n*(lw n d).2:=by
  obtain ⟨e1,e2⟩:=lw_eq (n:=n) (d:=d)
  generalize (lw n d).1=a at *
  generalize (lw n d).2=b at *
  generalize (Int.gcd n d:Int)=g at *
  rw [← e1,← e2]
  rw [Int.mul_assoc,Int.mul_comm g b]
theorem dvd_cop {b a d:Int} (h:b ∣ a*d) (g:Int.gcd b a=1):b ∣ d:=by
  rw [← Int.natAbs_dvd_natAbs,Int.natAbs_mul] at h
  rw [← Int.natAbs_dvd_natAbs]
  rw [Int.gcd_eq_natAbs_gcd_natAbs] at g
  exact Nat.Coprime.dvd_of_dvd_mul_left g h
theorem low_uniq {a b c d:Int} (h1:Low a b) (h2:Low c d) (e:a*d=c*b):a=c∧b=d:=by
  have d1:b ∣ d:=by
    have:b ∣ a*d:=by rw [e]; exact Int.dvd_mul_left c b
    exact dvd_cop this (by rw [Int.gcd_comm]; exact h1.low)
  have d2:d ∣ b:=by
    have:d ∣ c*b:=by rw [← e]; exact Int.dvd_mul_left a d
    exact dvd_cop this (by rw [Int.gcd_comm]; exact h2.low)
  have hb:=h1.pos
  have hd:=h2.pos
  have e1:b=d:=Int.dvd_antisymm (Int.le_of_lt hb) (Int.le_of_lt hd) d1 d2
  subst e1
  exact ⟨Int.eq_of_mul_eq_mul_right (by omega) e,rfl⟩
theorem low_lw {a b n d:Int} (h:Low a b) (hd:0<d) (e:a*d=n*b):lw n d=(a,b):=by
  have c:=lw_cross (n:=n) (d:=d)
  have q:=low_uniq (lw_low (n:=n) hd) h (by
    have hd':d≠0:=by omega
    apply Int.eq_of_mul_eq_mul_right hd'
    calc (lw n d).1*b*d=((lw n d).1*d)*b:=by rw [Int.mul_assoc,Int.mul_comm b d,← Int.mul_assoc]
      _=(n*(lw n d).2)*b:=by rw [c]
      _=(n*b)*(lw n d).2:=by rw [Int.mul_assoc,Int.mul_comm (lw n d).2 b,← Int.mul_assoc]
      _=(a*d)*(lw n d).2:=by rw [e]
      _=a*(lw n d).2*d:=by rw [Int.mul_assoc,Int.mul_comm d,← Int.mul_assoc])
  exact Prod.ext q.1 q.2
theorem lw_self {a b:Int} (h:Low a b):lw a b=(a,b):=low_lw h h.pos rfl
theorem cop_mul {u a b:Int} (h1:Int.gcd u a=1) (h2:Int.gcd u b=1):Int.gcd u (a*b)=1:=by
  rw [Int.gcd_eq_natAbs_gcd_natAbs] at *
  rw [Int.natAbs_mul]
  exact Nat.Coprime.mul_right h1 h2
theorem cop_of_dvd {a b c:Int} (h:Int.gcd a b=1) (d:c ∣ b):Int.gcd a c=1:=by
  have:=Int.gcd_dvd_gcd_of_dvd_right a d
  rw [h] at this
  exact Nat.eq_one_of_dvd_one this
theorem cop_of_dvd_left {a b c:Int} (h:Int.gcd a b=1) (d:c ∣ a):Int.gcd c b=1:=by
  rw [Int.gcd_comm] at *; exact cop_of_dvd h d
theorem plus_eq {a b c d:Int} (h1:Low a b) (h2:Low c d) :
    let g:Int:=Int.gcd b d
    let u:=a*(d / g)+c*(b / g)
    let l:Int:=Int.gcd u g
    lw (a*d+c*b) (b*d)=(u / l,(b / g)*(d / l)):=by
  intro g u l
  have hg:0<g:=gcd_pos h2.pos
  have hl:0<l:=gcd_pos hg
  obtain ⟨b',eb⟩:=Int.gcd_dvd_left b d
  obtain ⟨d',ed⟩:=Int.gcd_dvd_right b d
  have eb:b=g*b':=eb
  have ed:d=g*d':=ed
  have qb:b / g=b':=by rw [eb]; exact Int.mul_ediv_cancel_left _ (by omega)
  have qd:d / g=d':=by rw [ed]; exact Int.mul_ediv_cancel_left _ (by omega)
  have eu:u=a*d' + c*b':=by show a*(d / g)+c*(b / g)=_; rw [qb,qd]
  have cbd:Int.gcd b' d'=1:=by
    have:=Int.gcd_ediv_gcd_ediv_gcd (i:=b) (j:=d) (by have:0<(Int.gcd b d:Int):=hg; omega)
    have h:Int.gcd (b / g) (d / g)=1:=this
    rwa [qb,qd] at h
  have cab:Int.gcd a b'=1:=cop_of_dvd h1.low ⟨g,by rw [eb,Int.mul_comm]⟩
  have ccd:Int.gcd c d'=1:=cop_of_dvd h2.low ⟨g,by rw [ed,Int.mul_comm]⟩
  have ub:Int.gcd u b'=1:=by
    rw [eu,Int.add_comm,Int.gcd_mul_right_add_left,Int.gcd_mul_right_left_of_gcd_eq_one cab,Int.gcd_comm]; exact cbd
  have ud:Int.gcd u d'=1:=by
    rw [eu,Int.gcd_mul_right_add_left,Int.gcd_mul_right_left_of_gcd_eq_one ccd]; exact cbd
  obtain ⟨u',eu'⟩:=Int.gcd_dvd_left u g
  obtain ⟨g',eg'⟩:=Int.gcd_dvd_right u g
  have eu':u=l*u':=eu'
  have eg':g=l*g':=eg'
  have qu:u / l=u':=by rw [eu']; exact Int.mul_ediv_cancel_left _ (by omega)
  have qdl:d / l=g' * d':=by rw [ed,eg',Int.mul_assoc]; exact Int.mul_ediv_cancel_left _ (by omega)
  have cug:Int.gcd u' g'=1:=by
    have:=Int.gcd_ediv_gcd_ediv_gcd (i:=u) (j:=g) (by have:0<(Int.gcd u g:Int):=hl; omega)
    have h:Int.gcd (u / l) (g / l)=1:=this
    rw [qu] at h
    rwa [show g / l=g' from by rw [eg']; exact Int.mul_ediv_cancel_left _ (by omega)] at h
  rw [qu,qb,qdl]
  have hu':u' ∣ u:=⟨l,by rw [eu',Int.mul_comm]⟩
  have hb':0<b':=by
    have:=h1.pos; rw [eb] at this; exact Int.pos_of_mul_pos_right this (by omega)
  have hd':0<d':=by
    have:=h2.pos; rw [ed] at this; exact Int.pos_of_mul_pos_right this (by omega)
  have hg':0<g':=by
    have:=hg; rw [eg'] at this; exact Int.pos_of_mul_pos_right this (by omega)
  refine low_lw ⟨Int.mul_pos hb' (Int.mul_pos hg' hd'),?_⟩ (Int.mul_pos h1.pos h2.pos) ?_
  · exact cop_mul (cop_of_dvd_left ub hu') (cop_mul cug (cop_of_dvd_left ud hu'))
  · have e1:a*d+c*b=g*(l*u'):=by
      rw [← eu',eu,eb,ed]
      rw [Int.mul_add,Int.mul_left_comm a,Int.mul_left_comm c]
    rw [e1,eb,ed]
    generalize hG:g=G at *
    rw [eg']
    simp only [Int.mul_assoc,Int.mul_left_comm,Int.mul_comm]
end Mf
set_option linter.all false
namespace Mf
abbrev Fr:=Int × Int
def addF (x y:Fr):Fr:=lw (x.1*y.2+y.1*x.2) (x.2*y.2)
def totF (fs:List Fr):Fr:=fs.foldl addF (0,1)
def LowF (f:Fr):Prop:=Low f.1 f.2
theorem rev_ind {α:Type} {P:List α→Prop} (h0:P []) (hs:∀ l a,P l→P (l++[a])) (l:List α):P l:=by
  have:∀ r:List α,P r.reverse:=by
    intro r
    induction r with
    | nil=>exact h0
    | cons a r ih=>rw [List.reverse_cons]; exact hs _ _ ih
  have:=this l.reverse
  rwa [List.reverse_reverse] at this
theorem totF_snoc (l:List Fr) (a:Fr):totF (l++[a])=addF (totF l) a:=by unfold totF; rw [List.foldl_append]; rfl
end Mf
set_option Elab.async false
set_option linter.all false
namespace Mf
theorem lw_congr {n d n' d':Int} (hd:0<d) (hd':0<d') (e:n*d'=n' * d):lw n d=lw n' d':=by
  have h:=lw_low (n:=n') hd'
  have c:=lw_cross (n:=n') (d:=d')
  generalize lw n' d'=L at c h
  refine low_lw (a:=L.1) (b:=L.2) h hd ?_
  refine Int.eq_of_mul_eq_mul_right (a:=d') (by omega) ?_
  calc L.1*d*d'=(L.1*d')*d:=by ac_rfl
    _=n' * L.2*d:=by rw [c]
    _=(n' * d)*L.2:=by ac_rfl
    _=n*d' * L.2:=by rw [e]
    _=n*L.2*d':=by ac_rfl
theorem add_lw {a b c d:Int} (hb:0<b) (hd:0<d):addF (lw a b) (lw c d)=lw (a*d+c*b) (b*d):=by
  have h1:=(lw_low (n:=a) hb).pos
  have h2:=(lw_low (n:=c) hd).pos
  refine lw_congr (Int.mul_pos h1 h2) (Int.mul_pos hb hd) ?_
  have e1:=lw_cross (n:=a) (d:=b)
  have e2:=lw_cross (n:=c) (d:=d)
  generalize lw a b=L at *
  generalize lw c d=M at *
  rw [Int.add_mul,Int.add_mul]
  congr 1
  · calc L.1*M.2*(b*d)=(L.1*b)*(M.2*d):=by ac_rfl
      _=(a*L.2)*(M.2*d):=by rw [e1]
      _=a*d*(L.2*M.2):=by ac_rfl
  · calc M.1*L.2*(b*d)=(M.1*d)*(L.2*b):=by ac_rfl
      _=(c*M.2)*(L.2*b):=by rw [e2]
      _=c*b*(L.2*M.2):=by ac_rfl
theorem lw_zero {d:Int} (h:0<d):lw 0 d=(0,1):=low_lw (a:=0) (b:=1) ⟨by decide,by decide⟩ h (by omega)
theorem lw_one {d:Int} (h:0<d):lw d d=(1,1):=low_lw (a:=1) (b:=1) ⟨by decide,by decide⟩ h (by omega)
theorem tot_parts {S:Int} (hS:0<S) (ps:List Int):totF (ps.map fun p=>lw p S)=lw ps.sum S:=by
  induction ps using rev_ind with
  | h0=>rw [show ([]:List Int).sum=0 from rfl,lw_zero hS]; rfl
  | hs l a ih =>
    rw [List.map_append,List.map_cons,List.map_nil,totF_snoc,ih,add_lw hS hS,List.sum_append]
    refine lw_congr (Int.mul_pos hS hS) hS ?_
    rw [show ([a]:List Int).sum=a by simp,← Int.add_mul,Int.mul_assoc]
end Mf
set_option Elab.async false
set_option linter.all false
namespace Mf
end Mf
set_option Elab.async false
set_option linter.all false
namespace Mf
end Mf
set_option Elab.async false
set_option linter.all false
set_option maxRecDepth 100000
namespace L2
open PySem PySem.Spec PyProof.Rows
theorem wt_mono {X:Cx} {e:Expr} {t:TT} (h:PTw X e t):PTw X e (tMono t):=⟨h.p.mono⟩
end L2
set_option Elab.async false
set_option linter.all false
set_option maxRecDepth 100000
namespace HT
open PySem PyProof.Rows
section
variable {prog:Program} {w:World} {A:Around} {E:Value→Shared→Prop} {s:Shared}
theorem getItem_tuple_whole {t sl:Addr} {items:Array Value} {vl vu:Value} {lo hi:Option Int} {Q:Value→Shared→Prop} (ht:IsTup s.heap t items) (hs:s.heap.IsSliceOf sl vl vu .none) (pl:IsPart vl lo) (pu:IsPart vu hi)
    (h0:sIx items.size 0 lo=0) (h1:sIx items.size items.size hi=items.size) (h:Q (.ref t) s):wpAny (model prog w) A (getItem (.ref t) (.ref sl)) Q E s:=by
  obtain ⟨os,hos,hcs,hds⟩:=id hs
  have hTs:s.TypeIs (.ref sl) "slice" := ⟨os,hos,hcs⟩
  have hTt:s.TypeIs (.ref t) "tuple" := ht.typeIs
  unfold getItem
  try with_reducible refine wpAny_holding ?_
  first | refine wpAny_bind (wpAny_pure ?_) | skip
  refine wpAny_bind (wpAny_sequenceKey ht.typeIs (by decide) ?_)
  refine wpAny_bind (wpAny_callSpecial?_slot (name:=Str.ofString "__getitem__") ht.typeIs PyProof.Rows.slot_tuple_getitem
    (wpAny_call_entry PyProof.Rows.slot_tuple_getitem ht.typeIs entry_tuple_getitem ?_ (args_tuple_getitem _ _)))
  show wpAny _ _ (Builtin.Tuple.tupleItemsOf (.ref t) >>= _) _ _ s
  refine wpAny_bind (tupleItemsOf_ ht ?_)
  refine wpAny_bind (wpAny_typeOf hTs ?_)
  rw [if_pos (by decide)]
  refine wpAny_bind (sliceApplied_gen hs pl pu ?_)
  have hyes:(((sIx items.size 0 lo:Nat):Int) == 0&&(1:Int) == 1&&(sIx items.size items.size hi - sIx items.size 0 lo) == items.size)=true:=by
    rw [h0,h1]; simp
  show wpAny _ _ (if (((sIx items.size 0 lo:Nat):Int) == 0&&(1:Int) == 1&&(sIx items.size items.size hi - sIx items.size 0 lo) == items.size)=true then _ else _) _ _ s
  rw [if_pos hyes]
  unfold Builtin.Tuple.tupleIsExact
  refine wpAny_bind (wpAny_bind (wpAny_typeOf hTt (wpAny_pure ?_)))
  rw [if_pos (by decide)]
  refine wpAny_bind (wpAny_rule ?_)
  first
    | exact wpAny_pure ⟨_,rfl,wpAny_pure h⟩
    | exact wpAny_bind (wpAny_pure (wpAny_pure ⟨_,rfl,wpAny_pure h⟩))
end
end HT
namespace L2
open PySem PySem.W PySem.Spec PySem.Calls PyProof.Rows
theorem cutV_whole {xs:List V} {lo hi:Option Int} (h0:HT.sIx xs.length 0 lo=0) (h1:HT.sIx xs.length xs.length hi=xs.length):cutV xs lo hi=xs:=by
  unfold cutV
  rw [h0,h1]; simp
section
variable {X:Cx}
@[irreducible] def rSlA (K:PySem.W.Frag):V→Option Int→Option Int→Hp→VK→Prop:=fun x lo hi H Q=>∃ a xs,x=.ref a∧H a=some (.tup xs)∧∀ c H',Same H H'→H' c=some (.tup (cutV xs lo hi))→Q (.ref c) H'
theorem sl_tupA (K:PySem.W.Frag) (hK:X.K=K:=by rfl):SlR X (rSlA K):=by
  unfold rSlA
  subst hK
  intro pins s σ H x v vl vu lo hi sl Q I rx hs pl pu h
  obtain ⟨a,xs,rfl,hx,q⟩:=h
  by_cases hw:HT.sIx xs.length 0 lo=0∧HT.sIx xs.length xs.length hi=xs.length
  · cases rx
    obtain ⟨its,r,ht,hz⟩:=I.tuple (SqT.of hx)
    have hlen:its.toArray.size=xs.length:=by rw [List.size_toArray]; exact r.length.symm
    refine ⟨"tuple",_,PyProof.Rows.slot_tuple_getitem.lookup,ht.typeIs,?_⟩
    refine HT.getItem_tuple_whole ht hs pl pu (by rw [hlen]; exact hw.1) (by rw [hlen]; exact hw.2) ?_
    exact ⟨.ref a,H,I,rfl,q a H (Same.refl _) (by rw [cutV_whole hw.1 hw.2]; exact hx)⟩
  · exact sl_tup pins s σ H (.ref a) v vl vu lo hi sl Q I rx hs pl pu ⟨a,xs,rfl,SqT.of hx,hw,fun p hp=>q p _ (Same.upd hp) upd_same⟩
theorem slA_hi {K:PySem.W.Frag} {H:Hp} {a:Addr} {xs:List V} {k:Nat} {Q:VK} (h:H a=some (.tup xs)) (q:∀ c H',Same H H'→H' c=some (.tup (xs.take k))→Q (.ref c) H'):rSlA K (.ref a) none (some (k:Int)) H Q:=by
  unfold rSlA
  exact ⟨a,xs,rfl,h,fun c H' s e=>q c H' s (by rw [e,cutV_hi])⟩
theorem slA_lo {K:PySem.W.Frag} {H:Hp} {a:Addr} {xs:List V} {k:Nat} {Q:VK} (h:H a=some (.tup xs)) (q:∀ c H',Same H H'→H' c=some (.tup (xs.drop k))→Q (.ref c) H'):rSlA K (.ref a) (some (k:Int)) none H Q:=by
  unfold rSlA
  exact ⟨a,xs,rfl,h,fun c H' s e=>q c H' s (by rw [e,cutV_lo])⟩
end
end L2
set_option Elab.async false
set_option linter.all false
set_option maxRecDepth 100000
namespace HT
open PySem PySem.W PyProof.Rows
def KasAll {α:Type} (n:Nat) (lt:Nat→Nat→Bool) (R:α→Prop):KasT α→Prop
  | .ret a=>R a
  | .ask i j k=>i<n∧j<n∧KasAll n lt R (k (lt i j))
section
variable {n:Nat} {lt:Nat→Nat→Bool}
theorem KasAll.bind {α β:Type} {R:α→Prop} {S:β→Prop} {f:α→KasT β}:∀ {t:KasT α},KasAll n lt R t→(∀ a,R a→KasAll n lt S (f a))→KasAll n lt S (t.bind f)
  | .ret a,h,k=>k a h
  | .ask i j t,⟨h1,h2,h3⟩,k=>⟨h1,h2,KasAll.bind (t:=t (lt i j)) h3 k⟩
theorem KasAll.wp {α:Type} {R:α→Prop} {cmp:Nat→Nat→(Bool→Shared→Prop)→Shared→Prop} {Q:α→Shared→Prop} {s:Shared} (hc:∀ i j C,i<n→j<n→C (lt i j) s→cmp i j C s) (q:∀ a,R a→Q a s) :
    ∀ {t:KasT α},KasAll n lt R t→t.kasWp cmp Q s
  | .ret a,h=>q a h
  | .ask i j t,⟨h1,h2,h3⟩=>hc i j _ h1 h2 (KasAll.wp (t:=t (lt i j)) hc q h3)
def Good (n:Nat) (p:Array Nat):Prop:=p.Perm (List.toArray (List.range n))
theorem Good.bd {p:Array Nat} (g:Good n p) (hn:0<n) (i:Nat):p.getD i 0<n:=by
  by_cases hi:i<p.size
  · have e:p.getD i 0=p[i]:=by simp [Array.getD,hi]
    rw [e]
    have m:p[i]∈List.toArray (List.range n):=(Array.Perm.mem_iff g).mp (Array.getElem_mem hi)
    simpa using m
  · have e:p.getD i 0=0:=by simp [Array.getD,hi]
    rw [e]; exact hn
theorem Good.rev {p:Array Nat} (g:Good n p) (i j:Nat):Good n (kas_rev p i j):=(mirror_perm p i j _).trans g
theorem Good.bub {p:Array Nat} (g:Good n p) (i j:Nat):Good n (bubble p i j):=(bubble_perm p i j).trans g
theorem all_asc {p:Array Nat} (g:Good n p) (hn:0<n):∀ (f m:Nat),KasAll n lt (fun _=>True) (kas_asc p f m)
  | 0,m=>True.intro
  | f+1,m=>⟨g.bd hn _,g.bd hn _,by
    cases lt (p.getD m 0) (p.getD (m - 1) 0) with
    | true=>exact True.intro
    | false=>exact all_asc g hn f (m+1)⟩
theorem all_desc (hn:0<n):∀ (f:Nat) {p:Array Nat} (g:Good n p) (m q:Nat),KasAll n lt (fun r=>Good n r.1) (kas_desc f p m q)
  | 0,p,g,m,q=>g
  | f+1,p,g,m,q=>by
    refine ⟨g.bd hn _,g.bd hn _,?_⟩
    cases lt (p.getD m 0) (p.getD (m - 1) 0) with
    | true =>
      show KasAll n lt _ (if q > 0 then _ else _)
      split
      · exact all_desc hn f (g.rev _ _) _ _
      · exact all_desc hn f g _ _
    | false =>
      refine ⟨g.bd hn _,g.bd hn _,?_⟩
      cases lt (p.getD (m - 1) 0) (p.getD m 0) with
      | true=>exact g
      | false=>exact all_desc hn f g _ _
theorem all_tail3 {p:Array Nat} (g:Good n p) (hn:0<n) (m r:Nat):KasAll n lt (fun r=>Good n r.2) (kas_tail3 m r p):=by
  unfold kas_tail3
  exact (all_asc (g.rev 0 m) hn _ _).bind fun _ _=>g.rev 0 m
theorem all_descPart {p:Array Nat} (g:Good n p) (hn:0<n) (m r:Nat):KasAll n lt (fun r=>Good n r.2) (kas_descPart m r p):=by
  unfold kas_descPart
  refine (all_desc hn _ g _ _).bind fun r hr=>?_
  split
  · exact all_tail3 (Good.rev hr _ _) hn _ _
  · exact all_tail3 hr hn _ _
theorem all_count {p:Array Nat} (g:Good n p) (hn:0<n) (m:Nat):KasAll n lt (fun r=>Good n r.2) (kas_count m p):=by
  unfold kas_count
  refine (all_asc g hn _ _).bind fun k _=>?_
  split
  · exact g
  · split
    · refine ⟨g.bd hn _,g.bd hn _,?_⟩
      cases lt (p.getD 0 0) (p.getD (k - 1) 0) with
      | true=>exact g
      | false=>exact all_descPart (g.rev _ _) hn _ _
    · exact all_descPart g hn _ _
theorem all_place {p:Array Nat} (g:Good n p) (hn:0<n) (k:Nat):∀ (f l r:Nat),KasAll n lt (fun _=>True) (kas_place p k f l r)
  | 0,l,r=>True.intro
  | f+1,l,r=>by
    unfold kas_place
    split
    · exact True.intro
    · refine ⟨g.bd hn _,g.bd hn _,?_⟩
      cases lt (p.getD k 0) (p.getD ((l+r) / 2) 0) with
      | true=>exact all_place g hn k f _ _
      | false=>exact all_place g hn k f _ _
theorem all_bin (hn:0<n):∀ (f:Nat) {p:Array Nat} (g:Good n p) (k:Nat),KasAll n lt (Good n) (kas_bin f p k)
  | 0,p,g,k=>g
  | f+1,p,g,k=>by
    unfold kas_bin
    exact (all_place g hn k _ _ _).bind fun l _=>all_bin hn f (g.bub _ _) _
theorem all_sort (hn:0<n):KasAll n lt (Good n) (kas_sort n):=by
  unfold kas_sort
  refine (all_count (Array.Perm.refl _) hn n).bind fun r hr=>?_
  split
  · exact all_bin hn _ hr _
  · exact hr
end
end HT
set_option Elab.async false
set_option linter.all false
set_option maxRecDepth 100000
namespace HT
open PySem PySem.W PyProof.Rows
structure Ord (n:Nat) (lt:Nat→Nat→Bool):Prop where
  tot:∀ i j,i<n→j<n→i≠j→lt i j=false→lt j i=true
  tra:∀ i j k,lt i j=true→lt j k=true→lt i k=true
def Asc (lt:Nat→Nat→Bool) (p:Array Nat) (m:Nat):Prop:=∀ a b,a<b→b<m→lt (p.getD a 0) (p.getD b 0)=true
def Dsc (lt:Nat→Nat→Bool) (p:Array Nat) (m:Nat):Prop:=∀ a b,a<b→b<m→lt (p.getD b 0) (p.getD a 0)=true
section
variable {n:Nat} {lt:Nat→Nat→Bool}
theorem KasAll.mono {α:Type} {R S:α→Prop} (k:∀ a,R a→S a):∀ {t:KasT α},KasAll n lt R t→KasAll n lt S t
  | .ret a,h=>k a h
  | .ask i j t,⟨h1,h2,h3⟩=>⟨h1,h2,KasAll.mono k (t:=t (lt i j)) h3⟩
theorem Good.size {p:Array Nat} (g:Good n p):p.size=n:=by
  have:=(Array.perm_iff_toList_perm.mp g).length_eq
  simpa using this
theorem Good.ne {p:Array Nat} (g:Good n p) {i j:Nat} (hi:i<n) (hj:j<n) (h:i≠j):p.getD i 0≠p.getD j 0:=by
  have hn:p.toList.Nodup:=(Array.perm_iff_toList_perm.mp g).nodup_iff.mpr (by simpa using List.nodup_range)
  have hs:=g.size
  have e1:p.getD i 0=p.toList[i]'(by simpa [hs] using hi):=by simp [Array.getD,hs,hi]
  have e2:p.getD j 0=p.toList[j]'(by simpa [hs] using hj):=by simp [Array.getD,hs,hj]
  rw [e1,e2]
  intro e
  exact h ((List.getElem_inj hn).mp e)
theorem Asc.one {p:Array Nat}:Asc lt p 1:=fun a b h1 h2=>by omega
theorem Asc.more (O:Ord n lt) {p:Array Nat} (g:Good n p) {m:Nat} (h:Asc lt p m) (h1:1≤m) (hm:m<n) (e:lt (p.getD m 0) (p.getD (m - 1) 0)=false):Asc lt p (m+1):=fun a b hab hb=>by
  by_cases q:b<m
  · exact h a b hab q
  · have e':b=m:=by omega
    subst e'
    have l1:lt (p.getD (b - 1) 0) (p.getD b 0)=true:=O.tot _ _ (g.bd (by omega) _) (g.bd (by omega) _) (g.ne (by omega) (by omega) (by omega)) e
    by_cases r:a=b - 1
    · rw [r]; exact l1
    · exact O.tra _ _ _ (h a (b - 1) (by omega) (by omega)) l1
theorem asc_run (O:Ord n lt) {p:Array Nat} (g:Good n p):∀ (f m:Nat),1≤m→m+f≤n→Asc lt p m→KasAll n lt (fun k=>m≤k∧k≤m+f∧Asc lt p k∧(k<m+f→lt (p.getD k 0) (p.getD (k - 1) 0)=true)) (kas_asc p f m)
  | 0,m,_,_,h=>⟨Nat.le_refl _,Nat.le_refl _,h,fun q=>by omega⟩
  | f+1,m,h1,hm,h=>by
    refine ⟨g.bd (by omega) _,g.bd (by omega) _,?_⟩
    cases e:lt (p.getD m 0) (p.getD (m - 1) 0) with
    | true=>exact ⟨Nat.le_refl _,by omega,h,fun _=>e⟩
    | false =>
      refine (show KasAll n lt _ (kas_asc p f (m+1)) from ?_)
      have ih:=asc_run O g f (m+1) (by omega) (by omega) (h.more O g h1 (by omega) e)
      exact KasAll.mono (fun k ⟨a1,a2,a3,a4⟩=>⟨by omega,by omega,a3,fun q=>a4 (by omega)⟩) ih
theorem Dsc.more (O:Ord n lt) {p:Array Nat} {m:Nat} (h:Dsc lt p m) (h1:1≤m) (e:lt (p.getD m 0) (p.getD (m - 1) 0)=true):Dsc lt p (m+1):=fun a b hab hb=>by
  by_cases q:b<m
  · exact h a b hab q
  · have e':b=m:=by omega
    subst e'
    by_cases r:a=b - 1
    · rw [r]; exact e
    · exact O.tra _ _ _ e (h a (b - 1) (by omega) (by omega))
theorem desc_run (O:Ord n lt) {p:Array Nat} (g:Good n p):∀ (f m:Nat),1≤m→m+f≤n→Dsc lt p m→KasAll n lt (fun r=>r.1=p∧r.2.2=0∧m≤r.2.1∧r.2.1≤m+f∧Dsc lt p r.2.1) (kas_desc f p m 0)
  | 0,m,_,_,h=>⟨rfl,rfl,Nat.le_refl _,Nat.le_refl _,h⟩
  | f+1,m,h1,hm,h=>by
    refine ⟨g.bd (by omega) _,g.bd (by omega) _,?_⟩
    cases e:lt (p.getD m 0) (p.getD (m - 1) 0) with
    | true =>
      refine (show KasAll n lt _ (kas_desc f p (m+1) 0) from ?_)
      exact KasAll.mono (fun r ⟨a1,a2,a3,a4,a5⟩=>⟨a1,a2,by omega,by omega,a5⟩) (desc_run O g f (m+1) (by omega) (by omega) (h.more O h1 e))
    | false =>
      refine ⟨g.bd (by omega) _,g.bd (by omega) _,?_⟩
      rw [O.tot _ _ (g.bd (by omega) _) (g.bd (by omega) _) (g.ne (by omega) (by omega) (by omega)) e]
      exact ⟨rfl,rfl,Nat.le_refl _,(show m≤m+(f+1) by omega),h⟩
theorem rev_at {p:Array Nat} {m i:Nat} (hm:m≤p.size):(kas_rev p 0 m).getD i 0=if i<m then p.getD (m - 1 - i) 0 else p.getD i 0:=by
  have e:=getElem?_mirror (xs:=p) (i:=0) (j:=m) hm (m / 2) (by omega) i
  have e':(kas_rev p 0 m)[i]?=if (0≤i∧i<0+m / 2)∨(m - m / 2≤i∧i<m) then p[0+m - 1 - i]? else p[i]?:=e
  have g:∀ (q:Array Nat) (k:Nat),q.getD k 0=q[k]?.getD 0:=fun q k=>by simp [Array.getD_eq_getD_getElem?]
  rw [g,e',g,g]
  by_cases h:i<m
  · rw [if_pos h]
    by_cases h2:(0≤i∧i<0+m / 2)∨(m - m / 2≤i∧i<m)
    · rw [if_pos h2,show 0+m - 1 - i=m - 1 - i by omega]
    · rw [if_neg h2,show m - 1 - i=i by omega]
  · rw [if_neg h,if_neg (by omega)]
theorem Dsc.rev {p:Array Nat} {m:Nat} (h:Dsc lt p m) (hm:m≤p.size):Asc lt (kas_rev p 0 m) m:=fun a b hab hb=>by
  rw [rev_at hm,rev_at hm,if_pos (by omega),if_pos hb]
  exact h _ _ (by omega) (by omega)
theorem count_run (O:Ord n lt) {p:Array Nat} (g:Good n p) (hn:2≤n):KasAll n lt (fun r=>Good n r.2∧1≤r.1∧r.1≤n∧Asc lt r.2 r.1) (kas_count n p):=by
  unfold kas_count
  refine (asc_run O g (n - 1) 1 (Nat.le_refl _) (by omega) Asc.one).bind fun k ⟨k1,k2,k3,k4⟩=>?_
  split
  · exact ⟨g,k1,by show k≤n; omega,k3⟩
  · rename_i hk
    have hkn:k≠n:=fun e=>hk (by simp [e])
    split
    · refine ⟨g.bd (by omega) _,g.bd (by omega) _,?_⟩
      rw [k3 0 (k - 1) (by omega) (by omega)]
      exact ⟨g,k1,by show k≤n; omega,k3⟩
    · have e1:k=1:=by omega
      subst e1
      unfold kas_descPart
      have d2:Dsc lt p 2:=fun a b hab hb=>by
        have e:a=0∧b=1:=by omega
        rw [e.1,e.2]; exact k4 (by omega)
      refine (desc_run O g (n - 2) 2 (by omega) (by omega) d2).bind fun r ⟨r1,r2,r3,r4,r5⟩=>?_
      obtain ⟨p',m,q⟩:=r
      dsimp only at r1 r2 r3 r4 r5 ⊢
      subst r1 r2
      rw [if_neg (by decide)]
      unfold kas_tail3
      have hs:=g.size
      refine (asc_run O (g.rev 0 m) (n - m) m (by omega) (by omega) (r5.rev (by omega))).bind fun k' ⟨a1,a2,a3,_⟩=>?_
      exact ⟨g.rev 0 m,(show 1≤k' by omega),(show k'≤n by omega),a3⟩
theorem place_run (O:Ord n lt) {p:Array Nat} (g:Good n p) {k:Nat} (hk:k<n) (h:Asc lt p k):∀ (f l r:Nat),l≤r→r≤k→r - l≤f→(∀ a,a<l→lt (p.getD a 0) (p.getD k 0)=true)→(∀ a,r≤a→a<k→lt (p.getD k 0) (p.getD a 0)=true) →
    KasAll n lt (fun m=>m≤k∧(∀ a,a<m→lt (p.getD a 0) (p.getD k 0)=true)∧∀ a,m≤a→a<k→lt (p.getD k 0) (p.getD a 0)=true) (kas_place p k f l r)
  | 0,l,r,h1,h2,h3,h4,h5=>⟨by omega,h4,fun a q1 q2=>h5 a (by omega) q2⟩
  | f+1,l,r,h1,h2,h3,h4,h5=>by
    unfold kas_place
    split
    · exact ⟨by omega,h4,fun a q1 q2=>h5 a (by omega) q2⟩
    · refine ⟨g.bd (by omega) _,g.bd (by omega) _,?_⟩
      cases e:lt (p.getD k 0) (p.getD ((l+r) / 2) 0) with
      | true =>
        refine (show KasAll n lt _ (kas_place p k f l ((l+r) / 2)) from ?_)
        refine place_run O g hk h f l ((l+r) / 2) (by omega) (by omega) (by omega) h4 fun a q1 q2=>?_
        by_cases q:a=(l+r) / 2
        · rw [q]; exact e
        · exact O.tra _ _ _ e (h _ _ (by omega) q2)
      | false =>
        refine (show KasAll n lt _ (kas_place p k f ((l+r) / 2+1) r) from ?_)
        have e2:=O.tot _ _ (g.bd (by omega) _) (g.bd (by omega) _) (g.ne hk (by omega) (by omega)) e
        refine place_run O g hk h f ((l+r) / 2+1) r (by omega) (by omega) (by omega) (fun a q1=>?_) h5
        by_cases q:a=(l+r) / 2
        · rw [q]; exact e2
        · exact O.tra _ _ _ (h a ((l+r) / 2) (by omega) (by omega)) e2
theorem bub_at {p:Array Nat} {k m i:Nat} (hk:k<p.size) (hm:m≤k):(bubble p k (k - m)).getD i 0=if i=m then p.getD k 0 else if m<i∧i≤k then p.getD (i - 1) 0 else p.getD i 0:=by
  have e:=getElem?_bubble (xs:=p) hk (k - m) (by omega) i
  have g:∀ (q:Array Nat) (k:Nat),q.getD k 0=q[k]?.getD 0:=fun q k=>by simp [Array.getD_eq_getD_getElem?]
  rw [g,e,g,g,g,show k - (k - m)=m by omega]
  by_cases h:i=m
  · rw [if_pos h,if_pos h]
  · rw [if_neg h,if_neg h]
    by_cases h2:m<i∧i≤k
    · rw [if_pos h2,if_pos h2]
    · rw [if_neg h2,if_neg h2]
theorem bin_run (O:Ord n lt):∀ (f:Nat) {p:Array Nat} (g:Good n p) (k:Nat),k+f=n→Asc lt p k→KasAll n lt (fun p=>Good n p∧Asc lt p n) (kas_bin f p k)
  | 0,p,g,k,hk,h=>⟨g,by rw [← hk]; exact h⟩
  | f+1,p,g,k,hk,h=>by
    unfold kas_bin
    refine (place_run O g (by omega) h k 0 k (by omega) (by omega) (by omega) (fun a q=>by omega) (fun a q1 q2=>by omega)).bind fun m ⟨m1,m2,m3⟩=>?_
    have hs:=g.size
    refine bin_run O f (g.bub _ _) (k+1) (by omega) fun a b hab hb=>?_
    rw [bub_at (by omega) m1,bub_at (by omega) m1]
    by_cases ha:a=m
    · rw [if_pos ha,if_neg (by omega),if_pos (by omega)]
      exact m3 _ (by omega) (by omega)
    · rw [if_neg ha]
      by_cases hb':b=m
      · rw [if_pos hb',if_neg (by omega)]
        exact m2 a (by omega)
      · rw [if_neg hb']
        by_cases q1:m<a∧a≤k
        · rw [if_pos q1,if_pos (by omega)]
          exact h _ _ (by omega) (by omega)
        · rw [if_neg q1]
          by_cases q2:m<b∧b≤k
          · rw [if_pos q2]
            exact h _ _ (by omega) (by omega)
          · rw [if_neg q2]
            exact h _ _ hab (by omega)
theorem sort_run (O:Ord n lt) (hn:2≤n):KasAll n lt (fun p=>Good n p∧Asc lt p n) (kas_sort n):=by
  unfold kas_sort
  refine (count_run O (Array.Perm.refl _) hn).bind fun r ⟨h1,h2,h3,h4⟩=>?_
  split
  · rename_i q
    rw [Nat.max_eq_left h2]
    exact bin_run O _ h1 _ (by omega) h4
  · rename_i q
    have e:r.1=n:=by omega
    exact ⟨h1,e ▸ h4⟩
end
end HT
set_option Elab.async false
set_option linter.all false
set_option maxRecDepth 100000
namespace L2
open PySem PySem.Spec PySem.W PyProof.Rows HT
theorem valsC {x:V} {xs:List V} {us:List Value} (r:Vals (x::xs) us):∃ u us',us=u::us'∧RelV x u∧Vals xs us':=by
  cases r with
  | cons h t=>exact ⟨_,_,rfl,h,t⟩
def lexF (fin:Bool):List Int→List Int→Bool
  | x::a,y::b=>if x=y then lexF fin a b else decide (x<y)
  | _,_=>fin
def lexB (a b:List Int):Bool:=lexF (decide (a.length<b.length)) a b
theorem lexB_nil (a:List Int):lexB a []=false:=by
  unfold lexB; cases a <;> rfl
theorem lexB_nc (y:Int) (b:List Int):lexB [] (y::b)=true:=by unfold lexB; rfl
theorem lexB_cc (x y:Int) (a b:List Int):lexB (x::a) (y::b)=if x=y then lexB a b else decide (x<y):=by
  show (if x=y then lexF (decide ((x::a).length<(y::b).length)) a b else decide (x<y))=_
  rw [List.length_cons,List.length_cons,show decide (a.length+1<b.length+1)=decide (a.length<b.length) by simp]
  rfl
theorem lex_tot:∀ {a b:List Int},a≠b→lexB a b=false→lexB b a=true
  | [],[],h,_=>absurd rfl h
  | [],y::b,_,e=>by rw [lexB_nc] at e; cases e
  | x::a,[],_,_=>lexB_nc _ _
  | x::a,y::b,h,e=>by
    rw [lexB_cc] at e ⊢
    by_cases q:x=y
    · subst q
      rw [if_pos rfl] at e ⊢
      exact lex_tot (fun z=>h (by rw [z])) e
    · rw [if_neg q] at e
      rw [if_neg (Ne.symm q)]
      have:=of_decide_eq_false e
      exact decide_eq_true (by omega)
theorem lex_tra:∀ {a b c:List Int},lexB a b=true→lexB b c=true→lexB a c=true
  | a,b,[],_,h=>by rw [lexB_nil] at h; cases h
  | [],b,z::c,_,_=>lexB_nc _ _
  | x::a,[],z::c,h,_=>by rw [lexB_nil] at h; cases h
  | x::a,y::b,z::c,h1,h2=>by
    rw [lexB_cc] at h1 h2 ⊢
    by_cases q1:x=y
    · subst q1
      rw [if_pos rfl] at h1
      by_cases q2:x=z
      · subst q2
        rw [if_pos rfl] at h2 ⊢
        exact lex_tra h1 h2
      · rw [if_neg q2] at h2 ⊢; exact h2
    · rw [if_neg q1] at h1
      have h1:=of_decide_eq_true h1
      by_cases q2:y=z
      · subst q2
        rw [if_neg q1]; exact decide_eq_true h1
      · rw [if_neg q2] at h2
        have h2:=of_decide_eq_true h2
        rw [if_neg (by omega)]; exact decide_eq_true (by omega)
abbrev ltC (cs:List (List Int)):Nat→Nat→Bool:=fun i j=>lexB (cs.getD i []) (cs.getD j [])
theorem ord_of {cs:List (List Int)} (h:cs.Nodup):Ord cs.length (ltC cs):=⟨fun i j hi hj ne e=>lex_tot (fun z=>by
    have e1:cs.getD i []=cs[i]:=by simp [hi]
    have e2:cs.getD j []=cs[j]:=by simp [hj]
    rw [e1,e2] at z
    exact ne ((List.getElem_inj h).mp z)) e,fun i j k h1 h2=>lex_tra h1 h2⟩
section
variable {prog:Program} {w:World} {A:Around} {E:Value→Shared→Prop} {s:Shared} {Q:Bool→Shared→Prop}
theorem katLex_ints {fin:Bool}:∀ {a b:List Int} {us vs:List Value} {i:Nat},Vals (a.map V.int) us→Vals (b.map V.int) vs→Q (lexF fin a b) s→KatLex prog w A true fin Q (us.zip vs) i s
  | [],b,us,vs,i,ha,hb,q=>by cases ha; exact kat_nil (by unfold lexF at q; exact q)
  | x::a,[],us,vs,i,ha,hb,q=>by
    cases hb
    cases us with
    | nil=>exact kat_nil (by unfold lexF at q; exact q)
    | cons u us=>exact kat_nil (by unfold lexF at q; exact q)
  | x::a,y::b,us,vs,i,ha,hb,q=>by
    rw [List.map_cons] at ha hb
    obtain ⟨u,us',rfl,⟨t,rfl⟩,ra⟩:=valsC ha
    obtain ⟨v,vs',rfl,⟨t',rfl⟩,rb⟩:=valsC hb
    rw [List.zip_cons_cons]
    refine kat_cons (wpAny_eqBool_int ?_)
    unfold lexF at q
    by_cases h:x=y
    · rw [if_pos h] at q
      rw [show (x == y)=true by simp [h]]
      exact kat_yes (katLex_ints ra rb q)
    · rw [if_neg h] at q
      rw [show (x == y)=false by simp [h]]
      refine kat_no ?_
      cases (true&&i == 0) with
      | true=>exact oneLt_int q
      | false=>exact kat_one _ _ (lt_int q)
def TupAt (h:Heap) (v:Value) (c:List Int):Prop:=∃ b its,v=.ref b∧IsTup h b (List.toArray its)∧Vals (c.map V.int) its∧c≠[]
abbrev TupsAt (h:Heap):List Value→List (List Int)→Prop:=Paired (TupAt h)
theorem TupsAt.get {h:Heap}:∀ {vs:List Value} {cs:List (List Int)} {i:Nat},TupsAt h vs cs→i<vs.length→TupAt h (vs.getD i Value.none) (cs.getD i [])
  | _,_,_,.nil,hi=>by simp at hi
  | _,_,0,.cons t r,hi=>t
  | v::vs,c::cs,i+1,.cons t r,hi=>by
    have:=TupsAt.get (i:=i) r (by simpa using hi)
    simpa using this
theorem TupsAt.firsts {h:Heap}:∀ {vs:List Value} {cs:List (List Int)},TupsAt h vs cs→∃ fs,KatTups h vs fs∧fs.length=vs.length∧∀ v∈fs,∃ i t,v=Value.int i t
  | _,_,.nil=>⟨[],KatTups.nil,rfl,fun v hv=>by cases hv⟩
  | v::vs,c::cs,.cons t r=>by
    obtain ⟨fs,h1,h2,h3⟩:=TupsAt.firsts r
    obtain ⟨b,its,rfl,⟨o,ho,hc,n,hd⟩,hv,hne⟩:=t
    cases c with
    | nil=>exact absurd rfl hne
    | cons x c =>
      rw [List.map_cons] at hv
      obtain ⟨u,us,rfl,⟨t,rfl⟩,_⟩:=valsC hv
      exact ⟨.int x t::fs,KatTups.cons ho hc hd (by simp) h1,by simp [h2],fun v hv=>by
        rcases List.mem_cons.mp hv with rfl | hv
        · exact ⟨_,_,rfl⟩
        · exact h3 v hv⟩
theorem TupsAt.keep {h h':Heap} (k:∀ b o,h.get? b=some o→o.cls=.type "tuple" → h'.get? b=some o):∀ {vs:List Value} {cs:List (List Int)},TupsAt h vs cs→TupsAt h' vs cs
  | _,_,.nil=>.nil
  | _,_,.cons ⟨b,its,e,⟨o,ho,hc,hd⟩,hv,hne⟩ r=>.cons ⟨b,its,e,⟨o,k b o ho hc,hc,hd⟩,hv,hne⟩ (TupsAt.keep k r)
theorem sort_any {n:Nat} {lt:Nat→Nat→Bool} (hn:2≤n):KasAll n lt (fun p=>Good n p∧(Ord n lt→Asc lt p n)) (kas_sort n):=by
  by_cases O:Ord n lt
  · exact KasAll.mono (fun p h=>⟨h.1,fun _=>h.2⟩) (sort_run O hn)
  · exact KasAll.mono (fun p h=>⟨h,fun z=>absurd z O⟩) (all_sort (by omega))
theorem sort_tups {a:Addr} {vs:List Value} {cs:List (List Int)} {n:Nat} {P:PySem.Fin→Shared→Prop} (ho:s.heap.get? a=some (seqObj "list" vs.toArray n)) (ht:TupsAt s.heap vs cs) (h64:vs.length<64)
    (h:∀ p:Array Nat,Good vs.length p→(Ord vs.length (ltC cs)→Asc (ltC cs) p vs.length)→P (.done (.ret .none)) { s with heap:=sortedHeap s.heap a vs (List.toArray (p.toList.map fun i=>vs.getD i Value.none)) }) :
    wpAny (model prog w) A (Builtin.«list.sort» ⟨[.ref a],[]⟩) P E s:=by
  rw [list_sort_plain]
  have ha:a<s.heap.objs.size:=Heap.lt_size ho
  refine wpAny_bind (listItems_at ho rfl ?_)
  refine wpAny_bind (listUpdate_at ho rfl ?_ (by rw [List.size_toArray,sizeLine_eq]; omega) (Nat.zero_le _))
  obtain ⟨e1,ho1⟩:∃ e1,(s.heap.update a (Obj.mapSeq fun _=>#[])).get? a=some (seqObj "list" #[] e1):=⟨_,get?_update_seq ho (fun _=>#[])⟩
  refine wpAny_bind (seqEpoch_at ho1 rfl ?_)
  refine wpAny_bind (wpAny_newTuple ?_ (by show vs.length≤_; rw [sizeLine_eq]; omega))
  refine wpAny_bind (wpAny_newList ?_ (Nat.zero_le _))
  refine wpAny_holding ?_
  have ho6:(((s.heap.update a (Obj.mapSeq fun _=>#[])).push (seqObj "tuple" vs.toArray 0)).push (seqObj "list" #[] 0)).get? a=some (seqObj "list" #[] e1):=by
    rw [Heap.get?_push_ne _ _ _ (by rw [size_push',Heap.size_update]; exact Nat.ne_of_lt (Nat.lt_succ_of_lt ha)),Heap.get?_push_ne _ _ _ (by rw [Heap.size_update]; exact Nat.ne_of_lt ha)]
    exact ho1
  show wpAny (model prog w) A _ P E { s with heap:=((s.heap.update a (Obj.mapSeq fun _=>#[])).push (seqObj "tuple" vs.toArray 0)).push (seqObj "list" #[] 0) }
  dsimp only
  have fin:∀ st':SortSt,∀ p:Array Nat,Good vs.length p→(Ord vs.length (ltC cs)→Asc (ltC cs) p vs.length)→(arrOf st').map (·.2)=List.toArray (p.toList.map fun i=>vs.getD i Value.none) →
      P (.done (.ret .none)) { s with heap:=sortedHeap s.heap a vs ((arrOf st').map (·.2)) }:=by
    intro st' p hp ho hs
    rw [hs]; exact h p hp ho
  have ht6:TupsAt (((s.heap.update a (Obj.mapSeq fun _=>#[])).push (seqObj "tuple" vs.toArray 0)).push (seqObj "list" #[] 0)) vs cs:=ht.keep fun b o hb hc=>by
    have hne:b≠a:=fun e=>by
      subst e; rw [ho] at hb; cases hb
      exact absurd (show Value.type "list" = Value.type "tuple" from hc) (by decide)
    exact Heap.get?_push_of_some _ (Heap.get?_push_of_some _ (by rw [Heap.get?_update_ne _ _ _ _ hne]; exact hb))
  by_cases h2:vs.toArray.size<2
  · rw [if_pos h2,if_pos h2]
    refine wpAny_bind (wpAny_pure ?_)
    rw [StateT.run_pure]
    refine wpAny_bind (wpAny_pure ?_)
    dsimp only
    refine wpAny_bind (seqEpoch_at ho6 rfl ?_)
    refine wpAny_bind (listUpdate_at ho6 rfl ?_ (hsz2:=by rw [Array.size_map]; show (pairsOf vs).size≤_; rw [pairsOf_size,sizeLine_eq]; omega))
    simp only [bne_self_eq_false,Bool.false_eq_true,if_false]
    refine wpAny_pure (fin (SortSt.mk' general' (vs.toArray.zip vs.toArray) #[] 7 none) (List.toArray (List.range vs.length)) (Array.Perm.refl _) (fun _ a b h1 h3=>by rw [List.size_toArray] at h2; omega) ?_)
    have e:=kat_snds (ks:=vs) (vs:=vs) (st:=SortSt.mk' general' (vs.toArray.zip vs.toArray) #[] 7 none) (p:=List.toArray (List.range vs.length)) rfl (by
      have e:=kas_range (vs.toArray.zip vs.toArray)
      rw [show (vs.toArray.zip vs.toArray).size=vs.length by simp] at e
      exact e.symm)
    exact e
  · rw [if_neg h2,if_neg h2]
    have hl2:2≤vs.length:=by rw [List.size_toArray] at h2; omega
    obtain ⟨fs,k1,k2,k3⟩:=ht6.firsts
    refine wpAny_bind (kat_kind (T:=.type "int") k1 (by omega) (fun v hv=>?_) rfl ?_)
    · obtain ⟨i,t,rfl⟩:=k3 v hv
      exact .now
    refine wpAny_bind (wpAny_mono (kat_run (ks:=vs) (vs:=vs) (G:=fun p s'=>s'={ s with heap:=((s.heap.update a (Obj.mapSeq fun _=>#[])).push (seqObj "tuple" vs.toArray 0)).push (seqObj "list" #[] 0) }∧Good vs.length p∧(Ord vs.length (ltC cs)→Asc (ltC cs) p vs.length))
      (Q:=fun st' s'=>s'={ s with heap:=((s.heap.update a (Obj.mapSeq fun _=>#[])).push (seqObj "tuple" vs.toArray 0)).push (seqObj "list" #[] 0) }∧failedOf st'=none∧∃ p:Array Nat,p.size=vs.length∧(Good vs.length p∧(Ord vs.length (ltC cs)→Asc (ltC cs) p vs.length))∧arrOf st'=p.map (kas_item (vs.toArray.zip vs.toArray)))
      rfl hl2 h64 (fun p' st' s' a1 a2 a3 a4=>⟨a4.1,a3,p',a1,a4.2,a2⟩)
      (KasAll.wp (n:=vs.length) (lt:=ltC cs) (R:=fun p=>Good vs.length p∧(Ord vs.length (ltC cs)→Asc (ltC cs) p vs.length)) (fun i j C hi hj hC=>?_) (fun p hp=>⟨rfl,hp⟩) (sort_any hl2))) ?_ fun _ _ e=>e)
    · obtain ⟨b,its,e1',⟨o,hb,hc,n',hd⟩,hv,_⟩:=ht6.get hi
      obtain ⟨b2,its2,e2',⟨o2,hb2,hc2,n2,hd2⟩,hv2,_⟩:=ht6.get hj
      unfold kas_ask
      rw [e1',e2']
      refine kat_lt hb hd hb2 hd2 ?_
      refine katLex_ints hv hv2 ?_
      have l1:=hv.length
      have l2:=hv2.length
      rw [List.length_map] at l1 l2
      rw [List.size_toArray,List.size_toArray,← l1,← l2]
      exact hC
    rintro ⟨⟨⟩,st'⟩ s' ⟨rfl,hf,p,hp,hg,har⟩
    dsimp only
    have hout:=kat_snds rfl har
    refine wpAny_bind (seqEpoch_at ho6 rfl ?_)
    refine wpAny_bind (listUpdate_at ho6 rfl ?_ (hsz2:=by rw [hout,List.size_toArray,List.length_map,Array.length_toList,hp,sizeLine_eq]; omega))
    rw [hf]
    simp only [bne_self_eq_false,Bool.false_eq_true,if_false]
    exact wpAny_pure (fin st' p hg.1 hg.2 hout)
theorem sorted_tups {l:Addr} {vs:List Value} {cs:List (List Int)} {Q:Value→Shared→Prop} (hl:s.heap.IsList l vs.toArray) (ht:TupsAt s.heap vs cs) (h64:vs.length<64)
    (h:∀ (p:Array Nat) (h':Heap) (D:Addr) (c:Nat),Good vs.length p→(Ord vs.length (ltC cs)→Asc (ltC cs) p vs.length)→(∀ b o,s.heap.get? b=some o→h'.get? b=some o)→s.heap.objs.size≤D→h'.get? D=some (seqObj "list" (List.toArray (p.toList.map fun i=>vs.getD i Value.none)) c)→Q (.ref D) { s with heap:=h' }) :
    wpAny (model prog w) A (call (.builtin "sorted") [.ref l]) Q E s:=by
  refine Calls.call_function_entry kind_sorted plain_sorted entry_sorted (args_sorted1 _) ?_
  unfold Builtin.«sorted»
  refine wpAny_bind (m:=checkCount "sorted" 1 1 _) (wpAny_pure ?_)
  refine wpAny_bind (collect_list hl ?_ (by rw [sizeLine_eq]; omega))
  refine wpAny_bind (wpAny_newList ?_ (by rw [sizeLine_eq]; omega))
  have hsz:((s.heap.push (seqObj "list" #[] 0)).update s.heap.objs.size (Obj.mapSeq (· ++ vs.toArray))).objs.size=s.heap.objs.size+1:=by
    rw [Heap.size_update,size_push']
  have hoL:(((s.heap.push (seqObj "list" #[] 0)).update s.heap.objs.size (Obj.mapSeq (· ++ vs.toArray))).push (seqObj "list" vs.toArray 0)).get? (s.heap.objs.size+1)=some (seqObj "list" vs.toArray 0):=by
    rw [← hsz]; exact Heap.get?_push_size _ rfl
  have keep:∀ b o,s.heap.get? b=some o→(((s.heap.push (seqObj "list" #[] 0)).update s.heap.objs.size (Obj.mapSeq (· ++ vs.toArray))).push (seqObj "list" vs.toArray 0)).get? b=some o:=fun b o q=>by
    have hlt:b<s.heap.objs.size:=Heap.lt_size q
    rw [Heap.get?_push_ne _ _ _ (by rw [hsz]; exact Nat.ne_of_lt (Nat.lt_succ_of_lt hlt)),Heap.get?_update_ne _ _ _ _ (Nat.ne_of_lt hlt),Heap.get?_push_ne _ _ _ (Nat.ne_of_lt hlt)]
    exact q
  show wpAny _ _ _ _ _ { s with heap:=((s.heap.push (seqObj "list" #[] 0)).update s.heap.objs.size (Obj.mapSeq (· ++ vs.toArray))).push (seqObj "list" vs.toArray 0) }
  rw [hsz]
  refine wpAny_bind (wpAny_holding (wpAny_call_entry slot_list_sort ⟨_,hoL,rfl⟩ entry_list_sort ?body (args_list_sort _)))
  generalize hH:((s.heap.push (seqObj "list" #[] 0)).update s.heap.objs.size (Obj.mapSeq (· ++ vs.toArray))).push (seqObj "list" vs.toArray 0)=h1 at *
  refine sort_tups (s:={ s with heap:=h1 }) hoL (ht.keep fun b o hb _=>keep b o hb) h64 fun p hp ho=>⟨_,rfl,wpAny_pure ⟨_,rfl,?_⟩⟩
  have hD:s.heap.objs.size+1<h1.objs.size:=Heap.lt_size hoL
  unfold sortedHeap
  have o1:(h1.update (s.heap.objs.size+1) (Obj.mapSeq fun _=>#[])).get? (s.heap.objs.size+1)=some (seqObj "list" #[] _):=get?_update_seq hoL (fun _=>#[])
  have o2:=Heap.get?_push_of_some (seqObj "list" #[] 0) (Heap.get?_push_of_some (seqObj "tuple" vs.toArray 0) o1)
  refine h p _ (s.heap.objs.size+1) _ hp ho (fun b o q=>?_) (Nat.le_succ _) (get?_update_seq o2 fun _=>List.toArray (p.toList.map fun i=>vs.getD i Value.none))
  have hlt:b<s.heap.objs.size:=Heap.lt_size q
  have hne:b≠s.heap.objs.size+1:=Nat.ne_of_lt (Nat.lt_succ_of_lt hlt)
  rw [Heap.get?_update_ne _ _ _ _ hne]
  exact Heap.get?_push_of_some _ (Heap.get?_push_of_some _ (by rw [Heap.get?_update_ne _ _ _ _ hne]; exact keep b o q))
end
@[irreducible] def rSorted (K:PySem.W.Frag):List V→Hp→VK→Prop:=fun xs H Q=>∃ (p:Addr) (ys:List V) (cs:List (List Int)),xs=[.ref p]∧SqL K H p ys∧RepL H (cs.map fun c=>PyData.tuple (c.map .int)) ys∧(∀ c∈cs,c≠[])∧ys.length<64 ∧
  ∀ q (ix:List Nat) H',ix.Perm (List.range ys.length)→(cs.Nodup→(ix.map fun i=>cs.getD i []).Pairwise fun a b=>lexB a b=true)→H q=none→H' q=some (.lst (ix.map fun i=>ys.getD i .non))→Same H H'→Q (.ref q) H'
theorem rsrt {K:PySem.W.Frag} {H:Hp} {Q:VK} {p:Addr} {ys:List V} {cs:List (List Int)} (h:SqL K H p ys) (r:RepL H (cs.map fun c=>PyData.tuple (c.map .int)) ys) (hc:∀ c∈cs,c≠[]) (hz:ys.length<64)
    (q:∀ q (ix:List Nat) H',ix.Perm (List.range ys.length)→(cs.Nodup→(ix.map fun i=>cs.getD i []).Pairwise fun a b=>lexB a b=true)→H q=none→H' q=some (.lst (ix.map fun i=>ys.getD i .non))→Same H H'→Q (.ref q) H'):rSorted K [.ref p] H Q:=by
  unfold rSorted; exact ⟨p,ys,cs,rfl,h,r,hc,hz,q⟩
theorem tups_of {X:Cx} {pins:List (Addr × Obj)} {σ:St} {H:Hp} {s:Shared} (I:Inv X pins σ H s):∀ {cs:List (List Int)} {ys:List V} {us:List Value},RepL H (cs.map fun c=>PyData.tuple (c.map .int)) ys→(∀ c∈cs,c≠[])→Vals ys us→TupsAt s.heap us cs
  | [],ys,us,r,hc,v=>by
    unfold RepL at r
    cases (show ys=[] from r)
    cases v
    exact .nil
  | c::cs,ys,us,r,hc,v=>by
    rw [List.map_cons] at r
    unfold RepL at r
    obtain ⟨y,ys',rfl,r1,r2⟩:=r
    obtain ⟨u,us',rfl,rv,v'⟩:=valsC v
    refine .cons ?_ (tups_of I r2 (fun c h=>hc c (List.mem_cons_of_mem _ h)) v')
    unfold Rep at r1
    obtain ⟨a,xs,rfl,h1,h2⟩:=r1
    cases rv
    obtain ⟨its,rr,pl,hzz⟩:=I.tuple (SqT.of h1)
    have hx:xs=c.map V.int:=by
      clear rr h1 hc hzz
      induction c generalizing xs with
      | nil=>unfold RepL at h2; exact h2
      | cons z c ih =>
        rw [List.map_cons] at h2
        unfold RepL at h2
        obtain ⟨x,xs',rfl,h3,h4⟩:=h2
        cases (show x=V.int z from h3)
        rw [ih _ h4]; rfl
    subst hx
    exact ⟨a,its,rfl,pl,rr,hc c (List.mem_cons_self ..)⟩
theorem vals_ix {ys:List V} {us:List Value} (v:Vals ys us):∀ ix:List Nat,(∀ i∈ix,i<ys.length)→Vals (ix.map fun i=>ys.getD i .non) (ix.map fun i=>us.getD i Value.none)
  | [],_=>.nil
  | i::ix,h=>by
    have hi:=h i (List.mem_cons_self ..)
    obtain ⟨u,hu,ru⟩:=v.get (i:=i) (x:=ys[i]) (by simp [hi])
    refine .cons ?_ (vals_ix v ix fun j hj=>h j (List.mem_cons_of_mem _ hj))
    have e1:ys.getD i .non=ys[i]:=by simp [hi]
    have e2:us.getD i Value.none=u:=by rw [List.getD_eq_getElem?_getD,hu]; rfl
    show RelV (ys.getD i .non) (us.getD i Value.none)
    rw [e1,e2]; exact ru
theorem cl_srt {X:Cx} (K:PySem.W.Frag) (hK:X.K=K:=by rfl):CallR X (.builtin "sorted") (rSorted K):=by
  subst hK
  unfold rSorted
  intro pins s σ H xs us Q I r h
  obtain ⟨p,ys,cs,rfl,hq,rep,hc,hz,q⟩:=h
  obtain ⟨u,rfl,rx⟩:=vals1 r
  cases rx
  obtain ⟨its,r',pl,hz'⟩:=I.list hq
  have hlen:=r'.length
  obtain ⟨o,n,ho,hcl,hdd,hd⟩:=pl
  refine sorted_tups ⟨o,ho,hcl,n,hd⟩ (tups_of I rep hc r') (by omega) fun pm h' D c hg ho keep hD hget=>?_
  have hperm:pm.toList.Perm (List.range ys.length):=by
    have:=(Array.perm_iff_toList_perm.mp hg)
    rw [hlen]; simpa using this
  have hlt:∀ i∈pm.toList,i<ys.length:=fun i hi=>by
    have:=hperm.mem_iff.mp hi
    simpa using this
  have hl2:(pm.toList.map fun i=>ys.getD i .non).length=ys.length:=by rw [List.length_map,hperm.length_eq,List.length_range]
  refine ⟨.ref D,upd H D (.lst (pm.toList.map fun i=>ys.getD i .non)),I.laid (t':=s.toks) keep hD ⟨by rw [hl2]; exact hz',_,c,vals_ix r' _ hlt,hget⟩,rfl,?_⟩
  have hn:=I.hok.fresh hD
  refine q D pm.toList _ hperm (fun hnd=>?_) hn upd_same (Same.upd hn)
  have lcs:cs.length=its.length:=by rw [← hlen,rep.len,List.length_map]
  have ha:=ho (lcs ▸ ord_of hnd)
  have hsz:=hg.size
  rw [List.pairwise_map,List.pairwise_iff_getElem]
  intro i j hi hj hij
  have hi':i<pm.size:=by simpa using hi
  have hj':j<pm.size:=by simpa using hj
  have e1:pm.toList[i]=pm.getD i 0:=by rw [Array.getElem_toList]; exact (by simp [Array.getD,hi']:pm.getD i 0=pm[i]).symm
  have e2:pm.toList[j]=pm.getD j 0:=by rw [Array.getElem_toList]; exact (by simp [Array.getD,hj']:pm.getD j 0=pm[j]).symm
  rw [e1,e2]
  exact ha i j hij (by rw [← hsz]; simpa using hj)
end L2
set_option Elab.async false
set_option linter.all false
set_option maxRecDepth 100000
namespace L2
open PySem PySem.Spec PySem.W PyProof.Rows HT
abbrev cD (c:List Int):PyData:=.tuple (c.map .int)
theorem eqvI (x y:Int):PyData.eqv (.int x) (.int y)=decide (x=y):=by
  show (x == y)=_
  rw [Bool.beq_eq_decide_eq]
theorem eqvIs:∀ a b:List Int,PyData.eqvAll (a.map PyData.int) (b.map PyData.int)=decide (a=b)
  | [],[]=>by simp [PyData.eqvAll]
  | [],_::_=>by simp [PyData.eqvAll]
  | _::_,[]=>by simp [PyData.eqvAll]
  | x::a,y::b=>by
    have ih:=eqvIs a b
    rw [List.map_cons,List.map_cons]
    show (PyData.eqv (.int x) (.int y)&&PyData.eqvAll _ _)=_
    rw [ih,eqvI]
    by_cases h:x=y <;> by_cases h':a=b <;> simp [h,h']
theorem eqvC (a b:List Int):PyData.eqv (cD a) (cD b)=decide (a=b):=eqvIs a b
theorem layIs:∀ a:List Int,PyData.canLayAll0 (a.map PyData.int)=true
  | []=>rfl
  | x::a=>by
    show (PyData.canLay0 (.int x)&&PyData.canLayAll0 (a.map PyData.int))=true
    rw [layIs a]; rfl
theorem depIs:∀ a:List Int,PyData.depthAll (a.map PyData.int)≤1
  | []=>by show 0≤1; omega
  | x::a=>by
    have:=depIs a
    show max (PyData.depth (.int x)) (PyData.depthAll (a.map PyData.int))≤1
    have:PyData.depth (.int x)≤1:=by simp [PyData.depth]
    omega
theorem cD_rep {H:Hp} {c:List Int} {v:V} (h:Rep H (cD c) v):∃ a,v=.ref a∧H a=some (.tup (c.map V.int)):=by
  unfold Rep at h
  obtain ⟨a,xs,rfl,h1,h2⟩:=h
  have hx:xs=c.map V.int:=by
    clear h1
    induction c generalizing xs with
    | nil=>unfold RepL at h2; exact h2
    | cons z c ih =>
      rw [List.map_cons] at h2
      unfold RepL at h2
      obtain ⟨x,xs',rfl,h3,h4⟩:=h2
      cases (show x=V.int z from h3)
      rw [ih _ h4]; rfl
  subst hx
  exact ⟨a,rfl,h1⟩
theorem map_int_inj {a b:List Int} (h:a.map V.int=b.map V.int):a=b:=by
  induction a generalizing b with
  | nil=>cases b with
    | nil=>rfl
    | cons _ _=>cases h
  | cons x a ih=>cases b with
    | nil=>cases h
    | cons y b =>
      rw [List.map_cons,List.map_cons] at h
      injection h with h1 h2
      injection h1 with h1
      rw [h1,ih h2]
open Classical in
noncomputable def eqC (H:Hp) (c:List Int) (u:Value):Bool:=decide (∃ b,u=.ref b∧H b=some (.tup (c.map V.int)))
section
variable {X:Cx} {pins:List (Addr × Obj)} {σ:St} {H:Hp} {s:Shared}
theorem eqC_at {c c':List Int} {y:V} {u:Value} (h:Rep H (cD c') y) (r:RelV y u):eqC H c u=decide (c'=c):=by
  obtain ⟨a,rfl,ha⟩:=cD_rep h
  cases r
  unfold eqC
  rw [Bool.eq_iff_iff]
  simp only [decide_eq_true_eq]
  constructor
  · rintro ⟨b,e2,hb⟩
    cases e2
    rw [ha] at hb
    injection hb with hb
    injection hb with hb
    exact map_int_inj hb
  · rintro rfl
    exact ⟨a,rfl,ha⟩
theorem eqC_any {c:List Int}:∀ {cs:List (List Int)} {ys:List V} {us:List Value},RepL H (cs.map cD) ys→Vals ys us→us.any (eqC H c)=decide (c∈cs)
  | [],ys,us,r,v=>by
    unfold RepL at r
    cases (show ys=[] from r)
    cases v
    rfl
  | c' :: cs,ys,us,r,v=>by
    rw [List.map_cons] at r
    unfold RepL at r
    obtain ⟨y,ys',rfl,r1,r2⟩:=r
    obtain ⟨u,us',rfl,rv,v'⟩:=valsC v
    rw [List.any_cons,eqC_at r1 rv,eqC_any r2 v']
    by_cases h:c'=c
    · subst h; simp
    · have h':¬ c=c':=fun e=>h e.symm
      simp [h,h']
theorem eqC_mem (I:Inv X pins σ H s) (hu:X.A.units+64<cLine) {c:List Int} {v:Value} {as:List Addr} (rc:Reads s.heap v (cD c) as):∀ {cs:List (List Int)} {ys:List V} {us:List Value},RepL H (cs.map cD) ys→Vals ys us →
    ∀ u∈us,SeqAt.EqAt X.A.in1 s u v (eqC H c u)
  | [],ys,us,r,vv=>by
    unfold RepL at r
    cases (show ys=[] from r)
    cases vv
    exact fun u hu=>by cases hu
  | c' :: cs,ys,us,r,vv=>by
    rw [List.map_cons] at r
    unfold RepL at r
    obtain ⟨y,ys',rfl,r1,r2⟩:=r
    obtain ⟨u,us',rfl,rv,v'⟩:=valsC vv
    intro u' hu'
    rcases List.mem_cons.mp hu' with rfl | hu'
    · obtain ⟨bs,rb⟩:=r1.reads I rv
      rw [eqC_at r1 rv,← eqvC]
      refine SeqAt.eqAt_reads (cD c') (cD c) _ s _ _ bs as rb rc (layIs c') (layIs c) ?_
      have h1:(cD c').depth≤2:=by
        have:=depIs c'
        simp only [PyData.depth]
        omega
      have:X.A.in1.units≤X.A.units+1:=by
        first
          | exact Nat.le_refl _
          | (unfold Around.in1; simp)
      omega
    · exact eqC_mem I hu rc r2 v' u' hu'
end
@[irreducible] def rInT (K:PySem.W.Frag) (neg:Bool):R2:=fun x y H Q=>∃ (p:Addr) (ys:List V) (cs:List (List Int)) (c:List Int),y=.ref p∧(SqL K H p ys∨SqT K H p ys)∧RepL H (cs.map cD) ys∧RepK K H (cD c) x∧Q (.bl (if neg then !decide (c∈cs) else decide (c∈cs))) H
theorem riT {K:PySem.W.Frag} {neg:Bool} {x:V} {p:Addr} {ys:List V} {cs:List (List Int)} {c:List Int} {H:Hp} {Q:VK} (h:SqL K H p ys∨SqT K H p ys) (r:RepL H (cs.map cD) ys) (rx:RepK K H (cD c) x) (q:Q (.bl (if neg then !decide (c∈cs) else decide (c∈cs))) H):rInT K neg x (.ref p) H Q:=by
  unfold rInT; exact ⟨p,ys,cs,c,rfl,h,r,rx,q⟩
section
variable {X:Cx}
theorem op_inT (K:PySem.W.Frag) (hu:X.A.units+64<cLine) (hK:X.K=K:=by rfl):OpR X (compareOp .In) (rInT K false):=by
  subst hK
  unfold rInT
  intro pins s σ H x y v u Q I rx ry h
  obtain ⟨p,ys,cs,c,rfl,hq,r,rc,q⟩:=h
  cases ry
  obtain ⟨as,ra⟩:=rc.reads I rx
  rcases hq with hq | hq
  · obtain ⟨its,r',pl,hz⟩:=I.list hq
    refine SeqAt.in_listAt (eqC H c) pl.isList (fun w hw=>eqC_mem I hu ra r r' w (by simpa using hw)) ⟨.bl _,H,I,rfl,?_⟩
    rw [show its.toArray.any (eqC H c)=its.any (eqC H c) by simp,eqC_any r r']
    exact q
  · obtain ⟨its,r',pl,hz⟩:=I.tuple hq
    refine SeqAt.in_tupleAt (eqC H c) pl (fun w hw=>eqC_mem I hu ra r r' w (by simpa using hw)) ⟨.bl _,H,I,rfl,?_⟩
    rw [show its.toArray.any (eqC H c)=its.any (eqC H c) by simp,eqC_any r r']
    exact q
theorem op_notinT (K:PySem.W.Frag) (hu:X.A.units+64<cLine) (hK:X.K=K:=by rfl):OpR X (compareOp .NotIn) (rInT K true):=by
  subst hK
  unfold rInT
  intro pins s σ H x y v u Q I rx ry h
  obtain ⟨p,ys,cs,c,rfl,hq,r,rc,q⟩:=h
  cases ry
  obtain ⟨as,ra⟩:=rc.reads I rx
  rcases hq with hq | hq
  · obtain ⟨its,r',pl,hz⟩:=I.list hq
    refine SeqAt.notIn_listAt (eqC H c) pl.isList (fun w hw=>eqC_mem I hu ra r r' w (by simpa using hw)) ⟨.bl _,H,I,rfl,?_⟩
    rw [show its.toArray.any (eqC H c)=its.any (eqC H c) by simp,eqC_any r r']
    exact q
  · obtain ⟨its,r',pl,hz⟩:=I.tuple hq
    refine SeqAt.notIn_tupleAt (eqC H c) pl (fun w hw=>eqC_mem I hu ra r r' w (by simpa using hw)) ⟨.bl _,H,I,rfl,?_⟩
    rw [show its.toArray.any (eqC H c)=its.any (eqC H c) by simp,eqC_any r r']
    exact q
end
end L2
set_option Elab.async false
set_option linter.all false
set_option maxRecDepth 100000
namespace HT
open PySem PySem.Spec PyProof.Rows PySem.Builtin
theorem tuple_no_keys:typeLookup (.type "tuple") "keys" = pure none:=am_miss_of_fast (by decide +kernel)
section
variable {prog:Program} {w:World} {A:Around} {E:Value→Shared→Prop} {s:Shared}
theorem keys_miss {a:Addr} {o:Obj} {xs:Array Value} {k:Nat} {Q:Option Value→Shared→Prop} (hx:s.heap.get? a=some o) (hc:o.cls=.type "tuple") (hdat:o.data=.seq xs k) (hd:o.dict=none) (hA:A.handled=none)
    (h:∀ h' tk,(∀ b u,s.heap.get? b=some u→h'.get? b=some u)→Q none { s with heap:=h',toks:=tk }):wpAny (model prog w) A (getAttr? (.ref a) "keys") Q E s:=by
  obtain ⟨c,dct,dat,sl⟩:=o
  simp only at hc hdat hd
  subst hc hdat hd
  obtain ⟨hp,g,d,tk,os⟩:=s
  have hT:∀ tk',(⟨hp,g,d,tk',os⟩:Shared).TypeIs (.ref a) "tuple" := fun _=>⟨_,hx,rfl⟩
  have f1:=sub_AttributeError
  have f3:=F.slot_tuple_getattribute.lookup
  have f4:=F.slot_tuple_getattribute.bind (.ref a)
  have f5:=am_tuple_getattr_none
  unfold getAttr? getAttrBy? getAttrBy
  repeat (any_goals (first | assumption | exact hT _ | ((with_reducible show wpAny _ _ (call (Value.builtin "tuple.__getattribute__") _ _) _ _ _); refine call_meets F.slot_tuple_getattribute (hT _) am_entry_tuple_getattribute (F.args_tuple_getattribute_2 _ _) (meets_getattribute_miss_tuple a xs k sl "keys" _ tuple_no_keys (by decide)) ⟨hx,hA,fun h' tk' e hx'=>?_⟩) | wp_step))
  obtain ⟨t',u',he⟩:=hx'.there
  show wpAny _ _ (getattributeRaised _ _ _ _ _ _ _) _ _ _
  unfold getattributeRaised
  repeat (any_goals (first | assumption | wp_step))
  exact h _ _ hx'.keeps
end
end HT
set_option Elab.async false
set_option linter.all false
set_option maxRecDepth 100000
namespace HT
open PySem PySem.Spec PyProof.Rows PySem.Builtin
theorem entry_updloop:entryFor table "dict.update.loop" = some Builtin.«dict.update.loop» := entryFor_of_tree (by kernel_rfl)
theorem plain_updloop:plainId "dict.update.loop" = true:=by decide +kernel
section
variable {prog:Program} {w:World} {A:Around} {E:Value→Shared→Prop} {s:Shared} {K:Type} [DecidableEq K] {knd:HeapKind prog w K}
theorem upd_end {d it t:Addr} {i:Nat} {items:Array Value} {R:Result→Shared→Prop} (hA:A.handled=none) (hit:s.heap.IsTupleIter it t i) (ht:s.heap.IsTuple t items) (hx:items[i]?=none)
    (h:∀ h',Heap.ExtBut it s.heap h'→R (.ok (.ret .none)) { s with heap:=h' }) :
    codeAny (model prog w) A (.builtin "dict.update.loop" ⟨[.ref d,.ref it,rawInt i,.none],[]⟩) R s:=by
  refine codeAny_builtin entry_updloop ?_
  rw [Around.under_plainId plain_updloop _]
  unfold Builtin.«dict.update.loop»
  refine wpAny_bind (wpAny_pyNext_tuple_end hA hit ht hx fun h' e=>?_)
  show wpAny _ _ (Dict.addKeywords d [] >>= fun _=>ret Value.none) _ _ _
  exact wpAny_bind (wpAny_pure (wpAny_pure (h h' e)))
theorem pairItems_tup {b:Addr} {its:Array Value} {Q:List Value→Shared→Prop} (hb:s.heap.IsTuple b its) (h:Q its.toList s):wpAny (model prog w) A (Dict.pairItems (.ref b)) Q E s:=by
  obtain ⟨o,ho,hc,n,hd⟩:=id hb
  unfold Dict.pairItems
  refine wpAny_bind (wpAny_typeOf hb.typeIs ?_)
  rw [if_pos (by decide)]
  exact wpAny_bind (wpAny_seqItems ho hd (wpAny_pure h))
theorem upd_item {d it t b a:Addr} {i:Nat} {items:Array Value} {xs:List (K × Addr × Value)} {k:K} {v:Value} {R:Result→Shared→Prop} (hu:knd.room A.in1) (hit:s.heap.IsTupleIter it t i) (ht:s.heap.IsTuple t items) (hx:items[i]?=some (.ref b))
    (hb:s.heap.IsTuple b #[.ref a,v]) (nb:b≠it) (hk:∀ h',(∀ c o,c≠it→s.heap.get? c=some o→h'.get? c=some o)→knd.is h' k a∧h'.DictOfH knd d xs) (nd:d≠it) (hz:xs.length≤sizeLine)
    (h:∀ h1 h' tk,(∀ c o,c≠it→s.heap.get? c=some o→h1.get? c=some o)→Heap.SameBut d h1 h'→h'.DictOfH knd d (storedH xs k a v)→h'.IsTupleIter it t (i+1) →
      codeAny (model prog w) A (.builtin "dict.update.loop" ⟨[.ref d,.ref it,rawInt ((i+1:Nat):Int),.none],[]⟩) R { s with heap:=h',toks:=tk }) :
    codeAny (model prog w) A (.builtin "dict.update.loop" ⟨[.ref d,.ref it,rawInt i,.none],[]⟩) R s:=by
  refine codeAny_builtin entry_updloop ?_
  rw [Around.under_plainId plain_updloop _]
  unfold Builtin.«dict.update.loop»
  refine wpAny_bind (wpAny_pyNext_tuple_item hit ht hx fun h' it' hs=>?_)
  have hk':∀ c o,c≠it→s.heap.get? c=some o→h'.get? c=some o:=fun c o hc e=>(hs.2 c hc).trans e
  refine wpAny_bind (wpAny_holding ?_)
  refine wpAny_bind (wpAny_tryCatch ?_)
  have hb':h'.IsTuple b #[.ref a,v]:=by
    obtain ⟨o,ho,r⟩:=hb
    exact ⟨o,hk' b o nb ho,r⟩
  refine pairItems_tup (s:={ s with heap:=h' }) hb' ?_
  show wpAny _ _ (holding [Value.ref a,v] (dictSet d (.ref a) v)) _ _ _
  have hm':=(hk h' hk').2
  refine wpAny_holding (wpAny_dictSet_heap (s:={ s with heap:=h' }) hu (hk h' hk').1 hm' (fun h2 hm2 hs2=>?_) hz)
  refine wpAny_pure ⟨Code.quiet_builtin _ (by decide +kernel),?_⟩
  have hn:=h h' h2 (s.toks+knd.draws k) hk' hs2 hm2 (by
    obtain ⟨o,ho,r⟩:=it'
    exact ⟨o,(hs2.2 it (Ne.symm nd)).trans ho,r⟩)
  rw [show ((i+1:Nat):Int)=(i:Int)+1 from by omega] at hn
  exact hn
end
end HT
set_option Elab.async false
set_option linter.all false
set_option maxRecDepth 100000
namespace L2
open PySem PySem.Spec PySem.W PyProof.Rows HT
def PairH (H:Hp) (y:V) (p:List Key × V):Prop:=∃ b a,y=.ref b∧H b=some (.tup [.ref a,p.2])∧H a=some (.tup (p.1.map kV))
section
variable {X:Cx} {pins:List (Addr × Obj)} {σ:St} {H:Hp}
theorem KT.isAll {P:Program} {w:World} {H:Hp} {h:Heap} (ok:HOk P w H h) {l:List (List Key × V)} {m:List (List Key × Addr × Value)} (q:KT H l m):∀ x∈m,(tupleKind (mixKind P w)).is h x.1 x.2.1:=by
  unfold KT at q
  induction q with
  | nil=>intro x hx; exact nomatch hx
  | @cons p q ps qs hq t ih =>
    intro x hx
    rcases List.mem_cons.mp hx with e | hx
    · subst e
      exact key_of ok (by rw [← hq.1]; exact hq.2.1)
    · exact ih x hx
theorem dict_loop {D it t:Addr} {ys:List V} {R:Result→Shared→Prop} (hu:X.A.units+8<cLine) (hA:X.A.handled=none) (hD:H D=none) (ht:H t=some (.tup ys)) (nit:it≠D) :
    ∀ (rest:List (List Key × V)) (i:Nat) (kvs:List (List Key × V)) (s:Shared),Inv X pins σ (upd H D (.dT kvs)) s→FpOk X pins (upd H D (.dT kvs)) it→s.heap.IsTupleIter it t i→Paired (PairH H) (ys.drop i) rest→((kvs++rest).map (·.1)).Nodup→(kvs++rest).length≤1000 →
      (∀ s',Inv X pins σ (upd H D (.dT (kvs++rest))) s'→R (.ok (.ret .none)) s')→codeAny (model X.prog X.w) X.A.in1 (.builtin "dict.update.loop" ⟨[.ref D,.ref it,rawInt i,.none],[]⟩) R s
  | [],i,kvs,s,I,fp,hit,pr,nd,hz,k=>by
    have ntD:t≠D:=fun e=>by subst e; rw [hD] at ht; cases ht
    obtain ⟨its,r,pl,_⟩:=I.tuple (SqT.of (show upd H D (.dT kvs) t=some (.tup ys) by rw [upd_ne ntD]; exact ht))
    have hl:ys.length≤i:=by
      generalize hq:ys.drop i=l at pr
      cases pr
      exact List.drop_eq_nil_iff.mp hq
    have hl2:=r.length
    rw [List.append_nil] at k
    refine upd_end hA hit pl (by rw [Array.getElem?_eq_none]; simp; omega) fun h' e=>k _ ?_
    exact I.turnedL (t':=s.toks) (fp:=[it]) (fun b o hb x=>e b o (by simpa using hb) x) (fun b hb=>by
      cases (show b=it by simpa using hb); exact fp)
  | p::rest,i,kvs,s,I,fp,hit,pr,nd,hz,k=>by
    have ntD:t≠D:=fun e=>by subst e; rw [hD] at ht; cases ht
    obtain ⟨its,r,pl,_⟩:=I.tuple (SqT.of (show upd H D (.dT kvs) t=some (.tup ys) by rw [upd_ne ntD]; exact ht))
    generalize hq:ys.drop i=l at pr
    cases pr with
    | @cons y _ ys' _ hy pr' =>
      obtain ⟨b,a,rfl,hb,ha⟩:=hy
      have hi:i<ys.length:=by
        by_cases h:i<ys.length
        · exact h
        · rw [List.drop_eq_nil_iff.mpr (by omega)] at hq; cases hq
      have hyi:ys[i]?=some (.ref b):=by
        have:=List.drop_eq_getElem_cons hi
        rw [hq] at this
        injection this with h1 h2
        rw [List.getElem?_eq_getElem hi,← h1]
      have hys':ys.drop (i+1)=ys':=by
        have:=List.drop_eq_getElem_cons hi
        rw [hq] at this
        injection this with h1 h2
        exact h2.symm
      obtain ⟨u,hu',ru⟩:=r.get hyi
      cases ru
      have nbD:b≠D:=fun e=>by subst e; rw [hD] at hb; cases hb
      have naD:a≠D:=fun e=>by subst e; rw [hD] at ha; cases ha
      have hb2:upd H D (.dT kvs) b=some (.tup [.ref a,p.2]):=by rw [upd_ne nbD]; exact hb
      have ha2:upd H D (.dT kvs) a=some (.tup (p.1.map kV)):=by rw [upd_ne naD]; exact ha
      obtain ⟨itb,rb,plb,_⟩:=I.tuple (SqT.of hb2)
      obtain ⟨ua,uv,rfl,ra,rv⟩:=vals2 rb
      cases ra
      have nb:b≠it:=fun e=>by have:=fp.1; rw [← e,hb2] at this; cases this
      obtain ⟨z,hdm,xs,rel,o,es,ep,h1,h2,h3,h4,h5⟩:=(show ObjOk X.prog X.w (upd H D (.dT kvs)) s.heap D (.dT kvs) from I.hok D _ upd_same)
      have hturn:∀ h' tk,(∀ c o,c≠it→s.heap.get? c=some o→h'.get? c=some o)→Inv X pins σ (upd H D (.dT kvs)) { s with heap:=h',toks:=tk }:=fun h' tk kp =>
        I.turnedL (t':=tk) (fp:=[it]) (fun b o hb x=>kp b o (by simpa using hb) x) (fun b hb=>by
          cases (show b=it by simpa using hb); exact fp)
      have lxs:xs.length=kvs.length:=(Paired.length rel).symm
      refine upd_item (knd:=tupleKind (mixKind X.prog X.w)) (xs:=xs) (k:=p.1) (v:=uv) (b:=b) (a:=a) (show _<_ by show X.A.in1.in1.units<cLine; exact Nat.lt_of_le_of_lt (show X.A.in1.in1.units≤X.A.units+2 from Nat.le_refl _) (by omega)) hit pl (by simpa using hu') plb nb (fun h' kp=>⟨key_of (hturn h' s.toks kp).hok ha2,o,es,ep,kp D o (Ne.symm nit) h1,h2,h3,h4,KT.isAll (hturn h' s.toks kp).hok rel,h5⟩) (Ne.symm nit) (by omega) fun hh1 hh2 tk kp hs2 hm2 hit2=>?_
      have I1:=hturn hh1 s.toks kp
      obtain ⟨q,es2,ep2,hq2,g2,g3,g4,_,g5⟩:=hm2
      have hkn:valV kvs p.1=none:=by
        rw [List.map_append,List.map_cons] at nd
        have hnot:=(List.nodup_append.mp nd).2.2
        cases hv:valV kvs p.1 with
        | none=>rfl
        | some v=>exact absurd rfl (hnot _ (valV_in hv) p.1 (List.mem_cons_self ..))
      have hlp:(putK kvs p.1 p.2).length≤sizeLine:=by
        have h6:=length_putK kvs p.1 p.2
        rw [List.length_append,List.length_cons] at hz
        have h7:(1000:Nat)≤sizeLine:=by decide
        omega
      have I2:=d_write (t':=tk) (ob:=.dT (putK kvs p.1 p.2)) I1 (by rw [upd_same]; exact True.intro) hs2 ⟨q,hq2⟩ ⟨hlp,hdm,_,(KT.put (show KT (upd H D (.dT kvs)) kvs xs from rel) p.1 ha2 rv).keeps fun c ys ec=>(by rw [upd_ne (ne_of ec upd_same (fun z=>nomatch z))]; exact ec),q,es2,ep2,hq2,g2,g3,g4,g5⟩
      rw [upd_upd,putK_new p.2 hkn] at I2
      refine dict_loop hu hA hD ht nit rest (i+1) (kvs++[p]) _ I2 ?_ hit2 (by rw [hys']; exact pr') (by rw [List.append_assoc]; exact nd) (by rw [List.append_assoc]; exact hz) (by rw [List.append_assoc]; exact k)
      refine ⟨?_,fp.2⟩
      rw [upd_ne nit]
      have:=fp.1
      rw [upd_ne nit] at this
      exact this
@[irreducible] def rDictP:List V→Hp→VK→Prop:=fun xs H Q=>∃ (t:Addr) (ys:List V) (kvs:List (List Key × V)),xs=[.ref t]∧H t=some (.tup ys)∧Paired (PairH H) ys kvs∧(kvs.map (·.1)).Nodup∧kvs.length≤1000∧∀ D,H D=none→Q (.ref D) (upd H D (.dT kvs))
theorem cl_dictP (hu:X.A.units+64<cLine) (hc:X.calm=true):CallR X (.type "dict") rDictP:=by
  unfold rDictP
  intro pins s σ H xs us Q I r h
  obtain ⟨t,ys,kvs,rfl,ht,pr,nd,hz,q⟩:=h
  obtain ⟨u,rfl,rx⟩:=vals1 r
  cases rx
  have hA:=I.ok.hd hc
  refine callType_codes (Q₁:=fun obj s₁=>obj=.ref s.heap.objs.size∧s₁={ s with heap:=s.heap.push { cls:=.type "dict",data:=.dict #[] } }) F.kt_called_dict (F.kt_typeCall_dict_1 _) F.entry_dict_init (kt_code_dict_new _ ⟨rfl,rfl⟩) ?_
  rintro obj s₁ ⟨rfl,rfl⟩
  have hD:=I.hok.fresh (Nat.le_refl s.heap.objs.size)
  have I1:Inv X pins σ (upd H s.heap.objs.size (.dT [])) { s with heap:=s.heap.push { cls:=.type "dict",data:=.dict #[] } }:=I.laid (a:=s.heap.objs.size) (o:=.dT []) (t':=s.toks) (fun _ _ q=>Heap.get?_push_of_some _ q) (Nat.le_refl _) (dt_empty s.heap I.big)
  have htD:t≠s.heap.objs.size:=fun e=>by subst e; rw [hD] at ht; cases ht
  have ht1:upd H s.heap.objs.size (.dT []) t=some (.tup ys):=by rw [upd_ne htD]; exact ht
  obtain ⟨⟨zt,ot,hot,hdt⟩,itt,rt,ot',hot',hct,nt,hdd⟩:=(show ObjOk X.prog X.w (upd H s.heap.objs.size (.dT [])) (s.heap.push { cls:=.type "dict",data:=.dict #[] }) t (.tup ys) from I1.hok t _ ht1)
  rw [hot] at hot'
  cases hot'
  have hnew:(s.heap.push { cls:=.type "dict",data:=.dict #[] }).DictOf (mixKind X.prog X.w) s.heap.objs.size []:=Heap.DictOf.new s.heap
  refine ⟨hnew.typeIs,F.args_dict_init_2 _ _,?_⟩
  unfold Builtin.«dict.__init__»
  refine wpAny_bind ?_
  unfold Builtin.Dict.selfAndRest
  refine wpAny_bind (wpAny_notOrdered_dict hnew.typeIs ?_)
  show wpAny _ _ (pure (s.heap.objs.size,[Value.ref t])) _ _ _
  refine wpAny_pure ?_
  show wpAny _ _ (Builtin.Dict.updateFrom "dict.__init__" s.heap.objs.size (.ref t) [] .none) _ _ _
  unfold Builtin.Dict.updateFrom
  refine wpAny_bind (wpAny_typeOf (T := "tuple") ⟨_,hot,hct⟩ ?_)
  rw [if_pos (by decide)]
  refine wpAny_bind (keys_miss (s:={ s with heap:=s.heap.push { cls:=.type "dict",data:=.dict #[] } }) hot hct hdd hdt hA fun h' tk kp=>?_)
  rw [if_pos (by rfl)]
  refine wpAny_bind (wpAny_rule ?_)
  refine wpAny_bind (wpAny_pyIter_tuple (s:={ s with heap:=h',toks:=tk }) (items:=itt.toArray) ⟨ot,kp t ot hot,hct,nt,hdd⟩ ?_)
  refine wpAny_pure ⟨Code.quiet_builtin _ (by decide +kernel),?_⟩
  have I2:Inv X pins σ (upd H s.heap.objs.size (.dT [])) { s with heap:=h',toks:=tk }:=I1.kept (t':=tk) kp
  have I3:Inv X pins σ (upd H s.heap.objs.size (.dT [])) { s with heap:=h'.push { cls:=.type "tuple_iterator",data:=.fields #[.ref t,.int 0 0] },toks:=tk }:=I2.kept (t':=tk) fun b o e=>Heap.get?_push_of_some _ e
  have hlt:s.heap.objs.size<h'.objs.size:=by
    obtain ⟨_,_,_,hg,_⟩:=hnew
    exact Heap.lt_size (kp _ _ hg)
  have hfr:upd H s.heap.objs.size (.dT []) h'.objs.size=none:=I2.hok.fresh (Nat.le_refl _)
  refine dict_loop (D:=s.heap.objs.size) (it:=h'.objs.size) (t:=t) (ys:=ys) (by omega) hA hD ht (Nat.ne_of_gt hlt) kvs 0 [] _ I3 (I2.fpOk (Nat.le_refl _) hfr) ⟨_,Heap.get?_push_size _ rfl,rfl,rfl⟩ (by simpa using pr) (by simpa using nd) (by simpa using hz) fun s' I'=>⟨rfl,.ref _,_,I',rfl,?_⟩
  rw [List.nil_append]
  exact q _ hD
end
end L2
set_option Elab.async false
set_option linter.all false
set_option maxRecDepth 100000
namespace HT
open PySem PySem.Spec PyProof.Rows
section
variable {prog:Program} {w:World} {A:Around} {E:Value→Shared→Prop} {s:Shared} {it d:Addr} {es:Array DictEntry} {ep i:Nat} {od:Obj}
end
end HT
set_option Elab.async false
set_option linter.all false
set_option maxRecDepth 100000
namespace L2
open PySem PySem.Spec PySem.W PyProof.Rows HT
section
variable {X:Cx} {pins:List (Addr × Obj)} {σ:St} {H:Hp} {s:Shared}
theorem Inv.freeze {D:Addr} {kvs:List (List Key × V)} (I:Inv X pins σ H s) (e:H D=some (.dT kvs)):∃ o,Inv X pins σ (upd H D (.frz o (.dT kvs))) s:=by
  obtain ⟨z,hd,xs,rel,o,es,ep,h1,h2,h3,h4,h5⟩:=(show ObjOk X.prog X.w H s.heap D (.dT kvs) from I.hok D _ e)
  refine ⟨o,?_⟩
  have I2:=I.write (x:=D) (e:=D) (o:=.frz o (.dT kvs)) (h':=s.heap) (t':=s.toks) (by rw [e]; exact True.intro) (.inl rfl) (fun b u _ q=>q) ⟨o,h1⟩ ⟨h1,z,hd,xs,KT.keeps (show KT H kvs xs from rel) fun c ys ec=>(by rw [upd_ne (ne_of ec e (fun z=>nomatch z))]; exact ec),o,es,ep,h1,h2,h3,h4,h5⟩
  exact I2
def FzT (H:Hp) (D:Addr) (kvs:List (List Key × V)):Prop:=∃ o,H D=some (.frz o (.dT kvs))
theorem FzT.same {H H':Hp} {D:Addr} {kvs:List (List Key × V)} (s:Same H H') (h:FzT H D kvs):FzT H' D kvs:=by
  obtain ⟨o,h⟩:=h
  exact ⟨o,s _ _ h⟩
@[irreducible] def rDictZ:List V→Hp→VK→Prop:=fun xs H Q=>∃ (t:Addr) (ys:List V) (kvs:List (List Key × V)),xs=[.ref t]∧H t=some (.tup ys)∧Paired (PairH H) ys kvs∧(kvs.map (·.1)).Nodup∧kvs.length≤1000∧∀ D o,H D=none→Q (.ref D) (upd H D (.frz o (.dT kvs)))
theorem rdcz {Q:VK} {t:Addr} {ys:List V} {kvs:List (List Key × V)} (ht:H t=some (.tup ys)) (pr:Paired (PairH H) ys kvs) (nd:(kvs.map (·.1)).Nodup) (hz:kvs.length≤1000) (q:∀ D H',H D=none→FzT H' D kvs→Same H H'→Q (.ref D) H'):rDictZ [.ref t] H Q:=by
  unfold rDictZ; exact ⟨t,ys,kvs,rfl,ht,pr,nd,hz,fun D o hD=>q D _ hD ⟨o,upd_same⟩ (Same.upd hD)⟩
theorem cl_dictZ (hu:X.A.units+64<cLine) (hc:X.calm=true):CallR X (.type "dict") rDictZ:=by
  unfold rDictZ
  intro pins s σ H xs us Q I r h
  obtain ⟨t,ys,kvs,rfl,ht,pr,nd,hz,q⟩:=h
  refine wpAny_mono (cl_dictP hu hc pins s σ H _ us (fun v H'=>∃ D,v=.ref D∧H D=none∧H'=upd H D (.dT kvs)) I r (by unfold rDictP; exact ⟨t,ys,kvs,rfl,ht,pr,nd,hz,fun D hD=>⟨D,rfl,hD,rfl⟩⟩)) (fun v s' ⟨x,H',I',rx,D,e,hD,eH⟩=>?_) fun _ _ e=>e
  subst e eH
  cases rx
  obtain ⟨o,I2⟩:=I'.freeze upd_same
  rw [upd_upd] at I2
  exact ⟨.ref D,_,I2,rfl,q D o hD⟩
end
section
variable {X:Cx} {tg:Expr}
end
end L2
set_option Elab.async false
set_option linter.all false
set_option maxRecDepth 100000
namespace HT
open PySem PySem.Spec PyProof.Rows PySem.W
section
variable {prog:Program} {w:World} {A:Around} {d:Addr} {o:Obj} {es:Array DictEntry} {ep:Nat}
end
end HT
namespace L2
open PySem PySem.Spec PySem.W PyProof.Rows HT
end L2
set_option Elab.async false
set_option linter.all false
set_option maxRecDepth 100000
namespace HT
open PySem PySem.Spec PyProof.Rows PySem.W
section
variable {prog:Program} {w:World} {A:Around} {E:Value→Shared→Prop} {s:Shared} {it d:Addr} {es:Array DictEntry} {ep i:Nat} {od:Obj}
end
end HT
set_option Elab.async false
set_option linter.all false
set_option maxRecDepth 100000
namespace L2
open PySem PySem.Spec PySem.W PyProof.Rows HT
section
variable {X:Cx} {tg:Expr}
end
theorem FzT.get {H:Hp} {d b:Addr} {kvs:List (List Key × V)} {k:List Key} (h:FzT H d kvs) (hb:H b=some (.tup (k.map kV))):DGet H d (.ref b) (valV kvs k):=by
  obtain ⟨o,h⟩:=h
  exact .inr ⟨kvs,k,b,.inr ⟨o,h⟩,rfl,hb,rfl⟩
section
variable {X:Cx} {o e:Expr} {apos cpos:Pos} {td ty:TE}
end
end L2
namespace L2
open PySem PySem.Spec PySem.W PyProof.Rows HT
end L2
namespace L2
open PySem
end L2
set_option Elab.async false
set_option linter.all false
set_option maxRecDepth 100000
namespace L2
open PySem
section
variable {js:List Nat} {te:TE} {tc:TT} {σ:St} {H:Hp} {Q:VK}
end
end L2
set_option Elab.async false
set_option linter.all false
set_option maxRecDepth 100000
namespace L2
open PySem PySem.Spec PyProof.Rows
section
variable {X:Cx} {pins:List (Addr × Obj)} {σ:St} {H:Hp} {s:Shared} {scope:Scope} {x x2:Str} {N':List Str} {js:List Nat} {fp:List Addr}
end
section
variable {X:Cx} {pins:List (Addr × Obj)} {σ:St} {H:Hp} {s:Shared} {scope:Scope} {x:Str} {N':List Str} {js:List Nat} {fp:List Addr} {elt iter:Expr} {px pos:Pos} {tg:Expr} {x2:Str} {te:TE}
end
section
variable {X:Cx} {scope:Scope} {x x2 y:Str} {N':List Str} {js:List Nat} {elt iter tg:Expr} {py pos spos:Pos} {te:TE} {wi:TI} {i:Nat}
end
end L2
set_option Elab.async false
set_option linter.all false
set_option maxRecDepth 100000
namespace HT
open PySem PySem.Spec PyProof.Rows
section
variable {prog:Program} {w:World} {A:Around} {E:Value→Shared→Prop} {s:Shared} {d:Addr} {o:Obj} {es:Array DictEntry} {ep:Nat}
end
end HT
namespace L2
open PySem PySem.Spec PySem.W PyProof.Rows HT
theorem kV_int (c:List Int):(c.map (Sum.inl:Int→Key)).map kV=c.map V.int:=by rw [List.map_map]; rfl
abbrev kT (c:List Int):List Key:=c.map Sum.inl
section
variable {X:Cx} {o e f k v:Expr} {apos cpos pos:Pos} {td ty tx tk tv:TE}
theorem we_get2 (hu:X.A.units+1<cLine) (ho:PEw X o td) (he:PEw X e ty) (hf:PEw X f tx) (base:attributeBase o "get" X.env (eval o X.env)=eval o X.env:=by rfl)
    (few:((backTo cpos (starEach [e,f] X.env)).all (fun x=>!x.1)&&(backToKw cpos (keywordEach [] X.env)).all (fun x=>x.1.isSome)&&decide (([e,f]:List Expr).length+([]:List Keyword).length+(if ([]:List Keyword).isEmpty then 0 else 1)<30))=true:=by rfl)
    (line:(apos.endLine == cpos.line)=true:=by rfl) (trees:backTo cpos (starEach [e,f] X.env)=[(false,eval e X.env),(false,eval f X.env)]:=by rfl):PEw X (.Call (.Attribute o "get" apos) [e,f] [] cpos) (tDGet2 td ty tx):=⟨pe_dget2 hu ho.p he.p hf.p ⟨base,few,line,trees⟩⟩
end
theorem FzT.ct {H:Hp} {d b:Addr} {kvs:List (List Key × V)} {c:List Int} (h:FzT H d kvs) (hb:H b=some (.tup (c.map V.int))):DGet H d (.ref b) (valV kvs (kT c)):=h.get (by rw [kV_int]; exact hb)
theorem dgZ {H:Hp} {p b:Addr} {kvs:List (List Key × V)} {c:List Int} {v:V} {Q:VK} (e:FzT H p kvs) (eb:H b=some (.tup (c.map V.int))) (hv:valV kvs (kT c)=some v) (q:Q v H):rDG (.ref p) (.ref b) H Q:=by
  unfold rDG; exact ⟨p,v,rfl,hv ▸ e.ct eb,q⟩
end L2
set_option Elab.async false
set_option linter.all false
set_option maxRecDepth 100000
namespace L2
open PySem PySem.Spec PyProof.Rows
section
variable {X:Cx} {pins:List (Addr × Obj)} {σ:St} {H:Hp} {s:Shared} {scope:Scope} {xs:List Str} {N':List Str} {js:List Nat} {fp:List Addr}
end
section
variable {X:Cx} {pins:List (Addr × Obj)} {σ:St} {H:Hp} {s:Shared} {scope:Scope} {xs:List Str} {N':List Str} {js:List Nat} {fp:List Addr} {elt iter:Expr} {px pos:Pos} {tg:Expr} {ifs:List Expr} {tc:TT} {te:TE}
end
section
variable {X:Cx} {scope:Scope} {x1 x2 x3 y:Str} {N':List Str} {js:List Nat} {elt iter tg:Expr} {ifs:List Expr} {py pos spos:Pos} {tc:TT} {te:TE} {wi:TI} {i:Nat}
end
section
variable {js:List Nat} {te:TE} {tc:TT} {σ:St} {H:Hp} {Q:VK}
end
end L2
set_option Elab.async false
set_option linter.all false
set_option maxRecDepth 100000
namespace L2
open PySem
section
variable {js:List Nat} {te:TE} {σ:St} {H:Hp} {Q:VK}
end
end L2
set_option Elab.async false
set_option linter.all false
set_option maxRecDepth 100000
namespace L2
open PySem
section
variable {X:Cx} {scope:Scope} {x1 x2 x3 y:Str} {N':List Str} {js:List Nat} {elt iter tg:Expr} {ifs:List Expr} {py pos spos:Pos} {tc:TT} {te:TE} {wi wj:TI} {i:Nat}
end
end L2
set_option Elab.async false
set_option linter.all false
set_option maxRecDepth 100000
namespace L2
open PySem PySem.Spec PyProof.Rows
section
variable {X:Cx}
end
end L2
set_option Elab.async false
set_option linter.all false
set_option maxRecDepth 100000
namespace L2
open PySem PySem.Spec PyProof.Rows
section
variable {X:Cx}
end
end L2
set_option Elab.async false
set_option linter.all false
set_option maxRecDepth 100000
namespace L2
open PySem PySem.Spec PySem.W PyProof.Rows HT
end L2
set_option Elab.async false
set_option linter.all false
set_option maxRecDepth 100000
namespace L2
open PySem PySem.Spec PyProof.Rows
section
variable {prog:Program} {w:World} {A:Around} {E:Value→Shared→Prop} {s:Shared}
end
end L2
set_option Elab.async false
set_option linter.all false
set_option maxRecDepth 100000
namespace L2
open PySem PySem.Spec PyProof.Rows
structure FnO (P:Program) (w:World) (K:PySem.W.Frag) (mg:Str→Option Value) (base:Heap) (k:Nat) (C:Addr) (ps:List Str) (sp:Sp):Prop where
  ex:∃ (f:Addr) (fd:FuncData),FnOk P w K mg base CX0 k f fd ps sp∧Mk K C f∧Binds K fd ps []
structure Own (K:PySem.W.Frag) (C:Addr) (fs:List Str):Prop where
  cls:Cls K C
  no:∀ f∈fs,NoAttr K C f
@[irreducible] def rFld (K:PySem.W.Frag) (f:Str) (x:V) (H:Hp) (Q:VK):Prop:=∃ a C dx fs v,x=.ref a∧H a=some (.ins C dx fs)∧Cls K C∧NoAttr K C f∧fs.lookup f=some v∧Q v H
def tFldO (K:PySem.W.Frag) (ta:TE) (f:Str):TE:=fun σ H Q=>ta σ H fun x H1=>rFld K f x H1 Q
section
variable {X:Cx} {k:Nat} {C:Addr} {ps:List Str} {sp:Sp} {x f:Str} {p pos pos':Pos} {e o value:Expr} {es:List Expr} {t:TA} {ta tv:TE}
theorem we_makeO (F:FnO X.prog X.w X.K X.mg X.base k C ps sp) (hm:X.mg x=some (.ref C)) (hr:Room (k+1) X.A) (ha:PAw X (e::es) t) (hg:Gl X x:=by rfl)
    (hdb:(x == ("__debug__" : Str))=false:=by decide) (he:starEach (e::es) X.env=(false,eval e X.env)::starEach es X.env:=by first | exact se_Name | exact se_Call | exact se_Attribute | exact se_Subscript)
    (hpl:(backTo pos (starEach es X.env)).any (·.1)=false:=by repeat (first | exact ap_nil | refine ap_cons (by first | exact se_Name | exact se_Call | exact se_Attribute | exact se_Subscript) ?_)) :
    PEw X (.Call (.Name x p) (e::es) [] pos) (tMake C sp [] E0 t):=⟨by
  obtain ⟨f,fd,h1,h2,h3⟩:=F.ex
  exact pe_make h2 h1 hr hg hm h3 .nil pass0 ha.p hdb he hpl⟩
theorem we_fldO (K:PySem.W.Frag) (he:PEw X e ta) (hK:X.K=K:=by rfl) (hb:attributeBase e f X.env (eval e X.env)=eval e X.env:=by rfl):PEw X (.Attribute e f pos) (tFldO K ta f):=⟨by
  subst hK
  intro pins s σ H Q I h
  refine pe_fld he.p hb pins s σ H Q I ?_
  unfold tFldO rFld at h
  exact h⟩
theorem ws_fldO (ha:PEw X o ta) (hv:PEw X value tv) (hs:swapsWith value (some (.Attribute o f pos')) pos.line X.env=pure false:=by rfl):PSw X (.Assign [.Attribute o f pos'] value pos) (sFld X.K ta tv f):=⟨ps_fld ha.p hv.p hs⟩
end
section
variable {K:PySem.W.Frag} {H:Hp} {a C dx:Addr} {fs:List (Str × V)} {v:V} {Q:VK} {f:Str} {ns:List Str}
theorem fldO (O:Own K C ns) (hf:f∈ns) (e:H a=some (.ins C dx fs)) (l:fs.lookup f=some v) (q:Q v H):rFld K f (.ref a) H Q:=by
  unfold rFld
  exact ⟨a,C,dx,fs,v,rfl,e,O.cls,O.no f hf,l,q⟩
end
end L2
set_option Elab.async false
set_option linter.all false
set_option maxRecDepth 100000
namespace L2
open PySem PySem.Spec PyProof.Rows
structure FnM (P:Program) (w:World) (K:PySem.W.Frag) (mg:Str→Option Value) (base:Heap) (k:Nat) (C:Addr) (m:Str) (ps:List Str) (sp:Sp):Prop where
  ex:∃ (f:Addr) (fd:FuncData),FnOk P w K mg base CX0 k f fd ps sp∧Meth K C m f∧Binds K fd ps []
section
variable {X:Cx} {k:Nat} {C:Addr} {ps:List Str} {sp:Sp} {m:Str} {pos apos:Pos} {e o:Expr} {es:List Expr} {t:TA} {ta:TE}
theorem we_mth {pl:Sem Bool} (F:FnM X.prog X.w X.K X.mg X.base k C m ps sp) (c:Cls X.K C) (hr:Room k X.A) (ho:PEw X o ta) (ha:PAw X (e::es) t)
    (hst:starEach (e::es) X.env=(false,eval e X.env)::starEach es X.env:=by first | exact se_Name | exact se_Constant | exact se_Call | exact se_Attribute | exact se_Subscript)
    (hpl:(backTo pos (starEach es X.env)).any (·.1)=false:=by repeat (first | exact ap_nil | refine ap_cons (by first | exact se_Name | exact se_Constant | exact se_Call | exact se_Attribute | exact se_Subscript) ?_))
    (ht:eval (.Call (.Attribute o m apos) (e::es) [] pos) X.env=(do
      let ov ← eval o X.env
      standAt apos.atName
      let (f,first) ← holding [ov] (getMethod ov m pl)
      callWith pos f first (backTo pos (starEach (e::es) X.env)) (backToKw pos (keywordEach [] X.env))):=by rfl) :
    PEw X (.Call (.Attribute o m apos) (e::es) [] pos) (tMeth C m sp [] E0 ta t):=⟨by
  obtain ⟨f,fd,h1,h2,h3⟩:=F.ex
  exact pe_meth ho.p c h2 h1 hr h3 .nil pass0 ha.p hst hpl ht⟩
theorem we_mth0 {pl:Sem Bool} (F:FnM X.prog X.w X.K X.mg X.base k C m ps sp) (c:Cls X.K C) (hr:Room k X.A) (ho:PEw X o ta)
    (ht:eval (.Call (.Attribute o m apos) [] [] pos) X.env=(do
      let ov ← eval o X.env
      standAt apos.atName
      let (f,first) ← holding [ov] (getMethod ov m pl)
      callWith pos f first (backTo pos (starEach [] X.env)) (backToKw pos (keywordEach [] X.env))):=by rfl) :
    PEw X (.Call (.Attribute o m apos) [] [] pos) (tMeth C m sp [] E0 ta tNil):=⟨by
  obtain ⟨f,fd,h1,h2,h3⟩:=F.ex
  exact pe_meth0 ho.p c h2 h1 hr h3 .nil pass0 ht⟩
end
end L2
set_option Elab.async false
set_option linter.all false
set_option maxRecDepth 100000
namespace L2
open PySem PySem.Spec PySem.W PyProof.Rows HT
section
variable {prog:Program} {w:World} {A:Around} {E:Value→Shared→Prop} {s:Shared}
end
end L2
set_option Elab.async false
set_option linter.all false
set_option maxRecDepth 100000
namespace L2
open PySem
def ExcAt (h:Heap) (a:Addr) (cls:Value) (od:Option Addr) (st:Option (Addr × Value)):Prop :=
  ∃ oe vs,h.get? a=some oe∧oe.cls=cls∧oe.dict=od∧oe.data=.fields vs∧1<vs.size ∧
    match st with
    | none=>vs[1]?=some .none
    | some (T,fl)=>vs[1]?=some (.ref T)∧T≠a∧∃ oT ts,h.get? T=some oT∧oT.data=.fields ts∧3<ts.size∧ts[3]?=some fl
structure Kp (fs ex:List Addr) (h h':Heap):Prop where
  keep:∀ b o,h.get? b=some o→b ∉ fs→b ∉ ex→h'.get? b=some o
  slot:∀ b o,h.get? b=some o→b∈fs→b ∉ ex→∃ sl,h'.get? b=some { o with slots:=sl }
theorem Kp.any {fs ex:List Addr} {h h':Heap} (k:Kp fs ex h h') {b:Addr} {o:Obj} (e:h.get? b=some o) (n:b ∉ ex):∃ sl,h'.get? b=some { o with slots:=sl }:=by
  by_cases m:b∈fs
  · exact k.slot b o e m n
  · exact ⟨o.slots,k.keep b o e m n⟩
def stT:Option (Addr × Value)→List Addr
  | none=>[]
  | some (T,_)=>[T]
section
variable {M:Model} {A:Around} {E:Value→Shared→Prop} {s:Shared} {env:Env} {outer:List Env} {base:Heap} {L a:Addr} {cls:Value} {od:Option Addr}
theorem entry_ok {oe:Obj} {vs:Array Value} {head:Value} {had:Bool} {Q:Unit→Shared→Prop} (hfr:A.frames=some (env::outer)) (hl:s.heap.FunFrames base (env::outer)) (hf:env.frame=some L)
    (he:s.heap.get? a=some oe) (hc:oe.cls=cls) (ho:oe.dict=od) (hd:oe.data=.fields vs) (hz:1<vs.size)
    (k:∀ h' T',ExcAt h' a cls od (some (T',rawInt L))→s.heap.get? T'=none→Kp ((env::outer).filterMap (·.frame)) [a] s.heap h'→Q () { s with heap:=h' }) :
    wpAny M A (do
      let fo ← frameOf env
      let pl ← entryPlaceOf L had
      let en ← EntryCells.newEntry head fo .none (rawInt L) .none pl
      setField (.ref a) 1 en) Q E s:=by
  have na:a ∉ (env::outer).filterMap (·.frame):=fun m=>by
    obtain ⟨_,o,e,nf⟩:=hl.mem m
    rw [he] at e
    cases e
    exact nf vs hd
  refine wpAny_bind (wpAny_frameOf_fun hfr hl hf fun h1 so=>?_)
  refine wpAny_bind (wpAny_entryPlaceOf fun pl ip=>?_)
  unfold EntryCells.newEntry newFields
  refine wpAny_bind (wpAny_newObj_type ?_ (ip.sizeOk5 ..))
  have e1:h1.get? a=some oe:=(so.2.1 a na).trans he
  generalize hT:({ cls:=.type "traceback",dict:=none,data:=.fields ([head,Value.ref L,Value.none,rawInt L,Value.none]++(if pl.isEmpty then List.replicate 6 Value.none else pl)).toArray }:Obj)=oT
  have e2:(h1.push oT).get? a=some oe:=Heap.get?_push_of_some _ e1
  refine wpAny_setField e2 hd hz (k _ h1.objs.size ?_ ?_ ?_)
  · have ne:h1.objs.size≠a:=Nat.ne_of_gt (Heap.lt_size e1)
    have d3:=Obj.data_mapFields hd (·.setIfInBounds 1 (Value.ref h1.objs.size))
    refine ⟨_,_,Heap.get?_update_self _ e2 (Obj.isFreed_of_fields d3),?_,?_,d3,by simpa using hz,by simp [hz],ne,oT,_,?_,by rw [← hT],?_,?_⟩
    · rw [Obj.cls_mapFields]; exact hc
    · rw [← ho]
      obtain ⟨_,_,dt,_⟩:=oe
      cases dt <;> rfl
    · rw [Heap.get?_update_other _ _ (Ne.symm ne)]
      exact Heap.get?_push_size h1 (by rw [← hT]; rfl)
    · simp only [List.size_toArray,List.length_append,List.length_cons,List.length_nil] <;> omega
    · simp
  · cases q:s.heap.get? h1.objs.size with
    | none=>rfl
    | some o=>exact absurd (Heap.lt_size q) (by rw [so.1]; exact Nat.lt_irrefl _)
  · refine ⟨fun b o e n1 n2=>?_,fun b o e n1 n2=>?_⟩
    · have e3:h1.get? b=some o:=(so.2.1 b n1).trans e
      have nb:a≠b:=fun z=>n2 (by rw [z]; exact List.mem_cons_self)
      rw [Heap.get?_update_other _ _ nb]
      exact Heap.get?_push_of_some _ e3
    · obtain ⟨sl,e3⟩:=so.2.2 b o e
      have nb:a≠b:=fun z=>n2 (by rw [z]; exact List.mem_cons_self)
      refine ⟨sl,?_⟩
      rw [Heap.get?_update_other _ _ nb]
      exact Heap.get?_push_of_some _ e3
theorem note_ok {st:Option (Addr × Value)} {Q:Unit→Shared→Prop} (hfr:A.frames=some (env::outer)) (hl:s.heap.FunFrames base (env::outer)) (hf:env.frame=some L)
    (x:ExcAt s.heap a cls od st) (hst:st=none∨∃ T,st=some (T,.none))
    (k:∀ h' T',ExcAt h' a cls od (some (T',rawInt L))→s.heap.get? T'=none→Kp ((env::outer).filterMap (·.frame)) (a::stT st) s.heap h'→Q () { s with heap:=h' }) :
    wpAny M A (noteFrame (.ref a) env) Q E s:=by
  obtain ⟨oe,vs,he,hc,ho,hd,hz,x⟩:=x
  unfold noteFrame
  simp only [hf]
  rcases hst with rfl | ⟨T,rfl⟩
  · refine wpAny_bind (wpAny_field he hd x ?_)
    rw [if_neg (by decide)]
    exact entry_ok hfr hl hf he hc ho hd hz k
  · obtain ⟨x1,nT,oT,ts,hT,dT,zT,x3⟩:=x
    refine wpAny_bind (wpAny_field he hd x1 ?_)
    rw [if_pos (by simp)]
    refine wpAny_bind (wpAny_field hT dT x3 ?_)
    rw [if_neg (by simp [rawInt])]
    refine wpAny_bind (wpAny_setField hT dT zT ?_)
    have other:∀ b,b≠T→(s.heap.update T (Obj.mapFields (·.setIfInBounds 3 Value.none))).get? b=s.heap.get? b:=fun b hb=>Heap.get?_update_other _ _ (Ne.symm hb)
    have nrec:∀ b o,s.heap.get? b=some o→(∀ ws,o.data ≠ .fields ws)→b≠T:=fun b o e nf z=>by
      subst z; rw [hT] at e; cases e; exact nf ts dT
    refine entry_ok (hfr:=hfr) (hl:=hl.of_keeps fun b o e nf=>⟨o,(other b (nrec b o e nf)).trans e,rfl⟩) hf ((other a (Ne.symm nT)).trans he) hc ho hd hz fun h' T' y1 y2 y3=>k h' T' y1 ?_ ?_
    · by_cases z:T'=T
      · subst z
        have:=Heap.get?_update_self (Obj.mapFields (·.setIfInBounds 3 Value.none)) hT (Obj.isFreed_of_fields (Obj.data_mapFields dT _))
        rw [this] at y2; cases y2
      · rw [← other T' z]; exact y2
    · refine ⟨fun b o e n1 n2=>y3.keep b o ((other b fun z=>n2 (by rw [z]; simp [stT])).trans e) n1 fun z=>n2 (List.mem_cons.mpr (.inl (List.mem_singleton.mp z))),fun b o e n1 n2=>y3.slot b o ((other b fun z=>n2 (by rw [z]; simp [stT])).trans e) n1 fun z=>n2 (List.mem_cons.mpr (.inl (List.mem_singleton.mp z)))⟩
theorem land_ok {T:Addr} {fl:Value} {Q:Unit→Shared→Prop} (x:ExcAt s.heap a cls od (some (T,fl)))
    (k:∀ h',ExcAt h' a cls od (some (T,.none))→(∀ b o,b≠T→s.heap.get? b=some o→h'.get? b=some o)→Q () { s with heap:=h' }):wpAny M A (setFlight (.ref a) none) Q E s:=by
  obtain ⟨oe,vs,he,hc,ho,hd,hz,x1,nT,oT,ts,hT,dT,zT,x3⟩:=x
  unfold setFlight
  refine wpAny_bind (wpAny_field he hd x1 ?_)
  rw [if_pos (by simp)]
  refine wpAny_setField hT dT zT (k _ ?_ fun b o hb e=>?_)
  · have d2:=Obj.data_mapFields dT (·.setIfInBounds 3 Value.none)
    exact ⟨oe,vs,by rw [Heap.get?_update_other _ _ nT]; exact he,hc,ho,hd,hz,x1,nT,_,_,Heap.get?_update_self _ hT (Obj.isFreed_of_fields d2),d2,by simpa using zT,by simp [zT]⟩
  · rw [Heap.get?_update_other _ _ (Ne.symm hb)]; exact e
theorem leave_ok {st:Option (Addr × Value)} {Q:Unit→Shared→Prop} (hfr:A.frames=some (env::outer)) (hl:s.heap.FunFrames base (env::outer)) (hf:env.frame=some L)
    (x:ExcAt s.heap a cls od st) (hst:st=none∨∃ T,st=some (T,.none))
    (k:∀ h' T',ExcAt h' a cls od (some (T',.none))→s.heap.get? T'=none→Kp ((env::outer).filterMap (·.frame)) (a::stT st) s.heap h'→Q () { s with heap:=h' }) :
    wpAny M A (leaving env (.ref a)) Q E s:=by
  unfold leaving
  refine wpAny_bind (note_ok hfr hl hf x hst fun h1 T1 y1 y2 y3=>?_)
  refine land_ok y1 fun h2 z1 z2=>?_
  refine k h2 T1 z1 y2 ⟨fun b o e n1 n2=>z2 b o (fun q=>?_) (y3.keep b o e n1 n2),fun b o e n1 n2=>?_⟩
  · subst q; rw [y2] at e; cases e
  · obtain ⟨sl,e1⟩:=y3.slot b o e n1 n2
    exact ⟨sl,z2 b _ (fun q=>by subst q; rw [y2] at e; cases e) e1⟩
end
end L2
set_option Elab.async false
set_option linter.all false
set_option maxRecDepth 100000
namespace L2
open PySem PySem.Spec PyProof.Rows
section
variable {P:Program} {w:World} {H H1 H2:Hp} {h h1 h2 base:Heap} {fs fs2 ex:List Addr} {a:Addr} {o:HO}
theorem ObjOk.get (x:ObjOk P w H h a o):∃ ob,h.get? a=some ob:=by
  cases o with
  | lst xs=>obtain ⟨_,_,_,_,e⟩:=x; exact ⟨_,e⟩
  | tup xs=>obtain ⟨_,_,_,o,e,_⟩:=x; exact ⟨_,e⟩
  | dK kvs=>obtain ⟨_,_,_,_,o,_,_,e,_⟩:=x; exact ⟨_,e⟩
  | dT kvs=>obtain ⟨_,_,_,_,o,_,_,e,_⟩:=x; exact ⟨_,e⟩
  | set S n=>obtain ⟨o,_,_,_,e,_⟩:=x; exact ⟨_,e⟩
  | ins C dx fs=>obtain ⟨_,_,_,e,_⟩:=x; exact ⟨_,e⟩
  | own y=>obtain ⟨_,e⟩:=x; exact ⟨_,e⟩
  | xd fs=>obtain ⟨_,⟨_,_,_,e,_⟩,_⟩:=x; exact ⟨_,e⟩
  | rng lo hi=>obtain ⟨_,_,_,e⟩:=x; exact ⟨_,e⟩
  | frz ob u=>obtain ⟨e,_⟩:=x; exact ⟨_,e⟩
  | tbl ps=>exact ⟨_,(show h.get? a=some _ from x)⟩
  | met f y=>exact ⟨_,(show h.get? a=some _ from x)⟩
  | ext φ=>obtain ⟨_,e,_⟩:=x; exact e
theorem HOk.kp (x:HOk P w H h) (k:Kp fs ex h h1) (hf:∀ b∈fs,H b=none) (he:∀ b∈ex,H b=none):HOk P w H h1:=fun a o e =>
  (x a o e).stay (fun b u hb q=>by
    have nb:H b≠none:=by
      rcases hb with rfl | hb
      · rw [e]; simp
      · rw [hb]; simp
    exact k.keep b u q (fun z=>nb (hf b z)) fun z=>nb (he b z)) (fun _ q=>q) fun _ _ q=>q
theorem Un.tr (u:Un fs [] H H1 h h1) (v:Un fs2 [] H1 H2 h1 h2) (hf:∀ b∈fs2,b∈fs∨h.get? b=none):Un fs [] H H2 h h2 where
  keep:=fun b o e n m _=>v.keep b o (u.keep b o e n m (by simp)) (u.free b o e n (by simp)) (fun z=>(hf b z).elim m fun q=>by rw [e] at q; cases q) (by simp)
  slot:=fun b o e n m _=>by
    obtain ⟨s1,e1⟩:=u.slot b o e n m (by simp)
    obtain ⟨s2,e2⟩:=v.any e1 (u.free b o e n (by simp)) (by simp)
    exact ⟨s2,e2⟩
  free:=fun b o e n _=>by
    obtain ⟨o1,e1⟩:=u.there b o e (by simp)
    exact v.free b o1 e1 (u.free b o e n (by simp)) (by simp)
  there:=fun b o e _=>by
    obtain ⟨o1,e1⟩:=u.there b o e (by simp)
    exact v.there b o1 e1 (by simp)
  tups:=fun b xs e=>v.tups b xs (u.tups b xs e)
  frzs:=fun b ob xs e=>v.frzs b ob xs (u.frzs b ob xs e)
  tbls:=fun b ps e=>by
    obtain ⟨m1,e1⟩:=u.tbls b ps e
    obtain ⟨m2,e2⟩:=v.tbls b _ e1
    exact ⟨m1++m2,by rw [e2,Array.append_assoc]⟩
theorem Un.kp (u:Un fs [] H H1 h h1) (k:Kp fs2 ex h1 h2) (hf:∀ b∈fs2,b∈fs∨h.get? b=none) (he:∀ b∈ex,h.get? b=none):Un fs [] H H1 h h2 where
  keep:=fun b o e n m _=>k.keep b o (u.keep b o e n m (by simp)) (fun z=>(hf b z).elim m fun q=>by rw [e] at q; cases q) fun z=>by rw [he b z] at e; cases e
  slot:=fun b o e n m _=>by
    obtain ⟨s1,e1⟩:=u.slot b o e n m (by simp)
    obtain ⟨s2,e2⟩:=k.any e1 fun z=>by rw [he b z] at e; cases e
    exact ⟨s2,e2⟩
  free:=u.free
  there:=fun b o e _=>by
    obtain ⟨o1,e1⟩:=u.there b o e (by simp)
    obtain ⟨s2,e2⟩:=k.any e1 fun z=>by rw [he b z] at e; cases e
    exact ⟨_,e2⟩
  tups:=u.tups
  frzs:=u.frzs
  tbls:=u.tbls
theorem Un.put {u:HO} (x:Un fs [] H H1 h h1) (ha:h.get? a=none) (hn:H1 a=none):Un fs [] H (upd H1 a u) h h1 where
  keep:=x.keep
  slot:=x.slot
  free:=fun b ob e n m=>by rw [upd_ne (fun z=>by subst z; rw [ha] at e; cases e)]; exact x.free b ob e n m
  there:=x.there
  tups:=fun b xs e=>by rw [upd_ne (ne_of_none (x.tups b xs e) hn)]; exact x.tups b xs e
  frzs:=fun b ob xs e=>by rw [upd_ne (ne_of_none (x.frzs b ob xs e) hn)]; exact x.frzs b ob xs e
  tbls:=fun b ps e=>by
    obtain ⟨m,q⟩:=x.tbls b ps e
    exact ⟨m,by rw [upd_ne (ne_of_none q hn)]; exact q⟩
theorem HOk.put {u:HO} (x:HOk P w H h) (hn:H a=none) (new:ObjOk P w (upd H a u) h a u):HOk P w (upd H a u) h:=fun b v e=>by
  by_cases hb:b=a
  · subst hb; rw [upd_same] at e; cases e; exact new
  · rw [upd_ne hb] at e
    exact (x b v e).stay (fun c q _ r=>r) (fun c q=>by rw [upd_ne (ne_of_none q hn)]; exact q) fun c xs q=>by rw [upd_ne (ne_of_none q hn)]; exact q
theorem funFrames_kp:∀ {l:List Env},(∀ b∈frs l,∀ o,h.get? b=some o→∃ sl,h1.get? b=some { o with slots:=sl })→h.FunFrames base l→h1.FunFrames base l
  | [],_,_=>trivial
  | env::r,k,⟨hk,⟨L,o,hf,hn,ho,hd⟩,hr⟩=>by
    have hL:L∈frs (env::r):=List.mem_filterMap.mpr ⟨env,List.mem_cons_self,hf⟩
    obtain ⟨sl,e⟩:=k L hL o ho
    refine ⟨hk,⟨L,_,hf,hn,e,hd⟩,funFrames_kp (fun b hb=>k b ?_) hr⟩
    obtain ⟨e',m,q⟩:=List.mem_filterMap.mp hb
    exact List.mem_filterMap.mpr ⟨e',List.mem_cons_of_mem _ m,q⟩
end
def CX1 (P:Program) (w:World):CXT:=fun outer H s E e s'=>∃ (a T:Addr) (cls:Value) (od:Option Addr) (H':Hp),e=.ref a∧s'.os=s.os∧AllBare s'.gens∧Un (frs outer) [] H H' s.heap s'.heap∧HOk P w H' s'.heap ∧
  s.heap.get? a=none∧s.heap.get? T=none∧H' a=none∧H' T=none∧ExcAt s'.heap a cls od (some (T,.none))∧E cls od H'
structure XPass (X:Cx) (Ex:St→XK):Prop where
  p:∀ (pins:List (Addr × Obj)) (σ:St) (H:Hp) (s:Shared) (e:Value) (s':Shared),Inv X pins σ H s→CX1 X.prog X.w X.stack H s (Ex σ) e s'→X.xe e s'
structure XMade (X:Cx) (Ex:St→XK):Prop where
  p:∀ (pins:List (Addr × Obj)) (σ:St) (H:Hp) (s:Shared) (h':Heap) (tk:Nat) (a:Addr) (cls:Value) (od:Option Addr),Inv X pins σ H s→(∀ b o,s.heap.get? b=some o→h'.get? b=some o)→s.heap.get? a=none→H a=none →
    ExcAt h' a cls od none→Ex σ cls od H→X.xe (.ref a) { s with heap:=h',toks:=tk }
section
variable {P:Program} {w:World} {K:PySem.W.Frag} {mg:Str→Option Value} {base:Heap} {N:List Str} {qual:Str} {scope:Scope} {f:Addr} {cd:Value} {A:Around} {outer:List Env} {s:Shared} {H:Hp} {E:XK}
theorem leave_fn {pins:List (Addr × Obj)} {σ:St} {H1 H2:Hp} {s1 s2:Shared} {a:Addr} {cls:Value} {od:Option Addr} {st:Option (Addr × Value)}
    (I:Inv (cxOf (CX1 P w) P w K mg base N qual scope f cd A outer s H E) pins σ H1 s1) (os:s2.os=s1.os) (bare:AllBare s2.gens)
    (un:Un (frs (cxOf (CX1 P w) P w K mg base N qual scope f cd A outer s H E).stack) [] H1 H2 s1.heap s2.heap) (hok:HOk P w H2 s2.heap) (x:ExcAt s2.heap a cls od st) (hst:st=none∨∃ T,st=some (T,.none))
    (fa:s1.heap.get? a=none) (na:H2 a=none) (fT:∀ T∈stT st,s1.heap.get? T=none) (nT:∀ T∈stT st,H2 T=none) (q:E cls od H2) :
    (cxOf (CX1 P w) P w K mg base N qual scope f cd A outer s H E).xe (.ref a) s2:=by
  have hff:s2.heap.FunFrames (cxOf (CX1 P w) P w K mg base N qual scope f cd A outer s H E).base (cxOf (CX1 P w) P w K mg base N qual scope f cd A outer s H E).stack :=
    funFrames_kp (fun b hb o e=>un.any e (I.stkFree b hb) (by simp)) I.stack
  have old:∀ b,s1.heap.get? b=none→s.heap.get? b=none:=fun b e=>by
    cases q:s.heap.get? b with
    | none=>rfl
    | some o =>
      obtain ⟨o',e'⟩:=I.base.there b o q (by intro z; cases z)
      rw [e] at e'; cases e'
  have old2:∀ b,s2.heap.get? b=none→s1.heap.get? b=none:=fun b e=>by
    cases q:s1.heap.get? b with
    | none=>rfl
    | some o =>
      obtain ⟨o',e'⟩:=un.there b o q (by simp)
      rw [e] at e'; cases e'
  have hfs:∀ b∈frs (cxOf (CX1 P w) P w K mg base N qual scope f cd A outer s H E).stack,b∈frs outer∨s.heap.get? b=none:=fun b hb=>by
    have hb':b∈s.heap.objs.size::frs outer:=hb
    rcases List.mem_cons.mp hb' with z | z
    · right
      rw [z]
      exact Heap.get?_none_of_le (Nat.le_refl _)
    · exact .inl z
  show wpAny (model P w) (A.deeper (envOfC qual scope s.heap.objs.size f cd)) (leaving (envOfC qual scope s.heap.objs.size f cd) (.ref a)) _ _ s2
  refine leave_ok I.ok.frames hff rfl x hst fun h3 T3 y1 y2 y3=>?_
  have hfree:∀ b∈frs (cxOf (CX1 P w) P w K mg base N qual scope f cd A outer s H E).stack,H2 b=none:=fun b hb=>by
    have ff:=I.stack
    obtain ⟨_,o,ho,_⟩:=ff.mem hb
    exact un.free b o ho (I.stkFree b hb) (by simp)
  have hex:∀ b∈a::stT st,s1.heap.get? b=none:=fun b hb=>by
    rcases List.mem_cons.mp hb with rfl | hb
    · exact fa
    · exact fT b hb
  refine ⟨a,T3,cls,od,H2,rfl,os.trans I.os,bare,((I.base.tr un hfs).kp y3 hfs fun b hb=>old b (hex b hb)),hok.kp y3 hfree (fun b hb=>?_),old a fa,old T3 (old2 T3 y2),na,?_,y1,q⟩
  · rcases List.mem_cons.mp hb with rfl | hb
    · exact na
    · exact nT b hb
  · cases z:H2 T3 with
    | none=>rfl
    | some u =>
      obtain ⟨ob,e⟩:=(hok T3 u z).get
      rw [y2] at e; cases e
theorem xpass_fn:XPass (cxOf (CX1 P w) P w K mg base N qual scope f cd A outer s H E) (fun _=>E):=⟨fun pins σ H1 s1 e s2 I hc=>by
  obtain ⟨a,T,cls,od,H2,rfl,os,bare,un,hok,fa,fT,na,nT,x,q⟩:=hc
  exact leave_fn I os bare un hok x (.inr ⟨T,rfl⟩) fa na (fun b hb=>by cases List.mem_singleton.mp hb; exact fT) (fun b hb=>by cases List.mem_singleton.mp hb; exact nT) q⟩
theorem xmade_fn:XMade (cxOf (CX1 P w) P w K mg base N qual scope f cd A outer s H E) (fun _=>E):=⟨fun pins σ H1 s1 h' tk a cls od I k fa na x q =>
  leave_fn (s2:={ s1 with heap:=h',toks:=tk }) I rfl I.bare (Un.kept k) (I.hok.kept k) x (.inl rfl) fa na (fun b hb=>by cases hb) (fun b hb=>by cases hb) q⟩
end
section
variable {X:Cx} {k:Nat} {f C:Addr} {fd:FuncData} {ps:List Str} {sp:Sp} {Ex:St→XK} {x:Str} {p pos np cpos:Pos} {e:Expr} {es:List Expr} {t:TA}
theorem run_fnX {pins:List (Addr × Obj)} {σ:St} {H:Hp} {s:Shared} {Q:VK} {us:List Value} {vs:List V} (F:FnOk X.prog X.w X.K X.mg X.base (CX1 X.prog X.w) k f fd ps sp) (hr:Room k X.A) (hb:Binds X.K fd ps []) (hx:XPass X Ex)
    (I:Inv X pins σ H s) (r:Vals vs us) (h:sp vs H Q (Ex σ)):wpAny (model X.prog X.w) X.A (call (.ref f) us) (EP X pins σ Q) X.xe s:=by
  have hl:(us++[]).length=ps.length:=by rw [List.append_nil,← r.length]; exact F.len _ _ _ _ h
  have hbt:=hb s us I.kIn hl
  rw [List.append_nil] at hbt
  refine wpAny_call (codeAny_mono (F.run X.A X.stack s H ⟨us,[]⟩ us vs Q (Ex σ) hr I.env0 hbt r h) fun r s' hq=>?_)
  cases r with
  | error e=>exact hx.p pins σ H s e s' I hq
  | ok fl =>
    cases fl with
    | ret u=>exact I.after hq
    | next=>exact False.elim hq
    | brk=>exact False.elim hq
    | cont=>exact False.elim hq
end
theorem Fun.okx {P:Program} {w:World} {K:PySem.W.Frag} {mg:Str→Option Value} {base:Heap} {x qual:Str} {st:Stmt} {f:Addr} {fd:FuncData} {N ps:List Str} {k:Nat} {sp:Sp} (F:Fun K x qual st f fd) (S:FnScope N ps (defScope st)) (len:∀ vs H Q E,sp vs H Q E→vs.length=ps.length)
    (hbody:∀ (cdv:Value) (A:Around) (outer:List Env) (s:Shared) (H:Hp) (vs:List V) (Q:VK) (E:XK),Room k (A.deeper (envOfC qual (defScope st) s.heap.objs.size f cdv))→sp vs H Q E →
      XPass (cxOf (CX1 P w) P w K mg base N qual (defScope st) f cdv A outer s H E) (fun _=>E)→XMade (cxOf (CX1 P w) P w K mg base N qual (defScope st) f cdv A outer s H E) (fun _=>E) →
      ∃ t,PSsw (cxOf (CX1 P w) P w K mg base N qual (defScope st) f cdv A outer s H E) (defBody st) t∧t { nx:=fun _ H'=>Q .non H',rt:=Q } (start N vs) H):FnOk P w K mg base (CX1 P w) (k+1) f fd ps sp:=by
  obtain ⟨oc,od,kV,doc,pm,an,cdv,ct,osl,rfl,lk,hcd⟩:=F.ex
  refine fn_of lk hcd S len fun A outer s H vs Q E hr hsp=>?_
  obtain ⟨t,h,q⟩:=hbody cdv A outer s H vs Q E hr hsp xpass_fn xmade_fn
  exact ⟨t,h.p,q⟩
theorem exc_obj {K:PySem.W.Frag} {h:Heap} {C:Addr} {bmB:List Value} {newId:String} (X:K.In h) (q:PySem.W.excIn K C bmB newId=true) :
    ∃ bm N nm qn bs hdct sn sub ab col dd k0 k1 k2 k3 k5 mN,h.get? C=some (excClassObj nm qn C N bs bm hdct sn sub ab col dd k0 k1 k2 k3 k5 newId)∧h.Ns N mN∧mN "__init__" = none∧OwnTail h bmB bm:=by
  unfold PySem.W.excIn at q
  cases e:K.lookup C with
  | none=>rw [e] at q; cases q
  | some o =>
    rw [e] at q
    obtain ⟨oc,dd,dt,sl⟩:=o
    split at q
    · rename_i _ dd' cd sl' ho
      cases ho
      split at q
      · rename_i C' bm k0 k1 k2 k3 n k5 hm hs
        rw [Bool.and_eq_true,Bool.and_eq_true,Bool.and_eq_true,Bool.and_eq_true,Bool.and_eq_true] at q
        obtain ⟨⟨⟨⟨⟨q1,q2⟩,q3⟩,q4⟩,q5⟩,q6⟩:=q
        have q1:C'=C:=by simpa using q1
        have q2:n=newId:=by simpa using q2
        have q3:cd.hasDel=false:=by simpa using q3
        have q6:PySem.W.nsIn K cd.ns "__init__" = some none:=by simpa using q6
        subst q1 q2
        obtain ⟨nm,bs,mro,ns,qn,hd,sn,sub,ab,col,del⟩:=cd
        cases hm
        cases q3
        obtain ⟨l⟩:=sl
        cases hs
        exact ⟨bm,ns,nm,qn,bs,hd,sn,sub,ab,col,dd,k0,k1,k2,k3,k5,_,X _ _ e,.of_isNs (PySem.W.isNs_of_in X q5),PySem.W.nsMap_none_of_in X q5 q6,PySem.W.tail_of_in X q4⟩
      · cases q
    · cases q
theorem MadeExcOf.at {h h':Heap} {a:Addr} {cls:Value} {args:List Value} (x:Heap.MadeExcOf h h' a cls args):ExcAt h' a cls none none:=by
  obtain ⟨t,e,_,_⟩:=x.there
  exact ⟨_,_,e,rfl,rfl,rfl,by show 1<6; decide,rfl⟩
def tRaise (cls:Value) (Ex:St→XK) (t:TA):TS:=fun _ σ H=>t σ H fun vs H1=>vs.length≤64∧Ex σ cls none H1
abbrev mroVE:List Value:=[.type "ValueError",.type "Exception",.type "BaseException",.type "object"]
section
variable {X:Cx} {C:Addr} {Ex:St→XK} {x:Str} {pos np cpos:Pos} {e:Expr} {es:List Expr} {t:TA}
theorem ws_raise (q:PySem.W.excIn X.K C mroVE "ValueError.__new__" = true) (hm:X.mg x=some (.ref C)) (hc:X.calm=true) (hx:XMade X Ex) (ha:PAw X (e::es) t) (hg:Gl X x:=by rfl)
    (hdb:(x == ("__debug__" : Str))=false:=by decide) (he:starEach (e::es) X.env=(false,eval e X.env)::starEach es X.env:=by first | exact se_Name | exact se_Constant | exact se_BoolOp | exact se_BinOp | exact se_UnaryOp | exact se_IfExp | exact se_Dict | exact se_ListComp | exact se_Compare | exact se_Call | exact se_Attribute | exact se_Subscript | exact se_List | exact se_Tuple | exact se_JoinedStr | exact se_GeneratorExp)
    (hpl:(backTo cpos (starEach es X.env)).any (·.1)=false:=by repeat (first | exact ap_nil | refine ap_cons (by first | exact se_Name | exact se_Constant | exact se_BoolOp | exact se_BinOp | exact se_UnaryOp | exact se_IfExp | exact se_Dict | exact se_ListComp | exact se_Compare | exact se_Call | exact se_Attribute | exact se_Subscript | exact se_List | exact se_Tuple | exact se_JoinedStr | exact se_GeneratorExp) ?_)) :
    PSw X (.Raise (some (.Call (.Name x np) (e::es) [] cpos)) none pos) (tRaise (.ref C) Ex t):=⟨by
  intro pins s σ H D I h
  obtain ⟨bm,N,nm,qn,bs,hdct,sn,sub,ab,col,dd,k0,k1,k2,k3,k5,mN,hC,hN,hni,TL⟩:=exc_obj I.ok.mod.kin q
  have FB:=PySem.F.excBase_ValueError
  refine wpAny_Raise_call_subT (C:=C) (nm:=nm) (q:=qn) (N:=N) (bs:=bs) (bm:=bm) (hdct:=hdct) (sn:=sn) (sub:=sub) (ab:=ab) (col:=col) (dd:=dd) (k0:=k0) (k1:=k1) (k2:=k2) (k3:=k3) (k5:=k5) FB (mN:=mN)
    (TL.hasType FB.hasBase) (I.ok.hd hc) ?_ hni (ld_glob I hg hm ⟨rfl,?_⟩ hdb)
  · rw [he]
    show (false || (backTo cpos (starEach es X.env)).any (·.1))=false
    rw [hpl]; rfl
  · have hA:=ha.p cpos pins s σ H _ I h
    rw [he] at hA ⊢
    refine Calls.evalArgs_plain (thn hA fun us s1 ⟨vs,H1,I1,r,hz,q⟩=>⟨rfl,?_,I1.bk _ _ hC,hN.keeps I1.bk,TL.keeps I1.bk,fun h' a x=>?_⟩)
    · rw [← r.length]; exact small64 hz
    · have fresh:=x.new
      have na:H1 a=none:=by
        cases z:H1 a with
        | none=>rfl
        | some u=>obtain ⟨ob,e⟩:=(I1.hok a u z).get; rw [fresh] at e; cases e
      exact hx.p pins σ H1 s1 h' s1.toks a _ none I1 x.keeps fresh na (MadeExcOf.at x) q⟩
end
end L2
set_option Elab.async false
set_option linter.all false
set_option maxRecDepth 100000
namespace L2
open PySem PySem.W PySem.Spec PySem.Calls PyProof.Rows
structure ExcCls (K:Frag) (C:Addr):Prop where
  ga:findIn K (.ref C) "__getattribute__" = some (some (.builtin "BaseException.__getattribute__"))
  gt:findIn K (.ref C) "__getattr__" = some none
  sub:subIn K (.ref C) (.type "BaseException")=some true
  cls:(clsIn K C).isSome=true
  kc:findIn K (.ref C) "__class__" = some (some (.builtin "object.__class__"))
  kg:specialIn K (.builtin "object.__class__") "__get__" = some (some (.builtin "getset_descriptor.__get__"))
  kt:takesIn K (.builtin "object.__class__")=some true
  ob:mroIn K C (.type "object")=some true
section
variable {prog:Program} {w:World} {A:Around} {E:Value→Shared→Prop} {s:Shared} {K:Frag} {x C:Addr} {ox:Obj} {od:Option Obj} {name:Str}
theorem exc_check {nv:Value} {Q:Unit→Shared→Prop} (c:ExcCls K C) (X:K.In s.heap) (I:InstAt s.heap x ox C od) (h:Q () s):wpAny (model prog w) A (checkBuiltinCall "BaseException.__getattribute__" ⟨[.ref x,nv],[]⟩) Q E s:=by
  have hk:builtinKind "BaseException.__getattribute__" = some .slot:=by decide +kernel
  have hsp:splitId "BaseException.__getattribute__" = some ("BaseException", "__getattribute__"):=by decide +kernel
  have LT:=I.type (M:=model prog w)
  have LS:=looks_subIn (M:=model prog w) X c.sub
  have LI:Looks (model prog w) s.heap (isInstance (.ref x) (.type "BaseException")) true:=LT.andThen LS
  have ha:=F.args_bexc_ga (.ref x) nv
  obtain ⟨hh,g,d,t,os⟩:=s
  simp only [checkBuiltinCall,hk,hsp]
  refine wpAny_bind (LI.at ?_)
  repeat (any_goals (first | assumption | wp_step))
theorem exc_call {v:Value} {tk:Tok} {R:Result→Shared→Prop} (c:ExcCls K C) (X:K.In s.heap) (I:InstAt s.heap x ox C od) (hf:findObj K C od name=some (.value v)) (h:R (.ok (.ret v)) s) :
    codeAny (model prog w) A (.call (.builtin "BaseException.__getattribute__") ⟨[.ref x,.str name tk],[]⟩) R s:=by
  refine codeAny_call_builtin F.attr_ValueError.ga.plain F.entry_bexc_ga (exc_check c X I ?_)
  have LT:=I.type (M:=model prog w)
  have LF:=looks_find (M:=model prog w) X I hf
  obtain ⟨hh,g,d,t,os⟩:=s
  unfold Builtin.«object.__getattribute__»
  refine wpAny_bind ?_
  repeat (any_goals (first | assumption | (refine LT.at ?_) | (refine LF.at ?_) | wp_step))
theorem exc_callB {g a v:Value} {tk:Tok} {R:Result→Shared→Prop} (c:ExcCls K C) (X:K.In s.heap) (I:InstAt s.heap x ox C od) (hf:findObj K C od name=some (.bind g a))
    (h:∀ A' R',(R' (.ok (.ret v)) s)→codeAny (model prog w) A' (.call g ⟨[a,.ref x,.ref C],[]⟩) R' s) (hq:R (.ok (.ret v)) s) :
    codeAny (model prog w) A (.call (.builtin "BaseException.__getattribute__") ⟨[.ref x,.str name tk],[]⟩) R s:=by
  refine codeAny_call_builtin F.attr_ValueError.ga.plain F.entry_bexc_ga (exc_check c X I ?_)
  have LT:=I.type (M:=model prog w)
  have LF:=looks_find (M:=model prog w) X I hf
  obtain ⟨hh,gg,d,t,os⟩:=s
  unfold Builtin.«object.__getattribute__»
  refine wpAny_bind ?_
  repeat (any_goals (first | assumption | (refine LT.at ?_) | (refine LF.at ?_) | (refine h _ _ ?_) | wp_step))
theorem exc_by {v:Value} {nv:Value} {fill expr:Bool} {Q:Value→Shared→Prop} (c:ExcCls K C) (X:K.In s.heap) (I:InstAt s.heap x ox C od)
    (hc:∀ A' R',(R' (.ok (.ret v)) s)→codeAny (model prog w) A' (.call (.builtin "BaseException.__getattribute__") ⟨[.ref x,nv],[]⟩) R' s) (hv:handedIn v=true) (h:Q v s):wpAny (model prog w) A (getAttrBy (.ref x) nv fill expr) Q E s:=by
  have LT:=I.type (M:=model prog w)
  have L1:=looks_findIn (M:=model prog w) X c.ga
  have L2:=looks_findIn (M:=model prog w) X c.gt
  have hb:=F.attr_ValueError.ga.bind (.ref x)
  have n0:(expr&&onTheHeap (Value.builtin "BaseException.__getattribute__"))=false:=by cases expr <;> rfl
  have n1:(onTheHeap (Value.ref C)&&Value.builtin "BaseException.__getattribute__" == Value.builtin "object.__getattribute__")=false:=by
    rw [show (Value.builtin "BaseException.__getattribute__" == Value.builtin "object.__getattribute__")=false by decide +kernel]; rfl
  obtain ⟨hh,g,d,t,os⟩:=s
  unfold getAttrBy
  refine wpAny_holding (wpAny_bind (LT.at (wpAny_bind (L1.at ?_))))
  dsimp only
  rw [if_neg (by rw [n1]; exact Bool.false_ne_true)]
  unfold getAttrByItsOwn hookBefore
  rw [if_pos (show onTheHeap (Value.ref C)=true from rfl)]
  refine wpAny_bind (L2.at (wpAny_bind (wpAny_attempt (wpAny_holding ?_))))
  unfold callGetattribute
  rw [if_neg (by rw [n0]; exact Bool.false_ne_true)]
  unfold boundAndCalled
  refine wpAny_bind (wpAny_of_eq hb (wpAny_call (hc _ _ ?_)))
  exact handed_on hv h
theorem exc_attr {v:Value} {expr:Bool} {Q:Value→Shared→Prop} (c:ExcCls K C) (X:K.In s.heap) (I:InstAt s.heap x ox C od) (hf:findObj K C od name=some (.value v)) (hv:handedIn v=true) (h:Q v { s with toks:=s.toks+1 }) :
    wpAny (model prog w) A (getAttr (.ref x) name expr) Q E s:=by
  unfold getAttr
  refine wpAny_bind (wpAny_mkText ?_)
  exact exc_by (s:={ s with toks:=s.toks+1 }) c X I (fun A' R' q=>exc_call (s:={ s with toks:=s.toks+1 }) c X I hf q) hv h
theorem exc_class {Q:Option Value→Shared→Prop} (c:ExcCls K C) (X:K.In s.heap) (I:InstAt s.heap x ox C od) (h:Q (some (.ref C)) { s with toks:=s.toks+1 }):wpAny (model prog w) A (getAttr? (.ref x) "__class__") Q E s:=by
  have hf:findObj K C od "__class__" = some (.bind (.builtin "getset_descriptor.__get__") (.builtin "object.__class__")):=by
    obtain ⟨cd,hc⟩:=Option.isSome_iff_exists.mp c.cls
    unfold findObj
    rw [hc,Option.bind_some,c.kc,Option.bind_some]
    simp [c.kg,c.kt]
  unfold getAttr? getAttrBy?
  refine wpAny_bind (wpAny_mkText (wpAny_bind (wpAny_attempt ?_)))
  refine exc_by (s:={ s with toks:=s.toks+1 }) c X I (fun A' R' q=>exc_callB (s:={ s with toks:=s.toks+1 }) (v:=.ref C) c X I hf (fun A'' R'' q'=>class_get (s:={ s with toks:=s.toks+1 }) (ox:=ox) (od:=od) X I c.ob q') q) rfl ?_
  exact wpAny_pure h
theorem kitx_exc (c:ExcCls K C):KitX K (.ref x) (.ref C) (fun h=>∃ ox od,InstAt h x ox C od) where
  ty:=fun _ _ _ ⟨_,_,I⟩=>I.type
  it:=fun M h X _=>by
    have e:=c.cls
    unfold clsIn at e
    split at e
    · rename_i ho
      intro A' Q' E' s' k q
      unfold isType loadHead
      exact wpAny_bind (wpAny_loadPart (k _ _ (X _ _ ho)) (wpAny_pure q))
    · cases e
  ne:=fun h tp dd its n sl X htp=>by
    refine Bool.eq_false_iff.mpr fun q=>?_
    obtain rfl:C=tp:=Value.ref.inj (beq_iff_eq.mp q)
    have e:=c.cls
    unfold clsIn at e
    split at e
    · rename_i ho
      have z:=(X _ _ ho).symm.trans htp
      cases z
    · cases e
  ca:=fun X ⟨_,_,I⟩ k=>exc_class c X I k
end
end L2
set_option Elab.async false
set_option linter.all false
set_option maxRecDepth 100000
namespace L2
open PySem PySem.Spec PyProof.Rows
def ExcO (a C:Addr) (od:Option Addr):HO:=.ext fun h=>∃ oe vs,h.get? a=some oe∧oe.cls=.ref C∧oe.dict=od∧oe.data=.fields vs∧1<vs.size
theorem ExcO.ok {P:Program} {w:World} {H:Hp} {h:Heap} {a C:Addr} {od:Option Addr} {st:Option (Addr × Value)} (x:ExcAt h a (.ref C) od st):ObjOk P w H h a (ExcO a C od):=by
  obtain ⟨oe,vs,h1,h2,h3,h4,h5,_⟩:=x
  refine ⟨⟨oe,vs,h1,h2,h3,h4,h5⟩,⟨oe,h1⟩,?_⟩
  rintro g1 g2 ⟨oe,vs,e1,e2,e3,e4,e5⟩ k
  exact ⟨oe,vs,k _ e1,e2,e3,e4,e5⟩
theorem exc_inst {X:Cx} {pins:List (Addr × Obj)} {σ:St} {H:Hp} {s:Shared} {a C:Addr} (I:Inv X pins σ H s) (h:H a=some (ExcO a C none)):∃ ox od,PySem.W.InstAt s.heap a ox C od:=by
  obtain ⟨⟨oe,vs,e1,e2,e3,e4,_⟩,_⟩:=I.hok a _ h
  exact ⟨oe,none,⟨e1,e2,by unfold PySem.W.notCls; rw [e4],by rw [e3]; trivial⟩⟩
@[irreducible] def rIsX (K:PySem.W.Frag):List V→Hp→VK→Prop:=fun xs H Q=>∃ a C c b,xs=[.ref a,c]∧H a=some (ExcO a C none)∧ExcCls K C ∧
  ((∃ u,RelV c u∧PySem.W.kitOne K (.ref C) u=some b)∨∃ tp cs,c=.ref tp∧H tp=some (.tup cs)∧∀ us,Vals cs us→PySem.W.kitAny K (.ref C) us=some b)∧Q (.bl b) H
theorem cl_isiX {X:Cx}:CallR X (.builtin "isinstance") (rIsX X.K):=by
  unfold rIsX
  intro pins s σ H xs us Q I r h
  obtain ⟨a,C,c,b,rfl,ha,ec,hc,q⟩:=h
  obtain ⟨u,w',rfl,r1,r2⟩:=vals2 r
  cases (show u=Value.ref a from r1)
  have hi:=exc_inst I ha
  rcases hc with ⟨u,ru,e⟩ | ⟨tp,cs,rfl,ht,e⟩
  · have:w'=u:=by
      cases c with
      | ref p=>cases ru; cases r2; rfl
      | ty n=>cases ru; cases r2; rfl
      | non=>cases ru; cases r2; rfl
      | bl _=>cases ru; cases r2; rfl
      | int i=>obtain ⟨t,rfl⟩:=ru; simp [PySem.W.kitOne,PySem.W.kitCls] at e
      | str i=>obtain ⟨t,rfl⟩:=ru; simp [PySem.W.kitOne,PySem.W.kitCls] at e
      | byt i=>obtain ⟨t,rfl⟩:=ru; simp [PySem.W.kitOne,PySem.W.kitCls] at e
      | flt i=>obtain ⟨t,rfl⟩:=ru; simp [PySem.W.kitOne,PySem.W.kitCls] at e
    subst this
    exact PySem.W.kia_one (kitx_exc ec) I.kIn hi e (fun z=>nomatch z) fun tk=>⟨.bl b,H,I.tok _,rfl,q⟩
  · cases (show w'=Value.ref tp from r2)
    obtain ⟨_,its,rt,o,e1,e2,n,e3⟩:=(show ObjOk X.prog X.w H s.heap tp (.tup cs) from I.hok tp _ ht)
    obtain ⟨oc,odd,odt,osl⟩:=o
    cases e2
    cases e3
    exact PySem.W.kia_tup (kitx_exc ec) I.kIn hi e1 (e its rt) (fun z=>nomatch z) fun tk=>⟨.bl b,H,I.tok _,rfl,q⟩
theorem rxOne {K:PySem.W.Frag} {H:Hp} {Q:VK} {a C:Addr} {c:V} {b:Bool} (ha:H a=some (ExcO a C none)) (ec:ExcCls K C) (u:Value) (ru:RelV c u) (e:PySem.W.kitOne K (.ref C) u=some b) (q:Q (.bl b) H):rIsX K [.ref a,c] H Q:=by
  unfold rIsX; exact ⟨a,C,c,b,rfl,ha,ec,.inl ⟨u,ru,e⟩,q⟩
theorem rxTup {K:PySem.W.Frag} {H:Hp} {Q:VK} {a C tp:Addr} {cs:List V} {b:Bool} (ha:H a=some (ExcO a C none)) (ec:ExcCls K C) (ht:H tp=some (.tup cs)) (e:∀ us,Vals cs us→PySem.W.kitAny K (.ref C) us=some b) (q:Q (.bl b) H):rIsX K [.ref a,.ref tp] H Q:=by
  unfold rIsX; exact ⟨a,C,_,b,rfl,ha,ec,.inr ⟨tp,cs,rfl,ht,e⟩,q⟩
def Cx.tryW (X:Cx) (pins:List (Addr × Obj)) (xe:Value→Shared→Prop):Cx:={ X with pn:=X.pn++pins,xe:=xe }
def Cx.suite (X:Cx) (a:Addr):Cx:={ X with A:=X.A.mark (some (.ref a)),calm:=false,xe:=fun _ _=>False }
def Ends.drop (D:Ends) (i:Nat):Ends:={ nx:=fun σ H=>D.nx (σ.set i none) H,rt:=D.rt,bk:=fun σ H=>D.bk (σ.set i none) H,ct:=fun σ H=>D.ct (σ.set i none) H }
structure Catch (K:PySem.W.Frag) (C2:Addr):Prop where
  ty:PySem.W.typeIn K (.ref C2)=some (.type "type")
  cls:(PySem.W.clsIn K C2).isSome=true
  sub:PySem.W.subIn K (.ref C2) (.type "BaseException")=some true
def tTry (K:PySem.W.Frag) (C2:Addr) (i:Nat) (tb:(St→XK)→TS) (th:TS):TS:=fun D σ H=>∃ Ex:St→XK,tb Ex D σ H ∧
  ∀ σ' cls od H',Ex σ' cls od H'→∃ C,cls=.ref C∧PySem.W.subIn K (.ref C) (.ref C2)=some true∧∀ a,H' a=none→th (D.drop i) (σ'.set i (some (.ref a))) (upd H' a (ExcO a C od))
section
variable {X:Cx} {pins:List (Addr × Obj)} {σ:St} {H:Hp} {s:Shared}
theorem Inv.tryW (I:Inv X pins σ H s) (xe:Value→Shared→Prop):Inv (X.tryW pins xe) [] σ H s :=
  ⟨⟨I.ok.mod,I.ok.kind,I.ok.glob,I.ok.blt,I.ok.above,I.ok.inj,I.ok.has,I.ok.cab,I.ok.hd,I.ok.frames,I.ok.stk,I.ok.exf,I.ok.bs,I.ok.bsz,I.ok.noex,I.ok.exfs,I.ok.funs,I.ok.frf⟩,I.os,I.bare,I.base,I.loc,I.cell,I.free,I.freeC,
    fun p hp=>I.pin p (by have:p∈(X.pn++pins)++[]:=hp; rwa [List.append_nil] at this),I.hok,I.len⟩
theorem Inv.untry {xe:Value→Shared→Prop} {pins':List (Addr × Obj)} (I:Inv (X.tryW pins xe) pins' σ H s):Inv X pins σ H s :=
  ⟨⟨I.ok.mod,I.ok.kind,I.ok.glob,I.ok.blt,I.ok.above,I.ok.inj,I.ok.has,I.ok.cab,I.ok.hd,I.ok.frames,I.ok.stk,I.ok.exf,I.ok.bs,I.ok.bsz,I.ok.noex,I.ok.exfs,I.ok.funs,I.ok.frf⟩,I.os,I.bare,I.base,I.loc,I.cell,I.free,I.freeC,
    fun p hp=>I.pin p (List.mem_append_left _ hp),I.hok,I.len⟩
theorem Inv.suite (I:Inv X pins σ H s) (a:Addr):Inv (X.suite a) pins σ H s :=
  ⟨⟨I.ok.mod,I.ok.kind,I.ok.glob,I.ok.blt,I.ok.above,I.ok.inj,I.ok.has,I.ok.cab,(fun z=>by cases z),I.ok.frames,I.ok.stk,I.ok.exf,I.ok.bs,I.ok.bsz,I.ok.noex,I.ok.exfs,I.ok.funs,I.ok.frf⟩,I.os,I.bare,I.base,I.loc,I.cell,I.free,I.freeC,I.pin,I.hok,I.len⟩
theorem Inv.unsuite {a:Addr} (I:Inv (X.suite a) pins σ H s) (ok:X.Ok):Inv X pins σ H s:=⟨ok,I.os,I.bare,I.base,I.loc,I.cell,I.free,I.freeC,I.pin,I.hok,I.len⟩
theorem Inv.forget {h':Heap} {tk:Nat} {i:Nat} {x:Str} {v:Option Value} {m:Str→Option Value} (I:Inv X pins σ H s) (hN:X.N.Nodup) (hi:X.N[i]?=some x)
    (hl:∀ (i:Nat) (x:Str) (v:V),X.N[i]?=some x→σ[i]?=some (some v)→Vis X.env.scope x→∃ u,RelV v u∧Look X.env s.heap m x u)
    (hn:h'.Ns X.env.locals (fun y=>if y=x then v else m y)) (hs:Heap.SameBut X.env.locals s.heap h'):Inv X pins (σ.set i none) H { s with heap:=h',toks:=tk }:=by
  have hiσ:i<σ.length:=by rw [I.len]; exact (List.getElem?_eq_some_iff.mp hi).1
  have cne:=I.cne
  refine ⟨I.ok,I.os,I.bare,⟨fun b o e n hb hx=>?_,fun b o e n hb hx=>?_,I.base.free,fun b o e hx=>?_,I.base.tups,I.base.frzs,I.base.tbls⟩,⟨_,hn,fun j y w e1 e2 e3=>?_⟩,fun y c e=>?_,I.free,I.freeC,fun p hp=>?_,?_,by simpa using I.len⟩
  · exact (hs.2 b (Nat.ne_of_lt (Nat.lt_of_lt_of_le (Heap.lt_size e) I.ok.above))).trans (I.base.keep b o e n hb hx)
  · obtain ⟨sl,q⟩:=I.base.slot b o e n hb hx
    exact ⟨sl,(hs.2 b (Nat.ne_of_lt (Nat.lt_of_lt_of_le (Heap.lt_size e) I.ok.above))).trans q⟩
  · obtain ⟨o',q⟩:=I.base.there b o e hx
    exact ⟨o',(hs.2 b (Nat.ne_of_lt (Nat.lt_of_lt_of_le (Heap.lt_size e) I.ok.above))).trans q⟩
  · by_cases hj:j=i
    · subst hj
      rw [List.getElem?_set_self hiσ] at e2
      cases e2
    · rw [List.getElem?_set_ne (Ne.symm hj)] at e2
      obtain ⟨u,r,q⟩:=hl j y w e1 e2 e3
      refine ⟨u,r,?_⟩
      rcases q with ⟨k,e⟩ | ⟨k,c,e,z⟩
      · have ny:y≠x:=fun z=>hj (nodup_ix hN e1 (z ▸ hi))
        exact .inl ⟨k,by simp [ny,e]⟩
      · exact .inr ⟨k,c,e,z.sameBut hs (cne y c e)⟩
  · obtain ⟨w,z⟩:=I.cell y c e
    exact ⟨w,z.sameBut hs (cne y c e)⟩
  · obtain ⟨e,n,ne,nf,d⟩:=I.pin p hp
    exact ⟨(hs.2 p.1 ne).trans e,n,ne,nf,d⟩
  · exact fun b u e=>(I.hok b u e).stay (fun c o hc q=>(hs.2 c (fun z=>by
      subst z
      rcases hc with z | z
      · subst z; rw [I.free] at e; cases e
      · rw [I.free] at z; cases z)).trans q) (fun _ q=>q) fun _ _ q=>q
theorem Inv.landed {a T:Addr} {C:Addr} {od:Option Addr} {H2:Hp} {s2:Shared} {h':Heap} {st:Option (Addr × Value)} (I:Inv X pins σ H s) (os:s2.os=s.os) (bare:AllBare s2.gens) (un:Un (frs X.stack) [] H H2 s.heap s2.heap) (hok:HOk X.prog X.w H2 s2.heap)
    (fa:s.heap.get? a=none) (fT:s.heap.get? T=none) (na:H2 a=none) (nT:H2 T=none) (k:Kp (frs X.stack) [a,T] s2.heap h') (x:ExcAt h' a (.ref C) od st):Inv X pins σ (upd H2 a (ExcO a C od)) { s2 with heap:=h' }:=by
  have hfree:∀ b∈frs X.stack,H2 b=none:=fun b hb=>by
    have ff:=I.stack
    obtain ⟨_,o,ho,_⟩:=ff.mem hb
    exact un.free b o ho (I.stkFree b hb) (by simp)
  have hex:∀ b∈[a,T],s.heap.get? b=none:=fun b hb=>by
    rcases List.mem_cons.mp hb with rfl | hb
    · exact fa
    · cases List.mem_singleton.mp hb; exact fT
  have hex2:∀ b∈[a,T],H2 b=none:=fun b hb=>by
    rcases List.mem_cons.mp hb with rfl | hb
    · exact na
    · cases List.mem_singleton.mp hb; exact nT
  exact I.call' (s':={ s2 with heap:=h' }) (ch:=[]) os ((un.kp k (fun b hb=>.inl hb) hex).put fa na) ((hok.kp k hfree hex2).put na (ExcO.ok x)) bare fun b hb=>by cases hb
end
section
variable {M:Model} {A:Around} {E:Value→Shared→Prop} {K:PySem.W.Frag} {s:Shared} {a C C2:Addr} {ox:Obj} {od:Option Obj}
theorem exc_hits' {Q:Bool→Shared→Prop} (X:K.In s.heap) (L4:PySem.W.Looks M s.heap (typeOf (.ref a)) (.ref C)) (c2:Catch K C2) (hsub:PySem.W.subIn K (.ref C) (.ref C2)=some true) (h:Q true s):wpAny M A (excMatches (.ref a) (.ref C2)) Q E s:=by
  have L1:=PySem.W.looks_typeIn (M:=M) X c2.ty
  have L2:=PySem.W.looks_subIn (M:=M) X c2.sub
  have L3:=PySem.W.looks_subIn (M:=M) X hsub
  have L5:PySem.W.Looks M s.heap (isType (.ref C2)) true:=by
    have e:=c2.cls
    unfold PySem.W.clsIn at e
    split at e
    · rename_i ho
      intro A' Q' E' s' k q
      unfold isType loadHead
      exact wpAny_bind (wpAny_loadPart (k _ _ (X _ _ ho)) (wpAny_pure q))
    · cases e
  have f:=tc_notTuple
  obtain ⟨hh,g,d,t,os⟩:=s
  unfold excMatches
  repeat (any_goals (first | assumption | (refine L1.at ?_) | (refine L2.at ?_) | (refine L3.at ?_) | (refine L4.at ?_) | (refine L5.at ?_) | wp_step))
end
end L2
set_option Elab.async false
set_option linter.all false
set_option maxRecDepth 100000
namespace L2
open PySem PySem.Spec PyProof.Rows
section
variable {X:Cx} {x n:Str} {np hpos pos:Pos} {b₀:Stmt} {body suite:List Stmt} {i:Nat} {C2:Addr} {tb:(St→XK)→TS} {th:TS}
theorem behind_suite {pins:List (Addr × Obj)} {a:Addr} {D:Ends} {f:Flow} {s:Shared} (ok:X.Ok) (hN:X.N.Nodup) (hi:X.N[i]?=some n) (hl:X.env.kindOf n=some .local)
    (q:SP (X.suite a) pins (D.drop i) f s):wpAny (model X.prog X.w) X.A (do bindName X.env n .none; unbindBehindTheSuite X.env n hpos) (fun _ s'=>SP X pins D f s') X.xe s:=by
  have hp:(X.env.scope.kind == .class || (X.env.scope.kind == .module&&X.env.locals != X.env.globals))=false:=by rw [ok.kind]; rfl
  have go:∀ {σ:St} {H:Hp} (J:Inv (X.suite a) pins σ H s) {Q:Unit→Shared→Prop},(∀ s',Inv X pins (σ.set i none) H s'→Q () s')→wpAny (model X.prog X.w) X.A (do bindName X.env n .none; unbindBehindTheSuite X.env n hpos) Q X.xe s:=by
    intro σ H J Q k
    have J':=J.unsuite ok
    obtain ⟨m,hn,hl'⟩:=J'.loc
    exact wpAny_nameGoes_keeps hl hn hp fun h' v hn' hs=>k _ (J'.forget hN hi hl' hn' hs)
  cases f with
  | next=>obtain ⟨σ,H,J,q⟩:=q; exact go J fun s' J'=>⟨_,H,J',q⟩
  | brk=>obtain ⟨σ,H,J,q⟩:=q; exact go J fun s' J'=>⟨_,H,J',q⟩
  | cont=>obtain ⟨σ,H,J,q⟩:=q; exact go J fun s' J'=>⟨_,H,J',q⟩
  | ret u=>obtain ⟨v,σ,H,J,r,q⟩:=q; exact go J fun s' J'=>⟨v,_,H,J',r,q⟩
theorem ws_try (hst:X.stack=X.env::X.outer) (hfm:X.env.frame=some X.env.locals) (hg:Gl X x) (hm:X.mg x=some (.ref C2)) (c2:Catch X.K C2) (hN:X.N.Nodup) (hi:X.N[i]?=some n) (hl:X.env.kindOf n=some .local)
    (hb:∀ pins xe Ex,XPass (X.tryW pins xe) Ex→PSsw (X.tryW pins xe) body (tb Ex)) (hs:∀ a,PSsw (X.suite a) (b₀::suite) th) (hd:(x == ("__debug__" : Str))=false:=by decide) :
    PSw X (.Try body [.ExceptHandler (some (.Name x np)) (some n) (b₀::suite) hpos] [] [] pos) (tTry X.K C2 i tb th):=⟨by
  intro pins s σ H D I h
  obtain ⟨Ex,h1,h2⟩:=h
  refine wpAny_Try_except ?_
  generalize hxe:(fun (e:Value) (s₁:Shared)=>wpAny (model X.prog X.w) X.A (noteFrame e X.env) (fun _ s₂=>wpAny (model X.prog X.w) X.A (setFlight e none) (fun _ s₃ =>
    wpAny (model X.prog X.w) X.A (handleBy e X.env [.ExceptHandler (some (.Name x np)) (some n) (b₀::suite) hpos]) (SP X pins D) X.xe s₃) X.xe s₂) X.xe s₁)=xe
  have hx:XPass (X.tryW pins xe) Ex:=⟨fun pins' σ' H1 s1 e s2 I' hc=>by
    obtain ⟨a,T,cls,od,H2,rfl,os,bare,un,hok,fa,fT,na,nT,x0,q⟩:=hc
    obtain ⟨C,rfl,hsub,k⟩:=h2 σ' cls od H2 q
    have I1:Inv X pins σ' H1 s1:=I'.untry
    have un:Un (frs X.stack) [] H1 H2 s1.heap s2.heap:=un
    have hff:s2.heap.FunFrames X.base (X.env::X.outer):=by
      rw [← hst]
      exact funFrames_kp (fun b hb o e=>un.any e (I1.stkFree b hb) (by simp)) I1.stack
    show xe (.ref a) s2
    rw [← hxe]
    refine note_ok (by rw [← hst]; exact I1.ok.frames) hff hfm x0 (.inr ⟨T,rfl⟩) fun h3 T3 y1 y2 y3=>?_
    refine land_ok y1 fun h4 z1 z2=>?_
    have k4:Kp (frs X.stack) [a,T] s2.heap h4:=by
      rw [hst]
      refine ⟨fun b o e n1 n2=>z2 b o (fun q=>by subst q; rw [y2] at e; cases e) (y3.keep b o e n1 n2),fun b o e n1 n2=>?_⟩
      obtain ⟨sl,e1⟩:=y3.slot b o e n1 n2
      exact ⟨sl,z2 b _ (fun q=>by subst q; rw [y2] at e; cases e) e1⟩
    have I4:=I1.landed (h':=h4) os bare un hok fa fT na nT k4 z1
    refine wpAny_handleBy_cons (codeAny_handlers_test ?_) (by intro q; cases q)
    refine Calls.Name_function_global I4.ok.kind hg (Calls.loadGlobal_global (by rw [I4.ok.glob]; exact I4.mod.glob.keeps I4.bk) hm ?_) hd
    have LT:PySem.W.Looks (model X.prog X.w) h4 (typeOf (.ref a)) (.ref C):=by
      obtain ⟨oe,vs,e1,e2,_⟩:=z1
      exact e2 ▸ (PySem.W.Looks.ld e1).andThen .now
    refine exc_hits' I4.kIn LT c2 hsub ?_
    refine codeAny_handlers_suite_as ?_
    refine land_ok z1 fun h5 w1 w2=>?_
    have k5:Kp (frs X.stack) [a,T] s2.heap h5:=by
      refine ⟨fun b o e n1 n2=>w2 b o (fun q=>by subst q; rw [y2] at e; cases e) (k4.keep b o e n1 n2),fun b o e n1 n2=>?_⟩
      obtain ⟨sl,e1⟩:=k4.slot b o e n1 n2
      exact ⟨sl,w2 b _ (fun q=>by subst q; rw [y2] at e; cases e) e1⟩
    have I5:=(I1.landed (h':=h5) os bare un hok fa fT na nT k5 w1).suite a
    refine store_ok (X:=X.suite a) I5 hN hi (.inl hl) (v:=.ref a) rfl (fun s6 I6=>?_) (.inr hl)
    refine wpAny_mono ((hs a).p pins s6 _ _ (D.drop i) I6 (k a na)) (fun f s7 q7=>?_) fun _ _ z=>False.elim z
    exact behind_suite I1.ok hN hi hl q7⟩
  refine wpAny_mono ((hb pins xe Ex hx).p [] s σ H D (I.tryW xe) h1) (fun f s' q=>?_) fun e s' q=>q
  cases f with
  | next=>obtain ⟨σ',H',J,q⟩:=q; exact wpAny_execs_nil ⟨σ',H',J.untry,q⟩
  | brk=>obtain ⟨σ',H',J,q⟩:=q; exact ⟨σ',H',J.untry,q⟩
  | cont=>obtain ⟨σ',H',J,q⟩:=q; exact ⟨σ',H',J.untry,q⟩
  | ret u=>obtain ⟨v,σ',H',J,r,q⟩:=q; exact ⟨v,σ',H',J.untry,r,q⟩⟩
end
end L2
set_option Elab.async false
set_option linter.all false
set_option maxRecDepth 100000
namespace L2
open PySem PySem.Spec PyProof.Rows
theorem xpass0 {X:Cx}:XPass X (fun _=>E0):=⟨fun _ _ _ _ _ _ _ hc=>by
  obtain ⟨_,_,_,_,_,_,_,_,_,_,_,_,_,_,_,q⟩:=hc
  exact q.elim⟩
theorem cl_isiXK {X:Cx} (K:PySem.W.Frag) (h:X.K=K:=by rfl):CallR X (.builtin "isinstance") (rIsX K):=by subst h; exact cl_isiX
end L2
set_option Elab.async false
set_option linter.all false
set_option maxRecDepth 100000
namespace L2
open PySem PySem.W PySem.Spec PySem.Calls PyProof.Rows
section
variable {prog:Program} {w:World} {A:Around} {E:Value→Shared→Prop} {h:Heap} {g:Array GenState} {d:Drawn} {t:Nat} {os:OsState}
variable {nm q:Str} {C N:Addr} {bs bm bmB:List Value} {hdct:Bool} {sn:List Str} {sub:List Value} {ab:Bool} {col:Option Bool} {dd:Option Addr} {k0 k1 k2 k3 k5:Option Value} {B newId initId:String}
theorem type_call_excI (F:ExcBaseFacts B newId initId bmB) (T:OwnTail h bmB bm) {rest:List Value} {fI:Addr} {Q:Fin→Shared→Prop}
    (hC:h.get? C=some (excClassObj nm q C N bs bm hdct sn sub ab col dd k0 k1 k2 k3 k5 newId)) (hi:Looks (model prog w) h (typeLookup (.ref C) "__init__") (some (.ref fI)))
    (hf:∀ self,Looks (model prog w) h (bindSpecial (.ref fI) self) (.ref fI,[self]))
    (hq:∀ h' e,Heap.MadeExcOf h h' e (.ref C) rest →
      wpAny (model prog w) A (call (.ref fI) (.ref e::rest)) (fun r s'=>r=.none∧Q (.done (.ret (.ref e))) s') E ⟨h',g,d,t,os⟩) (hrest:rest.length≤sizeLine:=by size_fits) :
    wpAny (model prog w) A (Builtin.«type.__call__» ⟨.ref C::rest,[]⟩) Q E ⟨h,g,d,t,os⟩:=by
  repeat (first | with_reducible refine wpAny_loadPart_at hC ?_ | with_reducible refine wpAny_madeBy_exc hC ?_ | wp_step)
  refine codeAny_call_builtin_code (Code.quiet_builtin _ F.quiet) (wpAny_check_new_subT F T hC ?_)
  refine codeAny_exc_new_subT F T hC ?_ hrest
  show wpAny _ _ _ _ _ _
  have hC₁:=Heap.get?_push_of_some { cls:=.ref C,data:=.fields #[.ref h.objs.size,.none,.none,.none,.bool false,.none] }
    (Heap.get?_push_of_some { cls:=.type "tuple",data:=.seq rest.toArray } hC)
  have kk:∀ b o,h.get? b=some o→((h.push { cls:=.type "tuple",data:=.seq rest.toArray }).push { cls:=.ref C,data:=.fields #[.ref h.objs.size,.none,.none,.none,.bool false,.none] }).get? b=some o:=fun b o e=>Heap.get?_push_of_some _ (Heap.get?_push_of_some _ e)
  have hget:((h.push { cls:=.type "tuple",data:=.seq rest.toArray }).push
      { cls:=.ref C,data:=.fields #[.ref h.objs.size,.none,.none,.none,.bool false,.none] }).get? (h.objs.size+1)=some
      { cls:=.ref C,data:=.fields #[.ref h.objs.size,.none,.none,.none,.bool false,.none] }:=by heap_get
  have hcC:(Value.ref C::bm).contains (.ref C)=true:=by simp
  unfold isInstance
  repeat (first | with_reducible refine wpAny_loadPart_at hget ?_ | (with_reducible refine wpAny_isSubtype_exc hC₁ ?_; rw [hcC]) | wp_step)
  show wpAny _ _ (typeLookup (.ref C) _) _ _ _
  refine (hi.keeps kk).at ?_
  refine wpAny_holding (wpAny_bind (((hf _).keeps kk).at ?_))
  refine wpAny_bind (wpAny_mono (hq _ (h.objs.size+1) ⟨fun b o hb=>Heap.get?_push_of_some _ (Heap.get?_push_of_some _ hb),Heap.get?_none_of_le (Nat.le_succ _),h.objs.size,hget,Heap.get?_none_of_le (Nat.le_refl _),?_⟩) (fun r s' hr=>?_) fun _ _ x=>x)
  · exact Heap.get?_push_of_some _ (Heap.get?_push_at rfl rfl)
  · obtain ⟨rfl,hQ⟩:=hr
    wp_walk
    exact hQ
theorem call_excI (F:ExcBaseFacts B newId initId bmB) (T:OwnTail h bmB bm) {rest:List Value} {fI:Addr} {Q:Value→Shared→Prop}
    (hC:h.get? C=some (excClassObj nm q C N bs bm hdct sn sub ab col dd k0 k1 k2 k3 k5 newId)) (hi:Looks (model prog w) h (typeLookup (.ref C) "__init__") (some (.ref fI)))
    (hf:∀ self,Looks (model prog w) h (bindSpecial (.ref fI) self) (.ref fI,[self]))
    (hq:∀ h' e,Heap.MadeExcOf h h' e (.ref C) rest →
      wpAny (model prog w) (A.under (.builtin "type.__call__" ⟨.ref C::rest,[]⟩)) (call (.ref fI) (.ref e::rest)) (fun r s'=>r=.none∧Q (.ref e) s') E ⟨h',g,d,t,os⟩) (hrest:rest.length≤sizeLine:=by size_fits) :
    wpAny (model prog w) A (call (.ref C) rest) Q E ⟨h,g,d,t,os⟩:=by
  have f1:=tc_lookup
  have f2:=tc_bind (.ref C)
  have hT:(⟨h,g,d,t,os⟩:Shared).TypeIs (.ref C) "type" := ⟨_,hC,rfl⟩
  refine wpAny_call (codeAny_of_tree ?_)
  show wpAny _ _ (callAny (.ref C) _) _ _ _
  repeat (any_goals (first | assumption | with_reducible refine wpAny_loadPart_at hC ?_ | wp_step))
  refine ⟨rfl,?_⟩
  refine codeAny_call_builtin_at (Code.quiet_builtin _ (by decide +kernel)) entry_typeCall (wpAny_check_type_call_sub hC (type_call_excI (hrest:=hrest) F T hC hi hf fun h' e hm=>?_))
  exact hq h' e hm
end
def excShape (K:Frag) (C:Addr) (bmB:List Value) (newId:String):Bool:=match K.lookup C with
  | some ⟨.type "type",_,.cls cd,sl⟩=>(match cd.mro,sl.toList with
    | .ref C' :: bm,[_,_,_,_,some (.builtin n),_]=>C' == C&&n == newId && !cd.hasDel&&tailIn K bmB bm&&nsOkIn K cd.ns
    | _,_=>false)
  | _=>false
theorem excShape_obj {K:Frag} {h:Heap} {C:Addr} {bmB:List Value} {newId:String} (X:K.In h) (q:excShape K C bmB newId=true) :
    ∃ bm N nm qn bs hdct sn sub ab col dd k0 k1 k2 k3 k5,h.get? C=some (excClassObj nm qn C N bs bm hdct sn sub ab col dd k0 k1 k2 k3 k5 newId)∧OwnTail h bmB bm:=by
  unfold excShape at q
  cases e:K.lookup C with
  | none=>rw [e] at q; cases q
  | some o =>
    rw [e] at q
    obtain ⟨oc,dd,dt,sl⟩:=o
    split at q
    · rename_i _ dd' cd sl' ho
      cases ho
      split at q
      · rename_i C' bm k0 k1 k2 k3 n k5 hm hs
        rw [Bool.and_eq_true,Bool.and_eq_true,Bool.and_eq_true,Bool.and_eq_true] at q
        obtain ⟨⟨⟨⟨q1,q2⟩,q3⟩,q4⟩,q5⟩:=q
        have q1:C'=C:=by simpa using q1
        have q2:n=newId:=by simpa using q2
        have q3:cd.hasDel=false:=by simpa using q3
        subst q1 q2
        obtain ⟨nm,bs,mro,ns,qn,hd,sn,sub,ab,col,del⟩:=cd
        cases hm
        cases q3
        obtain ⟨l⟩:=sl
        cases hs
        exact ⟨bm,ns,nm,qn,bs,hd,sn,sub,ab,col,dd,k0,k1,k2,k3,k5,X _ _ e,tail_of_in X q4⟩
      · cases q
    · cases q
structure MkX (K:Frag) (C f:Addr):Prop where
  shape:excShape K C mroVE "ValueError.__new__" = true
  init:findIn K (.ref C) "__init__" = some (some (.ref f))
  fn:isFn K (.ref f)=true
  kp:keepIn K (.ref C)=true
section
variable {prog:Program} {w:World} {A:Around} {E:Value→Shared→Prop} {s:Shared} {K:Frag} {C f:Addr} {rest:List Value}
theorem make_exc {Q:Value→Shared→Prop} (M:MkX K C f) (X:K.In s.heap)
    (hq:∀ h' e,Heap.MadeExcOf s.heap h' e (.ref C) rest →
      wpAny (model prog w) (A.under (.builtin "type.__call__" ⟨.ref C::rest,[]⟩)) (call (.ref f) (.ref e::rest)) (fun r s'=>r=.none∧Q (.ref e) s') E { s with heap:=h' }) (hrest:rest.length≤sizeLine) :
    wpAny (model prog w) A (call (.ref C) rest) Q E s:=by
  obtain ⟨bm,N,nm,qn,bs,hdct,sn,sub,ab,col,dd,k0,k1,k2,k3,k5,hC,TL⟩:=excShape_obj X M.shape
  obtain ⟨hh,g,d,t,os⟩:=s
  exact call_excI (hrest:=hrest) PySem.F.excBase_ValueError TL hC (looks_findIn X M.init) (fun self=>bind_fn X self (beq_iff_eq.mp M.fn)) hq
end
end L2
set_option Elab.async false
set_option linter.all false
set_option maxRecDepth 100000
namespace L2
open PySem PySem.W PySem.Spec PySem.Calls PyProof.Rows Builtin Builtin.ObjectAttr
def XdO (d:Addr) (fs:List (Str × V)):HO:=.ext fun h=>∃ mA,h.Ns1 d mA∧(∀ f,RelO (fs.lookup f) (mA f))∧PySem.Within mA (fs.map (·.1))
theorem XdO.ok {P:Program} {w:World} {H:Hp} {h:Heap} {d:Addr} {fs:List (Str × V)} {mA:Str→Option Value} (n:h.Ns1 d mA) (r:∀ f,RelO (fs.lookup f) (mA f)) (wi:PySem.Within mA (fs.map (·.1))):ObjOk P w H h d (XdO d fs):=by
  refine ⟨⟨mA,n,r,wi⟩,(let ⟨o,_,_,e,_⟩:=n; ⟨o,e⟩),?_⟩
  rintro g1 g2 ⟨mA,n,r,wi⟩ k
  exact ⟨mA,n.at fun o e=>k o e,r,wi⟩
def XHas (H:Hp):Option Addr→Prop
  | none=>True
  | some d=>∃ fs,H d=some (XdO d fs)
theorem exc_get {X:Cx} {pins:List (Addr × Obj)} {σ:St} {H:Hp} {s:Shared} {a C:Addr} {od:Option Addr} (I:Inv X pins σ H s) (h:H a=some (ExcO a C od)) (hd:XHas H od):∃ ox d,InstAt s.heap a ox C d:=by
  obtain ⟨⟨oe,vs,e1,e2,e3,e4,_⟩,_⟩:=I.hok a _ h
  cases od with
  | none=>exact ⟨oe,none,⟨e1,e2,by unfold notCls; rw [e4],by rw [e3]; trivial⟩⟩
  | some d =>
    obtain ⟨fs,hd⟩:=hd
    obtain ⟨_,⟨o,e⟩,_⟩:=I.hok d _ hd
    exact ⟨oe,some o,⟨e1,e2,by unfold notCls; rw [e4],by rw [e3]; exact e⟩⟩
def onlyVE:List Value→Bool
  | [.type a,.type b,.type c,.type d]=>a == "ValueError" && b == "Exception" && c == "BaseException" && d == "object"
  | .ref _::r=>onlyVE r
  | _=>false
theorem onlyVE_ref {c:Addr} {r:List Value} (e:onlyVE (.ref c::r)=true):onlyVE r=true:=by
  unfold onlyVE at e
  exact e
theorem onlyVE_base {l:List Value} (e:onlyVE l=true) (n:∀ c r,l ≠ .ref c::r):l=mroVE:=by
  unfold onlyVE at e
  split at e
  · simp only [Bool.and_eq_true,beq_iff_eq] at e
    obtain ⟨⟨⟨rfl,rfl⟩,rfl⟩,rfl⟩:=e
    rfl
  · exact absurd rfl (n _ _)
  · cases e
theorem onlyVE_ind {P:List Value→Prop} (hb:P mroVE) (hs:∀ c r,P r→P (.ref c::r)):∀ {l:List Value},onlyVE l=true→P l:=by
  intro l
  induction l with
  | nil=>intro e; exact absurd e (by decide)
  | cons v r ih =>
    intro e
    cases v with
    | ref c=>exact hs c r (ih (onlyVE_ref e))
    | _=>rw [onlyVE_base e (fun c r z=>by cases z)]; exact hb
structure ExcSet (K:Frag) (C:Addr):Prop where
  hd:hasDictIn K C=true
  po:((clsIn K C).any fun cd=>onlyVE cd.mro)=true
  sa:findIn K (.ref C) "__setattr__" = some (some (.builtin "object.__setattr__"))
section
variable {prog:Program} {w:World} {A:Around} {E:Value→Shared→Prop} {s:Shared} {K:Frag} {x C:Addr} {R:Result→Shared→Prop}
theorem osaX_open {ox:Obj} {od:Option Obj} {name:Str} {tk:Tok} {v:Value} (X:K.In s.heap) (I:InstAt s.heap x ox C od) (c:ExcSet K C) (ht:findIn K (.ref C) name=some none)
    (h:∀ b,wpAny (model prog w) A.in1 (storeInOwnDict (.ref x) (.ref C) (.str name tk) name v b)
      (fun fin s'=>match fin with | .done f=>R (.ok f) s' | .again c'=>c'.quiet=true∧codeAny (model prog w) A c' R s') (fun e s'=>R (.error e) s') s) :
    codeAny (model prog w) A (.call (.builtin "object.__setattr__") ⟨[.ref x,.str name tk,v],[]⟩) R s:=by
  have SF:=PySem.F.store_object
  obtain ⟨cd,hc,ho⟩:=any_some c.po
  have ne:cd.mro.isEmpty=false:=onlyVE_ind (P:=fun l=>l.isEmpty=false) rfl (fun _ _ _=>rfl) ho
  have hob:cd.mro.contains (.type "object")=true:=onlyVE_ind (P:=fun l=>l.contains (.type "object")=true) (by decide +kernel) (fun c r z=>by rw [List.contains_cons,z,Bool.or_true]) ho
  have hre:refuseLoop (.ref x) "__setattr__" cd.mro=pure ():=onlyVE_ind (P:=fun l=>refuseLoop (.ref x) "__setattr__" l=pure ()) (PySem.F.store_ValueError.passes _) (fun c r z=>by rw [refuseLoop_ref]; exact z) ho
  have sub:Looks (model prog w) s.heap (isInstance (.ref x) (.type "object")) true:=I.type.andThen (looks_mroIn X (by unfold mroIn; rw [hc,Option.bind_some,if_neg (by rw [ne]; decide),hob]))
  refine codeAny_call_builtin SF.slot.plain SF.entry (@check_slot (model prog w) _ _ s "object.__setattr__" "object" "__setattr__" (.ref x) [.str name tk,v] [] _ SF.kind SF.split sub (SF.args (.ref x) (.str name tk) v) ?_)
  have hm:Looks (model prog w) s.heap (mroOf (.ref C)) cd.mro:=(looks_clsIn X hc).andThen .now
  rw [osa_eq,refuse_eq]
  refine wpAny_bind (wpAny_bind (I.type.here (wpAny_bind (hm.here ?_))))
  rw [hre]
  refine wpAny_pure (wpAny_bind (I.type.here (wpAny_bind ((looks_findIn X ht).here (wpAny_bind (wpAny_pure ?_))))))
  exact h _
theorem set_exc0 {ox:Obj} {vs:Array Value} {name:Str} {v:Value} {Q:Unit→Shared→Prop} (X:K.In s.heap) (c:ExcSet K C) (na:findIn K (.ref C) name=some none) (hx:s.heap.get? x=some ox) (hc:ox.cls=.ref C) (hd:ox.data=.fields vs) (ho:ox.dict=none)
    (h:∀ h',h'.get? x=some { ox with dict:=some s.heap.objs.size }→h'.Ns1 s.heap.objs.size (fun y=>if y=name then some v else none)→(∀ b o,b≠x→s.heap.get? b=some o→h'.get? b=some o)→Q () { s with heap:=h',toks:=s.toks+2 }) :
    wpAny (model prog w) A (setAttr (.ref x) name v) Q E s:=by
  have I:InstAt s.heap x ox C none:=⟨hx,hc,by unfold notCls; rw [hd],by rw [ho]; trivial⟩
  refine set_plain X I c.sa (osaX_open (s:={ s with toks:=s.toks+1 }) X I c na fun b=>?_)
  obtain ⟨cd,hcd,hd'⟩:=any_some c.hd
  obtain ⟨oc,od,dt,sl⟩:=ox
  dsimp only at hc hd ho
  subst hc hd ho
  refine wpAny_bind (wpAny_pure (wpAny_bind (wpAny_bind (wpAny_loadPart hx (wpAny_bind (Looks.here (s:={ s with toks:=s.toks+1 }) (looks_clsIn X hcd) ?_))))))
  rw [hd']
  show wpAny (model prog w) A.in1 (do
                let d ← alloc { cls:=Value.type "dict",data:=Data.dict #[] }
                update x fun o=>{ cls:=o.cls,dict:=some d,data:=o.data,slots:=o.slots }
                pure (some d)) _ _ _
  have hx₁:(s.heap.push { cls:=.type "dict",data:=.dict #[] }).get? x=some { cls:=Value.ref C,data:=Data.fields vs,slots:=sl }:=Heap.get?_push_of_some _ hx
  have hxs:x≠s.heap.objs.size:=Nat.ne_of_lt (Heap.lt_size hx)
  refine wpAny_bind (wpAny_alloc' ?_)
  refine wpAny_bind (wpAny_update' hx₁ ?_)
  refine wpAny_pure ?_
  have hgd:((s.heap.push { cls:=.type "dict",data:=.dict #[] }).update x fun o=>{ cls:=o.cls,dict:=some s.heap.objs.size,data:=o.data,slots:=o.slots }).get? s.heap.objs.size
      = some { cls:=.type "dict",data:=.dict #[] } :=
    (Heap.get?_update_ne _ _ _ _ hxs.symm).trans (Heap.get?_push_at rfl rfl)
  have hnd:((s.heap.push { cls:=.type "dict",data:=.dict #[] }).update x fun o=>{ cls:=o.cls,dict:=some s.heap.objs.size,data:=o.data,slots:=o.slots }).Ns s.heap.objs.size (fun _=>none) :=
    ⟨_,#[],_,hgd,rfl,fun e he=>absurd he (by simp),fun _=>rfl⟩
  show wpAny _ _ (storeInDict s.heap.objs.size (.str name s.toks) name v) _ _ _
  unfold storeInDict newKeyGuard
  refine wpAny_bind (wpAny_pure (wpAny_bind (wpAny_nsSet1 (Heap.Ns1.of_empty hnd) fun h' hn' hs=>?_)))
  obtain ⟨oD,esD,epD,hoD,hdD,hcD⟩:=hn'.count (Within.cons name v Within.nil)
  refine wpAny_bind (wpAny_lookBehind hoD (by rw [hdD]; exact pastItsLine_dict (Nat.le_trans hcD (by rw [List.length_cons,List.length_nil,sizeLine_eq]; omega))) ?_)
  refine wpAny_pure (h h' ?_ hn' fun b ob hbx hb=>?_)
  · refine (hs.2 x hxs).trans (Heap.get?_update_self _ hx₁ ?_)
    rfl
  · exact (hs.2 b (Nat.ne_of_lt (Heap.lt_size hb))).trans ((Heap.get?_update_ne _ _ _ _ hbx).trans (Heap.get?_push_of_some _ hb))
theorem set_exc1 {ox:Obj} {vs:Array Value} {d:Addr} {mA:Str→Option Value} {ns:List Str} {name:Str} {v:Value} {Q:Unit→Shared→Prop} (X:K.In s.heap) (c:ExcSet K C) (na:findIn K (.ref C) name=some none) (hx:s.heap.get? x=some ox) (hc:ox.cls=.ref C) (hd:ox.data=.fields vs) (ho:ox.dict=some d)
    (hn:s.heap.Ns1 d mA) (hw:PySem.Within mA ns) (hsz:ns.length≤1000)
    (h:∀ h',h'.Ns1 d (fun y=>if y=name then some v else mA y)→Heap.SameBut d s.heap h'→Q () { s with heap:=h',toks:=s.toks+2 }) :
    wpAny (model prog w) A (setAttr (.ref x) name v) Q E s:=by
  have I:∃ od,InstAt s.heap x ox C (some od):=by
    obtain ⟨o,_,_,e,_⟩:=id hn
    exact ⟨o,hx,hc,by unfold notCls; rw [hd],by rw [ho]; exact e⟩
  obtain ⟨o,I⟩:=I
  refine set_plain X I c.sa (osaX_open (s:={ s with toks:=s.toks+1 }) X I c na fun b=>?_)
  obtain ⟨cd,hcd,hd'⟩:=any_some c.hd
  obtain ⟨oc,od,dt,sl⟩:=ox
  dsimp only at hc hd ho
  subst hc hd ho
  refine wpAny_bind (wpAny_pure (wpAny_bind (wpAny_bind (wpAny_loadPart hx (wpAny_bind (Looks.here (s:={ s with toks:=s.toks+1 }) (looks_clsIn X hcd) ?_))))))
  rw [hd']
  refine wpAny_pure (a:=some d) (wpAny_bind (wpAny_pure (wpAny_bind ?_)))
  refine wpAny_nsSet1 (s:={ s with toks:=s.toks+1 }) hn fun h' hn2 hs2=>?_
  obtain ⟨oD,esD,epD,hoD,hdD,hcD⟩:=hn2.count (PySem.Within.cons name v hw)
  refine wpAny_bind (wpAny_lookBehind hoD (by rw [hdD]; exact pastItsLine_dict (Nat.le_trans hcD (by rw [List.length_cons,sizeLine_eq]; omega))) ?_)
  exact wpAny_pure (h _ hn2 hs2)
end
section
variable {X:Cx} {pins:List (Addr × Obj)} {σ:St} {H:Hp} {s:Shared} {a C d:Addr} {fs:List (Str × V)} {f:Str} {v:V} {A:Around} {E:Value→Shared→Prop}
theorem upd_self {o:HO} (h:H a=some o):upd H a o=H:=by
  funext b
  by_cases e:b=a
  · subst e; rw [upd_same,h]
  · rw [upd_ne e]
theorem exc_read {b:Bool} {Q:Value→Shared→Prop} (I:Inv X pins σ H s) (e:H a=some (ExcO a C (some d))) (ed:H d=some (XdO d fs)) (c:ExcCls X.K C) (hh:hasDictIn X.K C=true) (n:NoAttr X.K C f) (l:fs.lookup f=some v)
    (h:∀ u s',Inv X pins σ H s'→RelV v u→Q u s'):wpAny (model X.prog X.w) A (getAttr (.ref a) f b) Q E s:=by
  obtain ⟨⟨oe,vs,e1,e2,e3,e4,_⟩,_⟩:=I.hok a _ e
  obtain ⟨⟨mA,nn,r,_⟩,_⟩:=I.hok d _ ed
  obtain ⟨od,ho,hl⟩:=lookIn_ns nn
  obtain ⟨u,hu,ru⟩:=RelO.some_of (v:=v) (o:=mA f) (by rw [← l]; exact r f)
  exact exc_attr (od:=some od) c I.kIn ⟨e1,e2,by unfold notCls; rw [e4],by rw [e3]; exact ho⟩ (findObj_own hh n rfl (by rw [hl,hu])) (handed_of ru) (h u _ (I.tok _) ru)
end
theorem vals_cons {x:V} {xs:List V} {us:List Value} (r:Vals (x::xs) us):∃ u ur,us=u::ur∧RelV x u∧Vals xs ur:=by cases r with | cons a b=>exact ⟨_,_,rfl,a,b⟩
def tFldX (K:Frag) (ta:TE) (f:Str):TE:=fun σ H Q=>ta σ H fun x H1=>∃ a C d fs v,x=.ref a∧H1 a=some (ExcO a C (some d))∧H1 d=some (XdO d fs)∧ExcCls K C∧hasDictIn K C=true∧NoAttr K C f∧fs.lookup f=some v∧Q v H1
structure FnI (P:Program) (w:World) (K:Frag) (mg:Str→Option Value) (base:Heap) (k:Nat) (C:Addr) (ps:List Str) (sp:Sp):Prop where
  ex:∃ f fd,FnOk P w K mg base CX0 k f fd ps sp∧MkX K C f∧Binds K fd ps []
structure BaseCls (K:Frag) (C:Addr):Prop where
  rd:readsIn K C (.type "type")=true
  fd:findCls K (.ref C) (.type "type") "__init__" = some (.val (.builtin "ValueError.__init__"))
  ga:specialIn K (.ref C) "__getattribute__" = some (some (.builtin "type.__getattribute__"))
section
variable {X:Cx} {k:Nat} {f C:Addr} {fd:FuncData} {ps:List Str} {sp:Sp} {x g:Str} {p pos np apos pos':Pos} {e o value:Expr} {es:List Expr} {t:TA} {ta tv:TE}
theorem we_fldX (he:PEw X e ta) (hb:attributeBase e g X.env (eval e X.env)=eval e X.env:=by rfl):PEw X (.Attribute e g pos) (tFldX X.K ta g):=⟨by
  intro pins s σ H Q I h
  refine attr_of hb (thn (he.p pins s σ H _ I h) fun u s1 ⟨x,H1,I1,rx,a,C,d,fs,v,ex,ea,ed,c,hh,n,l,q⟩=>?_)
  subst ex
  obtain rfl:u=Value.ref a:=rx
  exact exc_read I1 ea ed c hh n l fun u' s2 I2 ru=>⟨v,H1,I2,ru,q⟩⟩
@[irreducible] def rIsY (K:PySem.W.Frag):List V→Hp→VK→Prop:=fun xs H Q=>∃ a C od c u b,xs=[.ref a,c]∧H a=some (ExcO a C od)∧XHas H od∧ExcCls K C∧RelV c u∧PySem.W.kitOne K (.ref C) u=some b∧Q (.bl b) H
theorem ryI {K:PySem.W.Frag} {H:Hp} {Q:VK} {a C:Addr} {od:Option Addr} {c:V} {b:Bool} (ha:H a=some (ExcO a C od)) (hx:XHas H od) (ec:ExcCls K C) (u:Value) (ru:RelV c u) (e:PySem.W.kitOne K (.ref C) u=some b) (q:Q (.bl b) H):rIsY K [.ref a,c] H Q:=by
  unfold rIsY; exact ⟨a,C,od,c,u,b,rfl,ha,hx,ec,ru,e,q⟩
theorem cl_isiY:CallR X (.builtin "isinstance") (rIsY X.K):=by
  unfold rIsY
  intro pins s σ H xs us Q I r h
  obtain ⟨a,C,od,c,u,b,rfl,ha,hx,ec,ru,e,q⟩:=h
  obtain ⟨u1,w',rfl,r1,r2⟩:=vals2 r
  cases (show u1=Value.ref a from r1)
  have hi:=exc_get I ha hx
  have:w'=u:=by
    cases c with
    | ref p=>cases ru; cases r2; rfl
    | ty n=>cases ru; cases r2; rfl
    | non=>cases ru; cases r2; rfl
    | bl _=>cases ru; cases r2; rfl
    | int i=>obtain ⟨t,rfl⟩:=ru; simp [PySem.W.kitOne,PySem.W.kitCls] at e
    | str i=>obtain ⟨t,rfl⟩:=ru; simp [PySem.W.kitOne,PySem.W.kitCls] at e
    | byt i=>obtain ⟨t,rfl⟩:=ru; simp [PySem.W.kitOne,PySem.W.kitCls] at e
    | flt i=>obtain ⟨t,rfl⟩:=ru; simp [PySem.W.kitOne,PySem.W.kitCls] at e
  subst this
  exact PySem.W.kia_one (kitx_exc ec) I.kIn hi e (fun z=>nomatch z) fun tk=>⟨.bl b,H,I.tok _,rfl,q⟩
end
end L2
set_option Elab.async false
set_option linter.all false
set_option maxRecDepth 100000
namespace L2
open PySem PySem.W PySem.Spec PySem.Calls PyProof.Rows
def excAll (K:Frag) (C:Addr):Bool:=findIn K (.ref C) "__getattribute__" == some (some (.builtin "BaseException.__getattribute__"))&&findIn K (.ref C) "__getattr__" == some none&&subIn K (.ref C) (.type "BaseException") == some true &&
  (clsIn K C).isSome&&findIn K (.ref C) "__class__" == some (some (.builtin "object.__class__"))&&specialIn K (.builtin "object.__class__") "__get__" == some (some (.builtin "getset_descriptor.__get__")) &&
  takesIn K (.builtin "object.__class__") == some true&&mroIn K C (.type "object") == some true
theorem excAll.cls {K:Frag} {C:Addr} (h:excAll K C=true):ExcCls K C:=by
  unfold excAll at h
  simp only [Bool.and_eq_true,beq_iff_eq] at h
  obtain ⟨⟨⟨⟨⟨⟨⟨a,b⟩,c⟩,d⟩,e⟩,f⟩,g⟩,i⟩:=h
  exact ⟨a,b,c,d,e,f,g,i⟩
def setAll (K:Frag) (C:Addr) (ns:List Str):Bool:=hasDictIn K C&&(clsIn K C).any (fun cd=>onlyVE cd.mro)&&findIn K (.ref C) "__setattr__" == some (some (.builtin "object.__setattr__"))&&excShape K C mroVE "ValueError.__new__" &&
  ns.all fun n=>findIn K (.ref C) n == some none
theorem setAll.set {K:Frag} {C:Addr} {ns:List Str} (h:setAll K C ns=true):ExcSet K C:=by
  unfold setAll at h
  simp only [Bool.and_eq_true,beq_iff_eq] at h
  obtain ⟨⟨⟨⟨a,b⟩,c⟩,d⟩,e⟩:=h
  exact ⟨a,b,c⟩
theorem setAll.shape {K:Frag} {C:Addr} {ns:List Str} (h:setAll K C ns=true):excShape K C mroVE "ValueError.__new__" = true:=by
  unfold setAll at h
  simp only [Bool.and_eq_true,beq_iff_eq] at h
  exact h.1.2
theorem setAll.no {K:Frag} {C:Addr} {ns:List Str} (h:setAll K C ns=true) {n:Str} (hn:n∈ns):NoAttr K C n:=by
  unfold setAll at h
  simp only [Bool.and_eq_true,beq_iff_eq] at h
  have:=List.all_eq_true.mp h.2 n hn
  exact beq_iff_eq.mp this
def baseAll (K:Frag) (C:Addr):Bool:=readsIn K C (.type "type")&&specialIn K (.ref C) "__getattribute__" == some (some (.builtin "type.__getattribute__")) &&
  (match findCls K (.ref C) (.type "type") "__init__" with | some (.val (.builtin i))=>i == "ValueError.__init__" | _=>false)
theorem baseAll.base {K:Frag} {C:Addr} (h:baseAll K C=true):BaseCls K C:=by
  unfold baseAll at h
  simp only [Bool.and_eq_true,beq_iff_eq] at h
  obtain ⟨⟨a,b⟩,c⟩:=h
  refine ⟨a,?_,b⟩
  split at c
  · rename_i i e
    rw [e,beq_iff_eq.mp c]
  · cases c
end L2
set_option Elab.async false
set_option linter.all false
set_option maxRecDepth 100000
namespace L2
open PySem PySem.W PySem.Spec PySem.Calls PyProof.Rows Builtin Builtin.ObjectAttr
def ExcN (a C:Addr) (od:Option Addr):HO:=.ext fun h=>∃ oe vs,h.get? a=some oe∧oe.cls=.ref C∧oe.dict=od∧oe.data=.fields vs∧1<vs.size∧vs[1]?=some Value.none
section
variable {P:Program} {w:World} {H:Hp} {h:Heap} {a C:Addr} {od:Option Addr}
theorem ExcN.ok (x:ExcAt h a (.ref C) od none):ObjOk P w H h a (ExcN a C od):=by
  obtain ⟨oe,vs,e1,e2,e3,e4,e5,e6⟩:=x
  refine ⟨⟨oe,vs,e1,e2,e3,e4,e5,e6⟩,⟨oe,e1⟩,?_⟩
  rintro g1 g2 ⟨oe,vs,e1,e2,e3,e4,e5,e6⟩ k
  exact ⟨oe,vs,k _ e1,e2,e3,e4,e5,e6⟩
theorem ExcN.exc (x:ObjOk P w H h a (ExcN a C od)):ExcAt h a (.ref C) od none:=by
  obtain ⟨⟨oe,vs,e1,e2,e3,e4,e5,e6⟩,_⟩:=x
  exact ⟨oe,vs,e1,e2,e3,e4,e5,e6⟩
end
section
variable {prog:Program} {w:World} {A:Around} {E:Value→Shared→Prop} {s:Shared} {K:Frag} {x C:Addr}
theorem base_initN {oe:Obj} {vs:Array Value} {rest:List Value} {Q:Value→Shared→Prop} (X:K.In s.heap) (sh:excShape K C mroVE "ValueError.__new__" = true) (he:s.heap.get? x=some oe) (hc:oe.cls=.ref C) (hd:oe.data=.fields vs) (hz:1<vs.size) (hv:vs[1]?=some Value.none) (hr:rest.length≤sizeLine)
    (k:∀ h',ExcAt h' x (.ref C) oe.dict none→(∀ b o,b≠x→s.heap.get? b=some o→h'.get? b=some o)→Q .none { s with heap:=h' }) :
    wpAny (model prog w) A (call (.builtin "ValueError.__init__") (.ref x::rest)) Q E s:=by
  obtain ⟨bm,N,nm,qn,bs,hdct,sn,sub,ab,col,dd,k0,k1,k2,k3,k5,hC,TL⟩:=excShape_obj X sh
  have F:=PySem.F.excBase_ValueError
  obtain ⟨hh,g,d,t,os⟩:=s
  refine wpAny_call (codeAny_call_builtin F.init.plain F.initEntry (wpAny_check_init_subT F TL hC he hc ?_))
  unfold Builtin.«BaseException.__init__»
  dsimp only
  refine wpAny_bind (wpAny_newTuple ?_ hr)
  dsimp only at he hC k ⊢
  have he₁:(hh.push { cls:=Value.type "tuple",data:=Data.seq rest.toArray }).get? x=some oe:=Heap.get?_push_of_some _ he
  have h0:vs[0]?=some vs[0]:=Array.getElem?_eq_getElem (by omega)
  unfold BaseException.bexcPut
  refine wpAny_bind (wpAny_bind (wpAny_field he₁ hd h0 ?_))
  refine wpAny_bind (wpAny_setField he₁ hd (by omega) ?_)
  have d3:=Obj.data_mapFields hd (·.setIfInBounds 0 (Value.ref hh.objs.size))
  have fin:Q .none { heap:=(hh.push { cls:=Value.type "tuple",data:=Data.seq rest.toArray }).update x (Obj.mapFields (·.setIfInBounds 0 (Value.ref hh.objs.size))),gens:=g,drawn:=d,toks:=t,os:=os }:=by
    refine k _ ⟨_,_,Heap.get?_update_self _ he₁ (Obj.isFreed_of_fields d3),?_,?_,d3,by simpa using hz,?_⟩ fun b o hb e=>?_
    · rw [Obj.cls_mapFields]; exact hc
    · obtain ⟨_,_,dt,_⟩:=oe
      cases dt <;> rfl
    · show (vs.setIfInBounds 0 _)[1]?=some Value.none
      rw [Array.getElem?_setIfInBounds_ne (by decide)]; exact hv
    · rw [Heap.get?_update_other _ _ (Ne.symm hb)]
      exact Heap.get?_push_of_some _ e
  split
  · exact wpAny_letGo (wpAny_pure fin)
  · exact wpAny_pure (wpAny_pure fin)
end
section
variable {X:Cx} {pins:List (Addr × Obj)} {σ:St} {H:Hp} {s:Shared} {a C d:Addr} {fs:List (Str × V)} {f:Str} {v:V} {A:Around} {E:Value→Shared→Prop}
theorem excN_set0 {y:V} {u:Value} {Q:Unit→Shared→Prop} (I:Inv X pins σ H s) (e:H a=some (ExcN a C none)) (c:ExcSet X.K C) (n:NoAttr X.K C f) (ry:RelV y u)
    (h:∀ d s',H d=none→d≠a→Inv X pins σ (upd (upd H a (ExcN a C (some d))) d (XdO d [(f,y)])) s'→Q () s'):wpAny (model X.prog X.w) A (setAttr (.ref a) f u) Q E s:=by
  obtain ⟨⟨oe,vs,e1,e2,e3,e4,e5,e6⟩,_⟩:=I.hok a _ e
  refine set_exc0 I.kIn c n e1 e2 e4 e3 fun h' x1 x2 x3=>h s.heap.objs.size _ I.fresh (Nat.ne_of_gt (Heap.lt_size e1)) ?_
  have nd:s.heap.objs.size≠a:=Nat.ne_of_gt (Heap.lt_size e1)
  have hn:upd H a (ExcN a C (some s.heap.objs.size)) s.heap.objs.size=none:=by rw [upd_ne nd]; exact I.fresh
  have mu:Mut (H a):=by rw [e]; exact True.intro
  have w1:HOk X.prog X.w (upd H a (ExcN a C (some s.heap.objs.size))) h':=I.hok.write mu (.inl rfl) x3 ⟨_,x1⟩ (ExcN.ok ⟨_,_,x1,e2,rfl,e4,e5,e6⟩)
  have w2:Un X.fs [] H (upd H a (ExcN a C (some s.heap.objs.size))) s.heap h':=Un.write mu (.inl rfl) x3 ⟨_,x1⟩
  refine I.un (w2.put (Heap.get?_none_of_le (Nat.le_refl _)) hn) (w1.put hn (XdO.ok x2 (fun g=>?_) fun g hg=>?_))
  · show RelO (List.lookup g [(f,y)]) _
    by_cases q:g=f
    · rw [if_pos q,q]
      simp only [List.lookup,beq_self_eq_true]
      exact ry
    · rw [if_neg q]
      have:(g == f)=false:=beq_eq_false_iff_ne.mpr q
      simp only [List.lookup,this]
      trivial
  · by_cases q:g=f
    · subst q; simp
    · exact absurd (if_neg q) hg
theorem excN_set1 {y:V} {u:Value} {Q:Unit→Shared→Prop} (I:Inv X pins σ H s) (e:H a=some (ExcN a C (some d))) (ed:H d=some (XdO d fs)) (c:ExcSet X.K C) (n:NoAttr X.K C f) (hl:fs.length<1000) (ry:RelV y u)
    (h:∀ s',Inv X pins σ (upd H d (XdO d (putF f y fs))) s'→Q () s'):wpAny (model X.prog X.w) A (setAttr (.ref a) f u) Q E s:=by
  obtain ⟨⟨oe,vs,e1,e2,e3,e4,e5,e6⟩,_⟩:=I.hok a _ e
  obtain ⟨⟨mA,nn,r,wi⟩,_⟩:=I.hok d _ ed
  refine set_exc1 I.kIn c n e1 e2 e4 e3 nn wi (by rw [List.length_map]; omega) fun h' O' sb=>h _ ?_
  have hd:∃ o,h'.get? d=some o:=let ⟨o,_,_,e',_⟩:=O'; ⟨o,e'⟩
  refine I.write (x:=d) (e:=d) (by rw [ed]; exact True.intro) (.inl rfl) (fun b q hb z=>(sb.2 b hb).trans z) hd (XdO.ok O' (fun g=>?_) fun g hg=>?_)
  · show RelO ((putF f y fs).lookup g) (if g=f then some u else mA g)
    rw [lookup_putF]
    by_cases q:g=f
    · rw [if_pos q,if_pos q]; exact ry
    · rw [if_neg q,if_neg q]; exact r g
  · by_cases q:g=f
    · rw [q]; exact (keys_putF f y fs).1
    · refine (keys_putF f y fs).2 g (wi g fun z=>hg ?_)
      show (if g=f then some u else mA g)=none
      rw [if_neg q]; exact z
theorem Inv.excMadeN {h':Heap} {args:List Value} (I:Inv X pins σ H s) (x:Heap.MadeExcOf s.heap h' a (.ref C) args):H a=none∧Inv X pins σ (upd H a (ExcN a C none)) { s with heap:=h' }:=by
  have na:H a=none:=by
    cases z:H a with
    | none=>rfl
    | some u=>obtain ⟨ob,e⟩:=(I.hok a u z).get; rw [x.new] at e; cases e
  exact ⟨na,I.un (t':=s.toks) ((Un.kept x.keeps).put x.new na) ((I.hok.kept x.keeps).put na (ExcN.ok (MadeExcOf.at x)))⟩
end
def tBaseN (K:Frag) (t:TA):TE:=fun σ H Q=>t σ H fun vs H1=>∃ a C od r,vs=.ref a::r∧vs.length≤64∧H1 a=some (ExcN a C od)∧excShape K C mroVE "ValueError.__new__" = true∧Q .non H1
def sFldN (K:Frag) (ta tv:TE) (f:Str):TS:=fun D σ H=>tv σ H fun y H1=>ta σ H1 fun x H2=>∃ a C,x=.ref a∧ExcSet K C∧NoAttr K C f ∧
  ((H2 a=some (ExcN a C none)∧∀ d,H2 d=none→d≠a→D.nx σ (upd (upd H2 a (ExcN a C (some d))) d (XdO d [(f,y)]))) ∨
    ∃ d fs,H2 a=some (ExcN a C (some d))∧H2 d=some (XdO d fs)∧fs.length<1000∧D.nx σ (upd H2 d (XdO d (putF f y fs))))
section
variable {X:Cx} {k:Nat} {f C:Addr} {fd:FuncData} {ps:List Str} {sp:Sp} {x g:Str} {p pos np apos pos':Pos} {e o value:Expr} {es:List Expr} {t:TA} {ta tv:TE}
theorem we_baseN {E0a:Addr} {pl:Sem Bool} (B:BaseCls X.K E0a) (hm:X.mg x=some (.ref E0a)) (ha:PAw X (e::es) t) (hg:Gl X x:=by rfl)
    (hdb:(x == ("__debug__" : Str))=false:=by decide) (he:starEach (e::es) X.env=(false,eval e X.env)::starEach es X.env:=by first | exact se_Name | exact se_Constant | exact se_Call | exact se_Subscript | exact se_Tuple)
    (hpl:(backTo pos (starEach es X.env)).any (·.1)=false:=by repeat (first | exact ap_nil | refine ap_cons (by first | exact se_Name | exact se_Constant | exact se_Call | exact se_Subscript | exact se_Tuple) ?_))
    (ht:eval (.Call (.Attribute (.Name x np) "__init__" apos) (e::es) [] pos) X.env=(do
      let ov ← eval (.Name x np) X.env
      standAt apos.atName
      let (f,first) ← holding [ov] (getMethod ov "__init__" pl)
      callWith pos f first (backTo pos (starEach (e::es) X.env)) (backToKw pos (keywordEach [] X.env))):=by rfl) :
    PEw X (.Call (.Attribute (.Name x np) "__init__" apos) (e::es) [] pos) (tBaseN X.K t):=⟨by
  intro pins s σ H Q I h
  refine PySem.W.methodCall_KW (pl:=pl) (ld_glob I hg hm ?_ hdb) ht
  refine method_cls I.kIn B.ga (cls_value I.kIn B.rd B.fd rfl ?_)
  have I0:Inv X pins σ H { s with toks:=s.toks+1 }:=I.tok _
  have hA:=ha.p pos pins _ σ H _ I0 h
  rw [he] at hA ⊢
  refine Calls.callWith_builtin (by show (false || (backTo pos (starEach es X.env)).any (·.1))=false; rw [hpl] <;> rfl) (Calls.evalArgs_plain (thn hA fun us s1 ⟨vs,H1,I1,r,a,C,od,rr,ev,hz,e,sh,q⟩=>?_))
  subst ev
  obtain ⟨u,ur,rfl,r1,rr⟩:=vals_cons r
  · cases (show u=Value.ref a from r1)
    obtain ⟨⟨oe,vs,e1,e2,e3,e4,e5,e6⟩,_⟩:=I1.hok a _ e
    refine base_initN I1.kIn sh e1 e2 e4 e5 e6 (by rw [← rr.length]; exact small64 (Nat.le_trans (Nat.le_succ _) hz)) fun h' x1 x6=>?_
    rw [e3] at x1
    have I2:Inv X pins σ (upd H1 a (ExcN a C od)) { s1 with heap:=h' }:=I1.write (x:=a) (e:=a) (t':=s1.toks) (by rw [e]; exact True.intro) (.inl rfl) (fun b o hb q=>x6 b o hb q) (let ⟨oe,vs,y,_⟩:=x1; ⟨oe,y⟩) (ExcN.ok x1)
    rw [upd_self e] at I2
    exact ⟨V.non,H1,I2,rfl,q⟩⟩
theorem ws_fldN (ha:PEw X o ta) (hv:PEw X value tv) (hs:swapsWith value (some (.Attribute o g pos')) pos.line X.env=pure false:=by rfl):PSw X (.Assign [.Attribute o g pos'] value pos) (sFldN X.K ta tv g):=⟨by
  intro pins s σ H D I h
  refine plainObj_wpAny_Assign_Attribute (thn (hv.p pins s σ H _ I h) fun u s1 ⟨y,H1,I1,ry,q⟩=>thn (ha.p pins s1 σ H1 _ I1 q) fun ov s2 ⟨x,H2,I2,rx,a,C,ex,c,n,q2⟩=>?_) hs
  subst ex
  obtain rfl:ov=Value.ref a:=rx
  rcases q2 with ⟨ea,q2⟩ | ⟨d,fs,ea,ed,l,q2⟩
  · exact excN_set0 I2 ea c n ry fun d s3 nd na I3=>⟨σ,_,I3,q2 d nd na⟩
  · exact excN_set1 I2 ea ed c n l ry fun s3 I3=>⟨σ,_,I3,q2⟩⟩
end
def del (H:Hp) (a:Addr):Hp:=fun b=>if b=a then none else H b
theorem del_same {H:Hp} {a:Addr}:del H a a=none:=if_pos rfl
theorem del_ne {H:Hp} {a b:Addr} (h:b≠a):del H a b=H b:=if_neg h
theorem HOk.del {P:Program} {w:World} {H:Hp} {h:Heap} {a:Addr} {F:Heap→Prop} (x:HOk P w H h) (e:H a=some (.ext F)):HOk P w (del H a) h:=fun b o q=>by
  by_cases hb:b=a
  · subst hb; rw [del_same] at q; cases q
  · rw [del_ne hb] at q
    refine (x b o q).stay (fun c u _ r=>r) (fun c r=>?_) fun c xs r=>?_
    · rw [del_ne (fun z=>by subst z; rw [e] at r; cases r)]; exact r
    · rw [del_ne (fun z=>by subst z; rw [e] at r; cases r)]; exact r
theorem Un.del {fs:List Addr} {H H1:Hp} {h h1:Heap} {a:Addr} {F:Heap→Prop} (x:Un fs [] H H1 h h1) (e:H1 a=some (.ext F)):Un fs [] H (L2.del H1 a) h h1 where
  keep:=x.keep
  slot:=x.slot
  free:=fun b ob q n m=>by
    by_cases hb:b=a
    · subst hb; exact del_same
    · rw [del_ne hb]; exact x.free b ob q n m
  there:=x.there
  tups:=fun b xs q=>by have r:=x.tups b xs q; rw [del_ne (fun z=>by subst z; rw [e] at r; cases r)]; exact r
  frzs:=fun b ob xs q=>by have r:=x.frzs b ob xs q; rw [del_ne (fun z=>by subst z; rw [e] at r; cases r)]; exact r
  tbls:=fun b ps q=>by
    obtain ⟨m,r⟩:=x.tbls b ps q
    exact ⟨m,by rw [del_ne (fun z=>by subst z; rw [e] at r; cases r)]; exact r⟩
structure XMadeG (X:Cx) (Ex:St→XK):Prop where
  p:∀ (pins:List (Addr × Obj)) (σ:St) (H1 H2:Hp) (s1 s2:Shared) (a:Addr) (cls:Value) (od:Option Addr),Inv X pins σ H1 s1→s2.os=s1.os→AllBare s2.gens→Un (frs X.stack) [] H1 H2 s1.heap s2.heap→HOk X.prog X.w H2 s2.heap →
    ExcAt s2.heap a cls od none→s1.heap.get? a=none→H2 a=none→Ex σ cls od H2→X.xe (.ref a) s2
theorem xmadeG_fn {P:Program} {w:World} {K:PySem.W.Frag} {mg:Str→Option Value} {base:Heap} {N:List Str} {qual:Str} {scope:Scope} {f:Addr} {cd:Value} {A:Around} {outer:List Env} {s:Shared} {H:Hp} {E:XK} :
    XMadeG (cxOf (CX1 P w) P w K mg base N qual scope f cd A outer s H E) (fun _=>E):=⟨fun pins σ H1 H2 s1 s2 a cls od I os bare un hok x fa na q =>
  leave_fn I os bare un hok x (.inl rfl) fa na (fun b hb=>by cases hb) (fun b hb=>by cases hb) q⟩
section
variable {M:Model} {A:Around} {E:Value→Shared→Prop} {env:Env} {K:Frag} {C:Addr}
theorem raise_made {s:Shared} {x:Sem Value} {Q:Flow→Shared→Prop} (sh:excShape K C mroVE "ValueError.__new__" = true) (hh:A.handled=none)
    (h:wpAny M A x (fun v s₁=>∃ e od,v=.ref e∧K.In s₁.heap∧ExcAt s₁.heap e (.ref C) od none∧E (.ref e) s₁) E s) :
    wpAny M A (raiseStmt env (some x) none) Q E s:=by
  unfold raiseStmt
  refine wpAny_bind (wpAny_mono h (fun v s₁ h₁=>?_) fun _ _ x=>x)
  obtain ⟨e,od,rfl,X,⟨oe,vs,he,hc,ho,hd,hz,hv⟩,hE⟩:=h₁
  obtain ⟨bm,N,nm,qn,bs,hdct,sn,sub,ab,col,dd,k0,k1,k2,k3,k5,hC,TL⟩:=excShape_obj X sh
  have hbase:bm.contains (.type "BaseException")=true:=TL.hasType PySem.F.excBase_ValueError.hasBase
  have hcB:(Value.ref C::bm).contains (.type "BaseException")=true:=by rw [List.contains_cons,hbase,Bool.or_true]
  obtain ⟨hp,g,d,tk,os⟩:=s₁
  obtain ⟨oc,odd,dt,sl⟩:=oe
  dsimp only at hc ho hd he hC hE
  subst hc hd
  repeat (first | with_reducible refine wpAny_loadPart_at he ?_ | with_reducible refine wpAny_loadPart_at hC ?_ | (with_reducible refine wpAny_isSubtype_exc hC ?_; rw [hcB]) | wp_step)
  rw [hv]
  refine wpAny_pure ?_
  rw [if_neg (by decide)]
  exact wpAny_pure (wpAny_raiseNew_none hh hE)
end
def tRaiseX (C:Addr) (sp:Sp) (Ex:St→XK) (t:TA):TS:=fun _ σ H=>t σ H fun vs H1=>vs.length≤64∧∀ a,H1 a=none →
  sp (.ref a::vs) (upd H1 a (ExcN a C none)) (fun v H2=>v=.non∧∃ od,H2 a=some (ExcN a C od)∧Ex σ (.ref C) od (del H2 a)) E0
section
variable {X:Cx} {k:Nat} {f C:Addr} {fd:FuncData} {ps:List Str} {sp:Sp} {Ex:St→XK} {x:Str} {pos np cpos:Pos} {e:Expr} {es:List Expr} {t:TA}
theorem run_makeN {pins:List (Addr × Obj)} {σ:St} {H:Hp} {s:Shared} {us:List Value} {vs:List V} (M:MkX X.K C f) (F:FnOk X.prog X.w X.K X.mg X.base CX0 k f fd ps sp) (hr:Room (k+1) X.A) (hb:Binds X.K fd ps []) (hx:XMadeG X Ex)
    (I:Inv X pins σ H s) (r:Vals vs us) (hz:vs.length≤64)
    (h:∀ a,H a=none→sp (.ref a::vs) (upd H a (ExcN a C none)) (fun v H2=>v=.non∧∃ od,H2 a=some (ExcN a C od)∧Ex σ (.ref C) od (del H2 a)) E0) :
    wpAny (model X.prog X.w) X.A (call (.ref C) us) (fun v s₁=>∃ e od,v=.ref e∧X.K.In s₁.heap∧ExcAt s₁.heap e (.ref C) od none∧X.xe (.ref e) s₁) X.xe s:=by
  refine make_exc M I.kIn (fun h' a x=>?_) (by rw [← r.length]; exact small64 hz)
  obtain ⟨na,I2⟩:=I.excMadeN x
  have hq:=h a na
  have r2:Vals (V.ref a::vs) (Value.ref a::us):=.cons rfl r
  have hl:(Value.ref a::us++[]).length=ps.length:=by
    have e:=r2.length
    rw [F.len _ _ _ _ hq] at e
    rw [List.append_nil]
    exact e.symm
  have hbt:=hb _ (Value.ref a::us) I2.kIn hl
  rw [List.append_nil] at hbt
  refine wpAny_call (codeAny_mono (F.run _ X.stack _ _ ⟨Value.ref a::us,[]⟩ (Value.ref a::us) _ _ E0 (hr.make C us []) (I2.env0.make C us []) hbt r2 hq) fun r s' hq'=>?_)
  cases r with
  | error e=>exact False.elim hq'
  | ok fl =>
    cases fl with
    | ret u =>
      have hc:=hq'
      obtain ⟨v,H',os,bare,un,hok,rv,ev,od,eN,q3⟩:=hq'
      subst ev
      obtain ⟨_,_,I3,_,_⟩:=I2.after hc
      have un1:Un (frs X.stack) [] H H' s.heap s'.heap:=((Un.kept x.keeps).put x.new na).tr un fun b hb=>.inl hb
      exact ⟨rv,a,od,rfl,I3.kIn,ExcN.exc (hok a _ eN),hx.p pins σ H (del H' a) s s' a _ od I os bare (un1.del eN) (hok.del eN) (ExcN.exc (hok a _ eN)) x.new del_same q3⟩
    | next=>exact False.elim hq'
    | brk=>exact False.elim hq'
    | cont=>exact False.elim hq'
theorem ws_raiseX (F:FnI X.prog X.w X.K X.mg X.base k C ps sp) (hm:X.mg x=some (.ref C)) (hc:X.calm=true) (hr:Room (k+1) X.A) (hx:XMadeG X Ex) (ha:PAw X (e::es) t) (hg:Gl X x:=by rfl)
    (hdb:(x == ("__debug__" : Str))=false:=by decide) (he:starEach (e::es) X.env=(false,eval e X.env)::starEach es X.env:=by first | exact se_Name | exact se_Constant | exact se_BinOp | exact se_Call | exact se_Subscript | exact se_Tuple)
    (hpl:(backTo cpos (starEach es X.env)).any (·.1)=false:=by repeat (first | exact ap_nil | refine ap_cons (by first | exact se_Name | exact se_Constant | exact se_BinOp | exact se_Call | exact se_Subscript | exact se_Tuple) ?_)) :
    PSw X (.Raise (some (.Call (.Name x np) (e::es) [] cpos)) none pos) (tRaiseX C sp Ex t):=⟨by
  obtain ⟨f,fd,h1,h2,h3⟩:=F.ex
  intro pins s σ H D I h
  rw [arm_exec_Raise]
  refine wpAny_bind (wpAny_standAt ?_)
  show wpAny _ _ (raiseStmt X.env (some (do let v ← eval (.Call (.Name x np) (e::es) [] cpos) X.env; standAt pos; pure v)) none) _ _ _
  refine raise_made h2.shape (I.ok.hd hc) (wpAny_bind (wpAny_mono (Q:=fun v s₁=>∃ e od,v=.ref e∧X.K.In s₁.heap∧ExcAt s₁.heap e (.ref C) od none∧X.xe (.ref e) s₁) ?_ (fun v s₁ h₁=>wpAny_bind (wpAny_standAt (wpAny_pure h₁))) fun _ _ x=>x))
  refine wpAny_Call_Name_kw (ld_glob I hg hm ?_ hdb)
  refine PySem.W.callWith_K (h₀:=X.base) I.ok.mod.kin h2.kp (thn (ha.p cpos pins s σ H _ I h) fun us s1 ⟨vs,H1,I1,r,hz,q⟩=>⟨I1.kIn,?_⟩) he hpl
  exact run_makeN h2 h1 hr h3 hx I1 r hz q⟩
end
end L2
set_option Elab.async false
set_option linter.all false
set_option maxRecDepth 100000
namespace L2
open PySem PySem.Spec PySem.W PyProof.Rows HT
@[irreducible] def rIsW (K:PySem.W.Frag):List V→Hp→VK→Prop:=fun xs H Q=>∃ a C od tp cs b,xs=[.ref a,.ref tp]∧H a=some (ExcO a C od)∧XHas H od∧ExcCls K C∧H tp=some (.tup cs)∧(∀ us,Vals cs us→kitAny K (.ref C) us=some b)∧Q (.bl b) H
theorem rwI {K:PySem.W.Frag} {H:Hp} {Q:VK} {a C tp:Addr} {od:Option Addr} {cs:List V} {b:Bool} (ha:H a=some (ExcO a C od)) (hx:XHas H od) (ec:ExcCls K C) (ht:H tp=some (.tup cs)) (e:∀ us,Vals cs us→kitAny K (.ref C) us=some b) (q:Q (.bl b) H):rIsW K [.ref a,.ref tp] H Q:=by
  unfold rIsW; exact ⟨a,C,od,tp,cs,b,rfl,ha,hx,ec,ht,e,q⟩
theorem cl_isiW {X:Cx} (K:PySem.W.Frag) (hK:X.K=K:=by rfl):CallR X (.builtin "isinstance") (rIsW K):=by
  subst hK
  unfold rIsW
  intro pins s σ H xs us Q I r h
  obtain ⟨a,C,od,tp,cs,b,rfl,ha,hx,ec,ht,e,q⟩:=h
  obtain ⟨u,w',rfl,r1,r2⟩:=vals2 r
  cases (show u=Value.ref a from r1)
  cases (show w'=Value.ref tp from r2)
  have hi:=exc_get I ha hx
  obtain ⟨_,its,rt,o,e1,e2,n,e3⟩:=(show ObjOk X.prog X.w H s.heap tp (.tup cs) from I.hok tp _ ht)
  obtain ⟨oc,odd,odt,osl⟩:=o
  cases e2
  cases e3
  exact kia_tup (kitx_exc ec) I.kIn hi e1 (e its rt) (fun z=>nomatch z) fun tk=>⟨.bl b,H,I.tok _,rfl,q⟩
theorem cl_isiYK {X:Cx} (K:PySem.W.Frag) (hK:X.K=K:=by rfl):CallR X (.builtin "isinstance") (rIsY K):=by subst hK; exact cl_isiY
end L2
set_option Elab.async false
set_option linter.all false
set_option maxRecDepth 100000
namespace L2
open PySem PySem.Spec PyProof.Rows
structure FnMX (P:Program) (w:World) (K:PySem.W.Frag) (mg:Str→Option Value) (base:Heap) (k:Nat) (C:Addr) (m:Str) (ps:List Str) (sp:Sp):Prop where
  ex:∃ (f:Addr) (fd:FuncData),FnOk P w K mg base (CX1 P w) k f fd ps sp∧Meth K C m f∧Binds K fd ps []
def tMethX (C:Addr) (m:Str) (sp:Sp) (Ex:St→XK) (ta:TE) (t:TA):TE:=fun σ H Q=>ta σ H fun x H1=>∃ a dx fs,x=.ref a∧H1 a=some (.ins C dx fs)∧fs.lookup m=none ∧
  t σ H1 fun vs H2=>sp (x::vs) H2 Q (Ex σ)
section
variable {X:Cx} {k:Nat} {C:Addr} {ps:List Str} {sp:Sp} {Ex:St→XK} {m:Str} {pos apos:Pos} {e o:Expr} {es:List Expr} {t:TA} {ta:TE}
theorem we_mthX {pl:Sem Bool} (F:FnMX X.prog X.w X.K X.mg X.base k C m ps sp) (c:Cls X.K C) (hr:Room k X.A) (hx:XPass X Ex) (ho:PEw X o ta) (ha:PAw X (e::es) t)
    (hst:starEach (e::es) X.env=(false,eval e X.env)::starEach es X.env:=by first | exact se_Name | exact se_Constant | exact se_Call | exact se_Attribute | exact se_Subscript)
    (hpl:(backTo pos (starEach es X.env)).any (·.1)=false:=by repeat (first | exact ap_nil | refine ap_cons (by first | exact se_Name | exact se_Constant | exact se_Call | exact se_Attribute | exact se_Subscript) ?_))
    (ht:eval (.Call (.Attribute o m apos) (e::es) [] pos) X.env=(do
      let ov ← eval o X.env
      standAt apos.atName
      let (f,first) ← holding [ov] (getMethod ov m pl)
      callWith pos f first (backTo pos (starEach (e::es) X.env)) (backToKw pos (keywordEach [] X.env))):=by rfl) :
    PEw X (.Call (.Attribute o m apos) (e::es) [] pos) (tMethX C m sp Ex ta t):=⟨by
  obtain ⟨f,fd,h1,hm,h3⟩:=F.ex
  intro pins s σ H Q I h
  refine PySem.W.methodCall_KW (pl:=pl) (thn (ho.p pins s σ H _ I h) fun u s1 ⟨x,H1,I1,rx,a,dx,fs,ex,ea,l,q⟩=>?_) ht
  subst ex
  obtain rfl:u=Value.ref a:=rx
  refine getmeth_ok I1 ea c hm l ?_
  refine PySem.W.callWith_K (first:=[.ref a]) (h₀:=X.base) I.ok.mod.kin hm.kp (thn (ha.p pos pins s1 σ H1 _ I1 q) fun us s2 ⟨vs,H2,I2,r,q2⟩=>⟨I2.kIn,?_⟩) hst hpl
  exact run_fnX (us:=.ref a::us) (vs:=.ref a::vs) h1 hr h3 hx I2 (.cons rfl r) q2⟩
theorem we_mthX0 {pl:Sem Bool} (F:FnMX X.prog X.w X.K X.mg X.base k C m ps sp) (c:Cls X.K C) (hr:Room k X.A) (hx:XPass X Ex) (ho:PEw X o ta)
    (ht:eval (.Call (.Attribute o m apos) [] [] pos) X.env=(do
      let ov ← eval o X.env
      standAt apos.atName
      let (f,first) ← holding [ov] (getMethod ov m pl)
      callWith pos f first (backTo pos (starEach [] X.env)) (backToKw pos (keywordEach [] X.env))):=by rfl) :
    PEw X (.Call (.Attribute o m apos) [] [] pos) (tMethX C m sp Ex ta tNil):=⟨by
  obtain ⟨f,fd,h1,hm,h3⟩:=F.ex
  intro pins s σ H Q I h
  refine PySem.W.methodCall_KW (pl:=pl) (thn (ho.p pins s σ H _ I h) fun u s1 ⟨x,H1,I1,rx,a,dx,fs,ex,ea,l,q⟩=>?_) ht
  subst ex
  obtain rfl:u=Value.ref a:=rx
  refine getmeth_ok I1 ea c hm l ?_
  exact PySem.W.callWith_K0 (first:=[.ref a]) I1.kIn hm.kp (run_fnX (us:=[.ref a]) (vs:=[.ref a]) h1 hr h3 hx I1 (.cons rfl .nil) q)⟩
end
end L2
set_option Elab.async false
set_option linter.all false
set_option maxRecDepth 100000
namespace L2
open PySem PySem.Spec PyProof.Rows
section
variable {X:Cx}
end
end L2
set_option Elab.async false
set_option linter.all false
set_option maxRecDepth 100000
namespace L2
open PySem PySem.Spec PySem.W PyProof.Rows HT
theorem tix_loop {M:Model} {A:Around} {E:Value→Shared→Prop} {s:Shared} {items:Array Value} {x:Value} {b:Nat→Bool} {j:Nat} {Q:Option PySem.Fin × Unit→Shared→Prop} (hj:j<items.size) (hit:b j=true) (hno:∀ m,m<j→b m=false)
    (he:∀ m y,items[m]?=some y→∀ (Q:Bool→Shared→Prop),Q (b m) s→wpAny M A (eqBool y x) Q E s) (q:Q (some (.done (.ret (.int (j:Int) s.toks))),()) { s with toks:=s.toks+1 }) :
    ∀ (n lo : Nat), lo + n = items.size → lo ≤ j → wpAny M A (forIn (List.range' lo n 1) (none, ()) fun (i : Nat) (__s : Option PySem.Fin × Unit) => (match items[i]? with
                    | some y=>do
                      let __do_lift ← eqBool y x
                      if __do_lift=true then do
                          let __do_lift ← retInt (i:Int)
                          pure (ForInStep.done (some __do_lift,()))
                        else pure (ForInStep.yield (none,()))
                    | x=>pure (ForInStep.yield (none,())))) Q E s
  | 0,lo,h,hl=>by omega
  | n+1,lo,h,hl=>by
    rw [List.range'_succ,List.forIn_cons]
    have e:items[lo]?=some items[lo]:=Array.getElem?_eq_getElem (by omega)
    refine wpAny_bind ?_
    rw [e]
    refine wpAny_bind (he lo _ e _ ?_)
    by_cases z:lo=j
    · subst z
      rw [hit,if_pos rfl]
      refine wpAny_bind ?_
      unfold retInt
      refine wpAny_bind (wpAny_mkInt ?_)
      exact wpAny_pure (wpAny_pure (wpAny_pure q))
    · rw [hno lo (by omega),if_neg (by decide)]
      exact wpAny_pure (tix_loop hj hit hno he q n (lo+1) (by omega) (by omega))
theorem tuple_ixAt (l:Addr) (items:Array Value) (n:Nat) (dd:Option Addr) (sl:Array (Option Value)) (x:Value) (b:Nat→Bool) (j:Nat) (hj:j<items.size) (hit:b j=true) (hno:∀ m,m<j→b m=false) :
    Meets (Builtin.«tuple.index» ⟨[.ref l,x],[]⟩) fun A R s=>s.heap.get? l=some { cls:=.type "tuple",dict:=dd,data:=.seq items n,slots:=sl }∧(∀ m y,items[m]?=some y→SeqAt.EqAt A.in1 s y x (b m))∧R (.ok (.ret (.int (j:Int) s.toks))) { s with toks:=s.toks+1 }:=by
  intro prog w A R s ⟨h1,h2,h3⟩
  unfold Builtin.«tuple.index»
  refine wpAny_bind (m:=selfAndSome _ _ _ _ _) (wpAny_pure ?_)
  refine wpAny_bind (wpAny_tupleItemsOf h1 rfl ?_)
  refine wpAny_bind (wpAny_pure ?_)
  refine wpAny_bind (wpAny_pure ?_)
  refine wpAny_bind ?_
  rw [Std.Legacy.Range.forIn_eq_forIn_range']
  have e:(Std.Legacy.Range.size [0:min items.size items.size])=items.size:=by simp [Std.Legacy.Range.size]
  rw [e]
  refine tix_loop hj hit hno (fun m y hy Q q=>h2 m y hy prog w _ Q q) ?_ items.size 0 (by omega) (by omega)
  exact wpAny_pure h3
@[irreducible] def rIdxT (K:PySem.W.Frag):V→List V→Hp→VK→Prop:=fun x vs H Q=>∃ (l:Addr) (xs:List V) (cs:List (List Int)) (c:List Int) (y:V) (j:Nat),x=.ref l∧vs=[y]∧H l=some (.tup xs)∧RepKL K H (cs.map cD) xs∧RepK K H (cD c) y∧cs[j]?=some c∧(∀ i,i<j→cs[i]? ≠ some c)∧Q (.int (j:Int)) H
theorem idxT {K:PySem.W.Frag} {H:Hp} {l:Addr} {xs:List V} {cs:List (List Int)} {c:List Int} {y:V} {j:Nat} {Q:VK} (h:H l=some (.tup xs)) (r:RepKL K H (cs.map cD) xs) (ry:RepK K H (cD c) y) (h1:cs[j]?=some c) (h2:∀ i,i<j→cs[i]? ≠ some c) (q:Q (.int (j:Int)) H):rIdxT K (.ref l) [y] H Q:=by
  unfold rIdxT; exact ⟨l,xs,cs,c,y,j,rfl,rfl,h,r,ry,h1,h2,q⟩
theorem repKL_get {K:PySem.W.Frag} {H:Hp}:∀ {ds:List PyData} {xs:List V} {i:Nat} {x:V},RepKL K H ds xs→xs[i]?=some x→∃ d,ds[i]?=some d∧RepK K H d x
  | [],xs,i,x,h,hx=>by unfold RepKL at h; subst h; simp at hx
  | d::ds,xs,0,x,h,hx=>by
    unfold RepKL at h
    obtain ⟨y,ys,rfl,h1,h2⟩:=h
    cases hx
    exact ⟨d,rfl,h1⟩
  | d::ds,xs,i+1,x,h,hx=>by
    unfold RepKL at h
    obtain ⟨y,ys,rfl,h1,h2⟩:=h
    exact repKL_get (i:=i) h2 hx
theorem repKL_len {K:PySem.W.Frag} {H:Hp}:∀ {ds:List PyData} {xs:List V},RepKL K H ds xs→xs.length=ds.length
  | [],xs,h=>by unfold RepKL at h; subst h; rfl
  | d::ds,xs,h=>by
    unfold RepKL at h
    obtain ⟨y,ys,rfl,h1,h2⟩:=h
    rw [List.length_cons,List.length_cons,repKL_len h2]
section
variable {X:Cx}
theorem mt_idxT (K:PySem.W.Frag) (hu:X.A.units+64<cLine) (hK:X.K=K:=by rfl):MtR X "tuple.index" (rIdxT K):=by
  subst hK
  unfold rIdxT
  intro pins s σ H x vs v us Q I rx rv h
  obtain ⟨l,xs,cs,c,y,j,rfl,rfl,hH,r,ry,h1,h2,q⟩:=h
  cases rx
  obtain ⟨u,rfl,ru⟩:=vals1 rv
  obtain ⟨as,ra⟩:=ry.reads I ru
  obtain ⟨its,r',p,_⟩:=I.tuple (SqT.of hH)
  obtain ⟨⟨cls,dd,data,sl⟩,e,hcl,n,hdd⟩:=id p
  simp only at hcl hdd
  subst hcl hdd
  have hl:=r'.length
  have lx:=repKL_len r
  rw [List.length_map] at lx
  have lj:j<cs.length:=(List.getElem?_eq_some_iff.mp h1).1
  refine call_meets F.slot_tuple_index ⟨_,e,rfl⟩ F.entry_tuple_index (F.args_tuple_index_2 _ _) (tuple_ixAt l its.toArray n _ _ u (fun m=>decide (cs[m]?=some c)) j (by rw [List.size_toArray]; omega) (decide_eq_true h1) fun m hm=>decide_eq_false (h2 m hm)) ⟨e,fun m w hw=>?_,?_⟩
  · have hw':its[m]?=some w:=by simpa using hw
    have lm:=(List.getElem?_eq_some_iff.mp hw').1
    obtain ⟨v',hv',rv'⟩:∃ v',xs[m]?=some v'∧RelV v' w:=by
      obtain ⟨u',hu',ru'⟩:=r'.get (i:=m) (x:=xs[m]'(by omega)) (List.getElem?_eq_getElem (by omega))
      rw [hw'] at hu'
      cases hu'
      exact ⟨_,List.getElem?_eq_getElem (by omega),ru'⟩
    obtain ⟨d,hd,rd⟩:=repKL_get r hv'
    rw [List.getElem?_map] at hd
    obtain ⟨c',hc',rfl⟩:=Option.map_eq_some_iff.mp hd
    obtain ⟨bs,rb⟩:=rd.reads I rv'
    have e2:decide (cs[m]?=some c)=PyData.eqv (cD c') (cD c):=by
      rw [eqvC,hc']
      simp
    rw [e2]
    refine SeqAt.eqAt_reads (cD c') (cD c) _ s _ _ bs as rb ra (layIs c') (layIs c) ?_
    have h1:(cD c').depth≤2:=by
      have:=depIs c'
      simp only [PyData.depth]
      omega
    have:X.A.in1.units≤X.A.units+1:=by
      first
        | exact Nat.le_refl _
        | (unfold Around.in1; simp)
    omega
  · exact ⟨.int _,H,I.tok _,⟨_,rfl⟩,q⟩
end
end L2
set_option Elab.async false
set_option linter.all false
set_option maxRecDepth 100000
namespace HT
open PySem PySem.W PyProof.Rows
section
variable {prog:Program} {w:World} {A:Around} {E:Value→Shared→Prop} {s:Shared}
end
end HT
namespace L2
open PySem PySem.Spec PyProof.Rows
theorem Vals.rev {xs:List V} {us:List Value} (h:Vals xs us):Vals xs.reverse us.reverse:=by
  induction h with
  | nil=>exact .nil
  | cons r _ ih=>rw [List.reverse_cons,List.reverse_cons]; exact ih.append (.cons r .nil)
section
variable {X:Cx} {e st:Expr} {te ts:TE} {pos p2:Pos}
@[irreducible] def rRevL:V→List V→Hp→VK→Prop:=fun x vs H Q=>∃ l xs,x=.ref l∧vs=[]∧H l=some (.lst xs)∧∀ H',H' l=some (.lst xs.reverse)→SameBut l H H'→Q .non H'
theorem revL {H:Hp} {l:Addr} {xs:List V} {Q:VK} (h:H l=some (.lst xs)) (q:∀ H',H' l=some (.lst xs.reverse)→SameBut l H H'→Q .non H'):rRevL (.ref l) [] H Q:=by
  unfold rRevL; exact ⟨l,xs,rfl,rfl,h,q⟩
theorem mt_rev:MtR X "list.reverse" rRevL:=by
  unfold rRevL
  intro pins s σ H x vs v us Q I rx rv h
  obtain ⟨l,xs,rfl,rfl,hH,q⟩:=h
  cases rx
  cases rv
  obtain ⟨z,its,n,r,hl,e⟩:=I.lstM hH
  refine call_meets F.slot_list_reverse ⟨_,e,rfl⟩ F.entry_list_reverse (F.args_list_reverse_1 _) (S:=fun _ R s=>s.heap.get? l=some { cls:=.type "list",data:=.seq its.toArray n }∧R (.ok (.ret .none)) { s with heap:=s.heap.update l (Obj.mapSeq fun x=>x.reverse) }) ?_ ⟨e,?_⟩
  · intro prog w A R s ⟨h1,h2⟩
    unfold Builtin.«list.reverse»
    refine wpAny_bind (m:=selfOnly _ _) (wpAny_pure ?_)
    exact wpAny_bind (listUpdate_at h1 rfl (wpAny_pure h2) (by rw [List.size_toArray]; omega) (by rw [Array.size_reverse,List.size_toArray]; omega))
  · exact ⟨.non,_,I.lset (its':=its.reverse) (t':=s.toks) hH e (by simp) r.rev (by rw [List.length_reverse]; omega),rfl,q _ upd_same SameBut.self⟩
end
end L2
set_option Elab.async false
set_option linter.all false
set_option maxRecDepth 100000
namespace Kw
open PySem L2 Mf
def top (i:Nat):Stmt:=PySem.Challenge.pw_earlystop_k34_watches_refuse.main.body.getD i (.Pass ⟨0,0,0,0⟩)
structure Cl where
  EarlyError:Addr
  NoTrial:Addr
  NoRule:Addr
  NoBounds:Addr
  NoLook:Addr
  NoPaper:Addr
  NoLines:Addr
  NoFraction:Addr
  NoOrder:Addr
  NoBack:Addr
  NoRow:Addr
  ONE:Addr
  Watch:Addr
  tok_LOOKS_ON:Tok
structure Txt (K:PySem.W.Frag) (mg:Str→Option Value) (c:Cl):Prop where
  b_list:mg "list" = none
  b_len:mg "len" = none
  b_abs:mg "abs" = none
  b_repr:mg "repr" = none
  b_range:mg "range" = none
  b_sum:mg "sum" = none
  b_max:mg "max" = none
  b_min:mg "min" = none
  b_int:mg "int" = none
  b_bool:mg "bool" = none
  b_sorted:mg "sorted" = none
  b_dict:mg "dict" = none
  b_isinstance:mg "isinstance" = none
  b_tuple:mg "tuple" = none
  b_ValueError:mg "ValueError" = none
  g_EarlyError:mg "EarlyError" = some (.ref c.EarlyError)
  g_NoTrial:mg "NoTrial" = some (.ref c.NoTrial)
  g_NoRule:mg "NoRule" = some (.ref c.NoRule)
  g_NoBounds:mg "NoBounds" = some (.ref c.NoBounds)
  g_NoLook:mg "NoLook" = some (.ref c.NoLook)
  g_NoPaper:mg "NoPaper" = some (.ref c.NoPaper)
  g_NoLines:mg "NoLines" = some (.ref c.NoLines)
  g_NoFraction:mg "NoFraction" = some (.ref c.NoFraction)
  g_NoOrder:mg "NoOrder" = some (.ref c.NoOrder)
  g_NoBack:mg "NoBack" = some (.ref c.NoBack)
  g_NoRow:mg "NoRow" = some (.ref c.NoRow)
  g_ONE:mg "ONE" = some (.ref c.ONE)
  g_LOOKS_ON:mg "LOOKS_ON" = some (.int 0 c.tok_LOOKS_ON)
  g_Watch:mg "Watch" = some (.ref c.Watch)
  w_Watch:Own K c.Watch ["says_of", "faces", "told", "stands"]
  x_NoBack:PySem.W.excIn K c.NoBack mroVE "ValueError.__new__" = true
  e_NoBack:ExcCls K c.NoBack
  c_NoLook:Catch K c.NoLook
  c_NoBack:Catch K c.NoBack
  bb_EarlyError:baseAll K c.EarlyError=true
  st_NoLook:setAll K c.NoLook ["word"]=true
  ec_NoLook:excAll K c.NoLook=true
  sub_NoLook:PySem.W.subIn K (.ref c.NoLook) (.ref c.NoLook)=some true
  sub_NoBack:PySem.W.subIn K (.ref c.NoBack) (.ref c.NoBack)=some true
  k1:PySem.W.kitAny K (.ref c.NoLook) [.ref c.NoBack,.ref c.NoBounds,.ref c.NoFraction,.ref c.NoLines,.ref c.NoOrder]=some false
  k2:PySem.W.kitAny K (.ref c.NoLook) [.ref c.NoPaper,.ref c.NoRow,.ref c.NoRule,.ref c.NoTrial]=some false
  k3:PySem.W.kitOne K (.ref c.NoLook) (.type "ValueError")=some true
  k4:PySem.W.kitAny K (.ref c.NoBack) [.ref c.NoBounds,.ref c.NoFraction,.ref c.NoLines,.ref c.NoLook,.ref c.NoOrder,.ref c.NoPaper,.ref c.NoRow,.ref c.NoRule,.ref c.NoTrial]=some false
  k5:PySem.W.kitOne K (.ref c.NoBack) (.type "ValueError")=some true
  o_ONE:intsIn K c.ONE [1,1]=true
theorem Txt.bc_EarlyError {K:PySem.W.Frag} {mg:Str→Option Value} {c:Cl} (T:Txt K mg c):BaseCls K c.EarlyError:=baseAll.base T.bb_EarlyError
abbrev s__law_tape:Stmt:=(top 32)
theorem sc__law_tape:FnScope ["_law_script", "_law_at", "_law_cell"] ["_law_script", "_law_at"] (defScope s__law_tape):=⟨rfl,rfl,rfl,by decide +kernel,rfl,by decide +kernel,by decide +kernel⟩
abbrev s__law_pick:Stmt:=(top 33)
theorem sc__law_pick:FnScope ["_law_tape_here", "_law_many", "_law_turn", "_law_found", "_law_stirred"] ["_law_tape_here", "_law_many"] (defScope s__law_pick):=⟨rfl,rfl,rfl,by decide +kernel,rfl,by decide +kernel,by decide +kernel⟩
abbrev s__law_frac:Stmt:=(top 34)
theorem sc__law_frac:FnScope ["_law_n", "_law_d", "_law_one", "_law_other"] ["_law_n", "_law_d"] (defScope s__law_frac):=⟨rfl,rfl,rfl,by decide +kernel,rfl,by decide +kernel,by decide +kernel⟩
abbrev s__law_shares:Stmt:=(top 36)
theorem sc__law_shares:FnScope ["_law_tape_here", "_law_many", "_law_parts"] ["_law_tape_here", "_law_many"] (defScope s__law_shares):=⟨rfl,rfl,rfl,by decide +kernel,rfl,by decide +kernel,by decide +kernel⟩
abbrev s__law_says:Stmt:=(top 37)
theorem sc__law_says:FnScope ["_law_tape_here", "_law_ways", "_law_stops", "_law_plain", "_law_place"] ["_law_tape_here", "_law_ways", "_law_stops", "_law_plain"] (defScope s__law_says):=⟨rfl,rfl,rfl,by decide +kernel,rfl,by decide +kernel,by decide +kernel⟩
abbrev s__law_next:Stmt:=(top 38)
theorem sc__law_next:FnScope ["_law_counts", "_law_says_here"] ["_law_counts", "_law_says_here"] (defScope s__law_next):=⟨rfl,rfl,rfl,by decide +kernel,rfl,by decide +kernel,by decide +kernel⟩
abbrev s__law_rule:Stmt:=(top 39)
theorem sc__law_rule:FnScope ["_law_tape_here", "_law_faces", "_law_ways", "_law_most", "_law_plain", "_law_found", "_law_level", "_law_later", "_law_counts", "_law_says_here"] ["_law_tape_here", "_law_faces", "_law_ways", "_law_most", "_law_plain"] (defScope s__law_rule):=⟨rfl,rfl,rfl,by decide +kernel,rfl,by decide +kernel,by decide +kernel⟩
abbrev s__law_sizes:Stmt:=(top 40)
theorem sc__law_sizes:FnScope ["_law_tape_here", "_law_faces", "_law_most"] ["_law_tape_here"] (defScope s__law_sizes):=⟨rfl,rfl,rfl,by decide +kernel,rfl,by decide +kernel,by decide +kernel⟩
abbrev tpD (c l t:Int):List (Key × V):=[(.inr "cell",.int c),(.inr "left",.int l),(.inr "turn",.int t)]
structure TapeAt (H:Hp) (p:Addr) (n:Nat):Prop where
  ex:∃ c l t:Int,H p=some (.dK (tpD c l t))∧0≤l∧0≤t∧t+n≤1000000000000
theorem TapeAt.ne {H:Hp} {p q:Addr} {n:Nat} (F:TapeAt H p n) (hq:H q=none):q≠p:=fun e=>by
  subst e; obtain ⟨c,l,t,h,_⟩:=F.ex; rw [h] at hq; cases hq
theorem TapeAt.there {H:Hp} {p:Addr} {n:Nat} (F:TapeAt H p n):∃ o,H p=some o:=by obtain ⟨c,l,t,h,_⟩:=F.ex; exact ⟨_,h⟩
theorem TapeAt.neL {H:Hp} {p q:Addr} {n:Nat} {xs:List V} (F:TapeAt H p n) (hq:H q=some (.lst xs)):q≠p:=fun e=>by
  subst e; obtain ⟨c,l,t,h,_⟩:=F.ex; rw [h] at hq; cases hq
theorem TapeAt.same {H H':Hp} {p:Addr} {n:Nat} (F:TapeAt H p n) (s:Same H H'):TapeAt H' p n:=by
  obtain ⟨c,l,t,h,r⟩:=F.ex
  exact ⟨c,l,t,s _ _ h,r⟩
theorem TapeAt.but {H H':Hp} {p D:Addr} {n:Nat} (F:TapeAt H p n) (s:SameBut D H H') (n1:D≠p):TapeAt H' p n:=by
  obtain ⟨c,l,t,h,r⟩:=F.ex
  exact ⟨c,l,t,s.at (Ne.symm n1) h,r⟩
theorem TapeAt.less {H:Hp} {p:Addr} {n m:Nat} (F:TapeAt H p n) (h:m≤n):TapeAt H p m:=by
  obtain ⟨c,l,t,e,l0,t0,r⟩:=F.ex
  exact ⟨c,l,t,e,l0,t0,by omega⟩
theorem TapeAt.t {H H':Hp} {p:Addr} {n:Nat} (F:TapeAt H p n) (s:SameBut p H H'):SameT H H':=by
  obtain ⟨c,l,t,h,_⟩:=F.ex
  exact s.tD h
theorem TapeAt.like {p:Addr} {n:Nat} (f:Nat→Nat):TapeLike p (fun i H=>TapeAt H p (f i)) :=
  ⟨fun _ D H1 H2 n1 s F=>F.but s n1,fun _ H1 H2 s F=>F.same s,fun _ H' F=>by obtain ⟨c,l,t,h,_⟩:=F.ex; exact ⟨_,h⟩⟩
@[irreducible] def sp_tape (K:PySem.W.Frag):Sp:=fun vs H Q _=>∃ (a:Addr) (ns:List Int) (k:Int),vs=[.ref a,.int k]∧SqL K H a (ns.map V.int)∧ns.length≤63∧0≤k∧∀ p H',TapeAt H' p 1000000000000→Same H H'→H p=none→Q (.ref p) H'
theorem sp_tape_i {K:PySem.W.Frag} {H:Hp} {Q:VK} {E:XK} {a:Addr} {ns:List Int} {k:Int} (h:SqL K H a (ns.map V.int)) (hl:ns.length≤63) (hk:0≤k) (q:∀ p H',TapeAt H' p 1000000000000→Same H H'→H p=none→Q (.ref p) H'):sp_tape K [.ref a,.int k] H Q E:=by
  unfold sp_tape; exact ⟨a,ns,k,rfl,h,hl,hk,q⟩
@[irreducible] def sp_pick:Sp:=fun vs H Q _=>∃ (p:Addr) (n:Nat) (m:Int),vs=[.ref p,.int m]∧TapeAt H p (n+1)∧0<m∧bits m≤64∧∀ x H',0≤x→x<m→TapeAt H' p n→SameBut p H H'→Q (.int x) H'
theorem sp_pick_i {H:Hp} {Q:VK} {E:XK} {p:Addr} {n:Nat} {m:Int} (F:TapeAt H p (n+1)) (h:0<m) (hb:bits m≤64) (k:∀ x H',0≤x→x<m→TapeAt H' p n→SameBut p H H'→Q (.int x) H'):sp_pick [.ref p,.int m] H Q E:=by
  unfold sp_pick; exact ⟨p,n,m,rfl,F,h,hb,k⟩
theorem bitsle {i:Int} {n:Nat} (h:i.natAbs<2^n):bits i≤n:=PySem.intBits_le_iff.mpr h
@[irreducible] def sp_law (K:PySem.W.Frag):Sp:=fun vs H Q _=>∃ (a:Addr) (ns:List Int),vs=[.ref a]∧SqL K H a (ns.map V.int)∧ns.length≤63∧∀ H',Q (.bl true) H'
theorem sp_law_i {K:PySem.W.Frag} {H:Hp} {a:Addr} {ns:List Int} (h:SqL K H a (ns.map V.int)) (hl:ns.length≤63):sp_law K [.ref a] H (fun v _=>v=.bl true) (fun _ _ _=>False):=by
  unfold sp_law; exact ⟨a,ns,rfl,h,hl,fun _=>rfl⟩
theorem rlQ {K:PySem.W.Frag} {H:Hp} {p:Addr} {xs:List V} {Q:VK} (h:SqL K H p xs) (q:Q (.int xs.length) H):rLen K [V.ref p] H Q:=by unfold rLen; exact ⟨_,_,rfl,.inl ⟨xs,h,rfl⟩,q⟩
section
variable {P:Program} {w:World} {K:PySem.W.Frag} {mg:Str→Option Value} {base:Heap} {c:Cl}
theorem ok__law_tape {f:Addr} {fd:FuncData} (F:Fun K "_law_tape" "_law_tape" s__law_tape f fd) (T:Txt K mg c):FnOk P w K mg base CX0 1 f fd ["_law_script", "_law_at"] (sp_tape K):=by
  refine F.okw sc__law_tape (fun vs H Q E h=>?_) (fun cdv A outer s H vs Q E hr h=>?_)
  · unfold sp_tape at h
    obtain ⟨a,ns,i,rfl,_⟩:=h
    rfl
  · unfold sp_tape at h
    obtain ⟨a,ns,i,rfl,hS,hl,hi,k⟩:=h
    refine ⟨_,(wss_cons (ws_set (i:=2) sc__law_tape.nd rfl (Or.inl rfl) (we_v 1))
      (wss_cons (ws_cut (ws_if (wt_cmp op_gt (we_cB cl_len (by rfl) T.b_len (by decide +kernel) (wa_k (we_v 0) wa_nil)) we_int (nomark _)) (wss_one (ws_set (i:=2) sc__law_tape.nd rfl (Or.inl rfl) (we_op op_add (we_ix ix_seq (we_v 0) (we_op op_mod (we_v 1) (we_cB cl_len (by rfl) T.b_len (by decide +kernel) (wa_k (we_v 0) wa_nil))) (fun _ _=>rfl)) (we_op op_fdivB (we_v 1) (we_cB cl_len (by rfl) T.b_len (by decide +kernel) (wa_k (we_v 0) wa_nil)))))) wss_nil))
      (wss_one (ws_ret (we_disp (wpp_cons we_str (we_v 2) (wpp_cons we_str (we_cB (call_max2 rfl) (by rfl) T.b_max (by decide +kernel) (wa_k we_int (wa_k (we_op op_sub (we_v 2) (we_op op_pow we_int we_int)) wa_nil))) (wpp_cons we_str we_int wpp_nil)))))))),?_⟩
    refine ⟨_,rfl,?_⟩
    refine ⟨fun σ H3=>∃ c:Int,σ=[some (.ref a),some (.int i),some (.int c)]∧H3=H,?_,?_⟩
    · rintro σ H3 ⟨c,rfl,rfl⟩
      intro p hp
      refine ⟨_,rfl,?_⟩
      refine ⟨_,rfl,_,_,rfl,rfl,⟨by decide,by decide,by decide⟩,_,_,rfl,rfl,_,_,rfl,?_⟩
      refine ⟨upd_same,tpD c (if c - 10^18 > 0 then c - 10^18 else 0) 0,rfl,by show 3≤15; decide,?_⟩
      refine k p _ ⟨c,(if c - 10^18 > 0 then c - 10^18 else 0),0,?_,by split <;> omega,by decide,by decide⟩ ?_ hp
      · rw [upd_same]; rfl
      · intro b o h
        have nb:b≠p:=fun e=>by subst e; rw [hp] at h; cases h
        rw [L2.upd_ne nb,L2.upd_ne nb]; exact h
    · refine ⟨_,rfl,?_⟩
      refine rlQ hS ?_
      refine ⟨_,_,rfl,rfl,_,rfl,?_⟩
      rw [List.length_map]
      refine iteD (fun e1=>?_) (fun e1=>?_)
      · refine ⟨_,rfl,_,rfl,_,rfl,?_⟩
        refine rlQ hS ?_
        rw [List.length_map]
        refine ⟨_,_,rfl,rfl,e1,?_⟩
        have g0:=Int.emod_nonneg i (b:=(ns.length:Int)) (by omega)
        have g1:=Int.emod_lt_of_pos i e1
        have hj:∃ z,ns[(i % (ns.length:Int)).toNat]?=some z:=⟨_,List.getElem?_eq_getElem (by omega)⟩
        obtain ⟨z,hz⟩:=hj
        have hat:atI (ns.map V.int) (i % (ns.length:Int))=some (.int z):=by
          have:=atI_nat (xs:=ns.map V.int) (j:=(i % (ns.length:Int)).toNat) (v:=V.int z) (by rw [List.getElem?_map,hz]; rfl)
          rwa [Int.toNat_of_nonneg g0] at this
        refine .inl ⟨a,_,_,_,rfl,rfl,hS,hat,?_⟩
        refine ⟨_,rfl,_,rfl,?_⟩
        refine rlQ hS ?_
        rw [List.length_map]
        refine ⟨_, _, rfl, rfl, ⟨e1, bitsle (by have : ((ns.length : Int)).natAbs ≤ 63 := by omega
                                                exact Nat.lt_of_le_of_lt this (Nat.lt_of_lt_of_le (show 63<2^6 by decide) (Nat.pow_le_pow_right (by decide) (by decide))))⟩,?_⟩
        refine ⟨_,_,rfl,rfl,?_⟩
        exact ⟨_,rfl,rfl⟩
      · exact ⟨_,rfl,rfl⟩
theorem ok__law_pick {f:Addr} {fd:FuncData} (F:Fun K "_law_pick" "_law_pick" s__law_pick f fd) (T:Txt K mg c):FnOk P w K mg base CX0 1 f fd ["_law_tape_here", "_law_many"] sp_pick:=by
  refine F.okw sc__law_pick (fun vs H Q E h=>?_) (fun cdv A outer s H vs Q E hr h=>?_)
  · unfold sp_pick at h
    obtain ⟨p,n,m,rfl,_⟩:=h
    rfl
  · unfold sp_pick at h
    obtain ⟨p,n,m,rfl,F,hm,hb,k⟩:=h
    obtain ⟨c,l,t,hp,h0,h1,h2⟩:=F.ex
    refine ⟨_,(wss_cons (ws_set (i:=2) sc__law_pick.nd rfl (Or.inl rfl) (we_op op_add (we_dget hr.u1 (we_v 0) we_str) we_int))
      (wss_cons (ws_dput hr.u1 (we_v 0) we_str (we_v 2))
      (wss_cons (ws_if (wt_cmp op_gt (we_dget hr.u1 (we_v 0) we_str) we_int (nomark _)) (wss_cons (ws_set (i:=3) sc__law_pick.nd rfl (Or.inl rfl) (we_op op_mod (we_dget hr.u1 (we_v 0) we_str) (we_v 1)))
      (wss_cons (ws_dput hr.u1 (we_v 0) we_str (we_op op_fdivB (we_dget hr.u1 (we_v 0) we_str) (we_v 1)))
      (wss_one (ws_ret (we_v 3))))) wss_nil)
      (wss_cons (ws_set (i:=4) sc__law_pick.nd rfl (Or.inl rfl) (we_op op_mulB (we_op op_add (we_op op_add (we_op op_mod (we_dget hr.u1 (we_v 0) we_str) we_int) (we_op op_mulB (we_op op_mulB we_int (we_v 2)) (we_v 2))) we_int) we_int))
      (wss_cons (ws_set (i:=4) sc__law_pick.nd rfl (Or.inl rfl) (we_op op_mulB (we_op op_add (we_op op_mod (we_v 4) we_int) (we_op op_mulB we_int (we_v 2))) we_int))
      (wss_one (ws_ret (we_op op_mod (we_op op_fdivB (we_op op_mod (we_v 4) we_int) we_int) (we_v 1))))))))),?_⟩
    refine ⟨_,rfl,?_⟩
    refine dgS hp rfl ?_
    refine ⟨_,_,rfl,rfl,?_⟩
    refine ⟨_,rfl,_,rfl,?_⟩
    refine dpS (kvs2:=tpD c l (t+1)) hp (by show 3≤64; decide) rfl fun H1 hp1 s1=>?_
    refine ⟨_,rfl,?_⟩
    refine dgS hp1 rfl ?_
    refine ⟨_,_,rfl,rfl,_,rfl,?_⟩
    refine iteD (fun e0=>?_) (fun e0=>?_)
    · refine ⟨_,rfl,?_⟩
      refine dgS hp1 rfl ?_
      refine ⟨_,rfl,_,_,rfl,rfl,hm,?_⟩
      refine ⟨_,rfl,?_⟩
      refine dgS hp1 rfl ?_
      refine ⟨_,rfl,_,_,rfl,rfl,⟨hm,Nat.le_trans hb (by decide)⟩,?_⟩
      refine ⟨_,rfl,?_⟩
      refine dpS (kvs2:=tpD c (l / m) (t+1)) hp1 (by show 3≤64; decide) rfl fun H2 hp2 s2=>?_
      refine ⟨_,rfl,?_⟩
      exact k _ H2 (Int.emod_nonneg _ (by omega)) (Int.emod_lt_of_pos _ hm) ⟨c,l / m,t+1,hp2,Int.ediv_nonneg h0 (by omega),by omega,by omega⟩ (s1.trans s2)
    · have bt:bits (t+1)≤64:=PySem.intBits_le_64 (by omega) (by omega)
      refine ⟨_,rfl,?_⟩
      refine dgS hp1 rfl ?_
      have c0:=Int.emod_nonneg c (b:=2147483647) (by decide)
      have c1:=Int.emod_lt_of_pos c (b:=2147483647) (by decide)
      refine ⟨_,_,rfl,rfl,(by show (0:Int)<2147483647; decide),?_⟩
      refine ⟨_,rfl,_,_,rfl,rfl,IntMulOk.of_left (by decide +kernel),_,rfl,_,_,rfl,rfl,IntMulOk.of_right bt,_,_,rfl,rfl,_,_,rfl,rfl,_,_,rfl,rfl,IntMulOk.of_right (by decide +kernel),?_⟩
      generalize hz:(c % 2147483647+31*(t+1)*(t+1)+1)*48271=z
      refine ⟨_,rfl,_,_,rfl,rfl,(by show (0:Int)<2147483629; decide),_,rfl,_,_,rfl,rfl,IntMulOk.of_left (by decide +kernel),_,_,rfl,rfl,_,_,rfl,rfl,IntMulOk.of_right (by decide +kernel),?_⟩
      generalize hy:(z % 2147483629+7*(t+1))*69621=y
      refine ⟨_,rfl,_,_,rfl,rfl,(by show (0:Int)<2147483587; decide),_,_,rfl,rfl,⟨by decide,by decide +kernel⟩,_,rfl,_,_,rfl,rfl,hm,?_⟩
      exact k _ H1 (Int.emod_nonneg _ (by omega)) (Int.emod_lt_of_pos _ hm) ⟨c,l,t+1,hp1,h0,by omega,by omega⟩ s1
end
abbrev frD (f:Fr):PyData:=.tuple [.int f.1,.int f.2]
theorem frD_at {H:Hp} {f:Fr} {v:V} (h:Rep H (frD f) v):∃ a,v=.ref a∧H a=some (.tup [.int f.1,.int f.2]):=by
  unfold Rep RepL RepL RepL at h
  obtain ⟨a,_,rfl,h1,x,_,rfl,r1,y,_,rfl,r2,rfl⟩:=h
  cases (show x=V.int f.1 from r1)
  cases (show y=V.int f.2 from r2)
  exact ⟨a,rfl,h1⟩
theorem frD_of {H:Hp} {f:Fr} {a:Addr} (h:H a=some (.tup [.int f.1,.int f.2])):Rep H (frD f) (.ref a):=Rep.tup h (RepL.cons (Rep.int _) (RepL.cons (Rep.int _) RepL.nil))
theorem frD_flat (f:Fr):flatD (frD f)=true:=rfl
def FrV (K:PySem.W.Frag) (H:Hp) (f:Fr) (x:V):Prop:=∃ a,x=.ref a∧SqT K H a [.int f.1,.int f.2]
theorem FrV.of {K:PySem.W.Frag} {H:Hp} {f:Fr} {x:V} (h:Rep H (frD f) x):FrV K H f x:=by
  obtain ⟨a,e,h⟩:=frD_at h
  exact ⟨a,e,SqT.of h⟩
theorem FrV.new {K:PySem.W.Frag} {H:Hp} {f:Fr} {a:Addr} (h:H a=some (.tup [.int f.1,.int f.2])):FrV K H f (.ref a):=⟨a,rfl,SqT.of h⟩
def Szf (k:Nat) (f:Fr):Prop:=f.1.natAbs<2^k∧f.2.natAbs<2^k
@[irreducible] def sp_cd:Sp:=fun vs H Q _=>∃ n d:Int,vs=[.int n,.int d]∧0<d∧Q (.int (Int.gcd n d)) H
theorem sp_cd_i {H:Hp} {Q:VK} {E:XK} {n d:Int} (h:0<d) (q:Q (.int (Int.gcd n d)) H):sp_cd [.int n,.int d] H Q E:=by unfold sp_cd; exact ⟨n,d,rfl,h,q⟩
def NewF (H:Hp) (Q:VK) (f:Fr):Prop:=∀ q H',H q=none→H' q=some (.tup [.int f.1,.int f.2])→Same H H'→Q (.ref q) H'
@[irreducible] def sp_plus (K:PySem.W.Frag):Sp:=fun vs H Q _=>∃ x y f g,vs=[x,y]∧FrV K H f x∧FrV K H g y∧LowF f∧LowF g∧Szf 4000 f∧Szf 4000 g∧NewF H Q (addF f g)
theorem sp_plus_i {K:PySem.W.Frag} {H:Hp} {Q:VK} {E:XK} {x y:V} {f g:Fr} (h1:FrV K H f x) (h2:FrV K H g y) (l1:LowF f) (l2:LowF g) (z1:Szf 4000 f) (z2:Szf 4000 g) (q:NewF H Q (addF f g)):sp_plus K [x,y] H Q E:=by unfold sp_plus; exact ⟨x,y,f,g,rfl,h1,h2,l1,l2,z1,z2,q⟩
@[irreducible] def sp_less (K:PySem.W.Frag):Sp:=fun vs H Q _=>∃ x y f g,vs=[x,y]∧FrV K H f x∧FrV K H g y∧Szf 4000 f∧Szf 4000 g∧Q (.bl (decide (f.1*g.2<g.1*f.2))) H
theorem sp_less_i {K:PySem.W.Frag} {H:Hp} {Q:VK} {E:XK} {x y:V} {f g:Fr} (h1:FrV K H f x) (h2:FrV K H g y) (z1:Szf 4000 f) (z2:Szf 4000 g) (q:Q (.bl (decide (f.1*g.2<g.1*f.2))) H):sp_less K [x,y] H Q E:=by unfold sp_less; exact ⟨x,y,f,g,rfl,h1,h2,z1,z2,q⟩
theorem gcd_le {n d:Int} (h:0<d):(Int.gcd n d:Int)≤d:=Int.le_of_dvd h (Int.gcd_dvd_right n d)
theorem gcd_sz {n d:Int} {k:Nat} (h:0<d) (z:d.natAbs<2^k):(Int.gcd n d:Int).natAbs<2^k:=by
  have:=gcd_le (n:=n) h
  have:=gcd_pos (n:=n) h
  omega
theorem divOk {n d:Int} (h:0<d) (z:d.natAbs<2^9000):CDivB n d:=⟨h,bitsOf z⟩
theorem sz_mono {i:Int} {n m:Nat} (h:i.natAbs<2^n) (k:n≤m:=by decide):i.natAbs<2^m:=Nat.lt_of_lt_of_le h (Nat.pow_le_pow_right (by decide) k)
theorem sz_div {i j:Int} {n:Nat} (h:i.natAbs<2^n) (hj:0<j):(i / j).natAbs<2^n:=Nat.lt_of_le_of_lt (by
  have:=Int.natAbs_ediv_le_natAbs i j
  exact this) h
theorem sz_mul {i j:Int} {n m:Nat} (h1:i.natAbs<2^n) (h2:j.natAbs<2^m):(i*j).natAbs<2^(n+m):=by
  rw [Int.natAbs_mul,Nat.pow_add]
  exact Nat.mul_lt_mul'' h1 h2
abbrev shD (fs:List Fr):PyData:=.tuple (fs.map frD)
theorem frs_flat:∀ fs:List Fr,flatDs (fs.map frD)=true
  | []=>rfl
  | f::fs=>by show (flatD (frD f)&&flatDs (fs.map frD))=true; rw [frs_flat fs]; rfl
theorem shD_flat (fs:List Fr):flatD (shD fs)=true:=frs_flat fs
structure SyOk (n:Nat) (fs:List Fr):Prop where
  ex:∃ ns:List Int,ns.length=n∧(∀ x∈ns,0≤x∧x≤7)∧0<ns.sum∧fs=ns.map fun x=>lw x ns.sum
theorem sum_le7:∀ {ns:List Int},(∀ x∈ns,0≤x∧x≤7)→0≤ns.sum∧ns.sum≤7*(ns.length:Int)
  | [],_=>by simp
  | n::ns,h=>by
    have h1:=sum_le7 (ns:=ns) fun x hx=>h x (List.mem_cons_of_mem _ hx)
    have h2:=h n (List.mem_cons_self ..)
    rw [List.sum_cons,List.length_cons]
    omega
theorem sum_pos {ns:List Int} (h:∀ x∈ns,0≤x∧x≤7) {n:Int} (hn:n∈ns) (p:0<n):0<ns.sum:=by
  induction ns with
  | nil=>cases hn
  | cons a r ih =>
    have h1:=sum_le7 (ns:=r) fun x hx=>h x (List.mem_cons_of_mem _ hx)
    have h2:=h a (List.mem_cons_self ..)
    rw [List.sum_cons]
    rcases List.mem_cons.mp hn with rfl | hr
    · omega
    · have:=ih (fun x hx=>h x (List.mem_cons_of_mem _ hx)) hr
      omega
theorem SyOk.len {n:Nat} {fs:List Fr} (h:SyOk n fs):fs.length=n:=by
  obtain ⟨ns,h1,_,_,rfl⟩:=h.ex
  rw [List.length_map,h1]
theorem SyOk.zero {n:Nat} {fs:List Fr} (h:SyOk n fs):SyOk (1+n) ((0,1)::fs):=by
  obtain ⟨ns,h1,h2,h3,rfl⟩:=h.ex
  refine ⟨0::ns,by rw [List.length_cons]; omega,fun x hx=>?_,by rw [List.sum_cons]; omega,?_⟩
  · rcases List.mem_cons.mp hx with rfl | hx
    · omega
    · exact h2 x hx
  · rw [List.sum_cons,List.map_cons,Int.zero_add]
    have:lw 0 ns.sum=(0,1):=by
      unfold lw
      rw [Int.gcd_zero_left]
      have hn:((ns.sum.natAbs:Nat):Int)=ns.sum:=by omega
      rw [hn,Int.zero_ediv,Int.ediv_self (by omega)]
    rw [this]
def ind (p:Nat) (n:Nat):List Int:=(List.range n).map fun k:Nat=>if (k:Int)=(p:Int) then 1 else 0
theorem ind_len (p n:Nat):(ind p n).length=n:=by unfold ind; rw [List.length_map,List.length_range]
theorem ind_mem {p n:Nat}:∀ x∈ind p n,0≤x∧x≤1:=fun x hx=>by
  unfold ind at hx
  obtain ⟨k,_,rfl⟩:=List.mem_map.mp hx
  split <;> omega
theorem ind_sum (p:Nat):∀ n:Nat,(ind p n).sum=if p<n then 1 else 0
  | 0=>by simp [ind]
  | n+1=>by
    have ih:=ind_sum p n
    have e:ind p (n+1)=ind p n++[if (n:Int)=(p:Int) then 1 else 0]:=by
      unfold ind; rw [List.range_succ,List.map_append]; rfl
    rw [e,List.sum_append,ih,List.sum_singleton]
    by_cases h:p<n
    · rw [if_pos h,if_neg (by omega),if_pos (by omega)]; rfl
    · rw [if_neg h]
      by_cases h2:p=n
      · subst h2; rw [if_pos rfl,if_pos (by omega)]; rfl
      · rw [if_neg (by omega),if_neg (by omega)]; rfl
theorem lw_1 (x:Int):lw x 1=(x,1):=by
  unfold lw
  rw [Int.gcd_one_right]
  simp
theorem SyOk.one {p n:Nat} (h:p<n):SyOk n ((ind p n).map fun x=>(x,1)):=by
  have e:=ind_sum p n
  rw [if_pos h] at e
  refine ⟨ind p n,ind_len p n,fun x hx=>?_,by omega,?_⟩
  · have:=ind_mem x hx; omega
  · rw [e]; exact List.map_congr_left fun x _=>(lw_1 x).symm
@[irreducible] def sp_lfrac:Sp:=fun vs H Q _=>∃ n d:Int,vs=[.int n,.int d]∧0<d∧d.natAbs<2^9000∧NewF H Q (lw n d)
theorem sp_lfrac_i {H:Hp} {Q:VK} {E:XK} {n d:Int} (h:0<d) (z:d.natAbs<2^9000) (q:NewF H Q (lw n d)):sp_lfrac [.int n,.int d] H Q E:=by unfold sp_lfrac; exact ⟨n,d,rfl,h,z,q⟩
@[irreducible] def sp_shares:Sp:=fun vs H Q _=>∃ (p:Addr) (n m:Nat),vs=[.ref p,.int (m:Int)]∧TapeAt H p (n+8)∧0<m∧m≤5∧∀ v fs H',TapeAt H' p n→SameBut p H H'→Rep H' (shD fs) v→SyOk m fs→Q v H'
theorem sp_shares_i {H:Hp} {Q:VK} {E:XK} {p:Addr} {n m:Nat} (F:TapeAt H p (n+8)) (m0:0<m) (m5:m≤5) (k:∀ v fs H',TapeAt H' p n→SameBut p H H'→Rep H' (shD fs) v→SyOk m fs→Q v H'):sp_shares [.ref p,.int (m:Int)] H Q E:=by
  unfold sp_shares; exact ⟨p,n,m,rfl,F,m0,m5,k⟩
theorem repN {H:Hp} {Q:VK} {l:Addr} {z:V} {k:Nat} (h:H l=some (.lst [z])) (hk:k≤64) (q:∀ c H',H c=none→H' c=some (.lst (List.replicate k z))→Same H H'→Q (.ref c) H'):rRep (.ref l) (.int (k:Int)) H Q:=by
  refine ⟨l,k,[z],rfl,rfl,h,by omega,by omega,?_,fun p hp=>?_⟩
  · show 1*((k:Int)).toNat≤sizeLine
    rw [Nat.one_mul,Int.toNat_natCast]; exact small64 hk
  · rw [Int.toNat_natCast]
    have e:∀ k:Nat,(List.replicate k [z]).flatten=List.replicate k z:=fun k=>by
      induction k with
      | zero=>rfl
      | succ k ih=>rw [List.replicate_succ,List.flatten_cons,ih,List.replicate_succ]; rfl
    rw [e]
    exact q p _ hp upd_same (Same.upd hp)
theorem mem_setZ {k:Nat} {b:Nat} (hb:b<k):(∀ x∈(List.replicate k (0:Int)).set b 1,0≤x∧x≤7)∧0<((List.replicate k (0:Int)).set b 1).sum:=by
  have h1:∀ x∈(List.replicate k (0:Int)).set b 1,0≤x∧x≤7:=fun x hx=>by
    rcases List.mem_or_eq_of_mem_set hx with h | rfl
    · have:=List.eq_of_mem_replicate h; omega
    · omega
  exact ⟨h1,sum_pos h1 (n:=1) (List.mem_iff_getElem?.mpr ⟨b,by rw [List.getElem?_set_self (by simpa using hb)]⟩) (by decide)⟩
section
variable {P:Program} {w:World} {K:PySem.W.Frag} {mg:Str→Option Value} {base:Heap} {c:Cl}
theorem ok__law_frac {f:Addr} {fd:FuncData} (F:Fun K "_law_frac" "_law_frac" s__law_frac f fd) (T:Txt K mg c):FnOk P w K mg base CX0 1 f fd ["_law_n", "_law_d"] sp_lfrac:=by
  refine F.okw sc__law_frac (fun vs H Q E h=>?_) (fun cdv A outer s H vs Q E hr h=>?_)
  · unfold sp_lfrac at h
    obtain ⟨n,d,rfl,_⟩:=h
    rfl
  · unfold sp_lfrac at h
    obtain ⟨n,d,rfl,hd,hz,q⟩:=h
    refine ⟨_,(wss_cons (ws_set (i:=2) sc__law_frac.nd rfl (Or.inl rfl) (we_cB cl_abs (by rfl) T.b_abs (by decide +kernel) (wa_k (we_v 0) wa_nil)))
      (wss_cons (ws_set (i:=3) sc__law_frac.nd rfl (Or.inl rfl) (we_v 1))
      (wss_cons (ws_while PassesOwn.never (wt_cmp op_gt (we_v 3) we_int (nomark _)) (wss_one (ws_par (i:=2) (j:=3) rfl sc__law_frac.nd rfl rfl (by decide) rfl rfl (wa_k (we_v 3) (wa_k (we_op op_mod (we_v 2) (we_v 3)) wa_nil)) rfl)))
      (wss_one (ws_ret (we_tup (wa_k (we_op op_fdivB (we_v 0) (we_v 2)) (wa_k (we_op op_fdivB (we_v 1) (we_v 2)) wa_nil)))))))),?_⟩
    refine ⟨_,rfl,?_⟩
    refine raI ?_
    refine ⟨_,rfl,?_⟩
    refine while_r (fun m σ H'=>∃ (u v:Int),σ=[some (.int n),some (.int d),some (.int u),some (.int v)]∧0≤v∧Int.gcd u v=Int.gcd n d∧(v=0→0<u)∧H'=H∧m=v.toNat)
      (fun σ H'=>σ=[some (.int n),some (.int d),some (.int (Int.gcd n d)),some (.int 0)]∧H'=H)
      _ ⟨(n.natAbs:Int),d,rfl,by omega,by rw [Int.gcd_eq_natAbs_gcd_natAbs,Int.gcd_eq_natAbs_gcd_natAbs,Int.natAbs_natCast],by omega,rfl,rfl⟩ ?_ ?_
    · rintro m σ H2 ⟨u,v,rfl,hb,hg,h0,rfl,rfl⟩
      refine ⟨_,rfl,_,_,rfl,rfl,_,rfl,?_⟩
      refine iteD (fun e=>?_) (fun e=>?_)
      · refine ⟨_,rfl,_,rfl,_,rfl,_,_,rfl,rfl,e,_,_,rfl,?_⟩
        have e1:=Int.emod_lt_of_pos u e
        have e2:=Int.emod_nonneg u (b:=v) (by omega)
        exact ⟨_,by omega,v,u % v,rfl,e2,by rw [gcd_step,hg],fun _=>e,rfl,rfl⟩
      · have hb0:v=0:=by omega
        subst hb0
        have hu:=h0 rfl
        have e1:=gcd_end hu
        rw [hg] at e1
        rw [e1]
        exact ⟨rfl,rfl⟩
    · rintro σ H2 ⟨rfl,rfl⟩
      have hg:=gcd_pos (n:=n) hd
      have zg:CDivB n (Int.gcd n d:Int):=divOk hg (gcd_sz hd hz)
      refine ⟨_,rfl,_,rfl,_,_,rfl,rfl,zg,?_⟩
      refine ⟨_,rfl,_,rfl,_,_,rfl,rfl,zg,?_⟩
      refine nwT (by show 2≤64; decide) fun p H3 hp e3 s3=>?_
      exact q p H3 hp e3 s3
set_option maxHeartbeats 4000000 in
theorem ok__law_shares {f:Addr} {fd:FuncData} (F:Fun K "_law_shares" "_law_shares" s__law_shares f fd) (T:Txt K mg c)
    (F__law_pick:FnC CX0 P w K mg base 1 "_law_pick" ["_law_tape_here", "_law_many"] sp_pick) (F__law_frac:FnC CX0 P w K mg base 1 "_law_frac" ["_law_n", "_law_d"] sp_lfrac):FnOk P w K mg base CX0 2 f fd ["_law_tape_here", "_law_many"] sp_shares:=by
  refine F.okw sc__law_shares (fun vs H Q E h=>?_) (fun cdv A outer s H vs Q E hr h=>?_)
  · unfold sp_shares at h
    obtain ⟨p,n,m,rfl,_⟩:=h
    rfl
  · unfold sp_shares at h
    obtain ⟨p,n,m,rfl,F,m0,m5,k⟩:=h
    refine ⟨_,(wss_cons (ws_set (i:=2) sc__law_shares.nd rfl (Or.inr rfl) (we_comp (CScope.of (psc:=defScope s__law_shares) (N:=["_law_tape_here", "_law_many", "_law_parts"]) (N':=["_law_k", "_law_tape_here"]) (js:=[0]) (by decide +kernel) rfl rfl rfl) (wi_range1 rfl T.b_range (wa_k (we_v 1) wa_nil)) (fun _ _ _ _=>wts_nil) (fun _ _ _ _=>(we_ix (ix_seqK K) (we_lst (wa_k we_int (wa_k we_int (wa_k we_int (wa_k we_int (wa_k we_int (wa_k we_int wa_nil))))))) (we_fn F__law_pick (hr.mono (by decide)) (wa_k (we_v 1) (wa_k we_int wa_nil))) (fun _ _=>rfl)))))
      (wss_cons (ws_cut (ws_if (wt_mono (wt_w (ww_or (wt_cmp op_eq (we_cB (cl_sum rfl) (by rfl) T.b_sum (by decide +kernel) (wa_k (we_v 2) wa_nil)) we_int (nomark _)) (ww_or1 (wt_cmp op_eq (we_fn F__law_pick (hr.mono (by decide)) (wa_k (we_v 0) (wa_k we_int wa_nil))) we_int (nomark _)))))) (wss_cons (ws_set (i:=2) sc__law_shares.nd rfl (Or.inr rfl) (we_op op_rep (we_lst (wa_k we_int wa_nil)) (we_v 1)))
      (wss_one (ws_asg we_int (wg_sub (we_v 2) (we_fn F__law_pick (hr.mono (by decide)) (wa_k (we_v 0) (wa_k (we_v 1) wa_nil))) set_list)))) wss_nil))
      (wss_one (ws_ret (we_cT call_tuple_of (by rfl) T.b_tuple (by decide +kernel) (wa_k (we_comp (CScope.of (psc:=defScope s__law_shares) (N:=["_law_tape_here", "_law_many", "_law_parts"]) (N':=["_law_part", "_law_parts"]) (js:=[2]) (by decide +kernel) rfl rfl rfl) (wi_list (we_v 2)) (fun _ _ _ _=>wts_nil) (fun _ _ _ _=>(we_fn F__law_frac (hr.mono (by decide)) (wa_k (we_v 0) (wa_k (we_cB (cl_sumK K rfl) (by rfl) T.b_sum (by decide +kernel) (wa_k (we_v 1) wa_nil)) wa_nil))))) wa_nil)))))),?_⟩
    refine ⟨_,rfl,_,rfl,by omega,by omega,?_⟩
    refine comp_tpR (TapeAt.like (n:=n) fun i=>n+8 - i) F (fun _ y _=>∃ x,y=.int x∧0≤x∧x≤7) (fun _ _ _ _ _ h=>h) (by omega) (fun i H' Q' hi F' s' k'=>?_) (fun D ys H1 hD hD1 F1 s1 hy hr1=>?_)
    · refine nwL (by show 6≤64; decide) fun q1 H2 hq1 e1 s1=>?_
      refine ⟨_,rfl,?_⟩
      refine sp_pick_i (n:=n+8 - (i+1)) ((F'.same s1).less (by omega)) (by decide) (by decide +kernel) fun x H3 x0 x1 F3 s3=>?_
      obtain ⟨v,hat,hmem,_⟩:=atI_mem (xs:=[V.int 0,V.int 1,V.int 1,V.int 2,V.int 3,V.int 7]) x0 x1
      refine ixL (s3.at (F'.ne hq1) e1) hat ?_
      refine k' _ H3 F3 (s1.but.trans s3) ?_
      simp only [List.mem_cons,List.not_mem_nil,or_false] at hmem
      rcases hmem with rfl | rfl | rfl | rfl | rfl | rfl <;> exact ⟨_,rfl,by decide,by decide⟩
    · obtain ⟨ns,rfl,hn⟩:=ints_of (P:=fun _ x=>0≤x∧x≤7) hr1
      rw [List.length_map] at hy
      have npD:=F.ne hD
      have hn':∀ x∈ns,0≤x∧x≤7:=fun x hx=>by
        obtain ⟨i,hi⟩:=List.mem_iff_getElem?.mp hx
        exact hn i x hi
      refine ⟨fun σ H3=>∃ (D:Addr) (ns:List Int),σ=[some (.ref p),some (.int (m:Int)),some (.ref D)]∧H3 D=some (.lst (ns.map V.int))∧ns.length=m∧(∀ x∈ns,0≤x∧x≤7)∧0<ns.sum∧TapeAt H3 p n∧SameBut p H H3,?_,?_⟩
      · clear hD hD1 hr1 hn hn' hy npD F1 s1
        rintro σ H3 ⟨D,ns,rfl,hD3,hl,hn,hS,F3,s3⟩
        refine ⟨_,rfl,D,rfl,⟨_,SqL.of hD3⟩,?_⟩
        have h35:=sum_le7 hn
        refine comp_mapL (fun i y H'=>∃ n,ns[i]?=some n∧Rep H' (frD (lw n ns.sum)) y) (fun i y H1 H2 s ⟨n,h1,h2⟩=>⟨n,h1,h2.flat s (frD_flat _)⟩) (by rw [List.length_map]; omega) hD3 (fun i x H' Q' hx s' k'=>?_) (fun D3 ys H8 hD3' hD8 s8 hy8 hr8=>?_)
        · rw [List.getElem?_map] at hx
          obtain ⟨n',hn',rfl⟩:=(show ∃ n,ns[i]?=some n∧V.int n=x by
            cases q:ns[i]? with
            | none=>rw [q] at hx; cases hx
            | some n=>rw [q] at hx; cases hx; exact ⟨n,rfl,rfl⟩)
          refine ⟨_,rfl,_,rfl,?_⟩
          refine rsI (SqL.of (s' _ _ hD3)) ?_
          refine sp_lfrac_i hS (Nat.lt_of_lt_of_le (show ns.sum.natAbs<2^10 by show ns.sum.natAbs<1024; omega) (Nat.pow_le_pow_right (by decide) (by decide))) ?_
          intro q9 H9 hq9 e9 s9
          exact k' _ H9 s9 ⟨n',hn',frD_of e9⟩
        · refine ⟨D3,ys,rfl,.inl ⟨SqL.of hD8,fun l hl'=>?_⟩⟩
          have sl:=Same.upd (o:=.tup ys) hl'
          have el:(upd H8 l (.tup ys)) l=some (.tup ys):=upd_same
          generalize upd H8 l (.tup ys)=H9 at sl el
          refine k _ (ns.map fun n=>lw n ns.sum) H9 ((F3.same s8).same sl) (s3.trans (s8.trans sl).but) (Rep.tup el ?_) ⟨ns,hl,hn,hS,rfl⟩
          refine RepL.ofIdx (by rw [hy8,List.length_map,List.length_map,List.length_map]) fun i y hi=>?_
          obtain ⟨n,h1,h2⟩:=hr8 i y hi
          exact ⟨frD (lw n ns.sum),by rw [List.getElem?_map,List.getElem?_map,h1]; rfl,h2.same sl⟩
      · refine ⟨fun b H4=>TapeAt H4 p (n+1)∧SameBut p H H4∧H4 D=some (.lst (ns.map V.int))∧(b=false→0<ns.sum),?_,?_⟩
        · refine ⟨_,rfl,?_⟩
          refine rsI (SqL.of hD1) ?_
          refine ⟨rfl,_,rfl,?_⟩
          refine iteD (fun e0=>?_) (fun e0=>?_)
          · exact ⟨F1.less (by omega),s1,hD1,fun h=>by cases h⟩
          · refine ⟨_,rfl,?_⟩
            refine sp_pick_i (n:=n+1) (F1.less (by omega)) (by decide) (by decide +kernel) fun x H2 x0 x1 F2 s2=>?_
            refine ⟨rfl,_,rfl,F2,s1.trans s2,s2.at npD hD1,fun _=>?_⟩
            have:=(sum_le7 hn').1
            have:ns.sum≠0:=fun h=>e0 (congrArg V.int h)
            omega
        · rintro b H2 ⟨F2,s2,hD2,hS⟩
          cases b with
          | false=>exact iteF ⟨D,ns,rfl,hD2,by omega,hn',hS rfl,F2.less (by omega),s2⟩
          | true =>
            refine iteT ?_
            refine nwL (by show 1≤64; decide) fun q1 H3 hq1 e1 s3=>?_
            refine ⟨_,rfl,?_⟩
            refine repN e1 (by omega) fun q2 H4 hq2 e2 s4=>?_
            have F4:=(F2.same s3).same s4
            have n2:q2≠p:=(F2.same s3).ne hq2
            refine ⟨_,rfl,_,rfl,_,rfl,?_⟩
            refine sp_pick_i F4 (by omega) (bitsle (Nat.lt_of_le_of_lt (show ((m:Int)).natAbs≤5 by omega) (by decide))) fun x H5 x0 x1 F5 s5=>?_
            obtain ⟨b,rfl⟩:∃ b:Nat,x=(b:Int):=⟨x.toNat,by omega⟩
            have hD5:=s5.at n2 e2
            have hj:ixN (List.replicate m (V.int 0)).length (b:Int)=some b:=by
              unfold ixN
              rw [if_pos x0,if_pos (by rw [List.length_replicate]; omega)]; rfl
            refine stG hD5 hj fun H6 e6 s6=>?_
            have e7:(List.replicate m (V.int 0)).set b (V.int 1)=(((List.replicate m (0:Int)).set b 1).map V.int):=by
              rw [List.map_set,List.map_replicate]
            have hm:=mem_setZ (k:=m) (b:=b) (by omega)
            have h2:H q2=none:=SameBut.free s2 F2.there (s3.free hq2)
            exact ⟨q2,(List.replicate m (0:Int)).set b 1,rfl,by rw [e6,e7],by rw [List.length_set,List.length_replicate],hm.1,hm.2,F5.but s6 n2,
              SameBut.thru h2 ((s2.trans (s3.trans s4).but).trans s5) s6⟩
end
@[irreducible] def sp_says:Sp:=fun vs H Q _=>∃ (p:Addr) (n W:Nat) (st pl:Bool),vs=[.ref p,.int (W:Int),.bl st,.bl pl]∧TapeAt H p (n+16)∧2≤W∧W≤4∧∀ v fs H',TapeAt H' p n→SameBut p H H'→Rep H' (shD fs) v→SyOk (1+W) fs→(st=true→fs.head?=some (0,1))→Q v H'
theorem sp_says_i {H:Hp} {Q:VK} {E:XK} {p:Addr} {n W:Nat} {st pl:Bool} (F:TapeAt H p (n+16)) (h2:2≤W) (h4:W≤4) (k:∀ v fs H',TapeAt H' p n→SameBut p H H'→Rep H' (shD fs) v→SyOk (1+W) fs→(st=true→fs.head?=some (0,1))→Q v H'):sp_says [.ref p,.int (W:Int),.bl st,.bl pl] H Q E:=by
  unfold sp_says; exact ⟨p,n,W,st,pl,rfl,F,h2,h4,k⟩
theorem ind_head {p n:Nat} (hp:0<p):((ind p (1+n)).map fun x=>((x,1):Fr)).head?=some (0,1):=by
  unfold ind
  rw [Nat.add_comm,List.range_succ_eq_map,List.map_cons,List.map_cons,List.head?_cons,if_neg (by omega)]
theorem ind_at {p n i:Nat} (h:i<n):(ind p n)[i]?=some (if (i:Int)=(p:Int) then 1 else 0):=by
  unfold ind
  rw [List.getElem?_map,List.getElem?_range h]; rfl
abbrev ctD (cs:List Int):PyData:=.tuple (cs.map .int)
theorem ints_flat:∀ fs:List Int,flatDs (fs.map PyData.int)=true
  | []=>rfl
  | f::fs=>by show (flatD (.int f)&&flatDs (fs.map PyData.int))=true; rw [ints_flat fs]; rfl
theorem ctD_flat (cs:List Int):flatD (ctD cs)=true:=ints_flat cs
theorem RepL_ints {H:Hp}:∀ {ns:List Int} {vs:List V},RepL H (ns.map PyData.int) vs→vs=ns.map V.int
  | [],vs,h=>by unfold RepL at h; exact h
  | n::ns,vs,h=>by
    unfold RepL at h
    obtain ⟨x,xs,rfl,h1,h2⟩:=h
    cases (show x=V.int n from h1)
    rw [RepL_ints h2]; rfl
theorem ctD_at {H:Hp} {cs:List Int} {v:V} (h:Rep H (ctD cs) v):∃ a,v=.ref a∧H a=some (.tup (cs.map V.int)):=by
  unfold Rep at h
  obtain ⟨a,xs,rfl,h1,h2⟩:=h
  cases RepL_ints h2
  exact ⟨a,rfl,h1⟩
theorem RepL.ofInts {H:Hp}:∀ ns:List Int,RepL H (ns.map PyData.int) (ns.map V.int)
  | []=>RepL.nil
  | n::ns=>RepL.cons (Rep.int _) (RepL.ofInts ns)
theorem ctD_of {H:Hp} {cs:List Int} {a:Addr} (h:H a=some (.tup (cs.map V.int))):Rep H (ctD cs) (.ref a):=Rep.tup h (RepL.ofInts cs)
structure SzOk (F W M:Nat):Prop where
  w:2≤W∧W≤4
  f:F=2∧M≤4∨F=3∧M≤3∨F=4∧M≤2
@[irreducible] def sp_sizes:Sp:=fun vs H Q _=>∃ (p:Addr) (n:Nat),vs=[.ref p]∧TapeAt H p (n+3)∧∀ q F W M H',SzOk F W M→TapeAt H' p n→SameBut p H H'→H' q=some (.tup [.int (F:Nat),.int (W:Nat),.int (M:Nat)])→Q (.ref q) H'
theorem sp_sizes_i {H:Hp} {Q:VK} {E:XK} {p:Addr} {n:Nat} (F:TapeAt H p (n+3)) (k:∀ q F W M H',SzOk F W M→TapeAt H' p n→SameBut p H H'→H' q=some (.tup [.int (F:Nat),.int (W:Nat),.int (M:Nat)])→Q (.ref q) H'):sp_sizes [.ref p] H Q E:=by
  unfold sp_sizes; exact ⟨p,n,rfl,F,k⟩
section
variable {P:Program} {w:World} {K:PySem.W.Frag} {mg:Str→Option Value} {base:Heap} {c:Cl}
set_option maxHeartbeats 4000000 in
theorem ok__law_says {f:Addr} {fd:FuncData} (F:Fun K "_law_says" "_law_says" s__law_says f fd) (T:Txt K mg c)
    (F__law_pick:FnC CX0 P w K mg base 1 "_law_pick" ["_law_tape_here", "_law_many"] sp_pick) (F__law_shares:FnC CX0 P w K mg base 2 "_law_shares" ["_law_tape_here", "_law_many"] sp_shares):FnOk P w K mg base CX0 3 f fd ["_law_tape_here", "_law_ways", "_law_stops", "_law_plain"] sp_says:=by
  refine F.okw sc__law_says (fun vs H Q E h=>?_) (fun cdv A outer s H vs Q E hr h=>?_)
  · unfold sp_says at h
    obtain ⟨p,n,W,st,pl,rfl,_⟩:=h
    rfl
  · unfold sp_says at h
    obtain ⟨p,n,W,st,pl,rfl,F,W2,W4,k⟩:=h
    refine ⟨_,(wss_cons (ws_if (wt_mono (wt_w (ww_or (wt_val (we_v 3)) (ww_or1 (wt_cmp op_eq (we_fn F__law_pick (hr.mono (by decide)) (wa_k (we_v 0) (wa_k we_int wa_nil))) we_int (nomark _)))))) (wss_cons (ws_set (i:=4) sc__law_says.nd rfl (Or.inr rfl) (we_op op_add we_int (we_fn F__law_pick (hr.mono (by decide)) (wa_k (we_v 0) (wa_k (we_v 1) wa_nil)))))
      (wss_cons (ws_cut (ws_if (wt_mono (wt_w (ww_and (wt_not (wt_val (we_v 2))) (ww_and1 (wt_cmp op_gt (we_fn F__law_pick (hr.mono (by decide)) (wa_k (we_v 0) (wa_k we_int wa_nil))) we_int (nomark _)))))) (wss_one (ws_set (i:=4) sc__law_says.nd rfl (Or.inr rfl) we_int)) wss_nil))
      (wss_one (ws_ret (we_cT call_tuple_of (by rfl) T.b_tuple (by decide +kernel) (wa_k (we_comp (CScope.of (psc:=defScope s__law_says) (N:=["_law_tape_here", "_law_ways", "_law_stops", "_law_plain", "_law_place"]) (N':=["_law_k", "_law_place"]) (js:=[4]) (by decide +kernel) rfl rfl rfl) (wi_range1 rfl T.b_range (wa_k (we_op op_add we_int (we_v 1)) wa_nil)) (fun _ _ _ _=>wts_nil) (fun _ _ _ _=>(we_tup (wa_k (we_cT call_int1 (by rfl) T.b_int (by decide +kernel) (wa_k (we_cmp op_eq (we_v 0) (we_v 1) (nomark _)) wa_nil)) (wa_k we_int wa_nil))))) wa_nil)))))) wss_nil)
      (wss_cons (ws_if (wt_val (we_v 2)) (wss_one (ws_ret (we_op (op_catU K) (we_tup (wa_k (we_tup (wa_k we_int (wa_k we_int wa_nil))) wa_nil)) (we_fn F__law_shares (hr.mono (by decide)) (wa_k (we_v 0) (wa_k (we_v 1) wa_nil)))))) wss_nil)
      (wss_one (ws_ret (we_fn F__law_shares (hr.mono (by decide)) (wa_k (we_v 0) (wa_k (we_op op_add we_int (we_v 1)) wa_nil))))))),?_⟩
    refine ⟨fun b H1=>TapeAt H1 p (n+15)∧SameBut p H H1,?_,?_⟩
    · refine ⟨_,rfl,_,rfl,?_⟩
      cases pl with
      | true=>exact iteT ⟨F.less (by omega),(Same.refl _).but⟩
      | false =>
        refine iteF ?_
        refine ⟨_,rfl,?_⟩
        refine sp_pick_i (n:=n+15) F (by decide) (by decide +kernel) fun x H2 x0 x1 F2 s2=>?_
        exact ⟨rfl,_,rfl,F2,s2⟩
    · rintro b H1 ⟨F1,s1⟩
      cases b with
      | true =>
        refine iteT ?_
        refine ⟨_,rfl,_,rfl,?_⟩
        refine sp_pick_i (n:=n+14) F1 (by omega) (bitsle (Nat.lt_of_le_of_lt (show ((W:Int)).natAbs≤5 by omega) (by decide))) fun x H2 x0 x1 F2 s2=>?_
        refine ⟨_,_,rfl,rfl,?_⟩
        refine ⟨fun σ H3=>∃ a:Nat,σ=[some (.ref p),some (.int (W:Int)),some (.bl st),some (.bl pl),some (.int (a:Int))]∧a<1+W∧(st=true→0<a)∧TapeAt H3 p n∧SameBut p H H3,?_,?_⟩
        · rintro σ H3 ⟨a,rfl,ha,hs,F3,s3⟩
          refine ⟨_,rfl,_,_,rfl,rfl,_,rfl,by omega,by omega,?_⟩
          refine comp_mapR (fun i y H'=>∃ z,(ind a (1+W))[i]?=some z∧Rep H' (frD (z,1)) y) (fun i y H1 H2 s ⟨z,h1,h2⟩=>⟨z,h1,h2.flat s (frD_flat _)⟩) (by omega) (fun i H' Q' hi s' k'=>?_) (fun D ys H4 hD hD4 s4 hy4 hr4=>?_)
          · refine ⟨_,rfl,_,rfl,rfl,?_⟩
            refine .inr ⟨_,rfl,?_⟩
            refine nwT (by show 2≤64; decide) fun q5 H5 hq5 e5 s5=>?_
            refine k' _ H5 s5 ⟨_,ind_at (by omega),?_⟩
            refine frD_of (f:=(if (i:Int)=(a:Int) then 1 else 0,1)) ?_
            rw [e5,Int.zero_add]
            by_cases h:(i:Int)=(a:Int)
            · rw [if_pos h,if_pos (decide_eq_true (congrArg V.int h))]
            · rw [if_neg h,if_neg (by rw [decide_eq_true_eq]; exact fun z=>h (by injection z))]
          · refine ⟨D,ys,rfl,.inl ⟨SqL.of hD4,fun l hl=>?_⟩⟩
            have sl:=Same.upd (o:=.tup ys) hl
            have el:(upd H4 l (.tup ys)) l=some (.tup ys):=upd_same
            generalize upd H4 l (.tup ys)=H5 at sl el
            refine k _ ((ind a (1+W)).map fun x=>(x,1)) H5 ((F3.same s4).same sl) (s3.trans (s4.trans sl).but) (Rep.tup el ?_) (SyOk.one ha) (fun h=>ind_head (hs h))
            refine RepL.ofIdx (by rw [hy4,List.length_map,List.length_map,ind_len]; omega) fun i y hi=>?_
            obtain ⟨n,h1,h2⟩:=hr4 i y hi
            exact ⟨frD (n,1),by rw [List.getElem?_map,List.getElem?_map,h1]; rfl,h2.same sl⟩
        · refine ⟨fun b H3=>TapeAt H3 p n∧SameBut p H H3∧(b=true→st=false),?_,?_⟩
          · refine ⟨_,rfl,_,rfl,?_⟩
            cases st with
            | true=>exact iteF ⟨F2.less (by omega),s1.trans s2,fun h=>by cases h⟩
            | false =>
              refine iteT ?_
              refine ⟨_,rfl,?_⟩
              refine sp_pick_i (n:=n) (F2.less (by omega)) (by decide) (by decide +kernel) fun y H3 y0 y1 F3 s3=>?_
              exact ⟨_,_,rfl,rfl,_,rfl,F3,(s1.trans s2).trans s3,fun _=>rfl⟩
          · rintro b H3 ⟨F3,s3,hb⟩
            cases b with
            | true =>
              refine iteT ?_
              exact ⟨0,rfl,by omega,(fun h=>by rw [hb rfl] at h; cases h),F3,s3⟩
            | false =>
              refine iteF ?_
              exact ⟨(1+x).toNat,by rw [show (((1+x).toNat:Nat):Int)=1+x by omega]; rfl,by omega,fun _=>by omega,F3,s3⟩
      | false =>
        refine iteF ?_
        refine ⟨_,rfl,_,rfl,?_⟩
        cases st with
        | true =>
          refine iteT ?_
          refine nwT (by show 2≤64; decide) fun q2 H2 hq2 e2 s2=>?_
          refine nwT (by show 1≤64; decide) fun q3 H3 hq3 e3 s3=>?_
          refine ⟨_,rfl,_,rfl,?_⟩
          have n3:q3≠p:=(F1.same s2).ne hq3
          have n2:q2≠p:=F1.ne hq2
          refine sp_shares_i (n:=n) (m:=W) (((F1.same s2).same s3).less (by omega)) (by omega) (by omega) fun v fs H4 F4 s4 r4 ok4=>?_
          obtain ⟨a,xs,rfl,ha,rxs⟩:=(by unfold Rep at r4; exact r4)
          have e4:=s4.at n3 e3
          have e5:=s4.at n2 (s3 _ _ e2)
          refine catU e4 ha (by rw [show ([V.ref q2]:List V).length=1 from rfl,rxs.len,List.length_map,ok4.len]; omega) fun c H5 s5 e6=>?_
          refine k _ ((0,1)::fs) H5 (F4.same s5) (((s1.trans (s2.trans s3).but).trans s4).trans s5.but) (Rep.tup e6 (RepL.cons (frD_of (f:=(0,1)) (s5 _ _ e5)) (rxs.same s5))) ok4.zero (fun _=>rfl)
        | false =>
          refine iteF ?_
          refine ⟨_,rfl,_,rfl,_,_,rfl,rfl,?_⟩
          have e1:(1+(W:Int))=((1+W:Nat):Int):=by omega
          show sp_shares [.ref p,.int (1+(W:Int))] _ _ _
          rw [e1]
          refine sp_shares_i (n:=n) (m:=1+W) (F1.less (by omega)) (by omega) (by omega) fun v fs H4 F4 s4 r4 ok4=>?_
          exact k v fs H4 F4 (s1.trans s4) r4 ok4 (fun h=>by cases h)
set_option maxHeartbeats 4000000 in
theorem ok__law_sizes {f:Addr} {fd:FuncData} (F:Fun K "_law_sizes" "_law_sizes" s__law_sizes f fd) (T:Txt K mg c)
    (F__law_pick:FnC CX0 P w K mg base 1 "_law_pick" ["_law_tape_here", "_law_many"] sp_pick):FnOk P w K mg base CX0 2 f fd ["_law_tape_here"] sp_sizes:=by
  refine F.okw sc__law_sizes (fun vs H Q E h=>?_) (fun cdv A outer s H vs Q E hr h=>?_)
  · unfold sp_sizes at h
    obtain ⟨p,n,rfl,_⟩:=h
    rfl
  · unfold sp_sizes at h
    obtain ⟨p,n,rfl,F,k⟩:=h
    refine ⟨_,(wss_cons (ws_set (i:=1) sc__law_sizes.nd rfl (Or.inl rfl) (we_ix ix_seq (we_lst (wa_k we_int (wa_k we_int (wa_k we_int (wa_k we_int (wa_k we_int (wa_k we_int wa_nil))))))) (we_fn F__law_pick (hr.mono (by decide)) (wa_k (we_v 0) (wa_k we_int wa_nil))) (fun _ _=>rfl)))
      (wss_cons (ws_set (i:=2) sc__law_sizes.nd rfl (Or.inl rfl) (we_ix ix_seq (we_ix ix_seq (we_lst (wa_k (we_lst (wa_k we_int (wa_k we_int (wa_k we_int (wa_k we_int (wa_k we_int (wa_k we_int wa_nil))))))) (wa_k (we_lst (wa_k we_int (wa_k we_int (wa_k we_int (wa_k we_int (wa_k we_int (wa_k we_int wa_nil))))))) (wa_k (we_lst (wa_k we_int (wa_k we_int (wa_k we_int (wa_k we_int (wa_k we_int (wa_k we_int wa_nil))))))) wa_nil)))) (we_op op_sub (we_v 1) we_int) (fun _ _=>rfl)) (we_fn F__law_pick (hr.mono (by decide)) (wa_k (we_v 0) (wa_k we_int wa_nil))) (fun _ _=>rfl)))
      (wss_one (ws_ret (we_tup (wa_k (we_v 1) (wa_k (we_ix ix_seq (we_lst (wa_k we_int (wa_k we_int (wa_k we_int (wa_k we_int wa_nil))))) (we_fn F__law_pick (hr.mono (by decide)) (wa_k (we_v 0) (wa_k we_int wa_nil))) (fun _ _=>rfl)) (wa_k (we_v 2) wa_nil)))))))),?_⟩
    refine nwL (by show 6≤64; decide) fun q1 H1 hq1 e1 s1=>?_
    refine ⟨_,rfl,?_⟩
    refine sp_pick_i (n:=n+2) (F.same s1) (by decide) (by decide +kernel) fun x H2 x0 x1 F2 s2=>?_
    obtain ⟨v,hat,hmem,_⟩:=atI_mem (xs:=[V.int 2,V.int 2,V.int 2,V.int 3,V.int 3,V.int 4]) x0 x1
    refine ixL (s2.at (F.ne hq1) e1) hat ?_
    have S2:SameBut p H H2:=s1.but.trans s2
    have hv:∃ nF:Nat,v=.int (nF:Int)∧(nF=2∨nF=3∨nF=4):=by
      simp only [List.mem_cons,List.not_mem_nil,or_false] at hmem
      rcases hmem with rfl | rfl | rfl | rfl | rfl | rfl
      · exact ⟨2,rfl,by decide⟩
      · exact ⟨2,rfl,by decide⟩
      · exact ⟨2,rfl,by decide⟩
      · exact ⟨3,rfl,by decide⟩
      · exact ⟨3,rfl,by decide⟩
      · exact ⟨4,rfl,by decide⟩
    obtain ⟨nF,rfl,hF⟩:=hv
    clear hat hmem e1 hq1 s1 s2
    refine nwL (by show 6≤64; decide) fun q2 H3 hq2 e2 s3=>?_
    refine nwL (by show 6≤64; decide) fun q3 H4 hq3 e3 s4=>?_
    refine nwL (by show 6≤64; decide) fun q4 H5 hq4 e4 s5=>?_
    refine nwL (by show 3≤64; decide) fun q5 H6 hq5 e5 s6=>?_
    refine ⟨_,rfl,_,_,rfl,rfl,?_⟩
    have F6:=(((F2.same s3).same s4).same s5).same s6
    have S6:SameBut p H H6:=S2.trans (((s3.trans s4).trans s5).trans s6).but
    have g2:=s6 _ _ (s5 _ _ (s4 _ _ e2))
    have g3:=s6 _ _ (s5 _ _ e3)
    have g4:=s6 _ _ e4
    have hrow:∃ (qq:Addr) (ms:List Int),atI [V.ref q2,V.ref q3,V.ref q4] ((nF:Int) - 2)=some (.ref qq)∧H6 qq=some (.lst (ms.map V.int))∧ms.length=6∧∀ m∈ms,∃ M:Nat,m=(M:Int)∧(nF=2∧M≤4∨nF=3∧M≤3∨nF=4∧M≤2):=by
      rcases hF with rfl | rfl | rfl
      · refine ⟨q2,[1,2,3,4,0,3],rfl,g2,rfl,fun m hm=>⟨m.toNat,?_⟩⟩
        simp only [List.mem_cons,List.not_mem_nil,or_false] at hm
        omega
      · refine ⟨q3,[1,2,3,2,0,2],rfl,g3,rfl,fun m hm=>⟨m.toNat,?_⟩⟩
        simp only [List.mem_cons,List.not_mem_nil,or_false] at hm
        omega
      · refine ⟨q4,[1,2,2,1,0,2],rfl,g4,rfl,fun m hm=>⟨m.toNat,?_⟩⟩
        simp only [List.mem_cons,List.not_mem_nil,or_false] at hm
        omega
    obtain ⟨qq,ms,hat,hqq,hms,hall⟩:=hrow
    refine ixL e5 hat ?_
    refine ⟨_,rfl,?_⟩
    refine sp_pick_i (n:=n+1) F6 (by decide) (by decide +kernel) fun y H7 y0 y1 F7 s7=>?_
    obtain ⟨m,hm⟩:∃ m,ms[y.toNat]?=some m:=⟨_,List.getElem?_eq_getElem (by omega)⟩
    have hat2:atI (ms.map V.int) y=some (.int m):=by
      have:=atI_nat (xs:=ms.map V.int) (j:=y.toNat) (v:=V.int m) (by rw [List.getElem?_map,hm]; rfl)
      rwa [Int.toNat_of_nonneg y0] at this
    obtain ⟨M,rfl,hM⟩:=hall m (List.mem_iff_getElem?.mpr ⟨_,hm⟩)
    refine ixL (s7.at (F6.neL hqq) hqq) hat2 ?_
    refine ⟨_,rfl,?_⟩
    refine nwL (by show 4≤64; decide) fun q8 H8 hq8 e8 s8=>?_
    refine ⟨_,rfl,?_⟩
    refine sp_pick_i (n:=n) (F7.same s8) (by decide) (by decide +kernel) fun z H9 z0 z1 F9 s9=>?_
    obtain ⟨v,hat3,hmem3,_⟩:=atI_mem (xs:=[V.int 2,V.int 2,V.int 3,V.int 4]) z0 z1
    refine ixL (s9.at (F7.ne hq8) e8) hat3 ?_
    have hv:∃ nW:Nat,v=.int (nW:Int)∧(2≤nW∧nW≤4):=by
      simp only [List.mem_cons,List.not_mem_nil,or_false] at hmem3
      rcases hmem3 with rfl | rfl | rfl | rfl
      · exact ⟨2,rfl,by decide⟩
      · exact ⟨2,rfl,by decide⟩
      · exact ⟨3,rfl,by decide⟩
      · exact ⟨4,rfl,by decide⟩
    obtain ⟨nW,rfl,hW⟩:=hv
    refine ⟨_,rfl,?_⟩
    refine nwT (by show 3≤64; decide) fun q10 H10 hq10 e10 s10=>?_
    exact k q10 nF nW M H10 ⟨hW,hM⟩ (F9.same s10) ((((S6.trans s7).trans s8.but).trans s9).trans s10.but) e10
end
def bump (cs:List Int) (i:Nat):List Int:=cs.take i++[cs.getD i 0+1]++cs.drop (i+1)
def nexts (cs:List Int) (f:Fr):List (List Int):=if f=(0,1) then [] else (List.range cs.length).map (bump cs)
theorem RepL.atX {H:Hp} {α:Type} {g:α→PyData} {as:List α} {xs:List V} (r:RepL H (as.map g) xs) {i:Nat} {a:α} (h:as[i]?=some a):∃ x,xs[i]?=some x∧Rep H (g a) x:=by
  induction as generalizing xs i with
  | nil=>simp at h
  | cons b as ih =>
    rw [List.map_cons] at r
    unfold RepL at r
    obtain ⟨x,xs',rfl,r1,r2⟩:=r
    cases i with
    | zero=>cases (show b=a by simpa using h); exact ⟨x,rfl,r1⟩
    | succ i=>exact ih r2 (by simpa using h)
theorem shD_at {H:Hp} {fs:List Fr} {v:V} (h:Rep H (shD fs) v):∃ a xs,v=.ref a∧H a=some (.tup xs)∧RepL H (fs.map frD) xs:=by
  unfold Rep at h; exact h
theorem slA_loE {K:PySem.W.Frag} {H:Hp} {a:Addr} {xs:List V} {k:Nat} {z:Int} {Q:VK} (hz:z=(k:Int)) (h:H a=some (.tup xs)) (q:∀ c H',Same H H'→H' c=some (.tup (xs.drop k))→Q (.ref c) H'):rSlA K (.ref a) (some z) none H Q:=by
  subst hz; exact slA_lo h q
@[irreducible] def sp_next:Sp:=fun vs H Q _=>∃ (x y:V) (cs:List Int) (f:Fr) (fs:List Fr),vs=[x,y]∧Rep H (ctD cs) x∧Rep H (shD (f::fs)) y∧cs.length≤4∧fs.length≤4 ∧
  ∀ D ys H',H D=none→H' D=some (.lst ys)→RepL H' ((nexts cs f).map ctD) ys→Same H H'→Q (.ref D) H'
theorem sp_next_i {H:Hp} {Q:VK} {E:XK} {x y:V} {cs:List Int} {f:Fr} {fs:List Fr} (h1:Rep H (ctD cs) x) (h2:Rep H (shD (f::fs)) y) (h3:cs.length≤4) (h4:fs.length≤4)
    (k:∀ D ys H',H D=none→H' D=some (.lst ys)→RepL H' ((nexts cs f).map ctD) ys→Same H H'→Q (.ref D) H'):sp_next [x,y] H Q E:=by
  unfold sp_next; exact ⟨x,y,cs,f,fs,rfl,h1,h2,h3,h4,k⟩
theorem eqv_int (x y:Int):PyData.eqv (.int x) (.int y)=decide (x=y):=by
  show (x == y)=_
  rw [Bool.beq_eq_decide_eq]
theorem eqv_ints:∀ a b:List Int,PyData.eqvAll (a.map PyData.int) (b.map PyData.int)=decide (a=b)
  | [],[]=>by simp [PyData.eqvAll]
  | [],_::_=>by simp [PyData.eqvAll]
  | _::_,[]=>by simp [PyData.eqvAll]
  | x::a,y::b=>by
    have ih:=eqv_ints a b
    rw [List.map_cons,List.map_cons]
    show (PyData.eqv (.int x) (.int y)&&PyData.eqvAll _ _)=_
    rw [ih,eqv_int]
    by_cases h:x=y <;> by_cases h':a=b <;> simp [h,h']
theorem eqv_ct (a b:List Int):PyData.eqv (ctD a) (ctD b)=decide (a=b):=eqv_ints a b
theorem eqv_fr (f g:Fr):PyData.eqv (frD f) (frD g)=decide (f=g):=by
  have h:=eqv_ct [f.1,f.2] [g.1,g.2]
  refine (show PyData.eqv (frD f) (frD g)=_ from h).trans ?_
  obtain ⟨f1,f2⟩:=f
  obtain ⟨g1,g2⟩:=g
  simp
section
variable {P:Program} {w:World} {K:PySem.W.Frag} {mg:Str→Option Value} {base:Heap} {c:Cl}
set_option maxHeartbeats 4000000 in
theorem ok__law_next {f:Addr} {fd:FuncData} (F:Fun K "_law_next" "_law_next" s__law_next f fd) (T:Txt K mg c):FnOk P w K mg base CX0 1 f fd ["_law_counts", "_law_says_here"] sp_next:=by
  refine F.okw sc__law_next (fun vs H Q E h=>?_) (fun cdv A outer s H vs Q E hr h=>?_)
  · unfold sp_next at h
    obtain ⟨x,y,cs,f,fs,rfl,_⟩:=h
    rfl
  · unfold sp_next at h
    obtain ⟨x,y,cs,g,fs,rfl,rx,ry,h4,h5,k⟩:=h
    obtain ⟨a,rfl,ha⟩:=ctD_at rx
    obtain ⟨b,xs,rfl,hb,rxs⟩:=shD_at ry
    obtain ⟨z,hz,rz⟩:=RepL.atX (as:=g::fs) rxs (i:=0) (a:=g) rfl
    refine ⟨_,(wss_cons (ws_if (wt_cmp (op_eqD hr.units) (we_ix ix_seq (we_v 1) we_int (fun _ _=>rfl)) (we_tup (wa_k we_int (wa_k we_int wa_nil))) (nomark _)) (wss_one (ws_ret (we_lst wa_nil))) wss_nil)
      (wss_one (ws_ret (we_comp (CScope.of (psc:=defScope s__law_next) (N:=["_law_counts", "_law_says_here"]) (N':=["_law_face", "_law_counts"]) (js:=[0]) (by decide +kernel) rfl rfl rfl) (wi_range1 rfl T.b_range (wa_k (we_cB cl_len (by rfl) T.b_len (by decide +kernel) (wa_k (we_v 0) wa_nil)) wa_nil)) (fun _ _ _ _=>wts_nil) (fun _ _ _ _=>(we_op (op_catU K) (we_op (op_catU K) (we_slice (sl_tupA K) (we_v 1) wo_none (wo_some (we_v 0))) (we_tup (wa_k (we_op op_add (we_ix (ix_seqK K) (we_v 1) (we_v 0) (fun _ _=>rfl)) we_int) wa_nil))) (we_slice (sl_tupA K) (we_v 1) (wo_some (we_op op_add (we_v 0) we_int)) wo_none))))))),?_⟩
    refine ⟨_,rfl,?_⟩
    refine ixT hb (v:=z) (by
      have:=atI_nat (xs:=xs) (j:=0) (v:=z) hz
      exact this) ?_
    refine nwT (by show 2≤64; decide) fun q1 H1 hq1 e1 s1=>?_
    have r1:Rep H1 (frD (0,1)) (.ref q1):=frD_of e1
    refine reD (rz.same s1) r1 rfl rfl ?_
    rw [eqv_fr]
    refine ⟨_,rfl,?_⟩
    rw [Bool.true_beq]
    refine iteD (fun eg=>?_) (fun eg=>?_)
    · refine nwL (by show 0≤64; decide) fun q2 H2 hq2 e2 s2=>?_
      refine k q2 [] H2 (s1.free hq2) e2 ?_ (s1.trans s2)
      unfold nexts
      rw [if_pos eg]
      exact RepL.nil
    · refine ⟨_,rfl,?_⟩
      refine rlT (s1 _ _ ha) ?_
      rw [List.length_map]
      refine ⟨_,rfl,by omega,by omega,?_⟩
      refine comp_mapR (fun i y H'=>i<cs.length∧Rep H' (ctD (bump cs i)) y) (fun i y H1 H2 s ⟨h1,h2⟩=>⟨h1,h2.flat s (ctD_flat _)⟩) (by omega) (fun i H' Q' hi s' k'=>?_) (fun D ys H4 hD hD4 s4 hy4 hr4=>?_)
      · rw [Int.zero_add]
        have hi':i<cs.length:=by omega
        have ha':=s' _ _ (s1 _ _ ha)
        refine ⟨_,rfl,_,rfl,_,rfl,?_⟩
        refine slA_hi ha' fun c2 H2 s2 e2=>?_
        refine ⟨_,rfl,_,rfl,?_⟩
        have hat:atI (cs.map V.int) (i:Int)=some (.int (cs.getD i 0)):=atI_nat (by rw [List.getElem?_map,List.getD_eq_getElem?_getD,List.getElem?_eq_getElem hi']; rfl)
        refine ixT (s2 _ _ ha') hat ?_
        refine ⟨_,_,rfl,rfl,?_⟩
        refine nwT (by show 1≤64; decide) fun c3 H3 hc3 e3 s3=>?_
        refine catU (s3 _ _ e2) e3 (by rw [List.length_take,List.length_map]; show min i cs.length+1≤1000; omega) fun c4 H4 s4 e4=>?_
        refine ⟨_,rfl,_,rfl,_,_,rfl,rfl,?_⟩
        refine ⟨_,rfl,?_⟩
        refine slA_loE (k:=i+1) (by omega) (s4 _ _ (s3 _ _ (s2 _ _ ha'))) fun c5 H5 s5 e5=>?_
        refine catU (s5 _ _ e4) e5 (by rw [List.length_append,List.length_take,List.length_drop,List.length_map]; show min i cs.length+1+(cs.length - (i+1))≤1000; omega) fun c6 H6 s6 e6=>?_
        refine k' _ H6 ((((s2.trans s3).trans s4).trans s5).trans s6) ⟨hi',ctD_of ?_⟩
        rw [e6]
        unfold bump
        rw [List.map_append,List.map_append,List.map_take,List.map_drop]
        rfl
      · refine k D ys H4 (s1.free hD) hD4 ?_ (s1.trans s4)
        unfold nexts
        rw [if_neg eg]
        refine RepL.ofIdx (by rw [hy4,List.length_map,List.length_map,List.length_range]; omega) fun i y hi=>?_
        obtain ⟨h1,h2⟩:=hr4 i y hi
        exact ⟨ctD (bump cs i),by rw [List.getElem?_map,List.getElem?_map,List.getElem?_range h1]; rfl,h2⟩
end
theorem nodup_len {α:Type} [DecidableEq α]:∀ {l m:List α},l.Nodup→(∀ x∈l,x∈m)→l.length≤m.length
  | [],m,_,_=>Nat.zero_le _
  | x::l,m,h,hs=>by
    rw [List.nodup_cons] at h
    have hx:=hs x (List.mem_cons_self ..)
    have h1:=nodup_len (l:=l) (m:=m.erase x) h.2 fun y hy=>(List.mem_erase_of_ne (fun e=>by subst e; exact h.1 hy)).mpr (hs y (List.mem_cons_of_mem _ hy))
    rw [List.length_erase_of_mem hx] at h1
    have:0<m.length:=List.length_pos_of_mem hx
    rw [List.length_cons]
    omega
def allC:Nat→Nat→List (List Int)
  | 0,m=>if m=0 then [[]] else []
  | F+1,m=>(List.range (m+1)).flatMap fun k=>(allC F (m - k)).map fun c=>((k:Nat):Int)::c
theorem nn_sum:∀ {c:List Int},(∀ x∈c,0≤x)→0≤c.sum
  | [],_=>by simp
  | x::c,h=>by
    have h1:=nn_sum (c:=c) fun y hy=>h y (List.mem_cons_of_mem _ hy)
    have h2:=h x (List.mem_cons_self ..)
    rw [List.sum_cons]; omega
theorem allC_mem:∀ {F m:Nat} {c:List Int},c.length=F→(∀ x∈c,0≤x)→c.sum=(m:Int)→c∈allC F m
  | 0,m,c,hl,_,hs=>by
    cases c with
    | nil =>
      rw [List.sum_nil] at hs
      unfold allC
      rw [if_pos (by omega)]
      exact List.mem_cons_self ..
    | cons _ _=>simp at hl
  | F+1,m,c,hl,hn,hs=>by
    cases c with
    | nil=>simp at hl
    | cons x c =>
      have h2:=hn x (List.mem_cons_self ..)
      have hn':∀ y∈c,0≤y:=fun y hy=>hn y (List.mem_cons_of_mem _ hy)
      have h1:=nn_sum hn'
      rw [List.sum_cons] at hs
      unfold allC
      refine List.mem_flatMap.mpr ⟨x.toNat,List.mem_range.mpr (by omega),List.mem_map.mpr ⟨c,allC_mem (by simpa using hl) hn' (by omega),?_⟩⟩
      rw [show ((x.toNat:Nat):Int)=x by omega]
structure CtOk (F:Nat) (j:Nat) (c:List Int):Prop where
  len:c.length=F
  nn:∀ x∈c,0≤x
  sum:c.sum=(j:Int)
structure LvOk (F:Nat) (j:Nat) (cs:List (List Int)):Prop where
  nd:cs.Nodup
  each:∀ c∈cs,CtOk F j c
theorem lens_ok:(∀ m≤4,(allC 2 m).length<64)∧(∀ m≤3,(allC 3 m).length<64)∧(∀ m≤2,(allC 4 m).length<64):=by decide
theorem LvOk.few {F W M j:Nat} {cs:List (List Int)} (h:LvOk F j cs) (z:SzOk F W M) (hj:j≤M):cs.length<64:=by
  have h1:=nodup_len h.nd fun c hc=>allC_mem (h.each c hc).len (h.each c hc).nn (h.each c hc).sum
  obtain ⟨l2,l3,l4⟩:=lens_ok
  rcases z.f with ⟨rfl,hM⟩ | ⟨rfl,hM⟩ | ⟨rfl,hM⟩
  · exact Nat.lt_of_le_of_lt h1 (l2 j (by omega))
  · exact Nat.lt_of_le_of_lt h1 (l3 j (by omega))
  · exact Nat.lt_of_le_of_lt h1 (l4 j (by omega))
theorem bump_set {cs:List Int} {i:Nat} (h:i<cs.length):bump cs i=cs.set i (cs.getD i 0+1):=by
  unfold bump
  rw [List.set_eq_take_append_cons_drop,if_pos h,List.append_assoc]; rfl
theorem bump_ok {F j:Nat} {c:List Int} (h:CtOk F j c) {i:Nat} (hi:i<c.length):CtOk F (j+1) (bump c i):=by
  have hg:c.getD i 0∈c:=by
    rw [List.getD_eq_getElem?_getD,List.getElem?_eq_getElem hi]; exact List.getElem_mem hi
  refine ⟨by rw [bump_set hi,List.length_set]; exact h.len,fun x hx=>?_,?_⟩
  · rw [bump_set hi] at hx
    rcases List.mem_or_eq_of_mem_set hx with hx | rfl
    · exact h.nn x hx
    · have:=h.nn _ hg; omega
  · have e:c=c.take i++[c.getD i 0]++c.drop (i+1):=by
      have e1:c.getD i 0=c[i]:=by rw [List.getD_eq_getElem?_getD,List.getElem?_eq_getElem hi]; rfl
      rw [e1,List.append_assoc,List.singleton_append,← List.drop_eq_getElem_cons hi,List.take_append_drop]
    have hs:=h.sum
    have e2:c.sum=(c.take i).sum+c.getD i 0+(c.drop (i+1)).sum:=by
      conv=>lhs; rw [e]
      rw [List.sum_append,List.sum_append,List.sum_singleton]
    unfold bump
    rw [List.sum_append,List.sum_append,List.sum_singleton]
    omega
theorem bump_inj {c:List Int} {i k:Nat} (hi:i<c.length) (hk:k<c.length) (e:bump c i=bump c k):i=k:=by
  by_cases h:i=k
  · exact h
  · rw [bump_set hi,bump_set hk] at e
    have e1:=congrArg (fun l=>l[i]?) e
    rw [List.getElem?_set_self (by simpa using hi),List.getElem?_set_ne (Ne.symm h),List.getElem?_eq_getElem hi,List.getD_eq_getElem?_getD,List.getElem?_eq_getElem hi] at e1
    injection e1 with e1
    exact absurd e1 (by show ¬ (c[i]+1=c[i]); omega)
theorem nodup_map_on {α β:Type} {f:α→β}:∀ {l:List α},l.Nodup→(∀ x∈l,∀ y∈l,f x=f y→x=y)→(l.map f).Nodup
  | [],_,_=>List.nodup_nil
  | x::l,h,k=>by
    rw [List.nodup_cons] at h
    rw [List.map_cons,List.nodup_cons]
    refine ⟨fun hm=>?_,nodup_map_on h.2 fun a ha b hb=>k a (List.mem_cons_of_mem _ ha) b (List.mem_cons_of_mem _ hb)⟩
    obtain ⟨y,hy,e⟩:=List.mem_map.mp hm
    have:=k y (List.mem_cons_of_mem _ hy) x (List.mem_cons_self ..) e
    subst this
    exact h.1 hy
theorem nexts_ok {F j:Nat} {c:List Int} (h:CtOk F j c) (f:Fr):LvOk F (j+1) (nexts c f):=by
  unfold nexts
  split
  · exact ⟨List.nodup_nil,fun c hc=>by cases hc⟩
  · refine ⟨nodup_map_on List.nodup_range fun x hx y hy e=>bump_inj (by simpa using hx) (by simpa using hy) e,fun d hd=>?_⟩
    obtain ⟨i,hi,rfl⟩:=List.mem_map.mp hd
    exact bump_ok h (by simpa using hi)
theorem LvOk.more {F j:Nat} {ls ms:List (List Int)} (h1:LvOk F j ls) (h2:LvOk F j ms):LvOk F j (ls++ms.filter fun c=>!decide (c∈ls)):=by
  refine ⟨List.nodup_append.mpr ⟨h1.nd,h2.nd.filter _,fun a ha b hb e=>?_⟩,fun c hc=>?_⟩
  · subst e
    have:=(List.mem_filter.mp hb).2
    simp [ha] at this
  · rcases List.mem_append.mp hc with hc | hc
    · exact h1.each c hc
    · exact h2.each c (List.mem_filter.mp hc).1
theorem LvOk.perm {F j:Nat} {ls ms:List (List Int)} (h:LvOk F j ls) (p:ms.Perm ls):LvOk F j ms:=⟨p.nodup_iff.mpr h.nd,fun c hc=>h.each c (p.mem_iff.mp hc)⟩
theorem perm_ix {α:Type} (d:α) {cs:List α} {ix:List Nat} (h:ix.Perm (List.range cs.length)):(ix.map fun i=>cs.getD i d).Perm cs:=by
  have h1:=h.map fun i=>cs.getD i d
  have e:(List.range cs.length).map (fun i=>cs.getD i d)=cs:=by
    apply List.ext_getElem?
    intro i
    rw [List.getElem?_map]
    by_cases hi:i<cs.length
    · rw [List.getElem?_range hi,List.getElem?_eq_getElem hi,Option.map_some,List.getD_eq_getElem?_getD,List.getElem?_eq_getElem hi]; rfl
    · rw [List.getElem?_eq_none (by simpa using hi),List.getElem?_eq_none (by omega)]; rfl
  rwa [e] at h1
abbrev Ent:=List Int × List Fr
abbrev enD (e:Ent):PyData:=.tuple [ctD e.1,shD e.2]
abbrev ruD (es:List Ent):PyData:=.tuple (es.map enD)
theorem enD_flat (e:Ent):flatD (enD e)=true:=by
  show (flatD (ctD e.1)&&(flatD (shD e.2)&&true))=true
  rw [ctD_flat,shD_flat]; rfl
def hd (fs:List Fr):Fr:=fs.headD (0,1)
structure Clo (F:Nat) (es:List Ent) (cs:List (List Int)):Prop where
  fwd:∀ e∈es,∀ c∈nexts e.1 (hd e.2),c∈es.map (·.1)∨c∈cs
  bwd:∀ c,c∈es.map (·.1)∨c∈cs→c=List.replicate F 0∨∃ e∈es,c∈nexts e.1 (hd e.2)
  zero:List.replicate F 0∈es.map (·.1)∨List.replicate F 0∈cs
def LvFrom (ls:List (List Int)) (ne:List Ent):Prop:=∀ c,c∈ls ↔ ∃ e∈ne,c∈nexts e.1 (hd e.2)
theorem LvFrom.more {ls:List (List Int)} {ne:List Ent} {e:Ent} (h:LvFrom ls ne):LvFrom (ls++(nexts e.1 (hd e.2)).filter fun c=>!decide (c∈ls)) (ne++[e]):=fun c=>by
  rw [List.mem_append,List.mem_filter]
  constructor
  · rintro (hl | ⟨hc,_⟩)
    · obtain ⟨a,ha,hc⟩:=(h c).mp hl
      exact ⟨a,List.mem_append_left _ ha,hc⟩
    · exact ⟨e,List.mem_append_right _ (List.mem_singleton.mpr rfl),hc⟩
  · rintro ⟨a,ha,hc⟩
    rcases List.mem_append.mp ha with ha | ha
    · exact .inl ((h c).mpr ⟨a,ha,hc⟩)
    · rw [List.mem_singleton] at ha
      subst ha
      by_cases hl:c∈ls
      · exact .inl hl
      · exact .inr ⟨hc,by simp [hl]⟩
theorem Clo.step {F:Nat} {es ne:List Ent} {cs cs2 ls:List (List Int)} (h:Clo F es cs) (hp:cs2.Perm cs) (hm:ne.map (·.1)=cs2) (hl:LvFrom ls ne):Clo F (es++ne) ls:=by
  have hk:∀ c,c∈(es++ne).map (·.1)↔c∈es.map (·.1)∨c∈cs:=fun c=>by rw [List.map_append,List.mem_append,hm,hp.mem_iff]
  refine ⟨fun e he c hc=>?_,fun c hc=>?_,.inl ((hk _).mpr h.zero)⟩
  · rcases List.mem_append.mp he with he | he
    · exact .inl ((hk c).mpr (h.fwd e he c hc))
    · exact .inr ((hl c).mpr ⟨e,he,hc⟩)
  · rcases hc with hc | hc
    · rcases h.bwd c ((hk c).mp hc) with h0 | ⟨e,he,h1⟩
      · exact .inl h0
      · exact .inr ⟨e,List.mem_append_left _ he,h1⟩
    · obtain ⟨e,he,h1⟩:=(hl c).mp hc
      exact .inr ⟨e,List.mem_append_right _ he,h1⟩
structure RuOk (F W M:Nat) (es:List Ent):Prop where
  ne:es≠[]
  nd:(es.map (·.1)).Nodup
  each:∀ e∈es,e.1.length=F∧(∀ x∈e.1,0≤x)∧e.1.sum≤(M:Int)∧SyOk (1+W) e.2
  asc:(es.map fun e=>e.1.sum).Pairwise (· ≤ ·)
  len:es.length≤320
  clo:Clo F es []
structure RuTo (F W M j:Nat) (es:List Ent):Prop where
  nd:(es.map (·.1)).Nodup
  each:∀ e∈es,e.1.length=F∧(∀ x∈e.1,0≤x)∧e.1.sum<(j:Int)∧e.1.sum≤(M:Int)∧SyOk (1+W) e.2
  asc:(es.map fun e=>e.1.sum).Pairwise (· ≤ ·)
  len:es.length≤64*j
structure RuIn (F W M j:Nat) (es0 es:List Ent) (cs:List (List Int)):Prop where
  ex:∃ ne:List Ent,es=es0++ne∧ne.map (·.1)=cs∧∀ e∈ne,SyOk (1+W) e.2
theorem RuIn.done {F W M j:Nat} {es0 es:List Ent} {cs:List (List Int)} (h0:RuTo F W M j es0) (h:RuIn F W M j es0 es cs) (l:LvOk F j cs) (hj:j≤M) (hl:cs.length≤64):RuTo F W M (j+1) es:=by
  obtain ⟨ne,rfl,hm,hs⟩:=h.ex
  have hin:∀ e∈ne,CtOk F j e.1:=fun e he=>l.each e.1 (hm ▸ List.mem_map_of_mem he)
  refine ⟨?_,fun e he=>?_,?_,?_⟩
  · rw [List.map_append]
    refine List.nodup_append.mpr ⟨h0.nd,hm ▸ l.nd,fun a ha b hb e=>?_⟩
    subst e
    obtain ⟨e1,m1,rfl⟩:=List.mem_map.mp ha
    have:=(h0.each e1 m1).2.2.1
    rw [hm] at hb
    have:=(l.each _ hb).sum
    omega
  · rcases List.mem_append.mp he with he | he
    · obtain ⟨a1,a2,a3,a4,a5⟩:=h0.each e he
      exact ⟨a1,a2,by omega,a4,a5⟩
    · have c:=hin e he
      have:=c.sum
      exact ⟨c.len,c.nn,by omega,by omega,hs e he⟩
  · rw [List.map_append]
    refine List.pairwise_append.mpr ⟨h0.asc,?_,fun a ha b hb=>?_⟩
    · have:∀ x∈ne.map (fun e=>e.1.sum),x=(j:Int):=fun x hx=>by
        obtain ⟨e,he,rfl⟩:=List.mem_map.mp hx
        exact (hin e he).sum
      exact List.pairwise_of_forall_mem_list fun a ha b hb=>by rw [this a ha,this b hb]; exact Int.le_refl _
    · obtain ⟨e1,m1,rfl⟩:=List.mem_map.mp ha
      obtain ⟨e2,m2,rfl⟩:=List.mem_map.mp hb
      have:=(h0.each e1 m1).2.2.1
      have:=(hin e2 m2).sum
      omega
  · have hne:ne.length=cs.length:=by rw [← hm,List.length_map]
    have:=h0.len
    rw [List.length_append]
    omega
theorem RuTo.rule {F W M j:Nat} {es:List Ent} (h:RuTo F W M j es) (hj:j≤5) (hne:es≠[]) (cl:Clo F es []):RuOk F W M es :=
  ⟨hne,h.nd,fun e he=>⟨(h.each e he).1,(h.each e he).2.1,(h.each e he).2.2.2.1,(h.each e he).2.2.2.2⟩,h.asc,by have:=h.len; omega,cl⟩
@[irreducible] def sp_rule:Sp:=fun vs H Q _=>∃ (p:Addr) (n F W M:Nat) (pl:Bool),vs=[.ref p,.int (F:Int),.int (W:Int),.int (M:Int),.bl pl]∧TapeAt H p (n+8192)∧SzOk F W M∧∀ v es H',TapeAt H' p n→SameBut p H H'→Rep H' (ruD es) v→RuOk F W M es→Q v H'
theorem sp_rule_i {H:Hp} {Q:VK} {E:XK} {p:Addr} {n F W M:Nat} {pl:Bool} (T:TapeAt H p (n+8192)) (z:SzOk F W M) (k:∀ v es H',TapeAt H' p n→SameBut p H H'→Rep H' (ruD es) v→RuOk F W M es→Q v H'):sp_rule [.ref p,.int (F:Int),.int (W:Int),.int (M:Int),.bl pl] H Q E:=by
  unfold sp_rule; exact ⟨p,n,F,W,M,pl,rfl,T,z,k⟩
theorem cs_shaped (cs:List (List Int)):SeqAt.shaped (.list (cs.map ctD))=true:=by
  have hl:∀ cs:List (List Int),PyData.canLayAll0 (cs.map ctD)=true:=fun cs=>by
    induction cs with
    | nil=>rfl
    | cons c cs ih =>
      show (PyData.canLay0 (ctD c)&&PyData.canLayAll0 (cs.map ctD))=true
      rw [ih,show PyData.canLay0 (ctD c)=PyData.canLayAll0 (c.map .int) from rfl,layIs]; rfl
  have hd:∀ cs:List (List Int),PyData.depthAll (cs.map ctD)≤2:=fun cs=>by
    induction cs with
    | nil=>show 0≤2; omega
    | cons c cs ih =>
      show max (PyData.depth (ctD c)) (PyData.depthAll (cs.map ctD))≤2
      have:=depIs c
      have:PyData.depth (ctD c)≤2:=by simp only [PyData.depth]; omega
      omega
  unfold SeqAt.shaped
  rw [show PyData.canLay0 (.list (cs.map ctD))=PyData.canLayAll0 (cs.map ctD) from rfl,hl,Bool.true_and,decide_eq_true_eq]
  have:=hd cs
  simp only [PyData.depth]
  omega
theorem eqv_nil (cs:List (List Int)):PyData.eqv (.list (cs.map ctD)) (.list [])=decide (cs=[]):=by
  cases cs with
  | nil=>rfl
  | cons c cs=>show PyData.eqvAll (ctD c::cs.map ctD) []=_; simp [PyData.eqvAll]
theorem cts_flat:∀ cs:List (List Int),flatDs (cs.map ctD)=true
  | []=>rfl
  | c::cs=>by show (flatD (ctD c)&&flatDs (cs.map ctD))=true; rw [ctD_flat,cts_flat cs]; rfl
theorem ens_flat:∀ es:List Ent,flatDs (es.map enD)=true
  | []=>rfl
  | e::es=>by show (flatD (enD e)&&flatDs (es.map enD))=true; rw [enD_flat,ens_flat es]; rfl
theorem repl_ix {H:Hp} {cs:List (List Int)} {ws:List V} (r:RepL H (cs.map ctD) ws):∀ ix:List Nat,(∀ i∈ix,i<cs.length)→RepL H ((ix.map fun i=>cs.getD i []).map ctD) (ix.map fun i=>ws.getD i .non)
  | [],_=>RepL.nil
  | i::ix,h=>by
    have hi:=h i (List.mem_cons_self ..)
    obtain ⟨x,hx,rx⟩:=RepL.atX r (i:=i) (a:=cs[i]) (by simp [hi])
    have e1:cs.getD i []=cs[i]:=by simp [hi]
    have e2:ws.getD i .non=x:=by rw [List.getD_eq_getElem?_getD,hx]; rfl
    refine RepL.cons ?_ (repl_ix r ix fun j hj=>h j (List.mem_cons_of_mem _ hj))
    show Rep H (ctD (cs.getD i [])) (ws.getD i .non)
    rw [e1,e2]; exact rx
theorem RuIn.snoc {F W M j:Nat} {es0 es:List Ent} {cs:List (List Int)} {c:List Int} {fs:List Fr} (h:RuIn F W M j es0 es cs) (ok:SyOk (1+W) fs):RuIn F W M j es0 (es++[(c,fs)]) (cs++[c]):=by
  obtain ⟨ne,rfl,hm,hs⟩:=h.ex
  refine ⟨ne++[(c,fs)],by rw [List.append_assoc],by rw [List.map_append,hm]; rfl,fun e he=>?_⟩
  rcases List.mem_append.mp he with he | he
  · exact hs e he
  · rw [List.mem_singleton] at he; subst he; exact ok
theorem RuIn.len {F W M j:Nat} {es0 es:List Ent} {cs:List (List Int)} (h:RuIn F W M j es0 es cs):es.length=es0.length+cs.length:=by
  obtain ⟨ne,rfl,hm,hs⟩:=h.ex
  rw [List.length_append,← hm,List.length_map]
section
variable {P:Program} {w:World} {K:PySem.W.Frag} {mg:Str→Option Value} {base:Heap} {c:Cl}
set_option maxHeartbeats 4000000 in
theorem ok__law_rule {f:Addr} {fd:FuncData} (F:Fun K "_law_rule" "_law_rule" s__law_rule f fd) (T:Txt K mg c)
    (F__law_says:FnC CX0 P w K mg base 3 "_law_says" ["_law_tape_here", "_law_ways", "_law_stops", "_law_plain"] sp_says) (F__law_next:FnC CX0 P w K mg base 1 "_law_next" ["_law_counts", "_law_says_here"] sp_next):FnOk P w K mg base CX0 4 f fd ["_law_tape_here", "_law_faces", "_law_ways", "_law_most", "_law_plain"] sp_rule:=by
  refine F.okw sc__law_rule (fun vs H Q E h=>?_) (fun cdv A outer s H vs Q E hr h=>?_)
  · unfold sp_rule at h
    obtain ⟨p,n,F,W,M,pl,rfl,_⟩:=h
    rfl
  · unfold sp_rule at h
    obtain ⟨p,n,F,W,M,pl,rfl,TP,Z,k⟩:=h
    refine ⟨_,(wss_cons (ws_set (i:=5) sc__law_rule.nd rfl (Or.inl rfl) (we_lst wa_nil))
      (wss_cons (ws_set (i:=6) sc__law_rule.nd rfl (Or.inl rfl) (we_lst (wa_k (we_op op_mulT (we_tup (wa_k we_int wa_nil)) (we_v 1)) wa_nil)))
      (wss_cons (ws_while PassesOwn.never (wt_cmp (op_neD hr.units) (we_v 6) (we_lst wa_nil) (nomark _)) (wss_cons (ws_set (i:=7) sc__law_rule.nd rfl (Or.inr rfl) (we_lst wa_nil))
      (wss_cons (ws_for PassesOwn.never rfl (wi_list (we_cB (cl_srt K) (by rfl) T.b_sorted (by decide +kernel) (wa_k (we_v 6) wa_nil))) (wg_name (i:=8) sc__law_rule.nd rfl (Or.inl rfl)) (wss_cons (ws_set (i:=9) sc__law_rule.nd rfl (Or.inl rfl) (we_fn F__law_says (hr.mono (by decide)) (wa_k (we_v 0) (wa_k (we_v 2) (wa_k (we_cmp op_eq (we_cB (cl_sumT K rfl) (by rfl) T.b_sum (by decide +kernel) (wa_k (we_v 8) wa_nil)) (we_v 3) (nomark _)) (wa_k (we_v 4) wa_nil))))))
      (wss_cons (ws_expr (we_bm PySem.F.plainAttrs_list PySem.F.slot_list_append PySem.F.type_list_append mt_app (we_v 5) (wa_k (we_tup (wa_k (we_v 8) (wa_k (we_v 9) wa_nil))) wa_nil)))
      (wss_one (ws_expr (we_bm PySem.F.plainAttrs_list PySem.F.slot_list_extend PySem.F.type_list_extend mt_ext (we_v 7) (wa_k (we_comp (CScope.of (psc:=defScope s__law_rule) (N:=["_law_tape_here", "_law_faces", "_law_ways", "_law_most", "_law_plain", "_law_found", "_law_level", "_law_later", "_law_counts", "_law_says_here"]) (N':=["_law_one", "_law_later"]) (js:=[7]) (by decide +kernel) rfl rfl rfl) (wi_list (we_fn F__law_next (hr.mono (by decide)) (wa_k (we_v 8) (wa_k (we_v 9) wa_nil)))) (fun _ _ _ _=>wts_one (wt_cmp (op_notinT K hr.units) (we_v 0) (we_v 1) (by with_unfolding_all rfl))) (fun _ _ _ _=>(we_v 0))) wa_nil)))))))
      (wss_one (ws_set (i:=6) sc__law_rule.nd rfl (Or.inl rfl) (we_v 7))))))
      (wss_one (ws_ret (we_cT call_tuple_of (by rfl) T.b_tuple (by decide +kernel) (wa_k (we_v 5) wa_nil))))))),?_⟩
    refine nwL (by show 0≤64; decide) fun fo H1 hfo e1 s1=>?_
    refine nwT (by show 1≤64; decide) fun q2 H2 hq2 e2 s2=>?_
    refine ⟨_,rfl,?_⟩
    have hF:2≤F∧F≤4:=by have:=Z.f; omega
    refine mulT e2 hF.1 (by omega) fun q3 H3 s3 e3=>?_
    refine nwL (by show 1≤64; decide) fun le H4 hle e4 s4=>?_
    have nlf:fo≠p:=TP.ne hfo
    have F4:=(((TP.same s1).same s2).same s3).same s4
    have S4:SameBut p H H4:=((((s1.trans s2).trans s3).trans s4)).but
    have rz:Rep H4 (ctD (List.replicate F 0)) (.ref q3):=ctD_of (by rw [s4 _ _ e3,List.map_replicate])
    have ok0:CtOk F 0 (List.replicate F 0):=⟨List.length_replicate,fun x hx=>by have:=List.eq_of_mem_replicate hx; omega,by
      have:∀ k:Nat,(List.replicate k (0:Int)).sum=0:=fun k=>by
        induction k with
        | zero=>rfl
        | succ k ih=>rw [List.replicate_succ,List.sum_cons,ih]; rfl
      rw [this]; rfl⟩
    have e1':=s4 _ _ (s3 _ _ (s2 _ _ e1))
    have hle0:H le=none:=((s1.trans s2).trans s3).free hle
    have nlp:le≠p:=TP.ne hle0
    have nfl:le≠fo:=fun e=>by subst e; rw [s3 _ _ (s2 _ _ e1)] at hle; cases hle
    refine while_r (fun m σ H'=>∃ (j:Nat) (le:Addr) (o7 o8 o9:Option V) (vs ws:List V) (es:List Ent) (cs:List (List Int)),σ=[some (.ref p),some (.int (F:Int)),some (.int (W:Int)),some (.int (M:Int)),some (.bl pl),some (.ref fo),some (.ref le),o7,o8,o9] ∧
        m=6 - j∧j≤M+1∧(j≤M∨cs=[])∧(j=0→cs≠[])∧(0<j→es≠[])∧TapeAt H' p (n+1024*(6 - j))∧SameBut p H H'∧H' fo=some (.lst vs)∧RepL H' (es.map enD) vs∧H' le=some (.lst ws)∧RepL H' (cs.map ctD) ws∧H le=none∧le≠fo∧LvOk F j cs∧RuTo F W M j es∧Clo F es cs)
      (fun σ H'=>∃ (le:Addr) (o7 o8 o9:Option V) (vs:List V) (es:List Ent),σ=[some (.ref p),some (.int (F:Int)),some (.int (W:Int)),some (.int (M:Int)),some (.bl pl),some (.ref fo),some (.ref le),o7,o8,o9]∧TapeAt H' p n∧SameBut p H H'∧H' fo=some (.lst vs)∧RepL H' (es.map enD) vs∧RuOk F W M es)
      6 ⟨0,le,none,none,none,[],_,[],[List.replicate F 0],rfl,rfl,by omega,.inl (by omega),fun _ h=>by (cases h),fun h=>by omega,F4.less (by omega),S4,e1',RepL.nil,e4,RepL.cons rz RepL.nil,hle0,nfl,⟨by simp,fun c hc=>by (rw [List.mem_singleton] at hc; subst hc; exact ok0)⟩,⟨List.nodup_nil,fun e he=>by (cases he),List.Pairwise.nil,Nat.zero_le _⟩,⟨fun e he=>by (cases he),fun c hc=>.inl (by simpa using hc),.inr (by simp)⟩⟩ ?_ ?_
    · clear e1 e2 e3 e4 s1 s2 s3 s4 F4 S4 rz ok0 e1' hle0 nlp nfl hle hq2
      rintro m σ H1 ⟨j,le,o7,o8,o9,vs,ws,es,cs,rfl,rfl,hj,hjc,hj0,hes,F1,S1,hfo1,rfo,hle1,rle,hle0,nfl,LV,RT,CL⟩
      have nlp:le≠p:=TP.ne hle0
      refine ⟨_,rfl,?_⟩
      refine nwL (by show 0≤64; decide) fun q5 H5 hq5 e5 s5=>?_
      refine reD (Rep.lst (s5 _ _ hle1) (rle.same s5)) (Rep.lst e5 RepL.nil) (cs_shaped cs) rfl ?_
      rw [eqv_nil]
      refine ⟨_,rfl,?_⟩
      have hM:M≤4:=by have:=Z.f; omega
      by_cases hc:cs=[]
      · rw [decide_eq_true hc]
        refine iteF ⟨le,o7,o8,o9,vs,es,rfl,(F1.same s5).less (by omega),S1.trans s5.but,s5 _ _ hfo1,rfo.same s5,RT.rule (by omega) (hes ?_) (hc ▸ CL)⟩
        have:j≠0:=fun e=>hj0 e hc
        omega
      · rw [decide_eq_false hc]
        refine iteT ?_
        have hjM:j≤M:=by
          rcases hjc with h | h
          · exact h
          · exact absurd h hc
        have few:=LV.few Z hjM
        have lw':ws.length=cs.length:=by rw [rle.len,List.length_map]
        refine nwL (by show 0≤64; decide) fun la H6 hla e6 s6=>?_
        refine ⟨_,rfl,?_⟩
        have s16:=s5.trans s6
        refine rsrt (cs:=cs) (SqL.of (s16 _ _ hle1)) (rle.same s16) (fun c hc' h=>by have:=(LV.each c hc').len; rw [h] at this; simp at this; omega) (by omega) fun so ix H7 hix _ hso e7 s7=>?_
        rw [lw'] at hix
        have hixl:∀ i∈ix,i<cs.length:=fun i hi=>by have:=hix.mem_iff.mp hi; simpa using this
        have lix:ix.length=cs.length:=by rw [hix.length_eq,List.length_range]
        have LV2:LvOk F j (ix.map fun i=>cs.getD i []):=LV.perm (perm_ix [] hix)
        have hpm:=perm_ix [] hix
        have s17:=s16.trans s7
        have rso:RepL H7 ((ix.map fun i=>cs.getD i []).map ctD) (ix.map fun i=>ws.getD i .non):=repl_ix (rle.same s17) ix hixl
        have lcs:(ix.map fun i=>cs.getD i []).length=cs.length:=by rw [List.length_map,lix]
        generalize hcs2:(ix.map fun i=>cs.getD i [])=cs2 at *
        generalize hys2:(ix.map fun i=>ws.getD i V.non)=ys2 at *
        have lys:ys2.length=cs2.length:=by rw [rso.len,List.length_map]
        have hla0:H la=none:=SameBut.free S1 F1.there (s5.free hla)
        have hso0:H so=none:=SameBut.free S1 F1.there (s16.free hso)
        have nla:la≠p:=TP.ne hla0
        have nso:so≠p:=TP.ne hso0
        have nlf':la≠fo:=fun e=>by subst e; rw [s5 _ _ hfo1] at hla; cases hla
        have nsf:so≠fo:=fun e=>by subst e; rw [s16 _ _ hfo1] at hso; cases hso
        have nsl:so≠la:=fun e=>by subst e; rw [e6] at hso; cases hso
        refine ⟨so,rfl,⟨_,SqL.of e7⟩,?_⟩
        refine for_list (xs:=ys2) (fun i σ H'=>∃ (o8 o9:Option V) (vs2 us:List V) (es2:List Ent) (ls:List (List Int)),σ=[some (.ref p),some (.int (F:Int)),some (.int (W:Int)),some (.int (M:Int)),some (.bl pl),some (.ref fo),some (.ref le),some (.ref la),o8,o9] ∧
            TapeAt H' p (n+1024*(6 - j) - 16*i)∧SameBut p H H'∧H' so=some (.lst ys2)∧H' fo=some (.lst vs2)∧RepL H' (es2.map enD) vs2∧H' la=some (.lst us)∧RepL H' (ls.map ctD) us∧RuIn F W M j es es2 (cs2.take i)∧LvOk F (j+1) ls∧(j=M→ls=[])∧RepL H' (cs2.map ctD) ys2∧LvFrom ls (es2.drop es.length))
          ⟨_,_,vs,[],es,[],rfl,(F1.same s17).less (by omega),S1.trans s17.but,e7,s17 _ _ hfo1,rfo.same s17,s7 _ _ e6,RepL.nil,⟨[],by rw [List.append_nil],rfl,fun e he=>by cases he⟩,⟨List.nodup_nil,fun c hc=>by cases hc⟩,fun _=>rfl,rso,fun c=>⟨(fun h=>by cases h),(fun ⟨e,he,_⟩=>by rw [List.drop_length] at he; cases he)⟩⟩ (fun i σ H' _ q=>?_) ?_ ?_
        · obtain ⟨_,_,_,_,_,_,_,_,_,h,_⟩:=q
          exact SqL.of h
        · rintro i x σ H' hx ⟨o8,o9,vs2,us,es2,ls,rfl,F',S',hso',hfo',rfo',hla',rla',RI,LS,hjm,rso',LF⟩
          obtain ⟨c,hci,rx⟩:=rso'.atI hx
          have hi:i<cs2.length:=(List.getElem?_eq_some_iff.mp hci).1
          have okc:=LV2.each c (List.mem_of_getElem? hci)
          obtain ⟨ax,rfl,hax⟩:=ctD_at rx
          refine ⟨_,rfl,_,rfl,_,rfl,?_⟩
          refine rsT (SqT.of hax) ?_
          refine ⟨_,rfl,rfl,_,rfl,?_⟩
          refine sp_says_i (n:=n+1024*(6 - j) - 16*(i+1)) (F'.less (by omega)) Z.w.1 Z.w.2 fun v fs H8 F8 s8 r8 ok8 st8=>?_
          have t8:=F'.t s8
          have hso8:=s8.at nso hso'
          have hfo8:=s8.at nlf hfo'
          have hla8:=s8.at nla hla'
          have rfo8:=rfo'.flat t8 (ens_flat _)
          have rla8:=rla'.flat t8 (cts_flat _)
          have rso8:=rso'.flat t8 (cts_flat _)
          have rx8:=rx.flat t8 (ctD_flat _)
          have hlen:vs2.length≤500:=by
            rw [rfo8.len,List.length_map,RI.len,List.length_take]
            have:=RT.len
            have:64*j≤64*5:=Nat.mul_le_mul_left _ (by omega)
            omega
          refine ⟨_,rfl,tyL hfo8,_,rfl,_,rfl,?_⟩
          refine nwT (by show 2≤64; decide) fun q9 H9 hq9 e9 s9=>?_
          refine appL (s9 _ _ hfo8) (by omega) fun H10 e10 s10=>?_
          have t10:=s10.t (s9 _ _ hfo8)
          have t910:=s9.t.trans t10
          have hso10:=s10.at nsf (s9 _ _ hso8)
          have hla10:=s10.at nlf' (s9 _ _ hla8)
          have rx10:=rx8.flat t910 (ctD_flat _)
          have r10:=r8.flat t910 (shD_flat _)
          have ren:Rep H10 (enD (c,fs)) (.ref q9):=Rep.tup (t10 _ _ e9) (RepL.cons rx10 (RepL.cons r10 RepL.nil))
          have rfo10:RepL H10 ((es2++[(c,fs)]).map enD) (vs2++[.ref q9]):=by
            rw [List.map_append]
            exact RepL.append (RepL.cons ren RepL.nil) (rfo8.flat t910 (ens_flat _))
          have F10:=(F8.same s9).but s10 nlf
          have S10:SameBut p H H10:=SameBut.thru hfo ((S'.trans s8).trans s9.but) s10
          obtain ⟨f0,fr,rfl⟩:∃ f0 fr,fs=f0::fr:=by
            cases fs with
            | nil=>exact absurd (ok8.len) (by rw [List.length_nil]; omega)
            | cons f0 fr=>exact ⟨f0,fr,rfl⟩
          have lfr:fr.length≤4:=by have:=ok8.len; rw [List.length_cons] at this; have:=Z.w; omega
          refine ⟨_,rfl,tyL hla10,_,rfl,_,rfl,?_⟩
          refine sp_next_i rx10 r10 (by rw [okc.len]; omega) lfr fun D ys H11 hD hD11 rD s11=>?_
          refine ⟨D,rfl,⟨_,SqL.of hD11⟩,?_⟩
          have NX:=nexts_ok okc f0
          have lnx:(nexts c f0).length≤4:=by
            unfold nexts
            split
            · exact Nat.zero_le _
            · rw [List.length_map,List.length_range,okc.len]; omega
          have rla11:=(rla8.flat t910 (cts_flat _)).same s11
          have llen:ls.length<64:=by
            by_cases h:j=M
            · rw [hjm h]; decide
            · exact LS.few Z (by omega)
          refine comp_fltD rD (fun d=>!decide (d∈ls)) (by rw [rD.len,List.length_map]; omega) hD11 (fun x' d H' Q' hd rx' s' k'=>?_) (fun x' H' Q' q=>⟨_,rfl,q⟩) (fun D2 ys2 H12 hD2 e12 s12 r12=>?_)
          · refine ⟨_,rfl,_,rfl,?_⟩
            refine riT (.inl (SqL.of (s' _ _ (s11 _ _ hla10)))) (rla11.same s') rx'.k ?_
            exact ⟨_,rfl,k' H' (Same.refl _)⟩
          · have s1112:=s11.trans s12
            refine extL (s1112 _ _ hla10) e12 (by rw [rla8.len,r12.len,List.length_map,List.length_map]; have:=List.length_filter_le (fun d=>!decide (d∈ls)) (nexts c f0); omega) fun H13 e13 s13=>?_
            have t13:=s13.t (s1112 _ _ hla10)
            have tt:=s1112.t.trans t13
            refine ⟨_,_,vs2++[.ref q9],us++ys2,es2++[(c,f0::fr)],ls++(nexts c f0).filter (fun d=>!decide (d∈ls)),rfl,(F10.same s1112).but s13 nla,SameBut.thru hla0 (S10.trans s1112.but) s13,s13.at nsl (s1112 _ _ hso10),s13.at (Ne.symm nlf') (s1112 _ _ e10),rfo10.flat tt (ens_flat _),e13,?_,?_,LS.more NX,fun h=>?_,(rso8.flat t910 (cts_flat _)).flat tt (cts_flat _),?_⟩
            · rw [List.map_append]
              exact RepL.append (r12.flat t13 (cts_flat _)) ((rla11.same s12).flat t13 (cts_flat _))
            · rw [List.take_succ,hci]
              exact RI.snoc ok8
            · have hsum:=okc.sum
              have:=st8 (decide_eq_true (by rw [hsum,h]))
              cases (show f0=(0,1) by simpa using this)
              rw [hjm h]
              rfl
            · have hle2:es.length≤es2.length:=by rw [RI.len]; omega
              rw [List.drop_append_of_le_length hle2]
              exact LvFrom.more (e:=(c,f0::fr)) LF
        · rintro σ H8 ⟨o8,o9,vs2,us,es2,ls,rfl,F8,S8,hso8,hfo8,rfo8,hla8,rla8,RI,LS,hjm,_,LF⟩
          rw [lys,List.take_length] at RI
          have RT2:=RI.done RT LV2 hjM (by omega)
          have CL2:Clo F es2 ls:=by
            obtain ⟨ne,e1,e2,_⟩:=RI.ex
            subst e1
            rw [List.drop_left] at LF
            exact CL.step hpm e2 LF
          refine ⟨_,rfl,6 - (j+1),by omega,j+1,la,_,_,_,vs2,us,es2,ls,rfl,rfl,by omega,?_,fun h=>by omega,fun _ h=>?_,F8.less (by rw [lys]; omega),S8,hfo8,rfo8,hla8,rla8,hla0,nlf',LS,RT2,CL2⟩
          · by_cases h:j=M
            · exact .inr (hjm h)
            · exact .inl (by omega)
          · have:=RI.len
            rw [h] at this
            have h0:cs.length≠0:=fun e=>hc (List.length_eq_zero_iff.mp e)
            simp at this
            omega
    · rintro σ H1 ⟨le,o7,o8,o9,vs,es,rfl,F1,S1,hfo1,rfo,RO⟩
      refine ⟨_,rfl,fo,vs,rfl,.inl ⟨SqL.of hfo1,fun l hl=>?_⟩⟩
      have sl:=Same.upd (o:=.tup vs) hl
      have el:(upd H1 l (.tup vs)) l=some (.tup vs):=upd_same
      generalize upd H1 l (.tup vs)=H2 at sl el
      exact k _ es H2 (F1.same sl) (S1.trans sl.but) (Rep.tup el (rfo.same sl)) RO
end
end Kw
set_option Elab.async false
set_option linter.all false
set_option maxRecDepth 100000
namespace Kw
open PySem L2 Mf
abbrev s_is_whole:Stmt:=(top 13)
theorem sc_is_whole:FnScope ["thing"] ["thing"] (defScope s_is_whole):=⟨rfl,rfl,rfl,by decide +kernel,rfl,by decide +kernel,by decide +kernel⟩
abbrev s_common_divisor:Stmt:=(top 14)
theorem sc_common_divisor:FnScope ["number", "above_nought", "divided", "divisor", "rest"] ["number", "above_nought"] (defScope s_common_divisor):=⟨rfl,rfl,rfl,by decide +kernel,rfl,by decide +kernel,by decide +kernel⟩
abbrev s_is_fraction:Stmt:=(top 16)
theorem sc_is_fraction:FnScope ["thing"] ["thing"] (defScope s_is_fraction):=⟨rfl,rfl,rfl,by decide +kernel,rfl,by decide +kernel,by decide +kernel⟩
abbrev s_is_share:Stmt:=(top 17)
theorem sc_is_share:FnScope ["thing"] ["thing"] (defScope s_is_share):=⟨rfl,rfl,rfl,by decide +kernel,rfl,by decide +kernel,by decide +kernel⟩
abbrev s_plus:Stmt:=(top 18)
theorem sc_plus:FnScope ["one", "other", "common", "one_part", "other_part", "upper", "left"] ["one", "other"] (defScope s_plus):=⟨rfl,rfl,rfl,by decide +kernel,rfl,by decide +kernel,by decide +kernel⟩
abbrev s_is_less:Stmt:=(top 19)
theorem sc_is_less:FnScope ["one", "other"] ["one", "other"] (defScope s_is_less):=⟨rfl,rfl,rfl,by decide +kernel,rfl,by decide +kernel,by decide +kernel⟩
abbrev s_is_face:Stmt:=(top 22)
theorem sc_is_face:FnScope ["faces", "thing"] ["faces", "thing"] (defScope s_is_face):=⟨rfl,rfl,rfl,by decide +kernel,rfl,by decide +kernel,by decide +kernel⟩
abbrev s_noughts:Stmt:=(top 23)
theorem sc_noughts:FnScope ["faces"] ["faces"] (defScope s_noughts):=⟨rfl,rfl,rfl,by decide +kernel,rfl,by decide +kernel,by decide +kernel⟩
abbrev s_one_more:Stmt:=(top 24)
theorem sc_one_more:FnScope ["counts", "face"] ["counts", "face"] (defScope s_one_more):=⟨rfl,rfl,rfl,by decide +kernel,rfl,by decide +kernel,by decide +kernel⟩
abbrev s_rule_faces:Stmt:=(top 27)
theorem sc_rule_faces:FnScope ["rule"] ["rule"] (defScope s_rule_faces):=⟨rfl,rfl,rfl,by decide +kernel,rfl,by decide +kernel,by decide +kernel⟩
abbrev s_drawn:Stmt:=(top 30)
theorem sc_drawn:FnScope ["says", "share", "place", "up_to"] ["says", "share"] (defScope s_drawn):=⟨rfl,rfl,rfl,by decide +kernel,rfl,by decide +kernel,by decide +kernel⟩
abbrev s__law_plus:Stmt:=(top 35)
theorem sc__law_plus:FnScope ["_law_one", "_law_other"] ["_law_one", "_law_other"] (defScope s__law_plus):=⟨rfl,rfl,rfl,by decide +kernel,rfl,by decide +kernel,by decide +kernel⟩
abbrev s__law_drawn:Stmt:=(top 41)
theorem sc__law_drawn:FnScope ["_law_says_here", "_law_lot_here", "_law_whole", "_law_place"] ["_law_says_here", "_law_lot_here"] (defScope s__law_drawn):=⟨rfl,rfl,rfl,by decide +kernel,rfl,by decide +kernel,by decide +kernel⟩
def saysAt (es:List Ent) (c:List Int):Option (List Fr):=(es.find? fun e=>decide (e.1=c)).map (·.2)
theorem ruD_at {H:Hp} {es:List Ent} {v:V} (h:Rep H (ruD es) v):∃ a xs,v=.ref a∧H a=some (.tup xs)∧RepL H (es.map enD) xs:=by
  unfold Rep at h; exact h
theorem enD_at {H:Hp} {e:Ent} {v:V} (h:Rep H (enD e) v):∃ a x y,v=.ref a∧H a=some (.tup [x,y])∧Rep H (ctD e.1) x∧Rep H (shD e.2) y:=by
  unfold Rep RepL RepL RepL at h
  obtain ⟨a,_,rfl,h1,x,_,rfl,r1,y,_,rfl,r2,rfl⟩:=h
  exact ⟨a,x,y,rfl,h1,r1,r2⟩
theorem SyOk.sz {n:Nat} {fs:List Fr} (h:SyOk n fs) (hn:n≤5):∀ f∈fs,Szf 1062 f:=fun f hf=>by
  obtain ⟨ns,h1,h2,h3,rfl⟩:=h.ex
  obtain ⟨x,hx,rfl⟩:=List.mem_map.mp hf
  have b:=h2 x hx
  have s7:=sum_le7 h2
  have hg:=gcd_pos (n:=x) h3
  have e1:x.natAbs<2^10:=by show x.natAbs<1024; omega
  have e2:ns.sum.natAbs<2^10:=by show ns.sum.natAbs<1024; omega
  exact ⟨sz_mono (sz_div e1 hg),sz_mono (sz_div e2 hg)⟩
abbrev EnV (H:Hp) (p:List Key × V) (e:Ent):Prop:=p.1=e.1.map Sum.inl∧Rep H (shD e.2) p.2
theorem key_map (c:List Int):(c.map (Sum.inl:Int→Key)).map kV=c.map V.int:=by rw [List.map_map]; rfl
theorem inl_inj {a b:List Int} (h:a.map (Sum.inl:Int→Key)=b.map Sum.inl):a=b:=by
  have:=congrArg (List.map kV) h
  rw [key_map,key_map] at this
  exact map_int_inj this
theorem pairs_of {H:Hp}:∀ {es:List Ent} {xs:List V},RepL H (es.map enD) xs→∃ kvs,Paired (PairH H) xs kvs∧Paired (EnV H) kvs es
  | [],xs,r=>by
    unfold RepL at r
    cases (show xs=[] from r)
    exact ⟨[],.nil,.nil⟩
  | e::es,xs,r=>by
    rw [List.map_cons] at r
    unfold RepL at r
    obtain ⟨x,xs',rfl,r1,r2⟩:=r
    obtain ⟨kvs,h1,h2⟩:=pairs_of r2
    obtain ⟨b,u,v,rfl,hb,ru,rv⟩:=enD_at r1
    obtain ⟨cu,rfl,hcu⟩:=ctD_at ru
    exact ⟨(e.1.map Sum.inl,v)::kvs,.cons ⟨b,cu,rfl,hb,by rw [key_map]; exact hcu⟩ h1,.cons ⟨rfl,rv⟩ h2⟩
theorem keys_of {H:Hp}:∀ {kvs:List (List Key × V)} {es:List Ent},Paired (EnV H) kvs es→kvs.map (·.1)=es.map fun e=>e.1.map Sum.inl
  | _,_,.nil=>rfl
  | _,_,.cons h t=>by rw [List.map_cons,List.map_cons,h.1,keys_of t]
theorem val_of {H:Hp} {c:List Int}:∀ {kvs:List (List Key × V)} {es:List Ent},Paired (EnV H) kvs es→(saysAt es c=none→valV kvs (c.map Sum.inl)=none)∧∀ fs,saysAt es c=some fs→∃ v,valV kvs (c.map Sum.inl)=some v∧Rep H (shD fs) v
  | _,_,.nil=>⟨fun _=>rfl,fun fs h=>by unfold saysAt at h; cases h⟩
  | p::kvs,e::es,.cons h t=>by
    by_cases he:e.1=c
    · have e1:valV (p::kvs) (c.map Sum.inl)=some p.2:=valV_pos (by rw [h.1,he])
      have e2:saysAt (e::es) c=some e.2:=by unfold saysAt; rw [List.find?_cons_of_pos (by simpa using he)]; rfl
      rw [e1,e2]
      exact ⟨(fun h=>by cases h),fun fs hf=>by cases hf; exact ⟨_,rfl,h.2⟩⟩
    · have e1:valV (p::kvs) (c.map Sum.inl)=valV kvs (c.map Sum.inl):=valV_neg (by rw [h.1]; exact fun z=>he (inl_inj z))
      have e2:saysAt (e::es) c=saysAt es c:=by unfold saysAt; rw [List.find?_cons_of_neg (by simpa using he)]
      rw [e1,e2]
      exact val_of t
theorem paired_same {H H':Hp} (s:Same H H'):∀ {kvs:List (List Key × V)} {es:List Ent},Paired (EnV H) kvs es→Paired (EnV H') kvs es
  | _,_,.nil=>.nil
  | _,_,.cons h t=>.cons ⟨h.1,h.2.same s⟩ (paired_same s t)
theorem paired_t {H H':Hp} (s:SameT H H'):∀ {kvs:List (List Key × V)} {es:List Ent},Paired (EnV H) kvs es→Paired (EnV H') kvs es
  | _,_,.nil=>.nil
  | _,_,.cons h t=>.cons ⟨h.1,h.2.flat s (shD_flat _)⟩ (paired_t s t)
theorem sqL_keep {K:PySem.W.Frag} {H H':Hp} {a:Addr} {xs:List V} (s:Same H H') (h:SqL K H a xs):SqL K H' a xs:=by
  rcases h with (h | ⟨o,h⟩) | h
  · exact .inl (.inl (s _ _ h))
  · exact .inl (.inr ⟨o,s _ _ h⟩)
  · exact .inr h
@[irreducible] def sp_noughts:Sp:=fun vs H Q _=>∃ F:Nat,vs=[.int (F:Int)]∧F≤64∧∀ v H',Same H H'→Rep H' (ctD (List.replicate F 0)) v→Q v H'
theorem sp_noughts_i {H:Hp} {Q:VK} {E:XK} {F:Nat} (h:F≤64) (k:∀ v H',Same H H'→Rep H' (ctD (List.replicate F 0)) v→Q v H'):sp_noughts [.int (F:Int)] H Q E:=by
  unfold sp_noughts; exact ⟨F,rfl,h,k⟩
@[irreducible] def sp_one_more:Sp:=fun vs H Q _=>∃ (x:V) (cs:List Int) (i:Nat),vs=[x,.int (i:Int)]∧Rep H (ctD cs) x∧i<cs.length∧cs.length≤64∧∀ v H',Same H H'→Rep H' (ctD (bump cs i)) v→Q v H'
theorem sp_one_more_i {H:Hp} {Q:VK} {E:XK} {x:V} {cs:List Int} {i:Nat} (h1:Rep H (ctD cs) x) (h2:i<cs.length) (h3:cs.length≤64) (k:∀ v H',Same H H'→Rep H' (ctD (bump cs i)) v→Q v H'):sp_one_more [x,.int (i:Int)] H Q E:=by
  unfold sp_one_more; exact ⟨x,cs,i,rfl,h1,h2,h3,k⟩
section
variable {P:Program} {w:World} {K:PySem.W.Frag} {mg:Str→Option Value} {base:Heap} {c:Cl}
theorem ok_noughts {f:Addr} {fd:FuncData} (F:Fun K "noughts" "noughts" s_noughts f fd) (T:Txt K mg c):FnOk P w K mg base CX0 1 f fd ["faces"] sp_noughts:=by
  refine F.okw sc_noughts (fun vs H Q E h=>?_) (fun cdv A outer s H vs Q E hr h=>?_)
  · unfold sp_noughts at h
    obtain ⟨F,rfl,_⟩:=h
    rfl
  · unfold sp_noughts at h
    obtain ⟨F,rfl,hF,k⟩:=h
    refine ⟨_,(wss_one (ws_ret (we_cT call_tuple_of (by rfl) T.b_tuple (by decide +kernel) (wa_k (we_comp (CScope.of (psc:=defScope s_noughts) (N:=["faces"]) (N':=["face"]) (js:=[]) (by decide +kernel) rfl rfl rfl) (wi_range1 rfl T.b_range (wa_k (we_v 0) wa_nil)) (fun _ _ _ _=>wts_nil) (fun _ _ _ _=>we_int)) wa_nil)))),?_⟩
    refine ⟨_,rfl,_,rfl,by omega,by omega,?_⟩
    refine comp_mapR (fun i y H'=>∃ n,y=.int n∧n=0) (fun _ _ _ _ _ h=>h) (by omega) (fun i H' Q' hi s' k'=>k' _ H' (Same.refl _) ⟨0,rfl,rfl⟩) (fun D ys H1 hD e1 s1 hy hr1=>?_)
    obtain ⟨zs,rfl,hz⟩:=ints_of (P:=fun _ n=>n=0) hr1
    have ez:zs=List.replicate F 0:=by
      rw [List.length_map] at hy
      exact List.eq_replicate_iff.mpr ⟨by omega,fun b hb=>by obtain ⟨i,h⟩:=List.mem_iff_getElem?.mp hb; exact hz i b h⟩
    subst ez
    refine ⟨D,_,rfl,.inl ⟨SqL.of e1,fun l hl=>?_⟩⟩
    exact k _ _ (s1.trans (Same.upd hl)) (ctD_of upd_same)
theorem ok_one_more {f:Addr} {fd:FuncData} (F:Fun K "one_more" "one_more" s_one_more f fd) (T:Txt K mg c):FnOk P w K mg base CX0 1 f fd ["counts", "face"] sp_one_more:=by
  refine F.okw sc_one_more (fun vs H Q E h=>?_) (fun cdv A outer s H vs Q E hr h=>?_)
  · unfold sp_one_more at h
    obtain ⟨x,cs,i,rfl,_⟩:=h
    rfl
  · unfold sp_one_more at h
    obtain ⟨x,cs,i,rfl,rx,hi,hl,k⟩:=h
    obtain ⟨a,rfl,ha⟩:=ctD_at rx
    refine ⟨_,(wss_one (ws_ret (we_op (op_catU K) (we_op (op_catU K) (we_slice (sl_tupA K) (we_v 0) wo_none (wo_some (we_v 1))) (we_tup (wa_k (we_op op_add (we_ix ix_seq (we_v 0) (we_v 1) (fun _ _=>rfl)) we_int) wa_nil))) (we_slice (sl_tupA K) (we_v 0) (wo_some (we_op op_add (we_v 1) we_int)) wo_none)))),?_⟩
    refine ⟨_,rfl,_,rfl,_,rfl,?_⟩
    refine slA_hi ha fun c2 H2 s2 e2=>?_
    refine ⟨_,rfl,_,rfl,?_⟩
    have hat:atI (cs.map V.int) (i:Int)=some (.int (cs.getD i 0)):=atI_nat (by rw [List.getElem?_map,List.getD_eq_getElem?_getD,List.getElem?_eq_getElem hi]; rfl)
    refine ixT (s2 _ _ ha) hat ?_
    refine ⟨_,_,rfl,rfl,?_⟩
    refine nwT (by show 1≤64; decide) fun c3 H3 hc3 e3 s3=>?_
    refine catU (s3 _ _ e2) e3 (by rw [List.length_take,List.length_map]; show min i cs.length+1≤1000; omega) fun c4 H4 s4 e4=>?_
    refine ⟨_,rfl,_,rfl,_,_,rfl,rfl,?_⟩
    refine ⟨_,rfl,?_⟩
    refine slA_loE (k:=i+1) (by omega) (s4 _ _ (s3 _ _ (s2 _ _ ha))) fun c5 H5 s5 e5=>?_
    refine catU (s5 _ _ e4) e5 (by rw [List.length_append,List.length_take,List.length_drop,List.length_map]; show min i cs.length+1+(cs.length - (i+1))≤1000; omega) fun c6 H6 s6 e6=>?_
    refine k _ H6 ((((s2.trans s3).trans s4).trans s5).trans s6) (ctD_of ?_)
    rw [e6]
    unfold bump
    rw [List.map_append,List.map_append,List.map_take,List.map_drop]
    rfl
end
@[irreducible] def sp_rule_faces:Sp:=fun vs H Q _=>∃ (x:V) (e:Ent) (es:List Ent),vs=[x]∧Rep H (ruD (e::es)) x∧Q (.int (e.1.length:Nat)) H
theorem sp_rule_faces_i {H:Hp} {Q:VK} {E:XK} {x:V} {e:Ent} {es:List Ent} (h1:Rep H (ruD (e::es)) x) (k:Q (.int (e.1.length:Nat)) H):sp_rule_faces [x] H Q E:=by
  unfold sp_rule_faces; exact ⟨x,e,es,rfl,h1,k⟩
section
variable {P:Program} {w:World} {K:PySem.W.Frag} {mg:Str→Option Value} {base:Heap} {c:Cl}
theorem ok_rule_faces {f:Addr} {fd:FuncData} (F:Fun K "rule_faces" "rule_faces" s_rule_faces f fd) (T:Txt K mg c):FnOk P w K mg base CX0 1 f fd ["rule"] sp_rule_faces:=by
  refine F.okw sc_rule_faces (fun vs H Q E h=>?_) (fun cdv A outer s H vs Q E hr h=>?_)
  · unfold sp_rule_faces at h
    obtain ⟨x,e,es,rfl,_⟩:=h
    rfl
  · unfold sp_rule_faces at h
    obtain ⟨x,e,es,rfl,rx,k⟩:=h
    obtain ⟨a,xs,rfl,ha,rxs⟩:=ruD_at rx
    obtain ⟨y,hy,ry⟩:=RepL.atX (i:=0) rxs rfl
    obtain ⟨b,u,v,rfl,hb,ru,rv⟩:=enD_at ry
    obtain ⟨cu,rfl,hcu⟩:=ctD_at ru
    refine ⟨_,(wss_one (ws_ret (we_cB cl_len (by rfl) T.b_len (by decide +kernel) (wa_k (we_ix ix_seq (we_ix ix_seq (we_v 0) we_int (fun _ _=>rfl)) we_int (fun _ _=>rfl)) wa_nil)))),?_⟩
    refine ⟨_,rfl,?_⟩
    refine ixT ha (atI_nat hy) ?_
    refine ixT hb rfl ?_
    refine rlT hcu ?_
    rw [List.length_map]
    exact k
end
theorem len2q {α:Type} {us:List α} (h:us.length=2):∃ a b,us=[a,b]:=match us,h with | [a,b],_=>⟨a,b,rfl⟩
@[irreducible] def sp_whole:Sp:=fun vs H Q _=>∃ x d,vs=[x]∧Rep H d x∧Q (.bl (dWhole d)) H
theorem sp_whole_i {H:Hp} {Q:VK} {E:XK} {x:V} {d:PyData} (r:Rep H d x) (q:Q (.bl (dWhole d)) H):sp_whole [x] H Q E:=by unfold sp_whole; exact ⟨x,d,rfl,r,q⟩
def isFrac:PyData→Bool
  | .tuple [.int n,.int k]=>decide (1≤k)&&decide (Int.gcd n k=1)
  | _=>false
def isShare:PyData→Bool
  | .tuple [.int n,.int k]=>(decide (1≤k)&&decide (Int.gcd n k=1))&&(decide (0≤n)&&decide (n≤k))
  | _=>false
@[irreducible] def sp_frac:Sp:=fun vs H Q _=>∃ x d,vs=[x]∧Rep H d x∧Q (.bl (isFrac d)) H
theorem sp_frac_i {H:Hp} {Q:VK} {E:XK} {x:V} {d:PyData} (r:Rep H d x) (q:Q (.bl (isFrac d)) H):sp_frac [x] H Q E:=by unfold sp_frac; exact ⟨x,d,rfl,r,q⟩
@[irreducible] def sp_share:Sp:=fun vs H Q _=>∃ x d,vs=[x]∧Rep H d x∧Q (.bl (isShare d)) H
theorem sp_share_i {H:Hp} {Q:VK} {E:XK} {x:V} {d:PyData} (r:Rep H d x) (q:Q (.bl (isShare d)) H):sp_share [x] H Q E:=by unfold sp_share; exact ⟨x,d,rfl,r,q⟩
theorem isFrac_true {d:PyData} (h:isFrac d=true):∃ n k:Int,d=.tuple [.int n,.int k]∧1≤k∧Int.gcd n k=1:=by
  unfold isFrac at h
  split at h
  · rename_i n k
    rw [Bool.and_eq_true] at h
    exact ⟨n,k,rfl,of_decide_eq_true h.1,of_decide_eq_true h.2⟩
  · cases h
theorem isShare_false {d:PyData} (h:isFrac d=false):isShare d=false:=by
  unfold isShare
  split
  · rename_i n k
    have h':(decide (1≤k)&&decide (Int.gcd n k=1))=false:=h
    rw [h',Bool.false_and]
  · rfl
section
variable {P:Program} {w:World} {K:PySem.W.Frag} {mg:Str→Option Value} {base:Heap} {c:Cl}
theorem ok_is_whole {f:Addr} {fd:FuncData} (F:Fun K "is_whole" "is_whole" s_is_whole f fd) (T:Txt K mg c):FnOk P w K mg base CX0 1 f fd ["thing"] sp_whole:=by
  refine F.okw sc_is_whole (fun vs H Q E h=>?_) (fun cdv A outer s H vs Q E hr h=>?_)
  · unfold sp_whole at h
    obtain ⟨x,d,rfl,_⟩:=h
    rfl
  · unfold sp_whole at h
    obtain ⟨x,d,rfl,r,q⟩:=h
    refine ⟨_,(wss_one (ws_ret (we_and (we_cB cl_isi (by rfl) T.b_isinstance (by decide +kernel) (wa_k (we_v 0) (wa_k (we_bltn (v:=.ty "int") (u:=.type "int") rfl T.b_int (by decide +kernel) rfl) wa_nil))) (we_one (we_not (we_cB cl_isi (by rfl) T.b_isinstance (by decide +kernel) (wa_k (we_v 0) (wa_k (we_bltn (v:=.ty "bool") (u:=.type "bool") rfl T.b_bool (by decide +kernel) rfl) wa_nil)))))))),?_⟩
    refine ⟨_,rfl,?_⟩
    refine riInt r ?_
    refine ⟨_,rfl,?_⟩
    cases d
    case int i=>exact iteT ⟨_,rfl,riBool r ⟨_,rfl,q⟩⟩
    case bool i=>exact iteT ⟨_,rfl,riBool r ⟨_,rfl,q⟩⟩
    all_goals exact iteF q
theorem ok_is_fraction {f:Addr} {fd:FuncData} (F:Fun K "is_fraction" "is_fraction" s_is_fraction f fd) (T:Txt K mg c)
    (F_is_whole:FnC CX0 P w K mg base 1 "is_whole" ["thing"] sp_whole) (F_common_divisor:FnC CX0 P w K mg base 1 "common_divisor" ["number", "above_nought"] sp_cd):FnOk P w K mg base CX0 2 f fd ["thing"] sp_frac:=by
  refine F.okw sc_is_fraction (fun vs H Q E h=>?_) (fun cdv A outer s H vs Q E hr h=>?_)
  · unfold sp_frac at h
    obtain ⟨x,d,rfl,_⟩:=h
    rfl
  · unfold sp_frac at h
    obtain ⟨x,d,rfl,r,q⟩:=h
    refine ⟨_,(wss_cons (ws_if (wt_w (ww_or (wt_not (wt_val (we_cB cl_isi (by rfl) T.b_isinstance (by decide +kernel) (wa_k (we_v 0) (wa_k (we_bltn (v:=.ty "tuple") (u:=.type "tuple") rfl T.b_tuple (by decide +kernel) rfl) wa_nil))))) (ww_or1 (wt_cmp op_ne (we_cB cl_len (by rfl) T.b_len (by decide +kernel) (wa_k (we_v 0) wa_nil)) we_int (nomark _))))) (wss_one (ws_ret we_bl)) wss_nil)
      (wss_cons (ws_if (wt_w (ww_or (wt_not (wt_val (we_fn F_is_whole (hr.mono (by decide)) (wa_k (we_ix ix_seq (we_v 0) we_int (fun _ _=>rfl)) wa_nil)))) (ww_or1 (wt_not (wt_val (we_fn F_is_whole (hr.mono (by decide)) (wa_k (we_ix ix_seq (we_v 0) we_int (fun _ _=>rfl)) wa_nil))))))) (wss_one (ws_ret we_bl)) wss_nil)
      (wss_one (ws_ret (we_and (we_cmp op_ge (we_ix ix_seq (we_v 0) we_int (fun _ _=>rfl)) we_int (nomark _)) (we_one (we_cmp op_eq (we_fn F_common_divisor (hr.mono (by decide)) (wa_k (we_ix ix_seq (we_v 0) we_int (fun _ _=>rfl)) (wa_k (we_ix ix_seq (we_v 0) we_int (fun _ _=>rfl)) wa_nil))) we_int (nomark _)))))))),?_⟩
    refine ⟨_,rfl,?_⟩
    refine riTup r ?_
    refine ⟨_,rfl,?_⟩
    by_cases ht:dTup d=true
    · rw [ht]
      refine iteF ?_
      cases d with
      | tuple ds =>
        have r0:=r
        unfold Rep at r
        obtain ⟨a,xs,rfl,ha,rl⟩:=r
        have hlen:=rl.len
        refine ⟨_,rfl,?_⟩
        refine rlT ha ?_
        refine ⟨rfl,_,rfl,?_⟩
        refine iteDN (fun e=>?_) (fun e=>?_)
        · have e2:isFrac (.tuple ds)=false:=by
            unfold isFrac
            split
            · rename_i n k z
              injection z with z
              subst z
              exact absurd (congrArg V.int (by rw [hlen]; rfl)) e
            · rfl
          rw [e2] at q
          exact q
        · have e1:ds.length=2:=by injection e with e; omega
          obtain ⟨d0,d1,rfl⟩:=len2q e1
          unfold RepL RepL RepL at rl
          obtain ⟨x0,_,rfl,r0',x1,_,rfl,r1',rfl⟩:=rl
          refine ⟨_,rfl,?_⟩
          refine ixT ha rfl ?_
          refine sp_whole_i r0' ?_
          refine ⟨_,rfl,?_⟩
          cases d0
          case int n =>
            refine iteF ?_
            refine ⟨_,rfl,?_⟩
            refine ixT ha rfl ?_
            refine sp_whole_i r1' ?_
            refine ⟨_,rfl,?_⟩
            cases d1
            case int k =>
              refine iteF ?_
              cases (show x0=V.int n from r0')
              cases (show x1=V.int k from r1')
              refine ⟨_,rfl,?_⟩
              refine ixT ha rfl ?_
              refine ⟨_,_,rfl,rfl,_,rfl,?_⟩
              refine iteD (fun e3=>?_) (fun e3=>?_)
              · refine ⟨_,rfl,?_⟩
                refine ixT ha rfl ?_
                refine ⟨_,rfl,?_⟩
                refine ixT ha rfl ?_
                refine sp_cd_i (by omega) ?_
                refine ⟨rfl,?_⟩
                have e4:isFrac (.tuple [.int n,.int k])=decide (V.int (Int.gcd n k:Int)=V.int 1):=by
                  show (decide (1≤k)&&decide (Int.gcd n k=1))=_
                  rw [decide_eq_true e3,Bool.true_and]
                  by_cases g:Int.gcd n k=1
                  · rw [decide_eq_true g,g]; rfl
                  · rw [decide_eq_false g,decide_eq_false]
                    intro z
                    injection z with z
                    omega
                rw [e4] at q
                exact q
              · have e4:isFrac (.tuple [.int n,.int k])=false:=by
                  show (decide (1≤k)&&decide (Int.gcd n k=1))=_
                  rw [decide_eq_false e3,Bool.false_and]
                rw [e4] at q
                exact q
            all_goals exact iteT q
          all_goals exact iteT (iteT q)
      | _=>cases ht
    · have ht':dTup d=false:=by simpa using ht
      rw [ht']
      refine iteT ?_
      refine iteT ?_
      have e2:isFrac d=false:=by cases d <;> first | rfl | cases ht'
      rw [e2] at q
      exact q
theorem ok_is_share {f:Addr} {fd:FuncData} (F:Fun K "is_share" "is_share" s_is_share f fd) (T:Txt K mg c)
    (F_is_fraction:FnC CX0 P w K mg base 2 "is_fraction" ["thing"] sp_frac):FnOk P w K mg base CX0 3 f fd ["thing"] sp_share:=by
  refine F.okw sc_is_share (fun vs H Q E h=>?_) (fun cdv A outer s H vs Q E hr h=>?_)
  · unfold sp_share at h
    obtain ⟨x,d,rfl,_⟩:=h
    rfl
  · unfold sp_share at h
    obtain ⟨x,d,rfl,r,q⟩:=h
    refine ⟨_,(wss_one (ws_ret (we_and (we_fn F_is_fraction (hr.mono (by decide)) (wa_k (we_v 0) wa_nil)) (we_one (we_chain op_le op_le we_int (we_ix ix_seq (we_v 0) we_int (fun _ _=>rfl)) (we_ix ix_seq (we_v 0) we_int (fun _ _=>rfl))))))),?_⟩
    refine ⟨_,rfl,?_⟩
    refine sp_frac_i r ?_
    refine ⟨_,rfl,?_⟩
    by_cases hf:isFrac d=true
    · obtain ⟨n,k,rfl,h1,h2⟩:=isFrac_true hf
      rw [hf]
      refine iteT ?_
      unfold Rep RepL RepL RepL at r
      obtain ⟨a,_,rfl,ha,x0,_,rfl,r0,x1,_,rfl,r1,rfl⟩:=r
      cases (show x0=V.int n from r0)
      cases (show x1=V.int k from r1)
      have e4:isShare (.tuple [.int n,.int k])=(decide (0≤n)&&decide (n≤k)):=by
        show ((decide (1≤k)&&decide (Int.gcd n k=1))&&(decide (0≤n)&&decide (n≤k)))=_
        rw [decide_eq_true h1,decide_eq_true h2,Bool.true_and,Bool.true_and]
      rw [e4] at q
      refine ⟨_,rfl,?_⟩
      refine ixT ha rfl ?_
      refine ⟨_,_,rfl,rfl,_,rfl,?_⟩
      refine iteD (fun e=>?_) (fun e=>?_)
      · rw [decide_eq_true e,Bool.true_and] at q
        refine ⟨_,rfl,?_⟩
        refine ixT ha rfl ?_
        exact ⟨_,_,rfl,rfl,q⟩
      · rw [decide_eq_false e,Bool.false_and] at q
        exact q
    · have hf':isFrac d=false:=by simpa using hf
      rw [isShare_false hf'] at q
      rw [hf']
      exact iteF q
end
section
variable {P:Program} {w:World} {K:PySem.W.Frag} {mg:Str→Option Value} {base:Heap} {c:Cl}
theorem ok_common_divisor {f:Addr} {fd:FuncData} (F:Fun K "common_divisor" "common_divisor" s_common_divisor f fd) (T:Txt K mg c):FnOk P w K mg base CX0 1 f fd ["number", "above_nought"] sp_cd:=by
  refine F.okw sc_common_divisor (fun vs H Q E h=>?_) (fun cdv A outer s H vs Q E hr h=>?_)
  · unfold sp_cd at h
    obtain ⟨n,d,rfl,_⟩:=h
    rfl
  · unfold sp_cd at h
    obtain ⟨n,d,rfl,hd,q⟩:=h
    refine ⟨_,(wss_cons (ws_set (i:=2) sc_common_divisor.nd rfl (Or.inl rfl) (we_v 0))
      (wss_cons (ws_set (i:=3) sc_common_divisor.nd rfl (Or.inl rfl) (we_v 1))
      (wss_cons (ws_while PassesOwn.never (wt_cmp op_ne (we_v 3) we_int (nomark _)) (wss_cons (ws_set (i:=4) sc_common_divisor.nd rfl (Or.inl rfl) (we_op op_mod (we_v 2) (we_v 3)))
      (wss_cons (ws_set (i:=2) sc_common_divisor.nd rfl (Or.inl rfl) (we_v 3))
      (wss_one (ws_set (i:=3) sc_common_divisor.nd rfl (Or.inl rfl) (we_v 4))))))
      (wss_one (ws_ret (we_v 2)))))),?_⟩
    refine ⟨_,rfl,_,rfl,?_⟩
    refine while_r (fun m σ H'=>∃ (a b:Int) (c:Option V),σ=[some (.int n),some (.int d),some (.int a),some (.int b),c]∧0≤b∧Int.gcd a b=Int.gcd n d∧(b=0→0<a)∧H'=H∧m=b.toNat)
      (fun σ H'=>∃ (c:Option V),σ=[some (.int n),some (.int d),some (.int (Int.gcd n d)),some (.int 0),c]∧H'=H)
      _ ⟨n,d,none,rfl,by omega,rfl,by omega,rfl,rfl⟩ ?_ ?_
    · rintro m σ H2 ⟨a,b,c,rfl,hb,hg,h0,rfl,rfl⟩
      refine ⟨_,rfl,rfl,_,rfl,?_⟩
      refine iteDN (fun e=>?_) (fun e=>?_)
      · have hb':0<b:=by
          rcases Int.lt_or_eq_of_le hb with h | h
          · exact h
          · exact absurd (congrArg V.int h.symm) e
        refine ⟨_,rfl,_,rfl,_,_,rfl,rfl,hb',_,rfl,_,rfl,?_⟩
        have e1:=Int.emod_lt_of_pos a hb'
        have e2:=Int.emod_nonneg a (b:=b) (by omega)
        exact ⟨_,by omega,b,a % b,_,rfl,e2,by rw [gcd_step,hg],fun _=>hb',rfl,rfl⟩
      · have hb0:b=0:=by injection e
        subst hb0
        have ha:=h0 rfl
        have e1:=gcd_end ha
        rw [hg] at e1
        rw [e1]
        exact ⟨c,rfl,rfl⟩
    · rintro σ H2 ⟨c,rfl,rfl⟩
      exact ⟨_,rfl,q⟩
theorem ok_plus {f:Addr} {fd:FuncData} (F:Fun K "plus" "plus" s_plus f fd) (T:Txt K mg c)
    (F_common_divisor:FnC CX0 P w K mg base 1 "common_divisor" ["number", "above_nought"] sp_cd):FnOk P w K mg base CX0 2 f fd ["one", "other"] (sp_plus K):=by
  refine F.okw sc_plus (fun vs H Q E h=>?_) (fun cdv A outer s H vs Q E hr h=>?_)
  · unfold sp_plus at h
    obtain ⟨x,y,f,g,rfl,_⟩:=h
    rfl
  · unfold sp_plus at h
    obtain ⟨x,y,⟨a,b⟩,⟨c,d⟩,rfl,h1,h2,l1,l2,z1,z2,q⟩:=h
    obtain ⟨p1,rfl,e1⟩:=h1
    obtain ⟨p2,rfl,e2⟩:=h2
    have pb:0<b:=l1.pos
    have pd:0<d:=l2.pos
    obtain ⟨za,zb⟩:=z1
    obtain ⟨zc,zd⟩:=z2
    dsimp only at za zb zc zd e1 e2
    have hG:=gcd_pos (n:=b) pd
    have zG:=gcd_sz (n:=b) pd zd
    have zb':=sz_div zb hG
    have zd':=sz_div zd hG
    have u1:=sz_mul za zd'
    have u2:=sz_mul zc zb'
    have hL:=gcd_pos (n:=a*(d / (Int.gcd b d:Int))+c*(b / (Int.gcd b d:Int))) hG
    have zL:=gcd_sz (n:=a*(d / (Int.gcd b d:Int))+c*(b / (Int.gcd b d:Int))) hG zG
    have eq:addF (a,b) (c,d)=_:=plus_eq l1 l2
    refine ⟨_,(wss_cons (ws_set (i:=2) sc_plus.nd rfl (Or.inl rfl) (we_fn F_common_divisor (hr.mono (by decide)) (wa_k (we_ix ix_seq (we_v 0) we_int (fun _ _=>rfl)) (wa_k (we_ix ix_seq (we_v 1) we_int (fun _ _=>rfl)) wa_nil))))
      (wss_cons (ws_set (i:=3) sc_plus.nd rfl (Or.inl rfl) (we_op op_fdivB (we_ix ix_seq (we_v 0) we_int (fun _ _=>rfl)) (we_v 2)))
      (wss_cons (ws_set (i:=4) sc_plus.nd rfl (Or.inl rfl) (we_op op_fdivB (we_ix ix_seq (we_v 1) we_int (fun _ _=>rfl)) (we_v 2)))
      (wss_cons (ws_set (i:=5) sc_plus.nd rfl (Or.inl rfl) (we_op op_add (we_op op_mulB (we_ix ix_seq (we_v 0) we_int (fun _ _=>rfl)) (we_v 4)) (we_op op_mulB (we_ix ix_seq (we_v 1) we_int (fun _ _=>rfl)) (we_v 3))))
      (wss_cons (ws_set (i:=6) sc_plus.nd rfl (Or.inl rfl) (we_fn F_common_divisor (hr.mono (by decide)) (wa_k (we_v 5) (wa_k (we_v 2) wa_nil))))
      (wss_one (ws_ret (we_tup (wa_k (we_op op_fdivB (we_v 5) (we_v 6)) (wa_k (we_op op_mulB (we_v 3) (we_op op_fdivB (we_ix ix_seq (we_v 1) we_int (fun _ _=>rfl)) (we_v 6))) wa_nil)))))))))),?_⟩
    refine ⟨_,rfl,?_⟩
    refine ixK e1 rfl ?_
    refine ⟨_,rfl,?_⟩
    refine ixK e2 rfl ?_
    refine sp_cd_i pd ?_
    refine ⟨_,rfl,?_⟩
    refine ixK e1 rfl ?_
    refine ⟨_,rfl,_,_,rfl,rfl,divOk hG (sz_mono zG),?_⟩
    refine ⟨_,rfl,?_⟩
    refine ixK e2 rfl ?_
    refine ⟨_,rfl,_,_,rfl,rfl,divOk hG (sz_mono zG),?_⟩
    refine ⟨_,rfl,?_⟩
    refine ixK e1 rfl ?_
    refine ⟨_,rfl,_,_,rfl,rfl,mulB za zd',?_⟩
    refine ⟨_,rfl,?_⟩
    refine ixK e2 rfl ?_
    refine ⟨_,rfl,_,_,rfl,rfl,mulB zc zb',_,_,rfl,rfl,?_⟩
    refine ⟨_,rfl,_,rfl,?_⟩
    refine sp_cd_i hG ?_
    refine ⟨_,rfl,_,rfl,_,_,rfl,rfl,divOk hL (sz_mono zL),?_⟩
    refine ⟨_,rfl,_,rfl,?_⟩
    refine ixK e2 rfl ?_
    refine ⟨_,rfl,_,_,rfl,rfl,divOk hL (sz_mono zL),_,_,rfl,rfl,mulB zb' (sz_div zd hL),?_⟩
    refine nwT (by show 2≤64; decide) fun p H3 hp e3 s3=>?_
    refine q p H3 hp ?_ s3
    rw [eq]
    exact e3
theorem ok_is_less {f:Addr} {fd:FuncData} (F:Fun K "is_less" "is_less" s_is_less f fd) (T:Txt K mg c):FnOk P w K mg base CX0 1 f fd ["one", "other"] (sp_less K):=by
  refine F.okw sc_is_less (fun vs H Q E h=>?_) (fun cdv A outer s H vs Q E hr h=>?_)
  · unfold sp_less at h
    obtain ⟨x,y,f,g,rfl,_⟩:=h
    rfl
  · unfold sp_less at h
    obtain ⟨x,y,⟨a,b⟩,⟨c,d⟩,rfl,h1,h2,⟨za,zb⟩,⟨zc,zd⟩,q⟩:=h
    obtain ⟨p1,rfl,e1⟩:=h1
    obtain ⟨p2,rfl,e2⟩:=h2
    refine ⟨_,(wss_one (ws_ret (we_cmp op_lt (we_op op_mulB (we_ix ix_seq (we_v 0) we_int (fun _ _=>rfl)) (we_ix ix_seq (we_v 1) we_int (fun _ _=>rfl))) (we_op op_mulB (we_ix ix_seq (we_v 1) we_int (fun _ _=>rfl)) (we_ix ix_seq (we_v 0) we_int (fun _ _=>rfl))) (nomark _)))),?_⟩
    refine ⟨_,rfl,?_⟩
    refine ixK e1 rfl ?_
    refine ⟨_,rfl,?_⟩
    refine ixK e2 rfl ?_
    refine ⟨_,_,rfl,rfl,mulB za zd,?_⟩
    refine ⟨_,rfl,?_⟩
    refine ixK e2 rfl ?_
    refine ⟨_,rfl,?_⟩
    refine ixK e1 rfl ?_
    exact ⟨_,_,rfl,rfl,mulB zc zb,_,_,rfl,rfl,q⟩
end
@[irreducible] def sp_lplus (K:PySem.W.Frag):Sp:=fun vs H Q _=>∃ x y f g,vs=[x,y]∧FrV K H f x∧FrV K H g y∧LowF f∧LowF g∧Szf 4000 f∧Szf 4000 g∧NewF H Q (addF f g)
theorem sp_lplus_i {K:PySem.W.Frag} {H:Hp} {Q:VK} {E:XK} {x y:V} {f g:Fr} (h1:FrV K H f x) (h2:FrV K H g y) (l1:LowF f) (l2:LowF g) (z1:Szf 4000 f) (z2:Szf 4000 g) (q:NewF H Q (addF f g)):sp_lplus K [x,y] H Q E:=by unfold sp_lplus; exact ⟨x,y,f,g,rfl,h1,h2,l1,l2,z1,z2,q⟩
section
variable {P:Program} {w:World} {K:PySem.W.Frag} {mg:Str→Option Value} {base:Heap} {c:Cl}
theorem ok__law_plus {f:Addr} {fd:FuncData} (F:Fun K "_law_plus" "_law_plus" s__law_plus f fd) (T:Txt K mg c) (F__law_frac:FnC CX0 P w K mg base 1 "_law_frac" ["_law_n", "_law_d"] sp_lfrac):FnOk P w K mg base CX0 2 f fd ["_law_one", "_law_other"] (sp_lplus K):=by
  refine F.okw sc__law_plus (fun vs H Q E h=>?_) (fun cdv A outer s H vs Q E hr h=>?_)
  · unfold sp_lplus at h
    obtain ⟨x,y,f,g,rfl,_⟩:=h
    rfl
  · unfold sp_lplus at h
    obtain ⟨x,y,f,g,rfl,h1,h2,l1,l2,z1,z2,q⟩:=h
    obtain ⟨p1,rfl,e1⟩:=h1
    obtain ⟨p2,rfl,e2⟩:=h2
    refine ⟨_,(wss_one (ws_ret (we_fn F__law_frac (hr.mono (by decide)) (wa_k (we_op op_add (we_op op_mulB (we_ix ix_seq (we_v 0) we_int (fun _ _=>rfl)) (we_ix ix_seq (we_v 1) we_int (fun _ _=>rfl))) (we_op op_mulB (we_ix ix_seq (we_v 1) we_int (fun _ _=>rfl)) (we_ix ix_seq (we_v 0) we_int (fun _ _=>rfl)))) (wa_k (we_op op_mulB (we_ix ix_seq (we_v 0) we_int (fun _ _=>rfl)) (we_ix ix_seq (we_v 1) we_int (fun _ _=>rfl))) wa_nil))))),?_⟩
    refine ⟨_,rfl,?_⟩
    refine ixK e1 rfl ?_
    refine ⟨_,rfl,?_⟩
    refine ixK e2 rfl ?_
    refine ⟨_,_,rfl,rfl,mulB z1.1 z2.2,?_⟩
    refine ⟨_,rfl,?_⟩
    refine ixK e2 rfl ?_
    refine ⟨_,rfl,?_⟩
    refine ixK e1 rfl ?_
    refine ⟨_,_,rfl,rfl,mulB z2.1 z1.2,_,_,rfl,rfl,?_⟩
    refine ⟨_,rfl,?_⟩
    refine ixK e1 rfl ?_
    refine ⟨_,rfl,?_⟩
    refine ixK e2 rfl ?_
    refine ⟨_,_,rfl,rfl,mulB z1.2 z2.2,?_⟩
    refine sp_lfrac_i (Int.mul_pos l1.pos l2.pos) (sz_mono (sz_mul z1.2 z2.2)) ?_
    exact q
end
def upF (fs:List Fr) (k:Nat):Fr:=totF (fs.take (k+1))
abbrev Hit (l g:Fr):Prop:=l.1*g.2<g.1*l.2
def drw (fs:List Fr) (l:Fr):Nat:=((List.range fs.length).find? fun k=>decide (Hit l (upF fs k))).getD 0
structure IsDr (fs:List Fr) (l:Fr) (j:Nat):Prop where
  lt:j<fs.length
  hit:Hit l (upF fs j)
  no:∀ i,i<j→¬ Hit l (upF fs i)
theorem IsDr.eq {fs:List Fr} {l:Fr} {j:Nat} (h:IsDr fs l j):drw fs l=j:=by
  unfold drw
  have:(List.range fs.length).find? (fun k=>decide (Hit l (upF fs k)))=some j:=by
    rw [List.find?_range_eq_some]
    exact ⟨decide_eq_true h.hit,List.mem_range.mpr h.lt,fun i hi=>by rw [decide_eq_false (h.no i hi)]; rfl⟩
  rw [this]; rfl
theorem SyOk.low {n:Nat} {fs:List Fr} (h:SyOk n fs):∀ f∈fs,LowF f:=fun f hf=>by
  obtain ⟨ns,h1,h2,h3,rfl⟩:=h.ex
  obtain ⟨x,hx,rfl⟩:=List.mem_map.mp hf
  exact lw_low h3
theorem sum_take {ns:List Int} (h:∀ x∈ns,0≤x∧x≤7) (k:Nat):0≤(ns.take k).sum∧(ns.take k).sum≤ns.sum:=by
  have h1:=(sum_le7 fun x hx=>h x (List.mem_of_mem_take (i:=k) hx)).1
  have h2:=(sum_le7 fun x hx=>h x (List.mem_of_mem_drop (i:=k) hx)).1
  have e:ns.sum=(ns.take k).sum+(ns.drop k).sum:=by rw [← List.sum_append,List.take_append_drop]
  omega
structure LtOk (l:Fr):Prop where
  low:LowF l
  nn:0≤l.1
  le:l.1≤l.2
  sz:Szf 1062 l
theorem SyOk.tak {n:Nat} {fs:List Fr} (h:SyOk n fs) (hn:n≤5) (k:Nat):LtOk (totF (fs.take k)):=by
  obtain ⟨ns,h1,h2,h3,rfl⟩:=h.ex
  have s7:=sum_le7 h2
  have st:=sum_take h2 k
  rw [← List.map_take,tot_parts h3]
  have hg:=gcd_pos (n:=(ns.take k).sum) h3
  have e1:(ns.take k).sum.natAbs<2^10:=by show (ns.take k).sum.natAbs<1024; omega
  have e2:ns.sum.natAbs<2^10:=by show ns.sum.natAbs<1024; omega
  refine ⟨lw_low h3,?_,?_,sz_mono (sz_div e1 hg),sz_mono (sz_div e2 hg)⟩
  · exact Int.ediv_nonneg st.1 (by omega)
  · exact Int.ediv_le_ediv hg st.2
theorem SyOk.last {n:Nat} {fs:List Fr} (h:SyOk n fs) {k:Nat} (hk:n≤k):totF (fs.take k)=(1,1):=by
  obtain ⟨ns,h1,h2,h3,rfl⟩:=h.ex
  rw [List.take_of_length_le (by rw [List.length_map]; omega),tot_parts h3,lw_one h3]
theorem Hit.one {l:Fr} (h:l.1<l.2):Hit l (1,1):=by show l.1*1<1*l.2; omega
theorem up_succ {fs:List Fr} {k:Nat} {f:Fr} (h:fs[k]?=some f):totF (fs.take (k+1))=addF (totF (fs.take k)) f:=by
  rw [List.take_succ,h]
  exact totF_snoc _ _
theorem up_zero {f:Fr} {fs:List Fr} (h:LowF f):upF (f::fs) 0=f:=by
  show totF [f]=f
  show addF (0,1) f=f
  unfold addF
  rw [show (0:Int)*f.2+f.1*1=f.1 by omega,show (1:Int)*f.2=f.2 by omega]
  exact lw_self h
theorem szK {f:Fr} (h:Szf 1062 f):Szf 4000 f:=⟨sz_mono h.1,sz_mono h.2⟩
@[irreducible] def sp_drawn:Sp:=fun vs H Q _=>∃ x y fs l n,vs=[x,y]∧Rep H (shD fs) x∧Rep H (frD l) y∧SyOk n fs∧n≤5∧LtOk l∧l.1<l.2∧∀ H',IsDr fs l (drw fs l)→Same H H'→Q (.int (drw fs l:Nat)) H'
theorem sp_drawn_i {H:Hp} {Q:VK} {E:XK} {x y:V} {fs:List Fr} {l:Fr} {n:Nat} (h1:Rep H (shD fs) x) (h2:Rep H (frD l) y) (ok:SyOk n fs) (hn:n≤5) (lo:LtOk l) (lt:l.1<l.2) (q:∀ H',IsDr fs l (drw fs l)→Same H H'→Q (.int (drw fs l:Nat)) H'):sp_drawn [x,y] H Q E:=by
  unfold sp_drawn; exact ⟨x,y,fs,l,n,rfl,h1,h2,ok,hn,lo,lt,q⟩
def isFace (F:Nat):PyData→Bool
  | .int i=>decide (0≤i)&&decide (i<(F:Int))
  | _=>false
@[irreducible] def sp_face:Sp:=fun vs H Q _=>∃ (F:Nat) (x:V) (d:PyData),vs=[.int (F:Int),x]∧Rep H d x∧Q (.bl (isFace F d)) H
theorem sp_face_i {H:Hp} {Q:VK} {E:XK} {F:Nat} {x:V} {d:PyData} (r:Rep H d x) (q:Q (.bl (isFace F d)) H):sp_face [.int (F:Int),x] H Q E:=by
  unfold sp_face; exact ⟨F,x,d,rfl,r,q⟩
section
variable {P:Program} {w:World} {K:PySem.W.Frag} {mg:Str→Option Value} {base:Heap} {c:Cl}
theorem ok_is_face {f:Addr} {fd:FuncData} (F:Fun K "is_face" "is_face" s_is_face f fd) (T:Txt K mg c) (F_is_whole:FnC CX0 P w K mg base 1 "is_whole" ["thing"] sp_whole):FnOk P w K mg base CX0 2 f fd ["faces", "thing"] sp_face:=by
  refine F.okw sc_is_face (fun vs H Q E h=>?_) (fun cdv A outer s H vs Q E hr h=>?_)
  · unfold sp_face at h
    obtain ⟨F,x,d,rfl,_⟩:=h
    rfl
  · unfold sp_face at h
    obtain ⟨F,x,d,rfl,r,q⟩:=h
    refine ⟨_,(wss_one (ws_ret (we_and (we_fn F_is_whole (hr.mono (by decide)) (wa_k (we_v 1) wa_nil)) (we_one (we_chain op_le op_lt we_int (we_v 1) (we_v 0)))))),?_⟩
    refine ⟨_,rfl,?_⟩
    refine sp_whole_i r ?_
    refine ⟨_,rfl,?_⟩
    cases d
    case int i =>
      cases (show x=V.int i from r)
      refine iteT ?_
      refine ⟨_,rfl,_,_,rfl,rfl,_,rfl,?_⟩
      refine iteD (fun e=>?_) (fun e=>?_)
      · refine ⟨_,rfl,_,_,rfl,rfl,?_⟩
        have q':Q (.bl (decide (0≤i)&&decide (i<(F:Int)))) H:=q
        rw [decide_eq_true e,Bool.true_and] at q'
        exact q'
      · have q':Q (.bl (decide (0≤i)&&decide (i<(F:Int)))) H:=q
        rw [decide_eq_false e,Bool.false_and] at q'
        exact q'
    all_goals exact iteF q
set_option maxHeartbeats 4000000 in
theorem ok_drawn {f:Addr} {fd:FuncData} (F:Fun K "drawn" "drawn" s_drawn f fd) (T:Txt K mg c) (F_is_less:FnC CX0 P w K mg base 1 "is_less" ["one", "other"] (sp_less K)) (F_plus:FnC CX0 P w K mg base 2 "plus" ["one", "other"] (sp_plus K)):FnOk P w K mg base CX0 3 f fd ["says", "share"] sp_drawn:=by
  refine F.okw sc_drawn (fun vs H Q E h=>?_) (fun cdv A outer s H vs Q E hr h=>?_)
  · unfold sp_drawn at h
    obtain ⟨x,y,fs,l,n,rfl,_⟩:=h
    rfl
  · unfold sp_drawn at h
    obtain ⟨x,y,fs,l,n,rfl,r1,r2,ok,hn,lo,lt,q⟩:=h
    obtain ⟨a,xs,rfl,ha,rxs⟩:=shD_at r1
    have len:=ok.len
    obtain ⟨f0,fr,rfl⟩:∃ f0 fr,fs=f0::fr:=by
      cases fs with
      | nil =>
        have:=ok.last (k:=0) (by rw [← len]; exact Nat.zero_le _)
        cases this
      | cons f0 fr=>exact ⟨f0,fr,rfl⟩
    obtain ⟨v0,hv0,rv0⟩:=RepL.atX (i:=0) rxs rfl
    refine ⟨_,(wss_cons (ws_set (i:=2) sc_drawn.nd rfl (Or.inl rfl) we_int)
      (wss_cons (ws_set (i:=3) sc_drawn.nd rfl (Or.inl rfl) (we_ix ix_seq (we_v 0) we_int (fun _ _=>rfl)))
      (wss_cons (ws_while PassesOwn.never (wt_not (wt_val (we_fn F_is_less (hr.mono (by decide)) (wa_k (we_v 1) (wa_k (we_v 3) wa_nil))))) (wss_cons (ws_set (i:=2) sc_drawn.nd rfl (Or.inl rfl) (we_op op_add (we_v 2) we_int))
      (wss_one (ws_set (i:=3) sc_drawn.nd rfl (Or.inl rfl) (we_fn F_plus (hr.mono (by decide)) (wa_k (we_v 3) (wa_k (we_ix ix_seq (we_v 0) (we_v 2) (fun _ _=>rfl)) wa_nil)))))))
      (wss_one (ws_ret (we_v 2)))))),?_⟩
    refine ⟨_,rfl,?_⟩
    refine ixT ha (atI_nat hv0) ?_
    have low:=ok.low
    refine while_r (fun m σ H'=>∃ (k:Nat) (v:V),σ=[some (.ref a),some y,some (.int (k:Int)),some v]∧Same H H'∧FrV K H' (upF (f0::fr) k) v∧k<n∧(∀ i,i<k→¬ Hit l (upF (f0::fr) i))∧m=n - k)
      (fun σ H'=>∃ v,σ=[some (.ref a),some y,some (.int (drw (f0::fr) l:Nat)),some v]∧IsDr (f0::fr) l (drw (f0::fr) l)∧Same H H')
      _ ⟨0,v0,rfl,Same.refl _,by rw [up_zero (low f0 (List.mem_cons_self ..))]; exact FrV.of rv0,by rw [← len]; simp,(fun i hi=>by omega),rfl⟩ ?_ ?_
    · rintro m σ H1 ⟨k,v,rfl,s1,rv,hk,hno,rfl⟩
      have ut:=ok.tak hn (k+1)
      refine ⟨_,rfl,_,rfl,?_⟩
      refine sp_less_i (FrV.of (r2.same s1)) rv (szK lo.sz) (szK ut.sz) ?_
      refine ⟨_,rfl,?_⟩
      by_cases e:Hit l (upF (f0::fr) k)
      · rw [decide_eq_true e]
        have isd:IsDr (f0::fr) l k:=⟨by omega,e,hno⟩
        have eq:=isd.eq
        refine iteF ?_
        subst eq
        exact ⟨v,rfl,isd,s1⟩
      · rw [decide_eq_false e]
        refine iteT ?_
        have hk1:k+1<n:=by
          by_cases z:k+1<n
          · exact z
          · have:=ok.last (k:=k+1) (by omega)
            exact absurd (by show Hit l (totF _); rw [this]; exact Hit.one lt) e
        obtain ⟨fk,hfk⟩:∃ fk,(f0::fr)[k+1]?=some fk:=⟨_,List.getElem?_eq_getElem (by omega)⟩
        obtain ⟨vk,hvk,rvk⟩:=RepL.atX (i:=k+1) rxs hfk
        refine ⟨_,rfl,_,_,rfl,rfl,?_⟩
        refine ⟨_,rfl,_,rfl,_,rfl,?_⟩
        refine ixT (s1 _ _ ha) (atI_nat hvk) ?_
        have mem:=List.mem_of_getElem? hfk
        refine sp_plus_i rv (FrV.of (rvk.same s1)) ut.low (low fk mem) (szK ut.sz) (szK (ok.sz hn fk mem)) ?_
        intro q2 H2 hq2 e2 s2
        refine ⟨_,by omega,k+1,.ref q2,rfl,s1.trans s2,?_,hk1,fun i hi=>?_,rfl⟩
        · refine FrV.new ?_
          rw [e2]
          show _=some (HO.tup [.int (totF (List.take (k+1+1) (f0::fr))).1,.int (totF (List.take (k+1+1) (f0::fr))).2])
          rw [up_succ hfk]
          rfl
        · by_cases z:i=k
          · subst z; exact e
          · exact hno i (by omega)
    · rintro σ H1 ⟨v,rfl,isd,s1⟩
      exact ⟨_,rfl,q H1 isd s1⟩
set_option maxHeartbeats 4000000 in
theorem ok__law_drawn {f:Addr} {fd:FuncData} (F:Fun K "_law_drawn" "_law_drawn" s__law_drawn f fd) (T:Txt K mg c) (F__law_plus:FnC CX0 P w K mg base 2 "_law_plus" ["_law_one", "_law_other"] (sp_lplus K)):FnOk P w K mg base CX0 3 f fd ["_law_says_here", "_law_lot_here"] sp_drawn:=by
  refine F.okw sc__law_drawn (fun vs H Q E h=>?_) (fun cdv A outer s H vs Q E hr h=>?_)
  · unfold sp_drawn at h
    obtain ⟨x,y,fs,l,n,rfl,_⟩:=h
    rfl
  · unfold sp_drawn at h
    obtain ⟨x,y,fs,l,n,rfl,r1,r2,ok,hn,lo,lt,q⟩:=h
    obtain ⟨a,xs,rfl,ha,rxs⟩:=shD_at r1
    obtain ⟨al,rfl,hal⟩:=frD_at r2
    have len:=ok.len
    have low:=ok.low
    have lx:xs.length=n:=by rw [rxs.len,List.length_map,len]
    refine ⟨_,(wss_cons (ws_set (i:=2) sc__law_drawn.nd rfl (Or.inl rfl) (we_tup (wa_k we_int (wa_k we_int wa_nil))))
      (wss_cons (ws_for PassesOwn.never rfl (wi_range1 rfl T.b_range (wa_k (we_cB cl_len (by rfl) T.b_len (by decide +kernel) (wa_k (we_v 0) wa_nil)) wa_nil)) (wg_name (i:=3) sc__law_drawn.nd rfl (Or.inl rfl)) (wss_cons (ws_set (i:=2) sc__law_drawn.nd rfl (Or.inl rfl) (we_fn F__law_plus (hr.mono (by decide)) (wa_k (we_v 2) (wa_k (we_ix ix_seq (we_v 0) (we_v 3) (fun _ _=>rfl)) wa_nil))))
      (wss_one (ws_if (wt_cmp op_lt (we_op op_mulB (we_ix ix_seq (we_v 1) we_int (fun _ _=>rfl)) (we_ix ix_seq (we_v 2) we_int (fun _ _=>rfl))) (we_op op_mulB (we_ix ix_seq (we_v 2) we_int (fun _ _=>rfl)) (we_ix ix_seq (we_v 1) we_int (fun _ _=>rfl))) (nomark _)) (wss_one (ws_ret (we_v 3))) wss_nil))))
      (wss_one (ws_ret (we_op op_sub (we_cB cl_len (by rfl) T.b_len (by decide +kernel) (wa_k (we_v 0) wa_nil)) we_int))))),?_⟩
    refine nwT (by show 2≤64; decide) fun q1 H1 hq1 e1 s1=>?_
    refine ⟨_,rfl,?_⟩
    refine rlT (s1 _ _ ha) ?_
    refine ⟨_,rfl,by omega,by omega,?_⟩
    refine for_range (fun i σ H'=>∃ (v:V) (o3:Option V),σ=[some (.ref a),some (.ref al),some v,o3]∧Same H H'∧FrV K H' (totF (fs.take i)) v∧∀ j,j<i→¬ Hit l (upF fs j)) ⟨_,_,rfl,s1,FrV.new (f:=(0,1)) e1,fun j hj=>by omega⟩ ?_ ?_
    · rintro i σ H2 hi ⟨v,o3,rfl,s2,rv,hno⟩
      have hi':i<n:=by omega
      obtain ⟨fk,hfk⟩:∃ fk,fs[i]?=some fk:=⟨_,List.getElem?_eq_getElem (by omega)⟩
      obtain ⟨vk,hvk,rvk⟩:=RepL.atX (i:=i) rxs hfk
      have mem:=List.mem_of_getElem? hfk
      have ut:=ok.tak hn i
      have un:=ok.tak hn (i+1)
      refine ⟨_,rfl,_,rfl,_,rfl,?_⟩
      rw [Int.zero_add]
      refine ixT (s2 _ _ ha) (atI_nat hvk) ?_
      refine sp_lplus_i rv (FrV.of (rvk.same s2)) ut.low (low fk mem) (szK ut.sz) (szK (ok.sz hn fk mem)) ?_
      intro q3 H3 hq3 e3 s3
      rw [← up_succ hfk] at e3
      refine ⟨_,rfl,?_⟩
      refine ixT ((s2.trans s3) _ _ hal) rfl ?_
      refine ⟨_,rfl,?_⟩
      refine ixT e3 rfl ?_
      refine ⟨_,_,rfl,rfl,mulB lo.sz.1 un.sz.2,?_⟩
      refine ⟨_,rfl,?_⟩
      refine ixT e3 rfl ?_
      refine ⟨_,rfl,?_⟩
      refine ixT ((s2.trans s3) _ _ hal) rfl ?_
      refine ⟨_,_,rfl,rfl,mulB un.sz.1 lo.sz.2,_,_,rfl,rfl,_,rfl,?_⟩
      refine iteD (fun e=>?_) (fun e=>?_)
      · have isd:IsDr fs l i:=⟨by omega,e,hno⟩
        have eq:=isd.eq
        refine ⟨_,rfl,?_⟩
        have:=q H3 (by rw [eq]; exact isd) (s2.trans s3)
        rw [eq] at this
        exact this
      · refine ⟨_,_,rfl,s2.trans s3,FrV.new e3,fun j hj=>?_⟩
        by_cases z:j=i
        · subst z; exact e
        · exact hno j (by omega)
    · rintro σ H2 ⟨v,o3,rfl,s2,rv,hno⟩
      exfalso
      have n0:0<n:=by
        rcases Nat.eq_zero_or_pos n with z | z
        · have:=ok.last (k:=0) (by omega)
          cases this
        · exact z
      have:=ok.last (k:=n) (Nat.le_refl _)
      refine hno (n - 1) (by rw [lx]; omega) ?_
      show Hit l (totF (fs.take (n - 1+1)))
      rw [show n - 1+1=n by omega,this]
      exact Hit.one lt
end
end Kw
set_option Elab.async false
set_option linter.all false
set_option maxRecDepth 100000
namespace Kw
open PySem L2 Mf
inductive Deed where
  | look (i:Nat)
  | lot (f:Fr)
abbrev deD:Deed→PyData
  | .look i=>.tuple [.str "look",.int (i:Int)]
  | .lot f=>.tuple [.str "lot",frD f]
abbrev Std:=List Int × Option Nat
abbrev plD:Option Nat→PyData
  | none=>.none
  | some j=>.int (j:Int)
abbrev sdD (s:Std):PyData:=.tuple [ctD s.1,plD s.2]
theorem deD_flat:∀ d:Deed,flatD (deD d)=true
  | .look _=>rfl
  | .lot _=>rfl
theorem des_flat:∀ ts:List Deed,flatDs (ts.map deD)=true
  | []=>rfl
  | t::ts=>by show (flatD (deD t)&&flatDs (ts.map deD))=true; rw [deD_flat,des_flat ts]; rfl
theorem sdD_flat (s:Std):flatD (sdD s)=true:=by
  show (flatD (ctD s.1)&&(flatD (plD s.2)&&true))=true
  rw [ctD_flat]
  cases s.2 <;> rfl
theorem sds_flat:∀ ss:List Std,flatDs (ss.map sdD)=true
  | []=>rfl
  | s::ss=>by show (flatD (sdD s)&&flatDs (ss.map sdD))=true; rw [sdD_flat,sds_flat ss]; rfl
theorem sdD_at {H:Hp} {s:Std} {v:V} (h:Rep H (sdD s) v):∃ a x y,v=.ref a∧H a=some (.tup [x,y])∧Rep H (ctD s.1) x∧Rep H (plD s.2) y:=by
  unfold Rep RepL RepL RepL at h
  obtain ⟨a,_,rfl,h1,x,_,rfl,r1,y,_,rfl,r2,rfl⟩:=h
  exact ⟨a,x,y,rfl,h1,r1,r2⟩
def plV:Option Nat→V
  | none=>.non
  | some j=>.int (j:Int)
theorem plD_at {H:Hp} {o:Option Nat} {v:V} (h:Rep H (plD o) v):v=plV o:=by
  cases o with
  | none=>exact h
  | some j=>exact h
theorem plD_of {H:Hp}:∀ o:Option Nat,Rep H (plD o) (plV o)
  | none=>Rep.non
  | some j=>Rep.int _
def one1 (fs:List Fr):Option Nat:=fs.findIdx? fun f=>decide (f=(1,1))
def come (es:List Ent) (c:List Int):Std:=(c,one1 ((saysAt es c).getD []))
def step (es:List Ent) (s:Std):Deed→Std
  | .look i=>come es (bump s.1 i)
  | .lot f=>(s.1,some (drw ((saysAt es s.1).getD []) f))
def stand (es:List Ent) (F:Nat) (ts:List Deed):Std:=ts.foldl (step es) (come es (List.replicate F 0))
def stands (es:List Ent) (F:Nat) (ts:List Deed):List Std:=(List.range (ts.length+1)).map fun i=>stand es F (ts.take i)
theorem stand_snoc (es:List Ent) (F:Nat) (ts:List Deed) (d:Deed):stand es F (ts++[d])=step es (stand es F ts) d:=by
  unfold stand; rw [List.foldl_append]; rfl
theorem stands_snoc (es:List Ent) (F:Nat) (ts:List Deed) (d:Deed):stands es F (ts++[d])=stands es F ts++[stand es F (ts++[d])]:=by
  unfold stands
  rw [List.length_append,List.length_singleton,List.range_succ,List.map_append]
  congr 1
  · refine List.map_congr_left fun i hi=>?_
    rw [List.take_append_of_le_length (by have:=List.mem_range.mp hi; omega)]
  · show [stand es F (List.take (ts.length+1) (ts++[d]))]=[_]
    rw [List.take_of_length_le (by rw [List.length_append]; exact Nat.le_refl _)]
theorem stands_len (es:List Ent) (F:Nat) (ts:List Deed):(stands es F ts).length=ts.length+1:=by unfold stands; rw [List.length_map,List.length_range]
theorem stands_last (es:List Ent) (F:Nat) (ts:List Deed):(stands es F ts)[ts.length]?=some (stand es F ts):=by
  unfold stands
  rw [List.getElem?_map,List.getElem?_range (by omega),Option.map_some,List.take_length]
def okD (F:Nat) (s:Std):Deed→Prop
  | .look i=>s.2=some 0∧i<F
  | .lot l=>s.2=none∧LtOk l∧l.1<l.2
inductive Rt (es:List Ent) (F:Nat):List Deed→Prop where
  | nil:Rt es F []
  | snoc {ts:List Deed} {d:Deed} (h:Rt es F ts) (k:okD F (stand es F ts) d):Rt es F (ts++[d])
theorem Rt.pop {es:List Ent} {F:Nat} {ts:List Deed} {d:Deed} (h:Rt es F (ts++[d])):Rt es F ts∧okD F (stand es F ts) d:=by
  generalize e:ts++[d]=us at h
  cases h with
  | nil=>simp at e
  | snoc h k =>
    obtain ⟨rfl,e2⟩:=List.append_inj' e rfl
    cases e2
    exact ⟨h,k⟩
structure InR (F W:Nat) (es:List Ent) (s:Std):Prop where
  ex:∃ fs,(s.1,fs)∈es∧saysAt es s.1=some fs∧SyOk (1+W) fs∧(s.2=some 0→hd fs≠(0,1))∧∀ j,s.2=some j→j<fs.length
  len:s.1.length=F
  nn:∀ x∈s.1,0≤x
theorem saysAt_of {es:List Ent} (nd:(es.map (·.1)).Nodup) {c:List Int} {fs:List Fr} (h:(c,fs)∈es):saysAt es c=some fs:=by
  induction es with
  | nil=>cases h
  | cons e es ih =>
    rw [List.map_cons,List.nodup_cons] at nd
    unfold saysAt
    by_cases he:e.1=c
    · rw [List.find?_cons_of_pos (by simpa using he)]
      rcases List.mem_cons.mp h with rfl | h
      · rfl
      · exact absurd (by rw [he]; exact List.mem_map.mpr ⟨_,h,rfl⟩) nd.1
    · rw [List.find?_cons_of_neg (by simpa using he)]
      rcases List.mem_cons.mp h with rfl | h
      · exact absurd rfl he
      · exact ih nd.2 h
theorem one1_lt {fs:List Fr} {j:Nat} (h:one1 fs=some j):fs[j]?=some (1,1)∧∀ i,i<j→fs[i]? ≠ some (1,1):=by
  unfold one1 at h
  rw [List.findIdx?_eq_some_iff_getElem] at h
  obtain ⟨h1,h2,h3⟩:=h
  refine ⟨by rw [List.getElem?_eq_getElem h1]; simpa using h2,fun i hi e=>?_⟩
  have:=h3 i hi
  have hi':i<fs.length:=by omega
  rw [List.getElem?_eq_getElem hi'] at e
  injection e with e
  rw [e] at this
  simp at this
theorem one1_none {fs:List Fr} (h:one1 fs=none):(1,1) ∉ fs:=fun hm=>by
  unfold one1 at h
  rw [List.findIdx?_eq_none_iff] at h
  have:=h _ hm
  simp at this
theorem come_in {F W M:Nat} {es:List Ent} (ok:RuOk F W M es) {c:List Int} (h:c∈es.map (·.1)):InR F W es (come es c):=by
  obtain ⟨⟨c',fs⟩,he,rfl⟩:=List.mem_map.mp h
  have sa:=saysAt_of ok.nd he
  obtain ⟨h1,h2,h3,h4⟩:=ok.each _ he
  refine ⟨⟨fs,he,sa,h4,fun h0=>?_,fun j hj=>?_⟩,h1,h2⟩
  · have h0':one1 ((saysAt es c').getD [])=some 0:=h0
    rw [sa] at h0'
    have:=(one1_lt h0').1
    cases fs with
    | nil=>cases this
    | cons f fs=>cases this; show ((1,1):Fr)≠(0,1); decide
  · have hj':one1 ((saysAt es c').getD [])=some j:=hj
    rw [sa] at hj'
    exact (List.getElem?_eq_some_iff.mp (one1_lt hj').1).1
theorem step_in {F W M:Nat} {es:List Ent} (ok:RuOk F W M es) (hW:W≤4) {s:Std} (h:InR F W es s) {d:Deed} (k:okD F s d):InR F W es (step es s d):=by
  obtain ⟨fs,he,sa,sy,h0,hj⟩:=h.ex
  cases d with
  | look i =>
    refine come_in ok ?_
    have hn:=h0 k.1
    have hm:bump s.1 i∈nexts s.1 (hd fs):=by
      unfold nexts
      rw [if_neg hn]
      exact List.mem_map.mpr ⟨i,List.mem_range.mpr (by rw [h.len]; exact k.2),rfl⟩
    rcases ok.clo.fwd _ he _ hm with h | h
    · exact h
    · cases h
  | lot l =>
    have isd:IsDr fs l (drw fs l):=by
      have hn:0<1+W:=by omega
      have len:=sy.len
      have:∃ j,IsDr fs l j:=by
        have hl:=sy.last (k:=W+1) (by omega)
        have fin:∀ n,(∃ j,j≤n∧Hit l (upF fs j))→∃ j,j≤n∧Hit l (upF fs j)∧∀ i,i<j→¬ Hit l (upF fs i):=fun n=>by
          induction n with
          | zero =>
            rintro ⟨j,hj,h⟩
            exact ⟨j,hj,h,fun i hi=>by omega⟩
          | succ n ih =>
            rintro ⟨j,hj,h⟩
            by_cases q:∃ j,j≤n∧Hit l (upF fs j)
            · obtain ⟨j,a,b⟩:=ih q
              exact ⟨j,by omega,b⟩
            · exact ⟨j,hj,h,fun i hi hh=>q ⟨i,by omega,hh⟩⟩
        obtain ⟨j,a,b,e⟩:=fin W ⟨W,Nat.le_refl _,by show Hit l (totF (fs.take (W+1))); rw [hl]; exact Hit.one k.2.2⟩
        exact ⟨j,by omega,b,e⟩
      obtain ⟨j,isd⟩:=this
      rw [isd.eq]; exact isd
    have es':(step es s (.lot l))=(s.1,some (drw fs l)):=by unfold step; rw [sa]; rfl
    rw [es']
    refine ⟨⟨fs,he,sa,sy,fun h0=>?_,fun j hj=>?_⟩,h.len,h.nn⟩
    · injection h0 with h0
      have hit:=isd.hit
      rw [h0] at hit
      intro hh
      cases fs with
      | nil=>cases isd.lt
      | cons f fs =>
        rw [up_zero (sy.low f (List.mem_cons_self ..))] at hit
        have hf:f=(0,1):=hh
        rw [hf] at hit
        have h1:l.1*1<0*l.2:=hit
        have:=k.2.1.nn
        omega
    · injection hj with hj
      subst hj
      exact isd.lt
theorem Rt.inR {F W M:Nat} {es:List Ent} (ok:RuOk F W M es) (hW:W≤4) {ts:List Deed} (h:Rt es F ts):InR F W es (stand es F ts):=by
  induction h with
  | nil =>
    refine come_in ok ?_
    rcases ok.clo.zero with h | h
    · exact h
    · cases h
  | snoc h k ih =>
    rw [stand_snoc]
    exact step_in ok hW ih k
def dueS:Option Nat→Str
  | none => "lot"
  | some 0 => "look"
  | some (_+1) => ""
def wayV:Option Nat→V
  | some (j+1)=>.int (j:Int)
  | _=>.non
end Kw
set_option Elab.async false
set_option linter.all false
set_option maxRecDepth 100000
namespace Kw
open PySem L2 Mf
abbrev s_Watch___init__:Stmt:=(inClass (top 29) 0)
theorem sc_Watch___init__:FnScope ["self", "rule"] ["self", "rule"] (defScope s_Watch___init__):=⟨rfl,rfl,rfl,by decide +kernel,rfl,by decide +kernel,by decide +kernel⟩
abbrev s_Watch_come_to:Stmt:=(inClass (top 29) 1)
theorem sc_Watch_come_to:FnScope ["self", "counts", "says"] ["self", "counts"] (defScope s_Watch_come_to):=⟨rfl,rfl,rfl,by decide +kernel,rfl,by decide +kernel,by decide +kernel⟩
abbrev s_Watch_look:Stmt:=(inClass (top 29) 2)
theorem sc_Watch_look:FnScope ["self", "face"] ["self", "face"] (defScope s_Watch_look):=⟨rfl,rfl,rfl,by decide +kernel,rfl,by decide +kernel,by decide +kernel⟩
abbrev s_Watch_lot:Stmt:=(inClass (top 29) 3)
theorem sc_Watch_lot:FnScope ["self", "share", "counts"] ["self", "share"] (defScope s_Watch_lot):=⟨rfl,rfl,rfl,by decide +kernel,rfl,by decide +kernel,by decide +kernel⟩
abbrev s_Watch_refuse_unless:Stmt:=(inClass (top 29) 4)
theorem sc_Watch_refuse_unless:FnScope ["self", "word", "now"] ["self", "word"] (defScope s_Watch_refuse_unless):=⟨rfl,rfl,rfl,by decide +kernel,rfl,by decide +kernel,by decide +kernel⟩
abbrev s_Watch_back:Stmt:=(inClass (top 29) 5)
theorem sc_Watch_back:FnScope ["self"] ["self"] (defScope s_Watch_back):=⟨rfl,rfl,rfl,by decide +kernel,rfl,by decide +kernel,by decide +kernel⟩
abbrev s_Watch_due:Stmt:=(inClass (top 29) 6)
theorem sc_Watch_due:FnScope ["self", "place"] ["self"] (defScope s_Watch_due):=⟨rfl,rfl,rfl,by decide +kernel,rfl,by decide +kernel,by decide +kernel⟩
abbrev s_Watch_seen:Stmt:=(inClass (top 29) 7)
theorem sc_Watch_seen:FnScope ["self"] ["self"] (defScope s_Watch_seen):=⟨rfl,rfl,rfl,by decide +kernel,rfl,by decide +kernel,by decide +kernel⟩
abbrev s_Watch_way:Stmt:=(inClass (top 29) 8)
theorem sc_Watch_way:FnScope ["self"] ["self"] (defScope s_Watch_way):=⟨rfl,rfl,rfl,by decide +kernel,rfl,by decide +kernel,by decide +kernel⟩
abbrev s_Watch_trail:Stmt:=(inClass (top 29) 9)
theorem sc_Watch_trail:FnScope ["self"] ["self"] (defScope s_Watch_trail):=⟨rfl,rfl,rfl,by decide +kernel,rfl,by decide +kernel,by decide +kernel⟩
abbrev s_NoLook___init__:Stmt:=(inClass (top 5) 0)
theorem sc_NoLook___init__:FnScope ["self", "word"] ["self", "word"] (defScope s_NoLook___init__):=⟨rfl,rfl,rfl,by decide +kernel,rfl,by decide +kernel,by decide +kernel⟩
structure Wt where
  a:Addr
  dx:Addr
  d:Addr
  t:Addr
  s:Addr
abbrev wF (W:Wt) (F:Nat):List (Str × V):=[("says_of",.ref W.d),("faces",.int (F:Int)),("told",.ref W.t),("stands",.ref W.s)]
theorem lk_d (W:Wt) (F:Nat):(wF W F).lookup ("says_of" : Str)=some (.ref W.d):=rfl
theorem lk_f (W:Wt) (F:Nat):(wF W F).lookup ("faces" : Str)=some (.int (F:Int)):=rfl
theorem lk_t (W:Wt) (F:Nat):(wF W F).lookup ("told" : Str)=some (.ref W.t):=rfl
theorem lk_s (W:Wt) (F:Nat):(wF W F).lookup ("stands" : Str)=some (.ref W.s):=rfl
structure WI (C:Addr) (H:Hp) (W:Wt) (F:Nat) (es:List Ent):Prop where
  ins:H W.a=some (.ins C W.dx (wF W F))
  dic:∃ kvs,FzT H W.d kvs∧Paired (EnV H) kvs es
structure WAt (C:Addr) (H:Hp) (W:Wt) (F:Nat) (es:List Ent) (ts:List Deed):Prop where
  wi:WI C H W F es
  told:∃ xs,H W.t=some (.lst xs)∧RepL H (ts.map deD) xs
  stds:∃ xs,H W.s=some (.lst xs)∧RepL H ((stands es F ts).map sdD) xs
  ne:W.t≠W.s
def SameX (S:List Addr) (H H':Hp):Prop:=∀ b o,b ∉ S→H b=some o→H' b=some o
theorem SameX.of {S:List Addr} {H H':Hp} (s:Same H H'):SameX S H H':=fun b o _ h=>s b o h
theorem SameX.but {S:List Addr} {H H':Hp} {p:Addr} (s:SameBut p H H') (h:p∈S):SameX S H H':=fun b o hb e=>s.at (fun z=>hb (z ▸ h)) e
theorem SameX.trans {S:List Addr} {H H1 H2:Hp} (a:SameX S H H1) (b:SameX S H1 H2):SameX S H H2:=fun c o hc h=>b c o hc (a c o hc h)
theorem SameX.t {S:List Addr} {H H':Hp} (a:SameX S H H') (h:∀ b∈S,∀ xs,H b≠some (.tup xs)):SameT H H':=fun b xs e=>a b _ (fun z=>h b z xs e) e
theorem WI.keep {C:Addr} {H H':Hp} {W:Wt} {F:Nat} {es:List Ent} (w:WI C H W F es) (t:SameT H H') (h1:∀ o,H W.a=some o→H' W.a=some o) (h2:∀ o,H W.d=some o→H' W.d=some o):WI C H' W F es:=by
  obtain ⟨kvs,⟨o,e⟩,p⟩:=w.dic
  exact ⟨h1 _ w.ins,kvs,⟨o,h2 _ e⟩,paired_t t p⟩
theorem WAt.keep {C:Addr} {H H':Hp} {W:Wt} {F:Nat} {es:List Ent} {ts:List Deed} (w:WAt C H W F es ts) (t:SameT H H') (h1:∀ o,H W.a=some o→H' W.a=some o) (h2:∀ o,H W.d=some o→H' W.d=some o) (h3:∀ o,H W.t=some o→H' W.t=some o) (h4:∀ o,H W.s=some o→H' W.s=some o):WAt C H' W F es ts:=by
  obtain ⟨xs,e1,r1⟩:=w.told
  obtain ⟨ys,e2,r2⟩:=w.stds
  exact ⟨w.wi.keep t h1 h2,⟨xs,h3 _ e1,r1.flat t (des_flat _)⟩,⟨ys,h4 _ e2,r2.flat t (sds_flat _)⟩,w.ne⟩
theorem WAt.same {C:Addr} {H H':Hp} {W:Wt} {F:Nat} {es:List Ent} {ts:List Deed} (w:WAt C H W F es ts) (s:Same H H'):WAt C H' W F es ts:=w.keep s.t (fun o h=>s _ _ h) (fun o h=>s _ _ h) (fun o h=>s _ _ h) (fun o h=>s _ _ h)
theorem WI.same {C:Addr} {H H':Hp} {W:Wt} {F:Nat} {es:List Ent} (w:WI C H W F es) (s:Same H H'):WI C H' W F es:=w.keep s.t (fun o h=>s _ _ h) (fun o h=>s _ _ h)
theorem WI.list {C:Addr} {H H':Hp} {W:Wt} {F:Nat} {es:List Ent} (w:WI C H W F es) {l:Addr} {xs:List V} (b:SameBut l H H') (hl:H l=some (.lst xs)):WI C H' W F es:=by
  obtain ⟨kvs,⟨o,e⟩,p⟩:=w.dic
  exact w.keep (b.t hl) (fun o' h=>b.at (ne_of h hl (by rw [w.ins] at h; cases h; intro z; cases z)) h) (fun o' h=>b.at (ne_of h hl (by rw [e] at h; cases h; intro z; cases z)) h)
theorem WAt.last {C:Addr} {H:Hp} {W:Wt} {F:Nat} {es:List Ent} {ts:List Deed} (w:WAt C H W F es ts):∃ xs v,H W.s=some (.lst xs)∧atI xs (-1)=some v∧Rep H (sdD (stand es F ts)) v:=by
  obtain ⟨xs,e,r⟩:=w.stds
  obtain ⟨v,hv,rv⟩:=RepL.atX r (stands_last es F ts)
  have lx:xs.length=ts.length+1:=by rw [r.len,List.length_map,stands_len]
  refine ⟨xs,v,e,?_,rv⟩
  have hix:ixN xs.length (-1)=some ts.length:=by
    unfold ixN
    rw [if_neg (by decide),if_pos (by omega)]
    congr 1
    omega
  unfold atI
  rw [hix]
  exact hv
theorem fr_cs (fs:List Fr):fs.map frD=(fs.map fun f=>[f.1,f.2]).map ctD:=by
  rw [List.map_map]; rfl
theorem fr_in (fs:List Fr):decide ([(1:Int),1]∈fs.map fun f=>[f.1,f.2])=decide (((1:Int),(1:Int))∈fs):=by
  rw [decide_eq_decide,List.mem_map]
  constructor
  · rintro ⟨f,hf,e⟩
    injection e with e1 e2
    injection e2 with e2 _
    have:f=(1,1):=by cases f; simp at e1 e2; rw [e1,e2]
    rw [← this]; exact hf
  · intro h
    exact ⟨_,h,rfl⟩
theorem tyU {K:PySem.W.Frag} {H:Hp} {l:Addr} {xs:List V} (h:H l=some (.tup xs)):tyV K "tuple" (.ref l) H:=.inr (.inl ⟨rfl,.inr ⟨xs,h⟩⟩)
@[irreducible] def rPpI:V→List V→Hp→VK→Prop:=rPop
theorem mt_pp {X:Cx}:MtR X "list.pop" rPpI:=by unfold rPpI; exact mt_pop
theorem ppL {H:Hp} {l:Addr} {xs:List V} {y:V} {Q:VK} (h:H l=some (.lst (xs++[y]))) (k:∀ H',H' l=some (.lst xs)→SameBut l H H'→Q y H'):rPpI (.ref l) [] H Q:=by
  unfold rPpI
  refine ⟨l,xs++[y],y,rfl,rfl,h,by rw [List.length_append,List.length_singleton,Nat.add_sub_cancel,List.getElem?_append_right (Nat.le_refl _),Nat.sub_self]; rfl,?_⟩
  rw [List.dropLast_concat]
  exact k _ upd_same SameBut.self
theorem RepL.snoc {H:Hp} {α:Type} {g:α→PyData} {as:List α} {a:α} {xs:List V} (h:RepL H ((as++[a]).map g) xs):∃ ys y,xs=ys++[y]∧RepL H (as.map g) ys∧Rep H (g a) y:=by
  rw [List.map_append] at h
  induction as generalizing xs with
  | nil =>
    unfold RepL at h
    obtain ⟨x,xs',rfl,h1,h2⟩:=h
    unfold RepL at h2
    subst h2
    exact ⟨[],x,rfl,RepL.nil,h1⟩
  | cons b as ih =>
    rw [List.map_cons,List.cons_append] at h
    unfold RepL at h
    obtain ⟨x,xs',rfl,h1,h2⟩:=h
    obtain ⟨ys,y,rfl,r1,r2⟩:=ih h2
    exact ⟨x::ys,y,rfl,RepL.cons h1 r1,r2⟩
@[irreducible] def sp_due (C:Addr):Sp:=fun vs H Q _=>∃ (W:Wt) (F:Nat) (es:List Ent) (ts:List Deed),vs=[.ref W.a]∧WAt C H W F es ts∧Q (.str (dueS (stand es F ts).2)) H
theorem sp_due_i {C:Addr} {H:Hp} {Q:VK} {E:XK} {W:Wt} {F:Nat} {es:List Ent} {ts:List Deed} (h:WAt C H W F es ts) (q:Q (.str (dueS (stand es F ts).2)) H):sp_due C [.ref W.a] H Q E:=by unfold sp_due; exact ⟨W,F,es,ts,rfl,h,q⟩
@[irreducible] def sp_seen (C:Addr):Sp:=fun vs H Q _=>∃ (W:Wt) (F:Nat) (es:List Ent) (ts:List Deed),vs=[.ref W.a]∧WAt C H W F es ts∧∀ v,Rep H (ctD (stand es F ts).1) v→Q v H
theorem sp_seen_i {C:Addr} {H:Hp} {Q:VK} {E:XK} {W:Wt} {F:Nat} {es:List Ent} {ts:List Deed} (h:WAt C H W F es ts) (q:∀ v,Rep H (ctD (stand es F ts).1) v→Q v H):sp_seen C [.ref W.a] H Q E:=by unfold sp_seen; exact ⟨W,F,es,ts,rfl,h,q⟩
@[irreducible] def sp_way (C:Addr):Sp:=fun vs H Q _=>∃ (W:Wt) (F:Nat) (es:List Ent) (ts:List Deed),vs=[.ref W.a]∧WAt C H W F es ts∧Q (wayV (stand es F ts).2) H
theorem sp_way_i {C:Addr} {H:Hp} {Q:VK} {E:XK} {W:Wt} {F:Nat} {es:List Ent} {ts:List Deed} (h:WAt C H W F es ts) (q:Q (wayV (stand es F ts).2) H):sp_way C [.ref W.a] H Q E:=by unfold sp_way; exact ⟨W,F,es,ts,rfl,h,q⟩
@[irreducible] def sp_trail (C:Addr):Sp:=fun vs H Q _=>∃ (W:Wt) (F:Nat) (es:List Ent) (ts:List Deed),vs=[.ref W.a]∧WAt C H W F es ts∧ts.length≤100∧∀ D xs H',H D=none→H' D=some (.lst xs)→RepL H' (ts.map deD) xs→Same H H'→Q (.ref D) H'
theorem sp_trail_i {C:Addr} {H:Hp} {Q:VK} {E:XK} {W:Wt} {F:Nat} {es:List Ent} {ts:List Deed} (h:WAt C H W F es ts) (hl:ts.length≤100) (q:∀ D xs H',H D=none→H' D=some (.lst xs)→RepL H' (ts.map deD) xs→Same H H'→Q (.ref D) H'):sp_trail C [.ref W.a] H Q E:=by unfold sp_trail; exact ⟨W,F,es,ts,rfl,h,hl,q⟩
@[irreducible] def sp_wcome (C:Addr):Sp:=fun vs H Q _=>∃ (W:Wt) (F:Nat) (es:List Ent) (x:V) (cs:List Int) (fs:List Fr) (xs:List V),vs=[.ref W.a,x]∧WI C H W F es∧Rep H (ctD cs) x∧saysAt es cs=some fs∧fs.length≤64∧H W.s=some (.lst xs)∧xs.length≤100 ∧
  ∀ v H',H' W.s=some (.lst (xs++[v]))→Rep H' (sdD (come es cs)) v→SameBut W.s H H'→Q .non H'
theorem sp_wcome_i {C:Addr} {H:Hp} {Q:VK} {E:XK} {W:Wt} {F:Nat} {es:List Ent} {x:V} {cs:List Int} {fs:List Fr} {xs:List V} (h:WI C H W F es) (r:Rep H (ctD cs) x) (sa:saysAt es cs=some fs) (lf:fs.length≤64) (hs:H W.s=some (.lst xs)) (lx:xs.length≤100)
    (q:∀ v H',H' W.s=some (.lst (xs++[v]))→Rep H' (sdD (come es cs)) v→SameBut W.s H H'→Q .non H'):sp_wcome C [.ref W.a,x] H Q E:=by unfold sp_wcome; exact ⟨W,F,es,x,cs,fs,xs,rfl,h,r,sa,lf,hs,lx,q⟩
@[irreducible] def sp_wini (C:Addr):Sp:=fun vs H Q _=>∃ (x dx:Addr) (r:V) (F nW M:Nat) (es:List Ent),vs=[.ref x,r]∧H x=some (.ins C dx [])∧Rep H (ruD es) r∧RuOk F nW M es∧F≤4∧nW≤4∧∀ d t s H',H d=none→H t=none→H s=none→WAt C H' ⟨x,dx,d,t,s⟩ F es []→SameBut x H H'→Q .non H'
theorem sp_wini_i {C:Addr} {H:Hp} {Q:VK} {E:XK} {x dx:Addr} {r:V} {F nW M:Nat} {es:List Ent} (h:H x=some (.ins C dx [])) (rr:Rep H (ruD es) r) (ok:RuOk F nW M es) (hF:F≤4) (hW:nW≤4) (q:∀ d t s H',H d=none→H t=none→H s=none→WAt C H' ⟨x,dx,d,t,s⟩ F es []→SameBut x H H'→Q .non H'):sp_wini C [.ref x,r] H Q E:=by unfold sp_wini; exact ⟨x,dx,r,F,nW,M,es,rfl,h,rr,ok,hF,hW,q⟩
section
variable {P:Program} {w:World} {K:PySem.W.Frag} {mg:Str→Option Value} {base:Heap} {c:Cl}
theorem ok_Watch_due {f:Addr} {fd:FuncData} (F:Fun K "due" "Watch.due" s_Watch_due f fd) (T:Txt K mg c):FnOk P w K mg base CX0 1 f fd ["self"] (sp_due c.Watch):=by
  refine F.okw sc_Watch_due (fun vs H Q E h=>?_) (fun cdv A outer s H vs Q E hr h=>?_)
  · unfold sp_due at h
    obtain ⟨W,F,es,ts,rfl,_⟩:=h
    rfl
  · unfold sp_due at h
    obtain ⟨W,F,es,ts,rfl,wa,q⟩:=h
    have O:=T.w_Watch
    obtain ⟨xs,v,e,hv,rv⟩:=wa.last
    obtain ⟨a,x,y,rfl,ha,rx,ry⟩:=sdD_at rv
    cases plD_at ry
    refine ⟨_,(wss_cons (ws_set (i:=1) sc_Watch_due.nd rfl (Or.inl rfl) (we_ix ix_seq (we_ix ix_seq (we_fldO K (we_v 0)) (we_un un_neg we_int) (fun _ _=>rfl)) we_int (fun _ _=>rfl)))
      (wss_cons (ws_if (wt_cmp op_isN (we_v 1) we_non (nomark _)) (wss_one (ws_ret we_str)) wss_nil)
      (wss_one (ws_ret (we_ifExp (wt_cmp op_eq (we_v 1) (we_glob (v:=.int 0) rfl T.g_LOOKS_ON ⟨_,rfl⟩) (nomark _)) we_str we_str))))),?_⟩
    refine ⟨_,rfl,?_⟩
    refine fldO O (by simp) wa.wi.ins (lk_s W F) ?_
    refine ⟨_,rfl,?_⟩
    refine ixL e hv ?_
    refine ixT ha rfl ?_
    generalize (stand es F ts).2=o at *
    cases o with
    | none=>exact ⟨_,rfl,rfl,_,rfl,iteT q⟩
    | some j =>
      refine ⟨_,rfl,rfl,_,rfl,iteF ?_⟩
      refine ⟨_,rfl,rfl,_,rfl,?_⟩
      cases j with
      | zero=>exact iteT q
      | succ j=>exact iteD (fun z=>by injection z with z; exact absurd z (by omega)) (fun _=>q)
theorem ok_Watch_seen {f:Addr} {fd:FuncData} (F:Fun K "seen" "Watch.seen" s_Watch_seen f fd) (T:Txt K mg c):FnOk P w K mg base CX0 1 f fd ["self"] (sp_seen c.Watch):=by
  refine F.okw sc_Watch_seen (fun vs H Q E h=>?_) (fun cdv A outer s H vs Q E hr h=>?_)
  · unfold sp_seen at h
    obtain ⟨W,F,es,ts,rfl,_⟩:=h
    rfl
  · unfold sp_seen at h
    obtain ⟨W,F,es,ts,rfl,wa,q⟩:=h
    have O:=T.w_Watch
    obtain ⟨xs,v,e,hv,rv⟩:=wa.last
    obtain ⟨a,x,y,rfl,ha,rx,ry⟩:=sdD_at rv
    refine ⟨_,(wss_one (ws_ret (we_ix ix_seq (we_ix ix_seq (we_fldO K (we_v 0)) (we_un un_neg we_int) (fun _ _=>rfl)) we_int (fun _ _=>rfl)))),?_⟩
    refine ⟨_,rfl,?_⟩
    refine fldO O (by simp) wa.wi.ins (lk_s W F) ?_
    refine ⟨_,rfl,?_⟩
    refine ixL e hv ?_
    refine ixT ha rfl ?_
    exact q _ rx
theorem ok_Watch_way {f:Addr} {fd:FuncData} (F:Fun K "way" "Watch.way" s_Watch_way f fd) (T:Txt K mg c) (F_Watch_due:FnM P w K mg base 1 c.Watch "due" ["self"] (sp_due c.Watch)):FnOk P w K mg base CX0 2 f fd ["self"] (sp_way c.Watch):=by
  refine F.okw sc_Watch_way (fun vs H Q E h=>?_) (fun cdv A outer s H vs Q E hr h=>?_)
  · unfold sp_way at h
    obtain ⟨W,F,es,ts,rfl,_⟩:=h
    rfl
  · unfold sp_way at h
    obtain ⟨W,F,es,ts,rfl,wa,q⟩:=h
    have O:=T.w_Watch
    obtain ⟨xs,v,e,hv,rv⟩:=wa.last
    obtain ⟨a,x,y,rfl,ha,rx,ry⟩:=sdD_at rv
    cases plD_at ry
    refine ⟨_,(wss_one (ws_ret (we_ifExp (wt_cmp op_ne (we_mth0 F_Watch_due T.w_Watch.cls (hr.mono (by decide)) (we_v 0)) we_str (nomark _)) we_non (we_op op_sub (we_ix ix_seq (we_ix ix_seq (we_fldO K (we_v 0)) (we_un un_neg we_int) (fun _ _=>rfl)) we_int (fun _ _=>rfl)) we_int)))),?_⟩
    refine ⟨_,rfl,W.a,W.dx,_,rfl,wa.wi.ins,rfl,?_⟩
    refine sp_due_i wa ?_
    refine ⟨rfl,_,rfl,?_⟩
    generalize (stand es F ts).2=o at *
    match o with
    | none=>exact iteT q
    | some 0=>exact iteT q
    | some (j+1) =>
      refine iteF ?_
      refine ⟨_,rfl,?_⟩
      refine fldO O (by simp) wa.wi.ins (lk_s W F) ?_
      refine ⟨_,rfl,?_⟩
      refine ixL e hv ?_
      refine ixT ha rfl ?_
      refine ⟨_,_,rfl,rfl,?_⟩
      have:(((j+1:Nat):Int) - 1)=(j:Int):=by omega
      show Q (.int (((j+1:Nat):Int) - 1)) H
      rw [this]
      exact q
theorem ok_Watch_trail {f:Addr} {fd:FuncData} (F:Fun K "trail" "Watch.trail" s_Watch_trail f fd) (T:Txt K mg c):FnOk P w K mg base CX0 1 f fd ["self"] (sp_trail c.Watch):=by
  refine F.okw sc_Watch_trail (fun vs H Q E h=>?_) (fun cdv A outer s H vs Q E hr h=>?_)
  · unfold sp_trail at h
    obtain ⟨W,F,es,ts,rfl,_⟩:=h
    rfl
  · unfold sp_trail at h
    obtain ⟨W,F,es,ts,rfl,wa,hl,q⟩:=h
    have O:=T.w_Watch
    obtain ⟨xs,e,r⟩:=wa.told
    refine ⟨_,(wss_one (ws_ret (we_cT call_list_of (by rfl) T.b_list (by decide +kernel) (wa_k (we_fldO K (we_v 0)) wa_nil)))),?_⟩
    refine ⟨_,rfl,?_⟩
    refine fldO O (by simp) wa.wi.ins (lk_t W F) ?_
    refine ⟨W.t,xs,rfl,.inl (SqL.of e),fun l hl'=>?_⟩
    have sl:=Same.upd (o:=.lst xs) hl'
    exact q l xs _ hl' upd_same (r.same sl) sl
set_option maxHeartbeats 4000000 in
theorem ok_Watch_come_to {f:Addr} {fd:FuncData} (F:Fun K "come_to" "Watch.come_to" s_Watch_come_to f fd) (T:Txt K mg c):FnOk P w K mg base CX0 1 f fd ["self", "counts"] (sp_wcome c.Watch):=by
  refine F.okw sc_Watch_come_to (fun vs H Q E h=>?_) (fun cdv A outer s H vs Q E hr h=>?_)
  · unfold sp_wcome at h
    obtain ⟨W,F,es,x,cs,fs,xs,rfl,_⟩:=h
    rfl
  · unfold sp_wcome at h
    obtain ⟨W,F,es,x,cs,fs,xs,rfl,wi,rx,sa,lf,hs,lx,q⟩:=h
    have O:=T.w_Watch
    obtain ⟨kvs,fz,pr⟩:=wi.dic
    obtain ⟨v,hv,rv⟩:=(val_of pr).2 fs sa
    obtain ⟨a,vs,rfl,ha,rvs⟩:=shD_at rv
    obtain ⟨ax,rfl,hax⟩:=ctD_at rx
    refine ⟨_,(wss_cons (ws_set (i:=2) sc_Watch_come_to.nd rfl (Or.inl rfl) (we_dget hr.u1 (we_fldO K (we_v 0)) (we_v 1)))
      (wss_one (ws_expr (we_bm PySem.F.plainAttrs_list PySem.F.slot_list_append PySem.F.type_list_append mt_app (we_fldO K (we_v 0)) (wa_k (we_tup (wa_k (we_v 1) (wa_k (we_ifExp (wt_cmp (op_inT K hr.units) (we_glob (v:=.ref c.ONE) rfl T.g_ONE rfl) (we_v 2) (by with_unfolding_all rfl)) (we_bm PySem.F.plainAttrs_tuple PySem.F.slot_tuple_index PySem.F.type_tuple_index (mt_idxT K hr.units) (we_v 2) (wa_k (we_glob (v:=.ref c.ONE) rfl T.g_ONE rfl) wa_nil)) we_non) wa_nil))) wa_nil))))),?_⟩
    refine ⟨_,rfl,?_⟩
    refine fldO O (by simp) wi.ins (lk_d W F) ?_
    refine ⟨_,rfl,?_⟩
    refine dgZ fz hax hv ?_
    refine ⟨_,rfl,?_⟩
    refine fldO O (by simp) wi.ins (lk_s W F) ?_
    refine ⟨tyL hs,?_⟩
    have rK:RepK K H (cD [1,1]) (.ref c.ONE):=RepK.tup (sqT_ints T.o_ONE) (RepKL.ints [1,1])
    have done:∀ j,j=one1 fs→rNewT [V.ref ax,plV j] H fun v H'=>rApp (.ref W.s) [v] H' fun _ H'=>Q .non H':=fun j hj=>by
      refine nwT (by show 2≤64; decide) fun q1 H1 hq1 e1 s1=>?_
      refine appL (s1 _ _ hs) (by omega) fun H2 e2 b2=>?_
      have t2:=b2.t (s1 _ _ hs)
      refine q (.ref q1) H2 e2 ?_ (s1.but.trans b2)
      have ec:come es cs=(cs,j):=by unfold come; rw [sa,hj]; rfl
      rw [ec]
      exact Rep.tup (t2 _ _ e1) (RepL.cons (rx.flat (s1.t.trans t2) (ctD_flat _)) (RepL.cons (by
        have:Rep H2 (plD j) (plV j):=plD_of j
        exact this) RepL.nil))
    refine ⟨_,rfl,_,rfl,?_⟩
    have rcs:RepL H ((fs.map fun f=>[f.1,f.2]).map cD) vs:=by rw [← fr_cs]; exact rvs
    refine riT (cs:=fs.map fun f=>[f.1,f.2]) (c:=[1,1]) (.inr (SqT.of ha)) rcs rK ?_
    rw [if_neg (by decide),fr_in]
    refine ⟨_,rfl,?_⟩
    cases ho:one1 fs with
    | none =>
      rw [decide_eq_false (one1_none ho)]
      exact iteF (done none ho.symm)
    | some j =>
      obtain ⟨h1,h2⟩:=one1_lt ho
      rw [decide_eq_true (List.mem_of_getElem? h1)]
      refine iteT ⟨_,rfl,tyU ha,?_⟩
      refine idxT (cs:=fs.map fun f=>[f.1,f.2]) (c:=[1,1]) (j:=j) ha rcs.k rK (by rw [List.getElem?_map,h1]; rfl) (fun i hi z=>?_) ?_
      · rw [List.getElem?_map] at z
        obtain ⟨g,hg,ge⟩:=Option.map_eq_some_iff.mp z
        injection ge with g1 g2
        injection g2 with g2 _
        exact h2 i hi (by rw [hg]; congr 1; exact Prod.ext g1 g2)
      exact done (some j) ho.symm
end
section
variable {P:Program} {w:World} {K:PySem.W.Frag} {mg:Str→Option Value} {base:Heap} {c:Cl}
theorem pf1 (a b:V):putF "faces" b [(("says_of" : Str),a)]=[(("says_of" : Str),a),("faces",b)]:=by
  unfold putF
  rw [if_neg (by decide)]
  rfl
theorem pf2 (a b d:V):putF "told" d [(("says_of" : Str),a),("faces",b)]=[(("says_of" : Str),a),("faces",b),("told",d)]:=by
  unfold putF putF
  rw [if_neg (by decide),if_neg (by decide)]
  rfl
theorem pf3 (a b d e:V):putF "stands" e [(("says_of" : Str),a),("faces",b),("told",d)]=[(("says_of" : Str),a),("faces",b),("told",d),("stands",e)]:=by
  unfold putF putF putF
  rw [if_neg (by decide),if_neg (by decide),if_neg (by decide)]
  rfl
set_option maxHeartbeats 4000000 in
theorem ok_Watch___init__ {f:Addr} {fd:FuncData} (F:Fun K "__init__" "Watch.__init__" s_Watch___init__ f fd) (T:Txt K mg c) (F_rule_faces:FnC CX0 P w K mg base 1 "rule_faces" ["rule"] sp_rule_faces) (F_noughts:FnC CX0 P w K mg base 1 "noughts" ["faces"] sp_noughts)
    (F_Watch_come_to:FnM P w K mg base 1 c.Watch "come_to" ["self", "counts"] (sp_wcome c.Watch)):FnOk P w K mg base CX0 2 f fd ["self", "rule"] (sp_wini c.Watch):=by
  refine F.okw sc_Watch___init__ (fun vs H Q E h=>?_) (fun cdv A outer s H vs Q E hr h=>?_)
  · unfold sp_wini at h
    obtain ⟨x,dx,r,F,nW,M,es,rfl,_⟩:=h
    rfl
  · unfold sp_wini at h
    obtain ⟨x,dx,r,F,nW,M,es,rfl,hx,rr,ok,hF,hW,q⟩:=h
    have O:=T.w_Watch
    have rr0:=rr
    obtain ⟨ar,xr,rfl,har,rxr⟩:=ruD_at rr
    obtain ⟨kvs,pr,env⟩:=pairs_of rxr
    have lk:kvs.length=es.length:=Paired.length env
    have les:=ok.len
    have ndk:(kvs.map (·.1)).Nodup:=by
      rw [keys_of env]
      have:=nodup_map_on (f:=fun c:List Int=>c.map (Sum.inl:Int→Key)) ok.nd fun x _ y _ e=>inl_inj e
      rwa [List.map_map] at this
    obtain ⟨e0,er,rfl⟩:∃ e0 er,es=e0::er:=by
      cases es with
      | nil=>exact absurd rfl ok.ne
      | cons e0 er=>exact ⟨e0,er,rfl⟩
    have l0:=(ok.each e0 (List.mem_cons_self ..)).1
    refine ⟨_,(wss_cons (ws_fldO (we_v 0) (we_cT (cl_dictZ hr.units rfl) (by rfl) T.b_dict (by decide +kernel) (wa_k (we_v 1) wa_nil)))
      (wss_cons (ws_fldO (we_v 0) (we_fn F_rule_faces (hr.mono (by decide)) (wa_k (we_v 1) wa_nil)))
      (wss_cons (ws_fldO (we_v 0) (we_lst wa_nil))
      (wss_cons (ws_fldO (we_v 0) (we_lst wa_nil))
      (wss_one (ws_expr (we_mth F_Watch_come_to T.w_Watch.cls (hr.mono (by decide)) (we_v 0) (wa_k (we_fn F_noughts (hr.mono (by decide)) (wa_k (we_fldO K (we_v 0)) wa_nil)) wa_nil)))))))),?_⟩
    refine ⟨_,rfl,?_⟩
    refine rdcz har pr ndk (by omega) fun d H1 hd fz1 s1=>?_
    have hx1:=s1 _ _ hx
    refine ⟨_,rfl,x,c.Watch,dx,_,rfl,hx1,O.cls,O.no _ (by simp),by show 0<1000; decide,?_⟩
    have b2:=SameBut.self (p:=x) (H:=H1) (o:=.ins c.Watch dx (putF "says_of" (.ref d) []))
    have e2:(upd H1 x (.ins c.Watch dx (putF "says_of" (.ref d) []))) x=some (.ins c.Watch dx [("says_of",.ref d)]):=upd_same
    generalize upd H1 x (.ins c.Watch dx (putF "says_of" (.ref d) []))=H2 at b2 e2 ⊢
    have tI:∀ {H H':Hp} {fl:List (Str × V)},SameBut x H H'→H x=some (.ins c.Watch dx fl)→SameT H H':=fun s hx b ys h=>s.at (ne_of h hx (by intro z; cases z)) h
    have t2:SameT H H2:=s1.t.trans (tI b2 hx1)
    have B2:SameBut x H H2:=s1.but.trans b2
    have ndx:d≠x:=fun z=>by rw [z,hx] at hd; cases hd
    have fz2:FzT H2 d kvs:=by
      obtain ⟨o,h⟩:=fz1
      exact ⟨o,b2.at ndx h⟩
    refine ⟨_,rfl,?_⟩
    refine sp_rule_faces_i (rr0.flat t2 (ens_flat _)) ?_
    rw [l0]
    refine ⟨_,rfl,x,c.Watch,dx,_,rfl,e2,O.cls,O.no _ (by simp),by show 1<1000; decide,?_⟩
    rw [pf1]
    have b3:=SameBut.self (p:=x) (H:=H2) (o:=.ins c.Watch dx [("says_of",.ref d),("faces",.int ((F:Nat):Int))])
    have e3:(upd H2 x (.ins c.Watch dx [("says_of",.ref d),("faces",.int ((F:Nat):Int))])) x=some (.ins c.Watch dx [("says_of",.ref d),("faces",.int ((F:Nat):Int))]):=upd_same
    generalize upd H2 x (.ins c.Watch dx [("says_of",.ref d),("faces",.int ((F:Nat):Int))])=H3 at b3 e3 ⊢
    have t3:=t2.trans (tI b3 e2)
    have B3:=B2.trans b3
    have fz3:FzT H3 d kvs:=by
      obtain ⟨o,h⟩:=fz2
      exact ⟨o,b3.at ndx h⟩
    refine nwL (by show 0≤64; decide) fun ta H4 hta e4 s4=>?_
    refine ⟨_,rfl,x,c.Watch,dx,_,rfl,s4 _ _ e3,O.cls,O.no _ (by simp),by show 2<1000; decide,?_⟩
    rw [pf2]
    have b5:=SameBut.self (p:=x) (H:=H4) (o:=.ins c.Watch dx [("says_of",.ref d),("faces",.int ((F:Nat):Int)),("told",.ref ta)])
    have e5:(upd H4 x (.ins c.Watch dx [("says_of",.ref d),("faces",.int ((F:Nat):Int)),("told",.ref ta)])) x=some (.ins c.Watch dx [("says_of",.ref d),("faces",.int ((F:Nat):Int)),("told",.ref ta)]):=upd_same
    generalize upd H4 x (.ins c.Watch dx [("says_of",.ref d),("faces",.int ((F:Nat):Int)),("told",.ref ta)])=H5 at b5 e5 ⊢
    have ntx:ta≠x:=fun z=>by rw [z,e3] at hta; cases hta
    have t5:=(t3.trans s4.t).trans (tI b5 (s4 _ _ e3))
    have B5:=(B3.trans s4.but).trans b5
    have e5t:=b5.at ntx e4
    have fz5:FzT H5 d kvs:=by
      obtain ⟨o,h⟩:=fz3
      exact ⟨o,b5.at ndx (s4 _ _ h)⟩
    refine nwL (by show 0≤64; decide) fun sa H6 hsa e6 s6=>?_
    refine ⟨_,rfl,x,c.Watch,dx,_,rfl,s6 _ _ e5,O.cls,O.no _ (by simp),by show 3<1000; decide,?_⟩
    rw [pf3]
    have b7:=SameBut.self (p:=x) (H:=H6) (o:=.ins c.Watch dx (wF ⟨x,dx,d,ta,sa⟩ F))
    have e7:(upd H6 x (.ins c.Watch dx (wF ⟨x,dx,d,ta,sa⟩ F))) x=some (.ins c.Watch dx (wF ⟨x,dx,d,ta,sa⟩ F)):=upd_same
    generalize upd H6 x (.ins c.Watch dx (wF ⟨x,dx,d,ta,sa⟩ F))=H7 at b7 e7 ⊢
    have nsx:sa≠x:=fun z=>by rw [z,e5] at hsa; cases hsa
    have nst:ta≠sa:=fun z=>by rw [← z,e5t] at hsa; cases hsa
    have t7:=(t5.trans s6.t).trans (tI b7 (s6 _ _ e5))
    have B7:=(B5.trans s6.but).trans b7
    have e7t:=b7.at ntx (s6 _ _ e5t)
    have e7s:=b7.at nsx e6
    have fz7:FzT H7 d kvs:=by
      obtain ⟨o,h⟩:=fz5
      exact ⟨o,b7.at ndx (s6 _ _ h)⟩
    have wi7:WI c.Watch H7 ⟨x,dx,d,ta,sa⟩ F (e0::er):=⟨e7,kvs,fz7,paired_t t7 env⟩
    refine ⟨_,rfl,x,dx,_,rfl,e7,rfl,?_⟩
    refine ⟨_,rfl,?_⟩
    refine fldO O (by simp) e7 (lk_f ⟨x,dx,d,ta,sa⟩ F) ?_
    refine sp_noughts_i (by omega) fun v H8 s8 r8=>?_
    have ir:=(Rt.nil (es:=e0::er) (F:=F)).inR ok hW
    obtain ⟨fs,he,sa',sy,_,_⟩:=ir.ex
    refine sp_wcome_i (W:=⟨x,dx,d,ta,sa⟩) (wi7.same s8) r8 sa' (by rw [sy.len]; omega) (s8 _ _ e7s) (by decide) fun v9 H9 e9 r9 b9=>?_
    have hx0:∃ o,H7 x=some o:=⟨_,e7⟩
    have B9:SameBut x H H9:=by
      have hs0:H sa=none:=SameBut.free B5 ⟨_,e5⟩ hsa
      exact SameBut.thru hs0 (B7.trans s8.but) b9
    refine q d ta sa H9 hd (SameBut.free B3 ⟨_,e3⟩ hta) (SameBut.free B5 ⟨_,e5⟩ hsa) ⟨(wi7.same s8).list b9 (s8 _ _ e7s),⟨[],b9.at nst (s8 _ _ e7t),RepL.nil⟩,⟨_,e9,RepL.cons r9 RepL.nil⟩,nst⟩ B9
end
end Kw
set_option Elab.async false
set_option linter.all false
set_option maxRecDepth 100000
namespace Kw
open PySem L2 Mf
def Flies (N:Addr) (E:XK) (H:Hp) (x:Str):Prop:=∀ d H',Same H H'→H' d=some (XdO d [("word",.str x)])→E (.ref N) (some d) H'
def lookW (F:Nat) (d:PyData):Option Nat→Option Str
  | none=>some "lot"
  | some 0=>if isFace F d then none else some "face"
  | some (_+1)=>some "said"
def lotW (d:PyData):Option Nat→Option Str
  | none=>if isShare d && !(PyData.eqv d (frD (1,1))) then none else some "share"
  | some 0=>some "look"
  | some (_+1)=>some "said"
@[irreducible] def sp_iniN (C:Addr) (n:Str):Sp:=fun vs H Q _=>∃ a x,vs=[.ref a,x]∧H a=some (ExcN a C none)∧∀ d,H d=none→d≠a→Q .non (upd (upd H a (ExcN a C (some d))) d (XdO d [(n,x)]))
theorem sp_iniN_i {C:Addr} {n:Str} {H:Hp} {Q:VK} {E:XK} {a:Addr} {x:V} (e:H a=some (ExcN a C none)) (q:∀ d,H d=none→d≠a→Q .non (upd (upd H a (ExcN a C (some d))) d (XdO d [(n,x)]))):sp_iniN C n [.ref a,x] H Q E:=by
  unfold sp_iniN; exact ⟨a,x,rfl,e,q⟩
theorem flies {N:Addr} {E E':XK} {H:Hp} {x:Str} (q:Flies N E H x) {a:Addr} (ha:H a=none):sp_iniN N "word" [.ref a,.str x] (upd H a (ExcN a N none)) (fun v H2=>v=.non∧∃ od,H2 a=some (ExcN a N od)∧E (.ref N) od (del H2 a)) E':=by
  refine sp_iniN_i upd_same fun d hd1 hne=>?_
  refine ⟨rfl,some d,(upd_ne (Ne.symm hne)).trans upd_same,?_⟩
  have hd2:H d=none:=by rw [upd_ne hne] at hd1; exact hd1
  refine q d _ (fun b o e=>?_) ((del_ne hne).trans upd_same)
  have n1:b≠a:=fun z=>by subst z; rw [ha] at e; cases e
  have n2:b≠d:=fun z=>by subst z; rw [hd2] at e; cases e
  rw [del_ne n1,upd_ne n2,upd_ne n1,upd_ne n1]; exact e
@[irreducible] def sp_refuseX (C N:Addr):Sp:=fun vs H Q E=>∃ (W:Wt) (F:Nat) (es:List Ent) (ts:List Deed) (x:Str),vs=[.ref W.a,.str x]∧WAt C H W F es ts∧(dueS (stand es F ts).2 = "" → Flies N E H "said")∧(dueS (stand es F ts).2 ≠ "" → dueS (stand es F ts).2≠x→Flies N E H (dueS (stand es F ts).2))∧(dueS (stand es F ts).2 ≠ "" → dueS (stand es F ts).2=x→Q .non H)
theorem sp_refuseX_i {C N:Addr} {H:Hp} {Q:VK} {E:XK} {W:Wt} {F:Nat} {es:List Ent} {ts:List Deed} {x:Str} (h:WAt C H W F es ts) (q1:dueS (stand es F ts).2 = "" → Flies N E H "said") (q2:dueS (stand es F ts).2 ≠ "" → dueS (stand es F ts).2≠x→Flies N E H (dueS (stand es F ts).2)) (q3:dueS (stand es F ts).2 ≠ "" → dueS (stand es F ts).2=x→Q .non H):sp_refuseX C N [.ref W.a,.str x] H Q E:=by
  unfold sp_refuseX; exact ⟨W,F,es,ts,x,rfl,h,q1,q2,q3⟩
structure RtOk (F nW M:Nat) (es:List Ent) (ts:List Deed):Prop where
  ok:RuOk F nW M es
  f4:F≤4
  w4:nW≤4
  rt:Rt es F ts
  l40:ts.length≤40
@[irreducible] def sp_lookX (C N:Addr):Sp:=fun vs H Q E=>∃ (W:Wt) (F nW M:Nat) (es:List Ent) (ts:List Deed) (y:V) (d:PyData),vs=[.ref W.a,y]∧Rep H d y∧WAt C H W F es ts∧RtOk F nW M es ts ∧
  (∀ x,lookW F d (stand es F ts).2=some x→Flies N E H x)∧(∀ i:Nat,d=.int (i:Int)→okD F (stand es F ts) (.look i)→∀ H',WAt C H' W F es (ts++[.look i])→SameX [W.t,W.s] H H'→Q .non H')
theorem sp_lookX_i {C N:Addr} {H:Hp} {Q:VK} {E:XK} {W:Wt} {F nW M:Nat} {es:List Ent} {ts:List Deed} {y:V} {d:PyData} (r:Rep H d y) (h:WAt C H W F es ts) (ok:RtOk F nW M es ts) (q1:∀ x,lookW F d (stand es F ts).2=some x→Flies N E H x)
    (q2:∀ i:Nat,d=.int (i:Int)→okD F (stand es F ts) (.look i)→∀ H',WAt C H' W F es (ts++[.look i])→SameX [W.t,W.s] H H'→Q .non H'):sp_lookX C N [.ref W.a,y] H Q E:=by unfold sp_lookX; exact ⟨W,F,nW,M,es,ts,y,d,rfl,r,h,ok,q1,q2⟩
@[irreducible] def sp_lotX (C N:Addr):Sp:=fun vs H Q E=>∃ (W:Wt) (F nW M:Nat) (es:List Ent) (ts:List Deed) (y:V) (d:PyData),vs=[.ref W.a,y]∧Rep H d y∧SeqAt.shaped d=true∧WAt C H W F es ts∧RtOk F nW M es ts ∧
  (∀ x,lotW d (stand es F ts).2=some x→Flies N E H x)∧(lotW d (stand es F ts).2=none→∃ l,d=frD l∧okD F (stand es F ts) (.lot l)∧∀ H',WAt C H' W F es (ts++[.lot l])→SameX [W.t,W.s] H H'→Q .non H')
theorem sp_lotX_i {C N:Addr} {H:Hp} {Q:VK} {E:XK} {W:Wt} {F nW M:Nat} {es:List Ent} {ts:List Deed} {y:V} {d:PyData} (r:Rep H d y) (sh:SeqAt.shaped d=true) (h:WAt C H W F es ts) (ok:RtOk F nW M es ts) (q1:∀ x,lotW d (stand es F ts).2=some x→Flies N E H x)
    (q2:lotW d (stand es F ts).2=none→∃ l,d=frD l∧okD F (stand es F ts) (.lot l)∧∀ H',WAt C H' W F es (ts++[.lot l])→SameX [W.t,W.s] H H'→Q .non H'):sp_lotX C N [.ref W.a,y] H Q E:=by unfold sp_lotX; exact ⟨W,F,nW,M,es,ts,y,d,rfl,r,sh,h,ok,q1,q2⟩
@[irreducible] def sp_backX (C N:Addr):Sp:=fun vs H Q E=>∃ (W:Wt) (F:Nat) (es:List Ent) (ts:List Deed),vs=[.ref W.a]∧WAt C H W F es ts∧(ts=[]→E (.ref N) none H)∧∀ us d,ts=us++[d]→∀ H',WAt C H' W F es us→SameX [W.t,W.s] H H'→Q .non H'
theorem sp_backX_i {C N:Addr} {H:Hp} {Q:VK} {E:XK} {W:Wt} {F:Nat} {es:List Ent} {ts:List Deed} (h:WAt C H W F es ts) (q1:ts=[]→E (.ref N) none H) (q2:∀ us d,ts=us++[d]→∀ H',WAt C H' W F es us→SameX [W.t,W.s] H H'→Q .non H'):sp_backX C N [.ref W.a] H Q E:=by
  unfold sp_backX; exact ⟨W,F,es,ts,rfl,h,q1,q2⟩
section
variable {P:Program} {w:World} {K:PySem.W.Frag} {mg:Str→Option Value} {base:Heap} {c:Cl}
theorem ok_NoLook___init__ {f:Addr} {fd:FuncData} (F:Fun K "__init__" "NoLook.__init__" s_NoLook___init__ f fd) (T:Txt K mg c):FnOk P w K mg base CX0 1 f fd ["self", "word"] (sp_iniN c.NoLook "word"):=by
  refine F.okw sc_NoLook___init__ (fun vs H Q E h=>?_) (fun cdv A outer s H vs Q E hr h=>?_)
  · unfold sp_iniN at h
    obtain ⟨a,x,rfl,_⟩:=h
    rfl
  · unfold sp_iniN at h
    obtain ⟨a,x,rfl,ea,q⟩:=h
    refine ⟨_,(wss_cons (ws_expr (we_baseN T.bc_EarlyError T.g_EarlyError (wa_k (we_v 0) (wa_k (we_v 1) wa_nil))))
      (wss_one (ws_fldN (we_v 0) (we_v 1)))),?_⟩
    refine ⟨_,rfl,_,rfl,a,c.NoLook,none,_,rfl,by show 2≤64; decide,ea,(setAll.shape T.st_NoLook),?_⟩
    refine ⟨_,rfl,_,rfl,a,c.NoLook,rfl,(setAll.set T.st_NoLook),(setAll.no T.st_NoLook (by simp)),.inl ⟨ea,fun d nd na=>?_⟩⟩
    exact q d nd na
theorem ok_Watch_refuse_unless {f:Addr} {fd:FuncData} (F:Fun K "refuse_unless" "Watch.refuse_unless" s_Watch_refuse_unless f fd) (T:Txt K mg c) (F_Watch_due:FnM P w K mg base 1 c.Watch "due" ["self"] (sp_due c.Watch)) (F_NoLook___init__:FnI P w K mg base 1 c.NoLook ["self", "word"] (sp_iniN c.NoLook "word")):FnOk P w K mg base (CX1 P w) 3 f fd ["self", "word"] (sp_refuseX c.Watch c.NoLook):=by
  refine F.okx sc_Watch_refuse_unless (fun vs H Q E h=>?_) (fun cdv A outer s H vs Q E hr h hx hmd=>?_)
  · unfold sp_refuseX at h
    obtain ⟨W,F,es,ts,x,rfl,_⟩:=h
    rfl
  · unfold sp_refuseX at h
    obtain ⟨W,F,es,ts,x,rfl,wa,q1,q2,q3⟩:=h
    have O:=T.w_Watch
    refine ⟨_,(wss_cons (ws_set (i:=2) sc_Watch_refuse_unless.nd rfl (Or.inl rfl) (we_mth0 F_Watch_due T.w_Watch.cls (hr.mono (by decide)) (we_v 0)))
      (wss_cons (ws_if (wt_cmp op_eq (we_v 2) we_str (nomark _)) (wss_one (ws_raiseX F_NoLook___init__ T.g_NoLook rfl (hr.mono (by decide)) xmadeG_fn (wa_k we_str wa_nil))) wss_nil)
      (wss_one (ws_if (wt_cmp op_ne (we_v 2) (we_v 1) (nomark _)) (wss_one (ws_raiseX F_NoLook___init__ T.g_NoLook rfl (hr.mono (by decide)) xmadeG_fn (wa_k (we_v 2) wa_nil))) wss_nil)))),?_⟩
    refine ⟨_,rfl,W.a,W.dx,_,rfl,wa.wi.ins,rfl,?_⟩
    refine sp_due_i wa ?_
    generalize dueS (stand es F ts).2=u at q1 q2 q3
    refine ⟨_,rfl,rfl,_,rfl,?_⟩
    refine iteD (fun z=>?_) (fun n=>?_)
    · refine ⟨by show 1≤64; decide,fun ex hex=>?_⟩
      exact flies (q1 (by injection z)) hex
    · have n':u ≠ "" := fun z=>n (by rw [z])
      refine ⟨_,rfl,_,rfl,rfl,_,rfl,?_⟩
      refine iteDN (fun z=>?_) (fun z=>?_)
      · refine ⟨_,rfl,by show 1≤64; decide,fun ex hex=>?_⟩
        exact flies (q2 n' (fun e=>z (by rw [e]))) hex
      · exact q3 n' (by injection z)
theorem ok_Watch_back {f:Addr} {fd:FuncData} (F:Fun K "back" "Watch.back" s_Watch_back f fd) (T:Txt K mg c):FnOk P w K mg base (CX1 P w) 1 f fd ["self"] (sp_backX c.Watch c.NoBack):=by
  refine F.okx sc_Watch_back (fun vs H Q E h=>?_) (fun cdv A outer s H vs Q E hr h hx hmd=>?_)
  · unfold sp_backX at h
    obtain ⟨W,F,es,ts,rfl,_⟩:=h
    rfl
  · unfold sp_backX at h
    obtain ⟨W,F,es,ts,rfl,wa,q1,q⟩:=h
    have O:=T.w_Watch
    obtain ⟨xs,e1,r1⟩:=wa.told
    obtain ⟨ys,e2,r2⟩:=wa.stds
    have lx:xs.length=ts.length:=by rw [r1.len,List.length_map]
    refine ⟨_,(wss_cons (ws_if (wt_cmp op_eq (we_cB cl_len (by rfl) T.b_len (by decide +kernel) (wa_k (we_fldO K (we_v 0)) wa_nil)) we_int (nomark _)) (wss_one (ws_raise T.x_NoBack T.g_NoBack rfl hmd (wa_k we_str wa_nil))) wss_nil)
      (wss_cons (ws_expr (we_bm0 PySem.F.plainAttrs_list PySem.F.slot_list_pop PySem.F.type_list_pop mt_pp (we_fldO K (we_v 0))))
      (wss_one (ws_expr (we_bm0 PySem.F.plainAttrs_list PySem.F.slot_list_pop PySem.F.type_list_pop mt_pp (we_fldO K (we_v 0))))))),?_⟩
    refine ⟨_,rfl,?_⟩
    refine fldO O (by simp) wa.wi.ins (lk_t W F) ?_
    refine rlL e1 ?_
    refine ⟨rfl,_,rfl,?_⟩
    refine iteD (fun z=>?_) (fun z=>?_)
    · refine ⟨by show 1≤64; decide,q1 (List.length_eq_zero_iff.mp ?_)⟩
      injection z with z
      omega
    obtain ⟨us,d,rfl⟩:∃ us d,ts=us++[d]:=by
      cases hts:ts.reverse with
      | nil =>
        have:ts=[]:=by rw [← List.reverse_reverse ts,hts]; rfl
        rw [this] at lx
        exact absurd (by rw [lx]; rfl) z
      | cons d t0=>exact ⟨t0.reverse,d,by rw [← List.reverse_reverse ts,hts,List.reverse_cons]⟩
    obtain ⟨xs,x,rfl,r1,rx⟩:=RepL.snoc r1
    rw [stands_snoc] at r2
    obtain ⟨ys,y,rfl,r2,ry⟩:=RepL.snoc r2
    refine ⟨_,rfl,?_⟩
    refine fldO O (by simp) wa.wi.ins (lk_t W F) ?_
    refine ⟨tyL e1,?_⟩
    refine ppL e1 fun H1 e3 b1=>?_
    have w1:=wa.wi.list b1 e1
    have e4:=b1.at (Ne.symm wa.ne) e2
    refine ⟨_,rfl,?_⟩
    refine fldO O (by simp) w1.ins (lk_s W F) ?_
    refine ⟨tyL e4,?_⟩
    refine ppL e4 fun H2 e5 b2=>?_
    have w2:=w1.list b2 e4
    have t2:=(b1.t e1).trans (b2.t e4)
    refine q us d rfl H2 ⟨w2,⟨xs,b2.at wa.ne e3,r1.flat t2 (des_flat _)⟩,⟨ys,e5,r2.flat t2 (sds_flat _)⟩,wa.ne⟩ ?_
    exact (SameX.but b1 (by simp)).trans (SameX.but b2 (by simp))
set_option maxHeartbeats 4000000 in
theorem ok_Watch_look {f:Addr} {fd:FuncData} (F:Fun K "look" "Watch.look" s_Watch_look f fd) (T:Txt K mg c) (F_Watch_refuse_unless:FnMX P w K mg base 3 c.Watch "refuse_unless" ["self", "word"] (sp_refuseX c.Watch c.NoLook)) (F_is_face:FnC CX0 P w K mg base 2 "is_face" ["faces", "thing"] sp_face) (F_NoLook___init__:FnI P w K mg base 1 c.NoLook ["self", "word"] (sp_iniN c.NoLook "word"))
    (F_Watch_come_to:FnM P w K mg base 1 c.Watch "come_to" ["self", "counts"] (sp_wcome c.Watch)) (F_one_more:FnC CX0 P w K mg base 1 "one_more" ["counts", "face"] sp_one_more) (F_Watch_seen:FnM P w K mg base 1 c.Watch "seen" ["self"] (sp_seen c.Watch)):FnOk P w K mg base (CX1 P w) 4 f fd ["self", "face"] (sp_lookX c.Watch c.NoLook):=by
  refine F.okx sc_Watch_look (fun vs H Q E h=>?_) (fun cdv A outer s H vs Q E hr h hx hmd=>?_)
  · unfold sp_lookX at h
    obtain ⟨W,F,nW,M,es,ts,y,d,rfl,_⟩:=h
    rfl
  · unfold sp_lookX at h
    obtain ⟨W,F,nW,M,es,ts,y,d,rfl,ry,wa,ok,qe,q⟩:=h
    have O:=T.w_Watch
    have ir:=ok.rt.inR ok.ok ok.w4
    refine ⟨_,(wss_cons (ws_expr (we_mthX F_Watch_refuse_unless T.w_Watch.cls (hr.mono (by decide)) hx (we_v 0) (wa_k we_str wa_nil)))
      (wss_cons (ws_if (wt_not (wt_val (we_fn F_is_face (hr.mono (by decide)) (wa_k (we_fldO K (we_v 0)) (wa_k (we_v 1) wa_nil))))) (wss_one (ws_raiseX F_NoLook___init__ T.g_NoLook rfl (hr.mono (by decide)) xmadeG_fn (wa_k we_str wa_nil))) wss_nil)
      (wss_cons (ws_expr (we_mth F_Watch_come_to T.w_Watch.cls (hr.mono (by decide)) (we_v 0) (wa_k (we_fn F_one_more (hr.mono (by decide)) (wa_k (we_mth0 F_Watch_seen T.w_Watch.cls (hr.mono (by decide)) (we_v 0)) (wa_k (we_v 1) wa_nil))) wa_nil)))
      (wss_one (ws_expr (we_bm PySem.F.plainAttrs_list PySem.F.slot_list_append PySem.F.type_list_append mt_app (we_fldO K (we_v 0)) (wa_k (we_tup (wa_k we_str (wa_k (we_v 1) wa_nil))) wa_nil))))))),?_⟩
    refine ⟨_,rfl,W.a,W.dx,_,rfl,wa.wi.ins,rfl,?_⟩
    refine sp_refuseX_i wa (fun z=>?_) (fun z z'=>?_) (fun z z'=>?_)
    · refine qe _ ?_
      match (stand es F ts).2,z with
      | none,z=>exact absurd z (by decide)
      | some 0,z=>exact absurd z (by decide)
      | some (j+1),_=>rfl
    · refine qe _ ?_
      match (stand es F ts).2,z,z' with
      | none,_,_=>rfl
      | some 0,_,z'=>exact absurd rfl z'
      | some (j+1),z,_=>exact absurd rfl z
    have o0:(stand es F ts).2=some 0:=by
      match (stand es F ts).2,z,z' with
      | none,_,z'=>exact absurd z' (by decide)
      | some 0,_,_=>rfl
      | some (j+1),z,_=>exact absurd rfl z
    refine ⟨_,rfl,?_⟩
    refine fldO O (by simp) wa.wi.ins (lk_f W F) ?_
    refine ⟨_,rfl,?_⟩
    refine sp_face_i ry ?_
    cases ef:isFace F d with
    | false =>
      refine ⟨_,rfl,iteT ?_⟩
      refine ⟨by show 1≤64; decide,fun ex hex=>?_⟩
      refine flies (qe _ ?_) hex
      rw [o0]
      unfold lookW
      rw [ef]
      rfl
    | true =>
      obtain ⟨i,rfl,hi⟩:∃ i:Nat,d=.int (i:Int)∧i<F:=by
        unfold isFace at ef
        split at ef
        · rename_i i
          rw [Bool.and_eq_true] at ef
          have h1:=of_decide_eq_true ef.1
          have h2:=of_decide_eq_true ef.2
          exact ⟨i.toNat,by rw [Int.toNat_of_nonneg h1],by omega⟩
        · cases ef
      cases (show y=V.int (i:Int) from ry)
      have okd:okD F (stand es F ts) (.look i):=⟨o0,hi⟩
      have ir2:=step_in ok.ok ok.w4 ir okd
      obtain ⟨fs2,he2,sa2,sy2,_,_⟩:=ir2.ex
      have hW:=ok.w4
      have hF:=ok.f4
      have hl:=ok.l40
      refine ⟨_,rfl,iteF ?_⟩
      refine ⟨_,rfl,W.a,W.dx,_,rfl,wa.wi.ins,rfl,?_⟩
      refine ⟨_,rfl,W.a,W.dx,_,rfl,wa.wi.ins,rfl,?_⟩
      refine sp_seen_i wa fun v rv=>?_
      refine ⟨_,rfl,?_⟩
      refine sp_one_more_i rv (by rw [ir.len]; exact okd.2) (by rw [ir.len]; omega) fun v1 H1 s1 r1=>?_
      have wa1:=wa.same s1
      obtain ⟨ys,e2,r2⟩:=wa1.stds
      have ly:ys.length=ts.length+1:=by rw [r2.len,List.length_map,stands_len]
      refine sp_wcome_i wa1.wi r1 sa2 (by rw [sy2.len]; omega) e2 (by omega) fun v2 H2 e3 r3 b2=>?_
      obtain ⟨xs,e4,r4⟩:=wa1.told
      have lx:xs.length=ts.length:=by rw [r4.len,List.length_map]
      have w2:=wa1.wi.list b2 e2
      have t2:=b2.t e2
      have e5:=b2.at wa.ne e4
      refine ⟨_,rfl,?_⟩
      refine fldO O (by simp) w2.ins (lk_t W F) ?_
      refine ⟨tyL e5,_,rfl,?_⟩
      refine nwT (by show 2≤64; decide) fun q3 H3 hq3 e6 s3=>?_
      refine appL (s3 _ _ e5) (by omega) fun H4 e7 b4=>?_
      have w4:=(w2.same s3).list b4 (s3 _ _ e5)
      have t4:=b4.t (s3 _ _ e5)
      have t34:=s3.t.trans t4
      refine q i rfl okd H4 ⟨w4,⟨_,e7,?_⟩,⟨_,b4.at (Ne.symm wa.ne) (s3 _ _ e3),?_⟩,wa.ne⟩ ?_
      · rw [List.map_append]
        exact RepL.append (RepL.cons (Rep.tup (t4 _ _ e6) (RepL.cons (Rep.str _) (RepL.cons (Rep.int _) RepL.nil))) RepL.nil) (r4.flat (t2.trans t34) (des_flat _))
      · rw [stands_snoc,List.map_append]
        refine RepL.append (RepL.cons ?_ RepL.nil) (r2.flat (t2.trans t34) (sds_flat _))
        rw [stand_snoc]
        exact r3.flat t34 (sdD_flat _)
      · exact (((SameX.of s1).trans (SameX.but b2 (by simp))).trans (SameX.of s3)).trans (SameX.but b4 (by simp))
set_option maxHeartbeats 4000000 in
theorem ok_Watch_lot {f:Addr} {fd:FuncData} (F:Fun K "lot" "Watch.lot" s_Watch_lot f fd) (T:Txt K mg c) (F_Watch_refuse_unless:FnMX P w K mg base 3 c.Watch "refuse_unless" ["self", "word"] (sp_refuseX c.Watch c.NoLook)) (F_is_share:FnC CX0 P w K mg base 3 "is_share" ["thing"] sp_share) (F_NoLook___init__:FnI P w K mg base 1 c.NoLook ["self", "word"] (sp_iniN c.NoLook "word"))
    (F_Watch_seen:FnM P w K mg base 1 c.Watch "seen" ["self"] (sp_seen c.Watch)) (F_drawn:FnC CX0 P w K mg base 3 "drawn" ["says", "share"] sp_drawn):FnOk P w K mg base (CX1 P w) 4 f fd ["self", "share"] (sp_lotX c.Watch c.NoLook):=by
  refine F.okx sc_Watch_lot (fun vs H Q E h=>?_) (fun cdv A outer s H vs Q E hr h hx hmd=>?_)
  · unfold sp_lotX at h
    obtain ⟨W,F,nW,M,es,ts,y,d,rfl,_⟩:=h
    rfl
  · unfold sp_lotX at h
    obtain ⟨W,F,nW,M,es,ts,y,d,rfl,ry,shp,wa,ok,qe,q⟩:=h
    have O:=T.w_Watch
    have ir:=ok.rt.inR ok.ok ok.w4
    obtain ⟨fs,he,sa,sy,_,_⟩:=ir.ex
    refine ⟨_,(wss_cons (ws_expr (we_mthX F_Watch_refuse_unless T.w_Watch.cls (hr.mono (by decide)) hx (we_v 0) (wa_k we_str wa_nil)))
      (wss_cons (ws_if (wt_mono (wt_w (ww_or (wt_not (wt_val (we_fn F_is_share (hr.mono (by decide)) (wa_k (we_v 1) wa_nil)))) (ww_or1 (wt_cmp (op_eqK K hr.units) (we_v 1) (we_glob (v:=.ref c.ONE) rfl T.g_ONE rfl) (nomark _)))))) (wss_one (ws_raiseX F_NoLook___init__ T.g_NoLook rfl (hr.mono (by decide)) xmadeG_fn (wa_k we_str wa_nil))) wss_nil)
      (wss_cons (ws_set (i:=2) sc_Watch_lot.nd rfl (Or.inl rfl) (we_mth0 F_Watch_seen T.w_Watch.cls (hr.mono (by decide)) (we_v 0)))
      (wss_cons (ws_expr (we_bm PySem.F.plainAttrs_list PySem.F.slot_list_append PySem.F.type_list_append mt_app (we_fldO K (we_v 0)) (wa_k (we_tup (wa_k (we_v 2) (wa_k (we_fn F_drawn (hr.mono (by decide)) (wa_k (we_dget hr.u1 (we_fldO K (we_v 0)) (we_v 2)) (wa_k (we_v 1) wa_nil))) wa_nil))) wa_nil)))
      (wss_one (ws_expr (we_bm PySem.F.plainAttrs_list PySem.F.slot_list_append PySem.F.type_list_append mt_app (we_fldO K (we_v 0)) (wa_k (we_tup (wa_k we_str (wa_k (we_v 1) wa_nil))) wa_nil)))))))),?_⟩
    refine ⟨_,rfl,W.a,W.dx,_,rfl,wa.wi.ins,rfl,?_⟩
    refine sp_refuseX_i wa (fun z=>?_) (fun z z'=>?_) (fun z z'=>?_)
    · refine qe _ ?_
      match (stand es F ts).2,z with
      | none,z=>exact absurd z (by decide)
      | some 0,z=>exact absurd z (by decide)
      | some (j+1),_=>rfl
    · refine qe _ ?_
      match (stand es F ts).2,z,z' with
      | none,_,z'=>exact absurd rfl z'
      | some 0,_,_=>rfl
      | some (j+1),z,_=>exact absurd rfl z
    have o0:(stand es F ts).2=none:=by
      match (stand es F ts).2,z,z' with
      | none,_,_=>rfl
      | some 0,_,z'=>exact absurd z' (by decide)
      | some (j+1),z,_=>exact absurd rfl z
    refine ⟨fun b H'=>H'=H∧b=!(isShare d && !(PyData.eqv d (frD (1,1)))),?_,?_⟩
    · refine ⟨_,rfl,?_⟩
      refine sp_share_i ry ?_
      cases es':isShare d with
      | false=>exact ⟨_,rfl,iteT ⟨rfl,rfl⟩⟩
      | true =>
        refine ⟨_,rfl,iteF ?_⟩
        refine ⟨_,rfl,?_⟩
        refine reK (d:=d) (d':=frD (1,1)) ry.k (RepK.tup (sqT_ints T.o_ONE) (RepKL.ints [1,1])) shp rfl ?_
        refine ⟨_,rfl,rfl,?_⟩
        cases PyData.eqv d (frD (1,1)) <;> rfl
    · rintro b H' ⟨rfl,rfl⟩
      cases hb:isShare d && !(PyData.eqv d (frD (1,1))) with
      | false =>
        refine iteT ?_
        refine ⟨by show 1≤64; decide,fun ex hex=>?_⟩
        refine flies (qe _ ?_) hex
        rw [o0]
        unfold lotW
        rw [hb]
        rfl
      | true =>
        refine iteF ?_
        obtain ⟨l,rfl,okd,q⟩:=q (by rw [o0]; unfold lotW; rw [hb]; rfl)
        have lo:=okd.2.1
        have hW:=ok.w4
        have hl:=ok.l40
        refine ⟨_,rfl,W.a,W.dx,_,rfl,wa.wi.ins,rfl,?_⟩
        refine sp_seen_i wa fun v rv=>?_
        obtain ⟨av,rfl,hav⟩:=ctD_at rv
        obtain ⟨kvs,fz,pr⟩:=wa.wi.dic
        obtain ⟨u,hu,ru⟩:=(val_of pr).2 fs sa
        obtain ⟨ys,e2,r2⟩:=wa.stds
        have ly:ys.length=ts.length+1:=by rw [r2.len,List.length_map,stands_len]
        refine ⟨_,rfl,?_⟩
        refine fldO O (by simp) wa.wi.ins (lk_s W F) ?_
        refine ⟨tyL e2,_,rfl,_,rfl,?_⟩
        refine fldO O (by simp) wa.wi.ins (lk_d W F) ?_
        refine ⟨_,rfl,?_⟩
        refine dgZ fz hav hu ?_
        refine ⟨_,rfl,?_⟩
        refine sp_drawn_i ru ry sy (by omega) lo okd.2.2 fun H1 isd s1=>?_
        refine nwT (by show 2≤64; decide) fun q2 H2 hq2 e3 s2=>?_
        have s12:=s1.trans s2
        refine appL (s12 _ _ e2) (by omega) fun H3 e4 b3=>?_
        have t3:=b3.t (s12 _ _ e2)
        have w3:=(wa.wi.same s12).list b3 (s12 _ _ e2)
        obtain ⟨xs,e5,r5⟩:=wa.told
        have lx:xs.length=ts.length:=by rw [r5.len,List.length_map]
        have e6:=b3.at wa.ne (s12 _ _ e5)
        refine ⟨_,rfl,?_⟩
        refine fldO O (by simp) w3.ins (lk_t W F) ?_
        refine ⟨tyL e6,_,rfl,?_⟩
        refine nwT (by show 2≤64; decide) fun q4 H4 hq4 e7 s4=>?_
        refine appL (s4 _ _ e6) (by omega) fun H5 e8 b5=>?_
        have w5:=(w3.same s4).list b5 (s4 _ _ e6)
        have t5:=b5.t (s4 _ _ e6)
        have t45:=s4.t.trans t5
        have tt:=(s12.t.trans t3).trans t45
        refine q H5 ⟨w5,⟨_,e8,?_⟩,⟨_,b5.at (Ne.symm wa.ne) (s4 _ _ e4),?_⟩,wa.ne⟩ ?_
        · rw [List.map_append]
          exact RepL.append (RepL.cons (Rep.tup (t5 _ _ e7) (RepL.cons (Rep.str _) (RepL.cons (ry.flat tt (frD_flat _)) RepL.nil))) RepL.nil) (r5.flat tt (des_flat _))
        · rw [stands_snoc,List.map_append]
          refine RepL.append (RepL.cons ?_ RepL.nil) (r2.flat tt (sds_flat _))
          rw [stand_snoc]
          have ec:step es (stand es F ts) (.lot l)=((stand es F ts).1,some (drw fs l)):=by unfold step; rw [sa]; rfl
          rw [ec]
          exact Rep.tup ((t3.trans t45) _ _ e3) (RepL.cons (rv.flat tt (ctD_flat _)) (RepL.cons (Rep.int _) RepL.nil))
        · exact (((SameX.of s12).trans (SameX.but b3 (by simp))).trans (SameX.of s4)).trans (SameX.but b5 (by simp))
end
end Kw
set_option Elab.async false
set_option linter.all false
set_option maxRecDepth 100000
namespace Kw
open PySem L2 Mf
abbrev s__law_due:Stmt:=(top 43)
theorem sc__law_due:FnScope ["_law_place"] ["_law_place"] (defScope s__law_due):=⟨rfl,rfl,rfl,by decide +kernel,rfl,by decide +kernel,by decide +kernel⟩
abbrev s__law_stand:Stmt:=(top 42)
theorem sc__law_stand:FnScope ["_law_rule_here", "_law_told", "_law_table", "_law_counts", "_law_place", "_law_kind", "_law_thing"] ["_law_rule_here", "_law_told"] (defScope s__law_stand):=⟨rfl,rfl,rfl,by decide +kernel,rfl,by decide +kernel,by decide +kernel⟩
abbrev s__law_lot:Stmt:=(top 45)
theorem sc__law_lot:FnScope ["_law_tape_here", "_law_says_here", "_law_way", "_law_whole", "_law_share"] ["_law_tape_here", "_law_says_here"] (defScope s__law_lot):=⟨rfl,rfl,rfl,by decide +kernel,rfl,by decide +kernel,by decide +kernel⟩
theorem Rt.take {es:List Ent} {F:Nat} {ts:List Deed} (h:Rt es F ts):∀ i,Rt es F (ts.take i):=by
  induction h with
  | nil=>intro i; rw [List.take_nil]; exact .nil
  | @snoc ts d h k ih =>
    intro i
    by_cases hi:i≤ts.length
    · rw [List.take_append_of_le_length hi]; exact ih i
    · rw [List.take_of_length_le (by rw [List.length_append,List.length_singleton]; omega)]; exact .snoc h k
theorem take_snoc {α:Type} {l:List α} {i:Nat} {d:α} (h:l[i]?=some d):l.take (i+1)=l.take i++[d]:=by rw [List.take_add_one,h]; rfl
theorem Rt.at {es:List Ent} {F:Nat} {ts:List Deed} (h:Rt es F ts) {i:Nat} {d:Deed} (hd:ts[i]?=some d):okD F (stand es F (ts.take i)) d:=by
  have:=h.take (i+1)
  rw [take_snoc hd] at this
  exact this.pop.2
@[irreducible] def sp_ldue:Sp:=fun vs H Q _=>∃ o:Option Nat,vs=[plV o]∧Q (.str (dueS o)) H
theorem sp_ldue_i {H:Hp} {Q:VK} {E:XK} {o:Option Nat} (q:Q (.str (dueS o)) H):sp_ldue [plV o] H Q E:=by unfold sp_ldue; exact ⟨o,rfl,q⟩
@[irreducible] def sp_stand:Sp:=fun vs H Q _=>∃ (r:V) (l:Addr) (xs:List V) (F nW M:Nat) (es:List Ent) (ts:List Deed),vs=[r,.ref l]∧Rep H (ruD es) r∧H l=some (.lst xs)∧RepL H (ts.map deD) xs∧RuOk F nW M es∧2≤F∧F≤4∧nW≤4∧Rt es F ts∧∀ v H',Same H H'→Rep H' (sdD (stand es F ts)) v→Q v H'
theorem sp_stand_i {H:Hp} {Q:VK} {E:XK} {r:V} {l:Addr} {xs:List V} {F nW M:Nat} {es:List Ent} {ts:List Deed} (h1:Rep H (ruD es) r) (h2:H l=some (.lst xs)) (h3:RepL H (ts.map deD) xs) (ok:RuOk F nW M es) (f2:2≤F) (f4:F≤4) (w4:nW≤4) (rt:Rt es F ts) (q:∀ v H',Same H H'→Rep H' (sdD (stand es F ts)) v→Q v H'):sp_stand [r,.ref l] H Q E:=by
  unfold sp_stand; exact ⟨r,l,xs,F,nW,M,es,ts,rfl,h1,h2,h3,ok,f2,f4,w4,rt,q⟩
@[irreducible] def sp_llot:Sp:=fun vs H Q _=>∃ (p:Addr) (v:V) (n k:Nat) (fs:List Fr),vs=[.ref p,v]∧TapeAt H p (n+2)∧Rep H (shD fs) v∧SyOk k fs∧k≤5∧∀ y l H',TapeAt H' p n→SameBut p H H'→Rep H' (frD l) y→LtOk l→l.1<l.2→Q y H'
theorem sp_llot_i {H:Hp} {Q:VK} {E:XK} {p:Addr} {v:V} {n k:Nat} {fs:List Fr} (h1:TapeAt H p (n+2)) (h2:Rep H (shD fs) v) (h3:SyOk k fs) (h4:k≤5) (q:∀ y l H',TapeAt H' p n→SameBut p H H'→Rep H' (frD l) y→LtOk l→l.1<l.2→Q y H'):sp_llot [.ref p,v] H Q E:=by
  unfold sp_llot; exact ⟨p,v,n,k,fs,rfl,h1,h2,h3,h4,q⟩
theorem nought_lt:LtOk (0,1):=⟨⟨by decide,by decide⟩,by decide,by decide,⟨by decide +kernel,by decide +kernel⟩⟩
theorem LtOk.lt {l:Fr} (h:LtOk l) (n:l≠(1,1)):l.1<l.2:=by
  have h1:=h.le
  have h2:=h.low.pos
  have h3:=h.low.low
  rcases Int.lt_or_eq_of_le h1 with z | z
  · exact z
  · exfalso
    rw [z,Int.gcd_self] at h3
    exact n (Prod.ext (by show l.1=1; omega) (by show l.2=1; omega))
section
variable {P:Program} {w:World} {K:PySem.W.Frag} {mg:Str→Option Value} {base:Heap} {c:Cl}
theorem ok__law_due {f:Addr} {fd:FuncData} (F:Fun K "_law_due" "_law_due" s__law_due f fd) (T:Txt K mg c):FnOk P w K mg base CX0 1 f fd ["_law_place"] sp_ldue:=by
  refine F.okw sc__law_due (fun vs H Q E h=>?_) (fun cdv A outer s H vs Q E hr h=>?_)
  · unfold sp_ldue at h
    obtain ⟨o,rfl,_⟩:=h
    rfl
  · unfold sp_ldue at h
    obtain ⟨o,rfl,q⟩:=h
    refine ⟨_,(wss_cons (ws_if (wt_cmp op_isN (we_v 0) we_non (nomark _)) (wss_one (ws_ret we_str)) wss_nil)
      (wss_one (ws_ret (we_ifExp (wt_cmp op_eq (we_v 0) we_int (nomark _)) we_str we_str)))),?_⟩
    match o,q with
    | none,q=>exact ⟨_,rfl,rfl,_,rfl,iteT q⟩
    | some 0,q=>exact ⟨_,rfl,rfl,_,rfl,iteF ⟨_,rfl,rfl,_,rfl,iteT q⟩⟩
    | some (j+1),q=>exact ⟨_,rfl,rfl,_,rfl,iteF ⟨_,rfl,rfl,_,rfl,iteD (fun z=>by injection z with z; exact absurd z (by omega)) (fun _=>q)⟩⟩
set_option maxHeartbeats 8000000 in
theorem ok__law_stand {f:Addr} {fd:FuncData} (F:Fun K "_law_stand" "_law_stand" s__law_stand f fd) (T:Txt K mg c) (F__law_drawn:FnC CX0 P w K mg base 3 "_law_drawn" ["_law_says_here", "_law_lot_here"] sp_drawn):FnOk P w K mg base CX0 4 f fd ["_law_rule_here", "_law_told"] sp_stand:=by
  refine F.okw sc__law_stand (fun vs H Q E h=>?_) (fun cdv A outer s H vs Q E hr h=>?_)
  · unfold sp_stand at h
    obtain ⟨r,l,xs,F,nW,M,es,ts,rfl,_⟩:=h
    rfl
  · unfold sp_stand at h
    obtain ⟨r,l,xs,F,nW,M,es,ts,rfl,rr,hl,rxs,ok,f2,f4,w4,rt,q⟩:=h
    have rr0:=rr
    obtain ⟨ar,xr,rfl,har,rxr⟩:=ruD_at rr
    obtain ⟨kvs,pr,env⟩:=pairs_of rxr
    have lk:kvs.length=es.length:=Paired.length env
    have les:=ok.len
    have ndk:(kvs.map (·.1)).Nodup:=by
      rw [keys_of env]
      have:=nodup_map_on (f:=fun c:List Int=>c.map (Sum.inl:Int→Key)) ok.nd fun x _ y _ e=>inl_inj e
      rwa [List.map_map] at this
    obtain ⟨e0,er,ees⟩:∃ e0 er,es=e0::er:=by
      cases es with
      | nil=>exact absurd rfl ok.ne
      | cons e0 er=>exact ⟨e0,er,rfl⟩
    have l0:=(ok.each e0 (by rw [ees]; exact List.mem_cons_self ..)).1
    have lx:xs.length=ts.length:=by rw [rxs.len,List.length_map]
    have irs:∀ i,InR F nW es (stand es F (ts.take i)):=fun i=>(rt.take i).inR ok w4
    have oneAt:∀ (H1:Hp) (fs:List Fr) (a:Addr) (vs:List V) (o:V),H1 a=some (.tup vs)→RepL H1 (fs.map frD) vs→∀ {y:V} {Q':VK},RepK K H1 (cD [1,1]) y→(decide ((1,1)∈fs)=(one1 fs).isSome) ∧
        (∀ j,one1 fs=some j→Q' (.int (j:Int)) H1→rIdxT K (.ref a) [y] H1 Q'):=fun H1 fs a vs o ha rvs y Q' rK=>by
      have rcs:RepL H1 ((fs.map fun f=>[f.1,f.2]).map cD) vs:=by rw [← fr_cs]; exact rvs
      refine ⟨?_,fun j hj k=>?_⟩
      · cases ho:one1 fs with
        | none=>exact decide_eq_false (one1_none ho)
        | some j=>exact decide_eq_true (List.mem_of_getElem? (one1_lt ho).1)
      · obtain ⟨h1,h2⟩:=one1_lt hj
        refine idxT (cs:=fs.map fun f=>[f.1,f.2]) (c:=[1,1]) (j:=j) ha rcs.k rK (by rw [List.getElem?_map,h1]; rfl) (fun i hi z=>?_) k
        rw [List.getElem?_map] at z
        obtain ⟨g,hg,ge⟩:=Option.map_eq_some_iff.mp z
        injection ge with g1 g2
        injection g2 with g2 _
        exact h2 i hi (by rw [hg]; congr 1; exact Prod.ext g1 g2)
    refine ⟨_,(wss_cons (ws_set (i:=2) sc__law_stand.nd rfl (Or.inl rfl) (we_cT (cl_dictZ hr.units rfl) (by rfl) T.b_dict (by decide +kernel) (wa_k (we_v 0) wa_nil)))
      (wss_cons (ws_set (i:=3) sc__law_stand.nd rfl (Or.inl rfl) (we_op op_mulT (we_tup (wa_k we_int wa_nil)) (we_cB cl_len (by rfl) T.b_len (by decide +kernel) (wa_k (we_ix ix_seq (we_ix ix_seq (we_v 0) we_int (fun _ _=>rfl)) we_int (fun _ _=>rfl)) wa_nil))))
      (wss_cons (ws_set (i:=4) sc__law_stand.nd rfl (Or.inl rfl) we_non)
      (wss_cons (ws_cut (ws_if (wt_cmp (op_inT K hr.units) (we_tup (wa_k we_int (wa_k we_int wa_nil))) (we_dget hr.u1 (we_v 2) (we_v 3)) (by with_unfolding_all rfl)) (wss_one (ws_set (i:=4) sc__law_stand.nd rfl (Or.inl rfl) (we_bm PySem.F.plainAttrs_tuple PySem.F.slot_tuple_index PySem.F.type_tuple_index (mt_idxT K hr.units) (we_dget hr.u1 (we_v 2) (we_v 3)) (wa_k (we_tup (wa_k we_int (wa_k we_int wa_nil))) wa_nil)))) wss_nil))
      (wss_cons (ws_for PassesOwn.never rfl (wi_list (we_v 1)) (wg_tup rfl (wgs_cons (wg_name (i:=5) sc__law_stand.nd rfl (Or.inl rfl)) (wgs_cons (wg_name (i:=6) sc__law_stand.nd rfl (Or.inl rfl)) wgs_nil))) (wss_one (ws_if (wt_cmp op_eq (we_v 5) we_str (nomark _)) (wss_one (ws_set (i:=4) sc__law_stand.nd rfl (Or.inl rfl) (we_fn F__law_drawn (hr.mono (by decide)) (wa_k (we_dget hr.u1 (we_v 2) (we_v 3)) (wa_k (we_v 6) wa_nil))))) (wss_cons (ws_set (i:=3) sc__law_stand.nd rfl (Or.inl rfl) (we_op (op_catU K) (we_op (op_catU K) (we_slice (sl_tupA K) (we_v 3) wo_none (wo_some (we_v 6))) (we_tup (wa_k (we_op op_add (we_ix ix_seq (we_v 3) (we_v 6) (fun _ _=>rfl)) we_int) wa_nil))) (we_slice (sl_tupA K) (we_v 3) (wo_some (we_op op_add (we_v 6) we_int)) wo_none)))
      (wss_cons (ws_set (i:=4) sc__law_stand.nd rfl (Or.inl rfl) we_non)
      (wss_one (ws_if (wt_cmp (op_inT K hr.units) (we_tup (wa_k we_int (wa_k we_int wa_nil))) (we_dget hr.u1 (we_v 2) (we_v 3)) (by with_unfolding_all rfl)) (wss_one (ws_set (i:=4) sc__law_stand.nd rfl (Or.inl rfl) (we_bm PySem.F.plainAttrs_tuple PySem.F.slot_tuple_index PySem.F.type_tuple_index (mt_idxT K hr.units) (we_dget hr.u1 (we_v 2) (we_v 3)) (wa_k (we_tup (wa_k we_int (wa_k we_int wa_nil))) wa_nil)))) wss_nil)))))))
      (wss_one (ws_ret (we_tup (wa_k (we_v 3) (wa_k (we_v 4) wa_nil)))))))))),?_⟩
    refine ⟨_,rfl,?_⟩
    refine rdcz har pr ndk (by omega) fun d H1 hd fz1 s1=>?_
    refine nwT (by show 1≤64; decide) fun q2 H2 hq2 e2 s2=>?_
    have s12:=s1.trans s2
    obtain ⟨y0,hy0,ry0⟩:=RepL.atX (i:=0) (rxr.same s12) (by rw [ees]; rfl)
    obtain ⟨b0,u0,v0,rfl,hb0,ru0,rv0⟩:=enD_at ry0
    obtain ⟨cu0,rfl,hcu0⟩:=ctD_at ru0
    refine ⟨_,rfl,?_⟩
    refine ixT (s12 _ _ har) (atI_nat hy0) ?_
    refine ixT hb0 rfl ?_
    refine rlT hcu0 ?_
    rw [List.length_map,l0]
    refine mulT e2 f2 (by omega) fun q3 H3 s3 e3=>?_
    have s13:=s12.trans s3
    have fz3:=(fz1.same s2).same s3
    have rz:Rep H3 (ctD (List.replicate F 0)) (.ref q3):=ctD_of (by rw [e3,List.map_replicate])
    refine ⟨fun σ H4=>∃ v o5 o6,σ=[some (.ref ar),some (.ref l),some (.ref d),some v,some (plV (stand es F []).2),o5,o6]∧Same H H4∧FzT H4 d kvs∧Rep H4 (ctD (stand es F []).1) v,?_,?_⟩
    · clear fz3 rz e3 s13 s3 hcu0 rv0 ru0 hb0 hy0 ry0 s12 e2 s2 fz1 s1 hq2
      rintro σ H4 ⟨v,o5,o6,rfl,s4,fz4,rv⟩
      refine ⟨_,rfl,l,rfl,⟨_,SqL.of (s4 _ _ hl)⟩,?_⟩
      refine for_list (xs:=xs) (fun i σ H'=>∃ v o5 o6,σ=[some (.ref ar),some (.ref l),some (.ref d),some v,some (plV (stand es F (ts.take i)).2),o5,o6]∧Same H H'∧FzT H' d kvs∧Rep H' (ctD (stand es F (ts.take i)).1) v) ⟨v,o5,o6,rfl,s4,fz4,rv⟩ (fun i σ H' _ p=>?_) ?_ ?_
      · obtain ⟨_,_,_,_,s',_⟩:=p
        exact SqL.of (s' _ _ hl)
      · rintro i x σ H5 hx ⟨v,o5,o6,rfl,s5,fz5,rv⟩
        obtain ⟨dd,hdd,rd⟩:=(rxs.same s5).atI hx
        have okd:=rt.at hdd
        have ir:=irs i
        obtain ⟨fs,hef,sa,sy,_,_⟩:=ir.ex
        obtain ⟨av,rfl,hav⟩:=ctD_at rv
        have env5:=paired_same s5 env
        rw [take_snoc hdd,stand_snoc]
        generalize hst:stand es F (ts.take i)=st at *
        cases dd with
        | lot lo =>
          unfold Rep RepL RepL RepL at rd
          obtain ⟨ax,_,rfl,hax,x1,_,rfl,rx1,x2,_,rfl,rx2,rfl⟩:=rd
          cases (show x1=V.str "lot" from rx1)
          refine ⟨ax,_,rfl,SqT.of hax,rfl,_,_,rfl,_,_,rfl,rfl,?_⟩
          refine ⟨_,rfl,rfl,_,rfl,?_⟩
          refine iteT ?_
          obtain ⟨u,hu,ru⟩:=(val_of env5).2 fs sa
          refine ⟨_,rfl,_,rfl,?_⟩
          refine dgZ fz5 hav hu ?_
          refine ⟨_,rfl,?_⟩
          refine sp_drawn_i ru rx2 sy (by omega) okd.2.1 okd.2.2 fun H6 isd s6=>?_
          have ec:step es st (.lot lo)=(st.1,some (drw fs lo)):=by unfold step; rw [sa]; rfl
          rw [ec]
          exact ⟨_,_,_,rfl,s5.trans s6,fz5.same s6,rv.same s6⟩
        | look k =>
          unfold Rep RepL RepL RepL at rd
          obtain ⟨ax,_,rfl,hax,x1,_,rfl,rx1,x2,_,rfl,rx2,rfl⟩:=rd
          cases (show x1=V.str "look" from rx1)
          cases (show x2=V.int (k:Int) from rx2)
          refine ⟨ax,_,rfl,SqT.of hax,rfl,_,_,rfl,_,_,rfl,rfl,?_⟩
          refine ⟨_,rfl,rfl,_,rfl,?_⟩
          refine iteD (fun z=>absurd z (by decide)) (fun _=>?_)
          have hk:k<st.1.length:=by rw [ir.len]; exact okd.2
          refine ⟨_,rfl,_,rfl,_,rfl,?_⟩
          refine slA_hi hav fun c6 H6 s6 e6=>?_
          refine ⟨_,rfl,_,rfl,?_⟩
          have hat:atI (st.1.map V.int) (k:Int)=some (.int (st.1.getD k 0)):=atI_nat (by rw [List.getElem?_map,List.getD_eq_getElem?_getD,List.getElem?_eq_getElem hk]; rfl)
          refine ixT (s6 _ _ hav) hat ?_
          refine ⟨_,_,rfl,rfl,?_⟩
          refine nwT (by show 1≤64; decide) fun c7 H7 hc7 e7 s7=>?_
          refine catU (s7 _ _ e6) e7 (by rw [List.length_take,List.length_map]; have:=ir.len; show min k st.1.length+1≤1000; omega) fun c8 H8 s8 e8=>?_
          refine ⟨_,rfl,_,rfl,_,_,rfl,rfl,?_⟩
          refine ⟨_,rfl,?_⟩
          refine slA_loE (k:=k+1) (by omega) (s8 _ _ (s7 _ _ (s6 _ _ hav))) fun c9 H9 s9 e9=>?_
          refine catU (s9 _ _ e8) e9 (by rw [List.length_append,List.length_take,List.length_drop,List.length_map]; have:=ir.len; show min k st.1.length+1+(st.1.length - (k+1))≤1000; omega) fun c10 H10 s10 e10=>?_
          have s610:=(((s6.trans s7).trans s8).trans s9).trans s10
          have eb:H10 c10=some (.tup ((bump st.1 k).map V.int)):=by
            rw [e10]
            unfold bump
            rw [List.map_append,List.map_append,List.map_take,List.map_drop]
            rfl
          have fz10:=fz5.same s610
          have ir2:=step_in ok w4 ir okd
          obtain ⟨fs2,hef2,sa2,sy2,_,_⟩:=ir2.ex
          have sa2:saysAt es (bump st.1 k)=some fs2:=sa2
          have ec:step es st (.look k)=(bump st.1 k,one1 fs2):=by show (bump st.1 k,one1 ((saysAt es (bump st.1 k)).getD []))=_; rw [sa2]; rfl
          rw [ec]
          obtain ⟨u,hu,ru⟩:=(val_of (paired_same s610 env5)).2 fs2 sa2
          obtain ⟨au,us,rfl,hau,rus⟩:=shD_at ru
          refine nwT (by show 2≤64; decide) fun q11 H11 hq11 e11 s11=>?_
          refine ⟨_,rfl,_,rfl,?_⟩
          refine dgZ (fz10.same s11) (s11 _ _ eb) hu ?_
          have rK11:RepK K H11 (cD [1,1]) (.ref q11):=RepK.tup (SqT.of e11) (RepKL.ints [1,1])
          refine riT (cs:=fs2.map fun f=>[f.1,f.2]) (c:=[1,1]) (.inr (SqT.of (s11 _ _ hau))) (by rw [← fr_cs]; exact rus.same s11) rK11 ?_
          rw [if_neg (by decide),fr_in,(oneAt H11 fs2 au us .non (s11 _ _ hau) (rus.same s11) (Q':=fun _ _=>True) rK11).1]
          refine ⟨_,rfl,?_⟩
          have s511:=s5.trans (s610.trans s11)
          cases ho:one1 fs2 with
          | none=>exact iteF ⟨_,_,_,rfl,s511,fz10.same s11,ctD_of (s11 _ _ eb)⟩
          | some j =>
            refine iteT ?_
            refine ⟨_,rfl,_,rfl,?_⟩
            refine dgZ (fz10.same s11) (s11 _ _ eb) hu ?_
            refine ⟨tyU (s11 _ _ hau),?_⟩
            refine nwT (by show 2≤64; decide) fun q12 H12 hq12 e12 s12=>?_
            refine (oneAt H12 fs2 au us .non ((s11.trans s12) _ _ hau) (rus.same (s11.trans s12)) (RepK.tup (SqT.of e12) (RepKL.ints [1,1]))).2 j ho ?_
            exact ⟨_,_,_,rfl,s511.trans s12,(fz10.same s11).same s12,ctD_of ((s11.trans s12) _ _ eb)⟩
      · rintro σ H5 ⟨v,o5,o6,rfl,s5,fz5,rv⟩
        rw [lx,List.take_length] at rv ⊢
        refine ⟨_,rfl,_,rfl,?_⟩
        refine nwT (by show 2≤64; decide) fun q6 H6 hq6 e6 s6=>?_
        exact q _ _ (s5.trans s6) (Rep.tup e6 (RepL.cons (rv.same s6) (RepL.cons (plD_of _) RepL.nil)))
    · have ir0:=irs 0
      obtain ⟨fs,hef,sa,sy,_,_⟩:=ir0.ex
      have sa:saysAt es (List.replicate F 0)=some fs:=sa
      have ec:stand es F []=(List.replicate F 0,one1 fs):=by show come es _=_; unfold come; rw [sa]; rfl
      rw [ec]
      obtain ⟨u,hu,ru⟩:=(val_of (paired_same s13 env)).2 fs sa
      obtain ⟨au,us,rfl,hau,rus⟩:=shD_at ru
      have e3':H3 q3=some (.tup ((List.replicate F (0:Int)).map V.int)):=by rw [e3,List.map_replicate]
      refine nwT (by show 2≤64; decide) fun q11 H11 hq11 e11 s11=>?_
      refine ⟨_,rfl,_,rfl,?_⟩
      refine dgZ (fz3.same s11) (s11 _ _ e3') hu ?_
      have rK11:RepK K H11 (cD [1,1]) (.ref q11):=RepK.tup (SqT.of e11) (RepKL.ints [1,1])
      refine riT (cs:=fs.map fun f=>[f.1,f.2]) (c:=[1,1]) (.inr (SqT.of (s11 _ _ hau))) (by rw [← fr_cs]; exact rus.same s11) rK11 ?_
      rw [if_neg (by decide),fr_in,(oneAt H11 fs au us .non (s11 _ _ hau) (rus.same s11) (Q':=fun _ _=>True) rK11).1]
      refine ⟨_,rfl,?_⟩
      cases ho:one1 fs with
      | none=>exact iteF ⟨_,_,_,rfl,s13.trans s11,fz3.same s11,rz.same s11⟩
      | some j =>
        refine iteT ?_
        refine ⟨_,rfl,_,rfl,?_⟩
        refine dgZ (fz3.same s11) (s11 _ _ e3') hu ?_
        refine ⟨tyU (s11 _ _ hau),?_⟩
        refine nwT (by show 2≤64; decide) fun q12 H12 hq12 e12 s12=>?_
        refine (oneAt H12 fs au us .non ((s11.trans s12) _ _ hau) (rus.same (s11.trans s12)) (RepK.tup (SqT.of e12) (RepKL.ints [1,1]))).2 j ho ?_
        exact ⟨_,_,_,rfl,(s13.trans s11).trans s12,(fz3.same s11).same s12,rz.same (s11.trans s12)⟩
set_option maxHeartbeats 4000000 in
theorem ok__law_lot {f:Addr} {fd:FuncData} (F:Fun K "_law_lot" "_law_lot" s__law_lot f fd) (T:Txt K mg c) (F__law_pick:FnC CX0 P w K mg base 1 "_law_pick" ["_law_tape_here", "_law_many"] sp_pick) (F__law_frac:FnC CX0 P w K mg base 1 "_law_frac" ["_law_n", "_law_d"] sp_lfrac) (F__law_plus:FnC CX0 P w K mg base 2 "_law_plus" ["_law_one", "_law_other"] (sp_lplus K)):FnOk P w K mg base CX0 3 f fd ["_law_tape_here", "_law_says_here"] sp_llot:=by
  refine F.okw sc__law_lot (fun vs H Q E h=>?_) (fun cdv A outer s H vs Q E hr h=>?_)
  · unfold sp_llot at h
    obtain ⟨p,v,n,k,fs,rfl,_⟩:=h
    rfl
  · unfold sp_llot at h
    obtain ⟨p,v,n,k,fs,rfl,TP,rv,sy,k5,q⟩:=h
    obtain ⟨a,xs,rfl,ha,rxs⟩:=shD_at rv
    have len:=sy.len
    have lx:xs.length=k:=by rw [rxs.len,List.length_map,len]
    have k0:0<k:=by
      rcases Nat.eq_zero_or_pos k with z | z
      · have:=sy.last (k:=0) (by omega)
        cases this
      · exact z
    refine ⟨_,(wss_cons (ws_set (i:=2) sc__law_lot.nd rfl (Or.inl rfl) (we_fn F__law_pick (hr.mono (by decide)) (wa_k (we_v 0) (wa_k we_int wa_nil))))
      (wss_cons (ws_if (wt_cmp op_eq (we_v 2) we_int (nomark _)) (wss_one (ws_ret (we_fn F__law_frac (hr.mono (by decide)) (wa_k (we_fn F__law_pick (hr.mono (by decide)) (wa_k (we_v 0) (wa_k we_int wa_nil))) (wa_k we_int wa_nil))))) wss_nil)
      (wss_cons (ws_set (i:=3) sc__law_lot.nd rfl (Or.inl rfl) (we_tup (wa_k we_int (wa_k we_int wa_nil))))
      (wss_cons (ws_for PassesOwn.never rfl (wi_tup (we_slice (sl_tupA K) (we_v 1) wo_none (wo_some (we_fn F__law_pick (hr.mono (by decide)) (wa_k (we_v 0) (wa_k (we_cB cl_len (by rfl) T.b_len (by decide +kernel) (wa_k (we_v 1) wa_nil)) wa_nil)))))) (wg_name (i:=4) sc__law_lot.nd rfl (Or.inl rfl)) (wss_one (ws_set (i:=3) sc__law_lot.nd rfl (Or.inl rfl) (we_fn F__law_plus (hr.mono (by decide)) (wa_k (we_v 3) (wa_k (we_v 4) wa_nil))))))
      (wss_cons (ws_if (wt_mono (wt_w (ww_or (wt_cmp (op_eqD hr.units) (we_v 3) (we_tup (wa_k we_int (wa_k we_int wa_nil))) (nomark _)) (ww_or1 (wt_cmp op_eq (we_v 2) we_int (nomark _)))))) (wss_one (ws_ret (we_tup (wa_k we_int (wa_k we_int wa_nil))))) wss_nil)
      (wss_one (ws_ret (we_v 3)))))))),?_⟩
    refine ⟨_,rfl,?_⟩
    refine sp_pick_i (n:=n+1) TP (by decide) (by decide +kernel) fun x1 H1 x0 x4 T1 b1=>?_
    refine ⟨_,rfl,rfl,_,rfl,?_⟩
    have t1:=TP.t b1
    refine iteD (fun z=>?_) (fun z=>?_)
    · refine ⟨_,rfl,?_⟩
      refine sp_pick_i (n:=n) T1 (by decide) (by decide +kernel) fun x2 H2 y0 y1 T2 b2=>?_
      refine sp_lfrac_i (by decide) (by decide +kernel) ?_
      intro q3 H3 hq3 e3 s3
      have hg:=gcd_pos (n:=x2) (d:=12) (by decide)
      have e1:x2.natAbs<2^10:=by show x2.natAbs<1024; omega
      have lo:LtOk (lw x2 12):=⟨lw_low (by decide),Int.ediv_nonneg y0 (by omega),Int.ediv_le_ediv hg (by omega),sz_mono (sz_div e1 hg),sz_mono (sz_div (show (12:Int).natAbs<2^10 by decide) hg)⟩
      refine q _ (lw x2 12) H3 (T2.same s3) ((b1.trans b2).trans s3.but) (frD_of e3) lo (lo.lt fun z=>?_)
      have:=lw_cross (n:=x2) (d:=12)
      rw [z] at this
      omega
    · refine nwT (by show 2≤64; decide) fun q2 H2 hq2 e2 s2=>?_
      have T2:=T1.same s2
      refine ⟨_,rfl,_,rfl,_,rfl,?_⟩
      refine rlT (s2 _ _ (t1 _ _ ha)) ?_
      rw [lx]
      refine sp_pick_i (n:=n) T2 (by omega) (bitsle (Nat.lt_of_le_of_lt (show ((k:Int)).natAbs≤5 by omega) (by decide))) fun x3 H3 z0 z1 T3 b3=>?_
      obtain ⟨m,rfl⟩:∃ m:Nat,x3=(m:Int):=⟨x3.toNat,by omega⟩
      have t3:=T2.t b3
      have t13:=(t1.trans s2.t).trans t3
      refine ⟨_,rfl,?_⟩
      refine slA_hi (t13 _ _ ha) fun c4 H4 s4 e4=>?_
      have B4:SameBut p H H4:=((b1.trans s2.but).trans b3).trans s4.but
      have t14:=t13.trans s4.t
      have T4:=T3.same s4
      refine ⟨c4,rfl,⟨_,SqT.of e4⟩,?_⟩
      have lt:(xs.take m).length=m:=by rw [List.length_take]; omega
      refine for_tup (xs:=xs.take m) (fun i σ H'=>∃ (v:V) (o4:Option V),σ=[some (.ref p),some (.ref a),some (.int x1),some v,o4]∧Same H4 H'∧Rep H' (frD (totF (fs.take i))) v) ⟨_,_,rfl,Same.refl _,frD_of (f:=(0,1)) ((t3.trans s4.t) _ _ e2)⟩ (fun i σ H' _ p=>?_) ?_ ?_
      · obtain ⟨_,_,_,s',_⟩:=p
        exact SqT.of (s' _ _ e4)
      · rintro i x σ H5 hx ⟨v,o4,rfl,s5,rw5⟩
        have hx':xs[i]?=some x:=by
          have hi:i<m:=by have:=(List.getElem?_eq_some_iff.mp hx).1; omega
          rw [List.getElem?_take_of_lt hi] at hx
          exact hx
        obtain ⟨fk,hfk,rk⟩:=rxs.atI hx'
        have mem:=List.mem_of_getElem? hfk
        have ut:=sy.tak k5 i
        refine ⟨_,rfl,_,rfl,?_⟩
        refine sp_lplus_i (FrV.of rw5) (FrV.of ((rk.flat t14 (frD_flat _)).same s5)) ut.low (sy.low fk mem) (szK ut.sz) (szK (sy.sz k5 fk mem)) ?_
        intro q6 H6 hq6 e6 s6
        rw [← up_succ hfk] at e6
        exact ⟨_,_,rfl,s5.trans s6,frD_of e6⟩
      · rintro σ H5 ⟨v,o4,rfl,s5,rv5⟩
        rw [lt] at rv5
        have ut:=sy.tak k5 m
        generalize totF (fs.take m)=g at *
        have T5:=T4.same s5
        have B5:=B4.trans s5.but
        refine ⟨fun b H6=>Same H5 H6∧(b=false→g≠(1,1)),?_,?_⟩
        · refine ⟨_,rfl,?_⟩
          refine nwT (by show 2≤64; decide) fun q6 H6 hq6 e6 s6=>?_
          refine reD (rv5.same s6) (frD_of (f:=(1,1)) e6) rfl rfl ?_
          refine ⟨_,rfl,?_⟩
          have en:PyData.eqv (frD g) (frD (1,1))=decide (g=(1,1)):=by
            show PyData.eqv (cD [g.1,g.2]) (cD [1,1])=_
            rw [eqvC]
            by_cases z:g=(1,1)
            · rw [z]; rfl
            · rw [decide_eq_false z,decide_eq_false]
              intro h
              injection h with h1 h2
              injection h2 with h2 _
              exact z (Prod.ext h1 h2)
          rw [en,Bool.true_beq]
          refine iteD (fun z=>⟨s6,fun h=>by cases h⟩) (fun z=>?_)
          exact ⟨_,rfl,rfl,_,rfl,s6,fun _=>z⟩
        · rintro b H6 ⟨s6,hb⟩
          cases b with
          | true =>
            refine iteT ?_
            refine nwT (by show 2≤64; decide) fun q7 H7 hq7 e7 s7=>?_
            exact q _ (0,1) H7 ((T5.same s6).same s7) ((B5.trans s6.but).trans s7.but) (frD_of e7) nought_lt (by decide)
          | false=>exact iteF ⟨_,rfl,q _ g H6 (T5.same s6) (B5.trans s6.but) (rv5.same s6) ut (ut.lt (hb rfl))⟩
end
end Kw
set_option Elab.async false
set_option linter.all false
set_option maxRecDepth 100000
namespace Kw
open PySem L2 Mf
abbrev s__law_watch_right:Stmt:=(top 44)
theorem sc__law_watch_right:FnScope ["_law_watch", "_law_rule_here", "_law_told", "_law_counts", "_law_place", "_law_word", "_law_turn", "_law_found"] ["_law_watch", "_law_rule_here", "_law_told"] (defScope s__law_watch_right):=⟨rfl,rfl,rfl,by decide +kernel,rfl,by decide +kernel,by decide +kernel⟩
structure Sw (n w:Nat) (d:PyData):Prop where
  sh:PyData.showable d=true
  nd:PyData.hasDict d=false
  dp:PyData.depth d≤n
  wd:shW d≤w
theorem Sw.all {n w:Nat}:∀ {ds:List PyData},(∀ d∈ds,Sw n w d)→PyData.showableAll ds=true∧PyData.hasDictAll ds=false∧PyData.depthAll ds≤n∧shWs ds≤ds.length*(w+2)
  | [],_=>⟨rfl,rfl,Nat.zero_le _,Nat.zero_le _⟩
  | d::ds,h=>by
    obtain ⟨a,b,c,e⟩:=h d (List.mem_cons_self ..)
    obtain ⟨a',b',c',e'⟩:=Sw.all fun x hx=>h x (List.mem_cons_of_mem d hx)
    refine ⟨?_,?_,?_,?_⟩
    · show (PyData.showable d&&PyData.showableAll ds)=true
      rw [a,a']; rfl
    · show (PyData.hasDict d || PyData.hasDictAll ds)=false
      rw [b,b']; rfl
    · show max (PyData.depth d) (PyData.depthAll ds)≤n
      omega
    · show shW d+2+shWs ds≤(ds.length+1)*(w+2)
      rw [Nat.add_mul,Nat.one_mul]; omega
theorem Sw.tup {n w k:Nat} {ds:List PyData} (h:∀ d∈ds,Sw n w d) (hl:ds.length≤k):Sw (n+1) (k*(w+2)+4) (.tuple ds):=by
  obtain ⟨a,b,c,e⟩:=Sw.all h
  refine ⟨a,b,by show PyData.depthAll ds+1≤n+1; omega,?_⟩
  show shWs ds+4≤_
  have:=Nat.mul_le_mul_right (w+2) hl
  omega
theorem Sw.le {n w m v:Nat} {d:PyData} (h:Sw n w d) (hn:n≤m:=by decide) (hw:w≤v:=by decide):Sw m v d:=⟨h.sh,h.nd,Nat.le_trans h.dp hn,Nat.le_trans h.wd hw⟩
theorem Sw.int {x:Int} {k:Nat} (h:x.natAbs<2^k) (hk:k≤1900:=by decide):Sw 1 1921 (.int x) :=
  ⟨showInt (n:=1900) (Nat.lt_of_lt_of_le h (Nat.pow_le_pow_right (by decide) hk)),rfl,by simp [PyData.depth],Nat.le_refl _⟩
theorem Sw.str {s:Str} {w:Nat} (h:(reprText s).length≤w):Sw 1 w (.str s):=⟨rfl,rfl,by simp [PyData.depth],h⟩
theorem Sw.fr {f:Fr} (h:Szf 1900 f):Sw 2 3850 (frD f):=Sw.tup (k:=2) (n:=1) (w:=1921) (fun d hd=>by
  simp only [List.mem_cons,List.not_mem_nil,or_false] at hd
  rcases hd with rfl | rfl
  · exact Sw.int h.1
  · exact Sw.int h.2) (Nat.le_refl _)
theorem Sw.lst {n w k:Nat} {ds:List PyData} (h:∀ d∈ds,Sw n w d) (hl:ds.length≤k):Sw (n+1) (k*(w+2)+4) (.list ds):=by
  obtain ⟨a,b,c,e⟩:=Sw.all h
  refine ⟨a,b,by show PyData.depthAll ds+1≤n+1; omega,?_⟩
  show shWs ds+4≤_
  have:=Nat.mul_le_mul_right (w+2) hl
  omega
theorem Sw.cts {c:List Int} (h:∀ x∈c,0≤x∧x<1000) {k:Nat} (hl:c.length≤k):Sw 2 (k*1923+4) (ctD c):=Sw.tup (n:=1) (w:=1921) (fun d hd=>by
  obtain ⟨x,hx,rfl⟩:=List.mem_map.mp hd
  exact Sw.int (k:=10) (by have:=h x hx; show x.natAbs<1024; omega)) (by rw [List.length_map]; exact hl)
theorem rrW {H:Hp} {Q:VK} {x:V} {d:PyData} {n w:Nat} (r:Rep H d x) (h:Sw n w d) (hn:n≤60) (hw:w≤16000000) (q:Q (.str d.shown) H):rRepr [x] H Q :=
  rrI r h.sh h.nd (Nat.le_trans h.dp hn) (Nat.le_trans (shown_le _ h.sh h.nd) (Nat.le_trans h.wd (Nat.le_trans hw (by decide)))) q
theorem due_sw:∀ o:Option Nat,Sw 1 8 (.str (dueS o))
  | none=>Sw.str (by decide +kernel)
  | some 0=>Sw.str (by decide +kernel)
  | some (_+1)=>Sw.str (by show (reprText ("" : Str)).length≤8; decide +kernel)
def wayN:Option Nat→Option Nat
  | some (j+1)=>some j
  | _=>none
theorem way_eq:∀ o:Option Nat,wayV o=plV (wayN o)
  | none=>rfl
  | some 0=>rfl
  | some (_+1)=>rfl
theorem pl_sw {o:Option Nat} (h:∀ j,o=some j→j<1000):Sw 1 1921 (plD o):=by
  cases o with
  | none=>exact ⟨rfl,rfl,by simp [PyData.depth],by decide⟩
  | some j=>exact Sw.int (k:=10) (by have:=h j rfl; show (j:Int).natAbs<1024; omega)
theorem de_sw {F:Nat} {s:Std} (hF:F≤4):∀ {d:Deed},okD F s d→Sw 3 8000 (deD d)
  | .look i,h=>Sw.le (Sw.tup (n:=1) (w:=1921) (k:=2) (fun d hd=>by
      simp only [List.mem_cons,List.not_mem_nil,or_false] at hd
      rcases hd with rfl | rfl
      · exact Sw.le (Sw.str (w:=8) (by decide +kernel))
      · exact Sw.int (k:=10) (by have:=h.2; show (i:Int).natAbs<1024; omega)) (Nat.le_refl _))
  | .lot l,h=>Sw.le (Sw.tup (n:=2) (w:=3850) (k:=2) (fun d hd=>by
      simp only [List.mem_cons,List.not_mem_nil,or_false] at hd
      rcases hd with rfl | rfl
      · exact Sw.le (Sw.str (w:=8) (by decide +kernel))
      · exact Sw.fr ⟨sz_mono h.2.1.sz.1,sz_mono h.2.1.sz.2⟩) (Nat.le_refl _))
theorem told_sw {es:List Ent} {F:Nat} {ts:List Deed} (rt:Rt es F ts) (hF:F≤4) (hl:ts.length≤100):Sw 4 (100*8002+4) (.list (ts.map deD)):=Sw.lst (n:=3) (w:=8000) (fun d hd=>by
  obtain ⟨t,ht,rfl⟩:=List.mem_map.mp hd
  obtain ⟨i,hi⟩:=List.mem_iff_getElem?.mp ht
  exact de_sw hF (rt.at hi)) (by rw [List.length_map]; exact hl)
theorem mem_sum_le:∀ {c:List Int},(∀ x∈c,0≤x)→∀ x∈c,x≤c.sum
  | [],_,x,hx=>by cases hx
  | y::c,h,x,hx=>by
    have h1:=nn_sum (c:=c) fun z hz=>h z (List.mem_cons_of_mem _ hz)
    rw [List.sum_cons]
    rcases List.mem_cons.mp hx with rfl | hx
    · omega
    · have:=mem_sum_le (fun z hz=>h z (List.mem_cons_of_mem _ hz)) x hx
      have:=h y (List.mem_cons_self ..)
      omega
theorem stand_sw {F nW M:Nat} {es:List Ent} (ok:RuOk F nW M es) (hF:F≤4) (hW:nW≤4) (hM:M≤8) {s:Std} (ir:InR F nW es s):Sw 3 (3*7700+4) (.list [.str (dueS s.2),ctD s.1,plD (wayN s.2)]):=Sw.lst (n:=2) (w:=7698) (k:=3) (fun d hd=>by
  simp only [List.mem_cons,List.not_mem_nil,or_false] at hd
  rcases hd with rfl | rfl | rfl
  · exact Sw.le (due_sw _)
  · obtain ⟨fs,he,_⟩:=ir.ex
    obtain ⟨_,h2,h3,_⟩:=ok.each _ he
    exact Sw.le (Sw.cts (k:=4) (fun x hx=>⟨h2 x hx,by have:=mem_sum_le h2 x hx; have h3:s.1.sum≤(M:Int):=h3; omega⟩) (by rw [ir.len]; exact hF))
  · refine Sw.le (pl_sw fun j hj=>?_)
    obtain ⟨fs,he,_,sy,_,hlt⟩:=ir.ex
    have hs:=sy.len
    generalize s.2=o at hj hlt
    match o,hj with
    | some (i+1),hj =>
      have:=hlt (i+1) rfl
      injection hj with hj
      omega) (Nat.le_refl _)
theorem des_shaped (ts:List Deed):SeqAt.shaped (.list (ts.map deD))=true:=by
  have h:∀ ts:List Deed,PyData.canLayAll0 (ts.map deD)=true∧PyData.depthAll (ts.map deD)≤4:=fun ts=>by
    induction ts with
    | nil=>exact ⟨rfl,by show 0≤4; omega⟩
    | cons d ts ih =>
      refine ⟨?_,?_⟩
      · show (PyData.canLay0 (deD d)&&PyData.canLayAll0 (ts.map deD))=true
        rw [ih.1]
        cases d <;> simp [deD,PyData.canLay0,PyData.canLayAll0] <;> decide +kernel
      · show max (PyData.depth (deD d)) (PyData.depthAll (ts.map deD))≤4
        have:PyData.depth (deD d)≤4:=by cases d <;> simp [deD,PyData.depth,PyData.depthAll]
        have:=ih.2
        omega
  unfold SeqAt.shaped
  rw [show PyData.canLay0 (.list (ts.map deD))=PyData.canLayAll0 (ts.map deD) from rfl,(h ts).1,Bool.true_and,decide_eq_true_eq]
  have:=(h ts).2
  simp only [PyData.depth]
  omega
theorem eqv_nilG {α:Type} (g:α→PyData) (xs:List α):PyData.eqv (.list (xs.map g)) (.list [])=decide (xs=[]):=by
  cases xs with
  | nil=>rfl
  | cons c cs=>show PyData.eqvAll (g c::cs.map g) []=_; simp [PyData.eqvAll]
@[irreducible] def sp_wright (C:Addr):Sp:=fun vs H Q _=>∃ (W:Wt) (r:V) (l:Addr) (xs:List V) (F nW M:Nat) (es:List Ent) (ts:List Deed),vs=[.ref W.a,r,.ref l]∧WAt C H W F es ts∧Rep H (ruD es) r∧H l=some (.lst xs)∧RepL H (ts.map deD) xs∧RuOk F nW M es∧2≤F∧F≤4∧nW≤4∧M≤8∧Rt es F ts∧ts.length≤100∧∀ H',Same H H'→Q (.bl true) H'
theorem sp_wright_i {C:Addr} {H:Hp} {Q:VK} {E:XK} {W:Wt} {r:V} {l:Addr} {xs:List V} {F nW M:Nat} {es:List Ent} {ts:List Deed} (wa:WAt C H W F es ts) (h1:Rep H (ruD es) r) (h2:H l=some (.lst xs)) (h3:RepL H (ts.map deD) xs) (ok:RuOk F nW M es) (f2:2≤F) (f4:F≤4) (w4:nW≤4) (m8:M≤8) (rt:Rt es F ts) (hl:ts.length≤100) (q:∀ H',Same H H'→Q (.bl true) H'):sp_wright C [.ref W.a,r,.ref l] H Q E:=by
  unfold sp_wright; exact ⟨W,r,l,xs,F,nW,M,es,ts,rfl,wa,h1,h2,h3,ok,f2,f4,w4,m8,rt,hl,q⟩
section
variable {P:Program} {w:World} {K:PySem.W.Frag} {mg:Str→Option Value} {base:Heap} {c:Cl}
set_option maxHeartbeats 8000000 in
theorem ok__law_watch_right {f:Addr} {fd:FuncData} (F:Fun K "_law_watch_right" "_law_watch_right" s__law_watch_right f fd) (T:Txt K mg c) (F__law_stand:FnC CX0 P w K mg base 4 "_law_stand" ["_law_rule_here", "_law_told"] sp_stand) (F__law_due:FnC CX0 P w K mg base 1 "_law_due" ["_law_place"] sp_ldue)
    (F_Watch_trail:FnM P w K mg base 1 c.Watch "trail" ["self"] (sp_trail c.Watch)) (F_Watch_due:FnM P w K mg base 1 c.Watch "due" ["self"] (sp_due c.Watch)) (F_Watch_seen:FnM P w K mg base 1 c.Watch "seen" ["self"] (sp_seen c.Watch)) (F_Watch_way:FnM P w K mg base 2 c.Watch "way" ["self"] (sp_way c.Watch)):FnOk P w K mg base CX0 5 f fd ["_law_watch", "_law_rule_here", "_law_told"] (sp_wright c.Watch):=by
  refine F.okw sc__law_watch_right (fun vs H Q E h=>?_) (fun cdv A outer s H vs Q E hr h=>?_)
  · unfold sp_wright at h
    obtain ⟨W,r,l,xs,F,nW,M,es,ts,rfl,_⟩:=h
    rfl
  · unfold sp_wright at h
    obtain ⟨W,r,l,xs,F,nW,M,es,ts,rfl,wa,rr,hl,rxs,ok,f2,f4,w4,m8,rt,h100,q⟩:=h
    have ir:=rt.inR ok w4
    have lx:xs.length=ts.length:=by rw [rxs.len,List.length_map]
    refine ⟨_,(wss_cons (ws_asg (we_fn F__law_stand (hr.mono (by decide)) (wa_k (we_v 1) (wa_k (we_v 2) wa_nil))) (wg_tup rfl (wgs_cons (wg_name (i:=3) sc__law_watch_right.nd rfl (Or.inl rfl)) (wgs_cons (wg_name (i:=4) sc__law_watch_right.nd rfl (Or.inl rfl)) wgs_nil))))
      (wss_cons (ws_set (i:=5) sc__law_watch_right.nd rfl (Or.inl rfl) we_non)
      (wss_cons (ws_cut (ws_if (wt_mono (wt_w (ww_and (wt_cmp op_notN (we_v 4) we_non (nomark _)) (ww_and1 (wt_cmp op_gt (we_v 4) we_int (nomark _)))))) (wss_one (ws_set (i:=5) sc__law_watch_right.nd rfl (Or.inl rfl) (we_op op_sub (we_v 4) we_int))) wss_nil))
      (wss_cons (ws_for PassesOwn.never rfl (wi_range1 rfl T.b_range (wa_k we_int wa_nil)) (wg_name (i:=6) sc__law_watch_right.nd rfl (Or.inl rfl)) (wss_cons (ws_set (i:=7) sc__law_watch_right.nd rfl (Or.inl rfl) (we_mth0 F_Watch_trail T.w_Watch.cls (hr.mono (by decide)) (we_v 0)))
      (wss_cons (ws_if (wt_cmp op_ne (we_cB (cl_repr hr.gd hr.units) (by rfl) T.b_repr (by decide +kernel) (wa_k (we_lst (wa_k (we_mth0 F_Watch_due T.w_Watch.cls (hr.mono (by decide)) (we_v 0)) (wa_k (we_mth0 F_Watch_seen T.w_Watch.cls (hr.mono (by decide)) (we_v 0)) (wa_k (we_mth0 F_Watch_way T.w_Watch.cls (hr.mono (by decide)) (we_v 0)) wa_nil)))) wa_nil)) (we_cB (cl_repr hr.gd hr.units) (by rfl) T.b_repr (by decide +kernel) (wa_k (we_lst (wa_k (we_fn F__law_due (hr.mono (by decide)) (wa_k (we_v 4) wa_nil)) (wa_k (we_v 3) (wa_k (we_v 5) wa_nil)))) wa_nil)) (nomark _)) (wss_one (ws_ret we_bl)) wss_nil)
      (wss_cons (ws_if (wt_mono (wt_w (ww_or (wt_not (wt_val (we_cB cl_isi (by rfl) T.b_isinstance (by decide +kernel) (wa_k (we_v 7) (wa_k (we_bltn (v:=.ty "list") (u:=.type "list") rfl T.b_list (by decide +kernel) rfl) wa_nil))))) (ww_or1 (wt_cmp op_ne (we_cB (cl_repr hr.gd hr.units) (by rfl) T.b_repr (by decide +kernel) (wa_k (we_v 7) wa_nil)) (we_cB (cl_repr hr.gd hr.units) (by rfl) T.b_repr (by decide +kernel) (wa_k (we_v 2) wa_nil)) (nomark _)))))) (wss_one (ws_ret we_bl)) wss_nil)
      (wss_cons (ws_expr (we_bm PySem.F.plainAttrs_list PySem.F.slot_list_append PySem.F.type_list_append mt_app (we_v 7) (wa_k (we_tup (wa_k we_str (wa_k we_int wa_nil))) wa_nil)))
      (wss_one (ws_expr (we_bm0 PySem.F.plainAttrs_list PySem.F.slot_list_reverse PySem.F.type_list_reverse mt_rev (we_v 7)))))))))
      (wss_one (ws_ret we_bl)))))),?_⟩
    refine ⟨_,rfl,_,rfl,?_⟩
    refine sp_stand_i rr hl rxs ok f2 f4 w4 rt fun v H1 s1 r1=>?_
    obtain ⟨a1,x1,y1,rfl,ha1,rx1,ry1⟩:=sdD_at r1
    cases plD_at ry1
    refine ⟨a1,_,rfl,SqT.of ha1,rfl,_,_,rfl,_,_,rfl,rfl,?_⟩
    refine ⟨fun σ H2=>∃ o6 o7,σ=[some (.ref W.a),some r,some (.ref l),some x1,some (plV (stand es F ts).2),some (plV (wayN (stand es F ts).2)),o6,o7]∧H2=H1,?_,?_⟩
    · rintro σ H2 ⟨o6,o7,rfl,rfl⟩
      refine ⟨_,rfl,by decide,by decide,?_⟩
      refine for_range (fun i σ H'=>∃ o6 o7,σ=[some (.ref W.a),some r,some (.ref l),some x1,some (plV (stand es F ts).2),some (plV (wayN (stand es F ts).2)),o6,o7]∧Same H2 H') ⟨_,_,rfl,Same.refl _⟩ ?_ ?_
      · rintro i σ H3 hi ⟨o6,o7,rfl,s3⟩
        have wa3:=(wa.same s1).same s3
        refine ⟨_,rfl,W.a,W.dx,_,rfl,wa3.wi.ins,rfl,?_⟩
        refine sp_trail_i wa3 h100 fun D zs H4 hD e4 r4 s4=>?_
        have wa4:=wa3.same s4
        refine ⟨_,rfl,W.a,W.dx,_,rfl,wa4.wi.ins,rfl,?_⟩
        refine sp_due_i wa4 ?_
        refine ⟨_,rfl,W.a,W.dx,_,rfl,wa4.wi.ins,rfl,?_⟩
        refine sp_seen_i wa4 fun v5 rv5=>?_
        refine ⟨_,rfl,W.a,W.dx,_,rfl,wa4.wi.ins,rfl,?_⟩
        refine sp_way_i wa4 ?_
        have sw:=stand_sw ok f4 w4 m8 ir
        rw [way_eq]
        refine nwL (by show 3≤64; decide) fun q6 H6 hq6 e6 s6=>?_
        refine rrW (Rep.lst e6 (RepL.cons (Rep.str _) (RepL.cons (rv5.same s6) (RepL.cons (plD_of _) RepL.nil)))) sw (by decide) (by decide) ?_
        refine ⟨_,rfl,?_⟩
        refine sp_ldue_i ?_
        refine ⟨_,rfl,_,rfl,?_⟩
        have s46:=(s3.trans s4).trans s6
        refine nwL (by show 3≤64; decide) fun q7 H7 hq7 e7 s7=>?_
        refine rrW (Rep.lst e7 (RepL.cons (Rep.str _) (RepL.cons (rx1.same (s46.trans s7)) (RepL.cons (plD_of _) RepL.nil)))) sw (by decide) (by decide) ?_
        refine ⟨rfl,_,rfl,?_⟩
        refine iteDN (fun z=>absurd rfl z) (fun _=>?_)
        have s47:=s6.trans s7
        have e7D:=s47 _ _ e4
        have r7:=r4.same s47
        have S7:=s46.trans s7
        have hl7:=(s1.trans S7) _ _ hl
        have rx7:=rxs.same (s1.trans S7)
        have tw:=told_sw rt f4 h100
        refine ⟨fun b H'=>b=false∧H'=H7,?_,?_⟩
        · refine ⟨_,rfl,?_⟩
          refine riI (Rep.lst e7D r7) ?_
          refine ⟨_,rfl,?_⟩
          refine iteF ?_
          refine ⟨_,rfl,?_⟩
          refine rrW (Rep.lst e7D r7) tw (by decide) (by decide) ?_
          refine ⟨_,rfl,?_⟩
          refine rrW (Rep.lst hl7 rx7) tw (by decide) (by decide) ?_
          exact ⟨rfl,_,rfl,by rw [decide_eq_true rfl]; rfl,rfl⟩
        · rintro b H' ⟨rfl,rfl⟩
          refine iteF ?_
          refine ⟨_,rfl,tyL e7D,?_⟩
          refine nwT (by show 2≤64; decide) fun q8 H8 hq8 e8 s8=>?_
          have lz:zs.length=ts.length:=by rw [r4.len,List.length_map]
          refine appL (s8 _ _ e7D) (by omega) fun H9 e9 b9=>?_
          refine ⟨_,rfl,tyL e9,?_⟩
          refine revL e9 fun H10 e10 b10=>?_
          have hD2:H2 D=none:=s3.free hD
          exact ⟨_,_,rfl,Same.thru hD2 (Same.thru hD2 (S7.trans s8) b9) b10⟩
      · rintro σ H3 ⟨o6,o7,rfl,s3⟩
        exact q H3 (s1.trans s3)
    · refine ⟨fun b H'=>b=(wayN (stand es F ts).2).isSome∧H'=H1,?_,?_⟩
      · refine ⟨_,rfl,rfl,_,rfl,?_⟩
        match (stand es F ts).2 with
        | none=>exact iteF ⟨rfl,rfl⟩
        | some 0=>exact iteT ⟨_,rfl,_,_,rfl,rfl,_,rfl,by rw [decide_eq_false (by decide)]; rfl,rfl⟩
        | some (j+1)=>exact iteT ⟨_,rfl,_,_,rfl,rfl,_,rfl,decide_eq_true (by show (0:Int)<((j+1:Nat):Int); omega),rfl⟩
      · rintro b H' ⟨rfl,rfl⟩
        match (stand es F ts).2 with
        | none=>exact iteF ⟨_,_,rfl,rfl⟩
        | some 0=>exact iteF ⟨_,_,rfl,rfl⟩
        | some (j+1) =>
          refine iteT ⟨_,rfl,_,_,rfl,rfl,none,none,?_,rfl⟩
          have:V.int (((j+1:Nat):Int) - 1)=V.int (j:Int):=congrArg V.int (by omega)
          show [some (.ref W.a),some r,some (.ref l),some x1,some (plV (some (j+1))),some (V.int (((j+1:Nat):Int) - 1)),none,none]=_
          rw [this]
          rfl
end
end Kw
set_option Elab.async false
set_option linter.all false
set_option maxRecDepth 100000
namespace Kw
open PySem L2 Mf
abbrev s__law_refused:Stmt:=(top 46)
theorem sc__law_refused:FnScope ["_law_watch", "_law_kind", "_law_thing", "_law_word", "_law_error", "e", "_law_kinds"] ["_law_watch", "_law_kind", "_law_thing"] (defScope s__law_refused):=⟨rfl,rfl,rfl,by decide +kernel,rfl,by decide +kernel,by decide +kernel⟩
abbrev s__law_no_back:Stmt:=(top 47)
theorem sc__law_no_back:FnScope ["_law_watch", "_law_caught", "e", "_law_strange"] ["_law_watch"] (defScope s__law_no_back):=⟨rfl,rfl,rfl,by decide +kernel,rfl,by decide +kernel,by decide +kernel⟩
abbrev s__law_tries:Stmt:=(top 48)
theorem sc__law_tries:FnScope ["_law_faces", "_law_place", "_law_due_here", "_law_tries_here", "_law_face", "_law_word", "_law_lots", "_law_lot_here"] ["_law_faces", "_law_place"] (defScope s__law_tries):=⟨rfl,rfl,rfl,by decide +kernel,rfl,by decide +kernel,by decide +kernel⟩
def faceL (F:Nat):List PyData:=[.int 0,.int (F:Int),.int (-1),.bool true,.none,.str "0",.tuple [.int 0],.int (10^30)]
def lotL:List PyData:=[frD (0,1),frD (1,2),frD (1,1),frD (3,2),frD (-1,2),frD (2,4),frD (0,2),.int 0,.tuple [.bool true,.int 2],.none,.list [.int 1,.int 2]]++[.str "0",frD (1,0),.tuple [.int 0,.bool true]]
def Ref (F:Nat) (o:Option Nat) (k:Str) (d:PyData) (x:Str):Prop:=(k = "look" ∧ lookW F d o=some x)∨(k = "lot" ∧ SeqAt.shaped d=true∧lotW d o=some x)
def TryOk (H:Hp) (F:Nat) (o:Option Nat) (v:V):Prop:=∃ a k y d x,v=.ref a∧H a=some (.tup [.str k,y,.str x])∧Rep H d y∧Ref F o k d x
theorem TryOk.same {H H':Hp} {F:Nat} {o:Option Nat} {v:V} (h:TryOk H F o v) (s:Same H H'):TryOk H' F o v:=by
  obtain ⟨a,k,y,d,x,h1,h2,h3,h4⟩:=h
  exact ⟨a,k,y,d,x,h1,s _ _ h2,h3.same s,h4⟩
@[irreducible] def sp_refused (C:Addr):Sp:=fun vs H Q _=>∃ (W:Wt) (F nW M:Nat) (es:List Ent) (ts:List Deed) (k x:Str) (y:V) (d:PyData),vs=[.ref W.a,.str k,y]∧Rep H d y∧WAt C H W F es ts∧RtOk F nW M es ts∧Ref F (stand es F ts).2 k d x∧∀ H',Same H H'→Q (.str x) H'
theorem sp_refused_i {C:Addr} {H:Hp} {Q:VK} {E:XK} {W:Wt} {F nW M:Nat} {es:List Ent} {ts:List Deed} {k x:Str} {y:V} {d:PyData} (r:Rep H d y) (wa:WAt C H W F es ts) (ok:RtOk F nW M es ts) (rf:Ref F (stand es F ts).2 k d x) (q:∀ H',Same H H'→Q (.str x) H'):sp_refused C [.ref W.a,.str k,y] H Q E:=by
  unfold sp_refused; exact ⟨W,F,nW,M,es,ts,k,x,y,d,rfl,r,wa,ok,rf,q⟩
@[irreducible] def sp_noback (C:Addr):Sp:=fun vs H Q _=>∃ (W:Wt) (F:Nat) (es:List Ent),vs=[.ref W.a]∧WAt C H W F es []∧∀ H',Same H H'→Q (.bl true) H'
theorem sp_noback_i {C:Addr} {H:Hp} {Q:VK} {E:XK} {W:Wt} {F:Nat} {es:List Ent} (wa:WAt C H W F es []) (q:∀ H',Same H H'→Q (.bl true) H'):sp_noback C [.ref W.a] H Q E:=by
  unfold sp_noback; exact ⟨W,F,es,rfl,wa,q⟩
@[irreducible] def sp_tries:Sp:=fun vs H Q _=>∃ (F:Nat) (o:Option Nat),vs=[.int (F:Int),plV o]∧F≤4∧∀ D xs H',Same H H'→H' D=some (.lst xs)→xs.length≤100→(∀ v∈xs,TryOk H' F o v)→Q (.ref D) H'
theorem sp_tries_i {H:Hp} {Q:VK} {E:XK} {F:Nat} {o:Option Nat} (hF:F≤4) (q:∀ D xs H',Same H H'→H' D=some (.lst xs)→xs.length≤100→(∀ v∈xs,TryOk H' F o v)→Q (.ref D) H'):sp_tries [.int (F:Int),plV o] H Q E:=by
  unfold sp_tries; exact ⟨F,o,rfl,hF,q⟩
theorem getS {σ:St} {H:Hp} {Q:VK} {i:Nat} {u a1 b1 a2 b2 z:Str} (hu:σ[i]?=some (some (.str u))) (h12:a1≠a2) (k:∀ H',Same H H'→Q (.str (if u=a1 then b1 else if u=a2 then b2 else z)) H'):tDGet2 (tDisp [(tC (.str a1),tC (.str b1)),(tC (.str a2),tC (.str b2))]) (tVar i) (tC (.str z)) σ H Q:=by
  intro p hp
  refine ⟨upd_same,[(.inr a1,.str b1),(.inr a2,.str b2)],rfl,by show 2≤15; decide,?_⟩
  have em:mergeK [] [((.inr a1:Key),V.str b1),(.inr a2,.str b2)]=[((.inr a1:Key),V.str b1),(.inr a2,.str b2)]:=by
    have n:((.inr a2:Key)=.inr a1)=False:=by simp [Ne.symm h12]
    simp [mergeK,putK,n,h12]
  rw [em]
  refine ⟨p,rfl,.inl ⟨_,.inl upd_same⟩,_,hu,_,DGet.k (k:=.inr u) upd_same,?_⟩
  have ev:(valV [((.inr a1:Key),V.str b1),(.inr a2,.str b2)] (.inr u)).getD (.str z)=.str (if u=a1 then b1 else if u=a2 then b2 else z):=by
    by_cases h1:u=a1
    · rw [if_pos h1,h1]; simp [valV]
    · by_cases h2:u=a2
      · rw [if_neg h1,if_pos h2,h2]; simp [valV,h12]
      · rw [if_neg h1,if_neg h2]; simp [valV,Ne.symm h1,Ne.symm h2]
  rw [ev]
  exact k _ fun b o e=>by
    have hb:b≠p:=fun z=>by rw [z,hp] at e; cases e
    rw [upd_ne hb,upd_ne hb]; exact e
theorem face_ref {F:Nat} {o:Option Nat} {d:PyData} (hF:F≤4) (hd:d∈faceL F) (h:dueS o ≠ "look" ∨ PyData.eqv d (.int 0)=false∨isD "bool" d=true):lookW F d o=some (if dueS o = "" then ("said" : Str) else if dueS o = "lot" then ("lot" : Str) else ("face" : Str)):=by
  match o with
  | none=>rfl
  | some (j+1)=>rfl
  | some 0 =>
    have h':=h.resolve_left (fun n=>n rfl)
    have:isFace F d=false:=by
      unfold faceL at hd
      simp only [List.mem_cons,List.not_mem_nil,or_false] at hd
      rcases hd with rfl | rfl | rfl | rfl | rfl | rfl | rfl | rfl
      · rcases h' with h' | h' <;> cases h'
      · show (decide (0≤(F:Int))&&decide ((F:Int)<(F:Int)))=false
        rw [decide_eq_false (show ¬ (F:Int)<(F:Int) by omega),Bool.and_false]
      · rfl
      · rfl
      · rfl
      · rfl
      · rfl
      · show (decide (0≤(10^30:Int))&&decide ((10^30:Int)<(F:Int)))=false
        rw [decide_eq_false (show ¬ (10^30:Int)<(F:Int) by omega),Bool.and_false]
    unfold lookW
    rw [this]
    rfl
theorem face_shaped {F:Nat} {d:PyData} (hd:d∈faceL F):SeqAt.shaped d=true:=by
  unfold faceL at hd
  simp only [List.mem_cons,List.not_mem_nil,or_false] at hd
  rcases hd with rfl | rfl | rfl | rfl | rfl | rfl | rfl | rfl <;> first | rfl | decide +kernel
structure LotOk (d:PyData):Prop where
  sh:d.showable=true
  nd:d.hasDict=false
  dp:d.depth≤60
  ln:d.shown.length≤sizeLine
  shp:SeqAt.shaped d=true
  one:(isShare d && !(PyData.eqv d (frD (1,1))))=true→inV (.str d.shown) [.str "(0, 1)",.str "(1, 2)"]=true
theorem lot_ok {d:PyData} (hd:d∈lotL):LotOk d:=by
  unfold lotL at hd
  simp only [List.cons_append,List.nil_append,List.mem_cons,List.not_mem_nil,or_false] at hd
  rcases hd with rfl | rfl | rfl | rfl | rfl | rfl | rfl | rfl | rfl | rfl | rfl | rfl | rfl | rfl
  all_goals exact ⟨by decide +kernel,by decide +kernel,by decide +kernel,by decide +kernel,by decide +kernel,by decide +kernel⟩
theorem lot_ref {F:Nat} {o:Option Nat} {d:PyData} (hd:d∈lotL) (h:dueS o ≠ "lot" ∨ inV (.str d.shown) [.str "(0, 1)",.str "(1, 2)"]=false):lotW d o=some (if dueS o = "" then ("said" : Str) else if dueS o = "look" then ("look" : Str) else ("share" : Str)):=by
  match o with
  | some 0=>rfl
  | some (j+1)=>rfl
  | none =>
    have h':=h.resolve_left (fun n=>n rfl)
    have:(isShare d && !(PyData.eqv d (frD (1,1))))=false:=by
      cases e:isShare d && !(PyData.eqv d (frD (1,1))) with
      | false=>rfl
      | true=>rw [(lot_ok hd).one e] at h'; cases h'
    unfold lotW
    rw [this]
    rfl
section
variable {P:Program} {w:World} {K:PySem.W.Frag} {mg:Str→Option Value} {base:Heap} {c:Cl}
set_option maxHeartbeats 4000000 in
theorem ok__law_no_back {f:Addr} {fd:FuncData} (F:Fun K "_law_no_back" "_law_no_back" s__law_no_back f fd) (T:Txt K mg c) (F_Watch_back:FnMX P w K mg base 1 c.Watch "back" ["self"] (sp_backX c.Watch c.NoBack)):FnOk P w K mg base CX0 2 f fd ["_law_watch"] (sp_noback c.Watch):=by
  refine F.okw sc__law_no_back (fun vs H Q E h=>?_) (fun cdv A outer s H vs Q E hr h=>?_)
  · unfold sp_noback at h
    obtain ⟨W,F,es,rfl,_⟩:=h
    rfl
  · unfold sp_noback at h
    obtain ⟨W,F,es,rfl,wa,q⟩:=h
    refine ⟨_,(wss_cons (ws_set (i:=1) sc__law_no_back.nd rfl (Or.inl rfl) we_bl)
      (wss_cons (ws_try (i:=2) rfl rfl rfl T.g_NoBack T.c_NoBack sc__law_no_back.nd rfl rfl (fun _ _ _ hx=>(wss_one (ws_expr (we_mthX0 F_Watch_back T.w_Watch.cls (hr.mono (by decide)) hx (we_v 0))))) (fun _=>(wss_cons (ws_set (i:=3) sc__law_no_back.nd rfl (Or.inl rfl) (we_cB (cl_isiXK K) (by rfl) T.b_isinstance (by decide +kernel) (wa_k (we_v 2) (wa_k (we_tup (wa_k (we_glob (v:=.ref c.NoBounds) rfl T.g_NoBounds rfl) (wa_k (we_glob (v:=.ref c.NoFraction) rfl T.g_NoFraction rfl) (wa_k (we_glob (v:=.ref c.NoLines) rfl T.g_NoLines rfl) (wa_k (we_glob (v:=.ref c.NoLook) rfl T.g_NoLook rfl) (wa_k (we_glob (v:=.ref c.NoOrder) rfl T.g_NoOrder rfl) (wa_k (we_glob (v:=.ref c.NoPaper) rfl T.g_NoPaper rfl) (wa_k (we_glob (v:=.ref c.NoRow) rfl T.g_NoRow rfl) (wa_k (we_glob (v:=.ref c.NoRule) rfl T.g_NoRule rfl) (wa_k (we_glob (v:=.ref c.NoTrial) rfl T.g_NoTrial rfl) wa_nil)))))))))) wa_nil))))
      (wss_one (ws_set (i:=1) sc__law_no_back.nd rfl (Or.inl rfl) (we_and (we_cB (cl_isiXK K) (by rfl) T.b_isinstance (by decide +kernel) (wa_k (we_v 2) (wa_k (we_bltn (v:=.ty "ValueError") (u:=.type "ValueError") rfl T.b_ValueError (by decide +kernel) rfl) wa_nil))) (we_one (we_not (we_v 3)))))))))
      (wss_one (ws_ret (we_v 1))))),?_⟩
    refine ⟨fun σ' cls od H'=>σ'=[some (.ref W.a),some (.bl false),none,none]∧cls=.ref c.NoBack∧od=none∧H'=H,?_,?_⟩
    · refine ⟨_,rfl,W.a,W.dx,_,rfl,wa.wi.ins,rfl,?_⟩
      exact sp_backX_i wa (fun _=>⟨rfl,rfl,rfl,rfl⟩) (fun us d z=>absurd z (by simp))
    · rintro σ' cls od H' ⟨rfl,rfl,rfl,rfl⟩
      refine ⟨c.NoBack,rfl,T.sub_NoBack,fun a na=>?_⟩
      have ea:(upd H' a (ExcO a c.NoBack none)) a=some (ExcO a c.NoBack none):=upd_same
      have sa:=Same.upd (o:=ExcO a c.NoBack none) na
      generalize upd H' a (ExcO a c.NoBack none)=H1 at ea sa
      refine ⟨_,rfl,?_⟩
      refine nwT (by show 9≤64; decide) fun tp H2 htp e2 s2=>?_
      refine rxTup (b:=false) (s2 _ _ ea) T.e_NoBack e2 (fun us hv=>?_) ?_
      · cases hv with | cons r1 hv=>cases hv with | cons r2 hv=>cases hv with | cons r3 hv=>cases hv with | cons r4 hv=>cases hv with | cons r5 hv=>cases hv with | cons r6 hv=>cases hv with | cons r7 hv=>cases hv with | cons r8 hv=>cases hv with | cons r9 hv=>cases hv; cases r1; cases r2; cases r3; cases r4; cases r5; cases r6; cases r7; cases r8; cases r9; exact T.k4
      refine ⟨_,rfl,?_⟩
      refine rxOne (b:=true) (s2 _ _ ea) T.e_NoBack _ rfl T.k5 ?_
      refine ⟨_,rfl,iteT ?_⟩
      exact ⟨_,rfl,_,rfl,_,rfl,q H2 (sa.trans s2)⟩
set_option maxHeartbeats 4000000 in
theorem ok__law_refused {f:Addr} {fd:FuncData} (F:Fun K "_law_refused" "_law_refused" s__law_refused f fd) (T:Txt K mg c) (F_Watch_look:FnMX P w K mg base 4 c.Watch "look" ["self", "face"] (sp_lookX c.Watch c.NoLook)) (F_Watch_lot:FnMX P w K mg base 4 c.Watch "lot" ["self", "share"] (sp_lotX c.Watch c.NoLook)):FnOk P w K mg base CX0 5 f fd ["_law_watch", "_law_kind", "_law_thing"] (sp_refused c.Watch):=by
  refine F.okw sc__law_refused (fun vs H Q E h=>?_) (fun cdv A outer s H vs Q E hr h=>?_)
  · unfold sp_refused at h
    obtain ⟨W,F,nW,M,es,ts,k,x,y,d,rfl,_⟩:=h
    rfl
  · unfold sp_refused at h
    obtain ⟨W,F,nW,M,es,ts,k,x,y,d,rfl,ry,wa,ok,rf,q⟩:=h
    refine ⟨_,(wss_cons (ws_set (i:=3) sc__law_refused.nd rfl (Or.inl rfl) we_str)
      (wss_cons (ws_set (i:=4) sc__law_refused.nd rfl (Or.inl rfl) we_non)
      (wss_cons (ws_try (i:=5) rfl rfl rfl T.g_NoLook T.c_NoLook sc__law_refused.nd rfl rfl (fun _ _ _ hx=>(wss_one (ws_if (wt_cmp op_eq (we_v 1) we_str (nomark _)) (wss_one (ws_expr (we_mthX F_Watch_look T.w_Watch.cls (hr.mono (by decide)) hx (we_v 0) (wa_k (we_v 2) wa_nil)))) (wss_one (ws_expr (we_mthX F_Watch_lot T.w_Watch.cls (hr.mono (by decide)) hx (we_v 0) (wa_k (we_v 2) wa_nil))))))) (fun _=>(wss_one (ws_set (i:=4) sc__law_refused.nd rfl (Or.inl rfl) (we_v 5)))))
      (wss_cons (ws_cut (ws_if (wt_cmp op_notN (we_v 4) we_non (nomark _)) (wss_cons (ws_set (i:=6) sc__law_refused.nd rfl (Or.inl rfl) (we_lst (wa_k (we_cB (cl_isiW K) (by rfl) T.b_isinstance (by decide +kernel) (wa_k (we_v 4) (wa_k (we_tup (wa_k (we_glob (v:=.ref c.NoBack) rfl T.g_NoBack rfl) (wa_k (we_glob (v:=.ref c.NoBounds) rfl T.g_NoBounds rfl) (wa_k (we_glob (v:=.ref c.NoFraction) rfl T.g_NoFraction rfl) (wa_k (we_glob (v:=.ref c.NoLines) rfl T.g_NoLines rfl) (wa_k (we_glob (v:=.ref c.NoOrder) rfl T.g_NoOrder rfl) wa_nil)))))) wa_nil))) wa_nil)))
      (wss_cons (ws_expr (we_bm PySem.F.plainAttrs_list PySem.F.slot_list_append PySem.F.type_list_append mt_app (we_v 6) (wa_k (we_cB (cl_isiW K) (by rfl) T.b_isinstance (by decide +kernel) (wa_k (we_v 4) (wa_k (we_tup (wa_k (we_glob (v:=.ref c.NoPaper) rfl T.g_NoPaper rfl) (wa_k (we_glob (v:=.ref c.NoRow) rfl T.g_NoRow rfl) (wa_k (we_glob (v:=.ref c.NoRule) rfl T.g_NoRule rfl) (wa_k (we_glob (v:=.ref c.NoTrial) rfl T.g_NoTrial rfl) wa_nil))))) wa_nil))) wa_nil)))
      (wss_one (ws_set (i:=3) sc__law_refused.nd rfl (Or.inl rfl) (we_ifExp (wt_w (ww_and (wt_cmp (op_eqD hr.units) (we_v 6) (we_lst (wa_k we_bl (wa_k we_bl wa_nil))) (nomark _)) (ww_and1 (wt_val (we_cB (cl_isiYK K) (by rfl) T.b_isinstance (by decide +kernel) (wa_k (we_v 4) (wa_k (we_bltn (v:=.ty "ValueError") (u:=.type "ValueError") rfl T.b_ValueError (by decide +kernel) rfl) wa_nil))))))) (we_fldX (we_v 4)) we_str))))) wss_nil))
      (wss_one (ws_ret (we_v 3))))))),?_⟩
    refine ⟨fun σ' cls od H'=>σ'=[some (.ref W.a),some (.str k),some y,some (.str ""),some .non,none,none]∧cls=.ref c.NoLook∧Same H H'∧∃ d,od=some d∧H' d=some (XdO d [("word",.str x)]),?_,?_⟩
    · refine ⟨_,rfl,rfl,_,rfl,?_⟩
      rcases rf with ⟨rfl,hw⟩ | ⟨rfl,shp,hw⟩
      · refine iteT ?_
        refine ⟨_,rfl,W.a,W.dx,_,rfl,wa.wi.ins,rfl,?_⟩
        refine ⟨_,rfl,?_⟩
        refine sp_lookX_i ry wa ok (fun x' hx'=>?_) (fun i hi okd=>?_)
        · rw [hw] at hx'; cases hx'
          exact fun d H' s e=>⟨rfl,rfl,s,d,rfl,e⟩
        · exfalso
          subst hi
          rw [okd.1] at hw
          have ef:isFace F (.int (i:Int))=true:=by
            show (decide (0≤(i:Int))&&decide ((i:Int)<(F:Int)))=true
            rw [decide_eq_true (by omega),decide_eq_true (by have:=okd.2; omega)]; rfl
          unfold lookW at hw
          rw [ef] at hw
          cases hw
      · refine iteD (fun z=>absurd z (by decide)) (fun _=>?_)
        refine ⟨_,rfl,W.a,W.dx,_,rfl,wa.wi.ins,rfl,?_⟩
        refine ⟨_,rfl,?_⟩
        refine sp_lotX_i ry shp wa ok (fun x' hx'=>?_) (fun z=>?_)
        · rw [hw] at hx'; cases hx'
          exact fun d H' s e=>⟨rfl,rfl,s,d,rfl,e⟩
        · rw [hw] at z; cases z
    · rintro σ' cls od H' ⟨rfl,rfl,s1,d',rfl,ed⟩
      refine ⟨c.NoLook,rfl,T.sub_NoLook,fun a na=>?_⟩
      have ea:(upd H' a (ExcO a c.NoLook (some d'))) a=some (ExcO a c.NoLook (some d')):=upd_same
      have sa:=Same.upd (o:=ExcO a c.NoLook (some d')) na
      generalize upd H' a (ExcO a c.NoLook (some d'))=H1 at ea sa
      have ec:=excAll.cls T.ec_NoLook
      have ed1:=sa _ _ ed
      have hx:∀ H',Same H1 H'→XHas H' (some d'):=fun H' s'=>⟨_,s' _ _ ed1⟩
      refine ⟨_,rfl,?_⟩
      refine ⟨fun σ H2=>Same H1 H2∧σ[3]?=some (some (.str x)),?_,?_⟩
      · rintro σ H2 ⟨s2,hσ⟩
        exact ⟨_,hσ,q H2 ((s1.trans sa).trans s2)⟩
      refine ⟨_,rfl,rfl,_,rfl,iteT ?_⟩
      refine ⟨_,rfl,?_⟩
      refine nwT (by show 5≤64; decide) fun tp H2 htp e2 s2=>?_
      refine rwI (b:=false) (s2 _ _ ea) (hx H2 s2) ec e2 (fun us hv=>?_) ?_
      · cases hv with | cons r1 hv=>cases hv with | cons r2 hv=>cases hv with | cons r3 hv=>cases hv with | cons r4 hv=>cases hv with | cons r5 hv=>cases hv; cases r1; cases r2; cases r3; cases r4; cases r5; exact T.k1
      refine nwL (by show 1≤64; decide) fun ks H3 hks e3 s3=>?_
      have s13:=s2.trans s3
      refine ⟨_,rfl,tyL e3,_,rfl,?_⟩
      refine nwT (by show 4≤64; decide) fun tp2 H4 htp2 e4 s4=>?_
      have s14:=s13.trans s4
      refine rwI (b:=false) (s14 _ _ ea) (hx H4 s14) ec e4 (fun us hv=>?_) ?_
      · cases hv with | cons r1 hv=>cases hv with | cons r2 hv=>cases hv with | cons r3 hv=>cases hv with | cons r4 hv=>cases hv; cases r1; cases r2; cases r3; cases r4; exact T.k2
      refine appL (s4 _ _ e3) (by decide) fun H5 e5 b5=>?_
      have hks0:H1 ks=none:=s2.free hks
      have S5:Same H1 H5:=Same.thru hks0 s14 b5
      refine ⟨_,rfl,?_⟩
      refine nwL (by show 2≤64; decide) fun q6 H6 hq6 e6 s6=>?_
      refine reD (d:=.list [.bool false,.bool false]) (d':=.list [.bool false,.bool false]) (Rep.lst (s6 _ _ e5) (RepL.cons (Rep.bl _) (RepL.cons (Rep.bl _) RepL.nil))) (Rep.lst e6 (RepL.cons (Rep.bl _) (RepL.cons (Rep.bl _) RepL.nil))) rfl rfl ?_
      have S6:=S5.trans s6
      refine ⟨_,rfl,iteT ?_⟩
      refine ⟨_,rfl,?_⟩
      refine ryI (b:=true) (S6 _ _ ea) (hx H6 S6) ec _ rfl T.k3 ?_
      refine ⟨_,rfl,iteT ?_⟩
      exact ⟨_,rfl,a,c.NoLook,d',_,_,rfl,S6 _ _ ea,S6 _ _ ed1,ec,(setAll.set T.st_NoLook).hd,setAll.no T.st_NoLook (by simp),rfl,S6,rfl⟩
set_option maxHeartbeats 4000000 in
theorem ok__law_tries {f:Addr} {fd:FuncData} (F:Fun K "_law_tries" "_law_tries" s__law_tries f fd) (T:Txt K mg c) (F__law_due:FnC CX0 P w K mg base 1 "_law_due" ["_law_place"] sp_ldue):FnOk P w K mg base CX0 2 f fd ["_law_faces", "_law_place"] sp_tries:=by
  refine F.okw sc__law_tries (fun vs H Q E h=>?_) (fun cdv A outer s H vs Q E hr h=>?_)
  · unfold sp_tries at h
    obtain ⟨F,o,rfl,_⟩:=h
    rfl
  · unfold sp_tries at h
    obtain ⟨F,o,rfl,hF,q⟩:=h
    refine ⟨_,(wss_cons (ws_set (i:=2) sc__law_tries.nd rfl (Or.inl rfl) (we_fn F__law_due (hr.mono (by decide)) (wa_k (we_v 1) wa_nil)))
      (wss_cons (ws_set (i:=3) sc__law_tries.nd rfl (Or.inl rfl) (we_lst wa_nil))
      (wss_cons (ws_for PassesOwn.never rfl (wi_list (we_lst (wa_k we_int (wa_k (we_v 0) (wa_k (we_un un_neg we_int) (wa_k we_bl (wa_k we_non (wa_k we_str (wa_k (we_tup (wa_k we_int wa_nil)) (wa_k (we_op op_pow we_int we_int) wa_nil)))))))))) (wg_name (i:=4) sc__law_tries.nd rfl (Or.inl rfl)) (wss_cons (ws_set (i:=5) sc__law_tries.nd rfl (Or.inl rfl) (we_get2 hr.u1 (we_disp (wpp_cons we_str we_str (wpp_cons we_str we_str wpp_nil))) (we_v 2) we_str))
      (wss_one (ws_if (wt_mono (wt_w (ww_or (wt_cmp op_ne (we_v 2) we_str (nomark _)) (ww_or (wt_cmp (op_neD hr.units) (we_v 4) we_int (nomark _)) (ww_or1 (wt_val (we_cB cl_isi (by rfl) T.b_isinstance (by decide +kernel) (wa_k (we_v 4) (wa_k (we_bltn (v:=.ty "bool") (u:=.type "bool") rfl T.b_bool (by decide +kernel) rfl) wa_nil))))))))) (wss_one (ws_expr (we_bm PySem.F.plainAttrs_list PySem.F.slot_list_append PySem.F.type_list_append mt_app (we_v 3) (wa_k (we_tup (wa_k we_str (wa_k (we_v 4) (wa_k (we_v 5) wa_nil)))) wa_nil)))) wss_nil))))
      (wss_cons (ws_set (i:=6) sc__law_tries.nd rfl (Or.inl rfl) (we_lst (wa_k (we_tup (wa_k we_int (wa_k we_int wa_nil))) (wa_k (we_tup (wa_k we_int (wa_k we_int wa_nil))) (wa_k (we_tup (wa_k we_int (wa_k we_int wa_nil))) (wa_k (we_tup (wa_k we_int (wa_k we_int wa_nil))) (wa_k (we_tup (wa_k (we_un un_neg we_int) (wa_k we_int wa_nil))) (wa_k (we_tup (wa_k we_int (wa_k we_int wa_nil))) (wa_k (we_tup (wa_k we_int (wa_k we_int wa_nil))) (wa_k we_int (wa_k (we_tup (wa_k we_bl (wa_k we_int wa_nil))) (wa_k we_non (wa_k (we_lst (wa_k we_int (wa_k we_int wa_nil))) wa_nil)))))))))))))
      (wss_cons (ws_for PassesOwn.never rfl (wi_list (we_op op_cat (we_v 6) (we_lst (wa_k we_str (wa_k (we_tup (wa_k we_int (wa_k we_int wa_nil))) (wa_k (we_tup (wa_k we_int (wa_k we_bl wa_nil))) wa_nil)))))) (wg_name (i:=7) sc__law_tries.nd rfl (Or.inl rfl)) (wss_cons (ws_set (i:=5) sc__law_tries.nd rfl (Or.inl rfl) (we_get2 hr.u1 (we_disp (wpp_cons we_str we_str (wpp_cons we_str we_str wpp_nil))) (we_v 2) we_str))
      (wss_one (ws_if (wt_mono (wt_w (ww_or (wt_cmp op_ne (we_v 2) we_str (nomark _)) (ww_or1 (wt_cmp op_notIn_seq (we_cB (cl_repr hr.gd hr.units) (by rfl) T.b_repr (by decide +kernel) (wa_k (we_v 7) wa_nil)) (we_lst (wa_k we_str (wa_k we_str wa_nil))) (by with_unfolding_all rfl)))))) (wss_one (ws_expr (we_bm PySem.F.plainAttrs_list PySem.F.slot_list_append PySem.F.type_list_append mt_app (we_v 3) (wa_k (we_tup (wa_k we_str (wa_k (we_v 7) (wa_k (we_v 5) wa_nil)))) wa_nil)))) wss_nil))))
      (wss_one (ws_ret (we_v 3)))))))),?_⟩
    refine ⟨_,rfl,?_⟩
    refine sp_ldue_i ?_
    refine nwL (by show 0≤64; decide) fun D H1 hD e1 s1=>?_
    refine MkE.use (p:=D) (mk_lst (mk_cons mk_int (mk_cons (mk_varI rfl) (mk_cons mk_neg (mk_cons mk_bl (mk_cons mk_non (mk_cons mk_str (mk_cons (mk_tup (mk_cons mk_int mk_nil) (Nat.le_of_ble_eq_true rfl)) (mk_cons (mk_pow ⟨by decide,by decide,by decide⟩) mk_nil)))))))) (Nat.le_of_ble_eq_true rfl)) ⟨_,e1⟩ fun v2 H2 s2 r2=>?_
    unfold Rep at r2
    obtain ⟨l,xs,rfl,hl,rl⟩:=r2
    have rl:RepL (Hide D H2) (faceL F) xs:=rl
    have lx:xs.length=8:=rl.len
    have S2:=s1.trans s2
    have hl2:H2 l=some (.lst xs):=Hide.same _ _ hl
    have nl:l≠D:=Hide.ne hl
    refine ⟨l,rfl,⟨_,SqL.of hl2⟩,?_⟩
    have fst:∀ {σ:St} {H':Hp} {zs:List V} {x y:V} {k wd:Str} {d:PyData} {Q':VK},H' D=some (.lst zs)→zs.length≤99→(∀ v∈zs,TryOk (Hide D H') F o v)→Rep (Hide D H') d y→Ref F o k d wd →
        (∀ H'' v,H'' D=some (.lst (zs++[v]))→SameBut D H' H''→(∀ u∈zs++[v],TryOk (Hide D H'') F o u)→Q' .non H'')→rNewT [.str k,y,.str wd] H' fun v H3=>rApp (.ref D) [v] H3 Q':=fun {σ H' zs x y k wd d Q'} hz lz tz ry rf kk=>by
      refine nwT (by show 3≤64; decide) fun q3 H3 hq3 e3 s3=>?_
      have n3:q3≠D:=fun z=>by rw [z,hz] at hq3; cases hq3
      refine appL (s3 _ _ hz) (by omega) fun H4 e4 b4=>?_
      have b34:SameBut D H' H4:=s3.but.trans b4
      refine kk H4 _ e4 b34 fun u hu=>?_
      rcases List.mem_append.mp hu with hu | hu
      · exact (tz u hu).same b34
      · rw [List.mem_singleton] at hu
        subst hu
        exact ⟨q3,k,y,d,wd,rfl,Hide.of n3 (b4.at n3 e3),ry.same b34,rf⟩
    refine for_list (xs:=xs) (fun i σ H'=>∃ (o4 o5 o6 o7:Option V) (zs:List V),σ=[some (.int (F:Int)),some (plV o),some (.str (dueS o)),some (.ref D),o4,o5,o6,o7]∧SameBut D H2 H'∧H' D=some (.lst zs)∧zs.length≤i∧∀ v∈zs,TryOk (Hide D H') F o v) ⟨_,_,_,_,[],rfl,(Same.refl _).but,s2 _ _ e1,Nat.le_refl _,fun v hv=>by cases hv⟩ (fun i σ H' _ p=>?_) ?_ ?_
    · obtain ⟨_,_,_,_,_,_,b',_⟩:=p
      exact SqL.of (b'.at nl hl2)
    · rintro i x σ H' hx ⟨o4,o5,o6,o7,zs,rfl,b',hz,lz,tz⟩
      have hi:i<8:=by rw [← lx]; exact (List.getElem?_eq_some_iff.mp hx).1
      obtain ⟨d,hd,rd⟩:∃ d,(faceL F)[i]?=some d∧Rep (Hide D H2) d x:=by
        exact RepL.get rl hx
      have hm:d∈faceL F:=List.mem_of_getElem? hd
      have rd':Rep (Hide D H') d x:=rd.same b'
      unfold gName
      refine oSeq (oAsg ?_)
      refine getS (i:=2) (u:=dueS o) (a1 := "") (b1 := "said") (a2 := "lot") (b2 := "lot") (z := "face") ?_ (by decide) fun H3 s3=>?_
      · rfl
      have rd3:=rd'.same (s3.but (p:=D))
      have rdH:Rep H3 d x:=rd3.same Hide.same
      refine ⟨fun b H4=>H4=H3∧(b=true→dueS o ≠ "look" ∨ PyData.eqv d (.int 0)=false∨isD "bool" d=true),?_,?_⟩
      · refine ⟨_,rfl,rfl,_,rfl,?_⟩
        refine iteDN (fun z=>⟨rfl,fun _=>.inl fun e=>z (by rw [e])⟩) (fun z=>?_)
        refine ⟨_,rfl,?_⟩
        refine reD rdH (Rep.int 0) (face_shaped hm) rfl ?_
        refine ⟨_,rfl,?_⟩
        cases ev:PyData.eqv d (.int 0) with
        | false=>exact iteT ⟨rfl,fun _=>.inr (.inl rfl)⟩
        | true =>
          refine iteF ⟨_,rfl,?_⟩
          refine riI rdH ?_
          exact ⟨_,rfl,rfl,fun h=>.inr (.inr h)⟩
      · rintro b H4 ⟨rfl,hb⟩
        cases b with
        | false=>exact iteF ⟨_,_,_,_,zs,rfl,b'.trans s3.but,s3 _ _ hz,by omega,fun v hv=>(tz v hv).same s3.but⟩
        | true =>
          refine iteT ?_
          refine ⟨_,rfl,tyL (s3 _ _ hz),_,rfl,_,rfl,?_⟩
          refine fst (σ:=[]) (x:=x) (s3 _ _ hz) (by omega) (fun v hv=>(tz v hv).same s3.but) rd3 (.inl ⟨rfl,face_ref hF hm (hb rfl)⟩) fun H5 v e5 b5 t5=>?_
          exact ⟨_,_,_,_,_,rfl,(b'.trans s3.but).trans b5,e5,by rw [List.length_append,List.length_singleton]; omega,t5⟩
    · rintro σ H' ⟨o4,o5,o6,o7,zs,rfl,b',hz,lz,tz⟩
      rw [lx] at lz
      clear rl lx hl hl2 nl
      refine MkE.use (p:=D) (mk_lst (mk_cons (mk_tup (mk_cons mk_int (mk_cons mk_int mk_nil)) (Nat.le_of_ble_eq_true rfl)) (mk_cons (mk_tup (mk_cons mk_int (mk_cons mk_int mk_nil)) (Nat.le_of_ble_eq_true rfl)) (mk_cons (mk_tup (mk_cons mk_int (mk_cons mk_int mk_nil)) (Nat.le_of_ble_eq_true rfl)) (mk_cons (mk_tup (mk_cons mk_int (mk_cons mk_int mk_nil)) (Nat.le_of_ble_eq_true rfl)) (mk_cons (mk_tup (mk_cons mk_neg (mk_cons mk_int mk_nil)) (Nat.le_of_ble_eq_true rfl)) (mk_cons (mk_tup (mk_cons mk_int (mk_cons mk_int mk_nil)) (Nat.le_of_ble_eq_true rfl)) (mk_cons (mk_tup (mk_cons mk_int (mk_cons mk_int mk_nil)) (Nat.le_of_ble_eq_true rfl)) (mk_cons mk_int (mk_cons (mk_tup (mk_cons mk_bl (mk_cons mk_int mk_nil)) (Nat.le_of_ble_eq_true rfl)) (mk_cons mk_non (mk_cons (mk_lst (mk_cons mk_int (mk_cons mk_int mk_nil)) (Nat.le_of_ble_eq_true rfl)) mk_nil))))))))))) (Nat.le_of_ble_eq_true rfl)) ⟨_,hz⟩ fun v3 H3 s3 r3=>?_
      unfold Rep at r3
      obtain ⟨l1,xs1,rfl,hl1,rl1⟩:=r3
      refine ⟨_,rfl,?_⟩
      refine MkE.use (p:=D) (mk_lst (mk_cons mk_str (mk_cons (mk_tup (mk_cons mk_int (mk_cons mk_int mk_nil)) (Nat.le_of_ble_eq_true rfl)) (mk_cons (mk_tup (mk_cons mk_int (mk_cons mk_bl mk_nil)) (Nat.le_of_ble_eq_true rfl)) mk_nil))) (Nat.le_of_ble_eq_true rfl)) ⟨_,s3 _ _ hz⟩ fun v4 H4 s4 r4=>?_
      unfold Rep at r4
      obtain ⟨l2,xs2,rfl,hl2,rl2⟩:=r4
      have hz4:=s4 _ _ (s3 _ _ hz)
      refine catL (s4 _ _ (Hide.same _ _ hl1)) (Hide.same _ _ hl2) (by rw [rl1.len,rl2.len]; decide) fun q5 H5 hq5 e5 s5=>?_
      have n5:q5≠D:=fun z=>by rw [z,hz4] at hq5; cases hq5
      have rl:RepL (Hide D H5) lotL (xs1++xs2):=RepL.append (rl2.same s5.but) ((rl1.same s4.but).same s5.but)
      generalize hxs:xs1++xs2=xs5 at *
      have lx:xs5.length=14:=rl.len
      have s35:=(s3.trans s4).trans s5
      have hz5:=s5 _ _ hz4
      refine ⟨q5,rfl,⟨_,SqL.of e5⟩,?_⟩
      refine for_list (xs:=xs5) (fun i σ H'=>∃ (o4 o5 o6 o7:Option V) (zs:List V),σ=[some (.int (F:Int)),some (plV o),some (.str (dueS o)),some (.ref D),o4,o5,o6,o7]∧SameBut D H5 H'∧H' D=some (.lst zs)∧zs.length≤8+i∧∀ v∈zs,TryOk (Hide D H') F o v) ⟨_,_,_,_,zs,rfl,(Same.refl _).but,hz5,lz,fun v hv=>(tz v hv).same s35.but⟩ (fun i σ H' _ p=>?_) ?_ ?_
      · obtain ⟨_,_,_,_,_,_,b',_⟩:=p
        exact SqL.of (b'.at n5 e5)
      · clear hz tz hz4 hz5 lz hl1 hl2 rl1 rl2
        rintro i x σ H6 hx ⟨o4,o5,o6,o7,zs,rfl,b6,hz,lz,tz⟩
        have hi:i<14:=by rw [← lx]; exact (List.getElem?_eq_some_iff.mp hx).1
        obtain ⟨d,hd,rd⟩:=RepL.get rl hx
        have hm:d∈lotL:=List.mem_of_getElem? hd
        have lo:=lot_ok hm
        have rd':Rep (Hide D H6) d x:=rd.same b6
        unfold gName
        refine oSeq (oAsg ?_)
        refine getS (i:=2) (u:=dueS o) (a1 := "") (b1 := "said") (a2 := "look") (b2 := "look") (z := "share") ?_ (by decide) fun H7 s7=>?_
        · rfl
        have rd7:=rd'.same (s7.but (p:=D))
        have rdH:Rep H7 d x:=rd7.same Hide.same
        refine ⟨fun b H8=>Same H7 H8∧(b=true→dueS o ≠ "lot" ∨ inV (.str d.shown) [.str "(0, 1)",.str "(1, 2)"]=false),?_,?_⟩
        · refine ⟨_,rfl,rfl,_,rfl,?_⟩
          refine iteDN (fun z=>⟨Same.refl _,fun _=>.inl fun e=>z (by rw [e])⟩) (fun z=>?_)
          refine ⟨_,rfl,?_⟩
          refine rrI rdH lo.sh lo.nd lo.dp lo.ln ?_
          refine nwL (by show 2≤64; decide) fun q8 H8 hq8 e8 s8=>?_
          refine ⟨q8,_,rfl,.inl (SqL.of e8),rfl,rfl,?_⟩
          refine ⟨_,rfl,s8,fun h=>.inr ?_⟩
          cases ev:inV (.str d.shown) [.str "(0, 1)",.str "(1, 2)"] with
          | false=>rfl
          | true=>rw [ev] at h; cases h
        · rintro b H8 ⟨s8,hb⟩
          have s78:=s7.trans s8
          cases b with
          | false=>exact iteF ⟨_,_,_,_,zs,rfl,b6.trans s78.but,s78 _ _ hz,by omega,fun v hv=>(tz v hv).same s78.but⟩
          | true =>
            refine iteT ?_
            refine ⟨_,rfl,tyL (s78 _ _ hz),_,rfl,_,rfl,?_⟩
            refine fst (σ:=[]) (x:=x) (s78 _ _ hz) (by omega) (fun v hv=>(tz v hv).same s78.but) (rd7.same s8.but) (.inr ⟨rfl,lo.shp,lot_ref (F:=F) hm (hb rfl)⟩) fun H9 v e9 b9 t9=>?_
            exact ⟨_,_,_,_,_,rfl,(b6.trans s78.but).trans b9,e9,by rw [List.length_append,List.length_singleton]; omega,t9⟩
      · rintro σ H6 ⟨o4,o5,o6,o7,zs,rfl,b6,hz,lz,tz⟩
        rw [lx] at lz
        refine ⟨_,rfl,?_⟩
        refine q D zs H6 (Same.thru hD S2 ((b'.trans s35.but).trans b6)) hz (by omega) fun v hv=>(tz v hv).same Hide.same
end
end Kw
set_option Elab.async false
set_option linter.all false
set_option maxRecDepth 100000
namespace Kw
open PySem L2 Mf
abbrev s_law:Stmt:=(top 49)
theorem sc_law:FnScope ["_law_script", "_law_k", "_law_tape_here", "_law_faces", "_law_ways", "_law_most", "_law_rule_here", "_law_watch", "_law_told", "_law_turn", "_law_counts", "_law_place", "_law_kind", "_law_thing", "_law_word"] ["_law_script"] (defScope s_law):=⟨rfl,rfl,rfl,by decide +kernel,rfl,by decide +kernel,by decide +kernel⟩
structure PrAt (C:Addr) (H:Hp) (F nW M n:Nat) (W:Wt) (l:Addr) (es:List Ent) (r:V) (ts:List Deed):Prop where
  wa:WAt C H W F es ts
  rr:Rep H (ruD es) r
  hl:∃ xs,H l=some (.lst xs)∧RepL H (ts.map deD) xs
  ok:RuOk F nW M es
  rt:Rt es F ts
  len:ts.length≤n
  n1:W.t≠l
  n2:W.s≠l
def LdS (S:List Addr) (H:Hp):Prop:=∀ b∈S,(∃ xs,H b=some (.lst xs))∨∃ kv,H b=some (.dK kv)
theorem SameX.tt {S:List Addr} {H H':Hp} (x:SameX S H H') (h:LdS S H):SameT H H':=x.t fun b hb xs z=>by
  rcases h b hb with ⟨ys,e⟩ | ⟨kv,e⟩
  · rw [e] at z; cases z
  · rw [e] at z; cases z
theorem PrAt.keep {C:Addr} {H H':Hp} {F nW M n m:Nat} {W:Wt} {l:Addr} {es:List Ent} {r:V} {ts:List Deed} {S:List Addr} (h:PrAt C H F nW M n W l es r ts) (x:SameX S H H') (hS:LdS S H) (h1:W.t ∉ S) (h2:W.s ∉ S) (h3:l ∉ S) (hm:n≤m):PrAt C H' F nW M m W l es r ts:=by
  have t:=x.tt hS
  obtain ⟨xs,e,rx⟩:=h.hl
  obtain ⟨kvs,⟨o,ed⟩,pr⟩:=h.wa.wi.dic
  have ei:=h.wa.wi.ins
  refine ⟨h.wa.keep t (fun o' e'=>x _ _ (fun z=>?_) e') (fun o' e'=>x _ _ (fun z=>?_) e') (fun o' e'=>x _ _ h1 e') (fun o' e'=>x _ _ h2 e'),h.rr.flat t (show flatD (ruD es)=true from ens_flat es),⟨xs,x _ _ h3 e,rx.flat t (des_flat _)⟩,h.ok,h.rt,Nat.le_trans h.len hm,h.n1,h.n2⟩
  · rcases hS _ z with ⟨ys,q⟩ | ⟨kv,q⟩
    · rw [ei] at q; cases q
    · rw [ei] at q; cases q
  · rcases hS _ z with ⟨ys,q⟩ | ⟨kv,q⟩
    · rw [ed] at q; cases q
    · rw [ed] at q; cases q
theorem PrAt.same {C:Addr} {H H':Hp} {F nW M n:Nat} {W:Wt} {l:Addr} {es:List Ent} {r:V} {ts:List Deed} (h:PrAt C H F nW M n W l es r ts) (s:Same H H'):PrAt C H' F nW M n W l es r ts :=
  h.keep (S:=[]) (SameX.of s) (fun b hb=>by cases hb) (by simp) (by simp) (by simp) (Nat.le_refl _)
theorem WAt.list {C:Addr} {H H':Hp} {W:Wt} {F:Nat} {es:List Ent} {ts:List Deed} (w:WAt C H W F es ts) {l:Addr} {xs:List V} (b:SameBut l H H') (hl:H l=some (.lst xs)) (h1:W.t≠l) (h2:W.s≠l):WAt C H' W F es ts:=by
  obtain ⟨x1,e1,r1⟩:=w.told
  obtain ⟨x2,e2,r2⟩:=w.stds
  exact ⟨w.wi.list b hl,⟨x1,b.at h1 e1,r1.flat (b.t hl) (des_flat _)⟩,⟨x2,b.at h2 e2,r2.flat (b.t hl) (sds_flat _)⟩,w.ne⟩
theorem SameX.thru {S:List Addr} {H0 H1 H2:Hp} (hS:∀ b∈S,H0 b=none) (s:Same H0 H1) (x:SameX S H1 H2):Same H0 H2:=fun b o e=>x _ _ (fun z=>by rw [hS b z] at e; cases e) (s _ _ e)
theorem at_last {α:Type} {xs:List V} {v:V}:atI (xs++[v]) (-1)=some v:=by
  have hix:ixN (xs++[v]).length (-1)=some xs.length:=by
    unfold ixN
    rw [List.length_append,List.length_singleton,if_neg (by decide),if_pos (by omega)]
    congr 1
    omega
  unfold atI
  rw [hix]
  simp
theorem lot_fits {l:Fr} (h:LtOk l) (lt:l.1<l.2):lotW (frD l) none=none:=by
  have h1:isShare (frD l)=true:=by
    show ((decide (1≤l.2)&&decide (Int.gcd l.1 l.2=1))&&(decide (0≤l.1)&&decide (l.1≤l.2)))=true
    rw [decide_eq_true (by have:=h.low.pos; omega),decide_eq_true h.low.low,decide_eq_true h.nn,decide_eq_true h.le]; rfl
  have en:PyData.eqv (frD l) (frD (1,1))=false:=by
    show PyData.eqv (cD [l.1,l.2]) (cD [1,1])=false
    rw [eqvC,decide_eq_false]
    intro z
    injection z with z1 z2
    injection z2 with z2 _
    omega
  unfold lotW
  rw [h1,en]
  rfl
theorem fr_shaped (l:Fr):SeqAt.shaped (frD l)=true:=rfl
section
variable {P:Program} {w:World} {K:PySem.W.Frag} {mg:Str→Option Value} {base:Heap} {c:Cl}
set_option maxHeartbeats 8000000 in
theorem ok_law {f:Addr} {fd:FuncData} (F:Fun K "law" "law" s_law f fd) (T:Txt K mg c)
    (F__law_tape:FnC CX0 P w K mg base 1 "_law_tape" ["_law_script", "_law_at"] (sp_tape K)) (F__law_pick:FnC CX0 P w K mg base 1 "_law_pick" ["_law_tape_here", "_law_many"] sp_pick) (F__law_sizes:FnC CX0 P w K mg base 2 "_law_sizes" ["_law_tape_here"] sp_sizes)
    (F__law_rule:FnC CX0 P w K mg base 4 "_law_rule" ["_law_tape_here", "_law_faces", "_law_ways", "_law_most", "_law_plain"] sp_rule) (F_Watch___init__:FnO P w K mg base 2 c.Watch ["self", "rule"] (sp_wini c.Watch)) (F__law_no_back:FnC CX0 P w K mg base 2 "_law_no_back" ["_law_watch"] (sp_noback c.Watch)) (F__law_stand:FnC CX0 P w K mg base 4 "_law_stand" ["_law_rule_here", "_law_told"] sp_stand)
    (F__law_tries:FnC CX0 P w K mg base 2 "_law_tries" ["_law_faces", "_law_place"] sp_tries) (F__law_refused:FnC CX0 P w K mg base 5 "_law_refused" ["_law_watch", "_law_kind", "_law_thing"] (sp_refused c.Watch)) (F__law_watch_right:FnC CX0 P w K mg base 5 "_law_watch_right" ["_law_watch", "_law_rule_here", "_law_told"] (sp_wright c.Watch)) (F__law_lot:FnC CX0 P w K mg base 3 "_law_lot" ["_law_tape_here", "_law_says_here"] sp_llot)
    (F_Watch_lot:FnMX P w K mg base 4 c.Watch "lot" ["self", "share"] (sp_lotX c.Watch c.NoLook)) (F_Watch_look:FnMX P w K mg base 4 c.Watch "look" ["self", "face"] (sp_lookX c.Watch c.NoLook)) (F_Watch_back:FnMX P w K mg base 1 c.Watch "back" ["self"] (sp_backX c.Watch c.NoBack)):FnOk P w K mg base CX0 6 f fd ["_law_script"] (sp_law K):=by
  refine F.okw sc_law (fun vs H Q E h=>?_) (fun cdv A outer s H vs Q E hr h=>?_)
  · unfold sp_law at h
    obtain ⟨a,ns,rfl,_⟩:=h
    rfl
  · unfold sp_law at h
    obtain ⟨a,ns,rfl,hS,hl,k⟩:=h
    refine ⟨_,(wss_cons (ws_for PassesOwn.never rfl (wi_range1 rfl T.b_range (wa_k (we_op op_add we_int (we_cB cl_len (by rfl) T.b_len (by decide +kernel) (wa_k (we_slice sl_list (we_v 0) wo_none (wo_some we_int)) wa_nil))) wa_nil)) (wg_name (i:=1) sc_law.nd rfl (Or.inl rfl)) (wss_cons (ws_set (i:=2) sc_law.nd rfl (Or.inl rfl) (we_fn F__law_tape (hr.mono (by decide)) (wa_k (we_v 0) (wa_k (we_v 1) wa_nil))))
      (wss_cons (ws_asg (we_fn F__law_sizes (hr.mono (by decide)) (wa_k (we_v 2) wa_nil)) (wg_tup rfl (wgs_cons (wg_name (i:=3) sc_law.nd rfl (Or.inl rfl)) (wgs_cons (wg_name (i:=4) sc_law.nd rfl (Or.inl rfl)) (wgs_cons (wg_name (i:=5) sc_law.nd rfl (Or.inl rfl)) wgs_nil)))))
      (wss_cons (ws_set (i:=6) sc_law.nd rfl (Or.inl rfl) (we_fn F__law_rule (hr.mono (by decide)) (wa_k (we_v 2) (wa_k (we_v 3) (wa_k (we_v 4) (wa_k (we_cB (call_min2 rfl) (by rfl) T.b_min (by decide +kernel) (wa_k we_int (wa_k (we_v 5) wa_nil))) (wa_k (we_cmp op_eq (we_fn F__law_pick (hr.mono (by decide)) (wa_k (we_v 2) (wa_k we_int wa_nil))) we_int (nomark _)) wa_nil)))))))
      (wss_cons (ws_set (i:=7) sc_law.nd rfl (Or.inl rfl) (we_makeO F_Watch___init__ T.g_Watch (hr.mono (by decide)) (wa_k (we_v 6) wa_nil)))
      (wss_cons (ws_set (i:=8) sc_law.nd rfl (Or.inl rfl) (we_lst wa_nil))
      (wss_cons (ws_if (wt_not (wt_val (we_fn F__law_no_back (hr.mono (by decide)) (wa_k (we_v 7) wa_nil)))) (wss_one (ws_ret we_bl)) wss_nil)
      (wss_cons (ws_for PassesOwn.never rfl (wi_range1 rfl T.b_range (wa_k we_int wa_nil)) (wg_name (i:=9) sc_law.nd rfl (Or.inl rfl)) (wss_cons (ws_asg (we_fn F__law_stand (hr.mono (by decide)) (wa_k (we_v 6) (wa_k (we_v 8) wa_nil))) (wg_tup rfl (wgs_cons (wg_name (i:=10) sc_law.nd rfl (Or.inl rfl)) (wgs_cons (wg_name (i:=11) sc_law.nd rfl (Or.inl rfl)) wgs_nil))))
      (wss_cons (ws_for PassesOwn.never rfl (wi_list (we_fn F__law_tries (hr.mono (by decide)) (wa_k (we_v 3) (wa_k (we_v 11) wa_nil)))) (wg_tup rfl (wgs_cons (wg_name (i:=12) sc_law.nd rfl (Or.inl rfl)) (wgs_cons (wg_name (i:=13) sc_law.nd rfl (Or.inl rfl)) (wgs_cons (wg_name (i:=14) sc_law.nd rfl (Or.inl rfl)) wgs_nil)))) (wss_one (ws_if (wt_cmp op_ne (we_fn F__law_refused (hr.mono (by decide)) (wa_k (we_v 7) (wa_k (we_v 12) (wa_k (we_v 13) wa_nil)))) (we_v 14) (nomark _)) (wss_one (ws_ret we_bl)) wss_nil)))
      (wss_cons (ws_if (wt_not (wt_val (we_fn F__law_watch_right (hr.mono (by decide)) (wa_k (we_v 7) (wa_k (we_v 6) (wa_k (we_v 8) wa_nil)))))) (wss_one (ws_ret we_bl)) wss_nil)
      (wss_one (ws_if (wt_cmp op_isN (we_v 11) we_non (nomark _)) (wss_cons (ws_expr (we_bm PySem.F.plainAttrs_list PySem.F.slot_list_append PySem.F.type_list_append mt_app (we_v 8) (wa_k (we_tup (wa_k we_str (wa_k (we_fn F__law_lot (hr.mono (by decide)) (wa_k (we_v 2) (wa_k (we_dget hr.u1 (we_cT (cl_dictZ hr.units rfl) (by rfl) T.b_dict (by decide +kernel) (wa_k (we_v 6) wa_nil)) (we_v 10)) wa_nil))) wa_nil))) wa_nil)))
      (wss_one (ws_expr (we_mthX F_Watch_lot T.w_Watch.cls (hr.mono (by decide)) xpass0 (we_v 7) (wa_k (we_ix ix_seq (we_ix ix_seq (we_v 8) (we_un un_neg we_int) (fun _ _=>rfl)) we_int (fun _ _=>rfl)) wa_nil))))) (wss_one (ws_if (wt_cmp op_eq (we_v 11) we_int (nomark _)) (wss_cons (ws_expr (we_bm PySem.F.plainAttrs_list PySem.F.slot_list_append PySem.F.type_list_append mt_app (we_v 8) (wa_k (we_tup (wa_k we_str (wa_k (we_fn F__law_pick (hr.mono (by decide)) (wa_k (we_v 2) (wa_k (we_v 3) wa_nil))) wa_nil))) wa_nil)))
      (wss_one (ws_expr (we_mthX F_Watch_look T.w_Watch.cls (hr.mono (by decide)) xpass0 (we_v 7) (wa_k (we_ix ix_seq (we_ix ix_seq (we_v 8) (we_un un_neg we_int) (fun _ _=>rfl)) we_int (fun _ _=>rfl)) wa_nil))))) wss_nil))))))))
      (wss_cons (ws_while PassesOwn.never (wt_cmp (op_neD hr.units) (we_v 8) (we_lst wa_nil) (nomark _)) (wss_cons (ws_expr (we_mthX0 F_Watch_back T.w_Watch.cls (hr.mono (by decide)) xpass0 (we_v 7)))
      (wss_cons (ws_expr (we_bm0 PySem.F.plainAttrs_list PySem.F.slot_list_pop PySem.F.type_list_pop mt_pp (we_v 8)))
      (wss_one (ws_if (wt_not (wt_val (we_fn F__law_watch_right (hr.mono (by decide)) (wa_k (we_v 7) (wa_k (we_v 6) (wa_k (we_v 8) wa_nil)))))) (wss_one (ws_ret we_bl)) wss_nil)))))
      (wss_one (ws_if (wt_not (wt_val (we_fn F__law_no_back (hr.mono (by decide)) (wa_k (we_v 7) wa_nil)))) (wss_one (ws_ret we_bl)) wss_nil)))))))))))
      (wss_one (ws_ret we_bl))),?_⟩
    refine ⟨_,rfl,_,rfl,a,_,rfl,hS,fun q1 h1=>?_⟩
    refine rlL upd_same ?_
    have s1:=Same.upd (o:=.lst (cutV (ns.map V.int) none (some 2))) h1
    have l19:(cutV (ns.map V.int) none (some 2)).length≤63:=by
      rw [show (some (2:Int))=some ((2:Nat):Int) from rfl,cutV_hi,List.length_take,List.length_map]; omega
    generalize upd H q1 (.lst (cutV (ns.map V.int) none (some 2)))=H0 at s1
    generalize (cutV (ns.map V.int) none (some 2)).length=n0 at l19
    refine ⟨_,_,rfl,rfl,_,rfl,by omega,by omega,?_⟩
    refine for_range (fun i σ H'=>∃ o1 o2 o3 o4 o5 o6 o7 o8 o9 o10 o11 o12 o13 o14:Option V,σ=[some (.ref a),o1,o2,o3,o4,o5,o6,o7,o8,o9,o10,o11,o12,o13,o14]∧Same H H') ⟨_,_,_,_,_,_,_,_,_,_,_,_,_,_,rfl,s1⟩ ?_ ?_
    · rintro i σ H1 hi ⟨o1,o2,o3,o4,o5,o6,o7,o8,o9,o10,o11,o12,o13,o14,rfl,S1⟩
      refine ⟨_,rfl,_,rfl,?_⟩
      refine sp_tape_i (sqL_keep S1 hS) hl (by omega) fun p H2 T2 s2 hp2=>?_
      refine ⟨_,rfl,?_⟩
      refine sp_sizes_i (n:=999999999997) (T2.less (by omega)) fun q3 nF nW nM H3 Z T3 s3 e3=>?_
      refine ⟨q3,_,rfl,SqT.of e3,rfl,?_⟩
      refine ⟨_,_,rfl,_,_,rfl,_,_,rfl,rfl,?_⟩
      refine ⟨_,rfl,_,rfl,_,rfl,?_⟩
      refine ⟨_,rfl,_,_,rfl,?_⟩
      have em:(if ((nM:Nat):Int)<3 then ((nM:Nat):Int) else 3)=((min 3 nM:Nat):Int):=by
        by_cases h:nM<3
        · rw [if_pos (by omega),Nat.min_eq_right (by omega)]
        · rw [if_neg (by omega),Nat.min_eq_left (by omega)]; rfl
      rw [em]
      have Z':SzOk nF nW (min 3 nM):=⟨Z.w,by have:=Z.f; omega⟩
      generalize hnm:min 3 nM=mM at Z'
      refine ⟨_,rfl,?_⟩
      refine sp_pick_i (n:=999999999996) (T3.less (by omega)) (by decide) (by decide +kernel) fun x H4 x0 x1 T4 s4=>?_
      refine ⟨rfl,?_⟩
      refine sp_rule_i (n:=2000000) (T4.less (by omega)) Z' fun v es H5 T5 s5 r5 RO=>?_
      have S15:Same H1 H5:=Same.thru hp2 (Same.thru hp2 (Same.thru hp2 s2 s3) s4) s5
      have hw:=Z'.w
      have hf:2≤nF∧nF≤4:=by have:=Z'.f; omega
      have hm:mM≤8:=by have:=Z'.f; omega
      clear T4 s4 T3 s3 e3 T2 s2 s5
      refine ⟨_,rfl,fun wx dx hx hdx nd=>?_⟩
      have s9:Same H5 (upd (upd H5 dx (.own wx)) wx (.ins c.Watch dx [])):=(Same.upd hdx).trans (Same.upd (by rw [L2.upd_ne (Ne.symm nd)]; exact hx))
      refine sp_wini_i upd_same (r5.same s9) RO hf.2 hw.2 fun d t s' H6 hd ht hs wa6 b6=>?_
      have S56:Same H5 H6:=Same.thru hx s9 b6
      have ht5:H5 t=none:=s9.free ht
      have hs5:H5 s'=none:=s9.free hs
      refine ⟨rfl,?_⟩
      refine nwL (by show 0≤64; decide) fun l H7 hl7 e7 s7=>?_
      have S57:=S56.trans s7
      have S17:=S15.trans S57
      generalize hW:(⟨wx,dx,d,t,s'⟩:Wt)=W at wa6
      have et:W.t=t:=by rw [← hW]
      have es':W.s=s':=by rw [← hW]
      have ea:W.a=wx:=by rw [← hW]
      rw [← ea]
      have ft:H1 W.t=none:=by rw [et]; exact S15.free ht5
      have fs:H1 W.s=none:=by rw [es']; exact S15.free hs5
      have fl:H1 l=none:=(S15.trans S56).free hl7
      have n1:W.t≠l:=fun z=>by
        obtain ⟨_,e,_⟩:=wa6.told
        rw [z,hl7] at e; cases e
      have n2:W.s≠l:=fun z=>by
        obtain ⟨_,e,_⟩:=wa6.stds
        rw [z,hl7] at e; cases e
      have pr7:PrAt c.Watch H7 nF nW mM 0 W l es v []:=⟨wa6.same s7,r5.same S57,⟨[],e7,RepL.nil⟩,RO,.nil,Nat.le_refl _,n1,n2⟩
      have T7:=T5.same S57
      clear wa6 e7 hl7 s7 S57 S56 hs ht ht5 hs5 hd b6 s9 hx hdx nd r5 RO T5 S15 et es' ea hW
      refine ⟨_,rfl,?_⟩
      refine sp_noback_i pr7.wa fun H8 s8=>?_
      refine ⟨_,rfl,iteF ?_⟩
      refine ⟨_,rfl,by decide,by decide,?_⟩
      refine for_range (fun i' σ H'=>∃ (o9 o10 o11 o12 o13 o14:Option V) (ts:List Deed),σ=[some (.ref a),some (.int (0+(i:Nat))),some (.ref p),some (.int (nF:Nat)),some (.int (nW:Nat)),some (.int (nM:Nat)),some v,some (.ref W.a),some (.ref l),o9,o10,o11,o12,o13,o14]∧TapeAt H' p (100 - 5*i')∧PrAt c.Watch H' nF nW mM i' W l es v ts∧Same H1 H')
        ⟨_,_,_,_,_,_,[],rfl,(T7.same s8).less (by omega),pr7.same s8,S17.trans s8⟩ ?_ ?_
      · clear pr7 T7 S17 s8
        rintro i' σ H9 hi' ⟨o9',o10',o11',o12',o13',o14',ts,rfl,T9,pr,S9⟩
        obtain ⟨xs,exs,rxs⟩:=pr.hl
        have lx:xs.length=ts.length:=by rw [rxs.len,List.length_map]
        have lts:=pr.len
        refine ⟨_,rfl,_,rfl,?_⟩
        refine sp_stand_i pr.rr exs rxs pr.ok hf.1 hf.2 hw.2 pr.rt fun v1 H10 s10 r10=>?_
        obtain ⟨a1,x1,y1,rfl,ha1,rx1,ry1⟩:=sdD_at r10
        cases plD_at ry1
        refine ⟨a1,_,rfl,SqT.of ha1,rfl,_,_,rfl,_,_,rfl,rfl,?_⟩
        refine ⟨_,rfl,_,rfl,?_⟩
        refine sp_tries_i hf.2 fun D zs H11 s11 eD lz tz=>?_
        have s911:=s10.trans s11
        refine ⟨D,rfl,⟨_,SqL.of eD⟩,?_⟩
        have rtok:RtOk nF nW mM es ts:=⟨pr.ok,hf.2,hw.2,pr.rt,by omega⟩
        refine for_list (xs:=zs) (fun j σ H'=>∃ o12 o13 o14:Option V,σ=[some (.ref a),some (.int (0+(i:Nat))),some (.ref p),some (.int (nF:Nat)),some (.int (nW:Nat)),some (.int (nM:Nat)),some v,some (.ref W.a),some (.ref l),some (.int (0+(i':Nat))),some x1,some (plV (stand es nF ts).2),o12,o13,o14]∧Same H11 H') ⟨_,_,_,rfl,Same.refl _⟩ (fun j σ H' _ pv=>?_) ?_ ?_
        · obtain ⟨_,_,_,_,s'⟩:=pv
          exact SqL.of (s' _ _ eD)
        · rintro j x σ H12 hxj ⟨o12'',o13'',o14'',rfl,s12⟩
          obtain ⟨ax,kk,y,dd,wd,rfl,hax,ry,rf⟩:=(tz x (List.mem_of_getElem? hxj)).same s12
          refine ⟨ax,_,rfl,SqT.of hax,rfl,_,_,rfl,_,_,rfl,_,_,rfl,rfl,?_⟩
          refine ⟨_,rfl,_,rfl,_,rfl,?_⟩
          refine sp_refused_i ry (pr.wa.same (s911.trans s12)) rtok rf fun H13 s13=>?_
          refine ⟨_,rfl,rfl,_,rfl,?_⟩
          refine iteDN (fun z=>absurd rfl z) (fun _=>?_)
          exact ⟨_,_,_,rfl,s12.trans s13⟩
        · rintro σ H12 ⟨o12'',o13'',o14'',rfl,s12⟩
          have s912:=s911.trans s12
          have p12:=pr.same s912
          refine ⟨_,rfl,_,rfl,_,rfl,?_⟩
          refine sp_wright_i p12.wa p12.rr (s912 _ _ exs) (rxs.same s912) pr.ok hf.1 hf.2 hw.2 hm pr.rt (by omega) fun H13 s13=>?_
          refine ⟨_,rfl,iteF ?_⟩
          have s913:=s912.trans s13
          have p13:=p12.same s13
          have T13:=T9.same s913
          have exs13:=s913 _ _ exs
          have rxs13:=rxs.same s913
          have rx13:=rx1.same (((s11.trans s12).trans s13))
          have S13:=S9.trans s913
          have ir:=pr.rt.inR pr.ok hw.2
          obtain ⟨fs',hef,sa,sy,_,_⟩:=ir.ex
          obtain ⟨zt,ett,_⟩:=p13.wa.told
          obtain ⟨zz,ess,_⟩:=p13.wa.stds
          have npl:l≠p:=T13.neL exs13
          have npt:W.t≠p:=T13.neL ett
          have nps:W.s≠p:=T13.neL ess
          have keepT:∀ {H':Hp},SameBut p H13 H'→PrAt c.Watch H' nF nW mM i' W l es v ts:=fun {H'} b=>by
            obtain ⟨_,_,_,ep,_⟩:=T13.ex
            refine p13.keep (S:=[p]) (SameX.but b (by simp)) (fun b' hb=>?_) ?_ ?_ ?_ (Nat.le_refl _)
            · rw [List.mem_singleton] at hb; subst hb; exact .inr ⟨_,ep⟩
            · rw [List.mem_singleton]; exact npt
            · rw [List.mem_singleton]; exact nps
            · rw [List.mem_singleton]; exact npl
          have fin:∀ {dd:Deed} {H14 H15 H16:Hp} {u:V} {n:Nat},TapeAt H14 p n→SameBut p H13 H14→okD nF (stand es nF ts) dd→H14 l=some (.lst xs)→H15 l=some (.lst (xs++[u]))→SameBut l H14 H15→Rep H15 (deD dd) u→WAt c.Watch H16 W nF es (ts++[dd])→SameX [W.t,W.s] H15 H16 →
              TapeAt H16 p n∧PrAt c.Watch H16 nF nW mM (i' + 1) W l es v (ts++[dd])∧Same H1 H16:=fun {dd H14 H15 H16 u n} T14 b14 okd e14 e15 b15 ru wa16 x16=>by
            have p14:=keepT b14
            have T15:TapeAt H15 p n:=T14.but b15 npl
            have t15:=b15.t e14
            obtain ⟨_,ett5,_⟩:=p14.wa.told
            obtain ⟨_,ess5,_⟩:=p14.wa.stds
            have lds:LdS [W.t,W.s] H15:=fun b hb=>by
              simp only [List.mem_cons,List.not_mem_nil,or_false] at hb
              rcases hb with rfl | rfl
              · exact .inl ⟨_,b15.at n1 ett5⟩
              · exact .inl ⟨_,b15.at n2 ess5⟩
            have t16:=x16.tt lds
            obtain ⟨xs14,exs14,rxs14⟩:=p14.hl
            rw [e14] at exs14
            cases exs14
            refine ⟨?_,⟨wa16,(p14.rr.flat t15 (show flatD (ruD es)=true from ens_flat es)).flat t16 (show flatD (ruD es)=true from ens_flat es),⟨_,x16 _ _ (by simp [Ne.symm n1,Ne.symm n2]) e15,?_⟩,pr.ok,.snoc pr.rt okd,by rw [List.length_append,List.length_singleton]; omega,n1,n2⟩,?_⟩
            · obtain ⟨cc,ll,tt,h,rest⟩:=T15.ex
              exact ⟨cc,ll,tt,x16 _ _ (by simp [Ne.symm npt,Ne.symm nps]) h,rest⟩
            · rw [List.map_append]
              exact RepL.append (RepL.cons (ru.flat t16 (deD_flat _)) RepL.nil) ((rxs14.flat t15 (des_flat _)).flat t16 (des_flat _))
            · refine x16.thru (fun b hb=>?_) (Same.thru fl (Same.thru hp2 S13 b14) b15)
              simp only [List.mem_cons,List.not_mem_nil,or_false] at hb
              rcases hb with rfl | rfl
              · exact ft
              · exact fs
          cases ho:(stand es nF ts).2 with
          | none =>
            refine ⟨_,rfl,rfl,_,rfl,iteT ?_⟩
            obtain ⟨ar,xr,rfl,har,rxr⟩:=ruD_at p13.rr
            obtain ⟨kvs,prs,env⟩:=pairs_of rxr
            have lk:kvs.length=es.length:=Paired.length env
            have les:=pr.ok.len
            have ndk:(kvs.map (·.1)).Nodup:=by
              rw [keys_of env]
              have:=nodup_map_on (f:=fun c:List Int=>c.map (Sum.inl:Int→Key)) pr.ok.nd fun x _ y _ e=>inl_inj e
              rwa [List.map_map] at this
            refine ⟨_,rfl,tyL exs13,_,rfl,_,rfl,?_⟩
            refine rdcz har prs ndk (by omega) fun d H14 hd fz s14=>?_
            obtain ⟨ac,rfl,hac⟩:=ctD_at (rx13.same s14)
            obtain ⟨u,hu,ru⟩:=(val_of (paired_same s14 env)).2 fs' sa
            refine ⟨_,rfl,?_⟩
            refine dgZ fz hac hu ?_
            refine sp_llot_i (n:=100 - 5*(i' + 1)) ((T13.same s14).less (by omega)) ru sy (by omega) fun y lo H15 T15 b15 ry ll lt=>?_
            have B15:SameBut p H13 H15:=s14.but.trans b15
            refine nwT (by show 2≤64; decide) fun q6 H16 hq6 e6 s16=>?_
            have B16:SameBut p H13 H16:=B15.trans s16.but
            have el16:=B16.at npl exs13
            refine appL el16 (by omega) fun H17 e17 b17=>?_
            have t17:=b17.t el16
            have okd:okD nF (stand es nF ts) (.lot lo):=⟨ho,ll,lt⟩
            have p16:=keepT B16
            have wa17:=p16.wa.list b17 el16 n1 n2
            have ry17:Rep H17 (frD lo) y:=(ry.same s16).flat t17 (frD_flat _)
            have e6':=t17 _ _ e6
            refine ⟨_,rfl,W.a,W.dx,_,rfl,wa17.wi.ins,rfl,?_⟩
            refine ⟨_,rfl,?_⟩
            refine ⟨_,rfl,?_⟩
            refine ixL e17 (at_last (α:=Nat)) ?_
            refine ixT e6' rfl ?_
            have lf:=lot_fits ll lt
            refine sp_lotX_i ry17 (fr_shaped lo) wa17 rtok (fun x hx=>?_) (fun _=>⟨lo,rfl,okd,fun H18 wa18 x18=>?_⟩)
            · rw [ho,lf] at hx; cases hx
            · obtain ⟨T18,p18,S18⟩:=fin (T15.same s16) B16 okd el16 e17 b17 (Rep.tup e6' (RepL.cons (Rep.str _) (RepL.cons ry17 RepL.nil))) wa18 x18
              exact ⟨_,_,_,_,_,_,_,rfl,T18,p18,S18⟩
          | some j =>
            refine ⟨_,rfl,rfl,_,rfl,iteF ?_⟩
            refine ⟨_,rfl,rfl,_,rfl,?_⟩
            cases j with
            | succ j =>
              refine iteD (fun z=>by injection z with z; exact absurd z (by omega)) (fun _=>?_)
              exact ⟨_,_,_,_,_,_,ts,rfl,T13.less (by omega),p13.keep (S:=[]) (SameX.of (Same.refl _)) (fun b hb=>by cases hb) (by simp) (by simp) (by simp) (by omega),S13⟩
            | zero =>
              refine iteT ?_
              refine ⟨_,rfl,tyL exs13,_,rfl,_,rfl,?_⟩
              refine sp_pick_i (n:=100 - 5*(i' + 1)) (T13.less (by omega)) (by omega) (bitsle (Nat.lt_of_le_of_lt (show ((nF:Int)).natAbs≤4 by omega) (by decide))) fun x3 H15 x0 x4 T15 B15=>?_
              obtain ⟨m,rfl⟩:∃ m:Nat,x3=(m:Int):=⟨x3.toNat,by omega⟩
              refine nwT (by show 2≤64; decide) fun q6 H16 hq6 e6 s16=>?_
              have B16:SameBut p H13 H16:=B15.trans s16.but
              have el16:=B16.at npl exs13
              refine appL el16 (by omega) fun H17 e17 b17=>?_
              have t17:=b17.t el16
              have okd:okD nF (stand es nF ts) (.look m):=⟨ho,by omega⟩
              have p16:=keepT B16
              have wa17:=p16.wa.list b17 el16 n1 n2
              have e6':=t17 _ _ e6
              refine ⟨_,rfl,W.a,W.dx,_,rfl,wa17.wi.ins,rfl,?_⟩
              refine ⟨_,rfl,?_⟩
              refine ⟨_,rfl,?_⟩
              refine ixL e17 (at_last (α:=Nat)) ?_
              refine ixT e6' rfl ?_
              refine sp_lookX_i (d:=.int (m:Int)) (Rep.int _) wa17 rtok (fun x hx=>?_) (fun i'' hi'' okd' H18 wa18 x18=>?_)
              · exfalso
                rw [ho] at hx
                have ef:isFace nF (.int (m:Int))=true:=by
                  show (decide (0≤(m:Int))&&decide ((m:Int)<(nF:Int)))=true
                  rw [decide_eq_true (by omega),decide_eq_true (by omega)]; rfl
                unfold lookW at hx
                rw [ef] at hx
                cases hx
              · injection hi'' with hi''
                have:i''=m:=by omega
                subst this
                obtain ⟨T18,p18,S18⟩:=fin (T15.same s16) B16 okd el16 e17 b17 (Rep.tup e6' (RepL.cons (Rep.str _) (RepL.cons (Rep.int _) RepL.nil))) wa18 x18
                exact ⟨_,_,_,_,_,_,_,rfl,T18,p18,S18⟩
      · clear pr7 T7 S17 s8
        rintro σ H9 ⟨o9',o10',o11',o12',o13',o14',ts,rfl,T9,pr,S9⟩
        have l8:ts.length≤8:=pr.len
        refine while_r (fun m σ H'=>∃ (o9 o10 o11 o12 o13 o14:Option V) (ts:List Deed),σ=[some (.ref a),some (.int (0+(i:Nat))),some (.ref p),some (.int (nF:Nat)),some (.int (nW:Nat)),some (.int (nM:Nat)),some v,some (.ref W.a),some (.ref l),o9,o10,o11,o12,o13,o14]∧m=ts.length∧PrAt c.Watch H' nF nW mM 8 W l es v ts∧Same H1 H')
          (fun σ H'=>∃ (o9 o10 o11 o12 o13 o14:Option V),σ=[some (.ref a),some (.int (0+(i:Nat))),some (.ref p),some (.int (nF:Nat)),some (.int (nW:Nat)),some (.int (nM:Nat)),some v,some (.ref W.a),some (.ref l),o9,o10,o11,o12,o13,o14]∧PrAt c.Watch H' nF nW mM 8 W l es v []∧Same H1 H')
          ts.length ⟨_,_,_,_,_,_,ts,rfl,rfl,pr,S9⟩ ?_ ?_
        · clear pr S9 T9 l8
          rintro m σ H9 ⟨o9',o10',o11',o12',o13',o14',ts,rfl,rfl,pr,S9⟩
          obtain ⟨xs,exs,rxs⟩:=pr.hl
          refine ⟨_,rfl,?_⟩
          refine nwL (by show 0≤64; decide) fun q2 H10 hq2 e2 s10=>?_
          refine reD (Rep.lst (s10 _ _ exs) (rxs.same s10)) (Rep.lst e2 RepL.nil) (des_shaped _) rfl ?_
          rw [eqv_nilG]
          refine ⟨_,rfl,?_⟩
          by_cases hts:ts=[]
          · rw [decide_eq_true hts]
            subst hts
            exact iteF ⟨_,_,_,_,_,_,rfl,pr.same s10,S9.trans s10⟩
          · rw [decide_eq_false hts]
            refine iteT ?_
            have p10:=pr.same s10
            refine ⟨_,rfl,W.a,W.dx,_,rfl,p10.wa.wi.ins,rfl,?_⟩
            refine sp_backX_i p10.wa (fun z=>absurd z hts) (fun us d e H11 wa11 x11=>?_)
            subst e
            obtain ⟨ys,y,rfl,ry,_⟩:=RepL.snoc rxs
            obtain ⟨_,ett,_⟩:=p10.wa.told
            obtain ⟨_,ess,_⟩:=p10.wa.stds
            have lds:LdS [W.t,W.s] H10:=fun b hb=>by
              simp only [List.mem_cons,List.not_mem_nil,or_false] at hb
              rcases hb with rfl | rfl
              · exact .inl ⟨_,ett⟩
              · exact .inl ⟨_,ess⟩
            have t11:=x11.tt lds
            have e11:=x11 _ _ (by simp [Ne.symm n1,Ne.symm n2]) (s10 _ _ exs)
            refine ⟨_,rfl,tyL e11,?_⟩
            refine ppL e11 fun H12 e12 b12=>?_
            have t12:=b12.t e11
            have S12:Same H1 H12:=Same.thru fl (x11.thru (fun b hb=>by
              simp only [List.mem_cons,List.not_mem_nil,or_false] at hb
              rcases hb with rfl | rfl
              · exact ft
              · exact fs) (S9.trans s10)) b12
            have lu:us.length≤8:=by have:=pr.len; rw [List.length_append] at this; omega
            have p12:PrAt c.Watch H12 nF nW mM 8 W l es v us:=⟨wa11.list b12 e11 n1 n2,(p10.rr.flat t11 (show flatD (ruD es)=true from ens_flat es)).flat t12 (show flatD (ruD es)=true from ens_flat es),⟨ys,e12,((ry.same s10).flat t11 (des_flat _)).flat t12 (des_flat _)⟩,pr.ok,pr.rt.pop.1,lu,n1,n2⟩
            obtain ⟨xs2,exs2,rxs2⟩:=p12.hl
            refine ⟨_,rfl,_,rfl,_,rfl,?_⟩
            refine sp_wright_i p12.wa p12.rr exs2 rxs2 pr.ok hf.1 hf.2 hw.2 hm p12.rt (by omega) fun H13 s13=>?_
            refine ⟨_,rfl,iteF ?_⟩
            exact ⟨us.length,by rw [List.length_append,List.length_singleton]; omega,_,_,_,_,_,_,us,rfl,rfl,p12.same s13,S12.trans s13⟩
        · rintro σ H10 ⟨o9'',o10'',o11'',o12'',o13'',o14'',rfl,p10,S10⟩
          refine ⟨_,rfl,?_⟩
          refine sp_noback_i p10.wa fun H11 s11=>?_
          refine ⟨_,rfl,iteF ?_⟩
          exact ⟨_,_,_,_,_,_,_,_,_,_,_,_,_,_,rfl,S1.trans (S10.trans s11)⟩
    · rintro σ H2 ⟨o1,o2,o3,o4,o5,o6,o7,o8,o9,o10,o11,o12,o13,o14,rfl,S2⟩
      exact k H2
end
end Kw
set_option Elab.async false
set_option linter.all false
set_option maxRecDepth 100000
namespace Kw
open PySem L2 Mf
theorem noA_nil {K:PySem.W.Frag} {C:Addr}:∀ f∈([]:List Str),NoAttr K C f:=fun _ h=>by cases h
theorem noA_cons {K:PySem.W.Frag} {C:Addr} {g:Str} {fs:List Str} (h:NoAttr K C g) (r:∀ f∈fs,NoAttr K C f):∀ f∈g::fs,NoAttr K C f:=fun f hf=>by
  rcases List.mem_cons.mp hf with rfl | hf
  · exact h
  · exact r f hf
theorem len1 {α:Type} {us:List α} (h:us.length=1):∃ a,us=[a]:=match us,h with | [a],_=>⟨a,rfl⟩
theorem len2 {α:Type} {us:List α} (h:us.length=2):∃ a b,us=[a,b]:=match us,h with | [a,b],_=>⟨a,b,rfl⟩
theorem len3 {α:Type} {us:List α} (h:us.length=3):∃ a b c,us=[a,b,c]:=match us,h with | [a,b,c],_=>⟨a,b,c,rfl⟩
theorem len4 {α:Type} {us:List α} (h:us.length=4):∃ a b c d,us=[a,b,c,d]:=match us,h with | [a,b,c,d],_=>⟨a,b,c,d,rfl⟩
theorem len5 {α:Type} {us:List α} (h:us.length=5):∃ a b c d e,us=[a,b,c,d,e]:=match us,h with | [a,b,c,d,e],_=>⟨a,b,c,d,e,rfl⟩
theorem fnc (l:PySem.W.OpenLaw) (w:World) {K:PySem.W.Frag} {h:Heap} {mg:Str→Option Value} (X:K.In h) (G:h.Ns mainGlobals mg) (base:Heap) {n:Str} {f:Addr} {fd:FuncData} {L:Nat} {ps:List Str} {sp:Sp} (a:PySem.W.nsIn K mainGlobals n=some (some (.ref f))) (k:PySem.W.keepIn K (.ref f)=true) (b:Binds K fd ps []) (o:FnOk l.prog w K mg base CX0 L f fd ps sp):FnC CX0 l.prog w K mg base L n ps sp:=⟨_,_,o,PySem.W.mg_of X G a,k,b⟩
set_option maxHeartbeats 0 in
theorem all_mk {l:PySem.W.OpenLaw} {w:World} {K:PySem.W.Frag} {h:Heap} {mg:Str→Option Value} {fa:Addr} {c_EarlyError:Addr} {c_NoTrial:Addr} {c_NoRule:Addr} {c_NoBounds:Addr} {c_NoLook:Addr} {c_NoPaper:Addr} {c_NoLines:Addr} {c_NoFraction:Addr} {c_NoOrder:Addr} {c_NoBack:Addr} {c_NoRow:Addr} {c_ONE:Addr} {c_Watch:Addr} {tok_LOOKS_ON:Tok} {cd_NoBack:ClassData} {ce_NoLook:ClassData} {ce_NoBack:ClassData} (X:K.In h) (G:h.Ns mainGlobals mg) (hfa:mg "law" = some (.ref fa))
    (u_EarlyError:PySem.W.nsIn K mainGlobals "EarlyError" = some (some (.ref c_EarlyError)))
    (u_NoTrial:PySem.W.nsIn K mainGlobals "NoTrial" = some (some (.ref c_NoTrial)))
    (u_NoRule:PySem.W.nsIn K mainGlobals "NoRule" = some (some (.ref c_NoRule)))
    (u_NoBounds:PySem.W.nsIn K mainGlobals "NoBounds" = some (some (.ref c_NoBounds)))
    (u_NoLook:PySem.W.nsIn K mainGlobals "NoLook" = some (some (.ref c_NoLook)))
    (u_NoPaper:PySem.W.nsIn K mainGlobals "NoPaper" = some (some (.ref c_NoPaper)))
    (u_NoLines:PySem.W.nsIn K mainGlobals "NoLines" = some (some (.ref c_NoLines)))
    (u_NoFraction:PySem.W.nsIn K mainGlobals "NoFraction" = some (some (.ref c_NoFraction)))
    (u_NoOrder:PySem.W.nsIn K mainGlobals "NoOrder" = some (some (.ref c_NoOrder)))
    (u_NoBack:PySem.W.nsIn K mainGlobals "NoBack" = some (some (.ref c_NoBack)))
    (u_NoRow:PySem.W.nsIn K mainGlobals "NoRow" = some (some (.ref c_NoRow)))
    (u_ONE:PySem.W.nsIn K mainGlobals "ONE" = some (some (.ref c_ONE)))
    (u_Watch:PySem.W.nsIn K mainGlobals "Watch" = some (some (.ref c_Watch)))
    (u_LOOKS_ON:PySem.W.nsIn K mainGlobals "LOOKS_ON" = some (some (.int 0 tok_LOOKS_ON)))
    (mi_Watch:PySem.W.makesIn K c_Watch=true)
    (pg_Watch:PySem.W.plainGet K c_Watch Str.empty=true)
    (hd_Watch:PySem.W.hasDictIn K c_Watch=true)
    (po_Watch:PySem.W.plainOver K c_Watch=true)
    (sa_Watch:PySem.W.findIn K (.ref c_Watch) "__setattr__" = some (some (.builtin "object.__setattr__")))
    (n0_Watch:PySem.W.findIn K (.ref c_Watch) "says_of" = some none)
    (n1_Watch:PySem.W.findIn K (.ref c_Watch) "faces" = some none)
    (n2_Watch:PySem.W.findIn K (.ref c_Watch) "told" = some none)
    (n3_Watch:PySem.W.findIn K (.ref c_Watch) "stands" = some none)
    (x_NoBack:PySem.W.excIn K c_NoBack mroVE "ValueError.__new__" = true)
    (ga_NoBack:PySem.W.findIn K (.ref c_NoBack) "__getattribute__" = some (some (.builtin "BaseException.__getattribute__")))
    (gt_NoBack:PySem.W.findIn K (.ref c_NoBack) "__getattr__" = some none)
    (su_NoBack:PySem.W.subIn K (.ref c_NoBack) (.type "BaseException")=some true)
    (cl_NoBack:PySem.W.clsIn K c_NoBack=some cd_NoBack)
    (kc_NoBack:PySem.W.findIn K (.ref c_NoBack) "__class__" = some (some (.builtin "object.__class__")))
    (kg_NoBack:PySem.W.specialIn K (.builtin "object.__class__") "__get__" = some (some (.builtin "getset_descriptor.__get__")))
    (kt_NoBack:PySem.W.takesIn K (.builtin "object.__class__")=some true)
    (ob_NoBack:PySem.W.mroIn K c_NoBack (.type "object")=some true)
    (ty_NoLook:PySem.W.typeIn K (.ref c_NoLook)=some (.type "type"))
    (cm_NoLook:PySem.W.clsIn K c_NoLook=some ce_NoLook)
    (sb_NoLook:PySem.W.subIn K (.ref c_NoLook) (.type "BaseException")=some true)
    (ty_NoBack:PySem.W.typeIn K (.ref c_NoBack)=some (.type "type"))
    (cm_NoBack:PySem.W.clsIn K c_NoBack=some ce_NoBack)
    (sb_NoBack:PySem.W.subIn K (.ref c_NoBack) (.type "BaseException")=some true)
    (t0:baseAll K c_EarlyError=true)
    (t1:setAll K c_NoLook ["word"]=true)
    (t2:excAll K c_NoLook=true)
    (t3:PySem.W.subIn K (.ref c_NoLook) (.ref c_NoLook)=some true)
    (t4:PySem.W.subIn K (.ref c_NoBack) (.ref c_NoBack)=some true)
    (y1:PySem.W.kitAny K (.ref c_NoLook) [.ref c_NoBack,.ref c_NoBounds,.ref c_NoFraction,.ref c_NoLines,.ref c_NoOrder]=some false)
    (y2:PySem.W.kitAny K (.ref c_NoLook) [.ref c_NoPaper,.ref c_NoRow,.ref c_NoRule,.ref c_NoTrial]=some false)
    (y3:PySem.W.kitOne K (.ref c_NoLook) (.type "ValueError")=some true)
    (y4:PySem.W.kitAny K (.ref c_NoBack) [.ref c_NoBounds,.ref c_NoFraction,.ref c_NoLines,.ref c_NoLook,.ref c_NoOrder,.ref c_NoPaper,.ref c_NoRow,.ref c_NoRule,.ref c_NoTrial]=some false)
    (y5:PySem.W.kitOne K (.ref c_NoBack) (.type "ValueError")=some true)
    (o_ONE:intsIn K c_ONE [1,1]=true)
    (a0:PySem.W.findIn K (.ref c_NoLook) "__init__" = some (some (.ref f0))) (l0:K.lookup f0=some ⟨oc0,od0,.func (PySem.W.fnOf "__init__" "NoLook.__init__" (defArgs s_NoLook___init__) (defBody s_NoLook___init__) (defScope s_NoLook___init__) .none kV0 dc0 pm0 an0 cd0 ct0),sl0⟩) (c0:PySem.W.codeIn K cd0 "NoLook.__init__" = true) (k0:PySem.W.keepIn K (.ref f0)=true) (fn0:PySem.W.isFn K (.ref f0)=true) (kp0:PySem.W.keepIn K (.ref c_NoLook)=true)
    (a1:PySem.W.nsIn K mainGlobals "is_whole" = some (some (.ref f1))) (l1:K.lookup f1=some ⟨oc1,od1,.func (PySem.W.fnOf "is_whole" "is_whole" (defArgs s_is_whole) (defBody s_is_whole) (defScope s_is_whole) .none kV1 dc1 pm1 an1 cd1 ct1),sl1⟩) (c1:PySem.W.codeIn K cd1 "is_whole" = true) (k1:PySem.W.keepIn K (.ref f1)=true)
    (a2:PySem.W.nsIn K mainGlobals "common_divisor" = some (some (.ref f2))) (l2:K.lookup f2=some ⟨oc2,od2,.func (PySem.W.fnOf "common_divisor" "common_divisor" (defArgs s_common_divisor) (defBody s_common_divisor) (defScope s_common_divisor) .none kV2 dc2 pm2 an2 cd2 ct2),sl2⟩) (c2:PySem.W.codeIn K cd2 "common_divisor" = true) (k2:PySem.W.keepIn K (.ref f2)=true)
    (a3:PySem.W.nsIn K mainGlobals "is_fraction" = some (some (.ref f3))) (l3:K.lookup f3=some ⟨oc3,od3,.func (PySem.W.fnOf "is_fraction" "is_fraction" (defArgs s_is_fraction) (defBody s_is_fraction) (defScope s_is_fraction) .none kV3 dc3 pm3 an3 cd3 ct3),sl3⟩) (c3:PySem.W.codeIn K cd3 "is_fraction" = true) (k3:PySem.W.keepIn K (.ref f3)=true)
    (a4:PySem.W.nsIn K mainGlobals "is_share" = some (some (.ref f4))) (l4:K.lookup f4=some ⟨oc4,od4,.func (PySem.W.fnOf "is_share" "is_share" (defArgs s_is_share) (defBody s_is_share) (defScope s_is_share) .none kV4 dc4 pm4 an4 cd4 ct4),sl4⟩) (c4:PySem.W.codeIn K cd4 "is_share" = true) (k4:PySem.W.keepIn K (.ref f4)=true)
    (a5:PySem.W.nsIn K mainGlobals "plus" = some (some (.ref f5))) (l5:K.lookup f5=some ⟨oc5,od5,.func (PySem.W.fnOf "plus" "plus" (defArgs s_plus) (defBody s_plus) (defScope s_plus) .none kV5 dc5 pm5 an5 cd5 ct5),sl5⟩) (c5:PySem.W.codeIn K cd5 "plus" = true) (k5:PySem.W.keepIn K (.ref f5)=true)
    (a6:PySem.W.nsIn K mainGlobals "is_less" = some (some (.ref f6))) (l6:K.lookup f6=some ⟨oc6,od6,.func (PySem.W.fnOf "is_less" "is_less" (defArgs s_is_less) (defBody s_is_less) (defScope s_is_less) .none kV6 dc6 pm6 an6 cd6 ct6),sl6⟩) (c6:PySem.W.codeIn K cd6 "is_less" = true) (k6:PySem.W.keepIn K (.ref f6)=true)
    (a7:PySem.W.nsIn K mainGlobals "noughts" = some (some (.ref f7))) (l7:K.lookup f7=some ⟨oc7,od7,.func (PySem.W.fnOf "noughts" "noughts" (defArgs s_noughts) (defBody s_noughts) (defScope s_noughts) .none kV7 dc7 pm7 an7 cd7 ct7),sl7⟩) (c7:PySem.W.codeIn K cd7 "noughts" = true) (k7:PySem.W.keepIn K (.ref f7)=true)
    (a8:PySem.W.nsIn K mainGlobals "one_more" = some (some (.ref f8))) (l8:K.lookup f8=some ⟨oc8,od8,.func (PySem.W.fnOf "one_more" "one_more" (defArgs s_one_more) (defBody s_one_more) (defScope s_one_more) .none kV8 dc8 pm8 an8 cd8 ct8),sl8⟩) (c8:PySem.W.codeIn K cd8 "one_more" = true) (k8:PySem.W.keepIn K (.ref f8)=true)
    (a9:PySem.W.nsIn K mainGlobals "rule_faces" = some (some (.ref f9))) (l9:K.lookup f9=some ⟨oc9,od9,.func (PySem.W.fnOf "rule_faces" "rule_faces" (defArgs s_rule_faces) (defBody s_rule_faces) (defScope s_rule_faces) .none kV9 dc9 pm9 an9 cd9 ct9),sl9⟩) (c9:PySem.W.codeIn K cd9 "rule_faces" = true) (k9:PySem.W.keepIn K (.ref f9)=true)
    (a10:PySem.W.nsIn K mainGlobals "is_face" = some (some (.ref f10))) (l10:K.lookup f10=some ⟨oc10,od10,.func (PySem.W.fnOf "is_face" "is_face" (defArgs s_is_face) (defBody s_is_face) (defScope s_is_face) .none kV10 dc10 pm10 an10 cd10 ct10),sl10⟩) (c10:PySem.W.codeIn K cd10 "is_face" = true) (k10:PySem.W.keepIn K (.ref f10)=true)
    (a11:PySem.W.nsIn K mainGlobals "drawn" = some (some (.ref f11))) (l11:K.lookup f11=some ⟨oc11,od11,.func (PySem.W.fnOf "drawn" "drawn" (defArgs s_drawn) (defBody s_drawn) (defScope s_drawn) .none kV11 dc11 pm11 an11 cd11 ct11),sl11⟩) (c11:PySem.W.codeIn K cd11 "drawn" = true) (k11:PySem.W.keepIn K (.ref f11)=true)
    (a12:PySem.W.findIn K (.ref c_Watch) "due" = some (some (.ref f12))) (l12:K.lookup f12=some ⟨oc12,od12,.func (PySem.W.fnOf "due" "Watch.due" (defArgs s_Watch_due) (defBody s_Watch_due) (defScope s_Watch_due) .none kV12 dc12 pm12 an12 cd12 ct12),sl12⟩) (c12:PySem.W.codeIn K cd12 "Watch.due" = true) (k12:PySem.W.keepIn K (.ref f12)=true) (fn12:PySem.W.isFn K (.ref f12)=true) (kp12:PySem.W.keepIn K (.ref c_Watch)=true)
    (a13:PySem.W.findIn K (.ref c_Watch) "seen" = some (some (.ref f13))) (l13:K.lookup f13=some ⟨oc13,od13,.func (PySem.W.fnOf "seen" "Watch.seen" (defArgs s_Watch_seen) (defBody s_Watch_seen) (defScope s_Watch_seen) .none kV13 dc13 pm13 an13 cd13 ct13),sl13⟩) (c13:PySem.W.codeIn K cd13 "Watch.seen" = true) (k13:PySem.W.keepIn K (.ref f13)=true) (fn13:PySem.W.isFn K (.ref f13)=true) (kp13:PySem.W.keepIn K (.ref c_Watch)=true)
    (a14:PySem.W.findIn K (.ref c_Watch) "way" = some (some (.ref f14))) (l14:K.lookup f14=some ⟨oc14,od14,.func (PySem.W.fnOf "way" "Watch.way" (defArgs s_Watch_way) (defBody s_Watch_way) (defScope s_Watch_way) .none kV14 dc14 pm14 an14 cd14 ct14),sl14⟩) (c14:PySem.W.codeIn K cd14 "Watch.way" = true) (k14:PySem.W.keepIn K (.ref f14)=true) (fn14:PySem.W.isFn K (.ref f14)=true) (kp14:PySem.W.keepIn K (.ref c_Watch)=true)
    (a15:PySem.W.findIn K (.ref c_Watch) "trail" = some (some (.ref f15))) (l15:K.lookup f15=some ⟨oc15,od15,.func (PySem.W.fnOf "trail" "Watch.trail" (defArgs s_Watch_trail) (defBody s_Watch_trail) (defScope s_Watch_trail) .none kV15 dc15 pm15 an15 cd15 ct15),sl15⟩) (c15:PySem.W.codeIn K cd15 "Watch.trail" = true) (k15:PySem.W.keepIn K (.ref f15)=true) (fn15:PySem.W.isFn K (.ref f15)=true) (kp15:PySem.W.keepIn K (.ref c_Watch)=true)
    (a16:PySem.W.findIn K (.ref c_Watch) "refuse_unless" = some (some (.ref f16))) (l16:K.lookup f16=some ⟨oc16,od16,.func (PySem.W.fnOf "refuse_unless" "Watch.refuse_unless" (defArgs s_Watch_refuse_unless) (defBody s_Watch_refuse_unless) (defScope s_Watch_refuse_unless) .none kV16 dc16 pm16 an16 cd16 ct16),sl16⟩) (c16:PySem.W.codeIn K cd16 "Watch.refuse_unless" = true) (k16:PySem.W.keepIn K (.ref f16)=true) (fn16:PySem.W.isFn K (.ref f16)=true) (kp16:PySem.W.keepIn K (.ref c_Watch)=true)
    (a17:PySem.W.findIn K (.ref c_Watch) "come_to" = some (some (.ref f17))) (l17:K.lookup f17=some ⟨oc17,od17,.func (PySem.W.fnOf "come_to" "Watch.come_to" (defArgs s_Watch_come_to) (defBody s_Watch_come_to) (defScope s_Watch_come_to) .none kV17 dc17 pm17 an17 cd17 ct17),sl17⟩) (c17:PySem.W.codeIn K cd17 "Watch.come_to" = true) (k17:PySem.W.keepIn K (.ref f17)=true) (fn17:PySem.W.isFn K (.ref f17)=true) (kp17:PySem.W.keepIn K (.ref c_Watch)=true)
    (a18:PySem.W.findIn K (.ref c_Watch) "back" = some (some (.ref f18))) (l18:K.lookup f18=some ⟨oc18,od18,.func (PySem.W.fnOf "back" "Watch.back" (defArgs s_Watch_back) (defBody s_Watch_back) (defScope s_Watch_back) .none kV18 dc18 pm18 an18 cd18 ct18),sl18⟩) (c18:PySem.W.codeIn K cd18 "Watch.back" = true) (k18:PySem.W.keepIn K (.ref f18)=true) (fn18:PySem.W.isFn K (.ref f18)=true) (kp18:PySem.W.keepIn K (.ref c_Watch)=true)
    (a19:PySem.W.findIn K (.ref c_Watch) "look" = some (some (.ref f19))) (l19:K.lookup f19=some ⟨oc19,od19,.func (PySem.W.fnOf "look" "Watch.look" (defArgs s_Watch_look) (defBody s_Watch_look) (defScope s_Watch_look) .none kV19 dc19 pm19 an19 cd19 ct19),sl19⟩) (c19:PySem.W.codeIn K cd19 "Watch.look" = true) (k19:PySem.W.keepIn K (.ref f19)=true) (fn19:PySem.W.isFn K (.ref f19)=true) (kp19:PySem.W.keepIn K (.ref c_Watch)=true)
    (a20:PySem.W.findIn K (.ref c_Watch) "lot" = some (some (.ref f20))) (l20:K.lookup f20=some ⟨oc20,od20,.func (PySem.W.fnOf "lot" "Watch.lot" (defArgs s_Watch_lot) (defBody s_Watch_lot) (defScope s_Watch_lot) .none kV20 dc20 pm20 an20 cd20 ct20),sl20⟩) (c20:PySem.W.codeIn K cd20 "Watch.lot" = true) (k20:PySem.W.keepIn K (.ref f20)=true) (fn20:PySem.W.isFn K (.ref f20)=true) (kp20:PySem.W.keepIn K (.ref c_Watch)=true)
    (a21:PySem.W.findIn K (.ref c_Watch) "__init__" = some (some (.ref f21))) (l21:K.lookup f21=some ⟨oc21,od21,.func (PySem.W.fnOf "__init__" "Watch.__init__" (defArgs s_Watch___init__) (defBody s_Watch___init__) (defScope s_Watch___init__) .none kV21 dc21 pm21 an21 cd21 ct21),sl21⟩) (c21:PySem.W.codeIn K cd21 "Watch.__init__" = true) (k21:PySem.W.keepIn K (.ref f21)=true) (fn21:PySem.W.isFn K (.ref f21)=true) (kp21:PySem.W.keepIn K (.ref c_Watch)=true)
    (a22:PySem.W.nsIn K mainGlobals "_law_tape" = some (some (.ref f22))) (l22:K.lookup f22=some ⟨oc22,od22,.func (PySem.W.fnOf "_law_tape" "_law_tape" (defArgs s__law_tape) (defBody s__law_tape) (defScope s__law_tape) .none kV22 dc22 pm22 an22 cd22 ct22),sl22⟩) (c22:PySem.W.codeIn K cd22 "_law_tape" = true) (k22:PySem.W.keepIn K (.ref f22)=true)
    (a23:PySem.W.nsIn K mainGlobals "_law_pick" = some (some (.ref f23))) (l23:K.lookup f23=some ⟨oc23,od23,.func (PySem.W.fnOf "_law_pick" "_law_pick" (defArgs s__law_pick) (defBody s__law_pick) (defScope s__law_pick) .none kV23 dc23 pm23 an23 cd23 ct23),sl23⟩) (c23:PySem.W.codeIn K cd23 "_law_pick" = true) (k23:PySem.W.keepIn K (.ref f23)=true)
    (a24:PySem.W.nsIn K mainGlobals "_law_frac" = some (some (.ref f24))) (l24:K.lookup f24=some ⟨oc24,od24,.func (PySem.W.fnOf "_law_frac" "_law_frac" (defArgs s__law_frac) (defBody s__law_frac) (defScope s__law_frac) .none kV24 dc24 pm24 an24 cd24 ct24),sl24⟩) (c24:PySem.W.codeIn K cd24 "_law_frac" = true) (k24:PySem.W.keepIn K (.ref f24)=true)
    (a25:PySem.W.nsIn K mainGlobals "_law_plus" = some (some (.ref f25))) (l25:K.lookup f25=some ⟨oc25,od25,.func (PySem.W.fnOf "_law_plus" "_law_plus" (defArgs s__law_plus) (defBody s__law_plus) (defScope s__law_plus) .none kV25 dc25 pm25 an25 cd25 ct25),sl25⟩) (c25:PySem.W.codeIn K cd25 "_law_plus" = true) (k25:PySem.W.keepIn K (.ref f25)=true)
    (a26:PySem.W.nsIn K mainGlobals "_law_shares" = some (some (.ref f26))) (l26:K.lookup f26=some ⟨oc26,od26,.func (PySem.W.fnOf "_law_shares" "_law_shares" (defArgs s__law_shares) (defBody s__law_shares) (defScope s__law_shares) .none kV26 dc26 pm26 an26 cd26 ct26),sl26⟩) (c26:PySem.W.codeIn K cd26 "_law_shares" = true) (k26:PySem.W.keepIn K (.ref f26)=true)
    (a27:PySem.W.nsIn K mainGlobals "_law_says" = some (some (.ref f27))) (l27:K.lookup f27=some ⟨oc27,od27,.func (PySem.W.fnOf "_law_says" "_law_says" (defArgs s__law_says) (defBody s__law_says) (defScope s__law_says) .none kV27 dc27 pm27 an27 cd27 ct27),sl27⟩) (c27:PySem.W.codeIn K cd27 "_law_says" = true) (k27:PySem.W.keepIn K (.ref f27)=true)
    (a28:PySem.W.nsIn K mainGlobals "_law_next" = some (some (.ref f28))) (l28:K.lookup f28=some ⟨oc28,od28,.func (PySem.W.fnOf "_law_next" "_law_next" (defArgs s__law_next) (defBody s__law_next) (defScope s__law_next) .none kV28 dc28 pm28 an28 cd28 ct28),sl28⟩) (c28:PySem.W.codeIn K cd28 "_law_next" = true) (k28:PySem.W.keepIn K (.ref f28)=true)
    (a29:PySem.W.nsIn K mainGlobals "_law_rule" = some (some (.ref f29))) (l29:K.lookup f29=some ⟨oc29,od29,.func (PySem.W.fnOf "_law_rule" "_law_rule" (defArgs s__law_rule) (defBody s__law_rule) (defScope s__law_rule) .none kV29 dc29 pm29 an29 cd29 ct29),sl29⟩) (c29:PySem.W.codeIn K cd29 "_law_rule" = true) (k29:PySem.W.keepIn K (.ref f29)=true)
    (a30:PySem.W.nsIn K mainGlobals "_law_sizes" = some (some (.ref f30))) (l30:K.lookup f30=some ⟨oc30,od30,.func (PySem.W.fnOf "_law_sizes" "_law_sizes" (defArgs s__law_sizes) (defBody s__law_sizes) (defScope s__law_sizes) .none kV30 dc30 pm30 an30 cd30 ct30),sl30⟩) (c30:PySem.W.codeIn K cd30 "_law_sizes" = true) (k30:PySem.W.keepIn K (.ref f30)=true)
    (a31:PySem.W.nsIn K mainGlobals "_law_drawn" = some (some (.ref f31))) (l31:K.lookup f31=some ⟨oc31,od31,.func (PySem.W.fnOf "_law_drawn" "_law_drawn" (defArgs s__law_drawn) (defBody s__law_drawn) (defScope s__law_drawn) .none kV31 dc31 pm31 an31 cd31 ct31),sl31⟩) (c31:PySem.W.codeIn K cd31 "_law_drawn" = true) (k31:PySem.W.keepIn K (.ref f31)=true)
    (a32:PySem.W.nsIn K mainGlobals "_law_due" = some (some (.ref f32))) (l32:K.lookup f32=some ⟨oc32,od32,.func (PySem.W.fnOf "_law_due" "_law_due" (defArgs s__law_due) (defBody s__law_due) (defScope s__law_due) .none kV32 dc32 pm32 an32 cd32 ct32),sl32⟩) (c32:PySem.W.codeIn K cd32 "_law_due" = true) (k32:PySem.W.keepIn K (.ref f32)=true)
    (a33:PySem.W.nsIn K mainGlobals "_law_stand" = some (some (.ref f33))) (l33:K.lookup f33=some ⟨oc33,od33,.func (PySem.W.fnOf "_law_stand" "_law_stand" (defArgs s__law_stand) (defBody s__law_stand) (defScope s__law_stand) .none kV33 dc33 pm33 an33 cd33 ct33),sl33⟩) (c33:PySem.W.codeIn K cd33 "_law_stand" = true) (k33:PySem.W.keepIn K (.ref f33)=true)
    (a34:PySem.W.nsIn K mainGlobals "_law_lot" = some (some (.ref f34))) (l34:K.lookup f34=some ⟨oc34,od34,.func (PySem.W.fnOf "_law_lot" "_law_lot" (defArgs s__law_lot) (defBody s__law_lot) (defScope s__law_lot) .none kV34 dc34 pm34 an34 cd34 ct34),sl34⟩) (c34:PySem.W.codeIn K cd34 "_law_lot" = true) (k34:PySem.W.keepIn K (.ref f34)=true)
    (a35:PySem.W.nsIn K mainGlobals "_law_watch_right" = some (some (.ref f35))) (l35:K.lookup f35=some ⟨oc35,od35,.func (PySem.W.fnOf "_law_watch_right" "_law_watch_right" (defArgs s__law_watch_right) (defBody s__law_watch_right) (defScope s__law_watch_right) .none kV35 dc35 pm35 an35 cd35 ct35),sl35⟩) (c35:PySem.W.codeIn K cd35 "_law_watch_right" = true) (k35:PySem.W.keepIn K (.ref f35)=true)
    (a36:PySem.W.nsIn K mainGlobals "_law_refused" = some (some (.ref f36))) (l36:K.lookup f36=some ⟨oc36,od36,.func (PySem.W.fnOf "_law_refused" "_law_refused" (defArgs s__law_refused) (defBody s__law_refused) (defScope s__law_refused) .none kV36 dc36 pm36 an36 cd36 ct36),sl36⟩) (c36:PySem.W.codeIn K cd36 "_law_refused" = true) (k36:PySem.W.keepIn K (.ref f36)=true)
    (a37:PySem.W.nsIn K mainGlobals "_law_no_back" = some (some (.ref f37))) (l37:K.lookup f37=some ⟨oc37,od37,.func (PySem.W.fnOf "_law_no_back" "_law_no_back" (defArgs s__law_no_back) (defBody s__law_no_back) (defScope s__law_no_back) .none kV37 dc37 pm37 an37 cd37 ct37),sl37⟩) (c37:PySem.W.codeIn K cd37 "_law_no_back" = true) (k37:PySem.W.keepIn K (.ref f37)=true)
    (a38:PySem.W.nsIn K mainGlobals "_law_tries" = some (some (.ref f38))) (l38:K.lookup f38=some ⟨oc38,od38,.func (PySem.W.fnOf "_law_tries" "_law_tries" (defArgs s__law_tries) (defBody s__law_tries) (defScope s__law_tries) .none kV38 dc38 pm38 an38 cd38 ct38),sl38⟩) (c38:PySem.W.codeIn K cd38 "_law_tries" = true) (k38:PySem.W.keepIn K (.ref f38)=true)
    (a39:PySem.W.nsIn K mainGlobals "law" = some (some (.ref f39))) (l39:K.lookup f39=some ⟨oc39,od39,.func (PySem.W.fnOf "law" "law" (defArgs s_law) (defBody s_law) (defScope s_law) .none kV39 dc39 pm39 an39 cd39 ct39),sl39⟩) (c39:PySem.W.codeIn K cd39 "law" = true) (k39:PySem.W.keepIn K (.ref f39)=true) (z0:PySem.W.nsIn K mainGlobals "list" = some none) (z1:PySem.W.nsIn K mainGlobals "len" = some none) (z2:PySem.W.nsIn K mainGlobals "abs" = some none) (z3:PySem.W.nsIn K mainGlobals "repr" = some none) (z4:PySem.W.nsIn K mainGlobals "range" = some none) (z5:PySem.W.nsIn K mainGlobals "sum" = some none) (z6:PySem.W.nsIn K mainGlobals "max" = some none) (z7:PySem.W.nsIn K mainGlobals "min" = some none) (z8:PySem.W.nsIn K mainGlobals "int" = some none) (z9:PySem.W.nsIn K mainGlobals "bool" = some none) (z10:PySem.W.nsIn K mainGlobals "sorted" = some none) (z11:PySem.W.nsIn K mainGlobals "dict" = some none) (z12:PySem.W.nsIn K mainGlobals "isinstance" = some none) (z13:PySem.W.nsIn K mainGlobals "tuple" = some none) (z14:PySem.W.nsIn K mainGlobals "ValueError" = some none) :
    ∃ fd:FuncData,(∀ (s:Shared) (v:Value),BindsTo s fd ⟨[v],[]⟩ [("_law_script",v)])∧∀ base:Heap,K.In base→base.Ns mainGlobals mg→FnOk l.prog w K mg base CX0 6 fa fd ["_law_script"] (sp_law K):=by
  have e:=hfa.symm.trans (PySem.W.mg_of X G a39)
  cases e
  generalize hcl:(⟨c_EarlyError,c_NoTrial,c_NoRule,c_NoBounds,c_NoLook,c_NoPaper,c_NoLines,c_NoFraction,c_NoOrder,c_NoBack,c_NoRow,c_ONE,c_Watch,tok_LOOKS_ON⟩:Cl)=c
  have T:Txt K mg c:=by rw [← hcl]; exact ⟨PySem.W.mg_none_of X G z0,PySem.W.mg_none_of X G z1,PySem.W.mg_none_of X G z2,PySem.W.mg_none_of X G z3,PySem.W.mg_none_of X G z4,PySem.W.mg_none_of X G z5,PySem.W.mg_none_of X G z6,PySem.W.mg_none_of X G z7,PySem.W.mg_none_of X G z8,PySem.W.mg_none_of X G z9,PySem.W.mg_none_of X G z10,PySem.W.mg_none_of X G z11,PySem.W.mg_none_of X G z12,PySem.W.mg_none_of X G z13,PySem.W.mg_none_of X G z14,PySem.W.mg_of X G u_EarlyError,PySem.W.mg_of X G u_NoTrial,PySem.W.mg_of X G u_NoRule,PySem.W.mg_of X G u_NoBounds,PySem.W.mg_of X G u_NoLook,PySem.W.mg_of X G u_NoPaper,PySem.W.mg_of X G u_NoLines,PySem.W.mg_of X G u_NoFraction,PySem.W.mg_of X G u_NoOrder,PySem.W.mg_of X G u_NoBack,PySem.W.mg_of X G u_NoRow,PySem.W.mg_of X G u_ONE,PySem.W.mg_of X G u_LOOKS_ON,PySem.W.mg_of X G u_Watch,⟨⟨pg_Watch,hd_Watch,po_Watch,sa_Watch⟩,(noA_cons n0_Watch (noA_cons n1_Watch (noA_cons n2_Watch (noA_cons n3_Watch noA_nil))))⟩,x_NoBack,⟨ga_NoBack,gt_NoBack,su_NoBack,(by rw [cl_NoBack]; rfl),kc_NoBack,kg_NoBack,kt_NoBack,ob_NoBack⟩,⟨ty_NoLook,(by rw [cm_NoLook]; rfl),sb_NoLook⟩,⟨ty_NoBack,(by rw [cm_NoBack]; rfl),sb_NoBack⟩,t0,t1,t2,t3,t4,y1,y2,y3,y4,y5,o_ONE⟩
  have F0:=fun_mk (st:=s_NoLook___init__) l0 c0 k0
  have b0:=F0.binds (ps:=["self", "word"]) fun _ _ _ _ _ _ us hl=>by obtain ⟨_,_,rfl⟩:=len2 (show us.length=2 from hl); rfl
  have G_NoLook___init__:∀ base:Heap,FnI l.prog w K mg base 1 c.NoLook ["self", "word"] (sp_iniN c.NoLook "word"):=fun base=>⟨_,_,ok_NoLook___init__ F0 T,⟨(setAll.shape T.st_NoLook),(by rw [← hcl]; exact a0),fn0,(by rw [← hcl]; exact kp0)⟩,b0⟩
  have F1:=fun_mk (st:=s_is_whole) l1 c1 k1
  have b1:=F1.binds (ps:=["thing"]) fun _ _ _ _ _ _ us hl=>by obtain ⟨_,rfl⟩:=len1 hl; rfl
  have G_is_whole:=fun base=>fnc l w X G base a1 k1 b1 (ok_is_whole F1 T)
  have F2:=fun_mk (st:=s_common_divisor) l2 c2 k2
  have b2:=F2.binds (ps:=["number", "above_nought"]) fun _ _ _ _ _ _ us hl=>by obtain ⟨_,_,rfl⟩:=len2 hl; rfl
  have G_common_divisor:=fun base=>fnc l w X G base a2 k2 b2 (ok_common_divisor F2 T)
  have F3:=fun_mk (st:=s_is_fraction) l3 c3 k3
  have b3:=F3.binds (ps:=["thing"]) fun _ _ _ _ _ _ us hl=>by obtain ⟨_,rfl⟩:=len1 hl; rfl
  have G_is_fraction:=fun base=>fnc l w X G base a3 k3 b3 (ok_is_fraction F3 T (G_is_whole base) (G_common_divisor base))
  have F4:=fun_mk (st:=s_is_share) l4 c4 k4
  have b4:=F4.binds (ps:=["thing"]) fun _ _ _ _ _ _ us hl=>by obtain ⟨_,rfl⟩:=len1 hl; rfl
  have G_is_share:=fun base=>fnc l w X G base a4 k4 b4 (ok_is_share F4 T (G_is_fraction base))
  have F5:=fun_mk (st:=s_plus) l5 c5 k5
  have b5:=F5.binds (ps:=["one", "other"]) fun _ _ _ _ _ _ us hl=>by obtain ⟨_,_,rfl⟩:=len2 hl; rfl
  have G_plus:=fun base=>fnc l w X G base a5 k5 b5 (ok_plus F5 T (G_common_divisor base))
  have F6:=fun_mk (st:=s_is_less) l6 c6 k6
  have b6:=F6.binds (ps:=["one", "other"]) fun _ _ _ _ _ _ us hl=>by obtain ⟨_,_,rfl⟩:=len2 hl; rfl
  have G_is_less:=fun base=>fnc l w X G base a6 k6 b6 (ok_is_less F6 T)
  have F7:=fun_mk (st:=s_noughts) l7 c7 k7
  have b7:=F7.binds (ps:=["faces"]) fun _ _ _ _ _ _ us hl=>by obtain ⟨_,rfl⟩:=len1 hl; rfl
  have G_noughts:=fun base=>fnc l w X G base a7 k7 b7 (ok_noughts F7 T)
  have F8:=fun_mk (st:=s_one_more) l8 c8 k8
  have b8:=F8.binds (ps:=["counts", "face"]) fun _ _ _ _ _ _ us hl=>by obtain ⟨_,_,rfl⟩:=len2 hl; rfl
  have G_one_more:=fun base=>fnc l w X G base a8 k8 b8 (ok_one_more F8 T)
  have F9:=fun_mk (st:=s_rule_faces) l9 c9 k9
  have b9:=F9.binds (ps:=["rule"]) fun _ _ _ _ _ _ us hl=>by obtain ⟨_,rfl⟩:=len1 hl; rfl
  have G_rule_faces:=fun base=>fnc l w X G base a9 k9 b9 (ok_rule_faces F9 T)
  have F10:=fun_mk (st:=s_is_face) l10 c10 k10
  have b10:=F10.binds (ps:=["faces", "thing"]) fun _ _ _ _ _ _ us hl=>by obtain ⟨_,_,rfl⟩:=len2 hl; rfl
  have G_is_face:=fun base=>fnc l w X G base a10 k10 b10 (ok_is_face F10 T (G_is_whole base))
  have F11:=fun_mk (st:=s_drawn) l11 c11 k11
  have b11:=F11.binds (ps:=["says", "share"]) fun _ _ _ _ _ _ us hl=>by obtain ⟨_,_,rfl⟩:=len2 hl; rfl
  have G_drawn:=fun base=>fnc l w X G base a11 k11 b11 (ok_drawn F11 T (G_is_less base) (G_plus base))
  have F12:=fun_mk (st:=s_Watch_due) l12 c12 k12
  have b12:=F12.binds (ps:=["self"]) fun _ _ _ _ _ _ us hl=>by obtain ⟨_,rfl⟩:=len1 (show us.length=1 from hl); rfl
  have G_Watch_due:∀ base:Heap,FnM l.prog w K mg base 1 c.Watch "due" ["self"] (sp_due c.Watch):=fun base=>⟨_,_,ok_Watch_due F12 T,⟨(by rw [← hcl]; exact a12),fn12,k12⟩,b12⟩
  have F13:=fun_mk (st:=s_Watch_seen) l13 c13 k13
  have b13:=F13.binds (ps:=["self"]) fun _ _ _ _ _ _ us hl=>by obtain ⟨_,rfl⟩:=len1 (show us.length=1 from hl); rfl
  have G_Watch_seen:∀ base:Heap,FnM l.prog w K mg base 1 c.Watch "seen" ["self"] (sp_seen c.Watch):=fun base=>⟨_,_,ok_Watch_seen F13 T,⟨(by rw [← hcl]; exact a13),fn13,k13⟩,b13⟩
  have F14:=fun_mk (st:=s_Watch_way) l14 c14 k14
  have b14:=F14.binds (ps:=["self"]) fun _ _ _ _ _ _ us hl=>by obtain ⟨_,rfl⟩:=len1 (show us.length=1 from hl); rfl
  have G_Watch_way:∀ base:Heap,FnM l.prog w K mg base 2 c.Watch "way" ["self"] (sp_way c.Watch):=fun base=>⟨_,_,ok_Watch_way F14 T (G_Watch_due base),⟨(by rw [← hcl]; exact a14),fn14,k14⟩,b14⟩
  have F15:=fun_mk (st:=s_Watch_trail) l15 c15 k15
  have b15:=F15.binds (ps:=["self"]) fun _ _ _ _ _ _ us hl=>by obtain ⟨_,rfl⟩:=len1 (show us.length=1 from hl); rfl
  have G_Watch_trail:∀ base:Heap,FnM l.prog w K mg base 1 c.Watch "trail" ["self"] (sp_trail c.Watch):=fun base=>⟨_,_,ok_Watch_trail F15 T,⟨(by rw [← hcl]; exact a15),fn15,k15⟩,b15⟩
  have F16:=fun_mk (st:=s_Watch_refuse_unless) l16 c16 k16
  have b16:=F16.binds (ps:=["self", "word"]) fun _ _ _ _ _ _ us hl=>by obtain ⟨_,_,rfl⟩:=len2 (show us.length=2 from hl); rfl
  have G_Watch_refuse_unless:∀ base:Heap,FnMX l.prog w K mg base 3 c.Watch "refuse_unless" ["self", "word"] (sp_refuseX c.Watch c.NoLook):=fun base=>⟨_,_,ok_Watch_refuse_unless F16 T (G_Watch_due base) (G_NoLook___init__ base),⟨(by rw [← hcl]; exact a16),fn16,k16⟩,b16⟩
  have F17:=fun_mk (st:=s_Watch_come_to) l17 c17 k17
  have b17:=F17.binds (ps:=["self", "counts"]) fun _ _ _ _ _ _ us hl=>by obtain ⟨_,_,rfl⟩:=len2 (show us.length=2 from hl); rfl
  have G_Watch_come_to:∀ base:Heap,FnM l.prog w K mg base 1 c.Watch "come_to" ["self", "counts"] (sp_wcome c.Watch):=fun base=>⟨_,_,ok_Watch_come_to F17 T,⟨(by rw [← hcl]; exact a17),fn17,k17⟩,b17⟩
  have F18:=fun_mk (st:=s_Watch_back) l18 c18 k18
  have b18:=F18.binds (ps:=["self"]) fun _ _ _ _ _ _ us hl=>by obtain ⟨_,rfl⟩:=len1 (show us.length=1 from hl); rfl
  have G_Watch_back:∀ base:Heap,FnMX l.prog w K mg base 1 c.Watch "back" ["self"] (sp_backX c.Watch c.NoBack):=fun base=>⟨_,_,ok_Watch_back F18 T,⟨(by rw [← hcl]; exact a18),fn18,k18⟩,b18⟩
  have F19:=fun_mk (st:=s_Watch_look) l19 c19 k19
  have b19:=F19.binds (ps:=["self", "face"]) fun _ _ _ _ _ _ us hl=>by obtain ⟨_,_,rfl⟩:=len2 (show us.length=2 from hl); rfl
  have G_Watch_look:∀ base:Heap,FnMX l.prog w K mg base 4 c.Watch "look" ["self", "face"] (sp_lookX c.Watch c.NoLook):=fun base=>⟨_,_,ok_Watch_look F19 T (G_Watch_refuse_unless base) (G_is_face base) (G_NoLook___init__ base) (G_Watch_come_to base) (G_one_more base) (G_Watch_seen base),⟨(by rw [← hcl]; exact a19),fn19,k19⟩,b19⟩
  have F20:=fun_mk (st:=s_Watch_lot) l20 c20 k20
  have b20:=F20.binds (ps:=["self", "share"]) fun _ _ _ _ _ _ us hl=>by obtain ⟨_,_,rfl⟩:=len2 (show us.length=2 from hl); rfl
  have G_Watch_lot:∀ base:Heap,FnMX l.prog w K mg base 4 c.Watch "lot" ["self", "share"] (sp_lotX c.Watch c.NoLook):=fun base=>⟨_,_,ok_Watch_lot F20 T (G_Watch_refuse_unless base) (G_is_share base) (G_NoLook___init__ base) (G_Watch_seen base) (G_drawn base),⟨(by rw [← hcl]; exact a20),fn20,k20⟩,b20⟩
  have F21:=fun_mk (st:=s_Watch___init__) l21 c21 k21
  have b21:=F21.binds (ps:=["self", "rule"]) fun _ _ _ _ _ _ us hl=>by obtain ⟨_,_,rfl⟩:=len2 (show us.length=2 from hl); rfl
  have G_Watch___init__:∀ base:Heap,FnO l.prog w K mg base 2 c.Watch ["self", "rule"] (sp_wini c.Watch):=fun base=>⟨_,_,ok_Watch___init__ F21 T (G_rule_faces base) (G_noughts base) (G_Watch_come_to base),⟨(by rw [← hcl]; exact mi_Watch),(by rw [← hcl]; exact a21),fn21,(by rw [← hcl]; exact kp21)⟩,b21⟩
  have F22:=fun_mk (st:=s__law_tape) l22 c22 k22
  have b22:=F22.binds (ps:=["_law_script", "_law_at"]) fun _ _ _ _ _ _ us hl=>by obtain ⟨_,_,rfl⟩:=len2 hl; rfl
  have G__law_tape:=fun base=>fnc l w X G base a22 k22 b22 (ok__law_tape F22 T)
  have F23:=fun_mk (st:=s__law_pick) l23 c23 k23
  have b23:=F23.binds (ps:=["_law_tape_here", "_law_many"]) fun _ _ _ _ _ _ us hl=>by obtain ⟨_,_,rfl⟩:=len2 hl; rfl
  have G__law_pick:=fun base=>fnc l w X G base a23 k23 b23 (ok__law_pick F23 T)
  have F24:=fun_mk (st:=s__law_frac) l24 c24 k24
  have b24:=F24.binds (ps:=["_law_n", "_law_d"]) fun _ _ _ _ _ _ us hl=>by obtain ⟨_,_,rfl⟩:=len2 hl; rfl
  have G__law_frac:=fun base=>fnc l w X G base a24 k24 b24 (ok__law_frac F24 T)
  have F25:=fun_mk (st:=s__law_plus) l25 c25 k25
  have b25:=F25.binds (ps:=["_law_one", "_law_other"]) fun _ _ _ _ _ _ us hl=>by obtain ⟨_,_,rfl⟩:=len2 hl; rfl
  have G__law_plus:=fun base=>fnc l w X G base a25 k25 b25 (ok__law_plus F25 T (G__law_frac base))
  have F26:=fun_mk (st:=s__law_shares) l26 c26 k26
  have b26:=F26.binds (ps:=["_law_tape_here", "_law_many"]) fun _ _ _ _ _ _ us hl=>by obtain ⟨_,_,rfl⟩:=len2 hl; rfl
  have G__law_shares:=fun base=>fnc l w X G base a26 k26 b26 (ok__law_shares F26 T (G__law_pick base) (G__law_frac base))
  have F27:=fun_mk (st:=s__law_says) l27 c27 k27
  have b27:=F27.binds (ps:=["_law_tape_here", "_law_ways", "_law_stops", "_law_plain"]) fun _ _ _ _ _ _ us hl=>by obtain ⟨_,_,_,_,rfl⟩:=len4 hl; rfl
  have G__law_says:=fun base=>fnc l w X G base a27 k27 b27 (ok__law_says F27 T (G__law_pick base) (G__law_shares base))
  have F28:=fun_mk (st:=s__law_next) l28 c28 k28
  have b28:=F28.binds (ps:=["_law_counts", "_law_says_here"]) fun _ _ _ _ _ _ us hl=>by obtain ⟨_,_,rfl⟩:=len2 hl; rfl
  have G__law_next:=fun base=>fnc l w X G base a28 k28 b28 (ok__law_next F28 T)
  have F29:=fun_mk (st:=s__law_rule) l29 c29 k29
  have b29:=F29.binds (ps:=["_law_tape_here", "_law_faces", "_law_ways", "_law_most", "_law_plain"]) fun _ _ _ _ _ _ us hl=>by obtain ⟨_,_,_,_,_,rfl⟩:=len5 hl; rfl
  have G__law_rule:=fun base=>fnc l w X G base a29 k29 b29 (ok__law_rule F29 T (G__law_says base) (G__law_next base))
  have F30:=fun_mk (st:=s__law_sizes) l30 c30 k30
  have b30:=F30.binds (ps:=["_law_tape_here"]) fun _ _ _ _ _ _ us hl=>by obtain ⟨_,rfl⟩:=len1 hl; rfl
  have G__law_sizes:=fun base=>fnc l w X G base a30 k30 b30 (ok__law_sizes F30 T (G__law_pick base))
  have F31:=fun_mk (st:=s__law_drawn) l31 c31 k31
  have b31:=F31.binds (ps:=["_law_says_here", "_law_lot_here"]) fun _ _ _ _ _ _ us hl=>by obtain ⟨_,_,rfl⟩:=len2 hl; rfl
  have G__law_drawn:=fun base=>fnc l w X G base a31 k31 b31 (ok__law_drawn F31 T (G__law_plus base))
  have F32:=fun_mk (st:=s__law_due) l32 c32 k32
  have b32:=F32.binds (ps:=["_law_place"]) fun _ _ _ _ _ _ us hl=>by obtain ⟨_,rfl⟩:=len1 hl; rfl
  have G__law_due:=fun base=>fnc l w X G base a32 k32 b32 (ok__law_due F32 T)
  have F33:=fun_mk (st:=s__law_stand) l33 c33 k33
  have b33:=F33.binds (ps:=["_law_rule_here", "_law_told"]) fun _ _ _ _ _ _ us hl=>by obtain ⟨_,_,rfl⟩:=len2 hl; rfl
  have G__law_stand:=fun base=>fnc l w X G base a33 k33 b33 (ok__law_stand F33 T (G__law_drawn base))
  have F34:=fun_mk (st:=s__law_lot) l34 c34 k34
  have b34:=F34.binds (ps:=["_law_tape_here", "_law_says_here"]) fun _ _ _ _ _ _ us hl=>by obtain ⟨_,_,rfl⟩:=len2 hl; rfl
  have G__law_lot:=fun base=>fnc l w X G base a34 k34 b34 (ok__law_lot F34 T (G__law_pick base) (G__law_frac base) (G__law_plus base))
  have F35:=fun_mk (st:=s__law_watch_right) l35 c35 k35
  have b35:=F35.binds (ps:=["_law_watch", "_law_rule_here", "_law_told"]) fun _ _ _ _ _ _ us hl=>by obtain ⟨_,_,_,rfl⟩:=len3 hl; rfl
  have G__law_watch_right:=fun base=>fnc l w X G base a35 k35 b35 (ok__law_watch_right F35 T (G__law_stand base) (G__law_due base) (G_Watch_trail base) (G_Watch_due base) (G_Watch_seen base) (G_Watch_way base))
  have F36:=fun_mk (st:=s__law_refused) l36 c36 k36
  have b36:=F36.binds (ps:=["_law_watch", "_law_kind", "_law_thing"]) fun _ _ _ _ _ _ us hl=>by obtain ⟨_,_,_,rfl⟩:=len3 hl; rfl
  have G__law_refused:=fun base=>fnc l w X G base a36 k36 b36 (ok__law_refused F36 T (G_Watch_look base) (G_Watch_lot base))
  have F37:=fun_mk (st:=s__law_no_back) l37 c37 k37
  have b37:=F37.binds (ps:=["_law_watch"]) fun _ _ _ _ _ _ us hl=>by obtain ⟨_,rfl⟩:=len1 hl; rfl
  have G__law_no_back:=fun base=>fnc l w X G base a37 k37 b37 (ok__law_no_back F37 T (G_Watch_back base))
  have F38:=fun_mk (st:=s__law_tries) l38 c38 k38
  have b38:=F38.binds (ps:=["_law_faces", "_law_place"]) fun _ _ _ _ _ _ us hl=>by obtain ⟨_,_,rfl⟩:=len2 hl; rfl
  have G__law_tries:=fun base=>fnc l w X G base a38 k38 b38 (ok__law_tries F38 T (G__law_due base))
  have F39:=fun_mk (st:=s_law) l39 c39 k39
  exact ⟨_,fun s v=>.of_eq rfl,fun base _ _=>ok_law F39 T (G__law_tape base) (G__law_pick base) (G__law_sizes base) (G__law_rule base) (G_Watch___init__ base) (G__law_no_back base) (G__law_stand base) (G__law_tries base) (G__law_refused base) (G__law_watch_right base) (G__law_lot base) (G_Watch_lot base) (G_Watch_look base) (G_Watch_back base)⟩
end Kw
namespace PySem.W.Fast
def tw3711940742816390134 := ()
def tw17060805564695655500 := ()
def tw3224605227656586498 := ()
def tw8890933108068938203 := ()
def tw285899966176815665 := ()
def tw11691196445144311690 := ()
def tw6025126727129453232 := ()
def tw5196230572201215088 := ()
def tw14842730657964874698 := ()
def tw2857201125650507530 := ()
def tw12761967186882961761 := ()
def tw7942049569948923804 := ()
def tw8609733992493554125 := ()
def tw15576053780267365352 := ()
def tw15577854623610060275 := ()
def tw8049906079714813645 := ()
def tw9216600829443401822 := ()
def tw1687932583428587831 := ()
def tw9560058986355386803 := ()
def tw12428054292588861207 := ()
def tw1358000704674380318 := ()
def tw2571701347783737518 := ()
def tw16116378895145402263 := ()
def tw828967682268519611 := ()
def tw17677635052520698356 := ()
def tw10344819894127636985 := ()
def tw7455964246846045639 := ()
def tw9147709444902338089 := ()
def tw5883841080004987516 := ()
def tw4769919466226062924 := ()
def tw16724071967468485406 := ()
def tw12150735067540579669 := ()
def tw18374230375265066287 := ()
def tw17840728867204665330 := ()
end PySem.W.Fast
open PySem PySem.W PyProof.Rows
set_option maxRecDepth 100000 in
set_option maxHeartbeats 0 in
theorem PySem.Challenge.cw_earlystop_k34_watches_refuse_holds : PySem.Challenge.rw_earlystop_k34_watches_refuse.Holds := by
  w_on; o_law; k_head; (case hw=>w_witness2)
  k_fill
  refine L2.walk_ofK (l:=PySem.Challenge.rw_earlystop_k34_watches_refuse) (n:=63) (k:=6) (x := "_law_script") (CX:=L2.CX0) (sp:=fun K=>Kw.sp_law K) rfl (by decide) rfl ⟨rfl,by decide,by decide,rfl⟩ (fun w h Y=>PySem.W.kIn_of Y) ?F (fun K H a ns hl _ hS=>Kw.sp_law_i hS hl) (fun _ _ _ _ z=>z)
  case F =>
    intro w mg fa h KX G hmg
    refine' Kw.all_mk KX G hmg ?u_EarlyError ?u_NoTrial ?u_NoRule ?u_NoBounds ?u_NoLook ?u_NoPaper ?u_NoLines ?u_NoFraction ?u_NoOrder ?u_NoBack ?u_NoRow ?u_ONE ?u_Watch ?u_LOOKS_ON ?mi_Watch ?pg_Watch ?hd_Watch ?po_Watch ?sa_Watch ?n0_Watch ?n1_Watch ?n2_Watch ?n3_Watch ?x_NoBack ?ga_NoBack ?gt_NoBack ?su_NoBack ?cl_NoBack ?kc_NoBack ?kg_NoBack ?kt_NoBack ?ob_NoBack ?ty_NoLook ?cm_NoLook ?sb_NoLook ?ty_NoBack ?cm_NoBack ?sb_NoBack ?t0 ?t1 ?t2 ?t3 ?t4 ?y1 ?y2 ?y3 ?y4 ?y5 ?o_ONE ?a0 ?l0 ?c0 ?k0 ?fn0 ?kp0 ?a1 ?l1 ?c1 ?k1 ?a2 ?l2 ?c2 ?k2 ?a3 ?l3 ?c3 ?k3 ?a4 ?l4 ?c4 ?k4 ?a5 ?l5 ?c5 ?k5 ?a6 ?l6 ?c6 ?k6 ?a7 ?l7 ?c7 ?k7 ?a8 ?l8 ?c8 ?k8 ?a9 ?l9 ?c9 ?k9 ?a10 ?l10 ?c10 ?k10 ?a11 ?l11 ?c11 ?k11 ?a12 ?l12 ?c12 ?k12 ?fn12 ?kp12 ?a13 ?l13 ?c13 ?k13 ?fn13 ?kp13 ?a14 ?l14 ?c14 ?k14 ?fn14 ?kp14 ?a15 ?l15 ?c15 ?k15 ?fn15 ?kp15 ?a16 ?l16 ?c16 ?k16 ?fn16 ?kp16 ?a17 ?l17 ?c17 ?k17 ?fn17 ?kp17 ?a18 ?l18 ?c18 ?k18 ?fn18 ?kp18 ?a19 ?l19 ?c19 ?k19 ?fn19 ?kp19 ?a20 ?l20 ?c20 ?k20 ?fn20 ?kp20 ?a21 ?l21 ?c21 ?k21 ?fn21 ?kp21 ?a22 ?l22 ?c22 ?k22 ?a23 ?l23 ?c23 ?k23 ?a24 ?l24 ?c24 ?k24 ?a25 ?l25 ?c25 ?k25 ?a26 ?l26 ?c26 ?k26 ?a27 ?l27 ?c27 ?k27 ?a28 ?l28 ?c28 ?k28 ?a29 ?l29 ?c29 ?k29 ?a30 ?l30 ?c30 ?k30 ?a31 ?l31 ?c31 ?k31 ?a32 ?l32 ?c32 ?k32 ?a33 ?l33 ?c33 ?k33 ?a34 ?l34 ?c34 ?k34 ?a35 ?l35 ?c35 ?k35 ?a36 ?l36 ?c36 ?k36 ?a37 ?l37 ?c37 ?k37 ?a38 ?l38 ?c38 ?k38 ?a39 ?l39 ?c39 ?k39 ?z0 ?z1 ?z2 ?z3 ?z4 ?z5 ?z6 ?z7 ?z8 ?z9 ?z10 ?z11 ?z12 ?z13 ?z14
    (case u_EarlyError=>k_is); (case u_NoTrial=>k_is); (case u_NoRule=>k_is); (case u_NoBounds=>k_is); (case u_NoLook=>k_is); (case u_NoPaper=>k_is); (case u_NoLines=>k_is); (case u_NoFraction=>k_is); (case u_NoOrder=>k_is); (case u_NoBack=>k_is); (case u_NoRow=>k_is); (case u_ONE=>k_is); (case u_Watch=>k_is); (case u_LOOKS_ON=>k_is); (case mi_Watch=>k_is); (case pg_Watch=>k_is); (case hd_Watch=>k_is); (case po_Watch=>k_is); (case sa_Watch=>k_is); (case n0_Watch=>k_is); (case n1_Watch=>k_is); (case n2_Watch=>k_is); (case n3_Watch=>k_is); (case x_NoBack=>k_exc); (case ga_NoBack=>k_is); (case gt_NoBack=>k_is); (case su_NoBack=>k_is); (case cl_NoBack=>k_is); (case kc_NoBack=>k_is); (case kg_NoBack=>k_is); (case kt_NoBack=>k_is); (case ob_NoBack=>k_is); (case ty_NoLook=>k_is); (case cm_NoLook=>k_is); (case sb_NoLook=>k_is); (case ty_NoBack=>k_is); (case cm_NoBack=>k_is); (case sb_NoBack=>k_is); (case t0=>kernel_rfl); (case t1=>kernel_rfl); (case t2=>kernel_rfl); (case t3=>k_is); (case t4=>k_is); (case y1=>kit_is); (case y2=>kit_is); (case y3=>kit_is); (case y4=>kit_is); (case y5=>kit_is); (case o_ONE=>kernel_rfl); (case a0=>k_is); (case l0=>k_is); (case c0=>k_is); (case k0=>k_is); (case fn0=>k_is); (case kp0=>k_is); (case a1=>k_is); (case l1=>k_is); (case c1=>k_is); (case k1=>k_is); (case a2=>k_is); (case l2=>k_is); (case c2=>k_is); (case k2=>k_is); (case a3=>k_is); (case l3=>k_is); (case c3=>k_is); (case k3=>k_is); (case a4=>k_is); (case l4=>k_is); (case c4=>k_is); (case k4=>k_is); (case a5=>k_is); (case l5=>k_is); (case c5=>k_is); (case k5=>k_is); (case a6=>k_is); (case l6=>k_is); (case c6=>k_is); (case k6=>k_is); (case a7=>k_is); (case l7=>k_is); (case c7=>k_is); (case k7=>k_is); (case a8=>k_is); (case l8=>k_is); (case c8=>k_is); (case k8=>k_is); (case a9=>k_is); (case l9=>k_is); (case c9=>k_is); (case k9=>k_is); (case a10=>k_is); (case l10=>k_is); (case c10=>k_is); (case k10=>k_is); (case a11=>k_is); (case l11=>k_is); (case c11=>k_is); (case k11=>k_is); (case a12=>k_is); (case l12=>k_is); (case c12=>k_is); (case k12=>k_is); (case fn12=>k_is); (case kp12=>k_is); (case a13=>k_is); (case l13=>k_is); (case c13=>k_is); (case k13=>k_is); (case fn13=>k_is); (case kp13=>k_is); (case a14=>k_is); (case l14=>k_is); (case c14=>k_is); (case k14=>k_is); (case fn14=>k_is); (case kp14=>k_is); (case a15=>k_is); (case l15=>k_is); (case c15=>k_is); (case k15=>k_is); (case fn15=>k_is); (case kp15=>k_is); (case a16=>k_is); (case l16=>k_is); (case c16=>k_is); (case k16=>k_is); (case fn16=>k_is); (case kp16=>k_is); (case a17=>k_is); (case l17=>k_is); (case c17=>k_is); (case k17=>k_is); (case fn17=>k_is); (case kp17=>k_is); (case a18=>k_is); (case l18=>k_is); (case c18=>k_is); (case k18=>k_is); (case fn18=>k_is); (case kp18=>k_is); (case a19=>k_is); (case l19=>k_is); (case c19=>k_is); (case k19=>k_is); (case fn19=>k_is); (case kp19=>k_is); (case a20=>k_is); (case l20=>k_is); (case c20=>k_is); (case k20=>k_is); (case fn20=>k_is); (case kp20=>k_is); (case a21=>k_is); (case l21=>k_is); (case c21=>k_is); (case k21=>k_is); (case fn21=>k_is); (case kp21=>k_is); (case a22=>k_is); (case l22=>k_is); (case c22=>k_is); (case k22=>k_is); (case a23=>k_is); (case l23=>k_is); (case c23=>k_is); (case k23=>k_is); (case a24=>k_is); (case l24=>k_is); (case c24=>k_is); (case k24=>k_is); (case a25=>k_is); (case l25=>k_is); (case c25=>k_is); (case k25=>k_is); (case a26=>k_is); (case l26=>k_is); (case c26=>k_is); (case k26=>k_is); (case a27=>k_is); (case l27=>k_is); (case c27=>k_is); (case k27=>k_is); (case a28=>k_is); (case l28=>k_is); (case c28=>k_is); (case k28=>k_is); (case a29=>k_is); (case l29=>k_is); (case c29=>k_is); (case k29=>k_is); (case a30=>k_is); (case l30=>k_is); (case c30=>k_is); (case k30=>k_is); (case a31=>k_is); (case l31=>k_is); (case c31=>k_is); (case k31=>k_is); (case a32=>k_is); (case l32=>k_is); (case c32=>k_is); (case k32=>k_is); (case a33=>k_is); (case l33=>k_is); (case c33=>k_is); (case k33=>k_is); (case a34=>k_is); (case l34=>k_is); (case c34=>k_is); (case k34=>k_is); (case a35=>k_is); (case l35=>k_is); (case c35=>k_is); (case k35=>k_is); (case a36=>k_is); (case l36=>k_is); (case c36=>k_is); (case k36=>k_is); (case a37=>k_is); (case l37=>k_is); (case c37=>k_is); (case k37=>k_is); (case a38=>k_is); (case l38=>k_is); (case c38=>k_is); (case k38=>k_is); (case a39=>k_is); (case l39=>k_is); (case c39=>k_is); (case k39=>k_is); (case z0=>k_is); (case z1=>k_is); (case z2=>k_is); (case z3=>k_is); (case z4=>k_is); (case z5=>k_is); (case z6=>k_is); (case z7=>k_is); (case z8=>k_is); (case z9=>k_is); (case z10=>k_is); (case z11=>k_is); (case z12=>k_is); (case z13=>k_is); (case z14=>k_is)
