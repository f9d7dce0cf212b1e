import PyProof.Rows.All
import Wide.All
import OpenK.AllK
import Wide.FinOn
import Lean
import PyProof.EqAt
import PyProof.EqKinds
import PyProof.TupleCall
import KE.IntBitsLaws
import PyProof.ZipIter
import PyProof.ListMulRoad
import PyProof.AutoListH
import PyProof.Rows.SeqMore
import PyProof.Rows.SumAny
import PyProof.SliceStr2
import PyProof.WalksMore
import KE.KSortTup
import PyProof.AttrMissHeap
import PyProof.TupleIter
import KE.KDictOf
import PyProof.DictWalks
import PyProof.DictValues
import KE.KDictList
import PyProof.Rows.MinMaxN
import PyProof.Rows.TupDisplay
import PyProof.DictTruth
import PyProof.Rows.SortRev
import PyProof.Rows.CallKwBuiltin
import PyProof.EnumMake
import PyProof.Rows.StrJoin2
import PyProof.StrBlockG
import PyProof.Rows.Digits
import PyProof.Rows.StrOr
import PyProof.StrCalls2
import PyProof.StrBlock2
import KE.KIntText
import KE.KRevIter
import KE.LcSums
import PyProof.StationsW
import PyProof.Rows.CatchBare
import OpenK.KRaise
import KE.KIsAll
import OpenK.KOwn
import PyProof.ExcInit
import Wide.Seal
import PyProof.P3Eq
import PyProof.Claim2Refuses
import KE.KEqDict
import PyProof.DictItems
import KE.KPairComp
import PySem.Challenge.RW_earlystop_k77_whole_side_by_side
set_option Elab.async false
set_option linter.all false
set_option maxHeartbeats 0
set_option maxRecDepth 100000
abbrev KFr:=PySem.W.Frag
theorem Oo{p:Prop}(h:p:=by omega):p:=h
theorem Dd{p:Prop}(h:p:=by decide):p:=h
theorem Kk{p:Prop}(h:p:=by decide +kernel):p:=h
namespace PySem
abbrev aB:=@List.length_map
abbrev aC:=@List.getElem?_eq_getElem
abbrev aD:=@Heap.get?_push_of_some
abbrev aE:=@Nat.le_refl
abbrev aG:=@List.mem_cons_of_mem
abbrev aI:=@List.getElem?_map
abbrev aK:=@List.getD_eq_getElem?_getD
abbrev aO:=@List.getElem?_eq_some_iff
abbrev aQ:=@List.mem_cons_self
abbrev aR:=@List.mem_of_getElem?
abbrev aT:=@List.mem_map
abbrev aV:=@List.length_append
abbrev aX:=@Heap.get?_push_size
abbrev aY:=@Nat.lt_of_le_of_lt
abbrev aZ:=@Nat.le_trans
abbrev bC:=@Heap.lt_size
abbrev bD:=@Nat.pow_le_pow_right
abbrev bE:=@List.mem_cons
abbrev bF:=@List.map_cons
abbrev bH:=@Nat.lt_of_lt_of_le
abbrev bI:=@List.size_toArray
abbrev bP:=@List.take_length
abbrev bQ:=@Bool.false_ne_true
abbrev bT:=@List.mem_range
abbrev bU:=@decide_eq_false
abbrev bW:=@List.mem_append_right
abbrev bZ:=@List.map_append
abbrev cA:=@List.mem_append_left
abbrev cB:=@List.length_take
abbrev cC:=@Nat.zero_le
abbrev cF:=@List.mem_singleton
abbrev cG:=@decide_eq_true
abbrev cH:=@Nat.lt_irrefl
abbrev cM:=@Bool.and_eq_true
abbrev cR:=@List.length_range
abbrev cS:=@Nat.mul_le_mul_right
abbrev cT:=@Rat.mul_nonneg
abbrev cU:=@List.mem_iff_getElem?
abbrev cV:=@List.getElem?_eq_none
abbrev dB:=@List.length_cons
abbrev dC:=@Option.some.inj
abbrev dH:=@Nat.ne_of_lt
abbrev dQ:=@Classical.byContradiction
abbrev dZ:=@List.length_replicate
abbrev eB:=@Nat.mul_le_mul_left
abbrev eC:=@List.map_congr_left
abbrev eJ:=@Option.map_eq_some_iff
abbrev eM:=@List.mem_append
abbrev eN:=@List.getElem?_range
abbrev eR:=@List.getElem?_append_right
abbrev eY:=@List.getElem?_append_left
abbrev gF:=@List.mem_filter
abbrev gZ:=@Int.natAbs_mul
abbrev iD:=@List.take_add_one
abbrev iU:=@Heap.size_push
abbrev kM:=@Nat.mul_pos
end PySem
open PySem
namespace L2
open PySem PySem.Spec PyProof.Rows
abbrev iC:=Sum Int Str
def AV:iC->Value->Bool
 | .inl k,v=>Value.isInt k v
 | .inr x,v=>Value.isStrOf x v
def aFN(w:World):iC->Int
 | .inl k=>hashInt k
 | .inr x=>hashStr w x
theorem gC:∀{k:iC}{v:Value},AV k v=true->(∃i t,k=Sum.inl i/\v=Value.int i t)\/(∃x t,k=Sum.inr x/\v=Value.str x t)
 | .inl i,v,h=>by
  obtain ⟨t,e⟩:=Value.isInt_shape (k:=i) (v:=v) h;exact .inl ⟨i,t,rfl,e⟩
 | .inr x,v,h=>by
  obtain ⟨t,e⟩:=Value.isStrOf_shape (x:=x) (v:=v) h;exact .inr ⟨x,t,rfl,e⟩
theorem OX(i:Int)(t:Tok):AV (.inl i) (.int i t)=true:=by simp [AV,Value.isInt]
theorem OW(x:Str)(t:Tok):AV (.inr x) (.str x t)=true:=by simp [AV,Value.isStrOf]
theorem aCE(a b:Int):decide ((Sum.inl a:iC)=Sum.inl b)=(a == b):=by
 by_cases e:a=b
 ·subst e;simp
 ·have h:¬(Sum.inl a:iC)=Sum.inl b:=λq=>e (Sum.inl.inj q);rw [bU h];exact (beq_eq_false_iff_ne.mpr e).symm
theorem aCB(a b:Str):decide ((Sum.inr a:iC)=Sum.inr b)=decide (a=b):=by
 by_cases e:a=b
 ·subst e;simp
 ·have h:¬(Sum.inr a:iC)=Sum.inr b:=λq=>e (Sum.inr.inj q);rw [bU h,bU e]
theorem aCD(a:Int)(b:Str):decide ((Sum.inl a:iC)=Sum.inr b)=false:=bU (λq=>nomatch q)
theorem aCC(a:Str)(b:Int):decide ((Sum.inr a:iC)=Sum.inl b)=false:=bU (λq=>nomatch q)
def gB(prog:Program)(w:World):PySem.KeyKind prog w iC where
 is:=AV
 hash:=aFN w
 inj:=λv a b ha hb=>by
  rcases gC ha with ⟨i,t,rfl,rfl⟩ | ⟨x,t,rfl,rfl⟩
  ·rcases gC hb with ⟨j,u,rfl,e⟩ | ⟨y,u,rfl,e⟩
   ·injection e with e1 _;rw [e1]
   ·exact nomatch e
  ·rcases gC hb with ⟨j,u,rfl,e⟩ | ⟨y,u,rfl,e⟩
   ·exact nomatch e
   ·injection e with e1 _;rw [e1]
 byValue:=λk v h=>by
  rcases gC h with ⟨i,t,rfl,rfl⟩ | ⟨x,t,rfl,rfl⟩ <;> rfl
 pyHash:=λhv h=>by
  rcases gC hv with ⟨i,t,rfl,rfl⟩ | ⟨x,t,rfl,rfl⟩
  ·exact wpAny_pyHash_int h
  ·exact wpAny_pyHash_str h
 eqBool:=λhu hv h=>by
  rcases gC hu with ⟨i,t,rfl,rfl⟩ | ⟨x,t,rfl,rfl⟩
  ·rcases gC hv with ⟨j,u,rfl,rfl⟩ | ⟨y,u,rfl,rfl⟩
   ·rw [aCE] at h;exact wpAny_eqBool_int h
   ·rw [aCD] at h;exact SeqAt.EqAt.int_str i t y u _ _ _ _ h
  ·rcases gC hv with ⟨j,u,rfl,rfl⟩ | ⟨y,u,rfl,rfl⟩
   ·rw [aCC] at h;exact SeqAt.EqAt.str_int x t j u _ _ _ _ h
   ·rw [aCB] at h;exact wpAny_eqBool_str h
 «strs» := λk x t v h=>by
  rcases gC h with ⟨i,u,rfl,e⟩ | ⟨y,u,rfl,e⟩
  ·exact nomatch e
  ·injection e with e1 _;subst e1;cases v <;> rfl
theorem GD(prog:Program)(w:World)(i:Int)(t:Tok):(gB prog w).is (.inl i) (.int i t)=true:=OX i t
theorem GC(prog:Program)(w:World)(x:Str)(t:Tok):(gB prog w).is (.inr x) (.str x t)=true:=OW x t
inductive V where
 | non | bl (b:Bool) | int (i:Int) | str (x:Str) | byt (b:Array UInt8) | flt (b:UInt64) | ref (a:Addr) | ty (n:String)
 deriving DecidableEq
def eI:V->Value->Prop
 | .non,u=>u=Value.none
 | .bl b,u=>u=Value.bool b
 | .int i,u=>∃t,u=Value.int i t
 | .str x,u=>∃t,u=Value.str x t
 | .byt b,u=>∃t,u=Value.bytes b t
 | .flt b,u=>∃t,u=Value.float b t
 | .ref a,u=>u=Value.ref a
 | .ty n,u=>u=Value.type n
abbrev eE:List V->List Value->Prop:=Paired eI
theorem eE.length{xs:List V}{us:List Value}(r:eE xs us):xs.length=us.length:=Paired.length r
theorem eE.get:∀{xs:List V}{us:List Value}{i:Nat}{x:V},eE xs us->xs[i]?=some x->∃u,us[i]?=some u/\eI x u
 | _,_,_,_,.nil,e=>by simp at e
 | _,_,0,_,.cons r _,e=>by simp at e;subst e;exact ⟨_,rfl,r⟩
 | _,_,i+1,x,.cons _ t,e=>by
  obtain ⟨u,h1,h2⟩:=eE.get (i:=i) (x:=x) t (by simpa using e);exact ⟨u,by simpa using h1,h2⟩
theorem eE.set{x:V}{u:Value}(r:eI x u):∀{xs:List V}{us:List Value}(i:Nat),eE xs us->eE (xs.set i x) (us.set i u)
 | _,_,_,.nil=>.nil
 | _,_,0,.cons _ t=>.cons r t
 | _,_,i+1,.cons q t=>.cons q (eE.set r i t)
theorem eE.append:∀{xs ys:List V}{us ws:List Value},eE xs us->eE ys ws->eE (xs++ys) (us++ws)
 | _,_,_,_,.nil,s=>s
 | _,_,_,_,.cons r t,s=>.cons r (eE.append t s)
theorem eE.take:∀{xs:List V}{us:List Value}(n:Nat),eE xs us->eE (xs.take n) (us.take n)
 | _,_,0,_=>.nil
 | _,_,_+1,.nil=>.nil
 | _,_,n+1,.cons r t=>.cons r (eE.take n t)
theorem eE.drop:∀{xs:List V}{us:List Value}(n:Nat),eE xs us->eE (xs.drop n) (us.drop n)
 | _,_,0,r=>r
 | _,_,_+1,.nil=>.nil
 | _,_,n+1,.cons _ t=>eE.drop n t
def vM:Option V->Option Value->Prop
 | some v,some u=>eI v u
 | none,none=>True
 | _,_=>False
def KV{κ:Type}:List (κ × V)->List (κ × Value)->Prop:=Paired λ(p:κ × V) (q:κ × Value)=>p.1=q.1/\eI p.2 q.2
def kV:iC->V
 | .inl i=>.int i
 | .inr x=>.str x
inductive HO where
 /-- a list -/
 | lst (xs:List V)
 /-- a tuple (never changes) -/
 | tup (xs:List V)
 /-- a dict whose keys are ints and texts;one whose keys are tuples of ints and texts (the empty one is both) -/
 | dK (kvs:List (iC × V)) | dT (kvs:List (List iC × V))
 /-- a set of ints: its members,its size -/
 | set (S:Int->Bool) (n:Nat)
 /-- an instance of the class at C,its dict at dx,its attributes -/
 | ins (C dx:Addr) (fs:List (Str × V))
 /-- the dict of the instance at x -/
 | own (x:Addr)
 /-- the dict of an exception -/
 | xd (fs:List (Str × V))
 /-- a bound method,f of x -/
 | met (f x:Addr)
 /-- a range object lo,lo+1,.. below hi -/
 | rng (lo hi:Int)
 /-- a thing that is known to the object (the script;a dict while a loop walks it): read,never written while it is so -/
 | frz (o:Obj) (u:HO)
 /-- a code object's table -/
 | tbl (ps:Array Value)
 /-- any other thing,by what is true of its one object (a def of one's own: SetO a S n:=HO.ext λh=>..) -/
 | ext (φ:Heap->Prop)
abbrev Hp:=Addr->Option HO
def upd(H:Hp)(a:Addr)(o:HO):Hp:=λb=>if b=a then some o else H b
theorem bL{H:Hp}{a:Addr}{o:HO}:upd H a o a=some o:=by unfold upd;rw [if_pos rfl]
theorem eG{H:Hp}{a b:Addr}{o:HO}(h:b≠a):upd H a o b=H b:=by unfold upd;rw [if_neg h]
theorem LS{H:Hp}{a b:Addr}{o u:HO}(h:H a=some o)(h':H b=some u)(d:o≠u):a≠b:=by
 intro e;subst e;rw [h] at h';exact d (dC h')
theorem cY{H:Hp}{a b:Addr}{o:HO}(h:H a=some o)(h':H b=none):a≠b:=by
 intro e;subst e;rw [h] at h';cases h'
section
variable(P:Program)(w:World)
def fA(H:Hp)(h:Heap)(a:Addr):HO->Prop
 | .lst xs=>xs.length<=sizeLine/\∃(its:List Value) (n:Nat),eE xs its/\h.get? a=some { cls:=.type "list",data:=.seq its.toArray n }
 | .tup xs=>(xs.length<=sizeLine/\∃o,h.get? a=some o/\o.dict=none)/\∃its:List Value,eE xs its/\IsTup h a its.toArray
 | .dK kvs=>kvs.length<=sizeLine/\(a == sysModules)=false/\∃vs,KV kvs vs/\h.DictOf (gB P w) a vs
 | .dT kvs=>kvs.length<=sizeLine/\(a == sysModules)=false/\∃xs:List (List iC × Addr × Value),
   Paired (λ(p:List iC × V) (q:List iC × Addr × Value)=>p.1=q.1/\H q.2.1=some (.tup (p.1.map kV))/\eI p.2 q.2.2) kvs xs /\
   ∃o es ep,h.get? a=some o/\o.ExactDict/\o.data=.dict es ep/\es.toList=xs.map (entryOfKey (tupleKind (gB P w)))/\(xs.map (·.1)).Nodup
 | .set S n=>h.SetOf (intKind P w) a S n
 | .ins C dx fs=>H dx=some (.own a)/\fs.length<=1000/\dx≠a/\h.get? a=some (PySem.W.instObj C dx) /\
   ∃mA,h.Ns1 dx mA/\(∀f,vM (fs.lookup f) (mA f))/\PySem.Within mA (fs.map (·.1))
 | .own _=>∃o,h.get? a=some o
 | .xd fs=>∃mA,h.Ns1 a mA/\∀f,vM (fs.lookup f) (mA f)
 | .rng lo hi=>∃t u v,h.get? a=some { cls:=.type "range",data:=.fields #[.int lo t,.int hi u,.int 1 v] }
 | .frz o u=>h.get? a=some o/\fA H h a u
 | .tbl ps=>h.get? a=some { cls:=.none,data:=.fields ps }
 | .met f x=>h.get? a=some (PySem.W.methodObj (.ref f) (.ref x))
 | .ext φ=>φ h/\(∃o,h.get? a=some o)/\∀h1 h2:Heap,φ h1->(∀o,h1.get? a=some o->h2.get? a=some o)->φ h2
def pG(H:Hp)(h:Heap):Prop:=∀a o,H a=some o->fA P w H h a o
end
section
variable{P:Program}{w:World}{H H':Hp}{h h':Heap}{a:Addr}{o:HO}
theorem fA.lt(x:fA P w H h a o):a<h.objs.size:=by
 cases o with
 | lst xs=>obtain ⟨_,_,_,_,e⟩:=x;exact bC e
 | tup xs=>obtain ⟨_,_,_,p⟩:=x;exact p.lt
 | dK kvs=>obtain ⟨_,_,_,_,o,_,_,e,_⟩:=x;exact bC e
 | dT kvs=>obtain ⟨_,_,_,_,o,_,_,e,_⟩:=x;exact bC e
 | set S n=>obtain ⟨o,_,_,_,e,_⟩:=x;exact bC e
 | ins C dx fs=>obtain ⟨_,_,_,e,_⟩:=x;exact bC e
 | own y=>obtain ⟨_,e⟩:=x;exact bC e
 | xd fs=>obtain ⟨_,⟨_,_,_,e,_⟩,_⟩:=x;exact bC e
 | rng lo hi=>obtain ⟨_,_,_,e⟩:=x;exact bC e
 | frz ob u=>obtain ⟨e,_⟩:=x;exact bC e
 | tbl ps=>exact bC (show h.get? a=some _ from x)
 | met f y=>exact bC (show h.get? a=some _ from x)
 | ext φ=>obtain ⟨_,⟨_,e⟩,_⟩:=x;exact bC e
theorem Paired.mapP{α β:Type}{F G:α->β->Prop}:∀{l₁:List α}{l₂:List β},Paired F l₁ l₂->(∀a b,F a b->G a b)->Paired G l₁ l₂
 | _,_,.nil,_=>.nil
 | _,_,.cons r t,f=>.cons (f _ _ r) (Paired.mapP t f)
theorem Paired.imp'{α β:Type}{F G:α->β->Prop}(f:∀a b,F a b->G a b){l₁:List α}{l₂:List β}(r:Paired F l₁ l₂):Paired G l₁ l₂:=Paired.mapP r f
theorem fA.stay(x:fA P w H h a o)(k:∀b u,(b=a\/H b=some (.own a))->h.get? b=some u->h'.get? b=some u)
  (ho:∀b,H b=some (.own a)->H' b=some (.own a)) (ht:∀b xs,H b=some (.tup xs)->H' b=some (.tup xs)):fA P w H' h' a o:=by
 induction o with
 | lst xs=>obtain ⟨z,m,n,r,e⟩:=x;exact ⟨z,m,n,r,k _ _ (.inl rfl) e⟩
 | tup xs=>obtain ⟨⟨z,L,J,I⟩,m,r,i,e,c⟩:=x;exact ⟨⟨z,L,k _ _ (.inl rfl) J,I⟩,m,r,i,k _ _ (.inl rfl) e,c⟩
 | dK kvs=>obtain ⟨z,y,G,r,i,l,j,e,c⟩:=x;exact ⟨z,y,G,r,i,l,j,k _ _ (.inl rfl) e,c⟩
 | dT kvs =>
  obtain ⟨z,y,xs,r,i,l,j,e,c⟩:=x;exact ⟨z,y,xs,Paired.mapP r λp q z=>⟨z.1,ht _ _ z.2.1,z.2.2⟩,i,l,j,k _ _ (.inl rfl) e,c⟩
 | set S n=>obtain ⟨i,l,j,t,e,c⟩:=x;exact ⟨i,l,j,t,k _ _ (.inl rfl) e,c⟩
 | ins C dx fs =>
  obtain ⟨d,z,ne,e,s,⟨A,l,j,D,c⟩,r⟩:=x;exact ⟨ho _ d,z,ne,k _ _ (.inl rfl) e,s,⟨A,l,j,k _ _ (.inr d) D,c⟩,r⟩
 | own y=>obtain ⟨i,e⟩:=x;exact ⟨i,k _ _ (.inl rfl) e⟩
 | xd fs=>obtain ⟨s,⟨A,l,j,e,c⟩,r⟩:=x;exact ⟨s,⟨A,l,j,k _ _ (.inl rfl) e,c⟩,r⟩
 | rng lo hi=>obtain ⟨t,u,v,e⟩:=x;exact ⟨t,u,v,k _ _ (.inl rfl) e⟩
 | frz i u ih=>obtain ⟨e,q⟩:=x;exact ⟨k _ _ (.inl rfl) e,ih q⟩
 | tbl ps =>
  have e:h.get? a=some { cls:=.none,data:=.fields ps }:=x;show h'.get? a=some { cls:=.none,data:=.fields ps };exact k a _ (.inl rfl) e
 | met f y =>
  have e:h.get? a=some (PySem.W.methodObj (.ref f) (.ref y)):=x;show h'.get? a=some (PySem.W.methodObj (.ref f) (.ref y));exact k a _ (.inl rfl) e
 | ext φ=>obtain ⟨p,⟨o,e⟩,B⟩:=x;exact ⟨B _ _ p λo q=>k _ _ (.inl rfl) q,⟨o,k _ _ (.inl rfl) e⟩,B⟩
theorem pG.lt(x:pG P w H h)(e:H a=some o):a<h.objs.size:=(x a o e).lt
theorem pG.fresh(x:pG P w H h)(e:h.objs.size<=a):H a=none:=by
 cases q:H a with
 | none=>rfl
 | some u=>exact absurd (bH (x.lt q) e) (cH _)
theorem pG.kept(x:pG P w H h)(k:∀b u,h.get? b=some u->h'.get? b=some u):pG P w H h':=λa o e =>
 (x a o e).stay (λb u _ q=>k b u q) (λ_ q=>q) λ_ _ q=>q
theorem pG.laid(x:pG P w H h)(k:∀b u,h.get? b=some u->h'.get? b=some u)(hp:h.objs.size<=a)(new:fA P w (upd H a o) h' a o):pG P w (upd H a o) h':=λb u e=>by
 have d:=x.fresh hp;by_cases hb:b=a
 ·subst hb;rw [bL] at e;cases e;exact new
 ·rw [eG hb] at e;exact (x b u e).stay (λc v _ q=>k c v q) (λc q=>by rw [eG (cY q d)];exact q) λc i q=>by rw [eG (cY q d)];exact q
end
def Rd(H:Hp)(a:Addr)(u:HO):Prop:=H a=some u\/∃o,H a=some (.frz o u)
theorem Rd.ok{P:Program}{w:World}{H:Hp}{h:Heap}{a:Addr}{u:HO}(r:Rd H a u)(x:pG P w H h):fA P w H h a u:=by
 rcases r with r | ⟨o,r⟩
 ·exact x a u r
 ·obtain ⟨_,q⟩:=x a _ r;exact q
def Mut:Option HO->Prop
 | some (.lst _)=>True
 | some (.dK _)=>True
 | some (.dT _)=>True
 | some (.set _ _)=>True
 | some (.ins _ _ _)=>True
 | some (.ext _)=>True
 | _=>False
section
variable{P:Program}{w:World}{H:Hp}{h h':Heap}{x e:Addr}{o':HO}
theorem pG.write(ok:pG P w H h)(mu:Mut (H x))(he:e=x\/H e=some (.own x))(k:∀b u,b≠e->h.get? b=some u->h'.get? b=some u)(heo:∃u,h'.get? e=some u)
  (new:fA P w (upd H x o') h' x o'):pG P w (upd H x o') h':=λb u q=>by
 have a:∀c y,H c=some (.own y)->c≠x:=λc y r z=>by subst z;rw [r] at mu;exact mu
 have d:∀c j,H c=some (.tup j)->c≠x:=λc j r z=>by subst z;rw [r] at mu;exact mu
 by_cases hb:b=x
 ·subst hb;rw [bL] at q;cases q;exact new
 ·rw [eG hb] at q;by_cases hbe:b=e
  ·have l:H b=some (.own x):=by
    rcases he with z | z
    ·exact absurd (hbe.trans z) hb
    ·rw [hbe];exact z
   rw [q] at l;cases l;obtain ⟨v,m⟩:=heo;exact ⟨v,by rw [hbe];exact m⟩
  ·refine (ok b u q).stay (λc v i r=>k c v ?_ r) (λc r=>by rw [eG (a c b r)];exact r) λc j r=>by rw [eG (d c j r)];exact r
   rcases i with rfl | i
   ·exact hbe
   ·rintro rfl;rcases he with z | z
    ·exact a c b i z
    ·rw [i] at z;cases z;exact hb rfl
end
structure Un(fs ex:List Addr)(H H':Hp)(h h':Heap):Prop where
 keep:∀b o,h.get? b=some o->H b=none->b ∉ fs->b ∉ ex->h'.get? b=some o
 slot:∀b o,h.get? b=some o->H b=none->b∈fs->b ∉ ex->∃sl,h'.get? b=some { o with slots:=sl }
 free:∀b o,h.get? b=some o->H b=none->b ∉ ex->H' b=none
 there:∀b o,h.get? b=some o->b ∉ ex->∃o',h'.get? b=some o'
 tups:∀b xs,H b=some (.tup xs)->H' b=some (.tup xs)
 frzs:∀b o u,H b=some (.frz o u)->H' b=some (.frz o u)
 tbls:∀b ps,H b=some (.tbl ps)->∃more,H' b=some (.tbl (ps++more))
section
variable{fs fs' ex ex':List Addr}{H H1 H2:Hp}{h h1 h2 h':Heap}{a x e:Addr}{o:HO}
theorem Un.any(u:Un fs ex H H1 h h1){b:Addr}{ob:Obj}(q:h.get? b=some ob)(n:H b=none)(hx:b ∉ ex):∃sl,h1.get? b=some { ob with slots:=sl }:=by
 by_cases hb:b∈fs
 ·exact u.slot b ob q n hb hx
 ·exact ⟨ob.slots,u.keep b ob q n hb hx⟩
theorem Un.kept(k:∀b u,h.get? b=some u->h'.get? b=some u):Un fs ex H H h h' :=
 ⟨λb a q _ _ _=>k b a q,λb a q _ _ _=>⟨a.slots,k b a q⟩,λ_ _ _ n _=>n,λb a q _=>⟨a,k b a q⟩,λ_ _ q=>q,λ_ _ _ q=>q,λ_ c q=>⟨#[],by rw [q];simp⟩⟩
theorem Un.refl:Un fs ex H H h h:=Un.kept λ_ _ q=>q
theorem Un.laid(k:∀b u,h.get? b=some u->h'.get? b=some u)(hp:h.objs.size<=a)(hn:H a=none):Un fs ex H (upd H a o) h h' where
 keep:=λb u q _ _ _=>k b u q
 slot:=λb u q _ _ _=>⟨u.slots,k b u q⟩
 free:=λb u q n _=>by rw [eG (dH (bH (bC q) hp))];exact n
 there:=λb u q _=>⟨u,k b u q⟩
 tups:=λb c q=>by rw [eG (cY q hn)];exact q
 frzs:=λb u c q=>by rw [eG (cY q hn)];exact q
 tbls:=λb d q=>⟨#[],by rw [eG (cY q hn),q];simp⟩
theorem Un.write(mu:Mut (H x))(he:e=x\/H e=some (.own x))(k:∀b u,b≠e->h.get? b=some u->h'.get? b=some u)(heo:∃u,h'.get? e=some u):Un fs ex H (upd H x o) h h':=by
 have d:∀b,H b=none->b≠x:=λb n z=>by subst z;rw [n] at mu;exact mu
 have c:∀b,H b=none->b≠e:=λb n z=>by
  subst z;rcases he with r | r
  ·exact d b n r
  ·rw [n] at r;cases r
 have a:∀b u,H b=some u->¬Mut (some u)->b≠x:=λb u q i z=>by subst z;rw [q] at mu;exact i mu
 refine ⟨λb u q n _ _=>k b u (c b n) q,λb u q n _ _=>⟨u.slots,k b u (c b n) q⟩,λb u q n _=>by rw [eG (d b n)];exact n,λb u q _=>?_,
  λb j q=>by rw [eG (a b _ q λz=>z)];exact q,λb u j q=>by rw [eG (a b _ q λz=>z)];exact q,λb l q=>⟨#[],by rw [eG (a b _ q λz=>z),q];simp⟩⟩
 by_cases hbe:b=e
 ·subst hbe;exact heo
 ·exact ⟨u,k b u hbe q⟩
end
def trk(h:Heap)(H:Hp):List Addr:=(List.range h.objs.size).filter λa=>(H a).isSome
def DU(h:Heap)(H:Hp):Heap:=PySem.W.hideAll h (trk h H)
theorem OZ(h:Heap)(H:Hp):(DU h H).objs.size=h.objs.size:=PySem.W.hideAll_size _ _
theorem UN{h:Heap}{H:Hp}{b:Addr}{o:Obj}(e:h.get? b=some o)(n:H b=none):(DU h H).get? b=some o :=
 PySem.W.hideAll_get _ e λa=>by
  have q:(H b).isSome=true:=(gF.mp a).2;rw [n] at q;simp at q
theorem ZC{h:Heap}{H:Hp}{b:Addr}{o:Obj}(e:(DU h H).get? b=some o):h.get? b=some o/\H b=none:=by
 have a:h.get? b=some o:=PySem.W.of_hideAll (trk h H) e;refine ⟨a,?_⟩;cases q:H b with
 | none=>rfl
 | some x =>
  have c:b∈trk h H:=gF.mpr ⟨bT.mpr (bC a),by simp [q]⟩;have z:(DU h H).get? b=none:=PySem.W.hideAll_none (trk h H) c;rw [z] at e;cases e
structure Mod(K:KFr)(mg:Str->Option Value)(base:Heap):Prop where
 kin:K.In base
 glob:base.Ns mainGlobals mg
 blt:∃mb,base.Ns builtinsNs mb/\∀x:Str,x ≠ "__name__" -> mb x=bootBuiltins x
 nolimit:base.NoLimit
/-- the context: a def's body (or a comprehension's block) running. base: fixed through the whole law;s₀,H₀: the entry;outer: the frames whose slots others may change (a def's callers);stack: all frames that run;
   ex: iterators that were made ahead of the entry and are walked here (a comprehension's);fn: the names whose cells were made at the entry (a def: all;a comprehension's block: its own);calm: not within an except suite;pn: pins that every state bears;xe: what is wanted of an exception that leaves the code -/
structure Cx where
 prog:Program
 w:World
 K:KFr
 mg:Str->Option Value
 base:Heap
 A:Around
 N:List Str
 s₀:Shared
 H₀:Hp
 env:Env
 outer:List Env
 stack:List Env
 ex:List Addr
 fn:Str->Bool
 calm:Bool
 pn:List (Addr × Obj)
 xe:Value->Shared->Prop
def frs(l:List Env):List Addr:=l.filterMap (·.frame)
abbrev Cx.fs(X:Cx):List Addr:=frs X.outer
def Vis(sc:Scope)(x:Str):Prop:=sc.names.lookup x=some .local\/sc.names.lookup x=some .cell\/sc.names.lookup x=some .free
def Loc(sc:Scope)(x:Str):Prop:=sc.names.lookup x=some .local\/sc.names.lookup x=some .cell
def aGe(env:Env)(h:Heap)(m:Str->Option Value)(x:Str)(u:Value):Prop :=
 (env.kindOf x=some .local/\m x=some u)\/((env.kindOf x=some .cell\/env.kindOf x=some .free)/\∃c,env.cells.lookup x=some c/\h.IsCell c (some u))
structure Cx.Ok(X:Cx):Prop where
 mod:Mod X.K X.mg X.base
 kind:X.env.scope.kind=.function
 glob:X.env.globals=mainGlobals
 blt:X.env.builtins=builtinsNs
 above:X.s₀.heap.objs.size<=X.env.locals
 inj:∀x y c,X.env.cells.lookup x=some c->X.env.cells.lookup y=some c->x=y
 has:∀x,(X.env.kindOf x=some .cell\/X.env.kindOf x=some .free)->∃c,X.env.cells.lookup x=some c
 cab:∀x c,X.fn x=true->X.env.cells.lookup x=some c->X.s₀.heap.objs.size<=c
 hd:X.calm=true->X.A.handled=none
 frames:X.A.frames=some X.stack
 stk:X.stack=X.outer\/(X.stack=X.env::X.outer/\X.env.frame=some X.env.locals)
 exf:∀b∈X.ex,b≠X.env.locals/\∀x c,X.env.cells.lookup x=some c->c≠b
 bs:∀b o,X.base.get? b=some o->X.s₀.heap.get? b=some o/\X.H₀ b=none
 bsz:X.base.objs.size<=X.s₀.heap.objs.size
 noex:∀b o,X.base.get? b=some o->b ∉ X.ex
 exfs:∀b∈X.ex,b ∉ X.fs
 funs:X.s₀.heap.FunFrames X.base X.outer
 frf:∀b∈X.fs,X.H₀ b=none
structure cO(X:Cx)(pins:List (Addr × Obj))(σ:List (Option V))(H:Hp)(s:Shared):Prop where
 ok:X.Ok
 os:s.os=X.s₀.os
 bare:AllBare s.gens
 base:Un X.fs X.ex X.H₀ H X.s₀.heap s.heap
 loc:∃m,s.heap.Ns X.env.locals m/\∀(i:Nat) (x:Str) (v:V),X.N[i]?=some x->σ[i]?=some (some v)->Vis X.env.scope x->∃u,eI v u/\aGe X.env s.heap m x u
 cell:∀x c,X.env.cells.lookup x=some c->∃v,s.heap.IsCell c v
 free:H X.env.locals=none
 freeC:∀x c,X.env.cells.lookup x=some c->H c=none
 pin:∀p∈X.pn++pins,s.heap.get? p.1=some p.2/\H p.1=none/\p.1≠X.env.locals/\p.1 ∉ X.fs/\∀v,p.2.data ≠ .cell v
 hok:pG X.prog X.w H s.heap
 len:σ.length=X.N.length
section
variable{X:Cx}{pins:List (Addr × Obj)}{σ:List (Option V)}{H H':Hp}{s:Shared}{h':Heap}
theorem Cx.Ok.nofr(ok:X.Ok){b:Addr}{o:Obj}(e:X.base.get? b=some o):b ∉ X.fs:=λa=>by
 have:=(ok.funs.mem a).1;rw [e] at this;cases this
theorem cO.bs(I:cO X pins σ H s):∀b o,X.base.get? b=some o->s.heap.get? b=some o/\H b=none:=λb o e =>
 ⟨I.base.keep b o (I.ok.bs b o e).1 (I.ok.bs b o e).2 (I.ok.nofr e) (I.ok.noex b o e),I.base.free b o (I.ok.bs b o e).1 (I.ok.bs b o e).2 (I.ok.noex b o e)⟩
theorem cO.bk(I:cO X pins σ H s):∀b o,X.base.get? b=some o->s.heap.get? b=some o:=λb o e=>(I.bs b o e).1
theorem cO.mod(I:cO X pins σ H s):Mod X.K X.mg X.base:=I.ok.mod
theorem cO.kIn(I:cO X pins σ H s):X.K.In s.heap:=I.ok.mod.kin.keeps I.bk
theorem cO.lt(I:cO X pins σ H s):X.env.locals<s.heap.objs.size:=let ⟨_,hn,_⟩:=I.loc;hn.lt
theorem cO.sz(I:cO X pins σ H s):X.s₀.heap.objs.size<=s.heap.objs.size:=aZ I.ok.above (Nat.le_of_lt I.lt)
theorem cO.nofs(I:cO X pins σ H s){a:Addr}(h:s.heap.objs.size<=a):a ∉ X.fs:=λb=>by
 obtain ⟨_,o,c,_⟩:=I.ok.funs.mem b;exact absurd (bH (bC c) (aZ I.sz h)) (cH _)
theorem cO.cne(I:cO X pins σ H s):∀x c,X.env.cells.lookup x=some c->c≠X.env.locals:=λx c e z=>by
 obtain ⟨v,o,d,hd⟩:=I.cell x c e;obtain ⟨m,⟨h,i,j,b,a,_⟩,_⟩:=I.loc;rw [z,b] at d;cases d;rw [a] at hd;cases hd
theorem cO.funs(I:cO X pins σ H s):s.heap.FunFrames X.base X.outer:=by
 have all:∀(l:List Env),(∀b∈frs l,b∈X.fs)->X.s₀.heap.FunFrames X.base l->s.heap.FunFrames X.base l:=by
  intro l
  induction l with
  | nil=>intro _ _;trivial
  | cons env r ih =>
   intro h j;obtain ⟨m,⟨L,o,c,n,p,hd⟩,i⟩:=j;have a:L∈X.fs:=h L (by unfold frs;rw [List.filterMap_cons,c];exact aQ);obtain ⟨u,e⟩:=I.base.slot L o p (I.ok.frf L a) a λz=>I.ok.exfs L z a;exact ⟨m,⟨L,_,c,n,e,hd⟩,ih (λb d=>h b (by unfold frs;rw [List.filterMap_cons,c];exact aG _ d)) i⟩
 exact all X.outer (λ_ d=>d) I.ok.funs
theorem cO.stack(I:cO X pins σ H s):s.heap.FunFrames X.base X.stack:=by
 rcases I.ok.stk with e | ⟨e,a⟩
 ·rw [e];exact I.funs
 ·rw [e];obtain ⟨m,b,_⟩:=I.loc;refine .cons (by rw [I.ok.kind];decide) a b ?_ I.funs;exact Heap.get?_none_of_le (aZ I.ok.bsz I.ok.above)
theorem cO.stkSub(I:cO X pins σ H s):∀b∈frs X.stack,b∈X.env.locals::X.fs:=λb a=>by
 rcases I.ok.stk with e | ⟨e,c⟩
 ·rw [e] at a;exact aG _ a
 ·rw [e] at a;unfold frs at a;rw [List.filterMap_cons,c] at a;exact a
theorem cO.stkFree(I:cO X pins σ H s):∀b∈frs X.stack,H b=none:=λb a=>by
 rcases bE.mp (I.stkSub b a) with e | a
 ·rw [e];exact I.free
 ·obtain ⟨_,o,c,_⟩:=I.ok.funs.mem a;exact I.base.free b o c (I.ok.frf b a) λz=>I.ok.exfs b z a
theorem cO.step{g':Array GenState}{t':Nat}{d':Drawn}{ch:List Addr}(I:cO X pins σ H s)
  (hch:∀b∈ch,(b∈X.ex\/X.s₀.heap.objs.size<=b)/\b≠X.env.locals/\(∀x c,X.env.cells.lookup x=some c->c≠b)/\∀p∈X.pn++pins,p.1≠b)
  (keep:∀b o,b≠X.env.locals->b ∉ X.fs->b ∉ ch->s.heap.get? b=some o->H b=none->h'.get? b=some o)
  (slot:∀b o,b≠X.env.locals->b∈X.fs->b ∉ ch->s.heap.get? b=some o->H b=none->∃sl,h'.get? b=some { o with slots:=sl }) (free:∀b o,b ∉ ch->s.heap.get? b=some o->H b=none->H' b=none)
  (there:∀b o,b ∉ ch->s.heap.get? b=some o->∃o',h'.get? b=some o')
  (tups:∀b xs,H b=some (.tup xs)->H' b=some (.tup xs)) (frzs:∀b o u,H b=some (.frz o u)->H' b=some (.frz o u)) (tbls:∀b ps,H b=some (.tbl ps)->∃more,H' b=some (.tbl (ps++more)))
  (ns:∀m,s.heap.Ns X.env.locals m->h'.Ns X.env.locals m) (hok:pG X.prog X.w H' h') (hg:AllBare g') :
  cO X pins σ H' { s with heap:=h',gens:=g',drawn:=d',toks:=t' }:=by
 have neL:∀b o,X.s₀.heap.get? b=some o->b≠X.env.locals:=λb o e=>dH (bH (bC e) I.ok.above);have A:∀b o,X.s₀.heap.get? b=some o->b ∉ X.ex->b ∉ ch:=λb o e a B=>by
  rcases (hch b B).1 with z | z
  ·exact a z
  ·exact absurd (bH (bC e) z) (cH _)
 have h:∀x c,X.env.cells.lookup x=some c->∀v,s.heap.IsCell c v->h'.IsCell c v:=λx c e v ⟨o,C,hd⟩=>by
  have j:c ∉ ch:=λz=>(hch c z).2.2.1 x c e rfl;by_cases hc:c∈X.fs
  ·obtain ⟨sl,q⟩:=slot c o (I.cne x c e) hc j C (I.freeC x c e);exact ⟨_,q,hd⟩
  ·exact ⟨o,keep c o (I.cne x c e) hc j C (I.freeC x c e),hd⟩
 refine ⟨I.ok,I.os,hg,⟨λb o e n B a=>?_,λb o e n B a=>?_,λb o e n a=>?_,λb o e a=>?_,λb xs e=>tups b xs (I.base.tups b xs e),λb o xs e=>frzs b o xs (I.base.frzs b o xs e),λb ps e=>?_⟩,?_,λx c e=>?_,?_,λx c e=>?_,λp L=>?_,hok,I.len⟩
 ·exact keep b o (neL b o e) B (A b o e a) (I.base.keep b o e n B a) (I.base.free b o e n a)
 ·obtain ⟨sl,y⟩:=I.base.slot b o e n B a;obtain ⟨G,D⟩:=slot b _ (neL b o e) B (A b o e a) y (I.base.free b o e n a);exact ⟨G,D⟩
 ·obtain ⟨o',y⟩:=I.base.there b o e a;exact free b o' (A b o e a) y (I.base.free b o e n a)
 ·obtain ⟨o',y⟩:=I.base.there b o e a;exact there b o' (A b o e a) y
 ·obtain ⟨P,y⟩:=I.base.tbls b ps e;obtain ⟨O,D⟩:=tbls b _ y;exact ⟨P++O,by rw [D,Array.append_assoc]⟩
 ·obtain ⟨m,N,M⟩:=I.loc;refine ⟨m,ns m N,λi x v y D e3=>?_⟩;obtain ⟨u,r,l⟩:=M i x v y D e3;refine ⟨u,r,?_⟩;rcases l with l | ⟨k,c,e,z⟩
  ·exact .inl l
  ·exact .inr ⟨k,c,e,h x c e _ z⟩
 ·obtain ⟨v,z⟩:=I.cell x c e;exact ⟨v,h x c e v z⟩
 ·obtain ⟨m,⟨o,_,_,C,_⟩,_⟩:=I.loc;exact free _ o (λz=>(hch _ z).2.1 rfl) C I.free
 ·obtain ⟨v,o,C,hd⟩:=I.cell x c e;exact free c o (λz=>(hch c z).2.2.1 x c e rfl) C (I.freeC x c e)
 ·obtain ⟨e,n,ne,J,d⟩:=I.pin p L;have j:p.1 ∉ ch:=λz=>(hch p.1 z).2.2.2 p L rfl;exact ⟨keep p.1 p.2 ne J j e n,free p.1 p.2 j e n,ne,J,d⟩
theorem cO.un{t':Nat}(I:cO X pins σ H s)(u:Un X.fs [] H H' s.heap h')(hok:pG X.prog X.w H' h'):cO X pins σ H' { s with heap:=h',toks:=t' }:=by
 obtain ⟨m,⟨o,C,B,i,r⟩,_⟩:=id I.loc;obtain ⟨A,p⟩:=u.any i I.free (by simp);exact I.step (g':=s.gens) (d':=s.drawn) (ch:=[]) (λ_ z=>nomatch z) (λb o _ h _ e n=>u.keep b o e n h (by simp)) (λb o _ h _ e n=>u.slot b o e n h (by simp)) (λb o _ e n=>u.free b o e n (by simp)) (λb o _ e=>u.there b o e (by simp)) u.tups u.frzs u.tbls (λy l=>by
  obtain ⟨x,c,d,a,j⟩:=l;rw [i] at a;cases a;exact ⟨_,c,d,p,j⟩) hok I.bare
theorem cO.call{g':Array GenState}{t':Nat}{d':Drawn}{ch:List Addr}(I:cO X pins σ H s)(u:Un (frs X.stack) ch H H' s.heap h')(hok:pG X.prog X.w H' h')(hg:AllBare g')
  (hch:∀b∈ch,(b∈X.ex\/X.s₀.heap.objs.size<=b)/\b≠X.env.locals/\(∀x c,X.env.cells.lookup x=some c->c≠b)/\∀p∈X.pn++pins,p.1≠b) :
  cO X pins σ H' { s with heap:=h',gens:=g',drawn:=d',toks:=t' }:=by
 obtain ⟨m,⟨o,L,J,l,r⟩,_⟩:=id I.loc;obtain ⟨G,j⟩:=u.any l I.free λz=>(hch _ z).2.1 rfl;exact I.step (ch:=ch) hch (λb o j B a e n=>u.keep b o e n (λz=>(bE.mp (I.stkSub b z)).elim j B) a) (λb o _ _ a e n=>u.any e n a) (λb o a e n=>u.free b o e n a) (λb o a e=>u.there b o e a) u.tups u.frzs u.tbls (λD A=>by
  obtain ⟨C,h,i,d,y⟩:=A;rw [l] at d;cases d;exact ⟨_,h,i,j,y⟩) hok hg
theorem cO.turned{t':Nat}{it:Addr}(I:cO X pins σ H s)(k:∀b o,b≠it->s.heap.get? b=some o->h'.get? b=some o)(hn:H it=none)(hL:it≠X.env.locals)
  (h1:it∈X.ex\/X.s₀.heap.objs.size<=it) (h2:∀x c,X.env.cells.lookup x=some c->c≠it) (h3:∀p∈X.pn++pins,p.1≠it):cO X pins σ H { s with heap:=h',toks:=t' }:=by
 have d:∀b u,H b=some u->b≠it:=λb u e z=>by rw [z,hn] at e;cases e
 refine I.step (g':=s.gens) (d':=s.drawn) (ch:=[it]) (λb j=>?_) (λb o _ _ a e _=>k b o (λz=>a (by simp [z])) e) (λb o _ _ a e _=>⟨o.slots,k b o (λz=>a (by simp [z])) e⟩) (λ_ _ _ _ n=>n)
  (λb o a e=>⟨o,k b o (λz=>a (by simp [z])) e⟩) (λ_ _ e=>e) (λ_ _ _ e=>e) (λb y e=>⟨#[],by rw [e];simp⟩) (λm h=>?_) (λb u e=>?_) I.bare
 ·have e:b=it:=by simpa using j
  subst e;exact ⟨h1,hL,h2,h3⟩
 ·obtain ⟨o,w,i,l,r⟩:=h;exact ⟨o,w,i,k _ o (Ne.symm hL) l,r⟩
 ·refine (I.hok b u e).stay (λc v a q=>k c v ?_ q) (λ_ q=>q) λ_ _ q=>q;rcases a with z | z
  ·rw [z];exact d b u e
  ·exact d c _ z
theorem cO.tok(I:cO X pins σ H s)(t:Nat):cO X pins σ H { s with toks:=t }:=I.un (h':=s.heap) (t':=t) Un.refl I.hok
theorem cO.kept{t':Nat}(I:cO X pins σ H s)(k:∀b u,s.heap.get? b=some u->h'.get? b=some u):cO X pins σ H { s with heap:=h',toks:=t' }:=I.un (Un.kept k) (I.hok.kept k)
theorem cO.laid{a:Addr}{o:HO}{t':Nat}(I:cO X pins σ H s)(k:∀b u,s.heap.get? b=some u->h'.get? b=some u)(hp:s.heap.objs.size<=a)(new:fA X.prog X.w (upd H a o) h' a o) :
  cO X pins σ (upd H a o) { s with heap:=h',toks:=t' }:=I.un (Un.laid k hp (I.hok.fresh hp)) (I.hok.laid k hp new)
theorem cO.write{x e:Addr}{o:HO}{t':Nat}(I:cO X pins σ H s)(mu:Mut (H x))(he:e=x\/H e=some (.own x))(k:∀b u,b≠e->s.heap.get? b=some u->h'.get? b=some u)(heo:∃u,h'.get? e=some u)
  (new:fA X.prog X.w (upd H x o) h' x o):cO X pins σ (upd H x o) { s with heap:=h',toks:=t' }:=I.un (Un.write mu he k heo) (I.hok.write mu he k heo new)
theorem cO.pins_of{pins':List (Addr × Obj)}(I:cO X pins σ H s)(h:∀p∈pins',s.heap.get? p.1=some p.2/\H p.1=none/\p.1≠X.env.locals/\p.1 ∉ X.fs/\∀v,p.2.data ≠ .cell v):cO X pins' σ H s :=
 ⟨I.ok,I.os,I.bare,I.base,I.loc,I.cell,I.free,I.freeC,λp a=>(eM.mp a).elim (λz=>I.pin p (cA _ z)) (h p),I.hok,I.len⟩
theorem GB{N:List Str}(hN:N.Nodup){i j:Nat}{x:Str}(a:N[i]?=some x)(b:N[j]?=some x):i=j:=by
 obtain ⟨h,c⟩:=aO.mp a;obtain ⟨e,d⟩:=aO.mp b;exact (List.getElem_inj hN).mp (c.trans d.symm)
theorem AA{M:Model}{A:Around}{E:Value->Shared->Prop}{i:Nat}{x:Str}{v:V}{u:Value}{Q:Unit->Shared->Prop}(I:cO X pins σ H s)(hN:X.N.Nodup)(hi:X.N[i]?=some x)(hx:Loc X.env.scope x)(r:eI v u)
  (h:∀s',cO X pins (σ.set i (some v)) H s'->(∃a,Heap.SameBut a s.heap s'.heap/\(a=X.env.locals\/X.env.cells.lookup x=some a))->Q () s') (hf:X.fn x=true\/X.env.scope.names.lookup x=some .local:=by first | exact .inl rfl | exact .inr rfl | assumption):wpAny M A (storeName X.env x u) Q E s:=by
 obtain ⟨m,η,ν⟩:=id I.loc;have T:(X.env.scope.kind == .class || (X.env.scope.kind == .module&&X.env.locals != X.env.globals))=false:=by rw [I.ok.kind];rfl
 have Y:i<σ.length:=by rw [I.len];exact (aO.mp hi).1
 have cne:=I.cne;have B:∀{a:Addr} {R:Heap},(∃o,s.heap.get? a=some o/\H a=none)->Heap.SameBut a s.heap R->pG X.prog X.w H R:=λ{a R} υ l b φ e=>by
  obtain ⟨_,_,G⟩:=υ;refine (I.hok b φ e).stay (λc Z D q=>(l.2 c ?_).trans q) (λ_ q=>q) λ_ _ q=>q;rintro rfl;rcases D with rfl | D
  ·rw [G] at e;cases e
  ·rw [G] at D;cases D
 rcases hx with L | L
 ·refine wpAny_storeName_local L η (λR ε l=>?_) T;obtain ⟨χ,_,_,κ,_⟩:=id η;refine h _ ⟨I.ok,I.os,I.bare,⟨λb o e n P hx=>?_,λb o e n P hx=>?_,I.base.free,λb o e hx=>?_,I.base.tups,I.base.frzs,I.base.tbls⟩,⟨_,ε,λj y δ C J e3=>?_⟩,λy c e=>?_,I.free,I.freeC,λp ι=>?_,B ⟨χ,κ,I.free⟩ l,by simpa using I.len⟩ ⟨_,l,.inl rfl⟩
  ·exact (l.2 b (dH (bH (bC e) I.ok.above))).trans (I.base.keep b o e n P hx)
  ·obtain ⟨θ,C⟩:=I.base.slot b o e n P hx;exact ⟨θ,(l.2 b (dH (bH (bC e) I.ok.above))).trans C⟩
  ·obtain ⟨γ,C⟩:=I.base.there b o e hx;exact ⟨γ,(l.2 b (dH (bH (bC e) I.ok.above))).trans C⟩
  ·by_cases hj:j=i
   ·subst hj;rw [hi] at C;cases C;rw [List.getElem?_set_self Y] at J;cases J;exact ⟨u,r,.inl ⟨L,by simp⟩⟩
   ·rw [List.getElem?_set_ne (Ne.symm hj)] at J;obtain ⟨μ,β,q⟩:=ν j y δ C J e3;refine ⟨μ,β,?_⟩;rcases q with ⟨k,e⟩ | ⟨k,c,e,z⟩
    ·refine .inl ⟨k,?_⟩;have:y≠x:=λe=>hj (GB hN C (e ▸ hi));simp [this,e]
    ·exact .inr ⟨k,c,e,z.sameBut l (cne y c e)⟩
  ·obtain ⟨Z,z⟩:=I.cell y c e;exact ⟨Z,z.sameBut l (cne y c e)⟩
  ·obtain ⟨e,n,ne,ζ,d⟩:=I.pin p ι;exact ⟨(l.2 p.1 ne).trans e,n,ne,ζ,d⟩
 ·have O:X.fn x=true:=by
   rcases hf with z | z
   ·exact z
   ·rw [z] at L;cases L
  obtain ⟨c,D⟩:=I.ok.has x (.inl L);obtain ⟨Z,z⟩:=I.cell x c D;refine wpAny_storeName_cell I.ok.kind L D z (λR U l=>?_);obtain ⟨ξ,S,W⟩:=id z;refine h { s with heap:=R } ⟨I.ok,I.os,I.bare,⟨λb o e n P hx=>?_,λb o e n P hx=>?_,I.base.free,λb o e hx=>?_,I.base.tups,I.base.frzs,I.base.tbls⟩,⟨m,η.sameBut l (Ne.symm (cne x c D)),λj y δ C J e3=>?_⟩,λy α e=>?_,I.free,I.freeC,λp ι=>?_,B ⟨ξ,S,I.freeC x c D⟩ l,by simpa using I.len⟩ ⟨c,l,.inr D⟩
  ·exact (l.2 b (dH (bH (bC e) (I.ok.cab x c O D)))).trans (I.base.keep b o e n P hx)
  ·obtain ⟨θ,C⟩:=I.base.slot b o e n P hx;exact ⟨θ,(l.2 b (dH (bH (bC e) (I.ok.cab x c O D)))).trans C⟩
  ·obtain ⟨γ,C⟩:=I.base.there b o e hx;exact ⟨γ,(l.2 b (dH (bH (bC e) (I.ok.cab x c O D)))).trans C⟩
  ·by_cases hj:j=i
   ·subst hj;rw [hi] at C;cases C;rw [List.getElem?_set_self Y] at J;cases J;exact ⟨u,r,.inr ⟨.inl L,c,D,U⟩⟩
   ·rw [List.getElem?_set_ne (Ne.symm hj)] at J;obtain ⟨μ,β,q⟩:=ν j y δ C J e3;refine ⟨μ,β,?_⟩;rcases q with q | ⟨k,α,e,ο⟩
    ·exact .inl q
    ·refine .inr ⟨k,α,e,ο.sameBut l ?_⟩;rintro rfl;exact hj (GB hN C (I.ok.inj _ _ _ e D ▸ hi))
  ·by_cases hcc:α=c
   ·subst hcc;exact ⟨_,U⟩
   ·obtain ⟨ψ,ρ⟩:=I.cell y α e;exact ⟨ψ,ρ.sameBut l hcc⟩
  ·obtain ⟨e,n,ne,ζ,d⟩:=I.pin p ι;refine ⟨(l.2 p.1 ?_).trans e,n,ne,ζ,d⟩;intro q;rw [q,S] at e;have τ:ξ=p.2:=dC e;exact d Z (by rw [<-τ];exact W)
theorem pO{M:Model}{A:Around}{E:Value->Shared->Prop}{i:Nat}{x:Str}{v:V}{u:Value}{Q:Unit->Shared->Prop}(I:cO X pins σ H s)(hN:X.N.Nodup)(hi:X.N[i]?=some x)(hx:Loc X.env.scope x)(r:eI v u)
  (h:∀s',cO X pins (σ.set i (some v)) H s'->Q () s') (hf:X.fn x=true\/X.env.scope.names.lookup x=some .local:=by first | exact .inl rfl | exact .inr rfl | assumption):wpAny M A (storeName X.env x u) Q E s :=
 AA I hN hi hx r (λs' I' _=>h s' I') hf
theorem cO.call'{s':Shared}{ch:List Addr}(I:cO X pins σ H s)(ho:s'.os=s.os)(u:Un (frs X.stack) ch H H' s.heap s'.heap)(hok:pG X.prog X.w H' s'.heap)(hg:AllBare s'.gens)
  (hch:∀b∈ch,(b∈X.ex\/X.s₀.heap.objs.size<=b)/\b≠X.env.locals/\(∀x c,X.env.cells.lookup x=some c->c≠b)/\∀p∈X.pn++pins,p.1≠b):cO X pins σ H' s':=by
 obtain ⟨d,g',d',t',a⟩:=s';have e:a=s.os:=ho;subst e;exact I.call (g':=g') (t':=t') (d':=d') u hok hg hch
end
abbrev XK:=Value->Option Addr->Hp->Prop
abbrev St:=List (Option V)
abbrev VK:=V->Hp->Prop
abbrev TE:=St->Hp->VK->Prop
abbrev TT:=St->Hp->(Bool->Hp->Prop)->Prop
abbrev TA:=St->Hp->(List V->Hp->Prop)->Prop
structure rQ where
 nx:St->Hp->Prop
 rt:VK
 bk:St->Hp->Prop:=λ_ _=>False
 ct:St->Hp->Prop:=λ_ _=>False
abbrev TS:=rQ->St->Hp->Prop
def EP(X:Cx)(pins:List (Addr × Obj))(σ:St)(Q:VK)(u:Value)(s':Shared):Prop:=∃v H',cO X pins σ H' s'/\eI v u/\Q v H'
def TP(X:Cx)(pins:List (Addr × Obj))(σ:St)(Q:Bool->Hp->Prop)(b:Bool)(s':Shared):Prop:=∃H',cO X pins σ H' s'/\Q b H'
def AP(X:Cx)(pins:List (Addr × Obj))(σ:St)(Q:List V->Hp->Prop)(us:List Value)(s':Shared):Prop:=∃vs H',cO X pins σ H' s'/\eE vs us/\Q vs H'
def SP(X:Cx)(pins:List (Addr × Obj))(D:rQ)(f:Flow)(s':Shared):Prop :=
 match f with
 | .next=>∃σ' H',cO X pins σ' H' s'/\D.nx σ' H'
 | .brk=>∃σ' H',cO X pins σ' H' s'/\D.bk σ' H'
 | .cont=>∃σ' H',cO X pins σ' H' s'/\D.ct σ' H'
 | .ret u=>∃v σ' H',cO X pins σ' H' s'/\eI v u/\D.rt v H'
def PE(X:Cx)(e:Expr)(t:TE):Prop :=
 ∀(pins:List (Addr × Obj)) (s:Shared) (σ:St) (H:Hp) (Q:VK),cO X pins σ H s->t σ H Q->wpAny (model X.prog X.w) X.A (eval e X.env) (EP X pins σ Q) X.xe s
def PT(X:Cx)(e:Expr)(t:TT):Prop :=
 ∀(pins:List (Addr × Obj)) (s:Shared) (σ:St) (H:Hp) (Q:Bool->Hp->Prop),cO X pins σ H s->t σ H Q->wpAny (model X.prog X.w) X.A (isTrue e X.env (eval e X.env)) (TP X pins σ Q) X.xe s
def PW(X:Cx)(e:Expr)(t:TT):Prop :=
 ∀(whole:Sem Value) (pins:List (Addr × Obj)) (s:Shared) (σ:St) (H:Hp) (Q:Bool->Hp->Prop),cO X pins σ H s->t σ H Q->wpAny (model X.prog X.w) X.A (isTrue e X.env whole) (TP X pins σ Q) X.xe s
theorem PW.pt{X:Cx}{e:Expr}{t:TT}(h:PW X e t):PT X e t:=h _
def PA(X:Cx)(es:List Expr)(t:TA):Prop :=
 ∀(pos:Pos) (pins:List (Addr × Obj)) (s:Shared) (σ:St) (H:Hp) (Q:List V->Hp->Prop),cO X pins σ H s->t σ H Q->wpAny (model X.prog X.w) X.A (spliced (backTo pos (starEach es X.env))) (AP X pins σ Q) X.xe s
def PS(X:Cx)(st:Stmt)(t:TS):Prop :=
 ∀(pins:List (Addr × Obj)) (s:Shared) (σ:St) (H:Hp) (D:rQ),cO X pins σ H s->t D σ H->wpAny (model X.prog X.w) X.A (exec st X.env) (SP X pins D) X.xe s
def KA(X:Cx)(st:List Stmt)(t:TS):Prop :=
 ∀(pins:List (Addr × Obj)) (s:Shared) (σ:St) (H:Hp) (D:rQ),cO X pins σ H s->t D σ H->wpAny (model X.prog X.w) X.A (execs st X.env) (SP X pins D) X.xe s
theorem thn{α:Type}{t:Sem α}{Q Q':α->Shared->Prop}{M:Model}{A:Around}{E:Value->Shared->Prop}{s:Shared}(h:wpAny M A t Q E s)(hQ:∀a s,Q a s->Q' a s):wpAny M A t Q' E s:=wpAny_mono h hQ λ_ _ x=>x
section
variable{X:Cx}
def aBn(i:Nat):TE:=λσ H Q=>∃v,σ[i]?=some (some v)/\Q v H
def tC(v:V):TE:=λ_ H Q=>Q v H
theorem aCb{i:Nat}{x:Str}{pos:Pos}(hN:X.N[i]?=some x)(hv:Vis X.env.scope x)(hd:(x == ("__debug__" : Str))=false:=by decide)(hcd:(x == ("__classdict__" : Str))=false:=by decide):PE X (.Name x pos) (aBn i):=by
 intro j s σ H Q I h;obtain ⟨v,e,h⟩:=h;obtain ⟨m,w,o⟩:=I.loc;obtain ⟨u,r,l⟩:=o i x v hN e hv;have d:EP X j σ Q u s:=⟨v,H,I,r,h⟩;rcases l with ⟨b,p⟩ | ⟨b,c,n,a⟩
 ·exact wpAny_Name (wpAny_loadName_local I.ok.kind b w p d) hd
 ·rcases b with b | b
  ·exact wpAny_Name (wpAny_loadName_cell I.ok.kind b n a d) hd
  ·exact wpAny_Name (wpAny_loadName_free I.ok.kind b n a d hcd) hd
theorem pe_int{i j pos}:PE X (.Constant (.int i) j pos) (tC (.int i)):=λ_ _ _ H _ I h=>wpAny_Constant_int ⟨.int i,H,I.tok _,⟨_,rfl⟩,h⟩
theorem pe_bl{b j pos}:PE X (.Constant (.bool b) j pos) (tC (.bl b)):=λ_ _ _ H _ I h=>Constant_bool ⟨.bl b,H,I,rfl,h⟩
theorem pe_non{j pos}:PE X (.Constant .none j pos) (tC .non):=λ_ _ _ H _ I h=>Constant_none ⟨.non,H,I,rfl,h⟩
theorem pe_str{x j pos}:PE X (.Constant (.str x) j pos) (tC (.str x)):=λ_ _ _ H _ I h=>Calls.Constant_str ⟨.str x,H,I.tok _,⟨_,rfl⟩,h⟩
def Gl(X:Cx)(x:Str):Prop:=X.env.kindOf x=some .globalImplicit
theorem LZ{E:Value->Shared->Prop}{pins:List (Addr × Obj)}{s:Shared}{σ:St}{H:Hp}{x:Str}{u:Value}{pos:Pos}{Q:Value->Shared->Prop}(I:cO X pins σ H s)(hg:Gl X x)(hm:X.mg x=some u)(h:Q u s)
  (hd:(x == ("__debug__" : Str))=false:=by decide):wpAny (model X.prog X.w) X.A (eval (.Name x pos) X.env) Q E s :=
 Calls.Name_function_global I.ok.kind hg (Calls.loadGlobal_global (by rw [I.ok.glob];exact I.mod.glob.keeps I.bk) hm h) hd
theorem uZ{E:Value->Shared->Prop}{pins:List (Addr × Obj)}{s:Shared}{σ:St}{H:Hp}{x:Str}{u:Value}{pos:Pos}{Q:Value->Shared->Prop}(I:cO X pins σ H s)(hg:Gl X x)(hm:X.mg x=none)(hv:bootBuiltins x=some u)(h:Q u s)
  (hn:x ≠ "__name__" := by decide) (hd:(x == ("__debug__" : Str))=false:=by decide):wpAny (model X.prog X.w) X.A (eval (.Name x pos) X.env) Q E s:=by
 obtain ⟨c,b,a⟩:=I.mod.blt;exact Calls.Name_function_global I.ok.kind hg (Calls.loadGlobal_builtin (by rw [I.ok.glob];exact I.mod.glob.keeps I.bk) hm (by rw [I.ok.blt];exact b.keeps I.bk) ((a x hn).trans hv) h) hd
theorem YT{x:Str}{v:V}{u:Value}{pos:Pos}(hg:Gl X x)(hm:X.mg x=some u)(r:eI v u)(hd:(x == ("__debug__" : Str))=false:=by decide):PE X (.Name x pos) (tC v) :=
 λ_ _ _ H _ I h=>LZ I hg hm ⟨v,H,I,r,h⟩ hd
variable{a b:Expr}{ta tb:TE}{pos:Pos}
def tB(t:TE):TT:=λσ H Q=>t σ H λx H1=>∃c,x=.bl c/\Q c H1
theorem aBY{e:Expr}{t:TE}(h:PE X e t)(he:∀whole,isTrue e X.env whole=(do let v <-whole;standAt e.pos;holding [v] (truthy v)):=by intro _;rfl):PT X e (tB t):=by
 intro a s σ H Q I b;refine isTrue_plain (thn (h a s σ H _ I b) λv j ⟨x,H1,I1,c,i⟩=>?_) (he _);obtain ⟨d,rfl,q⟩:=i;cases c;exact wpAny_truthy_bool ⟨H1,I1,q⟩
variable{tA tB':TT}{rest:List Expr}
def aDB(t u:TT):TT:=λσ H Q=>t σ H λc H1=>if c=true then u σ H1 Q else Q false H1
def tOr(t u:TT):TT:=λσ H Q=>t σ H λc H1=>if c=true then Q true H1 else u σ H1 Q
def aDs(t:TT):TT:=λσ H Q=>t σ H λc H1=>Q (!c) H1
theorem YH(ha:PT X a tA):PW X (.BoolOp .And [a] pos) tA:=by
 intro d b s σ H Q I h;refine isTrue_and (thn (ha b s σ H Q I h) λc i e=>?_);cases c with
 | true=>exact isTrue_and_nil e
 | false=>exact e
theorem aBW(ha:PT X a tA):PW X (.BoolOp .Or [a] pos) tA:=by
 intro d b s σ H Q I h;refine isTrue_or (thn (ha b s σ H Q I h) λc i e=>?_);cases c with
 | false=>exact isTrue_or_nil e
 | true=>exact e
theorem aBX(ha:PT X a tA)(hb:PW X (.BoolOp .And (b::rest) pos) tB'):PW X (.BoolOp .And (a::b::rest) pos) (aDB tA tB'):=by
 intro i d s σ H Q I h;refine isTrue_and (thn (ha d s σ H _ I h) λc j ⟨H1,I1,e⟩=>?_);cases c with
 | true=>exact hb i d j σ H1 Q I1 e
 | false=>exact ⟨H1,I1,e⟩
theorem aDP(ha:PT X a tA)(hb:PW X (.BoolOp .Or (b::rest) pos) tB'):PW X (.BoolOp .Or (a::b::rest) pos) (tOr tA tB'):=by
 intro i d s σ H Q I h;refine isTrue_or (thn (ha d s σ H _ I h) λc j ⟨H1,I1,e⟩=>?_);cases c with
 | true=>exact ⟨H1,I1,e⟩
 | false=>exact hb i d j σ H1 Q I1 e
theorem aBZ(ha:PT X a tA):PT X (.UnaryOp .Not a pos) (aDs tA):=by
 intro b s σ H Q I h;exact isTrue_not (ha b s σ H (λc H1=>Q (!c) H1) I h)
def aAO(ta tb:TE):TE:=λσ H Q=>ta σ H λx H1=>∃c,x=.bl c/\if c=true then tb σ H1 Q else Q (.bl false) H1
def aAJ(ta:TE):TE:=λσ H Q=>ta σ H λx H1=>∃c,x=.bl c/\Q (.bl (!c)) H1
theorem aCd{op}{t:TE}(h:PE X a t):PE X (.BoolOp op [a] pos) t:=λb s σ H Q I c=>BoolOp_one (h b s σ H Q I c)
theorem aCg(ha:PE X a ta)(hb:PE X (.BoolOp .And (b::rest) pos) tb):PE X (.BoolOp .And (a::b::rest) pos) (aAO ta tb):=by
 intro d s σ H Q I h;refine BoolOp_and (thn (ha d s σ H _ I h) λv j ⟨x,H1,I1,i,e⟩=>?_);obtain ⟨c,rfl,e⟩:=e;cases i;refine wpAny_truthy_bool ?_;cases c with
 | true=>exact hb d j σ H1 Q I1 e
 | false=>exact ⟨.bl false,H1,I1,rfl,e⟩
theorem aCe(ha:PE X a ta):PE X (.UnaryOp .Not a pos) (aAJ ta):=by
 intro b s σ H Q I h;refine UnaryOp_ (thn (ha b s σ H _ I h) λv i ⟨x,H1,I1,e,d⟩=>?_);obtain ⟨c,rfl,d⟩:=d;cases e;exact not_of (wpAny_truthy_bool ⟨.bl (!c),H1,I1,rfl,d⟩)
def tIf(t:TT)(ta tb:TE):TE:=λσ H Q=>t σ H λc H1=>if c=true then ta σ H1 Q else tb σ H1 Q
theorem TX{c:Expr}(hc:PT X c tA)(ha:PE X a ta)(hb:PE X b tb):PE X (.IfExp c a b pos) (tIf tA ta tb):=by
 intro e s σ H Q I h;refine wpAny_IfExp (thn (hc e s σ H _ I h) λd j ⟨H1,I1,i⟩=>?_);cases d with
 | true=>exact ha e j σ H1 Q I1 i
 | false=>exact hb e j σ H1 Q I1 i
end
def fY(K:KFr)(H:Hp)(a:Addr)(xs:List V):Prop :=
 Rd H a (.lst xs) \/
  ∃(o:Obj) (its:Array Value) (n:Nat),K.lookup a=some o/\o.cls=.type "list" /\ o.dict=none/\o.data=.seq its n/\its.size<=sizeLine/\eE xs its.toList
def fN(K:KFr)(H:Hp)(a:Addr)(xs:List V):Prop :=
 Rd H a (.tup xs) \/
  ∃(o:Obj) (its:Array Value) (n:Nat),K.lookup a=some o/\o.cls=.type "tuple" /\ o.data=.seq its n/\its.size<=sizeLine/\eE xs its.toList
def aGb:Value->Option V
 | .none=>some .non
 | .bool b=>some (.bl b)
 | .int i _=>some (.int i)
 | .str x _=>some (.str x)
 | .bytes b _=>some (.byt b)
 | .float b _=>some (.flt b)
 | .ref a=>some (.ref a)
 | .type n=>some (.ty n)
 | _=>none
theorem eI.abs{x:V}{u:Value}(r:eI x u):aGb u=some x:=by
 cases x with
 | non=>cases r;rfl
 | bl _=>cases r;rfl
 | int _=>obtain ⟨t,rfl⟩:=r;rfl
 | str _=>obtain ⟨t,rfl⟩:=r;rfl
 | byt _=>obtain ⟨t,rfl⟩:=r;rfl
 | flt _=>obtain ⟨t,rfl⟩:=r;rfl
 | ref _=>cases r;rfl
 | ty _=>cases r;rfl
theorem eI.inj{x y:V}{u:Value}(r:eI x u)(q:eI y u):x=y:=dC (r.abs.symm.trans q.abs)
theorem eE.inj:∀{xs ys:List V}{us:List Value},eE xs us->eE ys us->xs=ys
 | _,_,_,.nil,.nil=>rfl
 | _,_,_,.cons r t,.cons r' t'=>by rw [r.inj r',eE.inj t t']
section
variable{X:Cx}{pins:List (Addr × Obj)}{σ:St}{H:Hp}{s:Shared}{a:Addr}{xs ys:List V}
theorem fY.of{K:KFr}(h:H a=some (.lst xs)):fY K H a xs:=.inl (.inl h)
theorem fN.of{K:KFr}(h:H a=some (.tup xs)):fN K H a xs:=.inl (.inl h)
theorem cO.list(I:cO X pins σ H s)(h:fY X.K H a xs):∃its:List Value,eE xs its/\PlainL s.heap a its.toArray/\xs.length<=sizeLine:=by
 rcases h with h | ⟨o,its,n,d,b,hd,c,i,r⟩
 ·obtain ⟨z,its,n,r,e⟩:=h.ok I.hok;exact ⟨its,r,⟨_,n,e,rfl,rfl,rfl⟩,z⟩
 ·refine ⟨its.toList,r,⟨o,n,I.kIn a o d,b,hd,by simpa using c⟩,?_⟩;have e:=r.length;simp only [Array.length_toList] at e;omega
theorem cO.tuple(I:cO X pins σ H s)(h:fN X.K H a xs):∃its:List Value,eE xs its/\IsTup s.heap a its.toArray/\xs.length<=sizeLine:=by
 rcases h with h | ⟨o,its,n,d,b,c,i,r⟩
 ·obtain ⟨⟨z,_⟩,its,r,p⟩:=h.ok I.hok;exact ⟨its,r,p,z⟩
 ·refine ⟨its.toList,r,⟨o,I.kIn a o d,b,n,by simpa using c⟩,?_⟩;have e:=r.length;simp only [Array.length_toList] at e;omega
theorem cO.list_inj(I:cO X pins σ H s)(h:fY X.K H a xs)(h':fY X.K H a ys):xs=ys:=by
 obtain ⟨c,r,⟨o,n,e,_,_,d⟩,_⟩:=I.list h;obtain ⟨b,l,⟨p,m,j,_,_,i⟩,_⟩:=I.list h';rw [e] at j;cases j;rw [d] at i;injection i with d1 _;have:c=b:=by simpa using congrArg Array.toList d1
 subst this;exact r.inj l
theorem cO.tuple_inj(I:cO X pins σ H s)(h:fN X.K H a xs)(h':fN X.K H a ys):xs=ys:=by
 obtain ⟨c,r,⟨o,e,_,n,d⟩,_⟩:=I.tuple h;obtain ⟨b,l,⟨p,j,_,m,i⟩,_⟩:=I.tuple h';rw [e] at j;cases j;rw [d] at i;injection i with d1 _;have:c=b:=by simpa using congrArg Array.toList d1
 subst this;exact r.inj l
end
abbrev Cx.wish(X:Cx)(E:Value->Shared->Prop):Cx:={ X with xe:=E }
abbrev Cx.nox(X:Cx):Cx:=X.wish λ_ _=>False
theorem Cx.Ok.wish{X:Cx}(ok:X.Ok)(E:Value->Shared->Prop):(X.wish E).Ok :=
 ⟨ok.mod,ok.kind,ok.glob,ok.blt,ok.above,ok.inj,ok.has,ok.cab,ok.hd,ok.frames,ok.stk,ok.exf,ok.bs,ok.bsz,ok.noex,ok.exfs,ok.funs,ok.frf⟩
theorem Cx.Ok.unwish{X:Cx}{E:Value->Shared->Prop}(ok:(X.wish E).Ok):X.Ok :=
 ⟨ok.mod,ok.kind,ok.glob,ok.blt,ok.above,ok.inj,ok.has,ok.cab,ok.hd,ok.frames,ok.stk,ok.exf,ok.bs,ok.bsz,ok.noex,ok.exfs,ok.funs,ok.frf⟩
section
variable{X:Cx}{pins:List (Addr × Obj)}{σ:St}{H:Hp}{s:Shared}{E:Value->Shared->Prop}
theorem cO.wish(I:cO X pins σ H s)(E:Value->Shared->Prop):cO (X.wish E) pins σ H s:=⟨I.ok.wish E,I.os,I.bare,I.base,I.loc,I.cell,I.free,I.freeC,I.pin,I.hok,I.len⟩
theorem cO.unwish(I:cO (X.wish E) pins σ H s):cO X pins σ H s:=⟨I.ok.unwish,I.os,I.bare,I.base,I.loc,I.cell,I.free,I.freeC,I.pin,I.hok,I.len⟩
theorem SP.unwish{D:rQ}{f:Flow}{s':Shared}(h:SP (X.wish E) pins D f s'):SP X pins D f s':=by
 cases f with
 | next=>obtain ⟨a,H',I,q⟩:=h;exact ⟨a,H',I.unwish,q⟩
 | brk=>obtain ⟨a,H',I,q⟩:=h;exact ⟨a,H',I.unwish,q⟩
 | cont=>obtain ⟨a,H',I,q⟩:=h;exact ⟨a,H',I.unwish,q⟩
 | ret u=>obtain ⟨v,a,H',I,r,q⟩:=h;exact ⟨v,a,H',I.unwish,r,q⟩
theorem KA.nox{st:List Stmt}{t:TS}(h:KA X.nox st t):KA X st t:=λa s σ H D I b =>
 wpAny_mono (h a s σ H D (I.wish _) b) (λ_ _ q=>q.unwish) λ_ _ z=>False.elim z
end
section
variable{X:Cx}{st:Stmt}{rest:List Stmt}{t u:TS}{e:Expr}{te:TE}{pos:Pos}
def aAK:TS:=λD σ H=>D.nx σ H
def aDp(t u:TS):TS:=λD σ H=>t { D with nx:=u D } σ H
theorem pss_nil:KA X [] aAK:=λ_ _ σ H _ I h=>wpAny_execs_nil ⟨σ,H,I,h⟩
theorem TF(h1:PS X st t)(h2:KA X rest u):KA X (st::rest) (aDp t u):=by
 intro a s σ H D I h;refine wpAny_execs_cons (thn (h1 a s σ H { D with nx:=u D } I h) λf c q=>?_);cases f with
 | next =>
  obtain ⟨b,H',I',q⟩:=q;exact h2 a c b H' D I' q
 | ret v=>exact q
 | brk=>exact q
 | cont=>exact q
theorem YL(h1:PS X st t):KA X [st] t:=by
 intro a s σ H D I h;refine wpAny_execs_cons (thn (h1 a s σ H D I h) λf b q=>?_);cases f with
 | next=>exact wpAny_execs_nil q
 | ret v=>exact q
 | brk=>exact q
 | cont=>exact q
theorem cO.quiet{pins:List (Addr × Obj)}{σ:St}{H:Hp}{s:Shared}(I:cO X pins σ H s):interactive X.env=false:=by simp [interactive,I.ok.kind]
def aAL(te:TE):TS:=λD σ H=>te σ H λ_ H1=>D.nx σ H1
theorem YM(he:PE X e te)(hs:swapsWith e none pos.line X.env=pure false:=by rfl):PS X (.Expr e pos) (aAL te):=by
 intro a s σ H D I h;exact wpAny_Expr_any (thn (he a s σ H _ I h) λv d ⟨x,H1,I1,c,b⟩=>⟨σ,H1,I1,b⟩) I.quiet hs
def aDq(te:TE):TS:=λD σ H=>te σ H D.rt
theorem aB1(he:PE X e te):PS X (.Return (some e) pos) (aDq te):=by
 intro a s σ H D I h;exact wpAny_Return_some (thn (he a s σ H _ I h) λv d ⟨x,H1,I1,b,c⟩=>⟨x,σ,H1,I1,b,c⟩)
def aDw(c:TT)(t u:TS):TS:=λD σ H=>c σ H λb H1=>if b=true then t D σ H1 else u D σ H1
theorem aDQ{c:Expr}{a b:List Stmt}{tc:TT}(hc:PT X c tc)(ha:KA X a t)(hb:KA X b u):PS X (.If c a b pos) (aDw tc t u):=by
 intro e s σ H D I h;refine wpAny_If (thn (hc e s σ H _ I h) λd j ⟨H1,I1,i⟩=>?_);cases d with
 | true=>exact ha e j σ H1 D I1 i
 | false=>exact hb e j σ H1 D I1 i
end
abbrev TG:=V->St->Hp->(St->Hp->Prop)->Prop
abbrev WG:=List V->St->Hp->(St->Hp->Prop)->Prop
def PG(X:Cx)(target:Expr)(t:TG):Prop :=
 ∀(pins:List (Addr × Obj)) (s:Shared) (σ:St) (H:Hp) (v:V) (u:Value) (Q:St->Hp->Prop),cO X pins σ H s->eI v u->t v σ H Q ->
  wpAny (model X.prog X.w) X.A (assign target X.env u) (λ_ s'=>∃σ' H',cO X pins σ' H' s'/\Q σ' H') X.xe s
def PGs(X:Cx)(ts:List Expr)(t:WG):Prop :=
 ∀(pins:List (Addr × Obj)) (s:Shared) (σ:St) (H:Hp) (vs:List V) (us:List Value) (Q:St->Hp->Prop),cO X pins σ H s->eE vs us->t vs σ H Q ->
  wpAny (model X.prog X.w) X.A (assignInOrder ((assignEach ts X.env).map (·.2)) us) (λ_ s'=>∃σ' H',cO X pins σ' H' s'/\Q σ' H') X.xe s
abbrev aAu:=V->V->V->Hp->(Hp->Prop)->Prop
def aC9(X:Cx)(t:aAu):Prop :=
 ∀(pins:List (Addr × Obj)) (s:Shared) (σ:St) (H:Hp) (o i v:V) (ov iv u:Value) (Q:Hp->Prop),cO X pins σ H s->eI o ov->eI i iv->eI v u->t o i v H Q ->
  wpAny (model X.prog X.w) X.A (setItem ov iv u) (λ_ s'=>∃H',cO X pins σ H' s'/\Q H') X.xe s
section
variable{X:Cx}{pos:Pos}
def tL(i:Nat):TG:=λv σ H Q=>Q (σ.set i (some v)) H
theorem YS{i:Nat}{x:Str}(hN:X.N.Nodup)(hi:X.N[i]?=some x)(hx:Loc X.env.scope x)(hf:X.fn x=true\/X.env.scope.names.lookup x=some .local:=by first | exact .inl rfl | exact .inr rfl | assumption):PG X (.Name x pos) (tL i):=by
 intro a s σ H v u Q I r h;exact wpAny_assign_Name (pO I hN hi hx r (λb I'=>⟨_,H,I',h⟩) hf)
def aCM:WG:=λvs σ H Q=>vs=[]/\Q σ H
def US(t:TG)(u:WG):WG:=λvs σ H Q=>∃v r,vs=v::r/\t v σ H λσ' H'=>u r σ' H' Q
theorem pgs_nil:PGs X [] aCM:=by
 intro a s σ H c b Q I r h;obtain ⟨e,h⟩:=h;subst e;cases r;exact assignInOrder_nil ⟨σ,H,I,h⟩
theorem TV{e:Expr}{es:List Expr}{t:TG}{u:WG}(h1:PG X e t)(h2:PGs X es u)
  (hs:(assignEach (e::es) X.env).map (·.2)=assign e X.env::(assignEach es X.env).map (·.2):=by rfl):PGs X (e::es) (US t u):=by
 intro a s σ H j l Q I r h;obtain ⟨v,m,b,h⟩:=h;subst b;cases r with
 | cons r rr =>
  rw [hs];refine assignInOrder_cons (thn (h1 a s σ H _ _ _ I r h) λ_ d ⟨c,H1,I1,i⟩=>?_);exact h2 a d c H1 _ _ Q I1 rr i
def aCL(K:KFr)(n:Nat)(t:WG):TG:=λv σ H Q=>∃a xs,v=.ref a/\fN K H a xs/\xs.length=n/\t xs σ H Q
theorem aB9{es:List Expr}{k:Nat}{t:WG}{n:Nat}(hc:X.calm=true)(h:PGs X es t)
  (hn:(assignEach es X.env).length=n:=by rfl) (hst:(assignEach es X.env).findIdx? (·.1)=none:=by rfl):PG X (.Tuple es k pos) (aCL X.K n t):=by
 intro c s σ H v u Q I r d;obtain ⟨a,m,p,j,l,d⟩:=d;subst p;cases r;obtain ⟨w,rv,x,z⟩:=I.tuple j;refine assign_Tuple_tuple (I.ok.hd hc) x (by simp [hn,<-l,rv.length]) hst λi y=>?_;have I1:cO X c σ H { s with heap:=i }:=I.kept (t':=s.toks) λb o e=>y b o (dH (bC e)) e;exact h c _ σ H m _ Q I1 (by simpa using rv) d
def aD7(to ti:TE)(t:aAu):TG:=λv σ H Q=>to σ H λo H1=>ti σ H1 λi H2=>t o i v H2 λH3=>Q σ H3
theorem aCa{o i:Expr}{to ti:TE}{t:aAu}(ho:PE X o to)(hi:PE X i ti)(hs:aC9 X t)
  (ha:∀v,assign (.Subscript o i pos) X.env v=(do
   let ov <-holding [v] (eval o X.env)
   let iv <-holding [v,ov] (eval i X.env)
   standAt pos
   holding [v,ov,iv] (setItem ov iv v)
   release [v,ov,iv] []):=by intro _;rfl):PG X (.Subscript o i pos) (aD7 to ti t):=by
 intro a s σ H v u Q I r h;rw [ha];refine wpAny_bind (wpAny_holding (thn (ho a s σ H _ I h) λov j ⟨x,H1,I1,c,m⟩=>?_));refine wpAny_bind (wpAny_holding (thn (hi a j σ H1 _ I1 m) λiv l ⟨y,H2,I2,e,b⟩=>?_));refine wpAny_bind (wpAny_standAt (wpAny_bind (wpAny_holding (thn (hs a l σ H2 x y v ov iv u _ I2 c e r b) λ_ n ⟨H3,I3,d⟩=>?_))));exact wpAny_release ⟨σ,H3,I3,d⟩
def NZ(te:TE)(g:TG):TS:=λD σ H=>te σ H λx H1=>g x σ H1 D.nx
theorem aB5{tg e:Expr}{te:TE}{g:TG}(he:PE X e te)(hg:PG X tg g)(hs:swapsWithSole [tg] e pos.line X.env=pure false:=by rfl)(hw:swappedStores [tg] e X.env=pure none:=by rfl)
  (h1:(assignEach [tg] X.env).map (·.2)=[assign tg X.env]:=by rfl):PS X (.Assign [tg] e pos) (NZ te g):=by
 intro a s σ H D I h;refine wpAny_Assign_stores (thn (he a s σ H _ I h) λv d ⟨x,H1,I1,b,c⟩=>?_) hs hw;rw [h1];exact thn (hg a d σ H1 x v _ I1 b c) λ_ i q=>q
theorem aB0{i:Nat}{x:Str}{e:Expr}{te:TE}{pos':Pos}(hN:X.N.Nodup)(hi:X.N[i]?=some x)(hx:Loc X.env.scope x)(he:PE X e te)(hs:swapsWith e (some (.Name x pos')) pos.line X.env=pure false:=by rfl)(hf:X.fn x=true\/X.env.scope.names.lookup x=some .local:=by first | exact .inl rfl | exact .inr rfl | assumption) :
  PS X (.Assign [.Name x pos'] e pos) (NZ te (tL i)):=by
 intro a s σ H D I h;refine wpAny_Assign_Name (thn (he a s σ H _ I h) λv d ⟨y,H1,I1,b,c⟩=>?_) hs;exact pO I1 hN hi hx b (λj I2=>⟨_,H1,I2,c⟩) hf
def aDr(i j:Nat)(ta:TA):TS:=λD σ H=>ta σ H λvs H1=>∃v w,vs=[v,w]/\D.nx ((σ.set i (some v)).set j (some w)) H1
theorem aB2{i j:Nat}{x y:Str}{a b:Expr}{ta:TA}{px py pt:Pos}{kt k2 pt2}(hc:X.calm=true)(hN:X.N.Nodup)(hi:X.N[i]?=some x)(hj:X.N[j]?=some y)(hij:i≠j)
  (hx:X.env.scope.names.lookup x=some .local) (hy:X.env.scope.names.lookup y=some .local) (ha:PA X [a,b] ta)
  (hw:swappedStores [.Tuple [.Name x px,.Name y py] kt pt] (.Tuple [a,b] k2 pt2) X.env=pure (some [x,y]))
  (hs:swapsWithSole [.Tuple [.Name x px,.Name y py] kt pt] (.Tuple [a,b] k2 pt2) pos.line X.env=pure false:=by rfl) :
  PS X (.Assign [.Tuple [.Name x px,.Name y py] kt pt] (.Tuple [a,b] k2 pt2) pos) (aDr i j ta):=by
 intro c s σ H D I h;rw [exec_Assign_arm];refine wpAny_bind (wpAny_standAt ?_);rw [hs];refine wpAny_bind (wpAny_pure ?_);rw [if_neg Dd];refine wpAny_bind (Tuple_ (thn (ha _ c s σ H _ I h) λB d ⟨G,H1,I1,u,n⟩=>?_));obtain ⟨v,w,z,n⟩:=n;subst z;obtain ⟨u1,l,rfl,rv,m⟩:∃u1 l,B=[u1,l]/\eI v u1/\eI w l:=by
  cases u with
  | cons p q =>
   cases q with
   | cons p' q' =>
    cases q';exact ⟨_,_,rfl,p,p'⟩
 refine wpAny_newObj_type ?_ (by show 2<=sizeLine;decide);have I2:cO X c σ H1 { d with heap:=d.heap.push { cls:=.type "tuple",data:=.seq [u1,l].toArray } }:=I1.kept (t':=d.toks) λb o e=>aD _ e;rw [hw];refine wpAny_bind (wpAny_pure ?_);show wpAny (model X.prog X.w) X.A (do rule "assign.swapped-stores";let items <-unpackItems (.ref d.heap.objs.size) 2 none;assignInOrder [λv=>bindName X.env y v,λv=>bindName X.env x v] items.reverse;pure Flow.next) _ _ _;refine wpAny_bind (wpAny_rule (wpAny_bind (unpackItems_tuple (items:=#[u1,l]) (I.ok.hd hc) (IsTup.new d.heap _) λh' r=>?_)));have I3:=I2.kept (h':=h') (t':=d.toks) λb o e=>r b o (dH (bC e)) e;show wpAny _ _ (assignInOrder [λv=>bindName X.env y v,λv=>bindName X.env x v] [l,u1] >>= λ_=>pure Flow.next) _ _ _;refine wpAny_bind (assignInOrder_cons (wpAny_bindName (pO I3 hN hj (.inl hy) m (λJ I4=>?_) (.inr hy))));refine assignInOrder_cons (wpAny_bindName (pO I4 hN hi (.inl hx) rv (λC I5=>assignInOrder_nil (wpAny_pure ?_)) (.inr hx)));rw [List.set_comm _ _ (Ne.symm hij)] at I5;exact ⟨_,H1,I5,n⟩
end
section
variable{X:Cx}{pos:Pos}
def CG(c:TT)(tb:TS):TS:=λD σ H=>∃W:Nat->St->Hp->Prop,(∃m,W m σ H)/\∀m σ H,W m σ H ->
 c σ H λb H1=>if b=true then ∃N:St->Hp->Prop,(∀σ' H',N σ' H'->∃m',m' < m/\W m' σ' H')/\tb { D with nx:=N,ct:=N,bk:=D.nx } σ H1 else D.nx σ H1
theorem TH{c:Expr}{body:List Stmt}{tc:TT}{tb:TS}(hp:PassesOwn (model X.prog X.w) X.A X.env X.xe)(hc:PT X c tc)(hb:KA X body tb):PS X (.While c body [] pos) (CG tc tb):=by
 intro a s σ H D I h;obtain ⟨W,⟨C,B⟩,e⟩:=h;refine wpAny_While (codeAny_whileLoop (λn y=>∃σ' H',cO X a σ' H' y/\W n σ' H') ?_ C ⟨σ,H,I,B⟩);rintro n z ⟨l,H1,I1,x⟩;refine wpAny_passesOwn hp (thn (hc a z l H1 _ I1 (e n l H1 x)) λb G ⟨H2,I2,i⟩=>?_);cases b with
 | true =>
  obtain ⟨N,u,i⟩:=i;rw [if_pos rfl];refine wpAny_passesOwn hp (thn (hb a G l H2 _ I2 i) λf J j=>?_);cases f with
  | next =>
   obtain ⟨d,H3,I3,p⟩:=j;obtain ⟨m,o,r⟩:=u d H3 p;exact ⟨m,o,d,H3,I3,r⟩
  | cont =>
   obtain ⟨d,H3,I3,p⟩:=j;obtain ⟨m,o,r⟩:=u d H3 p;exact ⟨m,o,d,H3,I3,r⟩
  | brk=>exact j
  | ret v=>exact j
 | false =>
  rw [if_neg bQ];exact wpAny_execs_nil ⟨l,H2,I2,i⟩
end
structure It where
 go:Nat->Hp->Prop
 yld:Nat->Hp->V->Hp->Prop
 stop:Nat->Hp->Prop
def kN(X:Cx)(pins:List (Addr × Obj))(H:Hp)(b:Addr):Prop :=
 H b=none/\b≠X.env.locals/\b ∉ X.fs/\(b∈X.ex\/X.s₀.heap.objs.size<=b)/\(∀x c,X.env.cells.lookup x=some c->c≠b)/\∀p∈X.pn++pins,p.1≠b
theorem cO.fpOk{X:Cx}{pins:List (Addr × Obj)}{σ:St}{H H':Hp}{s:Shared}{b:Addr}(I:cO X pins σ H s)(hb:s.heap.objs.size<=b)(hn:H' b=none):kN X pins H' b:=by
 refine ⟨hn,Nat.ne_of_gt (bH I.lt hb),I.nofs hb,.inr (aZ I.sz hb),λx c e z=>?_,λp a z=>?_⟩
 ·obtain ⟨v,q⟩:=I.cell x c e;exact absurd (bH q.lt (by rw [z];exact hb)) (cH _)
 ·exact absurd (bH (bC (I.pin p a).1) (by rw [z];exact hb)) (cH _)
structure EM(P:Program)(w:World)(K:KFr)(tg:Expr)(J:It)(fp:List Addr)(it:Addr)(tn:Nat->Heap->Prop):Prop where
 mem:it∈fp
 obj:∀i h,tn i h->∀b∈fp,∃o,h.get? b=some o/\∀v,o.data ≠ .cell v
 keep:∀i h h',tn i h->(∀b∈fp,∀o,h.get? b=some o->h'.get? b=some o)->tn i h'
 item:∀(X:Cx),X.prog=P->X.w=w->X.K=K->X.calm=true->∀(i:Nat) (pins:List (Addr × Obj)) (s:Shared) (σ:St) (H:Hp) (E:Value->Shared->Prop),cO X pins σ H s->(∀b∈fp,kN X pins H b)->tn i s.heap->J.go i H ->
  wpAny (model P w) X.A (pyNext (.ref it)) (λr s1=>∃u,r=some u /\
   wpAny (model P w) X.A (letOwnedTupleGo tg (.ref it) u) (λ_ s2=>∃x H',cO X pins σ H' s2/\eI x u/\J.yld i H x H'/\tn (i+1) s2.heap/\∀b∈fp,H' b=none) E s1) E s
 done:∀(X:Cx),X.prog=P->X.w=w->X.K=K->X.calm=true->∀(i:Nat) (pins:List (Addr × Obj)) (s:Shared) (σ:St) (H:Hp) (E:Value->Shared->Prop),cO X pins σ H s->(∀b∈fp,kN X pins H b)->tn i s.heap->J.stop i H ->
  wpAny (model P w) X.A (pyNext (.ref it)) (λr s1=>r=none/\cO X pins σ H s1) E s
 self:∀(A:Around) (i:Nat) (s:Shared) (Q:Value->Shared->Prop) (E:Value->Shared->Prop),tn i s.heap->Q (.ref it) s->wpAny (model P w) A (pyIter (.ref it)) Q E s
abbrev TI:=St->Hp->(It->Hp->Prop)->Prop
def PIE(X:Cx)(pins:List (Addr × Obj))(σ:St)(tg:Expr)(R:It->Hp->Prop)(itv:Value)(s2:Shared):Prop :=
 ∃(it:Addr) (fp:List Addr) (tn:Nat->Heap->Prop) (J:It) (H':Hp),itv=.ref it/\cO X pins σ H' s2/\EM X.prog X.w X.K tg J fp it tn/\tn 0 s2.heap/\(∀b∈fp,kN X pins H' b)/\R J H'
def PI(X:Cx)(tg iter:Expr)(wi:TI):Prop :=
 ∀(pins:List (Addr × Obj)) (s:Shared) (σ:St) (H:Hp) (R:It->Hp->Prop),cO X pins σ H s->wi σ H R ->
  wpAny (model X.prog X.w) X.A (eval iter X.env) (λv s1=>wpAny (model X.prog X.w) X.A (pyIter v) (PIE X pins σ tg R) X.xe s1) X.xe s
theorem UR{M:Model}{A:Around}{E:Value->Shared->Prop}{s:Shared}{tg:Expr}{it:Addr}{u:Value}{o:Obj}{n:String}{vs:Array Value}{Q:Unit->Shared->Prop}(ho:s.heap.get? it=some o)(hc:o.cls=.type n)(hd:o.data=.fields vs)
    (hn:["enumerate","zip","dict_itemiterator","dict_reverseitemiterator","odict_iterator","itertools.zip_longest","itertools.pairwise"].contains n=false) (hQ:Q () s):wpAny M A (letOwnedTupleGo tg (.ref it) u) Q E s:=by
  unfold letOwnedTupleGo;cases tg <;> first
    | exact wpAny_pure hQ
    | (cases u <;> first
        | exact wpAny_pure hQ
        | (refine wpAny_bind (wpAny_load ho ?_)
           rw [hc,hd];show wpAny M A (if (["enumerate","zip","dict_itemiterator","dict_reverseitemiterator","odict_iterator","itertools.zip_longest","itertools.pairwise"].contains n&&vs[0]? == some (rawInt _))=true then _ else _) Q E s;rw [if_neg (by intro h;rw [hn,Bool.false_and] at h;cases h)];exact wpAny_pure hQ))
def Itl(K:KFr)(a:Addr):It :=
 ⟨λi H=>∃xs x,fY K H a xs/\xs[i]?=some x,λi H x H'=>H'=H/\∀xs,fY K H a xs->xs[i]?=some x,λi H=>∃xs,fY K H a xs/\xs.length<=i⟩
def Itt(K:KFr)(a:Addr):It :=
 ⟨λi H=>∃xs x,fN K H a xs/\xs[i]?=some x,λi H x H'=>H'=H/\∀xs,fN K H a xs->xs[i]?=some x,λi H=>∃xs,fN K H a xs/\xs.length<=i⟩
def Itr(lo:Int)(n:Nat):It:=⟨λi _=>i<n,λi H x H'=>H'=H/\x=.int (lo+i),λi _=>n<=i⟩
theorem NW{P:Program}{w:World}{K:KFr}{tg:Expr}(a it:Addr):EM P w K tg (Itl K a) [it] it (λi h=>h.IsListIter it a i) where
 mem:=by simp
 obj:=λi h j b m=>by
  have e:b=it:=by simpa using m
  subst e;obtain ⟨o,e,c,d⟩:=j;exact ⟨o,e,λv z=>by rw [d] at z;cases z⟩
 keep:=λi h r j k=>j.at λo e=>k it (by simp) o e
 item:=by
  intro X M B C T i l s σ H E I A j G;subst M B C;obtain ⟨Z,x,y,S⟩:=G;obtain ⟨D,rv,p,γ⟩:=I.list y;obtain ⟨u,δ,U⟩:=rv.get S;obtain ⟨L,J,α,O,R,N⟩:=A it (by simp);refine wpAny_pyNext_list_item j p.isList (x:=u) (by simpa using δ) λr n ε=>?_;have I1:cO X l σ H { s with heap:=r }:=I.turned (t':=s.toks) (λb o m e=>(ε.2 b m).trans e) L J O R N;obtain ⟨o,e,c,d⟩:=id n;exact ⟨u,rfl,UR (s:={ s with heap:=r }) e c d Dd ⟨x,H,I1,U,⟨rfl,λη Y=>by rw [I.list_inj Y y];exact S⟩,n,λb m=>(A b m).1⟩⟩
 done:=by
  intro X M B C T i l s σ H E I A j G;subst M B C;obtain ⟨Z,y,S⟩:=G;obtain ⟨D,rv,p,γ⟩:=I.list y;obtain ⟨L,J,α,O,R,N⟩:=A it (by simp);have ζ:=rv.length;exact wpAny_pyNext_list_end (I.ok.hd T) j p.isList (by simp;omega) λr β=>⟨rfl,I.turned (t':=s.toks) (λb o m e=>β b o m e) L J O R N⟩
 self:=λ_ _ _ _ _ j h=>wpAny_pyIter_listiter j h
theorem ID{P:Program}{w:World}{K:KFr}{tg:Expr}(a it:Addr):EM P w K tg (Itt K a) [it] it (λi h=>h.IsTupleIter it a i) where
 mem:=by simp
 obj:=λi h j b n=>by
  have e:b=it:=by simpa using n
  subst e;obtain ⟨o,e,c,d⟩:=j;exact ⟨o,e,λv z=>by rw [d] at z;cases z⟩
 keep:=λi h y j k=>j.at λo e=>k it (by simp) o e
 item:=by
  intro X M C D T i l s σ H E I B j G;subst M C D;obtain ⟨Z,x,A,S⟩:=G;obtain ⟨m,rv,p,γ⟩:=I.tuple A;obtain ⟨u,δ,U⟩:=rv.get S;obtain ⟨L,J,α,O,R,N⟩:=B it (by simp);refine wpAny_pyNext_tuple_item j (show s.heap.IsTuple a m.toArray from p) (x:=u) (by simpa using δ) λy r ε=>?_;have I1:cO X l σ H { s with heap:=y }:=I.turned (t':=s.toks) (λb o n e=>(ε.2 b n).trans e) L J O R N;obtain ⟨o,e,c,d⟩:=id r;exact ⟨u,rfl,UR (s:={ s with heap:=y }) e c d Dd ⟨x,H,I1,U,⟨rfl,λη Y=>by rw [I.tuple_inj Y A];exact S⟩,r,λb n=>(B b n).1⟩⟩
 done:=by
  intro X M C D T i l s σ H E I B j G;subst M C D;obtain ⟨Z,A,S⟩:=G;obtain ⟨m,rv,p,γ⟩:=I.tuple A;obtain ⟨L,J,α,O,R,N⟩:=B it (by simp);have ζ:=rv.length;exact wpAny_pyNext_tuple_end (I.ok.hd T) j (show s.heap.IsTuple a m.toArray from p) (by simp;omega) λy β=>⟨rfl,I.turned (t':=s.toks) (λb o n e=>β b o n e) L J O R N⟩
 self:=λ_ _ _ _ _ j h=>wpAny_pyIter_tupleiter j h
theorem IE{P:Program}{w:World}{K:KFr}{tg:Expr}(it:Addr)(lo:Int)(n:Nat):EM P w K tg (Itr lo n) [it] it (λi h=>IsRangeIter h it (lo+(i:Nat)*1) ((n:Int)-(i:Nat)) 1) where
 mem:=by simp
 obj:=λi h a b d=>by
  have e:b=it:=by simpa using d
  subst e;exact ⟨_,a,λv z=>by
   have L:Data.fields _=Data.cell v:=z;cases L⟩
 keep:=λi h l a k=>k it (by simp) _ a
 item:=by
  intro X A p r u i c s σ H E I m a x;subst A p r;obtain ⟨B,y,O,D,G,C⟩:=m it (by simp);have W:=Walks.range (prog:=X.prog) (w:=X.w) (I.ok.hd u) it lo 1 n;refine W.item i s _ _ x a λv l J M j N=>?_;obtain ⟨t,rfl⟩:=M;have I1:cO X c σ H { s with heap:=l,toks:=J }:=I.turned (λb o d e=>N b o (by simpa using d) e) B y D G C;refine ⟨_,rfl,UR (s:={ s with heap:=l,toks:=J }) (n := "range_iterator") j rfl rfl Dd ⟨.int (lo+i),H,I1,⟨t,?_⟩,⟨rfl,rfl⟩,j,λb d=>(m b d).1⟩⟩;rw [Int.mul_one]
 done:=by
  intro X A p r u i c s σ H E I m a x;subst A p r;obtain ⟨B,y,O,D,G,C⟩:=m it (by simp);exact wpAny_pyNext_range_end (I.ok.hd u) a (by have:n<=i:=x;omega) λl R=>⟨rfl,I.turned (t':=s.toks) (λb o d e=>R b o d e) B y D G C⟩
 self:=λ_ _ _ _ _ a h=>wpAny_pyIter_rangeiter a h
section
variable{X:Cx}{tg:Expr}
def aA2(K:KFr)(tl:TE):TI:=λσ H R=>tl σ H λx H1=>∃a,x=.ref a/\(∃xs,fY K H1 a xs)/\R (Itl K a) H1
def aD5(K:KFr)(tl:TE):TI:=λσ H R=>tl σ H λx H1=>∃a,x=.ref a/\(∃xs,fN K H1 a xs)/\R (Itt K a) H1
theorem YR{l:Expr}{tl:TE}(hl:PE X l tl):PI X tg l (aA2 X.K tl):=by
 intro c s σ H R I h;refine thn (hl c s σ H _ I h) λv d ⟨x,H1,I1,i,r⟩=>?_;obtain ⟨a,e,⟨u,j⟩,q⟩:=r;subst e;cases i;obtain ⟨m,rv,p,w⟩:=I1.list j;refine wpAny_pyIter_list p.isList ⟨d.heap.objs.size,[d.heap.objs.size],_,_,H1,rfl,I1.kept (t':=d.toks) λb o e=>aD _ e,NW a _,⟨_,aX _ rfl,rfl,rfl⟩,λb n=>?_,q⟩;have e:b=d.heap.objs.size:=by simpa using n
 subst e;exact I1.fpOk (aE _) (I1.hok.fresh (aE _))
theorem aB8{l:Expr}{tl:TE}(hl:PE X l tl):PI X tg l (aD5 X.K tl):=by
 intro c s σ H R I h;refine thn (hl c s σ H _ I h) λv d ⟨x,H1,I1,j,r⟩=>?_;obtain ⟨a,e,⟨u,m⟩,q⟩:=r;subst e;cases j;obtain ⟨i,rv,p,w⟩:=I1.tuple m;refine wpAny_pyIter_tuple (show d.heap.IsTuple a i.toArray from p) ⟨d.heap.objs.size,[d.heap.objs.size],_,_,H1,rfl,I1.kept (t':=d.toks) λb o e=>aD _ e,ID a _,⟨_,aX _ rfl,rfl,rfl⟩,λb n=>?_,q⟩;have e:b=d.heap.objs.size:=by simpa using n
 subst e;exact I1.fpOk (aE _) (I1.hok.fresh (aE _))
theorem FT{pins:List (Addr × Obj)}{σ:St}{H:Hp}{s:Shared}{R:It->Hp->Prop}{E:Value->Shared->Prop}{lo hi:Int}{t u v:Tok}{tk:Nat}(I:cO X pins σ H s)(h1:-(2^62)<=lo)(h2:lo<2^62)(h3:-(2^62)<=hi)(h4:hi<2^62)
  (q:R (Itr lo (hi-lo).toNat) H):wpAny (model X.prog X.w) X.A (pyIter (.ref s.heap.objs.size)) (PIE X pins σ tg R) E { s with heap:=s.heap.push { cls:=.type "range",data:=.fields #[.int lo t,.int hi u,.int 1 v] },toks:=tk }:=by
 refine wpAny_pyIter_range (IsRange.new ..) (small_one h1 h2 h3 h4) ?_;have I1:cO X pins σ H { s with heap:=s.heap.push { cls:=.type "range",data:=.fields #[.int lo t,.int hi u,.int 1 v] },toks:=tk }:=I.kept λb o e=>aD _ e;refine ⟨(s.heap.push { cls:=.type "range",data:=.fields #[.int lo t,.int hi u,.int 1 v] }).objs.size,[(s.heap.push { cls:=.type "range",data:=.fields #[.int lo t,.int hi u,.int 1 v] }).objs.size],_,_,H,rfl,
  I1.kept (t':=tk) λb o e=>aD _ e,IE _ lo (hi-lo).toNat,?_,λb d=>?_,q⟩
 ·have a:lo+((0:Nat):Int)*1=lo:=by simp
  have c:(((hi-lo).toNat:Nat):Int)-((0:Nat):Int)=Builtin.Range.rangeSize lo hi 1:=by rw [rangeSize_one];split <;> omega
  show IsRangeIter _ _ (lo+((0:Nat):Int)*1) ((((hi-lo).toNat:Nat):Int)-((0:Nat):Int)) 1;rw [a,c];exact aX _ rfl
 ·have e:b=(s.heap.push { cls:=.type "range",data:=.fields #[.int lo t,.int hi u,.int 1 v] }).objs.size:=by simpa using d
  subst e;exact I1.fpOk (aE _) (I1.hok.fresh (aE _))
def aA1(ta:TA):TI:=λσ H R=>ta σ H λvs H1=>∃j:Int,vs=[.int j]/\-(2^62)<=j/\j<2^62/\R (Itr 0 j.toNat) H1
def aA0(ta:TA):TI:=λσ H R=>ta σ H λvs H1=>∃i j:Int,vs=[.int i,.int j]/\(-(2^62)<=i/\i<2^62/\-(2^62)<=j/\j<2^62)/\R (Itr i (j-i).toNat) H1
theorem OP{a:Expr}{ta:TA}{p pos:Pos}(hg:Gl X "range")(hm:X.mg "range" = none)(ha:PA X [a] ta)(hs:starEach [a] X.env=[(false,eval a X.env)]:=by rfl):PI X tg (.Call (.Name "range" p) [a] [] pos) (aA1 ta):=by
 intro b s σ H R I h;refine Call_ (uZ I hg hm boot_range (PyProof.Rows.callWith_type1 (thn (ha pos b s σ H _ I h) λn l ⟨m,H1,I1,i,c⟩=>?_) hs rfl));obtain ⟨j,e,c,d,q⟩:=c;subst e;cases i with
 | cons r rr =>
  cases rr;obtain ⟨t,rfl⟩:=r;exact call_range_1 (FT I1 Oo Oo c d (by simpa using q))
theorem OO{a b:Expr}{ta:TA}{p pos:Pos}(hg:Gl X "range")(hm:X.mg "range" = none)(ha:PA X [a,b] ta)(hs:starEach [a,b] X.env=[(false,eval a X.env),(false,eval b X.env)]:=by rfl)(hs2:starEach [b] X.env=[(false,eval b X.env)]:=by rfl) :
  PI X tg (.Call (.Name "range" p) [a,b] [] pos) (aA0 ta):=by
 intro c s σ H R I h;refine Call_ (uZ I hg hm boot_range (PyProof.Rows.callWith_type1 (thn (ha pos c s σ H _ I h) λy u ⟨w,H1,I1,m,d⟩=>?_) (by rw [hs,hs2]) (by rw [hs2];rfl)));obtain ⟨i,j,e,⟨d,l,n,o⟩,q⟩:=d;subst e;cases m with
 | cons r rr =>
  cases rr with
  | cons r' rr =>
   cases rr;obtain ⟨t,rfl⟩:=r;obtain ⟨x,rfl⟩:=r';exact call_range_2 (FT I1 d l n o q)
def aDx(wi:TI)(g:TG)(tb:TS):TS:=λD σ H=>wi σ H λJ H1=>∃W:Nat->Nat->St->Hp->Prop,(∃m,W 0 m σ H1)/\∀i m σ H,W i m σ H ->
 (J.stop i H/\D.nx σ H)\/(J.go i H/\∃N:St->Hp->Prop,(∀σ' H',N σ' H'->∃m',m' < m/\W (i+1) m' σ' H')/\∀x H',J.yld i H x H'->g x σ H' λσ2 H2=>tb { D with nx:=N,ct:=N,bk:=D.nx } σ2 H2)
def uT(fp:List Addr)(h:Heap):List (Addr × Obj):=fp.filterMap λb=>(h.get? b).map λo=>(b,o)
theorem kJ{fp:List Addr}{h:Heap}{b:Addr}{o:Obj}(hb:b∈fp)(e:h.get? b=some o):(b,o)∈uT fp h:=List.mem_filterMap.mpr ⟨b,hb,by rw [e];rfl⟩
theorem OS{fp:List Addr}{h:Heap}{p:Addr × Obj}(hp:p∈uT fp h):p.1∈fp/\h.get? p.1=some p.2:=by
 obtain ⟨b,c,e⟩:=List.mem_filterMap.mp hp;cases q:h.get? b with
 | none=>rw [q] at e;cases e
 | some o =>
  rw [q] at e;have a:(b,o)=p:=dC e;subst a;exact ⟨c,q⟩
theorem cO.pinned{pins:List (Addr × Obj)}{σ:St}{H:Hp}{s:Shared}{fp:List Addr}(I:cO X pins σ H s)(hf:∀b∈fp,kN X pins H b)(ho:∀b∈fp,∃o,s.heap.get? b=some o/\∀v,o.data ≠ .cell v):cO X (pins++uT fp s.heap) σ H s :=
 I.pins_of λp i=>(eM.mp i).elim (λz=>I.pin p (bW _ z)) λz=>by
  obtain ⟨c,e⟩:=OS z;obtain ⟨j,l,h,_⟩:=hf p.1 c;obtain ⟨o,a,d⟩:=ho p.1 c;rw [e] at a;cases a;exact ⟨e,j,l,h,d⟩
theorem cO.unpinned{pins pl:List (Addr × Obj)}{σ:St}{H:Hp}{s:Shared}(I:cO X (pins++pl) σ H s):cO X pins σ H s:=I.pins_of λp a=>I.pin p (bW _ (cA _ a))
theorem aB3{iter:Expr}{body:List Stmt}{wi:TI}{g:TG}{tb:TS}{pos:Pos}(hp:PassesOwn (model X.prog X.w) X.A X.env X.xe)(hc:X.calm=true)(hi:PI X tg iter wi)(hg:PG X tg g)(hb:KA X body tb)
  (hs:∀x,foldedSetIterable iter X.env x=pure x:=by intro _;rfl):PS X (.For tg iter body [] pos) (aDx wi g tb):=by
 intro a s σ H D I h;refine wpAny_For (thn (hi a s σ H _ I h) λv s1 κ=>thn κ λφ s2 h2=>?_) hs;obtain ⟨it,C,β,J,H2,e,I2,T,U,γ,W,⟨ω,η⟩,B⟩:=h2;subst e;have c:∀{H':Hp},(∀b∈C,H' b=none)->∀b∈C,kN X a H' b:=λτ b hb=>⟨τ b hb,(γ b hb).2⟩;refine codeAny_forLoop_any (λn Z=>∃i σ' H',cO X a σ' H' Z/\β i Z.heap/\(∀b∈C,H' b=none)/\W i n σ' H') ?_ ω ⟨0,σ,H2,I2,U,λb hb=>(γ b hb).1,η⟩;rintro n α ⟨i,G,H3,I3,L,z,w3⟩;rcases B i n G H3 w3 with ⟨O,qn⟩ | ⟨ο,N,ρ,step⟩
 ·refine wpAny_passesOwn hp (thn (T.done X rfl rfl rfl hc i a α G H3 X.xe I3 (c z) L O) λr ι ⟨S,I4⟩=>?_);subst S;exact wpAny_execs_nil ⟨G,H3,I4,qn⟩
 ·refine wpAny_passesOwn hp (thn (T.item X rfl rfl rfl hc i a α G H3 X.xe I3 (c z) L ο) λr ι ⟨u,S,h4⟩=>?_);subst S;refine wpAny_passesOwn hp (thn h4 λ_ Y ⟨x,H5,I5,θ,ψ,y,P⟩=>?_);have I5':=I5.pinned (c P) (T.obj _ _ y);refine wpAny_passesOwn hp (thn (hg _ Y G H5 x u _ I5' θ (step x H5 ψ)) λ_ ν ⟨μ,H6,I6,χ⟩=>?_);refine wpAny_passesOwn hp (thn (hb _ ν μ H6 _ I6 χ) λf R p=>?_);have l:∀{j:St} {H7:Hp},cO X (a++uT C Y.heap) j H7 R->N j H7->∃m,m<n/\∃i σ' H',cO X a σ' H' R/\β i R.heap/\(∀b∈C,H' b=none)/\W i m σ' H':=λ{j H7} I7 M=>by
   obtain ⟨δ,ξ,ε⟩:=ρ j H7 M;refine ⟨δ,ξ,i+1,j,H7,I7.unpinned,T.keep _ _ _ y λb hb o e=>(I7.pin (b,o) (bW _ (bW _ (kJ hb e)))).1,λb hb=>?_,ε⟩;obtain ⟨o,e,d⟩:=T.obj _ _ y b hb;exact (I7.pin (b,o) (bW _ (bW _ (kJ hb e)))).2.1
  cases f with
  | next=>obtain ⟨j,H7,I7,M⟩:=p;exact l I7 M
  | cont=>obtain ⟨j,H7,I7,M⟩:=p;exact l I7 M
  | brk=>obtain ⟨j,H7,I7,p⟩:=p;exact ⟨j,H7,I7.unpinned,p⟩
  | ret v=>obtain ⟨ζ,j,H7,I7,υ,p⟩:=p;exact ⟨ζ,j,H7,I7.unpinned,υ,p⟩
end
theorem kZ{K:KFr}{a:Addr}{xs:List V}{g:TG}{tb:TS}{D:rQ}{σ:St}{H:Hp}(Pv:Nat->St->Hp->Prop)(h0:Pv 0 σ H)(hl:∀i σ H,i<=xs.length->Pv i σ H->fY K H a xs)
  (hs:∀i x σ H,xs[i]?=some x->Pv i σ H->g x σ H λσ2 H2=>tb { D with nx:=Pv (i+1),ct:=Pv (i+1),bk:=D.nx } σ2 H2) (hd:∀σ H,Pv xs.length σ H->D.nx σ H) :
  ∃W:Nat->Nat->St->Hp->Prop,(∃m,W 0 m σ H)/\∀i m σ H,W i m σ H ->
   ((Itl K a).stop i H/\D.nx σ H)\/((Itl K a).go i H/\∃N:St->Hp->Prop,(∀σ' H',N σ' H'->∃m',m' < m/\W (i+1) m' σ' H')/\∀x H',(Itl K a).yld i H x H'->g x σ H' λσ2 H2=>tb { D with nx:=N,ct:=N,bk:=D.nx } σ2 H2):=by
 refine ⟨λi m σ H=>m=xs.length-i/\i<=xs.length/\Pv i σ H,⟨xs.length,by simp,cC _,h0⟩,?_⟩;rintro i m σ H ⟨rfl,c,p⟩;have q:=hl i σ H c p;by_cases hlt:i<xs.length
 ·refine .inr ⟨⟨xs,xs[i],q,by simp [hlt]⟩,Pv (i+1),λσ' H' b=>⟨xs.length-(i+1),Oo,rfl,hlt,b⟩,λx H' y=>?_⟩;obtain ⟨e,y⟩:=y;subst e;exact hs i x σ _ (y xs q) p
 ·have e:i=xs.length:=Oo;subst e;exact .inl ⟨⟨xs,q,aE _⟩,hd σ H p⟩
theorem qZ{K:KFr}{a:Addr}{xs:List V}{g:TG}{tb:TS}{D:rQ}{σ:St}{H:Hp}(Pv:Nat->St->Hp->Prop)(h0:Pv 0 σ H)(hl:∀i σ H,i<=xs.length->Pv i σ H->fN K H a xs)
  (hs:∀i x σ H,xs[i]?=some x->Pv i σ H->g x σ H λσ2 H2=>tb { D with nx:=Pv (i+1),ct:=Pv (i+1),bk:=D.nx } σ2 H2) (hd:∀σ H,Pv xs.length σ H->D.nx σ H) :
  ∃W:Nat->Nat->St->Hp->Prop,(∃m,W 0 m σ H)/\∀i m σ H,W i m σ H ->
   ((Itt K a).stop i H/\D.nx σ H)\/((Itt K a).go i H/\∃N:St->Hp->Prop,(∀σ' H',N σ' H'->∃m',m' < m/\W (i+1) m' σ' H')/\∀x H',(Itt K a).yld i H x H'->g x σ H' λσ2 H2=>tb { D with nx:=N,ct:=N,bk:=D.nx } σ2 H2):=by
 refine ⟨λi m σ H=>m=xs.length-i/\i<=xs.length/\Pv i σ H,⟨xs.length,by simp,cC _,h0⟩,?_⟩;rintro i m σ H ⟨rfl,c,p⟩;have q:=hl i σ H c p;by_cases hlt:i<xs.length
 ·refine .inr ⟨⟨xs,xs[i],q,by simp [hlt]⟩,Pv (i+1),λσ' H' b=>⟨xs.length-(i+1),Oo,rfl,hlt,b⟩,λx H' y=>?_⟩;obtain ⟨e,y⟩:=y;subst e;exact hs i x σ _ (y xs q) p
 ·have e:i=xs.length:=Oo;subst e;exact .inl ⟨⟨xs,q,aE _⟩,hd σ H p⟩
theorem iT{lo:Int}{n:Nat}{g:TG}{tb:TS}{D:rQ}{σ:St}{H:Hp}(Pv:Nat->St->Hp->Prop)(h0:Pv 0 σ H)
  (hs:∀i σ H,i<n->Pv i σ H->g (.int (lo+i)) σ H λσ2 H2=>tb { D with nx:=Pv (i+1),ct:=Pv (i+1),bk:=D.nx } σ2 H2) (hd:∀σ H,Pv n σ H->D.nx σ H) :
  ∃W:Nat->Nat->St->Hp->Prop,(∃m,W 0 m σ H)/\∀i m σ H,W i m σ H ->
   ((Itr lo n).stop i H/\D.nx σ H)\/((Itr lo n).go i H/\∃N:St->Hp->Prop,(∀σ' H',N σ' H'->∃m',m' < m/\W (i+1) m' σ' H')/\∀x H',(Itr lo n).yld i H x H'->g x σ H' λσ2 H2=>tb { D with nx:=N,ct:=N,bk:=D.nx } σ2 H2):=by
 refine ⟨λi m σ H=>m=n-i/\i<=n/\Pv i σ H,⟨n,by simp,cC _,h0⟩,?_⟩;rintro i m σ H ⟨rfl,b,p⟩;by_cases hlt:i<n
 ·refine .inr ⟨hlt,Pv (i+1),λσ' H' a=>⟨n-(i+1),Oo,rfl,hlt,a⟩,λx H' y=>?_⟩;obtain ⟨e,y⟩:=y;subst e y;exact hs i σ _ hlt p
 ·have e:i=n:=Oo;subst e;exact .inl ⟨aE _,hd σ H p⟩
abbrev R2:=V->V->Hp->VK->Prop
def rH(X:Cx)(f:Value->Value->Sem Value)(r:R2):Prop :=
 ∀(pins:List (Addr × Obj)) (s:Shared) (σ:St) (H:Hp) (x y:V) (v u:Value) (Q:VK),cO X pins σ H s->eI x v->eI y u->r x y H Q ->
  wpAny (model X.prog X.w) X.A (f v u) (EP X pins σ Q) X.xe s
def UnR(X:Cx)(f:Value->Sem Value)(r:V->Hp->VK->Prop):Prop :=
 ∀(pins:List (Addr × Obj)) (s:Shared) (σ:St) (H:Hp) (x:V) (v:Value) (Q:VK),cO X pins σ H s->eI x v->r x H Q ->
  wpAny (model X.prog X.w) X.A (f v) (EP X pins σ Q) X.xe s
def jO(X:Cx)(f:Value)(r:List V->Hp->VK->Prop):Prop :=
 ∀(pins:List (Addr × Obj)) (s:Shared) (σ:St) (H:Hp) (xs:List V) (us:List Value) (Q:VK),cO X pins σ H s->eE xs us->r xs H Q ->
  wpAny (model X.prog X.w) X.A (call f us) (EP X pins σ Q) X.xe s
def XE(r:R2)(ta tb:TE):TE:=λσ H Q=>ta σ H λx H1=>tb σ H1 λy H2=>r x y H2 Q
def tUn(r:V->Hp->VK->Prop)(ta:TE):TE:=λσ H Q=>ta σ H λx H1=>r x H1 Q
def rI(C:Int->Int->Prop)(g:Int->Int->V):R2:=λx y H Q=>∃i j,x=.int i/\y=.int j/\C i j/\Q (g i j) H
def rI0(g:Int->Int->V):R2:=λx y H Q=>∃i j,x=.int i/\y=.int j/\Q (g i j) H
def rU(g:Int->V):V->Hp->VK->Prop:=λx H Q=>∃i,x=.int i/\Q (g i) H
section
variable{X:Cx}{a b c:Expr}{ta tb tc:TE}{pos:Pos}
theorem aC2(ha:PE X a ta)(hb:PE X b tb){pins:List (Addr × Obj)}{s:Shared}{σ:St}{H:Hp}{R:V->V->Hp->Prop}(I:cO X pins σ H s)
  (h:ta σ H λx H1=>tb σ H1 λy H2=>R x y H2) {Q:Value->Shared->Prop} {f:Value->Value->Sem Value}
  (hf:∀v u s2 x y H2,cO X pins σ H2 s2->eI x v->eI y u->R x y H2->wpAny (model X.prog X.w) X.A (f v u) Q X.xe s2) :
  wpAny (model X.prog X.w) X.A (eval a X.env) (λv s₁=>wpAny (model X.prog X.w) X.A (eval b X.env) (λu s₂=>wpAny (model X.prog X.w) X.A (f v u) Q X.xe s₂) X.xe s₁) X.xe s:=by
 exact thn (ha pins s σ H _ I h) λv j ⟨x,H1,I1,d,e⟩=>thn (hb pins j σ H1 _ I1 e) λu s2 ⟨y,H2,I2,i,c⟩=>hf v u s2 x y H2 I2 d i c
theorem aDU{op:Operator}{r:R2}(ho:rH X (binaryOp op) r)(ha:PE X a ta)(hb:PE X b tb):PE X (.BinOp a op b pos) (XE r ta tb):=by
 intro c s σ H Q I h;exact wpAny_BinOp (aC2 ha hb I h λv u i x y H2 I2 d e q=>ho c i σ H2 x y v u Q I2 d e q)
theorem aDT{op:UnaryOp}{r:V->Hp->VK->Prop}(ho:UnR X (unaryOp op) r)(ha:PE X a ta):PE X (.UnaryOp op a pos) (tUn r ta):=by
 intro b s σ H Q I h;exact UnaryOp_ (thn (ha b s σ H _ I h) λv e ⟨x,H1,I1,c,d⟩=>ho b e σ H1 x v Q I1 c d)
theorem opI{f:Value->Value->Sem Value}{C:Int->Int->Prop}{g:Int->Int->Int}
  (rule:∀(i j:Int) (t u:Tok) (s:Shared) (Q:Value->Shared->Prop) (E:Value->Shared->Prop),C i j->Q (.int (g i j) s.toks) { s with toks:=s.toks+1 }->wpAny (model X.prog X.w) X.A (f (.int i t) (.int j u)) Q E s) :
  rH X f (rI C λi j=>.int (g i j)):=by
 intro a s σ H x y v u Q I b e h;obtain ⟨i,j,rfl,rfl,c,q⟩:=h;obtain ⟨t,rfl⟩:=b;obtain ⟨d,rfl⟩:=e;exact rule i j t d s _ _ c ⟨.int (g i j),H,I.tok _,⟨_,rfl⟩,q⟩
theorem aD1{f:Value->Value->Sem Value}{g:Int->Int->Int}
  (rule:∀(i j:Int) (t u:Tok) (s:Shared) (Q:Value->Shared->Prop) (E:Value->Shared->Prop),Q (.int (g i j) s.toks) { s with toks:=s.toks+1 }->wpAny (model X.prog X.w) X.A (f (.int i t) (.int j u)) Q E s) :
  rH X f (rI0 λi j=>.int (g i j)):=by
 intro a s σ H x y v u Q I b d h;obtain ⟨i,j,rfl,rfl,q⟩:=h;obtain ⟨t,rfl⟩:=b;obtain ⟨c,rfl⟩:=d;exact rule i j t c s _ _ ⟨.int (g i j),H,I.tok _,⟨_,rfl⟩,q⟩
theorem ZB{f:Value->Value->Sem Value}{g:Int->Int->Bool}
  (rule:∀(i j:Int) (t u:Tok) (s:Shared) (Q:Value->Shared->Prop) (E:Value->Shared->Prop),Q (.bool (g i j)) s->wpAny (model X.prog X.w) X.A (f (.int i t) (.int j u)) Q E s) :
  rH X f (rI0 λi j=>.bl (g i j)):=by
 intro a s σ H x y v u Q I b d h;obtain ⟨i,j,rfl,rfl,q⟩:=h;obtain ⟨t,rfl⟩:=b;obtain ⟨c,rfl⟩:=d;exact rule i j t c s _ _ ⟨.bl (g i j),H,I,rfl,q⟩
def aGg(i j:Int):Prop:=0<=j/\j<=1000000/\i.natAbs<2^64
theorem fL:rH X (binaryOp .Add) (rI0 λi j=>.int (i+j)):=aD1 λ_ _ _ _ _ _ _ q=>add_int q
theorem yE:rH X (binaryOp .Sub) (rI0 λi j=>.int (i-j)):=aD1 λ_ _ _ _ _ _ _ q=>sub_int q
theorem mY:rH X (binaryOp .Mod) (rI (λ_ j=>0<j) λi j=>.int (i % j)):=opI λi j _ _ _ _ _ a q=>by
 have b:(0:Int)<j:=a;exact mod_int' Oo (by rw [Int.fmod_eq_emod_of_nonneg i Oo];exact q)
theorem aCj:rH X (binaryOp .Pow) (rI aGg λi j=>.int (i^j.toNat)):=opI λ_ _ _ _ _ _ _ a q=>pow_int_small a.1 a.2.1 a.2.2 q
theorem unI{f:Value->Sem Value}{g:Int->Int}
  (rule:∀(i:Int) (t:Tok) (s:Shared) (Q:Value->Shared->Prop) (E:Value->Shared->Prop),Q (.int (g i) s.toks) { s with toks:=s.toks+1 }->wpAny (model X.prog X.w) X.A (f (.int i t)) Q E s) :
  UnR X f (rU λi=>.int (g i)):=by
 intro a s σ H x v Q I b h;obtain ⟨i,rfl,q⟩:=h;obtain ⟨t,rfl⟩:=b;exact rule i t s _ _ ⟨.int (g i),H,I.tok _,⟨_,rfl⟩,q⟩
theorem CC:UnR X (unaryOp .USub) (rU λi=>.int (-i)):=unI λ_ _ _ _ _ q=>neg_int q
end
def scal:V->V->Bool
 | .non,.non=>true | .non,.int _=>true | .int _,.non=>true | .non,.bl _=>true | .bl _,.non=>true | .non,.str _=>true | .str _,.non=>true
 | .int _,.int _=>true | .bl _,.bl _=>true | .str _,.str _=>true | .byt _,.byt _=>true
 | .int _,.str _=>true | .str _,.int _=>true | .bl _,.str _=>true | .str _,.bl _=>true
 | _,_=>false
def rEq:R2:=λx y H Q=>scal x y=true/\Q (.bl (decide (x=y))) H
def rNe:R2:=λx y H Q=>scal x y=true/\Q (.bl (!decide (x=y))) H
theorem MQ{i j:Int}:decide (V.int i=V.int j)=(i == j):=by
 rw [Bool.eq_iff_iff];simp
theorem VA{i j:Bool}:decide (V.bl i=V.bl j)=(i == j):=by
 rw [Bool.eq_iff_iff];simp
theorem MP{i j:Str}:decide (V.str i=V.str j)=(i == j):=by
 rw [Bool.eq_iff_iff];simp
theorem MR{i j:Array UInt8}:decide (V.byt i=V.byt j)=(i.toList == j.toList):=by
 rw [Bool.eq_iff_iff];cases i;cases j;simp
section
variable{X:Cx}{a b c:Expr}{ta tb tc:TE}{pos:Pos}
theorem eQ{pins:List (Addr × Obj)}{σ:St}{H:Hp}{s:Shared}{Q:VK}{k k':Bool}(I:cO X pins σ H s)(q:Q (.bl k) H)(e:k=k'):EP X pins σ Q (.bool k') s:=by
 subst e;exact ⟨.bl k,H,I,rfl,q⟩
theorem AO:rH X (compareOp .Eq) rEq:=by
 intro e s σ H x y v u Q I d a h;obtain ⟨c,q⟩:=h;cases x with
 | non =>
  cases d;cases y with
  | non=>cases a;exact PySem.EqNone.eq_none_none (eQ I q (by simp))
  | bl j=>cases a;exact PySem.EqNone.eq_none_bool (eQ I q (by simp))
  | int j=>obtain ⟨b,rfl⟩:=a;exact PySem.EqNone.eq_none_int (eQ I q (by simp))
  | str j=>obtain ⟨b,rfl⟩:=a;exact PySem.EqNone.eq_none_str (eQ I q (by simp))
  | _=>exact absurd (show false=true from c) bQ
 | bl i =>
  cases d;cases y with
  | non=>cases a;exact PySem.EqNone.eq_bool_none (eQ I q (by simp))
  | bl j=>cases a;exact eq_bool (eQ I q VA)
  | str j=>obtain ⟨b,rfl⟩:=a;exact PySem.EqMixed.eq_bool_str (eQ I q (by simp))
  | _=>exact absurd (show false=true from c) bQ
 | int i =>
  obtain ⟨t,rfl⟩:=d;cases y with
  | non=>cases a;exact PySem.EqNone.eq_int_none (eQ I q (by simp))
  | int j=>obtain ⟨b,rfl⟩:=a;exact eq_int (eQ I q MQ)
  | str j=>obtain ⟨b,rfl⟩:=a;exact PySem.EqMixed.eq_int_str (eQ I q (by simp))
  | _=>exact absurd (show false=true from c) bQ
 | str i =>
  obtain ⟨t,rfl⟩:=d;cases y with
  | non=>cases a;exact PySem.EqNone.eq_str_none (eQ I q (by simp))
  | bl j=>cases a;exact PySem.EqMixed.eq_str_bool (eQ I q (by simp))
  | int j=>obtain ⟨b,rfl⟩:=a;exact PySem.EqMixed.eq_str_int (eQ I q (by simp))
  | str j=>obtain ⟨b,rfl⟩:=a;exact eq_str (eQ I q MP)
  | _=>exact absurd (show false=true from c) bQ
 | byt i =>
  obtain ⟨t,rfl⟩:=d;cases y with
  | byt j=>obtain ⟨b,rfl⟩:=a;exact PySem.W.eq_bytes (eQ I q MR)
  | _=>exact absurd (show false=true from c) bQ
 | _=>cases y <;> exact absurd (show false=true from c) bQ
theorem aAU:rH X (compareOp .NotEq) rNe:=by
 intro e s σ H x y v u Q I d a h;obtain ⟨c,q⟩:=h;cases x with
 | non =>
  cases d;cases y with
  | non=>cases a;exact PySem.EqNone.ne_none_none (eQ I q (by simp))
  | bl j=>cases a;exact PySem.EqNone.ne_none_bool (eQ I q (by simp))
  | int j=>obtain ⟨b,rfl⟩:=a;exact PySem.EqNone.ne_none_int (eQ I q (by simp))
  | str j=>obtain ⟨b,rfl⟩:=a;exact PySem.EqNone.ne_none_str (eQ I q (by simp))
  | _=>exact absurd (show false=true from c) bQ
 | bl i =>
  cases d;cases y with
  | non=>cases a;exact PySem.EqNone.ne_bool_none (eQ I q (by simp))
  | bl j=>cases a;exact ne_bool (eQ I q (congrArg not VA))
  | str j=>obtain ⟨b,rfl⟩:=a;exact PySem.EqMixed.ne_bool_str (eQ I q (by simp))
  | _=>exact absurd (show false=true from c) bQ
 | int i =>
  obtain ⟨t,rfl⟩:=d;cases y with
  | non=>cases a;exact PySem.EqNone.ne_int_none (eQ I q (by simp))
  | int j=>obtain ⟨b,rfl⟩:=a;exact ne_int (eQ I q (congrArg not MQ))
  | str j=>obtain ⟨b,rfl⟩:=a;exact PySem.EqMixed.ne_int_str (eQ I q (by simp))
  | _=>exact absurd (show false=true from c) bQ
 | str i =>
  obtain ⟨t,rfl⟩:=d;cases y with
  | non=>cases a;exact PySem.EqNone.ne_str_none (eQ I q (by simp))
  | bl j=>cases a;exact PySem.EqMixed.ne_str_bool (eQ I q (by simp))
  | int j=>obtain ⟨b,rfl⟩:=a;exact PySem.EqMixed.ne_str_int (eQ I q (by simp))
  | str j=>obtain ⟨b,rfl⟩:=a;exact ne_str (eQ I q (congrArg not MP))
  | _=>exact absurd (show false=true from c) bQ
 | byt i =>
  obtain ⟨t,rfl⟩:=d;cases y with
  | byt j=>obtain ⟨b,rfl⟩:=a;exact PySem.W.ne_bytes (eQ I q (congrArg not MR))
  | _=>exact absurd (show false=true from c) bQ
 | _=>cases y <;> exact absurd (show false=true from c) bQ
theorem aAV:rH X (compareOp .Lt) (rI0 λi j=>.bl (decide (i<j))):=ZB λ_ _ _ _ _ _ _ q=>lt_int q
theorem aDZ:rH X (compareOp .LtE) (rI0 λi j=>.bl (decide (i<=j))):=ZB λ_ _ _ _ _ _ _ q=>le_int q
theorem AN:rH X (compareOp .Gt) (rI0 λi j=>.bl (decide (j<i))):=ZB λ_ _ _ _ _ _ _ q=>gt_int q
theorem aD0:rH X (compareOp .GtE) (rI0 λi j=>.bl (decide (j<=i))):=ZB λ_ _ _ _ _ _ _ q=>ge_int q
theorem aCm:rH X (compareOp .Is) (λx y H Q=>y=.non/\Q (.bl (decide (x=.non))) H):=by
 intro a s σ H x y v u Q I b c h;obtain ⟨rfl,q⟩:=h;cases c;refine is_none_gen (eQ I q ?_);cases x <;> first
  | (cases b;rfl)
  | (obtain ⟨t,rfl⟩:=b;rfl)
theorem nomark(b:Expr){op:CmpOp}(h:op ≠ .In:=by decide)(h2:op ≠ .NotIn:=by decide):behindInMarks op b=false:=by
 have a:(op == CmpOp.In)=false:=by cases op <;> first | rfl | exact absurd rfl h
 have c:(op == CmpOp.NotIn)=false:=by cases op <;> first | rfl | exact absurd rfl h2
 cases b <;> simp [behindInMarks,a,c]
theorem YW{op:CmpOp}{r:R2}(ho:rH X (compareOp op) r)(ha:PE X a ta)(hb:PE X b tb)(hm:behindInMarks op b=false):PE X (.Compare a [op] [b] pos) (XE r ta tb):=by
 intro c s σ H Q I h;exact wpAny_Compare1 (aC2 ha hb I h λv u i x y H2 I2 d e q=>ho c i σ H2 x y v u Q I2 d e q) hm
def aAH(t:TE):TT:=λσ H Q=>t σ H λx H'=>∃k,x=.bl k/\Q k H'
theorem YK{op:CmpOp}{r:R2}(ho:rH X (compareOp op) r)(ha:PE X a ta)(hb:PE X b tb)(hm:behindInMarks op b=false):PT X (.Compare a [op] [b] pos) (aAH (XE r ta tb)):=by
 intro d s σ H Q I h;refine wpAny_isTrue_Compare1 (thn (ha d s σ H _ I h) λv o ⟨x,H1,I1,j,w⟩=>thn (hb d o σ H1 _ I1 w) λu p ⟨y,H2,I2,m,i⟩ =>
  thn (ho d p σ H2 x y v u _ I2 j m i) λc A ⟨z,H3,I3,n,k,e,l⟩=>?_) hm
 subst e;cases n;exact wpAny_truthy_bool ⟨H3,I3,l⟩
theorem yI:(sizeLine:Nat)<2^63:=by rw [sizeLine_eq];decide
theorem mT{x:V}{us:List Value}(r:eE [x] us):∃u,us=[u]/\eI x u:=by
 cases r with
 | cons r1 r2=>cases r2;exact ⟨_,rfl,r1⟩
theorem VT:jO X (.builtin "abs") (λxs H Q=>∃i,xs=[.int i]/\Q (.int (if i<0 then -i else i)) H):=by
 intro a s σ H xs c Q I r h;obtain ⟨i,rfl,q⟩:=h;obtain ⟨u,rfl,t,rfl⟩:=mT r;exact call_abs_int λu b=>⟨.int (if i<0 then -i else i),H,I.tok _,⟨_,rfl⟩,q⟩
theorem BG:jO X (.type "int") (λxs H Q=>(∃i,xs=[.int i]/\Q (.int i) H)\/∃k,xs=[.bl k]/\Q (.int (if k then 1 else 0)) H):=by
 intro a s σ H xs c Q I r h;rcases h with ⟨i,rfl,q⟩ | ⟨k,rfl,q⟩
 ·obtain ⟨u,rfl,t,rfl⟩:=mT r;exact call_int_int ⟨.int i,H,I,⟨_,rfl⟩,q⟩
 ·obtain ⟨u,rfl,b⟩:=mT r;cases b;exact call_int_bool ⟨.int (if k then 1 else 0),H,I.tok _,⟨_,rfl⟩,q⟩
def aEs(K:KFr)(x:V)(H:Hp)(n:Nat):Prop :=
 match x with
 | .str y=>y.length<=sizeLine/\n=y.length
 | .byt y=>y.size<=sizeLine/\n=y.size
 | .ref p=>(∃xs,fY K H p xs/\n=xs.length)\/∃xs,fN K H p xs/\n=xs.length
 | _=>False
theorem VS:jO X (.builtin "len") (λxs H Q=>∃x n,xs=[x]/\aEs X.K x H n/\Q (.int n) H):=by
 intro l s σ H xs A Q I r h;obtain ⟨x,n,rfl,e,q⟩:=h;obtain ⟨u,rfl,c⟩:=mT r;have w:=yI;have z:sizeLine=16777216:=sizeLine_eq;cases x with
 | str y =>
  obtain ⟨t,rfl⟩:=c;obtain ⟨m,b⟩:y.length<=sizeLine/\n=y.length:=e;subst b;exact len_str Oo ⟨.int _,H,I.tok _,⟨_,rfl⟩,q⟩
 | byt y =>
  obtain ⟨t,rfl⟩:=c;obtain ⟨m,b⟩:y.size<=sizeLine/\n=y.size:=e;subst b;exact PySem.W.len_bytes Oo ⟨.int _,H,I.tok _,⟨_,rfl⟩,q⟩
 | ref p =>
  cases c;have b:(∃xs,fY X.K H p xs/\n=xs.length)\/∃xs,fN X.K H p xs/\n=xs.length:=e;rcases b with ⟨xs,j,b⟩ | ⟨xs,j,b⟩
  ·subst b;obtain ⟨i,d,pl,o⟩:=I.list j;have a:=d.length;exact Calls.call_len_list pl.isList (by simp only [bI];omega) ⟨.int xs.length,H,I.tok _,⟨_,by simp only [bI];rw [a]⟩,q⟩
  ·subst b;obtain ⟨i,d,pl,o⟩:=I.tuple j;have a:=d.length;exact len_tuple pl (by simp only [bI];omega) ⟨.int xs.length,H,I.tok _,⟨_,by simp only [bI];rw [a]⟩,q⟩
 | _=>exact (show False from e).elim
end
section
variable{prog:Program}{w:World}{A:Around}{E:Value->Shared->Prop}{s:Shared}{K:KFr}{x dx C f:Addr}{mA:Str->Option Value}{name:Str}{v:Value}
end
theorem vM.some_of{v:V}{o:Option Value}(r:vM (some v) o):∃u,o=some u/\eI v u:=by
 cases o with
 | none=>exact (show False from r).elim
 | some u=>exact ⟨u,rfl,r⟩
section
variable{P:Program}{w:World}{H H':Hp}{h h':Heap}{a C dx:Addr}{fs fs':List (Str × V)}
end
section
variable{X:Cx}{pins:List (Addr × Obj)}{σ:St}{H:Hp}{s:Shared}{a C dx:Addr}{fs:List (Str × V)}{f:Str}{v:V}{A:Around}{E:Value->Shared->Prop}
end
section
variable{X:Cx}{o e value:Expr}{f:Str}{pos pos' tpos:Pos}{ta tv:TE}
end
section
variable{X:Cx}{pins:List (Addr × Obj)}{σ:St}{H:Hp}{s:Shared}{A:Around}{E:Value->Shared->Prop}{Q:Value->Shared->Prop}{c:Value}{b:Bool}
end
structure lQ(k:Nat)(A:Around):Prop where
 hd:A.handled=none
 dp:A.depth+3*k+5<recursionLimit
 un:A.units+16*k+200<cLine
 gd:A.guards=some []
theorem lQ.mono{j k:Nat}{A:Around}(r:lQ k A)(h:j<=k):lQ j A:=⟨r.hd,by have:=r.dp;omega,by have:=r.un;omega,r.gd⟩
theorem lQ.deeper{k:Nat}{A:Around}(r:lQ (k+1) A)(env:Env):lQ k (A.deeper env) :=
 ⟨r.hd,by have:=r.dp;show A.depth+1+3*k+5<_;omega,by have:=r.un;show A.units+3+16*k+200<_;omega,r.gd⟩
theorem lQ.depth{k:Nat}{A:Around}(r:lQ k A):A.depth<recursionLimit:=by have:=r.dp;omega
theorem lQ.units{k:Nat}{A:Around}(r:lQ k A):A.units+64<cLine:=by have:=r.un;omega
def aDt:TA:=λ_ H Q=>Q [] H
def aAN(ta:TE)(tr:TA):TA:=λσ H Q=>ta σ H λx H1=>tr σ H1 λxs H2=>Q (x::xs) H2
section
variable{X:Cx}{e:Expr}{es:List Expr}{te:TE}{t:TA}{pos:Pos}
theorem pa_nil:PA X [] aDt:=λ_ _ _ _ H Q I h=>Calls.spliced_nil ⟨[],H,I,.nil,h⟩
theorem YY(ha:PE X e te)(hr:PA X es t)(hs:starEach (e::es) X.env=(false,eval e X.env)::starEach es X.env:=by rfl):PA X (e::es) (aAN te t):=by
 intro pos a s σ H Q I h;rw [hs];show wpAny _ _ (spliced ((false,eval e X.env)::backTo pos (starEach es X.env))) _ _ s;refine Calls.spliced_cons (thn (ha a s σ H _ I h) λu j ⟨x,H1,I1,c,l⟩=>?_);exact thn (hr pos a j σ H1 _ I1 l) λn m ⟨i,H2,I2,d,b⟩=>⟨x::i,H2,I2,.cons c d,b⟩
def aEO(t:TA):TE:=λσ H Q=>t σ H λxs H1=>xs.length<=sizeLine/\∀p,H1 p=none->Q (.ref p) (upd H1 p (.tup xs))
def aEP(t:TA):TE:=λσ H Q=>t σ H λxs H1=>xs.length<=sizeLine/\∀p,H1 p=none->Q (.ref p) (upd H1 p (.lst xs))
theorem aCc{x1}(h:PA X es t):PE X (.Tuple es x1 pos) (aEO t):=by
 intro a s σ H Q I d;refine wpAny_Tuple_spliced (thn (h pos a s σ H _ I d) λl c ⟨i,H1,I1,r,z,q⟩=>⟨by rw [<-r.length];exact z,?_⟩);have j:H1 c.heap.objs.size=none:=I1.hok.fresh (aE _);refine ⟨.ref c.heap.objs.size,upd H1 c.heap.objs.size (.tup i),I1.laid (t':=c.toks) (λb u e=>aD _ e) (aE _) ?_,rfl,q _ j⟩;exact ⟨⟨z,_,aX _ rfl,rfl⟩,l,r,⟨_,aX _ rfl,rfl,_,rfl⟩⟩
theorem aCf(h:PA X es t):PE X (.List es pos) (aEP t):=by
 intro a s σ H Q I d;refine wpAny_List_spliced (thn (h pos a s σ H _ I d) λl c ⟨i,H1,I1,r,z,q⟩=>⟨by rw [<-r.length];exact z,?_⟩);have j:H1 c.heap.objs.size=none:=I1.hok.fresh (aE _);refine ⟨.ref c.heap.objs.size,upd H1 c.heap.objs.size (.lst i),I1.laid (t':=c.toks) (λb u e=>aD _ e) (aE _) ?_,rfl,q _ j⟩;exact ⟨z,l,0,r,aX _ rfl⟩
end
abbrev Sp:=List V->Hp->VK->XK->Prop
abbrev QG:=List Env->Hp->Shared->XK->Value->Shared->Prop
structure aAC(P:Program)(w:World)(K:KFr)(mg:Str->Option Value)(base:Heap)(A:Around)(outer:List Env)(s:Shared)(H:Hp):Prop where
 frames:A.frames=some outer
 mod:Mod K mg base
 bs:∀b o,base.get? b=some o->s.heap.get? b=some o/\H b=none
 bsz:base.objs.size<=s.heap.objs.size
 funs:s.heap.FunFrames base outer
 frf:∀b∈frs outer,H b=none
 hok:pG P w H s.heap
 bare:AllBare s.gens
def CE(outer:List Env)(P:Program)(w:World)(H:Hp)(s:Shared)(Q:VK)(u:Value)(s':Shared):Prop :=
 ∃v H',s'.os=s.os/\AllBare s'.gens/\Un (frs outer) [] H H' s.heap s'.heap/\pG P w H' s'.heap/\eI v u/\Q v H'
def CR(CX:QG)(outer:List Env)(P:Program)(w:World)(H:Hp)(s:Shared)(Q:VK)(E:XK)(r:Result)(s':Shared):Prop :=
 match r with
 | .ok (.ret u)=>CE outer P w H s Q u s'
 | .ok _=>False
 | .error e=>CX outer H s E e s'
structure eT(P:Program)(w:World)(K:KFr)(mg:Str->Option Value)(base:Heap)(CX:QG)(k:Nat)(f:Addr)(fd:FuncData)(ps:List Str)(sp:Sp):Prop where
 len:∀vs H Q E,sp vs H Q E->vs.length=ps.length
 run:∀(A:Around) (outer:List Env) (s:Shared) (H:Hp) (args:Args) (us:List Value) (vs:List V) (Q:VK) (E:XK),lQ k A->aAC P w K mg base A outer s H->BindsTo s fd args (ps.zip us)->eE vs us->sp vs H Q E ->
  codeAny (model P w) A (.call (.ref f) args) (CR CX outer P w H s Q E) s
section
variable{X:Cx}{pins:List (Addr × Obj)}{σ:St}{H:Hp}{s s':Shared}
theorem cO.env0(I:cO X pins σ H s):aAC X.prog X.w X.K X.mg X.base X.A X.stack s H :=
 ⟨I.ok.frames,I.ok.mod,I.bs,aZ I.ok.bsz I.sz,I.stack,I.stkFree,I.hok,I.bare⟩
theorem cO.after{Q:VK}{u:Value}(I:cO X pins σ H s)(h:CE X.stack X.prog X.w H s Q u s'):EP X pins σ Q u s':=by
 obtain ⟨v,H',os,a,un,c,r,q⟩:=h;obtain ⟨i,g,d,t,e⟩:=s';obtain rfl:e=s.os:=os;exact ⟨v,H',I.call (h':=i) (g':=g) (d':=d) (t':=t) (ch:=[]) un c a (λb z=>absurd z (by simp)),r,q⟩
end
def RT(sp:Sp)(dvs:List V)(E:XK)(t:TA):TE:=λσ H Q=>t σ H λvs H1=>sp (vs++dvs) H1 Q E
def BP(K:KFr)(fd:FuncData)(ps:List Str)(ds:List Value):Prop :=
 ∀(s:Shared) (us:List Value),K.In s.heap->(us++ds).length=ps.length->BindsTo s fd ⟨us,[]⟩ (ps.zip (us++ds))
theorem BP.all{K:KFr}{fd:FuncData}{ps:List Str}(h:∀us:List Value,us.length=ps.length->bindArgs fd ⟨us,[]⟩=pure (ps.zip us)):BP K fd ps []:=λs us _ a=>by
 rw [List.append_nil] at a ⊢;exact .of_eq (h us a)
def JX(CX:QG)(X:Cx)(E:XK):Prop:=∀(pins:List (Addr × Obj)) (σ:St) (H:Hp) (s:Shared) (e:Value) (s':Shared),cO X pins σ H s->CX X.stack H s E e s'->X.xe e s'
section
variable{X:Cx}{CX:QG}{k:Nat}{f C:Addr}{fd:FuncData}{ps:List Str}{sp:Sp}{dvs:List V}{ds:List Value}{E:XK}{x m:Str}{p pos apos:Pos}{e o:Expr}{es:List Expr}{ta:TE}{t:TA}
theorem aBV{pins:List (Addr × Obj)}{σ:St}{H:Hp}{s:Shared}{Q:VK}{us:List Value}{vs:List V}(F:eT X.prog X.w X.K X.mg X.base CX k f fd ps sp)(hr:lQ k X.A)(hb:BP X.K fd ps ds)(hd:eE dvs ds)(hx:JX CX X E)
  (I:cO X pins σ H s) (r:eE vs us) (h:sp (vs++dvs) H Q E):wpAny (model X.prog X.w) X.A (call (.ref f) us) (EP X pins σ Q) X.xe s:=by
 have b:eE (vs++dvs) (us++ds):=r.append hd;have d:(us++ds).length=ps.length:=by rw [<-b.length];exact F.len _ _ _ _ h
 refine wpAny_call (codeAny_mono (F.run X.A X.stack s H ⟨us,[]⟩ (us++ds) (vs++dvs) Q E hr I.env0 (hb s us I.kIn d) b h) λr c a=>?_);cases r with
 | error e=>exact hx pins σ H s e c I a
 | ok fl =>
  cases fl with
  | ret u=>exact I.after a
  | next=>exact False.elim a
  | brk=>exact False.elim a
  | cont=>exact False.elim a
theorem YX(F:eT X.prog X.w X.K X.mg X.base CX k f fd ps sp)(hr:lQ k X.A)(hg:Gl X x)(hm:X.mg x=some (.ref f))(hk:PySem.W.keepIn X.K (.ref f)=true)(hb:BP X.K fd ps ds)(hd:eE dvs ds)(hx:JX CX X E)
  (ha:PA X (e::es) t) (hdb:(x == ("__debug__" : Str))=false:=by decide) (he:starEach (e::es) X.env=(false,eval e X.env)::starEach es X.env:=by rfl) (hpl:(backTo pos (starEach es X.env)).any (·.1)=false:=by rfl) :
  PE X (.Call (.Name x p) (e::es) [] pos) (RT sp dvs E t):=by
 intro a s σ H Q I h;refine wpAny_Call_Name_kw (LZ I hg hm ?_ hdb);refine PySem.W.callWith_K (h₀:=X.base) I.ok.mod.kin hk (thn (ha pos a s σ H _ I h) λc b ⟨d,H1,I1,r,q⟩=>⟨I1.kIn,?_⟩) he hpl;exact aBV F hr hb hd hx I1 r q
end
section
variable{X:Cx}{CX:QG}{k:Nat}{f C:Addr}{fd:FuncData}{ps ks:List Str}{sp:Sp}{E:XK}{x m:Str}{p pos apos kpos:Pos}{e o:Expr}{es:List Expr}{kws:List Keyword}{te ta:TE}{t tk:TA}{nm:Option Str}
variable{g:List Value->List Value->List Value}{gV:List V->List V->List V}
end
structure cI(N P:List Str)(sc:Scope):Prop where
 kind:sc.kind=.function
 co:sc.isCoroutine=false
 gen:sc.isGenerator=false
 nd:N.Nodup
 pre:N.take P.length=P
 par:∀x∈P,sc.names.lookup x=some .local\/sc.names.lookup x=some .cell
 nofree:∀y∈sc.names,y.2 ≠ .free
theorem BH{kindOf:Str->Option NameKind}{x:Str}:∀{binds:List (Str × Value)}{m:Str->Option Value},(∀v,(x,v) ∉ binds)->bindL kindOf binds m x=m x
 | [],_,_=>rfl
 | (n,v)::r,m,h=>by
  unfold bindL;rw [BH λw hw=>h w (aG _ hw)];split
  ·have:x≠n:=by rintro rfl;exact h v aQ
   simp [this]
  ·rfl
theorem BJ{kindOf:Str->Option NameKind}{x:Str}:∀{binds:List (Str × Value)}{m:Str->Option Value},(∀v,(x,v) ∉ binds)->bindC kindOf binds m x=m x
 | [],_,_=>rfl
 | (n,v)::r,m,h=>by
  unfold bindC;rw [BJ λw hw=>h w (aG _ hw)];split
  ·rfl
  ·have:x≠n:=by rintro rfl;exact h v aQ
   simp [this]
theorem BI{kindOf:Str->Option NameKind}{x:Str}{v:Value}:∀{P:List Str}{vs:List Value}{i:Nat}{m:Str->Option Value},P.Nodup->P[i]?=some x->vs[i]?=some v->kindOf x=some .local ->
  bindL kindOf (P.zip vs) m x=some v
 | [],_,_,_,_,h,_,_=>by simp at h
 | _::_,[],_,_,_,_,h,_=>by simp at h
 | p::P,w::vs,0,m,nd,h1,h2,hk=>by
  simp at h1 h2;subst h1;subst h2;show bindL kindOf ((p,w)::P.zip vs) m p=_;unfold bindL;rw [BH λv hv=>(List.nodup_cons.mp nd).1 (List.of_mem_zip hv).1,if_pos hk];simp
 | p::P,w::vs,i+1,m,nd,h1,h2,hk=>by
  show bindL kindOf ((p,w)::P.zip vs) m x=_;unfold bindL;exact BI (i:=i) (List.nodup_cons.mp nd).2 (by simpa using h1) (by simpa using h2) hk
theorem BK{kindOf:Str->Option NameKind}{x:Str}{v:Value}:∀{P:List Str}{vs:List Value}{i:Nat}{m:Str->Option Value},P.Nodup->P[i]?=some x->vs[i]?=some v->kindOf x≠some .local ->
  bindC kindOf (P.zip vs) m x=some v
 | [],_,_,_,_,h,_,_=>by simp at h
 | _::_,[],_,_,_,_,h,_=>by simp at h
 | p::P,w::vs,0,m,nd,h1,h2,hk=>by
  simp at h1 h2;subst h1;subst h2;show bindC kindOf ((p,w)::P.zip vs) m p=_;unfold bindC;rw [BJ λv hv=>(List.nodup_cons.mp nd).1 (List.of_mem_zip hv).1,if_neg hk];simp
 | p::P,w::vs,i+1,m,nd,h1,h2,hk=>by
  show bindC kindOf ((p,w)::P.zip vs) m x=_;unfold bindC;exact BK (i:=i) (List.nodup_cons.mp nd).2 (by simpa using h1) (by simpa using h2) hk
def start(N:List Str)(vs:List V):St:=vs.map some++List.replicate (N.length-vs.length) none
def HB(CX:QG)(P:Program)(w:World)(K:KFr)(mg:Str->Option Value)(base:Heap)(N:List Str)(qual:Str)(scope:Scope)(f:Addr)(cd:Value)(A:Around)(outer:List Env)(s:Shared)(H:Hp)(E:XK):Cx where
 prog:=P
 w:=w
 K:=K
 mg:=mg
 base:=base
 A:=A.deeper (envOfC qual scope s.heap.objs.size f cd)
 N:=N
 s₀:=s
 H₀:=H
 env:=envOfC qual scope s.heap.objs.size f cd
 outer:=outer
 stack:=envOfC qual scope s.heap.objs.size f cd::outer
 ex:=[]
 calm:=true
 fn:=λ_=>true
 pn:=[]
 xe:=λe s'=>wpAny (model P w) (A.deeper (envOfC qual scope s.heap.objs.size f cd)) (leaving (envOfC qual scope s.heap.objs.size f cd) e) (λ_ s''=>CX outer H s E e s'') (λe' s''=>CX outer H s E e' s'') s'
theorem HL{sc:Scope}{n:Nat}{x:Str}(h:sc.names.lookup x=some .cell):∃c,(cellsFrom n sc.names []).lookup x=some c:=by
 have q:=PySem.W.cellsFrom_some sc.names n [] (.inl h);exact Option.isSome_iff_exists.mp q
theorem OY{CX:QG}{P:Program}{w:World}{K:KFr}{mg:Str->Option Value}{base:Heap}{N ps:List Str}{qual:Str}{scope:Scope}{f:Addr}{cd:Value}{A:Around}{outer:List Env}{s s1:Shared}{H:Hp}{E:XK}{us:List Value}{vs:List V}
  (S:cI N ps scope) (hd:A.handled=none) (e0:aAC P w K mg base A outer s H) (hl:vs.length=ps.length) (r:eE vs us)
  (x:InCallC s s.heap.objs.size (bindL (envOfC qual scope s.heap.objs.size f cd).kindOf (ps.zip us) λ_=>none) (cellsFrom (s.heap.objs.size+1) scope.names []) (bindC (envOfC qual scope s.heap.objs.size f cd).kindOf (ps.zip us) λ_=>none) s1) :
  cO (HB CX P w K mg base N qual scope f cd A outer s H E) [] (start N vs) H s1:=by
 have J:ps.length<=N.length:=by have:=congrArg List.length S.pre;rw [cB] at this;omega
 obtain ⟨C,L,rfl,D⟩:=x.done;have l:∀b:Addr,b ∉ (HB CX P w K mg base N qual scope f cd A outer s H E).ex:=λb z=>absurd (show b∈([]:List Addr) from z) (by simp);refine ⟨⟨e0.mod,S.kind,rfl,rfl,aE _,λy z c C d=>?_,λy j=>?_,λy c _ h=>?_,λ_=>hd,Around.frames_deeper e0.frames,.inr ⟨rfl,rfl⟩,λb z=>absurd z (l b),e0.bs,e0.bsz,λb _ _=>l b,λb z=>absurd z (l b),e0.funs,e0.frf⟩,
  rfl,e0.bare,Un.kept D,⟨_,x.toInCall.ns,λi y v C d M=>?_⟩,λy c h=>⟨_,x.cell y c h⟩,e0.hok.fresh (aE _),λy c h=>?_,λp o=>absurd (show p∈([]:List (Addr × Obj)) from o) (by simp),e0.hok.kept D,?_⟩
 ·exact name_of_addr x.apart (PySem.mem_of_lookup C) (PySem.mem_of_lookup d)
 ·have j:scope.names.lookup y=some .cell\/scope.names.lookup y=some .free:=j;rcases j with j | j
  ·exact HL j
  ·exact absurd rfl (S.nofree _ (PySem.mem_of_lookup j))
 ·exact Nat.le_of_lt (x.above y c (PySem.mem_of_lookup h))
 ·have B:i<vs.length:=by
   unfold start at d;by_cases B:i<vs.length
   ·exact B
   ·rw [eR (by simpa using B)] at d;rw [List.getElem?_replicate] at d;split at d <;> cases d
  have I:vs[i]?=some v:=by
   unfold start at d;rw [eY (by simpa using B),aI] at d;cases e:vs[i]? with
   | none=>rw [e] at d;cases d
   | some a=>rw [e] at d;cases d;rfl
  obtain ⟨u,G,rv⟩:=r.get I;have o:ps[i]?=some y:=by
   rw [<-S.pre,List.getElem?_take_of_lt Oo];exact C
  have m:ps.Nodup:=by rw [<-S.pre];exact S.nd.sublist (List.take_sublist _ _)
  refine ⟨u,rv,?_⟩;rcases S.par y (aR o) with k | k
  ·exact .inl ⟨k,BI m o G k⟩
  ·obtain ⟨c,e⟩:=HL (n:=s.heap.objs.size+1) k;refine .inr ⟨.inl k,c,e,?_⟩;have q:=x.cell y c e;rw [BK m o G (by show scope.names.lookup y≠_;rw [k];decide)] at q;exact q
 ·exact e0.hok.fresh (Nat.le_of_lt (x.above y c (PySem.mem_of_lookup h)))
 ·unfold start;show _=N.length;rw [aV,aB,dZ];omega
theorem aEb{CX:QG}{P:Program}{w:World}{K:KFr}{mg:Str->Option Value}{base:Heap}{k:Nat}{f:Addr}{name qual:Str}{params:Arguments}{body:List Stmt}{scope:Scope}{dV kV doc pm cdv ct oc:Value}{an od:Option Addr}
  {osl:Array (Option Value)} {N ps:List Str} {sp:Sp} (lk:K.lookup f=some ⟨oc,od,.func (PySem.W.fnOf name qual params body scope dV kV doc pm an cdv ct),osl⟩) (hcd:PySem.W.codeIn K cdv qual=true) (S:cI N ps scope)
  (len:∀vs H Q E,sp vs H Q E->vs.length=ps.length)
  (hbody:∀(A:Around) (outer:List Env) (s:Shared) (H:Hp) (vs:List V) (Q:VK) (E:XK),lQ k (A.deeper (envOfC qual scope s.heap.objs.size f cdv))->sp vs H Q E ->
   ∃t,KA (HB CX P w K mg base N qual scope f cdv A outer s H E) body t/\t { nx:=λ_ H'=>Q .non H',rt:=Q } (start N vs) H) :
  eT P w K mg base CX (k+1) f (PySem.W.fnOf name qual params body scope dV kV doc pm an cdv ct) ps sp:=by
 refine ⟨len,λA outer s H B T vs Q E l h R r i=>?_⟩;have L:=len _ _ _ _ i;have KX:K.In s.heap:=h.mod.kin.keeps λb o e=>(h.bs b o e).1;have m:s.heap.NoLimit:=h.mod.nolimit.keeps λb o e=>(h.bs b o e).1;have a:∀y∈ps.zip T,scope.names.lookup y.1=some .local\/(scope.names.lookup y.1=some .cell/\((cellsFrom (s.heap.objs.size+1) scope.names []).lookup y.1).isSome=true):=λ⟨n,v⟩ G=>by
  rcases S.par n (List.of_mem_zip G).1 with q | q
  ·exact .inl q
  ·exact .inr ⟨q,PySem.W.cellsFrom_some _ _ _ (.inl q)⟩
 refine codeAny_call_function l.depth (KX _ _ lk) rfl S.co S.gen rfl (PySem.W.codeRec_of KX hcd) (R _ _ _ _ ?_);refine wpAny_newFunctionEnv_cells S.kind a λU O z x=>?_;subst O;refine ⟨m.keeps x.toInCall.keep,codeAny_func ?_⟩;obtain ⟨t,M,D⟩:=hbody A outer s H vs Q E (l.deeper _) i;have I:cO (HB CX P w K mg base N qual scope f cdv A outer s H E) [] (start N vs) H z:=OY S l.hd h L r x;refine wpAny_mono (M [] z (start N vs) H _ I D) (λC p c=>?_) λe p c=>c;have d:∀{j:St} {H':Hp} {v:V} {u:Value},cO (HB CX P w K mg base N qual scope f cdv A outer s H E) [] j H' p->eI v u->Q v H'->CE outer P w H s Q u p :=
  λ{j H' v u} J rv q=>⟨v,H',J.os,J.bare,J.base,J.hok,rv,q⟩
 cases C with
 | ret u =>
  obtain ⟨v,j,H',J,rv,q⟩:=c;exact d J rv q
 | next =>
  obtain ⟨j,H',J,q⟩:=c;exact d (v:=V.non) (u:=Value.none) J rfl q
 | brk =>
  obtain ⟨_,_,_,q⟩:=c;exact False.elim q
 | cont =>
  obtain ⟨_,_,_,q⟩:=c;exact False.elim q
section
variable{X:Cx}{x:Str}{p pos:Pos}{e:Expr}{es:List Expr}{t:TA}{id T:String}{r:List V->Hp->VK->Prop}
def tCB(r:List V->Hp->VK->Prop)(t:TA):TE:=λσ H Q=>t σ H λvs H1=>r vs H1 Q
theorem TZ(hc:jO X (.builtin id) r)(hg:Gl X x)(hm:X.mg x=none)(hv:bootBuiltins x=some (.builtin id))(ha:PA X (e::es) t)(hn:x ≠ "__name__" := by decide)(hdb:(x == ("__debug__" : Str))=false:=by decide)
  (he:starEach (e::es) X.env=(false,eval e X.env)::starEach es X.env:=by rfl) (hpl:(backTo pos (starEach es X.env)).any (·.1)=false:=by rfl):PE X (.Call (.Name x p) (e::es) [] pos) (tCB r t):=by
 intro a s σ H Q I h;refine wpAny_Call_Name_kw (uZ I hg hm hv ?_ hn hdb);exact PyProof.Rows.callWith_builtin1 (thn (ha pos a s σ H _ I h) λi d ⟨j,H1,I1,b,c⟩=>hc a d σ H1 j i Q I1 b c) he hpl
theorem OQ(hc:jO X (.type T) r)(hg:Gl X x)(hm:X.mg x=none)(hv:bootBuiltins x=some (.type T))(ha:PA X (e::es) t)(hn:x ≠ "__name__" := by decide)(hdb:(x == ("__debug__" : Str))=false:=by decide)
  (he:starEach (e::es) X.env=(false,eval e X.env)::starEach es X.env:=by rfl) (hpl:(backTo pos (starEach es X.env)).any (·.1)=false:=by rfl):PE X (.Call (.Name x p) (e::es) [] pos) (tCB r t):=by
 intro a s σ H Q I h;refine wpAny_Call_Name_kw (uZ I hg hm hv ?_ hn hdb);exact PyProof.Rows.callWith_type1 (thn (ha pos a s σ H _ I h) λi d ⟨j,H1,I1,b,c⟩=>hc a d σ H1 j i Q I1 b c) he hpl
end
end L2
namespace HT
open PySem PyProof.Rows
section
open PySem.SeqAt
open PySem.AutoSeq1 (wpAny_loadPart')
open PySem.MeetsSeq PySem.MeetsSeq2 PySem.MeetsSeq3
end
section
variable{prog:Program}{w:World}{A:Around}{E:Value->Shared->Prop}{s:Shared}
theorem aAj{t b:Addr}{vs ws:List Value}{Q:Value->Shared->Prop}(ht:IsTup s.heap t vs.toArray)(hb:IsTup s.heap b ws.toArray)(hv:vs≠[])
  (h1:ws=[]->Q (.ref t) s) (h2:ws≠[]->Q (.ref s.heap.objs.size) { s with heap:=s.heap.push { cls:=.type "tuple",data:=.seq (vs++ws).toArray } })
  (hsz:vs.length+ws.length<=sizeLine):wpAny (model prog w) A (binaryOp .Add (.ref t) (.ref b)) Q E s:=by
 obtain ⟨⟨cls,r,data,u⟩,j,m,n,hd⟩:=id ht;obtain ⟨⟨p,c,l,d⟩,a,i,o,h⟩:=id hb;simp only at m hd i h;subst m hd i h;have e:vs.toArray++ws.toArray=(vs++ws).toArray:=by simp
 by_cases hw:ws=[]
 ·exact concat_meets ⟨_,j,rfl⟩ ⟨_,a,rfl⟩ noFill_tuple_add seq_tuple_add PySem.F.slot_tuple_add PySem.F.entry_tuple_add (PySem.F.args_tuple_add_2 _ _)
   (tuple_addW1 t b vs.toArray ws.toArray n o r c u d (by simpa using hv) (by simp [hw])) ⟨j,a,h1 hw⟩
 ·refine concat_meets ⟨_,j,rfl⟩ ⟨_,a,rfl⟩ noFill_tuple_add seq_tuple_add PySem.F.slot_tuple_add PySem.F.entry_tuple_add (PySem.F.args_tuple_add_2 _ _)
   (tuple_addW2 t b vs.toArray ws.toArray n o r c u d (by simpa using hv) (by simpa using hw) (by rw [bI,bI];exact hsz)) ⟨j,a,?_⟩
  rw [e];exact h2 hw
def iV(n d:Nat):Option Int->Nat
 | none=>d
 | some v=>if v<0 then (v+(n:Int)).toNat else min v.toNat n
theorem xU(n d:Nat):iV n d none=d:=rfl
theorem CU(n d k:Nat):iV n d (some (k:Int))=min k n:=by
 show (if (k:Int)<0 then ((k:Int)+(n:Int)).toNat else min (k:Int).toNat n)=min k n;rw [if_neg Oo,Int.toNat_natCast]
theorem aBT(n d:Nat)(hd:d<=n)(o:Option Int):iV n d o<=n:=by
 cases o with
 | none=>exact hd
 | some v =>
  show (if v<0 then (v+(n:Int)).toNat else min v.toNat n)<=n;by_cases hv:v<0
  ·rw [if_pos hv];omega
  ·rw [if_neg hv];exact Nat.min_le_right _ _
theorem MZ(v:Int)(n d:Nat):(if v<0 then max (v+(n:Int)) 0 else min v (n:Int))=((iV n d (some v):Nat):Int):=by
 show (if v<0 then max (v+(n:Int)) 0 else min v (n:Int))=(((if v<0 then (v+(n:Int)).toNat else min v.toNat n):Nat):Int);by_cases hv:v<0
 ·simp only [if_pos hv];omega
 ·simp only [if_neg hv];omega
theorem JU(lo hi:Option Int)(n:Nat):Builtin.Slice.sliceAdjust lo hi 1 (n:Int)=(((iV n 0 lo:Nat):Int),((iV n n hi:Nat):Int)):=by
 have a:¬((1:Int)<0):=Oo;unfold Builtin.Slice.sliceAdjust;simp only [a,if_false];refine Prod.ext ?_ ?_
 ·cases lo with
  | none=>rfl
  | some v=>exact MZ v n 0
 ·cases hi with
  | none=>rfl
  | some v=>exact MZ v n n
theorem JA(i j:Nat):Builtin.Slice.slicePlaces (i:Int) (j:Int) 1=j-i:=by
 unfold Builtin.Slice.slicePlaces;have a:(1:Int) > 0:=Oo;simp only [a,if_true,Int.ediv_one];split <;> omega
theorem xT{v:Value}{o:Option Int}{Q:Option Int->Shared->Prop}(p:IsPart v o)(h:Q o s):wpAny (model prog w) A (Builtin.Slice.slicePartIndex v) Q E s:=by
 cases p with
 | none=>exact slicePart_none h
 | int i t=>exact slicePart_int h
theorem nV{sl:Addr}{vl vu:Value}{lo hi:Option Int}{n:Nat}{Q:Int × Int × Nat->Shared->Prop}(hs:s.heap.IsSliceOf sl vl vu .none)(pl:IsPart vl lo)(pu:IsPart vu hi)
  (h:Q (((iV n 0 lo:Nat):Int),1,iV n n hi-iV n 0 lo) s):wpAny (model prog w) A (Builtin.Slice.sliceApplied (.ref sl) (pure (n:Int))) Q E s:=by
 obtain ⟨d,a,c,b⟩:=id hs;unfold Builtin.Slice.sliceApplied Builtin.Slice.sliceFields;refine wpAny_bind (wpAny_bind (wpAny_field a b (x:=vl) rfl (wpAny_bind (wpAny_field a b (x:=vu) rfl (wpAny_bind (wpAny_field a b (x:=.none) rfl (wpAny_pure ?_)))))));refine wpAny_bind (slicePart_none ?_);show wpAny _ _ (if ((1:Int) == 0)=true then _ else _) _ _ s;rw [if_neg Dd];refine wpAny_bind (xT pl (wpAny_bind (xT pu (wpAny_bind (wpAny_pure ?_)))));show wpAny _ _ (match Builtin.Slice.sliceAdjust lo hi 1 (n:Int) with | (lo,hi)=>pure (lo,(1:Int),Builtin.Slice.slicePlaces lo hi 1)) _ _ s;rw [JU lo hi n];show wpAny _ _ (pure (((iV n 0 lo:Nat):Int),(1:Int),Builtin.Slice.slicePlaces ((iV n 0 lo:Nat):Int) ((iV n n hi:Nat):Int) 1)) _ _ s;rw [JA];exact wpAny_pure h
theorem TU(xs:Array Value)(i k:Nat):((List.range k).filterMap λ(m:Nat)=>xs[((i:Int)+(m:Int)*1).toNat]?).toArray=((xs.toList.drop i).take k).toArray:=by
 have e:(λ(m:Nat)=>xs[((i:Int)+(m:Int)*1).toNat]?)=λm=>xs[i+m]?:=by
  funext m
  have:((i:Int)+(m:Int)*1).toNat=i+m:=Oo;rw [this]
 rw [e];have:=pick_run xs i k;rw [List.filterMap_map] at this;have a:((λx=>xs[x]?) ∘ λx=>i+x)=λm=>xs[i+m]?:=rfl;rw [a] at this;rw [this]
theorem tK{t sl:Addr}{items:Array Value}{vl vu:Value}{lo hi:Option Int}{Q:Value->Shared->Prop}(ht:IsTup s.heap t items)(hs:s.heap.IsSliceOf sl vl vu .none)(pl:IsPart vl lo)(pu:IsPart vu hi)
  (hw:¬(iV items.size 0 lo=0/\iV items.size items.size hi=items.size))
  (h:Q (.ref s.heap.objs.size) { s with heap:=s.heap.push { cls:=.type "tuple",data:=.seq ((items.toList.drop (iV items.size 0 lo)).take (iV items.size items.size hi-iV items.size 0 lo)).toArray } })
  (hsz:items.size<=sizeLine):wpAny (model prog w) A (getItem (.ref t) (.ref sl)) Q E s:=by
 have a:sizeOk (.seq ((items.toList.drop (iV items.size 0 lo)).take (iV items.size items.size hi-iV items.size 0 lo)).toArray):=by
  show ((items.toList.drop (iV items.size 0 lo)).take (iV items.size items.size hi-iV items.size 0 lo)).toArray.size<=sizeLine;rw [bI,cB,List.length_drop,Array.length_toList];omega
 have l:iV items.size items.size hi<=items.size:=aBT _ _ (aE _) hi;obtain ⟨j,d,b,i⟩:=id hs;have c:s.TypeIs (.ref sl) "slice" := ⟨j,d,b⟩;unfold getItem
 try with_reducible refine wpAny_holding ?_
 first | refine wpAny_bind (wpAny_pure ?_) | skip
 refine wpAny_bind (wpAny_sequenceKey ht.typeIs Dd ?_);refine wpAny_bind (wpAny_callSpecial?_slot (name:=Str.ofString "__getitem__") ht.typeIs PyProof.Rows.slot_tuple_getitem
  (wpAny_call_entry PyProof.Rows.slot_tuple_getitem ht.typeIs entry_tuple_getitem ?_ (args_tuple_getitem _ _)))
 show wpAny _ _ (Builtin.Tuple.tupleItemsOf (.ref t) >>= _) _ _ s;refine wpAny_bind (tupleItemsOf_ ht ?_);refine wpAny_bind (wpAny_typeOf c ?_);rw [if_pos Dd];refine wpAny_bind (nV hs pl pu ?_);have e:¬((((iV items.size 0 lo:Nat):Int) == 0&&(1:Int) == 1&&(iV items.size items.size hi-iV items.size 0 lo) == items.size)=true):=by
  intro q;rw [cM,cM] at q;have n:((iV items.size 0 lo:Nat):Int)=0:=eq_of_beq q.1.1;have o:iV items.size items.size hi-iV items.size 0 lo=items.size:=eq_of_beq q.2;exact hw ⟨Oo,Oo⟩
 show wpAny _ _ (if (((iV items.size 0 lo:Nat):Int) == 0&&(1:Int) == 1&&(iV items.size items.size hi-iV items.size 0 lo) == items.size)=true then _ else _) _ _ s;rw [if_neg e,TU]
 first
  | exact wpAny_bind (m:=Builtin.Tuple.tupleExact _) (wpAny_newObj_type (wpAny_pure ⟨_,rfl,wpAny_pure h⟩) a)
  | exact wpAny_bind (m:=Builtin.Tuple.tupleExact _) (wpAny_newObj_type (wpAny_bind (wpAny_pure (wpAny_pure ⟨_,rfl,wpAny_pure h⟩))) a)
  | exact wpAny_bind (wpAny_bind (m:=Builtin.Tuple.tupleExact _) (wpAny_newObj_type (wpAny_pure (wpAny_pure ⟨_,rfl,wpAny_pure h⟩)) a))
  | exact wpAny_bind (wpAny_bind (m:=Builtin.Tuple.tupleExact _) (wpAny_newObj_type (wpAny_pure ⟨_,rfl,wpAny_pure h⟩) a))
end
end HT
namespace L2
open PySem PySem.Spec PyProof.Rows
abbrev TO:=St->Hp->(Option Int->Hp->Prop)->Prop
def PO(X:Cx)(e:Option Expr)(t:TO):Prop :=
 ∀(pins:List (Addr × Obj)) (s:Shared) (σ:St) (H:Hp) (Q:Option Int->Hp->Prop),cO X pins σ H s->t σ H Q ->
  wpAny (model X.prog X.w) X.A (evalPart e X.env) (λu s'=>∃o H',cO X pins σ H' s'/\IsPart u o/\Q o H') X.xe s
def KQ:TO:=λ_ H Q=>Q none H
def aAI(t:TE):TO:=λσ H Q=>t σ H λx H1=>∃i,x=.int i/\Q (some i) H1
theorem yN{ns:List Int}:∀{us:List Value},eE (ns.map V.int) us->IntsAre us ns:=by
 induction ns with
 | nil=>intro us r;rw [List.map_nil] at r;cases r;exact .nil
 | cons n ns ih =>
  intro us r;rw [bF] at r;cases r with
  | cons r1 r2 =>
   obtain ⟨t,e⟩:=r1;subst e;exact .cons n t (ih r2)
section
variable{X:Cx}{e:Expr}{te:TE}{lo hi:Option Expr}{tl th:TO}{pos p2:Pos}
theorem po_none:PO X none KQ:=by
 intro a s σ H Q I h;rw [evalPart_none];exact wpAny_pure ⟨none,H,I,.none,h⟩
theorem YO(h:PE X e te):PO X (some e) (aAI te):=by
 intro a s σ H Q I b;rw [evalPart_some];refine thn (h a s σ H _ I b) λu j ⟨x,H1,I1,c,d⟩=>?_;obtain ⟨i,rfl,q⟩:=d;obtain ⟨t,rfl⟩:=c;exact ⟨some i,H1,I1,.int i t,q⟩
def SlR(X:Cx)(r:V->Option Int->Option Int->Hp->VK->Prop):Prop :=
 ∀(pins:List (Addr × Obj)) (s:Shared) (σ:St) (H:Hp) (x:V) (v vl vu:Value) (lo hi:Option Int) (sl:Addr) (Q:VK),cO X pins σ H s->eI x v->s.heap.IsSliceOf sl vl vu .none->IsPart vl lo->IsPart vu hi->r x lo hi H Q ->
  ∃T id,typeLookup (.type T) "__getitem__" = pure (some (.builtin id))/\s.TypeIs v T/\wpAny (model X.prog X.w) X.A (getItem v (.ref sl)) (EP X pins σ Q) X.xe s
def tSl(r:V->Option Int->Option Int->Hp->VK->Prop)(te:TE)(tl th:TO):TE:=λσ H Q=>te σ H λx H1=>tl σ H1 λl H2=>th σ H2 λu H3=>r x l u H3 Q
theorem TW{r:V->Option Int->Option Int->Hp->VK->Prop}(hr:SlR X r)(he:PE X e te)(hl:PO X lo tl)(hu:PO X hi th):PE X (.Subscript e (.Slice lo hi none p2) pos) (tSl r te tl th):=by
 intro a s σ H Q I h;refine Subscript_ (thn (he a s σ H _ I h) λv y ⟨x,H1,I1,n,D⟩=>?_);refine wpAny_Slice (thn (hl a y σ H1 _ I1 D) λd C ⟨l,H2,I2,pl,m⟩=>thn (hu a C σ H2 _ I2 m) λi c ⟨u,H3,I3,B,o⟩=>?_);rw [evalPart_none];refine wpAny_pure ?_;have I4:cO X a σ H3 { c with heap:=c.heap.push { cls:=.type "slice",data:=.fields #[d,i,.none] } }:=I3.kept (t':=c.toks) λb G q=>aD _ q;obtain ⟨T,J,j,z,p⟩:=hr a { c with heap:=c.heap.push { cls:=.type "slice",data:=.fields #[d,i,.none] } } σ H3 x v d i l u c.heap.objs.size Q I4 n (Heap.IsSliceOf.new ..) pl B o;show wpAny (model X.prog X.w) X.A (subscriptTail e (.Slice lo hi none p2) v (.ref c.heap.objs.size)) (EP X a σ Q) X.xe { c with heap:=c.heap.push { cls:=.type "slice",data:=.fields #[d,i,.none] } };exact tail_any (ops:=[.ref c.heap.objs.size,v]) z j p (by with_unfolding_all rfl)
def rN(xs:List V)(lo hi:Option Int):List V:=(xs.drop (HT.iV xs.length 0 lo)).take (HT.iV xs.length xs.length hi-HT.iV xs.length 0 lo)
theorem wC(xs:List V)(lo hi:Option Int):(rN xs lo hi).length<=xs.length:=by
 unfold rN;rw [cB,List.length_drop];omega
def aE2(K:KFr):V->Option Int->Option Int->Hp->VK->Prop:=λx lo hi H Q=>∃a xs,x=.ref a/\fN K H a xs /\
 ¬(HT.iV xs.length 0 lo=0/\HT.iV xs.length xs.length hi=xs.length)/\∀p,H p=none->Q (.ref p) (upd H p (.tup (rN xs lo hi)))
theorem aBt:SlR X (aE2 X.K):=by
 intro l s σ H x v A B e i C Q I u w pl y h;obtain ⟨a,d,rfl,z,p,q⟩:=h;cases u;obtain ⟨j,r,m,n⟩:=I.tuple z;have c:j.toArray.size=d.length:=by rw [bI];exact r.length.symm
 refine ⟨"tuple",_,PyProof.Rows.slot_tuple_getitem.lookup,m.typeIs,HT.tK m w pl y (by rw [c];exact p) ?_ (by rw [c];exact n)⟩;rw [c];refine ⟨.ref s.heap.objs.size,_,I.laid (t':=s.toks) (o:=.tup (rN d e i)) (λb D q=>aD _ q) (aE _) ?_,rfl,q _ (I.hok.fresh (aE _))⟩;exact ⟨⟨aZ (wC d e i) n,_,aX _ rfl,rfl⟩,_,(r.drop (HT.iV d.length 0 e)).take (HT.iV d.length d.length i-HT.iV d.length 0 e),IsTup.new _ _⟩
def aDN(K:KFr):R2:=λx y H Q=>∃a b xs ys,x=.ref a/\y=.ref b/\fN K H a xs/\fN K H b ys/\xs≠[]/\xs.length+ys.length<=sizeLine /\
 (ys=[]->Q (.ref a) H)/\(ys≠[]->∀p,H p=none->Q (.ref p) (upd H p (.tup (xs++ys))))
theorem eE.nil_iff{xs:List V}{us:List Value}(r:eE xs us):us=[]↔xs=[]:=by
 cases r with
 | nil=>simp
 | cons _ _=>simp
theorem ZA:rH X (binaryOp .Add) (aDN X.K):=by
 intro i s σ H x y v u Q I m J h;obtain ⟨a,b,r,B,rfl,rfl,C,D,L,j,G,p⟩:=h;cases m;cases J;obtain ⟨A,d,n,_⟩:=I.tuple C;obtain ⟨e,c,l,_⟩:=I.tuple D;refine HT.aAj n l (λz=>L (d.nil_iff.mp z)) (λz=>⟨.ref a,H,I,rfl,G (c.nil_iff.mp z)⟩) (λz=>?_) (by rw [<-d.length,<-c.length];exact j);refine ⟨.ref s.heap.objs.size,_,I.laid (t':=s.toks) (o:=.tup (r++B)) (λb M q=>aD _ q) (aE _) ?_,rfl,p (λw=>z (c.nil_iff.mpr w)) _ (I.hok.fresh (aE _))⟩;exact ⟨⟨by rw [aV];exact j,_,aX _ rfl,rfl⟩,_,d.append c,IsTup.new _ _⟩
end
def MC(n:Nat)(i:Int):Option Nat:=if 0<=i then (if i<n then some i.toNat else none) else if -(n:Int)<=i then some (i+n).toNat else none
def HR{α:Type}(xs:List α)(i:Int):Option α:=(MC xs.length i).bind λj=>xs[j]?
theorem MB{n:Nat}{i:Int}{j:Nat}(h:MC n i=some j):seqIndex? i n=some j/\j<n/\-(n:Int)<=i/\i<n:=by
 unfold MC at h;by_cases h0:0<=i
 ·rw [if_pos h0] at h;by_cases h1:i<n
  ·rw [if_pos h1] at h;have e:i.toNat=j:=dC h;exact ⟨by rw [seqIndex_of h0 h1,e],Oo,Oo,h1⟩
  ·rw [if_neg h1] at h;cases h
 ·rw [if_neg h0] at h;by_cases h1:-(n:Int)<=i
  ·rw [if_pos h1] at h;have e:(i+n).toNat=j:=dC h;exact ⟨by rw [seqIndex_neg Oo h1,e],Oo,h1,Oo⟩
  ·rw [if_neg h1] at h;cases h
theorem EI{α:Type}{xs:List α}{i:Int}{v:α}(h:HR xs i=some v):∃j,seqIndex? i xs.length=some j/\xs[j]?=some v/\j<xs.length/\-(xs.length:Int)<=i/\i<xs.length:=by
 unfold HR at h;cases e:MC xs.length i with
 | none=>rw [e] at h;cases h
 | some j =>
  rw [e] at h;obtain ⟨d,b,a,c⟩:=MB e;exact ⟨j,d,h,b,a,c⟩
theorem dM{α:Type}{xs:List α}{j:Nat}{v:α}(h:xs[j]?=some v):HR xs (j:Int)=some v:=by
 have a:j<xs.length:=(aO.mp h).1;have e:MC xs.length (j:Int)=some j:=by
  unfold MC;rw [if_pos Oo,if_pos Oo];simp
 unfold HR;rw [e];exact h
def NL(b:Expr):Prop:=∀o i,subscripted b false o i=operate [o,i] (getItem o i)
def WI(X:Cx)(r:R2):Prop :=
 ∀(value slice:Expr) (pins:List (Addr × Obj)) (s:Shared) (σ:St) (H:Hp) (x y:V) (v u:Value) (Q:VK),cO X pins σ H s->eI x v->eI y u->r x y H Q ->
  subscripted slice false v u=operate [v,u] (getItem v u)->wpAny (model X.prog X.w) X.A (subscriptTail value slice v u) (EP X pins σ Q) X.xe s
def MtR(X:Cx)(id:String)(r:V->List V->Hp->VK->Prop):Prop :=
 ∀(pins:List (Addr × Obj)) (s:Shared) (σ:St) (H:Hp) (x:V) (xs:List V) (v:Value) (us:List Value) (Q:VK),cO X pins σ H s->eI x v->eE xs us->r x xs H Q ->
  wpAny (model X.prog X.w) X.A (call (.builtin id) (v::us)) (EP X pins σ Q) X.xe s
section
variable{X:Cx}{a b:Expr}{ta tb:TE}{pos:Pos}
theorem WI.or{r r':R2}(h:WI X r)(h':WI X r'):WI X (λx y H Q=>r x y H Q\/r' x y H Q):=by
 intro a b c s σ H x y v u Q I e i q d;rcases q with q | q
 ·exact h a b c s σ H x y v u Q I e i q d
 ·exact h' a b c s σ H x y v u Q I e i q d
theorem aDV{r:R2}(hr:WI X r)(ha:PE X a ta)(hb:PE X b tb)(hs:NL b):PE X (.Subscript a b pos) (XE r ta tb):=by
 intro c s σ H Q I h;exact Subscript_ (aC2 ha hb I h λv u i x y H2 I2 d e q=>hr a b c i σ H2 x y v u Q I2 d e q (hs _ _))
def aDL(K:KFr):R2:=λx y H Q=>∃p xs i v,x=.ref p/\y=.int i/\fY K H p xs/\HR xs i=some v/\Q v H
def aDJ(K:KFr):R2:=λx y H Q=>∃p xs i v,x=.ref p/\y=.int i/\fN K H p xs/\HR xs i=some v/\Q v H
def aDK:R2:=λx y H Q=>∃z i c,x=.str z/\y=.int i/\z.length<=sizeLine/\HR z.cps.toList i=some c/\Q (.str ⟨#[c]⟩) H
theorem ZQ:WI X (aDL X.K):=by
 intro e n a s σ H x y v u Q I B O h o;obtain ⟨p,P,i,z,rfl,rfl,C,J,q⟩:=h;cases B;obtain ⟨t,rfl⟩:=O;obtain ⟨d,r,pl,T⟩:=I.list C;obtain ⟨j,c,M,S,N,L⟩:=EI J;obtain ⟨w,A,l⟩:=r.get M;have D:=r.length;have R:=yI;have b:EP X a σ Q w s:=⟨z,H,I,l,q⟩;by_cases h0:0<=i
 ·have m:i.toNat=j:=by
   rw [seqIndex_of h0 L] at c;exact dC c
  exact item_listR pl.isList h0 Oo (by rw [m];simpa using A) b o
 ·have m:(i+(d.toArray.size:Int)).toNat=j:=by
   rw [seqIndex_neg Oo N] at c;rw [bI,<-D];exact dC c
  exact subscriptTail_builtinR (x:=w) pl.isList.typeIs slot_list_getitem.lookup
   (wpAny_getItem_list_neg (Q:=λr G=>r=w/\EP X a σ Q r G) pl.isList Oo (by rw [bI] <;> omega) Oo (by rw [m];simpa using A) ⟨rfl,b⟩) o
theorem aCF:WI X (aDJ X.K):=by
 intro b e a s σ H x y v u Q I l J h A;obtain ⟨p,M,i,z,rfl,rfl,m,D,q⟩:=h;cases l;obtain ⟨t,rfl⟩:=J;obtain ⟨o,r,pl,S⟩:=I.tuple m;obtain ⟨j,L,G,R,P,O⟩:=EI D;obtain ⟨w,B,c⟩:=r.get G;have n:=r.length;have N:=yI;have d:EP X a σ Q w s:=⟨z,H,I,c,q⟩;exact subscriptTail_builtinR (x:=w) pl.typeIs slot_tuple_getitem.lookup
  (getItem_tuple (j:=j) (Q:=λr C=>r=w/\EP X a σ Q r C) pl Oo Oo (by rw [bI,<-n];exact L) (by simpa using B) ⟨rfl,d⟩) A
theorem aCG:WI X aDK:=by
 intro a b d s σ H x y v u Q I l C h o;obtain ⟨z,i,c,rfl,rfl,L,r,q⟩:=h;obtain ⟨t,rfl⟩:=l;obtain ⟨G,rfl⟩:=C;obtain ⟨j,e,A,J,B,w⟩:=EI r;have m:z.cps.toList.length=z.length:=by simp [Str.length]
 rw [m] at e B w;have D:=yI;exact tail_any (typeIs_str s z t) slot_str_getitem.lookup (getItem_str (c:=c) (by
  have n:decide (i < -(2^63:Int))=false:=bU Oo;have p:decide (i ≥ 2^63)=false:=bU Oo;rw [n,p,Bool.or_false]) (by rw [e];simpa using A) ⟨.str ⟨#[c]⟩,H,I.tok _,⟨_,rfl⟩,q⟩) o
def rIx(K:KFr):R2:=λx y H Q=>aDL K x y H Q\/aDJ K x y H Q\/aDK x y H Q
theorem bK:WI X (rIx X.K):=ZQ.or (aCF.or aCG)
theorem JD(its:List Value)(n j:Nat)(u:Value):Obj.mapSeq (·.setIfInBounds j u) { cls:=.type "list",data:=.seq its.toArray n }={ cls:=.type "list",data:=.seq (its.set j u).toArray n }:=by
 simp [Obj.mapSeq]
theorem cO.lst{pins:List (Addr × Obj)}{σ:St}{H:Hp}{s:Shared}{p:Addr}{xs:List V}(I:cO X pins σ H s)(h:H p=some (.lst xs)) :
  ∃(its:List Value) (n:Nat),eE xs its/\s.heap.get? p=some { cls:=.type "list",data:=.seq its.toArray n }/\xs.length<=sizeLine:=by
 obtain ⟨z,its,n,r,e⟩:=I.hok p _ h;exact ⟨its,n,r,e,z⟩
theorem cO.lstUpd{pins:List (Addr × Obj)}{σ:St}{H:Hp}{s:Shared}{p:Addr}{xs ys:List V}{its its':List Value}{n n':Nat}{f:Obj->Obj}(I:cO X pins σ H s)(h:H p=some (.lst xs))
  (ho:s.heap.get? p=some { cls:=.type "list",data:=.seq its.toArray n }) (hf:f { cls:=.type "list",data:=.seq its.toArray n }={ cls:=.type "list",data:=.seq its'.toArray n' }) (r:eE ys its') (hz:ys.length<=sizeLine) (t:Nat) :
  cO X pins σ (upd H p (.lst ys)) { s with heap:=s.heap.update p f,toks:=t }:=by
 have e:(s.heap.update p f).get? p=some { cls:=.type "list",data:=.seq its'.toArray n' }:=by
  rw [Heap.get?_update_self f ho (by rw [hf] <;> rfl),hf]
 refine I.write (x:=p) (e:=p) (by rw [h];trivial) (.inl rfl) (λb u a q=>(Heap.get?_update_other _ _ (Ne.symm a)).trans q) ⟨_,e⟩ ?_;exact ⟨hz,its',n',r,e⟩
def SV:V->V->V->Hp->(Hp->Prop)->Prop:=λo i v H Q=>∃p xs k j,o=.ref p/\i=.int k/\H p=some (.lst xs)/\MC xs.length k=some j/\Q (upd H p (.lst (xs.set j v)))
theorem kS:aC9 X SV:=by
 intro b s σ H o i v D J u Q I B y rv h;obtain ⟨p,z,k,j,rfl,rfl,m,A,q⟩:=h;cases B;obtain ⟨t,rfl⟩:=y;obtain ⟨a,n,r,l,C⟩:=I.lst m;obtain ⟨c,L,x,w⟩:=MB A;have d:=r.length;have G:=yI;have I':cO X b σ (upd H p (.lst (z.set j v))) { s with heap:=s.heap.update p (Obj.mapSeq (·.setIfInBounds j u)) } :=
  I.lstUpd m l (JD a n j u) (r.set rv j) (by rw [List.length_set];exact C) s.toks
 by_cases h0:0<=k
 ·have e:k.toNat=j:=by
   rw [seqIndex_of h0 w] at c;exact dC c
  exact PySem.W.ki_setAt l h0 Oo (by rw [bI,<-d];exact w) (by rw [e];exact ⟨_,I',q⟩)
 ·have e:(k+(a.toArray.size:Int)).toNat=j:=by
   rw [seqIndex_neg Oo x] at c;rw [bI,<-d];exact dC c
  exact PySem.W.ki_setBack l Oo (by rw [bI,<-d];exact x) Oo (by rw [e];exact ⟨_,I',q⟩)
theorem CQ(lo hi:Option Int)(n:Nat):(sliceBounds lo hi none n).1=((HT.iV n 0 lo:Nat):Int)/\(sliceBounds lo hi none n).2.1=((HT.iV n n hi:Nat):Int)/\(sliceBounds lo hi none n).2.2=1:=by
 refine ⟨?_,?_,rfl⟩
 ·cases lo with
  | none=>simp [sliceBounds,HT.iV]
  | some i =>
   simp only [sliceBounds,HT.iV,Option.getD_none,show (1:Int) > 0 by decide,if_true];by_cases h:i<0
   ·simp only [h,if_true] <;> omega
   ·simp only [h,if_false] <;> omega
 ·cases hi with
  | none=>simp [sliceBounds,HT.iV]
  | some i =>
   simp only [sliceBounds,HT.iV,Option.getD_none,show (1:Int) > 0 by decide,if_true];by_cases h:i<0
   ·simp only [h,if_true] <;> omega
   ·simp only [h,if_false] <;> omega
theorem zK(its:List Value)(lo hi:Option Int):slicePick its.toArray lo hi none=((its.drop (HT.iV its.length 0 lo)).take (HT.iV its.length its.length hi-HT.iV its.length 0 lo)).toArray:=by
 obtain ⟨c,b,a⟩:=CQ lo hi its.toArray.size;unfold slicePick;rw [c,b,a];simp only [sliceRange_one,pick_run,bI] <;> rfl
def aDH(K:KFr):V->Option Int->Option Int->Hp->VK->Prop:=λx lo hi H Q=>∃a xs,x=.ref a/\fY K H a xs/\∀p,H p=none->Q (.ref p) (upd H p (.lst (rN xs lo hi)))
theorem KZ:SlR X (aDH X.K):=by
 intro j s σ H x v z A e i B Q I m p pl u h;obtain ⟨a,c,rfl,w,q⟩:=h;cases m;obtain ⟨n,r,l,y⟩:=I.list w;have d:=r.length;refine ⟨"list",_,slot_list_getitem.lookup,l.isList.typeIs,wpAny_getItem_list_slice l.isList p pl u .none (by simp) ?_ (by rw [bI] <;> omega)⟩;rw [zK,<-d];refine ⟨.ref s.heap.objs.size,_,I.laid (t':=s.toks) (o:=.lst (rN c e i)) (λb C q=>aD _ q) (aE _) ?_,rfl,q _ (I.hok.fresh (aE _))⟩;exact ⟨aZ (wC c e i) y,_,0,(r.drop (HT.iV c.length 0 e)).take (HT.iV c.length c.length i-HT.iV c.length 0 e),aX _ rfl⟩
def qN:V->Bool
 | .non=>true
 | .bl _=>true
 | .int _=>true
 | .str _=>true
 | _=>false
def ZZ:V->V->Bool
 | .non,.non=>true
 | .bl a,.bl b=>a == b
 | .bl a,.int b=>(if a then 1 else 0) == b
 | .int a,.bl b=>a == (if b then 1 else 0)
 | .int a,.int b=>a == b
 | .str a,.str b=>a == b
 | _,_=>false
theorem aCR{A:Around}{s:Shared}{y x:V}{u v:Value}(ry:eI y u)(rx:eI x v)(fy:qN y=true)(fx:qN x=true):SeqAt.EqAt A s u v (ZZ y x):=by
 cases y with
 | non =>
  cases ry;cases x with
  | non=>cases rx;exact SeqAt.EqAt.same _
  | bl b=>cases rx;exact SeqAt.EqAt.none_bool b
  | int b=>obtain ⟨t,rfl⟩:=rx;exact SeqAt.EqAt.none_int b t
  | str b=>obtain ⟨t,rfl⟩:=rx;exact SeqAt.EqAt.none_str b t
  | _=>exact absurd (show false=true from fx) bQ
 | bl a =>
  cases ry;cases x with
  | non=>cases rx;exact SeqAt.EqAt.bool_none a
  | bl b=>cases rx;exact SeqAt.EqAt.bool_bool a b
  | int b=>obtain ⟨t,rfl⟩:=rx;exact SeqAt.EqAt.bool_int a b t
  | str b=>obtain ⟨t,rfl⟩:=rx;exact SeqAt.EqAt.bool_str a b t
  | _=>exact absurd (show false=true from fx) bQ
 | int a =>
  obtain ⟨c,rfl⟩:=ry;cases x with
  | non=>cases rx;exact SeqAt.EqAt.int_none a c
  | bl b=>cases rx;exact SeqAt.EqAt.int_bool a c b
  | int b=>obtain ⟨t,rfl⟩:=rx;exact SeqAt.EqAt.int_int a c b t
  | str b=>obtain ⟨t,rfl⟩:=rx;exact SeqAt.EqAt.int_str a c b t
  | _=>exact absurd (show false=true from fx) bQ
 | str a =>
  obtain ⟨c,rfl⟩:=ry;cases x with
  | non=>cases rx;exact SeqAt.EqAt.str_none a c
  | bl b=>cases rx;exact SeqAt.EqAt.str_bool a c b
  | int b=>obtain ⟨t,rfl⟩:=rx;exact SeqAt.EqAt.str_int a c b t
  | str b=>obtain ⟨t,rfl⟩:=rx;exact SeqAt.EqAt.str_str a c b t
  | _=>exact absurd (show false=true from fx) bQ
 | _=>exact absurd (show false=true from fy) bQ
def JK(x:V)(u:Value):Bool:=match u with
 | .none=>ZZ .non x
 | .bool b=>ZZ (.bl b) x
 | .int i _=>ZZ (.int i) x
 | .str z _=>ZZ (.str z) x
 | _=>false
theorem UX{x y:V}{u:Value}(r:eI y u)(f:qN y=true):JK x u=ZZ y x:=by
 cases y with
 | non=>cases r;rfl
 | bl b=>cases r;rfl
 | int i=>obtain ⟨t,rfl⟩:=r;rfl
 | str z=>obtain ⟨t,rfl⟩:=r;rfl
 | _=>exact absurd (show false=true from f) bQ
theorem tV{x:V}:∀{xs:List V}{us:List Value},eE xs us->xs.all qN=true->us.any (JK x)=xs.any λy=>ZZ y x
 | _,_,.nil,_=>rfl
 | y::xs,u::us,.cons r t,f=>by
  rw [List.all_cons,cM] at f;rw [List.any_cons,List.any_cons,UX r f.1,tV t f.2]
theorem qH{A:Around}{s:Shared}{x:V}{v:Value}(rx:eI x v)(fx:qN x=true):∀{xs:List V}{us:List Value},eE xs us->xs.all qN=true->∀u∈us,SeqAt.EqAt A s u v (JK x u)
 | _,_,.nil,_=>λu hu=>by cases hu
 | y::xs,u::us,.cons r t,f=>λu' hu=>by
  rw [List.all_cons,cM] at f;rcases bE.mp hu with rfl | hu
  ·rw [UX r f.1];exact aCR r rx f.1 fx
  ·exact qH rx fx t f.2 u' hu
def UL(x:V)(xs:List V):Bool:=xs.any λy=>ZZ y x
def rIn(K:KFr)(neg:Bool):R2:=λx y H Q=>∃p xs,y=.ref p/\(fY K H p xs\/fN K H p xs)/\qN x=true/\xs.all qN=true/\Q (.bl (if neg then !UL x xs else UL x xs)) H
theorem AM:rH X (compareOp .In) (rIn X.K false):=by
 intro i s σ H x y v u Q I d j h;obtain ⟨p,m,rfl,b,e,fs,q⟩:=h;cases j;rcases b with b | b
 ·obtain ⟨a,r,pl,l⟩:=I.list b;refine SeqAt.in_listAt (JK x) pl.isList (λw c=>qH d e r fs w (by simpa using c)) ⟨.bl _,H,I,rfl,?_⟩;rw [show a.toArray.any (JK x)=a.any (JK x) by simp,tV r fs];exact q
 ·obtain ⟨a,r,pl,l⟩:=I.tuple b;refine SeqAt.in_tupleAt (JK x) pl (λw c=>qH d e r fs w (by simpa using c)) ⟨.bl _,H,I,rfl,?_⟩;rw [show a.toArray.any (JK x)=a.any (JK x) by simp,tV r fs];exact q
theorem DG:rH X (compareOp .NotIn) (rIn X.K true):=by
 intro i s σ H x y v u Q I d j h;obtain ⟨p,m,rfl,b,e,fs,q⟩:=h;cases j;rcases b with b | b
 ·obtain ⟨a,r,pl,l⟩:=I.list b;refine SeqAt.notIn_listAt (JK x) pl.isList (λw c=>qH d e r fs w (by simpa using c)) ⟨.bl _,H,I,rfl,?_⟩;rw [show a.toArray.any (JK x)=a.any (JK x) by simp,tV r fs];exact q
 ·obtain ⟨a,r,pl,l⟩:=I.tuple b;refine SeqAt.notIn_tupleAt (JK x) pl (λw c=>qH d e r fs w (by simpa using c)) ⟨.bl _,H,I,rfl,?_⟩;rw [show a.toArray.any (JK x)=a.any (JK x) by simp,tV r fs];exact q
theorem tR:jO X (.type "list") (λxs H Q=>∃p ys,xs=[.ref p]/\(fY X.K H p ys\/fN X.K H p ys)/\∀l,H l=none->Q (.ref l) (upd H l (.lst ys))):=by
 intro y s σ H xs G Q I r h;obtain ⟨p,ys,rfl,m,q⟩:=h;obtain ⟨u,rfl,D⟩:=mT r;cases D;have z:∀(a:List Value),eE ys a->ys.length<=sizeLine->∀(c:Heap) (i:Nat),(∀b o',s.heap.get? b=some o'->c.get? b=some o') ->
   c.get? s.heap.objs.size=some { cls:=.type "list",dict:=none,data:=.seq a.toArray i,slots:=#[] }->EP X y σ Q (.ref s.heap.objs.size) { s with heap:=c }:=λa d A c i x e =>
  ⟨.ref s.heap.objs.size,_,I.laid (t':=s.toks) x (aE _) (show fA X.prog X.w _ c _ (.lst ys) from ⟨A,a,i,d,e⟩),rfl,q _ (I.hok.fresh (aE _))⟩
 rcases m with m | m
 ·obtain ⟨a,d,pl,A⟩:=I.list m;have j:=d.length;obtain ⟨o,C,B,n,hd⟩:=pl.isList;exact call_list_seq p (.inl rfl) C B hd (λc i x e=>z a d A c i x e) (by simp only [bI] <;> omega)
 ·obtain ⟨a,d,pl,A⟩:=I.tuple m;have j:=d.length;obtain ⟨o,C,B,n,hd⟩:=pl;exact call_list_seq p (.inr rfl) C B hd (λc i x e=>z a d A c i x e) (by simp only [bI] <;> omega)
theorem dF:jO X (.type "tuple") (λxs H Q=>∃p ys,xs=[.ref p]/\((fY X.K H p ys/\∀l,H l=none->Q (.ref l) (upd H l (.tup ys)))\/(fN X.K H p ys/\Q (.ref p) H))):=by
 intro a s σ H xs z Q I r h;obtain ⟨p,ys,rfl,h⟩:=h;obtain ⟨u,rfl,x⟩:=mT r;cases x;rcases h with ⟨j,q⟩ | ⟨j,q⟩
 ·obtain ⟨c,i,pl,n⟩:=I.list j;have m:=i.length;refine call_tuple_list pl.isList (λd y=>?_) (by simp only [bI] <;> omega);have I1:cO X a σ H { s with heap:=d }:=I.kept (t':=s.toks) y;have I2:cO X a σ (upd H d.objs.size (.tup ys)) { s with heap:=d.push { cls:=.type "tuple",data:=.seq c.toArray } } :=
   I1.laid (t':=s.toks) (λb o e=>aD _ e) (aE _) (show fA X.prog X.w _ _ _ (.tup ys) from ⟨⟨n,_,aX _ rfl,rfl⟩,c,i,IsTup.new _ _⟩)
  exact ⟨.ref d.objs.size,_,I2,rfl,q _ (I1.hok.fresh (aE _))⟩
 ·obtain ⟨c,i,pl,n⟩:=I.tuple j;exact call_tuple_same pl ⟨.ref p,H,I,rfl,q⟩
def tyV(K:KFr)(T:String)(x:V)(H:Hp):Prop:=match x with
 | .str _=>T = "str"
 | .int _=>T = "int"
 | .ref p=>(T = "list" /\ ∃xs,fY K H p xs)\/(T = "tuple" /\ ((∃o,K.lookup p=some o/\o.cls=.type "tuple" /\ o.dict=none)\/∃xs,H p=some (.tup xs))) \/
   (T = "dict" /\ ((∃kvs,H p=some (.dK kvs))\/∃kvs,H p=some (.dT kvs)))\/(T = "set" /\ ∃S n,H p=some (.set S n))
 | _=>False
theorem aBm{pins:List (Addr × Obj)}{σ:St}{H:Hp}{s:Shared}{T:String}{x:V}{v:Value}(I:cO X pins σ H s)(r:eI x v)(ty:tyV X.K T x H) :
  s.TypeIs v T/\∀a,v=.ref a->∃ob,s.heap.get? a=some ob/\ob.dict=none:=by
 cases x with
 | str z =>
  obtain ⟨t,rfl⟩:=r;cases (show T = "str" from ty);exact ⟨typeIs_str s z t,λ_ e=>nomatch e⟩
 | int i =>
  obtain ⟨t,rfl⟩:=r;cases (show T = "int" from ty);exact ⟨typeIs_int s i t,λ_ e=>nomatch e⟩
 | ref p =>
  cases r;rcases ty with ⟨rfl,m,l⟩ | ⟨rfl,⟨o,b,u,hd⟩ | ⟨m,l⟩⟩ | ⟨rfl,b⟩ | ⟨rfl,S,n,b⟩
  ·obtain ⟨y,_,pl,_⟩:=I.list l;refine ⟨pl.isList.typeIs,λa e=>?_⟩;cases e;obtain ⟨o,n,e,c,hd,_⟩:=pl;exact ⟨o,e,hd⟩
  ·refine ⟨⟨o,I.kIn p o b,u⟩,λa e=>?_⟩;cases e;exact ⟨o,I.kIn _ o b,hd⟩
  ·obtain ⟨⟨_,D,C,B⟩,_,_,o,A,h,_⟩:=(show fA X.prog X.w H s.heap p (.tup m) from I.hok p _ l);refine ⟨⟨o,A,h⟩,λa e=>?_⟩;cases e;exact ⟨D,C,B⟩
  ·have z:∃o,s.heap.get? p=some o/\o.ExactDict:=by
    rcases b with ⟨j,b⟩ | ⟨j,b⟩
    ·obtain ⟨_,_,_,_,o,_,_,e,d,_⟩:=I.hok p _ b;exact ⟨o,e,d⟩
    ·obtain ⟨_,_,_,_,o,_,_,e,d,_⟩:=I.hok p _ b;exact ⟨o,e,d⟩
   obtain ⟨o,e,d⟩:=z;refine ⟨⟨o,e,d.1⟩,λa h=>?_⟩;cases h;exact ⟨o,e,d.2.1⟩
  ·obtain ⟨o,_,_,_,e,d,_⟩:=I.hok p _ b;refine ⟨⟨o,e,d.1⟩,λa h=>?_⟩;cases h;exact ⟨o,e,d.2.1⟩
 | _=>exact False.elim ty
def tBM(K:KFr)(T:String)(r:V->List V->Hp->VK->Prop)(to:TE)(t:TA):TE:=λσ H Q=>to σ H λx H1=>tyV K T x H1/\t σ H1 λxs H2=>r x xs H2 Q
variable{o e:Expr}{es:List Expr}{to:TE}{t:TA}{name:Str}{apos cpos:Pos}{T id:String}{r:V->List V->Hp->VK->Prop}
theorem aDX(pa:PlainAttrs T)(slot:Slot T name id)(hty:typeOf (.builtin id)=pure (.type "method_descriptor"))(hm:MtR X id r)(ho:PE X o to)(ha:PA X (e::es) t)
  (hbase:attributeBase o name X.env (eval o X.env)=eval o X.env:=by rfl)
  (hfew:((backTo cpos (starEach (e::es) X.env)).all (λx=>!x.1)&&(backToKw cpos (keywordEach [] X.env)).all (λx=>x.1.isSome)
   && decide ((e::es).length+([]:List Keyword).length+(if ([]:List Keyword).isEmpty then 0 else 1)<30))=true:=by rfl)
  (hline:(apos.endLine == cpos.line)=true:=by rfl) (hs:starEach (e::es) X.env=(false,eval e X.env)::starEach es X.env:=by rfl) (hplain:(backTo cpos (starEach es X.env)).any (·.1)=false:=by rfl) :
  PE X (.Call (.Attribute o name apos) (e::es) [] cpos) (tBM X.K T r to t):=by
 intro b s σ H Q I h;refine wpAny_Call_method_late hbase hfew hline rfl (thn (ho b s σ H _ I h) λv l ⟨x,H1,I1,d,n,y⟩=>?_);obtain ⟨A,w⟩:=aBm I1 d n;refine ⟨T,id,pa,slot,hty,A,w,?_⟩;have c:=ha cpos b l σ H1 _ I1 y;rw [hs] at c ⊢;refine Calls.callWith_builtin (by show (false || (backTo cpos (starEach es X.env)).any (·.1))=false;rw [hplain] <;> rfl) (Calls.evalArgs_plain ?_);exact thn c λz u ⟨p,H2,I2,j,i⟩=>hm b u σ H2 x p v z Q I2 d j i
/- xs.append(e),list.index on a module's tuple .. are MtR facts of 06m -/
end
def MtM(X:Cx)(id:String)(r:V->List V->Hp->VK->Prop):Prop :=
 ∀(pins:List (Addr × Obj)) (s:Shared) (σ:St) (H:Hp) (x:V) (xs:List V) (v:Value) (us:List Value) (Q:VK),cO X pins σ H s->eI x v->eE xs us->r x xs H Q ->
  wpAny (model X.prog X.w) X.A (call (.builtin id) (v::us)) (EP X pins σ Q) X.xe s
theorem eE.one:∀{x:V}{us:List Value},eE [x] us->∃u,us=[u]/\eI x u
 | _,_,.cons r .nil=>⟨_,rfl,r⟩
theorem BA(its:List Value):∀(k:Nat) (acc:List Value),
  List.foldl (λx1 x2=>x1++x2) acc.toArray (List.replicate k its.toArray)=(acc++(List.replicate k its).flatten).toArray
 | 0,acc=>by simp
 | k+1,acc=>by
  have e:acc.toArray++its.toArray=(acc++its).toArray:=by simp
  have a:(acc++its)++(List.replicate k its).flatten=acc++(List.replicate (k+1) its).flatten:=by
   rw [List.replicate_succ,List.flatten_cons,List.append_assoc]
  rw [<-a,<-BA its k (acc++its),<-e,List.replicate_succ,List.foldl_cons]
section
variable{X:Cx}{pins:List (Addr × Obj)}{σ:St}{H:Hp}{s:Shared}{l b:Addr}{xs ys zs:List V}
theorem cO.lset{its its':List Value}{n:Nat}{f:Array Value->Array Value}{t':Nat}(I:cO X pins σ H s)(hH:H l=some (.lst xs))
  (e:s.heap.get? l=some { cls:=.type "list",data:=.seq its.toArray n }) (hf:f its.toArray=its'.toArray) (hv:eE ys its') (hz:ys.length<=sizeLine) :
  cO X pins σ (upd H l (.lst ys)) { s with heap:=s.heap.update l (Obj.mapSeq f),toks:=t' }:=by
 have q:=PySem.IsL.update e f;rw [hf] at q;refine I.write (x:=l) (e:=l) (by rw [hH];exact trivial) (.inl rfl) (λc u b a=>(Heap.get?_update_other s.heap (Obj.mapSeq f) (Ne.symm b)).trans a) ⟨_,q⟩ ?_;exact ⟨hz,its',_,hv,q⟩
theorem cO.lnew{its:List Value}{t':Nat}(I:cO X pins σ H s)(hv:eE ys its)(hz:ys.length<=sizeLine) :
  cO X pins σ (upd H s.heap.objs.size (.lst ys)) { s with heap:=s.heap.push { cls:=.type "list",data:=.seq its.toArray },toks:=t' } :=
 I.laid (λ_ _ q=>aD _ q) (aE _) ⟨hz,its,0,hv,aX _ rfl⟩
theorem cO.fresh(I:cO X pins σ H s):H s.heap.objs.size=none:=I.hok.fresh (aE _)
theorem cO.lstM(I:cO X pins σ H s)(hH:H l=some (.lst xs)):xs.length<=sizeLine/\∃(its:List Value) (n:Nat),eE xs its/\xs.length=its.length/\s.heap.get? l=some { cls:=.type "list",data:=.seq its.toArray n }:=by
 obtain ⟨z,its,n,r,e⟩:=I.hok l _ hH;exact ⟨z,its,n,r,r.length,e⟩
theorem UC{n:Nat}(h:n<=sizeLine):Builtin.List.listTooLong n=false:=by
 unfold Builtin.List.listTooLong;exact bU Oo
end
section
variable{X:Cx}
def LM:V->List V->Hp->VK->Prop:=λx vs H Q=>∃l xs y,x=.ref l/\vs=[y]/\H l=some (.lst xs)/\xs.length<sizeLine/\Q .non (upd H l (.lst (xs++[y])))
theorem uW:MtM X "list.append" LM:=by
 intro b s σ H x o v p Q I i rv h;obtain ⟨l,m,y,rfl,rfl,c,w,q⟩:=h;cases i;obtain ⟨u,rfl,d⟩:=rv.one;obtain ⟨z,a,n,r,j,e⟩:=I.lstM c;refine call_meets F.slot_list_append ⟨_,e,rfl⟩ F.entry_list_append (F.args_list_append_2 _ _) (PySem.list_append l a.toArray n u (by rw [bI];omega)) ⟨e,⟨.non,_,I.lset (its':=a++[u]) c e (by simp) (r.append (.cons d .nil)) ?_,rfl,q⟩⟩;rw [aV,List.length_singleton];omega
def LJ:V->List V->Hp->VK->Prop:=λx vs H Q=>∃l b xs zs,x=.ref l/\vs=[.ref b]/\H l=some (.lst xs)/\H b=some (.lst zs)/\xs.length+zs.length<=sizeLine/\Q .non (upd H l (.lst (xs++zs)))
theorem OT:MtM X "list.extend" LJ:=by
 intro j s σ H x M v N Q I w rv h;obtain ⟨l,b,L,D,rfl,rfl,m,p,O,q⟩:=h;cases w;obtain ⟨u,rfl,o⟩:=rv.one;cases o;obtain ⟨z,c,n,r,G,e⟩:=I.lstM m;obtain ⟨J,a,A,y,C,B⟩:=I.lstM p;have i:c.toArray.size+a.toArray.size<=sizeLine:=by rw [bI,bI];omega
 have d:¬(!c.toArray.isEmpty&&Builtin.List.listTooLong (c.toArray.size+a.toArray.size))=true:=by
  rw [UC i,Bool.and_false];exact bQ
 refine call_meets F.slot_list_extend ⟨_,e,rfl⟩ F.entry_list_extend (F.args_list_extend_2 _ _)
  (AutoSeq1.list_extend_list_list_0 l c.toArray n b a.toArray A d (by rw [bI];omega) Oo) ⟨e,B,?_⟩
 refine ⟨.non,_,I.lset (its':=c++a) m e (by simp) (r.append y) ?_,rfl,q⟩;rw [aV];omega
def aDO:R2:=λx y H Q=>∃l b xs zs,x=.ref l/\y=.ref b/\H l=some (.lst xs)/\H b=some (.lst zs)/\xs.length+zs.length<=sizeLine/\∀p,H p=none->Q (.ref p) (upd H p (.lst (xs++zs)))
theorem aCq:rH X (binaryOp .Add) aDO:=by
 intro d s σ H x y v u Q I j B h;obtain ⟨l,b,J,C,rfl,rfl,A,i,M,q⟩:=h;cases j;cases B;obtain ⟨z,c,n,r,D,e⟩:=I.lstM A;obtain ⟨G,a,L,m,w,p⟩:=I.lstM i;refine PySem.P.add_list e p ?_ (by rw [bI,bI];omega);have o:c.toArray++a.toArray=(c++a).toArray:=by simp
 rw [o];exact ⟨.ref _,_,I.lnew (t':=s.toks) (r.append m) (by rw [aV];omega),rfl,q _ I.fresh⟩
end
section
variable{prog:Program}{w:World}{A:Around}{E:Value->Shared->Prop}{s:Shared}
end
section
variable{X:Cx}
end
end L2
namespace Att
open PySem PySem.W PySem.Calls PyProof.Rows
theorem wJ{P:Params}{h:Heap}:∀(ns:List Int) (vs:List Value),WellAll P h vs (ns.map WData.int)->IntsAre vs ns:=by
 intro ns
 induction ns with
 | nil =>
  intro vs w;rw [List.map_nil] at w;cases w;exact .nil
 | cons n ns ih =>
  intro vs w;rw [bF] at w;cases w with
  | cons a b =>
   cases a;exact .cons _ _ (ih _ b)
theorem OF{l:OpenLaw}{n:Nat}(hn:l.most=some n){P:Params}{h:Heap}{args:List WData}{vals:List Value}
  (hpre:l.row.toRowW.claim.pre args=true) (hwl:WellAll P h vals args) :
  ∃a vs ns,vals=[Value.ref a]/\args=[WData.list (ns.map WData.int)]/\h.get? a=some { cls:=.type "list",data:=.seq vs.toArray }/\IntsAre vs ns/\ns.length<=n:=by
 have i:WShape.hasAll [] args [.list .int]=true:=(pre_splitW hpre).1;have j:l.pre.holds [] { args:=args }=true:=(pre_splitW hpre).2;obtain ⟨d,r,rfl,s,o⟩:=hasAllW_cons i;obtain rfl:=hasAllW_nil o;obtain ⟨u,rfl,p⟩:=hasW_list s;obtain ⟨ns,rfl⟩:=items_int p;have b:ns.length<=n:=by
  unfold OpenLaw.pre at j;have c:(WTm.not (.lt (.lit (.int (n:Int))) (.len (.arg 0)))).holds [] { args:=[.list (ns.map .int)] }=true:=by
   have c:=(holds_andW j).1;rw [hn] at c;exact c
  have e:=condW_of c (w_not (w_lt w_lit (w_len_list (w_arg rfl))));rw [aB] at e;refine Nat.le_of_not_lt λq=>?_;have m:(n:Int)<((ns.length:Nat):Int):=Oo
  first
   | (rw [cG m] at e;exact absurd e Dd)
   | (simp at e;omega)
 cases hwl with
 | cons w1 w2 =>
  cases w2;cases w1 with
  | list ho hall=>exact ⟨_,_,ns,rfl,rfl,ho,wJ ns _ hall,b⟩
theorem ON(l:OpenLaw)(args:List WData):l.row.toRowW.claim.post args (.bool true) args=true :=
 postW_of (r:=l.row.toRowW) (X:=(true == true))
  (show WShape.has [] (.bool true) .bool=true by first | rfl | decide | simp [WShape.has,WShape.arms,WShape.armsAll])
  (show (WTm.eq .res (.lit (.bool true))).value [] { args:=args,res:=some (.bool true),after:=args }=some (.bool (true == true)) from w_eq_bool (w_res rfl) w_lit) rfl
theorem HQ{l:OpenLaw}{n:Nat}{q:Program}{loose:List Str}{XP:(Str->Option Value)->Heap->Prop}{YP:World->Heap->Prop}{d:DefRec}
  (hn:l.most=some n) (hdf:d.params.defaults=[])
  (call:∀(w:World) (s₀ s₁:Shared) (mg mb:Str->Option Value) (fa:Addr) (o:Obj) (pm cd doc:Value) (a:Addr) (vs:List Value) (ns:List Int),
   Ground q loose [] XP w s₀ mg mb s₁.heap->YP w s₁.heap ->
   s₁.heap.get? fa=some o->o.data=.func (docDef d.name d.params d.body d.scope pm cd doc)->s₁.heap.CodeRec cd d.name->mg d.name=some (.ref fa) ->
   s₁.heap.get? a=some { cls:=.type "list",data:=.seq vs.toArray }->IntsAre vs ns->ns.length<=n->s₁.gens=#[] ->
   codeAny (model l.prog w) callerA (.call (.ref fa) ⟨[.ref a],[]⟩) (λr s'=>r=.ok (.ret (.bool true))/\OldK s₁.heap s'.heap/\s'.os=s₁.os/\AllBare s'.gens) s₁) :
  WalkO q loose XP YP l.row.toRowW d [] (λf vs=>PySem.call f vs):=by
 intro w s₀ s₁ mg mb G Y fa o pm cd doc B kV I hd j hD m A s vals L h p x i y;obtain rfl:B=.none:=Dflts.none hD hdf;obtain rfl:kV=.none:=Dflts.noKw hD;obtain ⟨a,vs,ns,rfl,rfl,e,b,c⟩:=OF hn h i;refine enter_call (codeAny_mono (call w s₀ s₁ mg mb fa o pm cd doc a vs ns G Y I (fd_plain hd) j m e b c A) λr s' u=>?_);obtain ⟨rfl,C,J,D⟩:=u;exact ⟨.inl ⟨.bool true,.bool true,[],rfl,λ_=>rfl,.bool true,ON l _,λ_=>⟨List.Pairwise.nil,λ_ z=>(nomatch z)⟩⟩,C,J,D⟩
section
variable{prog:Program}{w:World}{A:Around}{E:Value->Shared->Prop}{s:Shared}{K:Frag}
end
end Att
namespace L2
open PySem PySem.Spec PyProof.Rows
theorem zT:∀{vs:List Value}{ns:List Int},IntsAre vs ns->eE (ns.map V.int) vs
 | _,_,.nil=>.nil
 | _,_,.cons n t h=>.cons ⟨t,rfl⟩ (zT h)
def aAx(H:Hp):Prop:=∀b,H b=none\/∃o xs,H b=some (.frz o (.lst xs))
theorem UJ{P:Program}{w:World}{K:KFr}{mg mb:Str->Option Value}{CX:QG}{k:Nat}{fa a:Addr}{fd:FuncData}{x:Str}{sp:Sp}{s₁:Shared}{vs:List Value}{ns:List Int}
  (KX:K.In s₁.heap) (hns:s₁.heap.Ns mainGlobals mg) (hb:s₁.heap.Ns builtinsNs mb) (hbb:∀x:Str,x ≠ "__name__" -> mb x=bootBuiltins x) (hlim:s₁.heap.NoLimit) (hg:s₁.gens=#[])
  (ha:s₁.heap.get? a=some { cls:=.type "list",data:=.seq vs.toArray }) (hi:IntsAre vs ns) (hl:ns.length<=sizeLine) (hr:lQ k callerA)
  (F:∀base:Heap,K.In base->base.Ns mainGlobals mg->eT P w K mg base CX k fa fd [x] sp) (hbind:∀(s:Shared) (u:Value),BindsTo s fd ⟨[u],[]⟩ [(x,u)])
  (hsp:∀H:Hp,aAx H->fY K H a (ns.map V.int)->sp [.ref a] H (λv _=>v=.bl true) λ_ _ _=>False)
  (hCX:∀H e s',CX [] H s₁ (λ_ _ _=>False) e s'->False) :
  codeAny (model P w) callerA (.call (.ref fa) ⟨[.ref a],[]⟩) (λr s'=>r=.ok (.ret (.bool true))/\OldK s₁.heap s'.heap/\s'.os=s₁.os/\AllBare s'.gens) s₁:=by
 have rv:=zT hi;have B:=hi.length;have j:∀H:Hp,aAx H->fY K H a (ns.map V.int)->pG P w H s₁.heap->(∀b,H b≠none->b=a)->(H a≠none->K.lookup a=none) ->
   codeAny (model P w) callerA (.call (.ref fa) ⟨[.ref a],[]⟩) (λr s'=>r=.ok (.ret (.bool true))/\OldK s₁.heap s'.heap/\s'.os=s₁.os/\AllBare s'.gens) s₁:=by
  intro H N U y L O;have c:∀{b:Addr} {o:Obj},s₁.heap.get? b=some o->H b=none->(DU s₁.heap H).get? b=some o:=λe n=>UN e n;have I:∀{b:Addr} {o:Obj} {G:Array DictEntry} {C:Nat},s₁.heap.get? b=some o->o.data=.dict G C->H b=none:=λ{b o G C} e d=>by
   cases q:H b with
   | none=>rfl
   | some u =>
    have J:b=a:=L b (by rw [q];simp);subst J;rw [ha] at e;cases e;have Z:Data.seq vs.toArray _=Data.dict G C:=d;cases Z
  have i:∀{b:Addr} {m:Str->Option Value},s₁.heap.Ns b m->(DU s₁.heap H).Ns b m:=λ{b m} ⟨o,G,C,e,d,r⟩=>⟨o,G,C,c e (I e d),d,r⟩;have p:K.In (DU s₁.heap H):=λb o e=>c (KX b o e) (by
   cases q:H b with
   | none=>rfl
   | some u =>
    have J:b=a:=L b (by rw [q];simp);subst J;rw [O (by rw [q];simp)] at e;cases e)
  have α:Mod K mg (DU s₁.heap H):=⟨p,i hns,⟨mb,i hb,hbb⟩,let ⟨mc,h1,h2⟩:=hlim;⟨mc,i h1,h2⟩⟩;have β:aAC P w K mg (DU s₁.heap H) callerA [] s₁ H:=⟨rfl,α,λb o e=>ZC e,Nat.le_of_eq (OZ _ _),trivial,λb hb=>absurd (show b∈([]:List Addr) from hb) (by simp),y,.of_eq hg⟩;refine codeAny_mono ((F _ p (i hns)).run callerA [] s₁ H ⟨[.ref a],[]⟩ [.ref a] [.ref a] _ _ hr β (hbind s₁ (.ref a)) (.cons rfl .nil) (hsp H N U)) λr s' h=>?_;cases r with
  | error e=>exact (hCX H e s' h).elim
  | ok fl =>
   cases fl with
   | next=>exact False.elim h
   | brk=>exact False.elim h
   | cont=>exact False.elim h
   | ret u =>
    obtain ⟨v,H',os,A,un,D,R,q⟩:=h;have T:v=.bl true:=q;subst T;obtain rfl:u=Value.bool true:=R;refine ⟨rfl,OldK.of_keep λb o e=>?_,os,A⟩;cases q:H b with
    | none=>exact un.keep b o e q (by intro z;exact absurd (show b∈([]:List Addr) from z) (by simp)) (by simp)
    | some u =>
     rcases N b with z | ⟨Y,γ,z⟩
     ·rw [q] at z;cases z
     ·have S:=un.frzs b Y _ z;obtain ⟨M,_⟩:=y b _ z;obtain ⟨X,_⟩:=D b _ S;rw [e] at M;cases M;exact X
 cases hk:K.lookup a with
 | some o =>
  have e:=KX a o hk;rw [ha] at e;cases e;refine j (λ_=>none) (λ_=>.inl rfl) (.inr ⟨_,vs.toArray,_,hk,rfl,rfl,rfl,by rw [bI,B];exact hl,by simpa using rv⟩) (λb u z=>by have l:(none:Option HO)=some u:=z;cases l) (λb z=>absurd rfl z) λz=>absurd rfl z
 | none =>
  refine j (λb=>if b=a then some (.frz { cls:=.type "list",data:=.seq vs.toArray } (.lst (ns.map V.int))) else none) (λb=>?_) (.inl (.inr ⟨{ cls:=.type "list",data:=.seq vs.toArray },if_pos rfl⟩)) (λb u z=>?_) (λb z=>?_) λ_=>hk
  ·by_cases hb:b=a
   ·exact .inr ⟨_,_,if_pos hb⟩
   ·exact .inl (if_neg hb)
  ·by_cases hb:b=a
   ·have l:=(if_pos hb).symm.trans z;cases l;subst hb;exact ⟨ha,by rw [aB];exact hl,vs,_,rv,ha⟩
   ·have l:=(if_neg hb).symm.trans z;cases l
  ·by_cases hb:b=a
   ·exact hb
   ·exact absurd (if_neg hb) z
theorem KH{l:PySem.W.OpenLaw}{n k:Nat}{q:Program}{loose:List Str}{XP:(Str->Option Value)->Heap->Prop}{YP:World->Heap->Prop}{d:DefRec}{K:Params->KFr}{CX:World->QG}{sp:World->Sp}{x:Str}
  (hn:l.most=some n) (hn2:n<=sizeLine) (hdf:d.params.defaults=[]) (hr:lQ k callerA)
  (hY:∀(w:World) (h:Heap),YP w h->(K w.params).In h)
  (F:∀(w:World) (mg:Str->Option Value) (fa:Addr) (h:Heap),(K w.params).In h->h.Ns mainGlobals mg->mg d.name=some (.ref fa) ->
   ∃fd:FuncData,(∀(s:Shared) (u:Value),BindsTo s fd ⟨[u],[]⟩ [(x,u)]) /\
    ∀base:Heap,(K w.params).In base->base.Ns mainGlobals mg->eT l.prog w (K w.params) mg base (CX w) k fa fd [x] (sp w))
  (hsp:∀(w:World) (H:Hp) (a:Addr) (ns:List Int),ns.length<=n->aAx H->fY (K w.params) H a (ns.map V.int)->sp w [.ref a] H (λv _=>v=.bl true) λ_ _ _=>False)
  (hCX:∀(w:World) (H:Hp) (s:Shared) (e:Value) (s':Shared),CX w [] H s (λ_ _ _=>False) e s'->False) :
  PySem.W.WalkO q loose XP YP l.row.toRowW d [] (λf vs=>PySem.call f vs):=by
 refine Att.HQ hn hdf λw N C mg L fa o I J p a vs ns G Y M hd z m j i c y=>?_;have KX:=hY w _ Y;obtain ⟨fd,A,B⟩:=F w mg fa _ KX G.T.g m;exact UJ KX G.T.g G.T.b G.T.builtins G.T.nolimit y j i (aZ c hn2) hr B A (λH D r=>hsp w H a ns c D r) λH e s'=>hCX w H C e s'
theorem RD{l:PySem.W.OpenLaw}{n k:Nat}{q:Program}{loose:List Str}{XP:(Str->Option Value)->Heap->Prop}{YP:World->Heap->Prop}{d:DefRec}{K:Params->KFr}{CX:QG}{sp:KFr->Sp}{x:Str}
  (hn:l.most=some n) (hn2:n<=sizeLine) (hdf:d.params.defaults=[]) (hr:lQ k callerA)
  (hY:∀(w:World) (h:Heap),YP w h->(K w.params).In h)
  (F:∀(w:World) (mg:Str->Option Value) (fa:Addr) (h:Heap),(K w.params).In h->h.Ns mainGlobals mg->mg d.name=some (.ref fa) ->
   ∃fd:FuncData,(∀(s:Shared) (u:Value),BindsTo s fd ⟨[u],[]⟩ [(x,u)]) /\
    ∀base:Heap,(K w.params).In base->base.Ns mainGlobals mg->eT l.prog w (K w.params) mg base CX k fa fd [x] (sp (K w.params)))
  (hsp:∀(K:KFr) (H:Hp) (a:Addr) (ns:List Int),ns.length<=n->aAx H->fY K H a (ns.map V.int)->sp K [.ref a] H (λv _=>v=.bl true) λ_ _ _=>False)
  (hCX:∀(H:Hp) (s:Shared) (e:Value) (s':Shared),CX [] H s (λ_ _ _=>False) e s'->False) :
  PySem.W.WalkO q loose XP YP l.row.toRowW d [] (λf vs=>PySem.call f vs) :=
 KH (K:=K) (CX:=λ_=>CX) (sp:=λw=>sp (K w.params)) hn hn2 hdf hr hY F (λw H a ns i b c=>hsp (K w.params) H a ns i b c) λ_ H s e s'=>hCX H s e s'
end L2
/- THE LAST THEOREM (shape;LID,My.* are yours):
   My.Adr: a structure of the addresses that your layer names (classes,functions);My.Txt K t: a structure (Prop) of the equations over K;
   My.txt_mk:{K} {implicit addresses ..} (e1:nsIn K mainGlobals "law" = some (some (.ref f))) (e2:K.lookup f=some ⟨oc,od,.func (fnOf "law" "law" params body scope dV kV doc pm an cdv ct),sl⟩) (e3:codeIn K cdv "law" = true) .. : ∃t,My.Txt K t
set_option maxRecDepth 100000 in
set_option maxHeartbeats 0 in
theorem PySem.Challenge.cw_LID_holds : PySem.Challenge.rw_LID.Holds := by
  w_on;o_law;k_head;(case hw=>w_witness2)
  k_fill
  refine L2.KH (l:=PySem.Challenge.rw_LID) (n:=63) (k:=40) (x := "script") (CX:=λw=>..) (sp:=λ_=>My.sp_law) rfl Dd rfl ⟨rfl,Dd,Dd⟩ (λw h Y=>PySem.W.kIn_of Y) ?F ?S ?C
  case F =>
    intro w y j h KX G e;have T:∃t,My.Txt (L2.KOf KX) t:=by
      dsimp only [L2.KOf]                          -- K must stand as «<heap const> w.params» for k_is
      refine' My.txt_mk ?e1 ?e2 ?e3 ..
      (case e1=>PySem.W.k_is)                    -- in the order: a name -> its address -> its object -> its parts
      (case e2=>PySem.W.k_is)
      ..
    obtain ⟨t,T⟩:=T;have m:=e.symm.trans (PySem.W.mg_of KX G T.law);cases m                                       -- j is the law's own address;exact ⟨_,λs u=>.of_eq rfl,λc d i=>My.law_fn T d i⟩     -- if «.of_eq rfl» comes too early: refine' ⟨_,?b,λc d i=>My.law_fn T d i⟩;exact λs u=>.of_eq rfl
  case S=>exact λw H a o p z r=>..
  case C=>exact ..
(the tactic k_is has no namespace: write k_is) -/
namespace L2
open PySem PySem.Spec PyProof.Rows
def rC(s:Stmt):Arguments:=match s with
 | .FunctionDef _ a _ _ _ _ _ _ _ _=>a
 | _=>{ posonlyargs:=[],args:=[],vararg:=none,kwonlyargs:=[],kw_defaults:=[],kwarg:=none,defaults:=[] }
def lO(s:Stmt):List Stmt:=match s with
 | .FunctionDef _ _ b _ _ _ _ _ _ _=>b
 | _=>[]
def bB(s:Stmt):Scope:=match s with
 | .FunctionDef _ _ _ _ _ _ sc _ _ _=>sc
 | _=>{ kind:=.function,names:=[],isGenerator:=false,isCoroutine:=false }
abbrev dY:QG:=λ_ _ _ _ _ _=>False
abbrev E0:XK:=λ_ _ _=>False
theorem aDY{X:Cx}:JX dY X E0:=λ_ _ _ _ _ _ _ h=>h.elim
structure jP(K:KFr)(x qual:Str)(st:Stmt)(f:Addr)(fd:FuncData):Prop where
 ex:∃(oc:Value) (od:Option Addr) (kV doc pm:Value) (an:Option Addr) (cdv ct:Value) (osl:Array (Option Value)),
  fd=PySem.W.fnOf x qual (rC st) (lO st) (bB st) .none kV doc pm an cdv ct/\K.lookup f=some ⟨oc,od,.func fd,osl⟩/\PySem.W.codeIn K cdv qual=true
 kp:PySem.W.keepIn K (.ref f)=true
section
variable{P:Program}{w:World}{K:KFr}{mg:Str->Option Value}{base:Heap}
theorem jP.ok{x qual:Str}{st:Stmt}{f:Addr}{fd:FuncData}{N ps:List Str}{k:Nat}{sp:Sp}(F:jP K x qual st f fd)(S:cI N ps (bB st))(len:∀vs H Q E,sp vs H Q E->vs.length=ps.length)
  (hbody:∀(cdv:Value) (A:Around) (outer:List Env) (s:Shared) (H:Hp) (vs:List V) (Q:VK) (E:XK),lQ k (A.deeper (envOfC qual (bB st) s.heap.objs.size f cdv))->sp vs H Q E ->
   ∃t,KA (HB dY P w K mg base N qual (bB st) f cdv A outer s H E).nox (lO st) t/\t { nx:=λ_ H'=>Q .non H',rt:=Q } (start N vs) H):eT P w K mg base dY (k+1) f fd ps sp:=by
 obtain ⟨n,m,kV,d,j,l,cdv,ct,e,rfl,i,a⟩:=F.ex;refine aEb i a S len λA outer s H vs Q E c b=>?_;obtain ⟨t,h,q⟩:=hbody cdv A outer s H vs Q E c b;exact ⟨t,h.nox,q⟩
theorem jP.binds{x qual:Str}{st:Stmt}{f:Addr}{fd:FuncData}{ps:List Str}(F:jP K x qual st f fd)
  (h:∀(kV doc pm:Value) (an:Option Addr) (cdv ct:Value) (us:List Value),us.length=ps.length->bindArgs (PySem.W.fnOf x qual (rC st) (lO st) (bB st) .none kV doc pm an cdv ct) ⟨us,[]⟩=pure (ps.zip us)):BP K fd ps []:=by
 obtain ⟨e,c,kV,doc,pm,an,cdv,ct,a,rfl,d,b⟩:=F.ex;exact .all (h kV doc pm an cdv ct)
theorem JI{x qual:Str}{st:Stmt}{f:Addr}{oc:Value}{od an:Option Addr}{osl:Array (Option Value)}{kV doc pm cdv ct:Value}(l:K.lookup f=some ⟨oc,od,.func (PySem.W.fnOf x qual (rC st) (lO st) (bB st) .none kV doc pm an cdv ct),osl⟩)
  (c:PySem.W.codeIn K cdv qual=true) (k:PySem.W.keepIn K (.ref f)=true):jP K x qual st f (PySem.W.fnOf x qual (rC st) (lO st) (bB st) .none kV doc pm an cdv ct):=⟨⟨oc,od,kV,doc,pm,an,cdv,ct,osl,rfl,l,c⟩,k⟩
end
theorem uL{n:Nat}(h:n<=1000):n<sizeLine:=aY h Dd
section
variable{X:Cx}
theorem pv(i:Nat){x:Str}{pos:Pos}(hN:X.N[i]?=some x:=by rfl)(hv:Vis X.env.scope x:=by first | exact Or.inl rfl | exact Or.inr (Or.inl rfl) | exact Or.inr (Or.inr rfl))(hd:(x == ("__debug__" : Str))=false:=by decide)
  (hcd:(x == ("__classdict__" : Str))=false:=by decide):PE X (.Name x pos) (aBn i):=aCb hN hv hd hcd
end
theorem sD{A B:Prop}(h:B):if false=true then A else B:=by
 rw [if_neg bQ];exact h
theorem yL{A B:Prop}(h:A):if true=true then A else B:=by
 rw [if_pos rfl];exact h
theorem aD3{c A B:Prop}[Decidable c](h1:c->A)(h2:¬c->B):if c then A else B:=by
 by_cases h:c
 ·rw [if_pos h];exact h1 h
 ·rw [if_neg h];exact h2 h
def bA(H H':Hp):Prop:=∀b o,H b=some o->H' b=some o
theorem bA.refl(H:Hp):bA H H:=λ_ _ h=>h
theorem bA.trans{H H1 H2:Hp}(a:bA H H1)(b:bA H1 H2):bA H H2:=λc o h=>b c o (a c o h)
theorem bA.free{H H':Hp}(e:bA H H'){l:Addr}(h:H' l=Option.none):H l=Option.none:=by
 cases q:H l with
 | none=>rfl
 | some o =>
  rw [e l o q] at h;cases h
section
variable{κ:Type}[DecidableEq κ]
def gT(kvs:List (κ × V))(k:κ):Option V:=(kvs.find? λkv=>decide (kv.1=k)).map (·.2)
def jW(kvs:List (κ × V))(k:κ)(v:V):List (κ × V) :=
 if (kvs.any λkv=>decide (kv.1=k))=true then kvs.map (λkv=>if kv.1=k then (kv.1,v) else kv) else kvs++[(k,v)]
theorem fZ{p:κ × V}{r:List (κ × V)}{k:κ}(e:p.1=k):gT (p::r) k=some p.2:=by simp [gT,List.find?_cons,e]
theorem gA{p:κ × V}{r:List (κ × V)}{k:κ}(e:¬p.1=k):gT (p::r) k=gT r k:=by simp [gT,List.find?_cons,e]
theorem jR(k:κ):∀kvs:List (κ × V),(kvs.any λkv=>decide (kv.1=k))=(gT kvs k).isSome
 | []=>rfl
 | p::r=>by
  rw [List.any_cons];by_cases e:p.1=k
  ·simp only [fZ e,cG e,Bool.true_or,Option.isSome_some]
  ·rw [gA e,bU e,Bool.false_or];exact jR k r
theorem EV(k j:κ)(y:V):∀kvs:List (κ × V),gT (kvs.map λkv=>if kv.1=k then (kv.1,y) else kv) j=(gT kvs j).map λx=>if j=k then y else x
 | []=>rfl
 | p::r=>by
  have ih:=EV k j y r;rw [bF];by_cases h:p.1=k
  ·rw [if_pos h];by_cases e:p.1=j
   ·rw [fZ (p:=(p.1,y)) e,fZ e,Option.map_some,if_pos (e.symm.trans h)]
   ·rw [gA (p:=(p.1,y)) e,gA e,ih]
  ·rw [if_neg h];by_cases e:p.1=j
   ·rw [fZ (p:=p) e,fZ e,Option.map_some,if_neg (λz=>h (e.trans z))]
   ·rw [gA (p:=p) e,gA e,ih]
theorem zU(k j:κ)(y:V):∀kvs:List (κ × V),gT kvs k=none->gT (kvs++[(k,y)]) j=if j=k then some y else gT kvs j
 | [],_=>by
  by_cases e:k=j
  ·rw [if_pos e.symm];exact fZ (p:=(k,y)) e
  ·rw [if_neg (λz=>e z.symm)];exact gA (p:=(k,y)) e
 | p::r,hn=>by
  rw [List.cons_append];have hk:¬p.1=k:=λz=>by rw [fZ z] at hn;cases hn
  rw [gA hk] at hn;have a:=zU k j y r hn;by_cases e:p.1=j
  ·rw [fZ e,fZ e,if_neg (λz=>hk (e.trans z))]
  ·rw [gA e,gA e,a]
theorem xF(kvs:List (κ × V))(k j:κ)(y:V):gT (jW kvs k y) j=if j=k then some y else gT kvs j:=by
 unfold jW;by_cases a:(kvs.any λb=>decide (b.1=k))=true
 ·rw [if_pos a,EV];rw [jR] at a;by_cases e:j=k
  ·obtain ⟨x,c⟩:=Option.isSome_iff_exists.mp a;rw [if_pos e,e,c,Option.map_some,if_pos rfl]
  ·rw [if_neg e];cases gT kvs j with
   | none=>rfl
   | some x=>rw [Option.map_some,if_neg e]
 ·rw [if_neg a];refine zU k j y kvs ?_;rw [jR] at a;cases q:gT kvs k with
  | none=>rfl
  | some x=>rw [q] at a;exact (a rfl).elim
theorem kW(kvs:List (κ × V))(k:κ)(v:V):(jW kvs k v).length<=kvs.length+1:=by
 unfold jW;split
 ·rw [aB];omega
 ·rw [aV,dB,List.length_nil];omega
theorem TD{kvs:List (κ × V)}{k:κ}(v:V)(h:gT kvs k=none):jW kvs k v=kvs++[(k,v)]:=by
 unfold jW;rw [jR,h];exact if_neg Dd
theorem vM.isSome_eq{o:Option V}{u:Option Value}(r:vM o u):o.isSome=u.isSome:=by
 cases o with
 | none=>cases u with
  | none=>rfl
  | some _=>exact (show False from r).elim
 | some _=>cases u with
  | none=>exact (show False from r).elim
  | some _=>rfl
theorem vM.getD{o:Option V}{u:Option Value}{d:V}{d':Value}(r:vM o u)(rd:eI d d'):eI (o.getD d) (u.getD d'):=by
 cases o with
 | none=>cases u with
  | none=>exact rd
  | some _=>exact (show False from r).elim
 | some _=>cases u with
  | none=>exact (show False from r).elim
  | some _=>exact r
theorem KV.val{kvs:List (κ × V)}{vs:List (κ × Value)}(r:KV kvs vs)(k:κ):vM (gT kvs k) (valueAt vs k):=by
 unfold KV at r
 induction r with
 | nil=>exact True.intro
 | @cons p q ps qs h t ih =>
  obtain ⟨c,d⟩:=h;by_cases e:p.1=k
  ·have a:q.1=k:=c.symm.trans e;have b:valueAt (q::qs) k=some q.2:=by simp [valueAt,List.find?_cons,a]
   rw [fZ e,b];exact d
  ·have a:¬q.1=k:=λz=>e (c.trans z);have b:valueAt (q::qs) k=valueAt qs k:=by simp [valueAt,List.find?_cons,a]
   rw [gA e,b];exact ih
theorem KV.any{kvs:List (κ × V)}{vs:List (κ × Value)}(r:KV kvs vs)(k:κ):(kvs.any λkv=>decide (kv.1=k))=vs.any λkv=>decide (kv.1=k):=by
 unfold KV at r
 induction r with
 | nil=>rfl
 | cons h t ih=>rw [List.any_cons,List.any_cons,ih,h.1]
theorem KV.repl{kvs:List (κ × V)}{vs:List (κ × Value)}(r:KV kvs vs)(k:κ){y:V}{u:Value}(ry:eI y u) :
  KV (kvs.map λkv=>if kv.1=k then (kv.1,y) else kv) (vs.map λkv=>if kv.1=k then (kv.1,u) else kv):=by
 unfold KV at r ⊢
 induction r with
 | nil=>exact .nil
 | @cons p q ps qs h t ih =>
  rw [bF,bF];refine .cons ?_ ih;obtain ⟨a,b⟩:=h;by_cases e:p.1=k
  ·rw [if_pos e,if_pos (a.symm.trans e)];exact ⟨a,ry⟩
  ·rw [if_neg e,if_neg (λz=>e (a.trans z))];exact ⟨a,b⟩
theorem KV.put{kvs:List (κ × V)}{vs:List (κ × Value)}(r:KV kvs vs)(k:κ){y:V}{u:Value}(ry:eI y u):KV (jW kvs k y) (stored vs k u):=by
 unfold jW stored;rw [r.any k];by_cases e:(vs.any λa=>decide (a.1=k))=true
 ·rw [if_pos e,if_pos e];exact r.repl k ry
 ·rw [if_neg e,if_neg e];exact Paired.snoc r ⟨rfl,ry⟩
theorem KV.length{kvs:List (κ × V)}{vs:List (κ × Value)}(r:KV kvs vs):kvs.length=vs.length:=Paired.length r
end
theorem MA{P:Program}{w:World}{k:iC}{u:Value}(r:eI (kV k) u):(gB P w).is k u=true:=by
 cases k with
 | inl i=>obtain ⟨t,e⟩:=(show ∃t,u=Value.int i t from r);subst e;exact GD P w i t
 | inr x=>obtain ⟨t,e⟩:=(show ∃t,u=Value.str x t from r);subst e;exact GC P w x t
theorem AW{P:Program}{w:World}:∀{ks:List iC}{us:List Value},eE (ks.map kV) us->ItemsAre (gB P w) ks us
 | [],_,r=>by rw [List.map_nil] at r;cases r;exact .nil
 | k::ks,_,r=>by
  rw [bF] at r;cases r with
  | cons h t=>exact .cons (MA h) (AW t)
abbrev KT(H:Hp):List (List iC × V)->List (List iC × Addr × Value)->Prop:=Paired λp q=>p.1=q.1/\H q.2.1=some (.tup (p.1.map kV))/\eI p.2 q.2.2
theorem KT.val{H:Hp}{kvs:List (List iC × V)}{xs:List (List iC × Addr × Value)}(r:KT H kvs xs)(k:List iC):vM (gT kvs k) ((atKey xs k).map (·.2)):=by
 induction r with
 | nil=>exact True.intro
 | @cons p q ps qs h t ih =>
  obtain ⟨c,_,d⟩:=h;by_cases e:p.1=k
  ·have a:q.1=k:=c.symm.trans e;have b:atKey (q::qs) k=some q.2:=by simp [atKey,List.find?_cons,a]
   rw [fZ e,b];exact d
  ·have a:¬q.1=k:=λz=>e (c.trans z);have b:atKey (q::qs) k=atKey qs k:=by simp [atKey,List.find?_cons,a]
   rw [gA e,b];exact ih
theorem KT.repl{H:Hp}{kvs:List (List iC × V)}{xs:List (List iC × Addr × Value)}(r:KT H kvs xs)(k:List iC){y:V}{u:Value}(ry:eI y u) :
  KT H (kvs.map λkv=>if kv.1=k then (kv.1,y) else kv) (xs.map (putAt k u)):=by
 induction r with
 | nil=>exact .nil
 | @cons p q ps qs h t ih =>
  rw [bF,bF];refine .cons ?_ ih;obtain ⟨a,b,c⟩:=h;unfold putAt;by_cases e:p.1=k
  ·rw [if_pos e,if_pos (a.symm.trans e)];exact ⟨a,b,ry⟩
  ·rw [if_neg e,if_neg (λz=>e (a.trans z))];exact ⟨a,b,c⟩
theorem KT.put{H:Hp}{kvs:List (List iC × V)}{xs:List (List iC × Addr × Value)}(r:KT H kvs xs)(k:List iC){b:Addr}{y:V}{u:Value}(hb:H b=some (.tup (k.map kV)))(ry:eI y u) :
  KT H (jW kvs k y) (storedH xs k b u):=by
 have e:(kvs.any λa=>decide (a.1=k))=(atKey xs k).isSome:=by
  rw [jR,(r.val k).isSome_eq,Option.isSome_map]
 unfold jW storedH;rw [e];by_cases q:(atKey xs k).isSome=true
 ·rw [if_pos q,if_pos q];exact r.repl k ry
 ·rw [if_neg q,if_neg q];exact Paired.snoc r ⟨rfl,hb,ry⟩
theorem KT.keeps{H H':Hp}{kvs:List (List iC × V)}{xs:List (List iC × Addr × Value)}(r:KT H kvs xs)(ht:∀b ys,H b=some (.tup ys)->H' b=some (.tup ys)):KT H' kvs xs :=
 Paired.mapP r λ_ _ z=>⟨z.1,ht _ _ z.2.1,z.2.2⟩
section
variable{P:Program}{w:World}{H:Hp}{h:Heap}{a:Addr}
theorem ST{u:HO}(ok:pG P w H h)(e:Rd H a u):fA P w H h a u:=e.ok ok
theorem GY{kvs:List (iC × V)}(ok:pG P w H h)(e:Rd H a (.dK kvs)):kvs.length<=sizeLine/\(a == sysModules)=false/\∃vs,KV kvs vs/\h.DictOf (gB P w) a vs :=
 show fA P w H h a (.dK kvs) from ST ok e
theorem aEe{kvs:List (iC × V)}(ok:pG P w H h)(e:H a=some (.dK kvs)):kvs.length<=sizeLine/\(a == sysModules)=false/\∃vs,KV kvs vs/\h.DictOf (gB P w) a vs:=GY ok (.inl e)
theorem yK{ks:List iC}(ok:pG P w H h)(e:H a=some (.tup (ks.map kV))):(tupleKind (gB P w)).is h ks a:=by
 obtain ⟨_,b,r,o,i,c,n,d⟩:=(show fA P w H h a (.tup (ks.map kV)) from ok a _ e);exact ⟨o,b.toArray,n,i,c,d,by simpa using AW r⟩
theorem GU{kvs:List (List iC × V)}(ok:pG P w H h)(e:Rd H a (.dT kvs)):kvs.length<=sizeLine/\(a == sysModules)=false /\
  ∃xs,KT H kvs xs/\h.DictOfH (tupleKind (gB P w)) a xs:=by
 obtain ⟨z,y,xs,r,o,s,c,u,i,n,j,d⟩:=(show fA P w H h a (.dT kvs) from ST ok e);refine ⟨z,y,xs,r,o,s,c,u,i,n,j,λx b=>?_,d⟩;have all:∀{l:List (List iC × V)} {m:List (List iC × Addr × Value)},KT H l m->∀x∈m,(tupleKind (gB P w)).is h x.1 x.2.1:=by
  intro l m q
  induction q with
  | nil=>intro x b;exact nomatch b
  | @cons p q ps qs hq t ih =>
   intro x b;rcases bE.mp b with e | b
   ·subst e;exact yK ok (by rw [<-hq.1];exact hq.2.1)
   ·exact ih x b
 exact all r x b
theorem aA4{kvs:List (List iC × V)}(ok:pG P w H h)(e:H a=some (.dT kvs)):kvs.length<=sizeLine/\(a == sysModules)=false /\
  ∃xs,KT H kvs xs/\h.DictOfH (tupleKind (gB P w)) a xs:=GU ok (.inl e)
end
def vP(H:Hp)(a:Addr)(y:V)(r:Option V):Prop :=
 (∃kvs k,Rd H a (.dK kvs)/\y=kV k/\r=gT kvs k)\/∃kvs k b,Rd H a (.dT kvs)/\y=.ref b/\H b=some (.tup (k.map kV))/\r=gT kvs k
def QF(H:Hp)(a:Addr)(y v:V)(H':Hp):Prop :=
 (∃kvs k,H a=some (.dK kvs)/\y=kV k/\kvs.length<sizeLine/\H'=upd H a (.dK (jW kvs k v))) \/
 ∃kvs k b,H a=some (.dT kvs)/\y=.ref b/\H b=some (.tup (k.map kV))/\kvs.length<sizeLine/\H'=upd H a (.dT (jW kvs k v))
theorem vP.t{H:Hp}{a b:Addr}{kvs:List (List iC × V)}{k:List iC}(e:H a=some (.dT kvs))(eb:H b=some (.tup (k.map kV))):vP H a (.ref b) (gT kvs k):=.inr ⟨kvs,k,b,.inl e,rfl,eb,rfl⟩
theorem QF.t{H:Hp}{a b:Addr}{kvs:List (List iC × V)}{k:List iC}{v:V}(e:H a=some (.dT kvs))(eb:H b=some (.tup (k.map kV)))(hl:kvs.length<sizeLine) :
  QF H a (.ref b) v (upd H a (.dT (jW kvs k v))):=.inr ⟨kvs,k,b,e,rfl,eb,hl,rfl⟩
section
variable{X:Cx}{pins:List (Addr × Obj)}{σ:St}{H:Hp}{s:Shared}{a:Addr}{y v:V}{u r:Value}{o:Option V}{A:Around}{E:Value->Shared->Prop}
theorem cO.big(I:cO X pins σ H s):sysModules<s.heap.objs.size:=by
 have h:mainGlobals<s.heap.objs.size:=(I.mod.glob.keeps I.bk).lt;exact Nat.lt_trans Dd h
theorem PD{Q:Value->Shared->Prop}(hu:A.units+1<cLine)(I:cO X pins σ H s)(g:vP H a y (some v))(ry:eI y u)(h:∀w' s',cO X pins σ H s'->eI v w'->Q w' s') :
  wpAny (model X.prog X.w) A (getItem (.ref a) u) Q E s:=by
 rcases g with ⟨m,k,e,n,l⟩ | ⟨m,k,b,e,n,D,l⟩
 ·subst n;obtain ⟨z,hd,B,d,r⟩:=GY I.hok e;obtain ⟨w',i,c⟩:=vM.some_of (v:=v) (o:=valueAt B k) (by rw [l];exact d.val k);exact wpAny_getItem_of (MA ry) r.mapOf i (h w' _ (I.tok _) c)
 ·subst n;cases (show u=Value.ref b from ry);obtain ⟨z,hd,x,d,r⟩:=GU I.hok e;obtain ⟨w',i,c⟩:=vM.some_of (v:=v) (o:=(atKey x k).map (·.2)) (by rw [l];exact d.val k);obtain ⟨p,C,j⟩:=eJ.mp i;refine wpAny_getItem_heap (tupleKind_room_in1 hu) (yK I.hok D) r C ?_;rw [j];exact h w' _ (I.tok _) c
theorem wV{h':Heap}{t':Nat}{ob:HO}(I:cO X pins σ H s)(mu:Mut (H a))(hs:Heap.SameBut a s.heap h')(he:∃q,h'.get? a=some q)(new:fA X.prog X.w (upd H a ob) h' a ob) :
  cO X pins σ (upd H a ob) { s with heap:=h',toks:=t' } :=
 I.write (x:=a) (e:=a) mu (.inl rfl) (λb q c z=>(hs.2 b c).trans z) he new
theorem aCS{P:Program}{w:World}{H':Hp}{h':Heap}{kvs:List (iC × V)}{vs:List (iC × Value)}(z:kvs.length<=sizeLine)(hd:(a == sysModules)=false)(rel:KV kvs vs)(dd:h'.DictOf (gB P w) a vs) :
  fA P w H' h' a (.dK kvs):=⟨z,hd,vs,rel,dd⟩
theorem PC{H':Hp}{Q:Unit->Shared->Prop}(hu:A.units+1<cLine)(I:cO X pins σ H s)(g:QF H a y v H')(ry:eI y u)(rv:eI v r)(h:∀s',cO X pins σ H' s'->Q () s') :
  wpAny (model X.prog X.w) A (setItem (.ref a) u r) Q E s:=by
 rcases g with ⟨d,k,e,p,l,x⟩ | ⟨d,k,b,e,p,J,l,x⟩
 ·subst p x;obtain ⟨z,hd,M,i,B⟩:=aEe I.hok e;have C:M.length<=sizeLine:=by rw [<-i.length];exact z
  have n:(jW d k v).length<=sizeLine:=by have:=kW d k v;omega
  refine wpAny_setItem_pairs (hsz:=C) (MA ry) B λD j o=>h _ ?_;have O:∃q,D.get? a=some q:=let ⟨q,_,_,m,_⟩:=j;⟨q,m⟩;exact wV I (by rw [e];exact True.intro) o O (aCS n hd (i.put k rv) j)
 ·subst p x;cases (show u=Value.ref b from ry);obtain ⟨z,hd,L,i,B⟩:=aA4 I.hok e;have C:L.length<=sizeLine:=by rw [<-Paired.length i];exact z
  have n:(jW d k v).length<=sizeLine:=by have:=kW d k v;omega
  refine wpAny_setItem_heap (hsz:=C) (tupleKind_room_in1 hu) (yK I.hok J) B λD j o=>h _ ?_;obtain ⟨q,U,N,m,R,T,S,_,P⟩:=j;refine wV I (by rw [e];exact True.intro) o ⟨q,m⟩ ⟨n,hd,_,(i.put k J rv).keeps λc W G=>?_,q,U,N,m,R,T,S,P⟩;rw [eG (LS G e (λz=>nomatch z))];exact G
end
section
variable{X:Cx}{pins:List (Addr × Obj)}{σ:St}{H:Hp}{s:Shared}{a:Addr}{kvs:List (iC × V)}{k:iC}{u:Value}{A:Around}{E:Value->Shared->Prop}
end
def aDa(i:Expr):Prop:=∀ov iv,subscripted i false ov iv=operate [ov,iv] (getItem ov iv)
theorem XI{prog:Program}{w:World}{A:Around}{E:Value->Shared->Prop}{s:Shared}{env:Env}{value slice:Expr}{pos:Pos}{T id:String}{Q:Value->Shared->Prop}
  (hl:typeLookup (.type T) "__getitem__" = pure (some (.builtin id))) (hs:aDa slice)
  (h:wpAny (model prog w) A (eval value env) (λo s₁=>wpAny (model prog w) A (eval slice env) (λi s₂=>s₂.TypeIs o T/\wpAny (model prog w) A (getItem o i) Q E s₂) E s₁) E s) :
  wpAny (model prog w) A (eval (.Subscript value slice pos) env) Q E s:=by
 refine Subscript_ (wpAny_mono h (λo s₁ j=>wpAny_mono j (λi s₂ b=>?_) λ_ _ x=>x) λ_ _ x=>x);obtain ⟨c,b⟩:=b;unfold subscriptTail;refine wpAny_bind ?_;rw [getitemInPython_of_ne c.not_modules];refine wpAny_bind (wpAny_specialOf c hl ?_);have a:wpAny (model prog w) A (subscripted slice false o i) (λr d=>wpAny (model prog w) A (letTemporaryGo value o r >>= λ_=>pure r) Q E d) E s₂:=by
  rw [hs o i];exact wpAny_operating (wpAny_mono b (λr d e=>wpAny_bind (wpAny_letTemporaryGo (wpAny_pure e))) λ_ _ x=>x)
 first
  | exact wpAny_pure (wpAny_bind a)
  | exact wpAny_bind (wpAny_pure (wpAny_bind a))
  | exact wpAny_bind a
theorem GZ{X:Cx}{pins:List (Addr × Obj)}{σ:St}{H:Hp}{s:Shared}{a:Addr}{y:V}{o:Option V}(I:cO X pins σ H s)(g:vP H a y o):s.TypeIs (.ref a) "dict" := by
 rcases g with ⟨c,k,e,_,_⟩ | ⟨c,k,b,e,_,_,_⟩
 ·obtain ⟨_,_,h,_,d⟩:=GY I.hok e;exact d.typeIs
 ·obtain ⟨_,_,i,_,d⟩:=GU I.hok e;exact d.typeIs
def aDy(td ty:TE):TE:=λσ H Q=>td σ H λx H1=>ty σ H1 λy H2=>∃a v,x=.ref a/\vP H2 a y (some v)/\Q v H2
def aDF(td ty tv:TE):TS:=λD σ H=>tv σ H λv H1=>td σ H1 λx H2=>ty σ H2 λy H3=>∃a H4,x=.ref a/\QF H3 a y v H4/\D.nx σ H4
section
variable{X:Cx}{o i e value:Expr}{pos pos' tpos:Pos}{td ty tv:TE}
theorem YU(hu:X.A.units+1<cLine)(ho:PE X o td)(hi:PE X i ty)(hs:aDa i):PE X (.Subscript o i pos) (aDy td ty):=by
 intro b s σ H Q I h;refine XI PySem.F.slot_dict_getitem.lookup hs (thn (ho b s σ H _ I h) λu j ⟨x,H1,I1,d,m⟩=>thn (hi b j σ H1 _ I1 m) λr w ⟨y,H2,I2,n,a,v,l,g,e⟩=>?_);subst l;obtain rfl:u=Value.ref a:=d;exact ⟨GZ I2 g,PD hu I2 g n λz p I3 c=>⟨v,H2,I3,c,e⟩⟩
theorem YN(hu:X.A.units+1<cLine)(ho:PE X o td)(hi:PE X i ty)(hv:PE X value tv)(hs:swapsWith value (some (.Subscript o i pos')) pos.line X.env=pure false) :
  PS X (.Assign [.Subscript o i pos'] value pos) (aDF td ty tv):=by
 intro b s σ H D I h;refine wpAny_Assign_Subscript (thn (hv b s σ H _ I h) λr j ⟨v,H1,I1,rv,n⟩=>thn (ho b j σ H1 _ I1 n) λu m ⟨x,H2,I2,c,d⟩=>thn (hi b m σ H2 _ I2 d) λz w ⟨y,H3,I3,p,a,H4,l,g,e⟩=>?_) hs;subst l;obtain rfl:u=Value.ref a:=c;exact PC hu I3 g p rv λB I4=>⟨σ,H4,I4,e⟩
end
theorem GV{P:Program}{w:World}{H:Hp}(h:Heap)(hb:sysModules<h.objs.size):fA P w H (h.push { cls:=.type "dict",data:=.dict #[] }) h.objs.size (.dT []) :=
 ⟨cC _,beq_eq_false_iff_ne.mpr (Ne.symm (dH hb)),[],.nil,_,#[],0,aX _ rfl,⟨rfl,rfl,rfl⟩,rfl,rfl,List.nodup_nil⟩
def RP:TE:=λ_ H Q=>∀p,H p=none->Q (.ref p) (upd H p (.dT []))
section
variable{X:Cx}{pos:Pos}
theorem pe_dnewT:PE X (.Dict [] [] pos) RP:=λb s σ H Q I h =>
 wpAny_Dict_empty ⟨.ref s.heap.objs.size,_,I.laid (a:=s.heap.objs.size) (o:=.dT []) (t':=s.toks) (λ_ _ q=>aD _ q) (aE _) (GV s.heap I.big),rfl,h _ (I.hok.fresh (aE _))⟩
end
structure M2(X:Cx)(o:Expr)(m:Str)(apos:Pos)(e f:Expr)(cpos:Pos):Prop where
 base:attributeBase o m X.env (eval o X.env)=eval o X.env
 few:((backTo cpos (starEach [e,f] X.env)).all (λx=>!x.1)&&(backToKw cpos (keywordEach [] X.env)).all (λx=>x.1.isSome)
  && decide (([e,f]:List Expr).length+([]:List Keyword).length+(if ([]:List Keyword).isEmpty then 0 else 1)<30))=true
 line:(apos.endLine == cpos.line)=true
 trees:backTo cpos (starEach [e,f] X.env)=[(false,eval e X.env),(false,eval f X.env)]
def IsD(H:Hp)(a:Addr):Prop:=(∃kvs,Rd H a (.dK kvs))\/∃kvs,Rd H a (.dT kvs)
theorem aCH{X:Cx}{pins:List (Addr × Obj)}{σ:St}{H:Hp}{s:Shared}{a:Addr}(I:cO X pins σ H s)(d:IsD H a) :
  s.TypeIs (.ref a) "dict" /\ (∀b,Value.ref a=.ref b->∃ob,s.heap.get? b=some ob/\ob.dict=none)/\(a == sysModules)=false:=by
 rcases d with ⟨i,e⟩ | ⟨i,e⟩
 ·obtain ⟨_,hd,l,_,c⟩:=GY I.hok e;refine ⟨c.typeIs,λb q=>?_,hd⟩;cases q;obtain ⟨ob,_,_,j,h,_⟩:=c;exact ⟨ob,j,h.2.1⟩
 ·obtain ⟨_,hd,m,_,c⟩:=GU I.hok e;refine ⟨c.typeIs,λb q=>?_,hd⟩;cases q;obtain ⟨ob,_,_,j,h,_⟩:=c;exact ⟨ob,j,h.2.1⟩
section
variable{X:Cx}{pins:List (Addr × Obj)}{σ:St}{H:Hp}{s:Shared}{a:Addr}{y d:V}{u r:Value}{o:Option V}{A:Around}{E:Value->Shared->Prop}
theorem aCT{Q:Value->Shared->Prop}(hu:A.units+1<cLine)(I:cO X pins σ H s)(g:vP H a y o)(ry:eI y u)(rd:eI d r)(h:∀w' s',cO X pins σ H s'->eI (o.getD d) w'->Q w' s') :
  wpAny (model X.prog X.w) A (call (.builtin "dict.get") [.ref a,u,r]) Q E s:=by
 rcases g with ⟨j,k,e,m,l⟩ | ⟨j,k,b,e,m,n,l⟩
 ·subst m;obtain ⟨z,hd,x,c,i⟩:=GY I.hok e;refine call_meetsIn PySem.F.slot_dict_get i.typeIs PySem.F.entry_dict_get (PySem.F.args_dict_get_3 _ _ _) (meets_dict_get_default (gB X.prog X.w) a (MA ry) hd r) ⟨_,i.mapOf,h _ _ (I.tok _) ?_⟩;rw [l];exact (c.val k).getD rd
 ·subst m;cases (show u=Value.ref b from ry);obtain ⟨z,hd,p,c,i⟩:=GU I.hok e;refine call_meetsIn PySem.F.slot_dict_get i.typeIs PySem.F.entry_dict_get (PySem.F.args_dict_get_3 _ _ _) (meetsH_dict_get_default (tupleKind (gB X.prog X.w)) a b hd r) ⟨tupleKind_room_in1 hu,k,p,yK I.hok n,i,h _ _ (I.tok _) ?_⟩;rw [l];exact (c.val k).getD rd
end
def RQ(td ty tx:TE):TE:=λσ H Q=>td σ H λx H1=>∃a,x=.ref a/\IsD H1 a/\ty σ H1 λy H2=>tx σ H2 λz H3=>∃o,vP H3 a y o/\Q (o.getD z) H3
section
variable{X:Cx}{o e f:Expr}{apos cpos:Pos}{td ty tx:TE}
theorem TY(hu:X.A.units+1<cLine)(ho:PE X o td)(he:PE X e ty)(hf:PE X f tx)(m:M2 X o "get" apos e f cpos):PE X (.Call (.Attribute o "get" apos) [e,f] [] cpos) (RQ td ty tx):=by
 intro b s σ H Q I h;refine wpAny_Call_method m.base m.few m.line PySem.F.plainAttrs_dict PySem.F.slot_dict_get PySem.F.type_dict_get (thn (ho b s σ H _ I h) λu p ⟨x,H1,I1,i,a,r,d,D⟩=>?_);subst r;obtain rfl:u=Value.ref a:=i;obtain ⟨w,B,_⟩:=aCH I1 d;refine ⟨w,B,?_⟩;rw [m.trees];refine Calls.callWith_builtin rfl (Calls.evalArgs_plain (Calls.spliced_cons (thn (he b p σ H1 _ I1 D) λN C ⟨y,H2,I2,G,j⟩ =>
  Calls.spliced_cons (thn (hf b C σ H2 _ I2 j) λJ M ⟨z,H3,I3,n,L,g,l⟩=>Calls.spliced_nil ?_))))
 exact aCT hu I3 g G n λP O I4 c=>⟨_,H3,I4,c,l⟩
end
section
variable{X:Cx}{pins:List (Addr × Obj)}{σ:St}{H:Hp}{s:Shared}{a:Addr}{kvs:List (iC × V)}{A:Around}{E:Value->Shared->Prop}
end
section
variable{X:Cx}{pins:List (Addr × Obj)}{σ:St}{H:Hp}{s:Shared}{a:Addr}{y:V}{u:Value}{A:Around}{E:Value->Shared->Prop}
end
section
variable{κ:Type}[DecidableEq κ]
theorem RE{kvs:List (κ × V)}{k:κ}(h:gT kvs k=none):¬k∈kvs.map (·.1):=by
 intro m;obtain ⟨p,b,e⟩:=aT.mp m;have q:(kvs.any λa=>decide (a.1=k))=true:=List.any_eq_true.mpr ⟨p,b,cG e⟩;rw [jR,h] at q;exact absurd q (by simp)
theorem XB{kvs:List (κ × V)}{k:κ}{v:V}(h:gT kvs k=some v):k∈kvs.map (·.1):=by
 have q:(kvs.any λa=>decide (a.1=k))=true:=by
  rw [jR,h]
  all_goals rfl
 obtain ⟨p,b,e⟩:=List.any_eq_true.mp q;exact aT.mpr ⟨p,b,of_decide_eq_true e⟩
end
abbrev bits(i:Int):Nat:=Builtin.Int.intBits i
def WK(i j:Int):Prop:=0<j/\bits j<=9000
theorem wA{j:Int}{n:Nat}(h:bits j<=n)(hn:0<n):j.natAbs.log2<n:=by
 unfold bits Builtin.Int.intBits at h;by_cases hj:(j == 0)=true
 ·have:j=0:=by simpa using hj
  subst this;exact aY (by decide +kernel:(0:Int).natAbs.log2<=0) hn
 ·rw [if_neg hj] at h;omega
section
variable{X:Cx}
theorem iH:rH X (binaryOp .FloorDiv) (rI WK λi j=>.int (i/j)):=opI λi j _ _ _ _ _ a q=>by
 refine floordiv_int (by have:=a.1;omega) ?_ (.inl (PyProof.noPylong_of_log2 (wA a.2 Dd)));rw [Int.fdiv_eq_ediv_of_nonneg i (by have:=a.1;omega)];exact q
theorem fE:rH X (binaryOp .Mult) (rI IntMulOk λi j=>.int (i*j)):=opI λ_ _ _ _ _ _ _ a q=>mul_int q a
end
mutual
def cE(H:Hp):PyData->V->Prop
 | .none,v=>v=.non
 | .bool b,v=>v=.bl b
 | .int i,v=>v=.int i
 | .str x,v=>v=.str x
 | .list ds,v=>∃a xs,v=.ref a/\H a=some (.lst xs)/\bG H ds xs
 | .tuple ds,v=>∃a xs,v=.ref a/\H a=some (.tup xs)/\bG H ds xs
 | .dict kvs,v=>kvs=[]/\∃a,v=.ref a/\H a=some (.dK [])
def bG(H:Hp):List PyData->List V->Prop
 | [],vs=>vs=[]
 | d::ds,vs=>∃x xs,vs=x::xs/\cE H d x/\bG H ds xs
end
mutual
theorem cE.same{H H':Hp}(e:bA H H'):∀{d:PyData}{v:V},cE H d v->cE H' d v
 | .none,_,h=>h
 | .bool _,_,h=>h
 | .int _,_,h=>h
 | .str _,_,h=>h
 | .list ds,_,h=>by
  unfold cE at h ⊢;obtain ⟨a,xs,rfl,h1,h2⟩:=h;exact ⟨a,xs,rfl,e _ _ h1,bG.same e h2⟩
 | .tuple ds,_,h=>by
  unfold cE at h ⊢;obtain ⟨a,xs,rfl,h1,h2⟩:=h;exact ⟨a,xs,rfl,e _ _ h1,bG.same e h2⟩
 | .dict kvs,_,h=>by
  unfold cE at h ⊢;obtain ⟨b,a,rfl,h1⟩:=h;exact ⟨b,a,rfl,e _ _ h1⟩
theorem bG.same{H H':Hp}(e:bA H H'):∀{ds:List PyData}{vs:List V},bG H ds vs->bG H' ds vs
 | [],_,h=>h
 | d::ds,_,h=>by
  unfold bG at h ⊢;obtain ⟨x,xs,rfl,h1,h2⟩:=h;exact ⟨x,xs,rfl,cE.same e h1,bG.same e h2⟩
end
theorem cE.tup{H:Hp}{a:Addr}{xs:List V}{ds:List PyData}(h:H a=some (.tup xs))(r:bG H ds xs):cE H (.tuple ds) (.ref a):=by
 unfold cE;exact ⟨a,xs,rfl,h,r⟩
theorem cE.int{H:Hp}(i:Int):cE H (.int i) (.int i):=by unfold cE;rfl
theorem cE.str{H:Hp}(i:Str):cE H (.str i) (.str i):=by unfold cE;rfl
theorem bG.nil{H:Hp}:bG H [] []:=by unfold bG;rfl
theorem bG.cons{H:Hp}{d:PyData}{ds:List PyData}{x:V}{xs:List V}(h:cE H d x)(hs:bG H ds xs):bG H (d::ds) (x::xs):=by
 unfold bG;exact ⟨x,xs,rfl,h,hs⟩
section
variable{X:Cx}{pins:List (Addr × Obj)}{σ:St}{H:Hp}{s:Shared}
mutual
theorem cE.reads(I:cO X pins σ H s):∀{d:PyData}{v:V}{u:Value},cE H d v->eI v u->∃as,Reads s.heap u d as
 | .none,_,u,h,r=>by
  cases (show _=V.non from h);cases (show u=Value.none from r);exact ⟨_,.none⟩
 | .bool b,_,u,h,r=>by
  cases (show _=V.bl b from h);cases (show u=Value.bool b from r);exact ⟨_,.bool b⟩
 | .int b,_,u,h,r=>by
  cases (show _=V.int b from h);obtain ⟨t,q⟩:=(show ∃t,u=Value.int b t from r);cases q;exact ⟨_,.int b t⟩
 | .str b,_,u,h,r=>by
  cases (show _=V.str b from h);obtain ⟨t,q⟩:=(show ∃t,u=Value.str b t from r);cases q;exact ⟨_,.str b t⟩
 | .list ds,v,u,h,r=>by
  unfold cE at h;obtain ⟨a,l,rfl,i,p⟩:=h;cases (show u=Value.ref a from r);obtain ⟨_,m,n,j,e⟩:=(show fA X.prog X.w H s.heap a (.lst l) from I.hok a _ i);obtain ⟨as,q⟩:=bG.reads I p j;exact ⟨_,.list e rfl rfl (by simpa using q)⟩
 | .tuple ds,v,u,h,r=>by
  unfold cE at h;obtain ⟨a,l,rfl,i,p⟩:=h;cases (show u=Value.ref a from r);obtain ⟨_,m,j,o,e,A,n,hd⟩:=(show fA X.prog X.w H s.heap a (.tup l) from I.hok a _ i);obtain ⟨as,q⟩:=bG.reads I p j;exact ⟨_,.tuple e A hd (by simpa using q)⟩
 | .dict kvs,v,u,h,r=>by
  unfold cE at h;obtain ⟨rfl,a,rfl,i⟩:=h;cases (show u=Value.ref a from r);obtain ⟨_,_,D,B,o,z,G,e,C,hd,_,c,_⟩:=(show fA X.prog X.w H s.heap a (.dK []) from I.hok a _ i);cases B;have x:z.toList=[]:=by
   cases q:z.toList with
   | nil=>rfl
   | cons y ys=>rw [q] at c;cases c
  exact ⟨_,.dict e C.1 hd (by rw [x];exact .nil) (by rw [x];exact .nil)⟩
theorem bG.reads(I:cO X pins σ H s):∀{ds:List PyData}{vs:List V}{us:List Value},bG H ds vs->eE vs us->∃as,ReadsAll s.heap us ds as
 | [],_,us,h,r=>by
  cases (show _=[] from h);cases r;exact ⟨_,.nil⟩
 | d::ds,_,us,h,r=>by
  unfold bG at h;obtain ⟨x,xs,rfl,h1,h2⟩:=h;cases r with
  | cons r1 r2 =>
   obtain ⟨as,b⟩:=cE.reads I h1 r1;obtain ⟨bs,a⟩:=bG.reads I h2 r2;exact ⟨_,.cons b a⟩
end
end
section
variable{X:Cx}
theorem PN(hg:X.A.guards=some [])(hu:X.A.units+64<cLine):jO X (.builtin "repr") (λxs H Q=>∃x d,xs=[x]/\cE H d x/\d.showable=true/\d.hasDict=false/\d.depth<=60/\d.shown.length<=sizeLine/\Q (.str d.shown) H):=by
 intro m s σ H xs D Q I r h;obtain ⟨x,d,rfl,p,j,a,z,l,q⟩:=h;obtain ⟨u,rfl,n⟩:=mT r;obtain ⟨C,B⟩:=p.reads I n;cases B with
 | none=>exact PySem.P.repr_of_none ⟨.str _,H,I.tok _,⟨_,rfl⟩,q⟩
 | bool b=>exact PySem.P.repr_of_bool ⟨.str _,H,I.tok _,⟨_,rfl⟩,q⟩
 | int i t=>exact PySem.P.repr_of_int (by simpa [PyData.showable] using j) ⟨.str _,H,I.tok _,⟨_,rfl⟩,q⟩
 | str y t=>exact PySem.P.repr_of_str ⟨.str _,H,I.tok _,⟨_,rfl⟩,q⟩ l
 | list a1 a2 a3 a4=>exact repr_of_reads' (.list a1 a2 a3 a4) j (PyData.noDict_hsm a) hg Oo (λ_ _ e=>e) (λo u w c=>⟨.str _,H,I.kept c,⟨_,rfl⟩,q⟩) l
 | tuple a1 a2 a3 a4=>exact repr_of_reads' (.tuple a1 a2 a3 a4) j (PyData.noDict_hsm a) hg Oo (λ_ _ e=>e) (λo u w c=>⟨.str _,H,I.kept c,⟨_,rfl⟩,q⟩) l
 | dict a1 a2 a3 a4 a5=>simp [PyData.hasDict] at a
end
section
variable{X:Cx}
end
structure fW(CX:QG)(P:Program)(w:World)(K:KFr)(mg:Str->Option Value)(base:Heap)(k:Nat)(x:Str)(ps:List Str)(sp:Sp):Prop where
 ex:∃(f:Addr) (fd:FuncData),eT P w K mg base CX k f fd ps sp/\mg x=some (.ref f)/\PySem.W.keepIn K (.ref f)=true/\BP K fd ps []
section
variable{X:Cx}{k:Nat}{ps:List Str}{sp:Sp}{x:Str}{p pos:Pos}{e:Expr}{es:List Expr}{t:TA}
theorem aDW(F:fW dY X.prog X.w X.K X.mg X.base k x ps sp)(hr:lQ k X.A)(ha:PA X (e::es) t)(hg:Gl X x:=by rfl)
  (hdb:(x == ("__debug__" : Str))=false:=by decide) (he:starEach (e::es) X.env=(false,eval e X.env)::starEach es X.env:=by rfl) (hpl:(backTo pos (starEach es X.env)).any (·.1)=false:=by rfl) :
  PE X (.Call (.Name x p) (e::es) [] pos) (RT sp [] E0 t):=by
 obtain ⟨f,h,d,a,c,b⟩:=F.ex;exact YX d hr hg a c b .nil aDY ha hdb he hpl
end
section
variable{K:KFr}{H:Hp}{p:Addr}{xs:List V}{i:Int}{v:V}{Q:VK}
theorem nZ(h:H p=some (.lst xs))(e:HR xs i=some v)(q:Q v H):rIx K (.ref p) (.int i) H Q:=.inl ⟨p,xs,i,v,rfl,rfl,fY.of h,e,q⟩
theorem iI(h:H p=some (.tup xs))(e:HR xs i=some v)(q:Q v H):rIx K (.ref p) (.int i) H Q:=.inr (.inl ⟨p,xs,i,v,rfl,rfl,fN.of h,e,q⟩)
theorem stL{u:V}{Q:Hp->Prop}{j:Nat}(h:H p=some (.lst xs))(e:MC xs.length i=some j)(q:Q (upd H p (.lst (xs.set j u)))):SV (.ref p) (.int i) u H Q:=⟨p,xs,i,j,rfl,rfl,h,e,q⟩
end
def iM(p:Addr)(H:Hp):Hp:=λb=>if b=p then none else H b
theorem iM.at{p b:Addr}{H:Hp}(h:b≠p):iM p H b=H b:=by unfold iM;rw [if_neg h]
theorem iM.self{p:Addr}{H:Hp}:iM p H p=none:=by unfold iM;rw [if_pos rfl]
theorem iM.same{p:Addr}{H:Hp}:bA (iM p H) H:=λb o h=>by
 unfold iM at h;by_cases e:b=p
 ·rw [if_pos e] at h;cases h
 ·rw [if_neg e] at h;exact h
theorem iM.ne{p b:Addr}{H:Hp}{o:HO}(h:iM p H b=some o):b≠p:=λe=>by
 subst e;rw [iM.self] at h;cases h
theorem iM.of{p b:Addr}{H:Hp}{o:HO}(n:b≠p)(h:H b=some o):iM p H b=some o:=by rw [iM.at n];exact h
theorem iM.upd_self{p:Addr}{H:Hp}{o:HO}:iM p (upd H p o)=iM p H:=by
 funext b
 by_cases e:b=p
 ·subst e;rw [iM.self,iM.self]
 ·rw [iM.at e,iM.at e,L2.eG e]
abbrev aU(p:Addr)(H H':Hp):Prop:=bA (iM p H) (iM p H')
theorem bA.but{p:Addr}{H H':Hp}(h:bA H H'):aU p H H':=λb o e=>by
 have n:=iM.ne e;exact iM.of n (h _ _ (iM.same _ _ e))
theorem bA.upd{H:Hp}{q:Addr}{o:HO}(h:H q=none):bA H (upd H q o):=λb u e=>by
 rw [L2.eG (cY e h)];exact e
theorem aU.self{p:Addr}{H:Hp}{o:HO}:aU p H (upd H p o):=by unfold aU;rw [iM.upd_self];exact bA.refl _
theorem aU.free{p q:Addr}{H H':Hp}(e:aU p H H')(hp:∃o,H' p=some o)(h:H' q=none):H q=none:=by
 cases k:H q with
 | none=>rfl
 | some o =>
  by_cases n:q=p
  ·subst n;obtain ⟨b,a⟩:=hp;rw [a] at h;cases h
  ·have:=iM.same _ _ (e q o (iM.of n k));rw [this] at h;cases h
section
variable{K:KFr}{H:Hp}{p:Addr}{xs:List V}{i:Int}{v:V}{Q:VK}
theorem XJ{u:V}{Q:Hp->Prop}{j:Nat}(h:H p=some (.lst xs))(e:MC xs.length i=some j)(k:∀H',H' p=some (.lst (xs.set j u))->aU p H H'->Q H'):SV (.ref p) (.int i) u H Q :=
 stL h e (k _ bL aU.self)
theorem alT{Q:V->Hp->Prop}(hz:xs.length<=sizeLine)(k:∀q H',H q=none->H' q=some (.tup xs)->bA H H'->Q (.ref q) H'):xs.length<=sizeLine/\∀p,H p=none->Q (.ref p) (upd H p (.tup xs)) :=
 ⟨hz,λq a=>k q _ a bL (bA.upd a)⟩
theorem alL{Q:V->Hp->Prop}(hz:xs.length<=sizeLine)(k:∀q H',H q=none->H' q=some (.lst xs)->bA H H'->Q (.ref q) H'):xs.length<=sizeLine/\∀p,H p=none->Q (.ref p) (upd H p (.lst xs)) :=
 ⟨hz,λq a=>k q _ a bL (bA.upd a)⟩
theorem aU.at{p b:Addr}{H H':Hp}{o:HO}(s:aU p H H')(n:b≠p)(h:H b=some o):H' b=some o:=iM.same _ _ (s _ _ (iM.of n h))
end
theorem oR{n:Nat}(h:n<=64):n<=sizeLine:=aZ h Dd
theorem yM{c A B:Prop}[Decidable c](h1:c->A)(h2:¬c->B):if decide c=true then A else B :=
 aD3 (λh=>h1 (of_decide_eq_true h)) (λh=>h2 (λk=>h (cG k)))
theorem aAZ{c A B:Prop}[Decidable c](h1:¬c->A)(h2:c->B):if (!decide c)=true then A else B :=
 aD3 (λh=>h1 (λk=>by rw [cG k] at h;exact absurd h Dd)) (λh=>h2 (Decidable.of_not_not λk=>h (by rw [bU k];rfl)))
def rR(c:TT):TT:=λσ H Q=>∃Q':Bool->Hp->Prop,c σ H Q'/\∀b H1,Q' b H1->Q b H1
theorem PT.mono{X:Cx}{e:Expr}{c:TT}(h:PT X e c):PT X e (rR c):=λa s σ H Q I ⟨Q',i,d⟩ =>
 thn (h a s σ H Q' I i) λb j ⟨H',I',q⟩=>⟨H',I',d _ _ q⟩
theorem OM{X:Cx}{pos:Pos}{c:Expr}{body:List Stmt}{tc:TT}{tb:TS}(hp:PassesOwn (model X.prog X.w) X.A X.env X.xe)(hc:PT X c tc)(hb:KA X body tb):PS X (.While c body [] pos) (CG (rR tc) tb) :=
 TH hp hc.mono hb
@[irreducible] def IZ(K:KFr):List V->Hp->VK->Prop:=λxs H Q=>∃x n,xs=[x]/\aEs K x H n/\Q (.int n) H
@[irreducible] def YG:List V->Hp->VK->Prop:=λxs H Q=>∃i,xs=[.int i]/\Q (.int (i.natAbs:Int)) H
@[irreducible] def FU:List V->Hp->VK->Prop:=λxs H Q=>∃x d,xs=[x]/\cE H d x/\d.showable=true/\d.hasDict=false/\d.depth<=60/\d.shown.length<=sizeLine/\Q (.str d.shown) H
section
variable{X:Cx}{K:KFr}{H:Hp}{p:Addr}{xs:List V}{Q:VK}
theorem jI:jO X (.builtin "len") (IZ X.K):=by unfold IZ;exact VS
theorem JR:jO X (.builtin "abs") YG:=by
 unfold YG;exact λa s σ H c b Q I r ⟨i,e,q⟩=>VT a s σ H c b Q I r ⟨i,e,by
 have:(if i<0 then -i else i)=(i.natAbs:Int):=by split <;> omega
 rw [this];exact q⟩
theorem NB(hg:X.A.guards=some [])(hu:X.A.units+64<cLine):jO X (.builtin "repr") FU:=by unfold FU;exact PN hg hu
theorem YC(h:H p=some (.lst xs))(q:Q (.int xs.length) H):IZ K [V.ref p] H Q:=by unfold IZ;exact ⟨_,_,rfl,.inl ⟨xs,fY.of h,rfl⟩,q⟩
theorem rlT(h:H p=some (.tup xs))(q:Q (.int xs.length) H):IZ K [V.ref p] H Q:=by unfold IZ;exact ⟨_,_,rfl,.inr ⟨xs,fN.of h,rfl⟩,q⟩
theorem raI{i:Int}(q:Q (.int (i.natAbs:Int)) H):YG [V.int i] H Q:=by unfold YG;exact ⟨i,rfl,q⟩
theorem rrI{x:V}{d:PyData}(r:cE H d x)(h1:d.showable=true)(h2:d.hasDict=false)(h3:d.depth<=60)(h4:d.shown.length<=sizeLine)(q:Q (.str d.shown) H):FU [x] H Q:=by unfold FU;exact ⟨x,d,rfl,r,h1,h2,h3,h4,q⟩
end
theorem wN{c:TT}{tb:TS}{D:rQ}{σ:St}{H:Hp}(W:Nat->St->Hp->Prop)(R:St->Hp->Prop)(m:Nat)(h0:W m σ H)
  (hs:∀m σ H,W m σ H->c σ H λb H1=>if b=true then tb { D with nx:=λσ' H'=>∃m',m' < m/\W m' σ' H',ct:=λσ' H'=>∃m',m' < m/\W m' σ' H',bk:=D.nx } σ H1 else R σ H1)
  (hd:∀σ H,R σ H->D.nx σ H):CG (rR c) tb D σ H :=
 ⟨W,⟨m,h0⟩,λm σ H a=>⟨_,hs m σ H a,λb H1 q=>by
  by_cases hb:b=true
  ·rw [if_pos hb] at q ⊢;exact ⟨_,λ_ _ h=>h,q⟩
  ·rw [if_neg hb] at q ⊢;exact hd _ _ q⟩⟩
def aDz(t:TS):TS:=λD σ H=>∃R:St->Hp->Prop,(∀σ' H',R σ' H'->D.nx σ' H')/\t { D with nx:=R } σ H
theorem aB4{X:Cx}{st:Stmt}{t:TS}(h:PS X st t):PS X st (aDz t):=λa s σ H D I ⟨R,b,q⟩ =>
 thn (h a s σ H _ I q) λf d z=>by
  cases f with
  | next=>obtain ⟨c,H',I',r⟩:=z;exact ⟨c,H',I',b _ _ r⟩
  | brk=>exact z
  | cont=>exact z
  | ret u=>exact z
section
variable{es:List Expr}{env:Env}
theorem iG{a b c d}:starEach (.BinOp a b c d::es) env=(false,eval (.BinOp a b c d) env)::starEach es env:=by rw [starEach] <;> (intros;contradiction)
theorem fS{a b c}:starEach (.UnaryOp a b c::es) env=(false,eval (.UnaryOp a b c) env)::starEach es env:=by rw [starEach] <;> (intros;contradiction)
theorem jV{a b c}:starEach (.Dict a b c::es) env=(false,eval (.Dict a b c) env)::starEach es env:=by rw [starEach] <;> (intros;contradiction)
theorem fH{a b c d}:starEach (.ListComp a b c d::es) env=(false,eval (.ListComp a b c d) env)::starEach es env:=by rw [starEach] <;> (intros;contradiction)
theorem fT{a b c d}:starEach (.Compare a b c d::es) env=(false,eval (.Compare a b c d) env)::starEach es env:=by rw [starEach] <;> (intros;contradiction)
theorem iR{a b c d}:starEach (.Call a b c d::es) env=(false,eval (.Call a b c d) env)::starEach es env:=by rw [starEach] <;> (intros;contradiction)
theorem fI{a b c}:starEach (.Constant a b c::es) env=(false,eval (.Constant a b c) env)::starEach es env:=by rw [starEach] <;> (intros;contradiction)
theorem eK{a b c}:starEach (.Subscript a b c::es) env=(false,eval (.Subscript a b c) env)::starEach es env:=by rw [starEach] <;> (intros;contradiction)
theorem iQ{a b}:starEach (.Name a b::es) env=(false,eval (.Name a b) env)::starEach es env:=by rw [starEach] <;> (intros;contradiction)
theorem jU{a b}:starEach (.List a b::es) env=(false,eval (.List a b) env)::starEach es env:=by rw [starEach] <;> (intros;contradiction)
theorem iF{a b c}:starEach (.Tuple a b c::es) env=(false,eval (.Tuple a b c) env)::starEach es env:=by rw [starEach] <;> (intros;contradiction)
end
section
variable{X:Cx}{k:Nat}{ps:List Str}{sp:Sp}{x:Str}{p pos:Pos}{e:Expr}{es:List Expr}{te:TE}{t:TA}{id T:String}{r:List V->Hp->VK->Prop}
theorem EK{env:Env}:(backTo pos (starEach [] env)).any (·.1)=false:=rfl
theorem wZ{env:Env}(hs:starEach (e::es) env=(false,eval e env)::starEach es env)(h:(backTo pos (starEach es env)).any (·.1)=false):(backTo pos (starEach (e::es) env)).any (·.1)=false:=by
 rw [hs];show (false || (backTo pos (starEach es env)).any (·.1))=false;rw [h];rfl
end
structure gE(X:Cx)(e:Expr)(t:TE):Prop where p:PE X e t
structure JY(X:Cx)(e:Expr)(t:TT):Prop where p:PT X e t
structure PWw(X:Cx)(e:Expr)(t:TT):Prop where p:PW X e t
structure NM(X:Cx)(es:List Expr)(t:TA):Prop where p:PA X es t
structure JZ(X:Cx)(st:Stmt)(t:TS):Prop where p:PS X st t
structure zP(X:Cx)(st:List Stmt)(t:TS):Prop where p:KA X st t
structure PGw(X:Cx)(e:Expr)(t:TG):Prop where p:PG X e t
structure aAw(X:Cx)(es:List Expr)(t:WG):Prop where p:PGs X es t
structure KB(X:Cx)(tg iter:Expr)(t:TI):Prop where p:PI X tg iter t
structure POw(X:Cx)(e:Option Expr)(t:TO):Prop where p:PO X e t
@[irreducible] def LF(xs:List V)(H:Hp)(Q:VK):Prop:=xs.length<=sizeLine/\∀p,H p=none->Q (.ref p) (upd H p (.tup xs))
@[irreducible] def LG(xs:List V)(H:Hp)(Q:VK):Prop:=xs.length<=sizeLine/\∀p,H p=none->Q (.ref p) (upd H p (.lst xs))
theorem rK{xs:List V}{H:Hp}{Q:VK}(hz:xs.length<=64)(k:∀q H',H q=none->H' q=some (.tup xs)->bA H H'->Q (.ref q) H'):LF xs H Q:=by unfold LF;exact alT (oR hz) k
theorem uU{xs:List V}{H:Hp}{Q:VK}(hz:xs.length<=64)(k:∀q H',H q=none->H' q=some (.lst xs)->bA H H'->Q (.ref q) H'):LG xs H Q:=by unfold LG;exact alL (oR hz) k
def tTu(t:TA):TE:=λσ H Q=>t σ H λxs H1=>LF xs H1 Q
def tLs(t:TA):TE:=λσ H Q=>t σ H λxs H1=>LG xs H1 Q
section
variable{X:Cx}{a b c e o tg:Expr}{es rest:List Expr}{ta tb tc te to:TE}{tA tB':TT}{t:TA}{pos p p2:Pos}{st:Stmt}{sts body orelse:List Stmt}{ts us:TS}{x:Str}{r r':R2}{id T:String}{rl:List V->Hp->VK->Prop}{k i j:Nat}{ps:List Str}{sp:Sp}{n:Nat}
theorem aL(i:Nat){x:Str}{pos:Pos}(hN:X.N[i]?=some x:=by rfl)(hv:Vis X.env.scope x:=by first | exact Or.inl rfl | exact Or.inr (Or.inl rfl) | exact Or.inr (Or.inr rfl))(hd:(x == ("__debug__" : Str))=false:=by decide)
  (hcd:(x == ("__classdict__" : Str))=false:=by decide):gE X (.Name x pos) (aBn i):=⟨pv i hN hv hd hcd⟩
theorem aM{i j pos}:gE X (.Constant (.int i) j pos) (tC (.int i)):=⟨pe_int⟩
theorem sK{b j pos}:gE X (.Constant (.bool b) j pos) (tC (.bl b)):=⟨pe_bl⟩
theorem QX{j pos}:gE X (.Constant .none j pos) (tC .non):=⟨pe_non⟩
theorem lA{x j pos}:gE X (.Constant (.str x) j pos) (tC (.str x)):=⟨pe_str⟩
theorem iB{v:V}{u:Value}(hg:Gl X x)(hm:X.mg x=some u)(r:eI v u)(hd:(x == ("__debug__" : Str))=false:=by decide):gE X (.Name x pos) (tC v):=⟨YT hg hm r hd⟩
theorem cN{op:Operator}(ho:rH X (binaryOp op) r)(ha:gE X a ta)(hb:gE X b tb):gE X (.BinOp a op b pos) (XE r ta tb):=⟨aDU ho ha.p hb.p⟩
theorem KG{op:UnaryOp}{r:V->Hp->VK->Prop}(ho:UnR X (unaryOp op) r)(ha:gE X a ta):gE X (.UnaryOp op a pos) (tUn r ta):=⟨aDT ho ha.p⟩
theorem uE{op:CmpOp}(ho:rH X (compareOp op) r)(ha:gE X a ta)(hb:gE X b tb)(hm:behindInMarks op b=false):gE X (.Compare a [op] [b] pos) (XE r ta tb):=⟨YW ho ha.p hb.p hm⟩
theorem gJ{op:CmpOp}(ho:rH X (compareOp op) r)(ha:gE X a ta)(hb:gE X b tb)(hm:behindInMarks op b=false):JY X (.Compare a [op] [b] pos) (aAH (XE r ta tb)):=⟨YK ho ha.p hb.p hm⟩
theorem mX(h:gE X e te)(he:∀whole,isTrue e X.env whole=(do let v <-whole;standAt e.pos;holding [v] (truthy v)):=by intro _;rfl):JY X e (tB te):=⟨aBY h.p he⟩
theorem KC(ha:JY X a tA):PWw X (.BoolOp .And [a] pos) tA:=⟨YH ha.p⟩
theorem IB(ha:JY X a tA):PWw X (.BoolOp .Or [a] pos) tA:=⟨aBW ha.p⟩
theorem QO(ha:JY X a tA)(hb:PWw X (.BoolOp .And (b::rest) pos) tB'):PWw X (.BoolOp .And (a::b::rest) pos) (aDB tA tB'):=⟨aBX ha.p hb.p⟩
theorem QN(ha:JY X a tA)(hb:PWw X (.BoolOp .Or (b::rest) pos) tB'):PWw X (.BoolOp .Or (a::b::rest) pos) (tOr tA tB'):=⟨aDP ha.p hb.p⟩
theorem QP(h:PWw X e tA):JY X e tA:=⟨h.p.pt⟩
theorem QQ(ha:JY X a tA):JY X (.UnaryOp .Not a pos) (aDs tA):=⟨aBZ ha.p⟩
theorem aBi{op}(h:gE X a ta):gE X (.BoolOp op [a] pos) ta:=⟨aCd h.p⟩
theorem aBj(ha:gE X a ta)(hb:gE X (.BoolOp .And (b::rest) pos) tb):gE X (.BoolOp .And (a::b::rest) pos) (aAO ta tb):=⟨aCg ha.p hb.p⟩
theorem BW(ha:gE X a ta):gE X (.UnaryOp .Not a pos) (aAJ ta):=⟨aCe ha.p⟩
theorem RB(hc:JY X c tA)(ha:gE X a ta)(hb:gE X b tb):gE X (.IfExp c a b pos) (tIf tA ta tb):=⟨TX hc.p ha.p hb.p⟩
theorem aJ:NM X [] aDt:=⟨pa_nil⟩
theorem aP(ha:gE X e te)(hr:NM X es t)(hs:starEach (e::es) X.env=(false,eval e X.env)::starEach es X.env:=by first | exact iQ | exact fI | exact se_BoolOp | exact iG | exact fS | exact se_IfExp | exact jV | exact fH | exact fT | exact iR | exact se_Attribute | exact eK | exact jU | exact iF | exact se_JoinedStr | exact se_GeneratorExp):NM X (e::es) (aAN te t):=⟨YY ha.p hr.p hs⟩
theorem eO{x1}(h:NM X es t):gE X (.Tuple es x1 pos) (tTu t):=⟨by unfold tTu LF;exact aCc h.p⟩
theorem fC(h:NM X es t):gE X (.List es pos) (tLs t):=⟨by unfold tLs LG;exact aCf h.p⟩
theorem EU:gE X (.Dict [] [] pos) RP:=⟨pe_dnewT⟩
theorem bR(hr:WI X r)(ha:gE X a ta)(hb:gE X b tb)(hs:NL b):gE X (.Subscript a b pos) (XE r ta tb):=⟨aDV hr ha.p hb.p hs⟩
theorem jA:POw X none KQ:=⟨po_none⟩
theorem iZ(h:gE X e te):POw X (some e) (aAI te):=⟨YO h.p⟩
theorem hJ{lo hi:Option Expr}{tl th:TO}{r:V->Option Int->Option Int->Hp->VK->Prop}(hr:SlR X r)(he:gE X e te)(hl:POw X lo tl)(hu:POw X hi th):gE X (.Subscript e (.Slice lo hi none p2) pos) (tSl r te tl th):=⟨TW hr he.p hl.p hu.p⟩
theorem bV(F:fW dY X.prog X.w X.K X.mg X.base k x ps sp)(hr:lQ k X.A)(ha:NM X (e::es) t)(hg:Gl X x:=by rfl)
  (hdb:(x == ("__debug__" : Str))=false:=by decide) (he:starEach (e::es) X.env=(false,eval e X.env)::starEach es X.env:=by first | exact iQ | exact fI | exact se_BoolOp | exact iG | exact fS | exact se_IfExp | exact jV | exact fH | exact fT | exact iR | exact se_Attribute | exact eK | exact jU | exact iF | exact se_JoinedStr | exact se_GeneratorExp)
  (hpl:(backTo pos (starEach es X.env)).any (·.1)=false:=by repeat (first | exact EK | refine wZ (by first | exact iQ | exact fI | exact se_BoolOp | exact iG | exact fS | exact se_IfExp | exact jV | exact fH | exact fT | exact iR | exact se_Attribute | exact eK | exact jU | exact iF | exact se_JoinedStr | exact se_GeneratorExp) ?_)) :
  gE X (.Call (.Name x p) (e::es) [] pos) (RT sp [] E0 t):=⟨aDW F hr ha.p hg hdb he hpl⟩
theorem gK(hc:jO X (.builtin id) rl)(hg:Gl X x)(hm:X.mg x=none)(hv:bootBuiltins x=some (.builtin id))(ha:NM X (e::es) t)(hn:x ≠ "__name__" := by decide)(hdb:(x == ("__debug__" : Str))=false:=by decide)
  (he:starEach (e::es) X.env=(false,eval e X.env)::starEach es X.env:=by first | exact iQ | exact fI | exact se_BoolOp | exact iG | exact fS | exact se_IfExp | exact jV | exact fH | exact fT | exact iR | exact se_Attribute | exact eK | exact jU | exact iF | exact se_JoinedStr | exact se_GeneratorExp) (hpl:(backTo pos (starEach es X.env)).any (·.1)=false:=by repeat (first | exact EK | refine wZ (by first | exact iQ | exact fI | exact se_BoolOp | exact iG | exact fS | exact se_IfExp | exact jV | exact fH | exact fT | exact iR | exact se_Attribute | exact eK | exact jU | exact iF | exact se_JoinedStr | exact se_GeneratorExp) ?_)):gE X (.Call (.Name x p) (e::es) [] pos) (tCB rl t) :=
 ⟨TZ hc hg hm hv ha.p hn hdb he hpl⟩
theorem jK(hc:jO X (.type T) rl)(hg:Gl X x)(hm:X.mg x=none)(hv:bootBuiltins x=some (.type T))(ha:NM X (e::es) t)(hn:x ≠ "__name__" := by decide)(hdb:(x == ("__debug__" : Str))=false:=by decide)
  (he:starEach (e::es) X.env=(false,eval e X.env)::starEach es X.env:=by first | exact iQ | exact fI | exact se_BoolOp | exact iG | exact fS | exact se_IfExp | exact jV | exact fH | exact fT | exact iR | exact se_Attribute | exact eK | exact jU | exact iF | exact se_JoinedStr | exact se_GeneratorExp) (hpl:(backTo pos (starEach es X.env)).any (·.1)=false:=by repeat (first | exact EK | refine wZ (by first | exact iQ | exact fI | exact se_BoolOp | exact iG | exact fS | exact se_IfExp | exact jV | exact fH | exact fT | exact iR | exact se_Attribute | exact eK | exact jU | exact iF | exact se_JoinedStr | exact se_GeneratorExp) ?_)):gE X (.Call (.Name x p) (e::es) [] pos) (tCB rl t) :=
 ⟨OQ hc hg hm hv ha.p hn hdb he hpl⟩
theorem pJ{name:Str}{apos cpos:Pos}{r:V->List V->Hp->VK->Prop}(pa:PlainAttrs T)(slot:Slot T name id)(hty:typeOf (.builtin id)=pure (.type "method_descriptor"))(hm:MtR X id r)(ho:gE X o to)(ha:NM X (e::es) t)
  (hbase:attributeBase o name X.env (eval o X.env)=eval o X.env:=by rfl)
  (hfew:((backTo cpos (starEach (e::es) X.env)).all (λx=>!x.1)&&(backToKw cpos (keywordEach [] X.env)).all (λx=>x.1.isSome)
   && decide ((e::es).length+([]:List Keyword).length+(if ([]:List Keyword).isEmpty then 0 else 1)<30))=true:=by rfl)
  (hline:(apos.endLine == cpos.line)=true:=by rfl) (hs:starEach (e::es) X.env=(false,eval e X.env)::starEach es X.env:=by first | exact iQ | exact fI | exact se_BoolOp | exact iG | exact fS | exact se_IfExp | exact jV | exact fH | exact fT | exact iR | exact se_Attribute | exact eK | exact jU | exact iF | exact se_JoinedStr | exact se_GeneratorExp) (hplain:(backTo cpos (starEach es X.env)).any (·.1)=false:=by repeat (first | exact EK | refine wZ (by first | exact iQ | exact fI | exact se_BoolOp | exact iG | exact fS | exact se_IfExp | exact jV | exact fH | exact fT | exact iR | exact se_Attribute | exact eK | exact jU | exact iF | exact se_JoinedStr | exact se_GeneratorExp) ?_)) :
  gE X (.Call (.Attribute o name apos) (e::es) [] cpos) (tBM X.K T r to t):=⟨aDX pa slot hty hm ho.p ha.p hbase hfew hline hs hplain⟩
theorem iA:zP X [] aAK:=⟨pss_nil⟩
theorem aS(h1:JZ X st ts)(h2:zP X sts us):zP X (st::sts) (aDp ts us):=⟨TF h1.p h2.p⟩
theorem bJ(h1:JZ X st ts):zP X [st] ts:=⟨YL h1.p⟩
theorem jQ(he:gE X e te)(hs:swapsWith e none pos.line X.env=pure false:=by rfl):JZ X (.Expr e pos) (aAL te):=⟨YM he.p hs⟩
theorem cP(he:gE X e te):JZ X (.Return (some e) pos) (aDq te):=⟨aB1 he.p⟩
theorem lV{c:Expr}{a b:List Stmt}(hc:JY X c tA)(ha:zP X a ts)(hb:zP X b us):JZ X (.If c a b pos) (aDw tA ts us):=⟨aDQ hc.p ha.p hb.p⟩
theorem xA(h:JZ X st ts):JZ X st (aDz ts):=⟨aB4 h.p⟩
theorem cX{i:Nat}{x:Str}(hN:X.N.Nodup)(hi:X.N[i]?=some x)(hx:Loc X.env.scope x)(hf:X.fn x=true\/X.env.scope.names.lookup x=some .local:=by first | exact .inl rfl | exact .inr rfl | assumption):PGw X (.Name x pos) (tL i):=⟨YS hN hi hx hf⟩
theorem iN:aAw X [] aCM:=⟨pgs_nil⟩
theorem dO{t:TG}{u:WG}(h1:PGw X e t)(h2:aAw X es u)
  (hs:(assignEach (e::es) X.env).map (·.2)=assign e X.env::(assignEach es X.env).map (·.2):=by rfl):aAw X (e::es) (US t u):=⟨TV h1.p h2.p hs⟩
theorem kC{k:Nat}{t:WG}{n:Nat}(hc:X.calm=true)(h:aAw X es t)
  (hn:(assignEach es X.env).length=n:=by rfl) (hst:(assignEach es X.env).findIdx? (·.1)=none:=by rfl):PGw X (.Tuple es k pos) (aCL X.K n t):=⟨aB9 hc h.p hn hst⟩
theorem pI{i:Expr}{ti:TE}{t:aAu}(ho:gE X o to)(hi:gE X i ti)(hs:aC9 X t)
  (ha:∀v,assign (.Subscript o i pos) X.env v=(do
   let ov <-holding [v] (eval o X.env)
   let iv <-holding [v,ov] (eval i X.env)
   standAt pos
   holding [v,ov,iv] (setItem ov iv v)
   release [v,ov,iv] []):=by intro _;rfl):PGw X (.Subscript o i pos) (aD7 to ti t):=⟨aCa ho.p hi.p hs ha⟩
theorem pH{g:TG}(he:gE X e te)(hg:PGw X tg g)(hs:swapsWithSole [tg] e pos.line X.env=pure false:=by rfl)(hw:swappedStores [tg] e X.env=pure none:=by rfl)(h1:(assignEach [tg] X.env).map (·.2)=[assign tg X.env]:=by rfl):JZ X (.Assign [tg] e pos) (NZ te g):=⟨aB5 he.p hg.p hs hw h1⟩
theorem bS{i:Nat}{pos':Pos}(hN:X.N.Nodup)(hi:X.N[i]?=some x)(hx:Loc X.env.scope x)(he:gE X e te)(hs:swapsWith e (some (.Name x pos')) pos.line X.env=pure false:=by rfl)(hf:X.fn x=true\/X.env.scope.names.lookup x=some .local:=by first | exact .inl rfl | exact .inr rfl | assumption) :
  JZ X (.Assign [.Name x pos'] e pos) (NZ te (tL i)):=⟨aB0 hN hi hx he.p hs hf⟩
theorem QR{i j:Nat}{x y:Str}{ta:TA}{px py pt:Pos}{kt k2 pt2}(hc:X.calm=true)(hN:X.N.Nodup)(hi:X.N[i]?=some x)(hj:X.N[j]?=some y)(hij:i≠j)
  (hx:X.env.scope.names.lookup x=some .local) (hy:X.env.scope.names.lookup y=some .local) (ha:NM X [a,b] ta)
  (hw:swappedStores [.Tuple [.Name x px,.Name y py] kt pt] (.Tuple [a,b] k2 pt2) X.env=pure (some [x,y]))
  (hs:swapsWithSole [.Tuple [.Name x px,.Name y py] kt pt] (.Tuple [a,b] k2 pt2) pos.line X.env=pure false:=by rfl) :
  JZ X (.Assign [.Tuple [.Name x px,.Name y py] kt pt] (.Tuple [a,b] k2 pt2) pos) (aDr i j ta):=⟨aB2 hc hN hi hj hij hx hy ha.p hw hs⟩
theorem sG{c:Expr}{tc:TT}{tb:TS}(hp:PassesOwn (model X.prog X.w) X.A X.env X.xe)(hc:JY X c tc)(hb:zP X body tb):JZ X (.While c body [] pos) (CG (rR tc) tb):=⟨OM hp hc.p hb.p⟩
theorem fX{l:Expr}{tl:TE}(hl:gE X l tl):KB X tg l (aA2 X.K tl):=⟨YR hl.p⟩
theorem kB{l:Expr}{tl:TE}(hl:gE X l tl):KB X tg l (aD5 X.K tl):=⟨aB8 hl.p⟩
theorem fQ{a:Expr}{ta:TA}{p pos:Pos}(hg:Gl X "range")(hm:X.mg "range" = none)(ha:NM X [a] ta)(hs:starEach [a] X.env=[(false,eval a X.env)]:=by first | exact iQ | exact fI | exact se_BoolOp | exact iG | exact fS | exact se_IfExp | exact jV | exact fH | exact fT | exact iR | exact se_Attribute | exact eK | exact jU | exact iF | exact se_JoinedStr | exact se_GeneratorExp):KB X tg (.Call (.Name "range" p) [a] [] pos) (aA1 ta):=⟨OP hg hm ha.p hs⟩
theorem NS{a b:Expr}{ta:TA}{p pos:Pos}(hg:Gl X "range")(hm:X.mg "range" = none)(ha:NM X [a,b] ta)(hs:starEach [a,b] X.env=[(false,eval a X.env),(false,eval b X.env)]:=by rfl)(hs2:starEach [b] X.env=[(false,eval b X.env)]:=by first | exact iQ | exact fI | exact se_BoolOp | exact iG | exact fS | exact se_IfExp | exact jV | exact fH | exact fT | exact iR | exact se_Attribute | exact eK | exact jU | exact iF | exact se_JoinedStr | exact se_GeneratorExp) :
  KB X tg (.Call (.Name "range" p) [a,b] [] pos) (aA0 ta):=⟨OO hg hm ha.p hs hs2⟩
theorem fB{iter:Expr}{wi:TI}{g:TG}{tb:TS}{pos:Pos}(hp:PassesOwn (model X.prog X.w) X.A X.env X.xe)(hc:X.calm=true)(hi:KB X tg iter wi)(hg:PGw X tg g)(hb:zP X body tb)
  (hs:∀x,foldedSetIterable iter X.env x=pure x:=by intro _;rfl):JZ X (.For tg iter body [] pos) (aDx wi g tb):=⟨aB3 hp hc hi.p hg.p hb.p hs⟩
end
theorem jP.okw{P:Program}{w:World}{K:KFr}{mg:Str->Option Value}{base:Heap}{x qual:Str}{st:Stmt}{f:Addr}{fd:FuncData}{N ps:List Str}{k:Nat}{sp:Sp}(F:jP K x qual st f fd)(S:cI N ps (bB st))(len:∀vs H Q E,sp vs H Q E->vs.length=ps.length)
  (hbody:∀(cdv:Value) (A:Around) (outer:List Env) (s:Shared) (H:Hp) (vs:List V) (Q:VK) (E:XK),lQ k (A.deeper (envOfC qual (bB st) s.heap.objs.size f cdv))->sp vs H Q E ->
   ∃t,zP (HB dY P w K mg base N qual (bB st) f cdv A outer s H E).nox (lO st) t/\t { nx:=λ_ H'=>Q .non H',rt:=Q } (start N vs) H):eT P w K mg base dY (k+1) f fd ps sp :=
 F.ok S len λcdv A outer s H vs Q E b h=>by
  obtain ⟨t,c,a⟩:=hbody cdv A outer s H vs Q E b h;exact ⟨t,c.p,a⟩
theorem jP.oky{P:Program}{w:World}{K:KFr}{mg:Str->Option Value}{base:Heap}{x qual:Str}{st:Stmt}{f:Addr}{fd:FuncData}{N ps:List Str}{k:Nat}{sp:Sp}(F:jP K x qual st f fd)(S:cI N ps (bB st))
  (h:∀(vs:List V) (H:Hp) (Q:VK) (E:XK),sp vs H Q E->vs.length=ps.length/\∀(cdv:Value) (A:Around) (outer:List Env) (s:Shared),lQ k (A.deeper (envOfC qual (bB st) s.heap.objs.size f cdv)) ->
   ∃t,zP (HB dY P w K mg base N qual (bB st) f cdv A outer s H E).nox (lO st) t/\t { nx:=λ_ H'=>Q .non H',rt:=Q } (start N vs) H):eT P w K mg base dY (k+1) f fd ps sp :=
 F.okw S (λvs H Q E q=>(h vs H Q E q).1) λcdv A outer s H vs Q E a q=>(h vs H Q E q).2 cdv A outer s a
theorem GM(a b:Int):Int.gcd b (a % b)=Int.gcd a b:=by
 have h:=Int.gcd_add_mul_right_right b (a % b) (a/b);rw [show a % b+a/b*b=a from by have:=Int.emod_add_mul_ediv a b;rw [Int.mul_comm];exact this] at h;rw [<-h,Int.gcd_comm]
theorem MJ{a:Int}(h:0<a):(Int.gcd a 0:Int)=a:=by rw [Int.gcd_zero_right];omega
section
variable{H:Hp}{x:V}{d:PyData}{Q:VK}
end
theorem bG.len{H:Hp}:∀{ds:List PyData}{vs:List V},bG H ds vs->vs.length=ds.length
 | [],_,h=>by cases (show _=[] from h);rfl
 | d::ds,_,h=>by
  unfold bG at h;obtain ⟨x,xs,rfl,_,h2⟩:=h;simp [bG.len h2]
section
variable{p:Addr}{σ:St}{t:TE}{ta:TA}{d:PyData}{ds:List PyData}
end
theorem wY{α:Type}{xs:List α}{x:Int}(h0:0<=x)(h1:x<xs.length):∃v,HR xs x=some v/\v∈xs/\xs[x.toNat]?=some v:=by
 have h:x.toNat<xs.length:=Oo;have e:=aC h;have:=dM e;rw [Int.toNat_of_nonneg h0] at this;exact ⟨_,this,List.getElem_mem h,e⟩
theorem bG.append{H:Hp}{es:List PyData}{ws:List V}(h':bG H es ws):∀{ds:List PyData}{vs:List V},bG H ds vs->bG H (ds++es) (vs++ws)
 | [],_,h=>by cases (show _=[] from h);exact h'
 | d::ds,_,h=>by
  unfold bG at h;obtain ⟨x,xs,rfl,h1,h2⟩:=h;exact bG.cons h1 (bG.append h' h2)
end L2
namespace L2
end L2
namespace L2
open PySem PySem.Spec PyProof.Rows
theorem bA.thru{l:Addr}{H0 H1 H2:Hp}(hl:H0 l=none)(s:bA H0 H1)(b:aU l H1 H2):bA H0 H2:=λc o e=>by
 have n:c≠l:=cY e hl;exact b.at n (s _ _ e)
theorem aFU{H:Hp}{l b:Addr}{xs zs:List V}{Q:VK}(h1:H l=some (.lst xs))(h2:H b=some (.lst zs))(hz:xs.length+zs.length<=1000)(k:∀q H',H q=none->H' q=some (.lst (xs++zs))->bA H H'->Q (.ref q) H'):aDO (.ref l) (.ref b) H Q :=
 ⟨l,b,xs,zs,rfl,rfl,h1,h2,Nat.le_of_lt (uL hz),λq a=>k q _ a bL (bA.upd a)⟩
@[irreducible] def OJ:V->List V->Hp->VK->Prop:=LM
theorem sC{X:Cx}:MtR X "list.append" OJ:=by unfold OJ;exact uW
theorem WC{H:Hp}{l:Addr}{xs:List V}{y:V}{Q:VK}(h:H l=some (.lst xs))(hz:xs.length<=1000)(k:∀H',H' l=some (.lst (xs++[y]))->aU l H H'->Q .non H'):OJ (.ref l) [y] H Q:=by
 unfold OJ;exact ⟨l,xs,y,rfl,rfl,h,uL hz,k _ bL aU.self⟩
theorem RF{K:KFr}{H:Hp}{l:Addr}{xs:List V}(h:H l=some (.lst xs)):tyV K "list" (.ref l) H:=.inl ⟨rfl,xs,fY.of h⟩
def oE(env:Env):List (Str × NameKind)->List (Str × Addr)->List (Str × Addr)
 | [],cs=>cs
 | (n,k)::r,cs=>if k == .free then oE env r ((n,(env.cells.lookup n).getD 0)::cs) else oE env r cs
theorem MY(env:Env):∀(l:List (Str × NameKind)) (cs:List (Str × Addr)),(∀y∈l,y.2=.free->∃c,env.cells.lookup y.1=some c) ->
  (forIn l cs λ(x:Str × NameKind) r=>if x.2 == .free then (do let c <-cellOf env x.1;pure (ForInStep.yield ((x.1,c)::r)):Sem _) else pure (ForInStep.yield r))=pure (oE env l cs)
 | [],cs,_=>rfl
 | (n,k)::r,cs,h=>by
  rw [List.forIn_cons];have ih:=λcs=>MY env r cs λy b=>h y (aG _ b);by_cases hk:(k == NameKind.free)=true
  ·obtain ⟨c,a⟩:=h (n,k) aQ (by simpa using hk);dsimp only at a;simp only [hk,if_true,oE,a,Option.getD_some,cellOf,pure_bind];exact ih _
  ·simp only [hk,oE,pure_bind];exact ih _
theorem nC{env:Env}{scope:Scope}(h:∀y∈scope.names,y.2=.free->∃c,env.cells.lookup y.1=some c):closureFor scope env=pure (oE env scope.names []):=by
 have e:=MY env scope.names [] h;unfold closureFor;simp only [bind_pure];exact e
theorem vG{env:Env}:∀(l:List (Str × NameKind)) (cs:List (Str × Addr)),(∀y∈l,y.2=.free->∃c,env.cells.lookup y.1=some c)->∀p∈oE env l cs,p∈cs\/env.cells.lookup p.1=some p.2
 | [],cs,_,p,hp=>.inl hp
 | (n,k)::r,cs,h,p,hp=>by
  have h':∀y∈r,y.2=.free->∃c,env.cells.lookup y.1=some c:=λy d=>h y (aG _ d);unfold oE at hp;by_cases hk:(k == NameKind.free)=true
  ·rw [if_pos hk] at hp;obtain ⟨c,b⟩:=h (n,k) aQ (by simpa using hk);rcases vG r _ h' p hp with a | a
   ·rcases bE.mp a with rfl | a
    ·exact .inr (by dsimp only at b ⊢;rw [b];rfl)
    ·exact .inl a
   ·exact .inr a
  ·rw [if_neg hk] at hp;exact vG r cs h' p hp
theorem vI{env:Env}:∀(l:List (Str × NameKind)) (cs:List (Str × Addr)),∀p∈cs,p∈oE env l cs
 | [],_,_,hp=>hp
 | (n,k)::r,cs,p,hp=>by
  unfold oE;by_cases hk:(k == NameKind.free)=true
  ·rw [if_pos hk];exact vI r _ p (aG _ hp)
  ·rw [if_neg hk];exact vI r _ p hp
theorem vH{env:Env}:∀(l:List (Str × NameKind)) (cs:List (Str × Addr)) (y:Str),(y,NameKind.free)∈l->∃a,(y,a)∈oE env l cs
 | (n,k)::r,cs,y,hy=>by
  unfold oE;rcases bE.mp hy with e | hm
  ·cases e;rw [if_pos (by rfl)];exact ⟨_,vI r _ _ aQ⟩
  ·by_cases hk:(k == NameKind.free)=true
   ·rw [if_pos hk];exact vH r _ y hm
   ·rw [if_neg hk];exact vH r _ y hm
theorem oX{α β:Type}[BEq α][LawfulBEq α]{x:α}{c:β}:∀{l:List (α × β)},l.lookup x=some c->(x,c)∈l
 | [],h=>by cases h
 | (a,b)::r,h=>by
  rw [List.lookup_cons] at h;by_cases e:(x == a)=true
  ·rw [e] at h;have:x=a:=by simpa using e
   subst this;cases h;exact aQ
  ·have d:(x == a)=false:=by simpa using e
   rw [d] at h;exact aG _ (oX h)
theorem oW{α β:Type}[BEq α][LawfulBEq α]{x:α}{c:β}:∀{l:List (α × β)},(x,c)∈l->∃c',l.lookup x=some c'
 | (a,b)::r,h=>by
  rw [List.lookup_cons];by_cases e:(x == a)=true
  ·rw [e];exact ⟨_,rfl⟩
  ·have e':(x == a)=false:=by simpa using e
   rw [e'];rcases bE.mp h with q | q
   ·cases q;simp at e
   ·exact oW q
def JS(X:Cx)(scope:Scope):List (Str × Addr):=oE X.env scope.names []
theorem iK{X:Cx}{scope:Scope}(h:∀y∈scope.names,y.2=.free->∃c,X.env.cells.lookup y.1=some c){x:Str}{c:Addr}(e:(JS X scope).lookup x=some c):X.env.cells.lookup x=some c:=by
 rcases vG scope.names [] h _ (oX e) with a | a
 ·cases a
 ·exact a
theorem oF{X:Cx}{scope:Scope}(h:∀y∈scope.names,y.2=.free->∃c,X.env.cells.lookup y.1=some c){x:Str}(hx:(x,NameKind.free)∈scope.names){c:Addr}(e:X.env.cells.lookup x=some c):(JS X scope).lookup x=some c:=by
 obtain ⟨a,d⟩:=vH (env:=X.env) scope.names [] x hx;obtain ⟨i,b⟩:=oW d;have:=iK h b;rw [e] at this;cases this;exact b
def mS(X:Cx)(scope:Scope)(C:Addr)(fp:List Addr)(s₀:Shared)(H₀:Hp)(N':List Str):Cx where
 prog:=X.prog
 w:=X.w
 K:=X.K
 mg:=X.mg
 base:=X.base
 A:=X.A
 N:=N'
 s₀:=s₀
 H₀:=H₀
 env:=compEnvC scope (JS X scope) C X.env
 outer:=X.stack
 stack:=X.stack
 ex:=fp
 fn:=λ_=>false
 calm:=true
 pn:=[]
 xe:=λ_ _=>False
def slots(σ:St)(js:List Nat):St:=js.map λj=>(σ[j]?).getD none
def WH(X:Cx)(ifs:List Expr)(t:TT):Prop :=
 ∀(pins:List (Addr × Obj)) (s:Shared) (σ:St) (H:Hp) (Q:Bool->Hp->Prop),cO X pins σ H s->t σ H Q ->
  wpAny (model X.prog X.w) X.A (forIn ifs true λc r=>if r=true then do let ok <-isTrue c X.env (eval c X.env);pure (ForInStep.yield ok) else pure (ForInStep.yield r)) (TP X pins σ Q) X.xe s
def uF:TT:=λ_ H Q=>Q true H
theorem pts_nil{X:Cx}:WH X [] uF:=λa s σ H Q I h=>wpAny_tests_nil ⟨H,I,h⟩
theorem YJ{X:Cx}{c:Expr}{t:TT}(h:PT X c t):WH X [c] t:=λa s σ H Q I q=>wpAny_tests_one (h a s σ H Q I q)
def aDA(wi:TI)(js:List Nat)(tc:TT)(te:TE):TE:=λσ H Q=>wi σ H λJ H1=>∀D,H1 D=none->∃W:Nat->Nat->List V->Hp->Prop,(∃m,W 0 m [] (upd H1 D (.lst []))) /\
 ∀i m ys H2,W i m ys H2->H2 D=some (.lst ys)/\((J.stop i H2/\Q (.ref D) H2)\/(J.go i H2/\ys.length<sizeLine/\∀x H3,J.yld i H2 x H3 ->
  tc (some x::slots σ js) H3 λb H4=>if b=true then te (some x::slots σ js) H4 λy H5=>H5 D=some (.lst ys)/\∃m',m' < m/\W (i+1) m' (ys++[y]) (upd H5 D (.lst (ys++[y])))
   else H4 D=some (.lst ys)/\∃m',m' < m/\W (i+1) m' ys H4))
structure fM(X:Cx)(scope:Scope)(x:Str)(N':List Str)(js:List Nat):Prop where
 calm:X.calm=true
 free:∀y∈scope.names,y.2=.free->X.env.kindOf y.1=some .cell
 cell:∀y∈scope.names,y.2 ≠ .cell
 kind:scope.kind=.function
 names:∀y∈scope.names,y.2=.local->scope.names.lookup y.1=some .local
 own:scope.names.lookup x=some .local
 nofl:∀y,(y,NameKind.free)∈scope.names->scope.names.lookup y=some .local->False
 len:N'.length=js.length+1
 zero:N'[0]?=some x
 nd:N'.Nodup
 slot:∀(i:Nat) (j:Nat),js[i]?=some j->∃y,N'[i+1]?=some y/\X.N[j]?=some y/\(y,NameKind.free)∈scope.names
section
variable{X:Cx}{pins:List (Addr × Obj)}{σ:St}{H:Hp}{s:Shared}{scope:Scope}{x:Str}{N':List Str}{js:List Nat}{fp:List Addr}
theorem fM.cells(S:fM X scope x N' js)(ok:X.Ok):∀y∈scope.names,y.2=.free->∃c,X.env.cells.lookup y.1=some c:=λy b a=>ok.has _ (.inl (S.free y b a))
theorem iX{env:Env}:∀{names:List (Str × NameKind)}{y:Str}{k:NameKind},(names.map λ(n,k)=>if (k == NameKind.free&&env.scope.kind == .function&&env.kindOf n == some .cell) then (n,NameKind.cell) else (n,k)).lookup y=some k ->
  (k=.cell\/k=.free)->(∀z∈names,z.2 ≠ .cell)->(y,NameKind.free)∈names
 | [],_,_,h,_,_=>by cases h
 | (n,q)::r,y,k,h,hk,hc=>by
  rw [bF,List.lookup_cons] at h;have ih:=λh=>@iX env r y k h hk λz d=>hc z (aG _ d);by_cases hq:(q == NameKind.free&&env.scope.kind == .function&&env.kindOf n == some .cell)=true
  ·dsimp only at h;rw [if_pos hq] at h;have c:q=.free:=by
    rw [cM,cM] at hq;simpa using hq.1.1
   subst c;by_cases e:(y == n)=true
   ·have:y=n:=by simpa using e
    subst this;exact aQ
   ·have b:(y == n)=false:=by simpa using e
    dsimp only at h;rw [b] at h;exact aG _ (ih h)
  ·dsimp only at h;rw [if_neg hq] at h;by_cases e:(y == n)=true
   ·have:y=n:=by simpa using e
    subst this;dsimp only at h;rw [e] at h;have a:k=q:=by injection h with h;exact h.symm
    subst a;rcases hk with rfl | rfl
    ·exact absurd rfl (hc _ aQ)
    ·exact aQ
   ·have b:(y == n)=false:=by simpa using e
    dsimp only at h;rw [b] at h;exact aG _ (ih h)
theorem aCU(S:fM X scope x N' js)(I:cO X pins σ H s)(hf:∀b∈fp,kN X pins H b)(hb:∀b∈fp,b<s.heap.objs.size):(mS X scope s.heap.objs.size fp s H N').Ok where
 mod:=I.ok.mod
 kind:=S.kind
 glob:=I.ok.glob
 blt:=I.ok.blt
 above:=aE _
 inj:=λy z c n d=>I.ok.inj y z c (iK (S.cells I.ok) n) (iK (S.cells I.ok) d)
 has:=λy i=>by
  have j:(y,NameKind.free)∈scope.names:=by
   rcases i with i | i
   ·exact iX (env:=X.env) i (.inl rfl) S.cell
   ·exact iX (env:=X.env) i (.inr rfl) S.cell
  obtain ⟨c,l⟩:=S.cells I.ok _ j rfl;exact ⟨c,oF (S.cells I.ok) j l⟩
 cab:=λ_ _ h=>by cases h
 hd:=λ_=>I.ok.hd S.calm
 frames:=I.ok.frames
 stk:=.inl rfl
 exf:=λb a=>⟨λe=>by have:=hb b a;rw [e] at this;exact cH _ this,λy c h=>(hf b a).2.2.2.2.1 y c (iK (S.cells I.ok) h)⟩
 bs:=I.bs
 bsz:=aZ I.ok.bsz I.sz
 noex:=λb o e a=>by
  rcases (hf b a).2.2.2.1 with h | h
  ·exact I.ok.noex b o e h
  ·exact absurd (bH (bC e) (aZ I.ok.bsz h)) (cH _)
 exfs:=λb a m=>by
  have d:=I.stkSub b m;rcases bE.mp d with d | d
  ·exact (hf b a).2.1 d
  ·exact (hf b a).2.2.1 d
 funs:=I.stack
 frf:=I.stkFree
theorem AG{i j:Nat}(h:js[i]?=some j):(slots σ js)[i]?=some ((σ[j]?).getD none):=by
 unfold slots;rw [aI,h];rfl
theorem aAd{h':Heap}{tk:Nat}(S:fM X scope x N' js)(I:cO X pins σ H s)(hf:∀b∈fp,kN X pins H b)(hb:∀b∈fp,b<s.heap.objs.size)
  (hn:h'.Ns s.heap.objs.size (λ_=>none)) (hk:∀b o,s.heap.get? b=some o->h'.get? b=some o):cO (mS X scope s.heap.objs.size fp s H N') [] (none::slots σ js) H { s with heap:=h',toks:=tk } where
 ok:=aCU S I hf hb
 os:=rfl
 bare:=I.bare
 base:=Un.kept hk
 loc:=by
  refine ⟨_,hn,λi y v W P a=>?_⟩;cases i with
  | zero=>cases P
  | succ i =>
   have d:(slots σ js)[i]?=some (some v):=P;have L:i<js.length:=by
    have:=(aO.mp d).1;unfold slots at this
    rwa [aB] at this
   have R:js[i]?=some js[i]:=aC L;obtain ⟨z,ε,γ,G⟩:=S.slot i _ R;have N:z=y:=by
    have:N'[i+1]?=some y:=W;rw [ε] at this;cases this;rfl
   subst N;rw [AG R] at d;have β:σ[js[i]]?=some (some v):=by
    cases q:σ[js[i]]? with
    | none=>rw [q] at d;cases d
    | some o=>rw [q] at d;cases d;rfl
   have C:X.env.kindOf z=some .cell:=S.free _ G rfl;obtain ⟨m,ζ,U⟩:=I.loc;obtain ⟨u,T,Z⟩:=U _ z v γ β (.inr (.inl C));rcases Z with ⟨A,_⟩ | ⟨_,c,O,j⟩
   ·rw [C] at A;cases A
   ·refine ⟨u,T,.inr ⟨?_,c,oF (S.cells I.ok) G O,?_⟩⟩
    ·rcases a with a | a | a
     ·exfalso;have α:=oF (S.cells I.ok) G O;have D:=oX (l:=(relabel scope X.env).names) a;unfold relabel at D;obtain ⟨⟨n,k⟩,w,B⟩:=aT.mp D;dsimp only at B;by_cases hq:(k == NameKind.free&&X.env.scope.kind == .function&&X.env.kindOf n == some .cell)=true
      ·rw [if_pos hq] at B;cases B
      ·rw [if_neg hq] at B;cases B;have:=S.names _ w rfl;have M:=oW G;obtain ⟨η,M⟩:=M;dsimp only at this;rw [this] at M;have δ:(relabel scope X.env).names.lookup z=some .local:=lookup_relabel_local this;have J:scope.names.lookup z=some .local:=this;exact S.nofl z G J
     ·exact .inl a
     ·exact .inr a
    ·obtain ⟨o,e,r⟩:=j;exact ⟨o,hk _ _ e,r⟩
 cell:=λy c h=>by
  obtain ⟨v,o,e,r⟩:=I.cell y c (iK (S.cells I.ok) h);exact ⟨v,o,hk _ _ e,r⟩
 free:=I.hok.fresh (aE _)
 freeC:=λy c h=>I.freeC y c (iK (S.cells I.ok) h)
 pin:=λp Y=>by cases Y
 hok:=I.hok.kept hk
 len:=by
  show (slots σ js).length+1=N'.length;unfold slots;rw [aB,S.len]
theorem pG.but{P:Program}{w:World}{H:Hp}{h h':Heap}{C:Addr}(x:pG P w H h)(hC:H C=none)(k:∀b u,b≠C->h.get? b=some u->h'.get? b=some u):pG P w H h':=λa o e =>
 (x a o e).stay (λb u c q=>k b u (by
  rcases c with rfl | c
  ·exact cY e hC
  ·exact cY c hC) q) (λ_ q=>q) λ_ _ q=>q
theorem VE{H2:Hp}{σ':St}{s2:Shared}{h'':Heap}(S:fM X scope x N' js)(I:cO X pins σ H s)(hf:∀b∈fp,kN X pins H b)
  (J:cO (mS X scope s.heap.objs.size fp s H N') [] σ' H2 s2) (hs:Heap.SameBut s.heap.objs.size s2.heap h''):cO X pins σ H2 { s2 with heap:=h'' }:=by
 have h:H2 s.heap.objs.size=none:=J.free;have ne:∀{b:Addr} {o:Obj},s.heap.get? b=some o->b≠s.heap.objs.size:=λe q=>by
  have:=bC e;rw [q] at this;exact cH _ this
 refine I.call' (s':={ s2 with heap:=h'' }) (ch:=fp) (by rw [show ({ s2 with heap:=h'' }:Shared).os=s2.os from rfl];exact J.os) ?_ (J.hok.but h λb u a q=>hs.extBut b u a q) J.bare λb a=>⟨(hf b a).2.2.2.1,(hf b a).2.1,(hf b a).2.2.2.2.1,(hf b a).2.2.2.2.2⟩;have U:=J.base;exact {
  keep:=λb o e n d c=>hs.extBut b o (ne e) (U.keep b o e n d c)
  slot:=λb o e n d c=>by
   obtain ⟨i,q⟩:=U.slot b o e n d c;exact ⟨i,hs.extBut b _ (ne e) q⟩
  free:=U.free
  there:=λb o e c=>by
   obtain ⟨j,q⟩:=U.there b o e c;exact ⟨j,hs.extBut b _ (ne e) q⟩
  tups:=U.tups
  frzs:=U.frzs
  tbls:=U.tbls }
end
abbrev WO:Value->Shared->Prop:=λ_ _=>False
theorem tQ{prog:Program}{w:World}{A:Around}{R:Result->Shared->Prop}{s:Shared}{elt target iter:Expr}{ifs:List Expr}{scope:Scope}{pos:Pos}{it acc:Value}{env:Env}(I:Nat->Shared->Prop)
  (turn:∀n s,I n s->wpAny (model prog w) A (pyNext it) (λr s₁=>match r with
   | none=>R (.ok .next) s₁
   | some v=>wpAny (model prog w) A (letOwnedTupleGo target it v) (λ_ s₁'=>wpAny (model prog w) A (assign target env v) (λ_ s₂ =>
     wpAny (model prog w) A (forIn ifs true λc r=>if r=true then do let ok <-isTrue c env (eval c env);pure (ForInStep.yield ok) else pure (ForInStep.yield r)) (λok s₃ =>
      if ok=true then wpAny (model prog w) A (eval elt env) (λx s₄=>wpAny (model prog w) A (call (.builtin "list.append") [acc,x]) (λ_ s₅=>∃m,m<n/\I m s₅) WO s₄) WO s₃
      else ∃m,m<n/\I m s₃) WO s₂) WO s₁') WO s₁) WO s)
  (n:Nat) (h:I n s):codeAny (model prog w) A (.compLoop (.ListComp elt [⟨target,iter,ifs,0⟩] scope pos) 0 it acc env) R s:=by
 refine codeAny_loop rfl I (λn s i=>?_) n h;show wpAny _ A ((compTurn (.ListComp elt [⟨target,iter,ifs,0⟩] scope pos) 0 it acc env).onRaise (λx=>do noteFrame x env;theTreesLotGoes x)) _ _ s;refine wpAny_noted ?_;rw [compTurn_list];refine wpAny_bind (wpAny_standAt (wpAny_bind (wpAny_mono (turn n s i) (λr s₁ e=>?_) λ_ _ a=>a.elim)));cases r with
 | none=>exact wpAny_pure e
 | some v =>
  refine wpAny_bind (wpAny_mono e (λ_ s₁' b=>?_) λ_ _ a=>a.elim);refine wpAny_bind (wpAny_mono b (λ_ s₂ o=>wpAny_bind (wpAny_mono o (λok s₃ d=>?_) λ_ _ a=>a.elim)) λ_ _ a=>a.elim);cases ok with
  | false=>exact wpAny_pure ⟨rfl,d⟩
  | true =>
   exact wpAny_bind (wpAny_bind (wpAny_mono d (λx s₄ l=>wpAny_bind (wpAny_mono l (λ_ s₅ j=>wpAny_pure (wpAny_pure ⟨rfl,j⟩)) λ_ _ a=>a.elim)) λ_ _ a=>a.elim))
section
variable{X:Cx}{pins:List (Addr × Obj)}{σ:St}{H:Hp}{s:Shared}{scope:Scope}{x:Str}{N':List Str}{js:List Nat}{fp:List Addr}{elt iter:Expr}{px pos:Pos}{ifs:List Expr}{tc:TT}{te:TE}
theorem JP{J:It}{it:Addr}{tn:Nat->Heap->Prop}{RR:Value->Addr->Result->Shared->Prop}{E:Value->Shared->Prop}{Q:VK}
  (S:fM X scope x N' js) (I:cO X pins σ H s) (T:EM X.prog X.w X.K (.Name x px) J fp it tn) (h0:tn 0 s.heap) (hf:∀b∈fp,kN X pins H b)
  (ht:∀C fp s₀ H₀,WH (mS X scope C fp s₀ H₀ N') ifs tc) (he:∀C fp s₀ H₀,PE (mS X scope C fp s₀ H₀ N') elt te)
  (R:∀D,H D=none->∃W:Nat->Nat->List V->Hp->Prop,(∃m,W 0 m [] (upd H D (.lst []))) /\
   ∀i m ys H2,W i m ys H2->H2 D=some (.lst ys)/\((J.stop i H2/\Q (.ref D) H2)\/(J.go i H2/\ys.length<sizeLine/\∀x H3,J.yld i H2 x H3 ->
    tc (some x::slots σ js) H3 λb H4=>if b=true then te (some x::slots σ js) H4 λy H5=>H5 D=some (.lst ys)/\∃m',m' < m/\W (i+1) m' (ys++[y]) (upd H5 D (.lst (ys++[y])))
     else H4 D=some (.lst ys)/\∃m',m' < m/\W (i+1) m' ys H4)))
  (hRR:∀(D:Addr) (H3:Hp) (s3:Shared) (σ':St) (H':Hp) (s':Shared),cO X pins σ H3 s3->(∀b∈fp,kN X pins H3 b)->cO (mS X scope s3.heap.objs.size fp s3 H3 N') [] σ' H' s'->Q (.ref D) H'->RR (.ref D) s3.heap.objs.size (.ok .next) s') :
  wpAny (model X.prog X.w) X.A (newList []) (λacc s₃=>wpAny (model X.prog X.w) X.A (newFunctionEnv scope X.env.globals (JS X scope) [] X.env.qual none .none (some X.env)) (λcenv s₄ =>
   codeAny (model X.prog X.w) X.A (.compStart (.ListComp elt [⟨.Name x px,iter,ifs,0⟩] scope pos) 0 (.ref it) acc { cenv with scope:=relabel scope X.env }) (RR acc cenv.locals) s₄) E s₃) E s:=by
 have P:∀b∈fp,b<s.heap.objs.size:=λb P=>by
  obtain ⟨o,e,_⟩:=T.obj 0 _ h0 b P;exact bC e
 refine wpAny_newObj_type (wpAny_newFunctionEnv S.cell (by intro y ζ;simp at ζ) (λO L M=>?_) S.kind);have δ:H s.heap.objs.size=none:=I.hok.fresh (aE _);obtain ⟨W,⟨m0,ι⟩,φ⟩:=R _ δ;have I3:cO X pins σ (upd H s.heap.objs.size (.lst [])) { s with heap:=s.heap.push { cls:=.type "list",dict:=none,data:=.seq ([]:List Value).toArray } }:=I.lnew (its:=[]) (ys:=[]) (t':=s.toks) .nil (cC _);have j:∀b∈fp,kN X pins (upd H s.heap.objs.size (.lst [])) b:=λb a =>
  ⟨by rw [eG (λe=>by have:=P b a;rw [e] at this;exact cH _ this)];exact (hf b a).1,(hf b a).2⟩
 have β:∀b∈fp,b<(s.heap.push { cls:=.type "list",dict:=none,data:=.seq ([]:List Value).toArray }).objs.size:=λb a=>by
  rw [iU];exact Nat.lt_succ_of_lt (P b a)
 have c:∀b o,(s.heap.push { cls:=.type "list",dict:=none,data:=.seq ([]:List Value).toArray }).get? b=some o->O.get? b=some o:=λb o e =>
  M.extBut b o (λq=>by have:=bC e;rw [q] at this;exact cH _ this) (aD _ e)
 have J4:=aAd (h':=O) (tk:=s.toks+([]:List (Str × Value)).length) S I3 j β L c;have υ:tn 0 O:=T.keep 0 _ _ h0 λb a o e=>c b o (aD _ e);have h:codeAny (model X.prog X.w) X.A (.compLoop (.ListComp elt [⟨.Name x px,iter,ifs,0⟩] scope pos) 0 (.ref it) (.ref s.heap.objs.size) (compEnvC scope (JS X scope) (s.heap.push { cls:=.type "list",dict:=none,data:=.seq ([]:List Value).toArray }).objs.size X.env))
   (RR (.ref s.heap.objs.size) (s.heap.push { cls:=.type "list",dict:=none,data:=.seq ([]:List Value).toArray }).objs.size) { s with heap:=O,toks:=s.toks+([]:List (Str × Value)).length }:=by
  refine tQ (λn s'=>∃(i:Nat) (ys:List V) (H2:Hp) (o:Option V),cO (mS X scope _ fp _ _ N') [] (o::slots σ js) H2 s'/\tn i s'.heap/\(∀b∈fp,H2 b=none)/\W i n ys H2) ?_ m0 ⟨0,[],_,none,J4,υ,λb a=>(j b a).1,ι⟩;rintro n s' ⟨i,ys,H2,o,J2,ρ,f2,w2⟩;obtain ⟨hD,B⟩:=φ i n ys H2 w2;have ο:∀b∈fp,kN (mS X scope (s.heap.push { cls:=.type "list",dict:=none,data:=.seq ([]:List Value).toArray }).objs.size fp { s with heap:=s.heap.push { cls:=.type "list",dict:=none,data:=.seq ([]:List Value).toArray } } (upd H s.heap.objs.size (.lst [])) N') [] H2 b:=λb a =>
   ⟨f2 b a,(J2.ok.exf b a).1,J2.ok.exfs b a,.inl a,(J2.ok.exf b a).2,λp μ=>by cases μ⟩
  rcases B with ⟨z,ω⟩ | ⟨ν,ψ,G⟩
  ·refine wpAny_mono (T.done (mS X scope _ fp _ _ N') rfl rfl rfl rfl i [] s' _ H2 WO J2 ο ρ z) (λr s1 ⟨κ,J5⟩=>?_) λ_ _ f=>f;subst κ;exact hRR _ _ _ _ _ _ I3 j J5 ω
  ·refine wpAny_mono (T.item (mS X scope _ fp _ _ N') rfl rfl rfl rfl i [] s' _ H2 WO J2 ο ρ ν) (λr s1 ⟨u,κ,ξ⟩=>?_) λ_ _ f=>f;subst κ;refine wpAny_mono ξ (λ_ s2 ⟨v,H3,J3,rv,ζ,Y,f3⟩=>?_) λ_ _ f=>f;have θ:∀b∈fp,kN (mS X scope (s.heap.push { cls:=.type "list",dict:=none,data:=.seq ([]:List Value).toArray }).objs.size fp { s with heap:=s.heap.push { cls:=.type "list",dict:=none,data:=.seq ([]:List Value).toArray } } (upd H s.heap.objs.size (.lst [])) N') [] H3 b:=λb a =>
    ⟨f3 b a,(J3.ok.exf b a).1,J3.ok.exfs b a,.inl a,(J3.ok.exf b a).2,λp μ=>by cases μ⟩
   have P3:=J3.pinned θ (T.obj (i+1) _ Y);have d:∀{σ':St} {Hx:Hp} {sx:Shared},cO (mS X scope (s.heap.push { cls:=.type "list",dict:=none,data:=.seq ([]:List Value).toArray }).objs.size fp { s with heap:=s.heap.push { cls:=.type "list",dict:=none,data:=.seq ([]:List Value).toArray } } (upd H s.heap.objs.size (.lst [])) N') ([]++uT fp s2.heap) σ' Hx sx->tn (i+1) sx.heap/\∀b∈fp,Hx b=none:=λτ =>
    ⟨T.keep (i+1) _ _ Y λb a η e=>(τ.pin (b,η) (bW _ (bW _ (kJ a e)))).1,λb a=>by
     obtain ⟨η,e,_⟩:=T.obj (i+1) _ Y b a;exact (τ.pin (b,η) (bW _ (bW _ (kJ a e)))).2.1⟩
   refine wpAny_assign_Name (pO P3 (i:=0) (x:=x) (v:=v) ?nd ?hi ?ξ rv (λχ J5=>?_) ?hfn)
   case nd=>exact S.nd
   case hi=>exact S.zero
   case ξ=>exact .inl (lookup_relabel_local S.own)
   case hfn=>exact .inr (lookup_relabel_local S.own)
   have J5':cO _ _ (some v::slots σ js) H3 χ:=J5;refine wpAny_mono (ht _ _ _ _ _ _ _ _ _ J5' (G v H3 ζ)) (λok s6 ⟨H6,J6,N⟩=>?_) λ_ _ f=>f;dsimp only at N;by_cases hok:ok=true
   ·rw [if_pos hok] at N ⊢;refine wpAny_mono (he _ _ _ _ _ _ _ _ _ J6 N) (λy s7 ⟨γ,H7,J7,r7,ε,m',l,Z⟩=>?_) λ_ _ f=>f;refine wpAny_mono (uW (X:=mS X scope _ fp _ _ N') _ _ _ _ (.ref s.heap.objs.size) [γ] (.ref s.heap.objs.size) [y] (λ_ H8=>H8=upd H7 s.heap.objs.size (.lst (ys++[γ]))) J7 rfl (.cons r7 .nil) ⟨_,_,_,rfl,rfl,ε,ψ,rfl⟩) (λ_ s8 ⟨_,H8,J8,_,e8⟩=>?_) λ_ _ f=>f;subst e8;obtain ⟨α,U⟩:=d J8;exact ⟨m',l,i+1,ys++[γ],_,some v,J8.unpinned,α,U,Z⟩
   ·rw [if_neg hok] at N ⊢;obtain ⟨_,m',l,Z⟩:=N;obtain ⟨α,U⟩:=d J6;exact ⟨m',l,i+1,ys,_,some v,J6.unpinned,α,U,Z⟩
 refine codeAny_compStart_list h (T.self X.A 0 _ _ _ υ h)
theorem YV{wi:TI}(S:fM X scope x N' js)(hi:PI X (.Name x px) iter wi)(ht:∀C fp s₀ H₀,WH (mS X scope C fp s₀ H₀ N') ifs tc)(he:∀C fp s₀ H₀,PE (mS X scope C fp s₀ H₀ N') elt te)
  (hs:∀x,foldedSetIterable iter X.env x=pure x:=by intro _;rfl):PE X (.ListComp elt [⟨.Name x px,iter,ifs,0⟩] scope pos) (aDA wi js tc te):=by
 intro a s σ H Q I h;rw [eval_ListComp];refine wpAny_comprehension_free (use:=none) rfl hs (nC (S.cells I.ok)) S.kind S.names (wpAny_mono (hi a s σ H _ I h) (λv y n=>?_) λ_ _ e=>e);refine wpAny_mono n (λl A ⟨w,fp,r,J,H2,e,I2,T,j,i,R⟩=>?_) λ_ _ e=>e;subst e;refine JP S I2 T j i ht he R ?_;intro D H3 z o H' u I3 b J3 q;obtain ⟨m,d,_⟩:=J3.loc;exact ⟨m,d,λp c=>⟨.ref D,H',VE S I3 b J3 c,rfl,q⟩⟩
end
structure QC(X:Cx)(ifs:List Expr)(t:TT):Prop where p:WH X ifs t
def xH(t:TE):TE:=λσ H Q=>∃Q':VK,t σ H Q'/\∀v H1,Q' v H1->Q v H1
theorem PE.mono{X:Cx}{e:Expr}{t:TE}(h:PE X e t):PE X e (xH t):=λa s σ H Q I ⟨Q',d,c⟩ =>
 thn (h a s σ H Q' I d) λb i ⟨v,H',I',r,q⟩=>⟨v,H',I',r,c _ _ q⟩
theorem WH.mono{X:Cx}{es:List Expr}{t:TT}(h:WH X es t):WH X es (rR t):=λa s σ H Q I ⟨Q',d,c⟩ =>
 thn (h a s σ H Q' I d) λb e ⟨H',I',q⟩=>⟨H',I',c _ _ q⟩
@[irreducible] def oK(J:It)(σ:St)(js:List Nat)(tc:TT)(te:TE)(H1:Hp)(Q:VK):Prop:=∀D,H1 D=none->∃W:Nat->Nat->List V->Hp->Prop,(∃m,W 0 m [] (upd H1 D (.lst []))) /\
 ∀i m ys H2,W i m ys H2->H2 D=some (.lst ys)/\((J.stop i H2/\Q (.ref D) H2)\/(J.go i H2/\ys.length<sizeLine/\∀x H3,J.yld i H2 x H3 ->
  rR tc (some x::slots σ js) H3 λb H4=>if b=true then xH te (some x::slots σ js) H4 λy H5=>H5 D=some (.lst ys)/\∃m',m' < m/\W (i+1) m' (ys++[y]) (upd H5 D (.lst (ys++[y])))
   else H4 D=some (.lst ys)/\∃m',m' < m/\W (i+1) m' ys H4))
def RS(wi:TI)(js:List Nat)(tc:TT)(te:TE):TE:=λσ H Q=>wi σ H λJ H1=>oK J σ js tc te H1 Q
section
variable{X:Cx}{scope:Scope}{x y:Str}{N':List Str}{js:List Nat}{elt iter c:Expr}{px py pos spos:Pos}{ifs:List Expr}{tc:TT}{te:TE}{wi:TI}{i:Nat}
theorem eZ:QC X [] uF:=⟨pts_nil⟩
theorem sF{t:TT}(h:JY X c t):QC X [c] t:=⟨YJ h.p⟩
theorem gX(S:fM X scope x N' js)(hi:KB X (.Name x px) iter wi)(ht:∀C fp s₀ H₀,QC (mS X scope C fp s₀ H₀ N') ifs tc)(he:∀C fp s₀ H₀,gE (mS X scope C fp s₀ H₀ N') elt te)
  (hs:∀x,foldedSetIterable iter X.env x=pure x:=by intro _;rfl):gE X (.ListComp elt [⟨.Name x px,iter,ifs,0⟩] scope pos) (RS wi js tc te) :=
 ⟨by unfold RS oK;exact YV S hi.p (λC fp s₀ H₀=>(ht C fp s₀ H₀).p.mono) (λC fp s₀ H₀=>(he C fp s₀ H₀).p.mono) hs⟩
end
def aA5(psc scope:Scope)(N:List Str)(x:Str)(N':List Str)(js:List Nat):Bool :=
 (scope.names.all λy=>!(y.2 == .free) || psc.names.lookup y.1 == some .cell)&&(scope.names.all λy=>!(y.2 == .cell))&&scope.kind == .function &&
 (scope.names.all λy=>!(y.2 == .local) || scope.names.lookup y.1 == some .local)&&scope.names.lookup x == some .local &&
 (scope.names.all λy=>!(y.2 == .free) || !(scope.names.lookup y.1 == some .local))&&N'.length == js.length+1&&N'[0]? == some x&&decide N'.Nodup &&
 ((List.range js.length).all λi=>match js[i]?,N'[i+1]? with
  | some j,some y=>N[j]? == some y&&scope.names.contains (y,NameKind.free)
  | _,_=>false)
theorem fM.of{X:Cx}{psc scope:Scope}{N:List Str}{x:Str}{N':List Str}{js:List Nat}(h:aA5 psc scope N x N' js=true)(hX:X.env.scope=psc)(hN:X.N=N)(hc:X.calm=true):fM X scope x N' js:=by
 unfold aA5 at h;simp only [cM] at h;obtain ⟨⟨⟨⟨⟨⟨⟨⟨⟨n,c⟩,u⟩,d⟩,r⟩,l⟩,s⟩,p⟩,o⟩,b⟩:=h;rw [List.all_eq_true] at n c d l b;refine ⟨hc,λy a e=>?_,λy a e=>?_,by simpa using u,λy a e=>?_,by simpa using r,λy a e=>?_,by simpa using s,by simpa using p,of_decide_eq_true o,λi j m=>?_⟩
 ·have:=n y a;rw [e] at this;show X.env.scope.names.lookup y.1=_;rw [hX];simpa using this
 ·have:=c y a;rw [e] at this;simp at this
 ·have:=d y a;rw [e] at this;simpa using this
 ·have:=l _ a;rw [e] at this;simp at this
 ·have w:i<js.length:=(aO.mp m).1;have:=b i (bT.mpr w);rw [m] at this;cases q:N'[i+1]? with
  | none=>rw [q] at this;simp at this
  | some y =>
   rw [q] at this;simp only [cM] at this;exact ⟨y,rfl,by rw [hN];simpa using this.1,List.contains_iff_mem.mp this.2⟩
section
variable{js:List Nat}{te:TE}{tc:TT}{σ:St}{H:Hp}{Q:VK}
theorem HF{J:It}{n:Nat}(src:Nat->V->Prop)(hz:n<=100000)(Pv:Addr->Nat->List V->Hp->Prop)
  (h0:∀D H1,H D=none->H1 D=some (.lst [])->bA H H1->Pv D 0 [] H1)
  (hg:∀D i ys H',i<n->H' D=some (.lst ys)->Pv D i ys H'->J.go i H'/\∀x H3,J.yld i H' x H3->H3=H'/\src i x)
  (hst:∀D ys H',H' D=some (.lst ys)->Pv D n ys H'->J.stop n H')
  (hs:∀D i x ys H',src i x->i<n->ys.length=i->H' D=some (.lst ys)->Pv D i ys H'->te (some x::slots σ js) H' λy H5=>H5 D=some (.lst ys)/\∀H6,H6 D=some (.lst (ys++[y]))->aU D H5 H6->Pv D (i+1) (ys++[y]) H6)
  (hd:∀D ys H',ys.length=n->H D=none->H' D=some (.lst ys)->Pv D n ys H'->Q (.ref D) H') :
  oK J σ js uF te H Q:=by
 unfold oK;intro D hD;refine ⟨λi m ys H'=>m=n-i/\i<=n/\ys.length=i/\H' D=some (.lst ys)/\Pv D i ys H',⟨n,by simp,cC _,rfl,bL,h0 D _ hD bL (bA.upd hD)⟩,?_⟩;rintro i m ys H2 ⟨rfl,r,c,a,p⟩;refine ⟨a,?_⟩;by_cases hlt:i<n
 ·obtain ⟨j,l⟩:=hg D i ys H2 hlt a p;refine .inr ⟨j,aY (m:=100000) Oo Dd,λx H3 d=>?_⟩;obtain ⟨rfl,o⟩:=l x H3 d;refine ⟨λb H4=>b=true/\H4=H3,⟨rfl,rfl⟩,?_⟩;rintro b H4 ⟨rfl,rfl⟩;rw [if_pos rfl];refine ⟨_,hs D i x ys H4 o hlt c a p,?_⟩;rintro v H5 ⟨h,k⟩;exact ⟨h,n-(i+1),Oo,rfl,hlt,by rw [aV,c];rfl,bL,k _ bL aU.self⟩
 ·have e:i=n:=Oo;subst e;exact .inl ⟨hst D ys H2 a p,hd D ys H2 c hD a p⟩
end
@[irreducible] def SU(K:KFr):List V->Hp->VK->Prop:=λxs H Q=>∃(p:Addr) (ns:List Int),xs=[.ref p]/\fY K H p (ns.map V.int)/\Q (.int ns.sum) H
@[irreducible] def YE(b:Bool):R2:=λx y H Q=>∃d d',cE H d x/\cE H d' y/\SeqAt.shaped d=true/\SeqAt.shaped d'=true/\Q (.bl (b == PyData.eqv d d')) H
section
variable{X:Cx}
theorem VR(hc:X.calm=true):jO X (.builtin "sum") (SU X.K):=by
 unfold SU;intro d s σ H y A Q I r h;obtain ⟨p,j,rfl,m,q⟩:=h;obtain ⟨u,rfl,i⟩:=mT r;cases i;obtain ⟨a,l,pl,B⟩:=I.list m;have c:=yN l;obtain ⟨b,e⟩:=c.allInts.items;rw [e] at pl;refine sum_intListG (I.ok.hd hc) pl.isList λx z w n=>⟨.int j.sum,H,I.kept n,⟨w,?_⟩,q⟩;rw [preSum_eq,List.take_of_length_le (by simp)];rw [<-c.numsOf];have o:a=(intItems b).toList:=by rw [<-e]
 rw [o,nums_intItems]
theorem rsI{K:KFr}{H:Hp}{p:Addr}{ns:List Int}{Q:VK}(h:fY K H p (ns.map V.int))(q:Q (.int ns.sum) H):SU K [.ref p] H Q:=by unfold SU;exact ⟨p,ns,rfl,h,q⟩
theorem aCl(hu:X.A.units+64<cLine):rH X (compareOp .NotEq) (YE false):=by
 unfold YE;intro a s σ H x y v u Q I c m h;obtain ⟨d,o,n,l,i,j,q⟩:=h;obtain ⟨p,b⟩:=n.reads I c;obtain ⟨bs,e⟩:=l.reads I m;exact SeqAt.compareNe_shaped b e i j hu ⟨.bl _,H,I,by show _=_;simp,q⟩
theorem reD{b:Bool}{x y:V}{d d':PyData}{H:Hp}{Q:VK}(h1:cE H d x)(h2:cE H d' y)(s1:SeqAt.shaped d=true)(s2:SeqAt.shaped d'=true)(q:Q (.bl (b == PyData.eqv d d')) H):YE b x y H Q:=by
 unfold YE;exact ⟨d,d',h1,h2,s1,s2,q⟩
end
mutual
def eP:PyData->Bool
 | .list _=>false
 | .dict _=>false
 | .tuple ds=>dU ds
 | _=>true
def dU:List PyData->Bool
 | []=>true
 | d::ds=>eP d&&dU ds
end
def dL(H H':Hp):Prop:=∀b xs,H b=some (.tup xs)->H' b=some (.tup xs)
theorem dL.trans{H H1 H2:Hp}(a:dL H H1)(b:dL H1 H2):dL H H2:=λc o h=>b c o (a c o h)
theorem bA.t{H H':Hp}(s:bA H H'):dL H H':=λb a h=>s _ _ h
theorem aU.t{H H':Hp}{p:Addr}(s:aU p H H'){xs:List V}(hp:H p=some (.lst xs)):dL H H':=λb a h=>s.at (LS h hp (by intro z;cases z)) h
mutual
theorem cE.flat{H H':Hp}(s:dL H H'):∀{d:PyData}{v:V},eP d=true->cE H d v->cE H' d v
 | .none,_,_,h=>h
 | .bool _,_,_,h=>h
 | .int _,_,_,h=>h
 | .str _,_,_,h=>h
 | .list _,_,f,_=>by simp [eP] at f
 | .dict _,_,f,_=>by simp [eP] at f
 | .tuple ds,_,f,h=>by
  unfold cE at h ⊢;obtain ⟨a,ys,rfl,h1,h2⟩:=h;exact ⟨a,ys,rfl,s _ _ h1,bG.flat s (by simpa [eP] using f) h2⟩
theorem bG.flat{H H':Hp}(s:dL H H'):∀{ds:List PyData}{vs:List V},dU ds=true->bG H ds vs->bG H' ds vs
 | [],_,_,h=>h
 | d::ds,_,f,h=>by
  unfold bG at h ⊢;obtain ⟨x,ys,rfl,h1,h2⟩:=h;simp only [dU,cM] at f;exact ⟨x,ys,rfl,cE.flat s f.1 h1,bG.flat s f.2 h2⟩
end
theorem bG.get{H:Hp}:∀{ds:List PyData}{vs:List V}{i:Nat}{v:V},bG H ds vs->vs[i]?=some v->∃d,ds[i]?=some d/\cE H d v
 | [],_,i,v,h,e=>by cases (show _=[] from h);simp at e
 | d::ds,_,i,v,h,e=>by
  unfold bG at h;obtain ⟨x,ys,rfl,h1,h2⟩:=h;cases i with
  | zero=>simp at e;subst e;exact ⟨d,rfl,h1⟩
  | succ i =>
   rw [List.getElem?_cons_succ] at e ⊢;exact bG.get h2 e
theorem bG.get'{H:Hp}:∀{ds:List PyData}{vs:List V}{i:Nat}{d:PyData},bG H ds vs->ds[i]?=some d->∃v,vs[i]?=some v/\cE H d v
 | [],_,i,d,h,e=>by simp at e
 | d' :: ds,_,i,d,h,e=>by
  unfold bG at h;obtain ⟨x,ys,rfl,h1,h2⟩:=h;cases i with
  | zero=>simp at e;subst e;exact ⟨x,rfl,h1⟩
  | succ i =>
   rw [List.getElem?_cons_succ] at e ⊢;exact bG.get' h2 e
theorem bG.snoc{H:Hp}{ds:List PyData}{vs:List V}{d:PyData}{v:V}(h:bG H ds vs)(r:cE H d v):bG H (ds++[d]) (vs++[v]):=bG.append (bG.cons r bG.nil) h
theorem yZ{i:Int}{n:Nat}(h:i.natAbs<2^n):bits i<=n:=PySem.intBits_le_iff.mpr h
theorem tE{i j:Int}{n m:Nat}(h1:i.natAbs<2^n)(h2:j.natAbs<2^m)(hn:n<=1048576:=by decide)(hm:m<=1048576:=by decide):IntMulOk i j:=by
 refine IntMulOk.of_bits ?_ ?_
 ·exact aZ (yZ h1) hn
 ·exact aZ (yZ h2) hm
mutual
def WL:PyData->Nat
 | .none=>4
 | .bool _=>5
 | .int _=>1921
 | .str x=>(reprText x).length
 | .list xs=>CT xs+4
 | .tuple xs=>CT xs+4
 | .dict _=>0
def CT:List PyData->Nat
 | []=>0
 | x::xs=>WL x+2+CT xs
end
theorem vQ:∀(ts:List Str) (k:Nat) (acc:Str),(textFrom k acc ts).length<=acc.length+piled ts
 | [],k,acc=>by show acc.length<=_;omega
 | t::r,k,acc=>by
  have h:=vQ r (k+1) (acc++(if k > 0 then ", " else "" : String)++t);have e:(acc++(if k > 0 then ", " else "" : String)++t).length=acc.length+(if k > 0 then 2 else 0)+t.length:=by
   rw [strLen_append,strLen_append];split <;> rfl
  rw [e] at h;rw [piled_cons];show (textFrom (k+1) _ r).length<=_;refine aZ h ?_;split <;> omega
theorem CD(ts:List Str):(tupleText ts).length<=piled ts+4:=by
 unfold tupleText;rw [strLen_append,strLen_append];have a:(("(" : Str)).length=1:=rfl;have b:((if ts.length == 1 then ",)" else ")" : String):Str).length<=2:=by split <;> decide
 rw [a];by_cases h:ts=[]
 ·subst h;have:(Str.join ", " []).length=0:=rfl;omega
 ·have:=join_length_add ts h;omega
theorem GH(ts:List Str):(listText ts).length<=piled ts+4:=by
 unfold listText;rw [strLen_append];have:=vQ ts 0 "[";have a:(("[" : String):Str).length=1:=rfl;have b:(("]" : String):Str).length=1:=rfl;rw [a] at this;rw [b];omega
mutual
theorem FQ:∀d:PyData,d.showable=true->d.hasDict=false->d.shown.length<=WL d
 | .none,_,_=>by simp only [PyData.shown,WL];decide
 | .bool b,_,_=>by cases b <;> (simp only [PyData.shown,WL];decide)
 | .int i,h,_=>by
  simp only [PyData.shown,WL];exact int_text_len_1921 (by simpa [PyData.showable] using h)
 | .str x,_,_=>by simp only [PyData.shown,WL];exact aE _
 | .list xs,h,h2=>by
  simp only [PyData.shown,WL];have:=qB xs (by simpa [PyData.showable] using h) (by simpa [PyData.hasDict] using h2);have:=GH (PyData.shownAll xs);omega
 | .tuple xs,h,h2=>by
  simp only [PyData.shown,WL];have:=qB xs (by simpa [PyData.showable] using h) (by simpa [PyData.hasDict] using h2);have:=CD (PyData.shownAll xs);omega
 | .dict _,_,h=>by simp [PyData.hasDict] at h
theorem qB:∀ds:List PyData,PyData.showableAll ds=true->PyData.hasDictAll ds=false->piled (PyData.shownAll ds)<=CT ds
 | [],_,_=>by simp only [PyData.shownAll,CT];exact aE _
 | d::ds,h,h2=>by
  simp only [PyData.showableAll,cM] at h;simp only [PyData.hasDictAll,Bool.or_eq_false_iff] at h2;have:=FQ d h.1 h2.1;have:=qB ds h.2 h2.2;simp only [PyData.shownAll,CT,piled_cons];omega
end
theorem XL{i:Int}{n:Nat}(h:i.natAbs<2^n)(hn:n<=1920:=by decide):PyData.showable (.int i)=true:=by
 simp only [PyData.showable];refine cG (wA (aZ (yZ h) hn) Dd)
section
variable{X:Cx}(K:KFr)
theorem fK(h:X.K=K:=by rfl):WI X (rIx K):=by subst h;exact bK
theorem NC(h:X.K=K:=by rfl):jO X (.builtin "len") (IZ K):=by subst h;exact jI
theorem NA(hc:X.calm=true)(h:X.K=K:=by rfl):jO X (.builtin "sum") (SU K):=by subst h;exact VR hc
theorem aCo(h:X.K=K:=by rfl):rH X (compareOp .In) (rIn K false):=by subst h;exact AM
theorem OR(h:X.K=K:=by rfl):rH X (compareOp .NotIn) (rIn K true):=by subst h;exact DG
end
end L2
namespace L2
open PySem
def oH(b:Bool)(h:Heap)(i l:Addr)(k:Nat):Prop:=∃o,h.get? i=some o/\o.cls=.type (bif b then "tuple_iterator" else "list_iterator")/\o.data=.fields #[.ref l,.int k 0]
def kL(b:Bool)(h:Heap)(l:Addr)(xs:Array Value):Prop:=∃o,h.get? l=some o/\o.cls=.type (bif b then "tuple" else "list")/\∃n,o.data=.seq xs n
theorem oH.at{b:Bool}{h h':Heap}{i l:Addr}{k:Nat}(x:oH b h i l k)(f:∀o,h.get? i=some o->h'.get? i=some o):oH b h' i l k:=let ⟨o,ho,r⟩:=x;⟨o,f o ho,r⟩
theorem kL.at{b:Bool}{h h':Heap}{l:Addr}{xs:Array Value}(x:kL b h l xs)(f:∀o,h.get? l=some o->h'.get? l=some o):kL b h' l xs:=let ⟨o,ho,r⟩:=x;⟨o,f o ho,r⟩
section
variable{prog:Program}{w:World}{A:Around}{E:Value->Shared->Prop}{s:Shared}
theorem wT{b:Bool}{it l:Addr}{i:Nat}{items:Array Value}{x:Value}{Q:Value->Shared->Prop}(hit:oH b s.heap it l i)(hl:kL b s.heap l items)(hx:items[i]?=some x)
  (hQ:∀h',oH b h' it l (i+1)->Heap.SameBut it s.heap h'->Q x { s with heap:=h' }):wpAny (model prog w) A (Builtin.SmallTypes.nextOf (.ref it)) Q E s:=by
 cases b with
 | false=>exact wpAny_nextOf_list_item hit hl hx hQ
 | true =>
  have e:s.heap.IsTupleIter it l i:=hit;obtain ⟨o,a,h,hd⟩:=id e;obtain ⟨m,c,_,j,d⟩:=hl;unfold Builtin.SmallTypes.nextOf;refine wpAny_bind (wpAny_callSpecial?_slot (name:=Str.ofString "__next__") e.typeIs F.slot_tuple_iterator_next (wpAny_call_entry F.slot_tuple_iterator_next e.typeIs F.entry_tuple_iterator_next ?_ (F.args_tuple_iterator_next_1 _)));show wpAny _ _ (field (.ref it) 0 >>= _) _ _ s;refine wpAny_bind (wpAny_field a hd (x:=.ref l) rfl ?_);show wpAny _ _ (if (Value.ref l == Value.none)=true then _ else _) _ _ s;rw [if_neg (show ¬((Value.ref l == Value.none)=true) from bQ)];show wpAny _ _ (field (.ref it) 1 >>= _) _ _ s;refine wpAny_bind (wpAny_field a hd (x:=.int i 0) rfl ?_);show wpAny _ _ (seqItems? (.ref l) >>= _) _ _ s;refine wpAny_bind (wpAny_seqItems c d ?_);simp only [Int.toNat_natCast,hx];refine wpAny_bind (wpAny_setField a hd (by simp) (wpAny_pure ⟨x,rfl,wpAny_pure (hQ _ ?_ (Heap.SameBut.update ..))⟩));refine ⟨_,Heap.get?_update_self _ a (Obj.isFreed_of_fields (Obj.data_mapFields hd _)),(Obj.cls_mapFields ..).trans h,?_⟩;rw [Obj.data_mapFields hd];simp [rawInt]
theorem JB{b:Bool}{it l:Addr}{i:Nat}{items:Array Value}{Q:Value->Shared->Prop}(hh:A.handled=none)(hit:oH b s.heap it l i)(hl:kL b s.heap l items)(hx:items[i]?=none)
  (hE:∀h' e,Heap.ExtBut it s.heap h'->(∃o,h'.get? e=some o/\o.cls=.type "StopIteration")->E (.ref e) { s with heap:=h' }):wpAny (model prog w) A (Builtin.SmallTypes.nextOf (.ref it)) Q E s:=by
 cases b with
 | false=>exact wpAny_nextOf_list_end hh hit hl hx hE
 | true =>
  have j:s.heap.IsTupleIter it l i:=hit;obtain ⟨o,d,n,hd⟩:=id j;obtain ⟨r,c,_,p,h⟩:=hl;unfold Builtin.SmallTypes.nextOf;refine wpAny_bind (wpAny_callSpecial?_slot (name:=Str.ofString "__next__") j.typeIs F.slot_tuple_iterator_next (wpAny_call_entry F.slot_tuple_iterator_next j.typeIs F.entry_tuple_iterator_next ?_ (F.args_tuple_iterator_next_1 _)));show wpAny _ _ (field (.ref it) 0 >>= _) _ _ s;refine wpAny_bind (wpAny_field d hd (x:=.ref l) rfl ?_);show wpAny _ _ (if (Value.ref l == Value.none)=true then _ else _) _ _ s;rw [if_neg (show ¬((Value.ref l == Value.none)=true) from bQ)];show wpAny _ _ (field (.ref it) 1 >>= _) _ _ s;refine wpAny_bind (wpAny_field d hd (x:=.int i 0) rfl ?_);show wpAny _ _ (seqItems? (.ref l) >>= _) _ _ s;refine wpAny_bind (wpAny_seqItems c h ?_);simp only [Int.toNat_natCast,hx];refine wpAny_bind (wpAny_rule (wpAny_bind (wpAny_setField d hd (by simp) ?_)));show wpAny _ _ (newExc (.type "StopIteration") [] >>= _) _ _ _;refine wpAny_bind ?_;simp only [newExc,newTuple];refine wpAny_bind (wpAny_newObj_type ?_ (by size_fits));refine wpAny_bind (m:=firstArgMember _ _) (wpAny_of_eq (a:=Value.none) (by first | rfl | (simp only [firstArgMember];rfl)) ?_);refine wpAny_newObj_type ?_ (by size_fits);simp only [raiseNew];refine wpAny_bind (wpAny_handled ?_)
  first | rw [show A.in1.handled=none from hh] | rw [hh]
  refine wpAny_bind (wpAny_pure (wpAny_throw ?_));exact hE _ _ (((Heap.SameBut.update ..).extBut.push _).push _) ⟨_,aX _ rfl,rfl⟩
structure ZAt(b1 b2:Bool)(z TI TO i1 i2 l1 l2:Addr)(f:Value)(k:Nat)(h:Heap):Prop where
 z:IsZip h z TI TO f
 ti:IsPair h TI (.ref i1) (.ref i2)
 to:∃a b,IsPair h TO a b
 i1:oH b1 h i1 l1 k
 i2:oH b2 h i2 l2 k
theorem NR{b1 b2:Bool}{z TI TO i1 i2 l1 l2:Addr}{k:Nat}{xs ys:Array Value}{x y:Value}{Q:Value->Shared->Prop}(D:ZipApart z TI TO i1 i2 l1 l2)(Z:ZAt b1 b2 z TI TO i1 i2 l1 l2 .none k s.heap)
  (hl1:kL b1 s.heap l1 xs) (hl2:kL b2 s.heap l2 ys) (hx:xs[k]?=some x) (hy:ys[k]?=some y)
  (hQ:∀h',ZAt b1 b2 z TI TO i1 i2 l1 l2 (rawInt s.heap.objs.size) (k+1) h'->IsPair h' s.heap.objs.size x y->(∀c o,c≠z->c≠TO->c≠i1->c≠i2->s.heap.get? c=some o->h'.get? c=some o)->Q (.ref s.heap.objs.size) { s with heap:=h' }) :
  wpAny (model prog w) A (Builtin.«zip.__next__» ⟨[.ref z],[]⟩) (λfin s'=>∃v,fin=.done (.ret v)/\Q v s') E s:=by
 obtain ⟨X,J,⟨a,b,δ⟩,φ,υ⟩:=Z;show wpAny _ _ (field (.ref z) 2 >>= _) _ _ _;refine wpAny_bind (wpAny_field X rfl (x:=.bool false) rfl ?_);show wpAny _ _ (field (.ref z) 3 >>= _) _ _ _;refine wpAny_bind (wpAny_field X rfl (x:=.ref TI) rfl ?_);refine wpAny_bind (wpAny_seqItems J rfl ?_);show wpAny _ _ (Builtin.SmallTypes.ownedTupleIsFree (.ref z) >>= _) _ _ _;refine wpAny_bind ?_;unfold Builtin.SmallTypes.ownedTupleIsFree;refine wpAny_bind (wpAny_field X rfl (x:=.none) rfl (wpAny_pure ?_));simp only [if_true];refine wpAny_bind (wpAny_rule ?_);refine wpAny_bind (wpAny_field X rfl (x:=.ref TO) rfl ?_);refine wpAny_bind (wpAny_setField_rec X (by simp) λξ p W=>?_);have B:=W.extBut;replace p:IsZip ξ z TI TO .ellipsis:=p;refine wpAny_bind ?_;simp only [List.zipIdx_cons,List.zipIdx_nil,List.forIn_cons,List.forIn_nil];refine wpAny_bind (wpAny_bind (wpAny_onRaise ?_));show wpAny _ _ (Builtin.SmallTypes.nextOf (.ref i1) >>= _) _ _ _;refine wpAny_bind (wT (φ.at λo e=>B _ o D.i1z e) (hl1.at λo e=>B _ o D.l1z e) hx λτ ε M=>wpAny_pure ?_);have T:=M.extBut;have n:IsPair τ TO a b:=T _ _ D.TOi1 (B _ _ D.TOz δ);refine wpAny_bind (wpAny_seqItems n rfl ?_);refine wpAny_bind (wpAny_updateSeq_pair n λν i L=>?_);have G:=L.extBut;replace i:IsPair ν TO x b:=i;refine wpAny_bind (wpAny_letGo (wpAny_pure ?_));refine wpAny_bind (wpAny_bind (wpAny_onRaise ?_));show wpAny _ _ (Builtin.SmallTypes.nextOf (.ref i2) >>= _) _ _ _
 refine wpAny_bind (wT (υ.at λo e=>G _ o D.TOi2.symm (T _ o D.i12.symm (B _ o D.i2z e))) (hl2.at λo e=>G _ o D.l2TO (T _ o D.l2i1 (B _ o D.l2z e))) hy λο θ R=>wpAny_pure ?_);have β:=R.extBut;have l:IsPair ο TO x b:=β _ _ D.TOi2 i;refine wpAny_bind (wpAny_seqItems l rfl ?_);refine wpAny_bind (wpAny_updateSeq_pair l λh d O=>?_);have Y:=O.extBut;replace d:IsPair h TO x y:=d;refine wpAny_bind (wpAny_letGo (wpAny_pure (wpAny_pure ?_)));refine wpAny_bind (wpAny_seqItems d rfl ?_);refine wpAny_bind (wpAny_newTuple ?_);have U:h.objs.size=s.heap.objs.size:=by rw [O.1,R.1,L.1,M.1,W.1]
 have P:IsZip h z TI TO .ellipsis:=Y _ _ D.TOz.symm (β _ _ D.i2z.symm (G _ _ D.TOz.symm (T _ _ D.i1z.symm p)));have S:∀c o,c≠z->c≠TO->c≠i1->c≠i2->s.heap.get? c=some o->h.get? c=some o:=λc o u α η μ e=>Y _ _ α (β _ _ μ (G _ _ α (T _ _ η (B _ _ u e))));have ζ:oH b1 h i1 l1 (k+1):=ε.at λo e=>Y _ o D.TOi1.symm (β _ o D.i12 (G _ o D.TOi1.symm e));have κ:oH b2 h i2 l2 (k+1):=θ.at λo e=>Y _ o D.TOi2.symm e;have m:=bC P;show wpAny _ _ (Builtin.SmallTypes.ownedTupleHandOut (.ref z) (.ref h.objs.size) >>= _) _ _ _;refine wpAny_bind ?_;unfold Builtin.SmallTypes.ownedTupleHandOut;have ι:IsZip (h.push { cls:=.type "tuple",data:=.seq #[x,y] }) z TI TO .ellipsis:=aD _ P;refine wpAny_bind (wpAny_setField_rec ι (by simp) λρ r I=>?_);replace r:IsZip ρ z TI TO (rawInt h.objs.size):=r;refine wpAny_setField_rec r (by simp) λγ j C=>?_;replace j:IsZip γ z TI TO (rawInt h.objs.size):=j;have up:∀c o,c≠z->h.get? c=some o->γ.get? c=some o:=λc o u e=>C.extBut _ _ u (I.extBut _ _ u (aD _ e));have N:IsPair γ h.objs.size x y:=C.extBut _ _ (Nat.ne_of_gt m) (I.extBut _ _ (Nat.ne_of_gt m) (aX _ rfl));rw [U] at j N;refine wpAny_pure ⟨_,rfl,?_⟩;show Q (.ref h.objs.size) _;rw [U]
 exact hQ γ ⟨j,up _ _ D.TIz (S _ _ D.TIz D.TITO D.TIi1 D.TIi2 J),⟨_,_,up _ _ D.TOz d⟩,ζ.at λo e=>up _ o D.i1z e,κ.at λo e=>up _ o D.i2z e⟩ N λc o u α η μ e=>up c o u (S c o u α η μ e)
theorem QL{b1 b2:Bool}{z TI TO i1 i2 l1 l2:Addr}{k:Nat}{xs ys:Array Value}{Q:Fin->Shared->Prop}(hh:A.handled=none)(D:ZipApart z TI TO i1 i2 l1 l2)(Z:ZAt b1 b2 z TI TO i1 i2 l1 l2 .none k s.heap)
  (hl1:kL b1 s.heap l1 xs) (hl2:kL b2 s.heap l2 ys) (hend:xs[k]?=none\/ys[k]?=none)
  (hE:∀h' e,(∀c o,c≠z->c≠TO->c≠i1->c≠i2->s.heap.get? c=some o->h'.get? c=some o)->(∃o,h'.get? e=some o/\o.cls=.type "StopIteration")->E (.ref e) { s with heap:=h' }) :
  wpAny (model prog w) A (Builtin.«zip.__next__» ⟨[.ref z],[]⟩) Q E s:=by
 obtain ⟨J,M,⟨a,b,N⟩,X,ζ⟩:=Z;show wpAny _ _ (field (.ref z) 2 >>= _) _ _ _;refine wpAny_bind (wpAny_field J rfl (x:=.bool false) rfl ?_);show wpAny _ _ (field (.ref z) 3 >>= _) _ _ _;refine wpAny_bind (wpAny_field J rfl (x:=.ref TI) rfl ?_);refine wpAny_bind (wpAny_seqItems M rfl ?_);show wpAny _ _ (Builtin.SmallTypes.ownedTupleIsFree (.ref z) >>= _) _ _ _;refine wpAny_bind ?_;unfold Builtin.SmallTypes.ownedTupleIsFree;refine wpAny_bind (wpAny_field J rfl (x:=.none) rfl (wpAny_pure ?_));simp only [if_true];refine wpAny_bind (wpAny_rule ?_);refine wpAny_bind (wpAny_field J rfl (x:=.ref TO) rfl ?_);refine wpAny_bind (wpAny_setField_rec J (by simp) λY j T=>?_);have l:=T.extBut;replace j:IsZip Y z TI TO .ellipsis:=j;refine wpAny_bind ?_;simp only [List.zipIdx_cons,List.zipIdx_nil,List.forIn_cons,List.forIn_nil];refine wpAny_bind (wpAny_bind (wpAny_onRaise ?_));show wpAny _ _ (Builtin.SmallTypes.nextOf (.ref i1) >>= _) _ _ _;cases hx:xs[k]? with
 | none =>
  refine wpAny_bind (JB hh (X.at λo e=>l _ o D.i1z e) (hl1.at λo e=>l _ o D.l1z e) hx λS e n P=>?_);obtain ⟨O,d,i⟩:=P;have y:IsZip S z TI TO .ellipsis:=n _ _ D.i1z.symm j;have r:e≠z:=λx=>by subst x;rw [y] at d;cases d;simp at i
  exact wpAny_setField_rec y (by simp) λU _ m=>hE U e (λc o G _ R _ x=>m.extBut _ _ G (n _ _ R (l _ _ G x))) ⟨O,m.extBut _ _ r d,i⟩
 | some x =>
  have β:ys[k]?=none:=by
   rcases hend with h | h
   ·rw [hx] at h;cases h
   ·exact h
  refine wpAny_bind (wT (X.at λo e=>l _ o D.i1z e) (hl1.at λo e=>l _ o D.l1z e) hx λS γ n=>wpAny_pure ?_);have I:=n.extBut;have p:IsPair S TO a b:=I _ _ D.TOi1 (l _ _ D.TOz N);refine wpAny_bind (wpAny_seqItems p rfl ?_);refine wpAny_bind (wpAny_updateSeq_pair p λU W m=>?_);have L:=m.extBut;refine wpAny_bind (wpAny_letGo (wpAny_pure ?_));refine wpAny_bind (wpAny_bind (wpAny_onRaise ?_));show wpAny _ _ (Builtin.SmallTypes.nextOf (.ref i2) >>= _) _ _ _;refine wpAny_bind (JB hh (ζ.at λo e=>L _ o D.TOi2.symm (I _ o D.i12.symm (l _ o D.i2z e))) (hl2.at λo e=>L _ o D.l2TO (I _ o D.l2i1 (l _ o D.l2z e))) β λδ e C P=>?_);obtain ⟨O,d,i⟩:=P;have u:IsZip δ z TI TO .ellipsis:=C _ _ D.i2z.symm (L _ _ D.TOz.symm (I _ _ D.i1z.symm j));have r:e≠z:=λx=>by subst x;rw [u] at d;cases d;simp at i
  exact wpAny_setField_rec u (by simp) λα _ B=>hE α e (λc o G ε R η x=>B.extBut _ _ G (C _ _ η (L _ _ ε (I _ _ R (l _ _ G x))))) ⟨O,B.extBut _ _ r d,i⟩
theorem NQ{b1 b2:Bool}{z TI TO i1 i2 l1 l2:Addr}{k:Nat}{xs ys:Array Value}{x y:Value}{Q:Option Value->Shared->Prop}(D:ZipApart z TI TO i1 i2 l1 l2)(Z:ZAt b1 b2 z TI TO i1 i2 l1 l2 .none k s.heap)
  (hl1:kL b1 s.heap l1 xs) (hl2:kL b2 s.heap l2 ys) (hx:xs[k]?=some x) (hy:ys[k]?=some y)
  (hQ:∀h',ZAt b1 b2 z TI TO i1 i2 l1 l2 (rawInt s.heap.objs.size) (k+1) h'->IsPair h' s.heap.objs.size x y->(∀c o,c≠z->c≠TO->c≠i1->c≠i2->s.heap.get? c=some o->h'.get? c=some o)->Q (some (.ref s.heap.objs.size)) { s with heap:=h' }) :
  wpAny (model prog w) A (pyNext (.ref z)) Q E s:=by
 have a:s.TypeIs (.ref z) "zip" := ⟨_,Z.z,rfl⟩;unfold pyNext;refine wpAny_bind (wpAny_attempt (wpAny_callSpecial?_slot (name:=Str.ofString "__next__") a F.slot_zip_next (wpAny_call_entry F.slot_zip_next a F.entry_zip_next ?_ (F.args_zip_next_1 _))));exact NR D Z hl1 hl2 hx hy λh' e b d=>wpAny_pure (hQ h' e b d)
theorem NP{b1 b2:Bool}{z TI TO i1 i2 l1 l2:Addr}{k:Nat}{xs ys:Array Value}{Q:Option Value->Shared->Prop}(hh:A.handled=none)(D:ZipApart z TI TO i1 i2 l1 l2)(Z:ZAt b1 b2 z TI TO i1 i2 l1 l2 .none k s.heap)
  (hl1:kL b1 s.heap l1 xs) (hl2:kL b2 s.heap l2 ys) (hend:xs[k]?=none\/ys[k]?=none)
  (hQ:∀h',(∀c o,c≠z->c≠TO->c≠i1->c≠i2->s.heap.get? c=some o->h'.get? c=some o)->Q none { s with heap:=h' }):wpAny (model prog w) A (pyNext (.ref z)) Q E s:=by
 have a:s.TypeIs (.ref z) "zip" := ⟨_,Z.z,rfl⟩;unfold pyNext;refine wpAny_bind (wpAny_attempt (wpAny_callSpecial?_slot (name:=Str.ofString "__next__") a F.slot_zip_next (wpAny_call_entry F.slot_zip_next a F.entry_zip_next ?_ (F.args_zip_next_1 _))));refine QL hh D Z hl1 hl2 hend λh' e j d=>?_;obtain ⟨o,i,h⟩:=d;refine wpAny_bind (wpAny_isInstance (T := "StopIteration") (b:=true) ⟨o,i,h⟩ isSubtype_stop ?_);exact wpAny_pure (hQ _ j)
abbrev WN(b:Bool)(l:Addr):Obj:={ cls:=.type (bif b then "tuple_iterator" else "list_iterator"),data:=.fields #[.ref l,.int 0 0] }
theorem MD{b:Bool}{l:Addr}{xs:Array Value}{Q:Value->Shared->Prop}(h:kL b s.heap l xs)(q:Q (.ref s.heap.objs.size) { s with heap:=s.heap.push (WN b l) }):wpAny (model prog w) A (pyIter (.ref l)) Q E s:=by
 cases b with
 | false=>exact wpAny_pyIter_list h q
 | true=>exact wpAny_pyIter_tuple h q
end
end L2
namespace L2
open PySem PySem.Spec PyProof.Rows
section
variable{X:Cx}{pins:List (Addr × Obj)}{σ:St}{H:Hp}{s:Shared}{h':Heap}
theorem cO.turnedL{t':Nat}{fp:List Addr}(I:cO X pins σ H s)(k:∀b o,b ∉ fp->s.heap.get? b=some o->h'.get? b=some o)(hf:∀b∈fp,kN X pins H b):cO X pins σ H { s with heap:=h',toks:=t' }:=by
 have d:∀b u,H b=some u->b ∉ fp:=λb u e z=>by rw [(hf b z).1] at e;cases e
 refine I.step (g':=s.gens) (d':=s.drawn) (ch:=fp) (λb w=>?_) (λb o _ _ a e _=>k b o a e) (λb o _ _ a e _=>⟨o.slots,k b o a e⟩) (λ_ _ _ _ n=>n)
  (λb o a e=>⟨o,k b o a e⟩) (λ_ _ e=>e) (λ_ _ _ e=>e) (λb D e=>⟨#[],by rw [e];simp⟩) (λm h=>?_) (λb u e=>?_) I.bare
 ·obtain ⟨C,i,B,p,x,l⟩:=hf b w;exact ⟨p,i,x,l⟩
 ·obtain ⟨o,A,j,y,r⟩:=h;exact ⟨o,A,j,k _ o (λz=>(hf _ z).2.1 rfl) y,r⟩
 ·refine (I.hok b u e).stay (λc v a q=>k c v ?_ q) (λ_ q=>q) λ_ _ q=>q;rcases a with z | z
  ·rw [z];exact d b u e
  ·exact d c _ z
theorem Un.putE{fs ex:List Addr}{H H1:Hp}{h h1:Heap}{a:Addr}{u:HO}(x:Un fs ex H H1 h h1)(ha:h.get? a=none)(hn:H1 a=none):Un fs ex H (upd H1 a u) h h1 where
 keep:=x.keep
 slot:=x.slot
 free:=λb d e n m=>by rw [eG (λz=>by subst z;rw [ha] at e;cases e)];exact x.free b d e n m
 there:=x.there
 tups:=λb c e=>by rw [eG (cY (x.tups b c e) hn)];exact x.tups b c e
 frzs:=λb d c e=>by rw [eG (cY (x.frzs b d c e) hn)];exact x.frzs b d c e
 tbls:=λb i e=>by
  obtain ⟨m,q⟩:=x.tbls b i e;exact ⟨m,by rw [eG (cY q hn)];exact q⟩
theorem pG.putE{P:Program}{w:World}{h:Heap}{a:Addr}{u:HO}(x:pG P w H h)(hn:H a=none)(new:fA P w (upd H a u) h a u):pG P w (upd H a u) h:=λb v e=>by
 by_cases hb:b=a
 ·subst hb;rw [bL] at e;cases e;exact new
 ·rw [eG hb] at e;exact (x b v e).stay (λc q _ r=>r) (λc q=>by rw [eG (cY q hn)];exact q) λc d q=>by rw [eG (cY q hn)];exact q
theorem cO.put{a:Addr}{o:HO}(I:cO X pins σ H s)(f:kN X pins H a)(hs:X.s₀.heap.get? a=none)(new:fA X.prog X.w (upd H a o) s.heap a o):cO X pins σ (upd H a o) s :=
 ⟨I.ok,I.os,I.bare,I.base.putE hs f.1,I.loc,I.cell,by rw [eG (Ne.symm f.2.1)];exact I.free,λx c e=>by rw [eG (f.2.2.2.2.1 x c e)];exact I.freeC x c e,λp b=>by
  obtain ⟨h,d,i⟩:=I.pin p b;exact ⟨h,by rw [eG (f.2.2.2.2.2 p b)];exact d,i⟩,pG.putE I.hok f.1 new,I.len⟩
def uI(b:Bool)(xs:List V):HO:=bif b then .tup xs else .lst xs
theorem uI.inj{b:Bool}{xs ys:List V}(h:some (uI b xs)=some (uI b ys)):xs=ys:=by
 cases b <;> (injection h with h;injection h)
theorem cO.sq{b:Bool}{a:Addr}{xs:List V}(I:cO X pins σ H s)(h:H a=some (uI b xs)):∃its:List Value,eE xs its/\kL b s.heap a its.toArray:=by
 cases b with
 | false=>obtain ⟨its,r,p,_⟩:=I.list (fY.of h);exact ⟨its,r,p.isList⟩
 | true=>obtain ⟨its,r,p,_⟩:=I.tuple (fN.of h);exact ⟨its,r,p⟩
end
def Itz(b1 b2:Bool)(l1 l2:Addr):It :=
  ⟨λi H=>∃xs ys x y,H l1=some (uI b1 xs)/\H l2=some (uI b2 ys)/\xs[i]?=some x/\ys[i]?=some y,
   λi H v H'=>∃q x y,v=.ref q/\H q=none/\H'=upd H q (.tup [x,y])/\∀xs ys,H l1=some (uI b1 xs)->H l2=some (uI b2 ys)->xs[i]?=some x/\ys[i]?=some y,
   λi H=>∃xs ys,H l1=some (uI b1 xs)/\H l2=some (uI b2 ys)/\(xs.length<=i\/ys.length<=i)⟩
structure ZD(z TI TO i1 i2:Addr):Prop where
 TIz:TI≠z
 TOz:TO≠z
 i1z:i1≠z
 i2z:i2≠z
 TITO:TI≠TO
 TIi1:TI≠i1
 TIi2:TI≠i2
 TOi1:TO≠i1
 TOi2:TO≠i2
 i12:i1≠i2
theorem ZD.seq(n:Nat):ZD (n+4) (n+2) (n+3) n (n+1) where
 TIz:=λh=>absurd (show (n+2:Nat)=n+4 from h) Oo
 TOz:=λh=>absurd (show (n+3:Nat)=n+4 from h) Oo
 i1z:=λh=>absurd (show (n:Nat)=n+4 from h) Oo
 i2z:=λh=>absurd (show (n+1:Nat)=n+4 from h) Oo
 TITO:=λh=>absurd (show (n+2:Nat)=n+3 from h) Oo
 TIi1:=λh=>absurd (show (n+2:Nat)=n from h) Oo
 TIi2:=λh=>absurd (show (n+2:Nat)=n+1 from h) Oo
 TOi1:=λh=>absurd (show (n+3:Nat)=n from h) Oo
 TOi2:=λh=>absurd (show (n+3:Nat)=n+1 from h) Oo
 i12:=λh=>absurd (show (n:Nat)=n+1 from h) Oo
theorem ZD.all{z TI TO i1 i2 l1 l2:Addr}(d:ZD z TI TO i1 i2){H:Hp}{o1 o2:HO}(e1:H l1=some o1)(e2:H l2=some o2)(h:∀b∈[z,TI,TO,i1,i2],H b=none):ZipApart z TI TO i1 i2 l1 l2 :=
 ⟨d.TIz,d.TOz,d.i1z,d.i2z,d.TITO,d.TIi1,d.TIi2,d.TOi1,d.TOi2,d.i12,cY e1 (h _ (by simp)),cY e1 (h _ (by simp)),cY e1 (h _ (by simp)),cY e1 (h _ (by simp)),cY e2 (h _ (by simp)),cY e2 (h _ (by simp)),cY e2 (h _ (by simp)),cY e2 (h _ (by simp))⟩
theorem RH{P:Program}{w:World}{K:KFr}{elts:List Expr}{x1}{tp:Pos}{b1 b2:Bool}{z TI TO i1 i2 l1 l2:Addr}(d:ZD z TI TO i1 i2):EM P w K (.Tuple elts x1 tp) (Itz b1 b2 l1 l2) [z,TI,TO,i1,i2] z (λi h=>ZAt b1 b2 z TI TO i1 i2 l1 l2 .none i h) where
 mem:=by simp
 obj:=λi h j b l=>by
  obtain ⟨a,b',A⟩:=j.to;obtain ⟨o1,r,_,χ⟩:=j.i1;obtain ⟨o2,p,_,υ⟩:=j.i2;simp only [bE,List.not_mem_nil,or_false] at l;rcases l with rfl | rfl | rfl | rfl | rfl
  ·exact ⟨_,j.z,λv q=>by cases q⟩
  ·exact ⟨_,j.ti,λv q=>by cases q⟩
  ·exact ⟨_,A,λv q=>by cases q⟩
  ·exact ⟨_,r,λv q=>by rw [χ] at q;cases q⟩
  ·exact ⟨_,p,λv q=>by rw [υ] at q;cases q⟩
 keep:=λi h δ j k=>by
  obtain ⟨a,b,A⟩:=j.to;exact ⟨k _ (by simp) _ j.z,k _ (by simp) _ j.ti,⟨a,b,k _ (by simp) _ A⟩,j.i1.at λo e=>k _ (by simp) o e,j.i2.at λo e=>k _ (by simp) o e⟩
 item:=by
  intro X α S C η i n s σ H E I u j Z;subst α S C;obtain ⟨φ,ψ,x,y,r,p,ξ,ζ⟩:=Z;obtain ⟨u1,Y,U⟩:=I.sq r;obtain ⟨μ,N,G⟩:=I.sq p;obtain ⟨θ,T,rx⟩:=Y.get ξ;obtain ⟨γ,R,ω⟩:=N.get ζ;have D:=d.all r p λb l=>(u b l).1;refine NQ D j U G (x:=θ) (y:=γ) (by simpa using T) (by simpa using R) λδ Z' κ L=>⟨_,rfl,wpAny_letOwnedTupleGo_zip Z'.z λν J m=>?_⟩;have ρ:∀b o,b ∉ [z,TI,TO,i1,i2]->s.heap.get? b=some o->ν.get? b=some o:=λb o l e=>by
   simp only [bE,List.not_mem_nil,or_false,not_or] at l;exact m.extBut b o l.1 (L b o l.1 l.2.2.1 l.2.2.2.1 l.2.2.2.2 e)
  have I1:cO X n σ H { s with heap:=ν }:=I.turnedL (t':=s.toks) ρ u;have fq:kN X n H s.heap.objs.size:=I.fpOk (aE _) (I.hok.fresh (aE _));have e0:X.s₀.heap.get? s.heap.objs.size=none:=by
   cases q:X.s₀.heap.get? s.heap.objs.size with
   | none=>rfl
   | some o=>exact absurd (bH (bC q) I.sz) (cH _)
  have nz:s.heap.objs.size≠z:=λq=>absurd (bC j.z) (by rw [<-q];exact cH _);obtain ⟨a,b,A⟩:=Z'.to;refine ⟨.ref s.heap.objs.size,upd H s.heap.objs.size (.tup [x,y]),I1.put fq e0 ⟨⟨oR (by show 2<=64;decide),_,m.extBut _ _ nz κ,rfl⟩,[θ,γ],.cons rx (.cons ω .nil),⟨_,m.extBut _ _ nz κ,rfl,_,rfl⟩⟩,rfl,⟨_,x,y,rfl,fq.1,rfl,λxs' τ ι ε=>?_⟩,
   ⟨J,m.extBut _ _ d.TIz Z'.ti,⟨a,b,m.extBut _ _ d.TOz A⟩,Z'.i1.at λo e=>m.extBut _ o d.i1z e,Z'.i2.at λo e=>m.extBut _ o d.i2z e⟩,λb l=>?_⟩
  ·rw [r] at ι;rw [p] at ε;rw [<-uI.inj ι,<-uI.inj ε];exact ⟨ξ,ζ⟩
  ·have nb:b≠s.heap.objs.size:=λq=>by
    obtain ⟨a',b',O⟩:=j.to;obtain ⟨o1,β,_⟩:=j.i1;obtain ⟨o2,M,_⟩:=j.i2;have lt:∀{c o},s.heap.get? c=some o->c≠s.heap.objs.size:=λe=>dH (bC e);simp only [bE,List.not_mem_nil,or_false] at l;rcases l with rfl | rfl | rfl | rfl | rfl
    ·exact lt j.z q
    ·exact lt j.ti q
    ·exact lt O q
    ·exact lt β q
    ·exact lt M q
   rw [eG nb];exact (u b l).1
 done:=by
  intro X α S C η i n s σ H E I u j Z;subst α S C;obtain ⟨φ,ψ,r,p,ο⟩:=Z;obtain ⟨u1,Y,U⟩:=I.sq r;obtain ⟨μ,N,G⟩:=I.sq p;have D:=d.all r p λb l=>(u b l).1;have l1:=Y.length;have l2:=N.length;have B:u1.toArray[i]?=none\/μ.toArray[i]?=none:=by
   rcases ο with h | h
   ·left;simp;omega
   ·right;simp;omega
  refine NP (I.ok.hd η) D j U G B λδ L=>⟨rfl,I.turnedL (t':=s.toks) (λb o l e=>?_) u⟩;simp only [bE,List.not_mem_nil,or_false,not_or] at l;exact L b o l.1 l.2.2.1 l.2.2.2.1 l.2.2.2.2 e
 self:=λ_ _ _ _ _ j h=>wpAny_pyIter_zip j.z h
abbrev zA(b:Bool)(h:Heap)(l:Addr):Heap:=h.push (WN b l)
abbrev zB(b1 b2:Bool)(h:Heap)(l1 l2:Addr):Heap:=(zA b1 h l1).push (WN b2 l2)
abbrev zC(b1 b2:Bool)(h:Heap)(l1 l2:Addr):Heap:=(zB b1 b2 h l1 l2).push { cls:=.type "tuple",data:=.seq #[.ref h.objs.size,.ref (zA b1 h l1).objs.size] }
abbrev zE(b1 b2:Bool)(h:Heap)(l1 l2:Addr):Heap:=(zC b1 b2 h l1 l2).push { cls:=.type "tuple",data:=.seq #[.none,.none] }
abbrev zF(b1 b2:Bool)(h:Heap)(l1 l2:Addr):Heap:=(zE b1 b2 h l1 l2).push { cls:=.type "zip",data:=.fields #[.none,.bool false,.bool false,.ref (zB b1 b2 h l1 l2).objs.size,.ref (zC b1 b2 h l1 l2).objs.size] }
theorem aCu(b1 b2:Bool)(l1 l2:Addr)(xs ys:Array Value):Meets (Builtin.«zip.__new__» ⟨[.type "zip",.ref l1,.ref l2],[]⟩) (λ_ R s=>kL b1 s.heap l1 xs/\kL b2 s.heap l2 ys/\R (.ok (.ret (.ref (zE b1 b2 s.heap l1 l2).objs.size))) { s with heap:=zF b1 b2 s.heap l1 l2 }) :=
 .of_wp λp w A R s h=>by
  obtain ⟨j,g,d,l,m⟩:=s;obtain ⟨b,c,h⟩:=h;have n:=sub_zip;have i:kL b1 (Shared.heap ⟨j,g,d,l,m⟩) l1 xs:=b;have a:kL b2 (Shared.heap ⟨j.push (WN b1 l1),g,d,l,m⟩) l2 ys:=c.at λo e=>aD _ e
  wp_walk using MD i,MD a
  exact ⟨_,rfl,h⟩
section
variable{prog:Program}{w:World}{A:Around}{E:Value->Shared->Prop}{s:Shared}
theorem aEi{b1 b2:Bool}{l1 l2:Addr}{xs ys:Array Value}{Q:Value->Shared->Prop}(hl1:kL b1 s.heap l1 xs)(hl2:kL b2 s.heap l2 ys)
  (h:∀h',ZAt b1 b2 (s.heap.objs.size+4) (s.heap.objs.size+2) (s.heap.objs.size+3) s.heap.objs.size (s.heap.objs.size+1) l1 l2 .none 0 h'->(∀c o,s.heap.get? c=some o->h'.get? c=some o)->Q (.ref (s.heap.objs.size+4)) { s with heap:=h' }) :
  wpAny (model prog w) A (call (.type "zip") [.ref l1,.ref l2]) Q E s:=by
 refine callType_new F.called_zip Dd (F.typeCall_zip_2 _ _) (F.newCall_zip_2 _ _) (λi=>F.args_object_init_3 i _ _) F.entry_zip_new (aCu b1 b2 l1 l2 xs ys) ⟨hl1,hl2,?_⟩;have d:(zA b1 s.heap l1).objs.size=s.heap.objs.size+1:=iU ..;have e:(zB b1 b2 s.heap l1 l2).objs.size=s.heap.objs.size+2:=by rw [iU,d]
 have b:(zC b1 b2 s.heap l1 l2).objs.size=s.heap.objs.size+3:=by rw [iU,e]
 have j:(zE b1 b2 s.heap l1 l2).objs.size=s.heap.objs.size+4:=by rw [iU,b]
 have a:(zF b1 b2 s.heap l1 l2).get? (zE b1 b2 s.heap l1 l2).objs.size=some _:=aX _ rfl;have l:(zF b1 b2 s.heap l1 l2).get? (zC b1 b2 s.heap l1 l2).objs.size=some _:=aD _ (aX _ rfl);have n:(zF b1 b2 s.heap l1 l2).get? (zB b1 b2 s.heap l1 l2).objs.size=some _:=aD _ (aD _ (aX _ rfl));have m:(zF b1 b2 s.heap l1 l2).get? (zA b1 s.heap l1).objs.size=some _:=aD _ (aD _ (aD _ (aX _ rfl)));have p:(zF b1 b2 s.heap l1 l2).get? s.heap.objs.size=some _:=aD _ (aD _ (aD _ (aD _ (aX _ rfl))));show _/\_;rw [e,b,j] at a;rw [d,e] at n;rw [b] at l;rw [d] at m;rw [j];exact ⟨⟨_,a,rfl⟩,h _ ⟨a,n,⟨_,_,l⟩,⟨_,p,rfl,rfl⟩,⟨_,m,rfl,rfl⟩⟩ λc o x=>aD _ (aD _ (aD _ (aD _ (aD _ x))))⟩
end
def aD4(b1 b2:Bool)(ta:TA):TI:=λσ H R=>ta σ H λvs H1=>∃l1 l2 xs ys,vs=[.ref l1,.ref l2]/\H1 l1=some (uI b1 xs)/\H1 l2=some (uI b2 ys)/\R (Itz b1 b2 l1 l2) H1
theorem WA:bootBuiltins (Str.ofString "zip")=some (Value.type "zip"):=Kk
section
variable{X:Cx}
theorem aB7{a b:Expr}{ta:TA}{p pos tp:Pos}{elts:List Expr}{x1}{b1 b2:Bool}(hg:Gl X "zip")(hm:X.mg "zip" = none)(ha:PA X [a,b] ta)(hs:starEach [a,b] X.env=[(false,eval a X.env),(false,eval b X.env)])(hs2:starEach [b] X.env=[(false,eval b X.env)]) :
  PI X (.Tuple elts x1 tp) (.Call (.Name "zip" p) [a,b] [] pos) (aD4 b1 b2 ta):=by
 intro d s σ H R I h;refine Call_ (uZ I hg hm WA (PyProof.Rows.callWith_type1 (thn (ha pos d s σ H _ I h) λL c ⟨C,H1,I1,n,x⟩=>?_) (by rw [hs,hs2]) (by rw [hs2];rfl)));obtain ⟨D,J,A,B,e,o,u,q⟩:=x;subst e;cases n with
 | cons r rr =>
  cases rr with
  | cons r' rr =>
   cases rr;cases r;cases r';obtain ⟨u1,_,m⟩:=I1.sq o;obtain ⟨G,_,l⟩:=I1.sq u;refine aEi m l λy Z w=>wpAny_pyIter_zip Z.z ?_;refine ⟨_,[c.heap.objs.size+4,c.heap.objs.size+2,c.heap.objs.size+3,c.heap.objs.size,c.heap.objs.size+1],_,_,H1,rfl,I1.kept (t':=c.toks) w,RH (ZD.seq _),Z,λb j=>?_,q⟩;have i:c.heap.objs.size<=b:=by
    simp only [bE,List.not_mem_nil,or_false] at j;rcases j with rfl | rfl | rfl | rfl | rfl
    ·exact Nat.le_add_right _ _
    ·exact Nat.le_add_right _ _
    ·exact Nat.le_add_right _ _
    ·exact aE _
    ·exact Nat.le_add_right _ _
   exact I1.fpOk i (I1.hok.fresh i)
theorem sA(b1 b2:Bool){a b:Expr}{ta:TA}{p pos tp:Pos}{elts:List Expr}{x1}(hg:Gl X "zip")(hm:X.mg "zip" = none)(ha:NM X [a,b] ta)(hs:starEach [a,b] X.env=[(false,eval a X.env),(false,eval b X.env)]:=by rfl)(hs2:starEach [b] X.env=[(false,eval b X.env)]:=by first | exact iQ | exact iR | exact eK | rfl) :
  KB X (.Tuple elts x1 tp) (.Call (.Name "zip" p) [a,b] [] pos) (aD4 b1 b2 ta):=⟨aB7 hg hm ha.p hs hs2⟩
end
theorem MK{b1 b2:Bool}{l1 l2:Addr}{xs ys:List V}{g:TG}{tb:TS}{D:rQ}{σ:St}{H:Hp}(Pv:Nat->St->Hp->Prop)(h0:Pv 0 σ H)(hl:∀i σ H,Pv i σ H->H l1=some (uI b1 xs)/\H l2=some (uI b2 ys))
  (hs:∀i x y q σ H H',xs[i]?=some x->ys[i]?=some y->Pv i σ H->H q=none->H' q=some (.tup [x,y])->bA H H'->g (.ref q) σ H' λσ2 H2=>tb { D with nx:=Pv (i+1),ct:=Pv (i+1),bk:=D.nx } σ2 H2) (hd:∀σ H,Pv (min xs.length ys.length) σ H->D.nx σ H) :
  ∃W:Nat->Nat->St->Hp->Prop,(∃m,W 0 m σ H)/\∀i m σ H,W i m σ H ->
   ((Itz b1 b2 l1 l2).stop i H/\D.nx σ H)\/((Itz b1 b2 l1 l2).go i H/\∃N:St->Hp->Prop,(∀σ' H',N σ' H'->∃m',m' < m/\W (i+1) m' σ' H')/\∀x H',(Itz b1 b2 l1 l2).yld i H x H'->g x σ H' λσ2 H2=>tb { D with nx:=N,ct:=N,bk:=D.nx } σ2 H2):=by
 refine ⟨λi m σ H=>m=min xs.length ys.length-i/\i<=min xs.length ys.length/\Pv i σ H,⟨_,rfl,cC _,h0⟩,?_⟩;rintro i m σ H ⟨rfl,r,p⟩;obtain ⟨b,a⟩:=hl i σ H p;by_cases hlt:i<min xs.length ys.length
 ·have l:xs[i]?=some xs[i]:=aC Oo;have d:ys[i]?=some ys[i]:=aC Oo;refine .inr ⟨⟨xs,ys,_,_,b,a,l,d⟩,Pv (i+1),λσ' H' h=>⟨_,Oo,rfl,hlt,h⟩,λv H' y=>?_⟩;obtain ⟨q,x,y,rfl,c,rfl,n⟩:=y;obtain ⟨o,j⟩:=n xs ys b a;exact hs i x y q σ H _ o j p c bL (bA.upd c)
 ·have e:i=min xs.length ys.length:=Oo;subst e;refine .inl ⟨⟨xs,ys,b,a,?_⟩,hd σ H p⟩;omega
end L2
namespace L2
open PySem
def oZ:List Value->List Int->Bool
 | [],[]=>true
 | .int i _::vs,n::ns=>decide (i=n)&&oZ vs ns
 | _,_=>false
def qJ(K:KFr)(a:Addr)(ns:List Int):Bool :=
 match K.lookup a with
 | some o=>(match o.cls with | .type n=>n == "tuple" | _=>false)&&(match o.data with | .seq xs _=>decide (xs.size<=64)&&oZ xs.toList ns | _=>false)
 | none=>false
theorem oZ.vals:∀{vs:List Value}{ns:List Int},oZ vs ns=true->eE (ns.map V.int) vs
 | [],[],_=>.nil
 | v::vs,n::ns,h=>by
  cases v with
  | int i t =>
   have h':(decide (i=n)&&oZ vs ns)=true:=h;rw [cM] at h';have e:=of_decide_eq_true h'.1;subst e;exact .cons ⟨t,rfl⟩ (oZ.vals h'.2)
  | _=>cases h
 | [],_::_,h=>by cases h
 | v::_,[],h=>by cases v <;> cases h
theorem pQ{K:KFr}{H:Hp}{a:Addr}{ns:List Int}(h:qJ K a ns=true):fN K H a (ns.map V.int):=by
 unfold qJ at h;split at h
 ·rename_i o ho
  rw [cM] at h;obtain ⟨c,b⟩:=h;split at c
  ·rename_i n hn
   split at b
   ·rename_i xs m hx
    rw [cM] at b;have e:n = "tuple" := by simpa using c
    subst e;exact .inr ⟨o,xs,m,ho,hn,hx,oR (of_decide_eq_true b.1),oZ.vals b.2⟩
   ·cases b
  ·cases c
 ·cases h
theorem fN.keep{K:KFr}{H H':Hp}{a:Addr}{xs:List V}(s:bA H H')(h:fN K H a xs):fN K H' a xs:=by
 rcases h with (h | ⟨o,h⟩) | h
 ·exact .inl (.inl (s _ _ h))
 ·exact .inl (.inr ⟨o,s _ _ h⟩)
 ·exact .inr h
mutual
def oI(K:KFr)(H:Hp):PyData->V->Prop
 | .none,v=>v=.non
 | .bool b,v=>v=.bl b
 | .int i,v=>v=.int i
 | .str x,v=>v=.str x
 | .list ds,v=>∃a xs,v=.ref a/\H a=some (.lst xs)/\kA K H ds xs
 | .tuple ds,v=>∃a xs,v=.ref a/\fN K H a xs/\kA K H ds xs
 | .dict kvs,v=>kvs=[]/\∃a,v=.ref a/\H a=some (.dK [])
def kA(K:KFr)(H:Hp):List PyData->List V->Prop
 | [],vs=>vs=[]
 | d::ds,vs=>∃x xs,vs=x::xs/\oI K H d x/\kA K H ds xs
end
mutual
theorem cE.k{K:KFr}{H:Hp}:∀{d:PyData}{v:V},cE H d v->oI K H d v
 | .none,_,h=>h
 | .bool _,_,h=>h
 | .int _,_,h=>h
 | .str _,_,h=>h
 | .list ds,_,h=>by
  unfold cE at h;unfold oI;obtain ⟨a,xs,rfl,h1,h2⟩:=h;exact ⟨a,xs,rfl,h1,bG.k h2⟩
 | .tuple ds,_,h=>by
  unfold cE at h;unfold oI;obtain ⟨a,xs,rfl,h1,h2⟩:=h;exact ⟨a,xs,rfl,fN.of h1,bG.k h2⟩
 | .dict kvs,_,h=>by unfold cE at h;unfold oI;exact h
theorem bG.k{K:KFr}{H:Hp}:∀{ds:List PyData}{vs:List V},bG H ds vs->kA K H ds vs
 | [],_,h=>h
 | d::ds,_,h=>by
  unfold bG at h;unfold kA;obtain ⟨x,xs,rfl,h1,h2⟩:=h;exact ⟨x,xs,rfl,cE.k h1,bG.k h2⟩
end
theorem oI.tup{K:KFr}{H:Hp}{a:Addr}{xs:List V}{ds:List PyData}(h:fN K H a xs)(r:kA K H ds xs):oI K H (.tuple ds) (.ref a):=by
 unfold oI;exact ⟨a,xs,rfl,h,r⟩
theorem kA.ints{K:KFr}{H:Hp}:∀ns:List Int,kA K H (ns.map PyData.int) (ns.map V.int)
 | []=>by unfold kA;rfl
 | n::ns=>by unfold kA;exact ⟨_,_,rfl,by unfold oI;rfl,kA.ints ns⟩
section
variable{X:Cx}{pins:List (Addr × Obj)}{σ:St}{H:Hp}{s:Shared}
mutual
theorem oI.reads(I:cO X pins σ H s):∀{d:PyData}{v:V}{u:Value},oI X.K H d v->eI v u->∃as,Reads s.heap u d as
 | .none,_,u,h,r=>by
  cases (show _=V.non from h);cases (show u=Value.none from r);exact ⟨_,.none⟩
 | .bool b,_,u,h,r=>by
  cases (show _=V.bl b from h);cases (show u=Value.bool b from r);exact ⟨_,.bool b⟩
 | .int b,_,u,h,r=>by
  cases (show _=V.int b from h);obtain ⟨t,q⟩:=(show ∃t,u=Value.int b t from r);cases q;exact ⟨_,.int b t⟩
 | .str b,_,u,h,r=>by
  cases (show _=V.str b from h);obtain ⟨t,q⟩:=(show ∃t,u=Value.str b t from r);cases q;exact ⟨_,.str b t⟩
 | .list ds,v,u,h,r=>by
  unfold oI at h;obtain ⟨a,m,rfl,l,i⟩:=h;cases (show u=Value.ref a from r);obtain ⟨_,c,n,j,e⟩:=(show fA X.prog X.w H s.heap a (.lst m) from I.hok a _ l);obtain ⟨as,q⟩:=kA.reads I i j;exact ⟨_,.list e rfl rfl (by simpa using q)⟩
 | .tuple ds,v,u,h,r=>by
  unfold oI at h;obtain ⟨a,m,rfl,l,i⟩:=h;cases (show u=Value.ref a from r);obtain ⟨c,j,⟨o,e,p,n,hd⟩,_⟩:=I.tuple l;obtain ⟨as,q⟩:=kA.reads I i j;exact ⟨_,.tuple e p hd (by simpa using q)⟩
 | .dict kvs,v,u,h,r=>cE.reads I (d:=.dict kvs) (by unfold cE;unfold oI at h;exact h) r
theorem kA.reads(I:cO X pins σ H s):∀{ds:List PyData}{vs:List V}{us:List Value},kA X.K H ds vs->eE vs us->∃as,ReadsAll s.heap us ds as
 | [],_,us,h,r=>by
  cases (show _=[] from h);cases r;exact ⟨_,.nil⟩
 | d::ds,_,us,h,r=>by
  unfold kA at h;obtain ⟨x,xs,rfl,h1,h2⟩:=h;cases r with
  | cons r1 r2 =>
   obtain ⟨as,b⟩:=oI.reads I h1 r1;obtain ⟨bs,a⟩:=kA.reads I h2 r2;exact ⟨_,.cons b a⟩
end
end
@[irreducible] def OI(K:KFr)(b:Bool):R2:=λx y H Q=>∃d d',oI K H d x/\oI K H d' y/\SeqAt.shaped d=true/\SeqAt.shaped d'=true/\Q (.bl (b == PyData.eqv d d')) H
section
variable{X:Cx}
theorem aCp(K:KFr)(hu:X.A.units+64<cLine)(hK:X.K=K:=by rfl):rH X (compareOp .Eq) (OI K true):=by
 subst hK;unfold OI;intro a s σ H x y v u Q I c m h;obtain ⟨d,o,n,l,i,j,q⟩:=h;obtain ⟨p,b⟩:=n.reads I c;obtain ⟨bs,e⟩:=l.reads I m;exact SeqAt.compareEq_shaped b e i j hu ⟨.bl _,H,I,by show _=_;simp,q⟩
theorem aCk(K:KFr)(hu:X.A.units+64<cLine)(hK:X.K=K:=by rfl):rH X (compareOp .NotEq) (OI K false):=by
 subst hK;unfold OI;intro a s σ H x y v u Q I c m h;obtain ⟨d,o,n,l,i,j,q⟩:=h;obtain ⟨p,b⟩:=n.reads I c;obtain ⟨bs,e⟩:=l.reads I m;exact SeqAt.compareNe_shaped b e i j hu ⟨.bl _,H,I,by show _=_;simp,q⟩
end
section
variable{K:KFr}{H:Hp}{p:Addr}{xs:List V}{i:Int}{v:V}{Q:VK}
theorem reK{b:Bool}{x y:V}{d d':PyData}(h1:oI K H d x)(h2:oI K H d' y)(s1:SeqAt.shaped d=true)(s2:SeqAt.shaped d'=true)(q:Q (.bl (b == PyData.eqv d d')) H):OI K b x y H Q:=by
 unfold OI;exact ⟨d,d',h1,h2,s1,s2,q⟩
theorem uB(h:fN K H p xs)(e:HR xs i=some v)(q:Q v H):rIx K (.ref p) (.int i) H Q:=.inr (.inl ⟨p,xs,i,v,rfl,rfl,h,e,q⟩)
end
theorem EB(xs:List V)(k:Nat):rN xs (some (k:Int)) none=xs.drop k:=by
 unfold rN;rw [HT.CU,HT.xU];by_cases h:k<=xs.length
 ·rw [Nat.min_eq_left h];exact List.take_of_length_le (by rw [List.length_drop];exact aE _)
 ·rw [Nat.min_eq_right Oo,List.drop_of_length_le (aE _),List.drop_of_length_le Oo,List.take_nil]
theorem wW(xs:List V)(k:Nat):rN xs none (some (k:Int))=xs.take k:=by
 unfold rN;rw [HT.CU,HT.xU,List.drop_zero,Nat.sub_zero];by_cases h:k<=xs.length
 ·rw [Nat.min_eq_left h]
 ·rw [Nat.min_eq_right Oo,List.take_of_length_le (aE _),List.take_of_length_le Oo]
@[irreducible] def YD(K:KFr):V->Option Int->Option Int->Hp->VK->Prop:=aDH K
theorem pZ{X:Cx}(K:KFr)(h:X.K=K:=by rfl):SlR X (YD K):=by subst h;unfold YD;exact KZ
theorem slL{K:KFr}{H:Hp}{a:Addr}{xs ys:List V}{lo hi:Option Int}{Q:VK}(h:H a=some (.lst xs))(e:rN xs lo hi=ys)(k:∀q H',H q=none->H' q=some (.lst ys)->bA H H'->Q (.ref q) H'):YD K (.ref a) lo hi H Q:=by
 unfold YD;exact ⟨a,xs,rfl,fY.of h,λp b=>by rw [e];exact k p _ b bL (bA.upd b)⟩
section
variable{σ:St}{js:List Nat}{te:TE}{H:Hp}{Q:VK}
theorem sW{R:Nat->V->Prop}{ys:List V}{y:V}(h:∀(j:Nat) z,ys[j]?=some z->R j z)(r:R ys.length y):∀(j:Nat) z,(ys++[y])[j]?=some z->R j z:=λj z a=>by
 by_cases hji:j<ys.length
 ·rw [eY hji] at a;exact h j z a
 ·rw [eR Oo] at a;have:j-ys.length=0:=by
   by_cases q:j-ys.length=0
   ·exact q
   ·rw [cV (by simp;omega)] at a;cases a
  rw [this] at a;have b:y=z:=by simpa using a
  have:j=ys.length:=Oo;subst this b;exact r
theorem vE{J:It}{n:Nat}(src:Nat->V->Prop)(R:Nat->V->Hp->Prop)(hR:∀i y H1 H2,dL H1 H2->R i y H1->R i y H2)(hz:n<=100000)
  (hg:∀i H',bA H H'->i<n->J.go i H'/\∀x H3,J.yld i H' x H3->H3=H'/\src i x) (hst:∀H',bA H H'->J.stop n H')
  (hs:∀i x H' (Q':VK),src i x->i<n->bA H H'->(∀y H5,bA H' H5->R i y H5->Q' y H5)->te (some x::slots σ js) H' Q')
  (hd:∀D ys H',H D=none->H' D=some (.lst ys)->bA H H'->ys.length=n->(∀(i:Nat) (y:V),ys[i]?=some y->R i y H')->Q (.ref D) H'):oK J σ js uF te H Q:=by
 refine HF (J:=J) (n:=n) src hz (λD i ys H'=>H D=none/\bA H H'/\∀(i:Nat) (y:V),ys[i]?=some y->R i y H') (λD H1 hD _ s=>⟨hD,s,λi y h=>by simp at h⟩)
  (λD i ys H' c _ p=>hg i H' p.2.1 c) (λD ys H' _ p=>hst H' p.2.1) (λD i x ys H' u c b hD p=>?_) (λD ys H' b hD d p=>hd D ys H' hD d p.2.1 b p.2.2)
 refine hs i x H' _ u c p.2.1 λy H5 a r=>⟨a _ _ hD,λH6 o e=>⟨p.1,bA.thru p.1 (p.2.1.trans a) e,?_⟩⟩;have l:=e.t (a _ _ hD);exact sW (R:=λj z=>R j z H6) (λj z m=>hR j z _ _ (a.t.trans l) (p.2.2 j z m)) (by rw [b];exact hR i y _ _ l r)
theorem vF{K:KFr}{a:Addr}{xs:List V}(R:Nat->V->Hp->Prop)(hR:∀i y H1 H2,dL H1 H2->R i y H1->R i y H2)(hz:xs.length<=100000)(hl:H a=some (.lst xs))
  (hs:∀i x H' (Q':VK),xs[i]?=some x->bA H H'->(∀y H5,bA H' H5->R i y H5->Q' y H5)->te (some x::slots σ js) H' Q')
  (hd:∀D ys H',H D=none->H' D=some (.lst ys)->bA H H'->ys.length=xs.length->(∀(i:Nat) (y:V),ys[i]?=some y->R i y H')->Q (.ref D) H'):oK (Itl K a) σ js uF te H Q :=
 vE (λi x=>xs[i]?=some x) R hR hz (λi H' s c=>⟨⟨xs,xs[i],fY.of (s _ _ hl),by simp [c]⟩,λx H3 y=>⟨y.1,y.2 xs (fY.of (s _ _ hl))⟩⟩) (λH' s=>⟨xs,fY.of (s _ _ hl),aE _⟩)
  (λi x H' Q' b _ s k=>hs i x H' Q' b s k) hd
theorem oC{K:KFr}{a:Addr}{xs:List V}(R:Nat->V->Hp->Prop)(hR:∀i y H1 H2,dL H1 H2->R i y H1->R i y H2)(hz:xs.length<=100000)(hl:H a=some (.tup xs))
  (hs:∀i x H' (Q':VK),xs[i]?=some x->bA H H'->(∀y H5,bA H' H5->R i y H5->Q' y H5)->te (some x::slots σ js) H' Q')
  (hd:∀D ys H',H D=none->H' D=some (.lst ys)->bA H H'->ys.length=xs.length->(∀(i:Nat) (y:V),ys[i]?=some y->R i y H')->Q (.ref D) H'):oK (Itt K a) σ js uF te H Q :=
 vE (λi x=>xs[i]?=some x) R hR hz (λi H' s c=>⟨⟨xs,xs[i],fN.of (s _ _ hl),by simp [c]⟩,λx H3 y=>⟨y.1,y.2 xs (fN.of (s _ _ hl))⟩⟩) (λH' s=>⟨xs,fN.of (s _ _ hl),aE _⟩)
  (λi x H' Q' b _ s k=>hs i x H' Q' b s k) hd
theorem rE{lo:Int}{n:Nat}(R:Nat->V->Hp->Prop)(hR:∀i y H1 H2,dL H1 H2->R i y H1->R i y H2)(hz:n<=100000)
  (hs:∀i H' (Q':VK),i<n->bA H H'->(∀y H5,bA H' H5->R i y H5->Q' y H5)->te (some (.int (lo+(i:Nat)))::slots σ js) H' Q')
  (hd:∀D ys H',H D=none->H' D=some (.lst ys)->bA H H'->ys.length=n->(∀(i:Nat) (y:V),ys[i]?=some y->R i y H')->Q (.ref D) H'):oK (Itr lo n) σ js uF te H Q :=
 vE (λi x=>x=.int (lo+(i:Nat))) R hR hz (λi H' s a=>⟨a,λx H3 y=>y⟩) (λH' s=>aE _)
  (λi x H' Q' b a s k=>by subst b;exact hs i H' Q' a s k) hd
structure qP(p L:Addr)(Fd:Hp->Prop):Prop where
 but:∀D H1 H2,D≠p->D≠L->aU D H1 H2->Fd H1->Fd H2
 same:∀H1 H2,bA H1 H2->Fd H1->Fd H2
 lst:∀H',Fd H'->∃xs,H' p=some (.lst xs)
 np:∀H' D,Fd H'->H' D=none->D≠p/\D≠L
theorem aU.thru{p l:Addr}{H0 H1 H2:Hp}(hl:H0 l=none)(s:aU p H0 H1)(b:aU l H1 H2):aU p H0 H2:=λc o e=>by
 have n:=iM.ne e;have a:H0 c=some o:=by rw [iM.at n] at e;exact e
 have d:c≠l:=λz=>by subst z;rw [hl] at a;cases a
 exact iM.of n (b.at d (s.at n a))
theorem MU{J:It}{n:Nat}{p L:Addr}{Fd:Hp->Prop}(fl:qP p L Fd)(F0:Fd H)(src:Nat->V->Prop)(R:Nat->V->Hp->Prop)(hR:∀i y H1 H2,dL H1 H2->R i y H1->R i y H2)(hz:n<=100000)
  (hg:∀i H',aU p H H'->i<n->J.go i H'/\∀x H3,J.yld i H' x H3->H3=H'/\src i x) (hst:∀H',aU p H H'->J.stop n H')
  (hs:∀i x H' (Q':VK),src i x->i<n->Fd H'->aU p H H'->(∀y H5,Fd H5->aU p H' H5->R i y H5->Q' y H5)->te (some x::slots σ js) H' Q')
  (hd:∀D ys H',H D=none->H' D=some (.lst ys)->Fd H'->aU p H H'->ys.length=n->(∀(i:Nat) (y:V),ys[i]?=some y->R i y H')->Q (.ref D) H'):oK J σ js uF te H Q:=by
 refine HF (J:=J) (n:=n) src hz (λD i ys H'=>H D=none/\Fd H'/\aU p H H'/\∀(i:Nat) (y:V),ys[i]?=some y->R i y H') (λD H1 hD _ s=>⟨hD,fl.same _ _ s F0,s.but,λi y h=>by simp at h⟩)
  (λD i ys H' d _ q=>hg i H' q.2.2.1 d) (λD ys H' _ q=>hst H' q.2.2.1) (λD i x ys H' B d b hD q=>?_) (λD ys H' b hD e q=>hd D ys H' hD e q.2.1 q.2.2.1 b q.2.2.2)
 obtain ⟨np,o⟩:=fl.np H D F0 q.1;refine hs i x H' _ B d q.2.1 q.2.2.1 λy H5 F5 l r=>?_;obtain ⟨C,u⟩:=fl.lst H' q.2.1;have a:=l.at np hD;refine ⟨a,λH6 A c=>⟨q.1,fl.but D _ _ np o c F5,aU.thru q.1 (q.2.2.1.trans l) c,?_⟩⟩;have m:=c.t a;exact sW (R:=λj z=>R j z H6) (λj z w=>hR j z _ _ ((l.t u).trans m) (q.2.2.2 j z w)) (by rw [b];exact hR i y _ _ m r)
theorem VL{K:KFr}{a:Addr}{xs:List V}{p L:Addr}{Fd:Hp->Prop}(fl:qP p L Fd)(F0:Fd H)(R:Nat->V->Hp->Prop)(hR:∀i y H1 H2,dL H1 H2->R i y H1->R i y H2)(hz:xs.length<=100000)(na:a≠p)(hl:H a=some (.lst xs))
  (hs:∀i x H' (Q':VK),xs[i]?=some x->Fd H'->aU p H H'->(∀y H5,Fd H5->aU p H' H5->R i y H5->Q' y H5)->te (some x::slots σ js) H' Q')
  (hd:∀D ys H',H D=none->H' D=some (.lst ys)->Fd H'->aU p H H'->ys.length=xs.length->(∀(i:Nat) (y:V),ys[i]?=some y->R i y H')->Q (.ref D) H'):oK (Itl K a) σ js uF te H Q :=
 MU fl F0 (λi x=>xs[i]?=some x) R hR hz (λi H' s c=>⟨⟨xs,xs[i],fY.of (s.at na hl),by simp [c]⟩,λx H3 y=>⟨y.1,y.2 xs (fY.of (s.at na hl))⟩⟩) (λH' s=>⟨xs,fY.of (s.at na hl),aE _⟩)
  (λi x H' Q' b _ f s k=>hs i x H' Q' b f s k) hd
theorem VJ{lo:Int}{n:Nat}{p L:Addr}{Fd:Hp->Prop}(fl:qP p L Fd)(F0:Fd H)(R:Nat->V->Hp->Prop)(hR:∀i y H1 H2,dL H1 H2->R i y H1->R i y H2)(hz:n<=100000)
  (hs:∀i H' (Q':VK),i<n->Fd H'->aU p H H'->(∀y H5,Fd H5->aU p H' H5->R i y H5->Q' y H5)->te (some (.int (lo+(i:Nat)))::slots σ js) H' Q')
  (hd:∀D ys H',H D=none->H' D=some (.lst ys)->Fd H'->aU p H H'->ys.length=n->(∀(i:Nat) (y:V),ys[i]?=some y->R i y H')->Q (.ref D) H'):oK (Itr lo n) σ js uF te H Q :=
 MU fl F0 (λi x=>x=.int (lo+(i:Nat))) R hR hz (λi H' s a=>⟨a,λx H3 y=>y⟩) (λH' s=>aE _)
  (λi x H' Q' b a f s k=>by subst b;exact hs i H' Q' a f s k) hd
end
theorem bG.ofIdx{H:Hp}:∀{ds:List PyData}{ys:List V},ys.length=ds.length->(∀(i:Nat) (y:V),ys[i]?=some y->∃d,ds[i]?=some d/\cE H d y)->bG H ds ys
 | [],[],_,_=>bG.nil
 | d::ds,y::ys,hl,h=>by
  obtain ⟨d',e,r⟩:=h 0 y rfl;cases (show d=d' by simpa using e);exact bG.cons r (bG.ofIdx (by simpa using hl) λi z a=>by simpa using h (i+1) z (by simpa using a))
 | [],_::_,hl,_=>by simp at hl
 | _::_,[],hl,_=>by simp at hl
theorem tH{P:Nat->Int->Prop}:∀{ys:List V},(∀(i:Nat) (y:V),ys[i]?=some y->∃n,y=.int n/\P i n)->∃ns:List Int,ys=ns.map V.int/\∀(i:Nat) n,ns[i]?=some n->P i n
 | [],_=>⟨[],rfl,λi n h=>by simp at h⟩
 | y::ys,h=>by
  obtain ⟨n,rfl,hn⟩:=h 0 y rfl;obtain ⟨ns,rfl,b⟩:=tH (P:=λi=>P (i+1)) (ys:=ys) λi z c=>h (i+1) z (by simpa using c);refine ⟨n::ns,rfl,λi m a=>?_⟩;cases i with
  | zero=>cases (show n=m by simpa using a);exact hn
  | succ i=>exact b i m (by simpa using a)
end L2
namespace L2
open PySem PySem.Spec PyProof.Rows
theorem lQ.u1{k:Nat}{A:Around}(r:lQ k A):A.units+1<cLine:=by have:=r.units;omega
@[irreducible] def rDG:R2:=λx y H Q=>∃a v,x=.ref a/\vP H a y (some v)/\Q v H
@[irreducible] def rDP(D:rQ)(σ:St)(x y v:V)(H:Hp):Prop:=∃a H4,x=.ref a/\QF H a y v H4/\D.nx σ H4
def aAM(td ty tv:TE):TS:=λD σ H=>tv σ H λv H1=>td σ H1 λx H2=>ty σ H2 λy H3=>rDP D σ x y v H3
section
variable{X:Cx}{o i value k v:Expr}{td ty tv tk:TE}{pos pos':Pos}{ks:List (Option Expr)}{vs:List Expr}{trs:List (TE × TE)}
theorem BY(hu:X.A.units+1<cLine)(ho:gE X o td)(hi:gE X i ty)(hs:aDa i:=by intro _ _;rfl):gE X (.Subscript o i pos) (XE rDG td ty):=⟨by unfold rDG;exact YU hu ho.p hi.p hs⟩
theorem BR(hu:X.A.units+1<cLine)(ho:gE X o td)(hi:gE X i ty)(hv:gE X value tv)(hs:swapsWith value (some (.Subscript o i pos')) pos.line X.env=pure false:=by rfl) :
  JZ X (.Assign [.Subscript o i pos'] value pos) (aAM td ty tv):=⟨by unfold aAM rDP;exact YN hu ho.p hi.p hv.p hs⟩
end
section
variable{σ:St}{js:List Nat}{te:TE}{H:Hp}{Q:VK}
end
section
variable{X:Cx}
@[irreducible] def LK(K:KFr):R2:=λx y H Q=>∃a b xs ys,x=.ref a/\y=.ref b/\H a=some (.tup xs)/\H b=some (.tup ys)/\xs.length+ys.length<=1000/\∀c H',bA H H'->H' c=some (.tup (xs++ys))->Q (.ref c) H'
theorem JT{K:KFr}{H:Hp}{Q:VK}{a b:Addr}{xs ys:List V}(h1:H a=some (.tup xs))(h2:H b=some (.tup ys))(hz:xs.length+ys.length<=1000)(k:∀c H',bA H H'->H' c=some (.tup (xs++ys))->Q (.ref c) H'):LK K (.ref a) (.ref b) H Q:=by
 unfold LK;exact ⟨a,b,xs,ys,rfl,rfl,h1,h2,hz,k⟩
theorem oU(K:KFr)(hK:X.K=K:=by rfl):rH X (binaryOp .Add) (LK K):=by
 subst hK;unfold LK;intro d s σ H x y v u Q I z L h;obtain ⟨a,b,B,S,rfl,rfl,o,r,α,q⟩:=h;by_cases hx:B=[]
 ·cases z;cases L;subst hx;obtain ⟨P,O,N,_⟩:=I.tuple (fN.of o);obtain ⟨A,β,M,_⟩:=I.tuple (fN.of r);cases O;obtain ⟨⟨Y,Z,D,T⟩,J,C,n,hd⟩:=id N;obtain ⟨⟨G,m,l,w⟩,c,j,R,i⟩:=id M;simp only at C hd j i;subst C hd j i;exact concat_meets ⟨_,J,rfl⟩ ⟨_,c,rfl⟩ noFill_tuple_add seq_tuple_add PySem.F.slot_tuple_add PySem.F.entry_tuple_add (PySem.F.args_tuple_add_2 _ _)
   (tuple_addW0 a b _ _ n R Z m T w rfl) ⟨J,c,⟨.ref b,H,I,rfl,q b H (bA.refl _) r⟩⟩
 ·refine ZA d s σ H _ _ v u Q I z L ⟨a,b,B,S,rfl,rfl,fN.of o,fN.of r,hx,aZ α Dd,λe=>?_,λ_ p U=>q p _ (bA.upd U) bL⟩;subst e;exact q a H (bA.refl _) (by rw [List.append_nil];exact o)
end
theorem yO(a:Int)(t:Tok)(l:Addr)(items:Array Value)(n:Nat)(dd:Option Addr)(sl:Array (Option Value)) :
  Meets (Builtin.«int.__rmul__» ⟨[.int a t,.ref l],[]⟩) (λ_ R s=>s.heap.get? l=some { cls:=.type "tuple",dict:=dd,data:=.seq items n,slots:=sl }/\R (.ok (.ret Value.notImplemented)) s) :=
 .of_wp λb w A R s h=>by
  obtain ⟨e,g,d,c,i⟩:=s;obtain ⟨j,h⟩:=h
  wp_walk
  exact ⟨_,rfl,h⟩
theorem IG(l:Addr)(items:Array Value)(n:Nat)(dd:Option Addr)(sl:Array (Option Value))(k:Int)(u:Tok)(h0:2<=k)(h1:k<=64)(he:items.isEmpty=false)(hz:items.size<=64)(hsz:((List.replicate k.toNat items).foldl (· ++ ·) #[]).size<=sizeLine) :
  Meets (Builtin.«tuple.__mul__» ⟨[.ref l,.int k u],[]⟩) (λ_ R s=>s.heap.get? l=some { cls:=.type "tuple",dict:=dd,data:=.seq items n,slots:=sl }/\R (.ok (.ret (.ref s.heap.objs.size))) { s with heap:=s.heap.push { cls:=.type "tuple",data:=.seq ((List.replicate k.toNat items).foldl (· ++ ·) #[]) } }) :=
 .of_wp λc w A R s h=>by
  obtain ⟨i,g,d,j,o⟩:=s;obtain ⟨b,h⟩:=h;have p:=AutoSeq1.idx_int
  wp_walk using wpAny_loadPart' b
  rw [if_neg (by simp;omega)]
  wp_walk using wpAny_loadPart' b
  have a:¬items=#[]:=λz=>by simp [z] at he
  have e:(items.size:Int)*k<=4096:=by
   have m:(items.size:Int)*k<=64*64:=Int.mul_le_mul Oo h1 Oo Oo;omega
  rw [if_neg (by simp;exact ⟨a,Oo⟩)];rw [if_neg (by simp;exact ⟨Oo,a⟩)];show wpAny _ _ (if (items.size:Int)*k > (2^63-1)/8 then _ else _) _ _ _;rw [if_neg Oo];show wpAny _ _ (if Builtin.Tuple.tupleTooMany (items.size*k)=true then _ else _) _ _ _;rw [if_neg (by unfold Builtin.Tuple.tupleTooMany;simp;exact Int.le_trans e Dd)]
  wp_walk
  exact ⟨_,rfl,h⟩
theorem uV:fillsNumberSlot (.type "tuple") "mul" = pure false:=PySem.fillsNumberSlot_seq (id := "tuple.__mul__") (r:=some (.builtin "tuple.__rmul__")) F.slot_tuple_mul.lookup Kk F.slot_tuple_rmul.lookup Kk
theorem DA:seqRepeat? (.type "tuple")=pure (some (.builtin "tuple.__mul__")):=by
 unfold seqRepeat?;rw [PySem.seqSlot_of (T := "tuple") (name := "__mul__") (id := "tuple.__mul__") F.slot_tuple_mul.lookup Kk,PySem.seqSlot_of (T := "tuple") (name := "__rmul__") (id := "tuple.__rmul__") F.slot_tuple_rmul.lookup Kk];rfl
@[irreducible] def LI:R2:=λx y H Q=>∃a z,∃k:Nat,x=.ref a/\y=.int (k:Int)/\H a=some (.tup [z])/\2<=k/\k<=64/\∀c H',bA H H'->H' c=some (.tup (List.replicate k z))->Q (.ref c) H'
theorem aFH{H:Hp}{Q:VK}{a:Addr}{z:V}{k:Nat}(h:H a=some (.tup [z]))(h2:2<=k)(hk:k<=64)(q:∀c H',bA H H'->H' c=some (.tup (List.replicate k z))->Q (.ref c) H'):LI (.ref a) (.int (k:Int)) H Q:=by
 unfold LI;exact ⟨a,z,k,rfl,rfl,h,h2,hk,q⟩
section
variable{X:Cx}
theorem YZ:rH X (binaryOp .Mult) LI:=by
 unfold LI;intro A s σ H x y v u Q I J R h;obtain ⟨a,z,k,rfl,rfl,N,Z,m,q⟩:=h;cases J;obtain ⟨t,rfl⟩:=(show ∃t,u=Value.int (k:Int) t from R);obtain ⟨L,r,p,_⟩:=I.tuple (fN.of N);obtain ⟨c,rfl,l⟩:=mT r;obtain ⟨⟨P,G,B,C⟩,j,w,n,hd⟩:=id p;simp only at w hd;subst w hd;have d:∀k:Nat,(List.replicate k [c]).flatten=List.replicate k c:=λk=>by
  induction k with
  | zero=>rfl
  | succ k ih=>rw [List.replicate_succ,List.flatten_cons,ih,List.replicate_succ];rfl
 have D:List.foldl (λW O=>W++O) #[] (List.replicate k [c].toArray)=(List.replicate k c).toArray:=by
  have:=BA [c] k [];rw [List.nil_append,d] at this;exact this
 have S:∀k:Nat,eE (List.replicate k z) (List.replicate k c):=λk=>by
  induction k with
  | zero=>exact .nil
  | succ k ih=>exact .cons l ih
 generalize hk':(k:Int)=i;have e:i.toNat=k:=Oo;refine wpAny_binaryOp_repeat_ref (T := "tuple") (U := "int") Dd ⟨_,j,rfl⟩ (λM=>typeIs_int M i t) uV F.fills_int_mul F.slot_int_rmul DA F.slot_int_index.lookup
  (call_meets F.slot_int_rmul (typeIs_int s i t) F.entry_int_rmul (F.args_int_rmul_2 _ _) (yO i t a [c].toArray n G C) ⟨j,rfl,⟨_,j,rfl⟩,?_⟩)
 refine call_meets F.slot_tuple_mul ⟨_,j,rfl⟩ F.entry_tuple_mul (F.args_tuple_mul_2 _ _) (IG a [c].toArray n G C i t Oo Oo rfl (by show 1<=64;decide) (by rw [e,D,bI,dZ];exact aZ m Dd)) ⟨j,?_⟩;rw [e,D];refine ⟨.ref _,_,I.laid (t':=s.toks) (o:=.tup (List.replicate k z)) (λb Y q=>aD _ q) (aE _) ?_,rfl,q _ _ (bA.upd (I.hok.fresh (aE _))) bL⟩;exact ⟨⟨by rw [dZ];exact oR m,_,aX _ rfl,rfl⟩,_,S k,IsTup.new _ _⟩
end
@[irreducible] def OH:V->List V->Hp->VK->Prop:=LJ
theorem DJ{X:Cx}:MtR X "list.extend" OH:=by unfold OH;exact OT
theorem aFQ{H:Hp}{l b:Addr}{xs zs:List V}{Q:VK}(h:H l=some (.lst xs))(h2:H b=some (.lst zs))(hz:xs.length+zs.length<=1000)(k:∀H',H' l=some (.lst (xs++zs))->aU l H H'->Q .non H'):OH (.ref l) [.ref b] H Q:=by
 unfold OH;exact ⟨l,b,xs,zs,rfl,rfl,h,h2,Nat.le_of_lt (uL hz),k _ bL aU.self⟩
section
variable{prog:Program}{w:World}{A:Around}{E:Value->Shared->Prop}{s:Shared}{l:Addr}{xs:Array (Int × Tok)}
theorem RV{Q:Value->Shared->Prop}(hh:A.handled=none)(hl:s.heap.IsTuple l (intItems xs))
  (h:∀h' tk t',(∀b o,s.heap.get? b=some o->h'.get? b=some o)->Q (.int (preSum (numAt xs) xs.size) t') { s with heap:=h',toks:=tk }) :
  wpAny (model prog w) A (call (.builtin "sum") [.ref l]) Q E s:=by
 have d:l<s.heap.objs.size:=by obtain ⟨_,e,_⟩:=hl;exact bC e
 refine call_sum_walkG (wpAny_pyIter_tuple hl ?_);refine ⟨_,[_,l],[_],_,_,_,numAt xs,rfl,Walks.tuple (A:=A.in1) hh _ l (dH d) (intItems xs),⟨⟨_,aX _ rfl,rfl,rfl⟩,hl.push _⟩,λc a=>?_,(λ_ _=>intItems_at),λh' tk t' m=>?_⟩
 ·show c<(s.heap.push _).objs.size;rw [iU];rcases bE.mp a with rfl | a
  ·exact Nat.lt_succ_self _
  ·rcases bE.mp a with rfl | a
   ·exact Nat.lt_succ_of_lt d
   ·cases a
 ·have:=h h' tk t' λc o e=>by
   refine m c o (λi=>?_) (aD _ e);rcases bE.mp i with j | i
   ·exact absurd (j ▸ bC e) (cH _)
   ·cases i
  simpa [intItems] using this
end
@[irreducible] def LE(K:KFr):List V->Hp->VK->Prop:=λxs H Q=>∃(p:Addr) (ns:List Int),xs=[.ref p]/\fN K H p (ns.map V.int)/\Q (.int ns.sum) H
theorem rsT{K:KFr}{H:Hp}{p:Addr}{ns:List Int}{Q:VK}(h:fN K H p (ns.map V.int))(q:Q (.int ns.sum) H):LE K [.ref p] H Q:=by unfold LE;exact ⟨p,ns,rfl,h,q⟩
theorem aAg{X:Cx}(K:KFr)(hc:X.calm=true)(hK:X.K=K:=by rfl):jO X (.builtin "sum") (LE K):=by
 subst hK;unfold LE;intro d s σ H y A Q I r h;obtain ⟨p,j,rfl,m,q⟩:=h;obtain ⟨u,rfl,i⟩:=mT r;cases i;obtain ⟨a,l,pl,B⟩:=I.tuple m;have c:=yN l;obtain ⟨b,e⟩:=c.allInts.items;rw [e] at pl;refine RV (I.ok.hd hc) pl λx z w n=>⟨.int j.sum,H,I.kept n,⟨w,?_⟩,q⟩;rw [preSum_eq,List.take_of_length_le (by simp)];rw [<-c.numsOf];have o:a=(intItems b).toList:=by rw [<-e]
 rw [o,nums_intItems]
section
variable{js:List Nat}{te:TE}{tc:TT}{σ:St}{H:Hp}{Q:VK}
theorem bG.atI{α:Type}{g:α->PyData}:∀{as:List α}{xs:List V},bG H (as.map g) xs->∀{i:Nat}{x:V},xs[i]?=some x->∃a,as[i]?=some a/\cE H (g a) x:=by
 intro as xs r i x e;obtain ⟨d,b,c⟩:=r.get e;rw [aI] at b;cases q:as[i]? with
 | none=>rw [q] at b;cases b
 | some a=>rw [q] at b;cases b;exact ⟨a,rfl,c⟩
theorem PH{K:KFr}{a:Addr}{xs:List V}{α:Type}{g:α->PyData}{as:List α}(r:bG H (as.map g) xs)(p:α->Bool)(hz:xs.length<=100000)(hl:H a=some (.lst xs))
  (ht:∀x c H' (Q':Bool->Hp->Prop),c∈as->cE H' (g c) x->bA H H'->(∀H5,bA H' H5->Q' (p c) H5)->tc (some x::slots σ js) H' Q')
  (he:∀x H' (Q':VK),Q' x H'->te (some x::slots σ js) H' Q')
  (hd:∀D ys H',H D=none->H' D=some (.lst ys)->bA H H'->bG H' ((as.filter p).map g) ys->Q (.ref D) H'):oK (Itl K a) σ js tc te H Q:=by
 unfold oK;intro D hD;have l:xs.length=as.length:=by rw [r.len,aB]
 refine ⟨λi m ys H'=>m=xs.length-i/\i<=xs.length/\H' D=some (.lst ys)/\bA H H'/\bG H (((as.take i).filter p).map g) ys/\ys.length<=i,⟨xs.length,by simp,cC _,bL,bA.upd hD,bG.nil,aE _⟩,?_⟩;rintro i m ys H2 ⟨rfl,G,d,h,s,C⟩;refine ⟨d,?_⟩;by_cases hlt:i<xs.length
 ·have B:xs[i]?=some xs[i]:=aC hlt;refine .inr ⟨⟨xs,_,fY.of (h _ _ hl),B⟩,aY (m:=100000) Oo Dd,λx H3 u=>?_⟩;obtain ⟨rfl,j⟩:=u;have j:=j xs (fY.of (h _ _ hl));obtain ⟨c,w,z⟩:=r.atI j;have n:as.take (i+1)=as.take i++[c]:=by rw [iD,w];rfl
  refine ⟨λb H4=>b=p c/\bA H3 H4,ht x c H3 _ (aR w) (z.same h) h λH5 A=>⟨rfl,A⟩,?_⟩;rintro b H4 ⟨rfl,o⟩;by_cases hp:p c=true
  ·rw [if_pos hp];refine ⟨λy H5=>y=x/\H5=H4,he x H4 _ ⟨rfl,rfl⟩,?_⟩;rintro y H5 ⟨rfl,rfl⟩;refine ⟨o _ _ d,_,?_,rfl,hlt,bL,bA.thru hD (h.trans o) aU.self,?_,?_⟩
   ·omega
   ·rw [n,List.filter_append,bZ];have:List.filter p [c]=[c]:=by simp [hp]
    rw [this];exact bG.snoc s z
   ·rw [aV,List.length_singleton];omega
  ·rw [if_neg hp];refine ⟨o _ _ d,_,?_,rfl,hlt,o _ _ d,h.trans o,?_,?_⟩
   ·omega
   ·rw [n,List.filter_append];have:List.filter p [c]=[]:=by simp [hp]
    rw [this,List.append_nil];exact s
   ·omega
 ·have e:i=xs.length:=Oo;subst e;refine .inl ⟨⟨xs,fY.of (h _ _ hl),aE _⟩,hd D ys H2 hD d h ?_⟩;rw [l,bP] at s;exact s.same h
end
end L2
namespace Mf
def lw(n d:Int):Int × Int:=(n/(Int.gcd n d:Int),d/(Int.gcd n d:Int))
structure WP(n d:Int):Prop where
 pos:0<d
 low:Int.gcd n d=1
theorem jD{n d:Int}(h:0<d):0<(Int.gcd n d:Int):=by
 have:=Int.gcd_pos_of_ne_zero_right n (Int.ne_of_gt h);omega
theorem gQ{n d:Int}(h:0<d):WP (lw n d).1 (lw n d).2:=by
 have g:=jD (n:=n) h;refine ⟨?_,?_⟩
 ·exact Int.ediv_pos_of_pos_of_dvd h (Int.le_of_lt g) (Int.gcd_dvd_right n d)
 ·exact Int.gcd_ediv_gcd_ediv_gcd Oo
theorem aAX{n d:Int}:(lw n d).1*(Int.gcd n d:Int)=n/\(lw n d).2*(Int.gcd n d:Int)=d :=
 ⟨Int.ediv_mul_cancel (Int.gcd_dvd_left n d),Int.ediv_mul_cancel (Int.gcd_dvd_right n d)⟩
theorem kU{n d:Int}:(lw n d).1*d=n*(lw n d).2:=by
 obtain ⟨c,e⟩:=aAX (n:=n) (d:=d);generalize (lw n d).1=a at *;generalize (lw n d).2=b at *;generalize (Int.gcd n d:Int)=g at *;rw [<-c,<-e];rw [Int.mul_assoc,Int.mul_comm g b]
theorem MM{b a d:Int}(h:b ∣ a*d)(g:Int.gcd b a=1):b ∣ d:=by
 rw [<-Int.natAbs_dvd_natAbs,gZ] at h;rw [<-Int.natAbs_dvd_natAbs];rw [Int.gcd_eq_natAbs_gcd_natAbs] at g;exact Nat.Coprime.dvd_of_dvd_mul_left g h
theorem GF{a b c d:Int}(h1:WP a b)(h2:WP c d)(e:a*d=c*b):a=c/\b=d:=by
 have i:b ∣ d:=by
  have:b ∣ a*d:=by rw [e];exact Int.dvd_mul_left c b
  exact MM this (by rw [Int.gcd_comm];exact h1.low)
 have j:d ∣ b:=by
  have:d ∣ c*b:=by rw [<-e];exact Int.dvd_mul_left a d
  exact MM this (by rw [Int.gcd_comm];exact h2.low)
 have l:=h1.pos;have hd:=h2.pos;have h:b=d:=Int.dvd_antisymm (Int.le_of_lt l) (Int.le_of_lt hd) i j;subst h;exact ⟨Int.eq_of_mul_eq_mul_right Oo e,rfl⟩
theorem uX{a b n d:Int}(h:WP a b)(hd:0<d)(e:a*d=n*b):lw n d=(a,b):=by
 have c:=kU (n:=n) (d:=d);have q:=GF (gQ (n:=n) hd) h (by
  have i:d≠0:=Oo;apply Int.eq_of_mul_eq_mul_right i
  calc (lw n d).1*b*d=((lw n d).1*d)*b:=by rw [Int.mul_assoc,Int.mul_comm b d,<-Int.mul_assoc]
   _=(n*(lw n d).2)*b:=by rw [c]
   _=(n*b)*(lw n d).2:=by rw [Int.mul_assoc,Int.mul_comm (lw n d).2 b,<-Int.mul_assoc]
   _=(a*d)*(lw n d).2:=by rw [e]
   _=a*(lw n d).2*d:=by rw [Int.mul_assoc,Int.mul_comm d,<-Int.mul_assoc])
 exact Prod.ext q.1 q.2
theorem ZF{a b:Int}(h:WP a b):lw a b=(a,b):=uX h h.pos rfl
theorem pA{u a b:Int}(h1:Int.gcd u a=1)(h2:Int.gcd u b=1):Int.gcd u (a*b)=1:=by
 rw [Int.gcd_eq_natAbs_gcd_natAbs] at *;rw [gZ];exact Nat.Coprime.mul_right h1 h2
theorem mP{a b c:Int}(h:Int.gcd a b=1)(d:c ∣ b):Int.gcd a c=1:=by
 have:=Int.gcd_dvd_gcd_of_dvd_right a d;rw [h] at this;exact Nat.eq_one_of_dvd_one this
theorem jF{a b c:Int}(h:Int.gcd a b=1)(d:c ∣ a):Int.gcd c b=1:=by
 rw [Int.gcd_comm] at *;exact mP h d
theorem YQ{a b c d:Int}(h1:WP a b)(h2:WP c d) :
  let g:Int:=Int.gcd b d
  let u:=a*(d/g)+c*(b/g)
  let l:Int:=Int.gcd u g
  lw (a*d+c*b) (b*d)=(u/l,(b/g)*(d/l)):=by
 intro g u l;have D:0<g:=jD h2.pos;have R:0<l:=jD D;obtain ⟨r,p⟩:=Int.gcd_dvd_left b d;obtain ⟨o,n⟩:=Int.gcd_dvd_right b d;have p:b=g*r:=p;have n:d=g*o:=n;have z:b/g=r:=by rw [p];exact Int.mul_ediv_cancel_left _ Oo
 have O:d/g=o:=by rw [n];exact Int.mul_ediv_cancel_left _ Oo
 have J:u=a*o + c*r:=by show a*(d/g)+c*(b/g)=_;rw [z,O]
 have y:Int.gcd r o=1:=by
  have:=Int.gcd_ediv_gcd_ediv_gcd (i:=b) (j:=d) (by have:0<(Int.gcd b d:Int):=D;omega);have h:Int.gcd (b/g) (d/g)=1:=this
  rwa [z,O] at h
 have L:Int.gcd a r=1:=mP h1.low ⟨g,by rw [p,Int.mul_comm]⟩;have N:Int.gcd c o=1:=mP h2.low ⟨g,by rw [n,Int.mul_comm]⟩;have T:Int.gcd u r=1:=by
  rw [J,Int.add_comm,Int.gcd_mul_right_add_left,Int.gcd_mul_right_left_of_gcd_eq_one L,Int.gcd_comm];exact y
 have U:Int.gcd u o=1:=by
  rw [J,Int.gcd_mul_right_add_left,Int.gcd_mul_right_left_of_gcd_eq_one N];exact y
 obtain ⟨w,m⟩:=Int.gcd_dvd_left u g;obtain ⟨x,e⟩:=Int.gcd_dvd_right u g;have m:u=l*w:=m;have e:g=l*x:=e;have P:u/l=w:=by rw [m];exact Int.mul_ediv_cancel_left _ Oo
 have C:d/l=x * o:=by rw [n,e,Int.mul_assoc];exact Int.mul_ediv_cancel_left _ Oo
 have A:Int.gcd w x=1:=by
  have:=Int.gcd_ediv_gcd_ediv_gcd (i:=u) (j:=g) (by have:0<(Int.gcd u g:Int):=R;omega);have h:Int.gcd (u/l) (g/l)=1:=this;rw [P] at h
  rwa [show g/l=x from by rw [e];exact Int.mul_ediv_cancel_left _ Oo] at h
 rw [P,z,C];have s:w ∣ u:=⟨l,by rw [m,Int.mul_comm]⟩;have I:0<r:=by
  have:=h1.pos;rw [p] at this;exact Int.pos_of_mul_pos_right this Oo
 have B:0<o:=by
  have:=h2.pos;rw [n] at this;exact Int.pos_of_mul_pos_right this Oo
 have M:0<x:=by
  have:=D;rw [e] at this;exact Int.pos_of_mul_pos_right this Oo
 refine uX ⟨Int.mul_pos I (Int.mul_pos M B),?_⟩ (Int.mul_pos h1.pos h2.pos) ?_
 ·exact pA (jF T s) (pA A (jF U s))
 ·have S:a*d+c*b=g*(l*w):=by
   rw [<-m,J,p,n];rw [Int.mul_add,Int.mul_left_comm a,Int.mul_left_comm c]
  rw [S,p,n];generalize hG:g=G at *;rw [e];simp only [Int.mul_assoc,Int.mul_left_comm,Int.mul_comm]
theorem RJ{a b c d:Int}(h1:WP a b)(h2:WP c d) :
  let f:Int:=Int.gcd a d
  let s:Int:=Int.gcd c b
  lw (a*c) (b*d)=((a/f)*(c/s),(b/s)*(d/f)):=by
 intro f s;have N:0<f:=jD h2.pos;have M:0<s:=jD h1.pos;obtain ⟨u,p⟩:=Int.gcd_dvd_left a d;obtain ⟨e,m⟩:=Int.gcd_dvd_right a d;obtain ⟨r,o⟩:=Int.gcd_dvd_left c b;obtain ⟨l,n⟩:=Int.gcd_dvd_right c b;have p:a=f*u:=p;have m:d=f*e:=m;have o:c=s*r:=o;have n:b=s*l:=n;have I:a/f=u:=by rw [p];exact Int.mul_ediv_cancel_left _ Oo
 have G:d/f=e:=by rw [m];exact Int.mul_ediv_cancel_left _ Oo
 have D:c/s=r:=by rw [o];exact Int.mul_ediv_cancel_left _ Oo
 have C:b/s=l:=by rw [n];exact Int.mul_ediv_cancel_left _ Oo
 have A:Int.gcd u e=1:=by
  have:=Int.gcd_ediv_gcd_ediv_gcd (i:=a) (j:=d) (by have:0<(Int.gcd a d:Int):=N;omega);have h:Int.gcd (a/f) (d/f)=1:=this
  rwa [I,G] at h
 have w:Int.gcd r l=1:=by
  have:=Int.gcd_ediv_gcd_ediv_gcd (i:=c) (j:=b) (by have:0<(Int.gcd c b:Int):=M;omega);have h:Int.gcd (c/s) (b/s)=1:=this
  rwa [D,C] at h
 have z:Int.gcd u l=1:=jF (mP h1.low ⟨s,by rw [n,Int.mul_comm]⟩) ⟨f,by rw [p,Int.mul_comm]⟩;have B:Int.gcd r e=1:=jF (mP h2.low ⟨f,by rw [m,Int.mul_comm]⟩) ⟨s,by rw [o,Int.mul_comm]⟩;have y:0<l:=by
  have:=h1.pos;rw [n] at this;exact Int.pos_of_mul_pos_right this Oo
 have x:0<e:=by
  have:=h2.pos;rw [m] at this;exact Int.pos_of_mul_pos_right this Oo
 rw [I,C,D,G];refine uX ⟨Int.mul_pos y x,?_⟩ (Int.mul_pos h1.pos h2.pos) ?_
 ·have L:Int.gcd u (l * e)=1:=pA z A;have J:Int.gcd r (l * e)=1:=pA w B;rw [Int.gcd_comm] at L J ⊢;exact pA L J
 ·rw [p,n,o,m];simp only [Int.mul_assoc,Int.mul_left_comm,Int.mul_comm]
end Mf
namespace Mf
abbrev Fr:=Int × Int
def pC(x y:Fr):Fr:=lw (x.1*y.2+y.1*x.2) (x.2*y.2)
def pM(fs:List Fr):Fr:=fs.foldl pC (0,1)
def dN(f:Fr):Prop:=WP f.1 f.2
theorem jB{α:Type}{P:List α->Prop}(h0:P [])(hs:∀l a,P l->P (l++[a]))(l:List α):P l:=by
 have:∀r:List α,P r.reverse:=by
  intro r
  induction r with
  | nil=>exact h0
  | cons a r ih=>rw [List.reverse_cons];exact hs _ _ ih
 have:=this l.reverse
 rwa [List.reverse_reverse] at this
theorem nG(l:List Fr)(a:Fr):pM (l++[a])=pC (pM l) a:=by unfold pM;rw [List.foldl_append];rfl
theorem FD(l:List Fr):(∀f∈l,dN f)->dN (pM l):=by
 refine jB (P:=λl=>(∀f∈l,dN f)->dN (pM l)) (λ_=>⟨Dd,Dd⟩) (λl a c h=>?_) l;rw [nG];have e:=c λf d=>h f (cA _ d);have b:=h a (bW _ aQ);exact gQ (Int.mul_pos e.pos b.pos)
theorem UE{n d:Int}(h:0<d):(lw n d).2<=d/\(lw n d).1.natAbs<=n.natAbs:=by
 obtain ⟨c,e⟩:=aAX (n:=n) (d:=d);have g:=jD (n:=n) h;have p:=(gQ (n:=n) h).pos;generalize (lw n d).1=a at *;generalize (lw n d).2=b at *;generalize (Int.gcd n d:Int)=G at *;refine ⟨?_,?_⟩
 ·rw [<-e];have:=Int.mul_le_mul_of_nonneg_left (show (1:Int)<=G by omega) (Int.le_of_lt p);simpa using this
 ·rw [<-c,gZ];exact Nat.le_mul_of_pos_right _ Oo
def LU(x y:Fr):Prop:=x.1*y.2<y.1*x.2
theorem GE{x y z:Fr}(hx:0<x.2)(hy:0<y.2)(hz:0<z.2)(h1:LU x y)(h2:¬LU z y):LU x z:=by
 unfold LU at *;have h2:y.1*z.2<=z.1*y.2:=Oo;have a:(x.1*y.2)*z.2<(y.1*x.2)*z.2:=Int.mul_lt_mul_of_pos_right h1 hz;have b:(y.1*z.2)*x.2<=(z.1*y.2)*x.2:=Int.mul_le_mul_of_nonneg_right h2 (Int.le_of_lt hx);have c:(x.1*z.2)*y.2<(z.1*x.2)*y.2:=by
  calc (x.1*z.2)*y.2=(x.1*y.2)*z.2:=by simp only [Int.mul_assoc,Int.mul_left_comm,Int.mul_comm]
   _<(y.1*x.2)*z.2:=a
   _=(y.1*z.2)*x.2:=by simp only [Int.mul_assoc,Int.mul_left_comm,Int.mul_comm]
   _<=(z.1*y.2)*x.2:=b
   _=(z.1*x.2)*y.2:=by simp only [Int.mul_assoc,Int.mul_left_comm,Int.mul_comm]
 exact Int.lt_of_mul_lt_mul_right c (Int.le_of_lt hy)
theorem OU{x y:Fr}(h:LU x y):¬LU y x:=by unfold LU at *;omega
theorem yH{x:Fr}:¬LU x x:=by unfold LU;omega
structure jG(fs:List Fr)(n p:Nat)(y:Fr):Prop where
 at_:fs[p]?=some y
 lt:p<n
 no:∀(j:Nat) (x:Fr),j<n->fs[j]?=some x->¬LU x y
 first:∀(j:Nat) (x:Fr),j<p->fs[j]?=some x->LU y x
theorem jG.one{fs:List Fr}{y:Fr}(h:fs[0]?=some y):jG fs 1 0 y :=
 ⟨h,Oo,λj x a e=>by have:j=0:=Oo;subst this;rw [h] at e;cases e;exact yH,λj x a _=>Oo⟩
theorem jG.next{fs:List Fr}{n p:Nat}{y z:Fr}(L:jG fs n p y)(hp:∀f∈fs,dN f)(hz:fs[n]?=some z)(h:LU z y):jG fs (n+1) n z:=by
 have pos:∀{j:Nat} {x:Fr},fs[j]?=some x->0<x.2:=λe=>(hp _ (aR e)).pos;have all:∀(j:Nat) (x:Fr),j<n->fs[j]?=some x->LU z x:=λj x a e=>GE (pos hz) (pos L.at_) (pos e) h (L.no j x a e);refine ⟨hz,Oo,λj x a e=>?_,all⟩;by_cases q:j=n
 ·subst q;rw [hz] at e;cases e;exact yH
 ·exact OU (all j x Oo e)
theorem jG.stay{fs:List Fr}{n p:Nat}{y z:Fr}(L:jG fs n p y)(hz:fs[n]?=some z)(h:¬LU z y):jG fs (n+1) p y :=
 ⟨L.at_,by have:=L.lt;omega,λj x a e=>by
  by_cases q:j=n
  ·subst q;rw [hz] at e;cases e;exact h
  ·exact L.no j x Oo e,L.first⟩
end Mf
namespace Mf
theorem yG{n d n' d':Int}(hd:0<d)(hd':0<d')(e:n*d'=n' * d):lw n d=lw n' d':=by
 have h:=gQ (n:=n') hd';have c:=kU (n:=n') (d:=d');generalize lw n' d'=L at c h;refine uX (a:=L.1) (b:=L.2) h hd (Int.eq_of_mul_eq_mul_right (a:=d') Oo ?_)
 calc L.1*d*d'=(L.1*d')*d:=by ac_rfl
  _=n' * L.2*d:=by rw [c]
  _=(n' * d)*L.2:=by ac_rfl
  _=n*d' * L.2:=by rw [e]
  _=n*L.2*d':=by ac_rfl
def nY(f g:Fr):Fr:=lw (f.1*g.1) (f.2*g.2)
theorem mO{f g:Fr}(h:dN f)(h':dN g):dN (nY f g):=gQ (Int.mul_pos h.pos h'.pos)
theorem aCt{a b c d:Int}(hb:0<b)(hd:0<d):nY (lw a b) (lw c d)=lw (a*c) (b*d):=by
 have j:=(gQ (n:=a) hb).pos;have h:=(gQ (n:=c) hd).pos;refine yG (Int.mul_pos j h) (Int.mul_pos hb hd) ?_;have e:=kU (n:=a) (d:=b);have i:=kU (n:=c) (d:=d);generalize lw a b=L at *;generalize lw c d=M at *
 calc L.1*M.1*(b*d)=(L.1*b)*(M.1*d):=by ac_rfl
  _=(a*L.2)*(c*M.2):=by rw [e,i]
  _=a*c*(L.2*M.2):=by ac_rfl
theorem aC5{a b c d:Int}(hb:0<b)(hd:0<d):pC (lw a b) (lw c d)=lw (a*d+c*b) (b*d):=by
 have j:=(gQ (n:=a) hb).pos;have h:=(gQ (n:=c) hd).pos;refine yG (Int.mul_pos j h) (Int.mul_pos hb hd) ?_;have e:=kU (n:=a) (d:=b);have i:=kU (n:=c) (d:=d);generalize lw a b=L at *;generalize lw c d=M at *;rw [Int.add_mul,Int.add_mul];congr 1
 ·calc L.1*M.2*(b*d)=(L.1*b)*(M.2*d):=by ac_rfl
   _=(a*L.2)*(M.2*d):=by rw [e]
   _=a*d*(L.2*M.2):=by ac_rfl
 ·calc M.1*L.2*(b*d)=(M.1*d)*(L.2*b):=by ac_rfl
   _=(c*M.2)*(L.2*b):=by rw [i]
   _=c*b*(L.2*M.2):=by ac_rfl
theorem LT{d:Int}(h:0<d):lw 0 d=(0,1):=uX (a:=0) (b:=1) ⟨Dd,Dd⟩ h Oo
theorem aCw{d:Int}(h:0<d):lw d d=(1,1):=uX (a:=1) (b:=1) ⟨Dd,Dd⟩ h Oo
theorem NY{S:Int}(hS:0<S)(ps:List Int):pM (ps.map λp=>lw p S)=lw ps.sum S:=by
 induction ps using jB with
 | h0=>rw [show ([]:List Int).sum=0 from rfl,LT hS];rfl
 | hs l a ih =>
  rw [bZ,bF,List.map_nil,nG,ih,aC5 hS hS,List.sum_append];refine yG (Int.mul_pos hS hS) hS ?_;rw [show ([a]:List Int).sum=a by simp,<-Int.add_mul,Int.mul_assoc]
def uQ(f:Fr)(c:Nat):Fr:=(f.1^c,f.2^c)
theorem mK{f:Fr}(h:dN f):∀c:Nat,dN (uQ f c)
 | 0=>⟨by show 0<f.2^0;rw [Int.pow_zero];decide,by show Int.gcd (f.1^0) (f.2^0)=1;rw [Int.pow_zero,Int.pow_zero];decide⟩
 | c+1=>by
  have ih:=mK h c;have k:∀n:Nat,Int.gcd f.1 (f.2^n)=1:=λn=>by
   induction n with
   | zero=>rw [Int.pow_zero];exact Int.gcd_one_right _
   | succ n ih=>rw [Int.pow_succ];exact pA ih h.low
  refine ⟨?_,?_⟩
  ·show 0<f.2^(c+1);rw [Int.pow_succ];exact Int.mul_pos ih.pos h.pos
  ·show Int.gcd (f.1^(c+1)) (f.2^(c+1))=1;have a:∀n:Nat,Int.gcd (f.2^(c+1)) (f.1^n)=1:=λn=>by
    induction n with
    | zero=>rw [Int.pow_zero];exact Int.gcd_one_right _
    | succ n ih=>rw [show f.1^(n+1)=f.1^n*f.1 from Int.pow_succ ..];exact pA ih (by rw [Int.gcd_comm];exact k (c+1))
   rw [Int.gcd_comm];exact a (c+1)
def sI(zs:List (Fr × Nat)):Fr:=zs.foldl (λp q=>(p.1*q.1.1^q.2,p.2*q.1.2^q.2)) (1,1)
def rJ(zs:List (Fr × Nat)):Fr:=zs.foldl (λp q=>nY p (uQ q.1 q.2)) (1,1)
theorem qQ(l:List (Fr × Nat))(a:Fr × Nat):sI (l++[a])=((sI l).1*a.1.1^a.2,(sI l).2*a.1.2^a.2):=by unfold sI;rw [List.foldl_append];rfl
theorem uD(l:List (Fr × Nat))(a:Fr × Nat):rJ (l++[a])=nY (rJ l) (uQ a.1 a.2):=by unfold rJ;rw [List.foldl_append];rfl
theorem xB(l:List (Fr × Nat)):(∀z∈l,dN z.1)->0<(sI l).2:=by
 induction l using jB with
 | h0=>intro _;decide
 | hs l a ih =>
  intro h;rw [qQ];exact Int.mul_pos (ih λf b=>h f (cA _ b)) (mK (h a (by simp)) a.2).pos
theorem BV(l:List (Fr × Nat)):(∀z∈l,dN z.1)->rJ l=lw (sI l).1 (sI l).2:=by
 induction l using jB with
 | h0=>intro _;rfl
 | hs l a ih =>
  intro h;have b:∀f∈l,dN f.1:=λf d=>h f (cA _ d);have c:=mK (h a (by simp)) a.2;rw [uD,qQ,ih b];have e:uQ a.1 a.2=lw (a.1.1^a.2) (a.1.2^a.2):=(ZF c).symm;rw [e,aCt (xB l b) (show 0<a.1.2^a.2 from c.pos)]
theorem sJ(l:List (Fr × Nat))(h:∀z∈l,dN z.1):dN (rJ l):=by rw [BV l h];exact gQ (xB l h)
theorem uP{x:Int}{B:Nat}(h:x.natAbs<=2^B)(c:Nat):(x^c).natAbs<=2^(B*c):=by
 rw [Int.natAbs_pow,Nat.pow_mul];exact Nat.pow_le_pow_left h c
theorem WW{B:Nat}(l:List (Fr × Nat)):(∀z∈l,z.1.1.natAbs<=2^B/\z.1.2.natAbs<=2^B)->(sI l).1.natAbs<=2^(B*(l.map (·.2)).sum)/\(sI l).2.natAbs<=2^(B*(l.map (·.2)).sum):=by
 induction l using jB with
 | h0=>intro _;exact ⟨Nat.one_le_two_pow,Nat.one_le_two_pow⟩
 | hs l a ih =>
  intro h;obtain ⟨d,b⟩:=ih λf e=>h f (cA _ e);obtain ⟨i,c⟩:=h a (by simp);rw [qQ,bZ,List.sum_append,show ([a].map (·.2)).sum=a.2 by simp,Nat.mul_add,Nat.pow_add];exact ⟨by show ((sI l).1*a.1.1^a.2).natAbs<=_;rw [gZ];exact Nat.mul_le_mul d (uP i _),by show ((sI l).2*a.1.2^a.2).natAbs<=_;rw [gZ];exact Nat.mul_le_mul b (uP c _)⟩
theorem WX{B:Nat}(l:List (Fr × Nat))(hl:∀z∈l,dN z.1)(h:∀z∈l,z.1.1.natAbs<=2^B/\z.1.2.natAbs<=2^B):(rJ l).1.natAbs<=2^(B*(l.map (·.2)).sum)/\(rJ l).2.natAbs<=2^(B*(l.map (·.2)).sum):=by
 obtain ⟨c,d⟩:=WW l h;rw [BV l hl];have a:=xB l hl;obtain ⟨e,b⟩:=UE (n:=(sI l).1) a;have:=(gQ (n:=(sI l).1) a).pos;exact ⟨aZ b c,Oo⟩
theorem ES(l:List (Fr × Nat)):(∀z∈l,0<=z.1.1)->0<=(sI l).1:=by
 induction l using jB with
 | h0=>intro _;decide
 | hs l a ih =>
  intro h;rw [qQ];exact Int.mul_nonneg (ih λf b=>h f (cA _ b)) (Int.pow_nonneg (h a (by simp)))
end Mf
namespace Mf
theorem lG:∀(l:List Nat) (j v x:Nat),l[j]?=some x->(l.set j v).sum+x=l.sum+v
 | [],j,v,x,h=>by simp at h
 | a::l,0,v,x,h=>by
  have:a=x:=by simpa using h
  subst this;simp only [List.set_cons_zero,List.sum_cons];omega
 | a::l,j+1,v,x,h=>by
  have:=lG l j v x (by simpa using h);simp only [List.set_cons_succ,List.sum_cons];omega
def cta:Nat->Nat->List (List Nat)
 | 0,_=>[]
 | 1,m=>[[m]]
 | F+2,m=>(List.range (m+1)).flatMap λk=>(cta (F+1) (m-k)).map λc=>k::c
theorem gY:∀{F m:Nat}{c:List Nat},c∈cta F m->c.length=F/\c.sum=m
 | 0,m,c,h=>by cases h
 | 1,m,c,h=>by
  have:c=[m]:=by simpa [cta] using h
  subst this;simp
 | F+2,m,c,h=>by
  obtain ⟨k,a,h⟩:=List.mem_flatMap.mp h;obtain ⟨d,hd,rfl⟩:=aT.mp h;have a:=bT.mp a;obtain ⟨b,e⟩:=gY hd;refine ⟨by simp [b],?_⟩;rw [List.sum_cons];omega
end Mf
namespace Mf
end Mf
namespace L2
open PySem PySem.Spec PyProof.Rows
theorem WU{X:Cx}{e:Expr}{t:TT}(h:JY X e t):JY X e (rR t):=⟨h.p.mono⟩
end L2
namespace HT
open PySem PyProof.Rows
section
variable{prog:Program}{w:World}{A:Around}{E:Value->Shared->Prop}{s:Shared}
theorem rM{t sl:Addr}{items:Array Value}{vl vu:Value}{lo hi:Option Int}{Q:Value->Shared->Prop}(ht:IsTup s.heap t items)(hs:s.heap.IsSliceOf sl vl vu .none)(pl:IsPart vl lo)(pu:IsPart vu hi)
  (h0:iV items.size 0 lo=0) (h1:iV items.size items.size hi=items.size) (h:Q (.ref t) s):wpAny (model prog w) A (getItem (.ref t) (.ref sl)) Q E s:=by
 obtain ⟨j,e,c,i⟩:=id hs;have b:s.TypeIs (.ref sl) "slice" := ⟨j,e,c⟩;have d:s.TypeIs (.ref t) "tuple" := ht.typeIs;unfold getItem
 try with_reducible refine wpAny_holding ?_
 first | refine wpAny_bind (wpAny_pure ?_) | skip
 refine wpAny_bind (wpAny_sequenceKey ht.typeIs Dd ?_);refine wpAny_bind (wpAny_callSpecial?_slot (name:=Str.ofString "__getitem__") ht.typeIs PyProof.Rows.slot_tuple_getitem
  (wpAny_call_entry PyProof.Rows.slot_tuple_getitem ht.typeIs entry_tuple_getitem ?_ (args_tuple_getitem _ _)))
 show wpAny _ _ (Builtin.Tuple.tupleItemsOf (.ref t) >>= _) _ _ s;refine wpAny_bind (tupleItemsOf_ ht ?_);refine wpAny_bind (wpAny_typeOf b ?_);rw [if_pos Dd];refine wpAny_bind (nV hs pl pu ?_);have a:(((iV items.size 0 lo:Nat):Int) == 0&&(1:Int) == 1&&(iV items.size items.size hi-iV items.size 0 lo) == items.size)=true:=by
  rw [h0,h1];simp
 show wpAny _ _ (if (((iV items.size 0 lo:Nat):Int) == 0&&(1:Int) == 1&&(iV items.size items.size hi-iV items.size 0 lo) == items.size)=true then _ else _) _ _ s;rw [if_pos a];unfold Builtin.Tuple.tupleIsExact;refine wpAny_bind (wpAny_bind (wpAny_typeOf d (wpAny_pure ?_)));rw [if_pos Dd];refine wpAny_bind (wpAny_rule ?_)
 first
  | exact wpAny_pure ⟨_,rfl,wpAny_pure h⟩
  | exact wpAny_bind (wpAny_pure (wpAny_pure ⟨_,rfl,wpAny_pure h⟩))
end
end HT
namespace L2
open PySem PySem.W PySem.Spec PySem.Calls PyProof.Rows
theorem JO{xs:List V}{lo hi:Option Int}(h0:HT.iV xs.length 0 lo=0)(h1:HT.iV xs.length xs.length hi=xs.length):rN xs lo hi=xs:=by
 unfold rN;rw [h0,h1];simp
section
variable{X:Cx}
@[irreducible] def IY(K:KFr):V->Option Int->Option Int->Hp->VK->Prop:=λx lo hi H Q=>∃a xs,x=.ref a/\H a=some (.tup xs)/\∀c H',bA H H'->H' c=some (.tup (rN xs lo hi))->Q (.ref c) H'
theorem qV(K:KFr)(hK:X.K=K:=by rfl):SlR X (IY K):=by
 unfold IY;subst hK;intro d s σ H x v w y u l z Q I j m pl o h;obtain ⟨a,c,rfl,i,q⟩:=h;by_cases hw:HT.iV c.length 0 u=0/\HT.iV c.length c.length l=c.length
 ·cases j;obtain ⟨e,r,n,B⟩:=I.tuple (fN.of i);have b:e.toArray.size=c.length:=by rw [bI];exact r.length.symm
  refine ⟨"tuple",_,PyProof.Rows.slot_tuple_getitem.lookup,n.typeIs,HT.rM n m pl o (by rw [b];exact hw.1) (by rw [b];exact hw.2) ?_⟩;exact ⟨.ref a,H,I,rfl,q a H (bA.refl _) (by rw [JO hw.1 hw.2];exact i)⟩
 ·exact aBt d s σ H (.ref a) v w y u l z Q I j m pl o ⟨a,c,rfl,fN.of i,hw,λp A=>q p _ (bA.upd A) bL⟩
theorem IS{K:KFr}{H:Hp}{a:Addr}{xs:List V}{k:Nat}{Q:VK}(h:H a=some (.tup xs))(q:∀c H',bA H H'->H' c=some (.tup (xs.take k))->Q (.ref c) H'):IY K (.ref a) none (some (k:Int)) H Q:=by
 unfold IY;exact ⟨a,xs,rfl,h,λc H' s e=>q c H' s (by rw [e,wW])⟩
theorem aBu{K:KFr}{H:Hp}{a:Addr}{xs:List V}{k:Nat}{Q:VK}(h:H a=some (.tup xs))(q:∀c H',bA H H'->H' c=some (.tup (xs.drop k))->Q (.ref c) H'):IY K (.ref a) (some (k:Int)) none H Q:=by
 unfold IY;exact ⟨a,xs,rfl,h,λc H' s e=>q c H' s (by rw [e,EB])⟩
end
end L2
namespace HT
open PySem PySem.W PyProof.Rows
def dX{α:Type}(n:Nat)(lt:Nat->Nat->Bool)(R:α->Prop):KasT α->Prop
 | .ret a=>R a
 | .ask i j k=>i<n/\j<n/\dX n lt R (k (lt i j))
section
variable{n:Nat}{lt:Nat->Nat->Bool}
theorem dX.bind{α β:Type}{R:α->Prop}{S:β->Prop}{f:α->KasT β}:∀{t:KasT α},dX n lt R t->(∀a,R a->dX n lt S (f a))->dX n lt S (t.bind f)
 | .ret a,h,k=>k a h
 | .ask i j t,⟨h1,h2,h3⟩,k=>⟨h1,h2,dX.bind (t:=t (lt i j)) h3 k⟩
theorem dX.wp{α:Type}{R:α->Prop}{cmp:Nat->Nat->(Bool->Shared->Prop)->Shared->Prop}{Q:α->Shared->Prop}{s:Shared}(hc:∀i j C,i<n->j<n->C (lt i j) s->cmp i j C s)(q:∀a,R a->Q a s) :
  ∀{t:KasT α},dX n lt R t->t.kasWp cmp Q s
 | .ret a,h=>q a h
 | .ask i j t,⟨h1,h2,h3⟩=>hc i j _ h1 h2 (dX.wp (t:=t (lt i j)) hc q h3)
def gH(n:Nat)(p:Array Nat):Prop:=p.Perm (List.toArray (List.range n))
theorem gH.bd{p:Array Nat}(g:gH n p)(hn:0<n)(i:Nat):p.getD i 0<n:=by
 by_cases hi:i<p.size
 ·have e:p.getD i 0=p[i]:=by simp [Array.getD,hi]
  rw [e];have m:p[i]∈List.toArray (List.range n):=(Array.Perm.mem_iff g).mp (Array.getElem_mem hi);simpa using m
 ·have e:p.getD i 0=0:=by simp [Array.getD,hi]
  rw [e];exact hn
theorem gH.rev{p:Array Nat}(g:gH n p)(i j:Nat):gH n (kas_rev p i j):=(mirror_perm p i j _).trans g
theorem gH.bub{p:Array Nat}(g:gH n p)(i j:Nat):gH n (bubble p i j):=(bubble_perm p i j).trans g
theorem EL{p:Array Nat}(g:gH n p)(hn:0<n):∀(f m:Nat),dX n lt (λ_=>True) (kas_asc p f m)
 | 0,m=>True.intro
 | f+1,m=>⟨g.bd hn _,g.bd hn _,by
  cases lt (p.getD m 0) (p.getD (m-1) 0) with
  | true=>exact True.intro
  | false=>exact EL g hn f (m+1)⟩
theorem tX(hn:0<n):∀(f:Nat) {p:Array Nat}(g:gH n p) (m q:Nat),dX n lt (λr=>gH n r.1) (kas_desc f p m q)
 | 0,p,g,m,q=>g
 | f+1,p,g,m,q=>by
  refine ⟨g.bd hn _,g.bd hn _,?_⟩;cases lt (p.getD m 0) (p.getD (m-1) 0) with
  | true =>
   show dX n lt _ (if q > 0 then _ else _);split
   ·exact tX hn f (g.rev _ _) _ _
   ·exact tX hn f g _ _
  | false =>
   refine ⟨g.bd hn _,g.bd hn _,?_⟩;cases lt (p.getD (m-1) 0) (p.getD m 0) with
   | true=>exact g
   | false=>exact tX hn f g _ _
theorem BL{p:Array Nat}(g:gH n p)(hn:0<n)(m r:Nat):dX n lt (λr=>gH n r.2) (kas_tail3 m r p):=by
 unfold kas_tail3;exact (EL (g.rev 0 m) hn _ _).bind λ_ _=>g.rev 0 m
theorem tW{p:Array Nat}(g:gH n p)(hn:0<n)(m r:Nat):dX n lt (λr=>gH n r.2) (kas_descPart m r p):=by
 unfold kas_descPart;refine (tX hn _ g _ _).bind λr a=>?_;split
 ·exact BL (gH.rev a _ _) hn _ _
 ·exact BL a hn _ _
theorem QA{p:Array Nat}(g:gH n p)(hn:0<n)(m:Nat):dX n lt (λr=>gH n r.2) (kas_count m p):=by
 unfold kas_count;refine (EL g hn _ _).bind λk _=>?_;split
 ·exact g
 ·split
  ·refine ⟨g.bd hn _,g.bd hn _,?_⟩;cases lt (p.getD 0 0) (p.getD (k-1) 0) with
   | true=>exact g
   | false=>exact tW (g.rev _ _) hn _ _
  ·exact tW g hn _ _
theorem vK{p:Array Nat}(g:gH n p)(hn:0<n)(k:Nat):∀(f l r:Nat),dX n lt (λ_=>True) (kas_place p k f l r)
 | 0,l,r=>True.intro
 | f+1,l,r=>by
  unfold kas_place;split
  ·exact True.intro
  ·refine ⟨g.bd hn _,g.bd hn _,?_⟩;cases lt (p.getD k 0) (p.getD ((l+r)/2) 0) with
   | true=>exact vK g hn k f _ _
   | false=>exact vK g hn k f _ _
theorem NH(hn:0<n):∀(f:Nat) {p:Array Nat}(g:gH n p) (k:Nat),dX n lt (gH n) (kas_bin f p k)
 | 0,p,g,k=>g
 | f+1,p,g,k=>by
  unfold kas_bin;exact (vK g hn k _ _ _).bind λl _=>NH hn f (g.bub _ _) _
theorem WE(hn:0<n):dX n lt (gH n) (kas_sort n):=by
 unfold kas_sort;refine (QA (Array.Perm.refl _) hn n).bind λr a=>?_;split
 ·exact NH hn _ a _
 ·exact a
end
structure HV(n:Nat)(lt:Nat->Nat->Bool):Prop where
 tot:∀i j,i<n->j<n->i≠j->lt i j=false->lt j i=true
 tra:∀i j k,lt i j=true->lt j k=true->lt i k=true
def zQ(lt:Nat->Nat->Bool)(p:Array Nat)(m:Nat):Prop:=∀a b,a<b->b<m->lt (p.getD a 0) (p.getD b 0)=true
def Dsc(lt:Nat->Nat->Bool)(p:Array Nat)(m:Nat):Prop:=∀a b,a<b->b<m->lt (p.getD b 0) (p.getD a 0)=true
section
variable{n:Nat}{lt:Nat->Nat->Bool}
theorem dX.mono{α:Type}{R S:α->Prop}(k:∀a,R a->S a):∀{t:KasT α},dX n lt R t->dX n lt S t
 | .ret a,h=>k a h
 | .ask i j t,⟨h1,h2,h3⟩=>⟨h1,h2,dX.mono k (t:=t (lt i j)) h3⟩
theorem gH.size{p:Array Nat}(g:gH n p):p.size=n:=by
 have:=(Array.perm_iff_toList_perm.mp g).length_eq;simpa using this
theorem gH.ne{p:Array Nat}(g:gH n p){i j:Nat}(hi:i<n)(hj:j<n)(h:i≠j):p.getD i 0≠p.getD j 0:=by
 have d:p.toList.Nodup:=(Array.perm_iff_toList_perm.mp g).nodup_iff.mpr (by simpa using List.nodup_range);have a:=g.size;have b:p.getD i 0=p.toList[i]'(by simpa [a] using hi):=by simp [Array.getD,a,hi]
 have c:p.getD j 0=p.toList[j]'(by simpa [a] using hj):=by simp [Array.getD,a,hj]
 rw [b,c];intro e;exact h ((List.getElem_inj d).mp e)
theorem zQ.one{p:Array Nat}:zQ lt p 1:=λa b d c=>Oo
theorem zQ.more(O:HV n lt){p:Array Nat}(g:gH n p){m:Nat}(h:zQ lt p m)(h1:1<=m)(hm:m<n)(e:lt (p.getD m 0) (p.getD (m-1) 0)=false):zQ lt p (m+1):=λa b c j=>by
 by_cases q:b<m
 ·exact h a b c q
 ·have i:b=m:=Oo;subst i;have d:lt (p.getD (b-1) 0) (p.getD b 0)=true:=O.tot _ _ (g.bd Oo _) (g.bd Oo _) (g.ne Oo Oo Oo) e;by_cases r:a=b-1
  ·rw [r];exact d
  ·exact O.tra _ _ _ (h a (b-1) Oo Oo) d
theorem EJ(O:HV n lt){p:Array Nat}(g:gH n p):∀(f m:Nat),1<=m->m+f<=n->zQ lt p m->dX n lt (λk=>m<=k/\k<=m+f/\zQ lt p k/\(k<m+f->lt (p.getD k 0) (p.getD (k-1) 0)=true)) (kas_asc p f m)
 | 0,m,_,_,h=>⟨aE _,aE _,h,λq=>Oo⟩
 | f+1,m,h1,hm,h=>by
  refine ⟨g.bd Oo _,g.bd Oo _,?_⟩;cases e:lt (p.getD m 0) (p.getD (m-1) 0) with
  | true=>exact ⟨aE _,Oo,h,λ_=>e⟩
  | false =>
   refine (show dX n lt _ (kas_asc p f (m+1)) from ?_);have ih:=EJ O g f (m+1) Oo Oo (h.more O g h1 Oo e);exact dX.mono (λk ⟨d,c,b,a⟩=>⟨Oo,Oo,b,λq=>a Oo⟩) ih
theorem Dsc.more(O:HV n lt){p:Array Nat}{m:Nat}(h:Dsc lt p m)(h1:1<=m)(e:lt (p.getD m 0) (p.getD (m-1) 0)=true):Dsc lt p (m+1):=λa b c i=>by
 by_cases q:b<m
 ·exact h a b c q
 ·have d:b=m:=Oo;subst d;by_cases r:a=b-1
  ·rw [r];exact e
  ·exact O.tra _ _ _ e (h a (b-1) Oo Oo)
theorem HA(O:HV n lt){p:Array Nat}(g:gH n p):∀(f m:Nat),1<=m->m+f<=n->Dsc lt p m->dX n lt (λr=>r.1=p/\r.2.2=0/\m<=r.2.1/\r.2.1<=m+f/\Dsc lt p r.2.1) (kas_desc f p m 0)
 | 0,m,_,_,h=>⟨rfl,rfl,aE _,aE _,h⟩
 | f+1,m,h1,hm,h=>by
  refine ⟨g.bd Oo _,g.bd Oo _,?_⟩;cases e:lt (p.getD m 0) (p.getD (m-1) 0) with
  | true =>
   refine (show dX n lt _ (kas_desc f p (m+1) 0) from ?_);exact dX.mono (λr ⟨a1,a2,a3,a4,a5⟩=>⟨a1,a2,Oo,Oo,a5⟩) (HA O g f (m+1) Oo Oo (h.more O h1 e))
  | false =>
   refine ⟨g.bd Oo _,g.bd Oo _,?_⟩;rw [O.tot _ _ (g.bd Oo _) (g.bd Oo _) (g.ne Oo Oo Oo) e];exact ⟨rfl,rfl,aE _,(show m<=m+(f+1) by omega),h⟩
theorem SR{p:Array Nat}{m i:Nat}(hm:m<=p.size):(kas_rev p 0 m).getD i 0=if i<m then p.getD (m-1-i) 0 else p.getD i 0:=by
 have e:=getElem?_mirror (xs:=p) (i:=0) (j:=m) hm (m/2) Oo i;have a:(kas_rev p 0 m)[i]?=if (0<=i/\i<0+m/2)\/(m-m/2<=i/\i<m) then p[0+m-1-i]? else p[i]?:=e
 have g:∀(q:Array Nat) (k:Nat),q.getD k 0=q[k]?.getD 0:=λq k=>by simp [Array.getD_eq_getD_getElem?]
 rw [g,a,g,g];by_cases h:i<m
 ·rw [if_pos h];by_cases h2:(0<=i/\i<0+m/2)\/(m-m/2<=i/\i<m)
  ·rw [if_pos h2,show 0+m-1-i=m-1-i by omega]
  ·rw [if_neg h2,show m-1-i=i by omega]
 ·rw [if_neg h,if_neg Oo]
theorem Dsc.rev{p:Array Nat}{m:Nat}(h:Dsc lt p m)(hm:m<=p.size):zQ lt (kas_rev p 0 m) m:=λa b d c=>by
 rw [SR hm,SR hm,if_pos Oo,if_pos c];exact h _ _ Oo Oo
theorem PF(O:HV n lt){p:Array Nat}(g:gH n p)(hn:2<=n):dX n lt (λr=>gH n r.2/\1<=r.1/\r.1<=n/\zQ lt r.2 r.1) (kas_count n p):=by
 unfold kas_count;refine (EJ O g (n-1) 1 (aE _) Oo zQ.one).bind λk ⟨j,B,c,y⟩=>?_;split
 ·exact ⟨g,j,by show k<=n;omega,c⟩
 ·rename_i hk
  have A:k≠n:=λe=>hk (by simp [e]);split
  ·refine ⟨g.bd Oo _,g.bd Oo _,?_⟩;rw [c 0 (k-1) Oo Oo];exact ⟨g,j,by show k<=n;omega,c⟩
  ·have u:k=1:=Oo;subst u;unfold kas_descPart;have o:Dsc lt p 2:=λa b z I=>by
    have e:a=0/\b=1:=Oo;rw [e.1,e.2];exact y Oo
   refine (HA O g (n-2) 2 Oo Oo o).bind λr ⟨d,h,s,w,i⟩=>?_;obtain ⟨G,m,q⟩:=r;dsimp only at d h s w i ⊢;subst d h;rw [if_neg Dd];unfold kas_tail3;have C:=g.size;exact (EJ O (g.rev 0 m) (n-m) m Oo Oo (i.rev Oo)).bind λl ⟨J,D,x,_⟩=>⟨g.rev 0 m,(show 1<=l by omega),(show l<=n by omega),x⟩
theorem uR(O:HV n lt){p:Array Nat}(g:gH n p){k:Nat}(hk:k<n)(h:zQ lt p k):∀(f l r:Nat),l<=r->r<=k->r-l<=f->(∀a,a<l->lt (p.getD a 0) (p.getD k 0)=true)->(∀a,r<=a->a<k->lt (p.getD k 0) (p.getD a 0)=true) ->
  dX n lt (λm=>m<=k/\(∀a,a<m->lt (p.getD a 0) (p.getD k 0)=true)/\∀a,m<=a->a<k->lt (p.getD k 0) (p.getD a 0)=true) (kas_place p k f l r)
 | 0,l,r,h1,h2,h3,h4,h5=>⟨Oo,h4,λa q1 q2=>h5 a Oo q2⟩
 | f+1,l,r,h1,h2,h3,h4,h5=>by
  unfold kas_place;split
  ·exact ⟨Oo,h4,λa q1 q2=>h5 a Oo q2⟩
  ·refine ⟨g.bd Oo _,g.bd Oo _,?_⟩;cases e:lt (p.getD k 0) (p.getD ((l+r)/2) 0) with
   | true =>
    refine (show dX n lt _ (kas_place p k f l ((l+r)/2)) from ?_);refine uR O g hk h f l ((l+r)/2) Oo Oo Oo h4 λa q1 q2=>?_;by_cases q:a=(l+r)/2
    ·rw [q];exact e
    ·exact O.tra _ _ _ e (h _ _ Oo q2)
   | false =>
    refine (show dX n lt _ (kas_place p k f ((l+r)/2+1) r) from ?_);have e2:=O.tot _ _ (g.bd Oo _) (g.bd Oo _) (g.ne hk Oo Oo) e;refine uR O g hk h f ((l+r)/2+1) r Oo Oo Oo (λa q1=>?_) h5;by_cases q:a=(l+r)/2
    ·rw [q];exact e2
    ·exact O.tra _ _ _ (h a ((l+r)/2) Oo Oo) e2
theorem VX{p:Array Nat}{k m i:Nat}(hk:k<p.size)(hm:m<=k):(bubble p k (k-m)).getD i 0=if i=m then p.getD k 0 else if m<i/\i<=k then p.getD (i-1) 0 else p.getD i 0:=by
 have e:=getElem?_bubble (xs:=p) hk (k-m) Oo i;have g:∀(q:Array Nat) (k:Nat),q.getD k 0=q[k]?.getD 0:=λq k=>by simp [Array.getD_eq_getD_getElem?]
 rw [g,e,g,g,g,show k-(k-m)=m by omega];by_cases h:i=m
 ·rw [if_pos h,if_pos h]
 ·rw [if_neg h,if_neg h];by_cases h2:m<i/\i<=k
  ·rw [if_pos h2,if_pos h2]
  ·rw [if_neg h2,if_neg h2]
theorem NG(O:HV n lt):∀(f:Nat) {p:Array Nat}(g:gH n p) (k:Nat),k+f=n->zQ lt p k->dX n lt (λp=>gH n p/\zQ lt p n) (kas_bin f p k)
 | 0,p,g,k,hk,h=>⟨g,by rw [<-hk];exact h⟩
 | f+1,p,g,k,hk,h=>by
  unfold kas_bin;refine (uR O g Oo h k 0 k Oo Oo Oo (λa q=>Oo) (λa q1 q2=>Oo)).bind λm ⟨m1,m2,m3⟩=>?_;have hs:=g.size;refine NG O f (g.bub _ _) (k+1) Oo λa b c d=>?_;rw [VX Oo m1,VX Oo m1];by_cases ha:a=m
  ·rw [if_pos ha,if_neg Oo,if_pos Oo];exact m3 _ Oo Oo
  ·rw [if_neg ha];by_cases hb':b=m
   ·rw [if_pos hb',if_neg Oo];exact m2 a Oo
   ·rw [if_neg hb'];by_cases q1:m<a/\a<=k
    ·rw [if_pos q1,if_pos Oo];exact h _ _ Oo Oo
    ·rw [if_neg q1];by_cases q2:m<b/\b<=k
     ·rw [if_pos q2];exact h _ _ Oo Oo
     ·rw [if_neg q2];exact h _ _ c Oo
theorem SD(O:HV n lt)(hn:2<=n):dX n lt (λp=>gH n p/\zQ lt p n) (kas_sort n):=by
 unfold kas_sort;refine (PF O (Array.Perm.refl _) hn).bind λr ⟨b,c,d,a⟩=>?_;split
 ·rename_i q
  rw [Nat.max_eq_left c];exact NG O _ b _ Oo a
 ·rename_i q
  have e:r.1=n:=Oo;exact ⟨b,e ▸ a⟩
end
end HT
namespace L2
open PySem PySem.Spec PySem.W PyProof.Rows HT
theorem KK{x:V}{xs:List V}{us:List Value}(r:eE (x::xs) us):∃u us',us=u::us'/\eI x u/\eE xs us':=by
 cases r with
 | cons h t=>exact ⟨_,_,rfl,h,t⟩
def GJ(fin:Bool):List Int->List Int->Bool
 | x::a,y::b=>if x=y then GJ fin a b else decide (x<y)
 | _,_=>fin
def oY(a b:List Int):Bool:=GJ (decide (a.length<b.length)) a b
theorem yJ(a:List Int):oY a []=false:=by
 unfold oY;cases a <;> rfl
theorem DO(y:Int)(b:List Int):oY [] (y::b)=true:=by unfold oY;rfl
theorem DP(x y:Int)(a b:List Int):oY (x::a) (y::b)=if x=y then oY a b else decide (x<y):=by
 show (if x=y then GJ (decide ((x::a).length<(y::b).length)) a b else decide (x<y))=_;rw [dB,dB,show decide (a.length+1<b.length+1)=decide (a.length<b.length) by simp]
 rfl
theorem LX:∀{a b:List Int},a≠b->oY a b=false->oY b a=true
 | [],[],h,_=>absurd rfl h
 | [],y::b,_,e=>by rw [DO] at e;cases e
 | x::a,[],_,_=>DO _ _
 | x::a,y::b,h,e=>by
  rw [DP] at e ⊢;by_cases q:x=y
  ·subst q;rw [if_pos rfl] at e ⊢;exact LX (λz=>h (by rw [z])) e
  ·rw [if_neg q] at e;rw [if_neg (Ne.symm q)];have:=of_decide_eq_false e;exact cG Oo
theorem DM:∀{a b c:List Int},oY a b=true->oY b c=true->oY a c=true
 | a,b,[],_,h=>by rw [yJ] at h;cases h
 | [],b,z::c,_,_=>DO _ _
 | x::a,[],z::c,h,_=>by rw [yJ] at h;cases h
 | x::a,y::b,z::c,h1,h2=>by
  rw [DP] at h1 h2 ⊢;by_cases q1:x=y
  ·subst q1;rw [if_pos rfl] at h1;by_cases q2:x=z
   ·subst q2;rw [if_pos rfl] at h2 ⊢;exact DM h1 h2
   ·rw [if_neg q2] at h2 ⊢;exact h2
  ·rw [if_neg q1] at h1;have h1:=of_decide_eq_true h1;by_cases q2:y=z
   ·subst q2;rw [if_neg q1];exact cG h1
   ·rw [if_neg q2] at h2;have h2:=of_decide_eq_true h2;rw [if_neg Oo];exact cG Oo
theorem DN{a:List Int}:oY a a=false:=by
 induction a with
 | nil=>exact yJ _
 | cons x a ih=>rw [DP,if_pos rfl];exact ih
theorem GI:∀{l m:List (List Int)},l.Pairwise (λa b=>oY a b=true)->m.Pairwise (λa b=>oY a b=true)->(∀x,x∈l↔x∈m)->l=m
 | [],[],_,_,_=>rfl
 | [],y::m,_,_,h=>by have:=(h y).mpr (aQ ..);cases this
 | x::l,[],_,_,h=>by have:=(h x).mp (aQ ..);cases this
 | x::l,y::m,h1,h2,h=>by
  obtain ⟨d,i⟩:=List.pairwise_cons.mp h1;obtain ⟨c,b2⟩:=List.pairwise_cons.mp h2;have e:x=y:=by
   rcases bE.mp ((h x).mp (aQ ..)) with q | q
   ·exact q
   ·rcases bE.mp ((h y).mpr (aQ ..)) with r | r
    ·exact r.symm
    ·have:=DM (c x q) (d y r);rw [DN] at this;cases this
  subst e;rw [GI i b2 λz=>?_];constructor
  ·intro q;rcases bE.mp ((h z).mp (aG _ q)) with r | r
   ·subst r;have:=d z q;rw [DN] at this;cases this
   ·exact r
  ·intro q;rcases bE.mp ((h z).mpr (aG _ q)) with r | r
   ·subst r;have:=c z q;rw [DN] at this;cases this
   ·exact r
abbrev LV(cs:List (List Int)):Nat->Nat->Bool:=λi j=>oY (cs.getD i []) (cs.getD j [])
theorem aCi{cs:List (List Int)}(h:cs.Nodup):HV cs.length (LV cs):=⟨λi j l c ne e=>LX (λz=>by
  have a:cs.getD i []=cs[i]:=by simp [l]
  have d:cs.getD j []=cs[j]:=by simp [c]
  rw [a,d] at z;exact ne ((List.getElem_inj h).mp z)) e,λi j k m b=>DM m b⟩
section
variable{prog:Program}{w:World}{A:Around}{E:Value->Shared->Prop}{s:Shared}{Q:Bool->Shared->Prop}
theorem wB{fin:Bool}:∀{a b:List Int}{us vs:List Value}{i:Nat},eE (a.map V.int) us->eE (b.map V.int) vs->Q (GJ fin a b) s->KatLex prog w A true fin Q (us.zip vs) i s
 | [],b,us,vs,i,ha,hb,q=>by cases ha;exact kat_nil (by unfold GJ at q;exact q)
 | x::a,[],us,vs,i,ha,hb,q=>by
  cases hb;cases us with
  | nil=>exact kat_nil (by unfold GJ at q;exact q)
  | cons u us=>exact kat_nil (by unfold GJ at q;exact q)
 | x::a,y::b,us,vs,i,ha,hb,q=>by
  rw [bF] at ha hb;obtain ⟨u,us',rfl,⟨t,rfl⟩,ra⟩:=KK ha;obtain ⟨v,c,rfl,⟨e,rfl⟩,d⟩:=KK hb;rw [List.zip_cons_cons];refine kat_cons (wpAny_eqBool_int ?_);unfold GJ at q;by_cases h:x=y
  ·rw [if_pos h] at q;rw [show (x == y)=true by simp [h]];exact kat_yes (wB ra d q)
  ·rw [if_neg h] at q;rw [show (x == y)=false by simp [h]];refine kat_no ?_;cases (true&&i == 0) with
   | true=>exact oneLt_int q
   | false=>exact kat_one _ _ (lt_int q)
def aA7(h:Heap)(v:Value)(c:List Int):Prop:=∃b its,v=.ref b/\IsTup h b (List.toArray its)/\eE (c.map V.int) its/\c≠[]
abbrev jZ(h:Heap):List Value->List (List Int)->Prop:=Paired (aA7 h)
theorem jZ.get{h:Heap}:∀{vs:List Value}{cs:List (List Int)}{i:Nat},jZ h vs cs->i<vs.length->aA7 h (vs.getD i Value.none) (cs.getD i [])
 | _,_,_,.nil,hi=>by simp at hi
 | _,_,0,.cons t r,hi=>t
 | v::vs,c::cs,i+1,.cons t r,hi=>by
  have:=jZ.get (i:=i) r (by simpa using hi);simpa using this
theorem jZ.firsts{h:Heap}:∀{vs:List Value}{cs:List (List Int)},jZ h vs cs->∃fs,KatTups h vs fs/\fs.length=vs.length/\∀v∈fs,∃i t,v=Value.int i t
 | _,_,.nil=>⟨[],KatTups.nil,rfl,λv hv=>by cases hv⟩
 | v::vs,c::cs,.cons t r=>by
  obtain ⟨fs,h1,h2,h3⟩:=jZ.firsts r;obtain ⟨b,e,rfl,⟨o,j,d,n,hd⟩,hv,a⟩:=t;cases c with
  | nil=>exact absurd rfl a
  | cons x c =>
   rw [bF] at hv;obtain ⟨u,l,rfl,⟨t,rfl⟩,_⟩:=KK hv;exact ⟨.int x t::fs,KatTups.cons j d hd (by simp) h1,by simp [h2],λv hv=>by
    rcases bE.mp hv with rfl | hv
    ·exact ⟨_,_,rfl⟩
    ·exact h3 v hv⟩
theorem jZ.keep{h h':Heap}(k:∀b o,h.get? b=some o->o.cls=.type "tuple" -> h'.get? b=some o):∀{vs:List Value}{cs:List (List Int)},jZ h vs cs->jZ h' vs cs
 | _,_,.nil=>.nil
 | _,_,.cons ⟨b,its,e,⟨o,ho,hc,hd⟩,hv,hne⟩ r=>.cons ⟨b,its,e,⟨o,k b o ho hc,hc,hd⟩,hv,hne⟩ (jZ.keep k r)
theorem SE{n:Nat}{lt:Nat->Nat->Bool}(hn:2<=n):dX n lt (λp=>gH n p/\(HV n lt->zQ lt p n)) (kas_sort n):=by
 by_cases O:HV n lt
 ·exact dX.mono (λp h=>⟨h.1,λ_=>h.2⟩) (SD O hn)
 ·exact dX.mono (λp h=>⟨h,λz=>absurd z O⟩) (WE Oo)
theorem OE{a:Addr}{vs:List Value}{cs:List (List Int)}{n:Nat}{P:PySem.Fin->Shared->Prop}(ho:s.heap.get? a=some (seqObj "list" vs.toArray n))(ht:jZ s.heap vs cs)(h64:vs.length<64)
  (h:∀p:Array Nat,gH vs.length p->(HV vs.length (LV cs)->zQ (LV cs) p vs.length)->P (.done (.ret .none)) { s with heap:=sortedHeap s.heap a vs (List.toArray (p.toList.map λi=>vs.getD i Value.none)) }) :
  wpAny (model prog w) A (Builtin.«list.sort» ⟨[.ref a],[]⟩) P E s:=by
 rw [list_sort_plain];have α:a<s.heap.objs.size:=bC ho;refine wpAny_bind (listItems_at ho rfl ?_);refine wpAny_bind (listUpdate_at ho rfl ?_ (by rw [bI,sizeLine_eq];omega) (cC _));obtain ⟨J,x⟩:∃J,(s.heap.update a (Obj.mapSeq λ_=>#[])).get? a=some (seqObj "list" #[] J):=⟨_,get?_update_seq ho (λ_=>#[])⟩;refine wpAny_bind (seqEpoch_at x rfl ?_);refine wpAny_bind (wpAny_newTuple ?_ (by show vs.length<=_;rw [sizeLine_eq];omega));refine wpAny_bind (wpAny_newList ?_ (cC _));refine wpAny_holding ?_;have d:(((s.heap.update a (Obj.mapSeq λ_=>#[])).push (seqObj "tuple" vs.toArray 0)).push (seqObj "list" #[] 0)).get? a=some (seqObj "list" #[] J):=by
  rw [Heap.get?_push_ne _ _ _ (by rw [size_push',Heap.size_update];exact dH (Nat.lt_succ_of_lt α)),Heap.get?_push_ne _ _ _ (by rw [Heap.size_update];exact dH α)];exact x
 show wpAny (model prog w) A _ P E { s with heap:=((s.heap.update a (Obj.mapSeq λ_=>#[])).push (seqObj "tuple" vs.toArray 0)).push (seqObj "list" #[] 0) };dsimp only;have z:∀c:SortSt,∀p:Array Nat,gH vs.length p->(HV vs.length (LV cs)->zQ (LV cs) p vs.length)->(arrOf c).map (·.2)=List.toArray (p.toList.map λi=>vs.getD i Value.none) ->
   P (.done (.ret .none)) { s with heap:=sortedHeap s.heap a vs ((arrOf c).map (·.2)) }:=by
  intro c p B ho θ;rw [θ];exact h p B ho
 have m:jZ (((s.heap.update a (Obj.mapSeq λ_=>#[])).push (seqObj "tuple" vs.toArray 0)).push (seqObj "list" #[] 0)) vs cs:=ht.keep λb o D X=>by
  have O:b≠a:=λe=>by
   subst e;rw [ho] at D;cases D;exact absurd (show Value.type "list" = Value.type "tuple" from X) Dd
  exact aD _ (aD _ (by rw [Heap.get?_update_ne _ _ _ _ O];exact D))
 by_cases h2:vs.toArray.size<2
 ·rw [if_pos h2,if_pos h2];refine wpAny_bind (wpAny_pure ?_);rw [StateT.run_pure];refine wpAny_bind (wpAny_pure ?_);dsimp only;refine wpAny_bind (seqEpoch_at d rfl ?_);refine wpAny_bind (listUpdate_at d rfl ?_ (hsz2:=by rw [Array.size_map];show (pairsOf vs).size<=_;rw [pairsOf_size,sizeLine_eq];omega));simp only [bne_self_eq_false,Bool.false_eq_true,if_false];refine wpAny_pure (z (SortSt.mk' general' (vs.toArray.zip vs.toArray) #[] 7 none) (List.toArray (List.range vs.length)) (Array.Perm.refl _) (λ_ a b h1 ω=>by rw [bI] at h2;omega) ?_);have e:=kat_snds (ks:=vs) (vs:=vs) (st:=SortSt.mk' general' (vs.toArray.zip vs.toArray) #[] 7 none) (p:=List.toArray (List.range vs.length)) rfl (by
   have e:=kas_range (vs.toArray.zip vs.toArray);rw [show (vs.toArray.zip vs.toArray).size=vs.length by simp] at e;exact e.symm)
  exact e
 ·rw [if_neg h2,if_neg h2];have y:2<=vs.length:=by rw [bI] at h2;omega
  obtain ⟨fs,ξ,φ,ρ⟩:=m.firsts;refine wpAny_bind (kat_kind (T:=.type "int") ξ Oo (λv I=>?_) rfl ?_)
  ·obtain ⟨i,t,rfl⟩:=ρ v I;exact .now
  refine wpAny_bind (wpAny_mono (kat_run (ks:=vs) (vs:=vs) (G:=λp u=>u={ s with heap:=((s.heap.update a (Obj.mapSeq λ_=>#[])).push (seqObj "tuple" vs.toArray 0)).push (seqObj "list" #[] 0) }/\gH vs.length p/\(HV vs.length (LV cs)->zQ (LV cs) p vs.length))
   (Q:=λc u=>u={ s with heap:=((s.heap.update a (Obj.mapSeq λ_=>#[])).push (seqObj "tuple" vs.toArray 0)).push (seqObj "list" #[] 0) }/\failedOf c=none/\∃p:Array Nat,p.size=vs.length/\(gH vs.length p/\(HV vs.length (LV cs)->zQ (LV cs) p vs.length))/\arrOf c=p.map (kas_item (vs.toArray.zip vs.toArray)))
   rfl y h64 (λμ c u ο η ι Y=>⟨Y.1,ι,μ,ο,Y.2,η⟩)
   (dX.wp (n:=vs.length) (lt:=LV cs) (R:=λp=>gH vs.length p/\(HV vs.length (LV cs)->zQ (LV cs) p vs.length)) (λi j C ε κ δ=>?_) (λp B=>⟨rfl,B⟩) (SE y))) ?_ λ_ _ e=>e)
  ·obtain ⟨b,ζ,N,⟨o,D,X,υ,hd⟩,I,_⟩:=m.get ε;obtain ⟨b2,W,M,⟨ψ,S,τ,χ,U⟩,r,_⟩:=m.get κ;unfold kas_ask;rw [N,M];refine kat_lt D hd S U (wB I r ?_);have β:=I.length;have γ:=r.length;rw [aB] at β γ;rw [bI,bI,<-β,<-γ];exact δ
  rintro ⟨⟨⟩,c⟩ u ⟨rfl,ν,p,B,Z,L⟩;dsimp only;have l:=kat_snds rfl L;refine wpAny_bind (seqEpoch_at d rfl ?_);refine wpAny_bind (listUpdate_at d rfl ?_ (hsz2:=by rw [l,bI,aB,Array.length_toList,B,sizeLine_eq];omega));rw [ν];simp only [bne_self_eq_false,Bool.false_eq_true,if_false];exact wpAny_pure (z c p Z.1 Z.2 l)
end
theorem KL{X:Cx}{pins:List (Addr × Obj)}{σ:St}{H:Hp}{s:Shared}(I:cO X pins σ H s):∀{cs:List (List Int)}{ys:List V}{us:List Value},bG H (cs.map λc=>PyData.tuple (c.map .int)) ys->(∀c∈cs,c≠[])->eE ys us->jZ s.heap us cs
 | [],ys,us,r,hc,v=>by
  unfold bG at r;cases (show ys=[] from r);cases v;exact .nil
 | c::cs,ys,us,r,hc,v=>by
  rw [bF] at r;unfold bG at r;obtain ⟨y,ys',rfl,r1,r2⟩:=r;obtain ⟨u,m,rfl,rv,n⟩:=KK v;refine .cons ?_ (KL I r2 (λc h=>hc c (aG _ h)) n);unfold cE at r1;obtain ⟨a,i,rfl,l,b⟩:=r1;cases rv;obtain ⟨d,j,pl,e⟩:=I.tuple (fN.of l);have A:i=c.map V.int:=by
   clear j l hc e
   induction c generalizing i with
   | nil=>unfold bG at b;exact b
   | cons z c ih =>
    rw [bF] at b;unfold bG at b;obtain ⟨x,p,rfl,w,o⟩:=b;cases (show x=V.int z from w);rw [ih _ o];rfl
  subst A;exact ⟨a,d,rfl,pl,j,hc c (aQ ..)⟩
theorem KJ{ys:List V}{us:List Value}(v:eE ys us):∀ix:List Nat,(∀i∈ix,i<ys.length)->eE (ix.map λi=>ys.getD i .non) (ix.map λi=>us.getD i Value.none)
 | [],_=>.nil
 | i::ix,h=>by
  have hi:=h i (aQ ..);obtain ⟨u,d,b⟩:=v.get (i:=i) (x:=ys[i]) (by simp [hi]);refine .cons ?_ (KJ v ix λj c=>h j (aG _ c));have a:ys.getD i .non=ys[i]:=by simp [hi]
  have e:us.getD i Value.none=u:=by rw [aK,d];rfl
  show eI (ys.getD i .non) (us.getD i Value.none);rw [a,e];exact b
open Classical in
section
variable{X:Cx}{pins:List (Addr × Obj)}{σ:St}{H:Hp}{s:Shared}
end
section
variable{X:Cx}
end
end L2
namespace HT
open PySem PySem.Spec PyProof.Rows PySem.Builtin
section
variable{prog:Program}{w:World}{A:Around}{E:Value->Shared->Prop}{s:Shared}
end
section
variable{prog:Program}{w:World}{A:Around}{E:Value->Shared->Prop}{s:Shared}{K:Type}[DecidableEq K]{knd:HeapKind prog w K}
end
end HT
namespace L2
open PySem PySem.Spec PySem.W PyProof.Rows HT
section
variable{X:Cx}{pins:List (Addr × Obj)}{σ:St}{H:Hp}
end
end L2
namespace HT
open PySem PySem.Spec PyProof.Rows
section
variable{prog:Program}{w:World}{A:Around}{E:Value->Shared->Prop}{s:Shared}{it d:Addr}{es:Array DictEntry}{ep i:Nat}{od:Obj}
theorem ZN{Q:Option Value->Shared->Prop}(hit:s.heap.IsKeyIter it d i es.size ep)(hod:s.heap.get? d=some od)(hdd:od.data=.dict es ep)(hi:i<es.size)
  (h:∀h',h'.IsKeyIter it d (i+1) es.size ep->Heap.SameBut it s.heap h'->Q (some es[i].key) { s with heap:=h' }):wpAny (model prog w) A (pyNext (.ref it)) Q E s:=by
 obtain ⟨⟨u,o,m,p⟩,l,n,hd⟩:=id hit;simp only at n hd;subst n hd;have b:=hit.typeIs;unfold pyNext;refine wpAny_bind (wpAny_attempt (wpAny_callSpecial?_slot (name:=Str.ofString "__next__") b F.slot_dict_keyiterator_next (wpAny_call_entry F.slot_dict_keyiterator_next b F.entry_dict_keyiterator_next ?_ (F.args_dict_keyiterator_next_1 _))));have r:(Value.ref d == Value.none)=false:=rfl;have e:Builtin.Dict_items.ownsTuple "dict_keyiterator" = false:=Dd
 repeat (any_goals (first | assumption | (with_reducible refine wpAny_typeNameOfWhole_keyiter b ?_) | (with_reducible refine wpAny_isOneOf_keyiter b ?_) | (with_reducible refine wpAny_fieldsOf l rfl ?_) | (with_reducible refine wpAny_dictEntries hod hdd ?_) | (with_reducible refine wpAny_dictEpoch hod hdd ?_) | wp_step))
 rw [if_neg (show ¬((i:Int)<0) by omega),Int.toNat_natCast,Array.getElem?_eq_getElem hi];have a:(s.heap.update it (Obj.mapFields (·.setIfInBounds 1 (rawInt ((i:Int)+1))))).IsKeyIter it d (i+1) es.size ep :=
  ⟨_,Heap.get?_update_self _ l (Obj.isFreed_of_fields (Obj.data_mapFields rfl _)),(Obj.cls_mapFields ..).trans rfl,by rw [Obj.data_mapFields rfl];simp [rawInt]⟩
 have j:({ s with heap:=s.heap.update it (Obj.mapFields (·.setIfInBounds 1 (rawInt ((i:Int)+1)))) }:Shared).TypeIs (.ref it) "dict_keyiterator" := a.typeIs;have c:=h _ a (Heap.SameBut.update ..)
 repeat (any_goals (first | assumption | (with_reducible refine wpAny_typeNameOfWhole_keyiter b ?_) | (with_reducible refine wpAny_isOneOf_keyiter b ?_) | (with_reducible refine wpAny_isOneOf_keyiter j ?_) | (with_reducible refine wpAny_setField l rfl (by rw [e];simp) ?_) | wp_step))
 exact ⟨_,rfl,wpAny_pure c⟩
theorem aCA{Q:Option Value->Shared->Prop}(hh:A.handled=none)(hit:s.heap.IsKeyIter it d i es.size ep)(hod:s.heap.get? d=some od)(hdd:od.data=.dict es ep)(hi:es.size<=i)
  (h:∀h',Heap.ExtBut it s.heap h'->Q none { s with heap:=h' }):wpAny (model prog w) A (pyNext (.ref it)) Q E s:=by
 obtain ⟨⟨p,m,e,n⟩,l,j,hd⟩:=id hit;simp only at j hd;subst j hd;have a:=hit.typeIs;have o:(Value.ref d == Value.none)=false:=rfl;have c:Builtin.Dict_items.ownsTuple "dict_keyiterator" = false:=Dd;unfold pyNext;refine wpAny_bind (wpAny_attempt (wpAny_callSpecial?_slot (name:=Str.ofString "__next__") a F.slot_dict_keyiterator_next (wpAny_call_entry F.slot_dict_keyiterator_next a F.entry_dict_keyiterator_next ?_ (F.args_dict_keyiterator_next_1 _))))
 repeat (any_goals (first | assumption | (with_reducible refine wpAny_typeNameOfWhole_keyiter a ?_) | (with_reducible refine wpAny_isOneOf_keyiter a ?_) | (with_reducible refine wpAny_fieldsOf l rfl ?_) | (with_reducible refine wpAny_dictEntries hod hdd ?_) | (with_reducible refine wpAny_dictEpoch hod hdd ?_) | wp_step))
 rw [if_neg (show ¬((i:Int)<0) by omega),Int.toNat_natCast,Array.getElem?_eq_none hi]
 repeat (any_goals (first | assumption | (with_reducible refine wpAny_typeNameOfWhole_keyiter a ?_) | (with_reducible refine wpAny_setField l rfl (by rw [c];simp) ?_) | wp_step))
 simp only [raiseNew];refine wpAny_bind (wpAny_handled ?_);rw [show A.in1.handled=none from hh];refine wpAny_bind (wpAny_pure (wpAny_throw ?_));refine wpAny_bind (wpAny_isInstance (T := "StopIteration") (b:=true) ⟨_,aX _ rfl,rfl⟩ isSubtype_stop ?_);exact wpAny_pure (h _ (((Heap.SameBut.update ..).extBut.push _).push _))
theorem ZO{Q:Value->Shared->Prop}(hd:(d == sysModules)=false)(hod:s.heap.get? d=some od)(hex:od.ExactDict)(hdd:od.data=.dict es ep)
  (hQ:Q (.ref s.heap.objs.size) { s with heap:=s.heap.push { cls:=.type "dict_keyiterator",data:=.fields #[.ref d,.int 0 0,.int es.size 0,.int ep 0] } }):wpAny (model prog w) A (pyIter (.ref d)) Q E s:=by
 have a:s.TypeIs (.ref d) "dict" := ⟨od,hod,hex.1⟩;refine wpAny_pyIter_slot a F.slot_dict_iter (wpAny_call_entry F.slot_dict_iter a F.entry_dict_iter ?_ (F.args_dict_iter_1 _));unfold Builtin.«dict.__iter__»;refine wpAny_bind ?_;unfold Builtin.Dict.dictSlotNone;refine wpAny_bind (wpAny_notOrdered_dict a ?_);show wpAny _ _ (pure (Value.ref d)) _ _ s;refine wpAny_pure ?_;have b:(d == sysModules)=false:=hd
 repeat (any_goals (first | assumption | (with_reducible refine wpAny_dictEntries hod hdd ?_) | (with_reducible refine wpAny_dictEpoch hod hdd ?_) | wp_step))
 exact ⟨_,rfl, "dict_keyiterator",_,⟨_,aX _ rfl,rfl⟩,F.slot_dict_keyiterator_next.lookup,hQ⟩
end
end HT
namespace L2
open PySem PySem.Spec PySem.W PyProof.Rows HT
section
variable{X:Cx}{pins:List (Addr × Obj)}{σ:St}{H:Hp}{s:Shared}
theorem yB{α β:Type}{R:α->β->Prop}:∀{l:List α}{m:List β}{i:Nat}{a:α},Paired R l m->l[i]?=some a->∃b,m[i]?=some b/\R a b
 | _,_,i,a,.nil,h=>by simp at h
 | _,_,0,a,.cons r t,h=>by
  cases (show _=a by simpa using h);exact ⟨_,rfl,r⟩
 | _,_,i+1,a,.cons r t,h=>by
  obtain ⟨b,h1,h2⟩:=yB t (by simpa using h);exact ⟨b,by simpa using h1,h2⟩
end
section
variable{X:Cx}{tg:Expr}
end
end L2
namespace HT
open PySem PySem.Spec PyProof.Rows PySem.W
section
variable{prog:Program}{w:World}{A:Around}{d:Addr}{o:Obj}{es:Array DictEntry}{ep:Nat}
theorem NT(hh:A.handled=none)(I:Addr)(hne:d≠I)(hdat:o.data=.dict es ep) :
  Walks prog w A I [I,d] [I] es.size (λi v=>∃hi:i<es.size,v=es[i].key) (λi h=>h.IsKeyIter I d i es.size ep/\h.get? d=some o) where
 sub:=λb c=>by simp at c;simp [c]
 frame:=λ_ _ _ a r=>⟨a.1.at λo e=>r I (by simp) o e,r d (by simp) o a.2⟩
 item:=λi s Q E hi a l=>ZN a.1 a.2 hdat hi λp j m =>
  l _ p s.toks ⟨hi,rfl⟩ ⟨j,(m.2 d hne).trans a.2⟩ λb o c e=>(m.2 b (λh=>c (by simp [h]))).trans e
 done:=λs Q E a l=>aCA hh a.1 a.2 hdat (aE _) λp n=>l p s.toks λb o c e=>n b o (λh=>c (by simp [h])) e
 self:=λ_ _ _ _ a l=>wpAny_pyIter_keyiter a.1 l
theorem ZP(lo:(d == sysModules)=false)(hex:o.ExactDict)(hdat:o.data=.dict es ep):KdlSrc prog w "dict" d d es.size (λi v=>∃hi:i<es.size,v=es[i].key) (λh=>h.get? d=some o) where
 type:=λ_ a=>⟨o,a,hex.1⟩
 there:=λ_ a=>⟨bC a,bC a⟩
 keep:=λ_ _ a e=>e d (.inl rfl) o a
 notList:=Dd
 notTuple:=Dd
 hint:=λ_ _ _ _ a c=>kdl_hint_dict ⟨o,a,hex.1⟩ c
 iter:=λA s j a=>⟨_,_,λE Q b=>ZO lo a hex hdat b,NT j _ (dH (bC a)) hdat,⟨_,aX _ rfl,rfl,rfl⟩,aD _ a⟩
end
end HT
namespace L2
open PySem PySem.Spec PySem.W PyProof.Rows HT
section
variable{prog:Program}{w:World}{A:Around}{E:Value->Shared->Prop}{s:Shared}
theorem HH{T:String}{r d:Addr}{n:Nat}{P:Nat->Value->Prop}{OK:Heap->Prop}{Q:List Value->Shared->Prop}(K:KdlSrc prog w T r d n P OK)(hh:A.handled=none)(hok:OK s.heap)(hn:n<=sizeLine)
  (hQ:∀h' tk (acc':Array Value),(∀b o,s.heap.get? b=some o->h'.get? b=some o)->ItemsOf P acc' n->Q acc'.toList { s with heap:=h',toks:=tk }) :
  wpAny (model prog w) A (collect (.ref r)) Q E s:=by
 have lt:=K.there _ hok;have u:(s.heap.push (seqObj "list" #[] 0)).get? s.heap.objs.size=some { cls:=.type "list",data:=.seq #[] 0 }:=aX _ rfl
 let G:Result->Shared->Prop:=λa z=>∃g m l e,a=.ok (.ret (.ref s.heap.objs.size))/\z={ s with heap:=g,toks:=m }/\(∀b o,s.heap.get? b=some o->g.get? b=some o)/\g.get? s.heap.objs.size=some { cls:=.type "list",dict:=none,data:=.seq l e,slots:=#[] }/\ItemsOf P l n
 have ext:=kdl_extend (A:=A) (s:={ s with heap:=s.heap.push (seqObj "list" #[] 0) }) (R:=G) K hh (K.keep _ _ hok λb _ o e=>aD _ e) s.heap.objs.size (Nat.ne_of_gt lt.1) (Nat.ne_of_gt lt.2) (.ref s.heap.objs.size) 0 u
  (λg m l e i h j=>⟨g,m,l,e,rfl,rfl,λb o z=>i b o (dH (bC z)) (aD _ z),h,j⟩) hn
 unfold collect;refine wpAny_bind (wpAny_runValue (codeAny_builtin entry_proto_collect' ?_));rw [Around.under_plainId PySem.F.plain_proto_collect _];refine wpAny_bind (m:=newList []) (wpAny_newList (wpAny_pure ⟨plainId_quiet PySem.F.plain_list_iadd _,codeAny_builtin entry_list_iadd' ?_⟩));rw [Around.under_plainId PySem.F.plain_list_iadd _];refine wpAny_mono ext (λp z y=>?_) λe z ⟨_,_,_,_,q,_⟩=>by cases q
 cases p with
 | done f=>obtain ⟨g,m,l,e,q,rfl,i,h,j⟩:=y;cases q;exact wpAny_bind (wpAny_load h (wpAny_pure (hQ g m l i j)))
 | again c=>exact ⟨y.1,codeAny_mono y.2 λq z ⟨g,m,l,e,eq,x,i,h,j⟩=>by subst eq x;exact wpAny_bind (wpAny_load h (wpAny_pure (hQ g m l i j)))⟩
theorem IR{x:Value}{Q:Value->Shared->Prop}
  (h:wpAny (model prog w) A.in1 (collect x) (λvs s1=>∃h1 tk cs,s1={ s with heap:=h1,toks:=tk }/\(∀b o,s.heap.get? b=some o->h1.get? b=some o)/\jZ h1 vs cs/\vs.length<64 /\
   ∀(p:Array Nat) (h':Heap) (D:Addr) (c:Nat),gH vs.length p->(HV vs.length (LV cs)->zQ (LV cs) p vs.length)->(∀b o,h1.get? b=some o->h'.get? b=some o)->h1.objs.size<=D->h'.get? D=some (seqObj "list" (List.toArray (p.toList.map λi=>vs.getD i Value.none)) c)->Q (.ref D) { s with heap:=h',toks:=tk }) E s) :
  wpAny (model prog w) A (call (.builtin "sorted") [x]) Q E s:=by
 refine Calls.call_function_entry kind_sorted plain_sorted entry_sorted (args_sorted1 _) ?_;unfold Builtin.«sorted»;refine wpAny_bind (m:=checkCount "sorted" 1 1 _) (wpAny_pure ?_);refine wpAny_bind (wpAny_mono h (λvs s1 ⟨h1,tk,cs,e,l,u,j,q⟩=>?_) λ_ _ e=>e);subst e;refine wpAny_bind (wpAny_newList ?_ (by rw [sizeLine_eq];omega));have a:(h1.push (seqObj "list" vs.toArray 0)).get? h1.objs.size=some (seqObj "list" vs.toArray 0):=aX _ rfl;have keep:∀b o,h1.get? b=some o->(h1.push (seqObj "list" vs.toArray 0)).get? b=some o:=λb o q=>aD _ q;show wpAny _ _ _ _ _ { s with heap:=h1.push (seqObj "list" vs.toArray 0),toks:=tk };refine wpAny_bind (wpAny_holding (wpAny_call_entry slot_list_sort ⟨_,a,rfl⟩ entry_list_sort ?body (args_list_sort _)));refine OE (s:={ s with heap:=h1.push (seqObj "list" vs.toArray 0),toks:=tk }) a (u.keep λb o B _=>keep b o B) j λp z C=>⟨_,rfl,wpAny_pure ⟨_,rfl,?_⟩⟩;unfold sortedHeap;have r:((h1.push (seqObj "list" vs.toArray 0)).update h1.objs.size (Obj.mapSeq λ_=>#[])).get? h1.objs.size=some (seqObj "list" #[] _):=get?_update_seq a (λ_=>#[]);have y:=aD (seqObj "list" #[] 0) (aD (seqObj "tuple" vs.toArray 0) r);refine q p _ h1.objs.size _ z C (λb o e=>?_) (aE _) (get?_update_seq y λ_=>List.toArray (p.toList.map λi=>vs.getD i Value.none));have n:b<h1.objs.size:=bC e;have d:b≠h1.objs.size:=dH n;rw [Heap.get?_update_ne _ _ _ _ d]
 exact aD _ (aD _ (by rw [Heap.get?_update_ne _ _ _ _ d];exact keep b o e))
end
theorem aEg{X:Cx}{pins:List (Addr × Obj)}{σ:St}{H:Hp}{s:Shared}(I:cO X pins σ H s){d:Addr}{kvs:List (List iC × V)}(e:H d=some (.dT kvs)):(d == sysModules)=false/\(kvs.map (·.1)).Nodup/\∃o,s.heap.get? d=some o/\o.ExactDict/\∃es ep,o.data=.dict es ep/\es.size=kvs.length /\
  ∀(i:Nat) (hi:i<es.size) p,kvs[i]?=some p->∃b,es[i].key=.ref b/\H b=some (.tup (p.1.map kV)):=by
 obtain ⟨z,hd,y,a,o,es,ep,G,B,C,h,m⟩:=(show fA X.prog X.w H s.heap d (.dT kvs) from I.hok d _ e);have j:es.size=kvs.length:=by
  have:=congrArg List.length h;rw [aB,<-Paired.length a] at this;simpa using this
 have u:kvs.map (·.1)=y.map (·.1):=by
  clear h m j e z
  induction a with
  | nil=>rfl
  | cons r t ih=>rw [bF,bF,r.1,ih]
 refine ⟨hd,u ▸ m,o,G,B,es,ep,C,j,λi hi p A=>?_⟩;obtain ⟨x,D,J,n,L⟩:=yB a A;have l:es.toList[i]?=some (entryOfKey (tupleKind (gB X.prog X.w)) x):=by rw [h,aI,D];rfl
 have c:es[i]=entryOfKey (tupleKind (gB X.prog X.w)) x:=by
  have:es.toList[i]?=some es[i]:=by simp [hi]
  rw [this] at l;injection l
 rw [c];exact ⟨x.2.1,rfl,n⟩
abbrev kyI(c:List Int):List iC:=c.map Sum.inl
theorem kyV(c:List Int):(kyI c).map kV=c.map V.int:=by rw [List.map_map];rfl
@[irreducible] def DB:List V->Hp->VK->Prop:=λxs H Q=>∃(d:Addr) (kvs:List (List iC × V)) (cs:List (List Int)),xs=[.ref d]/\H d=some (.dT kvs)/\kvs.map (·.1)=cs.map kyI/\(∀c∈cs,c≠[])/\cs.length<64 /\
 ∀q (ys:List V) (ds:List (List Int)) H',ds.Perm cs->ds.Pairwise (λa b=>oY a b=true)->H q=none->H' q=some (.lst ys)->bG H' (ds.map λc=>PyData.tuple (c.map .int)) ys->bA H H'->Q (.ref q) H'
theorem rsrd{H:Hp}{Q:VK}{d:Addr}{kvs:List (List iC × V)}{cs:List (List Int)}(h:H d=some (.dT kvs))(hk:kvs.map (·.1)=cs.map kyI)(hc:∀c∈cs,c≠[])(hz:cs.length<64)
  (q:∀q (ys:List V) (ds:List (List Int)) H',ds.Perm cs->ds.Pairwise (λa b=>oY a b=true)->H q=none->H' q=some (.lst ys)->bG H' (ds.map λc=>PyData.tuple (c.map .int)) ys->bA H H'->Q (.ref q) H'):DB [.ref d] H Q:=by
 unfold DB;exact ⟨d,kvs,cs,rfl,h,hk,hc,hz,q⟩
theorem aAh{X:Cx}(hc:X.calm=true):jO X (.builtin "sorted") DB:=by
 unfold DB;intro U s σ H xs us Q I r h;obtain ⟨d,M,w,rfl,hq,N,κ,hz,q⟩:=h;obtain ⟨u,rfl,ψ⟩:=mT r;cases ψ;obtain ⟨P,β,o,ι,ν,es,ep,η,μ,ο⟩:=aEg I hq;have lk:M.length=w.length:=by have:=congrArg List.length N;simpa using this
 refine IR (HH (ZP P ν η) (show X.A.in1.handled=none from I.ok.hd hc) ι (by rw [sizeLine_eq];omega) λL υ R kp J=>?_);obtain ⟨la,J⟩:=J;have I1:cO X U σ H { s with heap:=L,toks:=υ }:=I.kept kp;have χ:∀(n:Nat) (l:List Value),l.length=n->∀(m:List (List Int)),m.length=n->(∀(i:Nat) v c,l[i]?=some v->m[i]?=some c->∃b,v=.ref b/\H b=some (.tup (c.map V.int)))->∃C:List V,eE C l/\bG H (m.map λc=>PyData.tuple (c.map .int)) C:=by
  intro n
  induction n with
  | zero =>
   intro l ε m P _;cases l with
   | nil=>cases m with
    | nil=>exact ⟨[],.nil,bG.nil⟩
    | cons _ _=>simp at P
   | cons _ _=>simp at ε
  | succ n ih =>
   intro l ε m P N;cases l with
   | nil=>simp at ε
   | cons v l=>cases m with
    | nil=>simp at P
    | cons c m =>
     obtain ⟨b,rfl,hb⟩:=N 0 v c rfl rfl;obtain ⟨C,ζ,T⟩:=ih l (by simpa using ε) m (by simpa using P) λi v p L h2=>N (i+1) v p (by simpa using L) (by simpa using h2);have rb:∀c:List Int,bG H (c.map PyData.int) (c.map V.int):=λc=>by
      induction c with
      | nil=>exact bG.nil
      | cons x c ih=>exact bG.cons (cE.int _) ih
     exact ⟨.ref b::C,.cons rfl ζ,bG.cons (cE.tup hb (rb c)) T⟩
 have G:R.toList.length=w.length:=by rw [Array.length_toList,la,μ,lk]
 obtain ⟨C,ζ,T⟩:=χ w.length R.toList G w rfl λi v c e1 S=>by
  obtain ⟨B,e⟩:=J i v (by rw [<-Array.getElem?_toList];exact e1);have hp:∃p,M[i]?=some p/\p.1=kyI c:=by
   have:(M.map (·.1))[i]?=some (kyI c):=by rw [N,aI,S];rfl
   rw [aI] at this;obtain ⟨p,L,h2⟩:=eJ.mp this;exact ⟨p,L,h2⟩
  obtain ⟨p,ξ,ω⟩:=hp;obtain ⟨b,k1,k2⟩:=ο i B p ξ;rw [ω,kyV] at k2;exact ⟨b,by rw [e,k1],k2⟩
 have δ:w.Nodup:=by
  rw [N] at β;exact List.Pairwise.of_map _ (λa b h e=>h (by rw [e])) β
 have W:C.length=w.length:=by rw [T.len,aB]
 refine ⟨L,υ,w,rfl,kp,KL I1 T κ ζ,Oo,λy h' D c hg ho keep hD α=>?_⟩;have z:y.toList.Perm (List.range w.length):=by
  have:=(Array.perm_iff_toList_perm.mp hg);rw [<-G];simpa using this
 have γ:∀i∈y.toList,i<C.length:=λi B=>by
  have:=z.mem_iff.mp B;rw [W];simpa using this
 have hl2:(y.toList.map λi=>C.getD i .non).length=w.length:=by rw [aB,z.length_eq,cR]
 have hn:=I1.hok.fresh hD;have sm:bA H (upd H D (.lst (y.toList.map λi=>C.getD i .non))):=bA.upd hn;refine ⟨.ref D,upd H D (.lst (y.toList.map λi=>C.getD i .non)),I1.laid (t':=υ) keep hD ⟨by rw [hl2,sizeLine_eq];omega,_,c,KJ ζ _ γ,α⟩,rfl,?_⟩;have ha:=ho (G ▸ aCi δ);have Y:=hg.size;have φ:(y.toList.map λi=>w.getD i []).Perm w:=by
  have L:=z.map λi=>w.getD i [];have e:(List.range w.length).map (λi=>w.getD i [])=w:=by
   apply List.ext_getElem?;intro i;rw [aI];by_cases B:i<w.length
   ·rw [eN B,aC B,Option.map_some,aK,aC B];rfl
   ·rw [cV (by simpa using B),cV Oo];rfl
  rwa [e] at L
 refine q D _ (y.toList.map λi=>w.getD i []) _ φ ?_ hn bL ?_ sm
 ·rw [List.pairwise_map,List.pairwise_iff_getElem];intro i j B hj θ;have τ:i<y.size:=by simpa using B
  have Z:j<y.size:=by simpa using hj
  have e1:y.toList[i]=y.getD i 0:=by rw [Array.getElem_toList];exact (by simp [Array.getD,τ]:y.getD i 0=y[i]).symm
  have S:y.toList[j]=y.getD j 0:=by rw [Array.getElem_toList];exact (by simp [Array.getD,Z]:y.getD j 0=y[j]).symm
  rw [e1,S];exact ha i j θ (by rw [<-Y];exact Z)
 ·have ρ:∀O:List Nat,(∀i∈O,i<w.length)->bG H ((O.map λi=>w.getD i []).map λc=>PyData.tuple (c.map .int)) (O.map λi=>C.getD i .non):=λO=>by
   induction O with
   | nil=>exact λ_=>bG.nil
   | cons i O ih =>
    intro h;have B:=h i (aQ ..);have hd:(w.map λc=>PyData.tuple (c.map .int))[i]?=some (PyData.tuple ((w.getD i []).map .int)):=by
     rw [aI,aK,aC B];rfl
    obtain ⟨x,hx,ψ⟩:=T.get' hd;have S:C.getD i .non=x:=by rw [aK,hx];rfl
    refine bG.cons ?_ (ih λj hj=>h j (aG _ hj));show cE H _ (C.getD i .non);rw [S];exact ψ
  exact (ρ y.toList λi B=>by rw [<-W];exact γ i B).same sm
end L2
namespace HT
open PySem PySem.Spec PyProof.Rows PySem.W
section
variable{prog:Program}{w:World}{A:Around}{E:Value->Shared->Prop}{s:Shared}{it d:Addr}{es:Array DictEntry}{ep i:Nat}{od:Obj}
theorem WZ{Q:Option Value->Shared->Prop}(hit:s.heap.IsValIter it d i es.size ep)(hod:s.heap.get? d=some od)(hdd:od.data=.dict es ep)(hi:i<es.size)
  (h:∀h',h'.IsValIter it d (i+1) es.size ep->Heap.SameBut it s.heap h'->Q (some es[i].val) { s with heap:=h' }):wpAny (model prog w) A (pyNext (.ref it)) Q E s:=by
 obtain ⟨⟨u,o,m,p⟩,l,n,hd⟩:=id hit;simp only at n hd;subst n hd;have b:=hit.typeIs;have r:(Value.ref d == Value.none)=false:=rfl;have e:Builtin.Dict_items.ownsTuple "dict_valueiterator" = false:=Dd;unfold pyNext;refine wpAny_bind (wpAny_attempt (wpAny_callSpecial?_slot (name:=Str.ofString "__next__") b F.slot_dict_valueiterator_next (wpAny_call_entry F.slot_dict_valueiterator_next b F.entry_dict_valueiterator_next ?_ (F.args_dict_valueiterator_next_1 _))))
 repeat (any_goals (first | assumption | (with_reducible refine wpAny_typeNameOfWhole_valiter b ?_) | (with_reducible refine wpAny_isOneOf_valiter b ?_) | (with_reducible refine wpAny_fieldsOf l rfl ?_) | (with_reducible refine wpAny_dictEntries hod hdd ?_) | (with_reducible refine wpAny_dictEpoch hod hdd ?_) | wp_step))
 rw [if_neg (show ¬((i:Int)<0) by omega),Int.toNat_natCast,Array.getElem?_eq_getElem hi];have a:(s.heap.update it (Obj.mapFields (·.setIfInBounds 1 (rawInt ((i:Int)+1))))).IsValIter it d (i+1) es.size ep :=
  ⟨_,Heap.get?_update_self _ l (Obj.isFreed_of_fields (Obj.data_mapFields rfl _)),(Obj.cls_mapFields ..).trans rfl,by rw [Obj.data_mapFields rfl];simp [rawInt]⟩
 have j:({ s with heap:=s.heap.update it (Obj.mapFields (·.setIfInBounds 1 (rawInt ((i:Int)+1)))) }:Shared).TypeIs (.ref it) "dict_valueiterator" := a.typeIs;have c:=h _ a (Heap.SameBut.update ..)
 repeat (any_goals (first | assumption | (with_reducible refine wpAny_typeNameOfWhole_valiter b ?_) | (with_reducible refine wpAny_isOneOf_valiter b ?_) | (with_reducible refine wpAny_isOneOf_valiter j ?_) | (with_reducible refine wpAny_setField l rfl (by rw [e];simp) ?_) | wp_step))
 exact ⟨_,rfl,wpAny_pure c⟩
theorem aBk{Q:Option Value->Shared->Prop}(hh:A.handled=none)(hit:s.heap.IsValIter it d i es.size ep)(hod:s.heap.get? d=some od)(hdd:od.data=.dict es ep)(hi:es.size<=i)
  (h:∀h',Heap.ExtBut it s.heap h'->Q none { s with heap:=h' }):wpAny (model prog w) A (pyNext (.ref it)) Q E s:=by
 obtain ⟨⟨p,m,e,n⟩,l,j,hd⟩:=id hit;simp only at j hd;subst j hd;have a:=hit.typeIs;have o:(Value.ref d == Value.none)=false:=rfl;have c:Builtin.Dict_items.ownsTuple "dict_valueiterator" = false:=Dd;unfold pyNext;refine wpAny_bind (wpAny_attempt (wpAny_callSpecial?_slot (name:=Str.ofString "__next__") a F.slot_dict_valueiterator_next (wpAny_call_entry F.slot_dict_valueiterator_next a F.entry_dict_valueiterator_next ?_ (F.args_dict_valueiterator_next_1 _))))
 repeat (any_goals (first | assumption | (with_reducible refine wpAny_typeNameOfWhole_valiter a ?_) | (with_reducible refine wpAny_isOneOf_valiter a ?_) | (with_reducible refine wpAny_fieldsOf l rfl ?_) | (with_reducible refine wpAny_dictEntries hod hdd ?_) | (with_reducible refine wpAny_dictEpoch hod hdd ?_) | wp_step))
 rw [if_neg (show ¬((i:Int)<0) by omega),Int.toNat_natCast,Array.getElem?_eq_none hi]
 repeat (any_goals (first | assumption | (with_reducible refine wpAny_typeNameOfWhole_valiter a ?_) | (with_reducible refine wpAny_setField l rfl (by rw [c];simp) ?_) | wp_step))
 simp only [raiseNew];refine wpAny_bind (wpAny_handled ?_);rw [show A.in1.handled=none from hh];refine wpAny_bind (wpAny_pure (wpAny_throw ?_));refine wpAny_bind (wpAny_isInstance (T := "StopIteration") (b:=true) ⟨_,aX _ rfl,rfl⟩ isSubtype_stop ?_);exact wpAny_pure (h _ (((Heap.SameBut.update ..).extBut.push _).push _))
theorem XA{v:Addr}{Q:Value->Shared->Prop}(hv:s.heap.IsValuesView v d)(hod:s.heap.get? d=some od)(hdd:od.data=.dict es ep)
  (hQ:Q (.ref s.heap.objs.size) { s with heap:=s.heap.push { cls:=.type "dict_valueiterator",data:=.fields #[.ref d,.int 0 0,.int es.size 0,.int ep 0] } }):wpAny (model prog w) A (pyIter (.ref v)) Q E s:=by
 obtain ⟨h,a,e,b⟩:=id hv;refine wpAny_pyIter_slot hv.typeIs F.slot_dict_values_iter (wpAny_call_entry F.slot_dict_values_iter hv.typeIs F.entry_dict_values_iter ?_ (F.args_dict_values_iter_1 _));have c:Builtin.Dict_items.ownsTuple "dict_valueiterator" = false:=Dd
 repeat (any_goals (first | assumption | (with_reducible refine wpAny_field a b (x:=.ref d) rfl ?_) | (with_reducible refine wpAny_dictEntries hod hdd ?_) | (with_reducible refine wpAny_dictEpoch hod hdd ?_) | wp_step))
 exact ⟨_,rfl, "dict_valueiterator",_,⟨_,aX _ rfl,rfl⟩,F.slot_dict_valueiterator_next.lookup,hQ⟩
theorem aAa{Q:Value->Shared->Prop}(hd:(d == sysModules)=false)(hod:s.heap.get? d=some od)(hex:od.ExactDict)
  (hQ:Q (.ref s.heap.objs.size) { s with heap:=s.heap.push { cls:=.type "dict_values",data:=.fields #[.ref d] } }):wpAny (model prog w) A (call (.builtin "dict.values") [.ref d]) Q E s:=by
 have a:s.TypeIs (.ref d) "dict" := ⟨od,hod,hex.1⟩;refine wpAny_call_entry F.slot_dict_values a F.entry_dict_values ?_ (F.args_dict_values_1 _);unfold Builtin.«dict.values»;refine wpAny_bind ?_;unfold Builtin.Dict.noArgs;refine wpAny_bind (wpAny_notOrdered_dict a ?_);show wpAny _ _ (pure d) _ _ s;refine wpAny_pure ?_
 repeat (any_goals (first | assumption | wp_step))
 exact ⟨_,rfl,hQ⟩
end
end HT
namespace L2
open PySem PySem.Spec PySem.W PyProof.Rows HT
section
variable{X:Cx}{tg:Expr}
end
section
variable{X:Cx}{o e:Expr}{apos cpos:Pos}{td ty:TE}
end
end L2
namespace L2
open PySem
section
variable{js:List Nat}{te:TE}{tc:TT}{σ:St}{H:Hp}{Q:VK}
end
end L2
namespace L2
open PySem PySem.Spec PyProof.Rows
section
variable{X:Cx}{pins:List (Addr × Obj)}{σ:St}{H:Hp}{s:Shared}{scope:Scope}{x x2:Str}{N':List Str}{js:List Nat}{fp:List Addr}
end
section
variable{X:Cx}{pins:List (Addr × Obj)}{σ:St}{H:Hp}{s:Shared}{scope:Scope}{x:Str}{N':List Str}{js:List Nat}{fp:List Addr}{elt iter:Expr}{px pos:Pos}{tg:Expr}{x2:Str}{te:TE}
end
section
variable{X:Cx}{scope:Scope}{x x2 y:Str}{N':List Str}{js:List Nat}{elt iter tg:Expr}{py pos spos:Pos}{te:TE}{wi:TI}{i:Nat}
end
end L2
namespace HT
open PySem PySem.Spec PyProof.Rows
section
variable{prog:Program}{w:World}{A:Around}{E:Value->Shared->Prop}{s:Shared}{d:Addr}{o:Obj}{es:Array DictEntry}{ep:Nat}
theorem FS(lo:(d == sysModules)=false)(hdat:o.data=.dict es ep):MeetsIn prog w (Builtin.«dict.__len__» ⟨[.ref d],[]⟩) (λ_ R s=>s.heap.get? d=some o/\R (.ok (.ret (.int es.size s.toks))) { s with toks:=s.toks+1 }) :=
 .of_wp λA R s ⟨b,a⟩=>by
  show wpAny _ _ (dictSize d >>= _) _ _ s;unfold dictSize;refine wpAny_bind (wpAny_bind (wpAny_dictEntries b hdat (wpAny_pure (show wpAny _ _ (Builtin.Dict.pendingCount d >>= _) _ _ s from wpAny_bind (wpAny_pendingCount_other lo (wpAny_ret_mkInt ?_))))));rw [Nat.add_zero];exact a
theorem ZL{Q:Value->Shared->Prop}(lo:(d == sysModules)=false)(ho:s.heap.get? d=some o)(hex:o.ExactDict)(hdat:o.data=.dict es ep)(hz:es.size<=sizeLine)
    (hQ:∀t s',s'={ s with toks:=s.toks+1+1 }->Q (.int es.size t) s'):wpAny (model prog w) A (call (.builtin "len") [.ref d]) Q E s:=by
  have a:s.TypeIs (.ref d) "dict" := ⟨o,ho,hex.1⟩;have c:sizeLine<2^63:=Dd;have b:(es.size:Int)<2^63:=Oo;refine Calls.call_function_entry kind_len plain_len entry_len (args_len1 _) ?_;unfold Builtin.«len»;refine wpAny_bind (m:=oneArg "len" _) (wpAny_pure (wpAny_bind (m:=callSpecial? (.ref d) (Str.ofString "__len__")) (wpAny_callSpecial?_slot (name:=Str.ofString "__len__") a F.slot_dict_len (call_meetsIn F.slot_dict_len a F.entry_dict_len (F.args_dict_len_1 _) (FS lo hdat) ⟨ho,?_⟩))));refine wpAny_bind (wpAny_holding (wpAny_pure (wpAny_bind (wpAny_letGo ?_))));show wpAny _ _ (if (es.size:Int)<0 then _ else _) _ _ _;rw [if_neg Oo];show wpAny _ _ (if (es.size:Int) ≥ 2^63 then _ else _) _ _ _;rw [if_neg Oo];exact wpAny_bind (wpAny_mkInt (wpAny_pure ⟨_,rfl,hQ _ _ rfl⟩))
end
end HT
namespace L2
open PySem PySem.Spec PySem.W PyProof.Rows HT
theorem JF(c:List Int):(c.map (Sum.inl:Int->iC)).map kV=c.map V.int:=by rw [List.map_map];rfl
abbrev kT(c:List Int):List iC:=c.map Sum.inl
theorem DS{a b:List Int}(h:kT a=kT b):a=b:=by
 have:∀{a b:List Int},kT a=kT b->a=b:=by
  intro a
  induction a with
  | nil=>intro b h;cases b with
   | nil=>rfl
   | cons _ _=>cases h
  | cons x a ih=>intro b h;cases b with
   | nil=>cases h
   | cons y b =>
    injection h with h1 h2;injection h1 with h1;rw [h1,ih h2]
 exact this h
section
variable{X:Cx}{o e f k v:Expr}{apos cpos pos:Pos}{td ty tx tk tv:TE}
@[irreducible] def YF(p:Addr)(x y:V)(H2:Hp)(Q:VK):Prop:=∃b k,x=.ref b/\H2 b=some (.tup (k.map kV))/\H2 p=some (.dT [])/\Q (.ref p) (upd H2 p (.dT [(k,y)]))
def aBr(tk tv:TE):TE:=λσ H Q=>∀p,H p=none->tk σ (upd H p (.dT [])) λx H1=>tv σ H1 λy H2=>YF p x y H2 Q
theorem aE0{p b:Addr}{y:V}{H:Hp}{Q:VK}{c:List Int}(hb:H b=some (.tup (c.map V.int)))(hp:H p=some (.dT []))(q:∀H',H' p=some (.dT [(kT c,y)])->aU p H H'->Q (.ref p) H'):YF p (.ref b) y H Q:=by
 unfold YF;exact ⟨b,kT c,rfl,by rw [JF];exact hb,hp,q _ bL aU.self⟩
theorem RC(hu:X.A.units+1<cLine)(hk:gE X k tk)(hv:gE X v tv):gE X (.Dict [some k] [v] pos) (aBr tk tv):=⟨by
 intro d s σ H Q I q;have L:=I.hok.fresh (aE s.heap.objs.size);have I1:=I.laid (a:=s.heap.objs.size) (o:=.dT []) (h':=s.heap.push { cls:=.type "dict",data:=.dict #[] }) (t':=s.toks) (λ_ _ q=>aD _ q) (aE _) (GV s.heap I.big);refine wpAny_Dict_any rfl rfl (by simp) (show 1<=15 by decide) (pairTrees_cons_walk (thn (hk.p d _ σ _ _ I1 (q _ L)) λu G ⟨x,H1,I1,w,P⟩=>thn (hv.p d G σ H1 _ I1 P) λα Z ⟨y,H2,I2,R,j⟩=>pairTrees_nil_walk ?_));unfold YF at j;obtain ⟨b,n,rfl,r,e,B⟩:=j;cases (show u=Value.ref b from w);obtain ⟨z,hd,W,h,S⟩:=aA4 I2.hok e;unfold storeAll;rw [List.forIn_cons];refine wpAny_bind (wpAny_bind (wpAny_dictSet_heap (show X.A.units<cLine by omega) (yK I2.hok r) S (λh' i D=>wpAny_pure ?_) (by rw [<-Paired.length h];exact z)));dsimp only;rw [List.forIn_nil];refine wpAny_pure ?_;obtain ⟨q,U,J,m,N,T,O,_,M⟩:=i;refine ⟨.ref _,_,?_,rfl,B⟩;have C:([(n,y)]:List (List iC × V)).length<=sizeLine:=by show 1<=sizeLine;decide
 refine wV I2 (by rw [e];exact True.intro) D ⟨q,m⟩ ⟨C,hd,_,(h.put n r R).keeps λc Y l=>?_,q,U,J,m,N,T,O,M⟩;rw [eG (LS l e (λz=>nomatch z))];exact l⟩
theorem WY(hu:X.A.units+1<cLine)(ho:gE X o td)(he:gE X e ty)(hf:gE X f tx)(base:attributeBase o "get" X.env (eval o X.env)=eval o X.env:=by rfl)
  (few:((backTo cpos (starEach [e,f] X.env)).all (λx=>!x.1)&&(backToKw cpos (keywordEach [] X.env)).all (λx=>x.1.isSome)&&decide (([e,f]:List Expr).length+([]:List Keyword).length+(if ([]:List Keyword).isEmpty then 0 else 1)<30))=true:=by rfl)
  (line:(apos.endLine == cpos.line)=true:=by rfl) (trees:backTo cpos (starEach [e,f] X.env)=[(false,eval e X.env),(false,eval f X.env)]:=by rfl):gE X (.Call (.Attribute o "get" apos) [e,f] [] cpos) (RQ td ty tx):=⟨TY hu ho.p he.p hf.p ⟨base,few,line,trees⟩⟩
end
theorem dpT{H:Hp}{p b:Addr}{kvs:List (List iC × V)}{c:List Int}{v:V}{D:rQ}{σ:St}(e:H p=some (.dT kvs))(eb:H b=some (.tup (c.map V.int)))(hl:kvs.length<=100000)(q:∀H',H' p=some (.dT (jW kvs (kT c) v))->aU p H H'->D.nx σ H') :
  rDP D σ (.ref p) (.ref b) v H:=by
 unfold rDP;exact ⟨p,_,rfl,QF.t (k:=kT c) e (by rw [JF];exact eb) (aY hl Dd),q _ bL aU.self⟩
theorem vP.ct{H:Hp}{p b:Addr}{kvs:List (List iC × V)}{c:List Int}(e:H p=some (.dT kvs))(eb:H b=some (.tup (c.map V.int))):vP H p (.ref b) (gT kvs (kT c)):=vP.t e (by rw [JF];exact eb)
theorem dgT{H:Hp}{p b:Addr}{kvs:List (List iC × V)}{c:List Int}{v:V}{Q:VK}(e:H p=some (.dT kvs))(eb:H b=some (.tup (c.map V.int)))(hv:gT kvs (kT c)=some v)(q:Q v H):rDG (.ref p) (.ref b) H Q:=by
 unfold rDG;exact ⟨p,v,rfl,hv ▸ vP.ct e eb,q⟩
theorem zN{kvs:List (List iC × V)}{k:List iC}{v:V}(h:(gT kvs k).isSome=true):(jW kvs k v).map (·.1)=kvs.map (·.1):=by
 unfold jW;rw [jR,if_pos h,List.map_map];refine eC λp _=>?_;show (if p.1=k then (p.1,v) else p).1=p.1;split <;> rfl
end L2
namespace L2
open PySem PySem.Spec PyProof.Rows
structure eF(X:Cx)(scope:Scope)(xs:List Str)(N':List Str)(js:List Nat):Prop where
 calm:X.calm=true
 free:∀y∈scope.names,y.2=.free->X.env.kindOf y.1=some .cell
 cell:∀y∈scope.names,y.2 ≠ .cell
 kind:scope.kind=.function
 names:∀y∈scope.names,y.2=.local->scope.names.lookup y.1=some .local
 own:∀x∈xs,scope.names.lookup x=some .local
 nofl:∀y,(y,NameKind.free)∈scope.names->scope.names.lookup y=some .local->False
 len:N'.length=xs.length+js.length
 pre:∀(i:Nat) x,xs[i]?=some x->N'[i]?=some x
 nd:N'.Nodup
 slot:∀(i:Nat) (j:Nat),js[i]?=some j->∃y,N'[xs.length+i]?=some y/\X.N[j]?=some y/\(y,NameKind.free)∈scope.names
def DV:Nat->Nat->WG
 | _,0=>aCM
 | i,n+1=>US (tL i) (DV (i+1) n)
def gN(K:KFr)(n:Nat):TG:=aCL K n (DV 0 n)
theorem yR{H:Hp}{r:St}{Q:St->Hp->Prop}:∀(vs:List V) (pre os:St),os.length=vs.length->Q (pre++(vs.map some++r)) H->DV pre.length vs.length vs (pre++(os++r)) H Q
 | [],pre,[],_,q=>⟨rfl,q⟩
 | v::vs,pre,o::os,hl,q=>by
  refine ⟨v,vs,rfl,?_⟩;show DV (pre.length+1) vs.length vs ((pre++(o::os++r)).set pre.length (some v)) H Q;have e1:(pre++(o::os++r)).set pre.length (some v)=(pre++[some v])++(os++r):=by
   rw [List.set_append_right _ _ (aE _),Nat.sub_self,List.append_assoc];rfl
  have a:pre.length+1=(pre++[some v]).length:=by rw [aV];rfl
  rw [e1,a];refine yR vs (pre++[some v]) os (by simpa using hl) ?_;rw [List.append_assoc];exact q
@[irreducible] def mR(K:KFr)(n:Nat)(J:It)(σ:St)(js:List Nat)(tc:TT)(te:TE)(H1:Hp)(Q:VK):Prop:=∀D,H1 D=none->∃W:Nat->Nat->List V->Hp->Prop,(∃m,W 0 m [] (upd H1 D (.lst []))) /\
 ∀i m ys H2,W i m ys H2->H2 D=some (.lst ys)/\((J.stop i H2/\Q (.ref D) H2)\/(J.go i H2/\ys.length<sizeLine/\∀x H3,J.yld i H2 x H3->∃a vs,x=.ref a/\fN K H3 a vs/\vs.length=n /\
  rR tc (vs.map some++slots σ js) H3 λb H4=>if b=true then xH te (vs.map some++slots σ js) H4 λy H5=>H5 D=some (.lst ys)/\∃m',m' < m/\W (i+1) m' (ys++[y]) (upd H5 D (.lst (ys++[y])))
   else H4 D=some (.lst ys)/\∃m',m' < m/\W (i+1) m' ys H4))
def xI(K:KFr)(n:Nat)(wi:TI)(js:List Nat)(tc:TT)(te:TE):TE:=λσ H Q=>wi σ H λJ H1=>mR K n J σ js tc te H1 Q
section
variable{X:Cx}{pins:List (Addr × Obj)}{σ:St}{H:Hp}{s:Shared}{scope:Scope}{xs:List Str}{N':List Str}{js:List Nat}{fp:List Addr}
theorem eF.cells(S:eF X scope xs N' js)(ok:X.Ok):∀y∈scope.names,y.2=.free->∃c,X.env.cells.lookup y.1=some c:=λy b a=>ok.has _ (.inl (S.free y b a))
theorem aAc(S:eF X scope xs N' js)(I:cO X pins σ H s)(hf:∀b∈fp,kN X pins H b)(hb:∀b∈fp,b<s.heap.objs.size):(mS X scope s.heap.objs.size fp s H N').Ok where
 mod:=I.ok.mod
 kind:=S.kind
 glob:=I.ok.glob
 blt:=I.ok.blt
 above:=aE _
 inj:=λy z c n d=>I.ok.inj y z c (iK (S.cells I.ok) n) (iK (S.cells I.ok) d)
 has:=λy i=>by
  have j:(y,NameKind.free)∈scope.names:=by
   rcases i with i | i
   ·exact iX (env:=X.env) i (.inl rfl) S.cell
   ·exact iX (env:=X.env) i (.inr rfl) S.cell
  obtain ⟨c,l⟩:=S.cells I.ok _ j rfl;exact ⟨c,oF (S.cells I.ok) j l⟩
 cab:=λ_ _ h=>by cases h
 hd:=λ_=>I.ok.hd S.calm
 frames:=I.ok.frames
 stk:=.inl rfl
 exf:=λb a=>⟨λe=>by have:=hb b a;rw [e] at this;exact cH _ this,λy c h=>(hf b a).2.2.2.2.1 y c (iK (S.cells I.ok) h)⟩
 bs:=I.bs
 bsz:=aZ I.ok.bsz I.sz
 noex:=λb o e a=>by
  rcases (hf b a).2.2.2.1 with h | h
  ·exact I.ok.noex b o e h
  ·exact absurd (bH (bC e) (aZ I.ok.bsz h)) (cH _)
 exfs:=λb a m=>by
  have d:=I.stkSub b m;rcases bE.mp d with d | d
  ·exact (hf b a).2.1 d
  ·exact (hf b a).2.2.1 d
 funs:=I.stack
 frf:=I.stkFree
theorem VD{h':Heap}{tk:Nat}(S:eF X scope xs N' js)(I:cO X pins σ H s)(hf:∀b∈fp,kN X pins H b)(hb:∀b∈fp,b<s.heap.objs.size)
  (hn:h'.Ns s.heap.objs.size (λ_=>none)) (hk:∀b o,s.heap.get? b=some o->h'.get? b=some o):cO (mS X scope s.heap.objs.size fp s H N') [] (List.replicate xs.length none++slots σ js) H { s with heap:=h',toks:=tk } where
 ok:=aAc S I hf hb
 os:=rfl
 bare:=I.bare
 base:=Un.kept hk
 loc:=by
  refine ⟨_,hn,λi y v U G a=>?_⟩;by_cases hlt0:i<xs.length
  ·rw [eY (by rw [dZ];exact hlt0),List.getElem?_replicate,if_pos hlt0] at G;cases G
  ·obtain ⟨i,rfl⟩:∃k,i=xs.length+k:=⟨i-xs.length,Oo⟩;rw [eR (by rw [dZ];omega),dZ,Nat.add_sub_cancel_left] at G;have d:(slots σ js)[i]?=some (some v):=G;have L:i<js.length:=by
    have:=(aO.mp d).1;unfold slots at this
    rwa [aB] at this
   have P:js[i]?=some js[i]:=aC L;obtain ⟨z,δ,β,D⟩:=S.slot i _ P;have N:z=y:=by
    have:N'[xs.length+i]?=some y:=U;rw [δ] at this;cases this;rfl
   subst N;rw [AG P] at d;have α:σ[js[i]]?=some (some v):=by
    cases q:σ[js[i]]? with
    | none=>rw [q] at d;cases d
    | some o=>rw [q] at d;cases d;rfl
   have B:X.env.kindOf z=some .cell:=S.free _ D rfl;obtain ⟨m,ε,T⟩:=I.loc;obtain ⟨u,R,Y⟩:=T _ z v β α (.inr (.inl B));rcases Y with ⟨x,_⟩ | ⟨_,c,O,j⟩
   ·rw [B] at x;cases x
   ·refine ⟨u,R,.inr ⟨?_,c,oF (S.cells I.ok) D O,?_⟩⟩
    ·rcases a with a | a | a
     ·exfalso;have Z:=oF (S.cells I.ok) D O;have C:=oX (l:=(relabel scope X.env).names) a;unfold relabel at C;obtain ⟨⟨n,k⟩,w,A⟩:=aT.mp C;dsimp only at A;by_cases hq:(k == NameKind.free&&X.env.scope.kind == .function&&X.env.kindOf n == some .cell)=true
      ·rw [if_pos hq] at A;cases A
      ·rw [if_neg hq] at A;cases A;have:=S.names _ w rfl;have M:=oW D;obtain ⟨ζ,M⟩:=M;dsimp only at this;rw [this] at M;have γ:(relabel scope X.env).names.lookup z=some .local:=lookup_relabel_local this;have J:scope.names.lookup z=some .local:=this;exact S.nofl z D J
     ·exact .inl a
     ·exact .inr a
    ·obtain ⟨o,e,r⟩:=j;exact ⟨o,hk _ _ e,r⟩
 cell:=λy c h=>by
  obtain ⟨v,o,e,r⟩:=I.cell y c (iK (S.cells I.ok) h);exact ⟨v,o,hk _ _ e,r⟩
 free:=I.hok.fresh (aE _)
 freeC:=λy c h=>I.freeC y c (iK (S.cells I.ok) h)
 pin:=λp W=>by cases W
 hok:=I.hok.kept hk
 len:=by
  rw [aV,dZ];unfold slots;rw [aB];exact S.len.symm
theorem BD{H2:Hp}{σ':St}{s2:Shared}{h'':Heap}(S:eF X scope xs N' js)(I:cO X pins σ H s)(hf:∀b∈fp,kN X pins H b)
  (J:cO (mS X scope s.heap.objs.size fp s H N') [] σ' H2 s2) (hs:Heap.SameBut s.heap.objs.size s2.heap h''):cO X pins σ H2 { s2 with heap:=h'' }:=by
 have h:H2 s.heap.objs.size=none:=J.free;have ne:∀{b:Addr} {o:Obj},s.heap.get? b=some o->b≠s.heap.objs.size:=λe q=>by
  have:=bC e;rw [q] at this;exact cH _ this
 refine I.call' (s':={ s2 with heap:=h'' }) (ch:=fp) (by rw [show ({ s2 with heap:=h'' }:Shared).os=s2.os from rfl];exact J.os) ?_ (J.hok.but h λb u a q=>hs.extBut b u a q) J.bare λb a=>⟨(hf b a).2.2.2.1,(hf b a).2.1,(hf b a).2.2.2.2.1,(hf b a).2.2.2.2.2⟩;have U:=J.base;exact {
  keep:=λb o e n d c=>hs.extBut b o (ne e) (U.keep b o e n d c)
  slot:=λb o e n d c=>by
   obtain ⟨i,q⟩:=U.slot b o e n d c;exact ⟨i,hs.extBut b _ (ne e) q⟩
  free:=U.free
  there:=λb o e c=>by
   obtain ⟨j,q⟩:=U.there b o e c;exact ⟨j,hs.extBut b _ (ne e) q⟩
  tups:=U.tups
  frzs:=U.frzs
  tbls:=U.tbls }
end
section
variable{X:Cx}{pins:List (Addr × Obj)}{σ:St}{H:Hp}{s:Shared}{scope:Scope}{xs:List Str}{N':List Str}{js:List Nat}{fp:List Addr}{elt iter:Expr}{px pos:Pos}{tg:Expr}{ifs:List Expr}{tc:TT}{te:TE}
theorem wE{J:It}{it:Addr}{tn:Nat->Heap->Prop}{RR:Value->Addr->Result->Shared->Prop}{E:Value->Shared->Prop}{Q:VK}
  (S:eF X scope xs N' js) (I:cO X pins σ H s) (T:EM X.prog X.w X.K tg J fp it tn) (h0:tn 0 s.heap) (hf:∀b∈fp,kN X pins H b)
  (hg:∀C fp s₀ H₀,PG (mS X scope C fp s₀ H₀ N') tg (gN X.K xs.length)) (ht:∀C fp s₀ H₀,WH (mS X scope C fp s₀ H₀ N') ifs tc) (he:∀C fp s₀ H₀,PE (mS X scope C fp s₀ H₀ N') elt te)
  (R:∀D,H D=none->∃W:Nat->Nat->List V->Hp->Prop,(∃m,W 0 m [] (upd H D (.lst []))) /\
   ∀i m ys H2,W i m ys H2->H2 D=some (.lst ys)/\((J.stop i H2/\Q (.ref D) H2)\/(J.go i H2/\ys.length<sizeLine/\∀x H3,J.yld i H2 x H3->∃a vs,x=.ref a/\fN X.K H3 a vs/\vs.length=xs.length /\
    tc (vs.map some++slots σ js) H3 λb H4=>if b=true then te (vs.map some++slots σ js) H4 λy H5=>H5 D=some (.lst ys)/\∃m',m' < m/\W (i+1) m' (ys++[y]) (upd H5 D (.lst (ys++[y])))
     else H4 D=some (.lst ys)/\∃m',m' < m/\W (i+1) m' ys H4)))
  (hRR:∀(D:Addr) (H3:Hp) (s3:Shared) (σ':St) (H':Hp) (s':Shared),cO X pins σ H3 s3->(∀b∈fp,kN X pins H3 b)->cO (mS X scope s3.heap.objs.size fp s3 H3 N') [] σ' H' s'->Q (.ref D) H'->RR (.ref D) s3.heap.objs.size (.ok .next) s') :
  wpAny (model X.prog X.w) X.A (newList []) (λacc s₃=>wpAny (model X.prog X.w) X.A (newFunctionEnv scope X.env.globals (JS X scope) [] X.env.qual none .none (some X.env)) (λcenv s₄ =>
   codeAny (model X.prog X.w) X.A (.compStart (.ListComp elt [⟨tg,iter,ifs,0⟩] scope pos) 0 (.ref it) acc { cenv with scope:=relabel scope X.env }) (RR acc cenv.locals) s₄) E s₃) E s:=by
 have Z:∀b∈fp,b<s.heap.objs.size:=λb Z=>by
  obtain ⟨o,e,_⟩:=T.obj 0 _ h0 b Z;exact bC e
 refine wpAny_newObj_type (wpAny_newFunctionEnv S.cell (by intro y κ;simp at κ) (λY N P=>?_) S.kind);have η:H s.heap.objs.size=none:=I.hok.fresh (aE _);obtain ⟨W,⟨m0,ξ⟩,hW⟩:=R _ η;have I3:cO X pins σ (upd H s.heap.objs.size (.lst [])) { s with heap:=s.heap.push { cls:=.type "list",dict:=none,data:=.seq ([]:List Value).toArray } }:=I.lnew (its:=[]) (ys:=[]) (t':=s.toks) .nil (cC _);have l:∀b∈fp,kN X pins (upd H s.heap.objs.size (.lst [])) b:=λb c =>
  ⟨by rw [eG (λe=>by have:=Z b c;rw [e] at this;exact cH _ this)];exact (hf b c).1,(hf b c).2⟩
 have ε:∀b∈fp,b<(s.heap.push { cls:=.type "list",dict:=none,data:=.seq ([]:List Value).toArray }).objs.size:=λb c=>by
  rw [iU];exact Nat.lt_succ_of_lt (Z b c)
 have d:∀b o,(s.heap.push { cls:=.type "list",dict:=none,data:=.seq ([]:List Value).toArray }).get? b=some o->Y.get? b=some o:=λb o e =>
  P.extBut b o (λq=>by have:=bC e;rw [q] at this;exact cH _ this) (aD _ e)
 have J4:=VD (h':=Y) (tk:=s.toks+([]:List (Str × Value)).length) S I3 l ε N d;have ω:tn 0 Y:=T.keep 0 _ _ h0 λb c o e=>d b o (aD _ e);have j:codeAny (model X.prog X.w) X.A (.compLoop (.ListComp elt [⟨tg,iter,ifs,0⟩] scope pos) 0 (.ref it) (.ref s.heap.objs.size) (compEnvC scope (JS X scope) (s.heap.push { cls:=.type "list",dict:=none,data:=.seq ([]:List Value).toArray }).objs.size X.env))
   (RR (.ref s.heap.objs.size) (s.heap.push { cls:=.type "list",dict:=none,data:=.seq ([]:List Value).toArray }).objs.size) { s with heap:=Y,toks:=s.toks+([]:List (Str × Value)).length }:=by
  refine tQ (λn s'=>∃(i:Nat) (ys:List V) (H2:Hp) (O:St),O.length=xs.length/\cO (mS X scope _ fp _ _ N') [] (O++slots σ js) H2 s'/\tn i s'.heap/\(∀b∈fp,H2 b=none)/\W i n ys H2) ?_ m0 ⟨0,[],_,_,dZ,J4,ω,λb c=>(l b c).1,ξ⟩;rintro n s' ⟨i,ys,H2,O,ο,J2,χ,f2,w2⟩;obtain ⟨hD,G⟩:=hW i n ys H2 w2;have φ:∀b∈fp,kN (mS X scope (s.heap.push { cls:=.type "list",dict:=none,data:=.seq ([]:List Value).toArray }).objs.size fp { s with heap:=s.heap.push { cls:=.type "list",dict:=none,data:=.seq ([]:List Value).toArray } } (upd H s.heap.objs.size (.lst [])) N') [] H2 b:=λb c =>
   ⟨f2 b c,(J2.ok.exf b c).1,J2.ok.exfs b c,.inl c,(J2.ok.exf b c).2,λp τ=>by cases τ⟩
  rcases G with ⟨B,ι⟩ | ⟨υ,hz,L⟩
  ·refine wpAny_mono (T.done (mS X scope _ fp _ _ N') rfl rfl rfl rfl i [] s' _ H2 WO J2 φ χ B) (λr s1 ⟨ρ,J5⟩=>?_) λ_ _ f=>f;subst ρ;exact hRR _ _ _ _ _ _ I3 l J5 ι
  ·refine wpAny_mono (T.item (mS X scope _ fp _ _ N') rfl rfl rfl rfl i [] s' _ H2 WO J2 φ χ υ) (λr s1 ⟨u,ρ,hx⟩=>?_) λ_ _ f=>f;subst ρ;refine wpAny_mono hx (λ_ s2 ⟨v,H3,J3,rv,κ,β,f3⟩=>?_) λ_ _ f=>f;have ν:∀b∈fp,kN (mS X scope (s.heap.push { cls:=.type "list",dict:=none,data:=.seq ([]:List Value).toArray }).objs.size fp { s with heap:=s.heap.push { cls:=.type "list",dict:=none,data:=.seq ([]:List Value).toArray } } (upd H s.heap.objs.size (.lst [])) N') [] H3 b:=λb c =>
    ⟨f3 b c,(J3.ok.exf b c).1,J3.ok.exfs b c,.inl c,(J3.ok.exf b c).2,λp τ=>by cases τ⟩
   have P3:=J3.pinned ν (T.obj (i+1) _ β);have h:∀{σ':St} {Hx:Hp} {sx:Shared},cO (mS X scope (s.heap.push { cls:=.type "list",dict:=none,data:=.seq ([]:List Value).toArray }).objs.size fp { s with heap:=s.heap.push { cls:=.type "list",dict:=none,data:=.seq ([]:List Value).toArray } } (upd H s.heap.objs.size (.lst [])) N') ([]++uT fp s2.heap) σ' Hx sx->tn (i+1) sx.heap/\∀b∈fp,Hx b=none:=λψ =>
    ⟨T.keep (i+1) _ _ β λb c μ e=>(ψ.pin (b,μ) (bW _ (bW _ (kJ c e)))).1,λb c=>by
     obtain ⟨μ,e,_⟩:=T.obj (i+1) _ β b c;exact (ψ.pin (b,μ) (bW _ (bW _ (kJ c e)))).2.1⟩
   obtain ⟨a,vs,ev,ι,M,qe⟩:=L v H3 κ;subst ev;refine wpAny_mono (hg _ _ _ _ _ _ (O++slots σ js) H3 (.ref a) u (λσ' H'=>σ'=vs.map some++slots σ js/\H'=H3) P3 rv ⟨a,vs,rfl,ι,M,?_⟩) (λ_ s5 ⟨σ5,H5,J5,e5,e6⟩=>?_) λ_ _ f=>f
   ·have:=yR (H:=H3) (r:=slots σ js) (Q:=λσ' H'=>σ'=vs.map some++slots σ js/\H'=H3) vs [] O (by rw [ο,M]) ⟨rfl,rfl⟩;rw [M] at this;exact this
   subst e5 e6;refine wpAny_mono (ht _ _ _ _ _ _ _ _ _ J5 qe) (λok s6 ⟨H6,J6,U⟩=>?_) λ_ _ f=>f;dsimp only at U;by_cases hok:ok=true
   ·rw [if_pos hok] at U ⊢;refine wpAny_mono (he _ _ _ _ _ _ _ _ _ J6 U) (λy s7 ⟨ζ,H7,J7,r7,θ,m',z,γ⟩=>?_) λ_ _ f=>f;refine wpAny_mono (uW (X:=mS X scope _ fp _ _ N') _ _ _ _ (.ref s.heap.objs.size) [ζ] (.ref s.heap.objs.size) [y] (λ_ H8=>H8=upd H7 s.heap.objs.size (.lst (ys++[ζ]))) J7 rfl (.cons r7 .nil) ⟨_,_,_,rfl,rfl,θ,hz,rfl⟩) (λ_ s8 ⟨_,H8,J8,_,e8⟩=>?_) λ_ _ f=>f;subst e8;obtain ⟨δ,α⟩:=h J8;exact ⟨m',z,i+1,ys++[ζ],_,vs.map some,by rw [aB,M],J8.unpinned,δ,α,γ⟩
   ·rw [if_neg hok] at U ⊢;obtain ⟨_,m',z,γ⟩:=U;obtain ⟨δ,α⟩:=h J6;exact ⟨m',z,i+1,ys,_,vs.map some,by rw [aB,M],J6.unpinned,δ,α,γ⟩
 refine codeAny_compStart_list j (T.self X.A 0 _ _ _ ω j)
theorem GA{wi:TI}(S:eF X scope xs N' js)(hi:PI X tg iter wi)(hg:∀C fp s₀ H₀,PG (mS X scope C fp s₀ H₀ N') tg (gN X.K xs.length))(ht:∀C fp s₀ H₀,WH (mS X scope C fp s₀ H₀ N') ifs tc)(he:∀C fp s₀ H₀,PE (mS X scope C fp s₀ H₀ N') elt te)
  (hs:∀x,foldedSetIterable iter X.env x=pure x:=by intro _;rfl):PE X (.ListComp elt [⟨tg,iter,ifs,0⟩] scope pos) (xI X.K xs.length wi js tc te):=by
 intro a s σ H Q I h;rw [eval_ListComp];refine wpAny_comprehension_free (use:=none) rfl hs (nC (S.cells I.ok)) S.kind S.names (wpAny_mono (hi a s σ H _ I h) (λv y n=>?_) λ_ _ e=>e);refine wpAny_mono n (λl A ⟨w,fp,r,J,H2,e,I2,T,j,i,R⟩=>?_) λ_ _ e=>e;subst e;refine wE (te:=xH te) (tc:=rR tc) S I2 T j i hg (λC fp s₀ H₀=>(ht C fp s₀ H₀).mono) (λC fp s₀ H₀=>(he C fp s₀ H₀).mono) (by unfold mR at R;exact R) ?_;intro D H3 z o H' u I3 b J3 q;obtain ⟨m,d,_⟩:=J3.loc;exact ⟨m,d,λp c=>⟨.ref D,H',BD S I3 b J3 c,rfl,q⟩⟩
theorem FW{wi:TI}{y:Str}{py spos:Pos}{i:Nat}(S:eF X scope xs N' js)(hN:X.N.Nodup)(hiN:X.N[i]?=some y)(hy:X.env.kindOf y=some .local)(hi:PI X tg iter wi)(hg:∀C fp s₀ H₀,PG (mS X scope C fp s₀ H₀ N') tg (gN X.K xs.length))(ht:∀C fp s₀ H₀,WH (mS X scope C fp s₀ H₀ N') ifs tc)(he:∀C fp s₀ H₀,PE (mS X scope C fp s₀ H₀ N') elt te)
  (hsw:swapsWith (.ListComp elt [⟨tg,iter,ifs,0⟩] scope pos) (some (.Name y py)) spos.line X.env=pure true) (hs:∀x,foldedSetIterable iter X.env x=pure x:=by intro _;rfl) :
  PS X (.Assign [.Name y py] (.ListComp elt [⟨tg,iter,ifs,0⟩] scope pos) spos) (NZ (xI X.K xs.length wi js tc te) (tL i)):=by
 intro d s σ H D0 I h;rw [exec_Assign_Name_used _ _ _ _ hsw];refine wpAny_bind (wpAny_standAt (wpAny_bind ?_));show wpAny _ X.A (do let _ <-comprehension (.ListComp elt [⟨tg,iter,ifs,0⟩] scope pos) scope X.env _ (newList []) false (eval iter X.env) (some (assign (.Name y py) X.env))) _ _ s;refine wpAny_bind (wpAny_mono (wpAny_comprehension_free (use:=some (assign (.Name y py) X.env)) (Q:=λ_ r=>SP X d D0 .next r) rfl hs (nC (S.cells I.ok)) S.kind S.names (wpAny_mono (hi d s σ H _ I h) (λv η γ=>?_) λ_ _ e=>e)) (λ_ r O=>wpAny_pure (wpAny_pure O)) λ_ _ e=>e);refine wpAny_mono γ (λZ θ ⟨it,fp,ζ,J,H2,e,I2,T,Y,W,R⟩=>?_) λ_ _ e=>e;subst e;refine wE (te:=xH te) (tc:=rR tc) (Q:=λv H'=>tL i v σ H' D0.nx) S I2 T Y W hg (λC fp s₀ H₀=>(ht C fp s₀ H₀).mono) (λC fp s₀ H₀=>(he C fp s₀ H₀).mono) (by unfold mR at R;exact R) ?_;intro D H3 B δ H' r I3 w J3 q;obtain ⟨m,P,_⟩:=J3.loc;have IX:cO X d σ H' r:=BD S I3 w J3 (Heap.SameBut.refl ..);have l:B.heap.objs.size≠X.env.locals:=λe=>by have:=I3.lt;rw [e] at this;exact cH _ this
 show wpAny _ X.A (assign (.Name y py) X.env (.ref D)) _ _ _;refine wpAny_assign_Name (AA IX hN hiN (.inl hy) (v:=.ref D) rfl (λα I5 j=>?_) (.inr hy));obtain ⟨a,j,G⟩:=j;have u:B.heap.objs.size≠a:=by
  rcases G with rfl | G
  ·exact l
  ·intro e;obtain ⟨v,o,M,_⟩:=I3.cell y a G;have:=bC M;rw [<-e] at this;exact cH _ this
 refine ⟨m,P.sameBut j u,λε L=>⟨_,H',?_,q⟩⟩;exact I5.turned (it:=B.heap.objs.size) (t':=α.toks) (λb o n e=>L.extBut b o n e) J3.free l (.inr I3.sz)
  (λz c β e=>by
   obtain ⟨v,o,M,_⟩:=I3.cell z c β;have:=bC M;rw [e] at this;exact cH _ this)
  (λp U e=>by
   have:=bC (I3.pin p U).1;rw [e] at this;exact cH _ this)
end
section
variable{X:Cx}{scope:Scope}{x1 x2 x3 y:Str}{N':List Str}{js:List Nat}{elt iter tg:Expr}{ifs:List Expr}{py pos spos:Pos}{tc:TT}{te:TE}{wi:TI}{i:Nat}
theorem ET{xs:List Str}{k:Nat}{x:Str}{p:Pos}(S:eF X scope xs N' js)(h:xs[k]?=some x)(C:Addr)(fp:List Addr)(s₀:Shared)(H₀:Hp):PGw (mS X scope C fp s₀ H₀ N') (.Name x p) (tL k) :=
 have l:=S.own x (aR h)
 cX S.nd (S.pre k x h) (.inl (lookup_relabel_local l)) (.inr (lookup_relabel_local l))
theorem QU{p1 p2 pt:Pos}{kk:Nat}(S:eF X scope [x1,x2] N' js)(C:Addr)(fp:List Addr)(s₀:Shared)(H₀:Hp):PGw (mS X scope C fp s₀ H₀ N') (.Tuple [.Name x1 p1,.Name x2 p2] kk pt) (gN X.K 2) :=
 kC rfl (dO (ET S rfl C fp s₀ H₀) (dO (ET S rfl C fp s₀ H₀) iN))
theorem QV{p1 p2 p3 pt:Pos}{kk:Nat}(S:eF X scope [x1,x2,x3] N' js)(C:Addr)(fp:List Addr)(s₀:Shared)(H₀:Hp):PGw (mS X scope C fp s₀ H₀ N') (.Tuple [.Name x1 p1,.Name x2 p2,.Name x3 p3] kk pt) (gN X.K 3) :=
 kC rfl (dO (ET S rfl C fp s₀ H₀) (dO (ET S rfl C fp s₀ H₀) (dO (ET S rfl C fp s₀ H₀) iN)))
theorem jJ{p1 p2 pt:Pos}{kk:Nat}(S:eF X scope [x1,x2] N' js)(hi:KB X (.Tuple [.Name x1 p1,.Name x2 p2] kk pt) iter wi)(ht:∀C fp s₀ H₀,QC (mS X scope C fp s₀ H₀ N') ifs tc)(he:∀C fp s₀ H₀,gE (mS X scope C fp s₀ H₀ N') elt te)
  (hs:∀x,foldedSetIterable iter X.env x=pure x:=by intro _;rfl):gE X (.ListComp elt [⟨.Tuple [.Name x1 p1,.Name x2 p2] kk pt,iter,ifs,0⟩] scope pos) (xI X.K 2 wi js tc te) :=
 ⟨GA S hi.p (λC fp s₀ H₀=>(QU S C fp s₀ H₀).p) (λC fp s₀ H₀=>(ht C fp s₀ H₀).p) (λC fp s₀ H₀=>(he C fp s₀ H₀).p) hs⟩
theorem zR{p1 p2 p3 pt:Pos}{kk:Nat}(S:eF X scope [x1,x2,x3] N' js)(hi:KB X (.Tuple [.Name x1 p1,.Name x2 p2,.Name x3 p3] kk pt) iter wi)(ht:∀C fp s₀ H₀,QC (mS X scope C fp s₀ H₀ N') ifs tc)(he:∀C fp s₀ H₀,gE (mS X scope C fp s₀ H₀ N') elt te)
  (hs:∀x,foldedSetIterable iter X.env x=pure x:=by intro _;rfl):gE X (.ListComp elt [⟨.Tuple [.Name x1 p1,.Name x2 p2,.Name x3 p3] kk pt,iter,ifs,0⟩] scope pos) (xI X.K 3 wi js tc te) :=
 ⟨GA S hi.p (λC fp s₀ H₀=>(QV S C fp s₀ H₀).p) (λC fp s₀ H₀=>(ht C fp s₀ H₀).p) (λC fp s₀ H₀=>(he C fp s₀ H₀).p) hs⟩
theorem oN{p1 p2 pt:Pos}{kk:Nat}(S:eF X scope [x1,x2] N' js)(hN:X.N.Nodup)(hiN:X.N[i]?=some y)(hy:X.env.kindOf y=some .local)(hi:KB X (.Tuple [.Name x1 p1,.Name x2 p2] kk pt) iter wi)(ht:∀C fp s₀ H₀,QC (mS X scope C fp s₀ H₀ N') ifs tc)(he:∀C fp s₀ H₀,gE (mS X scope C fp s₀ H₀ N') elt te)
  (hsw:swapsWith (.ListComp elt [⟨.Tuple [.Name x1 p1,.Name x2 p2] kk pt,iter,ifs,0⟩] scope pos) (some (.Name y py)) spos.line X.env=pure true:=by rfl) (hs:∀x,foldedSetIterable iter X.env x=pure x:=by intro _;rfl) :
  JZ X (.Assign [.Name y py] (.ListComp elt [⟨.Tuple [.Name x1 p1,.Name x2 p2] kk pt,iter,ifs,0⟩] scope pos) spos) (NZ (xI X.K 2 wi js tc te) (tL i)) :=
 ⟨FW S hN hiN hy hi.p (λC fp s₀ H₀=>(QU S C fp s₀ H₀).p) (λC fp s₀ H₀=>(ht C fp s₀ H₀).p) (λC fp s₀ H₀=>(he C fp s₀ H₀).p) hsw hs⟩
end
def VI(psc scope:Scope)(N:List Str)(xs N':List Str)(js:List Nat):Bool :=
 (scope.names.all λy=>!(y.2 == .free) || psc.names.lookup y.1 == some .cell)&&(scope.names.all λy=>!(y.2 == .cell))&&scope.kind == .function &&
 (scope.names.all λy=>!(y.2 == .local) || scope.names.lookup y.1 == some .local)&&(xs.all λx=>scope.names.lookup x == some .local) &&
 (scope.names.all λy=>!(y.2 == .free) || !(scope.names.lookup y.1 == some .local))&&N'.length == xs.length+js.length&&N'.take xs.length == xs&&decide N'.Nodup &&
 ((List.range js.length).all λi=>match js[i]?,N'[xs.length+i]? with
  | some j,some y=>N[j]? == some y&&scope.names.contains (y,NameKind.free)
  | _,_=>false)
theorem eF.of{X:Cx}{psc scope:Scope}{N:List Str}{xs N':List Str}{js:List Nat}(h:VI psc scope N xs N' js=true)(hX:X.env.scope=psc)(hN:X.N=N)(hc:X.calm=true):eF X scope xs N' js:=by
 unfold VI at h;simp only [cM] at h;obtain ⟨⟨⟨⟨⟨⟨⟨⟨⟨r,o⟩,A⟩,p⟩,n⟩,l⟩,w⟩,z⟩,u⟩,b⟩:=h;rw [List.all_eq_true] at r o p n l b;refine ⟨hc,λy a e=>?_,λy a e=>?_,by simpa using A,λy a e=>?_,λx c=>by simpa using n x c,λy a e=>?_,by simpa using w,λi x c=>?_,of_decide_eq_true u,λi j m=>?_⟩
 ·have:=r y a;rw [e] at this;show X.env.scope.names.lookup y.1=_;rw [hX];simpa using this
 ·have:=o y a;rw [e] at this;simp at this
 ·have:=p y a;rw [e] at this;simpa using this
 ·have:=l _ a;rw [e] at this;simp at this
 ·have s:N'.take xs.length=xs:=by simpa using z
  have d:i<xs.length:=(aO.mp c).1;rw [<-c]
  conv=>rhs;rw [<-s]
  rw [List.getElem?_take,if_pos d]
 ·have d:i<js.length:=(aO.mp m).1;have:=b i (bT.mpr d);rw [m] at this;cases q:N'[xs.length+i]? with
  | none=>rw [q] at this;simp at this
  | some y =>
   rw [q] at this;simp only [cM] at this;exact ⟨y,rfl,by rw [hN];simpa using this.1,List.contains_iff_mem.mp this.2⟩
theorem nX{α β:Type}{R:α->β->Prop}:∀{l:List α}{m:List β}{i:Nat}{b:β},Paired R l m->m[i]?=some b->∃a,l[i]?=some a/\R a b
 | _,_,_,_,.nil,h=>by simp at h
 | _,_,0,b,.cons h t,e=>⟨_,rfl,by cases (show _=b by simpa using e);exact h⟩
 | _,_,i+1,b,.cons h t,e=>by
  obtain ⟨a,h1,h2⟩:=nX t (i:=i) (by simpa using e);exact ⟨a,by simpa using h1,h2⟩
section
variable{js:List Nat}{te:TE}{tc:TT}{σ:St}{H:Hp}{Q:VK}
theorem BF{K:KFr}{n:Nat}{J:It}{α:Type}{as:List α}(p:α->Bool)(Src:α->V->Prop)(R:α->V->Hp->Prop)(hR:∀c y H1 H2,dL H1 H2->R c y H1->R c y H2)(hz:as.length<=100000)
  (hg:∀i H',bA H H'->i<as.length->J.go i H'/\∀x H3,J.yld i H' x H3->H3=H'/\∃c,as[i]?=some c/\Src c x) (hst:∀H',bA H H'->J.stop as.length H')
  (hs:∀x c H',c∈as->Src c x->bA H H'->∃a vs,x=.ref a/\fN K H' a vs/\vs.length=n/\(∀Q':Bool->Hp->Prop,(∀H5,bA H' H5->Q' (p c) H5)->tc (vs.map some++slots σ js) H' Q') /\
   ∀H5 (Q':VK),bA H' H5->p c=true->(∀y H6,bA H5 H6->R c y H6->Q' y H6)->te (vs.map some++slots σ js) H5 Q')
  (hd:∀D ys H',H D=none->H' D=some (.lst ys)->bA H H'->Paired (λc y=>R c y H') (as.filter p) ys->Q (.ref D) H'):mR K n J σ js tc te H Q:=by
 unfold mR;intro D hD;have mono:∀{H1 H2:Hp} {l:List α} {ys:List V},dL H1 H2->Paired (λc y=>R c y H1) l ys->Paired (λc y=>R c y H2) l ys:=by
  intro H1 H2 l ys s h
  induction h with
  | nil=>exact .nil
  | cons h t ih=>exact .cons (hR _ _ _ _ s h) ih
 have snoc:∀{H1:Hp} {l:List α} {ys:List V} {c:α} {y:V},Paired (λc y=>R c y H1) l ys->R c y H1->Paired (λc y=>R c y H1) (l++[c]) (ys++[y]):=by
  intro H1 l ys c y h r
  induction h with
  | nil=>exact .cons r .nil
  | cons h t ih=>exact .cons h ih
 refine ⟨λi m ys H'=>m=as.length-i/\i<=as.length/\H' D=some (.lst ys)/\bA H H'/\ys.length<=i/\Paired (λc y=>R c y H') ((as.take i).filter p) ys,⟨as.length,by simp,cC _,bL,bA.upd hD,aE _,.nil⟩,?_⟩;rintro i m ys H2 ⟨rfl,U,d,o,T,pr⟩;refine ⟨d,?_⟩;by_cases hlt:i<as.length
 ·obtain ⟨A,B⟩:=hg i H2 o hlt;refine .inr ⟨A,aY (m:=100000) Oo Dd,λx H3 z=>?_⟩;obtain ⟨rfl,c,C,P⟩:=B x H3 z;have u:as.take (i+1)=as.take i++[c]:=by rw [iD,C];rfl
  obtain ⟨a,vs,e,I,L,N,O⟩:=hs x c H3 (aR C) P o;refine ⟨a,vs,e,I,L,λb H4=>b=p c/\bA H3 H4,N _ λH5 w=>⟨rfl,w⟩,?_⟩;rintro b H4 ⟨rfl,j⟩;by_cases hp:p c=true
  ·rw [if_pos hp];refine ⟨λy H5=>bA H4 H5/\R c y H5,O H4 _ j hp λy H6 M r=>⟨M,r⟩,?_⟩;rintro y H5 ⟨w,r⟩;have G:=w _ _ (j _ _ d);refine ⟨G,_,?_,rfl,hlt,bL,bA.thru hD ((o.trans j).trans w) aU.self,?_,?_⟩
   ·omega
   ·rw [aV,List.length_singleton];omega
   ·rw [u,List.filter_append,show List.filter p [c]=[c] by simp [hp]];have S:dL H5 (upd H5 D (.lst (ys++[y]))):=aU.t aU.self G;exact mono S (snoc (mono (j.trans w).t pr) r)
  ·rw [if_neg hp];refine ⟨j _ _ d,_,?_,rfl,hlt,j _ _ d,o.trans j,Oo,?_⟩
   ·omega
   ·rw [u,List.filter_append,show List.filter p [c]=[] by simp [hp],List.append_nil];exact mono j.t pr
 ·have e:i=as.length:=Oo;subst e;refine .inl ⟨hst H2 o,hd D ys H2 hD d o ?_⟩;rw [bP] at pr;exact pr
theorem PJ{K:KFr}{n:Nat}{a0:Addr}{xs:List V}{α:Type}{as:List α}(p:α->Bool)(Src:α->V->Prop)(R:α->V->Hp->Prop)(hR:∀c y H1 H2,dL H1 H2->R c y H1->R c y H2)(hz:as.length<=100000)(ha:H a0=some (.tup xs))(pr:Paired Src as xs)
  (hs:∀x c H',c∈as->Src c x->bA H H'->∃a vs,x=.ref a/\fN K H' a vs/\vs.length=n/\(∀Q':Bool->Hp->Prop,(∀H5,bA H' H5->Q' (p c) H5)->tc (vs.map some++slots σ js) H' Q') /\
   ∀H5 (Q':VK),bA H' H5->p c=true->(∀y H6,bA H5 H6->R c y H6->Q' y H6)->te (vs.map some++slots σ js) H5 Q')
  (hd:∀D ys H',H D=none->H' D=some (.lst ys)->bA H H'->Paired (λc y=>R c y H') (as.filter p) ys->Q (.ref D) H'):mR K n (Itt K a0) σ js tc te H Q:=by
 have h:xs.length=as.length:=pr.length.symm;refine BF p Src R hR hz (λi H' s j=>⟨⟨xs,xs[i]'Oo,fN.of (s _ _ ha),by simp⟩,λx H3 y=>⟨y.1,?_⟩⟩) (λH' s=>⟨xs,fN.of (s _ _ ha),Oo⟩) hs hd;have e:=y.2 xs (fN.of (s _ _ ha));obtain ⟨c,b,d⟩:=nX pr e;exact ⟨c,b,d⟩
theorem oD{K:KFr}{n:Nat}{a0:Addr}{xs:List V}{α:Type}{as:List α}(p:α->Bool)(Src:α->V->Prop)(R:α->V->Hp->Prop)(hR:∀c y H1 H2,dL H1 H2->R c y H1->R c y H2)(hz:as.length<=100000)(ha:H a0=some (.lst xs))(pr:Paired Src as xs)
  (hs:∀x c H',c∈as->Src c x->bA H H'->∃a vs,x=.ref a/\fN K H' a vs/\vs.length=n/\(∀Q':Bool->Hp->Prop,(∀H5,bA H' H5->Q' (p c) H5)->tc (vs.map some++slots σ js) H' Q') /\
   ∀H5 (Q':VK),bA H' H5->p c=true->(∀y H6,bA H5 H6->R c y H6->Q' y H6)->te (vs.map some++slots σ js) H5 Q')
  (hd:∀D ys H',H D=none->H' D=some (.lst ys)->bA H H'->Paired (λc y=>R c y H') (as.filter p) ys->Q (.ref D) H'):mR K n (Itl K a0) σ js tc te H Q:=by
 have h:xs.length=as.length:=pr.length.symm;refine BF p Src R hR hz (λi H' s j=>⟨⟨xs,xs[i]'Oo,fY.of (s _ _ ha),by simp⟩,λx H3 y=>⟨y.1,?_⟩⟩) (λH' s=>⟨xs,fY.of (s _ _ ha),Oo⟩) hs hd;have e:=y.2 xs (fY.of (s _ _ ha));obtain ⟨c,b,d⟩:=nX pr e;exact ⟨c,b,d⟩
end
end L2
namespace L2
open PySem
section
variable{js:List Nat}{te:TE}{σ:St}{H:Hp}{Q:VK}
theorem rF{K:KFr}{b1 b2:Bool}{l1 l2:Addr}{xs ys:List V}(R:Nat->V->Hp->Prop)(hR:∀i y H1 H2,dL H1 H2->R i y H1->R i y H2)(hz:xs.length<=100000)(h1:H l1=some (uI b1 xs))(h2:H l2=some (uI b2 ys))(hl:xs.length=ys.length)
  (hs:∀i x y H' (Q':VK),xs[i]?=some x->ys[i]?=some y->bA H H'->(∀z H6,bA H' H6->R i z H6->Q' z H6)->te (some x::some y::slots σ js) H' Q')
  (hd:∀D zs H',H D=none->H' D=some (.lst zs)->bA H H'->zs.length=xs.length->(∀(i:Nat) (z:V),zs[i]?=some z->R i z H')->Q (.ref D) H'):mR K 2 (Itz b1 b2 l1 l2) σ js uF te H Q:=by
 unfold mR;intro D hD;refine ⟨λi m zs H'=>m=xs.length-i/\i<=xs.length/\zs.length=i/\H' D=some (.lst zs)/\bA H H'/\∀(i:Nat) (z:V),zs[i]?=some z->R i z H',⟨xs.length,by simp,cC _,rfl,bL,bA.upd hD,λi z h=>by simp at h⟩,?_⟩;rintro i m zs H2 ⟨rfl,N,l,c,a,s⟩;refine ⟨c,?_⟩;by_cases hlt:i<xs.length
 ·have L:xs[i]?=some xs[i]:=aC Oo;have p:ys[i]?=some (ys[i]'Oo):=aC Oo;refine .inr ⟨⟨xs,ys,_,_,a _ _ h1,a _ _ h2,L,p⟩,aY (m:=100000) Oo Dd,λv H3 y=>?_⟩;obtain ⟨q,x,y,rfl,B,rfl,M⟩:=y;obtain ⟨I,J⟩:=M xs ys (a _ _ h1) (a _ _ h2);have d:=bA.upd (o:=.tup [x,y]) B;have e3:(upd H2 q (.tup [x,y])) q=some (.tup [x,y]):=bL;generalize upd H2 q (.tup [x,y])=H3 at d e3;refine ⟨q,[x,y],rfl,fN.of e3,rfl,λb H4=>b=true/\H4=H3,⟨rfl,rfl⟩,?_⟩;rintro b H4 ⟨rfl,rfl⟩;rw [if_pos rfl];refine ⟨λz H5=>bA H4 H5/\R i z H5,hs i x y H4 _ I J (a.trans d) λz H6 C r=>⟨C,r⟩,?_⟩;rintro z H5 ⟨n,r⟩;have A:=n _ _ (d _ _ c);have u:dL H5 (upd H5 D (.lst (zs++[z]))):=aU.t aU.self A;exact ⟨A,xs.length-(i+1),Oo,rfl,hlt,by rw [aV,l];rfl,bL,bA.thru hD ((a.trans d).trans n) aU.self,sW (R:=λj z=>R j z _) (λj w G=>hR j w _ _ ((d.trans n).t.trans u) (s j w G)) (by rw [l];exact hR i z _ _ u r)⟩
 ·have e:i=xs.length:=Oo;subst e;exact .inl ⟨⟨xs,ys,a _ _ h1,a _ _ h2,.inl (aE _)⟩,hd D zs H2 hD c a l s⟩
end
theorem Paired.ofRepL{H:Hp}{α:Type}{g:α->PyData}:∀{as:List α}{xs:List V},bG H (as.map g) xs->Paired (λa x=>cE H (g a) x) as xs
 | [],xs,r=>by
  unfold bG at r;cases (show xs=[] from r);exact .nil
 | a::as,xs,r=>by
  rw [bF] at r;unfold bG at r;obtain ⟨x,xs',rfl,r1,r2⟩:=r;exact .cons r1 (Paired.ofRepL r2)
theorem Paired.toRepL{H:Hp}{α:Type}{g:α->PyData}:∀{as:List α}{xs:List V},Paired (λa x=>cE H (g a) x) as xs->bG H (as.map g) xs
 | _,_,.nil=>bG.nil
 | _,_,.cons h t=>bG.cons h (Paired.toRepL t)
section
variable{X:Cx}{scope:Scope}{x1 x2 x3 y:Str}{N':List Str}{js:List Nat}{elt iter tg:Expr}{ifs:List Expr}{py pos spos:Pos}{tc:TT}{te:TE}{wi wj:TI}{i:Nat}
def iOr(wi wj:TI):TI:=λσ H R=>wi σ H R\/wj σ H R
theorem aAF(h1:KB X tg iter wi)(h2:KB X tg iter wj):KB X tg iter (iOr wi wj):=⟨λa s σ H R I h=>h.elim (h1.p a s σ H R I) (h2.p a s σ H R I)⟩
end
end L2
namespace L2
open PySem PySem.Spec PyProof.Rows
section
variable{X:Cx}
end
section
variable{X:Cx}
end
end L2
namespace L2
open PySem PySem.Spec PySem.W PyProof.Rows HT
end L2
namespace L2
open PySem PySem.Spec PyProof.Rows
theorem oH.ext{b:Bool}{h h':Heap}{i l c:Addr}{k:Nat}(x:oH b h i l k)(s:Heap.ExtBut c h h')(n:i≠c):oH b h' i l k:=x.at λo e=>s i o n e
section
variable{prog:Program}{w:World}{A:Around}{E:Value->Shared->Prop}{s:Shared}
theorem JN{b:Bool}{e it l:Addr}{i:Nat}{n:Int}{items:Array Value}{x old:Value}{Q:Value->Shared->Prop}(he:IsEnum s.heap e it n old)(hit:oH b s.heap it l i)(hl:kL b s.heap l items)(hx:items[i]?=some x)(hne:e≠it)
  (hQ:∀h' t,IsEnumOut h' e it (n+1) x s.heap.objs.size->oH b h' it l (i+1)->h'.get? s.heap.objs.size=some { cls:=.type "tuple",data:=.seq #[.int n t,x] }->(∀c o,c≠e->c≠it->s.heap.get? c=some o->h'.get? c=some o)->Q (.ref s.heap.objs.size) { s with heap:=h',toks:=s.toks+1 }) :
  wpAny (model prog w) A (Builtin.«enumerate.__next__» ⟨[.ref e],[]⟩) (λfin s'=>∃v,fin=.done (.ret v)/\Q v s') E s:=by
 obtain ⟨J,g,d,m,I⟩:=s;show wpAny _ _ (field (.ref e) 2 >>= _) _ _ _;refine wpAny_bind (wpAny_field he rfl (x:=.ref it) rfl ?_);refine wpAny_bind (wT hit hl hx λG L p=>?_);replace p:Heap.SameBut it J G:=p;have B:IsEnum G e it n old:=(p.2 e hne).trans he;show wpAny _ _ (field (.ref e) 3 >>= _) _ _ ⟨G,g,d,m,I⟩;refine wpAny_bind (wpAny_field B rfl (x:=rawInt n) rfl ?_);show wpAny _ _ (field (.ref e) 4 >>= _) _ _ ⟨G,g,d,m,I⟩;refine wpAny_bind (wpAny_field B rfl (x:=.none) rfl ?_);show wpAny _ _ (mkInt n >>= _) _ _ ⟨G,g,d,m,I⟩;refine wpAny_bind (wpAny_mkInt ?_);show wpAny _ _ (setField (.ref e) 3 (rawInt (n+1)) >>= _) _ _ ⟨G,g,d,m+1,I⟩;refine wpAny_bind (wpAny_setField_rec B (by simp) λX D j=>?_);replace j:Heap.SameBut e G X:=j;replace D:IsEnum X e it (n+1) old:=D;show wpAny _ _ (setField (.ref e) 4 .none >>= _) _ _ ⟨X,g,d,m+1,I⟩;refine wpAny_bind (wpAny_setField_rec D (by simp) λM z h=>?_);replace h:Heap.SameBut e X M:=h;replace z:IsEnum M e it (n+1) old:=z;show wpAny _ _ (newTuple [.int n m,x] >>= _) _ _ ⟨M,g,d,m+1,I⟩;refine wpAny_bind (wpAny_newTuple ?_);have C:IsEnum (M.push { cls:=.type "tuple",data:=.seq #[.int n m,x] }) e it (n+1) old:=aD _ z;generalize hh₄:M.push { cls:=.type "tuple",data:=.seq #[.int n m,x] }=W at C;have S:M.objs.size=J.objs.size:=by rw [h.1,j.1,p.1]
 have P:e<J.objs.size:=bC he;have α:W.get? J.objs.size=some { cls:=.type "tuple",data:=.seq #[.int n m,x] }:=by rw [<-hh₄,<-S];exact aX _ rfl
 have δ:∀c o,c≠e->c≠it->J.get? c=some o->W.get? c=some o:=λc o a N γ=>by rw [<-hh₄];exact aD _ (h.extBut c o a (j.extBut c o a (p.extBut c o N γ)))
 have U:oH b W it l (i+1):=by rw [<-hh₄];exact ((L.ext j.extBut (Ne.symm hne)).ext h.extBut (Ne.symm hne)).at λo ε=>aD _ ε
 show wpAny _ _ (Builtin.SmallTypes.ownedTupleIsFree (.ref e) >>= _) _ _ ⟨W,g,d,m+1,I⟩;rw [S];clear hh₄ z h D j B p L S M X G;refine wpAny_bind ?_;unfold Builtin.SmallTypes.ownedTupleIsFree;refine wpAny_bind (wpAny_field C rfl (x:=.none) rfl (wpAny_pure ?_));simp only [if_true];refine wpAny_bind (wpAny_rule ?_);refine wpAny_bind (wpAny_field C rfl (x:=old) rfl ?_);refine wpAny_bind (wpAny_setField_rec C (by simp) λY R u=>?_);replace u:Heap.SameBut e W Y:=u;replace R:IsEnum Y e it (n+1) x:=R;show wpAny _ _ (Builtin.SmallTypes.ownedTupleHandOut (.ref e) (.ref J.objs.size) >>= _) _ _ ⟨Y,g,d,m+1,I⟩;refine wpAny_bind ?_;unfold Builtin.SmallTypes.ownedTupleHandOut;refine wpAny_bind (wpAny_setField_rec R (by simp) λZ T y=>?_);replace y:Heap.SameBut e Y Z:=y;replace T:IsEnumOut Z e it (n+1) x J.objs.size:=T;refine wpAny_setField_rec T (by simp) λβ O r=>?_;replace r:Heap.SameBut e Z β:=r;replace O:IsEnumOut β e it (n+1) x J.objs.size:=O;refine wpAny_bind (wpAny_letGo (wpAny_pure ⟨_,rfl,hQ β m O ?_ ?_ ?_⟩))
 ·exact ((U.ext u.extBut (Ne.symm hne)).ext y.extBut (Ne.symm hne)).ext r.extBut (Ne.symm hne)
 ·exact r.extBut _ _ (Nat.ne_of_gt P) (y.extBut _ _ (Nat.ne_of_gt P) (u.extBut _ _ (Nat.ne_of_gt P) α))
 ·exact λc o a N γ=>r.extBut c o a (y.extBut c o a (u.extBut c o a (δ c o a N γ)))
theorem JM{b:Bool}{e it l:Addr}{i:Nat}{n:Int}{items:Array Value}{x old:Value}{Q:Option Value->Shared->Prop}(he:IsEnum s.heap e it n old)(hit:oH b s.heap it l i)(hl:kL b s.heap l items)(hx:items[i]?=some x)(hne:e≠it)
  (hQ:∀h' t,IsEnumOut h' e it (n+1) x s.heap.objs.size->oH b h' it l (i+1)->h'.get? s.heap.objs.size=some { cls:=.type "tuple",data:=.seq #[.int n t,x] }->(∀c o,c≠e->c≠it->s.heap.get? c=some o->h'.get? c=some o)->Q (some (.ref s.heap.objs.size)) { s with heap:=h',toks:=s.toks+1 }) :
  wpAny (model prog w) A (pyNext (.ref e)) Q E s:=by
 have d:s.TypeIs (.ref e) "enumerate" := ⟨_,he,rfl⟩;unfold pyNext;refine wpAny_bind (wpAny_attempt (wpAny_callSpecial?_slot (name:=Str.ofString "__next__") d F.slot_enumerate_next (wpAny_call_entry F.slot_enumerate_next d F.entry_enumerate_next ?_ (F.args_enumerate_next_1 _))));exact JN he hit hl hx hne λh' t a b c k=>wpAny_pure (hQ h' t a b c k)
theorem JL{b:Bool}{e it l:Addr}{i:Nat}{n:Int}{items:Array Value}{old:Value}{Q:Option Value->Shared->Prop}(hh:A.handled=none)(he:IsEnum s.heap e it n old)(hit:oH b s.heap it l i)(hl:kL b s.heap l items)(hx:items[i]?=none)
  (hQ:∀h',Heap.ExtBut it s.heap h'->Q none { s with heap:=h' }):wpAny (model prog w) A (pyNext (.ref e)) Q E s:=by
 have d:s.TypeIs (.ref e) "enumerate" := ⟨_,he,rfl⟩;unfold pyNext;refine wpAny_bind (wpAny_attempt (wpAny_callSpecial?_slot (name:=Str.ofString "__next__") d F.slot_enumerate_next (wpAny_call_entry F.slot_enumerate_next d F.entry_enumerate_next ?_ (F.args_enumerate_next_1 _))));show wpAny _ _ (field (.ref e) 2 >>= _) _ _ _;refine wpAny_bind (wpAny_field he rfl (x:=.ref it) rfl ?_);refine wpAny_bind (JB hh hit hl hx λh' x a c=>?_);obtain ⟨o,j,h⟩:=c;refine wpAny_bind (wpAny_isInstance (T := "StopIteration") (b:=true) ⟨o,j,h⟩ isSubtype_stop ?_);exact wpAny_pure (hQ _ a)
abbrev enO(it:Addr)(n:Int):Obj:={ cls:=.type "enumerate",data:=.fields #[.none,.bool false,.ref it,rawInt n,.none,.none] }
theorem aCv(b:Bool)(l:Addr)(xs:Array Value):Meets (Builtin.«enumerate.__new__» ⟨[.type "enumerate",.ref l],[]⟩) (λ_ R s=>kL b s.heap l xs/\R (.ok (.ret (.ref (s.heap.push (WN b l)).objs.size))) { s with heap:=(s.heap.push (WN b l)).push (enO s.heap.objs.size 0) }) :=
 .of_wp λi w A R s h=>by
  obtain ⟨m,g,d,j,n⟩:=s;obtain ⟨o,h⟩:=h;have a:=sub_enumerate;have e:kL b (Shared.heap ⟨m,g,d,j,n⟩) l xs:=o
  wp_walk
  refine wpAny_stack_any λp=>wpAny_pure ?_;split
  ·rename_i c _ _ _ _ _
   cases (c == Value.type "enumerate") <;> (wp_walk using MD e) <;> exact ⟨_,rfl,h⟩
  ·wp_walk using MD e
   exact ⟨_,rfl,h⟩
end
end L2
namespace Mf
section
variable(F:Nat)(G:List Int->Int)
end
section
variable{F:Nat}{G:List Int->Int}{ks:List (List Int)}
end
end Mf
namespace Mf
section
variable{F:Nat}{G:List Int->Int}{ks:List (List Int)}
end
end Mf
namespace L2
open PySem PySem.W PySem.Spec PySem.Calls PyProof.Rows
section
variable{X:Cx}
end
end L2
namespace Mf
def rv(f:Fr):Rat:=(f.1:Rat)/(f.2:Rat)
theorem DT{d:Int}(h:0<d):(0:Rat)<(d:Rat):=by exact_mod_cast h
theorem kX{d:Int}(h:0<d):(d:Rat)≠0:=by have:=DT h;grind
theorem sX{f:Fr}(h:0<f.2):rv f*(f.2:Rat)=(f.1:Rat):=by
 have:=kX h;unfold rv;grind
theorem vV{n d:Int}(h:0<d):rv (lw n d)=(n:Rat)/(d:Rat):=by
 have e:=kU (n:=n) (d:=d);have p:=(gQ (n:=n) h).pos;have j:=kX h;have c:=kX p;have i:((lw n d).1:Rat)*(d:Rat)=(n:Rat)*((lw n d).2:Rat):=by exact_mod_cast e
 unfold rv;generalize ((lw n d).1:Rat)=a at *;generalize ((lw n d).2:Rat)=b at *;grind
theorem uN{f g:Fr}(hf:0<f.2)(hg:0<g.2):rv (pC f g)=rv f+rv g:=by
 unfold pC;rw [vV (Int.mul_pos hf hg)];have b:=kX hf;have a:=kX hg;unfold rv;rw [Rat.intCast_add,Rat.intCast_mul,Rat.intCast_mul,Rat.intCast_mul];grind
theorem qE{f g:Fr}(hf:0<f.2)(hg:0<g.2):rv (nY f g)=rv f*rv g:=by
 unfold nY;rw [vV (Int.mul_pos hf hg)];have b:=kX hf;have a:=kX hg;unfold rv;rw [Rat.intCast_mul,Rat.intCast_mul];grind
theorem aBU(f:Fr):rv (-f.1,f.2)=- rv f:=by
 unfold rv;rw [show (((-f.1,f.2):Fr).1:Rat)=-(f.1:Rat) by rw [<-Rat.intCast_neg]];grind
theorem hV{f g:Fr}(hf:dN f)(hg:dN g)(e:rv f=rv g):f=g:=by
 have h:=kX hf.pos;have d:=kX hg.pos;have c:(f.1:Rat)*(g.2:Rat)=(g.1:Rat)*(f.2:Rat):=by
  have a:=sX hf.pos;have b:=sX hg.pos;rw [<-a,<-b,e];grind
 have q:=GF hf hg (by exact_mod_cast c);exact Prod.ext q.1 q.2
theorem aAP{f g:Fr}(hf:0<f.2)(hg:0<g.2):f.1*g.2<g.1*f.2↔rv f<rv g:=by
 have i:=DT hf;have c:=DT hg;have a:=sX hf;have b:=sX hg;have p:(0:Rat)<(f.2:Rat)*(g.2:Rat):=Rat.mul_pos i c;have e:((f.1*g.2:Int):Rat)=rv f*((f.2:Rat)*(g.2:Rat)):=by rw [Rat.intCast_mul,<-a];grind
 have d:((g.1*f.2:Int):Rat)=rv g*((f.2:Rat)*(g.2:Rat)):=by rw [Rat.intCast_mul,<-b];grind
 rw [<-Rat.intCast_lt_intCast,e,d];constructor
 ·intro h;exact Rat.lt_of_mul_lt_mul_right h (Rat.le_of_lt p)
 ·intro h;exact Rat.mul_lt_mul_of_pos_right h p
theorem qY:rv (0,1)=0:=by unfold rv;grind
theorem uM:rv (1,1)=1:=by unfold rv;grind
def iP(l:List Rat):Rat:=l.foldr (· + ·) 0
theorem sL:iP []=0:=rfl
theorem nJ(x:Rat)(l:List Rat):iP (x::l)=x+iP l:=rfl
theorem sM:∀(a b:List Rat),iP (a++b)=iP a+iP b
 | [],b=>by rw [sL,List.nil_append];grind
 | x::a,b=>by rw [List.cons_append,nJ,nJ,sM a b];grind
theorem IV(l:List Fr):(∀f∈l,dN f)->rv (pM l)=iP (l.map rv):=by
 induction l using jB with
 | h0=>intro _;exact qY
 | hs l a ih =>
  intro h;have b:∀f∈l,dN f:=λf c=>h f (cA _ c);rw [nG,uN (FD l b).pos (h a (by simp)).pos,ih b,bZ,sM,bF,List.map_nil,nJ,sL];grind
def Fn(N B:Nat)(f:Fr):Prop:=dN f/\∃x:Int,rv f*(N:Rat)=(x:Rat)/\x.natAbs<=B*N
theorem Fn.low{N B:Nat}{f:Fr}(h:Fn N B f):dN f:=h.1
theorem Fn.le{N B C:Nat}{f:Fr}(h:Fn N B f)(hB:B<=C):Fn N C f:=by
 obtain ⟨l,x,b,a⟩:=h;exact ⟨l,x,b,aZ a (cS _ hB)⟩
theorem qO{f g:Fr}(h:dN f)(h':dN g):dN (pC f g):=gQ (Int.mul_pos h.pos h'.pos)
theorem Fn.add{N B C:Nat}{f g:Fr}(h:Fn N B f)(h':Fn N C g):Fn N (B+C) (pC f g):=by
 obtain ⟨l,x,c,d⟩:=h;obtain ⟨a,y,b,e⟩:=h';refine ⟨qO l a,x+y,?_,?_⟩
 ·rw [uN l.pos a.pos,Rat.intCast_add,<-c,<-b];grind
 ·rw [Nat.add_mul];omega
theorem Fn.up{N B:Nat}{f:Fr}(h:Fn N B f)(M:Nat):Fn (N*M) B f:=by
 obtain ⟨l,x,b,a⟩:=h;refine ⟨l,x*(M:Int),?_,?_⟩
 ·rw [Rat.intCast_mul,<-b,Rat.natCast_mul];have:((M:Int):Rat)=(M:Rat):=rfl;rw [this];grind
 ·rw [gZ,<-Nat.mul_assoc];exact cS _ a
theorem Fn.dvd{N M B:Nat}{f:Fr}(h:Fn N B f)(d:N ∣ M):Fn M B f:=by
 obtain ⟨e,rfl⟩:=d;exact h.up e
theorem qF(N:Nat):((N:Int):Rat)=(N:Rat):=rfl
theorem ZG:dN (0,1):=⟨Dd,Dd⟩
theorem JE:dN (1,1):=⟨Dd,Dd⟩
theorem Fn.zero(N:Nat):Fn N 0 (0,1):=⟨ZG,0,by rw [qY];grind,by simp⟩
theorem Fn.one(N:Nat):Fn N 1 (1,1):=⟨JE,N,by rw [uM,qF];grind,by simp⟩
theorem Fn.eq{N B:Nat}{f:Fr}(h:Fn N B f)(hN:0<N):∃x:Int,f=lw x (N:Int)/\x.natAbs<=B*N:=by
 obtain ⟨l,x,c,b⟩:=h;have a:(0:Int)<(N:Int):=Oo;refine ⟨x,hV l (gQ a) ?_,b⟩;rw [vV a,<-c,qF];have:=kX a;rw [qF] at this;grind
theorem Fn.of{n d:Int}{B:Nat}(h:0<d)(hB:n.natAbs<=B*d.natAbs):Fn d.natAbs B (lw n d):=by
 refine ⟨gQ h,n,?_,hB⟩;have e:(d.natAbs:Int)=d:=Oo;rw [vV h,<-qF,e];have:=kX h;grind
theorem Fn.num{N B:Nat}{f:Fr}(h:Fn N B f)(hN:0<N):f.1.natAbs<=B*N/\f.2.natAbs<=N:=by
 obtain ⟨x,rfl,a⟩:=h.eq hN;have q:=UE (n:=x) (d:=(N:Int)) Oo;have p:=(gQ (n:=x) (d:=(N:Int)) Oo).pos;omega
theorem Fn.tot{N B:Nat}:∀(fs:List Fr),(∀f∈fs,Fn N B f)->Fn N (fs.length*B) (pM fs):=by
 intro fs
 induction fs using jB with
 | h0=>intro _;exact (Fn.zero N).le (cC _)
 | hs l a ih =>
  intro h;rw [nG,aV,List.length_singleton,Nat.add_mul,Nat.one_mul];exact (ih λf b=>h f (cA _ b)).add (h a (bW _ (cF.mpr rfl)))
end Mf
namespace Mf
def dG(n:Nat)(f:Nat->Rat):Rat:=iP ((List.range n).map f)
theorem fD(f:Nat->Rat):dG 0 f=0:=rfl
theorem dP(n:Nat)(f:Nat->Rat):dG (n+1) f=dG n f+f n:=by
 unfold dG;rw [List.range_succ,bZ,sM,bF,List.map_nil,nJ,sL];grind
theorem dD{n:Nat}{f g:Nat->Rat}(h:∀i,i<n->f i=g i):dG n f=dG n g:=by
 induction n with
 | zero=>rfl
 | succ n ih=>rw [dP,dP,ih λi a=>h i Oo,h n Oo]
theorem xJ(n:Nat)(f g:Nat->Rat):dG n (λi=>f i+g i)=dG n f+dG n g:=by
 induction n with
 | zero=>rw [fD,fD,fD];grind
 | succ n ih=>rw [dP,dP,dP,ih];grind
theorem lY(n:Nat)(a:Rat)(f:Nat->Rat):dG n (λi=>a*f i)=a*dG n f:=by
 induction n with
 | zero=>rw [fD,fD];grind
 | succ n ih=>rw [dP,dP,ih];grind
theorem uG{n:Nat}{f g:Nat->Rat}(h:∀i,i<n->f i<=g i):dG n f<=dG n g:=by
 induction n with
 | zero=>rw [fD,fD];exact Rat.le_refl
 | succ n ih =>
  have c:=ih λi b=>h i Oo;have a:=h n Oo;rw [dP,dP];grind
theorem nI(n:Nat):dG n (λ_=>0)=0:=by
 induction n with
 | zero=>rfl
 | succ n ih=>rw [dP,ih];grind
theorem KW{n:Nat}{f:Nat->Rat}(h:∀i,i<n->0<=f i):0<=dG n f:=by
 have:=uG (n:=n) (f:=λ_=>0) (g:=f) h
 rwa [nI] at this
theorem FG{n:Nat}(f:Nat->Rat){w:Nat}(h:w<n):dG n f-f w=dG n (λi=>if i=w then 0 else f i):=by
 induction n with
 | zero=>omega
 | succ n ih =>
  rw [dP,dP];by_cases e:w=n
  ·subst e;rw [if_pos rfl,dD (g:=f) λi a=>if_neg Oo];grind
  ·rw [if_neg (λq=>e q.symm),<-ih Oo];grind
def bN(c:List Nat)(i:Nat):List Nat:=c.set i (c.getD i 0+1)
section
variable{W F:Nat}{q:Nat->List Nat->Rat}{mix ps ps' cs:Nat->Rat}
end
end Mf
namespace Mf
def Qn(N B:Nat)(x:Rat):Prop:=∃z:Int,x*(N:Rat)=(z:Rat)/\z.natAbs<=B*N
theorem Fn.q{N B:Nat}{f:Fr}(h:Fn N B f):Qn N B (rv f):=h.2
theorem Qn.f{N B:Nat}{f:Fr}(l:dN f)(h:Qn N B (rv f)):Fn N B f:=⟨l,h⟩
def cW(x:Rat):Fr:=(x.num,(x.den:Int))
theorem bO(x:Rat):dN (cW x):=by
 refine ⟨?_,?_⟩
 ·show (0:Int)<(x.den:Int);have:=x.den_pos;omega
 ·show Int.gcd x.num (x.den:Int)=1;rw [Int.gcd_eq_natAbs_gcd_natAbs,Int.natAbs_natCast];exact x.reduced
theorem dI(x:Rat):rv (cW x)=x:=by
 unfold rv cW;show (x.num:Rat)/((x.den:Int):Rat)=x;rw [<-Rat.divInt_eq_div,Rat.num_divInt_den]
theorem Qn.fq{N B:Nat}{x:Rat}(h:Qn N B x):Fn N B (cW x):=⟨bO x,by rw [dI];exact h⟩
theorem Qn.le{N B C:Nat}{x:Rat}(h:Qn N B x)(hB:B<=C):Qn N C x:=by
 obtain ⟨z,b,a⟩:=h;exact ⟨z,b,aZ a (cS _ hB)⟩
theorem Qn.add{N B C:Nat}{x y:Rat}(h:Qn N B x)(h':Qn N C y):Qn N (B+C) (x+y):=by
 obtain ⟨z,b,c⟩:=h;obtain ⟨u,a,d⟩:=h';refine ⟨z+u,?_,?_⟩
 ·rw [Rat.intCast_add,<-b,<-a];grind
 ·rw [Nat.add_mul];omega
theorem Qn.neg{N B:Nat}{x:Rat}(h:Qn N B x):Qn N B (-x):=by
 obtain ⟨z,b,a⟩:=h;refine ⟨-z,?_,by rw [Int.natAbs_neg];exact a⟩;rw [Rat.intCast_neg,<-b];grind
theorem Qn.sub{N B C:Nat}{x y:Rat}(h:Qn N B x)(h':Qn N C y):Qn N (B+C) (x-y):=by
 have:=h.add h'.neg
 rwa [<-Rat.sub_eq_add_neg] at this
theorem Qn.mul{N M B C:Nat}{x y:Rat}(h:Qn N B x)(h':Qn M C y):Qn (N*M) (B*C) (x*y):=by
 obtain ⟨z,d,a⟩:=h;obtain ⟨u,c,b⟩:=h';refine ⟨z*u,?_,?_⟩
 ·rw [Rat.intCast_mul,<-d,<-c,Rat.natCast_mul];grind
 ·rw [gZ];have:=Nat.mul_le_mul a b;rw [Nat.mul_mul_mul_comm] at this;exact this
theorem Qn.dvd{N M B:Nat}{x:Rat}(h:Qn N B x)(d:N ∣ M):Qn M B x:=by
 obtain ⟨e,rfl⟩:=d;obtain ⟨z,b,a⟩:=h;refine ⟨z*(e:Int),?_,?_⟩
 ·rw [Rat.intCast_mul,<-b,Rat.natCast_mul,qF];grind
 ·rw [gZ,<-Nat.mul_assoc];exact cS _ a
theorem Qn.zero(N B:Nat):Qn N B 0:=⟨0,by grind,by simp⟩
theorem Qn.sumR{N B:Nat}{f:Nat->Rat}:∀{n:Nat},(∀i,i<n->Qn N B (f i))->Qn N (n*B) (dG n f)
 | 0,_=>by rw [fD];exact Qn.zero _ _
 | n+1,h=>by
  rw [dP,Nat.add_mul,Nat.one_mul];exact (Qn.sumR λi hi=>h i Oo).add (h n Oo)
theorem SK{f:Fr}(h:dN f)(n:Nat):rv (uQ f n)=rv f^n:=by
 have a:=kX h.pos
 induction n with
 | zero=>unfold uQ rv;grind
 | succ n ih =>
  have e:rv (uQ f (n+1))=rv (uQ f n)*rv f:=by
   have b:=kX (mK h n).pos;unfold uQ rv at *;simp only [Int.pow_succ,Rat.intCast_mul] at *;generalize ((f.1^n:Int):Rat)=u at *;generalize ((f.2^n:Int):Rat)=v at *;grind
  rw [e,ih,Rat.pow_succ]
theorem Qn.pow{N:Nat}{x:Rat}(h:Qn N 1 x):∀n:Nat,Qn (N^n) 1 (x^n)
 | 0=>⟨1,by rw [Rat.pow_zero,Nat.pow_zero];grind,by simp⟩
 | n+1=>by
  rw [Rat.pow_succ,Nat.pow_succ];exact (Qn.pow h n).mul h
theorem aBg{N:Nat}(l:List (Fr × Nat)):(∀z∈l,Fn N 1 z.1)->Qn (N^(l.map (·.2)).sum) 1 (rv (rJ l)):=by
 induction l using jB with
 | h0=>intro _;exact ⟨1,by show rv (1,1)*_=_;rw [uM];simp,by simp⟩
 | hs l a ih =>
  intro h;have d:∀z∈l,Fn N 1 z.1:=λz c=>h z (cA _ c);have b:=h a (by simp);rw [uD,qE (sJ l λz c=>(d z c).low).pos (mK b.low a.2).pos,SK b.low,bZ,List.sum_append,Nat.pow_add];have:=(ih d).mul (b.q.pow a.2);simpa using this
theorem SL{f:Fr}(h:dN f)(h0:0<=f.1):0<=rv f:=by
 have b:=DT h.pos;have e:=sX h.pos;have a:(0:Rat)<=(f.1:Rat):=by exact_mod_cast h0
 have:rv f=(f.1:Rat)*(f.2:Rat)⁻¹:=by unfold rv;exact Rat.div_def _ _
 rw [this];exact cT a (Rat.le_of_lt (Rat.inv_pos.mpr b))
theorem aBh(l:List (Fr × Nat)):(∀z∈l,dN z.1/\0<=z.1.1)->0<=rv (rJ l):=by
 intro h;have b:∀z∈l,dN z.1:=λz a=>(h z a).1;refine SL (sJ l b) ?_;rw [BV l b];have c:=ES l λz a=>(h z a).2;exact Int.ediv_nonneg c (Int.natCast_nonneg _)
theorem NO{α:Type}(l:List α)(m:List Nat):((l.zip m).map (·.2)).sum<=m.sum:=by
 induction l generalizing m with
 | nil=>simp
 | cons a l ih =>
  cases m with
  | nil=>simp
  | cons b m =>
   have:=ih m;simp only [List.zip_cons_cons,bF,List.sum_cons];omega
def wq(fs:List Fr)(c:List Nat):Rat:=rv (rJ (fs.zip c))
theorem QT{N M:Nat}{fs:List Fr}{c:List Nat}(h:∀f∈fs,Fn N 1 f)(hc:c.sum<=M):Qn (N^M) 1 (wq fs c):=by
 have e:=aBg (fs.zip c) (λz d=>h z.1 (List.of_mem_zip (a:=z.1) (b:=z.2) d).1);have i:=NO fs c;exact e.dvd (Nat.pow_dvd_pow _ Oo)
theorem aAE{fs:List Fr}{c:List Nat}(h:∀f∈fs,dN f/\0<=f.1):0<=wq fs c :=
 aBh _ λz d=>h z.1 (List.of_mem_zip (a:=z.1) (b:=z.2) d).1
def qOf(ss:List (List Fr))(v:Nat)(c:List Nat):Rat:=wq (ss.getD v []) c
def eV(ps:List Fr)(v:Nat):Rat:=rv (ps.getD v (0,1))
theorem vB{α:Type}{l:List α}{j:Nat}{a:α}(h:j<l.length):l.getD j a∈l:=by
 rw [aK,aC h];exact List.getElem_mem h
section
variable{F W M:Nat}{ss:List (List Fr)}{mix ps cs:List Fr}{Ns Nm Np Nc B:Nat}
theorem mQ{c:List Nat}{j:Nat}(h:j<c.length):(bN c j).sum=c.sum+1:=by
 unfold bN;have a:c[j]?=some (c.getD j 0):=by rw [aK,aC h];rfl
 have:=lG c j (c.getD j 0+1) _ a;omega
theorem VW(c:List Nat)(j:Nat):(bN c j).length=c.length:=by unfold bN;rw [List.length_set]
end
def rise(F M:Nat):List (List Nat):=(List.range (M+1)).flatMap (cta F)
theorem wU:∀{F m:Nat}{c:List Nat},1<=F->c.length=F->c.sum=m->c∈cta F m
 | 0,m,c,h,_,_=>Oo
 | 1,m,c,_,hl,hs=>by
  obtain ⟨x,rfl⟩:∃x,c=[x]:=by
   match c,hl with
   | [x],_=>exact ⟨x,rfl⟩
  have:x=m:=by simpa using hs
  subst this;simp [cta]
 | F+2,m,c,_,hl,hs=>by
  cases c with
  | nil=>simp at hl
  | cons x c =>
   rw [List.sum_cons] at hs;unfold cta;refine List.mem_flatMap.mpr ⟨x,bT.mpr Oo,aT.mpr ⟨c,wU Oo (by simpa using hl) Oo,rfl⟩⟩
theorem UD{F M:Nat}{c:List Nat}(hF:1<=F):c∈rise F M↔c.length=F/\c.sum<=M:=by
 unfold rise;rw [List.mem_flatMap];constructor
 ·rintro ⟨m,e,b⟩;have:=bT.mp e;obtain ⟨a,d⟩:=gY b;exact ⟨a,Oo⟩
 ·rintro ⟨a,d⟩;exact ⟨c.sum,bT.mpr Oo,wU hF a rfl⟩
theorem vX(F:Nat):∀M:Nat,(rise F M).Pairwise λa b=>a.sum<=b.sum
 | 0=>by
  unfold rise;rw [List.range_succ,List.range_zero,List.nil_append,List.flatMap_singleton];refine List.pairwise_iff_forall_sublist.mpr λ{a b} h=>?_;have ha:a∈cta F 0:=h.subset (by simp);have:=(gY ha).2;omega
 | M+1=>by
  have i:=vX F M;unfold rise at *;rw [List.range_succ,List.flatMap_append,List.flatMap_singleton];refine List.pairwise_append.mpr ⟨i,?_,λa ha b c=>?_⟩
  ·refine List.pairwise_iff_forall_sublist.mpr λ{a b} h=>?_;have ha:a∈cta F (M+1):=h.subset (by simp);have c:b∈cta F (M+1):=h.subset (by simp);have j:=(gY ha).2;have d:=(gY c).2;omega
  ·obtain ⟨m,e,ha⟩:=List.mem_flatMap.mp ha;have:=bT.mp e;have j:=(gY ha).2;have d:=(gY c).2;omega
end Mf
namespace Mf
theorem HD:∀F:Nat,1<=F->cta F 0=[List.replicate F 0]
 | 1,_=>rfl
 | F+2,_=>by
  unfold cta;rw [List.range_succ,List.range_zero,List.nil_append,List.flatMap_singleton,Nat.sub_zero,HD (F+1) Oo]
  rfl
theorem VF{F m:Nat}(hF:1<=F){d:List Nat}:d∈cta F (m+1) ↔ ∃c∈cta F m,∃j,j<F/\d=bN c j:=by
 constructor
 ·intro h;obtain ⟨b,p⟩:=gY h;obtain ⟨j,a,w⟩:∃j,j<d.length/\0<d.getD j 0:=by
   refine dQ λq=>?_;have z:d=List.replicate d.length 0:=by
    refine List.eq_replicate_iff.mpr ⟨rfl,λx u=>?_⟩;obtain ⟨j,a⟩:=cU.mp u;have r:=(aO.mp a).1;have:d.getD j 0=x:=by rw [aK,a];rfl
    refine dQ λs=>q ⟨j,r,Oo⟩
   have:d.sum=0:=by rw [z];simp
   omega
  have n:d[j]?=some (d.getD j 0):=by rw [aK,aC a];rfl
  have y:=lG d j (d.getD j 0-1) _ n;refine ⟨d.set j (d.getD j 0-1),wU hF (by rw [List.length_set];exact b) Oo,j,Oo,?_⟩;unfold bN;rw [aK (l:=d.set j _),List.getElem?_set_self a,List.set_set];show d=d.set j (d.getD j 0-1+1);rw [show d.getD j 0-1+1=d.getD j 0 by omega];refine (List.ext_getElem? λi=>?_);rw [List.getElem?_set];by_cases e:j=i
  ·subst e;rw [if_pos rfl,if_pos a];exact n
  ·rw [if_neg e]
 ·rintro ⟨c,o,j,a,rfl⟩;obtain ⟨b,p⟩:=gY o;exact wU hF (by rw [VW];exact b) (by rw [mQ Oo];omega)
theorem LD:∀F,F<=4->∀M,M<=5->(rise F M).Nodup:=Kk
end Mf
namespace Mf
abbrev cL:=List Nat × List Fr
def s0(e:cL):Rat:=eV e.2 0
def lK(F:Nat)(c d:List Nat):Rat:=dG F λf=>if bN c f=d then 1 else 0
def cD(F:Nat)(es:List cL):List Nat->Rat:=es.foldl (λg e=>λd=>g d+g e.1*s0 e*lK F e.1 d) (λd=>if d=List.replicate F 0 then 1 else 0)
theorem lU(F:Nat)(d:List Nat):cD F [] d=if d=List.replicate F 0 then 1 else 0:=rfl
theorem iJ(F:Nat)(l:List cL)(e:cL)(d:List Nat):cD F (l++[e]) d=cD F l d+cD F l e.1*s0 e*lK F e.1 d:=by unfold cD;rw [List.foldl_append];rfl
def bY{α:Type}(l:List α)(f:α->Rat):Rat:=iP (l.map f)
theorem fG{α:Type}(f:α->Rat):bY [] f=0:=rfl
theorem cJ{α:Type}(a:α)(l:List α)(f:α->Rat):bY (a::l) f=f a+bY l f:=rfl
theorem lZ{α:Type}(a b:List α)(f:α->Rat):bY (a++b) f=bY a f+bY b f:=by unfold bY;rw [bZ,sM]
theorem jL{α:Type}(l:List α)(a:α)(f:α->Rat):bY (l++[a]) f=bY l f+f a:=by rw [lZ,cJ,fG];grind
theorem dE{α:Type}{l:List α}{f g:α->Rat}(h:∀a∈l,f a=g a):bY l f=bY l g:=by unfold bY;rw [eC h]
theorem xL{α:Type}(l:List α)(f g:α->Rat):bY l (λa=>f a+g a)=bY l f+bY l g:=by
 induction l with
 | nil=>rw [fG,fG,fG];grind
 | cons a l ih=>rw [cJ,cJ,cJ,ih];grind
theorem sN{α:Type}(l:List α)(x:Rat)(f:α->Rat):bY l (λa=>x*f a)=x*bY l f:=by
 induction l with
 | nil=>rw [fG,fG];grind
 | cons a l ih=>rw [cJ,cJ,ih];grind
theorem qR{α:Type}(l:List α):bY l (λ_=>0)=0:=by
 induction l with
 | nil=>rfl
 | cons a l ih=>rw [cJ,ih];grind
theorem uH{α:Type}{l:List α}{f g:α->Rat}(h:∀a∈l,f a<=g a):bY l f<=bY l g:=by
 induction l with
 | nil=>exact Rat.le_refl
 | cons a l ih =>
  have d:=h a (aQ ..);have c:=ih λx b=>h x (aG _ b);rw [cJ,cJ];grind
theorem mU{α:Type}{l:List α}{f:α->Rat}(h:∀a∈l,0<=f a):0<=bY l f:=by
 have:=uH (l:=l) (f:=λ_=>0) (g:=f) h
 rwa [qR] at this
theorem zX{α:Type}(l:List α)(n:Nat)(f:α->Nat->Rat):bY l (λa=>dG n (f a))=dG n λi=>bY l λa=>f a i:=by
 induction l with
 | nil=>show 0=dG n (λ_=>0);rw [nI]
 | cons a l ih =>
  rw [cJ,ih,<-xJ];exact dD λi _=>rfl
theorem qT{es:List cL}(nd:(es.map (·.1)).Nodup){b:List Nat}(hb:b∈es.map (·.1))(Φ:List Nat->Rat):bY es (λx=>(if b=x.1 then 1 else 0)*Φ x.1)=Φ b:=by
 induction es with
 | nil=>cases hb
 | cons a es ih =>
  rw [bF,List.nodup_cons] at nd;rw [cJ];by_cases e:b=a.1
  ·rw [if_pos e,e,dE (g:=λ_=>0) λx c=>?_,qR]
   ·grind
   ·rw [if_neg λq=>nd.1 (by rw [q];exact aT.mpr ⟨x,c,rfl⟩)];grind
  ·rw [if_neg e,ih nd.2 (by rw [bF] at hb;exact (bE.mp hb).resolve_left e)];grind
structure uC(F:Nat)(es:List cL):Prop where
 root:∃e r,es=e::r/\e.1=List.replicate F 0
 len:∀e∈es,e.1.length=F
 nd:(es.map (·.1)).Nodup
 srt:es.Pairwise λa b=>a.1.sum<=b.1.sum
 fwd:∀e∈es,s0 e≠0->∀f,f<F->bN e.1 f∈es.map (·.1)
 bwd:∀d∈es.map (·.1),d≠List.replicate F 0->∃e∈es,s0 e≠0/\∃f,f<F/\bN e.1 f=d
 nn:∀e∈es,0<=s0 e
section
variable{F:Nat}{es:List cL}
theorem tI{c d:List Nat}(hc:c.length=F)(h:d.sum≠c.sum+1):lK F c d=0:=by
 unfold lK;rw [dD (g:=λ_=>0) λf a=>if_neg λq=>h ?_,nI];rw [<-q,mQ Oo]
theorem uC.at(R:uC F es){i:Nat}{e:cL}(h:es[i]?=some e):cD F (es.take i) e.1=cD F es e.1:=by
 have a:∀k,i+k<=es.length->cD F (es.take (i+k)) e.1=cD F (es.take i) e.1:=by
  intro k
  induction k with
  | zero=>intro _;rfl
  | succ k ih =>
   intro n;obtain ⟨x,b⟩:∃x,es[i+k]?=some x:=⟨_,aC Oo⟩;have m:es.take (i+k+1)=es.take (i+k)++[x]:=by rw [iD,b];rfl
   rw [<-Nat.add_assoc,m,iJ,ih Oo,tI (R.len x (aR b)) ?_]
   ·grind
   ·obtain ⟨l,c⟩:=aO.mp h;obtain ⟨j,d⟩:=aO.mp b;have:e.1.sum<=x.1.sum:=by
     by_cases q:k=0
     ·subst q;have:e=x:=by rw [<-c,<-d];rfl
      rw [this];exact aE _
     ·have:=(List.pairwise_iff_getElem.mp R.srt) i (i+k) l j Oo
      rwa [c,d] at this
    omega
 have o:=(aO.mp h).1;have:=a (es.length-i) Oo;rw [show i+(es.length-i)=es.length by omega,bP] at this;exact this.symm
theorem uC.cons(R:uC F es)(Φ:List Nat->Rat):∀n,n<=es.length->bY es (λx=>cD F (es.take n) x.1*Φ x.1)=Φ (List.replicate F 0)+bY (es.take n) λe=>cD F es e.1*s0 e*dG F λf=>Φ (bN e.1 f):=by
 intro n
 induction n with
 | zero =>
  intro _;rw [List.take_zero,fG];obtain ⟨e,r,a,h⟩:=R.root;have:=qT R.nd (b:=List.replicate F 0) (by rw [a,<-h];exact aQ ..) Φ;rw [dE (g:=λx=>(if List.replicate F 0=x.1 then 1 else 0)*Φ x.1) λx _=>?_,this]
  ·grind
  ·rw [lU];by_cases q:x.1=List.replicate F 0
   ·rw [if_pos q,if_pos q.symm]
   ·rw [if_neg q,if_neg λz=>q z.symm]
 | succ n ih =>
  intro l;obtain ⟨e,a⟩:∃x,es[n]?=some x:=⟨_,aC Oo⟩;have j:es.take (n+1)=es.take n++[e]:=by rw [iD,a];rfl
  have d:=aR a;rw [j,jL,<-Rat.add_assoc,<-ih Oo];rw [dE (g:=λx=>cD F (es.take n) x.1*Φ x.1+cD F es e.1*s0 e*(lK F e.1 x.1*Φ x.1)) λx _=>by rw [iJ,R.at a];grind];rw [xL,sN];by_cases z:s0 e=0
  ·rw [z];grind
  ·congr 2;have:(λx:cL=>lK F e.1 x.1*Φ x.1)=λx=>dG F λf=>(if bN e.1 f=x.1 then 1 else 0)*Φ x.1:=by
    funext x
    unfold lK;rw [Rat.mul_comm,<-lY];exact dD λi _=>Rat.mul_comm _ _
   rw [this,zX];exact dD λf c=>qT R.nd (R.fwd e d z f c) Φ
theorem uC.all(R:uC F es)(Φ:List Nat->Rat):bY es (λx=>cD F es x.1*Φ x.1)=Φ (List.replicate F 0)+bY es λe=>cD F es e.1*s0 e*dG F λf=>Φ (bN e.1 f):=by
 have:=R.cons Φ es.length (aE _)
 rwa [bP] at this
theorem UM(F:Nat)(c d:List Nat):0<=lK F c d:=KW λf _=>by split <;> grind
theorem uC.fnn(R:uC F es):∀n,n<=es.length->∀d,0<=cD F (es.take n) d:=by
 intro n
 induction n with
 | zero=>intro _ d;rw [List.take_zero,lU];split <;> grind
 | succ n ih =>
  intro h d;obtain ⟨e,a⟩:∃x,es[n]?=some x:=⟨_,aC Oo⟩;have c:es.take (n+1)=es.take n++[e]:=by rw [iD,a];rfl
  rw [c,iJ];have j:=ih Oo d;have b:=ih Oo e.1;have i:=cT (cT b (R.nn e (aR a))) (UM F e.1 d);grind
theorem uC.nnf(R:uC F es)(d:List Nat):0<=cD F es d:=by
 have:=R.fnn es.length (aE _) d
 rwa [bP] at this
theorem uC.pos(R:uC F es):∀(k:Nat) (d:List Nat),d∈es.map (·.1)->d.sum<=k->0<cD F es d:=by
 have b:∀d∈es.map (·.1),cD F es d=(if d=List.replicate F 0 then 1 else 0)+bY es λe=>cD F es e.1*s0 e*lK F e.1 d:=λd hd=>by
  have h:=R.all λx=>if d=x then 1 else 0
  have y:=qT R.nd hd (cD F es);have B:bY es (λx=>cD F es x.1*(if d=x.1 then 1 else 0))=cD F es d:=by rw [<-y];exact dE λx _=>Rat.mul_comm _ _
  rw [<-B,h];congr 1;exact dE λe _=>by
   congr 1;unfold lK;exact dD λf _=>by
    by_cases q:d=bN e.1 f
    ·rw [if_pos q,if_pos q.symm]
    ·rw [if_neg q,if_neg λz=>q z.symm]
 have o:∀d,∀e∈es,0<=cD F es e.1*s0 e*lK F e.1 d:=λd e a=>cT (cT (R.nnf _) (R.nn e a)) (UM F e.1 d);intro k
 induction k with
 | zero =>
  intro d hd w;have m:d=List.replicate F 0:=by
   refine dQ λq=>?_;obtain ⟨e,a,_,f,p,rfl⟩:=R.bwd d hd q;rw [mQ (by rw [R.len e a];exact p)] at w;omega
  rw [b d hd,if_pos m];have:=mU (o d);grind
 | succ k ih =>
  intro d hd w;by_cases m:d=List.replicate F 0
  ·rw [b d hd,if_pos m];have:=mU (o d);grind
  ·obtain ⟨e,a,M,f,p,rfl⟩:=R.bwd d hd m;have bs:=mQ (c:=e.1) (j:=f) (by rw [R.len e a];exact p);have A:=ih e.1 (aT.mpr ⟨e,a,rfl⟩) Oo;have s:0<s0 e:=by have:=R.nn e a;grind
   have N:1<=lK F e.1 (bN e.1 f):=by
    unfold lK;have y:=uG (n:=F) (f:=λi=>if i=f then 1 else 0) (g:=λi=>if bN e.1 i=bN e.1 f then 1 else 0) λi _=>by
     by_cases q:i=f
     ·subst q;rw [if_pos rfl,if_pos rfl];exact Rat.le_refl
     ·rw [if_neg q];split <;> grind
    have G:=FG (n:=F) (λi=>if i=f then (1:Rat) else 0) p;have I:dG F (λi=>if i=f then 0 else if i=f then (1:Rat) else 0)=0:=by
     rw [dD (g:=λ_=>0) λi _=>?_,nI];by_cases q:i=f
     ·rw [if_pos q]
     ·rw [if_neg q,if_neg q]
    rw [if_pos rfl,I] at G;grind
   have one:0<cD F es e.1*s0 e*lK F e.1 (bN e.1 f):=Rat.mul_pos (Rat.mul_pos A s) (by grind);rw [b _ hd,if_neg m];have:cD F es e.1*s0 e*lK F e.1 (bN e.1 f)<=bY es λr=>cD F es r.1*s0 r * lK F r.1 (bN e.1 f):=by
    obtain ⟨C,D,rfl⟩:=List.append_of_mem a;rw [lZ,cJ];have L:=mU (l:=C) λx u=>o (bN e.1 f) x (cA _ u);have J:=mU (l:=D) λx u=>o (bN e.1 f) x (bW _ (aG _ u));grind
   grind
theorem uC.posf(R:uC F es){e:cL}(h:e∈es):0<cD F es e.1:=R.pos _ e.1 (aT.mpr ⟨e,h,rfl⟩) (aE _)
theorem Qn.one'(N:Nat):Qn N 1 1:=⟨N,by rw [qF];grind,by simp⟩
theorem uC.qn(R:uC F es){N:Nat}(hN:∀e∈es,Qn N 1 (s0 e))(f4:F<=4):∀n,n<=es.length->∀d,Qn (N^d.sum) (5^n) (cD F (es.take n) d):=by
 intro n
 induction n with
 | zero =>
  intro _ d;rw [List.take_zero,lU];split
  ·exact Qn.one' _
  ·exact Qn.zero _ _
 | succ n ih =>
  intro o d;obtain ⟨e,a⟩:∃x,es[n]?=some x:=⟨_,aC Oo⟩;have m:es.take (n+1)=es.take n++[e]:=by rw [iD,a];rfl
  rw [m,iJ];have b:=ih Oo d;have h:=aR a;have p:5^(n+1)=5*5^n:=by rw [Nat.pow_succ];omega
  by_cases hs:d.sum=e.1.sum+1
  ·have i:=(ih Oo e.1).mul (hN e h);have l:Qn 1 4 (lK F e.1 d):=by
    have:=Qn.sumR (N:=1) (B:=1) (n:=F) (f:=λf=>if bN e.1 f=d then 1 else 0) λf _=>by
     split
     ·exact Qn.one' _
     ·exact Qn.zero _ _
    exact this.le Oo
   have c:=i.mul l;have j:N^e.1.sum*N=N^d.sum:=by rw [hs,Nat.pow_succ]
   rw [Nat.mul_one,j] at c;exact (b.add c).le Oo
  ·rw [tI (R.len e h) hs];have:cD F (es.take n) d+cD F (es.take n) e.1*s0 e*0=cD F (es.take n) d:=by grind
   rw [this];exact b.le Oo
end
def pF(zs:List (Fr × Nat)):Rat:=zs.foldr (λz p=>rv z.1^z.2*p) 1
theorem LA:∀(zs:List (Fr × Nat)) (p:Fr),dN p->(∀z∈zs,dN z.1)->rv (zs.foldl (λp q=>nY p (uQ q.1 q.2)) p)=rv p*pF zs
 | [],p,_,_=>by show rv p=rv p*1;grind
 | z::zs,p,hp,h=>by
  have hz:=h z (aQ ..);have a:=mK hz z.2;rw [List.foldl_cons,LA zs _ (mO hp a) λy b=>h y (aG _ b),qE hp.pos a.pos,SK hz];show _=rv p*(rv z.1^z.2*pF zs);grind
theorem sH{fs:List Fr}(h:∀f∈fs,dN f)(c:List Nat):wq fs c=pF (fs.zip c):=by
 unfold wq rJ;rw [LA _ _ JE λz d=>h z.1 (List.of_mem_zip (a:=z.1) (b:=z.2) d).1];show rv (1,1)*_=_;rw [uM];grind
theorem uO:∀(fs:List Fr) (c:List Nat) (j:Nat),j<fs.length->fs.length=c.length->pF (fs.zip (bN c j))=pF (fs.zip c)*eV fs j
 | [],c,j,h,_=>by simp at h
 | f::fs,[],j,_,h=>by simp at h
 | f::fs,n::c,0,_,_=>by
  show rv f^(n+1)*pF (fs.zip c)=(rv f^n*pF (fs.zip c))*rv f;rw [Rat.pow_succ];grind
 | f::fs,n::c,j+1,hj,hl=>by
  have ih:=uO fs c j (by simpa using hj) (by simpa using hl);have e:bN (n::c) (j+1)=n::bN c j:=by unfold bN;rw [List.set_cons_succ];rfl
  have a:eV (f::fs) (j+1)=eV fs j:=rfl;rw [e,a,List.zip_cons_cons,List.zip_cons_cons];show rv f^n*pF (fs.zip (bN c j))=(rv f^n*pF (fs.zip c))*eV fs j;rw [ih];grind
theorem AJ:∀(fs:List Fr) (n:Nat),pF (fs.zip (List.replicate n 0))=1
 | [],n=>by rfl
 | f::fs,0=>by rfl
 | f::fs,n+1=>by
  rw [List.replicate_succ,List.zip_cons_cons];show rv f^0*pF (fs.zip (List.replicate n 0))=1;rw [AJ fs n,Rat.pow_zero];grind
theorem KR(fs:List Fr):iP (fs.map rv)=dG fs.length (eV fs):=by
 unfold dG;congr 1;refine List.ext_getElem? λi=>?_;rw [aI,aI];by_cases hi:i<fs.length
 ·rw [eN hi,aC hi];show some _=some (eV fs i);unfold eV;rw [aK,aC hi];rfl
 ·rw [cV Oo,cV (by rw [cR];omega)];rfl
theorem aBf{fs:List Fr}(h:∀f∈fs,dN f)(h1:iP (fs.map rv)=1){c:List Nat}(hc:c.length=fs.length):wq fs c=dG fs.length λf=>wq fs (bN c f):=by
 rw [sH h];rw [dD (g:=λf=>pF (fs.zip c)*eV fs f) λf a=>by rw [sH h,uO fs c f a hc.symm]];rw [lY,<-KR,h1];grind
theorem KF{fs:List Fr}(h:∀f∈fs,dN f)(n:Nat):wq fs (List.replicate n 0)=1:=by rw [sH h,AJ]
section
variable{F W M:Nat}{es:List cL}{q:Nat->List Nat->Rat}{mix ps cs:Nat->Rat}
def qD(F:Nat)(es:List cL)(q:List Nat->Rat)(w:Nat):Rat:=bY es λe=>cD F es e.1*q e.1*eV e.2 (1+w)
theorem wP{n:Nat}{f:Nat->Rat}{g:Nat->Rat}(h:∀i,i<n->f i<=g i):dG n f<=dG n g:=uG h
end
end Mf
namespace Mf
section
variable{F W:Nat}{es:List cL}{q:Nat->List Nat->Rat}{mix ps cs:Nat->Rat}
end
end Mf
namespace L2
end L2
namespace L2
open PySem
section
variable{M:Model}{A:Around}{E:Value->Shared->Prop}{s:Shared}{env:Env}{outer:List Env}{base:Heap}{L a:Addr}{cls:Value}{od:Option Addr}
end
end L2
namespace L2
open PySem PySem.Spec PyProof.Rows
section
variable{P:Program}{w:World}{H H1 H2:Hp}{h h1 h2 base:Heap}{fs fs2 ex:List Addr}{a:Addr}{o:HO}
end
section
variable{P:Program}{w:World}{K:KFr}{mg:Str->Option Value}{base:Heap}{N:List Str}{qual:Str}{scope:Scope}{f:Addr}{cd:Value}{A:Around}{outer:List Env}{s:Shared}{H:Hp}{E:XK}
end
section
variable{X:Cx}{k:Nat}{f C:Addr}{fd:FuncData}{ps:List Str}{sp:Sp}{Ex:St->XK}{x:Str}{p pos np cpos:Pos}{e:Expr}{es:List Expr}{t:TA}
end
section
variable{X:Cx}{C:Addr}{Ex:St->XK}{x:Str}{pos np cpos:Pos}{e:Expr}{es:List Expr}{t:TA}
end
end L2
namespace L2
open PySem PySem.W PySem.Spec PySem.Calls PyProof.Rows
section
variable{prog:Program}{w:World}{A:Around}{E:Value->Shared->Prop}{s:Shared}{K:Frag}{x C:Addr}{ox:Obj}{od:Option Obj}{name:Str}
end
end L2
namespace L2
open PySem PySem.Spec PyProof.Rows
section
variable{X:Cx}{pins:List (Addr × Obj)}{σ:St}{H:Hp}{s:Shared}
end
section
variable{M:Model}{A:Around}{E:Value->Shared->Prop}{K:KFr}{s:Shared}{a C C2:Addr}{ox:Obj}{od:Option Obj}
end
section
variable{X:Cx}{x n:Str}{np hpos pos:Pos}{b₀:Stmt}{body suite:List Stmt}{i:Nat}{C2:Addr}{tb:(St->XK)->TS}{th:TS}
end
end L2
namespace L2
open PySem PySem.W PySem.Spec PySem.Calls PyProof.Rows
section
variable{prog:Program}{w:World}{A:Around}{E:Value->Shared->Prop}{h:Heap}{g:Array GenState}{d:Drawn}{t:Nat}{os:OsState}
variable{nm q:Str}{C N:Addr}{bs bm bmB:List Value}{hdct:Bool}{sn:List Str}{sub:List Value}{ab:Bool}{col:Option Bool}{dd:Option Addr}{k0 k1 k2 k3 k5:Option Value}{B newId initId:String}
end
section
variable{prog:Program}{w:World}{A:Around}{E:Value->Shared->Prop}{s:Shared}{K:Frag}{C f:Addr}{rest:List Value}
end
end L2
namespace L2
open PySem PySem.W PySem.Spec PySem.Calls PyProof.Rows Builtin Builtin.ObjectAttr
section
variable{prog:Program}{w:World}{A:Around}{E:Value->Shared->Prop}{s:Shared}{K:Frag}{x C:Addr}{R:Result->Shared->Prop}
end
section
variable{X:Cx}{pins:List (Addr × Obj)}{σ:St}{H:Hp}{s:Shared}{a C d:Addr}{fs:List (Str × V)}{f:Str}{v:V}{A:Around}{E:Value->Shared->Prop}
end
section
variable{X:Cx}{k:Nat}{f C:Addr}{fd:FuncData}{ps:List Str}{sp:Sp}{x g:Str}{p pos np apos pos':Pos}{e o value:Expr}{es:List Expr}{t:TA}{ta tv:TE}
end
end L2
namespace L2
open PySem PySem.W PySem.Spec PySem.Calls PyProof.Rows
end L2
namespace L2
open PySem PySem.W PySem.Spec PySem.Calls PyProof.Rows Builtin Builtin.ObjectAttr
section
variable{P:Program}{w:World}{H:Hp}{h:Heap}{a C:Addr}{od:Option Addr}
end
section
variable{prog:Program}{w:World}{A:Around}{E:Value->Shared->Prop}{s:Shared}{K:Frag}{x C:Addr}
end
section
variable{X:Cx}{pins:List (Addr × Obj)}{σ:St}{H:Hp}{s:Shared}{a C d:Addr}{fs:List (Str × V)}{f:Str}{v:V}{A:Around}{E:Value->Shared->Prop}
end
section
variable{X:Cx}{k:Nat}{f C:Addr}{fd:FuncData}{ps:List Str}{sp:Sp}{x g:Str}{p pos np apos pos':Pos}{e o value:Expr}{es:List Expr}{t:TA}{ta tv:TE}
end
section
variable{M:Model}{A:Around}{E:Value->Shared->Prop}{env:Env}{K:Frag}{C:Addr}
end
section
variable{X:Cx}{k:Nat}{f C:Addr}{fd:FuncData}{ps:List Str}{sp:Sp}{Ex:St->XK}{x:Str}{pos np cpos:Pos}{e:Expr}{es:List Expr}{t:TA}
end
end L2
namespace L2
open PySem PySem.Spec PySem.W PyProof.Rows HT
end L2
namespace L2
open PySem PySem.Spec PyProof.Rows
section
variable{X:Cx}
end
section
variable{σ:St}{js:List Nat}{te:TE}{H:Hp}{Q:VK}
end
end L2
namespace L2
open PySem PySem.Spec PySem.W PyProof.Rows
mutual
def wI:PyData->Bool
 | .int _=>true
 | .bool _=>true
 | .str _=>true
 | .tuple ds=>iY ds
 | _=>false
def iY:List PyData->Bool
 | []=>true
 | d::ds=>wI d&&iY ds
end
mutual
def UO(w:World):PyData->Int
 | .int i=>hashInt i
 | .bool b=>reduceHash (if b=true then 1 else 0)
 | .str x=>hashStr w x
 | .tuple ds=>reduceHash (Builtin.Tuple.tupleHashOf (yP w ds))
 | _=>0
def yP(w:World):List PyData->List Int
 | []=>[]
 | d::ds=>UO w d::yP w ds
end
mutual
def MO:PyData->Nat
 | .tuple ds=>vD ds+1
 | _=>1
def vD:List PyData->Nat
 | []=>0
 | d::ds=>MO d+vD ds
end
mutual
def BC:PyData->Nat
 | .tuple ds=>hZ ds+1
 | _=>0
def hZ:List PyData->Nat
 | []=>0
 | d::ds=>max (BC d) (hZ ds)
end
section
variable{prog:Program}{w:World}{E:Value->Shared->Prop}
set_option maxRecDepth 100000 in
mutual
theorem GL:∀(d:PyData) (v:Value) (A:Around) (s:Shared) (Q:Int->Shared->Prop) (as:List Addr),wI d=true->Reads s.heap v d as->A.units+BC d<cLine ->
  Q (UO w d) { s with toks:=s.toks+MO d }->wpAny (model prog w) A (pyHash v) Q E s
 | .int i,_,A,s,Q,as,_,r,_,h=>by cases r;exact wpAny_pyHash_int h
 | .str y,_,A,s,Q,as,_,r,_,h=>by cases r;exact wpAny_pyHash_str h
 | .bool b,_,A,s,Q,as,_,r,hu,h=>by
  cases r;refine pyHash_slot (T := "bool") rfl F.slot_bool_hash entry_int_hash (args_int_hash _) (beq_builtin_none _) (.inr (aY (Nat.le_add_right _ _) hu)) ?_;cases b with
  | false=>exact (show wpAny _ _ (mkInt 0 >>= λr=>ret r) _ _ s from wpAny_bind (wpAny_mkInt (wpAny_pure ⟨_,_,rfl,h⟩)))
  | true=>exact (show wpAny _ _ (mkInt 1 >>= λr=>ret r) _ _ s from wpAny_bind (wpAny_mkInt (wpAny_pure ⟨_,_,rfl,h⟩)))
 | .tuple ds,_,A,s,Q,as,hk,r,hu,h=>by
  cases r with
  | @tuple a o vs n _ _ hg hc hd hw =>
   have hu':A.units+(hZ ds+1)<cLine:=hu;refine pyHash_slot (T := "tuple") ⟨_,hg,hc⟩ F.slot_tuple_hash F.entry_tuple_hash (F.args_tuple_hash_1 _) (beq_builtin_none _) (.inr Oo) ?_;show wpAny _ _ (Builtin.Tuple.tupleItemsOf (.ref a) >>= _) _ _ s;refine wpAny_bind (wpAny_tupleItemsOf hg hd ?_);refine wpAny_bind ?_;rw [<-Array.forIn_toList];refine AX ds vs.toList A.in1 s #[] _ as hk hw (by rw [Around.in1_units];omega) λb c=>?_;show wpAny _ _ (retInt (Builtin.Tuple.tupleHashOf b.toList)) _ _ _;rw [c];exact wpAny_bind (wpAny_mkInt (wpAny_pure ⟨_,_,rfl,h⟩))
 | .none,_,_,_,_,_,hk,_,_,_ | .list _,_,_,_,_,_,hk,_,_,_ | .dict _,_,_,_,_,_,hk,_,_,_=>by simp [wI] at hk
theorem AX:∀(ds:List PyData) (vs:List Value) (A:Around) (s:Shared) (b:Array Int) (Q:Array Int->Shared->Prop) (as:List Addr),iY ds=true->ReadsAll s.heap vs ds as->A.units+hZ ds<cLine ->
  (∀b',b'.toList=b.toList++yP w ds->Q b' { s with toks:=s.toks+vD ds }) ->
  wpAny (model prog w) A (forIn vs b λx r=>do let h <-pyHash x;pure PUnit.unit;pure (ForInStep.yield (r.push h))) Q E s
 | [],_,A,s,b,Q,as,_,r,_,h=>by cases r;exact wpAny_pure (h b (by simp [yP]))
 | d::ds,_,A,s,b,Q,as,hk,r,hu,h=>by
  cases r with
  | cons r1 r2 =>
   have hk':wI d=true/\iY ds=true:=by rw [iY,cM] at hk;exact hk
   have a:A.units+max (BC d) (hZ ds)<cLine:=hu;rw [List.forIn_cons];refine wpAny_bind (wpAny_bind (GL d _ A s _ _ hk'.1 r1 Oo ?_));refine wpAny_bind (wpAny_pure (wpAny_pure ?_));refine AX ds _ A _ _ Q _ hk'.2 r2 Oo λb' c=>?_;have:=h b' (by rw [c];simp [yP]);rw [show s.toks+vD (d::ds)=s.toks+MO d+vD ds by rw [vD,Nat.add_assoc]] at this;exact this
end
mutual
theorem AI:∀(n:Nat) (d:PyData) (v:Value) (A:Around) (s:Shared) (Q:Bool->Shared->Prop) (as:List Addr),wI d=true->BC d<=n->Reads s.heap v d as->Q true s->wpAny (model prog w) A (eqIsQuiet n v) Q E s
 | n,.int i,_,A,s,Q,as,_,_,r,h=>by cases r;unfold eqIsQuiet;exact wpAny_pure h
 | n,.str i,_,A,s,Q,as,_,_,r,h=>by cases r;unfold eqIsQuiet;exact wpAny_pure h
 | n,.bool i,_,A,s,Q,as,_,_,r,h=>by cases r;unfold eqIsQuiet;exact wpAny_pure h
 | n,.tuple ds,_,A,s,Q,as,hk,hn,r,h=>by
  cases r with
  | @tuple a o vs m _ _ hg hc hd hw =>
   have hn':hZ ds+1<=n:=hn;obtain ⟨n,rfl⟩:∃k,n=k+1:=⟨n-1,Oo⟩;have b:s.TypeIs (.ref a) "tuple" := ⟨o,hg,hc⟩;unfold eqIsQuiet;refine wpAny_bind (wpAny_specialOf b F.slot_tuple_eq.lookup ?_);show wpAny _ _ (isInstance (.ref a) (.type "tuple") >>= _) _ _ s;refine wpAny_bind (wpAny_isInstance b isSubtype_tuple_tuple ?_);simp only [Bool.not_true,Bool.false_eq_true,if_false];refine wpAny_bind (wpAny_seqItems hg hd ?_);refine wpAny_bind ?_;show wpAny _ _ (forIn vs _ _) _ _ s;rw [<-Array.forIn_toList];exact xX n ds vs.toList A s _ as hk Oo hw (wpAny_pure h)
 | _,.none,_,_,_,_,_,hk,_,_,_ | _,.list _,_,_,_,_,_,hk,_,_,_ | _,.dict _,_,_,_,_,_,hk,_,_,_=>by simp [wI] at hk
theorem xX:∀(n:Nat) (ds:List PyData) (vs:List Value) (A:Around) (s:Shared) (Q:Option Bool × Unit->Shared->Prop) (as:List Addr),iY ds=true->hZ ds<=n->ReadsAll s.heap vs ds as->Q (none,()) s ->
  wpAny (model prog w) A (forIn vs ((none,()):Option Bool × Unit) λy r=>do
   let x <-eqIsQuiet n y
   if (!x)=true then pure (ForInStep.done (some false,())) else pure (ForInStep.yield (none,()))) Q E s
 | n,[],_,A,s,Q,as,_,_,r,h=>by cases r;exact wpAny_pure h
 | n,d::ds,_,A,s,Q,as,hk,hn,r,h=>by
  cases r with
  | cons r1 r2 =>
   have hk':wI d=true/\iY ds=true:=by rw [iY,cM] at hk;exact hk
   have a:max (BC d) (hZ ds)<=n:=hn;rw [List.forIn_cons];refine wpAny_bind (wpAny_bind (AI n d _ A s _ _ hk'.1 Oo r1 ?_));simp only [Bool.not_true,Bool.false_eq_true,if_false];exact wpAny_pure (xX n ds _ A s Q _ hk'.2 Oo r2 h)
end
end
mutual
theorem xV{h h':Heap}(k:∀(b:Addr) (o:Obj) vs n,h.get? b=some o->o.data=.seq vs n->h'.get? b=some o):∀(d:PyData) (v:Value) (as:List Addr),wI d=true->Reads h v d as->Reads h' v d as
 | .int i,_,_,_,r=>by cases r;exact .int ..
 | .str i,_,_,_,r=>by cases r;exact .str ..
 | .bool i,_,_,_,r=>by cases r;exact .bool ..
 | .tuple ds,_,_,hk,r=>by
  cases r with
  | tuple hg hc hd hw=>exact .tuple (k _ _ _ _ hg hd) hc hd (vY k ds _ _ hk hw)
 | .none,_,_,hk,_ | .list _,_,_,hk,_ | .dict _,_,_,hk,_=>by simp [wI] at hk
theorem vY{h h':Heap}(k:∀(b:Addr) (o:Obj) vs n,h.get? b=some o->o.data=.seq vs n->h'.get? b=some o):∀(ds:List PyData) (vs:List Value) (as:List Addr),iY ds=true->ReadsAll h vs ds as->ReadsAll h' vs ds as
 | [],_,_,_,r=>by cases r;exact .nil
 | d::ds,_,_,hk,r=>by
  cases r with
  | cons r1 r2 =>
   rw [iY,cM] at hk;exact .cons (xV k d _ _ hk.1 r1) (vY k ds _ _ hk.2 r2)
end
noncomputable instance decPyData:DecidableEq PyData:=λa b=>Classical.propDecidable (a=b)
structure rP where
 S:PyData->Prop
 key:∀d,S d->wI d=true
 deep:∀d,S d->BC d<=8
 lay:∀d,S d->d.canLay0=true
 dep:∀d,S d->d.depth<=60
 eq:∀d e,S d->S e->PyData.eqv d e=decide (d=e)
noncomputable def kH (P:Program) (w:World) (Sh:rP):HeapKind P w PyData where
 is:=λh d a=>Sh.S d/\∃as,Reads h (.ref a) d as
 hash:=UO w
 draws:=MO
 room:=λA=>A.units+61<cLine
 inj:=λ{h a x y} ⟨sx,_,rx⟩ ⟨_,_,ry⟩=>SeqAt.Reads.unique _ _ _ _ _ (Sh.lay x sx) rx ry
 keeps:=λ{h h' k a d o es ep} ⟨sx,as,rx⟩ ho hd hs=>⟨sx,as,xV (λb ob vs n hb hbd=>by
  have nb:b≠d:=λz=>by subst z;rw [ho] at hb;cases hb;rw [hd] at hbd;cases hbd
  exact (hs.2 b nb).trans hb) _ _ _ (Sh.key k sx) rx⟩
 pyHash:=λ{A E s k a Q} hu ⟨sx,as,rx⟩ h=>GL k _ A s Q as (Sh.key k sx) rx (by have:=Sh.deep k sx;omega) h
 eqBool:=λ{A E s x y a b Q} hu ⟨sx,as,rx⟩ ⟨sy,bs,ry⟩ h=>SeqAt.eqBoolOverData P w A E s _ _ x y as bs Q rx ry (Sh.lay x sx) (Sh.lay y sy) (by have:=Sh.dep x sx;omega) (by rw [Sh.eq x y sx sy];exact h)
 quiet:=λ{A E s k a Q} ⟨sx,as,rx⟩ h=>AI 8 k _ A s Q as (Sh.key k sx) (Sh.deep k sx) rx h
def UZ(P:Program)(w:World)(Sh:rP)(a:Addr)(kvs:List (PyData × Addr × V))(h:Heap):Prop :=
 (kvs.length<=sizeLine/\(a == sysModules)=false)/\∃xs:List (PyData × Addr × Value),Paired (λ(p:PyData × Addr × V) (q:PyData × Addr × Value)=>p.1=q.1/\p.2.1=q.2.1/\eI p.2.2 q.2.2) kvs xs /\
  ∃o es ep,h.get? a=some o/\o.ExactDict/\o.data=.dict es ep/\es.toList=xs.map (entryOfKey (kH P w Sh))/\(xs.map (·.1)).Nodup
def rY(P:Program)(w:World)(Sh:rP)(a:Addr)(kvs:List (PyData × Addr × V)):HO:=.ext (UZ P w Sh a kvs)
abbrev EO(kvs:List (PyData × Addr × V)):List (PyData × V):=kvs.map λp=>(p.1,p.2.2)
structure fF(P:Program)(w:World)(Sh:rP)(H:Hp)(a:Addr)(l:List (PyData × V)):Prop where
 ex:∃kvs:List (PyData × Addr × V),H a=some (rY P w Sh a kvs)/\(∀p∈kvs,Sh.S p.1/\cE H p.1 (.ref p.2.1))/\l=EO kvs
section
variable{P:Program}{w:World}{Sh:rP}{H H':Hp}{h h':Heap}{a:Addr}
theorem UY{kvs:List (PyData × Addr × V)}(x:UZ P w Sh a kvs h):fA P w H h a (rY P w Sh a kvs):=by
 obtain ⟨j,i,r,o,d,b,e,c⟩:=id x;refine ⟨x,⟨o,e⟩,λm l p k=>?_⟩;obtain ⟨j,i,r,o,d,b,e,c⟩:=p;exact ⟨j,i,r,o,d,b,k _ e,c⟩
abbrev KN:List (PyData × Addr × V)->List (PyData × Addr × Value)->Prop:=Paired λ(p:PyData × Addr × V) (q:PyData × Addr × Value)=>p.1=q.1/\p.2.1=q.2.1/\eI p.2.2 q.2.2
theorem KN.val{kvs:List (PyData × Addr × V)}{xs:List (PyData × Addr × Value)}(r:KN kvs xs)(k:PyData):vM (gT (EO kvs) k) ((atKey xs k).map (·.2)):=by
 induction r with
 | nil=>exact True.intro
 | @cons p q ps qs h t ih =>
  obtain ⟨c,_,d⟩:=h;by_cases e:p.1=k
  ·have a:q.1=k:=c.symm.trans e;have b:atKey (q::qs) k=some q.2:=by simp [atKey,List.find?_cons,a]
   rw [show EO (p::ps)=(p.1,p.2.2)::EO ps from rfl,fZ e,b];exact d
  ·have a:¬q.1=k:=λz=>e (c.trans z);have b:atKey (q::qs) k=atKey qs k:=by simp [atKey,List.find?_cons,a]
   rw [show EO (p::ps)=(p.1,p.2.2)::EO ps from rfl,gA e,b];exact ih
noncomputable def xZ (kvs:List (PyData × Addr × V)) (k:PyData) (b:Addr) (v:V):List (PyData × Addr × V) :=
 if (kvs.any λkv=>decide (kv.1=k))=true then kvs.map (λkv=>if kv.1=k then (kv.1,kv.2.1,v) else kv) else kvs++[(k,b,v)]
theorem TC(kvs:List (PyData × Addr × V))(k:PyData)(b:Addr)(v:V):EO (xZ kvs k b v)=jW (EO kvs) k v:=by
 unfold xZ jW EO;rw [List.any_map];have e:((λa:PyData × V=>decide (a.1=k)) ∘ λp:PyData × Addr × V=>(p.1,p.2.2))=λa:PyData × Addr × V=>decide (a.1=k):=rfl;rw [e];by_cases q:(kvs.any λa=>decide (a.1=k))=true
 ·rw [if_pos q,if_pos q,List.map_map,List.map_map];refine eC λp _=>?_;show (λp:PyData × Addr × V=>(p.1,p.2.2)) (if p.1=k then (p.1,p.2.1,v) else p)=if p.1=k then (p.1,v) else (p.1,p.2.2)
  by_cases e:p.1=k
  ·rw [if_pos e,if_pos e]
  ·rw [if_neg e,if_neg e]
 ·rw [if_neg q,if_neg q,bZ];rfl
theorem SZ{kvs:List (PyData × Addr × V)}{k:PyData}{b:Addr}{v:V}{p:PyData × Addr × V}(h:p∈xZ kvs k b v):(∃q∈kvs,p.1=q.1/\p.2.1=q.2.1)\/(p.1=k/\p.2.1=b):=by
 unfold xZ at h;split at h
 ·obtain ⟨q,a,rfl⟩:=aT.mp h;refine .inl ⟨q,a,?_⟩;split <;> exact ⟨rfl,rfl⟩
 ·rcases eM.mp h with h | h
  ·exact .inl ⟨p,h,rfl,rfl⟩
  ·rw [cF.mp h];exact .inr ⟨rfl,rfl⟩
theorem TB(kvs:List (PyData × Addr × V))(k:PyData)(b:Addr)(v:V):(xZ kvs k b v).length<=kvs.length+1:=by
 unfold xZ;split
 ·rw [aB];omega
 ·rw [aV,List.length_singleton];exact aE _
theorem KN.any{kvs:List (PyData × Addr × V)}{xs:List (PyData × Addr × Value)}(r:KN kvs xs)(k:PyData):(kvs.any λkv=>decide (kv.1=k))=(atKey xs k).isSome:=by
 have h:=(r.val k).isSome_eq;rw [Option.isSome_map] at h;rw [<-h,<-jR];unfold EO;rw [List.any_map];rfl
theorem KN.put{kvs:List (PyData × Addr × V)}{xs:List (PyData × Addr × Value)}(r:KN kvs xs)(k:PyData){b:Addr}{y:V}{u:Value}(ry:eI y u):KN (xZ kvs k b y) (storedH xs k b u):=by
 unfold xZ storedH;rw [r.any k];by_cases q:(atKey xs k).isSome=true
 ·rw [if_pos q,if_pos q];clear q
  induction r with
  | nil=>exact .nil
  | @cons p q ps qs h t ih =>
   rw [bF,bF];refine .cons ?_ ih;obtain ⟨a,c,d⟩:=h;unfold putAt;by_cases e:p.1=k
   ·rw [if_pos e,if_pos (a.symm.trans e)];exact ⟨a,c,ry⟩
   ·rw [if_neg e,if_neg (λz=>e (a.trans z))];exact ⟨a,c,d⟩
 ·rw [if_neg q,if_neg q];exact Paired.snoc r ⟨rfl,rfl,ry⟩
end
section
variable{X:Cx}{pins:List (Addr × Obj)}{σ:St}{H:Hp}{s:Shared}{a:Addr}{Sh:rP}
theorem tD{d:PyData}{b:Addr}(I:cO X pins σ H s)(hS:Sh.S d)(r:cE H d (.ref b)):(kH X.prog X.w Sh).is s.heap d b:=⟨hS,r.reads I rfl⟩
theorem aEd{kvs:List (PyData × Addr × V)}(I:cO X pins σ H s)(e:Rd H a (rY X.prog X.w Sh a kvs))(ks:∀p∈kvs,Sh.S p.1/\cE H p.1 (.ref p.2.1)):(kvs.length<=sizeLine/\(a == sysModules)=false)/\∃xs,KN kvs xs/\s.heap.DictOfH (kH X.prog X.w Sh) a xs:=by
 obtain ⟨⟨B,xs,r,o,A,j,C,u,z,y,n⟩,_⟩:=(show fA X.prog X.w H s.heap a (rY X.prog X.w Sh a kvs) from ST I.hok e);refine ⟨B,xs,r,o,A,j,C,u,z,y,λx b=>?_,n⟩;have all:∀{l:List (PyData × Addr × V)} {m:List (PyData × Addr × Value)},KN l m->(∀p∈l,Sh.S p.1/\cE H p.1 (.ref p.2.1))->∀x∈m,(kH X.prog X.w Sh).is s.heap x.1 x.2.1:=by
  intro l m q
  induction q with
  | nil=>intro _ x b;exact nomatch b
  | @cons p q ps qs hq t ih =>
   intro d x b;rcases bE.mp b with e | b
   ·subst e;obtain ⟨i,h⟩:=d p (aQ ..);rw [<-hq.1,<-hq.2.1];exact tD I i h
   ·exact ih (λp c=>d p (aG _ c)) x b
 exact all r ks x b
end
end L2
namespace HT
open PySem PySem.Spec PySem.W PyProof.Rows
section
variable{prog:Program}{w:World}{K:Type}[DecidableEq K]{knd:HeapKind prog w K}{A:Around}{E:Value->Shared->Prop}{s:Shared}
end
end HT
namespace L2
open PySem PySem.Spec PySem.W PyProof.Rows HT
section
variable{X:Cx}
end
section
variable{X:Cx}{tg:Expr}
end
section
variable{σ:St}{js:List Nat}{te:TE}{H:Hp}{Q:VK}
end
section
variable{X:Cx}
end
mutual
theorem qI:∀(d:PyData),wI d=true->eP d=true
 | .int _,_=>rfl
 | .str _,_=>rfl
 | .bool _,_=>rfl
 | .tuple ds,h=>AU ds h
 | .none,h | .list _,h | .dict _,h=>by simp [wI] at h
theorem AU:∀(ds:List PyData),iY ds=true->dU ds=true
 | [],_=>rfl
 | d::ds,h=>by
  rw [iY,cM] at h;show (eP d&&dU ds)=true;rw [qI d h.1,AU ds h.2];rfl
end
section
variable{P:Program}{w:World}{Sh:rP}{H H':Hp}{a:Addr}{l:List (PyData × V)}
theorem fF.keep(h:fF P w Sh H a l)(t:dL H H')(k:∀kvs,H a=some (rY P w Sh a kvs)->H' a=some (rY P w Sh a kvs)):fF P w Sh H' a l:=by
 obtain ⟨kvs,e,c,rfl⟩:=h.ex;exact ⟨kvs,k _ e,λp b=>⟨(c p b).1,(c p b).2.flat t (qI _ (Sh.key _ (c p b).1))⟩,rfl⟩
theorem fF.same(h:fF P w Sh H a l)(s:bA H H'):fF P w Sh H' a l:=h.keep s.t λb e=>s _ _ e
theorem fF.ne{b:Addr}{xs:List V}(h:fF P w Sh H a l)(hb:H b=some (.tup xs)):b≠a:=λz=>by
 obtain ⟨c,e,_⟩:=h.ex;rw [z,e] at hb;cases hb
theorem fF.neL{b:Addr}{xs:List V}(h:fF P w Sh H a l)(hb:H b=some (.lst xs)):b≠a:=λz=>by
 obtain ⟨c,e,_⟩:=h.ex;rw [z,e] at hb;cases hb
theorem fF.t(h:fF P w Sh H a l)(s:aU a H H'):dL H H':=λb d c=>s.at (h.ne c) c
theorem fF.but{b:Addr}{xs:List V}(h:fF P w Sh H a l)(hb:H b=some (.lst xs))(s:aU b H H'):fF P w Sh H' a l:=h.keep (s.t hb) λc e=>s.at (λz=>h.neL hb z.symm) e
theorem fF.there(h:fF P w Sh H a l):∃o,H a=some o:=by
 obtain ⟨b,e,_⟩:=h.ex;exact ⟨_,e⟩
end
section
variable{X:Cx}{pins:List (Addr × Obj)}{σ:St}{H:Hp}{s:Shared}{a:Addr}{Sh:rP}{l:List (PyData × V)}
theorem fF.open_(h:fF X.prog X.w Sh H a l)(I:cO X pins σ H s):∃kvs xs,H a=some (rY X.prog X.w Sh a kvs)/\(∀p∈kvs,Sh.S p.1/\cE H p.1 (.ref p.2.1))/\l=EO kvs/\kvs.length<=sizeLine/\(a == sysModules)=false/\KN kvs xs/\s.heap.DictOfH (kH X.prog X.w Sh) a xs:=by
 obtain ⟨kvs,e,c,rfl⟩:=h.ex;obtain ⟨⟨z,hd⟩,xs,b,d⟩:=aEd I (.inl e) c;exact ⟨kvs,xs,e,c,rfl,z,hd,b,d⟩
theorem fF.isD(h:fF X.prog X.w Sh H a l)(I:cO X pins σ H s):s.TypeIs (.ref a) "dict" /\ (∀b,Value.ref a=.ref b->∃ob,s.heap.get? b=some ob/\ob.dict=none)/\(a == sysModules)=false:=by
 obtain ⟨e,j,_,_,_,_,hd,_,c⟩:=h.open_ I;refine ⟨c.typeIs,λb q=>?_,hd⟩;cases q;obtain ⟨ob,_,_,i,d,_⟩:=c;exact ⟨ob,i,d.2.1⟩
theorem DH{A:Around}(P:Program)(w:World)(Sh:rP)(hu:A.units+64<cLine):(kH P w Sh).room A.in1:=by
 show A.in1.units+61<cLine;rw [Around.in1_units];omega
theorem GW{h':Heap}{t':Nat}{kvs:List (PyData × Addr × V)}{xs:List (PyData × Addr × Value)}{d:PyData}{b:Addr}{v:V}{r:Value}(I:cO X pins σ H s)(e:H a=some (rY X.prog X.w Sh a kvs))(ks:∀p∈kvs,Sh.S p.1/\cE H p.1 (.ref p.2.1))(hl:kvs.length<sizeLine)(hd:(a == sysModules)=false)(rel:KN kvs xs)
  (hS:Sh.S d) (rb:cE H d (.ref b)) (rv:eI v r) (dd:h'.DictOfH (kH X.prog X.w Sh) a (storedH xs d b r)) (hs:Heap.SameBut a s.heap h') :
  ∃H',cO X pins σ H' { s with heap:=h',toks:=t' }/\fF X.prog X.w Sh H' a (jW (EO kvs) d v)/\aU a H H':=by
 obtain ⟨q,y,A,h,m,x,o,_,u⟩:=dd;have t:dL H (upd H a (rY X.prog X.w Sh a (xZ kvs d b v))):=λc B i=>by rw [eG (λz=>by rw [z,e] at i;cases i)];exact i
 refine ⟨_,wV (ob:=rY X.prog X.w Sh a (xZ kvs d b v)) I (by rw [e];exact True.intro) hs ⟨q,h⟩ (UY ⟨⟨aZ (TB kvs d b v) hl,hd⟩,_,rel.put d rv,q,y,A,h,m,x,o,u⟩),⟨xZ kvs d b v,bL,λp n=>?_,(TC kvs d b v).symm⟩,aU.self⟩;rcases SZ n with ⟨q,h,j,l⟩ | ⟨j,l⟩
 ·rw [j,l];exact ⟨(ks q h).1,(ks q h).2.flat t (qI _ (Sh.key _ (ks q h).1))⟩
 ·rw [j,l];exact ⟨hS,rb.flat t (qI _ (Sh.key _ hS))⟩
end
@[irreducible] def rNP(P:Program)(w:World)(D:rQ)(σ:St)(x y v:V)(H:Hp):Prop:=∃Sh a l b d,x=.ref a/\y=.ref b/\fF P w Sh H a l/\cE H d (.ref b)/\Sh.S d/\l.length<sizeLine/\∀H',fF P w Sh H' a (jW l d v)->aU a H H'->D.nx σ H'
theorem rnp{P:Program}{w:World}{D:rQ}{σ:St}{H:Hp}{a b:Addr}{Sh:rP}{l:List (PyData × V)}{d:PyData}{v:V}(h:fF P w Sh H a l)(rb:cE H d (.ref b))(hS:Sh.S d)(hl:l.length<=100000)(q:∀H',fF P w Sh H' a (jW l d v)->aU a H H'->D.nx σ H'):rNP P w D σ (.ref a) (.ref b) v H:=by
 unfold rNP;exact ⟨Sh,a,l,b,d,rfl,rfl,h,rb,hS,aY hl Dd,q⟩
def aDu(P:Program)(w:World)(td ty tv:TE):TS:=λD σ H=>tv σ H λv H1=>td σ H1 λx H2=>ty σ H2 λy H3=>rNP P w D σ x y v H3
@[irreducible] def rN0(P:Program)(w:World)(x:V)(H:Hp)(R:Prop):Prop:=∃Sh a l,x=.ref a/\fF P w Sh H a l/\R
@[irreducible] def rNG(P:Program)(w:World)(x y z:V)(H:Hp)(Q:VK):Prop:=∃Sh a l b d,x=.ref a/\y=.ref b/\fF P w Sh H a l/\cE H d (.ref b)/\Sh.S d/\Q ((gT l d).getD z) H
def aBp(P:Program)(w:World)(td ty:TE):TE:=λσ H Q=>td σ H λx H1=>rN0 P w x H1 (ty σ H1 λy H2=>rNG P w x y .non H2 Q)
def aBo(P:Program)(w:World)(td ty tx:TE):TE:=λσ H Q=>td σ H λx H1=>rN0 P w x H1 (ty σ H1 λy H2=>tx σ H2 λz H3=>rNG P w x y z H3 Q)
theorem rn0{P:Program}{w:World}{Sh:rP}{H:Hp}{a:Addr}{l:List (PyData × V)}{R:Prop}(h:fF P w Sh H a l)(r:R):rN0 P w (.ref a) H R:=by unfold rN0;exact ⟨Sh,a,l,rfl,h,r⟩
theorem aDG{P:Program}{w:World}{Sh:rP}{H:Hp}{a b:Addr}{l:List (PyData × V)}{d:PyData}{z:V}{Q:VK}(h:fF P w Sh H a l)(rb:cE H d (.ref b))(hS:Sh.S d)(q:Q ((gT l d).getD z) H):rNG P w (.ref a) (.ref b) z H Q:=by unfold rNG;exact ⟨Sh,a,l,b,d,rfl,rfl,h,rb,hS,q⟩
@[irreducible] def FV(P:Program)(w:World)(Sh:rP)(H:Hp)(Q:VK):Prop:=∀p H',H p=none->fF P w Sh H' p []->bA H H'->Q (.ref p) H'
theorem rnnew{P:Program}{w:World}{Sh:rP}{H:Hp}{Q:VK}(q:∀p H',H p=none->fF P w Sh H' p []->bA H H'->Q (.ref p) H'):FV P w Sh H Q:=by unfold FV;exact q
def aDv(P:Program)(w:World)(Sh:rP):TE:=λ_ H Q=>FV P w Sh H Q
@[irreducible] def rN1(P:Program)(w:World)(Sh:rP)(p:Addr)(x y:V)(H:Hp)(Q:VK):Prop:=∃b d,x=.ref b/\cE H d (.ref b)/\Sh.S d/\fF P w Sh H p []/\∀H',fF P w Sh H' p [(d,y)]->aU p H H'->Q (.ref p) H'
theorem rn1{P:Program}{w:World}{Sh:rP}{H:Hp}{p b:Addr}{d:PyData}{y:V}{Q:VK}(rb:cE H d (.ref b))(hS:Sh.S d)(h:fF P w Sh H p [])(q:∀H',fF P w Sh H' p [(d,y)]->aU p H H'->Q (.ref p) H'):rN1 P w Sh p (.ref b) y H Q:=by unfold rN1;exact ⟨b,d,rfl,rb,hS,h,q⟩
@[irreducible] def xW(P:Program)(w:World)(Sh:rP)(R:Addr->Hp->Prop)(H:Hp):Prop:=∀p H',H p=none->fF P w Sh H' p []->bA H H'->R p H'
theorem rndisp{P:Program}{w:World}{Sh:rP}{R:Addr->Hp->Prop}{H:Hp}(q:∀p H',H p=none->fF P w Sh H' p []->bA H H'->R p H'):xW P w Sh R H:=by unfold xW;exact q
def aBq(P:Program)(w:World)(Sh:rP)(tk tv:TE):TE:=λσ H Q=>xW P w Sh (λp H0=>tk σ H0 λx H1=>tv σ H1 λy H2=>rN1 P w Sh p x y H2 Q) H
@[irreducible] def LH(P:Program)(w:World):List V->Hp->VK->Prop:=λxs H Q=>∃Sh a l,xs=[.ref a]/\fF P w Sh H a l/\Q (.int (l.length:Nat)) H
theorem rnlen{P:Program}{w:World}{Sh:rP}{H:Hp}{a:Addr}{l:List (PyData × V)}{Q:VK}(h:fF P w Sh H a l)(q:Q (.int (l.length:Nat)) H):LH P w [.ref a] H Q:=by unfold LH;exact ⟨Sh,a,l,rfl,h,q⟩
section
variable{X:Cx}{o e f i k v value:Expr}{apos cpos pos pos':Pos}{td ty tx tk tv:TE}
theorem BQ(P:Program)(w:World)(hu:X.A.units+64<cLine)(ho:gE X o td)(hi:gE X i ty)(hv:gE X value tv)(hs:swapsWith value (some (.Subscript o i pos')) pos.line X.env=pure false:=by rfl)(hP:X.prog=P:=by rfl)(hw:X.w=w:=by rfl) :
  JZ X (.Assign [.Subscript o i pos'] value pos) (aDu P w td ty tv):=⟨by
 subst hP hw;intro c s σ H D I h;refine wpAny_Assign_Subscript (thn (hv.p c s σ H _ I h) λr T ⟨v,H1,I1,rv,Z⟩=>thn (ho.p c T σ H1 _ I1 Z) λu Y ⟨x,H2,I2,M,N⟩=>thn (hi.p c Y σ H2 _ I2 N) λU η ⟨y,H3,I3,β,C⟩=>?_) hs;unfold rNP at C;obtain ⟨S,a,l,b,d,rfl,rfl,g,L,G,O,q⟩:=C;obtain rfl:u=Value.ref a:=M;cases (show U=Value.ref b from β);obtain ⟨j,ζ,R,γ,rfl,z,hd,e,δ⟩:=g.open_ I3;have m:j.length<sizeLine:=by rwa [aB] at O
 refine wpAny_setItem_heap (hsz:=by rw [<-Paired.length e];exact z) (DH _ _ S hu) (tD I3 G L) δ λε B n=>?_;obtain ⟨H',J,W,α⟩:=GW I3 R γ m hd e G L rv B n;exact ⟨σ,H',J,q H' W α⟩⟩
theorem QZ(P:Program)(w:World)(hu:X.A.units+64<cLine)(ho:gE X o td)(he:gE X e ty)(base:attributeBase o "get" X.env (eval o X.env)=eval o X.env:=by rfl)
  (few:((backTo cpos (starEach [e] X.env)).all (λx=>!x.1)&&(backToKw cpos (keywordEach [] X.env)).all (λx=>x.1.isSome)&&decide (([e]:List Expr).length+([]:List Keyword).length+(if ([]:List Keyword).isEmpty then 0 else 1)<30))=true:=by rfl)
  (line:(apos.endLine == cpos.line)=true:=by rfl) (trees:backTo cpos (starEach [e] X.env)=[(false,eval e X.env)]:=by rfl) (hP:X.prog=P:=by rfl) (hw:X.w=w:=by rfl):gE X (.Call (.Attribute o "get" apos) [e] [] cpos) (aBp P w td ty):=⟨by
 subst hP hw;intro c s σ H Q I h;refine wpAny_Call_method base few line PySem.F.plainAttrs_dict PySem.F.slot_dict_get PySem.F.type_dict_get (thn (ho.p c s σ H _ I h) λu M ⟨x,H1,I1,C,r⟩=>?_);unfold rN0 at r;obtain ⟨S,a,α,rfl,U,T⟩:=r;obtain rfl:u=Value.ref a:=C;obtain ⟨N,R,_⟩:=U.isD I1;refine ⟨N,R,?_⟩;rw [trees];refine Calls.callWith_builtin rfl (Calls.evalArgs_plain (Calls.spliced_cons (thn (he.p c M σ H1 _ I1 T) λO Y ⟨y,H2,I2,W,j⟩=>Calls.spliced_nil ?_)));unfold rNG at j;obtain ⟨n,Z,l,b,d,m,rfl,g,L,J,q⟩:=j;cases m;cases (show O=Value.ref b from W);obtain ⟨D,G,m,β,rfl,z,hd,i,B⟩:=g.open_ I2;exact call_meetsIn PySem.F.slot_dict_get B.typeIs PySem.F.entry_dict_get (PySem.F.args_dict_get_2 _ _) (meetsH_dict_get (kH X.prog X.w n) a b hd) ⟨DH _ _ n hu,d,G,tD I2 J L,B,⟨_,H2,I2.tok _,(i.val d).getD (show eI V.non Value.none from rfl),q⟩⟩⟩
theorem QY(P:Program)(w:World)(hu:X.A.units+64<cLine)(ho:gE X o td)(he:gE X e ty)(hf:gE X f tx)(base:attributeBase o "get" X.env (eval o X.env)=eval o X.env:=by rfl)
  (few:((backTo cpos (starEach [e,f] X.env)).all (λx=>!x.1)&&(backToKw cpos (keywordEach [] X.env)).all (λx=>x.1.isSome)&&decide (([e,f]:List Expr).length+([]:List Keyword).length+(if ([]:List Keyword).isEmpty then 0 else 1)<30))=true:=by rfl)
  (line:(apos.endLine == cpos.line)=true:=by rfl) (trees:backTo cpos (starEach [e,f] X.env)=[(false,eval e X.env),(false,eval f X.env)]:=by rfl) (hP:X.prog=P:=by rfl) (hw:X.w=w:=by rfl):gE X (.Call (.Attribute o "get" apos) [e,f] [] cpos) (aBo P w td ty tx):=⟨by
 subst hP hw;intro c s σ H Q I h;refine wpAny_Call_method base few line PySem.F.plainAttrs_dict PySem.F.slot_dict_get PySem.F.type_dict_get (thn (ho.p c s σ H _ I h) λu R ⟨x,H1,I1,C,r⟩=>?_);unfold rN0 at r;obtain ⟨Y,a,ζ,rfl,α,Z⟩:=r;obtain rfl:u=Value.ref a:=C;obtain ⟨S,U,_⟩:=α.isD I1;refine ⟨S,U,?_⟩;rw [trees];refine Calls.callWith_builtin rfl (Calls.evalArgs_plain (Calls.spliced_cons (thn (he.p c R σ H1 _ I1 Z) λT W ⟨y,H2,I2,β,J⟩ =>
  Calls.spliced_cons (thn (hf.p c W σ H2 _ I2 J) λD δ ⟨γ,H3,I3,M,j⟩=>Calls.spliced_nil ?_))))
 unfold rNG at j;obtain ⟨n,ε,l,b,d,m,rfl,g,O,N,q⟩:=j;cases m;cases (show T=Value.ref b from β);obtain ⟨G,L,m,η,rfl,z,hd,i,B⟩:=g.open_ I3;exact call_meetsIn PySem.F.slot_dict_get B.typeIs PySem.F.entry_dict_get (PySem.F.args_dict_get_3 _ _ _) (meetsH_dict_get_default (kH X.prog X.w n) a b hd D) ⟨DH _ _ n hu,d,L,tD I3 N O,B,⟨_,H3,I3.tok _,(i.val d).getD M,q⟩⟩⟩
theorem GX{P:Program}{w:World}{Sh:rP}{H:Hp}(h:Heap)(hb:sysModules<h.objs.size):fA P w H (h.push { cls:=.type "dict",data:=.dict #[] }) h.objs.size (rY P w Sh h.objs.size []) :=
 UY ⟨⟨cC _,beq_eq_false_iff_ne.mpr (Ne.symm (dH hb))⟩,[],.nil,_,#[],0,aX _ rfl,⟨rfl,rfl,rfl⟩,rfl,rfl,List.nodup_nil⟩
theorem BX(P:Program)(w:World)(Sh:rP)(hP:X.prog=P:=by rfl)(hw:X.w=w:=by rfl):gE X (.Dict [] [] pos) (aDv P w Sh):=⟨by
 subst hP hw;intro b s σ H Q I h;have h:FV X.prog X.w Sh H Q:=h;unfold FV at h;have c:=I.hok.fresh (aE s.heap.objs.size);refine wpAny_Dict_empty ⟨.ref s.heap.objs.size,_,I.laid (a:=s.heap.objs.size) (o:=rY X.prog X.w Sh s.heap.objs.size []) (t':=s.toks) (λ_ _ q=>aD _ q) (aE _) (GX s.heap I.big),rfl,h _ _ c ⟨[],bL,(λp d=>absurd d List.not_mem_nil),rfl⟩ (bA.upd c)⟩⟩
theorem RA(P:Program)(w:World)(Sh:rP)(hu:X.A.units+64<cLine)(hk:gE X k tk)(hv:gE X v tv)(hP:X.prog=P:=by rfl)(hw:X.w=w:=by rfl):gE X (.Dict [some k] [v] pos) (aBq P w Sh tk tv):=⟨by
 subst hP hw;intro c s σ H Q I q;have q:xW X.prog X.w Sh _ H:=q;unfold xW at q;have n:=I.hok.fresh (aE s.heap.objs.size);have I1:=I.laid (a:=s.heap.objs.size) (o:=rY X.prog X.w Sh s.heap.objs.size []) (h':=s.heap.push { cls:=.type "dict",data:=.dict #[] }) (t':=s.toks) (λ_ _ q=>aD _ q) (aE _) (GX s.heap I.big);refine wpAny_Dict_any rfl rfl (by simp) (show 1<=15 by decide) (pairTrees_cons_walk (thn (hk.p c _ σ _ _ I1 (q _ _ n ⟨[],bL,(λp L=>absurd L List.not_mem_nil),rfl⟩ (bA.upd n))) λu G ⟨x,H1,I1,r,O⟩=>thn (hv.p c G σ H1 _ I1 O) λZ Y ⟨y,H2,I2,S,j⟩=>pairTrees_nil_walk ?_));unfold rN1 at j;obtain ⟨b,d,rfl,m,l,g,B⟩:=j;cases (show u=Value.ref b from r);obtain ⟨h,W,D,T,N,z,hd,e,U⟩:=g.open_ I2;obtain rfl:h=[]:=List.map_eq_nil_iff.mp N.symm;unfold storeAll;rw [List.forIn_cons];refine wpAny_bind (wpAny_bind (wpAny_dictSet_heap (show X.A.units+61<cLine by omega) (tD I2 l m) U (λh' i C=>wpAny_pure ?_) (by rw [<-Paired.length e];exact z)));dsimp only;rw [List.forIn_nil];refine wpAny_pure ?_;obtain ⟨H',J,M,R⟩:=GW I2 D T (by show 0<sizeLine;decide) hd e l m S i C;exact ⟨.ref _,H',J,rfl,B H' M R⟩⟩
theorem aAi(P:Program)(w:World)(hP:X.prog=P:=by rfl)(hw:X.w=w:=by rfl):jO X (.builtin "len") (LH P w):=by
 subst hP hw;unfold LH;intro d s σ H j L Q I r h;obtain ⟨C,a,l,rfl,g,q⟩:=h;obtain ⟨_,rfl,e⟩:=mT r;cases e;obtain ⟨b,j,A,J,rfl,z,hd,c,o,x,D,y,n,u,p,G⟩:=g.open_ I;have i:x.size=b.length:=by
  have:=congrArg List.length p;rw [aB,<-Paired.length c] at this;simpa using this
 refine ZL hd y n u Oo λt B m=>?_;subst m;rw [aB] at q;exact ⟨.int _,H,I.tok _,⟨t,by rw [i]⟩,q⟩
end
end L2
namespace HT
open PySem PySem.Spec PyProof.Rows
section
variable{prog:Program}{w:World}{A:Around}{E:Value->Shared->Prop}{s:Shared}{it d:Addr}{es:Array DictEntry}{ep i:Nat}{od:Obj}{ok ov:Value}
theorem ZR{Q:Option Value->Shared->Prop}(hit:IsItemIter s.heap it d i es.size ep ok ov)(hod:s.heap.get? d=some od)(hdd:od.data=.dict es ep)(hi:i<es.size)
  (h:∀h',IsItemIterOut h' it d (i+1) es.size ep es[i].key es[i].val s.heap.objs.size->h'.get? s.heap.objs.size=some { cls:=.type "tuple",data:=.seq #[es[i].key,es[i].val] } ->
   (∀b o,b≠it->s.heap.get? b=some o->h'.get? b=some o)->Q (some (.ref s.heap.objs.size)) { s with heap:=h' }):wpAny (model prog w) A (pyNext (.ref it)) Q E s:=by
 obtain ⟨m,g,u,B,y⟩:=s;have l:Shared.TypeIs ⟨m,g,u,B,y⟩ (.ref it) "dict_itemiterator" := ⟨_,hit,rfl⟩;have Z:(Value.ref d == Value.none)=false:=rfl;have I:Builtin.Dict_items.ownsTuple "dict_itemiterator" = true:=Dd;unfold pyNext;refine wpAny_bind (wpAny_attempt (wpAny_callSpecial?_slot (name:=Str.ofString "__next__") l F.slot_dict_itemiterator_next (wpAny_call_entry F.slot_dict_itemiterator_next l F.entry_dict_itemiterator_next ?_ (F.args_dict_itemiterator_next_1 _))))
 repeat (any_goals (first | assumption | (with_reducible refine wpAny_typeNameOfWhole_itemiter l ?_) | (with_reducible refine wpAny_isOneOf_itemiter l ?_) | (with_reducible refine wpAny_fieldsOf hit rfl ?_) | (with_reducible refine wpAny_dictEntries hod hdd ?_) | (with_reducible refine wpAny_dictEpoch hod hdd ?_) | wp_step))
 rw [if_neg (show ¬((i:Int)<0) by omega),Int.toNat_natCast,Array.getElem?_eq_getElem hi];refine wpAny_bind (wpAny_bind (wpAny_typeNameOfWhole_itemiter l (wpAny_pure (wpAny_bind (wpAny_isOneOf_itemiter l ?_)))));show wpAny _ _ (setField (.ref it) 3 (rawInt ((i:Int)+1)) >>= λ_=>_) _ _ _;refine wpAny_bind (wpAny_setField_rec hit (by simp) λc p j=>?_);have r:IsItemIter c it d (i+1) es.size ep ok ov:=by
  unfold IsItemIter;rw [Int.natCast_add];simpa [rawInt] using p
 have z:c.objs.size=m.objs.size:=j.1;have J:∀b o,b≠it->m.get? b=some o->c.get? b=some o:=λb o a e=>j.extBut b o a e;clear p j;have T1:Shared.TypeIs ⟨c,g,u,B,y⟩ (.ref it) "dict_itemiterator" := ⟨_,r,rfl⟩;refine wpAny_bind (wpAny_holding (wpAny_bind (wpAny_isOneOf_itemiter T1 (wpAny_bind (wpAny_isOneOf_itemiter T1 ?_)))));show wpAny _ _ (Builtin.Dict_items.pairFromOwner (.ref it) 6 es[i].key es[i].val) _ _ _;unfold Builtin.Dict_items.pairFromOwner;refine wpAny_bind (wpAny_newTuple ?_);have n:IsItemIter (c.push { cls:=.type "tuple",data:=.seq #[es[i].key,es[i].val] }) it d (i+1) es.size ep ok ov:=aD _ r;have G:(c.push { cls:=.type "tuple",data:=.seq #[es[i].key,es[i].val] }).get? m.objs.size=some { cls:=.type "tuple",data:=.seq #[es[i].key,es[i].val] }:=by rw [<-z];exact aX _ rfl
 have D:∀b o,b≠it->m.get? b=some o->(c.push { cls:=.type "tuple",data:=.seq #[es[i].key,es[i].val] }).get? b=some o:=λb o a e=>aD _ (J b o a e);have M:m.objs.size≠it:=Nat.ne_of_gt (bC hit);show wpAny _ _ (Builtin.Dict_items.ownedTupleIsFree (.ref it) >>= _) _ _ ⟨c.push { cls:=.type "tuple",data:=.seq #[es[i].key,es[i].val] },g,u,B,y⟩;rw [z];generalize c.push { cls:=.type "tuple",data:=.seq #[es[i].key,es[i].val] }=U at n G D ⊢;clear r z J T1;unfold Builtin.Dict_items.ownedTupleIsFree;refine wpAny_bind (wpAny_bind (wpAny_field n rfl (x:=.none) rfl (wpAny_pure ?_)));simp only [if_true];refine wpAny_bind (wpAny_field n rfl (x:=ok) rfl (wpAny_bind (wpAny_field n rfl (x:=ov) rfl ?_)));refine wpAny_bind (wpAny_setField_rec n (by simp) λX e3 P=>wpAny_bind (wpAny_setField_rec e3 (by simp) λα R T=>wpAny_bind (wpAny_setField_rec R (by simp) λY S W=>wpAny_bind (wpAny_setField_rec S (by simp) λC O N=>?_))));have L:∀b o,b≠it->U.get? b=some o->C.get? b=some o:=λb o a e=>N.extBut b o a (W.extBut b o a (T.extBut b o a (P.extBut b o a e)));exact wpAny_bind (wpAny_letGo (wpAny_pure (wpAny_pure ⟨_,rfl,wpAny_pure (h C O (L _ _ M G) λb o a e=>L b o a (D b o a e))⟩)))
theorem aCI{Q:Option Value->Shared->Prop}(hh:A.handled=none)(hit:IsItemIter s.heap it d i es.size ep ok ov)(hod:s.heap.get? d=some od)(hdd:od.data=.dict es ep)(hi:es.size<=i)
  (h:∀h',Heap.ExtBut it s.heap h'->Q none { s with heap:=h' }):wpAny (model prog w) A (pyNext (.ref it)) Q E s:=by
 have c:s.TypeIs (.ref it) "dict_itemiterator" := ⟨_,hit,rfl⟩;have j:(Value.ref d == Value.none)=false:=rfl;have e:Builtin.Dict_items.ownsTuple "dict_itemiterator" = true:=Dd;unfold pyNext;refine wpAny_bind (wpAny_attempt (wpAny_callSpecial?_slot (name:=Str.ofString "__next__") c F.slot_dict_itemiterator_next (wpAny_call_entry F.slot_dict_itemiterator_next c F.entry_dict_itemiterator_next ?_ (F.args_dict_itemiterator_next_1 _))))
 repeat (any_goals (first | assumption | (with_reducible refine wpAny_typeNameOfWhole_itemiter c ?_) | (with_reducible refine wpAny_isOneOf_itemiter c ?_) | (with_reducible refine wpAny_fieldsOf hit rfl ?_) | (with_reducible refine wpAny_dictEntries hod hdd ?_) | (with_reducible refine wpAny_dictEpoch hod hdd ?_) | wp_step))
 rw [if_neg (show ¬((i:Int)<0) by omega),Int.toNat_natCast,Array.getElem?_eq_none hi];refine wpAny_bind (wpAny_bind (wpAny_typeNameOfWhole_itemiter c (wpAny_pure ?_)));show wpAny _ _ (setField (.ref it) 2 .none >>= λ_=>_) _ _ s;refine wpAny_bind (wpAny_setField hit rfl (by simp) ?_);refine wpAny_bind ?_;simp only [newExc,newTuple];refine wpAny_bind (wpAny_newObj_type (wpAny_bind (m:=firstArgMember _ _) (wpAny_of_eq (a:=Value.none) (by simp only [firstArgMember];rfl) (wpAny_newObj_type ?_ (by size_fits)))) (by size_fits));simp only [raiseNew];refine wpAny_bind (wpAny_handled ?_);rw [show A.in1.handled=none from hh];refine wpAny_bind (wpAny_pure (wpAny_throw ?_));exact wpAny_bind (wpAny_isInstance (T := "StopIteration") (b:=true) ⟨_,aX _ rfl,rfl⟩ isSubtype_stop (wpAny_pure (h _ (((Heap.SameBut.update ..).extBut.push _).push _))))
theorem ZS{v:Addr}{Q:Value->Shared->Prop}(hv:s.heap.IsItemsView v d)(hod:s.heap.get? d=some od)(hdd:od.data=.dict es ep)
  (hQ:Q (.ref s.heap.objs.size) { s with heap:=s.heap.push { cls:=.type "dict_itemiterator",data:=.fields #[.none,.bool false,.ref d,.int 0 0,.int es.size 0,.int ep 0,.none,.none] } }):wpAny (model prog w) A (pyIter (.ref v)) Q E s:=by
 obtain ⟨h,b,e,c⟩:=id hv;refine wpAny_pyIter_slot hv.typeIs F.slot_dict_items_iter (wpAny_call_entry F.slot_dict_items_iter hv.typeIs F.entry_dict_items_iter ?_ (F.args_dict_items_iter_1 _));unfold Builtin.«dict_items.__iter__» Builtin.Dict_items.dictOf Builtin.Dict_items.newIterator;refine wpAny_bind (wpAny_pure (wpAny_bind (wpAny_bind (wpAny_field b c (x:=.ref d) rfl (wpAny_pure ?_)))));refine wpAny_bind (wpAny_bind (wpAny_dictEntries hod hdd (wpAny_bind (wpAny_dictEpoch hod hdd ?_))));have a:Builtin.Dict_items.ownsTuple "dict_itemiterator" = true:=Dd;simp only [a,if_true];refine wpAny_newObj_type (wpAny_pure ⟨_,rfl, "dict_itemiterator",_,⟨_,aX _ rfl,rfl⟩,F.slot_dict_itemiterator_next.lookup,?_⟩) (by simp only [sizeOk,Builtin.Dict_items.ownedTupleFields,bI,aV,dB,List.length_nil,sizeLine_eq];omega);simpa [rawInt,Builtin.Dict_items.ownedTupleFields] using hQ
theorem aAb{Q:Value->Shared->Prop}(hd:(d == sysModules)=false)(hod:s.heap.get? d=some od)(hex:od.ExactDict)
  (hQ:Q (.ref s.heap.objs.size) { s with heap:=s.heap.push { cls:=.type "dict_items",data:=.fields #[.ref d] } }):wpAny (model prog w) A (call (.builtin "dict.items") [.ref d]) Q E s:=by
 have a:s.TypeIs (.ref d) "dict" := ⟨od,hod,hex.1⟩;refine wpAny_call_entry F.slot_dict_items a F.entry_dict_items ?_ (F.args_dict_items_1 _);unfold Builtin.«dict.items» Builtin.Dict.noArgs;refine wpAny_bind (wpAny_bind (wpAny_notOrdered_dict a ?_));show wpAny _ _ (pure d) _ _ s;refine wpAny_pure ?_
 repeat (any_goals (first | assumption | wp_step))
 exact ⟨_,rfl,hQ⟩
end
end HT
namespace L2
open PySem PySem.Spec PySem.W PyProof.Rows HT
def Itn(P:Program)(w:World)(Sh:rP)(d:Addr)(o:Obj)(kvs:List (PyData × Addr × V)):It :=
 ⟨λi H=>H d=some (.frz o (rY P w Sh d kvs))/\i<kvs.length,λi H x H'=>∃q p,x=.ref q/\H q=none/\kvs[i]?=some p/\H'=upd H q (.tup [.ref p.2.1,p.2.2]),λi H=>H d=some (.frz o (rY P w Sh d kvs))/\kvs.length<=i⟩
theorem jH{α β:Type}{R:α->β->Prop}:∀{l:List α}{m:List β}{i:Nat}{a:α},Paired R l m->l[i]?=some a->∃b,m[i]?=some b/\R a b
 | _,_,i,a,.nil,h=>by simp at h
 | _,_,0,a,.cons r t,h=>by
  cases (show _=a by simpa using h);exact ⟨_,rfl,r⟩
 | _,_,i+1,a,.cons r t,h=>by
  obtain ⟨b,h1,h2⟩:=jH t (by simpa using h);exact ⟨b,by simpa using h1,h2⟩
section
variable{X:Cx}{pins:List (Addr × Obj)}{σ:St}{H:Hp}{s:Shared}{Sh:rP}
theorem JJ{D:Addr}{o:Obj}{kvs:List (PyData × Addr × V)}(I:cO X pins σ H s)(e:H D=some (.frz o (rY X.prog X.w Sh D kvs))):(D == sysModules)=false/\s.heap.get? D=some o/\o.ExactDict/\∃es ep,o.data=.dict es ep/\es.size=kvs.length /\
  ∀(i:Nat) (hi:i<es.size) p,kvs[i]?=some p->es[i].key=.ref p.2.1/\eI p.2.2 es[i].val:=by
 obtain ⟨c,⟨⟨z,hd⟩,n,a,C,es,ep,h,y,A,d,G⟩,_⟩:=(show fA X.prog X.w H s.heap D (.frz o (rY X.prog X.w Sh D kvs)) from I.hok D _ e);rw [c] at h;cases h;have m:es.size=kvs.length:=by
  have:=congrArg List.length d;rw [aB,<-Paired.length a] at this;simpa using this
 refine ⟨hd,c,y,es,ep,A,m,λi hi p x=>?_⟩;obtain ⟨q,j,B,l,r⟩:=jH a x;have u:es[i]=entryOfKey (kH X.prog X.w Sh) q:=by
  have b:es.toList[i]?=(n.map (entryOfKey (kH X.prog X.w Sh)))[i]?:=by rw [d]
  rw [aI,j,Array.getElem?_toList,Array.getElem?_eq_getElem hi] at b;exact dC b
 rw [u];exact ⟨by rw [l];rfl,r⟩
theorem cO.frzN{D:Addr}{kvs:List (PyData × Addr × V)}(I:cO X pins σ H s)(e:H D=some (rY X.prog X.w Sh D kvs)):∃o,cO X pins σ (upd H D (.frz o (rY X.prog X.w Sh D kvs))) s:=by
 obtain ⟨x,_⟩:=(show fA X.prog X.w H s.heap D (rY X.prog X.w Sh D kvs) from I.hok D _ e);obtain ⟨z,i,c,o,h,j,a,d⟩:=id x;exact ⟨o,I.write (x:=D) (e:=D) (o:=.frz o (rY X.prog X.w Sh D kvs)) (h':=s.heap) (t':=s.toks) (by rw [e];exact True.intro) (.inl rfl) (λb u _ q=>q) ⟨o,a⟩ ⟨a,UY x⟩⟩
end
theorem IF{P:Program}{w:World}{K:KFr}{elts:List Expr}{x1}{tp:Pos}(Sh:rP)(d it:Addr){o:Obj}(kvs:List (PyData × Addr × V)){es:Array DictEntry}{ep:Nat}(hdat:o.data=.dict es ep):EM P w K (.Tuple elts x1 tp) (Itn P w Sh d o kvs) [it] it (λi h=>∃a b,IsItemIter h it d i es.size ep a b) where
 mem:=by simp
 obj:=λi h c b n=>by
  have e:b=it:=by simpa using n
  subst e;obtain ⟨u,v,e⟩:=c;exact ⟨_,e,λv z=>by cases z⟩
 keep:=λi h U c k=>by
  obtain ⟨u,v,e⟩:=c;exact ⟨u,v,k it (by simp) _ e⟩
 item:=by
  intro X S B C Y i j s σ H E I A c R;subst S B C;obtain ⟨J,N⟩:=R;obtain ⟨u,v,c⟩:=c;obtain ⟨γ,p,O,D,M,l,T,x⟩:=JJ I J;rw [hdat] at l;cases l;have y:i<es.size:=Oo;obtain ⟨β,δ⟩:=x i y kvs[i] (aC N);refine ZR c p hdat y λU G η ο=>⟨_,rfl,wpAny_letOwnedTupleGo_items G λα L r=>?_⟩;have nz:s.heap.objs.size≠it:=Nat.ne_of_gt (bC c);have ζ:∀b o,b ∉ [it]->s.heap.get? b=some o->α.get? b=some o:=λb o n e=>by
   have m:b≠it:=λz=>n (by simp [z]);exact r.extBut b o m (ο b o m e)
  have I1:cO X j σ H { s with heap:=α }:=I.turnedL (t':=s.toks) ζ A;have fq:kN X j H s.heap.objs.size:=I.fpOk (aE _) (I.hok.fresh (aE _));have ξ:X.s₀.heap.get? s.heap.objs.size=none:=by
   cases q:X.s₀.heap.get? s.heap.objs.size with
   | none=>rfl
   | some o=>exact absurd (bH (bC q) I.sz) (cH _)
  have Z:=r.extBut _ _ nz η;refine ⟨.ref s.heap.objs.size,upd H s.heap.objs.size (.tup [.ref kvs[i].2.1,kvs[i].2.2]),I1.put fq ξ ⟨⟨oR (by show 2<=64;decide),_,Z,rfl⟩,[es[i].key,es[i].val],.cons (by rw [β];rfl) (.cons δ .nil),⟨_,Z,rfl,_,rfl⟩⟩,rfl,⟨_,kvs[i],rfl,fq.1,aC N,rfl⟩,⟨_,_,L⟩,λb n=>?_⟩;have m:b=it:=by simpa using n
  rw [eG (by rw [m];exact nz.symm)];exact (A b n).1
 done:=by
  intro X S B C Y i j s σ H E I A c R;subst S B C;obtain ⟨J,N⟩:=R;obtain ⟨u,v,c⟩:=c;obtain ⟨γ,p,O,D,M,l,T,x⟩:=JJ I J;rw [hdat] at l;cases l;obtain ⟨ι,ε,ρ,μ,ν,κ⟩:=A it (by simp);exact aCI (I.ok.hd Y) c p hdat Oo λU θ=>⟨rfl,I.turned (t':=s.toks) (λb o n e=>θ b o n e) ι ε μ ν κ⟩
 self:=λ_ _ _ _ _ c h=>by
  obtain ⟨u,v,c⟩:=c;exact kcp_self c h
@[irreducible] def rNI(P:Program)(w:World)(x:V)(H:Hp)(R:It->Hp->Prop):Prop:=∃Sh a l,x=.ref a/\fF P w Sh H a l/\∀o kvs H',H' a=some (.frz o (rY P w Sh a kvs))->(∀p∈kvs,Sh.S p.1/\cE H' p.1 (.ref p.2.1))->EO kvs=l->aU a H H'->R (Itn P w Sh a o kvs) H'
theorem rni{P:Program}{w:World}{Sh:rP}{H:Hp}{a:Addr}{l:List (PyData × V)}{R:It->Hp->Prop}(h:fF P w Sh H a l)(r:∀o kvs H',H' a=some (.frz o (rY P w Sh a kvs))->(∀p∈kvs,Sh.S p.1/\cE H' p.1 (.ref p.2.1))->EO kvs=l->aU a H H'->R (Itn P w Sh a o kvs) H'):rNI P w (.ref a) H R:=by unfold rNI;exact ⟨Sh,a,l,rfl,h,r⟩
def iNI(P:Program)(w:World)(tl:TE):TI:=λσ H R=>tl σ H λx H1=>rNI P w x H1 R
theorem ER{X:Cx}(P:Program)(w:World){elts:List Expr}{x1}{tp:Pos}{l:Expr}{tl:TE}{apos cpos:Pos}(hl:gE X l tl)(hbase:attributeBase l "items" X.env (eval l X.env)=eval l X.env:=by rfl)(hline:(apos.endLine == cpos.line)=true:=by rfl)(hP:X.prog=P:=by rfl)(hw:X.w=w:=by rfl):KB X (.Tuple elts x1 tp) (.Call (.Attribute l "items" apos) [] [] cpos) (iNI P w tl):=⟨by
 subst hP hw;intro i s σ H R I h;refine wpAny_Call_method0_late hbase hline (thn (hl.p i s σ H _ I h) λv j ⟨x,H1,I1,M,L⟩=>?_);unfold rNI at L;obtain ⟨m,a,l,e,g,q⟩:=L;subst e;cases M;obtain ⟨S,T,_⟩:=g.isD I1;obtain ⟨d,J,D,rfl⟩:=g.ex;obtain ⟨o,I2⟩:=I1.frzN J;have t:dL H1 (upd H1 a (.frz o (rY X.prog X.w m a d))):=λc Y y=>by rw [eG (λz=>by rw [z,J] at y;cases y)];exact y
 have G:=q o d _ bL (λp B=>⟨(D p B).1,(D p B).2.flat t (qI _ (m.key _ (D p B).1))⟩) rfl aU.self;have n:(upd H1 a (.frz o (rY X.prog X.w m a d))) a=some (.frz o (rY X.prog X.w m a d)):=bL;generalize upd H1 a (.frz o (rY X.prog X.w m a d))=H2 at I2 G n;obtain ⟨N,u,A,α,Z,r,W,O⟩:=JJ I2 n;refine ⟨"dict","dict.items",PySem.F.plainAttrs_dict,PySem.F.slot_dict_items,PySem.F.type_dict_items,S,T,Calls.callWith_builtin rfl (PySem.evalArgs_none (aAb N u A ?_))⟩;have I3:cO X i σ H2 { j with heap:=j.heap.push { cls:=.type "dict_items",data:=.fields #[.ref a] } }:=I2.kept (t':=j.toks) λb o e=>aD _ e;refine ZS (s:={ j with heap:=j.heap.push { cls:=.type "dict_items",data:=.fields #[.ref a] } }) ⟨_,aX _ rfl,rfl,rfl⟩ (aD _ u) r ?_;generalize hH:j.heap.push { cls:=.type "dict_items",data:=.fields #[.ref a] }=C at *;refine ⟨C.objs.size,[C.objs.size],_,_,H2,rfl,I3.kept (t':=j.toks) λb o e=>aD _ e,IF m a _ d r,⟨_,_,aX _ rfl⟩,λb U=>?_,G⟩;have e:b=C.objs.size:=by simpa using U
 subst e;exact I3.fpOk (aE _) (I3.hok.fresh (aE _))⟩
theorem AZ{P:Program}{w:World}{Sh:rP}{d:Addr}{o:Obj}{kvs:List (PyData × Addr × V)}{g:TG}{tb:TS}{D:rQ}{σ:St}{H:Hp}(Pv:Nat->St->Hp->Prop)(h0:Pv 0 σ H)(hl:∀i σ H,i<=kvs.length->Pv i σ H->H d=some (.frz o (rY P w Sh d kvs)))
  (hs:∀i p q σ H H',kvs[i]?=some p->Pv i σ H->H q=none->H' q=some (.tup [.ref p.2.1,p.2.2])->bA H H'->g (.ref q) σ H' λσ2 H2=>tb { D with nx:=Pv (i+1),ct:=Pv (i+1),bk:=D.nx } σ2 H2) (hd:∀σ H,Pv kvs.length σ H->D.nx σ H) :
  ∃W:Nat->Nat->St->Hp->Prop,(∃m,W 0 m σ H)/\∀i m σ H,W i m σ H ->
   ((Itn P w Sh d o kvs).stop i H/\D.nx σ H)\/((Itn P w Sh d o kvs).go i H/\∃N:St->Hp->Prop,(∀σ' H',N σ' H'->∃m',m' < m/\W (i+1) m' σ' H')/\∀x H',(Itn P w Sh d o kvs).yld i H x H'->g x σ H' λσ2 H2=>tb { D with nx:=N,ct:=N,bk:=D.nx } σ2 H2):=by
 refine ⟨λi m σ H=>m=kvs.length-i/\i<=kvs.length/\Pv i σ H,⟨kvs.length,by simp,cC _,h0⟩,?_⟩;rintro i m σ H ⟨rfl,l,p⟩;have q:=hl i σ H l p;by_cases hlt:i<kvs.length
 ·refine .inr ⟨⟨q,hlt⟩,Pv (i+1),λσ' H' j=>⟨kvs.length-(i+1),Oo,rfl,hlt,j⟩,λx H' y=>?_⟩;obtain ⟨b,h,rfl,a,c,rfl⟩:=y;exact hs i h b σ H _ c p a bL (bA.upd a)
 ·have e:i=kvs.length:=Oo;subst e;exact .inl ⟨⟨q,aE _⟩,hd σ H p⟩
end L2
namespace L2
open PySem PySem.Spec PyProof.Rows
section
variable{prog:Program}{w:World}{A:Around}{E:Value->Shared->Prop}{s:Shared}
structure EAt(b:Bool)(e it l:Addr)(n:Int)(k:Nat)(h:Heap):Prop where
 e:∃old,IsEnum h e it (n+k) old
 i:oH b h it l k
theorem aEj{b:Bool}{l:Addr}{xs:Array Value}{Q:Value->Shared->Prop}(hl:kL b s.heap l xs)
  (h:∀h',EAt b (s.heap.objs.size+1) s.heap.objs.size l 0 0 h'->(∀c o,s.heap.get? c=some o->h'.get? c=some o)->Q (.ref (s.heap.objs.size+1)) { s with heap:=h' }) :
  wpAny (model prog w) A (call (.type "enumerate") [.ref l]) Q E s:=by
 refine callType_new F.called_enumerate Dd (F.typeCall_enumerate_1 _) (F.newCall_enumerate_1 _) (λd=>F.args_object_init_2 d _) F.entry_enumerate_new (aCv b l xs) ⟨hl,?_⟩;have e:(s.heap.push (WN b l)).objs.size=s.heap.objs.size+1:=iU ..;have a:((s.heap.push (WN b l)).push (enO s.heap.objs.size 0)).get? (s.heap.push (WN b l)).objs.size=some _:=aX _ rfl;have i:((s.heap.push (WN b l)).push (enO s.heap.objs.size 0)).get? s.heap.objs.size=some _:=aD _ (aX _ rfl);show _/\_;rw [e] at a ⊢;exact ⟨⟨_,a,rfl⟩,h _ ⟨⟨_,a⟩,⟨_,i,rfl,rfl⟩⟩ λc o x=>aD _ (aD _ x)⟩
end
def Ite(b:Bool)(l:Addr)(n:Int):It :=
  ⟨λi H=>∃xs x,H l=some (uI b xs)/\xs[i]?=some x,
   λi H v H'=>∃q x,v=.ref q/\H q=none/\H'=upd H q (.tup [.int (n+(i:Nat)),x])/\∀xs,H l=some (uI b xs)->xs[i]?=some x,
   λi H=>∃xs,H l=some (uI b xs)/\xs.length<=i⟩
theorem NX{P:Program}{w:World}{K:KFr}{elts:List Expr}{x1}{tp:Pos}{b:Bool}{e it l:Addr}{n:Int}(hne:e≠it):EM P w K (.Tuple elts x1 tp) (Ite b l n) [e,it] e (λi h=>EAt b e it l n i h) where
 mem:=by simp
 obj:=λi h a c d=>by
  obtain ⟨m,r⟩:=a.e;obtain ⟨θ,M,_,δ⟩:=a.i;simp only [bE,List.not_mem_nil,or_false] at d;rcases d with rfl | rfl
  ·exact ⟨_,r,λv q=>by cases q⟩
  ·exact ⟨_,M,λv q=>by rw [δ] at q;cases q⟩
 keep:=λi h G a k=>by
  obtain ⟨m,r⟩:=a.e;exact ⟨⟨m,k _ (by simp) _ r⟩,a.i.at λo e=>k _ (by simp) o e⟩
 item:=by
  intro X R A C U i p s σ H E I z a L;subst R A C;obtain ⟨η,x,r,β⟩:=L;obtain ⟨u1,J,D⟩:=I.sq r;obtain ⟨Z,T,γ⟩:=J.get β;obtain ⟨m,y⟩:=a.e;refine JM y a.i D (x:=Z) (by simpa using T) hne λG t ξ B Y ζ=>⟨_,rfl,wpAny_letOwnedTupleGo_enum ξ λS O j=>?_⟩;have j:Heap.SameBut e G S:=j;have ι:∀c o,c ∉ [e,it]->s.heap.get? c=some o->S.get? c=some o:=λc o d N=>by
   simp only [bE,List.not_mem_nil,or_false,not_or] at d;exact j.extBut c o d.1 (ζ c o d.1 d.2 N)
  have I1:cO X p σ H { s with heap:=S,toks:=s.toks+1 }:=I.turnedL (t':=s.toks+1) ι z;have fq:kN X p H s.heap.objs.size:=I.fpOk (aE _) (I.hok.fresh (aE _));have ν:X.s₀.heap.get? s.heap.objs.size=none:=by
   cases q:X.s₀.heap.get? s.heap.objs.size with
   | none=>rfl
   | some o=>exact absurd (bH (bC q) I.sz) (cH _)
  have nz:s.heap.objs.size≠e:=λq=>absurd (bC y) (by rw [<-q];exact cH _);have ε:s.heap.objs.size≠it:=λq=>by obtain ⟨θ,M,_⟩:=a.i;exact absurd (bC M) (by rw [<-q];exact cH _)
  have u:n+((i+1:Nat):Int)=n+(i:Nat)+1:=Oo;refine ⟨.ref s.heap.objs.size,upd H s.heap.objs.size (.tup [.int (n+(i:Nat)),x]),I1.put fq ν ⟨⟨oR (by show 2<=64;decide),_,j.extBut _ _ nz Y,rfl⟩,[.int (n+(i:Nat)) t,Z],.cons ⟨t,rfl⟩ (.cons γ .nil),⟨_,j.extBut _ _ nz Y,rfl,_,rfl⟩⟩,rfl,⟨_,x,rfl,fq.1,rfl,λο α=>?_⟩,
   ⟨⟨_,by rw [u];exact O⟩,B.ext j.extBut (Ne.symm hne)⟩,λc d=>?_⟩
  ·rw [r] at α;rw [<-uI.inj α];exact β
  ·have μ:c≠s.heap.objs.size:=λq=>by
    simp only [bE,List.not_mem_nil,or_false] at d;rcases d with rfl | rfl
    ·exact nz q.symm
    ·exact ε q.symm
   rw [eG μ];exact (z c d).1
 done:=by
  intro X R A C U i p s σ H E I z a L;subst R A C;obtain ⟨η,r,ρ⟩:=L;obtain ⟨u1,J,D⟩:=I.sq r;have τ:=J.length;obtain ⟨m,y⟩:=a.e;refine JL (I.ok.hd U) y a.i D (by simp;omega) λG κ=>⟨rfl,I.turnedL (t':=s.toks) (λc o d N=>?_) z⟩;simp only [bE,List.not_mem_nil,or_false,not_or] at d;exact κ c o d.2 N
 self:=λ_ _ _ _ _ a h=>by
  obtain ⟨m,y⟩:=a.e;exact wpAny_pyIter_enum y h
def aD6(b:Bool)(n:Int)(ta:TA):TI:=λσ H R=>ta σ H λvs H1=>∃l xs,vs=[.ref l]/\H1 l=some (uI b xs)/\R (Ite b l n) H1
theorem PX:bootBuiltins (Str.ofString "enumerate")=some (Value.type "enumerate"):=Kk
section
variable{X:Cx}
theorem TR{pins:List (Addr × Obj)}{σ:St}{tg:Expr}{elts:List Expr}{x1}{tp:Pos}{b:Bool}{l:Addr}{n:Int}{H1:Hp}{s1:Shared}{R:It->Hp->Prop}{h':Heap}(I1:cO X pins σ H1 s1)(Z:EAt b (s1.heap.objs.size+1) s1.heap.objs.size l n 0 h')(kk:∀c o,s1.heap.get? c=some o->h'.get? c=some o)(q:R (Ite b l n) H1) :
  wpAny (model X.prog X.w) X.A (pyIter (.ref (s1.heap.objs.size+1))) (PIE X pins σ (.Tuple elts x1 tp) R) X.xe { s1 with heap:=h' }:=by
 obtain ⟨j,i⟩:=Z.e;refine wpAny_pyIter_enum i ⟨_,[s1.heap.objs.size+1,s1.heap.objs.size],_,_,H1,rfl,I1.kept (t':=s1.toks) kk,NX (λh=>absurd (show (s1.heap.objs.size+1:Nat)=s1.heap.objs.size from h) Oo),Z,λc d=>?_,q⟩;have a:s1.heap.objs.size<=c:=by
  simp only [bE,List.not_mem_nil,or_false] at d;rcases d with rfl | rfl
  ·exact Nat.le_add_right _ _
  ·exact aE _
 exact I1.fpOk a (I1.hok.fresh a)
theorem BU(b:Bool){a:Expr}{ta:TA}{p pos tp:Pos}{elts:List Expr}{x1}(hg:Gl X "enumerate")(hm:X.mg "enumerate" = none)(ha:NM X [a] ta)(hs:starEach [a] X.env=[(false,eval a X.env)]:=by first | exact iQ | exact iR | exact eK | rfl) :
  KB X (.Tuple elts x1 tp) (.Call (.Name "enumerate" p) [a] [] pos) (aD6 b 0 ta):=⟨by
 intro c s σ H R I h;refine Call_ (uZ I hg hm PX (PyProof.Rows.callWith_type1 (thn (ha.p pos c s σ H _ I h) λz x ⟨y,H1,I1,j,o⟩=>?_) (by rw [hs];rfl) (by rfl)));obtain ⟨l,w,e,m,q⟩:=o;subst e;obtain ⟨u,rfl,d⟩:=mT j;cases d;obtain ⟨u1,_,i⟩:=I1.sq m;exact aEj i λr Z n=>TR (tg:=.Tuple elts x1 tp) I1 Z n q⟩
theorem GQ{b:Bool}{l:Addr}{n:Int}{xs:List V}{g:TG}{tb:TS}{D:rQ}{σ:St}{H:Hp}(Pv:Nat->St->Hp->Prop)(h0:Pv 0 σ H)(hl:∀i σ H,Pv i σ H->H l=some (uI b xs))
  (hs:∀i x q σ H H',xs[i]?=some x->Pv i σ H->H q=none->H' q=some (.tup [.int (n+(i:Nat)),x])->bA H H'->g (.ref q) σ H' λσ2 H2=>tb { D with nx:=Pv (i+1),ct:=Pv (i+1),bk:=D.nx } σ2 H2) (hd:∀σ H,Pv xs.length σ H->D.nx σ H) :
  ∃W:Nat->Nat->St->Hp->Prop,(∃m,W 0 m σ H)/\∀i m σ H,W i m σ H ->
   ((Ite b l n).stop i H/\D.nx σ H)\/((Ite b l n).go i H/\∃N:St->Hp->Prop,(∀σ' H',N σ' H'->∃m',m' < m/\W (i+1) m' σ' H')/\∀x H',(Ite b l n).yld i H x H'->g x σ H' λσ2 H2=>tb { D with nx:=N,ct:=N,bk:=D.nx } σ2 H2):=by
 refine ⟨λi m σ H=>m=xs.length-i/\i<=xs.length/\Pv i σ H,⟨_,rfl,cC _,h0⟩,?_⟩;rintro i m σ H ⟨rfl,o,p⟩;have a:=hl i σ H p;by_cases hlt:i<xs.length
 ·have j:xs[i]?=some xs[i]:=aC hlt;refine .inr ⟨⟨xs,_,a,j⟩,Pv (i+1),λσ' H' d=>⟨_,Oo,rfl,hlt,d⟩,λv H' y=>?_⟩;obtain ⟨q,x,rfl,c,rfl,h⟩:=y;exact hs i x q σ H _ (h xs a) p c bL (bA.upd c)
 ·have e:i=xs.length:=Oo;subst e;exact .inl ⟨⟨xs,a,aE _⟩,hd σ H p⟩
end
end L2
namespace Mf
structure TQ where
 F:Nat
 q:Nat->Rat
 s:List Nat->Rat
 r:List Nat->Rat
abbrev SS:=List (List Nat) × List Bool × Bool
def tq0:TQ:=⟨0,λ_=>0,λ_=>0,λ_=>0⟩
def cZ(t:TQ)(st:SS)(i:Nat)(c:List Nat):List (SS × Rat):=[((st.1.set i c,st.2.1,st.2.2),t.s c),((st.1.set i c,st.2.1.set i false,st.2.2),t.r c),((st.1.set i c,st.2.1.set i false,true),1-(t.s c+t.r c))]
def dJ(on:List Bool):List Nat:=(List.range on.length).filter λi=>on.getD i false
def gU(pl:List (List Nat)->Option Int)(st:SS):Option Nat :=
 if dJ st.2.1=[]\/pl st.1=some (-1) then none else
  match pl st.1 with
  | some t=>if t∈(dJ st.2.1).map (λ(i:Nat)=>(i:Int)) then some t.toNat else (dJ st.2.1).head?
  | none=>(dJ st.2.1).head?
def pK(ts:List TQ)(pl:List (List Nat)->Option Int)(a:SS->Rat)(b:Rat):Nat->SS->Rat
 | 0,st=>a st
 | n+1,st=>match gU pl st with
  | none=>a st
  | some i=>b+dG (ts.getD i tq0).F λf=>(ts.getD i tq0).q f*bY (cZ (ts.getD i tq0) st i (bN (st.1.getD i []) f)) λp=>p.2*pK ts pl a b n p.1
def qM:List TQ->Nat->(SS->Rat)->SS->Rat
 | [],_,g,st=>g st
 | t::ts,i,g,st=>bY (cZ t st i (List.replicate t.F 0)) λp=>p.2*qM ts (i+1) g p.1
theorem MW(t:TQ)(st:SS)(i:Nat)(c:List Nat)(g:SS->Rat):bY (cZ t st i c) (λp=>p.2*g p.1)=t.s c*g (st.1.set i c,st.2.1,st.2.2)+(t.r c*g (st.1.set i c,st.2.1.set i false,st.2.2)+(1-(t.s c+t.r c))*g (st.1.set i c,st.2.1.set i false,true)):=by
 unfold cZ bY;simp only [bF,List.map_nil,iP];grind
theorem ZH{pl:List (List Nat)->Option Int}{st:SS}{i:Nat}(h:gU pl st=some i):i<st.2.1.length/\st.2.1.getD i false=true:=by
 unfold gU at h;have a:i∈dJ st.2.1->i<st.2.1.length/\st.2.1.getD i false=true:=λb=>by
  unfold dJ at b;obtain ⟨e,c⟩:=gF.mp b;exact ⟨bT.mp e,c⟩
 split at h
 ·cases h
 ·split at h
  ·split at h
   ·rename_i t _ b
    cases h;obtain ⟨k,d,rfl⟩:=aT.mp b;exact a (by simpa using d)
   ·exact a (List.mem_of_head? h)
  ·exact a (List.mem_of_head? h)
theorem uY{pl:List (List Nat)->Option Int}{st:SS}(h:gU pl st=none):dJ st.2.1=[]\/pl st.1=some (-1):=by
 unfold gU at h;split at h
 ·assumption
 ·rename_i hn
  have b:dJ st.2.1≠[]:=λz=>hn (.inl z);split at h
  ·split at h
   ·cases h
   ·cases e:dJ st.2.1 with
    | nil=>exact absurd e b
    | cons a l=>rw [e] at h;cases h
  ·cases e:dJ st.2.1 with
   | nil=>exact absurd e b
   | cons a l=>rw [e] at h;cases h
def sZ(t:TQ):Nat->List Nat->Rat
 | 0,_=>0
 | m+1,c=>dG t.F λf=>t.q f*(t.s (bN c f)*sZ t m (bN c f)+t.r (bN c f))
def GK(t:TQ):Nat->List Nat->Rat
 | 0,_=>0
 | m+1,c=>1+dG t.F λf=>t.q f*(t.s (bN c f)*GK t m (bN c f))
structure tY(M:Nat)(K:List Nat->Prop)(t:TQ):Prop where
 q0:∀f,f<t.F->0<=t.q f
 q1:dG t.F t.q=1
 len:∀c,K c->c.length=t.F
 le:∀c,K c->c.sum<=M
 s0:∀c,K c->0<=t.s c
 r0:∀c,K c->0<=t.r c
 sr:∀c,K c->t.s c+t.r c<=1
 on:∀c,K c->t.s c≠0->c.sum<M/\∀f,f<t.F->K (bN c f)
 root:K (List.replicate t.F 0)
def rho(t:TQ)(M:Nat)(c:List Nat):Rat:=sZ t (M-c.sum) c
def lam(t:TQ)(M:Nat)(c:List Nat):Rat:=GK t (M-c.sum) c
section
variable{M:Nat}{K:List Nat->Prop}{t:TQ}
theorem oG{c:List Nat}{f:Nat}(h:f<c.length):(bN c f).sum=c.sum+1:=by
 unfold bN
 induction c generalizing f with
 | nil=>simp at h
 | cons a c ih =>
  cases f with
  | zero=>simp;omega
  | succ f =>
   have:=ih (f:=f) (by simpa using h);simp only [List.set_cons_succ,List.sum_cons,List.getD_cons_succ];omega
theorem tY.rho_rec(h:tY M K t){c:List Nat}(hc:K c)(hs:t.s c≠0):rho t M c=dG t.F λf=>t.q f*(t.s (bN c f)*rho t M (bN c f)+t.r (bN c f)):=by
 obtain ⟨e,d⟩:=h.on c hc hs;unfold rho;obtain ⟨m,a⟩:∃m,M-c.sum=m+1:=⟨M-c.sum-1,Oo⟩;rw [a];show dG t.F _=_;refine dD λf b=>?_;rw [show M-(bN c f).sum=m by rw [oG (by rw [h.len c hc];exact b)];omega]
theorem tY.lam_rec(h:tY M K t){c:List Nat}(hc:K c)(hs:t.s c≠0):lam t M c=1+dG t.F λf=>t.q f*(t.s (bN c f)*lam t M (bN c f)):=by
 obtain ⟨e,d⟩:=h.on c hc hs;unfold lam;obtain ⟨m,a⟩:∃m,M-c.sum=m+1:=⟨M-c.sum-1,Oo⟩;rw [a];show 1+dG t.F _=_;congr 1;refine dD λf b=>?_;rw [show M-(bN c f).sum=m by rw [oG (by rw [h.len c hc];exact b)];omega]
theorem tY.rhoF_in(h:tY M K t):∀(m:Nat) (c:List Nat),K c->M-c.sum=m->0<=t.s c*sZ t m c/\t.s c*sZ t m c<=t.s c/\(t.s c≠0->0<=sZ t m c/\sZ t m c<=1)
 | 0,c,hc,hm=>by
  have hs:t.s c=0:=by
   rcases Classical.em (t.s c=0) with z | z
   ·exact z
   ·have:=(h.on c hc z).1;omega
  rw [hs];exact ⟨by show (0:Rat)<=0*0;grind,by show (0:Rat)*0<=0;grind,λz=>absurd rfl z⟩
 | m+1,c,hc,hm=>by
  rcases Classical.em (t.s c=0) with hs | hs
  ·rw [hs];exact ⟨by grind,by grind,λz=>absurd rfl z⟩
  ·obtain ⟨p,j⟩:=h.on c hc hs;have e:∀f,f<t.F->0<=t.s (bN c f)*sZ t m (bN c f)+t.r (bN c f)/\t.s (bN c f)*sZ t m (bN c f)+t.r (bN c f)<=1:=λf d=>by
    have i:=j f d;obtain ⟨a,b,_⟩:=h.rhoF_in m (bN c f) i (by rw [oG (by rw [h.len c hc];exact d)];omega);have:=h.r0 _ i;have:=h.sr _ i;constructor <;> grind
   have l:0<=sZ t (m+1) c:=by
    have:=wP (n:=t.F) (f:=λ_=>0) (g:=λf=>t.q f*(t.s (bN c f)*sZ t m (bN c f)+t.r (bN c f))) λf d=>cT (h.q0 f d) (e f d).1;rw [nI] at this;exact this
   have o:sZ t (m+1) c<=1:=by
    have:=wP (n:=t.F) (f:=λf=>t.q f*(t.s (bN c f)*sZ t m (bN c f)+t.r (bN c f))) (g:=t.q) λf d=>by
     have p:=h.q0 f d;have j:=(e f d).2;have:=Rat.mul_le_mul_of_nonneg_left j p;grind
    rw [h.q1] at this;exact this
   have s0:=h.s0 c hc;have:=Rat.mul_le_mul_of_nonneg_left o s0;exact ⟨cT s0 l,by grind,λ_=>⟨l,o⟩⟩
theorem tY.rho_in(h:tY M K t){c:List Nat}(hc:K c)(hs:t.s c≠0):0<=rho t M c/\rho t M c<=1:=(h.rhoF_in _ c hc rfl).2.2 hs
theorem tY.lamF_in(h:tY M K t):∀(m:Nat) (c:List Nat),K c->M-c.sum=m->0<=t.s c*GK t m c/\(t.s c≠0->0<=GK t m c)
 | 0,c,hc,hm=>by
  have hs:t.s c=0:=by
   rcases Classical.em (t.s c=0) with z | z
   ·exact z
   ·have:=(h.on c hc z).1;omega
  rw [hs];exact ⟨by show (0:Rat)<=0*0;grind,λz=>absurd rfl z⟩
 | m+1,c,hc,hm=>by
  rcases Classical.em (t.s c=0) with hs | hs
  ·rw [hs];exact ⟨by grind,λz=>absurd rfl z⟩
  ·obtain ⟨e,d⟩:=h.on c hc hs;have b:0<=GK t (m+1) c:=by
    have:=wP (n:=t.F) (f:=λ_=>0) (g:=λf=>t.q f*(t.s (bN c f)*GK t m (bN c f))) λf a=>cT (h.q0 f a) (h.lamF_in m (bN c f) (d f a) (by rw [oG (by rw [h.len c hc];exact a)];omega)).1;rw [nI] at this;show 0<=1+dG t.F _;grind
   exact ⟨cT (h.s0 c hc) b,λ_=>b⟩
theorem tY.lam_in(h:tY M K t){c:List Nat}(hc:K c)(hs:t.s c≠0):0<=lam t M c:=(h.lamF_in _ c hc rfl).2 hs
end
structure TM where
 t:TQ
 M:Nat
 K:List Nat->Prop
def fJ:TM:=⟨tq0,0,λ_=>False⟩
structure wF(ms:List TM)(st:SS):Prop where
 lc:st.1.length=ms.length
 lo:st.2.1.length=ms.length
 k:∀i,i<ms.length->(ms.getD i fJ).K (st.1.getD i [])
 on:∀i,i<ms.length->st.2.1.getD i false=true->(ms.getD i fJ).t.s (st.1.getD i [])≠0
def oJ(ms:List TM):Prop:=∀i,i<ms.length->tY (ms.getD i fJ).M (ms.getD i fJ).K (ms.getD i fJ).t
def uA(g:Nat->List Nat->Rat)(st:SS):List Nat->Rat
 | []=>1
 | i::l=>(if st.2.1.getD i false=true then g i (st.1.getD i []) else 1)*uA g st l
def wG(g:Nat->List Nat->Rat)(st:SS):List Nat->Rat
 | []=>0
 | i::l=>(if st.2.1.getD i false=true then g i (st.1.getD i []) else 0)+wG g st l
theorem fP{α:Type}{l:List α}{i j:Nat}{a d:α}(h:i≠j):(l.set i a).getD j d=l.getD j d:=by
 rw [aK,aK,List.getElem?_set_ne h]
theorem gD{α:Type}{l:List α}{i:Nat}{a d:α}(h:i<l.length):(l.set i a).getD i d=a:=by
 rw [aK,List.getElem?_set_self h];rfl
theorem DE(g:Nat->List Nat->Rat){st st':SS}{i:Nat}:∀{l:List Nat},i ∉ l->(∀j,j≠i->st'.1.getD j []=st.1.getD j []/\st'.2.1.getD j false=st.2.1.getD j false)->uA g st' l=uA g st l
 | [],_,_=>rfl
 | j::l,hi,h=>by
  obtain ⟨h1,h2⟩:=h j (λz=>hi (by simp [z]));show (if st'.2.1.getD j false=true then g j (st'.1.getD j []) else 1)*uA g st' l=_*uA g st l;rw [h1,h2,DE g (λz=>hi (aG _ z)) h]
theorem yA{g g':Nat->List Nat->Rat}(st:SS):∀{l:List Nat},(∀j∈l,g j=g' j)->uA g st l=uA g' st l
 | [],_=>rfl
 | j::l,h=>by
  show _*uA g st l=_*uA g' st l;rw [h j (aQ ..),yA st λi hi=>h i (aG _ hi)]
def Off(st st':SS)(i:Nat):Prop:=∀j,j≠i->st'.1.getD j []=st.1.getD j []/\st'.2.1.getD j false=st.2.1.getD j false
theorem AK{g g':Nat->List Nat->Rat}(st:SS){i:Nat}(hg:∀j,j≠i->g j=g' j):∀{l:List Nat},l.Nodup->i∈l->∃x,(∀st':SS,Off st st' i->uA g st' l=(if st'.2.1.getD i false=true then g i (st'.1.getD i []) else 1)*x)/\∀st':SS,Off st st' i->uA g' st' l=(if st'.2.1.getD i false=true then g' i (st'.1.getD i []) else 1)*x
 | [],_,h=>by cases h
 | j::l,nd,h=>by
  rw [List.nodup_cons] at nd;by_cases e:j=i
  ·subst e;refine ⟨uA g st l,λst' hs=>by show _*uA g st' l=_;rw [DE g nd.1 hs],λst' hs=>?_⟩;show _*uA g' st' l=_;rw [DE g' nd.1 hs,yA st λk hk=>hg k λz=>nd.1 (z ▸ hk)]
  ·have hm:i∈l:=by
    rcases bE.mp h with z | z
    ·exact absurd z.symm e
    ·exact z
   obtain ⟨x,d,b⟩:=AK st hg nd.2 hm;refine ⟨(if st.2.1.getD j false=true then g j (st.1.getD j []) else 1)*x,λst' hs=>?_,λst' hs=>?_⟩
   ·obtain ⟨c,a⟩:=hs j e;show (if st'.2.1.getD j false=true then g j (st'.1.getD j []) else 1)*uA g st' l=_;rw [c,a,d st' hs];grind
   ·obtain ⟨c,a⟩:=hs j e;show (if st'.2.1.getD j false=true then g' j (st'.1.getD j []) else 1)*uA g' st' l=_;rw [c,a,b st' hs,hg j e];grind
theorem CP(g:Nat->List Nat->Rat){st st':SS}{i:Nat}:∀{l:List Nat},i ∉ l->(∀j,j≠i->st'.1.getD j []=st.1.getD j []/\st'.2.1.getD j false=st.2.1.getD j false)->wG g st' l=wG g st l
 | [],_,_=>rfl
 | j::l,hi,h=>by
  obtain ⟨h1,h2⟩:=h j (λz=>hi (by simp [z]));show (if st'.2.1.getD j false=true then g j (st'.1.getD j []) else 0)+wG g st' l=_+wG g st l;rw [h1,h2,CP g (λz=>hi (aG _ z)) h]
theorem xS{g g':Nat->List Nat->Rat}(st:SS):∀{l:List Nat},(∀j∈l,g j=g' j)->wG g st l=wG g' st l
 | [],_=>rfl
 | j::l,h=>by
  show _+wG g st l=_+wG g' st l;rw [h j (aQ ..),xS st λi hi=>h i (aG _ hi)]
theorem AF{g g':Nat->List Nat->Rat}(st:SS){i:Nat}(hg:∀j,j≠i->g j=g' j):∀{l:List Nat},l.Nodup->i∈l->∃x,(∀st':SS,Off st st' i->wG g st' l=(if st'.2.1.getD i false=true then g i (st'.1.getD i []) else 0)+x)/\∀st':SS,Off st st' i->wG g' st' l=(if st'.2.1.getD i false=true then g' i (st'.1.getD i []) else 0)+x
 | [],_,h=>by cases h
 | j::l,nd,h=>by
  rw [List.nodup_cons] at nd;by_cases e:j=i
  ·subst e;refine ⟨wG g st l,λst' hs=>by show _+wG g st' l=_;rw [CP g nd.1 hs],λst' hs=>?_⟩;show _+wG g' st' l=_;rw [CP g' nd.1 hs,xS st λk hk=>hg k λz=>nd.1 (z ▸ hk)]
  ·have hm:i∈l:=by
    rcases bE.mp h with z | z
    ·exact absurd z.symm e
    ·exact z
   obtain ⟨x,d,b⟩:=AF st hg nd.2 hm;refine ⟨(if st.2.1.getD j false=true then g j (st.1.getD j []) else 0)+x,λst' hs=>?_,λst' hs=>?_⟩
   ·obtain ⟨c,a⟩:=hs j e;show (if st'.2.1.getD j false=true then g j (st'.1.getD j []) else 0)+wG g st' l=_;rw [c,a,d st' hs];grind
   ·obtain ⟨c,a⟩:=hs j e;show (if st'.2.1.getD j false=true then g' j (st'.1.getD j []) else 0)+wG g' st' l=_;rw [c,a,b st' hs,hg j e];grind
theorem DD(g:Nat->List Nat->Rat)(st:SS):∀{l:List Nat},(∀i∈l,st.2.1.getD i false=false)->uA g st l=1/\wG g st l=0
 | [],_=>⟨rfl,rfl⟩
 | j::l,h=>by
  obtain ⟨h1,h2⟩:=DD g st λi b=>h i (aG _ b);have a:=h j (aQ ..);refine ⟨?_,?_⟩
  ·show (if st.2.1.getD j false=true then _ else 1)*uA g st l=1;rw [a,if_neg bQ,h1];grind
  ·show (if st.2.1.getD j false=true then _ else 0)+wG g st l=0;rw [a,if_neg bQ,h2];grind
theorem TJ{g:Nat->List Nat->Rat}{st:SS}:∀{l:List Nat},(∀i∈l,st.2.1.getD i false=true->0<=g i (st.1.getD i [])/\g i (st.1.getD i [])<=1)->0<=uA g st l/\uA g st l<=1
 | [],_=>⟨by show (0:Rat)<=1;decide,by show (1:Rat)<=1;decide⟩
 | j::l,h=>by
  obtain ⟨h1,h2⟩:=TJ λi c=>h i (aG _ c);show 0<=(if st.2.1.getD j false=true then g j (st.1.getD j []) else 1)*uA g st l/\(if st.2.1.getD j false=true then g j (st.1.getD j []) else 1)*uA g st l<=1;by_cases e:st.2.1.getD j false=true
  ·rw [if_pos e];obtain ⟨a,b⟩:=h j (aQ ..) e;refine ⟨cT a h1,?_⟩;have:=Rat.mul_le_mul_of_nonneg_right b h1;grind
  ·rw [if_neg e];constructor <;> grind
theorem SG{g:Nat->List Nat->Rat}{st:SS}:∀{l:List Nat},(∀i∈l,st.2.1.getD i false=true->0<=g i (st.1.getD i []))->0<=wG g st l
 | [],_=>by show (0:Rat)<=0;decide
 | j::l,h=>by
  have h1:=SG λi a=>h i (aG _ a);show 0<=(if st.2.1.getD j false=true then g j (st.1.getD j []) else 0)+wG g st l;by_cases e:st.2.1.getD j false=true
  ·rw [if_pos e];have:=h j (aQ ..) e;grind
  ·rw [if_neg e];grind
abbrev gR(ms:List TM):Nat->List Nat->Rat:=λi c=>rho (ms.getD i fJ).t (ms.getD i fJ).M c
abbrev gL(ms:List TM):Nat->List Nat->Rat:=λi c=>lam (ms.getD i fJ).t (ms.getD i fJ).M c
def aW(st:SS):Rat:=if st.2.2=true then 1 else 0
def aA(st:SS):Rat:=if dJ st.2.1=[] then 1 else 0
def zI(n:Nat)(g:Nat->List Nat->Rat)(st:SS):Rat:=if st.2.2=true then 1 else 1-uA g st (List.range n)
def zJ(n:Nat)(g:Nat->List Nat->Rat)(st:SS):Rat:=wG g st (List.range n)
theorem wR{st:SS}{i:Nat}(c:List Nat)(on:List Bool)(w:Bool)(ho:∀j,j≠i->on.getD j false=st.2.1.getD j false):Off st (st.1.set i c,on,w) i:=λj a=>⟨fP (λz=>a z.symm),ho j a⟩
theorem AY{st:SS}{ms:List TM}(h:wF ms st)(e:dJ st.2.1=[]):∀i∈List.range ms.length,st.2.1.getD i false=false:=λi a=>by
 cases q:st.2.1.getD i false with
 | false=>rfl
 | true =>
  have:i∈dJ st.2.1:=gF.mpr ⟨by rw [h.lo];exact a,q⟩;rw [e] at this;cases this
section
variable{ms:List TM}{st:SS}
theorem wF.come(h:wF ms st){i:Nat}(hi:i<ms.length){c:List Nat}(hc:(ms.getD i fJ).K c):∀p∈cZ (ms.getD i fJ).t st i c,p.2≠0->(st.2.1.getD i false=true\/True)->wF ms p.1:=λp d l _=>by
 have m:∀(on:List Bool) (w:Bool) j,j<ms.length->(ms.getD j fJ).K (((st.1.set i c,on,w):SS).1.getD j []):=λon w j b=>by
  by_cases e:j=i
  ·subst e;rw [show ((st.1.set j c,on,w):SS).1.getD j []=c from gD (by rw [h.lc];exact hi)];exact hc
  ·rw [show ((st.1.set i c,on,w):SS).1.getD j []=st.1.getD j [] from fP λz=>e z.symm];exact h.k j b
 have a:∀(w:Bool) j,j<ms.length->(st.2.1.set i false).getD j false=true->(ms.getD j fJ).t.s (((st.1.set i c,st.2.1.set i false,w):SS).1.getD j [])≠0:=λw j b q=>by
  by_cases e:j=i
  ·subst e;rw [gD (by rw [h.lo];exact hi)] at q;cases q
  ·rw [fP λz=>e z.symm] at q;rw [show ((st.1.set i c,st.2.1.set i false,w):SS).1.getD j []=st.1.getD j [] from fP λz=>e z.symm];exact h.on j b q
 unfold cZ at d;simp only [bE,List.not_mem_nil,or_false] at d;rcases d with rfl | rfl | rfl
 ·refine ⟨by simp [h.lc],h.lo,m _ _,λj b q=>?_⟩;by_cases e:j=i
  ·subst e;rw [show ((st.1.set j c,st.2.1,st.2.2):SS).1.getD j []=c from gD (by rw [h.lc];exact hi)];exact l
  ·rw [show ((st.1.set i c,st.2.1,st.2.2):SS).1.getD j []=st.1.getD j [] from fP λz=>e z.symm];exact h.on j b q
 ·exact ⟨by simp [h.lc],by simp [h.lo],m _ _,a _⟩
 ·exact ⟨by simp [h.lc],by simp [h.lo],m _ _,a _⟩
theorem oJ.nn(H:oJ ms){i:Nat}(hi:i<ms.length){c:List Nat}(hc:(ms.getD i fJ).K c)(st:SS):∀p∈cZ (ms.getD i fJ).t st i c,0<=p.2:=λp a=>by
 have d:=(H i hi).s0 c hc;have b:=(H i hi).r0 c hc;have e:=(H i hi).sr c hc;unfold cZ at a;simp only [bE,List.not_mem_nil,or_false] at a;rcases a with rfl | rfl | rfl
 ·exact d
 ·exact b
 ·show 0<=1-_;grind
theorem VM{n:Nat}{g g':Nat->List Nat->Rat}(t:TQ){i:Nat}(hg:∀j,j≠i->g j=g' j)(hi:i<n)(lc:st.1.length=n)(lo:st.2.1.length=n)(hon:st.2.1.getD i false=true):∃x,zI n g' st=(if st.2.2=true then 1 else 1-g' i (st.1.getD i [])*x) /\
  ∀c,bY (cZ t st i c) (λp=>p.2*zI n g p.1)=if st.2.2=true then 1 else 1-(t.s c*g i c+t.r c)*x:=by
 obtain ⟨x,d,b⟩:=AK st hg List.nodup_range (bT.mpr hi);have e:∀a,uA g (st.1.set i a,st.2.1,st.2.2) (List.range n)=g i a * x:=λa=>by
  rw [d _ (wR a _ _ λj _=>rfl),if_pos hon,show ((st.1.set i a,st.2.1,st.2.2):SS).1.getD i []=a from gD (by rw [lc];exact hi)]
 have l:∀w a,uA g (st.1.set i a,st.2.1.set i false,w) (List.range n)=x:=λw a=>by
  rw [d _ (wR a _ _ λj h=>fP λz=>h z.symm),if_neg (by rw [show ((st.1.set i a,st.2.1.set i false,w):SS).2.1.getD i false=false from gD (by rw [lo];exact hi)];exact bQ)];grind
 have e3:uA g' st (List.range n)=g' i (st.1.getD i [])*x:=by rw [b st λj _=>⟨rfl,rfl⟩,if_pos hon]
 refine ⟨x,?_,λc=>?_⟩
 ·unfold zI;rw [e3]
 ·rw [MW];unfold zI;rw [e,l];by_cases w:st.2.2=true
  ·rw [if_pos w,if_pos w,if_pos w];simp only [if_true];grind
  ·rw [if_neg w,if_neg w,if_neg w];simp only [if_true];grind
theorem VN{n:Nat}{g g':Nat->List Nat->Rat}(t:TQ){i:Nat}(hg:∀j,j≠i->g j=g' j)(hi:i<n)(lc:st.1.length=n)(lo:st.2.1.length=n)(hon:st.2.1.getD i false=true):∃x,zJ n g' st=g' i (st.1.getD i [])+x/\∀c,bY (cZ t st i c) (λp=>p.2*zJ n g p.1)=t.s c*g i c+x:=by
 obtain ⟨x,d,a⟩:=AF st hg List.nodup_range (bT.mpr hi);refine ⟨x,by unfold zJ;rw [a st λj _=>⟨rfl,rfl⟩,if_pos hon],λc=>?_⟩;have e:wG g (st.1.set i c,st.2.1,st.2.2) (List.range n)=g i c+x:=by
  rw [d _ (wR c _ _ λj _=>rfl),if_pos hon,show ((st.1.set i c,st.2.1,st.2.2):SS).1.getD i []=c from gD (by rw [lc];exact hi)]
 have b:∀w,wG g (st.1.set i c,st.2.1.set i false,w) (List.range n)=x:=λw=>by
  rw [d _ (wR c _ _ λj h=>fP λz=>h z.symm),if_neg (by rw [show ((st.1.set i c,st.2.1.set i false,w):SS).2.1.getD i false=false from gD (by rw [lo];exact hi)];exact bQ)];grind
 rw [MW];unfold zJ;rw [e,b,b];grind
theorem EF{i:Nat}{c:List Nat}:bY (cZ (ms.getD i fJ).t st i c) (λp=>p.2*1)=1:=by
 rw [MW (g:=λ_=>1)];grind
end
def nH(cs:List (List Nat)):Nat:=(cs.map List.sum).sum
def qG(ms:List TM):Nat:=(ms.map (·.M)).sum
theorem FE:∀{cs:List (List Nat)}{i:Nat}{c:List Nat},i<cs.length->nH (cs.set i c)+(cs.getD i []).sum=nH cs+c.sum
 | [],i,c,h=>by simp at h
 | a::cs,0,c,h=>by show c.sum+(cs.map List.sum).sum+a.sum=a.sum+(cs.map List.sum).sum+c.sum;omega
 | a::cs,i+1,c,h=>by
  have:=FE (cs:=cs) (i:=i) (c:=c) (by simpa using h);unfold nH at this;show a.sum+((cs.set i c).map List.sum).sum+(cs.getD i []).sum=a.sum+(cs.map List.sum).sum+c.sum;omega
theorem IH:∀{ms:List TM}{cs:List (List Nat)},cs.length=ms.length->(∀i,i<ms.length->(cs.getD i []).sum<=(ms.getD i fJ).M)->nH cs<=qG ms/\∀i,i<ms.length->(cs.getD i []).sum<(ms.getD i fJ).M->nH cs<qG ms
 | [],[],_,_=>⟨aE _,λi hi=>by simp at hi⟩
 | [],_::_,h,_=>by simp at h
 | _::_,[],h,_=>by simp at h
 | m::ms,c::cs,hl,h=>by
  obtain ⟨h1,h2⟩:=IH (ms:=ms) (cs:=cs) (by simpa using hl) λi hi=>h (i+1) (by simpa using hi);have a:c.sum<=m.M:=h 0 (by simp);refine ⟨?_,λi hi q=>?_⟩
  ·show c.sum+nH cs<=m.M+qG ms;omega
  ·show c.sum+nH cs<m.M+qG ms;cases i with
   | zero=>have:c.sum<m.M:=q;omega
   | succ i=>have:=h2 i (by simpa using hi) q;omega
theorem aCJ(ms:List TM)(i:Nat):(ms.map (·.t)).getD i tq0=(ms.getD i fJ).t:=by
 rw [aK,aK,aI];cases ms[i]? <;> rfl
section
variable{ms:List TM}{pl:List (List Nat)->Option Int}
theorem wF.look(h:wF ms st)(H:oJ ms){i:Nat}(e:gU pl st=some i):i<ms.length/\st.2.1.getD i false=true/\(ms.getD i fJ).t.s (st.1.getD i [])≠0/\∀f,f<(ms.getD i fJ).t.F->(ms.getD i fJ).K (bN (st.1.getD i []) f)/\nH (st.1.set i (bN (st.1.getD i []) f))=nH st.1+1:=by
 obtain ⟨n,d⟩:=ZH e;have a:i<ms.length:=by rw [<-h.lo];exact n
 have b:=h.on i a d;have l:=h.k i a;refine ⟨a,d,b,λf j=>⟨((H i a).on _ l b).2 f j,?_⟩⟩;have m:=FE (cs:=st.1) (i:=i) (c:=bN (st.1.getD i []) f) (by rw [h.lc];exact a);rw [oG (by rw [(H i a).len _ l];exact j)] at m;omega
theorem wF.out(h:wF ms st)(H:oJ ms)(hn:qG ms<=nH st.1):gU pl st=none:=by
 cases e:gU pl st with
 | none=>rfl
 | some i =>
  obtain ⟨a,d,c,_⟩:=h.look H e;have l:=(IH h.lc λj b=>(H j b).le _ (h.k j b)).2 i a ((H i a).on _ (h.k i a) c).1;omega
theorem EE{t:TQ}{st:SS}{i:Nat}{c:List Nat}:∀p∈cZ t st i c,p.1.1=st.1.set i c:=λp a=>by
 unfold cZ at a;simp only [bE,List.not_mem_nil,or_false] at a;rcases a with rfl | rfl | rfl <;> rfl
theorem xD(H:oJ ms){a:SS->Rat}{b:Rat}{n:Nat}{st:SS}{i:Nat}(e:gU pl st=some i):pK (ms.map (·.t)) pl a b (n+1) st=b+dG (ms.getD i fJ).t.F λf=>(ms.getD i fJ).t.q f*bY (cZ (ms.getD i fJ).t st i (bN (st.1.getD i []) f)) λp=>p.2*pK (ms.map (·.t)) pl a b n p.1:=by
 show (match gU pl st with | none=>a st | some i=>_)=_;rw [e];show b+dG _ _=_;rw [aCJ]
theorem xE{ts:List TQ}{a:SS->Rat}{b:Rat}{st:SS}(e:gU pl st=none):∀n,pK ts pl a b n st=a st
 | 0=>rfl
 | n+1=>by show (match gU pl st with | none=>a st | some i=>_)=_;rw [e]
theorem BZ(H:oJ ms)(ph a:SS->Rat)(b:Rat)(ht:∀st,wF ms st->gU pl st=none->a st<=ph st)(hs:∀st i,wF ms st->gU pl st=some i->b+dG (ms.getD i fJ).t.F (λf=>(ms.getD i fJ).t.q f*bY (cZ (ms.getD i fJ).t st i (bN (st.1.getD i []) f)) λp=>p.2*ph p.1)=ph st) :
  ∀(n:Nat) (st:SS),wF ms st->qG ms<=n+nH st.1->pK (ms.map (·.t)) pl a b n st<=ph st
 | 0,st,h,hn=>ht st h (h.out H Oo)
 | n+1,st,h,hn=>by
  cases e:gU pl st with
  | none=>rw [xE e];exact ht st h e
  | some i =>
   obtain ⟨hi,h2,h3,h4⟩:=h.look H e;rw [xD H e,<-hs st i h e];have:dG (ms.getD i fJ).t.F (λf=>(ms.getD i fJ).t.q f*bY (cZ (ms.getD i fJ).t st i (bN (st.1.getD i []) f)) λp=>p.2*pK (ms.map (·.t)) pl a b n p.1)<=dG (ms.getD i fJ).t.F (λf=>(ms.getD i fJ).t.q f*bY (cZ (ms.getD i fJ).t st i (bN (st.1.getD i []) f)) λp=>p.2*ph p.1):=by
    refine wP λf d=>Rat.mul_le_mul_of_nonneg_left (uH λp c=>?_) ((H i hi).q0 f d);obtain ⟨j,m⟩:=h4 f d;have l:=H.nn hi j st p c;rcases Classical.em (p.2=0) with z | z
    ·rw [z];grind
    ·refine Rat.mul_le_mul_of_nonneg_left (BZ H ph a b ht hs n p.1 (h.come hi j p c z (.inr trivial)) ?_) l;rw [EE p c,m];omega
   grind
theorem CA(H:oJ ms)(ph a:SS->Rat)(b:Rat)(ht:∀st,wF ms st->gU pl st=none->a st=ph st)(hs:∀st i,wF ms st->gU pl st=some i->b+dG (ms.getD i fJ).t.F (λf=>(ms.getD i fJ).t.q f*bY (cZ (ms.getD i fJ).t st i (bN (st.1.getD i []) f)) λp=>p.2*ph p.1)=ph st) :
  ∀(n:Nat) (st:SS),wF ms st->qG ms<=n+nH st.1->pK (ms.map (·.t)) pl a b n st=ph st
 | 0,st,h,hn=>ht st h (h.out H Oo)
 | n+1,st,h,hn=>by
  cases e:gU pl st with
  | none=>rw [xE e];exact ht st h e
  | some i =>
   obtain ⟨hi,h2,h3,h4⟩:=h.look H e;rw [xD H e,<-hs st i h e];congr 1;refine dD λf j=>?_;congr 1;refine dE λp c=>?_;obtain ⟨l,d⟩:=h4 f j;rcases Classical.em (p.2=0) with z | z
   ·rw [z];grind
   ·rw [CA H ph a b ht hs n p.1 (h.come hi l p c z (.inr trivial)) (by rw [EE p c,d];omega)]
theorem RZ{n:Nat}{q f:Nat->Rat}{x:Rat}(h1:dG n q=1):dG n (λi=>q i*(1-f i*x))=1-dG n (λi=>q i*f i)*x:=by
 have e:dG n (λi=>q i*(1-f i*x))=dG n (λi=>q i+(0-x)*(q i*f i)):=dD λi _=>by grind
 rw [e,xJ,lY,h1];grind
theorem FY(H:oJ ms){st:SS}{i:Nat}(h:wF ms st)(e:gU pl st=some i):0+dG (ms.getD i fJ).t.F (λf=>(ms.getD i fJ).t.q f*bY (cZ (ms.getD i fJ).t st i (bN (st.1.getD i []) f)) λp=>p.2*zI ms.length (gR ms) p.1)=zI ms.length (gR ms) st:=by
 obtain ⟨a,b,d,j⟩:=h.look H e;obtain ⟨x,c,e3⟩:=VM (g:=gR ms) (g':=gR ms) (ms.getD i fJ).t (λ_ _=>rfl) a h.lc h.lo b;rw [c,dD (g:=λf=>(ms.getD i fJ).t.q f*if st.2.2=true then 1 else 1-((ms.getD i fJ).t.s (bN (st.1.getD i []) f)*gR ms i (bN (st.1.getD i []) f)+(ms.getD i fJ).t.r (bN (st.1.getD i []) f))*x) λf _=>by rw [e3]];by_cases w:st.2.2=true
 ·simp only [if_pos w];rw [dD (g:=(ms.getD i fJ).t.q) λf _=>by grind,(H i a).q1];grind
 ·simp only [if_neg w];rw [RZ (H i a).q1,show gR ms i (st.1.getD i [])=_ from (H i a).rho_rec (h.k i a) d];grind
theorem FZ(H:oJ ms){st:SS}{i:Nat}(h:wF ms st)(e:gU pl st=some i):1+dG (ms.getD i fJ).t.F (λf=>(ms.getD i fJ).t.q f*bY (cZ (ms.getD i fJ).t st i (bN (st.1.getD i []) f)) λp=>p.2*zJ ms.length (gL ms) p.1)=zJ ms.length (gL ms) st:=by
 obtain ⟨a,b,d,j⟩:=h.look H e;obtain ⟨x,c,e3⟩:=VN (g:=gL ms) (g':=gL ms) (ms.getD i fJ).t (λ_ _=>rfl) a h.lc h.lo b;rw [c,dD (g:=λf=>(ms.getD i fJ).t.q f*((ms.getD i fJ).t.s (bN (st.1.getD i []) f)*gL ms i (bN (st.1.getD i []) f))+x*(ms.getD i fJ).t.q f) λf _=>by rw [e3];grind,xJ,lY,(H i a).q1,show gL ms i (st.1.getD i [])=_ from (H i a).lam_rec (h.k i a) d];grind
theorem aDS(H:oJ ms){st:SS}{i:Nat}(h:wF ms st)(e:gU pl st=some i):0+dG (ms.getD i fJ).t.F (λf=>(ms.getD i fJ).t.q f*bY (cZ (ms.getD i fJ).t st i (bN (st.1.getD i []) f)) λp=>p.2*1)=1:=by
 obtain ⟨a,b,d,c⟩:=h.look H e;rw [dD (g:=(ms.getD i fJ).t.q) λf _=>by rw [EF];grind,(H i a).q1];grind
theorem RK(H:oJ ms){st:SS}(h:wF ms st):aW st<=zI ms.length (gR ms) st/\(dJ st.2.1=[]->aW st=zI ms.length (gR ms) st):=by
 unfold aW zI;by_cases w:st.2.2=true
 ·rw [if_pos w,if_pos w];exact ⟨Rat.le_refl,λ_=>rfl⟩
 ·rw [if_neg w,if_neg w];have:=TJ (g:=gR ms) (st:=st) (l:=List.range ms.length) λi a q=>(H i (bT.mp a)).rho_in (h.k i (bT.mp a)) (h.on i (bT.mp a) q);refine ⟨by grind,λe=>?_⟩;rw [(DD (gR ms) st (AY h e)).1];grind
theorem RM(H:oJ ms){st:SS}(h:wF ms st):0<=zJ ms.length (gL ms) st/\(dJ st.2.1=[]->0=zJ ms.length (gL ms) st):=by
 unfold zJ;exact ⟨SG λi a q=>(H i (bT.mp a)).lam_in (h.k i (bT.mp a)) (h.on i (bT.mp a) q),λe=>(DD (gL ms) st (AY h e)).2.symm⟩
theorem RN{st:SS}:aA st<=1/\(dJ st.2.1=[]->aA st=1):=by
 unfold aA;by_cases e:dJ st.2.1=[]
 ·rw [if_pos e];exact ⟨Rat.le_refl,λ_=>rfl⟩
 ·rw [if_neg e];exact ⟨Dd,λz=>absurd z e⟩
structure zD(ms:List TM)(k:Nat)(st:SS):Prop where
 lc:st.1.length=ms.length
 lo:st.2.1.length=ms.length
 c:∀i,i<ms.length->st.1.getD i []=List.replicate (ms.getD i fJ).t.F 0
 on:∀i,i<k->i<ms.length->st.2.1.getD i false=true->(ms.getD i fJ).t.s (st.1.getD i [])≠0
 on2:∀i,k<=i->i<ms.length->st.2.1.getD i false=true
theorem zD.ok(H:oJ ms){st:SS}(h:zD ms ms.length st):wF ms st:=⟨h.lc,h.lo,λi a=>by rw [h.c i a];exact (H i a).root,λi a=>h.on i a a⟩
theorem zD.come{st:SS}{k:Nat}(h:zD ms k st)(hk:k<ms.length):∀p∈cZ (ms.getD k fJ).t st k (List.replicate (ms.getD k fJ).t.F 0),p.2≠0->zD ms (k+1) p.1:=λp l m=>by
 have d:∀(on:List Bool) (w:Bool) j,j<ms.length->((st.1.set k (List.replicate (ms.getD k fJ).t.F 0),on,w):SS).1.getD j []=List.replicate (ms.getD j fJ).t.F 0:=λon w j o=>by
  by_cases e:j=k
  ·subst e;exact gD (by rw [h.lc];exact hk)
  ·rw [show ((st.1.set k (List.replicate (ms.getD k fJ).t.F 0),on,w):SS).1.getD j []=st.1.getD j [] from fP λz=>e z.symm];exact h.c j o
 have b:∀(w:Bool),zD ms (k+1) (st.1.set k (List.replicate (ms.getD k fJ).t.F 0),st.2.1.set k false,w):=λw=>by
  refine ⟨by simp [h.lc],by simp [h.lo],d _ _,λi n a q=>?_,λi n a=>?_⟩
  ·by_cases e:i=k
   ·subst e;rw [show ((st.1.set i (List.replicate (ms.getD i fJ).t.F 0),st.2.1.set i false,w):SS).2.1.getD i false=false from gD (by rw [h.lo];exact hk)] at q;cases q
   ·rw [show ((st.1.set k (List.replicate (ms.getD k fJ).t.F 0),st.2.1.set k false,w):SS).2.1.getD i false=st.2.1.getD i false from fP λz=>e z.symm] at q;rw [d _ _ i a,<-h.c i a];exact h.on i Oo a q
  ·rw [show ((st.1.set k (List.replicate (ms.getD k fJ).t.F 0),st.2.1.set k false,w):SS).2.1.getD i false=st.2.1.getD i false from fP Oo];exact h.on2 i Oo a
 unfold cZ at l;simp only [bE,List.not_mem_nil,or_false] at l;rcases l with rfl | rfl | rfl
 ·refine ⟨by simp [h.lc],h.lo,d _ _,λi n a q=>?_,λi n a=>h.on2 i Oo a⟩;rw [d _ _ i a];by_cases e:i=k
  ·subst e;exact m
  ·rw [<-h.c i a];exact h.on i Oo a q
 ·exact b _
 ·exact b _
theorem EA{k:Nat}(hk:k<ms.length):(ms.map (·.t)).drop k=(ms.getD k fJ).t::(ms.map (·.t)).drop (k+1):=by
 rw [List.drop_eq_getElem_cons (by rw [aB];exact hk),List.getElem_map];congr 2;rw [aK,aC hk];rfl
theorem UU(H:oJ ms)(g g':SS->Rat)(hg:∀st,zD ms ms.length st->g st<=g' st):∀(m k:Nat) (st:SS),k+m=ms.length->zD ms k st->qM ((ms.map (·.t)).drop k) k g st<=qM ((ms.map (·.t)).drop k) k g' st
 | 0,k,st,hm,h=>by
  obtain rfl:k=ms.length:=Oo;rw [List.drop_eq_nil_of_le (by rw [aB];exact aE _)];exact hg st h
 | m+1,k,st,hm,h=>by
  have a:k<ms.length:=Oo;rw [EA a];refine uH λp b=>?_;have c:=H.nn a (H k a).root st p b;rcases Classical.em (p.2=0) with z | z
  ·rw [z];grind
  ·exact Rat.mul_le_mul_of_nonneg_left (UU H g g' hg m (k+1) p.1 Oo (h.come a p b z)) c
theorem DW(H:oJ ms)(g:SS->Rat)(ph:Nat->SS->Rat)(hg:∀st,zD ms ms.length st->g st=ph ms.length st)(hs:∀k st,k<ms.length->zD ms k st->bY (cZ (ms.getD k fJ).t st k (List.replicate (ms.getD k fJ).t.F 0)) (λp=>p.2*ph (k+1) p.1)=ph k st):∀(m k:Nat) (st:SS),k+m=ms.length->zD ms k st->qM ((ms.map (·.t)).drop k) k g st=ph k st
 | 0,k,st,hm,h=>by
  obtain rfl:k=ms.length:=Oo;rw [List.drop_eq_nil_of_le (by rw [aB];exact aE _)];exact hg st h
 | m+1,k,st,hm,h=>by
  have a:k<ms.length:=Oo;rw [EA a,<-hs k st a h];refine dE λp b=>?_;rcases Classical.em (p.2=0) with z | z
  ·rw [z];grind
  ·rw [DW H g ph hg hs m (k+1) p.1 Oo (h.come a p b z)]
def RR(m:TM):Rat:=m.t.s (List.replicate m.t.F 0)*rho m.t m.M (List.replicate m.t.F 0)+m.t.r (List.replicate m.t.F 0)
def LL(m:TM):Rat:=m.t.s (List.replicate m.t.F 0)*lam m.t m.M (List.replicate m.t.F 0)
def GN(ms:List TM)(k:Nat):Nat->List Nat->Rat:=λi c=>if i<k then gR ms i c else RR (ms.getD i fJ)
def GO(ms:List TM)(k:Nat):Nat->List Nat->Rat:=λi c=>if i<k then gL ms i c else LL (ms.getD i fJ)
theorem ZW(k:Nat):∀j,j≠k->GN ms (k+1) j=GN ms k j:=λj a=>by
 funext c;unfold GN
 by_cases h:j<k
 ·rw [if_pos h,if_pos Oo]
 ·rw [if_neg h,if_neg Oo]
theorem ZX(k:Nat):∀j,j≠k->GO ms (k+1) j=GO ms k j:=λj a=>by
 funext c;unfold GO
 by_cases h:j<k
 ·rw [if_pos h,if_pos Oo]
 ·rw [if_neg h,if_neg Oo]
theorem aD8(H:oJ ms){st:SS}(h:zD ms 0 st):qM (ms.map (·.t)) 0 (zI ms.length (gR ms)) st=zI ms.length (GN ms 0) st:=by
 have:=DW H (zI ms.length (gR ms)) (λk=>zI ms.length (GN ms k)) (λst _=>?_) (λk st b a=>?_) ms.length 0 st Oo h
 ·exact this
 ·show zI _ _ _=zI _ _ _;unfold zI;rw [yA (g':=GN ms ms.length) st λj e=>by funext c;unfold GN;rw [if_pos (bT.mp e)]]
 ·obtain ⟨x,d,i⟩:=VM (ms.getD k fJ).t (ZW (ms:=ms) k) b a.lc a.lo (a.on2 k (aE _) b);show bY _ (λp:SS × Rat=>p.2*zI ms.length (GN ms (k+1)) p.1)=zI ms.length (GN ms k) st;rw [d,i,show GN ms k k (st.1.getD k [])=RR (ms.getD k fJ) by unfold GN;rw [if_neg (cH _)],show GN ms (k+1) k (List.replicate (ms.getD k fJ).t.F 0)=rho (ms.getD k fJ).t (ms.getD k fJ).M (List.replicate (ms.getD k fJ).t.F 0) by unfold GN;rw [if_pos (Nat.lt_succ_self _)]]
  rfl
theorem aD9(H:oJ ms){st:SS}(h:zD ms 0 st):qM (ms.map (·.t)) 0 (zJ ms.length (gL ms)) st=zJ ms.length (GO ms 0) st:=by
 have:=DW H (zJ ms.length (gL ms)) (λk=>zJ ms.length (GO ms k)) (λst _=>?_) (λk st b a=>?_) ms.length 0 st Oo h
 ·exact this
 ·show zJ _ _ _=zJ _ _ _;unfold zJ;rw [xS (g':=GO ms ms.length) st λj e=>by funext c;unfold GO;rw [if_pos (bT.mp e)]]
 ·obtain ⟨x,d,i⟩:=VN (ms.getD k fJ).t (ZX (ms:=ms) k) b a.lc a.lo (a.on2 k (aE _) b);show bY _ (λp:SS × Rat=>p.2*zJ ms.length (GO ms (k+1)) p.1)=zJ ms.length (GO ms k) st;rw [d,i,show GO ms k k (st.1.getD k [])=LL (ms.getD k fJ) by unfold GO;rw [if_neg (cH _)],show GO ms (k+1) k (List.replicate (ms.getD k fJ).t.F 0)=lam (ms.getD k fJ).t (ms.getD k fJ).M (List.replicate (ms.getD k fJ).t.F 0) by unfold GO;rw [if_pos (Nat.lt_succ_self _)]]
  rfl
theorem aEa(H:oJ ms){st:SS}(h:zD ms 0 st):qM (ms.map (·.t)) 0 (λ_=>1) st=1 :=
 DW H (λ_=>1) (λ_ _=>1) (λst _=>rfl) (λk st a b=>EF) ms.length 0 st Oo h
theorem ZM(H:oJ ms){st:SS}(h:zD ms 0 st)(hw:st.2.2=false){N:Nat}(hN:qG ms<=N) :
  let vW:=qM (ms.map (·.t)) 0 (pK (ms.map (·.t)) pl aW 0 N) st
  let vA:=qM (ms.map (·.t)) 0 (pK (ms.map (·.t)) pl aA 0 N) st
  let vL:=qM (ms.map (·.t)) 0 (pK (ms.map (·.t)) pl (λ_=>0) 1 N) st
  (vW<=zI ms.length (GN ms 0) st/\vA<=1/\vL<=zJ ms.length (GO ms 0) st)/\((∀cs,pl cs≠some (-1))->vW=zI ms.length (GN ms 0) st/\vA=1/\vL=zJ ms.length (GO ms 0) st):=by
 dsimp only;rw [<-aD8 H h,<-aD9 H h];have n:(1:Rat)=qM (ms.map (·.t)) 0 (λ_=>1) st:=(aEa H h).symm;have le:=λg j l=>UU H g j l ms.length 0 st Oo h;have z:(ms.map (·.t)).drop 0=ms.map (·.t):=rfl;rw [z] at le;have d:∀g j:SS->Rat,(∀st,zD ms ms.length st->g st=j st)->qM (ms.map (·.t)) 0 g st=qM (ms.map (·.t)) 0 j st:=λg j l=>by
  have a:=le g j λst c=>by rw [l st c];exact Rat.le_refl
  have b:=le j g λst c=>by rw [l st c];exact Rat.le_refl
  grind
 refine ⟨⟨le _ _ λs c=>?_,?_,le _ _ λs c=>?_⟩,λm=>⟨d _ _ λs c=>?_,?_,d _ _ λs c=>?_⟩⟩
 ·exact BZ H _ aW 0 (λs ok _=>(RK H ok).1) (λs i ok e=>FY H ok e) N s (c.ok H) Oo
 ·rw [n];exact le _ _ λs c=>BZ H (λ_=>1) aA 0 (λs ok _=>RN.1) (λs i ok e=>aDS H ok e) N s (c.ok H) Oo
 ·exact BZ H _ (λ_=>0) 1 (λs ok _=>(RM H ok).1) (λs i ok e=>FZ H ok e) N s (c.ok H) Oo
 ·exact CA H _ aW 0 (λs ok e=>(RK H ok).2 ((uY e).resolve_right (m _))) (λs i ok e=>FY H ok e) N s (c.ok H) Oo
 ·rw [n];exact d _ _ λs c=>CA H (λ_=>1) aA 0 (λs ok e=>RN.2 ((uY e).resolve_right (m _))) (λs i ok e=>aDS H ok e) N s (c.ok H) Oo
 ·exact CA H _ (λ_=>0) 1 (λs ok e=>(RM H ok).2 ((uY e).resolve_right (m _))) (λs i ok e=>FZ H ok e) N s (c.ok H) Oo
end
end Mf
namespace Kw
open PySem L2 Mf
def top(i:Nat):Stmt:=PySem.Challenge.pw_earlystop_k77_whole_side_by_side.main.body.getD i (.Pass ⟨0,0,0,0⟩)
structure Cl where
 ONE:Addr
 NOUGHT:Addr
 tok_LOOKS_ON:Tok
 tok_BREAK_OFF:Tok
structure lC(K:KFr)(mg:Str->Option Value)(c:Cl):Prop where
 b_list:mg "list" = none
 b_len:mg "len" = none
 b_abs:mg "abs" = none
 b_range:mg "range" = none
 b_sum:mg "sum" = none
 b_int:mg "int" = none
 b_sorted:mg "sorted" = none
 b_dict:mg "dict" = none
 b_isinstance:mg "isinstance" = none
 b_tuple:mg "tuple" = none
 b_zip:mg "zip" = none
 b_repr:mg "repr" = none
 b_enumerate:mg "enumerate" = none
 g_ONE:mg "ONE" = some (.ref c.ONE)
 g_NOUGHT:mg "NOUGHT" = some (.ref c.NOUGHT)
 g_LOOKS_ON:mg "LOOKS_ON" = some (.int 0 c.tok_LOOKS_ON)
 g_BREAK_OFF:mg "BREAK_OFF" = some (.int (-1) c.tok_BREAK_OFF)
 o_ONE:qJ K c.ONE [1,1]=true
 o_NOUGHT:qJ K c.NOUGHT [0,1]=true
abbrev sQ6:Stmt:=(top 50)
theorem cQ6:cI ["_law_n","_law_d","_law_one","_law_other"] ["_law_n","_law_d"] (bB sQ6):=⟨rfl,rfl,rfl,Kk,rfl,Kk,Kk⟩
abbrev sQ3:Stmt:=(top 48)
theorem cQ3:cI ["_law_script"] ["_law_script"] (bB sQ3):=⟨rfl,rfl,rfl,Kk,rfl,Kk,Kk⟩
abbrev sQ2:Stmt:=(top 49)
theorem cQ2:cI ["_law_feed_here","_law_many","_law_found","_law_cell","_law_stirred"] ["_law_feed_here","_law_many"] (bB sQ2):=⟨rfl,rfl,rfl,Kk,rfl,Kk,Kk⟩
abbrev OG:Stmt:=(top 51)
theorem aAr:cI ["_law_feed_here","_law_many","_law_most","_law_parts"] ["_law_feed_here","_law_many"] (bB OG):=⟨rfl,rfl,rfl,Kk,rfl,Kk,Kk⟩
abbrev YA:Stmt:=(top 52)
theorem PV:cI ["_law_feed_here","_law_pool","_law_turn","_law_faces","_law_ways"] ["_law_feed_here"] (bB YA):=⟨rfl,rfl,rfl,Kk,rfl,Kk,Kk⟩
abbrev fO(f:Fr):PyData:=.tuple [.int f.1,.int f.2]
theorem DX{H:Hp}{f:Fr}{v:V}(h:cE H (fO f) v):∃a,v=.ref a/\H a=some (.tup [.int f.1,.int f.2]):=by
 unfold cE bG bG bG at h;obtain ⟨a,_,rfl,d,x,_,rfl,b,y,_,rfl,c,rfl⟩:=h;cases (show x=V.int f.1 from b);cases (show y=V.int f.2 from c);exact ⟨a,rfl,d⟩
theorem fU{H:Hp}{f:Fr}{a:Addr}(h:H a=some (.tup [.int f.1,.int f.2])):cE H (fO f) (.ref a):=cE.tup h (bG.cons (cE.int _) (bG.cons (cE.int _) bG.nil))
theorem fV(f:Fr):eP (fO f)=true:=rfl
def gI(K:KFr)(H:Hp)(f:Fr)(x:V):Prop:=∃a,x=.ref a/\fN K H a [.int f.1,.int f.2]
theorem gI.of{K:KFr}{H:Hp}{f:Fr}{x:V}(h:cE H (fO f) x):gI K H f x:=by
 obtain ⟨a,e,h⟩:=DX h;exact ⟨a,e,fN.of h⟩
theorem gI.new{K:KFr}{H:Hp}{f:Fr}{a:Addr}(h:H a=some (.tup [.int f.1,.int f.2])):gI K H f (.ref a):=⟨a,rfl,fN.of h⟩
theorem gI.same{K:KFr}{H H':Hp}{f:Fr}{x:V}(s:bA H H')(h:gI K H f x):gI K H' f x:=by
 obtain ⟨a,e,h⟩:=h;exact ⟨a,e,h.keep s⟩
def kK(k:Nat)(f:Fr):Prop:=f.1.natAbs<2^k/\f.2.natAbs<2^k
@[irreducible] def AE:Sp:=λvs H Q _=>∃n d:Int,vs=[.int n,.int d]/\0<d/\Q (.int (Int.gcd n d)) H
theorem wQ{H:Hp}{Q:VK}{E:XK}{n d:Int}(h:0<d)(q:Q (.int (Int.gcd n d)) H):AE [.int n,.int d] H Q E:=by unfold AE;exact ⟨n,d,rfl,h,q⟩
def sE(H:Hp)(Q:VK)(f:Fr):Prop:=∀q H',H q=none->H' q=some (.tup [.int f.1,.int f.2])->bA H H'->Q (.ref q) H'
@[irreducible] def lH(K:KFr):Sp:=λvs H Q _=>∃x y f g,vs=[x,y]/\gI K H f x/\gI K H g y/\dN f/\dN g/\kK 4000 f/\kK 4000 g/\sE H Q (pC f g)
theorem nP{K:KFr}{H:Hp}{Q:VK}{E:XK}{x y:V}{f g:Fr}(h1:gI K H f x)(h2:gI K H g y)(l1:dN f)(l2:dN g)(z1:kK 4000 f)(z2:kK 4000 g)(q:sE H Q (pC f g)):lH K [x,y] H Q E:=by unfold lH;exact ⟨x,y,f,g,rfl,h1,h2,l1,l2,z1,z2,q⟩
@[irreducible] def lI(K:KFr):Sp:=λvs H Q _=>∃x y f g,vs=[x,y]/\gI K H f x/\gI K H g y/\kK 4000 f/\kK 4000 g/\Q (.bl (decide (f.1*g.2<g.1*f.2))) H
theorem AC{K:KFr}{H:Hp}{Q:VK}{E:XK}{x y:V}{f g:Fr}(h1:gI K H f x)(h2:gI K H g y)(z1:kK 4000 f)(z2:kK 4000 g)(q:Q (.bl (decide (f.1*g.2<g.1*f.2))) H):lI K [x,y] H Q E:=by unfold lI;exact ⟨x,y,f,g,rfl,h1,h2,z1,z2,q⟩
@[irreducible] def mE:Sp:=λvs H Q _=>∃n d:Int,vs=[.int n,.int d]/\0<d/\d.natAbs<2^9000/\sE H Q (lw n d)
theorem nR{H:Hp}{Q:VK}{E:XK}{n d:Int}(h:0<d)(z:d.natAbs<2^9000)(q:sE H Q (lw n d)):mE [.int n,.int d] H Q E:=by unfold mE;exact ⟨n,d,rfl,h,z,q⟩
theorem aCK{n d:Int}(h:0<d):(Int.gcd n d:Int)<=d:=Int.le_of_dvd h (Int.gcd_dvd_right n d)
theorem yQ{n d:Int}{k:Nat}(h:0<d)(z:d.natAbs<2^k):(Int.gcd n d:Int).natAbs<2^k:=by
 have:=aCK (n:=n) h;have:=jD (n:=n) h;omega
theorem tO{n d:Int}(h:0<d)(z:d.natAbs<2^9000):WK n d:=⟨h,yZ z⟩
theorem kO{i:Int}{n m:Nat}(h:i.natAbs<2^n)(k:n<=m:=by decide):i.natAbs<2^m:=bH h (bD Dd k)
theorem sB{i j:Int}{n:Nat}(h:i.natAbs<2^n)(hj:0<j):(i/j).natAbs<2^n:=aY (by
 have:=Int.natAbs_ediv_le_natAbs i j;exact this) h
theorem CH{i j:Int}{n m:Nat}(h1:i.natAbs<2^n)(h2:j.natAbs<2^m):(i*j).natAbs<2^(n+m):=by
 rw [gZ,Nat.pow_add];exact Nat.mul_lt_mul'' h1 h2
abbrev vU(fs:List Fr):PyData:=.tuple (fs.map fO)
theorem tM:∀fs:List Fr,dU (fs.map fO)=true
 | []=>rfl
 | f::fs=>by show (eP (fO f)&&dU (fs.map fO))=true;rw [tM fs];rfl
theorem mJ(fs:List Fr):eP (vU fs)=true:=tM fs
section
theorem oQ6(F:jP K "_law_low" "_law_low" sQ6 f fd)(T:lC K mg c):eT P w K mg base dY 1 f fd ["_law_n","_law_d"] mE:=by
 refine F.oky cQ6 λN H Q E h=>?_;unfold mE at h;obtain ⟨n,d,rfl,hd,L,q⟩:=h;refine ⟨rfl,λz A x s M=>?_⟩;refine ⟨_,(aS (QR (i:=2) (j:=3) rfl cQ6.nd rfl rfl Dd rfl rfl (aP (gK JR (by rfl) T.b_abs Kk (aP (aL 0) aJ)) (aP (aL 1) aJ)) rfl)
  (aS (sG PassesOwn.never (gJ aAU (aL 3) aM (nomark _)) (bJ (QR (i:=2) (j:=3) rfl cQ6.nd rfl rfl Dd rfl rfl (aP (aL 3) (aP (cN mY (aL 2) (aL 3)) aJ)) rfl)))
  (bJ (cP (eO (aP (cN iH (aL 0) (aL 2)) (aP (cN iH (aL 1) (aL 2)) aJ))))))),?_⟩
 refine ⟨_,rfl,raI ?_⟩;refine ⟨_,rfl,⟨_,_,rfl,?_⟩⟩;refine wN (λm σ H'=>∃(u v:Int),σ=[some (.int n),some (.int d),some (.int u),some (.int v)]/\0<=v/\Int.gcd u v=Int.gcd n d/\(v=0->0<u)/\H'=H/\m=v.toNat)
  (λσ H'=>σ=[some (.int n),some (.int d),some (.int (Int.gcd n d)),some (.int 0)]/\H'=H)
  _ ⟨(n.natAbs:Int),d,rfl,Oo,by rw [Int.gcd_eq_natAbs_gcd_natAbs,Int.gcd_eq_natAbs_gcd_natAbs,Int.natAbs_natCast],Oo,rfl,rfl⟩ ?_ ?_
 ·rintro m σ H2 ⟨u,v,rfl,I,l,G,rfl,rfl⟩;refine ⟨_,rfl,rfl,_,rfl,aAZ (λe=>?_) (λe=>?_)⟩
  ·have a:0<v:=by
    rcases Int.lt_or_eq_of_le I with h | h
    ·exact h
    ·exact absurd (congrArg V.int h.symm) e
   refine ⟨_,rfl,_,rfl,_,rfl,_,_,rfl,rfl,a,_,_,rfl,?_⟩;have o:=Int.emod_lt_of_pos u a;have B:=Int.emod_nonneg u (b:=v) Oo;exact ⟨_,Oo,v,u % v,rfl,B,by rw [GM,l],λ_=>a,rfl,rfl⟩
  ·have r:v=0:=by injection e
   subst r;have J:=G rfl;have o:=MJ J;rw [l] at o;rw [o];exact ⟨rfl,rfl⟩
 ·rintro σ H2 ⟨rfl,rfl⟩;have l:=jD (n:=n) hd;have y:WK n (Int.gcd n d:Int):=tO l (yQ hd L);refine ⟨_,rfl,_,rfl,_,_,rfl,rfl,y,⟨_,rfl,_,rfl,_,_,rfl,rfl,y,?_⟩⟩;exact rK (by show 2<=64;decide) λp H3 D e3 C=>q p H3 D e3 C
end
theorem qC{H:Hp}{fs:List Fr}{v:V}(h:cE H (vU fs) v):∃a xs,v=.ref a/\H a=some (.tup xs)/\bG H (fs.map fO) xs:=by
 unfold cE at h;exact h
abbrev wD(w:Str × List Fr):PyData:=.tuple [.str w.1,vU w.2]
abbrev xG(fs:List Str)(ws:List (Str × List Fr)):PyData:=.tuple [.tuple (fs.map .str),.tuple (ws.map wD)]
theorem zZ:∀fs:List Str,dU (fs.map PyData.str)=true
 | []=>rfl
 | f::fs=>by show (eP (.str f)&&dU (fs.map PyData.str))=true;rw [zZ fs];rfl
theorem KI(w:Str × List Fr):eP (wD w)=true:=by
 show (eP (.str w.1)&&(eP (vU w.2)&&true))=true;rw [mJ];rfl
theorem KD:∀ws:List (Str × List Fr),dU (ws.map wD)=true
 | []=>rfl
 | w::ws=>by show (eP (wD w)&&dU (ws.map wD))=true;rw [KI w,KD ws];rfl
theorem pL(fs:List Str)(ws:List (Str × List Fr)):eP (xG fs ws)=true:=by
 show (eP (.tuple (fs.map .str))&&(eP (.tuple (ws.map wD))&&true))=true;rw [show eP (.tuple (fs.map PyData.str))=dU (fs.map PyData.str) from rfl,zZ,show eP (.tuple (ws.map wD))=dU (ws.map wD) from rfl,KD];rfl
theorem BM{H:Hp}:∀fs:List Str,bG H (fs.map PyData.str) (fs.map V.str)
 | []=>bG.nil
 | f::fs=>bG.cons (cE.str f) (BM fs)
theorem eU{H:Hp}{ds:List PyData}{v:V}(h:cE H (.tuple ds) v):∃a xs,v=.ref a/\H a=some (.tup xs)/\bG H ds xs:=by unfold cE at h;exact h
theorem iL{H:Hp}{d e:PyData}{xs:List V}(h:bG H [d,e] xs):∃x y,xs=[x,y]/\cE H d x/\cE H e y:=by
 unfold bG bG bG at h;obtain ⟨x,_,rfl,b,y,_,rfl,a,rfl⟩:=h;exact ⟨x,y,rfl,b,a⟩
theorem dS{α:Type}{H:Hp}{g:α->PyData}{fs:List α}{vs:List V}(h:bG H (fs.map g) vs){i:Nat}{v:V}(e:vs[i]?=some v):∃f,fs[i]?=some f/\cE H (g f) v:=by
 obtain ⟨d,a,b⟩:=h.get e;rw [aI] at a;cases q:fs[i]? with
 | none=>rw [q] at a;cases a
 | some f=>rw [q] at a;cases a;exact ⟨f,rfl,b⟩
theorem gP{α:Type}{H:Hp}{g:α->PyData}{fs:List α}{vs:List V}(h:bG H (fs.map g) vs){i:Nat}{f:α}(e:fs[i]?=some f):∃v,vs[i]?=some v/\cE H (g f) v :=
 h.get' (by rw [aI,e];rfl)
theorem dR{α:Type}{H:Hp}{g:α->PyData}{fs:List α}{vs:List V}(h:bG H (fs.map g) vs):vs.length=fs.length:=by rw [h.len,aB]
theorem eS{α:Type}{l:List α}{i:Nat}{x:α}(h:l[i]?=some x):l.take (i+1)=l.take i++[x]:=by
 rw [iD,h];rfl
structure cK(H:Hp)(p L:Addr):Prop where
 ex:∃(ns:List Int) (i r k:Int),H p=some (.lst [.ref L,.int i,.int r,.int k])/\H L=some (.lst (ns.map V.int))/\0<=i/\0<=r/\0<=k/\k<=ns.length/\ns.length<=63/\L≠p
theorem cK.there{H:Hp}{p L:Addr}(F:cK H p L):∃o,H p=some o:=by obtain ⟨a,i,r,k,h,_⟩:=F.ex;exact ⟨_,h⟩
theorem cK.lst{H:Hp}{p L:Addr}(F:cK H p L):∃xs,H p=some (.lst xs):=by obtain ⟨a,i,r,k,h,_⟩:=F.ex;exact ⟨_,h⟩
theorem cK.ne{H:Hp}{p L q:Addr}(F:cK H p L)(hq:H q=none):q≠p:=λe=>by
 subst e;obtain ⟨o,h⟩:=F.there;rw [h] at hq;cases hq
theorem cK.neL{H:Hp}{p L q:Addr}(F:cK H p L)(hq:H q=none):q≠L:=λe=>by
 subst e;obtain ⟨b,i,r,k,h,a,_⟩:=F.ex;rw [a] at hq;cases hq
@[irreducible] def sT(K:KFr):Sp:=λvs H Q _=>∃(a:Addr) (ns:List Int),vs=[.ref a]/\fY K H a (ns.map V.int)/\ns.length<=63/\∀p L H',cK H' p L->bA H H'->H p=none->H L=none->Q (.ref p) H'
@[irreducible] def jT:Sp:=λvs H Q _=>∃(p L:Addr) (m:Int),vs=[.ref p,.int m]/\cK H p L/\0<m/\bits m<=9000/\∀x H',0<=x->x<m->cK H' p L->aU p H H'->Q (.int x) H'
theorem dA{H:Hp}{Q:VK}{E:XK}{p L:Addr}{m:Int}(F:cK H p L)(h:0<m)(hb:bits m<=9000)(k:∀x H',0<=x->x<m->cK H' p L->aU p H H'->Q (.int x) H'):jT [.ref p,.int m] H Q E:=by
 unfold jT;exact ⟨p,L,m,rfl,F,h,hb,k⟩
theorem bitsle{i:Int}{n:Nat}(h:i.natAbs<2^n):bits i<=n:=PySem.intBits_le_iff.mpr h
theorem cK.same{H H':Hp}{p L:Addr}(F:cK H p L)(s:bA H H'):cK H' p L:=by
 obtain ⟨b,i,r,k,d,a,c⟩:=F.ex;exact ⟨b,i,r,k,s _ _ d,s _ _ a,c⟩
theorem cK.but{H H':Hp}{p L D:Addr}(F:cK H p L)(s:aU D H H')(n1:D≠p)(n2:D≠L):cK H' p L:=by
 obtain ⟨b,i,r,k,d,a,c⟩:=F.ex;exact ⟨b,i,r,k,s.at (Ne.symm n1) d,s.at (Ne.symm n2) a,c⟩
theorem OC{K:KFr}{H:Hp}{Q:VK}{E:XK}{a:Addr}{ns:List Int}(h:fY K H a (ns.map V.int))(hl:ns.length<=63)(k:∀p L H',cK H' p L->bA H H'->H p=none->H L=none->Q (.ref p) H'):sT K [.ref a] H Q E:=by
 unfold sT;exact ⟨a,ns,rfl,h,hl,k⟩
@[irreducible] def uK(K:KFr):Sp:=λvs H Q _=>∃(a:Addr) (ns:List Int),vs=[.ref a]/\fY K H a (ns.map V.int)/\ns.length<=63/\∀H',Q (.bl true) H'
theorem SB{K:KFr}{H:Hp}{a:Addr}{ns:List Int}(h:fY K H a (ns.map V.int))(hl:ns.length<=63):uK K [.ref a] H (λv _=>v=.bl true) (λ_ _ _=>False):=by
 unfold uK;exact ⟨a,ns,rfl,h,hl,λ_=>rfl⟩
section
theorem oQ3(F:jP K "_law_feed" "_law_feed" sQ3 f fd)(T:lC K mg c):eT P w K mg base dY 1 f fd ["_law_script"] (sT K):=by
 refine F.oky cQ3 λG H Q E h=>?_;unfold sT at h;obtain ⟨a,b,rfl,B,y,k⟩:=h;refine ⟨rfl,λx A n s D=>?_⟩;refine ⟨_,(bJ (cP (fC (aP (jK tR (by rfl) T.b_list Kk (aP (hJ KZ (aL 0) jA (iZ aM)) aJ)) (aP aM (aP aM (aP aM aJ))))))),⟨_,rfl,_,rfl,a,_,rfl,B,λr p=>?_⟩⟩;refine ⟨r,_,rfl,.inl (fY.of bL),λi d=>?_⟩;refine uU (by show 4<=64;decide) λu H3 o e3 l=>?_;have C:i≠r:=λe=>by subst e;rw [bL] at d;cases d
 have z:rN (b.map V.int) none (some 63)=b.map V.int:=by
  unfold rN;have:HT.iV (b.map V.int).length (b.map V.int).length (some 63)=(b.map V.int).length:=by
   rw [show ((63:Int))=((63:Nat):Int) from rfl,HT.CU,aB];omega
  rw [this,HT.xU,List.drop_zero,Nat.sub_zero];exact List.take_of_length_le (aE _)
 have j:=l;rw [z] at l;have m:=l i _ bL;refine k u i H3 ⟨b,0,0,0,e3,m,Int.le_refl _,Int.le_refl _,Int.le_refl _,Oo,y,λe=>?_⟩ (((bA.upd p).trans (bA.upd d)).trans j) ?_ ?_
 ·subst e;rw [bL] at o;cases o
 ·exact ((bA.upd p).trans (bA.upd d)).free o
 ·exact (bA.upd p).free d
theorem oQ2(F:jP K "_law_draw" "_law_draw" sQ2 f fd)(T:lC K mg c):eT P w K mg base dY 1 f fd ["_law_feed_here","_law_many"] jT:=by
 refine F.oky cQ2 λξ H Q E h=>?_;unfold jT at h;obtain ⟨p,L,m,rfl,F,O,η,k⟩:=h;refine ⟨rfl,λδ A Y s ι=>?_⟩;obtain ⟨e,i,r,j,U,β,ρ,D,C,J,γ,o⟩:=F.ex;refine ⟨_,(aS (pH (cN fL (bR bK (aL 0) aM (λ_ _=>rfl)) aM) (pI (aL 0) aM kS))
  (aS (sG PassesOwn.never (QP (QO (gJ AO (bR bK (aL 0) aM (λ_ _=>rfl)) aM (nomark _)) (KC (gJ aAV (bR bK (aL 0) aM (λ_ _=>rfl)) (gK jI (by rfl) T.b_len Kk (aP (bR bK (aL 0) aM (λ_ _=>rfl)) aJ)) (nomark _))))) (aS (xA (lV (gJ aD0 (gK JR (by rfl) T.b_abs Kk (aP (bR bK (bR bK (aL 0) aM (λ_ _=>rfl)) (bR bK (aL 0) aM (λ_ _=>rfl)) (λ_ _=>rfl)) aJ)) (cN aCj aM aM) (nomark _)) (bJ (pH (gK JR (by rfl) T.b_abs Kk (aP (bR bK (bR bK (aL 0) aM (λ_ _=>rfl)) (bR bK (aL 0) aM (λ_ _=>rfl)) (λ_ _=>rfl)) aJ)) (pI (aL 0) aM kS))) iA))
  (bJ (pH (cN fL (bR bK (aL 0) aM (λ_ _=>rfl)) aM) (pI (aL 0) aM kS)))))
  (aS (lV (gJ AN (bR bK (aL 0) aM (λ_ _=>rfl)) aM (nomark _)) (aS (bS (i:=2) cQ2.nd rfl (Or.inl rfl) (cN mY (bR bK (aL 0) aM (λ_ _=>rfl)) (aL 1)))
  (aS (pH (cN iH (bR bK (aL 0) aM (λ_ _=>rfl)) (aL 1)) (pI (aL 0) aM kS))
  (bJ (cP (aL 2))))) iA)
  (aS (bS (i:=3) cQ2.nd rfl (Or.inl rfl) aM)
  (aS (xA (lV (gJ AN (gK jI (by rfl) T.b_len Kk (aP (bR bK (aL 0) aM (λ_ _=>rfl)) aJ)) aM (nomark _)) (bJ (bS (i:=3) cQ2.nd rfl (Or.inl rfl) (bR bK (bR bK (aL 0) aM (λ_ _=>rfl)) (cN mY (bR bK (aL 0) aM (λ_ _=>rfl)) (gK jI (by rfl) T.b_len Kk (aP (bR bK (aL 0) aM (λ_ _=>rfl)) aJ))) (λ_ _=>rfl)))) iA))
  (aS (bS (i:=4) cQ2.nd rfl (Or.inl rfl) (cN mY (cN fL (cN fL (cN fE (cN mY (aL 3) aM) aM) (cN fE aM (bR bK (aL 0) aM (λ_ _=>rfl)))) aM) aM))
  (aS (bS (i:=4) cQ2.nd rfl (Or.inl rfl) (cN mY (cN fE (aL 4) (cN fL (aL 4) aM)) aM))
  (bJ (cP (cN mY (cN mY (cN fE (aL 4) aM) aM) (aL 1))))))))))),?_⟩
 refine ⟨_,rfl,nZ U rfl ?_⟩;refine ⟨_,_,rfl,rfl,⟨_,rfl,?_⟩⟩;refine XJ U rfl λH1 G α=>?_;have N:H1 p=some (.lst [.ref L,.int (i+1),.int r,.int j]):=G;clear G;refine wN (λn σ H'=>∃r j:Int,σ=[some (.ref p),some (.int m),none,none,none]/\H' p=some (.lst [.ref L,.int (i+1),.int r,.int j])/\0<=r/\0<=j/\j<=e.length/\aU p H H'/\n=((e.length:Int)-j).toNat)
  (λσ H'=>∃r j:Int,σ=[some (.ref p),some (.int m),none,none,none]/\H' p=some (.lst [.ref L,.int (i+1),.int r,.int j])/\0<=r/\0<=j/\j<=e.length/\aU p H H')
  _ ⟨r,j,rfl,N,D,C,J,α,rfl⟩ ?_ ?_
 all_goals clear U D C J N α
 ·rintro n σ H2 ⟨r,j,rfl,a,D,C,J,B,rfl⟩;have d:=B.at o β;refine ⟨_,rfl,nZ a rfl ?_⟩;refine ⟨rfl,_,rfl,yM (λZ=>?_) (λZ=>?_)⟩
  ·refine ⟨_,rfl,nZ a rfl ?_⟩;refine ⟨_,rfl,nZ a rfl ?_⟩;refine YC d ⟨_,_,rfl,rfl,_,rfl,yM (λI=>?_) (λI=>?_)⟩
   ·rw [aB] at I;have W:∃z,e[j.toNat]?=some z:=⟨_,aC Oo⟩;obtain ⟨z,M⟩:=W;have x:HR (e.map V.int) j=some (.int z):=by
     have:=dM (xs:=e.map V.int) (j:=j.toNat) (v:=V.int z) (by rw [aI,M];rfl)
     rwa [Int.toNat_of_nonneg C] at this
    refine ⟨_,λ_ _ h=>h,?_⟩;refine ⟨_,rfl,nZ a rfl ?_⟩;refine ⟨_,rfl,nZ a rfl ?_⟩;refine nZ d x (raI ?_);refine ⟨_,_,rfl,rfl,⟨Dd,Dd,Dd⟩,_,_,rfl,rfl,_,rfl,yM (λε=>?_) (λε=>?_)⟩
    ·refine ⟨_,rfl,nZ a rfl ?_⟩;refine ⟨_,rfl,nZ a rfl ?_⟩;refine nZ d x (raI ?_);refine ⟨_,rfl,?_⟩;refine XJ a rfl λH3 R S=>?_;have u:H3 p=some (.lst [.ref L,.int (i+1),.int (z.natAbs:Int),.int j]):=R;refine ⟨_,rfl,nZ u rfl ?_⟩;refine ⟨_,_,rfl,rfl,⟨_,rfl,?_⟩⟩;exact XJ u rfl λH4 l X=>⟨_,Oo,_,j+1,rfl,l,Oo,Oo,Oo,(B.trans S).trans X,rfl⟩
    ·refine ⟨_,rfl,nZ a rfl ?_⟩;refine ⟨_,_,rfl,rfl,⟨_,rfl,?_⟩⟩;exact XJ a rfl λH4 l X=>⟨_,Oo,_,j+1,rfl,l,D,Oo,Oo,B.trans X,rfl⟩
   ·rw [aB] at I;exact ⟨r,j,rfl,a,D,C,J,B⟩
  ·exact sD ⟨r,j,rfl,a,D,C,J,B⟩
 ·rintro σ H2 ⟨r,j,rfl,a,D,C,J,B⟩;have d:=B.at o β;refine ⟨_,rfl,nZ a rfl ?_⟩;refine ⟨_,_,rfl,rfl,_,rfl,yM (λZ=>?_) (λZ=>?_)⟩
  ·refine ⟨_,rfl,nZ a rfl ?_⟩;refine ⟨_,rfl,_,_,rfl,rfl,O,⟨_,rfl,nZ a rfl ?_⟩⟩;refine ⟨_,rfl,_,_,rfl,rfl,⟨O,η⟩,⟨_,rfl,?_⟩⟩;refine XJ a rfl λH3 u S=>⟨_,rfl,?_⟩;exact k _ H3 (Int.emod_nonneg _ Oo) (Int.emod_lt_of_pos _ O) ⟨e,i+1,r/m,j,u,S.at o d,Oo,Int.ediv_nonneg D Oo,C,J,γ,o⟩ (B.trans S)
  ·refine ⟨λσ H3=>∃c:Int,σ=[some (.ref p),some (.int m),none,some (.int c),none]/\H3=H2,?_,?_⟩
   ·rintro σ H3 ⟨c,rfl,rfl⟩;have κ:=Int.emod_nonneg c (b:=2147483647) Dd;have ζ:=Int.emod_lt_of_pos c (b:=2147483647) Dd;refine ⟨_,rfl,_,_,rfl,rfl,(by show (0:Int)<2147483647;decide),_,_,rfl,rfl,IntMulOk.of_right Kk,⟨_,rfl,nZ a rfl ?_⟩⟩;refine ⟨_,_,rfl,rfl,IntMulOk.of_left Kk,_,_,rfl,rfl,_,_,rfl,rfl,_,_,rfl,rfl,(by show (0:Int)<2147483629;decide),?_⟩;generalize M:(c % 2147483647*48271+7919*(i+1)+12345) % 2147483629=z;have υ:0<=z:=by rw [<-M];exact Int.emod_nonneg _ Dd
    have ν:z<2147483629:=by rw [<-M];exact Int.emod_lt_of_pos _ Dd
    refine ⟨_,rfl,_,rfl,_,_,rfl,rfl,_,_,rfl,rfl,IntMulOk.of_left (PySem.intBits_le_64 Oo Oo),_,_,rfl,rfl,(by show (0:Int)<2147483587;decide),?_⟩;generalize hy:z*(z+40692) % 2147483587=y;have ο:0<=y:=by rw [<-hy];exact Int.emod_nonneg _ Dd
    have μ:y<2147483587:=by rw [<-hy];exact Int.emod_lt_of_pos _ Dd
    exact ⟨_,rfl,_,_,rfl,rfl,IntMulOk.of_left (PySem.intBits_le_64 Oo Oo),_,_,rfl,rfl,(by show (0:Int)<2147483563;decide),⟨_,rfl,_,_,rfl,rfl,O,k _ H3 (Int.emod_nonneg _ Oo) (Int.emod_lt_of_pos _ O) ⟨e,i+1,r,j,a,d,Oo,D,C,J,γ,o⟩ B⟩⟩
   ·refine ⟨_,rfl,nZ a rfl ?_⟩;refine YC d ⟨_,_,rfl,rfl,_,rfl,yM (λI=>?_) (λI=>?_)⟩
    ·rw [aB] at I;refine ⟨_,rfl,nZ a rfl ?_⟩;refine ⟨_,rfl,nZ a rfl ?_⟩;refine ⟨_,rfl,nZ a rfl ?_⟩;refine YC d ?_;rw [aB];refine ⟨_,_,rfl,rfl,I,?_⟩;have θ:=Int.emod_nonneg (i+1) (b:=(e.length:Int)) Oo;have τ:=Int.emod_lt_of_pos (i+1) I;have W:∃z,e[((i+1) % (e.length:Int)).toNat]?=some z:=⟨_,aC Oo⟩;obtain ⟨z,M⟩:=W;have x:HR (e.map V.int) ((i+1) % (e.length:Int))=some (.int z):=by
      have:=dM (xs:=e.map V.int) (j:=((i+1) % (e.length:Int)).toNat) (v:=V.int z) (by rw [aI,M];rfl)
      rwa [Int.toNat_of_nonneg θ] at this
     exact nZ d x ⟨z,rfl,rfl⟩
    ·exact ⟨0,rfl,rfl⟩
end
structure JW(n:Nat)(fs:List Fr):Prop where
 len:fs.length=n
 low:∀f∈fs,dN f
 pos:∀f∈fs,0<=f.1
 le:∀f∈fs,f.1<=f.2
 dn:∀f∈fs,f.2<=1000
 one:pM fs=(1,1)
def pool:List Str:=["a","ab","ways","onto","abc","sayer","ruler","b","prices","worthy","nones","zzzzzzzz"]
def rot(t:Nat):List Str:=pool.drop t++pool.take t
structure wK(t o F W:Nat)(fs:List Str)(ws:List (Str × List Fr)):Prop where
 ht:t<12
 ho:o=0\/o=2\/o=5
 hF:F=2\/F=3\/F=4
 hW:W=2\/W=3\/W=4
 hfs:fs=(rot t).take F
 hns:ws.map (·.1)=((rot t).drop o).take W
 sh:∀w∈ws,JW F w.2
theorem CY{t:Nat}(h:t<12):(rot t).length=12:=by
 unfold rot;rw [aV,List.length_drop,cB];show 12-t+min t 12=12;omega
theorem wK.lenF{t o F W:Nat}{fs:List Str}{ws:List (Str × List Fr)}(h:wK t o F W fs ws):fs.length=F:=by
 rw [h.hfs,cB,CY h.ht];have:=h.hF;omega
theorem wK.lenW{t o F W:Nat}{fs:List Str}{ws:List (Str × List Fr)}(h:wK t o F W fs ws):ws.length=W:=by
 have e:=congrArg List.length h.hns;rw [aB,cB,List.length_drop,CY h.ht] at e;have:=h.hW;have:=h.ho;omega
theorem cK.like(p L:Addr):qP p L (λH=>cK H p L) :=
 ⟨λD H1 H2 b a s F=>F.but s b a,λH1 H2 s F=>F.same s,λH' F=>F.lst,λH' D F h=>⟨F.ne h,F.neL h⟩⟩
theorem BO{H:Hp}:∀fs:List Int,bG H (fs.map PyData.int) (fs.map V.int)
 | []=>bG.nil
 | f::fs=>bG.cons (cE.int f) (BO fs)
@[irreducible] def nN:Sp:=λvs H Q _=>∃(p L:Addr) (m:Nat),vs=[.ref p,.int (m:Int)]/\cK H p L/\0<m/\m<=4/\∀v fs H',cK H' p L->aU p H H'->cE H' (vU fs) v->JW m fs->Q v H'
theorem FK{H:Hp}{Q:VK}{E:XK}{p L:Addr}{m:Nat}(F:cK H p L)(h0:0<m)(h1:m<=4)(k:∀v fs H',cK H' p L->aU p H H'->cE H' (vU fs) v->JW m fs->Q v H'):nN [.ref p,.int (m:Int)] H Q E:=by unfold nN;exact ⟨p,L,m,rfl,F,h0,h1,k⟩
@[irreducible] def pS:Sp:=λvs H Q _=>∃(p L:Addr),vs=[.ref p]/\cK H p L/\∀v t o F W fs ws H',cK H' p L->aU p H H'->cE H' (xG fs ws) v->wK t o F W fs ws->Q v H'
theorem IK{H:Hp}{Q:VK}{E:XK}{p L:Addr}(F:cK H p L)(k:∀v t o F W fs ws H',cK H' p L->aU p H H'->cE H' (xG fs ws) v->wK t o F W fs ws->Q v H'):pS [.ref p] H Q E:=by unfold pS;exact ⟨p,L,rfl,F,k⟩
theorem lX:∀{ns:List Int},(∀n∈ns,0<=n)->0<=ns.sum
 | [],_=>Dd
 | n::ns,h=>by
  have:=lX λm a=>h m (aG _ a);have:=h n (by simp);rw [List.sum_cons];omega
theorem oP{n:Int}:∀{ns:List Int},(∀n∈ns,0<=n)->n∈ns->n<=ns.sum
 | m::ns,h,hn=>by
  have h1:=lX λm a=>h m (aG _ a);have b:=h m (by simp);rw [List.sum_cons];rcases bE.mp hn with rfl | hn
  ·omega
  ·have:=oP (λm a=>h m (aG _ a)) hn;omega
theorem RX{B:Nat}:∀{ns:List Int},(∀n∈ns,n<=B)->ns.sum<=B*ns.length
 | [],_=>by simp
 | n::ns,h=>by
  have h1:=RX λm a=>h m (aG _ a);have b:=h n (by simp);rw [List.sum_cons,dB];have:(B:Int)*((ns.length+1:Nat):Int)=B*ns.length+B:=by rw [Int.natCast_add,Int.mul_add];simp
  omega
theorem UA{ns:List Int}(h0:∀n∈ns,0<=n)(h1:∀n∈ns,n<=200)(hp:∃n∈ns,0<n)(hl:ns.length<=4):0<ns.sum/\ns.sum<=800/\JW ns.length (ns.map λn=>lw n ns.sum):=by
 obtain ⟨n,j,l⟩:=hp;have r:=oP h0 j;have o:=RX (B:=200) h1;have e:0<ns.sum:=Oo;refine ⟨e,Oo,by rw [aB],λf h=>?_,λf h=>?_,λf h=>?_,λf h=>?_,?_⟩
 ·obtain ⟨m,i,rfl⟩:=aT.mp h;exact gQ e
 ·obtain ⟨m,i,rfl⟩:=aT.mp h;exact Int.ediv_nonneg (h0 m i) Oo
 ·obtain ⟨m,i,rfl⟩:=aT.mp h;have c:=kU (n:=m) (d:=ns.sum);have p:=(gQ (n:=m) e).pos;have b:=oP h0 i;refine Int.le_of_mul_le_mul_right (a:=ns.sum) ?_ e;rw [c,Int.mul_comm];exact Int.mul_le_mul_of_nonneg_left b Oo
 ·obtain ⟨m,i,rfl⟩:=aT.mp h;have:=(UE (n:=m) e).1;omega
 ·rw [NY e,aCw e]
section
theorem aFE(F:jP K "_law_shares" "_law_shares" OG f fd)(T:lC K mg c)
  (FQ2:fW dY P w K mg base 1 "_law_draw" ["_law_feed_here","_law_many"] jT) (FQ6:fW dY P w K mg base 1 "_law_low" ["_law_n","_law_d"] mE):eT P w K mg base dY 2 f fd ["_law_feed_here","_law_many"] nN:=by
 refine F.oky aAr λvs H Q E h=>?_;unfold nN at h;obtain ⟨p,L,m,rfl,F,m0,m4,k⟩:=h;refine ⟨rfl,λcdv A κ s G=>?_⟩;have bm:bits (m:Int)<=9000:=yZ (n:=9000) (bH (show (m:Int).natAbs<2^6 by show (m:Int).natAbs<64;omega) (bD Dd Dd));refine ⟨_,(aS (bS (i:=2) aAr.nd rfl (Or.inr rfl) (bR bK (fC (aP aM (aP aM (aP aM aJ)))) (bV FQ2 (G.mono Dd) (aP (aL 0) (aP aM aJ))) (λ_ _=>rfl)))
  (aS (bS (i:=3) aAr.nd rfl (Or.inr rfl) (gX (fM.of (psc:=bB OG) (N:=["_law_feed_here","_law_many","_law_most","_law_parts"]) (N':=["_law_k","_law_feed_here","_law_most"]) (js:=[0,2]) Kk rfl rfl rfl) (fQ rfl T.b_range (aP (aL 1) aJ)) (λ_ _ _ _=>eZ) (λ_ _ _ _=>(cN fE (bV FQ2 (G.mono Dd) (aP (aL 1) (aP (aL 2) aJ))) (bV FQ2 (G.mono Dd) (aP (aL 1) (aP aM aJ)))))))
  (aS (bS (i:=3) aAr.nd rfl (Or.inr rfl) (gX (fM.of (psc:=bB OG) (N:=["_law_feed_here","_law_many","_law_most","_law_parts"]) (N':=["_law_part","_law_most"]) (js:=[2]) Kk rfl rfl rfl) (fX (aL 3)) (λ_ _ _ _=>eZ) (λ_ _ _ _=>(cN mY (aL 0) (cN fL (aL 1) aM)))))
  (aS (pH (cN fL aM (bV FQ2 (G.mono Dd) (aP (aL 0) (aP (aL 2) aJ)))) (pI (aL 3) (bV FQ2 (G.mono Dd) (aP (aL 0) (aP (aL 1) aJ))) kS))
  (bJ (cP (jK dF (by rfl) T.b_tuple Kk (aP (gX (fM.of (psc:=bB OG) (N:=["_law_feed_here","_law_many","_law_most","_law_parts"]) (N':=["_law_part","_law_parts"]) (js:=[3]) Kk rfl rfl rfl) (fX (aL 3)) (λ_ _ _ _=>eZ) (λ_ _ _ _=>(bV FQ6 (G.mono Dd) (aP (aL 0) (aP (gK (NA K rfl) (by rfl) T.b_sum Kk (aP (aL 1) aJ)) aJ))))) aJ)))))))),?_⟩
 refine uU (by show 3<=64;decide) λq1 H1 ν e1 s1=>⟨_,rfl,?_⟩;refine dA (F.same s1) Dd Kk λx H2 x0 x1 F2 s2=>?_;obtain ⟨v,ε,j,_⟩:=wY (xs:=[V.int 6,V.int 6,V.int 200]) x0 x1;refine nZ (s2.at (F.ne ν) e1) ε ?_;have hv:∃M:Int,v=.int M/\0<M/\M<=200/\bits M<=9000:=by
  simp only [bE,List.not_mem_nil,or_false] at j;rcases j with rfl | rfl | rfl <;> exact ⟨_,rfl,Dd,Dd,Kk⟩
 obtain ⟨M,rfl,M0,M1,υ⟩:=hv;have S2:=s1.but.trans s2;refine ⟨_,rfl,_,rfl,Oo,Oo,VJ (cK.like p L) F2 (λ_ y _=>∃n,y=.int n/\0<=n) (λ_ _ _ _ _ h=>h) Oo (λi H' Q' C F' θ O=>?_) (λD z H3 hD r F3 s3 χ Z=>?_)⟩
 ·refine ⟨_,rfl,_,rfl,?_⟩;refine dA F' M0 υ λa H4 φ a1 F4 S=>⟨_,rfl,?_⟩;refine dA F4 Dd Kk λb H5 ζ b1 F5 U=>⟨_,_,rfl,rfl,IntMulOk.of_left (PySem.intBits_le_64 Oo Oo),?_⟩;exact O _ H5 F5 (S.trans U) ⟨_,rfl,Int.mul_nonneg φ ζ⟩
 ·obtain ⟨ns,rfl,W⟩:=tH (P:=λ_ n=>0<=n) Z;have npD:=F2.ne hD;refine ⟨_,rfl,D,rfl,⟨_,fY.of r⟩,vF (λ_ y _=>∃n,y=.int n/\0<=n/\n<=200) (λ_ _ _ _ _ h=>h) (by rw [χ];omega) r (λi x H' Q' d θ O=>?_) (λD2 z H4 B ι S J ρ=>?_)⟩
  ·rw [aI] at d;obtain ⟨n,R,rfl⟩:=(show ∃n,ns[i]?=some n/\V.int n=x by
    cases q:ns[i]? with
    | none=>rw [q] at d;cases d
    | some n=>rw [q] at d;cases d;exact ⟨n,rfl,rfl⟩)
   refine ⟨_,rfl,_,rfl,_,_,rfl,rfl,_,_,rfl,rfl,(by show 0<M+1;omega),?_⟩;have c0:=Int.emod_nonneg n (b:=M+1) Oo;have c1:=Int.emod_lt_of_pos n (b:=M+1) Oo;exact O _ H' (bA.refl _) ⟨_,rfl,c0,Oo⟩
  ·obtain ⟨I,rfl,hm⟩:=tH (P:=λ_ n=>0<=n/\n<=200) ρ;have F4:=F3.same S;have δ:I.length=m:=by
    rw [aB] at J χ;rw [aB] at J;omega
   have u:=F3.ne B;refine ⟨_,rfl,_,rfl,?_⟩;refine dA F4 M0 υ λa H5 φ a1 F5 U=>⟨_,_,rfl,rfl,?_⟩;refine ⟨_,rfl,_,rfl,_,rfl,?_⟩;refine dA F5 Oo bm λb H6 ζ b1 F6 ω=>?_;have ξ:=ω.at u (U.at u ι);have hj:MC (I.map V.int).length b=some b.toNat:=by
    unfold MC;rw [if_pos ζ,if_pos (by rw [aB];omega)]
   refine XJ ξ hj λH7 Y s7=>?_;rw [<-List.map_set] at Y;have η:=F3.neL B;have F7:=F6.but s7 u η;have hb:b.toNat<I.length:=Oo;obtain ⟨hS,hS8,μ⟩:=UA (ns:=I.set b.toNat (1+a))
    (λn W=>by
     rcases List.mem_or_eq_of_mem_set W with h | rfl
     ·obtain ⟨i,C⟩:=cU.mp h;exact (hm i n C).1
     ·omega)
    (λn W=>by
     rcases List.mem_or_eq_of_mem_set W with h | rfl
     ·obtain ⟨i,C⟩:=cU.mp h;exact (hm i n C).2
     ·omega)
    ⟨1+a,cU.mpr ⟨b.toNat,by rw [List.getElem?_set_self hb]⟩,Oo⟩ (by rw [List.length_set];omega)
   have lt:(I.set b.toNat (1+a)).length=m:=by rw [List.length_set];exact δ
   generalize I.set b.toNat (1+a)=e at *;have SF:aU p H H7:=by
    refine aU.thru ?_ (((S2.trans s3).trans S.but).trans (U.trans ω)) s7;exact aU.free (p:=p) (S2.trans s3) F3.there B
   refine ⟨_,rfl,D2,rfl,⟨_,fY.of Y⟩,vF (λi y H'=>∃n,e[i]?=some n/\cE H' (fO (lw n e.sum)) y) (λi y H1 H2 s ⟨n,β,ο⟩=>⟨n,β,ο.flat s (fV _)⟩) (by rw [aB];omega) Y (λi x H' Q' d θ O=>?_) (λD3 z H8 r τ ψ α γ=>?_)⟩
   ·rw [aI] at d;obtain ⟨n,R,rfl⟩:=(show ∃n,e[i]?=some n/\V.int n=x by
     cases q:e[i]? with
     | none=>rw [q] at d;cases d
     | some n=>rw [q] at d;cases d;exact ⟨n,rfl,rfl⟩)
    refine ⟨_,rfl,_,rfl,rsI (fY.of (θ _ _ Y)) ?_⟩;refine nR hS (bH (show e.sum.natAbs<2^10 by show e.sum.natAbs<1024;omega) (bD Dd Dd)) ?_;intro q9 H9 hq9 e9 s9;exact O _ H9 s9 ⟨n,R,fU e9⟩
   ·refine ⟨D3,z,rfl,.inl ⟨fY.of τ,λl hl=>?_⟩⟩;have X:=bA.upd (o:=.tup z) hl;have el:(upd H8 l (.tup z)) l=some (.tup z):=bL;generalize upd H8 l (.tup z)=H9 at X el;refine k _ (e.map λn=>lw n e.sum) H9 ((F7.same ψ).same X) (SF.trans (ψ.trans X).but) (cE.tup el ?_) (lt ▸ μ);refine bG.ofIdx (by rw [α,aB,aB,aB]) λi y C=>?_;obtain ⟨n,β,ο⟩:=γ i y C;exact ⟨fO (lw n e.sum),by rw [aI,aI,β];rfl,ο.same X⟩
theorem mN{x:Int}(h:0<=x):∃t:Nat,x=(t:Int):=⟨x.toNat,Oo⟩
theorem aFD(F:jP K "_law_trial" "_law_trial" YA f fd)(T:lC K mg c)
  (FQ2:fW dY P w K mg base 1 "_law_draw" ["_law_feed_here","_law_many"] jT) (FQ12:fW dY P w K mg base 2 "_law_shares" ["_law_feed_here","_law_many"] nN):eT P w K mg base dY 3 f fd ["_law_feed_here"] pS:=by
 refine F.oky PV λvs H Q E h=>?_;unfold pS at h;obtain ⟨p,L,rfl,F,k⟩:=h;refine ⟨rfl,λcdv A outer s τ=>?_⟩;refine ⟨_,(aS (bS (i:=1) PV.nd rfl (Or.inl rfl) (fC (aP lA (aP lA (aP lA (aP lA (aP lA (aP lA (aP lA (aP lA (aP lA (aP lA (aP lA (aP lA aJ))))))))))))))
  (aS (bS (i:=2) PV.nd rfl (Or.inl rfl) (bV FQ2 (τ.mono Dd) (aP (aL 0) (aP aM aJ))))
  (aS (bS (i:=1) PV.nd rfl (Or.inl rfl) (cN aCq (hJ (pZ K) (aL 1) (iZ (aL 2)) jA) (hJ (pZ K) (aL 1) jA (iZ (aL 2)))))
  (aS (bS (i:=3) PV.nd rfl (Or.inr rfl) (hJ (pZ K) (aL 1) jA (iZ (bR bK (fC (aP aM (aP aM (aP aM (aP aM aJ))))) (bV FQ2 (τ.mono Dd) (aP (aL 0) (aP aM aJ))) (λ_ _=>rfl)))))
  (aS (bS (i:=4) PV.nd rfl (Or.inl rfl) (hJ (pZ K) (hJ (pZ K) (aL 1) (iZ (bR bK (fC (aP aM (aP aM (aP aM aJ)))) (bV FQ2 (τ.mono Dd) (aP (aL 0) (aP aM aJ))) (λ_ _=>rfl))) jA) jA (iZ (bR bK (fC (aP aM (aP aM (aP aM (aP aM aJ))))) (bV FQ2 (τ.mono Dd) (aP (aL 0) (aP aM aJ))) (λ_ _=>rfl)))))
  (bJ (cP (eO (aP (jK dF (by rfl) T.b_tuple Kk (aP (aL 3) aJ)) (aP (jK dF (by rfl) T.b_tuple Kk (aP (gX (fM.of (psc:=bB YA) (N:=["_law_feed_here","_law_pool","_law_turn","_law_faces","_law_ways"]) (N':=["_law_name","_law_feed_here","_law_faces"]) (js:=[0,3]) Kk rfl rfl rfl) (fX (aL 4)) (λ_ _ _ _=>eZ) (λ_ _ _ _=>(eO (aP (aL 0) (aP (bV FQ12 (τ.mono Dd) (aP (aL 1) (aP (gK (NC K) (by rfl) T.b_len Kk (aP (aL 2) aJ)) aJ))) aJ))))) aJ)) aJ)))))))))),?_⟩
 refine uU (by show 12<=64;decide) λq1 H1 χ e1 s1=>?_;have ψ:H1 q1=some (.lst (pool.map V.str)):=e1;refine ⟨_,rfl,?_⟩;refine dA (F.same s1) Dd Kk λx H2 x0 x1 F2 s2=>?_;obtain ⟨t,rfl⟩:=mN x0;have e2:=s2.at (F.ne χ) ψ;have S2:aU p H H2:=s1.but.trans s2;refine ⟨_,rfl,_,rfl,_,rfl,?_⟩;refine slL e2 (ys:=(pool.drop t).map V.str) (by rw [EB,List.map_drop]) λq3 H3 hq3 e3 μ=>⟨_,rfl,_,rfl,_,rfl,?_⟩;refine slL (μ _ _ e2) (ys:=(pool.take t).map V.str) (by rw [wW,List.map_take]) λq4 H4 hq4 e4 α=>?_;have hp12:pool.length=12:=rfl;refine aFU (α _ _ e3) e4 (by rw [aB,aB,List.length_drop,cB];omega) λq5 H5 hq5 e5 s5=>?_;have Z:H5 q5=some (.lst ((rot t).map V.str)):=by rw [e5];unfold rot;rw [bZ]
 have ht:t<12:=Oo;have S5:aU p H H5:=S2.trans ((μ.trans α).trans s5).but;have F5:=((F2.same μ).same α).same s5;have n5:q5≠p:=((F2.same μ).same α).ne hq5;clear e1 ψ e2 e3 e4 e5 μ α s5 hq3 hq4 χ s1 s2;refine ⟨_,rfl,?_⟩;refine uU (by show 4<=64;decide) λq6 H6 η e6 s6=>⟨_,rfl,?_⟩;refine dA (F5.same s6) Dd Kk λy H7 y0 y1 F7 s7=>?_;obtain ⟨v,d,a,_⟩:=wY (xs:=[V.int 2,V.int 2,V.int 3,V.int 4]) y0 y1;refine nZ (s7.at (F5.ne η) e6) d ?_;have m:∃n:Nat,v=.int (n:Int)/\(n=2\/n=3\/n=4):=by
  simp only [bE,List.not_mem_nil,or_false] at a;rcases a with rfl | rfl | rfl | rfl
  ·exact ⟨2,rfl,Dd⟩
  ·exact ⟨2,rfl,Dd⟩
  ·exact ⟨3,rfl,Dd⟩
  ·exact ⟨4,rfl,Dd⟩
 obtain ⟨e,rfl,hF⟩:=m;have e7:=s7.at n5 (s6 _ _ Z);refine ⟨_,rfl,?_⟩;refine slL e7 (ys:=((rot t).take e).map V.str) (by rw [wW,List.map_take]) λq8 H8 hq8 e8 s8=>?_;have S8:aU p H H8:=((S5.trans s6.but).trans s7).trans s8.but;have F8:=F7.same s8;have n8:q8≠p:=F7.ne hq8;have e8p:=s8 _ _ e7;clear e6 η s6 s7 d a e7 Z;refine ⟨_,rfl,?_⟩;refine uU (by show 3<=64;decide) λq9 H9 Y e9 φ=>⟨_,rfl,?_⟩;refine dA (F8.same φ) Dd Kk λz H10 z0 z1 F10 C=>?_;obtain ⟨v,d,a,_⟩:=wY (xs:=[V.int 0,V.int 2,V.int 5]) z0 z1;refine nZ (C.at (F8.ne Y) e9) d ?_;have m:∃n:Nat,v=.int (n:Int)/\(n=0\/n=2\/n=5):=by
  simp only [bE,List.not_mem_nil,or_false] at a;rcases a with rfl | rfl | rfl
  ·exact ⟨0,rfl,Dd⟩
  ·exact ⟨2,rfl,Dd⟩
  ·exact ⟨5,rfl,Dd⟩
 obtain ⟨o,rfl,ho⟩:=m;refine ⟨_,rfl,?_⟩;refine slL (C.at n5 (φ _ _ e8p)) (ys:=((rot t).drop o).map V.str) (by rw [EB,List.map_drop]) λq11 H11 X υ R=>?_;have F11:=F10.same R;have n11:q11≠p:=F10.ne X;have I:=R _ _ (C.at n8 (φ _ _ e8));have S11:aU p H H11:=((S8.trans φ.but).trans C).trans R.but;clear e9 Y φ C d a;refine uU (by show 4<=64;decide) λq12 H12 J ε u=>⟨_,rfl,?_⟩;refine dA (F11.same u) Dd Kk λy H13 y0 y1 F13 r=>?_;obtain ⟨v,d,a,_⟩:=wY (xs:=[V.int 2,V.int 2,V.int 3,V.int 4]) y0 y1;refine nZ (r.at (F11.ne J) ε) d ?_;have m:∃n:Nat,v=.int (n:Int)/\(n=2\/n=3\/n=4):=by
  simp only [bE,List.not_mem_nil,or_false] at a;rcases a with rfl | rfl | rfl | rfl
  ·exact ⟨2,rfl,Dd⟩
  ·exact ⟨2,rfl,Dd⟩
  ·exact ⟨3,rfl,Dd⟩
  ·exact ⟨4,rfl,Dd⟩
 obtain ⟨j,rfl,hW⟩:=m;refine ⟨_,rfl,?_⟩;refine slL (r.at n11 (u _ _ υ)) (ys:=(((rot t).drop o).take j).map V.str) (by rw [wW,List.map_take]) λγ H14 ρ ζ U=>?_;have F14:=F13.same U;have n14:γ≠p:=F13.ne ρ;have M:=U _ _ (r.at n8 (u _ _ I));have S14:aU p H H14:=((S11.trans u.but).trans r).trans U.but;clear ε J u r d a υ I;have lr:=CY ht;refine ⟨_,rfl,q8,_,rfl,.inl ⟨fY.of M,λl O=>?_⟩⟩;have W:=bA.upd (o:=.tup (((rot t).take e).map V.str)) O;have el:(upd H14 l (.tup (((rot t).take e).map V.str))) l=some (.tup (((rot t).take e).map V.str)):=bL;generalize upd H14 l (.tup (((rot t).take e).map V.str))=H15 at W el;have F15:=F14.same W;refine ⟨_,rfl,γ,rfl,⟨_,fY.of (W _ _ ζ)⟩,VL (cK.like p L) F15 (λi y H'=>∃w:Str × List Fr,(((rot t).drop o).take j)[i]?=some w.1/\JW e w.2/\cE H' (wD w) y) (λi y H1 H2 s ⟨w,δ,ω,h3⟩=>⟨w,δ,ω,h3.flat s (KI _)⟩) (by rw [aB,cB];omega) n14 (W _ _ ζ) (λi x H' Q' hx F' s' k'=>?_) (λD ys H16 hD ν F16 β θ κ=>?_)⟩
 ·rw [aI] at hx;obtain ⟨nm,hn',rfl⟩:=(show ∃n,(((rot t).drop o).take j)[i]?=some n/\V.str n=x by
   cases q:(((rot t).drop o).take j)[i]? with
   | none=>rw [q] at hx;cases hx
   | some n=>rw [q] at hx;cases hx;exact ⟨n,rfl,rfl⟩)
  refine ⟨_,rfl,_,rfl,_,rfl,YC (s'.at n8 (W _ _ M)) ?_⟩;have lf:(((rot t).take e).map V.str).length=e:=by rw [aB,cB];omega
  rw [lf];exact FK F' Oo Oo λv fs H17 F17 s17 r17 ι=>rK (by show 2<=64;decide) λq18 H18 ξ S b=>k' _ H18 (F17.same b) (s17.trans b.but) ⟨(nm,fs),hn',ι,cE.tup S (bG.cons (cE.str _) (bG.cons (r17.same b) bG.nil))⟩
 ·refine ⟨D,ys,rfl,.inl ⟨fY.of ν,λl2 hl2=>?_⟩⟩;have B:=bA.upd (o:=.tup ys) hl2;have ο:(upd H16 l2 (.tup ys)) l2=some (.tup ys):=bL;generalize upd H16 l2 (.tup ys)=H17 at B ο;have elf:H17 l=some (.tup (((rot t).take e).map V.str)):=B _ _ (β.at (F14.ne O) el);refine rK (by show 2<=64;decide) λq18 H18 ξ S b=>?_;have hws:∀(n:Nat) (ys:List V),ys.length=n->(∀(i:Nat) y,ys[i]?=some y->∃w:Str × List Fr,(((rot t).drop o).take j)[i]?=some w.1/\JW e w.2/\cE H16 (wD w) y) ->
    ∃G:List (Str × List Fr),G.length=n/\bG H16 (G.map wD) ys/\(∀(i:Nat) w,G[i]?=some w->(((rot t).drop o).take j)[i]?=some w.1)/\∀w∈G,JW e w.2:=by
   generalize ((rot t).drop o).take j=nl;intro n
   induction n generalizing nl with
   | zero =>
    intro ys O _;cases ys with
    | nil=>exact ⟨[],rfl,bG.nil,λi w h=>by simp at h,λw h=>by cases h⟩
    | cons _ _=>simp at O
   | succ n ih =>
    intro ys O h;cases ys with
    | nil=>simp at O
    | cons y ys =>
     obtain ⟨w,δ,ω,h3⟩:=h 0 y rfl;obtain ⟨G,i1,i2,i3,i4⟩:=ih nl.tail ys (by simpa using O) λi z hz=>by
      obtain ⟨w,δ,ω,h3⟩:=h (i+1) z (by simpa using hz);exact ⟨w,by rw [List.getElem?_tail];exact δ,ω,h3⟩
     refine ⟨w::G,by simp [i1],bG.cons h3 i2,λi v m=>?_,λv m=>?_⟩
     ·cases i with
      | zero=>cases (show w=v by simpa using m);exact δ
      | succ i =>
       have:=i3 i v (by simpa using m);rw [List.getElem?_tail] at this;exact this
     ·rcases bE.mp m with rfl | m
      ·exact ω
      ·exact i4 v m
  obtain ⟨G,w1,w2,w3,w4⟩:=hws _ ys rfl κ;have lnl:(((rot t).drop o).take j).length=j:=by
   rw [cB,List.length_drop,lr];omega
  have lws:G.length=j:=by rw [w1,θ,aB,lnl]
  refine k _ t o e j ((rot t).take e) G H18 ((F16.same B).same b) ?_ ?_ ⟨ht,ho,hF,hW,rfl,?_,w4⟩
  ·exact (S14.trans W.but).trans (β.trans (B.trans b).but)
  ·exact cE.tup S (bG.cons (cE.tup (b _ _ elf) (BM _)) (bG.cons (cE.tup (b _ _ ο) (w2.same (B.trans b))) bG.nil))
  ·apply List.ext_getElem?;intro i;rw [aI];cases q:G[i]? with
   | none =>
    have:j<=i:=by rw [<-lws];exact List.getElem?_eq_none_iff.mp q
    rw [cV Oo];rfl
   | some w=>rw [w3 i w q];rfl
end
abbrev aBR:Stmt:=(top 1)
theorem PR:cI ["number","above_nought","divided","divisor","rest"] ["number","above_nought"] (bB aBR):=⟨rfl,rfl,rfl,Kk,rfl,Kk,Kk⟩
abbrev aBI:Stmt:=(top 3)
theorem PQ:cI ["one","other","common","one_part","other_part","upper","left"] ["one","other"] (bB aBI):=⟨rfl,rfl,rfl,Kk,rfl,Kk,Kk⟩
abbrev aBL:Stmt:=(top 4)
theorem aF6:cI ["one","other"] ["one","other"] (bB aBL):=⟨rfl,rfl,rfl,Kk,rfl,Kk,Kk⟩
abbrev aBC:Stmt:=(top 5)
theorem aCY:cI ["one","other","first","second"] ["one","other"] (bB aBC):=⟨rfl,rfl,rfl,Kk,rfl,Kk,Kk⟩
abbrev aBB:Stmt:=(top 7)
theorem aAk:cI ["some","whole","one"] ["some"] (bB aBB):=⟨rfl,rfl,rfl,Kk,rfl,Kk,Kk⟩
abbrev aBz:Stmt:=(top 12)
theorem aFW:cI ["trial"] ["trial"] (bB aBz):=⟨rfl,rfl,rfl,Kk,rfl,Kk,Kk⟩
abbrev aBA:Stmt:=(top 13)
theorem aFX:cI ["trial","way"] ["trial","way"] (bB aBA):=⟨rfl,rfl,rfl,Kk,rfl,Kk,Kk⟩
abbrev aBy:Stmt:=(top 15)
theorem VU:cI ["trial","way","counts","product","share","count"] ["trial","way","counts"] (bB aBy):=⟨rfl,rfl,rfl,Kk,rfl,Kk,Kk⟩
abbrev aBH:Stmt:=(top 16)
theorem PP:cI ["share","count","upper","lower","step"] ["share","count"] (bB aBH):=⟨rfl,rfl,rfl,Kk,rfl,Kk,Kk⟩
abbrev aBJ:Stmt:=(top 18)
theorem aF3:cI ["counts","face"] ["counts","face"] (bB aBJ):=⟨rfl,rfl,rfl,Kk,rfl,Kk,Kk⟩
abbrev XT:Stmt:=(top 19)
theorem aF2:cI ["counts"] ["counts"] (bB XT):=⟨rfl,rfl,rfl,Kk,rfl,Kk,Kk⟩
theorem sE.of{H H1:Hp}{Q:VK}{f:Fr}(s:bA H H1)(q:sE H Q f):sE H1 Q f:=λp H' b e a=>q p H' (s.free b) e (s.trans a)
@[irreducible] def gO(K:KFr):Sp:=λvs H Q _=>∃x y f g,vs=[x,y]/\gI K H f x/\gI K H g y/\dN f/\dN g/\kK 4000 f/\kK 4000 g/\sE H Q (nY f g)
theorem iE{K:KFr}{H:Hp}{Q:VK}{E:XK}{x y:V}{f g:Fr}(h1:gI K H f x)(h2:gI K H g y)(l1:dN f)(l2:dN g)(z1:kK 4000 f)(z2:kK 4000 g)(q:sE H Q (nY f g)):gO K [x,y] H Q E:=by unfold gO;exact ⟨x,y,f,g,rfl,h1,h2,l1,l2,z1,z2,q⟩
def DI(f:Fr):Fr:=(-f.1,f.2)
theorem yF{f:Fr}(h:dN f):dN (DI f):=⟨h.pos,by show Int.gcd (-f.1) f.2=1;rw [Int.neg_gcd];exact h.low⟩
@[irreducible] def iW(K:KFr):Sp:=λvs H Q _=>∃x y f g,vs=[x,y]/\gI K H f x/\gI K H g y/\dN f/\dN g/\kK 4000 f/\kK 4000 g/\sE H Q (pC f (DI g))
theorem mF{K:KFr}{H:Hp}{Q:VK}{E:XK}{x y:V}{f g:Fr}(h1:gI K H f x)(h2:gI K H g y)(l1:dN f)(l2:dN g)(z1:kK 4000 f)(z2:kK 4000 g)(q:sE H Q (pC f (DI g))):iW K [x,y] H Q E:=by unfold iW;exact ⟨x,y,f,g,rfl,h1,h2,l1,l2,z1,z2,q⟩
theorem aFz(F:jP K "common_divisor" "common_divisor" aBR f fd)(T:lC K mg c):eT P w K mg base dY 1 f fd ["number","above_nought"] AE:=by
 refine F.oky PR λD H Q E h=>?_;unfold AE at h;obtain ⟨n,d,rfl,hd,q⟩:=h;refine ⟨rfl,λu A p s C=>?_⟩;refine ⟨_,(aS (bS (i:=2) PR.nd rfl (Or.inl rfl) (aL 0))
  (aS (bS (i:=3) PR.nd rfl (Or.inl rfl) (aL 1))
  (aS (sG PassesOwn.never (gJ aAU (aL 3) aM (nomark _)) (aS (bS (i:=4) PR.nd rfl (Or.inl rfl) (cN mY (aL 2) (aL 3)))
  (aS (bS (i:=2) PR.nd rfl (Or.inl rfl) (aL 3))
  (bJ (bS (i:=3) PR.nd rfl (Or.inl rfl) (aL 4))))))
  (bJ (cP (aL 2)))))),?_⟩
 refine ⟨_,rfl,_,rfl,?_⟩;refine wN (λm σ H'=>∃(a b:Int) (c:Option V),σ=[some (.int n),some (.int d),some (.int a),some (.int b),c]/\0<=b/\Int.gcd a b=Int.gcd n d/\(b=0->0<a)/\H'=H/\m=b.toNat)
  (λσ H'=>∃(c:Option V),σ=[some (.int n),some (.int d),some (.int (Int.gcd n d)),some (.int 0),c]/\H'=H)
  _ ⟨n,d,none,rfl,Oo,rfl,Oo,rfl,rfl⟩ ?_ ?_
 ·rintro m σ H2 ⟨a,b,c,rfl,B,r,z,rfl,rfl⟩;refine ⟨_,rfl,rfl,_,rfl,aAZ (λe=>?_) (λe=>?_)⟩
  ·have j:0<b:=by
    rcases Int.lt_or_eq_of_le B with h | h
    ·exact h
    ·exact absurd (congrArg V.int h.symm) e
   refine ⟨_,rfl,_,rfl,_,_,rfl,rfl,j,_,rfl,_,rfl,?_⟩;have o:=Int.emod_lt_of_pos a j;have x:=Int.emod_nonneg a (b:=b) Oo;exact ⟨_,Oo,b,a % b,_,rfl,x,by rw [GM,r],λ_=>j,rfl,rfl⟩
  ·have l:b=0:=by injection e
   subst l;have y:=z rfl;have o:=MJ y;rw [r] at o;rw [o];exact ⟨c,rfl,rfl⟩
 ·rintro σ H2 ⟨c,rfl,rfl⟩;exact ⟨_,rfl,q⟩
theorem aFj(F:jP K "plus" "plus" aBI f fd)(T:lC K mg c)
  (FQ17:fW dY P w K mg base 1 "common_divisor" ["number","above_nought"] AE):eT P w K mg base dY 2 f fd ["one","other"] (lH K):=by
 refine F.oky PQ λγ H Q E h=>?_;unfold lH at h;obtain ⟨x,y,⟨a,b⟩,⟨c,d⟩,rfl,Y,X,M,N,U,R,q⟩:=h;refine ⟨rfl,λO A G s J=>?_⟩;obtain ⟨α,rfl,o⟩:=Y;obtain ⟨Z,rfl,m⟩:=X;have β:0<b:=M.pos;have C:0<d:=N.pos;obtain ⟨z,L⟩:=U;obtain ⟨D,r⟩:=R;dsimp only at z L D r o m;have j:=jD (n:=b) C;have u:=yQ (n:=b) C r;have e:=sB L j;have l:=sB r j;have u1:=CH z l;have δ:=CH D e;have B:=jD (n:=a*(d/(Int.gcd b d:Int))+c*(b/(Int.gcd b d:Int))) j;have I:=yQ (n:=a*(d/(Int.gcd b d:Int))+c*(b/(Int.gcd b d:Int))) j u;have eq:pC (a,b) (c,d)=_:=YQ M N;refine ⟨_,(aS (bS (i:=2) PQ.nd rfl (Or.inl rfl) (bV FQ17 (J.mono Dd) (aP (bR bK (aL 0) aM (λ_ _=>rfl)) (aP (bR bK (aL 1) aM (λ_ _=>rfl)) aJ))))
  (aS (bS (i:=3) PQ.nd rfl (Or.inl rfl) (cN iH (bR bK (aL 0) aM (λ_ _=>rfl)) (aL 2)))
  (aS (bS (i:=4) PQ.nd rfl (Or.inl rfl) (cN iH (bR bK (aL 1) aM (λ_ _=>rfl)) (aL 2)))
  (aS (bS (i:=5) PQ.nd rfl (Or.inl rfl) (cN fL (cN fE (bR bK (aL 0) aM (λ_ _=>rfl)) (aL 4)) (cN fE (bR bK (aL 1) aM (λ_ _=>rfl)) (aL 3))))
  (aS (bS (i:=6) PQ.nd rfl (Or.inl rfl) (bV FQ17 (J.mono Dd) (aP (aL 5) (aP (aL 2) aJ))))
  (bJ (cP (eO (aP (cN iH (aL 5) (aL 6)) (aP (cN fE (aL 3) (cN iH (bR bK (aL 1) aM (λ_ _=>rfl)) (aL 6))) aJ)))))))))),?_⟩
 refine ⟨_,rfl,uB o rfl ?_⟩;refine ⟨_,rfl,uB m rfl ?_⟩;refine wQ C ⟨_,rfl,uB o rfl ?_⟩;refine ⟨_,rfl,_,_,rfl,rfl,tO j (kO u),⟨_,rfl,uB m rfl ?_⟩⟩;refine ⟨_,rfl,_,_,rfl,rfl,tO j (kO u),⟨_,rfl,uB o rfl ?_⟩⟩;refine ⟨_,rfl,_,_,rfl,rfl,tE z l,⟨_,rfl,uB m rfl ?_⟩⟩;refine ⟨_,rfl,_,_,rfl,rfl,tE D e,_,_,rfl,rfl,⟨_,rfl,_,rfl,wQ j ?_⟩⟩;refine ⟨_,rfl,_,rfl,_,_,rfl,rfl,tO B (kO I),⟨_,rfl,_,rfl,uB m rfl ?_⟩⟩;refine ⟨_,rfl,_,_,rfl,rfl,tO B (kO I),_,_,rfl,rfl,tE e (sB r B),?_⟩;refine rK (by show 2<=64;decide) λp H3 W e3 S=>q p H3 W ?_ S;rw [eq];exact e3
theorem aFa(F:jP K "times" "times" aBC f fd)(T:lC K mg c)
  (FQ17:fW dY P w K mg base 1 "common_divisor" ["number","above_nought"] AE):eT P w K mg base dY 2 f fd ["one","other"] (gO K):=by
 refine F.oky aCY λZ H Q E h=>?_;unfold gO at h;obtain ⟨x,y,⟨a,b⟩,⟨m,d⟩,rfl,W,U,J,M,⟨I,u⟩,⟨N,z⟩,q⟩:=h;refine ⟨rfl,λO A C s D=>?_⟩;obtain ⟨Y,rfl,e⟩:=W;obtain ⟨X,rfl,j⟩:=U;have r:0<b:=J.pos;have B:0<d:=M.pos;dsimp only at I u N z e j;have l:=jD (n:=a) B;have o:=jD (n:=m) r;have G:=yQ (n:=a) B z;have L:=yQ (n:=m) r u;have eq:nY (a,b) (m,d)=_:=RJ J M;refine ⟨_,(aS (bS (i:=2) aCY.nd rfl (Or.inl rfl) (bV FQ17 (D.mono Dd) (aP (bR bK (aL 0) aM (λ_ _=>rfl)) (aP (bR bK (aL 1) aM (λ_ _=>rfl)) aJ))))
  (aS (bS (i:=3) aCY.nd rfl (Or.inl rfl) (bV FQ17 (D.mono Dd) (aP (bR bK (aL 1) aM (λ_ _=>rfl)) (aP (bR bK (aL 0) aM (λ_ _=>rfl)) aJ))))
  (bJ (cP (eO (aP (cN fE (cN iH (bR bK (aL 0) aM (λ_ _=>rfl)) (aL 2)) (cN iH (bR bK (aL 1) aM (λ_ _=>rfl)) (aL 3))) (aP (cN fE (cN iH (bR bK (aL 0) aM (λ_ _=>rfl)) (aL 3)) (cN iH (bR bK (aL 1) aM (λ_ _=>rfl)) (aL 2))) aJ))))))),?_⟩
 refine ⟨_,rfl,uB e rfl ?_⟩;refine ⟨_,rfl,uB j rfl ?_⟩;refine wQ B ⟨_,rfl,uB j rfl ?_⟩;refine ⟨_,rfl,uB e rfl ?_⟩;refine wQ r ⟨_,rfl,uB e rfl ?_⟩;refine ⟨_,rfl,_,_,rfl,rfl,tO l (kO G),⟨_,rfl,uB j rfl ?_⟩⟩;refine ⟨_,rfl,_,_,rfl,rfl,tO o (kO L),_,_,rfl,rfl,tE (sB I l) (sB N o),⟨_,rfl,uB e rfl ?_⟩⟩;refine ⟨_,rfl,_,_,rfl,rfl,tO o (kO L),⟨_,rfl,uB j rfl ?_⟩⟩;refine ⟨_,rfl,_,_,rfl,rfl,tO l (kO G),_,_,rfl,rfl,tE (sB u o) (sB z l),?_⟩;refine rK (by show 2<=64;decide) λp H3 S e3 R=>q p H3 S ?_ R;rw [eq];exact e3
theorem aFq(F:jP K "less" "less" aBL f fd)(T:lC K mg c)
  (FQ33:fW dY P w K mg base 2 "plus" ["one","other"] (lH K)):eT P w K mg base dY 3 f fd ["one","other"] (iW K):=by
 refine F.oky aF6 λz H Q E h=>?_;unfold iW at h;obtain ⟨x,y,f,g,rfl,r,o,m,n,l,b,q⟩:=h;refine ⟨rfl,λj A a s i=>?_⟩;obtain ⟨u,rfl,d⟩:=o;refine ⟨_,(bJ (cP (bV FQ33 (i.mono Dd) (aP (aL 0) (aP (eO (aP (KG CC (bR bK (aL 1) aM (λ_ _=>rfl))) (aP (bR bK (aL 1) aM (λ_ _=>rfl)) aJ))) aJ))))),?_⟩;refine ⟨_,rfl,_,rfl,uB d rfl ?_⟩;refine ⟨_,rfl,⟨_,rfl,uB d rfl ?_⟩⟩;refine rK (by show 2<=64;decide) λp H3 B e3 e=>nP (gI.same e r) (gI.new (f:=DI g) e3) m (yF n) l ⟨by show (-g.1).natAbs<_;rw [Int.natAbs_neg];exact b.1,b.2⟩ ?_;exact q.of e
theorem vO{N B:Nat}{f:Fr}(h:Fn N B f)(hN:0<N)(hz:N<2^3000)(hB:B<=2^500):kK 4000 f:=by
 obtain ⟨d,a⟩:=h.num hN;refine ⟨?_,aY a (bH hz (bD Dd Dd))⟩;have b:B*N<=2^500*2^3000:=Nat.mul_le_mul hB (Nat.le_of_lt hz);have c:(2:Nat)^500*2^3000<2^4000:=by rw [<-Nat.pow_add];exact Nat.pow_lt_pow_right Dd Dd
 omega
structure NI(fs:List Fr):Prop where
 low:∀f∈fs,dN f
 sz:∀f∈fs,kK 4000 f
 part:∀i,dN (pM (fs.take i))/\kK 4000 (pM (fs.take i))
theorem zH{N B:Nat}{fs:List Fr}(h:∀f∈fs,Fn N B f)(hN:0<N)(hz:N<2^3000)(hl:fs.length<=64)(hB:B<=2^490):NI fs:=by
 have c:(2:Nat)^490<=2^500:=bD Dd Dd;have b:64*(2:Nat)^490<=2^500:=by rw [show (64:Nat)=2^6 from rfl,<-Nat.pow_add];exact bD Dd Dd
 refine ⟨λf a=>(h f a).low,λf a=>vO (h f a) hN hz (aZ hB c),λi=>?_⟩;have t:=Fn.tot (fs.take i) λf a=>h f (List.mem_of_mem_take a);have l:(fs.take i).length<=64:=by rw [cB];omega
 have:(fs.take i).length*B<=64*2^490:=Nat.mul_le_mul l hB;exact ⟨t.low,vO t hN hz (aZ this b)⟩
structure HY(K:KFr)(H:Hp)(fs:List Fr)(xs:List V):Prop where
 len:xs.length=fs.length
 at_:∀(i:Nat) (x:V),xs[i]?=some x->∃f,fs[i]?=some f/\gI K H f x
theorem HY.of{K:KFr}{H:Hp}{fs:List Fr}{xs:List V}(r:bG H (fs.map fO) xs):HY K H fs xs:=⟨dR r,λi x e=>by
 obtain ⟨f,b,a⟩:=dS r e;exact ⟨f,b,gI.of a⟩⟩
@[irreducible] def kR(K:KFr):Sp:=λvs H Q _=>∃a xs fs,vs=[.ref a]/\H a=some (.lst xs)/\HY K H fs xs/\NI fs/\∀v H',bA H H'->cE H' (fO (pM fs)) v->Q v H'
theorem kD{K:KFr}{H:Hp}{Q:VK}{E:XK}{a:Addr}{xs:List V}{fs:List Fr}(h:H a=some (.lst xs))(r:HY K H fs xs)(ok:NI fs)(q:∀v H',bA H H'->cE H' (fO (pM fs)) v->Q v H'):kR K [.ref a] H Q E:=by unfold kR;exact ⟨a,xs,fs,rfl,h,r,ok,q⟩
section
theorem aE8(F:jP K "total" "total" aBB f fd)(T:lC K mg c)
  (FQ33:fW dY P w K mg base 2 "plus" ["one","other"] (lH K)):eT P w K mg base dY 3 f fd ["some"] (kR K):=by
 refine F.oky aAk λu H Q E h=>?_;unfold kR at h;obtain ⟨a,u,fs,rfl,r,m,ok,q⟩:=h;refine ⟨rfl,λD A l s B=>?_⟩;have d:=m.len;refine ⟨_,(aS (bS (i:=1) aAk.nd rfl (Or.inl rfl) (eO (aP aM (aP aM aJ))))
  (aS (fB PassesOwn.never rfl (fX (aL 0)) (cX (i:=2) aAk.nd rfl (Or.inl rfl)) (bJ (bS (i:=1) aAk.nd rfl (Or.inl rfl) (bV FQ33 (B.mono Dd) (aP (aL 1) (aP (aL 2) aJ))))))
  (bJ (cP (aL 1))))),?_⟩
 refine rK (by show 2<=64;decide) λR H0 C M s0=>⟨_,rfl,a,rfl,⟨_,fY.of (s0 _ _ r)⟩,kZ (xs:=u) (λi σ H'=>∃w j,σ=[some (.ref a),some w,j]/\bA H H'/\cE H' (fO (pM (fs.take i))) w) ⟨_,_,rfl,s0,fU M⟩ (λi σ H' _ p=>?_) ?_ ?_⟩
 ·obtain ⟨w,j,rfl,b,_⟩:=p;exact fY.of (b _ _ r)
 ·rintro i x σ H1 N ⟨w,j,rfl,b,e⟩;obtain ⟨g,n,y⟩:=m.at_ i x N;have o:=aR n;obtain ⟨I,J⟩:=ok.part i;refine ⟨_,rfl,_,rfl,nP (gI.of e) (gI.same b y) I (ok.low _ o) J (ok.sz _ o) ?_⟩;intro O H2 z G L;refine ⟨_,_,rfl,b.trans L,?_⟩;rw [eS n,nG];exact fU G
 ·rintro σ H1 ⟨w,j,rfl,b,e⟩;refine ⟨_,rfl,?_⟩;rw [d,bP] at e;exact q _ H1 b e
end
abbrev gW(cs:List Nat):PyData:=.tuple (cs.map λ(n:Nat)=>PyData.int (n:Int))
theorem HC:∀cs:List Nat,dU (cs.map λ(n:Nat)=>PyData.int (n:Int))=true
 | []=>rfl
 | f::fs=>by show (eP (.int f)&&dU (fs.map λ(n:Nat)=>PyData.int (n:Int)))=true;rw [HC fs];rfl
theorem gS(cs:List Nat):eP (gW cs)=true:=HC cs
def nD(K:KFr)(H:Hp)(f:Fr)(x:V):Prop:=cE H (fO f) x\/∃a,x=.ref a/\qJ K a [f.1,f.2]=true
theorem nD.v{K:KFr}{H:Hp}{f:Fr}{x:V}(h:nD K H f x):gI K H f x:=by
 rcases h with h | ⟨a,e,h⟩
 ·exact gI.of h
 ·exact ⟨a,e,pQ h⟩
theorem nD.t{K:KFr}{H H':Hp}{f:Fr}{x:V}(s:dL H H')(h:nD K H f x):nD K H' f x:=by
 rcases h with h | h
 ·exact .inl (h.flat s (fV f))
 ·exact .inr h
theorem nD.same{K:KFr}{H H':Hp}{f:Fr}{x:V}(s:bA H H')(h:nD K H f x):nD K H' f x:=h.t s.t
theorem aCN{K:KFr}{H:Hp}{a:Addr}{m n:Int}(h:qJ K a [m,n]=true):gI K H (m,n) (.ref a):=⟨a,rfl,pQ h⟩
theorem KM{H:Hp}{fs:List Str}{ws:List (Str × List Fr)}{v:V}(h:cE H (xG fs ws) v):∃a af aw xf xw,v=.ref a/\H a=some (.tup [.ref af,.ref aw])/\H af=some (.tup xf)/\H aw=some (.tup xw)/\bG H (fs.map .str) xf/\bG H (ws.map wD) xw:=by
 obtain ⟨a,n,rfl,j,e⟩:=eU h;obtain ⟨x,y,rfl,l,i⟩:=iL e;obtain ⟨af,xf,rfl,m,c⟩:=eU l;obtain ⟨aw,xw,rfl,b,d⟩:=eU i;exact ⟨a,af,aw,xf,xw,rfl,j,m,b,c,d⟩
@[irreducible] def nM:Sp:=λvs H Q _=>∃v fs ws,vs=[v]/\cE H (xG fs ws) v/\Q (.int (ws.length:Nat)) H
theorem FJ{H:Hp}{Q:VK}{E:XK}{v:V}{fs:List Str}{ws:List (Str × List Fr)}(h:cE H (xG fs ws) v)(q:Q (.int (ws.length:Nat)) H):nM [v] H Q E:=by unfold nM;exact ⟨v,fs,ws,rfl,h,q⟩
@[irreducible] def uJ:Sp:=λvs H Q _=>∃v fs ws w,∃i:Nat,vs=[v,.int (i:Int)]/\cE H (xG fs ws) v/\ws[i]?=some w/\∀x,cE H (vU w.2) x->Q x H
theorem FH{H:Hp}{Q:VK}{E:XK}{v:V}{fs:List Str}{ws:List (Str × List Fr)}{w:Str × List Fr}{i:Nat}(h:cE H (xG fs ws) v)(hw:ws[i]?=some w)(q:∀x,cE H (vU w.2) x->Q x H):uJ [v,.int (i:Int)] H Q E:=by unfold uJ;exact ⟨v,fs,ws,w,i,rfl,h,hw,q⟩
structure BOk(B:Nat)(fs:List Fr):Prop where
 low:∀f∈fs,dN f
 up:∀f∈fs,f.1.natAbs<=2^B
 dn:∀f∈fs,f.2.natAbs<=2^B
@[irreducible] def pT(K:KFr):Sp:=λvs H Q _=>∃x f,∃c B:Nat,vs=[x,.int (c:Int)]/\gI K H f x/\f.1.natAbs<=2^B/\f.2.natAbs<=2^B/\B<=4000/\c<=4000/\B*c<=4000/\sE H Q (uQ f c)
theorem IL{K:KFr}{H:Hp}{Q:VK}{E:XK}{x:V}{f:Fr}{c B:Nat}(h:gI K H f x)(h1:f.1.natAbs<=2^B)(h2:f.2.natAbs<=2^B)(h3:B<=4000)(h5:c<=4000)(h4:B*c<=4000)(q:sE H Q (uQ f c)):pT K [x,.int (c:Int)] H Q E:=by unfold pT;exact ⟨x,f,c,B,rfl,h,h1,h2,h3,h5,h4,q⟩
theorem DL{x:Int}{n:Nat}(h:x.natAbs<=2^n)(hn:n<=4000):x.natAbs<2^4001:=aY h (Nat.pow_lt_pow_right Dd Oo)
theorem RU{f:Fr}{n:Nat}(h1:f.1.natAbs<=2^n)(h2:f.2.natAbs<=2^n){k:Nat}(hk:n<k):kK k f:=⟨aY h1 (Nat.pow_lt_pow_right Dd hk),aY h2 (Nat.pow_lt_pow_right Dd hk)⟩
@[irreducible] def nK(K:KFr):Sp:=λvs H Q _=>∃v cv fs ws w cs,∃i:Nat,vs=[v,.int (i:Int),cv]/\cE H (xG fs ws) v/\ws[i]?=some w/\cE H (gW cs) cv/\BOk 10 w.2/\cs.sum<=390/\∀x H',bA H H'->nD K H' (rJ (w.2.zip cs)) x->Q x H'
theorem FI{K:KFr}{H:Hp}{Q:VK}{E:XK}{v cv:V}{fs:List Str}{ws:List (Str × List Fr)}{w:Str × List Fr}{cs:List Nat}{i:Nat}(h:cE H (xG fs ws) v)(hw:ws[i]?=some w)(hc:cE H (gW cs) cv)(ok:BOk 10 w.2)(hs:cs.sum<=390)(q:∀x H',bA H H'->nD K H' (rJ (w.2.zip cs)) x->Q x H'):nK K [v,.int (i:Int),cv] H Q E:=by unfold nK;exact ⟨v,cv,fs,ws,w,cs,i,rfl,h,hw,hc,ok,hs,q⟩
theorem WS{α β:Type}{l:List α}{m:List β}{i:Nat}{a:α}{b:β}(h1:l[i]?=some a)(h2:m[i]?=some b):(l.zip m)[i]?=some (a,b):=by rw [List.getElem?_zip_eq_some];exact ⟨h1,h2⟩
theorem WR{α:Type}(l:List α)(m:List Nat)(i:Nat):(((l.zip m).take i).map (·.2)).sum<=m.sum:=by
 induction l generalizing m i with
 | nil=>simp
 | cons a l ih =>
  cases m with
  | nil=>simp
  | cons b m =>
   cases i with
   | zero=>simp
   | succ i =>
    have:=ih m i;simp only [List.zip_cons_cons,List.take_succ_cons,bF,List.sum_cons];omega
theorem oV{α β:Type}{l:List α}{m:List β}{i:Nat}{z:α × β}(h:z∈(l.zip m).take i):z.1∈l:=(List.of_mem_zip (a:=z.1) (b:=z.2) (List.mem_of_mem_take h)).1
theorem XH{m:List Nat}{i c:Nat}(h:m[i]?=some c):c<=m.sum:=by
 induction m generalizing i with
 | nil=>simp at h
 | cons a m ih =>
  rw [List.sum_cons];cases i with
  | zero=>cases (show a=c by simpa using h);omega
  | succ i=>have:=ih (i:=i) (by simpa using h);omega
section
theorem aE6(F:jP K "ways_of" "ways_of" aBz f fd)(T:lC K mg c):eT P w K mg base dY 1 f fd ["trial"] nM:=by
 refine F.oky aFW λo H Q E h=>?_;unfold nM at h;obtain ⟨v,fs,l,rfl,h,q⟩:=h;refine ⟨rfl,λi A d s m=>?_⟩;obtain ⟨a,u,r,n,x,rfl,j,p,e,y,b⟩:=KM h;refine ⟨_,(bJ (cP (gK jI (by rfl) T.b_len Kk (aP (bR bK (aL 0) aM (λ_ _=>rfl)) aJ)))),?_⟩;refine ⟨_,rfl,iI j rfl ?_⟩;refine rlT e ?_;rw [dR b];exact q
theorem aE7(F:jP K "way_shares" "way_shares" aBA f fd)(T:lC K mg c):eT P w K mg base dY 1 f fd ["trial","way"] uJ:=by
 refine F.oky aFX λM H Q E h=>?_;unfold uJ at h;obtain ⟨v,fs,D,w,i,rfl,h,l,q⟩:=h;refine ⟨rfl,λp A m s G=>?_⟩;obtain ⟨a,R,O,I,S,rfl,r,N,n,U,d⟩:=KM h;obtain ⟨u,B,o⟩:=gP d l;obtain ⟨b,L,rfl,x,e⟩:=eU o;obtain ⟨y,z,rfl,J,C⟩:=iL e;refine ⟨_,(bJ (cP (bR bK (bR bK (bR bK (aL 0) aM (λ_ _=>rfl)) (aL 1) (λ_ _=>rfl)) aM (λ_ _=>rfl)))),?_⟩;refine ⟨_,rfl,iI r rfl ?_⟩;refine ⟨_,rfl,iI n (dM (j:=i) B) ?_⟩;exact iI x rfl (q _ C)
theorem aFi(F:jP K "power" "power" aBH f fd)(T:lC K mg c):eT P w K mg base dY 1 f fd ["share","count"] (pT K):=by
 refine F.oky PP λG H Q E h=>?_;unfold pT at h;obtain ⟨x,f,n,B,rfl,⟨a,rfl,l⟩,p,m,o,I,z,q⟩:=h;refine ⟨rfl,λu A e s C=>?_⟩;refine ⟨_,(aS (bS (i:=2) PP.nd rfl (Or.inl rfl) aM)
  (aS (bS (i:=3) PP.nd rfl (Or.inl rfl) aM)
  (aS (fB PassesOwn.never rfl (fQ rfl T.b_range (aP (aL 1) aJ)) (cX (i:=4) PP.nd rfl (Or.inl rfl)) (aS (bS (i:=2) PP.nd rfl (Or.inl rfl) (cN fE (aL 2) (bR bK (aL 0) aM (λ_ _=>rfl))))
  (bJ (bS (i:=3) PP.nd rfl (Or.inl rfl) (cN fE (aL 3) (bR bK (aL 0) aM (λ_ _=>rfl)))))))
  (bJ (cP (eO (aP (aL 2) (aP (aL 3) aJ)))))))),?_⟩
 refine ⟨_,rfl,_,rfl,Oo,Oo,iT (λi σ H'=>∃b,σ=[some (.ref a),some (.int (n:Int)),some (.int (f.1^i)),some (.int (f.2^i)),b]/\H'=H) ⟨_,by rw [Int.pow_zero,Int.pow_zero];rfl,rfl⟩ ?_ ?_⟩
 ·rintro i σ H1 D ⟨b,rfl,rfl⟩;have j:B*i<=4000:=aZ (eB _ Oo) z;refine ⟨_,rfl,_,rfl,uB l rfl ?_⟩;refine ⟨_,_,rfl,rfl,tE (DL (uP p i) j) (DL p o),⟨_,rfl,_,rfl,uB l rfl ?_⟩⟩;exact ⟨_,_,rfl,rfl,tE (DL (uP m i) j) (DL m o),⟨_,by rw [Int.pow_succ,Int.pow_succ];rfl,rfl⟩⟩
 ·rintro σ H1 ⟨b,rfl,rfl⟩;refine ⟨_,rfl,_,rfl,?_⟩;exact rK (by show 2<=64;decide) λr H3 d e3 y=>q r H3 d (by rw [e3];rfl) y
theorem aE5(F:jP K "weight" "weight" aBy f fd)(T:lC K mg c)
  (FQ45:fW dY P w K mg base 1 "way_shares" ["trial","way"] uJ) (FQ42:fW dY P w K mg base 2 "times" ["one","other"] (gO K)) (FQ34:fW dY P w K mg base 1 "power" ["share","count"] (pT K)):eT P w K mg base dY 3 f fd ["trial","way","counts"] (nK K):=by
 refine F.oky VU λχ H Q E h=>?_;unfold nK at h;obtain ⟨v,ψ,fs,ω,w,a,j,rfl,h,θ,ζ,ok,hs,q⟩:=h;refine ⟨rfl,λδ A u s C=>?_⟩;refine ⟨_,(aS (bS (i:=3) VU.nd rfl (Or.inl rfl) (iB (v:=.ref c.ONE) rfl T.g_ONE rfl))
  (aS (fB PassesOwn.never rfl (sA true true rfl T.b_zip (aP (bV FQ45 (C.mono Dd) (aP (aL 0) (aP (aL 1) aJ))) (aP (aL 2) aJ))) (kC rfl (dO (cX (i:=4) VU.nd rfl (Or.inl rfl)) (dO (cX (i:=5) VU.nd rfl (Or.inl rfl)) iN))) (bJ (bS (i:=3) VU.nd rfl (Or.inl rfl) (bV FQ42 (C.mono Dd) (aP (aL 3) (aP (bV FQ34 (C.mono Dd) (aP (aL 4) (aP (aL 5) aJ))) aJ))))))
  (bJ (cP (aL 3))))),?_⟩
 refine ⟨_,rfl,_,rfl,?_⟩;refine FH h θ λx ο=>?_;obtain ⟨η,M,rfl,J,S⟩:=eU ο;obtain ⟨I,O,rfl,W,L⟩:=eU ζ;refine ⟨_,rfl,η,I,M,O,rfl,J,W,?_⟩;have ι:=dR S;have τ:=dR L;have D:∀i,∀z∈(w.2.zip a).take i,dN z.1:=λi z b=>ok.low _ (oV b);have γ:∀i,∀z∈(w.2.zip a).take i,z.1.1.natAbs<=2^10/\z.1.2.natAbs<=2^10:=λi z b=>⟨ok.up _ (oV b),ok.dn _ (oV b)⟩;refine MK (λi σ H'=>∃x o l,σ=[some v,some (.int (j:Int)),some (.ref I),some x,o,l]/\bA H H'/\nD K H' (rJ ((w.2.zip a).take i)) x) ⟨_,_,_,rfl,bA.refl _,.inr ⟨_,rfl,T.o_ONE⟩⟩ (λi σ H' ⟨x,o,l,_,N,_⟩=>⟨N _ _ J,N _ _ W⟩) ?_ ?_
 ·rintro i y z κ σ H1 H2 ε b ⟨x,o,l,rfl,m,r⟩ φ e3 p;obtain ⟨g,U,α⟩:=dS S ε;obtain ⟨n,R,X⟩:=dS L b;cases (show z=V.int (n:Int) from X);have d:=aR U;have nn:=XH R;refine ⟨κ,_,rfl,fN.of e3,rfl,_,_,rfl,_,_,rfl,rfl,⟨_,rfl,_,rfl,_,rfl,IL (B:=10) (gI.of (α.same (m.trans p))) (ok.up _ d) (ok.dn _ d) Dd Oo Oo ?_⟩⟩;intro q4 H4 μ ν G;obtain ⟨β,b2⟩:=WX ((w.2.zip a).take i) (D i) (γ i);have zs:=WR w.2 a i;have Y:=uP (ok.up _ d) n;have υ:=uP (ok.dn _ d) n;refine iE (gI.same (p.trans G) r.v) (gI.new (f:=uQ g n) ν) (sJ _ (D i)) (mK (ok.low _ d) n) (RU β b2 Oo) (RU Y υ Oo) ?_;intro q5 H5 ρ ξ Z;refine ⟨_,_,_,rfl,((m.trans p).trans G).trans Z,?_⟩;rw [eS (WS U R),uD];exact .inl (fU ξ)
 ·rintro σ H1 ⟨x,o,l,rfl,m,r⟩;refine ⟨_,rfl,q _ H1 m ?_⟩;have e:(w.2.zip a).take (min M.length O.length)=w.2.zip a:=List.take_of_length_le (by rw [List.length_zip];omega)
  rwa [e] at r
end
abbrev lE(n:Nat):V:=.int (n:Int)
theorem HI{H:Hp}:∀cs:List Nat,bG H (cs.map λ(n:Nat)=>PyData.int (n:Int)) (cs.map lE)
 | []=>bG.nil
 | n::cs=>bG.cons (cE.int _) (HI cs)
theorem BN{H:Hp}:∀{cs:List Nat}{xs:List V},bG H (cs.map λ(n:Nat)=>PyData.int (n:Int)) xs->xs=cs.map lE
 | [],xs,h=>h
 | n::cs,xs,h=>by
  unfold bG at h;obtain ⟨x,xs',rfl,hx,hr⟩:=(show ∃x xs',xs=x::xs'/\cE H (PyData.int (n:Int)) x/\bG H (cs.map λ(n:Nat)=>PyData.int (n:Int)) xs' from h);rw [BN hr];cases (show x=V.int (n:Int) from hx)
  rfl
theorem lB{H:Hp}{cs:List Nat}{v:V}(h:cE H (gW cs) v):∃a,v=.ref a/\H a=some (.tup (cs.map lE)):=by
 obtain ⟨a,d,rfl,b,c⟩:=eU h;rw [BN c] at b;exact ⟨a,rfl,b⟩
theorem nB{H:Hp}{cs:List Nat}{a:Addr}(h:H a=some (.tup (cs.map lE))):cE H (gW cs) (.ref a):=cE.tup h (HI cs)
theorem HM{cs:List Nat}{i:Nat}(h:i<cs.length):bN cs i=cs.take i++[cs.getD i 0+1]++cs.drop (i+1):=by
 unfold bN;rw [List.set_eq_take_append_cons_drop,if_pos h,List.append_assoc]
 rfl
theorem CS{K:KFr}{H:Hp}{a:Addr}{xs:List V}{k:Nat}{z:Int}{Q:VK}(hz:z=(k:Int))(h:H a=some (.tup xs))(q:∀c H',bA H H'->H' c=some (.tup (xs.drop k))->Q (.ref c) H'):IY K (.ref a) (some z) none H Q:=by
 subst hz;exact aBu h q
@[irreducible] def jN:Sp:=λvs H Q _=>∃(x:V) (cs:List Nat) (i:Nat),vs=[x,.int (i:Int)]/\cE H (gW cs) x/\i<cs.length/\cs.length<=64/\∀v H',bA H H'->cE H' (gW (bN cs i)) v->Q v H'
theorem rW{H:Hp}{Q:VK}{E:XK}{x:V}{cs:List Nat}{i:Nat}(h1:cE H (gW cs) x)(h2:i<cs.length)(h3:cs.length<=64)(k:∀v H',bA H H'->cE H' (gW (bN cs i)) v->Q v H'):jN [x,.int (i:Int)] H Q E:=by
 unfold jN;exact ⟨x,cs,i,rfl,h1,h2,h3,k⟩
@[irreducible] def jS:Sp:=λvs H Q _=>∃(x:V) (cs:List Nat),vs=[x]/\cE H (gW cs) x/\cs.length<=64/\∀D ys H',H D=none->H' D=some (.lst ys)->bG H' (((List.range cs.length).map (bN cs)).map gW) ys->bA H H'->Q (.ref D) H'
theorem xP{H:Hp}{Q:VK}{E:XK}{x:V}{cs:List Nat}(h1:cE H (gW cs) x)(h3:cs.length<=64)(k:∀D ys H',H D=none->H' D=some (.lst ys)->bG H' (((List.range cs.length).map (bN cs)).map gW) ys->bA H H'->Q (.ref D) H'):jS [x] H Q E:=by
 unfold jS;exact ⟨x,cs,rfl,h1,h3,k⟩
section
theorem aFm(F:jP K "one_more" "one_more" aBJ f fd)(T:lC K mg c):eT P w K mg base dY 1 f fd ["counts","face"] jN:=by
 refine F.oky aF3 λL H Q E h=>?_;unfold jN at h;obtain ⟨x,b,i,rfl,r,n,J,k⟩:=h;refine ⟨rfl,λu A m s I=>?_⟩;obtain ⟨a,rfl,j⟩:=lB r;refine ⟨_,(bJ (cP (cN (oU K) (cN (oU K) (hJ (qV K) (aL 0) jA (iZ (aL 1))) (eO (aP (cN fL (bR bK (aL 0) (aL 1) (λ_ _=>rfl)) aM) aJ))) (hJ (qV K) (aL 0) (iZ (cN fL (aL 1) aM)) jA)))),?_⟩;refine ⟨_,rfl,_,rfl,_,rfl,?_⟩;refine IS j λN H2 l B=>⟨_,rfl,_,rfl,?_⟩;have d:HR (b.map lE) (i:Int)=some (lE (b.getD i 0)):=dM (by rw [aI,aK,aC n];rfl);refine iI (l _ _ j) d ⟨_,_,rfl,rfl,?_⟩;refine rK (by show 1<=64;decide) λM H3 G e3 e=>JT (e _ _ B) e3 (by rw [cB,aB];show min i b.length+1<=1000;omega) λS H4 o C=>⟨_,rfl,_,rfl,_,_,rfl,rfl,?_⟩;refine ⟨_,rfl,?_⟩;refine CS (k:=i+1) Oo (o _ _ (e _ _ (l _ _ j))) λR H5 p D=>JT (p _ _ C) D (by rw [aV,cB,List.length_drop,aB];show min i b.length+1+(b.length-(i+1))<=1000;omega) λO H6 y z=>k _ H6 ((((l.trans e).trans o).trans p).trans y) (nB ?_);rw [z,HM n,bZ,bZ,List.map_take,List.map_drop]
 rfl
theorem aFl(F:jP K "ones_more" "ones_more" XT f fd)(T:lC K mg c)(FQ30:fW dY P w K mg base 1 "one_more" ["counts","face"] jN):eT P w K mg base dY 2 f fd ["counts"] jS:=by
 refine F.oky aF2 λO H Q E h=>?_;unfold jS at h;obtain ⟨x,d,rfl,o,z,k⟩:=h;refine ⟨rfl,λu A m s r=>?_⟩;obtain ⟨a,rfl,G⟩:=lB o;refine ⟨_,(bJ (cP (gX (fM.of (psc:=bB XT) (N:=["counts"]) (N':=["face","counts"]) (js:=[0]) Kk rfl rfl rfl) (fQ rfl T.b_range (aP (gK jI (by rfl) T.b_len Kk (aP (aL 0) aJ)) aJ)) (λ_ _ _ _=>eZ) (λ_ _ _ _=>(bV FQ30 (r.mono Dd) (aP (aL 1) (aP (aL 0) aJ))))))),?_⟩;refine ⟨_,rfl,rlT G ?_⟩;rw [aB];refine ⟨_,rfl,Oo,Oo,rE (λi y H'=>i<d.length/\cE H' (gW (bN d i)) y) (λi y H1 H2 s ⟨n,j⟩=>⟨n,j.flat s (gS _)⟩) Oo (λi H' Q' p B L=>?_) (λD C H4 hD e J b l=>?_)⟩
 ·rw [Int.zero_add];refine ⟨_,rfl,_,rfl,?_⟩;exact rW (o.same B) Oo z λv H5 M I=>L _ H5 M ⟨Oo,I⟩
 ·refine k D C H4 hD e ?_ J;refine bG.ofIdx (by rw [b,aB,aB,cR];omega) λi y p=>?_;obtain ⟨n,j⟩:=l i y p;exact ⟨gW (bN d i),by rw [aI,aI,eN n];rfl,j⟩
end
abbrev aBK:Stmt:=(top 22)
theorem aF5:cI ["says"] ["says"] (bB aBK):=⟨rfl,rfl,rfl,Kk,rfl,Kk,Kk⟩
abbrev XU:Stmt:=(top 17)
theorem aF4:cI ["faces"] ["faces"] (bB XU):=⟨rfl,rfl,rfl,Kk,rfl,Kk,Kk⟩
abbrev wSh(ws:List (Str × List Fr)):List (List Fr):=ws.map λx=>x.2
def ci(c:List Nat):List Int:=c.map λ(n:Nat)=>(n:Int)
theorem pB(c:List Nat):(ci c).map V.int=c.map lE:=by unfold ci;rw [List.map_map];rfl
theorem aCW(c:List Nat):(ci c).sum=(c.sum:Nat):=by
 induction c with
 | nil=>rfl
 | cons a c ih =>
  have e:ci (a::c)=(a:Int)::ci c:=rfl;rw [e,List.sum_cons,List.sum_cons,ih];omega
theorem EG:∀{a b:List Nat},ci a=ci b->a=b
 | [],[],_=>rfl
 | [],b::bs,h=>by cases h
 | a::as,[],h=>by cases h
 | a::as,b::bs,h=>by
  have h:(a:Int)::ci as=(b:Int)::ci bs:=h;injection h with h1 h2;rw [EG h2,show a=b by omega]
theorem aU.tT{H H':Hp}{p:Addr}(s:aU p H H'){kvs:List (List iC × V)}(hp:H p=some (.dT kvs)):dL H H':=λb a h=>s.at (LS h hp (by intro z;cases z)) h
theorem MI{α:Type}{l:List α}{i:Nat}{a d:α}(h:l[i]?=some a):l.getD i d=a:=by rw [aK,h];rfl
theorem aBl{fs:List Fr}{i:Nat}{f:Fr}(h:fs[i]?=some f):eV fs i=rv f:=by unfold eV;rw [MI h]
theorem CB{fs:List Fr}{i:Nat}(h:fs.length<=i):eV fs i=0:=by
 unfold eV;rw [aK,cV h];exact qY
theorem yV{α:Type}(l:List α):l.filter (λ_=>true)=l:=List.filter_eq_self.mpr λ_ _=>rfl
theorem yC{H:Hp}{α:Type}{g:α->Fr}{as:List α}{ys:List V}(pr:Paired (λa y=>cE H (fO (g a)) y) as ys):bG H ((as.map g).map fO) ys:=by
 rw [List.map_map];exact Paired.toRepL pr
structure QD(K:KFr)(H:Hp)(fs:List Fr)(xs:List V):Prop where
 len:xs.length=fs.length
 at_:∀(i:Nat) (x:V),xs[i]?=some x->∃f,fs[i]?=some f/\nD K H f x
theorem QD.t{K:KFr}{H H':Hp}{fs:List Fr}{xs:List V}(s:dL H H')(h:QD K H fs xs):QD K H' fs xs:=⟨h.len,λi x e=>by
 obtain ⟨f,b,a⟩:=h.at_ i x e;exact ⟨f,b,a.t s⟩⟩
def HW(H:Hp)(a:Addr)(cs:List (List Nat)):Prop:=∃vs,H a=some (.lst vs)/\bG H (cs.map gW) vs
theorem MT:∀cs:List (List Nat),dU (cs.map gW)=true
 | []=>rfl
 | c::cs=>by show (eP (gW c)&&dU (cs.map gW))=true;rw [MT cs,gS];rfl
theorem HW.len{H:Hp}{a:Addr}{cs:List (List Nat)}(h:HW H a cs):∃vs,H a=some (.lst vs)/\bG H (cs.map gW) vs/\vs.length=cs.length:=by
 obtain ⟨vs,c,b⟩:=h;exact ⟨vs,c,b,dR b⟩
theorem bG.app{H:Hp}:∀{ds es:List PyData}{xs ys:List V},bG H ds xs->bG H es ys->bG H (ds++es) (xs++ys)
 | [],es,xs,ys,h1,h2=>by
  have:xs=[]:=h1;subst this;exact h2
 | d::ds,es,xs,ys,h1,h2=>by
  unfold bG at h1;obtain ⟨x,a,rfl,c,b⟩:=(show ∃x a,xs=x::a/\cE H d x/\bG H ds a from h1);exact bG.cons c (bG.app b h2)
theorem rA{α:Type}(g:Nat->List α)(i:Nat):(List.range (i+1)).flatMap g=(List.range i).flatMap g++g i:=by
 rw [List.range_succ,List.flatMap_append];simp
theorem BE:∀F,F<=4->∀m,m<=5->(cta F m).length<=56:=Kk
theorem PZ:∀F,F<=4->∀i,i<=6->((List.range i).flatMap (cta F)).length<=400:=Kk
theorem AQ{α:Type}[DecidableEq α]:∀{l m:List α},l.Nodup->(∀x∈l,x∈m)->l.length<=m.length
 | [],m,_,_=>cC _
 | x::l,m,h,hs=>by
  rw [List.nodup_cons] at h;have hx:=hs x (aQ ..);have b:=AQ (l:=l) (m:=m.erase x) h.2 λy a=>(List.mem_erase_of_ne (λe=>by subst e;exact h.1 a)).mpr (hs y (aG _ a));rw [List.length_erase_of_mem hx] at b;have:0<m.length:=List.length_pos_of_mem hx;rw [dB];omega
theorem aCz{kvs:List (List iC × V)}{ks:List (List Int)}{v:V}(c:List Int)(hk:kvs.map (·.1)=ks.map kT)(nd:ks.Nodup):∃ks2:List (List Int),(jW kvs (kT c) v).map (·.1)=ks2.map kT/\ks2.Nodup/\∀x,x∈ks2↔x∈ks\/x=c:=by
 cases e:gT kvs (kT c) with
 | some u =>
  refine ⟨ks,by rw [zN (by rw [e];rfl),hk],nd,λx=>⟨.inl,λh=>?_⟩⟩;rcases h with h | rfl
  ·exact h
  ·have:kT x∈kvs.map (·.1):=XB e;rw [hk] at this;obtain ⟨y,i,d⟩:=aT.mp this;rw [<-DS d];exact i
 | none =>
  have m:c ∉ ks:=λh=>by
   have:kT c∈kvs.map (·.1):=by rw [hk];exact List.mem_map_of_mem h
   exact RE e this
  refine ⟨ks++[c],by rw [TD v e,bZ,bZ,hk];rfl,List.nodup_append.mpr ⟨nd,by simp,λa j b l e=>by cases cF.mp l;subst e;exact m j⟩,λx=>by rw [eM,cF]⟩
theorem aAe:∀F,F<=4->∀m,m<=5->((cta F m).map ci).Pairwise (λa b=>oY a b=true):=Kk
theorem ctI(c:List Nat):PyData.tuple ((ci c).map .int)=gW c:=by unfold ci;rw [List.map_map];rfl
section
variable{F W M:Nat}{best:List Nat->Nat}
def lvl(F:Nat)(best:List Nat->Nat):Nat->List (List Nat)
 | 0=>[List.replicate F 0]
 | k+1=>(cta F (k+1)).filter λd=>(lvl F best k).any λc=>best c == 0&&(List.range F).any λj=>d == bN c j
theorem iS(hF:1<=F):∀k,(lvl F best k).Sublist (cta F k)
 | 0=>by unfold lvl;rw [HD F hF];exact List.Sublist.refl _
 | k+1=>by unfold lvl;exact List.filter_sublist
theorem tG(hF:1<=F){k:Nat}{d:List Nat}:d∈lvl F best (k+1) ↔ ∃c∈lvl F best k,best c=0/\∃j,j<F/\d=bN c j:=by
 have i:d∈lvl F best (k+1)↔d∈cta F (k+1)/\∃c∈lvl F best k,best c=0/\∃j,j<F/\d=bN c j:=by
  show d∈List.filter _ _↔_;rw [gF];simp
 rw [i];refine ⟨λh=>h.2,λh=>⟨?_,h⟩⟩;obtain ⟨c,a,_,j,b,e⟩:=h;exact (VF hF).mpr ⟨c,(iS hF k).subset a,j,b,e⟩
def LB(F M:Nat)(best:List Nat->Nat):List (List Nat):=(List.range (M+1)).flatMap (lvl F best)
theorem yT{α:Type}{f g:Nat->List α}(h:∀k,(f k).Sublist (g k)):∀l:List Nat,(l.flatMap f).Sublist (l.flatMap g)
 | []=>List.Sublist.refl _
 | a::l=>by rw [List.flatMap_cons,List.flatMap_cons];exact (h a).append (yT h l)
theorem sY(hF:1<=F):(LB F M best).Sublist (rise F M):=yT (iS hF) _
theorem tF{c:List Nat}:c∈LB F M best ↔ ∃k,k<=M/\c∈lvl F best k:=by
 unfold LB;rw [List.mem_flatMap];constructor
 ·rintro ⟨k,a,h⟩;exact ⟨k,by have:=bT.mp a;omega,h⟩
 ·rintro ⟨k,a,h⟩;exact ⟨k,bT.mpr Oo,h⟩
theorem SN(hF:1<=F)(on:∀c,best c=0->c.sum<M){c:List Nat}(hc:c∈LB F M best)(h:best c=0){j:Nat}(hj:j<F):bN c j∈LB F M best:=by
 obtain ⟨k,e,a⟩:=tF.mp hc;have b:=(gY ((iS hF k).subset a)).2;have d:=on c h;exact tF.mpr ⟨k+1,Oo,(tG hF).mpr ⟨c,a,h,j,hj,rfl⟩⟩
theorem SO(hF:1<=F){d:List Nat}(hd:d∈LB F M best)(h:d≠List.replicate F 0):∃c∈LB F M best,best c=0/\∃j,j<F/\bN c j=d:=by
 obtain ⟨k,m,a⟩:=tF.mp hd;cases k with
 | zero=>exact absurd (cF.mp a) h
 | succ k =>
  obtain ⟨c,b,l,j,i,e⟩:=(tG hF).mp a;exact ⟨c,tF.mpr ⟨k,Oo,b⟩,l,j,i,e.symm⟩
theorem SM:∃r,LB F M best=List.replicate F 0::r:=by
 unfold LB;rw [List.range_succ_eq_map,List.flatMap_cons];exact ⟨_,rfl⟩
theorem CW(hF:1<=F){c:List Nat}(h:c∈LB F M best):c.length=F/\c.sum<=M:=(UD hF).mp ((sY hF).subset h)
end
def SaW(K:KFr)(H:Hp)(fs:List Fr)(z:V):Prop:=∃sa sx,z=.ref sa/\H sa=some (.tup sx)/\QD K H fs sx
theorem SaW.t{K:KFr}{H H':Hp}{fs:List Fr}{z:V}(s:dL H H')(h:SaW K H fs z):SaW K H' fs z:=by
 obtain ⟨c,a,e,b,d⟩:=h;exact ⟨c,a,e,s _ _ b,d.t s⟩
theorem QD.get{K:KFr}{H:Hp}{fs:List Fr}{xs:List V}(h:QD K H fs xs){i:Nat}{f:Fr}(e:fs[i]?=some f):∃x,xs[i]?=some x/\nD K H f x:=by
 have b:=(aO.mp e).1;have a:xs[i]?=some (xs[i]'(by rw [h.len];exact b)):=aC (by rw [h.len];exact b);obtain ⟨g,c,d⟩:=h.at_ i _ a;rw [e] at c;cases c;exact ⟨_,a,d⟩
def EnW(K:KFr)(H:Hp)(e:cL)(x:V):Prop:=∃b cu z,x=.ref b/\H b=some (.tup [.ref cu,z])/\H cu=some (.tup (e.1.map lE))/\SaW K H e.2 z
theorem EnW.t{K:KFr}{H H':Hp}{e:cL}{x:V}(s:dL H H')(h:EnW K H e x):EnW K H' e x:=by
 obtain ⟨b,c,z,j,a,i,d⟩:=h;exact ⟨b,c,z,j,s _ _ a,s _ _ i,d.t s⟩
def HZ(K:KFr)(H:Hp)(es:List cL)(v:V):Prop:=∃a xs,v=.ref a/\H a=some (.tup xs)/\xs.length=es.length/\∀(i:Nat) (x:V),xs[i]?=some x->∃e,es[i]?=some e/\EnW K H e x
theorem HZ.t{K:KFr}{H H':Hp}{es:List cL}{v:V}(s:dL H H')(h:HZ K H es v):HZ K H' es v:=by
 obtain ⟨a,m,o,c,b,d⟩:=h;exact ⟨a,m,o,s _ _ c,b,λi x n=>by obtain ⟨e,l,j⟩:=d i x n;exact ⟨e,l,j.t s⟩⟩
@[irreducible] def lS(K:KFr):Sp:=λvs H Q _=>∃(z:V) (f:Fr) (fs:List Fr),vs=[z]/\SaW K H (f::fs) z/\Q (.bl (decide (0<f.1))) H
theorem vT{K:KFr}{H:Hp}{Q:VK}{E:XK}{z:V}{f:Fr}{fs:List Fr}(h1:SaW K H (f::fs) z)(k:Q (.bl (decide (0<f.1))) H):lS K [z] H Q E:=by
 unfold lS;exact ⟨z,f,fs,rfl,h1,k⟩
@[irreducible] def kF:Sp:=λvs H Q _=>∃F:Nat,vs=[.int (F:Int)]/\F<=64/\∀v H',bA H H'->cE H' (gW (List.replicate F 0)) v->Q v H'
theorem sS{H:Hp}{Q:VK}{E:XK}{F:Nat}(h:F<=64)(k:∀v H',bA H H'->cE H' (gW (List.replicate F 0)) v->Q v H'):kF [.int (F:Int)] H Q E:=by
 unfold kF;exact ⟨F,rfl,h,k⟩
def FR(F M:Nat)(best:List Nat->Nat)(sy:List Nat->List Fr):List cL:=(LB F M best).map λc=>(c,sy c)
section
theorem aFo(F:jP K "looks_on" "looks_on" aBK f fd)(T:lC K mg c):eT P w K mg base dY 1 f fd ["says"] (lS K):=by
 refine F.oky aF5 λu H Q E h=>?_;unfold lS at h;obtain ⟨z,f,fs,rfl,⟨x,r,rfl,a,d⟩,k⟩:=h;refine ⟨rfl,λl A e s p=>?_⟩;obtain ⟨y,m,o⟩:=d.get (i:=0) rfl;obtain ⟨b,rfl,n⟩:=o.v;refine ⟨_,(bJ (cP (uE AN (bR bK (bR bK (aL 0) (iB (v:=.int 0) rfl T.g_LOOKS_ON ⟨_,rfl⟩) (λ_ _=>rfl)) aM (λ_ _=>rfl)) aM (nomark _)))),?_⟩;refine ⟨_,rfl,iI a (dM (j:=0) m) ?_⟩;exact uB n rfl ⟨_,_,rfl,rfl,k⟩
theorem aFn(F:jP K "noughts" "noughts" XU f fd)(T:lC K mg c):eT P w K mg base dY 1 f fd ["faces"] kF:=by
 refine F.oky aF4 λL H Q E h=>?_;unfold kF at h;obtain ⟨F,rfl,M,k⟩:=h;refine ⟨rfl,λj A d s C=>?_⟩;refine ⟨_,(bJ (cP (jK dF (by rfl) T.b_tuple Kk (aP (gX (fM.of (psc:=bB XU) (N:=["faces"]) (N':=["face"]) (js:=[]) Kk rfl rfl rfl) (fQ rfl T.b_range (aP (aL 0) aJ)) (λ_ _ _ _=>eZ) (λ_ _ _ _=>aM)) aJ)))),?_⟩;refine ⟨_,rfl,_,rfl,Oo,Oo,rE (λi y H'=>∃n,y=.int n/\n=0) (λ_ _ _ _ _ h=>h) Oo (λi H' Q' G I z=>z _ H' (bA.refl _) ⟨0,rfl,rfl⟩) (λD J H1 hD p r m a=>?_)⟩;obtain ⟨e,rfl,B⟩:=tH (P:=λ_ n=>n=0) a;have x:e=List.replicate F 0:=by
  rw [aB] at m;exact List.eq_replicate_iff.mpr ⟨Oo,λb u=>by obtain ⟨i,h⟩:=cU.mp u;exact B i b h⟩
 subst x;refine ⟨D,_,rfl,.inl ⟨fY.of p,λl o=>?_⟩⟩;refine k _ _ (r.trans (bA.upd o)) (nB ?_);rw [bL,List.map_replicate,List.map_replicate];rfl
end
abbrev aBF:Stmt:=(top 23)
theorem aF0:cI ["rule"] ["rule"] (bB aBF):=⟨rfl,rfl,rfl,Kk,rfl,Kk,Kk⟩
abbrev XZ:Stmt:=(top 25)
theorem PU:cI ["rule","amount_of","counts","says","onward","more"] ["rule"] (bB XZ):=⟨rfl,rfl,rfl,Kk,rfl,Kk,Kk⟩
structure SyG(n:Nat)(fs:List Fr):Prop where
 len:fs.length=n
 at_:∀f∈fs,dN f/\0<=f.1/\kK 3000 f
 one:iP (fs.map rv)=1
structure oM(F W M N B Ns:Nat)(es:List cL):Prop where
 rl:uC F es
 sum:∀e∈es,e.1.sum<=M
 sy:∀e∈es,SyG (1+W) e.2
 few:es.length<=64
 on:∀e∈es,s0 e≠0->e.1.sum<M
 fl:∀e∈es,Qn N B (cD F es e.1)
 fs:∀e∈es,∀v,Qn N B (cD F es e.1*eV e.2 v)
 n0:0<N
 s1:0<Ns
 z:N*Ns^M<2^2000
 b:B<=2^100
 m:M<=6
theorem SyG.hd{n:Nat}{fs:List Fr}(h:SyG (1+n) fs):∃f r,fs=f::r/\dN f/\kK 3000 f/\0<=f.1/\eV fs 0=rv f/\(0<f.1↔eV fs 0≠0):=by
 cases fs with
 | nil=>have:=h.len;simp at this;omega
 | cons f r =>
  obtain ⟨a,d,b⟩:=h.at_ f (aQ ..);refine ⟨f,r,rfl,a,b,d,rfl,?_⟩;have e:eV (f::r) 0=rv f:=rfl;rw [e];constructor
  ·intro c q;have:=hV a ZG (by rw [q,qY]);rw [this] at c;exact absurd c Dd
  ·intro q;refine dQ λz=>q ?_;have j:f.1=0:=Oo;have i:=sX a.pos;rw [j] at i;have l:=kX a.pos;have:rv f=0:=by grind
   exact this
theorem SyG.nn{n:Nat}{fs:List Fr}(h:SyG n fs)(v:Nat):0<=eV fs v:=by
 by_cases hv:v<fs.length
 ·have:=h.at_ _ (vB (a:=(0,1)) hv);exact SL this.1 this.2.1
 ·rw [CB Oo];exact Rat.le_refl
theorem SyG.rest{n:Nat}{fs:List Fr}(h:SyG (1+n) fs):dG n (λv=>eV fs (1+v))=1-eV fs 0:=by
 have a:=h.one;rw [KR,h.len] at a;have:∀n,dG (1+n) (eV fs)=eV fs 0+dG n λv=>eV fs (1+v):=by
  intro n
  induction n with
  | zero=>rw [show 1+0=0+1 from rfl,dP,fD,fD];grind
  | succ n ih=>rw [show 1+(n+1)=(1+n)+1 by omega,dP,ih,dP];grind
 rw [this] at a;grind
structure DQ(K:KFr)(H:Hp)(kvs:List (List iC × V))(g:List Nat->Rat):Prop where
 at_:∀d:List Nat,(gT kvs (kT (ci d))=none/\g d=0)\/∃v,gT kvs (kT (ci d))=some v/\nD K H (cW (g d)) v
theorem tN:cW 0=(0,1):=hV (bO _) ZG (by rw [dI,qY])
theorem jE:cW 1=(1,1):=hV (bO _) JE (by rw [dI,uM])
theorem DQ.t{K:KFr}{H H':Hp}{kvs:List (List iC × V)}{g:List Nat->Rat}(s:dL H H')(h:DQ K H kvs g):DQ K H' kvs g:=⟨λd=>by
 rcases h.at_ d with h | ⟨v,b,a⟩
 ·exact .inl h
 ·exact .inr ⟨v,b,a.t s⟩⟩
theorem DQ.eq{K:KFr}{H:Hp}{kvs:List (List iC × V)}{g g':List Nat->Rat}(h:DQ K H kvs g)(e:∀d,g' d=g d):DQ K H kvs g':=by
 have:g'=g:=funext e;rw [this];exact h
theorem DQ.get{K:KFr}{H:Hp}{kvs:List (List iC × V)}{g:List Nat->Rat}(h:DQ K H kvs g)(d:List Nat){z:V}(hz:gI K H (0,1) z):gI K H (cW (g d)) ((gT kvs (kT (ci d))).getD z):=by
 rcases h.at_ d with ⟨b,a⟩ | ⟨v,b,a⟩
 ·rw [b,a,tN];exact hz
 ·rw [b];exact a.v
theorem DQ.val{K:KFr}{H:Hp}{kvs:List (List iC × V)}{g:List Nat->Rat}(h:DQ K H kvs g){d:List Nat}(hd:g d≠0):∃v,gT kvs (kT (ci d))=some v/\nD K H (cW (g d)) v:=by
 rcases h.at_ d with ⟨_,a⟩ | h
 ·exact absurd a hd
 ·exact h
theorem DQ.put{K:KFr}{H:Hp}{kvs:List (List iC × V)}{g:List Nat->Rat}(h:DQ K H kvs g){c:List Nat}{v:V}{y:Rat}(r:nD K H (cW (g c+y)) v):DQ K H (jW kvs (kT (ci c)) v) λd=>g d+if c=d then y else 0:=⟨λd=>by
 rw [xF];by_cases e:c=d
 ·subst e;rw [if_pos rfl,if_pos rfl];exact .inr ⟨v,rfl,r⟩
 ·rw [if_neg λq=>e (EG (DS q)).symm,if_neg e,show g d+0=g d by grind];exact h.at_ d⟩
theorem gM{N C:Nat}{q:Rat}(h:Qn N C q)(h0:0<N)(hN:N<2^2500)(hC:C<=2^200):kK 4000 (cW q):=vO h.fq h0 (bH hN (bD Dd Dd)) (aZ hC (bD Dd Dd))
theorem kK.up{j k:Nat}{f:Fr}(h:kK j f)(hk:j<=k):kK k f:=⟨bH h.1 (bD Dd hk),bH h.2 (bD Dd hk)⟩
section
variable{F W M N B Ns:Nat}{es:List cL}{s:List Fr}
theorem oM.nz(R:oM F W M N B Ns es):N<2^2500:=by
 have b:0<Ns^M:=Nat.pow_pos R.s1;have a:N*1<=N*Ns^M:=eB _ b;rw [Nat.mul_one] at a;exact aY a (bH R.z (bD Dd Dd))
theorem oM.pz(R:oM F W M N B Ns es):0<N*Ns^M/\N*Ns^M<2^2500:=⟨kM R.n0 (Nat.pow_pos R.s1),bH R.z (bD Dd Dd)⟩
theorem oM.b2(R:oM F W M N B Ns es):B<=2^200:=aZ R.b (bD Dd Dd)
theorem oM.part(R:oM F W M N B Ns es)(f4:F<=4):∀i,i<=es.length->∀d,Qn N (1+4*B*i) (cD F (es.take i) d)
 | 0,_,d=>by
  rw [List.take_zero,lU,Nat.mul_zero,Nat.add_zero];split
  ·exact Qn.one' _
  ·exact Qn.zero _ _
 | i+1,hi,d=>by
  have he:=aC (show i<es.length by omega);rw [eS he,iJ,R.rl.at he];have a:=aR he;have e:=R.part f4 i Oo d;have c:Qn 1 4 (lK F es[i].1 d):=by
   have:=Qn.sumR (N:=1) (B:=1) (n:=F) (f:=λf=>if bN es[i].1 f=d then 1 else 0) λf _=>by
    split
    ·exact Qn.one' _
    ·exact Qn.zero _ _
   exact this.le Oo
  have b:=(show Qn N B (cD F es es[i].1*s0 es[i]) from R.fs _ a 0).mul c;rw [Nat.mul_one] at b;refine (e.add b).le ?_;rw [Nat.mul_add,Nat.mul_one,Nat.mul_comm B 4];omega
theorem oM.bg(R:oM F W M N B Ns es){i:Nat}(hi:i<=64):1+4*B*i+B*4<=2^200:=by
 have d:=Nat.mul_le_mul (eB 4 R.b) hi;have c:=cS 4 R.b;have a:1+4*2^100*64+2^100*4<=2^200:=Kk;omega
end
@[irreducible] def hU(K:KFr):Sp:=λvs H Q _=>∃(x:V) (e:cL) (es:List cL),vs=[x]/\HZ K H (e::es) x/\Q (.int (e.1.length:Nat)) H
theorem pD{K:KFr}{H:Hp}{Q:VK}{E:XK}{x:V}{e:cL}{es:List cL}(h1:HZ K H (e::es) x)(k:Q (.int (e.1.length:Nat)) H):hU K [x] H Q E:=by
 unfold hU;exact ⟨x,e,es,rfl,h1,k⟩
@[irreducible] def mI(K:KFr):Sp:=λvs H Q _=>∃(x:V) (es:List cL) (F W M N B Ns:Nat),vs=[x]/\HZ K H es x/\oM F W M N B Ns es/\1<=F/\F<=4/\∀a ys H',bA H H'->H' a=some (.tup ys)->ys.length=es.length->(∀(i:Nat) (e:cL),es[i]?=some e->∃b cu va,ys[i]?=some (.ref b)/\H' b=some (.tup [.ref cu,va])/\H' cu=some (.tup (e.1.map lE))/\nD K H' (cW (cD F es e.1)) va)->Q (.ref a) H'
theorem CO{K:KFr}{H:Hp}{Q:VK}{E:XK}{x:V}{es:List cL}{F W M N B Ns:Nat}(h1:HZ K H es x)(h2:oM F W M N B Ns es)(h3:1<=F)(h4:F<=4)(k:∀a ys H',bA H H'->H' a=some (.tup ys)->ys.length=es.length->(∀(i:Nat) (e:cL),es[i]?=some e->∃b cu va,ys[i]?=some (.ref b)/\H' b=some (.tup [.ref cu,va])/\H' cu=some (.tup (e.1.map lE))/\nD K H' (cW (cD F es e.1)) va)->Q (.ref a) H'):mI K [x] H Q E:=by
 unfold mI;exact ⟨x,es,F,W,M,N,B,Ns,rfl,h1,h2,h3,h4,k⟩
section
theorem aFg(F:jP K "rule_faces" "rule_faces" aBF f fd)(T:lC K mg c):eT P w K mg base dY 1 f fd ["rule"] (hU K):=by
 refine F.oky aF0 λI H Q E h=>?_;unfold hU at h;obtain ⟨x,e,L,rfl,p,k⟩:=h;refine ⟨rfl,λr A n s G=>?_⟩;obtain ⟨a,o,rfl,y,u,d⟩:=p;have i:o[0]?=some (o[0]'(by rw [u];exact Nat.succ_pos _)):=aC _;obtain ⟨B,l,b,J,z,C,D,m,_⟩:=d 0 _ i;cases (show e=B by simpa using l);rw [C] at i;refine ⟨_,(bJ (cP (gK jI (by rfl) T.b_len Kk (aP (bR bK (bR bK (aL 0) aM (λ_ _=>rfl)) aM (λ_ _=>rfl)) aJ)))),?_⟩;refine ⟨_,rfl,iI y (dM (j:=0) i) ?_⟩;refine iI D rfl (rlT m ?_);rw [aB];exact k
theorem aFC(F:jP K "amounts" "amounts" XZ f fd)(T:lC K mg c)(FQ29:fW dY P w K mg base 1 "noughts" ["faces"] kF)(FQ36:fW dY P w K mg base 1 "rule_faces" ["rule"] (hU K))
  (FQ28:fW dY P w K mg base 1 "looks_on" ["says"] (lS K)) (FQ42:fW dY P w K mg base 2 "times" ["one","other"] (gO K)) (FQ31:fW dY P w K mg base 2 "ones_more" ["counts"] jS) (FQ33:fW dY P w K mg base 2 "plus" ["one","other"] (lH K)):eT P w K mg base dY 3 f fd ["rule"] (mI K):=by
 refine F.oky PU λvs H Q E h=>?_;unfold mI at h;obtain ⟨x,es,F,W,M,N,B,Ns,rfl,rx,RO,f1,f4,k⟩:=h;refine ⟨rfl,λcdv A outer s G=>?_⟩;obtain ⟨a,xs,rfl,ha,lx,ν⟩:=id rx;have RL:=RO.rl;have few:=RO.few;obtain ⟨e0,er,ees,ez0⟩:=RL.root;refine ⟨_,(aS (bS (i:=1) PU.nd rfl (Or.inr rfl) (RC G.u1 (bV FQ29 (G.mono Dd) (aP (bV FQ36 (G.mono Dd) (aP (aL 0) aJ)) aJ)) (iB (v:=.ref c.ONE) rfl T.g_ONE rfl)))
  (aS (fB PassesOwn.never rfl (kB (aL 0)) (kC rfl (dO (cX (i:=2) PU.nd rfl (Or.inl rfl)) (dO (cX (i:=3) PU.nd rfl (Or.inl rfl)) iN))) (bJ (lV (mX (bV FQ28 (G.mono Dd) (aP (aL 3) aJ))) (aS (bS (i:=4) PU.nd rfl (Or.inl rfl) (bV FQ42 (G.mono Dd) (aP (BY G.u1 (aL 1) (aL 2)) (aP (bR bK (aL 3) aM (λ_ _=>rfl)) aJ))))
  (bJ (fB PassesOwn.never rfl (fX (bV FQ31 (G.mono Dd) (aP (aL 2) aJ))) (cX (i:=5) PU.nd rfl (Or.inl rfl)) (bJ (BR G.u1 (aL 1) (aL 5) (bV FQ33 (G.mono Dd) (aP (WY G.u1 (aL 1) (aL 5) (iB (v:=.ref c.NOUGHT) rfl T.g_NOUGHT rfl)) (aP (aL 4) aJ)))))))) iA)))
  (bJ (cP (jK dF (by rfl) T.b_tuple Kk (aP (gX (fM.of (psc:=bB XZ) (N:=["rule","amount_of","counts","says","onward","more"]) (N':=["entry","amount_of"]) (js:=[1]) Kk rfl rfl rfl) (kB (aL 0)) (λ_ _ _ _=>eZ) (λ_ _ _ _=>(eO (aP (bR (fK K) (aL 0) aM (λ_ _=>rfl)) (aP (BY G.u1 (aL 1) (bR (fK K) (aL 0) aM (λ_ _=>rfl))) aJ))))) aJ)))))),?_⟩
 intro p hp;have U:=bA.upd (o:=.dT []) hp;have γ:(upd H p (.dT [])) p=some (.dT []):=bL;generalize upd H p (.dT [])=H0 at U γ;refine ⟨_,rfl,pD (e:=e0) (es:=er) (by rw [<-ees];exact rx.t U.t) ?_⟩;rw [ez0,dZ];refine sS (F:=F) Oo λv1 H1 s1 r1=>?_;obtain ⟨cz,rfl,φ⟩:=lB r1;refine aE0 (c:=ci (List.replicate F 0)) (by rw [pB];exact φ) (s1 _ _ γ) λH2 e2 b2=>?_;have S2:bA H H2:=bA.thru hp (U.trans s1) b2;have D2:DQ K H2 [(kT (ci (List.replicate F 0)),V.ref c.ONE)] (cD F (es.take 0)):=⟨λd=>by
  rw [List.take_zero,lU];by_cases q:d=List.replicate F 0
  ·subst q;rw [if_pos rfl];exact .inr ⟨_,by simp [gT],.inr ⟨c.ONE,rfl,by rw [jE];exact T.o_ONE⟩⟩
  ·rw [if_neg q];refine .inl ⟨?_,rfl⟩;have:¬kT (ci d)=kT (ci (List.replicate F 0)):=λz=>q (EG (DS z));have e:=xF (κ:=List iC) [] (kT (ci (List.replicate F 0))) (kT (ci d)) (V.ref c.ONE);rw [if_neg this] at e;exact e⟩
 clear b2 U γ r1 φ s1;refine ⟨_,rfl,a,rfl,⟨_,fN.of (S2 _ _ ha)⟩,qZ (xs:=xs) (λi σ H'=>∃(o2 o3 o4 θ:Option V) (r:List (List iC × V)),σ=[some (.ref a),some (.ref p),o2,o3,o4,θ]/\bA H H'/\H' p=some (.dT r)/\r.length<=1+4*i/\DQ K H' r (cD F (es.take i))) ⟨_,_,_,_,_,rfl,S2,e2,by simp,D2⟩ (λi σ H' _ q=>?_) ?_ ?_⟩
 ·obtain ⟨_,_,_,_,_,_,ρ,_⟩:=q;exact fN.of (ρ _ _ ha)
 ·rintro i x σ H3 hx ⟨o2,o3,o4,θ,r,rfl,S3,e3,l3,D3⟩;obtain ⟨e,Y,re⟩:=ν i x hx;have hi:i<es.length:=(aO.mp Y).1;have u:=aR Y;have hkey:e.1∈es.map (·.1):=aT.mpr ⟨e,u,rfl⟩;have hel:=RL.len e u;have α:=RL.at Y;have fpos:=RL.posf u;obtain ⟨f0,fr,ef,l0,z0,nn0,v0,χ⟩:=(RO.sy e u).hd;have es0:s0 e=rv f0:=v0;obtain ⟨b,C,z,rfl,hb,I,rz⟩:=re.t S3.t;refine ⟨b,[.ref C,z],rfl,fN.of hb,rfl,.ref C,[z],rfl,z,[],rfl,rfl,⟨_,rfl,vT (f:=f0) (fs:=fr) (by rw [<-ef];exact rz) ?_⟩⟩;refine ⟨_,rfl,yM (λon=>?_) (λon=>?_)⟩
  ·have sne:s0 e≠0:=χ.mp on;obtain ⟨O,β,S⟩:=D3.val (d:=e.1) (by rw [α];grind);rw [α] at S;refine ⟨_,rfl,_,rfl,dgT e3 (c:=ci e.1) (by rw [pB];exact I) β ?_⟩;obtain ⟨av,vs,rfl,hav,ζ⟩:=rz;rw [ef] at ζ;obtain ⟨y0,hy0,ry0⟩:=ζ.get (i:=0) rfl;refine ⟨_,rfl,iI hav (dM (j:=0) hy0) ?_⟩;refine iE S.v ry0.v (bO _) l0 (gM (RO.fl e u) RO.n0 RO.nz RO.b2) (z0.up Dd) λq4 H4 hq4 e4 ι=>?_;have ψ:nY (cW (cD F es e.1)) f0=cW (cD F es e.1*s0 e):=hV (mO (bO _) l0) (bO _) (by rw [qE (bO _).pos l0.pos,dI,dI,es0]);rw [ψ] at e4;have qy:Qn N B (cD F es e.1*s0 e):=RO.fs e u 0;refine ⟨_,rfl,?_⟩;refine xP (nB (ι _ _ I)) Oo λL J H5 hL e5 τ X=>?_;have S5:=(S3.trans ι).trans X;have ly:J.length=F:=by rw [τ.len,aB,aB,cR,hel]
   have ε:cE H5 (fO (cW (cD F es e.1*s0 e))) (.ref q4):=fU (X _ _ e4);have η:H5 p=some (.dT r):=X _ _ (ι _ _ e3);have nLp:L≠p:=λz=>by rw [z,ι _ _ e3] at hL;cases hL
   refine ⟨L,rfl,⟨_,fY.of e5⟩,?_⟩;refine kZ (xs:=J) (λj σ H'=>∃(θ:Option V) (r:List (List iC × V)),σ=[some (.ref a),some (.ref p),some (.ref C),some (.ref av),some (.ref q4),θ]/\aU p H5 H'/\H' p=some (.dT r)/\r.length<=1+4*i+j/\DQ K H' r λd=>cD F (es.take i) d+cD F es e.1*s0 e*dG j λf=>if bN e.1 f=d then 1 else 0)
    ⟨_,r,rfl,(bA.refl _).but,η,Oo,(D3.t (ι.trans X).t).eq λd=>by rw [fD];grind⟩ (λj σ H' _ q=>?_) ?_ ?_
   ·obtain ⟨_,_,_,b',_⟩:=q;exact fY.of (b'.at nLp e5)
   ·rintro j y σ H6 ξ ⟨o5',R,rfl,b6,ο,l6,D6⟩;have hj:j<F:=by rw [<-ly];exact (aO.mp ξ).1
    obtain ⟨m,hm,rm⟩:=dS τ ξ;have ψ:m=bN e.1 j:=by
     rw [aI,eN Oo] at hm;simpa using hm.symm
    have msum:m.sum=e.1.sum+1:=by rw [ψ];exact mQ Oo
    have mks:m∈es.map (·.1):=by rw [ψ];exact RL.fwd e u sne j hj
    have mM:m.sum<=M:=by obtain ⟨e',he',rfl⟩:=aT.mp mks;exact RO.sum e' he'
    obtain ⟨cm,rfl,hcm⟩:=lB rm;have t6:dL H5 H6:=aU.tT b6 η;have Z:=t6 _ _ hcm;have hnz:gI K H6 (0,1) (.ref c.NOUGHT):=⟨c.NOUGHT,rfl,pQ T.o_NOUGHT⟩;have hg:=D6.get m hnz;have qX:Qn N (1+4*B*i+B*4) (cD F (es.take i) m+cD F es e.1*s0 e*dG j λf=>if bN e.1 f=m then 1 else 0):=by
     have ω:Qn 1 4 (dG j λf=>if bN e.1 f=m then 1 else 0):=by
      have:=Qn.sumR (N:=1) (B:=1) (n:=j) (f:=λf=>if bN e.1 f=m then 1 else 0) λf _=>by
       split
       ·exact Qn.one' _
       ·exact Qn.zero _ _
      exact this.le Oo
     have δ:=qy.mul ω;rw [Nat.mul_one] at δ;exact (RO.part f4 i Oo m).add δ
    generalize hX:cD F (es.take i) m+cD F es e.1*s0 e*(dG j λf=>if bN e.1 f=m then 1 else 0)=Xm at qX hg;refine ⟨_,rfl,p,rfl,.inr ⟨R,.inl ο⟩,_,rfl,_,vP.ct (c:=ci m) ο (by rw [pB];exact Z),⟨_,rfl,?_⟩⟩;refine nP hg (gI.of (ε.flat t6 (fV _))) (bO _) (bO _) (gM qX RO.n0 RO.nz (RO.bg Oo)) (gM qy RO.n0 RO.nz RO.b2) λq7 H7 hq7 e7 s7=>?_;have ea:pC (cW Xm) (cW (cD F es e.1*s0 e))=cW (Xm+cD F es e.1*s0 e):=hV (qO (bO _) (bO _)) (bO _) (by rw [uN (bO _).pos (bO _).pos,dI,dI,dI]);rw [ea] at e7;refine ⟨_,rfl,_,rfl,?_⟩;have μ:=s7 _ _ ο;refine dpT μ (c:=ci m) (by rw [pB];exact s7 _ _ Z) Oo λH8 e8 b8=>?_;have t8:dL H7 H8:=aU.tT b8 μ;refine ⟨_,_,rfl,(b6.trans s7.but).trans b8,e8,?_,?_⟩
    ·have:=kW R (kT (ci m)) (V.ref q7);omega
    ·have D7:=D6.t s7.t;have D8:=(D7.put (c:=m) (v:=.ref q7) (y:=cD F es e.1*s0 e) (by rw [hX];exact .inl (fU e7))).t t8;refine D8.eq λd=>?_;rw [dP,<-ψ];by_cases q:m=d
     ·rw [if_pos q,if_pos q];grind
     ·rw [if_neg q,if_neg q];grind
   ·rintro σ H6 ⟨o5',R,rfl,b6,ο,l6,D6⟩;rw [ly] at l6 D6;refine ⟨_,_,_,_,R,rfl,bA.thru hp S5 b6,ο,Oo,D6.eq λd=>?_⟩;rw [eS Y,iJ,α];rfl
  ·have z0:s0 e=0:=dQ λq=>on (χ.mpr q);refine ⟨_,_,_,_,r,rfl,S3,e3,Oo,D3.eq λd=>?_⟩;rw [eS Y,iJ,z0];grind
 ·rintro σ H3 ⟨o2,o3,o4,θ,r,rfl,S3,e3,l3,D3⟩;rw [lx,bP] at D3;refine ⟨_,rfl,a,rfl,⟨_,fN.of (S3 _ _ ha)⟩,oC (λi y H'=>∃(e:cL) (b C:Addr) (O:V),es[i]?=some e/\y=.ref b/\H' b=some (.tup [.ref C,O])/\H' C=some (.tup (e.1.map lE))/\nD K H' (cW (cD F es e.1)) O) (λi y H1 H2 s ⟨e,b,C,O,h1,h2,ω,h5,δ⟩=>⟨e,b,C,O,h1,h2,s _ _ ω,s _ _ h5,δ.t s⟩) Oo (S3 _ _ ha) (λi x H' Q' hx ρ k'=>?_) (λD J H8 hD hD8 s8 hy8 hr8=>?_)⟩
  ·obtain ⟨e,Y,re⟩:=ν i x hx;have u:=aR Y;obtain ⟨b,C,z,rfl,hb,I,rz⟩:=re.t (S3.trans ρ).t;obtain ⟨O,β,S⟩:=D3.val (d:=e.1) (by have:=RL.posf u;grind);refine ⟨_,rfl,iI hb rfl ?_⟩;refine ⟨_,rfl,_,rfl,iI hb rfl ?_⟩;refine dgT (ρ _ _ e3) (c:=ci e.1) (by rw [pB];exact I) β (rK (by show 2<=64;decide) λq5 H5 hq5 e5 X=>?_);exact k' _ H5 X ⟨e,q5,C,O,Y,rfl,e5,X _ _ I,(S.same ρ).same X⟩
  ·refine ⟨D,J,rfl,.inl ⟨fY.of hD8,λl hl=>?_⟩⟩;have υ:=bA.upd (o:=.tup J) hl;have el:(upd H8 l (.tup J)) l=some (.tup J):=bL;generalize upd H8 l (.tup J)=H9 at υ el;refine k l J H9 ((S3.trans s8).trans υ) el Oo λi e hi=>?_;obtain ⟨y,ξ⟩:∃y,J[i]?=some y:=⟨_,aC (by have:=(aO.mp hi).1;omega)⟩;obtain ⟨e',b,C,O,h1,rfl,ω,h5,δ⟩:=hr8 i y ξ;rw [hi] at h1;cases h1;exact ⟨b,C,O,ξ,υ _ _ ω,υ _ _ h5,δ.same υ⟩
end
abbrev aBS:Stmt:=(top 27)
theorem aAq:cI ["trial","rule","way","found","entry","amount"] ["trial","rule","way"] (bB aBS):=⟨rfl,rfl,rfl,Kk,rfl,Kk,Kk⟩
abbrev XR:Stmt:=(top 28)
theorem aFZ:cI ["came","way"] ["came","way"] (bB XR):=⟨rfl,rfl,rfl,Kk,rfl,Kk,Kk⟩
def PY(F:Nat)(es:List cL)(s:List Fr)(e:cL):Fr:=cW (cD F es e.1*wq s e.1)
def came(F:Nat)(es:List cL)(s:List Fr):List (cL × Fr):=es.map λe=>(e,PY F es s e)
def IA(K:KFr)(H:Hp)(x:cL × Fr)(v:V):Prop:=∃b cu z y,v=.ref b/\H b=some (.tup [.ref cu,z,y])/\H cu=some (.tup (x.1.1.map lE))/\SaW K H x.1.2 z/\cE H (fO x.2) y
theorem IA.t{K:KFr}{H H':Hp}{x:cL × Fr}{v:V}(s:dL H H')(h:IA K H x v):IA K H' x v:=by
 obtain ⟨b,c,z,y,j,a,i,d,e⟩:=h;exact ⟨b,c,z,y,j,s _ _ a,s _ _ i,d.t s,e.flat s (fV _)⟩
theorem aEh{K:KFr}{H H':Hp}(s:dL H H'){l:List (cL × Fr)}{zs:List V}(h:Paired (IA K H) l zs):Paired (IA K H') l zs:=Paired.imp' (λ_ _ h=>h.t s) h
theorem HJ{K:KFr}{H:Hp}:∀{l:List (cL × Fr)}{zs:List V}{x:cL × Fr}{v:V},Paired (IA K H) l zs->IA K H x v->Paired (IA K H) (l++[x]) (zs++[v])
 | _,_,_,_,.nil,h=>.cons h .nil
 | _,_,_,_,.cons r t,h=>.cons r (HJ t h)
section
variable{F W M N B Ns:Nat}{es:List cL}{s:List Fr}
theorem oM.aq(R:oM F W M N B Ns es)(hs:∀f∈s,Fn Ns 1 f){e:cL}(h:e∈es):Qn (N*Ns^M) B (cD F es e.1*wq s e.1):=by
 have:=(R.fl e h).mul (QT (M:=M) hs (R.sum e h))
 rwa [Nat.mul_one] at this
theorem oM.aqs(R:oM F W M N B Ns es)(hs:∀f∈s,Fn Ns 1 f){e:cL}(h:e∈es)(v:Nat):Qn (N*Ns^M) B (cD F es e.1*wq s e.1*eV e.2 v):=by
 have:=(R.fs e h v).mul (QT (M:=M) hs (R.sum e h));rw [Nat.mul_one] at this;rw [show cD F es e.1*wq s e.1*eV e.2 v=cD F es e.1*eV e.2 v*wq s e.1 by grind];exact this
theorem oM.wn(R:oM F W M N B Ns es):Ns^M<2^2500:=by
 have a:1*Ns^M<=N*Ns^M:=cS _ R.n0;rw [Nat.one_mul] at a;exact aY a R.pz.2
end
theorem Qn.sumL{α:Type}{N B:Nat}{f:α->Rat}:∀{l:List α},(∀a∈l,Qn N B (f a))->Qn N (l.length*B) (bY l f)
 | [],_=>by rw [fG];exact Qn.zero _ _
 | a::l,h=>by
  rw [cJ,dB,Nat.add_mul,Nat.one_mul,Nat.add_comm];exact (h a (aQ ..)).add (Qn.sumL λx hx=>h x (aG _ hx))
theorem vR{α:Type}{p:α->Bool}{f:α->Rat}:∀{l:List α},(∀a∈l,p a=false->f a=0)->bY (l.filter p) f=bY l f
 | [],_=>rfl
 | a::l,h=>by
  have ih:=vR λx b=>h x (aG a b);cases q:p a with
  | true=>rw [List.filter_cons_of_pos q,cJ,cJ,ih]
  | false=>rw [List.filter_cons_of_neg (by rw [q];decide),cJ,ih,h a (aQ ..) q];grind
theorem CF{α:Type}{l:List α}{g:α->Fr}{f:α->Rat}(h:∀a∈l,dN (g a)/\rv (g a)=f a):pM (l.map g)=cW (bY l f):=by
 have c:∀x∈l.map g,dN x:=λx d=>by
  obtain ⟨a,b,rfl⟩:=aT.mp d;exact (h a b).1
 refine hV (FD _ c) (bO _) ?_;rw [IV _ c,dI,List.map_map];exact congrArg iP (eC λa b=>(h a b).2)
theorem JC(x y:Rat):nY (cW x) (cW y)=cW (x*y):=hV (mO (bO _) (bO _)) (bO _) (by rw [qE (bO _).pos (bO _).pos,dI,dI,dI])
theorem aC6(x y:Rat):pC (cW x) (cW y)=cW (x+y):=hV (qO (bO _) (bO _)) (bO _) (by rw [uN (bO _).pos (bO _).pos,dI,dI,dI])
theorem xM(x y:Rat):pC (cW x) (DI (cW y))=cW (x-y):=hV (qO (bO _) (yF (bO _))) (bO _) (by
 rw [uN (bO _).pos (yF (bO _)).pos,show DI (cW y)=(-(cW y).1,(cW y).2) from rfl,aBU,dI,dI,dI,Rat.sub_eq_add_neg])
@[irreducible] def kG(K:KFr):Sp:=λvs H Q _=>∃(t r:V) (es:List cL) (F W M N B Ns:Nat) (fs:List Str) (ws:List (Str × List Fr)) (i:Nat) (x:Str × List Fr),vs=[t,r,.int (i:Int)]/\cE H (xG fs ws) t/\HZ K H es r/\oM F W M N B Ns es/\1<=F/\F<=4/\ws[i]?=some x/\(∀f∈x.2,Fn Ns 1 f)/\BOk 10 x.2/\∀D ys H',H D=none->H' D=some (.lst ys)->Paired (IA K H') (came F es x.2) ys->bA H H'->Q (.ref D) H'
theorem sV{K:KFr}{H:Hp}{Q:VK}{E:XK}{t r:V}{es:List cL}{F W M N B Ns:Nat}{fs:List Str}{ws:List (Str × List Fr)}{i:Nat}{x:Str × List Fr}(h1:cE H (xG fs ws) t)(h2:HZ K H es r)(h3:oM F W M N B Ns es)(h4:1<=F)(h5:F<=4)(h7:ws[i]?=some x)(h8:∀f∈x.2,Fn Ns 1 f)(h9:BOk 10 x.2)
  (k:∀D ys H',H D=none->H' D=some (.lst ys)->Paired (IA K H') (came F es x.2) ys->bA H H'->Q (.ref D) H'):kG K [t,r,.int (i:Int)] H Q E:=by
 unfold kG;exact ⟨t,r,es,F,W,M,N,B,Ns,fs,ws,i,x,rfl,h1,h2,h3,h4,h5,h7,h8,h9,k⟩
@[irreducible] def mC(K:KFr):Sp:=λvs H Q _=>∃(D:Addr) (ys:List V) (es:List cL) (F W M w N B Ns:Nat) (s:List Fr),vs=[.ref D,.int (w:Int)]/\H D=some (.lst ys)/\Paired (IA K H) (came F es s) ys/\oM F W M N B Ns es/\F<=4/\w<W/\(∀f∈s,Fn Ns 1 f)/\∀v H',bA H H'->cE H' (fO (cW (qD F es (wq s) w))) v->Q v H'
theorem CK{K:KFr}{H:Hp}{Q:VK}{E:XK}{D:Addr}{ys:List V}{es:List cL}{F W M w N B Ns:Nat}{s:List Fr}(h1:H D=some (.lst ys))(h2:Paired (IA K H) (came F es s) ys)(h3:oM F W M N B Ns es)(h4:F<=4)(h6:w<W)(h7:∀f∈s,Fn Ns 1 f)(k:∀v H',bA H H'->cE H' (fO (cW (qD F es (wq s) w))) v->Q v H'):mC K [.ref D,.int (w:Int)] H Q E:=by
 unfold mC;exact ⟨D,ys,es,F,W,M,w,N,B,Ns,s,rfl,h1,h2,h3,h4,h6,h7,k⟩
section
theorem aFA(F:jP K "comings" "comings" aBS f fd)(T:lC K mg c)(FQ14:fW dY P w K mg base 3 "amounts" ["rule"] (mI K))(FQ42:fW dY P w K mg base 2 "times" ["one","other"] (gO K))(FQ47:fW dY P w K mg base 3 "weight" ["trial","way","counts"] (nK K)):eT P w K mg base dY 4 f fd ["trial","rule","way"] (kG K):=by
 refine F.oky aAq λvs H Q E h=>?_;unfold kG at h;obtain ⟨t,r,l,F,W,M,N,B,Ns,fs,ws,iw,x,rfl,rt,ω,RO,f1,f4,hx,O,μ,k⟩:=h;refine ⟨rfl,λcdv A ο s ρ=>?_⟩;obtain ⟨a,xs,rfl,Z,lx,ζ⟩:=id ω;have few:=RO.few;refine ⟨_,(aS (bS (i:=3) aAq.nd rfl (Or.inl rfl) (fC aJ))
  (aS (fB PassesOwn.never rfl (sA true true rfl T.b_zip (aP (aL 1) (aP (bV FQ14 (ρ.mono Dd) (aP (aL 1) aJ)) aJ))) (kC rfl (dO (cX (i:=4) aAq.nd rfl (Or.inl rfl)) (dO (cX (i:=5) aAq.nd rfl (Or.inl rfl)) iN))) (bJ (jQ (pJ PySem.F.plainAttrs_list PySem.F.slot_list_append PySem.F.type_list_append sC (aL 3) (aP (eO (aP (bR bK (aL 4) aM (λ_ _=>rfl)) (aP (bR bK (aL 4) aM (λ_ _=>rfl)) (aP (bV FQ42 (ρ.mono Dd) (aP (bR bK (aL 5) aM (λ_ _=>rfl)) (aP (bV FQ47 (ρ.mono Dd) (aP (aL 0) (aP (aL 2) (aP (bR bK (aL 4) aM (λ_ _=>rfl)) aJ)))) aJ))) aJ)))) aJ)))))
  (bJ (cP (aL 3))))),?_⟩
 refine uU (by show 0<=64;decide) λL H1 α τ s1=>⟨_,rfl,_,rfl,?_⟩;refine CO (ω.t s1.t) RO f1 f4 λam ys H2 u U ly k2=>⟨a,am,xs,ys,rfl,u _ _ (s1 _ _ Z),U,?_⟩;refine MK (xs:=xs) (ys:=ys) (λi σ H'=>∃(η γ:Option V) (n:List V),σ=[some t,some (.ref a),some (.int (iw:Int)),some (.ref L),η,γ]/\aU L H2 H'/\H' L=some (.lst n)/\Paired (IA K H') ((came F l x.2).take i) n) ⟨_,_,[],rfl,(bA.refl _).but,u _ _ τ,.nil⟩ (λi σ H' ⟨_,_,_,_,b',_⟩=>?_) ?_ ?_
 ·have na:a≠L:=λz=>by rw [z,α] at Z;cases Z
  have β:am≠L:=λz=>by rw [z,u _ _ τ] at U;cases U
  exact ⟨b'.at na (u _ _ (s1 _ _ Z)),b'.at β U⟩
 ·rintro i y z q3 σ H3 H4 hy ε ⟨η,γ,n,rfl,Y,e3,G⟩ hq3 e4 X;obtain ⟨e,θ,re⟩:=ζ i y hy;have J:=aR θ;have ι:=Y.t (u _ _ τ);have p:=ι.trans X.t;have I:=(s1.trans u).t.trans p;obtain ⟨b,cu,v,rfl,ν,S,υ⟩:=re.t I;have ru:cE H4 (gW e.1) (.ref cu):=nB S;obtain ⟨bz,cz,va,D,R,_,κ⟩:=k2 i e θ;rw [ε] at D;cases D;have o:H4 L=some (.lst n):=X _ _ e3;have lz:n.length<=64:=by
   rw [<-G.length,cB];unfold came;rw [aB];omega
  refine ⟨q3,_,rfl,fN.of e4,rfl,_,_,rfl,_,_,rfl,rfl,⟨_,rfl,RF o,_,rfl,iI ν rfl ?_⟩⟩;refine ⟨_,rfl,iI ν rfl ?_⟩;refine ⟨_,rfl,iI (p _ _ R) rfl ?_⟩;refine ⟨_,rfl,_,rfl,_,rfl,iI ν rfl ?_⟩;have δ:=RO.sum e J;have m6:=RO.m;refine FI (rt.flat I (pL fs ws)) hx ru μ Oo λxw H5 χ fw=>?_;have j:dN (rJ (x.2.zip e.1)):=sJ _ λz ε=>(O z.1 (List.of_mem_zip (a:=z.1) (b:=z.2) ε).1).low;refine iE ((κ.t p).same χ).v fw.v (bO _) j (gM (RO.fl e J) RO.n0 RO.nz RO.b2) (vO (Qn.f j (QT (M:=M) O δ)) (Nat.pow_pos RO.s1) (bH RO.wn (bD Dd Dd)) Nat.one_le_two_pow) λq6 H6 hq6 ψ s6=>?_;have em:nY (cW (cD F l e.1)) (rJ (x.2.zip e.1))=PY F l x.2 e:=hV (mO (bO _) j) (bO _) (by rw [qE (bO _).pos j.pos,dI];unfold PY;rw [dI];rfl);rw [em] at ψ;refine rK (by show 3<=64;decide) λξ H7 hq7 e7 s7=>?_;have d:=(χ.trans s6).trans s7;refine WC (d _ _ o) Oo λH8 e8 φ=>?_;have C:=φ.t (d _ _ o);refine ⟨_,_,n++[.ref ξ],rfl,(Y.trans (X.trans d).but).trans φ,e8,?_⟩;have ec:(came F l x.2)[i]?=some (e,PY F l x.2 e):=by unfold came;rw [aI,θ];rfl
  rw [eS ec];exact HJ (aEh ((X.trans d).t.trans C) G) ((show IA K H7 (e,PY F l x.2 e) (.ref ξ) from ⟨ξ,cu,v,_,rfl,e7,d _ _ S,υ.t d.t,fU (s7 _ _ ψ)⟩).t C)
 ·rintro σ H3 ⟨η,γ,n,rfl,Y,e3,G⟩;refine ⟨_,rfl,?_⟩;have hc:(came F l x.2).take (min xs.length ys.length)=came F l x.2:=List.take_of_length_le (by unfold came;rw [aB];omega);rw [hc] at G;exact k L n H3 α e3 G (bA.thru α (s1.trans u) Y)
theorem aFf(F:jP K "said_of" "said_of" XR f fd)(T:lC K mg c)(FQ44:fW dY P w K mg base 3 "total" ["some"] (kR K))(FQ42:fW dY P w K mg base 2 "times" ["one","other"] (gO K)):eT P w K mg base dY 4 f fd ["came","way"] (mC K):=by
 refine F.oky aFZ λφ H Q E h=>?_;unfold mC at h;obtain ⟨D,ys,a,F,W,M,d,N,B,ν,s,rfl,hD,n,RO,f4,ω,j,k⟩:=h;refine ⟨rfl,λY A C s9 S=>?_⟩;have few:=RO.few;refine ⟨_,(bJ (cP (bV FQ44 (S.mono Dd) (aP (zR (eF.of (psc:=bB XR) (N:=["came","way"]) (xs:=["counts","says","share"]) (N':=["counts","says","share","way"]) (js:=[1]) Kk rfl rfl rfl) (fX (aL 0)) (λ_ _ _ _=>eZ) (λ_ _ _ _=>(bV FQ42 (S.mono Dd) (aP (aL 2) (aP (bR (fK K) (aL 1) (cN fL aM (aL 3)) (λ_ _=>rfl)) aJ))))) aJ)))),?_⟩;refine ⟨_,rfl,D,rfl,⟨_,fY.of hD⟩,oD (as:=came F a s) (λ_=>true) (λx v=>IA K H x v) (λx y H'=>cE H' (fO (cW (cD F a x.1.1*wq s x.1.1*eV x.1.2 (1+d)))) y) (λx y H1 H2 s r=>r.flat s (fV _)) (by unfold came;rw [aB];omega) hD n (λv x H' τ κ ε=>?_) (λL zs H2 υ U ξ pr=>?_)⟩
 ·obtain ⟨e,l,rfl⟩:=aT.mp τ;obtain ⟨b,θ,z,y,rfl,η,ρ,α,ι⟩:=κ.t ε.t;refine ⟨b,[.ref θ,z,y],rfl,fN.of η,rfl,λQ' h=>h H' (bA.refl _),λH5 Q' J _ δ=>?_⟩;obtain ⟨ψ,vz,rfl,o,u⟩:=α.t J.t;have i:=RO.sy e l;obtain ⟨g,G⟩:∃g,e.2[1+d]?=some g:=⟨_,aC (by rw [i.len];omega)⟩;obtain ⟨χ,p,I⟩:=u.get G;have m:=i.at_ g (aR G);refine ⟨_,rfl,_,rfl,_,rfl,_,_,rfl,rfl,iI o (by have:=dM p;rwa [show ((1+d:Nat):Int)=1+(d:Int) by omega] at this) ?_⟩;refine iE (gI.of (ι.same J)) I.v (bO _) m.1 (gM (RO.aq j l) RO.pz.1 RO.pz.2 RO.b2) (m.2.2.up Dd) λq6 H6 γ β Z=>δ _ H6 Z (fU ?_);have ο:nY (PY F a s e) g=cW (cD F a e.1*wq s e.1*eV e.2 (1+d)):=hV (mO (bO _) m.1) (bO _) (by rw [qE (f:=PY F a s e) (bO _).pos m.1.pos,aBl G];unfold PY;rw [dI,dI]);rw [<-ο];exact β
 ·rw [yV] at pr;have O:=yC (g:=λx:cL × Fr=>cW (cD F a x.1.1*wq s x.1.1*eV x.1.2 (1+d))) pr;have e3:(came F a s).map (λx:cL × Fr=>cW (cD F a x.1.1*wq s x.1.1*eV x.1.2 (1+d)))=a.map λe=>cW (cD F a e.1*wq s e.1*eV e.2 (1+d)):=by unfold came;rw [List.map_map];rfl
  rw [e3] at O;have μ:∀f∈a.map (λe=>cW (cD F a e.1*wq s e.1*eV e.2 (1+d))),Fn (N*ν^M) B f:=λf X=>by
   obtain ⟨e,l,rfl⟩:=aT.mp X;exact (RO.aqs j l _).fq
  refine kD U (HY.of O) (zH μ RO.pz.1 (bH RO.pz.2 (bD Dd Dd)) (by rw [aB];exact few) (aZ RO.b2 (bD Dd Dd))) λv H3 ζ R=>?_;rw [CF (f:=λe:cL=>cD F a e.1*wq s e.1*eV e.2 (1+d)) λe _=>⟨bO _,dI _⟩] at R;exact k v H3 (ξ.trans ζ) R
end
abbrev aBx:Stmt:=(top 31)
theorem aCX:cI ["trial","rule","found","way"] ["trial","rule"] (bB aBx):=⟨rfl,rfl,rfl,Kk,rfl,Kk,Kk⟩
structure TrG(W Ns:Nat)(ws:List (Str × List Fr)):Prop where
 w:ws.length=W
 sh:∀x∈ws,∀f∈x.2,Fn Ns 1 f
 b:∀x∈ws,BOk 10 x.2
theorem SX{ws:List (Str × List Fr)}{i:Nat}{x:Str × List Fr}(h:ws[i]?=some x):qOf (wSh ws) i=wq x.2:=by
 funext c
 unfold qOf;rw [MI (show (wSh ws)[i]?=some x.2 by rw [aI,h];rfl)]
def wrF(F W:Nat)(es:List cL)(ss:List (List Fr))(w:Nat):Fr:=cW (1-qD F es (qOf ss w) w)
@[irreducible] def kQ(K:KFr):Sp:=λvs H Q _=>∃(t r:V) (es:List cL) (F W M N B Ns:Nat) (fs:List Str) (ws:List (Str × List Fr)),vs=[t,r]/\cE H (xG fs ws) t/\HZ K H es r/\oM F W M N B Ns es/\1<=F/\F<=4/\W<=4/\TrG W Ns ws/\∀v H',bA H H'->cE H' (vU ((List.range W).map (wrF F W es (wSh ws)))) v->Q v H'
theorem II{K:KFr}{H:Hp}{Q:VK}{E:XK}{t r:V}{es:List cL}{F W M N B Ns:Nat}{fs:List Str}{ws:List (Str × List Fr)}(h1:cE H (xG fs ws) t)(h2:HZ K H es r)(h3:oM F W M N B Ns es)(h4:1<=F)(h5:F<=4)(h6:W<=4)(h7:TrG W Ns ws)(k:∀v H',bA H H'->cE H' (vU ((List.range W).map (wrF F W es (wSh ws)))) v->Q v H'):kQ K [t,r] H Q E:=by unfold kQ;exact ⟨t,r,es,F,W,M,N,B,Ns,fs,ws,rfl,h1,h2,h3,h4,h5,h6,h7,k⟩
section
variable{F W M N B Ns:Nat}{es:List cL}{s:List Fr}
theorem oM.said(R:oM F W M N B Ns es)(hs:∀f∈s,Fn Ns 1 f)(w:Nat):Qn (N*Ns^M) (64*B) (qD F es (wq s) w):=(Qn.sumL (λe a=>R.aqs hs a (1+w))).le (cS _ R.few)
theorem oM.b64(R:oM F W M N B Ns es):64*B<=2^200:=aZ (eB 64 R.b) Kk
end
section
theorem aE3(F:jP K "wrong" "wrong" aBx f fd)(T:lC K mg c)(FQ46:fW dY P w K mg base 1 "ways_of" ["trial"] nM)(FQ26:fW dY P w K mg base 3 "less" ["one","other"] (iW K))(FQ37:fW dY P w K mg base 4 "said_of" ["came","way"] (mC K))(FQ16:fW dY P w K mg base 4 "comings" ["trial","rule","way"] (kG K)):eT P w K mg base dY 5 f fd ["trial","rule"] (kQ K):=by
 refine F.oky aCX λρ H Q E h=>?_;unfold kQ at h;obtain ⟨t,r,u,F,W,M,N,B,ψ,fs,p,rfl,J,μ,RO,ε,α,w4,TQ,k⟩:=h;refine ⟨rfl,λθ A G s n=>?_⟩;refine ⟨_,(aS (bS (i:=2) aCX.nd rfl (Or.inl rfl) (fC aJ))
  (aS (fB PassesOwn.never rfl (fQ rfl T.b_range (aP (bV FQ46 (n.mono Dd) (aP (aL 0) aJ)) aJ)) (cX (i:=3) aCX.nd rfl (Or.inl rfl)) (bJ (jQ (pJ PySem.F.plainAttrs_list PySem.F.slot_list_append PySem.F.type_list_append sC (aL 2) (aP (bV FQ26 (n.mono Dd) (aP (iB (v:=.ref c.ONE) rfl T.g_ONE rfl) (aP (bV FQ37 (n.mono Dd) (aP (bV FQ16 (n.mono Dd) (aP (aL 0) (aP (aL 1) (aP (aL 3) aJ)))) (aP (aL 3) aJ))) aJ))) aJ)))))
  (bJ (cP (jK dF (by rfl) T.b_tuple Kk (aP (aL 2) aJ)))))),?_⟩
 refine uU (by show 0<=64;decide) λL H1 δ Y m=>⟨_,rfl,?_⟩;refine FJ (J.same m) ?_;rw [TQ.w];refine ⟨_,rfl,Oo,Oo,?_⟩;rw [Int.toNat_natCast];refine iT (λi σ H'=>∃(z:Option V) (a:List V),σ=[some t,some r,some (.ref L),z]/\aU L H1 H'/\H' L=some (.lst a)/\bG H' (((List.range i).map (wrF F W u (wSh p))).map fO) a) ⟨_,[],rfl,(bA.refl _).but,Y,bG.nil⟩ ?_ ?_
 ·rintro i σ H2 O ⟨z,a,rfl,b2,e,j⟩;obtain ⟨x,I⟩:∃x,p[i]?=some x:=⟨_,aC (by rw [TQ.w];exact O)⟩;have d:=aR I;have S:dL H1 H2:=b2.t Y;rw [show (0:Int)+(i:Int)=(i:Int) by omega];refine ⟨_,rfl,RF e,_,rfl,_,rfl,_,rfl,?_⟩;refine sV ((J.same m).flat S (pL _ _)) ((μ.t m.t).t S) RO ε α I (TQ.sh x d) (TQ.b x d) λD φ H3 hD e3 ι ξ=>⟨_,rfl,?_⟩;refine CK e3 ι RO α O (TQ.sh x d) λχ H4 ζ ν=>?_;have y:gI K H4 (1,1) (.ref c.ONE):=⟨c.ONE,rfl,pQ T.o_ONE⟩;refine mF y (gI.of ν) JE (bO _) (vO (Fn.one 1) Dd Kk Nat.one_le_two_pow) (gM (RO.said (TQ.sh x d) i) RO.pz.1 RO.pz.2 RO.b64) λυ H5 ο X η=>?_;have γ:pC (1,1) (DI (cW (qD F u (wq x.2) i)))=wrF F W u (wSh p) i:=by
   unfold wrF;rw [SX I,<-jE,xM]
  rw [γ] at X;have S5:=(ξ.trans ζ).trans η;have τ:a.length=i:=by rw [j.len,aB,aB,cR]
  refine WC (S5 _ _ e) Oo λH6 κ U=>?_;have R:=U.t (S5 _ _ e);refine ⟨_,_,rfl,(b2.trans S5.but).trans U,κ,?_⟩;rw [List.range_succ,bZ,bZ];exact bG.snoc (bG.flat (S5.t.trans R) (tM _) j) (cE.flat R (fV _) (fU X))
 ·rintro σ H2 ⟨z,a,rfl,b2,e,j⟩;refine ⟨_,rfl,L,a,rfl,.inl ⟨fY.of e,λl β=>?_⟩⟩;have C:=bA.upd (o:=.tup a) β;have Z:(upd H2 l (.tup a)) l=some (.tup a):=bL;generalize upd H2 l (.tup a)=H3 at C Z;exact k _ H3 ((bA.thru δ m b2).trans C) (cE.tup Z (j.same C))
end
abbrev XS:Stmt:=(top 29)
theorem aEm:cI ["trial","rule","way","came"] ["trial","rule","way"] (bB XS):=⟨rfl,rfl,rfl,Kk,rfl,Kk,Kk⟩
abbrev XY:Stmt:=(top 30)
theorem aGa:cI ["trial","rule","way"] ["trial","rule","way"] (bB XY):=⟨rfl,rfl,rfl,Kk,rfl,Kk,Kk⟩
abbrev WM(e:cL):Bool:=decide (s0 e≠0)
abbrev onD(x:Nat × Fr):PyData:=.tuple [.int (x.1:Int),fO x.2]
def onw(F:Nat)(es:List cL)(s:List Fr):List (Nat × Fr):=(es.filter WM).map λe=>(e.1.sum,cW (cD F es e.1*wq s e.1*s0 e))
@[irreducible] def mD(K:KFr):Sp:=λvs H Q _=>∃(t r:V) (es:List cL) (F W M N B Ns:Nat) (fs:List Str) (ws:List (Str × List Fr)) (i:Nat) (x:Str × List Fr),vs=[t,r,.int (i:Int)]/\cE H (xG fs ws) t/\HZ K H es r/\oM F W M N B Ns es/\1<=F/\F<=4/\ws[i]?=some x/\(∀f∈x.2,Fn Ns 1 f)/\BOk 10 x.2/\∀D ys H',H D=none->H' D=some (.lst ys)->bG H' ((onw F es x.2).map onD) ys->bA H H'->Q (.ref D) H'
theorem CL{K:KFr}{H:Hp}{Q:VK}{E:XK}{t r:V}{es:List cL}{F W M N B Ns:Nat}{fs:List Str}{ws:List (Str × List Fr)}{i:Nat}{x:Str × List Fr}(h1:cE H (xG fs ws) t)(h2:HZ K H es r)(h3:oM F W M N B Ns es)(h4:1<=F)(h5:F<=4)(h7:ws[i]?=some x)(h8:∀f∈x.2,Fn Ns 1 f)(h9:BOk 10 x.2)
  (k:∀D ys H',H D=none->H' D=some (.lst ys)->bG H' ((onw F es x.2).map onD) ys->bA H H'->Q (.ref D) H'):mD K [t,r,.int (i:Int)] H Q E:=by
 unfold mD;exact ⟨t,r,es,F,W,M,N,B,Ns,fs,ws,i,x,rfl,h1,h2,h3,h4,h5,h7,h8,h9,k⟩
def tU(F:Nat)(es:List cL)(q:List Nat->Rat):Rat:=bY es λe=>cD F es e.1*q e.1*s0 e
@[irreducible] def mH(K:KFr):Sp:=λvs H Q _=>∃(t r:V) (es:List cL) (F W M N B Ns:Nat) (fs:List Str) (ws:List (Str × List Fr)) (i:Nat) (x:Str × List Fr),vs=[t,r,.int (i:Int)]/\cE H (xG fs ws) t/\HZ K H es r/\oM F W M N B Ns es/\1<=F/\F<=4/\ws[i]?=some x/\(∀f∈x.2,Fn Ns 1 f)/\BOk 10 x.2/\∀v H',bA H H'->cE H' (fO (cW (tU F es (wq x.2)))) v->Q v H'
theorem CN{K:KFr}{H:Hp}{Q:VK}{E:XK}{t r:V}{es:List cL}{F W M N B Ns:Nat}{fs:List Str}{ws:List (Str × List Fr)}{i:Nat}{x:Str × List Fr}(h1:cE H (xG fs ws) t)(h2:HZ K H es r)(h3:oM F W M N B Ns es)(h4:1<=F)(h5:F<=4)(h6:ws[i]?=some x)(h7:(∀f∈x.2,Fn Ns 1 f))(h8:BOk 10 x.2)(k:∀v H',bA H H'->cE H' (fO (cW (tU F es (wq x.2)))) v->Q v H'):mH K [t,r,.int (i:Int)] H Q E:=by unfold mH;exact ⟨t,r,es,F,W,M,N,B,Ns,fs,ws,i,x,rfl,h1,h2,h3,h4,h5,h6,h7,h8,k⟩
section
variable{F W M N B Ns:Nat}{es:List cL}{s:List Fr}
theorem oM.avg(R:oM F W M N B Ns es)(hs:∀f∈s,Fn Ns 1 f):Qn (N*Ns^M) (64*B) (tU F es (wq s)):=(Qn.sumL (f:=λe=>cD F es e.1*wq s e.1*s0 e) λe a=>R.aqs hs a 0).le (cS _ R.few)
end
section
theorem aFk(F:jP K "onwards" "onwards" XS f fd)(T:lC K mg c)(FQ16:fW dY P w K mg base 4 "comings" ["trial","rule","way"] (kG K))(FQ42:fW dY P w K mg base 2 "times" ["one","other"] (gO K))(FQ28:fW dY P w K mg base 1 "looks_on" ["says"] (lS K)):eT P w K mg base dY 5 f fd ["trial","rule","way"] (mD K):=by
 refine F.oky aEm λvs H Q E h=>?_;unfold mD at h;obtain ⟨t,r,a,F,W,M,N,B,Ns,fs,ws,iw,x,rfl,η,ρ,RO,κ,f4,hx,m,O,k⟩:=h;refine ⟨rfl,λν A R s U=>?_⟩;have few:=RO.few;refine ⟨_,(aS (bS (i:=3) aEm.nd rfl (Or.inl rfl) (bV FQ16 (U.mono Dd) (aP (aL 0) (aP (aL 1) (aP (aL 2) aJ)))))
  (bJ (cP (zR (eF.of (psc:=bB XS) (N:=["trial","rule","way","came"]) (xs:=["counts","says","share"]) (N':=["counts","says","share"]) (js:=[]) Kk rfl rfl rfl) (fX (aL 3)) (λ_ _ _ _=>sF (mX (bV FQ28 (U.mono Dd) (aP (aL 1) aJ)))) (λ_ _ _ _=>(eO (aP (gK (aAg K rfl) (by rfl) T.b_sum Kk (aP (aL 0) aJ)) (aP (bV FQ42 (U.mono Dd) (aP (aL 2) (aP (bR (fK K) (aL 1) aM (λ_ _=>rfl)) aJ))) aJ)))))))),?_⟩
 refine ⟨_,rfl,_,rfl,_,rfl,?_⟩;refine sV η ρ RO κ f4 hx m O λD ys H1 hD u r1 β=>⟨_,rfl,D,rfl,⟨_,fY.of u⟩,oD (as:=came F a x.2) (λy=>WM y.1) (λy v=>IA K H1 y v) (λy v H'=>cE H' (onD (y.1.1.sum,cW (cD F a y.1.1*wq x.2 y.1.1*s0 y.1))) v) (λx y H1 H2 s r=>r.flat s rfl) (by unfold came;rw [aB];omega) u r1 (λv y H' ξ S χ=>?_) (λL ε H2 ι θ s2 pr=>?_)⟩
 ·obtain ⟨e,γ,rfl⟩:=aT.mp ξ;obtain ⟨b,cu,z,y,rfl,hb,l,α,S⟩:=S.t χ.t;obtain ⟨d,fr,δ,Y,φ,ω,v0,n⟩:=(RO.sy e γ).hd;have J:s0 e=rv d:=v0;refine ⟨b,[.ref cu,z,y],rfl,fN.of hb,rfl,λQ' h=>?_,λH5 Q' C hp υ=>?_⟩
  ·refine ⟨_,rfl,vT (f:=d) (fs:=fr) (by rw [<-δ];exact α) ?_⟩;refine ⟨_,rfl,?_⟩;have u:decide (0<d.1)=WM e:=by
    by_cases q:0<d.1
    ·rw [cG q];exact (cG (n.mp q)).symm
    ·rw [bU q];exact (bU λz=>q (n.mpr z)).symm
   rw [u];exact h H' (bA.refl _)
  ·have l:=C _ _ l;obtain ⟨az,vz,rfl,I,o⟩:=α.t C.t;rw [δ] at o;obtain ⟨y0,X,G⟩:=o.get (i:=0) rfl;refine ⟨_,rfl,rsT (ns:=ci e.1) (by rw [pB];exact fN.of l) ?_⟩;rw [aCW];refine ⟨_,rfl,_,rfl,iI I (dM (j:=0) X) ?_⟩;refine iE (gI.of (S.same C)) G.v (bO _) Y (gM (RO.aq m γ) RO.pz.1 RO.pz.2 RO.b2) (φ.up Dd) λq6 H6 τ p ο=>?_;have em:nY (PY F a x.2 e) d=cW (cD F a e.1*wq x.2 e.1*s0 e):=hV (mO (bO _) Y) (bO _) (by rw [qE (f:=PY F a x.2 e) (bO _).pos Y.pos,J];unfold PY;rw [dI,dI]);have p:H6 q6=some (.tup [.int (nY (PY F a x.2 e) d).1,.int (nY (PY F a x.2 e) d).2]):=p;rw [em] at p;exact rK (by show 2<=64;decide) λq7 H7 μ ψ ζ=>υ _ H7 (ο.trans ζ) (cE.tup ψ (bG.cons (cE.int _) (bG.cons (fU (ζ _ _ p)) bG.nil)))
 ·refine k L ε H2 (β.free ι) θ ?_ (β.trans s2);have Z:bG H2 (((came F a x.2).filter λy=>WM y.1).map λy=>onD (y.1.1.sum,cW (cD F a y.1.1*wq x.2 y.1.1*s0 y.1))) ε:=Paired.toRepL pr;have e3:((came F a x.2).filter λy=>WM y.1).map (λy=>onD (y.1.1.sum,cW (cD F a y.1.1*wq x.2 y.1.1*s0 y.1)))=(onw F a x.2).map onD:=by
   unfold came onw;rw [List.filter_map,List.map_map,List.map_map];rfl
  rw [e3] at Z;exact Z
theorem aFB(F:jP K "average" "average" XY f fd)(T:lC K mg c)(FQ44:fW dY P w K mg base 3 "total" ["some"] (kR K))(FQ32:fW dY P w K mg base 5 "onwards" ["trial","rule","way"] (mD K)):eT P w K mg base dY 6 f fd ["trial","rule","way"] (mH K):=by
 refine F.oky aGa λτ H Q E h=>?_;unfold mH at h;obtain ⟨t,r,b,F,W,M,N,B,I,fs,φ,i,x,rfl,O,δ,RO,U,ξ,ο,d,o,k⟩:=h;refine ⟨rfl,λZ A p s G=>?_⟩;have few:=RO.few;refine ⟨_,(bJ (cP (bV FQ44 (G.mono Dd) (aP (jJ (eF.of (psc:=bB XY) (N:=["trial","rule","way"]) (xs:=["looks","share"]) (N':=["looks","share"]) (js:=[]) Kk rfl rfl rfl) (fX (bV FQ32 (G.mono Dd) (aP (aL 0) (aP (aL 1) (aP (aL 2) aJ))))) (λ_ _ _ _=>eZ) (λ_ _ _ _=>(aL 1))) aJ)))),?_⟩;refine ⟨_,rfl,_,rfl,_,rfl,?_⟩;refine CL O δ RO U ξ ο d o λD xs H1 hD J C γ=>⟨D,rfl,⟨_,fY.of J⟩,?_⟩;have l:bG H1 ((b.filter WM).map λe=>onD (e.1.sum,cW (cD F b e.1*wq x.2 e.1*s0 e))) xs:=by unfold onw at C;rw [List.map_map] at C;exact C
 have R:=List.length_filter_le WM b;refine oD (as:=b.filter WM) (λ_=>true) (λe v=>cE H1 (onD (e.1.sum,cW (cD F b e.1*wq x.2 e.1*s0 e))) v) (λe v H'=>cE H' (fO (cW (cD F b e.1*wq x.2 e.1*s0 e))) v) (λx y H1 H2 s r=>r.flat s (fV _)) Oo J (Paired.ofRepL l) (λv e H' j ι η=>?_) (λL ψ H2 ρ S ν pr=>?_)
 ·obtain ⟨a,υ,rfl,μ,n⟩:=eU (ι.same η);obtain ⟨u,z,rfl,χ,β⟩:=iL n;refine ⟨a,[u,z],rfl,fN.of μ,rfl,λQ' h=>h H' (bA.refl _),λH5 Q' Y _ ζ=>?_⟩;exact ⟨_,rfl,ζ _ H5 (bA.refl _) (β.same Y)⟩
 ·rw [yV] at pr;have α:=yC (g:=λe:cL=>cW (cD F b e.1*wq x.2 e.1*s0 e)) pr;have κ:∀f∈(b.filter WM).map (λe=>cW (cD F b e.1*wq x.2 e.1*s0 e)),Fn (N*I^M) B f:=λf X=>by
   obtain ⟨e,j,rfl⟩:=aT.mp X;exact (show Qn (N*I^M) B (cD F b e.1*wq x.2 e.1*s0 e) from RO.aqs d (gF.mp j).1 0).fq
  refine kD S (HY.of α) (zH κ RO.pz.1 (bH RO.pz.2 (bD Dd Dd)) (by rw [aB];omega) (aZ RO.b2 (bD Dd Dd))) λv H3 θ m=>?_;rw [CF (f:=λe:cL=>cD F b e.1*wq x.2 e.1*s0 e) λe _=>⟨bO _,dI _⟩] at m;have ε:bY (b.filter WM) (λe:cL=>cD F b e.1*wq x.2 e.1*s0 e)=tU F b (wq x.2):=by
   unfold tU;exact vR λe _ j=>by rw [Classical.not_not.mp (of_decide_eq_false j)];grind
  rw [ε] at m;exact k v H3 ((γ.trans ν).trans θ) m
end
abbrev SJ:Stmt:=(top 53)
theorem aAs:cI ["_law_feed_here","_law_ways","_law_last","_law_parts","_law_k","_law_place"] ["_law_feed_here","_law_ways","_law_last"] (bB SJ):=⟨rfl,rfl,rfl,Kk,rfl,Kk,Kk⟩
abbrev sQ7:Stmt:=(top 54)
theorem cQ7:cI ["_law_counts","_law_face"] ["_law_counts","_law_face"] (bB sQ7):=⟨rfl,rfl,rfl,Kk,rfl,Kk,Kk⟩
abbrev LC:Nat:=360360
structure zO(n:Nat)(fs:List Fr):Prop where
 ex:∃ns:List Int,ns.length=n/\(∀x∈ns,0<=x)/\0<ns.sum/\ns.sum<=15/\fs=ns.map λx=>lw x ns.sum
theorem aEc:∀s,s<=15->1<=s->s ∣ LC:=Kk
theorem zO.fn{n:Nat}{fs:List Fr}(h:zO n fs):∀f∈fs,Fn LC 1 f/\0<=f.1/\f.1.natAbs<=15/\f.2.natAbs<=15:=by
 obtain ⟨m,l,d,o,i,rfl⟩:=h.ex;intro f c;obtain ⟨x,e,rfl⟩:=aT.mp c;have le:=oP d e;have j:=d x e;have c:=Fn.of (n:=x) (B:=1) o Oo;obtain ⟨r,p⟩:=c.num Oo;refine ⟨c.dvd (aEc _ Oo Oo),?_,Oo,Oo⟩;exact Int.ediv_nonneg (a:=x) (b:=((Int.gcd x m.sum:Nat):Int)) j (Int.natCast_nonneg _)
theorem zO.one{n:Nat}{fs:List Fr}(h:zO n fs):iP (fs.map rv)=1:=by
 obtain ⟨c,l,i,d,e,rfl⟩:=h.ex;have all:∀b:List Int,iP ((b.map λx=>lw x c.sum).map rv)*((c.sum:Int):Rat)=((b.sum:Int):Rat):=by
  intro b
  induction b with
  | nil=>simp [sL]
  | cons a b ih =>
   rw [bF,bF,nJ,List.sum_cons,Rat.intCast_add,Rat.add_mul,ih,vV d,Rat.div_def];have:=kX d;grind
 have:=all c;have j:=kX d;grind
theorem zO.g{n:Nat}{fs:List Fr}(h:zO n fs):SyG n fs where
 len:=by
  obtain ⟨e,l,o,i,a,rfl⟩:=h.ex;rw [aB];exact l
 at_:=λf c=>by
  obtain ⟨d,b,p,j⟩:=h.fn f c;have m:(15:Nat)<2^3000:=Kk;exact ⟨d.low,b,Oo,Oo⟩
 one:=h.one
theorem lG:∀{ns:List Int}{i:Nat}{x y:Int},ns[i]?=some y->(ns.set i x).sum=ns.sum-y+x
 | n::ns,0,x,y,h=>by
  cases (show n=y by simpa using h);rw [List.set_cons_zero,List.sum_cons,List.sum_cons];omega
 | n::ns,i+1,x,y,h=>by
  rw [List.set_cons_succ,List.sum_cons,List.sum_cons,lG (show ns[i]?=some y by simpa using h)];omega
theorem IT{ns:List Int}{i:Nat}{x:Int}(h:∀n∈ns,0<=n)(hx:0<=x):∀n∈ns.set i x,0<=n:=λn b=>by
 rcases List.mem_or_eq_of_mem_set b with a | rfl
 ·exact h n a
 ·exact hx
theorem ME{ns:List Int}{i:Nat}{x:Int}(h:ns[i]?=some x):HR (ns.map V.int) (i:Int)=some (.int x):=dM (by rw [aI,h];rfl)
theorem JG{ns:List Int}{i:Nat}(h:i<ns.length):MC (ns.map V.int).length (i:Int)=some i:=by
 unfold MC;rw [if_pos Oo,if_pos (by rw [aB];omega)]
 rfl
theorem QM:∀F:Nat,(List.replicate F (0:Int)).sum=0
 | 0=>rfl
 | n+1=>by rw [List.replicate_succ,List.sum_cons,QM n];rfl
@[irreducible] def sQ:Sp:=λvs H Q _=>∃(p L:Addr) (W:Nat) (b:Bool),vs=[.ref p,.int (W:Int),.bl b]/\cK H p L/\1<=W/\W<=4/\∀v fs H',cK H' p L->aU p H H'->cE H' (vU fs) v->zO (1+W) fs->(b=true->fs[0]?=some (0,1))->Q v H'
theorem OA{H:Hp}{Q:VK}{E:XK}{p L:Addr}{W:Nat}{b:Bool}(F:cK H p L)(h1:1<=W)(h4:W<=4)(k:∀v fs H',cK H' p L->aU p H H'->cE H' (vU fs) v->zO (1+W) fs->(b=true->fs[0]?=some (0,1))->Q v H'):sQ [.ref p,.int (W:Int),.bl b] H Q E:=by
 unfold sQ;exact ⟨p,L,W,b,rfl,F,h1,h4,k⟩
@[irreducible] def pV:Sp:=λvs H Q _=>∃(x:V) (cs:List Nat) (i:Nat),vs=[x,.int (i:Int)]/\cE H (gW cs) x/\i<cs.length/\cs.length<=64/\∀v H',bA H H'->cE H' (gW (bN cs i)) v->Q v H'
theorem IN{H:Hp}{Q:VK}{E:XK}{x:V}{cs:List Nat}{i:Nat}(h1:cE H (gW cs) x)(h2:i<cs.length)(h3:cs.length<=64)(k:∀v H',bA H H'->cE H' (gW (bN cs i)) v->Q v H'):pV [x,.int (i:Int)] H Q E:=by
 unfold pV;exact ⟨x,cs,i,rfl,h1,h2,h3,k⟩
section
theorem oQ7(F:jP K "_law_more" "_law_more" sQ7 f fd)(T:lC K mg c):eT P w K mg base dY 1 f fd ["_law_counts","_law_face"] pV:=by
 refine F.oky cQ7 λL H Q E h=>?_;unfold pV at h;obtain ⟨x,b,i,rfl,r,n,J,k⟩:=h;refine ⟨rfl,λu A m s I=>?_⟩;obtain ⟨a,rfl,j⟩:=lB r;refine ⟨_,(bJ (cP (cN (oU K) (cN (oU K) (hJ (qV K) (aL 0) jA (iZ (aL 1))) (eO (aP (cN fL (bR bK (aL 0) (aL 1) (λ_ _=>rfl)) aM) aJ))) (hJ (qV K) (aL 0) (iZ (cN fL (aL 1) aM)) jA)))),?_⟩;refine ⟨_,rfl,_,rfl,_,rfl,?_⟩;refine IS j λN H2 l B=>⟨_,rfl,_,rfl,?_⟩;have d:HR (b.map lE) (i:Int)=some (lE (b.getD i 0)):=dM (by rw [aI,aK,aC n];rfl);refine iI (l _ _ j) d ⟨_,_,rfl,rfl,?_⟩;refine rK (by show 1<=64;decide) λM H3 G e3 e=>JT (e _ _ B) e3 (by rw [cB,aB];show min i b.length+1<=1000;omega) λS H4 o C=>⟨_,rfl,_,rfl,_,_,rfl,rfl,?_⟩;refine ⟨_,rfl,?_⟩;refine CS (k:=i+1) Oo (o _ _ (e _ _ (l _ _ j))) λR H5 p D=>JT (p _ _ C) D (by rw [aV,cB,List.length_drop,aB];show min i b.length+1+(b.length-(i+1))<=1000;omega) λO H6 y z=>k _ H6 ((((l.trans e).trans o).trans p).trans y) (nB ?_);rw [z,HM n,bZ,bZ,List.map_take,List.map_drop]
 rfl
theorem aFF(F:jP K "_law_says" "_law_says" SJ f fd)(T:lC K mg c)(FQ2:fW dY P w K mg base 1 "_law_draw" ["_law_feed_here","_law_many"] jT)(FQ6:fW dY P w K mg base 1 "_law_low" ["_law_n","_law_d"] mE):eT P w K mg base dY 2 f fd ["_law_feed_here","_law_ways","_law_last"] sQ:=by
 refine F.oky aAs λvs H Q E h=>?_;unfold sQ at h;obtain ⟨p,L,W,b,rfl,F,w1,w4,k⟩:=h;refine ⟨rfl,λcdv A outer s α=>?_⟩;have bw:bits (W:Int)<=9000:=bitsle (aY (show ((W:Int)).natAbs<=5 by omega) Kk);have ω:bits (1+(W:Int))<=9000:=bitsle (aY (show ((1+(W:Int))).natAbs<=5 by omega) Kk);refine ⟨_,(aS (bS (i:=3) aAs.nd rfl (Or.inr rfl) (gX (fM.of (psc:=bB SJ) (N:=["_law_feed_here","_law_ways","_law_last","_law_parts","_law_k","_law_place"]) (N':=["_law_k"]) (js:=[]) Kk rfl rfl rfl) (fQ rfl T.b_range (aP (cN fL aM (aL 1)) aJ)) (λ_ _ _ _=>eZ) (λ_ _ _ _=>aM)))
  (aS (fB PassesOwn.never rfl (fQ rfl T.b_range (aP (cN fL aM (bV FQ2 (α.mono Dd) (aP (aL 0) (aP aM aJ)))) aJ)) (cX (i:=4) aAs.nd rfl (Or.inl rfl)) (aS (bS (i:=5) aAs.nd rfl (Or.inl rfl) (bR bK (fC (aP aM (aP (bV FQ2 (α.mono Dd) (aP (aL 0) (aP (cN fL aM (aL 1)) aJ))) aJ))) (bV FQ2 (α.mono Dd) (aP (aL 0) (aP aM aJ))) (λ_ _=>rfl)))
  (bJ (pH (cN fL (cN fL (bR bK (aL 3) (aL 5) (λ_ _=>rfl)) aM) (bV FQ2 (α.mono Dd) (aP (aL 0) (aP aM aJ)))) (pI (aL 3) (aL 5) kS)))))
  (aS (pH (cN fE (bR bK (aL 3) aM (λ_ _=>rfl)) (jK BG (by rfl) T.b_int Kk (aP (BW (aL 2)) aJ))) (pI (aL 3) aM kS))
  (aS (xA (lV (gJ AO (gK (VR rfl) (by rfl) T.b_sum Kk (aP (aL 3) aJ)) aM (nomark _)) (bJ (pH aM (pI (aL 3) (cN fL aM (bV FQ2 (α.mono Dd) (aP (aL 0) (aP (aL 1) aJ)))) kS))) iA))
  (bJ (cP (jK dF (by rfl) T.b_tuple Kk (aP (gX (fM.of (psc:=bB SJ) (N:=["_law_feed_here","_law_ways","_law_last","_law_parts","_law_k","_law_place"]) (N':=["_law_part","_law_parts"]) (js:=[3]) Kk rfl rfl rfl) (fX (aL 3)) (λ_ _ _ _=>eZ) (λ_ _ _ _=>(bV FQ6 (α.mono Dd) (aP (aL 0) (aP (gK (NA K rfl) (by rfl) T.b_sum Kk (aP (aL 1) aJ)) aJ))))) aJ)))))))),?_⟩
 refine ⟨_,rfl,_,_,rfl,rfl,_,rfl,Oo,Oo,rE (λ_ y _=>∃n,y=.int n/\n=0) (λ_ _ _ _ _ h=>h) Oo (λi H' Q' χ s' k'=>k' _ H' (bA.refl _) ⟨0,rfl,rfl⟩) (λD Z H1 hD e1 s1 hy κ=>?_)⟩;obtain ⟨ζ,rfl,J⟩:=tH (P:=λ_ n=>n=0) κ;have lz:ζ.length=1+W:=by rw [aB] at hy;omega
 have ez:ζ=List.replicate (1+W) 0:=List.eq_replicate_iff.mpr ⟨lz,λb U=>by obtain ⟨i,h⟩:=cU.mp U;exact J i b h⟩;have zsum:ζ.sum=0:=by rw [ez];exact QM _
 have aa:∀n∈ζ,0<=n:=λn θ=>by rw [ez] at θ;rw [List.eq_of_mem_replicate θ];exact Int.le_refl _
 clear J hy κ ez;have M:=F.ne hD;have ψ:=F.neL hD;have F1:=F.same s1;refine ⟨_,rfl,?_⟩;refine dA F1 Dd Kk λx H2 B x1 F2 s2=>?_;obtain ⟨m,rfl⟩:=mN B;refine ⟨_,_,rfl,rfl,_,rfl,Oo,Oo,iT (λi σ H'=>∃(τ ο:Option V) (d:List Int),σ=[some (.ref p),some (.int (W:Int)),some (.bl b),some (.ref D),τ,ο]/\cK H' p L/\aU p H H'/\H' D=some (.lst (d.map V.int))/\d.length=1+W/\(∀n∈d,0<=n)/\d.sum<=5*(i:Int)) ⟨_,_,ζ,rfl,F2,s1.but.trans s2,s2.at M e1,lz,aa,Oo⟩ ?_ ?_⟩
 ·rintro i σ H3 χ ⟨τ,ο,d,rfl,F3,S3,e3,ln,nn,O⟩;refine ⟨_,rfl,_,rfl,_,_,rfl,rfl,?_⟩;refine dA F3 Oo ω λy H4 y0 y1 F4 β=>?_;obtain ⟨j0,rfl⟩:=mN y0;refine uU (by show 2<=64;decide) λq5 H5 hq5 ι X=>?_;have F5:=F4.same X;refine ⟨_,rfl,?_⟩;refine dA F5 Dd Kk λz H6 z0 z1 F6 Y=>?_;obtain ⟨mz,rfl⟩:=mN z0;have nq:=F4.ne hq5;obtain ⟨j,hj,hjW⟩:∃j:Nat,([.int 0,.int (j0:Int)]:List V)[mz]?=some (.int (j:Int))/\j<1+W:=by
   rcases (show mz=0\/mz=1 by omega) with rfl | rfl
   ·exact ⟨0,rfl,Oo⟩
   ·exact ⟨j0,rfl,Oo⟩
  refine nZ (Y.at nq ι) (dM hj) ?_;have e:j<d.length:=Oo;have C:=aC e;have ε:H6 D=some (.lst (d.map V.int)):=Y.at M (X _ _ (β.at M e3));refine ⟨_,rfl,_,rfl,nZ ε (ME C) ?_⟩;refine ⟨_,_,rfl,rfl,⟨_,rfl,?_⟩⟩;refine dA F6 Dd Kk λu H7 u0 u1 F7 s7=>⟨_,_,rfl,rfl,?_⟩;refine ⟨_,rfl,_,rfl,?_⟩;refine XJ (s7.at M ε) (JG e) λH8 e8 δ=>?_;have b7:aU p H H7:=(((S3.trans β).trans X.but).trans Y).trans s7;have nnj:=nn _ (List.getElem_mem e);refine ⟨_,_,d.set j (d[j]+1+u),rfl,F7.but δ M ψ,aU.thru hD b7 δ,?_,by rw [List.length_set];exact ln,IT nn Oo,?_⟩
  ·rw [e8,List.map_set]
  ·rw [lG C];omega
 ·rintro σ H3 ⟨τ,ο,d,rfl,F3,S3,e3,ln,nn,O⟩;have O:d.sum<=15:=Oo;have G:0<d.length:=Oo;have γ:=aC G;have μ:=nn _ (List.getElem_mem G);have le0:=oP nn (List.getElem_mem G);have snn:=lX nn;refine ⟨_,rfl,nZ e3 (ME (i:=0) γ) ?_⟩;refine ⟨_,rfl,_,rfl,.inr ⟨_,rfl,⟨_,_,rfl,rfl,⟨IntMulOk.of_left (PySem.intBits_le_64 Oo Oo),?_⟩⟩⟩⟩;obtain ⟨B,hx0,ae,x01,ν⟩:∃B:Int,d[0]*(if (!b)=true then 1 else 0)=B/\0<=B/\B<=d[0]/\(b=true->B=0):=by
   cases b
   ·exact ⟨_,rfl,by simp;exact μ,by simp,λz=>by cases z⟩
   ·exact ⟨_,rfl,by simp,by simp;exact μ,λ_=>by simp⟩
  refine ⟨_,rfl,?_⟩;refine XJ e3 (JG G) λH4 S β=>?_;have S:H4 D=some (.lst ((d.map V.int).set 0 (.int (d[0]*(if (!b)=true then 1 else 0))))):=S;rw [hx0,<-List.map_set] at S;have F4:=F3.but β M ψ;have S4:aU p H H4:=aU.thru hD S3 β;have I:(d.set 0 B).sum<=15:=by rw [lG γ];omega
  have r:=IT (i:=0) nn ae;have R:(d.set 0 B)[0]?=some B:=by rw [List.getElem?_set_self G]
  have l4:(d.set 0 B).length=1+W:=by rw [List.length_set];exact ln
  generalize d.set 0 B=a at S I r R l4;have nn4s:=lX r;refine ⟨λσ H'=>∃a:List Int,σ=[some (.ref p),some (.int (W:Int)),some (.bl b),some (.ref D),τ,ο]/\cK H' p L/\aU p H H'/\H' D=some (.lst (a.map V.int))/\a.length=1+W/\(∀n∈a,0<=n)/\0<a.sum/\a.sum<=15/\(b=true->a[0]?=some 0),?_,?_⟩
  ·rintro σ H5 ⟨a,rfl,F5,S5,ι,l5,nn5,p5,ξ,b5⟩;refine ⟨_,rfl,D,rfl,⟨_,fY.of ι⟩,vF (λi y H'=>∃n,a[i]?=some n/\cE H' (fO (lw n a.sum)) y) (λi y H1 H2 s ⟨n,ρ,φ⟩=>⟨n,ρ,φ.flat s (fV _)⟩) (by rw [aB];omega) ι (λi x H' Q' hx s' k'=>?_) (λD3 Z H8 hD3 hD8 δ ac ad=>?_)⟩
   ·rw [aI] at hx;obtain ⟨n,hn',rfl⟩:=eJ.mp hx;refine ⟨_,rfl,_,rfl,rsI (fY.of (s' _ _ ι)) ?_⟩;refine nR p5 (aY (show a.sum.natAbs<=15 by omega) Kk) ?_;intro q9 H9 hq9 e9 s9;exact k' _ H9 s9 ⟨n,hn',fU e9⟩
   ·refine ⟨D3,Z,rfl,.inl ⟨fY.of hD8,λl hl=>?_⟩⟩;have υ:=bA.upd (o:=.tup Z) hl;have el:(upd H8 l (.tup Z)) l=some (.tup Z):=bL;generalize upd H8 l (.tup Z)=H9 at υ el;refine k _ (a.map λn=>lw n a.sum) H9 ((F5.same δ).same υ) (S5.trans (δ.trans υ).but) (cE.tup el ?_) ⟨a,l5,nn5,p5,ξ,rfl⟩ λU=>?_
    ·refine bG.ofIdx (by rw [ac,aB,aB,aB]) λi y χ=>?_;obtain ⟨n,ρ,φ⟩:=ad i y χ;exact ⟨fO (lw n a.sum),by rw [aI,aI,ρ];rfl,φ.same υ⟩
    ·rw [aI,b5 U];exact congrArg some (LT p5)
  ·refine ⟨_,rfl,rsI (fY.of S) ?_⟩;refine ⟨rfl,_,rfl,yM (λJ=>?_) (λJ=>?_)⟩
   ·have J:a.sum=0:=by injection J
    refine ⟨_,rfl,_,rfl,_,rfl,?_⟩;refine dA F4 Oo bw λy H5 y0 y1 F5 X=>?_;obtain ⟨j,rfl⟩:=mN y0;refine ⟨_,_,rfl,rfl,?_⟩;have e:1+j<a.length:=Oo;have ab:MC (a.map V.int).length (1+(j:Int))=some (1+j):=by
     rw [show (1:Int)+(j:Int)=((1+j:Nat):Int) by omega];exact JG e
    refine XJ (X.at M S) ab λH6 ε Y=>?_;rw [<-List.map_set] at ε;have C:=aC e;have η:∀n∈a,n=0:=λn θ=>by
     have ρ:=r n θ;have φ:=oP r θ;omega
    have hj0:=η _ (List.getElem_mem e);refine ⟨a.set (1+j) 1,rfl,F5.but Y M ψ,aU.thru hD (S4.trans X) Y,ε,by rw [List.length_set];exact l4,IT r Dd,by rw [lG C];omega,by rw [lG C];omega,λU=>?_⟩;rw [List.getElem?_set_ne Oo,R,ν U]
   ·have J:¬a.sum=0:=λz=>J (congrArg V.int z);exact ⟨a,rfl,F4,S4,S,l4,r,Oo,I,λU=>by rw [R,ν U]⟩
end
abbrev YB:Stmt:=(top 55)
theorem yX:cI ["_law_feed_here","_law_faces","_law_ways","_law_room","_law_sizes","_law_most","_law_entries","_law_level","_law_k","_law_later","_law_counts","_law_says_here","_law_face"] ["_law_feed_here","_law_faces","_law_ways","_law_room"] (bB YB):=⟨rfl,rfl,rfl,Kk,rfl,Kk,Kk⟩
def bs(f:List Nat->List Fr)(c:List Nat):Nat:=if eV (f c) 0=0 then 1 else 0
theorem rG{f:List Nat->List Fr}{c:List Nat}:bs f c=0↔eV (f c) 0≠0:=by
 unfold bs;split
 ·rename_i h;exact ⟨(λz=>by cases z),λz=>absurd h z⟩
 ·rename_i h;exact ⟨λ_=>h,λ_=>rfl⟩
theorem AT{F:Nat}(hF:1<=F){b b':List Nat->Nat}:∀{k:Nat},(∀c,c.sum<k->b c=b' c)->lvl F b k=lvl F b' k
 | 0,_=>rfl
 | k+1,h=>by
  have e:=AT hF (b:=b) (b':=b') (k:=k) λc a=>h c Oo;unfold lvl;rw [e];refine List.filter_congr λd _=>?_;rw [Bool.eq_iff_iff,List.any_eq_true,List.any_eq_true];have same:∀c∈lvl F b' k,b c=b' c:=λc a=>h c (by have:=(gY ((iS hF k).subset a)).2;omega);exact ⟨λ⟨c,a,q⟩=>⟨c,a,by rw [<-same c a];exact q⟩,λ⟨c,a,q⟩=>⟨c,a,by rw [same c a];exact q⟩⟩
structure NJ(F W M:Nat)(es:List cL):Prop where
 ex:∃f:List Nat->List Fr,es=FR F M (bs f) f/\(∀c,bs f c=0->c.sum<M)/\∀c∈LB F M (bs f),zO (1+W) (f c)
 f1:1<=F
 f4:F<=4
 m5:M<=5
 few:(rise F M).length<=40
theorem NJ.rl{F W M:Nat}{es:List cL}(h:NJ F W M es):uC F es:=by
 obtain ⟨f,rfl,u,sy⟩:=h.ex;have b:(FR F M (bs f) f).map (·.1)=LB F M (bs f):=by unfold FR;rw [List.map_map];exact List.map_id' _
 refine ⟨?_,?_,?_,?_,?_,?_,?_⟩
 ·obtain ⟨r,l⟩:=SM (F:=F) (M:=M) (best:=bs f);exact ⟨_,_,by unfold FR;rw [l,bF],rfl⟩
 ·intro e i;obtain ⟨c,a,rfl⟩:=aT.mp i;exact (CW h.f1 a).1
 ·rw [b];exact (LD F h.f4 M h.m5).sublist (sY h.f1)
 ·unfold FR;rw [List.pairwise_map];exact (vX F M).sublist (sY h.f1)
 ·intro e i p g m;obtain ⟨c,a,rfl⟩:=aT.mp i;rw [b];exact SN h.f1 u a (rG.mpr p) m
 ·intro d hd n;rw [b] at hd;obtain ⟨c,a,s,j,o,e⟩:=SO h.f1 hd n;exact ⟨(c,f c),aT.mpr ⟨c,a,rfl⟩,rG.mp s,j,o,e⟩
 ·intro e i;obtain ⟨c,a,rfl⟩:=aT.mp i;exact (sy c a).g.nn 0
theorem NJ.g{F W M:Nat}{es:List cL}(h:NJ F W M es){Ns:Nat}(n0:0<Ns)(hz:LC^6*Ns^M<2^2000):oM F W M (LC^6) (5^40) Ns es:=by
 have RL:=h.rl;obtain ⟨f,rfl,p,sy⟩:=h.ex;have i:∀e∈FR F M (bs f) f,zO (1+W) e.2:=λe b=>by
  obtain ⟨c,j,rfl⟩:=aT.mp b;exact sy c j
 have d:∀e∈FR F M (bs f) f,e.1.sum<=M:=λe b=>by
  obtain ⟨c,j,rfl⟩:=aT.mp b;exact (CW h.f1 j).2
 have n:(FR F M (bs f) f).length<=40:=by
  unfold FR;rw [aB];exact aZ (sY h.f1).length_le h.few
 have l:∀e∈FR F M (bs f) f,∀v,Qn LC 1 (eV e.2 v):=λe b v=>by
  by_cases hv:v<e.2.length
  ·exact ((i e b).fn _ (vB (a:=(0,1)) hv)).1.q
  ·rw [CB Oo];exact Qn.zero _ _
 have m:∀e∈FR F M (bs f) f,Qn (LC^e.1.sum) (5^40) (cD F (FR F M (bs f) f) e.1):=λe b=>by
  have:=RL.qn (N:=LC) (λe b=>l e b 0) h.f4 (FR F M (bs f) f).length (aE _) e.1;rw [bP] at this;exact this.le (bD Dd n)
 have m5:=h.m5;refine ⟨RL,d,λe b=>(i e b).g,Oo,λe b o=>?_,λe b=>?_,λe b v=>?_,Nat.pow_pos Dd,n0,hz,Kk,Oo⟩
 ·obtain ⟨c,j,rfl⟩:=aT.mp b;exact p c (rG.mpr o)
 ·exact (m e b).dvd (Nat.pow_dvd_pow _ (by have:=d e b;omega))
 ·have:=(m e b).mul (l e b v);rw [Nat.mul_one,<-Nat.pow_succ] at this;exact this.dvd (Nat.pow_dvd_pow _ (by have:=d e b;omega))
abbrev DZ(e:cL):PyData:=.tuple [gW e.1,vU e.2]
abbrev zM(es:List cL):PyData:=.tuple (es.map DZ)
theorem GT(e:cL):eP (DZ e)=true:=by
 show (eP (gW e.1)&&(eP (vU e.2)&&true))=true;rw [gS,mJ];rfl
theorem BB:∀es:List cL,dU (es.map DZ)=true
 | []=>rfl
 | e::es=>by show (eP (DZ e)&&dU (es.map DZ))=true;rw [BB es,GT];rfl
theorem AH(es:List cL):eP (zM es)=true:=BB es
theorem aBw{K:KFr}{H:Hp}{gs:List Fr}{v:V}(h:cE H (vU gs) v):SaW K H gs v:=by
 obtain ⟨d,b,rfl,a,r⟩:=qC h;refine ⟨d,b,rfl,a,⟨dR r,λi x e=>?_⟩⟩;obtain ⟨f,j,c⟩:=dS r e;exact ⟨f,j,.inl c⟩
theorem IW{K:KFr}{H:Hp}{es:List cL}{v:V}(h:cE H (zM es) v):HZ K H es v:=by
 obtain ⟨a,l,rfl,n,r⟩:=eU h;refine ⟨a,l,rfl,n,dR r,λi x y=>?_⟩;obtain ⟨e,o,s⟩:=dS r y;obtain ⟨b,A,rfl,p,c⟩:=eU s;obtain ⟨u,z,rfl,j,m⟩:=iL c;obtain ⟨w,rfl,d⟩:=lB j;exact ⟨e,o,b,w,z,rfl,p,d,aBw m⟩
theorem cK.t{H H':Hp}{p L:Addr}(F:cK H p L)(s:aU p H H'):dL H H':=let ⟨_,hx⟩:=F.lst;s.t hx
theorem GS(x y:Int):PyData.eqv (.int x) (.int y)=decide (x=y):=by
 unfold PyData.eqv
 first | rfl | (by_cases h:x=y <;> simp [h])
theorem aCQ(f g:Fr):PyData.eqv (fO f) (fO g)=decide (f=g):=by
 obtain ⟨b,a⟩:=f;obtain ⟨c,d⟩:=g;have e:PyData.eqv (fO (b,a)) (fO (c,d))=(PyData.eqv (.int b) (.int c)&&(PyData.eqv (.int a) (.int d)&&true)):=rfl;rw [e,GS,GS];by_cases h:b=c <;> by_cases h':a=d <;> simp [h,h']
theorem yU:∀a b:List PyData,dU (a++b)=(dU a&&dU b)
 | [],b=>by rw [List.nil_append];rfl
 | x::a,b=>by show (eP x&&dU (a++b))=((eP x&&dU a)&&dU b);rw [yU a b,Bool.and_assoc]
theorem vC(g:List Nat->List Fr):∀cs:List (List Nat),dU (cs.map λc=>DZ (c,g c))=true
 | []=>rfl
 | c::cs=>by show (eP (DZ (c,g c))&&dU (cs.map λc=>DZ (c,g c)))=true;rw [vC g cs,GT];rfl
def szs(F:Nat):List Int:=if F=2 then [1,3,6,10,15,21] else if F=3 then [1,4,10,20,35] else [1,5,15,35]
theorem XG:∀F,F<=4->∀R,R<=40->(2<=F/\1<=R->0<((szs F).filter λs=>decide (s<=((R:Nat):Int))).length/\((szs F).filter λs=>decide (s<=((R:Nat):Int))).length<=6):=Kk
theorem XF:∀F,F<=4->∀R,R<=40->∀m,m<=6->(2<=F/\m<((szs F).filter λs=>decide (s<=((R:Nat):Int))).length->(rise F m).length<=R):=Kk
@[irreducible] def pU:Sp:=λvs H Q _=>∃(p L:Addr) (F W R:Nat),vs=[.ref p,.int (F:Int),.int (W:Int),.int (R:Int)]/\cK H p L/\2<=F/\F<=4/\1<=W/\W<=4/\1<=R/\R<=40/\∀v es M H',cK H' p L->aU p H H'->cE H' (zM es) v->NJ F W M es->(rise F M).length<=R->Q v H'
theorem IM{H:Hp}{Q:VK}{E:XK}{p L:Addr}{F W R:Nat}(h:cK H p L)(h1:2<=F)(h2:F<=4)(h3:1<=W)(h4:W<=4)(h5:1<=R)(h6:R<=40)(k:∀v es M H',cK H' p L->aU p H H'->cE H' (zM es) v->NJ F W M es->(rise F M).length<=R->Q v H'):pU [.ref p,.int (F:Int),.int (W:Int),.int (R:Int)] H Q E:=by
 unfold pU;exact ⟨p,L,F,W,R,rfl,h,h1,h2,h3,h4,h5,h6,k⟩
theorem aCx{F k:Nat}{b:List Nat->Nat}(f1:1<=F)(f4:F<=4)(hk:k<=5):(lvl F b k).Nodup:=by
 have h:(lvl F b k).Sublist (rise F k):=by
  refine (iS f1 k).trans ?_;unfold rise;rw [List.range_succ,List.flatMap_append];simp
 exact (LD F f4 k hk).sublist h
section
inductive LI4 (p L Sz ζ:Addr)(F W R M:Nat)(H:Hp):Nat->St->Hp->Prop
|mk{u:Nat}{σ:St}{H':Hp}(o8 o9 Z α B:Option V) (Lv:Addr) (ν:List V) (g:List Nat->List Fr)(_:σ=[some (.ref p),some (.int (F:Int)),some (.int (W:Int)),some (.int (R:Int)),some (.ref Sz),some (.int (M:Int)),some (.ref ζ),some (.ref Lv),o8,o9,Z,α,B])(_:cK H' p L)(_:aU p H H')(_:H' ζ=some (.lst ν))(_:bG H' (((List.range u).flatMap (lvl F (bs g))).map λc=>DZ (c,g c)) ν)(_:HW H' Lv (lvl F (bs g) u))(_:Lv≠ζ)(_:Lv≠p)(_:(∀c,g c≠[]->c.sum<u/\(c.sum=M->bs g c≠0)))(_:∀i,i<u->∀c∈lvl F (bs g) i,zO (1+W) (g c)):LI4 p L Sz ζ F W R M H u σ H'
inductive LI5 (p L Sz ζ κ ι:Addr)(F W R M u:Nat)(H H11:Hp)(ls:List V)(cs:List (List Nat))(g:List Nat->List Fr):Nat->St->Hp->Prop
|mk{j:Nat}{σ:St}{H':Hp}(Z α B:Option V) (ν:List V) (y:List (List iC × V)) (μ:List (List Int)) (h:List Nat->List Fr)(_:σ=[some (.ref p),some (.int (F:Int)),some (.int (W:Int)),some (.int (R:Int)),some (.ref Sz),some (.int (M:Int)),some (.ref ζ),some (.ref κ),some (.int (u:Int)),some (.ref ι),Z,α,B])(_:cK H' p L)(_:aU p H H')(_:H' ζ=some (.lst ν))(_:ν.length<=400+j)(_:H' κ=some (.lst ls))(_:dL H11 H')(_:(∀c,c ∉ cs.take j->h c=g c))(_:bG H' ((((List.range u).flatMap (lvl F (bs g))).map λc=>DZ (c,g c))++(cs.take j).map λc=>DZ (c,h c)) ν)(_:(∀c∈cs.take j,zO (1+W) (h c)/\(u=M->bs h c≠0)))(_:H' ι=some (.dT y))(_:y.length<=4*j)(_:y.map (·.1)=μ.map kT)(_:μ.Nodup)(_:∀d,d∈μ ↔ ∃c∈cs.take j,bs h c=0/\∃f,f<F/\d=ci (bN c f)):LI5 p L Sz ζ κ ι F W R M u H H11 ls cs g j σ H'
theorem aFG(F:jP K "_law_rule" "_law_rule" YB f fd)(T:lC K mg c)(FQ2:fW dY P w K mg base 1 "_law_draw" ["_law_feed_here","_law_many"] jT)(FQ11:fW dY P w K mg base 2 "_law_says" ["_law_feed_here","_law_ways","_law_last"] sQ)(FQ7:fW dY P w K mg base 1 "_law_more" ["_law_counts","_law_face"] pV):eT P w K mg base dY 3 f fd ["_law_feed_here","_law_faces","_law_ways","_law_room"] pU:=by
 refine F.oky yX λν H Q E h=>?_;unfold pU at h;obtain ⟨p,L,F,W,R,rfl,FA,f2,f4,w1,w4,r1,r40,k⟩:=h;refine ⟨rfl,λcdv A outer s hr=>?_⟩;have ε:1<=F:=Oo;obtain ⟨sz0,sz6⟩:=XG F f4 R r40 ⟨f2,r1⟩;have szr:=XF F f4 R r40;refine ⟨_,(aS (bS (i:=4) yX.nd rfl (Or.inl rfl) (bR bK (fC (aP (fC (aP aM (aP aM (aP aM (aP aM (aP aM (aP aM aJ))))))) (aP (fC (aP aM (aP aM (aP aM (aP aM (aP aM aJ)))))) (aP (fC (aP aM (aP aM (aP aM (aP aM aJ))))) aJ)))) (cN yE (aL 1) aM) (λ_ _=>rfl)))
  (aS (bS (i:=5) yX.nd rfl (Or.inl rfl) (bV FQ2 (hr.mono Dd) (aP (aL 0) (aP (gK jI (by rfl) T.b_len Kk (aP (gX (fM.of (psc:=bB YB) (N:=["_law_feed_here","_law_faces","_law_ways","_law_room","_law_sizes","_law_most","_law_entries","_law_level","_law_k","_law_later","_law_counts","_law_says_here","_law_face"]) (N':=["_law_size","_law_room"]) (js:=[3]) Kk rfl rfl rfl) (fX (aL 4)) (λ_ _ _ _=>sF (gJ aDZ (aL 0) (aL 1) (nomark _))) (λ_ _ _ _=>(aL 0))) aJ)) aJ))))
  (aS (bS (i:=6) yX.nd rfl (Or.inl rfl) (fC aJ))
  (aS (bS (i:=7) yX.nd rfl (Or.inl rfl) (fC (aP (cN YZ (eO (aP aM aJ)) (aL 1)) aJ)))
  (aS (fB PassesOwn.never rfl (fQ rfl T.b_range (aP (cN fL (aL 5) aM) aJ)) (cX (i:=8) yX.nd rfl (Or.inl rfl)) (aS (bS (i:=9) yX.nd rfl (Or.inl rfl) EU)
  (aS (fB PassesOwn.never rfl (fX (aL 7)) (cX (i:=10) yX.nd rfl (Or.inl rfl)) (aS (bS (i:=11) yX.nd rfl (Or.inl rfl) (bV FQ11 (hr.mono Dd) (aP (aL 0) (aP (aL 2) (aP (uE AO (aL 8) (aL 5) (nomark _)) aJ)))))
  (aS (jQ (pJ PySem.F.plainAttrs_list PySem.F.slot_list_append PySem.F.type_list_append sC (aL 6) (aP (eO (aP (aL 10) (aP (aL 11) aJ))) aJ)))
  (bJ (fB PassesOwn.never rfl (fQ rfl T.b_range (aP (cN fE (aL 1) (jK BG (by rfl) T.b_int Kk (aP (uE (aCl hr.units) (bR bK (aL 11) aM (λ_ _=>rfl)) (eO (aP aM (aP aM aJ))) (nomark _)) aJ))) aJ)) (cX (i:=12) yX.nd rfl (Or.inl rfl)) (bJ (BR hr.u1 (aL 9) (bV FQ7 (hr.mono Dd) (aP (aL 10) (aP (aL 12) aJ))) sK)))))))
  (bJ (bS (i:=7) yX.nd rfl (Or.inl rfl) (gK (aAh rfl) (by rfl) T.b_sorted Kk (aP (aL 9) aJ)))))))
  (bJ (cP (jK dF (by rfl) T.b_tuple Kk (aP (aL 6) aJ))))))))),?_⟩
 refine uU (by show 6<=64;decide) λc1 H1 hc1 e1 s1=>uU (by show 5<=64;decide) λc2 H2 hc2 e2 s2=>uU (by show 4<=64;decide) λc3 H3 hc3 e3 s3=>uU (by show 3<=64;decide) λc4 H4 hc4 e4 s4=>?_;have γ:=((s1.trans s2).trans s3).trans s4;refine ⟨_,rfl,_,_,rfl,rfl,?_⟩;obtain ⟨Sz,hSz,eSz⟩:∃Sz:Addr,([.ref c1,.ref c2,.ref c3]:List V)[F-2]?=some (.ref Sz)/\H4 Sz=some (.lst ((szs F).map V.int)):=by
  rcases (show F=2\/F=3\/F=4 by omega) with rfl | rfl | rfl
  ·exact ⟨c1,rfl,((s2.trans s3).trans s4) _ _ e1⟩
  ·exact ⟨c2,rfl,(s3.trans s4) _ _ e2⟩
  ·exact ⟨c3,rfl,s4 _ _ e3⟩
 refine nZ e4 (by rw [show (F:Int)-2=((F-2:Nat):Int) by omega];exact dM hSz) ?_;have F4:=FA.same γ;refine ⟨_,rfl,_,rfl,Sz,rfl,⟨_,fY.of eSz⟩,?_⟩;have rS:bG H4 ((szs F).map PyData.int) ((szs F).map V.int):=BO _;have l6:(szs F).length<=6:=by unfold szs;split;decide;split;decide;decide
 refine PH rS (λs=>decide (s<=((R:Nat):Int))) (by rw [aB];omega) eSz (λx c' H' Q' hc' rc s' k'=>?_) (λx H' Q' k'=>⟨_,rfl,k'⟩) (λD ys H5 hD e5 s5 ry=>?_)
 ·cases (show x=V.int c' from rc);exact ⟨_,rfl,_,rfl,_,_,rfl,rfl,_,rfl,k' H' (bA.refl _)⟩
 have lys:ys.length=((szs F).filter λs=>decide (s<=((R:Nat):Int))).length:=by rw [ry.len,aB]
 refine YC e5 ?_;have F5:=F4.same s5;refine dA F5 Oo (bitsle (aY (show ((ys.length:Nat):Int).natAbs<=6 by omega) Kk)) λx H6 x0 x1 F6 b6=>?_;obtain ⟨M,rfl⟩:=mN x0;have hM:=szr M Oo ⟨f2,Oo⟩;have m5:M<=5:=Oo;refine uU (by show 0<=64;decide) λζ H7 hEn e7 s7=>rK (by show 1<=64;decide) λt8 H8 ht8 e8 s8=>⟨_,rfl,?_⟩;refine aFH e8 f2 Oo λt9 H9 s9 e9=>uU (by show 1<=64;decide) λLv H10 hLv e10 s10=>?_;have s710:=(s8.trans s9).trans s10;have s610:=s7.trans s710;have B6:aU p H H6:=(γ.trans s5).but.trans b6;have hEnH:H ζ=none:=aU.free (p:=p) B6 F6.there hEn;have nEp:ζ≠p:=F6.ne hEn;have nEL:ζ≠L:=F6.neL hEn;have e10E:=s710 _ _ e7;have nLE:Lv≠ζ:=λz=>by rw [z,(s8.trans s9) _ _ e7] at hLv;cases hLv
 have F10:=F6.same s610;have B10:aU p H H10:=B6.trans s610.but;have r9:cE H10 (gW (List.replicate F 0)) (.ref t9):=by
  refine nB ?_;rw [s10 _ _ e9,List.map_replicate];rfl
 have L10:HW H10 Lv (lvl F (bs λ_=>[]) 0):=⟨_,e10,bG.cons r9 bG.nil⟩;refine ⟨_,rfl,_,_,rfl,rfl,_,rfl,Oo,Oo,?_⟩;rw [show ((M:Int)+1).toNat=M+1 by omega];refine iT (LI4 p L Sz ζ F W R M H) ⟨_,_,_,_,_,Lv,[],λ_=>[],rfl,F10,B10,e10E,bG.nil,L10,nLE,(F6.same (s7.trans (s8.trans s9))).ne hLv,λc h=>absurd rfl h,λi ο=>Oo⟩ ?_ ?_
 ·rintro u σ H11 hkk ⟨o8,o9,Z,α,B,κ,ν,g,rfl,F11,B11,e11,r11,L11,nLE1,nLp1,g11,y11⟩;have hk5:u<=5:=Oo;obtain ⟨ls,ψ,rL11,lls⟩:=L11.len;rw [show (0:Int)+(u:Int)=(u:Int) by omega];intro ι X;have S:=bA.upd (o:=.dT []) X;have e12:(upd H11 ι (.dT [])) ι=some (.dT []):=bL;generalize upd H11 ι (.dT [])=H12 at S e12 ⊢;have nDE:ι≠ζ:=λz=>by rw [z,e11] at X;cases X
  have nDL:ι≠κ:=λz=>by rw [z,ψ] at X;cases X
  have nDp:ι≠p:=F11.ne X;have nDpL:ι≠L:=F11.neL X;have hDlH:H ι=none:=aU.free (p:=p) B11 F11.there X;refine ⟨_,rfl,κ,rfl,⟨_,fY.of (S _ _ ψ)⟩,?_⟩;obtain ⟨cs,ab⟩:∃cs,cs=lvl F (bs g) u:=⟨_,rfl⟩;have ah:∀c∈cs,c.length=F/\c.sum=u:=λc r=>by rw [ab] at r;exact gY ((iS ε u).subset r)
  have cnd:cs.Nodup:=by rw [ab];exact aCx ε f4 hk5
  have lcs:cs.length<=56:=by rw [ab];exact aZ (iS ε u).length_le (BE F f4 u hk5)
  have lvs:((List.range u).flatMap (lvl F (bs g))).length<=400:=aZ (yT (iS ε) (List.range u)).length_le (PZ F f4 u Oo);rw [<-ab] at rL11 lls;refine kZ (xs:=ls) (LI5 p L Sz ζ κ ι F W R M u H H11 ls cs g)
   ⟨_,_,_,ν,[],[],g,rfl,F11.same S,B11.trans S.but,S _ _ e11,?_,S _ _ ψ,S.t,λ_ _=>rfl,?_,(λc r=>by rw [List.take_zero] at r;cases r),e12,aE _,rfl,List.nodup_nil,λd=>⟨(λh=>by cases h),λ⟨c,r,_⟩=>by rw [List.take_zero] at r;cases r⟩⟩ (λj σ H' _ q=>?_) ?_ ?_
  ·have:=dR (g:=λc=>DZ (c,g c)) r11;omega
  ·rw [List.take_zero,List.map_nil,List.append_nil];exact r11.same S
  ·obtain ⟨_,_,_,_,_,_,_,_,_,_,_,_,q,_⟩:=q;exact fY.of q
  ·rintro j x σ H13 hx ⟨Z,α,B,vs3,y,μ,h,rfl,F13,B13,e13,lv13,eL13,t13,hg,r13,θ,ω,lk13,k1,k2,k3⟩;obtain ⟨O,hcc,rc⟩:=dS rL11 hx;have hj:j<cs.length:=(aO.mp hcc).1;obtain ⟨lc,sc⟩:=ah O (aR hcc);obtain ⟨ac,rfl,hac⟩:=lB (rc.flat t13 (gS _));have hnot:O ∉ cs.take j:=λhm=>by
    obtain ⟨i,ο⟩:=cU.mp hm;have hij:i<j:=by have:=(aO.mp ο).1;rw [cB] at this;omega
    rw [List.getElem?_take_of_lt hij] at ο;have:=(List.getElem?_inj Oo cnd).mp (ο.trans hcc.symm);omega
   have nEp':p≠ζ:=nEp.symm;refine ⟨_,rfl,_,rfl,_,rfl,_,rfl,rfl,?_⟩;refine OA F13 w1 w4 λvsy fs H14 F14 ad rsy sy hstop=>?_;obtain ⟨sa,sx,rfl,hsa,rsx⟩:=qC rsy;obtain ⟨f0,fr,efs,l0,z0,nn0,v0,on0⟩:=sy.g.hd;have τ:=ad.at nEp e13;have e14d:=ad.at nDp ω;have t14:dL H13 H14:=F13.t ad;have aa:=t14 _ _ hac;refine ⟨_,rfl,RF τ,_,rfl,_,rfl,?_⟩;refine rK (by show 2<=64;decide) λq15 H15 hq15 e15 J=>WC (J _ _ τ) Oo λH16 e16 ai=>?_;have t16:=ai.t (J _ _ τ);have F16:=(F14.same J).but ai nEp nEL;have B16:aU p H H16:=aU.thru hEnH ((B13.trans ad).trans J.but) ai;have e16d:=ai.at nDE (J _ _ e14d);have I:dL H14 H16:=J.t.trans t16;have hac16:=I _ _ aa;have hsa16:=I _ _ hsa;have C:=rsx.flat I (tM _);rw [efs] at C;obtain ⟨y0,ys',esx,ry0,_⟩:=(show ∃x xs',sx=x::xs'/\cE H16 (fO f0) x/\bG H16 (fr.map fO) xs' by rw [bF] at C;unfold bG at C;exact C);refine ⟨_,rfl,_,rfl,iI hsa16 (dM (j:=0) (by rw [esx];rfl)) ?_⟩;refine rK (by show 2<=64;decide) λq17 H17 hq17 e17 G=>reD (ry0.same G) (fU (f:=(0,1)) e17) rfl rfl ?_;refine .inr ⟨_,rfl,?_⟩;obtain ⟨cn,hcn,hon⟩:∃cn:Nat,(F:Int)*(if (false == PyData.eqv (fO f0) (fO (0,1)))=true then 1 else 0)=(cn:Int)/\cn=if f0=(0,1) then 0 else F:=by
    rw [aCQ];by_cases z:f0=(0,1)
    ·exact ⟨0,by rw [cG z];simp,by rw [if_pos z]⟩
    ·exact ⟨F,by rw [bU z];simp,by rw [if_neg z]⟩
   have cnF:cn<=F:=by rw [hon];split <;> omega
   refine ⟨_,_,rfl,rfl,IntMulOk.of_left (PySem.intBits_le_64 Oo Oo),⟨_,rfl,?_⟩⟩;show _/\_/\_;rw [hcn];refine ⟨Oo,Oo,?_⟩;have F17:=F16.same G;have υ:=G _ _ e16d;obtain ⟨h',hh'⟩:∃h':List Nat->List Fr,h'=λd=>if d=O then fs else h d:=⟨_,rfl⟩
   have φ:h' O=fs:=by rw [hh'];exact if_pos rfl
   have η:∀d,d≠O->h' d=h d:=λd hd=>by rw [hh'];exact if_neg hd
   have bne:∀d,d≠O->bs h' d=bs h d:=λd hd=>by unfold bs;rw [η d hd]
   have ξ:∀d∈cs.take j,d≠O:=λd hd z=>hnot (z ▸ hd);have bcc:bs h' O=0 ↔ ¬f0=(0,1):=by
    rw [rG,φ,<-on0];constructor
    ·intro z q;rw [q] at z;exact absurd z Dd
    ·intro z;refine dQ λq=>z ?_;have z1:f0.1=0:=Oo;have h1:=l0.low;rw [z1] at h1;have hp:=l0.pos;have:Int.gcd 0 f0.2=f0.2.natAbs:=Int.gcd_zero_left _;rw [this] at h1;have h2:f0.2=1:=Oo;exact Prod.ext z1 h2
   refine iT (λg' σ H'=>∃(B:Option V) (y:List (List iC × V)) (μ:List (List Int)),σ=[some (.ref p),some (.int (F:Int)),some (.int (W:Int)),some (.int (R:Int)),some (.ref Sz),some (.int (M:Int)),some (.ref ζ),some (.ref κ),some (.int (u:Int)),some (.ref ι),some (.ref ac),some (.ref sa),B]/\aU ι H17 H'/\H' ι=some (.dT y)/\y.length<=4*j+g'/\y.map (·.1)=μ.map kT/\μ.Nodup/\∀d,d∈μ↔(∃c∈cs.take j,bs h' c=0/\∃f,f<F/\d=ci (bN c f))\/∃f,f<g'/\d=ci (bN O f))
    ⟨_,y,μ,rfl,(bA.refl _).but,υ,Oo,k1,k2,λd=>?_⟩ ?_ ?_
   ·rw [k3];constructor
    ·rintro ⟨c,r,δ,f,Y⟩;exact .inl ⟨c,r,by rw [bne c (ξ c r)];exact δ,f,Y⟩
    ·rintro (⟨c,r,δ,f,Y⟩ | ⟨f,Y,_⟩)
     ·exact ⟨c,r,by rw [<-bne c (ξ c r)];exact δ,f,Y⟩
     ·omega
   ·rintro g' σ H18 hg' ⟨o12',ae,ks18,rfl,U,e18,lk18,k18,χ,m18⟩;rw [show (0:Int)+(g':Int)=(g':Int) by omega];have t18:=aU.tT U υ;have hac18:=t18 _ _ (G _ _ hac16);refine ⟨_,rfl,_,rfl,_,rfl,?_⟩;refine IN (nB hac18) Oo Oo λv19 H19 s19 r19=>?_;obtain ⟨a19,rfl,ha19⟩:=lB r19;refine dpT (s19 _ _ e18) (c:=ci (bN O g')) (by rw [pB];exact ha19) Oo λH20 e20 b20=>?_;obtain ⟨ks2,j1,j2,j3⟩:=aCz (v:=.bl true) (ci (bN O g')) k18 χ;refine ⟨_,_,ks2,rfl,(U.trans s19.but).trans b20,e20,?_,j1,j2,λd=>?_⟩
    ·have:=kW ae (kT (ci (bN O g'))) (V.bl true);omega
    ·rw [j3,m18];constructor
     ·rintro ((h | ⟨f,Y,e⟩) | h)
      ·exact .inl h
      ·exact .inr ⟨f,Oo,e⟩
      ·exact .inr ⟨g',Oo,h⟩
     ·rintro (h | ⟨f,Y,e⟩)
      ·exact .inl (.inl h)
      ·by_cases q:f=g'
       ·subst q;exact .inr e
       ·exact .inl (.inr ⟨f,Oo,e⟩)
   ·rintro σ H18 ⟨o12',ae,ks18,rfl,U,e18,lk18,k18,χ,m18⟩;have t18:=aU.tT U υ;have B18:aU p H H18:=aU.thru hDlH (B16.trans G.but) U;have tk:cs.take (j+1)=cs.take j++[O]:=eS hcc;have T18:dL H13 H18:=((t14.trans I).trans G.t).trans t18;refine ⟨_,_,_,vs3++[.ref q15],ae,ks18,h',rfl,F17.but U nDp nDpL,B18,U.at nDE.symm (G _ _ e16),by rw [aV,List.length_singleton];omega,?_,t13.trans T18,λc r=>?_,?_,λc r=>?_,e18,Oo,k18,χ,λd=>?_⟩
    ·exact U.at nDL.symm (G _ _ (ai.at nLE1 (J _ _ (ad.at nLp1 eL13))))
    ·rw [tk] at r;have h1:c ∉ cs.take j:=λz=>r (cA _ z);have h2:c≠O:=λz=>r (bW _ (cF.mpr z));rw [η c h2,hg c h1]
    ·rw [tk,bZ,<-List.append_assoc];have e1:(cs.take j).map (λc=>DZ (c,h' c))=(cs.take j).map λc=>DZ (c,h c):=eC λc r=>by rw [η c (ξ c r)]
     rw [e1];refine bG.snoc (r13.flat T18 ?_) ?_
     ·rw [yU,vC,vC];rfl
     ·show cE H18 (DZ (O,h' O)) (.ref q15);rw [φ];have β:dL H15 H18:=(t16.trans G.t).trans t18;exact cE.tup (β _ _ e15) (bG.cons (nB (β _ _ (J _ _ aa))) (bG.cons ((rsy.same J).flat β (mJ _)) bG.nil))
    ·rw [tk] at r;rcases eM.mp r with r | r
     ·rw [bne c (ξ c r),η c (ξ c r)];exact θ c r
     ·rw [cF.mp r,φ];refine ⟨sy,λz=>?_⟩;have hst:=hstop (by rw [decide_eq_true_iff];exact congrArg (λn:Nat=>V.int (n:Int)) z);rw [efs] at hst;rw [Ne,bcc];exact λq=>q (by simpa using hst)
    ·rw [m18];constructor
     ·rintro (⟨c,r,δ,f,Y⟩ | ⟨f,Y,e⟩)
      ·exact ⟨c,by rw [tk];exact cA _ r,δ,f,Y⟩
      ·by_cases z:f0=(0,1)
       ·rw [if_pos z] at hon;omega
       ·exact ⟨O,by rw [tk];exact bW _ (cF.mpr rfl),bcc.mpr z,f,Oo,e⟩
     ·rintro ⟨c,r,δ,f,Y,e⟩;rw [tk] at r;rcases eM.mp r with r | r
      ·exact .inl ⟨c,r,δ,f,Y,e⟩
      ·rw [cF.mp r] at δ e;have z:=bcc.mp δ;rw [if_neg z] at hon;exact .inr ⟨f,Oo,e⟩
  ·rintro σ H13 ⟨Z,α,B,vs3,y,μ,h,rfl,F13,B13,e13,lv13,eL13,t13,hg,r13,θ,ω,lk13,k1,k2,k3⟩;have lfull:cs.take ls.length=cs:=by rw [lls];exact bP
   rw [lfull] at hg r13 θ k3;have ρ:∀c:List Nat,c.sum<u->h c=g c:=λc r=>hg c λz=>by have:=(ah c z).2;omega
   have blow:∀c:List Nat,c.sum<u->bs h c=bs g c:=λc r=>by unfold bs;rw [ρ c r]
   have lvE:∀i,i<=u->lvl F (bs h) i=lvl F (bs g) i:=λi ο=>AT ε λc r=>blow c Oo;have af:lvl F (bs h) u=cs:=by rw [lvE u (aE _),ab]
   have ag:∀d,d∈μ↔d∈(lvl F (bs h) (u+1)).map ci:=λd=>by
    rw [k3,aT];constructor
    ·rintro ⟨c,r,δ,f,Y,e⟩;exact ⟨bN c f,(tG ε).mpr ⟨c,by rw [af];exact r,δ,f,Y,rfl⟩,e.symm⟩
    ·rintro ⟨d',hd',rfl⟩;obtain ⟨c,r,δ,f,Y,rfl⟩:=(tG ε).mp hd';exact ⟨c,by rw [<-af];exact r,δ,f,Y,rfl⟩
   have nilM:u=M->lvl F (bs h) (u+1)=[]:=λz=>by
    refine List.eq_nil_iff_forall_not_mem.mpr λd hd=>?_;obtain ⟨c,r,δ,_⟩:=(tG ε).mp hd;rw [af] at r;exact (θ c r).2 z δ
   have small:(lvl F (bs h) (u+1)).length<=56:=by
    by_cases z:u=M
    ·rw [nilM z];exact cC _
    ·exact aZ (iS ε (u+1)).length_le (BE F f4 (u+1) Oo)
   have slex:((lvl F (bs h) (u+1)).map ci).Pairwise λa b=>oY a b=true:=by
    by_cases z:u=M
    ·rw [nilM z];exact List.Pairwise.nil
    ·exact (aAe F f4 (u+1) Oo).sublist ((iS ε (u+1)).map ci)
   have lk:μ.length<=56:=by
    have:=AQ k2 (m:=(lvl F (bs h) (u+1)).map ci) λd hd=>(ag d).mp hd;rw [aB] at this;omega
   refine ⟨_,rfl,?_⟩;refine rsrd (cs:=μ) ω k1 (λc r=>?_) Oo λq8 ys8 ds H14 pm pw hq8 τ r14 γ=>?_
   ·obtain ⟨d,hd,rfl⟩:=aT.mp ((ag c).mp r);obtain ⟨l1,_⟩:=gY ((iS ε (u+1)).subset hd);intro z;have e:(ci d).length=d.length:=by unfold ci;rw [aB]
    rw [z,List.length_nil] at e;omega
   have eds:ds=(lvl F (bs h) (u+1)).map ci:=GI pw slex λd=>by rw [pm.mem_iff];exact ag d
   rw [eds,List.map_map,show (lvl F (bs h) (u+1)).map ((λc:List Int=>PyData.tuple (c.map .int)) ∘ ci)=(lvl F (bs h) (u+1)).map gW from eC λc _=>ctI c] at r14;have nqE:q8≠ζ:=λz=>by rw [z,e13] at hq8;cases hq8
   have efl:(List.range u).flatMap (lvl F (bs h))=(List.range u).flatMap (lvl F (bs g)):=by
    rw [List.flatMap_def,List.flatMap_def];exact congrArg List.flatten (eC λi ο=>lvE i (by have:=bT.mp ο;omega))
   have inlow:∀c∈(List.range u).flatMap (lvl F (bs g)),c.sum<u:=λc r=>by
    obtain ⟨i,ο,h1⟩:=List.mem_flatMap.mp r;have:=(gY ((iS ε i).subset h1)).2;have:=bT.mp ο;omega
   refine ⟨_,_,_,_,_,q8,vs3,h,rfl,F13.same γ,B13.trans γ.but,γ _ _ e13,?_,⟨ys8,τ,r14⟩,nqE,F13.ne hq8,λc r=>?_,λi ο c r=>?_⟩
   ·rw [rA,efl,af,bZ];have e1:((List.range u).flatMap (lvl F (bs g))).map (λc=>DZ (c,h c))=((List.range u).flatMap (lvl F (bs g))).map λc=>DZ (c,g c):=eC λc r=>by rw [ρ c (inlow c r)]
    rw [e1];exact r13.same γ
   ·by_cases hm:c∈cs
    ·obtain ⟨_,h2⟩:=ah c hm;exact ⟨Oo,λz=>(θ c hm).2 Oo⟩
    ·rw [hg c hm] at r;obtain ⟨h1,h2⟩:=g11 c r;refine ⟨Oo,λz=>?_⟩;have:bs h c=bs g c:=by unfold bs;rw [hg c hm]
     rw [this];exact h2 z
   ·by_cases z:i=u
    ·rw [z,af] at r;exact (θ c r).1
    ·rw [lvE i Oo] at r;have hs:=(gY ((iS ε i).subset r)).2;rw [ρ c Oo];exact y11 i Oo c r
 ·rintro σ H11 ⟨o8,o9,Z,α,B,κ,ν,g,rfl,F11,B11,e11,r11,L11,nLE1,nLp1,g11,y11⟩;refine ⟨_,rfl,⟨ζ,ν,rfl,.inl ⟨fY.of e11,λl hl=>?_⟩⟩⟩;have sl:=bA.upd (o:=.tup ν) hl;refine k _ (FR F M (bs g) g) M _ (F11.same sl) (B11.trans sl.but) (cE.tup bL ?_) ⟨⟨g,rfl,λc r=>?_,λc r=>?_⟩,ε,f4,m5,aZ hM r40⟩ hM
  ·have:((FR F M (bs g) g).map DZ)=((List.range (M+1)).flatMap (lvl F (bs g))).map λc=>DZ (c,g c):=by unfold FR LB;rw [List.map_map];rfl
   rw [this];exact r11.same sl
  ·have hn:g c≠[]:=λz=>by
    have:=rG.mp r;rw [z] at this;exact this (CB (cC _))
   obtain ⟨h1,h2⟩:=g11 c hn;refine dQ λz=>h2 Oo r
  ·obtain ⟨i,ο,h1⟩:=tF.mp r;exact y11 i Oo c h1
end
abbrev sQ8:Stmt:=(top 59)
theorem cQ8:cI ["_law_one","_law_other"] ["_law_one","_law_other"] (bB sQ8):=⟨rfl,rfl,rfl,Kk,rfl,Kk,Kk⟩
@[irreducible] def lR(K:KFr):Sp:=λvs H Q _=>∃x y f g,vs=[x,y]/\gI K H f x/\gI K H g y/\dN f/\dN g/\kK 4000 f/\kK 4000 g/\sE H Q (nY f g)
theorem FM{K:KFr}{H:Hp}{Q:VK}{E:XK}{x y:V}{f g:Fr}(h1:gI K H f x)(h2:gI K H g y)(l1:dN f)(l2:dN g)(z1:kK 4000 f)(z2:kK 4000 g)(q:sE H Q (nY f g)):lR K [x,y] H Q E:=by unfold lR;exact ⟨x,y,f,g,rfl,h1,h2,l1,l2,z1,z2,q⟩
section
theorem oQ8(F:jP K "_law_mul" "_law_mul" sQ8 f fd)(T:lC K mg c)(FQ6:fW dY P w K mg base 1 "_law_low" ["_law_n","_law_d"] mE):eT P w K mg base dY 2 f fd ["_law_one","_law_other"] (lR K):=by
 refine F.oky cQ8 λz H Q E h=>?_;unfold lR at h;obtain ⟨x,y,f,g,rfl,p,o,m,n,b,a,q⟩:=h;refine ⟨rfl,λl A d s j=>?_⟩;obtain ⟨u,rfl,e⟩:=p;obtain ⟨r,rfl,i⟩:=o;refine ⟨_,(bJ (cP (bV FQ6 (j.mono Dd) (aP (cN fE (bR bK (aL 0) aM (λ_ _=>rfl)) (bR bK (aL 1) aM (λ_ _=>rfl))) (aP (cN fE (bR bK (aL 0) aM (λ_ _=>rfl)) (bR bK (aL 1) aM (λ_ _=>rfl))) aJ))))),?_⟩;refine ⟨_,rfl,uB e rfl ?_⟩;refine ⟨_,rfl,uB i rfl ?_⟩;refine ⟨_,_,rfl,rfl,tE b.1 a.1,⟨_,rfl,uB e rfl ?_⟩⟩;refine ⟨_,rfl,uB i rfl ?_⟩;refine ⟨_,_,rfl,rfl,tE b.2 a.2,nR (Int.mul_pos m.pos n.pos) (kO (CH b.2 a.2)) ?_⟩;exact q
end
theorem SQ{F:Nat}{es:List cL}(R:uC F es)(d:List Nat):cD F es d=(if d=List.replicate F 0 then 1 else 0)+bY es λe=>cD F es e.1*s0 e*lK F e.1 d:=by
 have all:∀n,n<=es.length->cD F (es.take n) d=(if d=List.replicate F 0 then 1 else 0)+bY (es.take n) λe=>cD F es e.1*s0 e*lK F e.1 d:=λn=>by
  induction n with
  | zero=>intro _;rw [List.take_zero,lU,fG];grind
  | succ n ih =>
   intro b;have a:=aC (show n<es.length by omega);rw [eS a,iJ,R.at a,ih Oo,jL];grind
 have:=all es.length (aE _)
 rwa [bP] at this
theorem rZ:∀F:Nat,(List.replicate F (0:Nat)).sum=0
 | 0=>rfl
 | n+1=>by rw [List.replicate_succ,List.sum_cons,rZ n]
def lev(es:List cL)(k:Nat):List cL:=es.filter λe=>decide (e.1.sum=k)
def low(es:List cL)(k:Nat):List cL:=es.filter λe=>decide (e.1.sum<k)
theorem lJ{es:List cL}{k:Nat}{e:cL}:e∈lev es k↔e∈es/\e.1.sum=k:=by unfold lev;rw [gF,decide_eq_true_iff]
theorem UG(es:List cL)(k:Nat)(g:cL->Rat):bY (low es (k+1)) g=bY (low es k) g+bY (lev es k) g:=by
 unfold low lev
 induction es with
 | nil=>rw [List.filter_nil,List.filter_nil,List.filter_nil,fG];grind
 | cons e es ih =>
  by_cases h1:e.1.sum<k
  ·rw [List.filter_cons_of_pos (by simpa using (show e.1.sum<k+1 by omega)),List.filter_cons_of_pos (by simpa using h1),List.filter_cons_of_neg (by simpa using (show ¬e.1.sum=k by omega)),cJ,cJ,ih];grind
  ·by_cases h2:e.1.sum=k
   ·rw [List.filter_cons_of_pos (by simpa using (show e.1.sum<k+1 by omega)),List.filter_cons_of_neg (by simpa using h1),List.filter_cons_of_pos (by simpa using h2),cJ,cJ,ih];grind
   ·rw [List.filter_cons_of_neg (by simpa using (show ¬e.1.sum<k+1 by omega)),List.filter_cons_of_neg (by simpa using h1),List.filter_cons_of_neg (by simpa using h2),ih]
theorem UF(es:List cL)(g:cL->Rat):bY (low es 0) g=0:=by
 have:low es 0=[]:=by unfold low;exact List.filter_eq_nil_iff.mpr λe _=>by simp
 rw [this,fG]
theorem ZK{F:Nat}{es:List cL}(R:uC F es){k:Nat}{d:List Nat}:d∈(lev es (k+1)).map (·.1) ↔ ∃e∈lev es k,s0 e≠0/\∃f,f<F/\d=bN e.1 f:=by
 constructor
 ·intro h;obtain ⟨x,j,rfl⟩:=aT.mp h;obtain ⟨c,l⟩:=lJ.mp j;have o:x.1≠List.replicate F 0:=λz=>by
   rw [z,rZ] at l;omega
  obtain ⟨e,b,i,f,a,m⟩:=R.bwd x.1 (aT.mpr ⟨x,c,rfl⟩) o;refine ⟨e,lJ.mpr ⟨b,?_⟩,i,f,a,m.symm⟩;have:=mQ (show f<e.1.length by rw [R.len e b];exact a);rw [m] at this;omega
 ·rintro ⟨e,b,i,f,a,rfl⟩;obtain ⟨c,l⟩:=lJ.mp b;obtain ⟨x,j,n⟩:=aT.mp (R.fwd e c i f a);refine aT.mpr ⟨x,lJ.mpr ⟨j,?_⟩,n⟩;rw [n,mQ (by rw [R.len e c];exact a)];omega
theorem ZI{es:List cL}{k:Nat}{g:cL->Rat}(h:∀e∈es,e.1.sum≠k->g e=0):bY es g=bY (lev es k) g:=by
 unfold lev
 induction es with
 | nil=>rfl
 | cons e es a =>
  have a:=a λx b=>h x (aG _ b);by_cases q:e.1.sum=k
  ·rw [List.filter_cons_of_pos (by simpa using q),cJ,cJ,a]
  ·rw [List.filter_cons_of_neg (by simpa using q),cJ,a,h e (aQ ..) q];grind
theorem WV{s:List Fr}(h:∀f∈s,dN f){c:List Nat}(hl:s.length=c.length){j:Nat}(hj:j<s.length):wq s (bN c j)=wq s c*eV s j:=by
 rw [sH h,sH h,uO s c j hj hl]
def rO(F:Nat)(es:List cL)(s:List Fr)(c:List Nat):Rat:=cD F es c*wq s c
def aCr(F:Nat)(es:List cL)(s:List Fr)(ds:List cL)(d:List Nat):Rat:=bY ds λe=>rO F es s e.1*s0 e*dG F λf=>if bN e.1 f=d then eV s f else 0
theorem ZE{F:Nat}{es:List cL}(R:uC F es){s:List Fr}(hs:∀f∈s,dN f)(hl:s.length=F){k:Nat}{d:List Nat}(hd:d.sum=k+1):aCr F es s (lev es k) d=rO F es s d:=by
 have c:cD F es d=bY (lev es k) λe=>cD F es e.1*s0 e*lK F e.1 d:=by
  rw [SQ R d,if_neg (λz=>by rw [z,rZ] at hd;omega),<-ZI λe a j=>by rw [tI (R.len e a) Oo];grind];grind
 unfold aCr rO;rw [c];have h:∀g:cL->Rat,bY (lev es k) g*wq s d=bY (lev es k) λe=>g e*wq s d:=λg=>by
  rw [Rat.mul_comm,<-sN];exact dE λe _=>by grind
 rw [h];refine dE λe a=>?_;obtain ⟨b,_⟩:=lJ.mp a;have le:=R.len e b;have e3:(dG F λf=>if bN e.1 f=d then eV s f else 0)*wq s e.1=lK F e.1 d*wq s d:=by
  unfold lK;rw [Rat.mul_comm,<-lY,Rat.mul_comm (dG F _),<-lY];refine dD λf i=>?_;by_cases q:bN e.1 f=d
  ·rw [if_pos q,if_pos q,<-q,WV hs Oo Oo];grind
  ·rw [if_neg q,if_neg q];grind
 grind
theorem Qn.le1{D C:Nat}{x:Rat}(h:Qn D C x)(d0:0<D)(h0:0<=x)(h1:x<=1):Qn D 1 x:=by
 obtain ⟨X,a,c⟩:=h;have b:(0:Rat)<(D:Rat):=by exact_mod_cast d0
 have X0:0<=X:=by
  have:(0:Rat)<=(X:Rat):=by rw [<-a];exact cT h0 (Rat.le_of_lt b)
  exact_mod_cast this
 have X1:X<=(D:Int):=by
  have:(X:Rat)<=(D:Rat):=by
   rw [<-a];have:=Rat.mul_le_mul_of_nonneg_right h1 (Rat.le_of_lt b);grind
  have:((X:Int):Rat)<=((D:Int):Rat):=by rw [qF];exact this
  exact_mod_cast this
 exact ⟨X,a,Oo⟩
theorem kP{Ds:Nat}{s:Rat}(hs:Qn Ds 1 s)(ds:0<Ds)(h0:0<=s)(h1:s<=1):Qn Ds 1 (1-s) :=
 Qn.le1 ((Qn.one' Ds).sub hs) ds (by grind) (by grind)
section
variable{F W M N B Ns:Nat}{es:List cL}{s:List Fr}
theorem oM.sdnn(R:oM F W M N B Ns es)(hs:∀f∈s,dN f/\0<=f.1)(w:Nat):0<=qD F es (wq s) w:=by
 have all:∀l:List cL,(∀e∈l,e∈es)->0<=bY l λe=>cD F es e.1*wq s e.1*eV e.2 (1+w):=λl=>by
  induction l with
  | nil=>intro _;rw [fG];exact Rat.le_refl
  | cons e l ih =>
   intro h;have i:=ih λx b=>h x (aG _ b);have a:=h e (aQ ..);have d:=cT (cT (R.rl.nnf e.1) (aAE (c:=e.1) hs)) ((R.sy e a).nn (1+w));rw [cJ];grind
 exact all es λe a=>a
theorem oM.sd1(R:oM F W M N B Ns es)(hs:∀f∈s,dN f/\0<=f.1)(h1:iP (s.map rv)=1)(hl:s.length=F){w:Nat}(hw:w<W):qD F es (wq s) w<=1:=by
 have lowS:∀f∈s,dN f:=λf m=>(hs f m).1;have b:=R.rl.all (wq s);rw [KF lowS] at b;have d:(bY es λe=>cD F es e.1*s0 e*dG F λf=>wq s (bN e.1 f))=bY es λe=>cD F es e.1*wq s e.1*s0 e:=dE λe a=>by
  have:=aBf lowS h1 (c:=e.1) (by rw [R.rl.len e a,hl]);rw [hl] at this;rw [<-this];grind
 rw [d] at b;have all:∀l:List cL,(∀e∈l,e∈es)->(bY l λe=>cD F es e.1*wq s e.1*eV e.2 (1+w))<=(bY l λe=>cD F es e.1*wq s e.1)-bY l λe=>cD F es e.1*wq s e.1*s0 e:=λl=>by
  induction l with
  | nil=>intro _;rw [fG,fG,fG];grind
  | cons e l ih =>
   intro h;have h1:=ih λx o=>h x (aG _ o);have a:=h e (aQ ..);have sy:=R.sy e a;have u:=sy.rest;have n:eV e.2 (1+w)<=1-s0 e:=by
    have y:=FG (λv=>eV e.2 (1+v)) hw;have r:0<=dG W (λi=>if i=w then 0 else eV e.2 (1+i)):=KW λi _=>by
     split
     ·exact Rat.le_refl
     ·exact sy.nn _
    have j:s0 e=eV e.2 0:=rfl;rw [j];grind
   have p:=Rat.mul_le_mul_of_nonneg_left n (cT (R.rl.nnf e.1) (aAE (c:=e.1) hs));rw [cJ,cJ,cJ];grind
 have h:=all es λe a=>a;unfold qD;grind
end
structure HE where
 fs:List Str
 ws:List (Str × List Fr)
 es:List cL
abbrev hD(h:HE):PyData:=.tuple [xG h.fs h.ws,zM h.es]
abbrev EQ(hs:List HE):PyData:=.tuple (hs.map hD)
theorem MF(h:HE):eP (hD h)=true:=by
 show (eP (xG h.fs h.ws)&&(eP (zM h.es)&&true))=true;rw [pL,AH];rfl
theorem oA:∀hs:List HE,dU (hs.map hD)=true
 | []=>rfl
 | h::hs=>by show (eP (hD h)&&dU (hs.map hD))=true;rw [oA hs,MF];rfl
theorem qK(hs:List HE):eP (EQ hs)=true:=oA hs
structure vN(D:Nat)(h:HE):Prop where
 ex:∃M Ns,oM h.fs.length h.ws.length M (LC^6) (5^40) Ns h.es/\D=LC^6*Ns^M/\TrG h.ws.length Ns h.ws/\0<Ns/\Ns<2^400
 f2:2<=h.fs.length
 f4:h.fs.length<=4
 w2:2<=h.ws.length
 w4:h.ws.length<=4
 len:∀x∈h.ws,x.2.length=h.fs.length
 nn:∀x∈h.ws,∀f∈x.2,dN f/\0<=f.1
 one:∀x∈h.ws,iP (x.2.map rv)=1
 d1:D<2^600
def pE(h:HE)(j:Nat):Rat:=qD h.fs.length h.es (qOf (wSh h.ws) j) j
theorem SH{h:HE}{j:Nat}{x:Str × List Fr}(hx:h.ws[j]?=some x):pE h j=qD h.fs.length h.es (wq x.2) j:=by
 unfold pE;rw [SX hx]
theorem vN.sd{D:Nat}{h:HE}(ok:vN D h){j:Nat}(hj:j<h.ws.length):0<=pE h j/\pE h j<=1/\Qn D 1 (pE h j)/\0<D:=by
 obtain ⟨M,m,R,rfl,T,i,l⟩:=ok.ex;have e:=aC hj;have a:=List.getElem_mem hj;rw [SH e];have b:=R.sdnn (ok.nn _ a) j;have d:=R.sd1 (ok.nn _ a) (ok.one _ a) (ok.len _ a) hj;have c:=R.pz.1;exact ⟨b,d,Qn.le1 (R.said (T.sh _ a) j) c b d,c⟩
def pq(xs:List Rat):Rat:=xs.foldr (λx p=>(1-x)*p) 1
theorem LP(xs:List Rat)(x:Rat):pq (xs++[x])=pq xs*(1-x):=by
 induction xs with
 | nil=>show (1-x)*1=1*(1-x);grind
 | cons a xs ih=>show (1-a)*pq (xs++[x])=(1-a)*pq xs*(1-x);rw [ih];grind
def pN(Ds:List Nat):Nat:=Ds.foldr (λd p=>d*p) 1
structure wL(xs:List Rat):Prop where
 part:∀i,0<=pq (xs.take i)/\pq (xs.take i)<=1/\∃P,0<P/\P<2^1000/\Qn P 1 (pq (xs.take i))
 each:∀x∈xs,0<=x/\x<=1/\∃P,0<P/\P<2^1000/\Qn P 1 x
 len:xs.length<=64
theorem mW:∀{Ds:List Nat}(i:Nat),(∀d∈Ds,0<d)->0<pN (Ds.take i)/\pN (Ds.take i)<=pN Ds
 | [],i,_=>by rw [List.take_nil];exact ⟨Dd,aE _⟩
 | d::Ds,0,h=>by
  have h1:=(mW (Ds:=Ds) Ds.length λx a=>h x (aG _ a)).1;rw [bP] at h1;refine ⟨by rw [List.take_zero];decide,?_⟩;rw [List.take_zero];exact kM (h d (aQ ..)) h1
 | d::Ds,i+1,h=>by
  obtain ⟨h1,b⟩:=mW (Ds:=Ds) i λx a=>h x (aG _ a);have hd:=h d (aQ ..);rw [List.take_succ_cons];exact ⟨kM hd h1,eB _ b⟩
theorem aAT:∀{xs:List Rat}{Ds:List Nat},Paired (λx D=>0<D/\Qn D 1 x/\0<=x/\x<=1) xs Ds->Qn (pN Ds) 1 (pq xs)/\0<=pq xs/\pq xs<=1
 | _,_,.nil=>⟨Qn.one' _,by show (0:Rat)<=1;decide,by show (1:Rat)<=1;decide⟩
 | x::xs,D::Ds,.cons r t=>by
  obtain ⟨h1,h2,h3⟩:=aAT t;obtain ⟨c,q,a,d⟩:=r;have b:=(kP q c a d).mul h1;refine ⟨b,cT (by grind) h2,?_⟩;show (1-x)*pq xs<=1;have e:(1-x)*pq xs<=(1-x)*1:=Rat.mul_le_mul_of_nonneg_left h3 (by grind);grind
theorem vZ{α β:Type}{R:α->β->Prop}:∀{xs:List α}{ys:List β}(i:Nat),Paired R xs ys->Paired R (xs.take i) (ys.take i)
 | _,_,_,.nil=>by rw [List.take_nil,List.take_nil];exact .nil
 | _,_,0,.cons _ _=>.nil
 | _,_,i+1,.cons r t=>.cons r (vZ i t)
theorem oT{α β:Type}{R:α->β->Prop}:∀{xs:List α}{ys:List β},Paired R xs ys->(∀x∈xs,∃y∈ys,R x y)/\∀y∈ys,∃x∈xs,R x y
 | _,_,.nil=>⟨(λx h=>by cases h),λx h=>by cases h⟩
 | x::xs,y::ys,.cons r t=>by
  obtain ⟨h1,h2⟩:=oT t;refine ⟨λa d=>?_,λb e=>?_⟩
  ·rcases bE.mp d with rfl | d
   ·exact ⟨y,aQ ..,r⟩
   ·obtain ⟨z,c,i⟩:=h1 a d;exact ⟨z,aG _ c,i⟩
  ·rcases bE.mp e with rfl | e
   ·exact ⟨x,aQ ..,r⟩
   ·obtain ⟨z,c,i⟩:=h2 b e;exact ⟨z,aG _ c,i⟩
theorem UB:∀{Ds:List Nat},(∀d∈Ds,0<d)->∀d∈Ds,d<=pN Ds
 | e::Ds,h,d,hd=>by
  have h1:=(mW (Ds:=Ds) Ds.length λx a=>h x (aG _ a)).1;rw [bP] at h1;have b:=h e (aQ ..);show d<=e*pN Ds;rcases bE.mp hd with rfl | hd
  ·have:=eB d h1;omega
  ·have c:=UB (λx a=>h x (aG _ a)) d hd;have:=cS (pN Ds) b;omega
theorem wL.of{xs:List Rat}{Ds:List Nat}(h:Paired (λx D=>0<D/\Qn D 1 x/\0<=x/\x<=1) xs Ds)(hp:pN Ds<2^1000)(hl:xs.length<=64):wL xs:=by
 obtain ⟨n,j⟩:=oT h;have pos:∀d∈Ds,0<d:=λd hd=>let ⟨_,_,r⟩:=j d hd;r.1;refine ⟨λi=>?_,λx p=>?_,hl⟩
 ·obtain ⟨b,l,o⟩:=aAT (vZ i h);obtain ⟨m,e⟩:=mW i pos;exact ⟨l,o,_,m,aY e hp,b⟩
 ·obtain ⟨D,hD,a,q,c,s⟩:=n x p;exact ⟨c,s,D,a,aY (UB pos D hD) hp,q⟩
structure gG(hs:List HE):Prop where
 ex:∃Ds,Paired (λh D=>vN D h) hs Ds/\pN Ds<2^1000
 len:hs.length<=3
 ne:1<=hs.length
def nE(hs:List HE)(ks:List Nat):Prop:=Paired (λh k=>k<h.ws.length) hs ks
def wrs:List HE->List Nat->List Rat
 | h::hs,k::ks=>(1-pE h k)::wrs hs ks
 | _,_=>[]
theorem QS:∀{hs:List HE}{ks:List Nat}{Ds:List Nat},nE hs ks->Paired (λh D=>vN D h) hs Ds->Paired (λx D=>0<D/\Qn D 1 x/\0<=x/\x<=1) (wrs hs ks) Ds
 | _,_,_,.nil,.nil=>.nil
 | h::hs,k::ks,D::Ds,.cons r t,.cons r' t'=>by
  obtain ⟨h0,h1,hq,d0⟩:=r'.sd r;exact .cons ⟨d0,kP hq d0 h0 h1,by grind,by grind⟩ (QS t t')
theorem wM:∀{hs:List HE}{ks:List Nat},nE hs ks->(wrs hs ks).length=hs.length
 | _,_,.nil=>rfl
 | _,_,.cons _ t=>by show _+1=_+1;rw [wM t]
theorem IC:∀{hs:List HE}{ks:List Nat},nE hs ks->∀{i:Nat}{h:HE}{k:Nat},hs[i]?=some h->ks[i]?=some k->(wrs hs ks)[i]?=some (1-pE h k)/\k<h.ws.length
 | _,_,.nil,i,h,k,e,_=>by simp at e
 | _,_,.cons r t,0,h,k,e1,e2=>by
  cases (show _=h by simpa using e1);cases (show _=k by simpa using e2);exact ⟨rfl,r⟩
 | _,_,.cons r t,i+1,h,k,e1,e2=>IC t (by simpa using e1) (by simpa using e2)
theorem gG.pr{hs:List HE}{ks:List Nat}(ok:gG hs)(ch:nE hs ks):wL (wrs hs ks):=by
 obtain ⟨c,b,a⟩:=ok.ex;exact wL.of (QS ch b) a (by rw [wM ch];have:=ok.len;omega)
def UZ(ws:List (Str × List Fr)):Nat:=pN ((ws.flatMap λx=>x.2).map λf=>f.2.natAbs)
theorem yD:∀{Ds:List Nat}{d:Nat},d∈Ds->d ∣ pN Ds
 | e::Ds,d,h=>by
  show d ∣ e*pN Ds;rcases bE.mp h with rfl | h
  ·exact Nat.dvd_mul_right _ _
  ·exact Nat.dvd_trans (yD h) (Nat.dvd_mul_left _ _)
theorem AL{B:Nat}:∀{Ds:List Nat},(∀d∈Ds,d<=B)->pN Ds<=B^Ds.length
 | [],_=>aE _
 | d::Ds,h=>by
  show d*pN Ds<=B^(Ds.length+1);rw [Nat.pow_succ,Nat.mul_comm];exact Nat.mul_le_mul (AL λx hx=>h x (aG _ hx)) (h d (aQ ..))
theorem ML{f:Fr}(l:dN f)(h0:0<=f.1)(h1:f.1<=f.2):Fn f.2.natAbs 1 f:=by
 have a:=l.pos;refine ⟨l,f.1,?_,Oo⟩;have e:=sX a;have b:((f.2.natAbs:Nat):Rat)=(f.2:Rat):=by
  have:((f.2.natAbs:Nat):Int)=f.2:=Oo;rw [<-qF,this]
 rw [b];exact e
theorem GR{F:Nat}:∀{ws:List (Str × List Fr)},(∀x∈ws,x.2.length=F)->(ws.flatMap λx=>x.2).length=ws.length*F
 | [],_=>by simp
 | x::ws,h=>by
  rw [List.flatMap_cons,aV,GR λy hy=>h y (aG _ hy),h x (aQ ..),dB,Nat.add_mul];omega
theorem aFO:∀F,F<=4->∀M,M<=5->(2<=F/\(rise F M).length<=40->F*M<=12):=Kk
theorem aFP:∀F,F<=4->∀M,M<=5->(2<=F/\(rise F M).length<=20->F*M<=9):=Kk
theorem fm9:∀F,F<=4->∀M,M<=5->(2<=F/\(rise F M).length<=9->F*M<=4):=Kk
theorem aA3{t o F W M:Nat}{fs:List Str}{ws:List (Str × List Fr)}{es:List cL}(T:wK t o F W fs ws)(R:NJ F W M es){Z:Nat}(hz:F*M<=Z)(h12:Z<=12):∃D,vN D ⟨fs,ws,es⟩/\D<=LC^6*1000^(4*Z):=by
 have m:=T.lenF;have n:=T.lenW;have hF:=T.hF;have hW:=T.hW;have f1:=R.f1;have e:∀x∈ws,x.2.length=F:=λx a=>(T.sh x a).len;have i:∀x∈ws,∀f∈x.2,f.2.natAbs∈(ws.flatMap λx=>x.2).map λf=>f.2.natAbs:=λx a f b=>aT.mpr ⟨f,List.mem_flatMap.mpr ⟨x,a,b⟩,rfl⟩;have c:∀d∈(ws.flatMap λx=>x.2).map (λf=>f.2.natAbs),0<d/\d<=1000:=λd hd=>by
  obtain ⟨f,b,rfl⟩:=aT.mp hd;obtain ⟨x,a,b⟩:=List.mem_flatMap.mp b;have h:=((T.sh x a).low f b).pos;have u:=(T.sh x a).dn f b;omega
 have j:0<UZ ws:=by
  have:=(mW (Ds:=(ws.flatMap λx=>x.2).map λf=>f.2.natAbs) ((ws.flatMap λx=>x.2).map λf=>f.2.natAbs).length λd hd=>(c d hd).1).1;rw [bP] at this;exact this
 have l:UZ ws<=1000^(4*F):=by
  have h:=AL (B:=1000) λd hd=>(c d hd).2;rw [aB,GR e,n] at h;exact aZ h (bD Dd (cS _ Oo))
 have p:UZ ws^M<=1000^(4*Z):=by
  have h:=Nat.pow_le_pow_left l M;rw [<-Nat.pow_mul,Nat.mul_assoc] at h;exact aZ h (bD Dd (eB _ hz))
 have r:LC^6*UZ ws^M<=LC^6*1000^(4*Z):=eB _ p;have C:LC^6*1000^(4*Z)<=LC^6*1000^48:=eB _ (bD Dd Oo);have A:LC^6*1000^48<2^600:=Kk;have z:(2:Nat)^600<2^2000:=Kk;have s:UZ ws<2^400:=aY (aZ l (bD Dd (show 4*F<=16 by omega))) Kk;have RG:=R.g j (show LC^6*UZ ws^M<2^2000 by omega);refine ⟨LC^6*UZ ws^M,⟨⟨M,UZ ws,by rw [m,n];exact RG,rfl,?_,j,s⟩,by show 2<=fs.length;omega,by show fs.length<=4;omega,by show 2<=ws.length;omega,by show ws.length<=4;omega,λx a=>by rw [m];exact e x a,λx a f b=>⟨(T.sh x a).low f b,(T.sh x a).pos f b⟩,λx a=>?_,Oo⟩,r⟩
 ·refine ⟨rfl,λx a f b=>?_,λx a=>⟨(T.sh x a).low,λf b=>?_,λf b=>?_⟩⟩
  ·exact (ML ((T.sh x a).low f b) ((T.sh x a).pos f b) ((T.sh x a).le f b)).dvd (yD (i x a f b))
  ·have h:=(T.sh x a).pos f b;have u:=(T.sh x a).le f b;have y:=(T.sh x a).dn f b;have w:(2:Nat)^10=1024:=Dd;omega
  ·have h:=((T.sh x a).low f b).pos;have y:=(T.sh x a).dn f b;have w:(2:Nat)^10=1024:=Dd;omega
 ·have:=(T.sh x a).one;rw [<-IV x.2 (T.sh x a).low,this,uM]
abbrev aBE:Stmt:=(top 35)
theorem aAn:cI ["shares","none","share"] ["shares"] (bB aBE):=⟨rfl,rfl,rfl,Kk,rfl,Kk,Kk⟩
abbrev sQ0:Stmt:=(top 58)
theorem cQ0:cI ["_law_shares_here","_law_none","_law_share"] ["_law_shares_here"] (bB sQ0):=⟨rfl,rfl,rfl,Kk,rfl,Kk,Kk⟩
def FqS(K:KFr)(H:Hp)(a:Addr)(xs:List Rat):Prop:=∃vs,(H a=some (.lst vs)\/H a=some (.tup vs))/\vs.length=xs.length/\∀(i:Nat) (v:V),vs[i]?=some v->∃x,xs[i]?=some x/\cE H (fO (cW x)) v
@[irreducible] def kE(K:KFr):Sp:=λvs H Q _=>∃(a:Addr) (xs:List Rat),vs=[.ref a]/\FqS K H a xs/\wL xs/\∀v H',bA H H'->cE H' (fO (cW (1-pq xs))) v->Q v H'
theorem sP{K:KFr}{H:Hp}{Q:VK}{E:XK}{a:Addr}{xs:List Rat}(h1:FqS K H a xs)(h2:wL xs)(k:∀v H',bA H H'->cE H' (fO (cW (1-pq xs))) v->Q v H'):kE K [.ref a] H Q E:=by unfold kE;exact ⟨a,xs,rfl,h1,h2,k⟩
@[irreducible] def xR(K:KFr):Sp:=λvs H Q _=>∃(a:Addr) (xs:List Rat),vs=[.ref a]/\FqS K H a xs/\wL xs/\∀v H',bA H H'->cE H' (fO (cW (1-pq xs))) v->Q v H'
theorem SC{K:KFr}{H:Hp}{Q:VK}{E:XK}{a:Addr}{xs:List Rat}(h1:FqS K H a xs)(h2:wL xs)(k:∀v H',bA H H'->cE H' (fO (cW (1-pq xs))) v->Q v H'):xR K [.ref a] H Q E:=by unfold xR;exact ⟨a,xs,rfl,h1,h2,k⟩
theorem szq{P:Nat}{x:Rat}(h:Qn P 1 x)(p0:0<P)(p1:P<2^1000):kK 4000 (cW x):=gM h p0 (Nat.lt_trans p1 (Nat.pow_lt_pow_right Dd Dd)) Nat.one_le_two_pow
theorem GG{f:Fr}(h:dN f):lw (f.2-f.1) f.2=cW (1-rv f):=by
 refine hV (gQ h.pos) (bO _) ?_;rw [vV h.pos,dI,Rat.intCast_sub,Rat.div_def];have e:=sX h.pos;have:=kX h.pos;grind
theorem szd{x:Rat}(h:kK 4000 (cW x)):(cW x).2.natAbs<2^9000:=Nat.lt_trans h.2 (Nat.pow_lt_pow_right Dd Dd)
section
theorem aFe(F:jP K "some_of" "some_of" aBE f fd)(T:lC K mg c)(FQ42:fW dY P w K mg base 2 "times" ["one","other"] (gO K))(FQ26:fW dY P w K mg base 3 "less" ["one","other"] (iW K)):eT P w K mg base dY 4 f fd ["shares"] (kE K):=by
 refine F.oky aAn λJ H Q E h=>?_;unfold kE at h;obtain ⟨a,xs,rfl,⟨J,N,U,ζ⟩,ok,k⟩:=h;refine ⟨rfl,λβ A R s L=>?_⟩;have len:=ok.len;have o:∀H1:Hp,nD K H1 (1,1) (.ref c.ONE):=λH1=>.inr ⟨c.ONE,rfl,T.o_ONE⟩;have D:kK 4000 (1,1):=⟨Kk,Kk⟩;refine ⟨_,(aS (bS (i:=1) aAn.nd rfl (Or.inl rfl) (iB (v:=.ref c.ONE) rfl T.g_ONE rfl))
  (aS (fB PassesOwn.never rfl (aAF (fX (aL 0)) (kB (aL 0))) (cX (i:=2) aAn.nd rfl (Or.inl rfl)) (bJ (bS (i:=1) aAn.nd rfl (Or.inl rfl) (bV FQ42 (L.mono Dd) (aP (aL 1) (aP (bV FQ26 (L.mono Dd) (aP (iB (v:=.ref c.ONE) rfl T.g_ONE rfl) (aP (aL 2) aJ))) aJ))))))
  (bJ (cP (bV FQ26 (L.mono Dd) (aP (iB (v:=.ref c.ONE) rfl T.g_ONE rfl) (aP (aL 1) aJ))))))),?_⟩
 have step:∀(i:Nat) (v n:V) (H1:Hp) (Q':VK),J[i]?=some v->bA H H1->nD K H1 (cW (pq (xs.take i))) n->(∀q H2,bA H H2->nD K H2 (cW (pq (xs.take (i+1)))) q->Q' q H2)->iW K [.ref c.ONE,v] H1 (λS H2=>gO K [n,S] H2 Q' E0) E0:=λi v n H1 Q' e b d κ=>by
  obtain ⟨x,Y,Z⟩:=ζ i v e;obtain ⟨θ,S,ν,u,z,W⟩:=ok.each x (aR Y);obtain ⟨δ,ε,γ,r,m,I⟩:=ok.part i;refine mF (o H1).v (gI.of (Z.same b)) JE (bO _) D (szq W u z) λα H2 O B l=>?_;have y:pC (1,1) (DI (cW x))=cW (1-x):=by rw [<-jE,xM]
  rw [y] at B;refine iE (d.t l.t).v (gI.new B) (bO _) (bO _) (szq I r m) (szq (kP W u θ S) u z) λμ H3 ι e3 η=>?_;rw [JC] at e3;refine κ _ H3 ((b.trans l).trans η) (.inl (fU ?_));rw [eS Y,LP];exact e3
 have G:∀(n:V) (H1:Hp),bA H H1->nD K H1 (cW (pq xs)) n->iW K [.ref c.ONE,n] H1 Q E0:=λn H1 b d=>by
  obtain ⟨δ,ε,γ,r,m,I⟩:=ok.part xs.length;rw [bP] at I;refine mF (o H1).v d.v JE (bO _) D (szq I r m) λα H2 O B l=>?_;have y:pC (1,1) (DI (cW (pq xs)))=cW (1-pq xs):=by rw [<-jE,xM]
  rw [y] at B;exact k _ H2 (b.trans l) (fU B)
 have X:nD K H (cW (pq (xs.take 0))) (.ref c.ONE):=by
  rw [List.take_zero,show pq []=1 from rfl,jE];exact o H
 rcases N with C | C
 ·refine .inl ⟨_,rfl,a,rfl,⟨_,fY.of C⟩,kZ (xs:=J) (λi σ H'=>∃(n:V) (j:Option V),σ=[some (.ref a),some n,j]/\bA H H'/\nD K H' (cW (pq (xs.take i))) n) ⟨_,_,rfl,bA.refl _,X⟩ (λi σ H' _ p=>?_) ?_ ?_⟩
  ·obtain ⟨n,j,rfl,b,_⟩:=p;exact fY.of (b _ _ C)
  ·rintro i v σ H1 e ⟨n,j,rfl,b,d⟩;refine ⟨_,rfl,_,rfl,?_⟩;exact step i v n H1 _ e b d λq H2 l M=>⟨_,_,rfl,l,M⟩
  ·rintro σ H1 ⟨n,j,rfl,b,d⟩;rw [U,bP] at d;exact ⟨_,rfl,G n H1 b d⟩
 ·refine .inr ⟨_,rfl,a,rfl,⟨_,fN.of C⟩,qZ (xs:=J) (λi σ H'=>∃(n:V) (j:Option V),σ=[some (.ref a),some n,j]/\bA H H'/\nD K H' (cW (pq (xs.take i))) n) ⟨_,_,rfl,bA.refl _,X⟩ (λi σ H' _ p=>?_) ?_ ?_⟩
  ·obtain ⟨n,j,rfl,b,_⟩:=p;exact fN.of (b _ _ C)
  ·rintro i v σ H1 e ⟨n,j,rfl,b,d⟩;refine ⟨_,rfl,_,rfl,?_⟩;exact step i v n H1 _ e b d λq H2 l M=>⟨_,_,rfl,l,M⟩
  ·rintro σ H1 ⟨n,j,rfl,b,d⟩;rw [U,bP] at d;exact ⟨_,rfl,G n H1 b d⟩
theorem oQ0(F:jP K "_law_any" "_law_any" sQ0 f fd)(T:lC K mg c)(FQ8:fW dY P w K mg base 2 "_law_mul" ["_law_one","_law_other"] (lR K))(FQ6:fW dY P w K mg base 1 "_law_low" ["_law_n","_law_d"] mE):eT P w K mg base dY 3 f fd ["_law_shares_here"] (xR K):=by
 refine F.oky cQ0 λJ H Q E h=>?_;unfold xR at h;obtain ⟨a,xs,rfl,⟨J,R,Y,ι⟩,ok,k⟩:=h;refine ⟨rfl,λε A W s M=>?_⟩;have len:=ok.len;refine ⟨_,(aS (bS (i:=1) cQ0.nd rfl (Or.inl rfl) (eO (aP aM (aP aM aJ))))
  (aS (fB PassesOwn.never rfl (aAF (fX (aL 0)) (kB (aL 0))) (cX (i:=2) cQ0.nd rfl (Or.inl rfl)) (bJ (bS (i:=1) cQ0.nd rfl (Or.inl rfl) (bV FQ8 (M.mono Dd) (aP (aL 1) (aP (bV FQ6 (M.mono Dd) (aP (cN yE (bR bK (aL 2) aM (λ_ _=>rfl)) (bR bK (aL 2) aM (λ_ _=>rfl))) (aP (bR bK (aL 2) aM (λ_ _=>rfl)) aJ))) aJ))))))
  (bJ (cP (bV FQ6 (M.mono Dd) (aP (cN yE (bR bK (aL 1) aM (λ_ _=>rfl)) (bR bK (aL 1) aM (λ_ _=>rfl))) (aP (bR bK (aL 1) aM (λ_ _=>rfl)) aJ))))))),?_⟩
 refine rK (by show 2<=64;decide) λμ H0 ξ ρ s0=>?_;have α:cE H0 (fO (cW (pq (xs.take 0)))) (.ref μ):=by
  rw [List.take_zero,show pq []=1 from rfl,jE];exact fU (f:=(1,1)) ρ
 have G:∀(n:V) (H1:Hp),bA H H1->cE H1 (fO (cW (pq xs))) n->(∃a,n=.ref a/\H1 a=some (.tup [.int (cW (pq xs)).1,.int (cW (pq xs)).2])/\mE [.int ((cW (pq xs)).2-(cW (pq xs)).1),.int (cW (pq xs)).2] H1 Q E0):=λn H1 e m=>by
  obtain ⟨η,θ,ζ,y,u,I⟩:=ok.part xs.length;rw [bP] at I;obtain ⟨L,rfl,d⟩:=DX m;refine ⟨L,rfl,d,nR (bO _).pos (szd (szq I y u)) λδ H2 S C r=>?_⟩;rw [GG (bO _),dI] at C;exact k _ H2 (e.trans r) (fU C)
 have step:∀(i:Nat) (v n:V) (H1:Hp) (Q':VK),J[i]?=some v->bA H H1->cE H1 (fO (cW (pq (xs.take i)))) n->(∀q H2,bA H H2->cE H2 (fO (cW (pq (xs.take (i+1))))) q->Q' q H2)->∃(a:Addr) (x:Rat),v=.ref a/\H1 a=some (.tup [.int (cW x).1,.int (cW x).2])/\mE [.int ((cW x).2-(cW x).1),.int (cW x).2] H1 (λX H2=>lR K [n,X] H2 Q' E0) E0:=λi v n H1 Q' o e m τ=>by
  obtain ⟨x,β,γ⟩:=ι i v o;obtain ⟨ν,X,φ,z,B,Z⟩:=ok.each x (aR β);obtain ⟨η,θ,ζ,y,u,I⟩:=ok.part i;obtain ⟨O,rfl,b⟩:=DX (γ.same e);refine ⟨O,x,rfl,b,nR (bO _).pos (szd (szq Z z B)) λδ H2 S C r=>?_⟩;rw [GG (bO _),dI] at C;refine FM (gI.of (m.same r)) (gI.new C) (bO _) (bO _) (szq I y u) (szq (kP Z z ν X) z B) λυ H3 ο e3 κ=>?_;rw [JC] at e3;refine τ _ H3 ((e.trans r).trans κ) (fU ?_);rw [eS β,LP];exact e3
 rcases R with D | D
 ·refine .inl ⟨_,rfl,a,rfl,⟨_,fY.of (s0 _ _ D)⟩,kZ (xs:=J) (λi σ H'=>∃(n:V) (l:Option V),σ=[some (.ref a),some n,l]/\bA H H'/\cE H' (fO (cW (pq (xs.take i)))) n) ⟨_,_,rfl,s0,α⟩ (λi σ H' _ p=>?_) ?_ ?_⟩
  ·obtain ⟨n,l,rfl,e,_⟩:=p;exact fY.of (e _ _ D)
  ·rintro i v σ H1 o ⟨n,l,rfl,e,m⟩;obtain ⟨O,x,rfl,b,j⟩:=step i v n H1 _ o e m λq H2 r N=>(⟨q,some v,rfl,r,N⟩:∃(n:V) (l:Option V),[some (.ref a),some q,some v]=[some (.ref a),some n,l]/\bA H H2/\cE H2 (fO (cW (pq (xs.take (i+1))))) n);refine ⟨_,rfl,_,rfl,iI b rfl ?_⟩;refine ⟨_,rfl,iI b rfl ?_⟩;refine ⟨_,_,rfl,rfl,⟨_,rfl,iI b rfl ?_⟩⟩;exact j
  ·rintro σ H1 ⟨n,l,rfl,e,m⟩;rw [Y,bP] at m;obtain ⟨L,rfl,d,U⟩:=G n H1 e m;refine ⟨_,rfl,iI d rfl ?_⟩;refine ⟨_,rfl,iI d rfl ?_⟩;refine ⟨_,_,rfl,rfl,⟨_,rfl,iI d rfl ?_⟩⟩;exact U
 ·refine .inr ⟨_,rfl,a,rfl,⟨_,fN.of (s0 _ _ D)⟩,qZ (xs:=J) (λi σ H'=>∃(n:V) (l:Option V),σ=[some (.ref a),some n,l]/\bA H H'/\cE H' (fO (cW (pq (xs.take i)))) n) ⟨_,_,rfl,s0,α⟩ (λi σ H' _ p=>?_) ?_ ?_⟩
  ·obtain ⟨n,l,rfl,e,_⟩:=p;exact fN.of (e _ _ D)
  ·rintro i v σ H1 o ⟨n,l,rfl,e,m⟩;obtain ⟨O,x,rfl,b,j⟩:=step i v n H1 _ o e m λq H2 r N=>(⟨q,some v,rfl,r,N⟩:∃(n:V) (l:Option V),[some (.ref a),some q,some v]=[some (.ref a),some n,l]/\bA H H2/\cE H2 (fO (cW (pq (xs.take (i+1))))) n);refine ⟨_,rfl,_,rfl,iI b rfl ?_⟩;refine ⟨_,rfl,iI b rfl ?_⟩;refine ⟨_,_,rfl,rfl,⟨_,rfl,iI b rfl ?_⟩⟩;exact j
  ·rintro σ H1 ⟨n,l,rfl,e,m⟩;rw [Y,bP] at m;obtain ⟨L,rfl,d,U⟩:=G n H1 e m;refine ⟨_,rfl,iI d rfl ?_⟩;refine ⟨_,rfl,iI d rfl ?_⟩;refine ⟨_,_,rfl,rfl,⟨_,rfl,iI d rfl ?_⟩⟩;exact U
end
abbrev aBN:Stmt:=(top 6)
theorem aF7:cI ["one","other"] ["one","other"] (bB aBN):=⟨rfl,rfl,rfl,Kk,rfl,Kk,Kk⟩
abbrev aBM:Stmt:=(top 8)
theorem aAo:cI ["some","place","k"] ["some"] (bB aBM):=⟨rfl,rfl,rfl,Kk,rfl,Kk,Kk⟩
abbrev XO:Stmt:=(top 34)
theorem aFY:cI ["hall","choice"] ["hall","choice"] (bB XO):=⟨rfl,rfl,rfl,Kk,rfl,Kk,Kk⟩
abbrev XN:Stmt:=(top 36)
theorem aEl:cI ["hall","choice"] ["hall"] (bB XN):=⟨rfl,rfl,rfl,Kk,rfl,Kk,Kk⟩
abbrev XX:Stmt:=(top 37)
theorem aF9:cI ["shares"] ["shares"] (bB XX):=⟨rfl,rfl,rfl,Kk,rfl,Kk,Kk⟩
abbrev aBO:Stmt:=(top 38)
theorem aF8:cI ["bound","shares"] ["bound","shares"] (bB aBO):=⟨rfl,rfl,rfl,Kk,rfl,Kk,Kk⟩
section
theorem aFu(F:jP K "is_less" "is_less" aBN f fd)(T:lC K mg c):eT P w K mg base dY 1 f fd ["one","other"] (lI K):=by
 refine F.oky aF7 λD H Q E h=>?_;unfold lI at h;obtain ⟨x,y,⟨a,b⟩,⟨c,d⟩,rfl,u,p,⟨n,l⟩,⟨r,o⟩,q⟩:=h;refine ⟨rfl,λm A e s C=>?_⟩;obtain ⟨B,rfl,i⟩:=u;obtain ⟨z,rfl,j⟩:=p;refine ⟨_,(bJ (cP (uE aAV (cN fE (bR bK (aL 0) aM (λ_ _=>rfl)) (bR bK (aL 1) aM (λ_ _=>rfl))) (cN fE (bR bK (aL 1) aM (λ_ _=>rfl)) (bR bK (aL 0) aM (λ_ _=>rfl))) (nomark _)))),?_⟩;refine ⟨_,rfl,uB i rfl ?_⟩;refine ⟨_,rfl,uB j rfl ?_⟩;refine ⟨_,_,rfl,rfl,tE n o,⟨_,rfl,uB j rfl ?_⟩⟩;refine ⟨_,rfl,uB i rfl ?_⟩;exact ⟨_,_,rfl,rfl,tE r l,_,_,rfl,rfl,q⟩
end
@[irreducible] def nT:Sp:=λvs H Q _=>∃a fs,vs=[.ref a]/\(∃xs,H a=some (.lst xs)/\bG H (fs.map fO) xs)/\(∀f∈fs,dN f/\kK 4000 f)/\0<fs.length/\fs.length<=64/\∀p y,jG fs fs.length p y->Q (.int (p:Nat)) H
theorem FO{H:Hp}{Q:VK}{E:XK}{a:Addr}{xs:List V}{fs:List Fr}(h:H a=some (.lst xs))(r:bG H (fs.map fO) xs)(ok:∀f∈fs,dN f/\kK 4000 f)(h0:0<fs.length)(h1:fs.length<=64)(q:∀p y,jG fs fs.length p y->Q (.int (p:Nat)) H):nT [.ref a] H Q E:=by unfold nT;exact ⟨a,fs,rfl,⟨xs,h,r⟩,ok,h0,h1,q⟩
section
theorem aFs(F:jP K "least_place" "least_place" aBM f fd)(T:lC K mg c)
  (FQ22:fW dY P w K mg base 1 "is_less" ["one","other"] (lI K)):eT P w K mg base dY 2 f fd ["some"] nT:=by
 refine F.oky aAo λB H Q E h=>?_;unfold nT at h;obtain ⟨a,fs,rfl,⟨B,l,d⟩,ok,M,S,q⟩:=h;refine ⟨rfl,λD A r s C=>?_⟩;have x:=dR d;refine ⟨_,(aS (bS (i:=1) aAo.nd rfl (Or.inl rfl) aM)
  (aS (fB PassesOwn.never rfl (NS rfl T.b_range (aP aM (aP (gK jI (by rfl) T.b_len Kk (aP (aL 0) aJ)) aJ))) (cX (i:=2) aAo.nd rfl (Or.inl rfl)) (bJ (lV (mX (bV FQ22 (C.mono Dd) (aP (bR bK (aL 0) (aL 2) (λ_ _=>rfl)) (aP (bR bK (aL 0) (aL 1) (λ_ _=>rfl)) aJ)))) (bJ (bS (i:=1) aAo.nd rfl (Or.inl rfl) (aL 2))) iA)))
  (bJ (cP (aL 1))))),?_⟩
 refine ⟨_,rfl,YC l ?_⟩;refine ⟨_,_,rfl,⟨Oo,Oo,Oo,Oo⟩,?_⟩;have u:∃y,fs[0]?=some y:=⟨_,aC M⟩;obtain ⟨J,u⟩:=u;refine iT (λi σ H'=>∃(p:Nat) (y:Fr) (j:Option V),σ=[some (.ref a),some (.int (p:Int)),j]/\H'=H/\jG fs (i+1) p y) ⟨0,J,_,rfl,rfl,jG.one u⟩ ?_ ?_
 ·rintro i σ H1 U ⟨p,y,j,rfl,rfl,L⟩;have n:i+1<fs.length:=Oo;have b:fs[i+1]?=some fs[i+1]:=aC n;generalize fs[i+1]=z at b;obtain ⟨W,m,G⟩:=gP d b;obtain ⟨R,o,O⟩:=gP d L.at_;have I:(1:Int)+(i:Int)=((i+1:Nat):Int):=Oo;rw [I];refine ⟨_,rfl,_,rfl,nZ l (dM m) ?_⟩;refine ⟨_,rfl,_,rfl,nZ l (dM o) ?_⟩;refine AC (gI.of G) (gI.of O) (ok _ (aR b)).2 (ok _ (aR L.at_)).2 ⟨_,rfl,yM (λe=>?_) (λe=>?_)⟩
  ·exact ⟨_,rfl,⟨i+1,z,_,rfl,rfl,L.next (λf N=>(ok f N).1) b e⟩⟩
  ·exact ⟨p,y,_,rfl,rfl,L.stay b e⟩
 ·rintro σ H1 ⟨p,y,j,rfl,rfl,L⟩;refine ⟨_,rfl,?_⟩;have:((B.length:Int)-1).toNat+1=fs.length:=Oo;rw [this] at L;exact q p y L
end
theorem lT{K:KFr}{H:Hp}{Q:VK}{E:XK}{x y:V}{p q:Rat}(h1:gI K H (cW p) x)(h2:gI K H (cW q) y)(z1:kK 4000 (cW p))(z2:kK 4000 (cW q))(k:∀b:Bool,(b=true↔p<q)->Q (.bl b) H):lI K [x,y] H Q E :=
 AC h1 h2 z1 z2 (k _ (by
  rw [decide_eq_true_iff];have:=aAP (f:=cW p) (g:=cW q) (bO _).pos (bO _).pos
  rwa [dI,dI] at this))
@[irreducible] def jM(K:KFr):Sp:=λvs H Q _=>∃(x:V) (b:Addr) (hs:List HE) (ks:List Nat),vs=[x,.ref b]/\cE H (EQ hs) x/\H b=some (.tup (ks.map lE))/\gG hs/\nE hs ks/\∀v H',bA H H'->cE H' (fO (cW (1-pq (wrs hs ks)))) v->Q v H'
theorem rV{K:KFr}{H:Hp}{Q:VK}{E:XK}{x:V}{b:Addr}{hs:List HE}{ks:List Nat}(h1:cE H (EQ hs) x)(h2:H b=some (.tup (ks.map lE)))(h3:gG hs)(h4:nE hs ks)(k:∀v H',bA H H'->cE H' (fO (cW (1-pq (wrs hs ks)))) v->Q v H'):jM K [x,.ref b] H Q E:=by unfold jM;exact ⟨x,b,hs,ks,rfl,h1,h2,h3,h4,k⟩
def wrl(h:HE):List Rat:=(List.range h.ws.length).map λj=>1-pE h j
theorem BT{h:HE}{j:Nat}(hj:j<h.ws.length):(wrl h)[j]?=some (1-pE h j):=by unfold wrl;rw [aI,eN hj];rfl
theorem aBe(h:HE):(List.range h.ws.length).map (wrF h.fs.length h.ws.length h.es (wSh h.ws))=(wrl h).map cW:=by unfold wrl;rw [List.map_map];rfl
@[irreducible] def nU(K:KFr):Sp:=λvs H Q _=>∃(x:V) (xs:List Rat) (D:Nat),vs=[x]/\cE H (vU (xs.map cW)) x/\(∀x∈xs,0<=x/\x<=1/\Qn D 1 x)/\0<D/\D<2^1000/\0<xs.length/\xs.length<=64/\∀(p:Nat) (y:Rat) H',bA H H'->xs[p]?=some y->(∀z∈xs,z<=y)->Q (.int (p:Nat)) H'
theorem FP{K:KFr}{H:Hp}{Q:VK}{E:XK}{x:V}{xs:List Rat}{D:Nat}(h1:cE H (vU (xs.map cW)) x)(h2:∀x∈xs,0<=x/\x<=1/\Qn D 1 x)(h3:0<D)(h4:D<2^1000)(h5:0<xs.length)(h6:xs.length<=64)(k:∀(p:Nat) (y:Rat) H',bA H H'->xs[p]?=some y->(∀z∈xs,z<=y)->Q (.int (p:Nat)) H'):nU K [x] H Q E:=by unfold nU;exact ⟨x,xs,D,rfl,h1,h2,h3,h4,h5,h6,k⟩
def Wst(hs:List HE)(ms:List Nat):Prop:=∀(i:Nat) (h:HE) (m:Nat),hs[i]?=some h->ms[i]?=some m->∀j,j<h.ws.length->pE h m<=pE h j
@[irreducible] def pR(K:KFr):Sp:=λvs H Q _=>∃(x:V) (hs:List HE),vs=[x]/\cE H (EQ hs) x/\gG hs/\∀v y b ms H',bA H H'->H' v=some (.tup [y,.ref b])->cE H' (fO (cW (1-pq (wrs hs ms)))) y->H' b=some (.tup (ms.map lE))->nE hs ms->Wst hs ms->Q (.ref v) H'
theorem IJ{K:KFr}{H:Hp}{Q:VK}{E:XK}{x:V}{hs:List HE}(h1:cE H (EQ hs) x)(h2:gG hs)(k:∀v y b ms H',bA H H'->H' v=some (.tup [y,.ref b])->cE H' (fO (cW (1-pq (wrs hs ms)))) y->H' b=some (.tup (ms.map lE))->nE hs ms->Wst hs ms->Q (.ref v) H'):pR K [x] H Q E:=by unfold pR;exact ⟨x,hs,rfl,h1,h2,k⟩
@[irreducible] def pY(K:KFr):Sp:=λvs H Q _=>∃(x:V) (a:Addr) (q:Rat) (xs:List Rat),vs=[x,.ref a]/\gI K H (cW q) x/\kK 4000 (cW q)/\FqS K H a xs/\wL xs/\∀(b:Bool) H',bA H H'->(b=true↔1-pq xs<=q)->Q (.bl b) H'
theorem IQ{K:KFr}{H:Hp}{Q:VK}{E:XK}{x:V}{a:Addr}{q:Rat}{xs:List Rat}(h1:gI K H (cW q) x)(h2:kK 4000 (cW q))(h3:FqS K H a xs)(h4:wL xs)(k:∀(b:Bool) H',bA H H'->(b=true↔1-pq xs<=q)->Q (.bl b) H'):pY K [x,.ref a] H Q E:=by unfold pY;exact ⟨x,a,q,xs,rfl,h1,h2,h3,h4,k⟩
theorem qL{H:Hp}{h:HE}{v:V}(r:cE H (hD h) v):∃a t u,v=.ref a/\H a=some (.tup [t,u])/\cE H (xG h.fs h.ws) t/\cE H (zM h.es) u:=by
 obtain ⟨a,i,rfl,d,b⟩:=eU r;obtain ⟨t,u,rfl,e,c⟩:=iL b;exact ⟨a,t,u,rfl,d,e,c⟩
theorem gG.at_{hs:List HE}(ok:gG hs){i:Nat}{h:HE}(e:hs[i]?=some h):∃D,vN D h:=by
 obtain ⟨b,a,_⟩:=ok.ex;obtain ⟨D,_,r⟩:=(oT a).1 h (aR e);exact ⟨D,r⟩
theorem vN.dz{D:Nat}{h:HE}(ok:vN D h):D<2^1000:=Nat.lt_trans ok.d1 (Nat.pow_lt_pow_right Dd Dd)
section
theorem BS{H:Hp}{Q:VK}{E:XK}{t u:V}{h:HE}{D:Nat}(ok:vN D h)(rt:cE H (xG h.fs h.ws) t)(ru:cE H (zM h.es) u)(k:∀v H',bA H H'->cE H' (vU ((wrl h).map cW)) v->Q v H'):kQ K [t,u] H Q E:=by
 obtain ⟨M,e,R,rfl,TG,c,d⟩:=ok.ex;have f2:=ok.f2;refine II rt (IW ru) R Oo ok.f4 ok.w4 TG λv H' a b=>k v H' a ?_;rw [<-aBe];exact b
theorem aE9(F:jP K "together" "together" XO f fd)(T:lC K mg c)(FQ38:fW dY P w K mg base 4 "some_of" ["shares"] (kE K))(FQ49:fW dY P w K mg base 5 "wrong" ["trial","rule"] (kQ K)):eT P w K mg base dY 6 f fd ["hall","choice"] (jM K):=by
 refine F.oky aFY λvs H Q E h=>?_;unfold jM at h;obtain ⟨x,b,n,m,rfl,α,Y,ok,o,k⟩:=h;refine ⟨rfl,λγ A S s U=>?_⟩;obtain ⟨a,xs,rfl,W,d⟩:=eU α;have η:xs.length=n.length:=dR d;have lk:m.length=n.length:=o.length.symm;have l3:=ok.len;refine ⟨_,(bJ (cP (bV FQ38 (U.mono Dd) (aP (jJ (eF.of (psc:=bB XO) (N:=["hall","choice"]) (xs:=["test","way"]) (N':=["test","way"]) (js:=[]) Kk rfl rfl rfl) (sA true true rfl T.b_zip (aP (aL 0) (aP (aL 1) aJ))) (λ_ _ _ _=>eZ) (λ_ _ _ _=>(bR (fK K) (bV FQ49 (U.mono Dd) (aP (bR (fK K) (aL 0) aM (λ_ _=>rfl)) (aP (bR (fK K) (aL 0) aM (λ_ _=>rfl)) aJ))) (aL 1) (λ_ _=>rfl)))) aJ)))),?_⟩;refine ⟨_,rfl,_,rfl,⟨a,b,xs,m.map lE,rfl,W,Y,rF (b1:=true) (b2:=true) (xs:=xs) (ys:=m.map lE) (λj y H'=>∃x,(wrs n m)[j]?=some x/\cE H' (fO (cW x)) y) (λj y H1 H2 s ⟨x,ρ,μ⟩=>⟨x,ρ,μ.flat s (fV _)⟩) Oo W Y (by rw [aB];omega) (λj v1 O H' Q' G e ζ ν=>?_) (λD β H1 hD ε ι ο L=>?_)⟩⟩
 ·obtain ⟨h,Z,κ⟩:=dS d G;rw [aI] at e;obtain ⟨X,C,rfl⟩:=eJ.mp e;obtain ⟨p,r⟩:=IC o Z C;obtain ⟨χ,J⟩:=ok.at_ Z;obtain ⟨ω,τ,υ,rfl,l,I,R⟩:=qL (κ.same ζ);refine ⟨_,rfl,iI l rfl ?_⟩;refine ⟨_,rfl,iI l rfl ?_⟩;refine BS J I R λO H2 M u=>?_;obtain ⟨ψ,φ,rfl,B,z⟩:=qC u;obtain ⟨y,δ,ξ⟩:=gP z (show ((wrl h).map cW)[X]?=some (cW (1-pE h X)) by rw [aI,BT r];rfl);refine ⟨_,rfl,iI B (dM δ) ?_⟩;exact ν _ H2 M ⟨_,p,ξ⟩
 ·exact sP (K:=K) (xs:=wrs n m) ⟨β,.inl ε,by rw [ο,wM o];exact η,λi v θ=>L i v θ⟩ (ok.pr o) λO H2 M u=>k O H2 (ι.trans M) u
theorem aFw(F:jP K "greatest_place" "greatest_place" XX f fd)(T:lC K mg c)(FQ24:fW dY P w K mg base 2 "least_place" ["some"] nT)(FQ26:fW dY P w K mg base 3 "less" ["one","other"] (iW K)):eT P w K mg base dY 4 f fd ["shares"] (nU K):=by
 refine F.oky aF9 λω H Q E h=>?_;unfold nU at h;obtain ⟨x,i,D,rfl,γ,α,U,W,τ,n,k⟩:=h;refine ⟨rfl,λζ A I s S=>?_⟩;obtain ⟨a,ι,rfl,Z,d⟩:=qC γ;have ε:ι.length=i.length:=by rw [dR d,aB]
 have J:∀H1:Hp,nD K H1 (0,1) (.ref c.NOUGHT):=λH1=>.inr ⟨c.NOUGHT,rfl,T.o_NOUGHT⟩;have u:kK 4000 (0,1):=⟨Kk,Kk⟩;refine ⟨_,(bJ (cP (bV FQ24 (S.mono Dd) (aP (gX (fM.of (psc:=bB XX) (N:=["shares"]) (N':=["share"]) (js:=[]) Kk rfl rfl rfl) (kB (aL 0)) (λ_ _ _ _=>eZ) (λ_ _ _ _=>(bV FQ26 (S.mono Dd) (aP (iB (v:=.ref c.NOUGHT) rfl T.g_NOUGHT rfl) (aP (aL 0) aJ))))) aJ)))),?_⟩;refine ⟨_,rfl,a,rfl,⟨_,fN.of Z⟩,oC (λj y H'=>∃x,i[j]?=some x/\cE H' (fO (cW (0-x))) y) (λj y Ha χ s ⟨x,R,G⟩=>⟨x,R,G.flat s (fV _)⟩) Oo Z (λj y H' Q' e θ υ=>?_) (λL δ H1 ψ η κ M C=>?_)⟩
 ·obtain ⟨g,X,β⟩:=dS d e;rw [aI] at X;obtain ⟨x,b,rfl⟩:=eJ.mp X;obtain ⟨ν,ξ,m⟩:=α x (aR b);refine ⟨_,rfl,?_⟩;refine mF (J H').v (gI.of (β.same θ)) ZG (bO _) u (szq m U W) λφ H2 μ Y ρ=>?_;rw [<-tN,xM] at Y;exact υ _ H2 ρ ⟨x,b,fU Y⟩
 ·have O:bG H1 ((i.map λx=>cW (0-x)).map fO) δ:=bG.ofIdx (by rw [M,ε,aB,aB]) λj y l=>by
   obtain ⟨x,R,G⟩:=C j y l;exact ⟨_,by rw [aI,aI,R];rfl,G⟩
  refine FO η O (λf ο=>?_) (by rw [aB];exact τ) (by rw [aB];exact n) λp y L=>?_
  ·obtain ⟨x,r,rfl⟩:=aT.mp ο;obtain ⟨ν,ξ,m⟩:=α x r;refine ⟨bO _,szq (P:=D) ?_ U W⟩;have:=m.neg
   rwa [show -x=0-x by grind] at this
  ·have e:=L.at_;rw [aI] at e;obtain ⟨x,o,rfl⟩:=eJ.mp e;refine k p x H1 κ o λz M=>?_;obtain ⟨j,l⟩:=cU.mp M;have B:j<(i.map λx=>cW (0-x)).length:=by rw [aB];exact (aO.mp l).1
   have:=L.no j (cW (0-z)) B (by rw [aI,l];rfl);refine dQ λq=>this ?_;refine (aAP (bO _).pos (bO _).pos).mpr ?_;rw [dI,dI];grind
theorem aE4(F:jP K "worst" "worst" XN f fd)(T:lC K mg c)(FQ20:fW dY P w K mg base 4 "greatest_place" ["shares"] (nU K))(FQ49:fW dY P w K mg base 5 "wrong" ["trial","rule"] (kQ K))(FQ43:fW dY P w K mg base 6 "together" ["hall","choice"] (jM K)):eT P w K mg base dY 7 f fd ["hall"] (pR K):=by
 refine F.oky aEl λvs H Q E h=>?_;unfold pR at h;obtain ⟨x,n,rfl,ο,ok,k⟩:=h;refine ⟨rfl,λaa A γ s δ=>?_⟩;have ι:=ο;obtain ⟨a,xs,rfl,ρ,I⟩:=eU ο;have lx:xs.length=n.length:=dR I;have l3:=ok.len;refine ⟨_,(aS (bS (i:=1) aEl.nd rfl (Or.inl rfl) (jK dF (by rfl) T.b_tuple Kk (aP (gX (fM.of (psc:=bB XN) (N:=["hall","choice"]) (N':=["test"]) (js:=[]) Kk rfl rfl rfl) (kB (aL 0)) (λ_ _ _ _=>eZ) (λ_ _ _ _=>(bV FQ20 (δ.mono Dd) (aP (bV FQ49 (δ.mono Dd) (aP (bR (fK K) (aL 0) aM (λ_ _=>rfl)) (aP (bR (fK K) (aL 0) aM (λ_ _=>rfl)) aJ))) aJ)))) aJ)))
  (bJ (cP (eO (aP (bV FQ43 (δ.mono Dd) (aP (aL 0) (aP (aL 1) aJ))) (aP (aL 1) aJ)))))),?_⟩
 refine ⟨_,rfl,a,rfl,⟨_,fN.of ρ⟩,oC (λj y _=>∃(h:HE) (m:Nat),n[j]?=some h/\y=.int (m:Nat)/\m<h.ws.length/\∀j,j<h.ws.length->pE h m<=pE h j) (λ_ _ _ _ _ h=>h) Oo ρ (λj y H' Q' Y s' k'=>?_) (λL r H1 hL u ν U α=>?_)⟩
 ·obtain ⟨h,ξ,χ⟩:=dS I Y;obtain ⟨Dh,d⟩:=ok.at_ ξ;obtain ⟨ta,tt,tu,rfl,D,R,θ⟩:=qL (χ.same s');have w2:=d.w2;have w4:=d.w4;refine ⟨_,rfl,iI D rfl ?_⟩;refine ⟨_,rfl,iI D rfl ?_⟩;refine BS d R θ λv2 H2 s2 r2=>?_;have lw:(wrl h).length=h.ws.length:=by unfold wrl;rw [aB,cR]
  have κ:=(d.sd (j:=0) Oo).2.2.2;refine FP r2 (λx hx=>?_) κ d.dz Oo Oo λp y H3 O ε C=>?_
  ·obtain ⟨i,υ,rfl⟩:=aT.mp hx;obtain ⟨h0,W,ω,_⟩:=d.sd (bT.mp υ);exact ⟨by grind,by grind,kP ω κ h0 W⟩
  ·have G:p<h.ws.length:=by rw [<-lw];exact (aO.mp ε).1
   rw [BT G] at ε;cases ε;refine k' _ H3 (s2.trans O) ⟨h,p,ξ,rfl,G,λj hj=>?_⟩;have:=C _ (aR (BT hj));grind
 ·obtain ⟨b,β,τ,ζ⟩:∃b:List Nat,r=b.map lE/\nE n b/\Wst n b:=by
   have all:∀(n:List HE) (r:List V),r.length=n.length->(∀(j:Nat) (y:V),r[j]?=some y->∃(h:HE) (m:Nat),n[j]?=some h/\y=.int (m:Nat)/\m<h.ws.length/\∀j,j<h.ws.length->pE h m<=pE h j)->∃b:List Nat,r=b.map lE/\nE n b/\Wst n b:=λn=>by
    induction n with
    | nil =>
     intro r B _;rw [List.length_eq_zero_iff.mp B];exact ⟨[],rfl,.nil,λi h m e=>by simp at e⟩
    | cons h n ih =>
     intro r B U;cases r with
     | nil=>cases B
     | cons z r =>
      obtain ⟨X,m,u,rfl,W,h2⟩:=U 0 z rfl;cases (show h=X by simpa using u);obtain ⟨b,rfl,ψ,c2⟩:=ih r (by simpa using B) λj y Y=>by
       obtain ⟨X,m,u,M,e3⟩:=U (j+1) y (by simpa using Y);exact ⟨X,m,by simpa using u,M,e3⟩
      refine ⟨m::b,rfl,.cons W ψ,λi J μ u M=>?_⟩;cases i with
      | zero =>
       cases (show h=J by simpa using u);cases (show m=μ by simpa using M);exact h2
      | succ i=>exact c2 i J μ (by simpa using u) (by simpa using M)
   exact all n r Oo α
  subst β;refine ⟨L,_,rfl,.inl ⟨fY.of u,λl B=>?_⟩⟩;have Z:=bA.upd (o:=.tup (b.map lE)) B;have η:(upd H1 l (.tup (b.map lE))) l=some (.tup (b.map lE)):=bL;generalize upd H1 l (.tup (b.map lE))=H2 at Z η ⊢;refine ⟨_,rfl,_,rfl,?_⟩;refine rV (ι.same (ν.trans Z)) η ok τ λφ H3 O r3=>⟨_,rfl,?_⟩;exact rK (by show 2<=64;decide) λq4 H4 hq4 e4 S=>k q4 φ l b H4 (((ν.trans Z).trans O).trans S) e4 (r3.same S) (S _ _ (O _ _ η)) τ ζ
theorem aFv(F:jP K "is_dealt" "is_dealt" aBO f fd)(T:lC K mg c)(FQ22:fW dY P w K mg base 1 "is_less" ["one","other"] (lI K))(FQ38:fW dY P w K mg base 4 "some_of" ["shares"] (kE K)):eT P w K mg base dY 5 f fd ["bound","shares"] (pY K):=by
 refine F.oky aF8 λG H Q E h=>?_;unfold pY at h;obtain ⟨x,a,q,l,rfl,C,B,fq,ok,k⟩:=h;refine ⟨rfl,λy A i s j=>?_⟩;refine ⟨_,(bJ (cP (BW (bV FQ22 (j.mono Dd) (aP (aL 0) (aP (bV FQ38 (j.mono Dd) (aP (aL 1) aJ)) aJ)))))),⟨_,rfl,_,rfl,?_⟩⟩;refine sP fq ok λI H1 p u=>?_;obtain ⟨m,n,D,d,e,o⟩:=ok.part l.length;rw [bP] at o m n;refine lT (gI.same p C) (gI.of u) B (szq (kP o d m n) d e) λb r=>⟨_,rfl,?_⟩;refine k (!b) H1 p ?_;cases b
 ·simp only [Bool.not_false,true_iff];have:¬q<1-pq l:=λz=>by have:=r.mpr z;cases this
  exact Rat.not_lt.mp this
 ·simp only [Bool.not_true,Bool.false_eq_true,false_iff];have:=r.mp rfl;exact Rat.not_le.mpr this
end
abbrev sQ4:Stmt:=(top 56)
theorem cQ4:cI ["_law_feed_here","_law_room","_law_many","_law_hall_here","_law_k","_law_trial_here"] ["_law_feed_here"] (bB sQ4):=⟨rfl,rfl,rfl,Kk,rfl,Kk,Kk⟩
def CZ(n:Nat):Nat:=if n=1 then 40 else if n=2 then 20 else 9
def WT(n:Nat):Nat:=if n=1 then 12 else if n=2 then 9 else 4
structure WQ(n:Nat)(h:HE):Prop where
 ex:∃t o F W M,wK t o F W h.fs h.ws/\NJ F W M h.es/\F*M<=WT n
@[irreducible] def pW:Sp:=λvs H Q _=>∃(p L:Addr),vs=[.ref p]/\cK H p L/\∀v hs H',cK H' p L->aU p H H'->cE H' (EQ hs) v->gG hs->(∀x∈hs,WQ hs.length x)->Q v H'
theorem IO{H:Hp}{Q:VK}{E:XK}{p L:Addr}(F:cK H p L)(k:∀v hs H',cK H' p L->aU p H H'->cE H' (EQ hs) v->gG hs->(∀x∈hs,WQ hs.length x)->Q v H'):pW [.ref p] H Q E:=by unfold pW;exact ⟨p,L,rfl,F,k⟩
theorem QK{n F M:Nat}(hn:n=1\/n=2\/n=3)(f2:2<=F)(f4:F<=4)(m5:M<=5)(h:(rise F M).length<=CZ n):F*M<=WT n:=by
 rcases hn with rfl | rfl | rfl
 ·exact aFO F f4 M m5 ⟨f2,h⟩
 ·exact aFP F f4 M m5 ⟨f2,h⟩
 ·exact fm9 F f4 M m5 ⟨f2,h⟩
theorem aCh{B:Nat}{Ds:List Nat}{n:Nat}(h:∀d∈Ds,d<=B)(hl:Ds.length=n):pN Ds<=B^n:=hl ▸ AL h
theorem ZT{n:Nat}{hs:List HE}(hn:n=1\/n=2\/n=3)(hl:hs.length=n)(h:∀x∈hs,WQ n x):gG hs:=by
 have c:WT n<=12:=by rcases hn with rfl | rfl | rfl <;> decide
 have all:∀l:List HE,(∀x∈l,WQ n x)->∃a:List Nat,Paired (λh D=>vN D h) l a/\∀d∈a,d<=LC^6*1000^(4*WT n):=λl=>by
  induction l with
  | nil=>exact λ_=>⟨[],.nil,λd hd=>by cases hd⟩
  | cons x l ih =>
   intro j;obtain ⟨t,o,F,W,M,T,R,s⟩:=(j x (aQ ..)).ex;obtain ⟨D,u,r⟩:=aA3 T R s c;obtain ⟨a,b,i⟩:=ih λy m=>j y (aG _ m);refine ⟨D::a,.cons u b,λd hd=>?_⟩;rcases bE.mp hd with rfl | hd
   ·exact r
   ·exact i d hd
 obtain ⟨a,b,i⟩:=all hs h;have e:a.length=n:=by rw [<-b.length];exact hl
 have p:=aCh i e;refine ⟨⟨a,b,aY p ?_⟩,Oo,Oo⟩;rcases hn with rfl | rfl | rfl <;> decide +kernel
section
theorem oQ4(F:jP K "_law_hall" "_law_hall" sQ4 f fd)(T:lC K mg c)(FQ2:fW dY P w K mg base 1 "_law_draw" ["_law_feed_here","_law_many"] jT)(FQ13:fW dY P w K mg base 3 "_law_trial" ["_law_feed_here"] pS)(FQ10:fW dY P w K mg base 3 "_law_rule" ["_law_feed_here","_law_faces","_law_ways","_law_room"] pU):eT P w K mg base dY 4 f fd ["_law_feed_here"] pW:=by
 refine F.oky cQ4 λa H Q E h=>?_;unfold pW at h;obtain ⟨p,L,rfl,FA,k⟩:=h;refine ⟨rfl,λcdv A outer s ξ=>?_⟩;refine ⟨_,(aS (bS (i:=1) cQ4.nd rfl (Or.inl rfl) (fC (aP aM (aP aM (aP aM aJ)))))
  (aS (bS (i:=2) cQ4.nd rfl (Or.inl rfl) (cN fL aM (bV FQ2 (ξ.mono Dd) (aP (aL 0) (aP aM aJ)))))
  (aS (bS (i:=3) cQ4.nd rfl (Or.inl rfl) (fC aJ))
  (aS (fB PassesOwn.never rfl (fQ rfl T.b_range (aP (aL 2) aJ)) (cX (i:=4) cQ4.nd rfl (Or.inl rfl)) (aS (bS (i:=5) cQ4.nd rfl (Or.inl rfl) (bV FQ13 (ξ.mono Dd) (aP (aL 0) aJ)))
  (aS (xA (lV (QP (QO (gJ AN (aL 4) aM (nomark _)) (KC (gJ AO (bV FQ2 (ξ.mono Dd) (aP (aL 0) (aP aM aJ))) aM (nomark _))))) (bJ (bS (i:=5) cQ4.nd rfl (Or.inl rfl) (bR bK (bR bK (aL 3) aM (λ_ _=>rfl)) aM (λ_ _=>rfl)))) iA))
  (bJ (jQ (pJ PySem.F.plainAttrs_list PySem.F.slot_list_append PySem.F.type_list_append sC (aL 3) (aP (eO (aP (aL 5) (aP (bV FQ10 (ξ.mono Dd) (aP (aL 0) (aP (gK jI (by rfl) T.b_len Kk (aP (bR bK (aL 5) aM (λ_ _=>rfl)) aJ)) (aP (gK jI (by rfl) T.b_len Kk (aP (bR bK (aL 5) aM (λ_ _=>rfl)) aJ)) (aP (bR bK (aL 1) (cN yE (aL 2) aM) (λ_ _=>rfl)) aJ))))) aJ))) aJ)))))))
  (bJ (cP (jK dF (by rfl) T.b_tuple Kk (aP (aL 3) aJ)))))))),?_⟩
 refine uU (by show 3<=64;decide) λX H1 ad e1 s1=>⟨_,rfl,?_⟩;refine dA (FA.same s1) Dd Kk λx H2 x0 x1 F2 b2=>?_;obtain ⟨m,rfl⟩:=mN x0;refine ⟨_,_,rfl,rfl,?_⟩;obtain ⟨n,hn,B⟩:∃n:Nat,1+(m:Int)=(n:Int)/\(n=1\/n=2\/n=3):=⟨1+m,Oo,Oo⟩;refine uU (by show 0<=64;decide) λy H3 d e3 s3=>?_;have b:X≠p:=FA.ne ad;have ac:=s3 _ _ (b2.at b e1);have F3:=F2.same s3;have B3:aU p H H3:=(s1.but.trans b2).trans s3.but;have u:y≠p:=F2.ne d;have ω:y≠L:=F2.neL d;have ρ:y≠X:=λz=>by rw [z,b2.at b e1] at d;cases d
 have η:H y=none:=aU.free (p:=p) (s1.but.trans b2) F2.there d;refine ⟨_,rfl,_,rfl,?_⟩;show _/\_/\_;rw [hn];refine ⟨Oo,Oo,?_⟩;rw [show ((n:Nat):Int).toNat=n by omega];refine iT (λi σ H'=>∃(o4 φ:Option V) (a:List V) (r:List HE),σ=[some (.ref p),some (.ref X),some (.int (n:Int)),some (.ref y),o4,φ]/\cK H' p L/\aU p H H'/\H' X=some (.lst [.int 40,.int 20,.int 9])/\H' y=some (.lst a)/\bG H' (r.map hD) a/\r.length=i/\∀x∈r,WQ n x) ⟨_,_,[],[],by rw [<-hn];rfl,F3,B3,ac,e3,bG.nil,rfl,λx R=>by cases R⟩ ?_ ?_
 ·rintro i σ H4 hi ⟨o4,φ,a,r,rfl,F4,B4,Y,e4,r4,ο,θ⟩;rw [show (0:Int)+(i:Int)=(i:Int) by omega];refine ⟨_,rfl,?_⟩;refine IK F4 λv t o I G fs ws H5 F5 μ r5 T5=>?_;have t5:=F4.t μ;have e5:=μ.at u e4;have Z:=μ.at b Y;have δ:=r4.flat t5 (oA _);have B5:=B4.trans μ;refine ⟨λσ H'=>∃(v:V) (t o I G:Nat) (fs:List Str) (ws:List (Str × List Fr)),σ=[some (.ref p),some (.ref X),some (.int (n:Int)),some (.ref y),some (.int (i:Int)),some v]/\cK H' p L/\aU p H H'/\H' X=some (.lst [.int 40,.int 20,.int 9])/\H' y=some (.lst a)/\bG H' (r.map hD) a/\cE H' (xG fs ws) v/\wK t o I G fs ws,?_,?_⟩
  ·rintro σ H6 ⟨v,t,o,I,G,fs,ws,rfl,F6,B6,e,U,W,ε,T6⟩;have hF:=T6.hF;have hW:=T6.hW;obtain ⟨at',af,aw,xf,xw,rfl,C,υ,haw,ab,ψ⟩:=KM ε;have lxf:xf.length=I:=by rw [ab.len,aB];exact T6.lenF
   have lxw:xw.length=G:=by rw [ψ.len,aB];exact T6.lenW
   refine ⟨_,rfl,RF U,_,rfl,_,rfl,_,rfl,iI C rfl ?_⟩;refine rlT υ ⟨_,rfl,iI C rfl ?_⟩;refine rlT haw ⟨_,rfl,_,rfl,_,_,rfl,rfl,?_⟩;have J:([.int 40,.int 20,.int 9]:List V)[n-1]?=some (.int (CZ n:Nat)):=by rcases B with rfl | rfl | rfl <;> rfl
   refine nZ e (by rw [show (n:Int)-1=((n-1:Nat):Int) by omega];exact dM J) ?_;rw [lxf,lxw];have D:1<=CZ n/\CZ n<=40:=by rcases B with rfl | rfl | rfl <;> decide
   refine IM F6 Oo Oo Oo Oo D.1 D.2 λv7 es M H7 F7 ν r7 R7 O=>?_;have t7:=F6.t ν;refine rK (by show 2<=64;decide) λq8 H8 hq8 e8 S=>?_;have α:=S _ _ (ν.at u U);have lvs:a.length=r.length:=dR W;refine WC α Oo λH9 e9 ι=>?_;have t9:=ι.t α;have γ:dL H6 H9:=(t7.trans S.t).trans t9;refine ⟨_,_,a++[.ref q8],r++[⟨fs,ws,es⟩],rfl,(F7.same S).but ι u ω,aU.thru η ((B6.trans ν).trans S.but) ι,ι.at ρ.symm (S _ _ (ν.at b e)),e9,?_,by rw [aV,ο];rfl,λx R=>?_⟩
   ·rw [bZ];exact bG.snoc (W.flat γ (oA _)) (cE.tup (t9 _ _ e8) (bG.cons (ε.flat γ (pL _ _)) (bG.cons ((r7.same S).flat t9 (AH _)) bG.nil)))
   ·rcases eM.mp R with R | R
    ·exact θ x R
    ·rw [cF.mp R];exact ⟨t,o,I,G,M,T6,R7,QK B Oo Oo R7.m5 O⟩
  ·refine ⟨_,rfl,_,_,rfl,rfl,⟨_,rfl,yM (λN=>?_) (λN=>?_)⟩⟩
   ·have N:0<i:=by have:=N;omega
    refine ⟨_,rfl,?_⟩;refine dA F5 Dd Kk λz H6 z0 z1 F6 κ=>?_;have t6:=F5.t κ;have U:=κ.at u e5;have e:=κ.at b Z;have W:=δ.flat t6 (oA _);have B6:=B5.trans κ;have r6t:=r5.flat t6 (pL fs ws);refine ⟨rfl,_,rfl,yM (λhz=>?_) (λhz=>?_)⟩
    ·obtain ⟨β,ζ⟩:∃β,r[0]?=some β:=⟨_,aC Oo⟩;obtain ⟨y0,hy0,aa⟩:=gP W ζ;obtain ⟨ta,tt,tu,rfl,χ,τ,rtu⟩:=qL aa;obtain ⟨t0,o0,F0,W0,M0,T0,_,_⟩:=(θ β (aR ζ)).ex;refine ⟨_,rfl,nZ U (dM (j:=0) hy0) ?_⟩;exact iI χ rfl ⟨tt,t0,o0,F0,W0,β.fs,β.ws,rfl,F6,B6,e,U,W,τ,T0⟩
    ·exact ⟨v,t,o,I,G,fs,ws,rfl,F6,B6,e,U,W,r6t,T5⟩
   ·exact ⟨v,t,o,I,G,fs,ws,rfl,F5,B5,Z,e5,δ,r5,T5⟩
 ·rintro σ H4 ⟨o4,φ,a,r,rfl,F4,B4,Y,e4,r4,ο,θ⟩;refine ⟨_,rfl,⟨y,a,rfl,.inl ⟨fY.of e4,λl hl=>?_⟩⟩⟩;have sl:=bA.upd (o:=.tup a) hl;exact k _ r _ (F4.same sl) (B4.trans sl.but) (cE.tup bL (r4.same sl)) (ZT B ο θ) (by rw [ο];exact θ)
end
abbrev sQ1:Stmt:=(top 57)
theorem cQ1:cI ["_law_hall_here","_law_found","_law_trial_here","_law_rule_here","_law_longer","_law_one"] ["_law_hall_here"] (bB sQ1):=⟨rfl,rfl,rfl,Kk,rfl,Kk,Kk⟩
def chs(hs:List HE):List (List Nat):=hs.foldl (λcs h=>cs.flatMap λks=>(List.range h.ws.length).map λk=>ks++[k]) [[]]
theorem yW(hs:List HE)(h:HE):chs (hs++[h])=(chs hs).flatMap λks=>(List.range h.ws.length).map λk=>ks++[k]:=by unfold chs;rw [List.foldl_append];rfl
theorem mV{α β:Type}{R:α->β->Prop}:∀{xs:List α}{ys:List β}{x:α}{y:β},Paired R xs ys->R x y->Paired R (xs++[x]) (ys++[y])
 | _,_,_,_,.nil,h=>.cons h .nil
 | _,_,_,_,.cons r t,h=>.cons r (mV t h)
theorem rX{α β:Type}{R:α->β->Prop}:∀{xs:List α}{zs:List β}{x:α},Paired R (xs++[x]) zs->∃ys y,zs=ys++[y]/\Paired R xs ys/\R x y
 | [],_,_,.cons r .nil=>⟨[],_,rfl,.nil,r⟩
 | a::xs,_,x,.cons r t=>by
  obtain ⟨ys,y,rfl,h1,h2⟩:=rX t;exact ⟨_::ys,y,rfl,.cons r h1,h2⟩
theorem DK(hs:List HE):∀ks,ks∈chs hs↔nE hs ks:=by
 have all:∀(n:Nat) (hs:List HE),hs.length=n->∀ks,ks∈chs hs↔nE hs ks:=λn=>by
  induction n with
  | zero =>
   intro hs b ks;rw [List.length_eq_zero_iff.mp b];constructor
   ·intro h;rw [cF.mp (show ks∈[[]] from h)];exact .nil
   ·intro h;cases h;exact cF.mpr rfl
  | succ n c =>
   intro hs b ks;obtain ⟨a,h,rfl⟩:∃a h,hs=a ++ [h]:=⟨hs.dropLast,hs.getLast (λz=>by rw [z] at b;cases b),(List.dropLast_concat_getLast _).symm⟩;have c:=c a (by rw [aV] at b;simpa using b);rw [yW,List.mem_flatMap];constructor
   ·rintro ⟨m,l,d⟩;obtain ⟨j,i,rfl⟩:=aT.mp d;exact mV ((c m).mp l) (bT.mp i)
   ·intro d;obtain ⟨e,y,rfl,o,p⟩:=rX d;exact ⟨e,(c e).mpr o,aT.mpr ⟨y,bT.mpr p,rfl⟩⟩
 exact all hs.length hs rfl
theorem ND:∀(n:Nat) (hs:List HE),hs.length=n->(∀h∈hs,h.ws.length<=4)->(chs hs).length<=4^n:=λn=>by
 induction n with
 | zero=>intro hs c _;rw [List.length_eq_zero_iff.mp c];exact aE _
 | succ n d =>
  intro hs c e;obtain ⟨b,h,rfl⟩:∃b h,hs=b ++ [h]:=⟨hs.dropLast,hs.getLast (λz=>by rw [z] at c;cases c),(List.dropLast_concat_getLast _).symm⟩;have d:=d b (by rw [aV] at c;simpa using c) λx o=>e x (cA _ o);have i:=e h (bW _ (cF.mpr rfl));rw [yW];have j:∀l:List (List Nat),(l.flatMap λm=>(List.range h.ws.length).map λk=>m++[k]).length=l.length*h.ws.length:=λl=>by
   induction l with
   | nil=>simp
   | cons a l d=>rw [List.flatMap_cons,aV,d,aB,cR,dB,Nat.add_mul];omega
  rw [j,Nat.pow_succ];exact Nat.mul_le_mul d i
@[irreducible] def mG:Sp:=λvs H Q _=>∃(x:V) (hs:List HE),vs=[x]/\cE H (EQ hs) x/\gG hs/\∀D H',bA H H'->H D=none->HW H' D (chs hs)->Q (.ref D) H'
theorem CM{H:Hp}{Q:VK}{E:XK}{x:V}{hs:List HE}(h1:cE H (EQ hs) x)(h2:gG hs)(k:∀D H',bA H H'->H D=none->HW H' D (chs hs)->Q (.ref D) H'):mG [x] H Q E:=by unfold mG;exact ⟨x,hs,rfl,h1,h2,k⟩
theorem gG.w4{hs:List HE}(ok:gG hs):∀h∈hs,h.ws.length<=4:=λh a=>by
 obtain ⟨i,b⟩:=cU.mp a;obtain ⟨D,r⟩:=ok.at_ b;exact r.w4
theorem gG.few{hs:List HE}(ok:gG hs)(i:Nat):(chs (hs.take i)).length<=64:=by
 have a:=ND _ (hs.take i) rfl λh b=>ok.w4 h (List.mem_of_mem_take b);have c:(hs.take i).length<=3:=by rw [cB];have:=ok.len;omega
 exact aZ a (bD Dd c)
section
theorem oQ1(F:jP K "_law_choices" "_law_choices" sQ1 f fd)(T:lC K mg c):eT P w K mg base dY 1 f fd ["_law_hall_here"] mG:=by
 refine F.oky cQ1 λO H Q E h=>?_;unfold mG at h;obtain ⟨x,r,rfl,rx,ok,k⟩:=h;refine ⟨rfl,λcdv A ρ s hr=>?_⟩;obtain ⟨a,xs,rfl,ha,p⟩:=eU rx;have lx:xs.length=r.length:=dR p;have l3:=ok.len;refine ⟨_,(aS (bS (i:=1) cQ1.nd rfl (Or.inl rfl) (fC (aP (eO aJ) aJ)))
  (aS (fB PassesOwn.never rfl (kB (aL 0)) (kC rfl (dO (cX (i:=2) cQ1.nd rfl (Or.inl rfl)) (dO (cX (i:=3) cQ1.nd rfl (Or.inl rfl)) iN))) (aS (bS (i:=4) cQ1.nd rfl (Or.inl rfl) (fC aJ))
  (aS (fB PassesOwn.never rfl (fX (aL 1)) (cX (i:=5) cQ1.nd rfl (Or.inr rfl)) (bJ (jQ (pJ PySem.F.plainAttrs_list PySem.F.slot_list_extend PySem.F.type_list_extend DJ (aL 4) (aP (gX (fM.of (psc:=bB sQ1) (N:=["_law_hall_here","_law_found","_law_trial_here","_law_rule_here","_law_longer","_law_one"]) (N':=["_law_way","_law_one"]) (js:=[5]) Kk rfl rfl rfl) (fQ rfl T.b_range (aP (gK jI (by rfl) T.b_len Kk (aP (bR bK (aL 2) aM (λ_ _=>rfl)) aJ)) aJ)) (λ_ _ _ _=>eZ) (λ_ _ _ _=>(cN (oU K) (aL 1) (eO (aP (aL 0) aJ))))) aJ)))))
  (bJ (bS (i:=1) cQ1.nd rfl (Or.inl rfl) (aL 4))))))
  (bJ (cP (aL 1))))),?_⟩
 refine rK (by show 0<=64;decide) λq1 H1 hq1 e1 s1=>uU (by show 1<=64;decide) λD2 H2 ο e2 s2=>?_;have S2:=s1.trans s2;have L2':HW H2 D2 (chs (r.take 0)):=⟨_,e2,bG.cons (cE.tup (s2 _ _ e1) bG.nil) bG.nil⟩;refine ⟨_,rfl,a,rfl,⟨_,fN.of (S2 _ _ ha)⟩,qZ (xs:=xs) (λi σ H'=>∃(χ ν ε o:Option V) (D:Addr),σ=[some (.ref a),some (.ref D),χ,ν,ε,o]/\bA H H'/\H D=none/\HW H' D (chs (r.take i))) ⟨_,_,_,_,D2,rfl,S2,s1.free ο,L2'⟩ (λi σ H' _ q=>?_) ?_ ?_⟩
 ·obtain ⟨_,_,_,_,_,_,κ,_⟩:=q;exact fN.of (κ _ _ ha)
 ·rintro i v σ H3 hv ⟨χ,ν,ε,o,D,rfl,S3,hD,L3⟩;obtain ⟨h,hh,rh⟩:=dS p hv;obtain ⟨ta,tt,M,rfl,Y,X,rtu⟩:=qL (rh.same S3);obtain ⟨m,af,aw,xf,xw,rfl,J,haf,φ,rxf,Z⟩:=KM X;have θ:xw.length=h.ws.length:=dR Z;have w4:=ok.w4 h (aR hh);obtain ⟨α,ζ,rD,lD⟩:=L3.len;have few:=ok.few i;refine ⟨ta,[.ref m,M],rfl,fN.of Y,rfl,.ref m,[M],rfl,M,[],rfl,rfl,?_⟩;refine uU (by show 0<=64;decide) λU H4 l e4 S=>?_;have d:=S3.free l;have ι:U≠D:=λz=>by rw [z,ζ] at l;cases l
  refine ⟨_,rfl,D,rfl,⟨_,fY.of (S _ _ ζ)⟩,kZ (xs:=α) (λj σ H'=>∃(o:Option V) (O:List V),σ=[some (.ref a),some (.ref D),some (.ref m),some M,some (.ref U),o]/\bA H H'/\dL H3 H'/\H' D=some (.lst α)/\H' U=some (.lst O)/\bG H' ((((chs (r.take i)).take j).flatMap λb=>(List.range h.ws.length).map λk=>b++[k]).map gW) O/\O.length<=4*j) ⟨_,[],rfl,S3.trans S,S.t,S _ _ ζ,e4,by rw [List.take_zero];exact bG.nil,aE _⟩ (λj σ H' _ q=>?_) ?_ ?_⟩
  ·obtain ⟨_,_,_,_,_,q,_⟩:=q;exact fY.of q
  ·rintro j u σ H5 hu ⟨δ,e,rfl,S5,L,B,G,R,ω⟩;obtain ⟨b,I,υ⟩:=dS rD hu;have hj:j<α.length:=(aO.mp hu).1;obtain ⟨ka,rfl,γ⟩:=lB (υ.flat L (gS _));have lks:b.length<=3:=by
    have:=(DK (r.take i) b).mp (aR I);have h1:=this.length;rw [<-h1,cB];omega
   refine ⟨_,rfl,RF G,_,rfl,iI (L _ _ J) rfl ?_⟩;refine rlT (L _ _ φ) ⟨_,rfl,Oo,Oo,rE (λk y H'=>cE H' (gW (b++[k])) y) (λ_ y Ha Hb s h=>h.flat s (gS _)) Oo (λk H' Q' W κ k'=>?_) (λD6 C H6 hD6 e6 n ψ η=>?_)⟩
   ·refine ⟨_,rfl,_,rfl,?_⟩;refine rK (by show 1<=64;decide) λq7 H7 hq7 ξ s7=>JT (s7 _ _ (κ _ _ γ)) ξ (by rw [aB];show b.length+1<=1000;omega) λc8 H8 s8 e8=>k' _ H8 (s7.trans s8) (nB ?_);rw [e8,bZ];show some (HO.tup (b.map lE++[.int (0+(k:Int))]))=_;rw [show (0:Int)+(k:Int)=(k:Int) by omega];rfl
   ·have μ:C.length=h.ws.length:=by rw [ψ,θ];omega
    refine aFQ (n _ _ G) e6 Oo λH7 ξ τ=>?_;have β:=τ.t (n _ _ G);refine ⟨_,e++C,rfl,bA.thru d (S5.trans n) τ,(L.trans n.t).trans β,τ.at ι.symm (n _ _ B),ξ,?_,by rw [aV];omega⟩;rw [eS I,List.flatMap_append,bZ];refine bG.app ((R.same n).flat β (MT _)) ?_;rw [List.flatMap_cons,List.flatMap_nil,List.append_nil,List.map_map];refine bG.ofIdx (by rw [μ,aB,cR]) λk y W=>?_;have aa:k<h.ws.length:=by have:=(aO.mp W).1;omega
    exact ⟨gW (b++[k]),by rw [aI,eN aa];rfl,(η k y W).flat β (gS _)⟩
  ·rintro σ H5 ⟨δ,e,rfl,S5,L,B,G,R,ω⟩;rw [lD,bP] at R;refine ⟨_,rfl,⟨_,_,_,_,U,rfl,S5,d,e,G,?_⟩⟩;rw [eS hh,yW];exact R
 ·rintro σ H3 ⟨χ,ν,ε,o,D,rfl,S3,hD,L3⟩;rw [lx,bP] at L3;exact ⟨_,rfl,k D H3 S3 hD L3⟩
end
abbrev aBG:Stmt:=(top 45)
theorem aF1:cI ["things","place","thing"] ["things","place","thing"] (bB aBG):=⟨rfl,rfl,rfl,Kk,rfl,Kk,Kk⟩
abbrev aBQ:Stmt:=(top 40)
theorem VV:cI ["rule","way","found","counts","says","right"] ["rule","way"] (bB aBQ):=⟨rfl,rfl,rfl,Kk,rfl,Kk,Kk⟩
@[irreducible] def xO:Sp:=λvs H Q _=>∃(a:Addr) (xs:List V) (i:Nat) (x:V),vs=[.ref a,.int (i:Int),x]/\H a=some (.tup xs)/\i<xs.length/\xs.length<=60/\∀c H',bA H H'->H' c=some (.tup (xs.set i x))->Q (.ref c) H'
theorem FL{H:Hp}{Q:VK}{E:XK}{a:Addr}{xs:List V}{i:Nat}{x:V}(h1:H a=some (.tup xs))(h2:i<xs.length)(h3:xs.length<=60)(k:∀c H',bA H H'->H' c=some (.tup (xs.set i x))->Q (.ref c) H'):xO [.ref a,.int (i:Int),x] H Q E:=by
 unfold xO;exact ⟨a,xs,i,x,rfl,h1,h2,h3,k⟩
def e3(k:Nat)(e:cL):List Fr:=[e.2.getD 0 (0,1),e.2.getD (1+k) (0,1),cW (1-(eV e.2 0+eV e.2 (1+k)))]
structure tZ(H:Hp)(a:Addr)(k:Nat)(es:List cL):Prop where
 ex:∃kvs:List (List iC × V),H a=some (.dT kvs)/\∀e∈es,∃v,gT kvs (kT (ci e.1))=some v/\cE H (vU (e3 k e)) v
theorem tZ.keep{H H':Hp}{a:Addr}{k:Nat}{es:List cL}(h:tZ H a k es)(t:dL H H')(s:∀kvs,H a=some (.dT kvs)->H' a=some (.dT kvs)):tZ H' a k es:=by
 obtain ⟨kvs,j,c⟩:=h.ex;exact ⟨kvs,s _ j,λe b=>by
  obtain ⟨v,i,d⟩:=c e b;exact ⟨v,i,d.flat t (mJ _)⟩⟩
theorem tZ.same{H H':Hp}{a:Addr}{k:Nat}{es:List cL}(h:tZ H a k es)(s:bA H H'):tZ H' a k es:=h.keep s.t λ_ e=>s _ _ e
@[irreducible] def sU(K:KFr):Sp:=λvs H Q _=>∃(r:V) (es:List cL) (F W k:Nat),vs=[r,.int (k:Int)]/\cE H (zM es) r/\uC F es/\(∀e∈es,zO (1+W) e.2)/\k<W/\es.length<=64/\∀a H',bA H H'->H a=none->tZ H' a k es->Q (.ref a) H'
theorem OD{K:KFr}{H:Hp}{Q:VK}{E:XK}{r:V}{es:List cL}{F W k:Nat}(h1:cE H (zM es) r)(h2:uC F es)(h3:∀e∈es,zO (1+W) e.2)(h4:k<W)(h5:es.length<=64)(q:∀a H',bA H H'->H a=none->tZ H' a k es->Q (.ref a) H'):sU K [r,.int (k:Int)] H Q E:=by
 unfold sU;exact ⟨r,es,F,W,k,rfl,h1,h2,h3,h4,h5,q⟩
theorem UV{f:Fr}(h:dN f):cW (rv f)=f:=hV (bO _) h (dI _)
theorem iO{fs:List Fr}{i:Nat}{f:Fr}(h:fs[i]?=some f):eV fs i=rv f/\fs.getD i (0,1)=f:=by
 unfold eV;rw [aK,h];exact ⟨rfl,rfl⟩
theorem AS{es:List cL}(nd:(es.map (·.1)).Nodup){a b:cL}(ha:a∈es)(hb:b∈es)(e:a.1=b.1):a=b:=by
 obtain ⟨i,d⟩:=cU.mp ha;obtain ⟨j,c⟩:=cU.mp hb;have h:(es.map (·.1))[i]?=(es.map (·.1))[j]?:=by rw [aI,aI,d,c];exact congrArg some e
 have:=(List.getElem?_inj (by rw [aB];exact (aO.mp d).1) nd).mp h;subst this;rw [d] at c;exact dC c
section
theorem aFh(F:jP K "put" "put" aBG f fd)(T:lC K mg c):eT P w K mg base dY 1 f fd ["things","place","thing"] xO:=by
 refine F.oky aF1 λI H Q E h=>?_;unfold xO at h;obtain ⟨a,b,i,x,rfl,j,r,G,k⟩:=h;refine ⟨rfl,λo A e s D=>?_⟩;refine ⟨_,(bJ (cP (cN (oU K) (cN (oU K) (hJ (qV K) (aL 0) jA (iZ (aL 1))) (eO (aP (aL 2) aJ))) (hJ (qV K) (aL 0) (iZ (cN fL (aL 1) aM)) jA)))),⟨_,rfl,_,rfl,_,rfl,?_⟩⟩;refine IS j λL H2 l y=>⟨_,rfl,?_⟩;refine rK (by show 1<=64;decide) λJ H3 C e3 d=>JT (d _ _ y) e3 (by rw [cB];show min i b.length+1<=1000;omega) λO H4 m z=>⟨_,rfl,_,rfl,_,_,rfl,rfl,?_⟩;refine ⟨_,rfl,?_⟩;refine CS (k:=i+1) Oo (m _ _ (d _ _ (l _ _ j))) λN H5 n B=>JT (n _ _ z) B (by rw [aV,cB,List.length_drop];show min i b.length+1+(b.length-(i+1))<=1000;omega) λM H6 p u=>k _ H6 ((((l.trans d).trans m).trans n).trans p) ?_;rw [u,List.set_eq_take_append_cons_drop,if_pos r,List.append_assoc]
 rfl
theorem aFy(F:jP K "ends_of" "ends_of" aBQ f fd)(T:lC K mg c)(FQ26:fW dY P w K mg base 3 "less" ["one","other"] (iW K))(FQ33:fW dY P w K mg base 2 "plus" ["one","other"] (lH K)):eT P w K mg base dY 4 f fd ["rule","way"] (sU K):=by
 refine F.oky VV λvs H Q E h=>?_;unfold sU at h;obtain ⟨r,ε,F,W,k,rfl,rr,RL,sy,hk,few,q⟩:=h;refine ⟨rfl,λcdv A φ s ψ=>?_⟩;obtain ⟨ra,X,rfl,β,α⟩:=eU rr;have χ:X.length=ε.length:=dR α;refine ⟨_,(aS (bS (i:=2) VV.nd rfl (Or.inl rfl) EU)
  (aS (fB PassesOwn.never rfl (kB (aL 0)) (kC rfl (dO (cX (i:=3) VV.nd rfl (Or.inl rfl)) (dO (cX (i:=4) VV.nd rfl (Or.inl rfl)) iN))) (aS (bS (i:=5) VV.nd rfl (Or.inl rfl) (bR bK (aL 4) (cN fL aM (aL 1)) (λ_ _=>rfl)))
  (bJ (BR ψ.u1 (aL 2) (aL 3) (eO (aP (bR bK (aL 4) aM (λ_ _=>rfl)) (aP (aL 5) (aP (bV FQ26 (ψ.mono Dd) (aP (iB (v:=.ref c.ONE) rfl T.g_ONE rfl) (aP (bV FQ33 (ψ.mono Dd) (aP (bR bK (aL 4) aM (λ_ _=>rfl)) (aP (aL 5) aJ))) aJ))) aJ))))))))
  (bJ (cP (aL 2))))),?_⟩
 intro D hD;have ν:=bA.upd (o:=.dT []) hD;have e1:(upd H D (.dT [])) D=some (.dT []):=bL;generalize upd H D (.dT [])=H1 at ν e1 ⊢;refine ⟨_,rfl,ra,rfl,⟨_,fN.of (ν _ _ β)⟩,qZ (xs:=X) (λi σ H'=>∃(τ ξ θ:Option V) (m:List (List iC × V)),σ=[some (.ref ra),some (.int (k:Int)),some (.ref D),τ,ξ,θ]/\bA H H'/\H' D=some (.dT m)/\m.length<=i/\(∀e∈ε.take i,∃v,gT m (kT (ci e.1))=some v/\cE H' (vU (e3 k e)) v)) ⟨_,_,_,[],rfl,ν,e1,cC _,λe J=>by rw [List.take_zero] at J;cases J⟩ (λi σ H' _ p=>?_) ?_ ?_⟩
 ·obtain ⟨_,_,_,_,_,s',_⟩:=p;exact fN.of (s' _ _ β)
 ·rintro i y σ H2 hy ⟨τ,ξ,θ,m,rfl,ζ,δ,l2,n⟩;obtain ⟨e,J,re⟩:=dS α hy;have Y:=aR J;have hi:i<ε.length:=(aO.mp J).1;have L:=sy e Y;obtain ⟨b,us,rfl,hb,ρ⟩:=eU (re.same ζ);obtain ⟨u,z,rfl,ru,rz⟩:=iL ρ;obtain ⟨cu,rfl,ω⟩:=lB ru;obtain ⟨sa,sx,rfl,I,O⟩:=qC rz;have lsy:e.2.length=1+W:=by obtain ⟨ns,l,_,_,_,ef⟩:=L.ex;rw [ef,aB,l]
  obtain ⟨S,x⟩:∃S,e.2[0]?=some S:=⟨_,aC Oo⟩;obtain ⟨N,B⟩:∃N,e.2[1+k]?=some N:=⟨_,aC Oo⟩;obtain ⟨C,_,n0,d0⟩:=L.fn S (aR x);obtain ⟨G,_,n1,d1⟩:=L.fn N (aR B);obtain ⟨v0,M,U⟩:=gP O x;obtain ⟨v1,υ,γ⟩:=gP O B;have z0:kK 10 S:=⟨aY n0 Dd,aY d0 Dd⟩;have z1:kK 10 N:=⟨aY n1 Dd,aY d1 Dd⟩;refine ⟨b,[.ref cu,.ref sa],rfl,fN.of hb,rfl,_,_,rfl,_,_,rfl,rfl,⟨_,rfl,_,rfl,_,_,rfl,rfl,iI I (by rw [show (1:Int)+(k:Int)=((1+k:Nat):Int) by omega];exact dM υ) ?_⟩⟩;refine ⟨_,rfl,iI I (dM (j:=0) M) ?_⟩;refine ⟨_,rfl,⟨_,rfl,iI I (dM (j:=0) M) ?_⟩⟩;refine ⟨_,rfl,?_⟩;refine nP (gI.of U) (gI.of γ) C.low G.low (z0.up Dd) (z1.up Dd) λq3 H3 hq3 Z s3=>?_;have ep:pC S N=cW (eV e.2 0+eV e.2 (1+k)):=by
   rw [(iO x).1,(iO B).1];exact hV (qO C.low G.low) (bO _) (by rw [uN C.low.pos G.low.pos,dI])
  rw [ep] at Z;have ι:Qn LC 2 (eV e.2 0+eV e.2 (1+k)):=by
   rw [(iO x).1,(iO B).1];exact (Qn.add C.q G.q).le (show 1+1<=2 by decide)
  have zs:kK 4000 (cW (eV e.2 0+eV e.2 (1+k))):=gM ι Dd Kk Kk;refine mF (gI.same s3 (aCN T.o_ONE)) (gI.new Z) JE (bO _) ⟨Kk,Kk⟩ zs λq4 H4 hq4 e4 s4=>?_;have ο:((1,1):Fr)=cW 1:=jE.symm;rw [ο,xM] at e4;refine rK (by show 3<=64;decide) λq5 H5 hq5 e5 s5=>?_;have a:=(s3.trans s4).trans s5;refine ⟨_,rfl,_,rfl,?_⟩;have R:H5 cu=some (.tup ((ci e.1).map V.int)):=by rw [a _ _ ω,pB]
  refine dpT (a _ _ δ) R Oo λH6 e6 b6=>?_;have t6:=aU.tT b6 (a _ _ δ);have η:cE H5 (vU (e3 k e)) (.ref q5):=by
   refine cE.tup e5 ?_;show bG H5 [fO (e.2.getD 0 (0,1)),fO (e.2.getD (1+k) (0,1)),fO (cW (1-(eV e.2 0+eV e.2 (1+k))))] _;rw [(iO x).2,(iO B).2];exact bG.cons (U.same a) (bG.cons (γ.same a) (bG.cons (fU (s5 _ _ e4)) bG.nil))
  refine ⟨_,_,_,_,rfl,bA.thru hD (ζ.trans a) b6,e6,?_,λd hd=>?_⟩
  ·have:=kW m (kT (ci e.1)) (V.ref q5);omega
  ·rw [xF];by_cases q:kT (ci d.1)=kT (ci e.1)
   ·rw [if_pos q];have μ:d=e:=by
     rw [eS J] at hd;rcases eM.mp hd with hd | hd
     ·have nd:=RL.nd;have h1:d.1=e.1:=EG (DS q);exact AS nd (List.mem_of_mem_take hd) Y h1
     ·exact cF.mp hd
    subst μ;exact ⟨_,rfl,η.flat t6 (mJ _)⟩
   ·rw [if_neg q];have κ:d∈ε.take i:=by
     rw [eS J] at hd;rcases eM.mp hd with hd | hd
     ·exact hd
     ·exact absurd (by rw [cF.mp hd]) q
    obtain ⟨v,h3,h4⟩:=n d κ;exact ⟨v,h3,(h4.same a).flat t6 (mJ _)⟩
 ·rintro σ H2 ⟨τ,ξ,θ,m,rfl,ζ,δ,l2,n⟩;refine ⟨_,rfl,?_⟩;rw [χ,bP] at n;exact q D H2 ζ hD ⟨m,δ,n⟩
end
abbrev XQ:Stmt:=(top 44)
theorem aAl:cI ["stand","share","test","counts","ends","seen","over","found"] ["stand","share","test","counts","ends"] (bB XQ):=⟨rfl,rfl,rfl,Kk,rfl,Kk,Kk⟩
abbrev aBD:Stmt:=(top 43)
theorem aAm:cI ["stand","share","test","face_shares","ends","found","face","face_share"] ["stand","share","test","face_shares","ends"] (bB aBD):=⟨rfl,rfl,rfl,Kk,rfl,Kk,Kk⟩
abbrev bsD(bs:List Bool):PyData:=.tuple (bs.map .bool)
abbrev tP(cs:List (List Nat)):PyData:=.tuple (cs.map gW)
abbrev sO(st:SS):PyData:=.tuple [tP st.1,bsD st.2.1,.bool st.2.2]
abbrev LO(p:SS × Rat):PyData:=.tuple [sO p.1,fO (cW p.2)]
theorem NF:∀bs:List Bool,dU (bs.map .bool)=true
 | []=>rfl
 | b::bs=>by show (eP (.bool b)&&dU (bs.map .bool))=true;rw [NF bs];rfl
theorem oB:∀cs:List (List Nat),dU (cs.map gW)=true
 | []=>rfl
 | c::cs=>by show (eP (gW c)&&dU (cs.map gW))=true;rw [oB cs,gS];rfl
theorem pP(st:SS):eP (sO st)=true:=by
 show (dU (st.1.map gW)&&(dU (st.2.1.map .bool)&&(true&&true)))=true;rw [oB,NF];rfl
theorem FX(p:SS × Rat):eP (LO p)=true:=by
 show (eP (sO p.1)&&(eP (fO (cW p.2))&&true))=true;rw [pP,fV];rfl
theorem jX:∀l:List (SS × Rat),dU (l.map LO)=true
 | []=>rfl
 | p::l=>by show (eP (LO p)&&dU (l.map LO))=true;rw [jX l,FX];rfl
theorem NE{H:Hp}:∀bs:List Bool,bG H (bs.map .bool) (bs.map V.bl)
 | []=>bG.nil
 | b::bs=>bG.cons (show cE H (.bool b) (.bl b) from rfl) (NE bs)
theorem NK{H:Hp}:∀{bs:List Bool}{xs:List V},bG H (bs.map .bool) xs->xs=bs.map V.bl
 | [],xs,h=>h
 | b::bs,xs,h=>by
  unfold bG at h;obtain ⟨x,xs',rfl,hx,hr⟩:=(show ∃x xs',xs=x::xs'/\cE H (PyData.bool b) x/\bG H (bs.map .bool) xs' from h);rw [NK hr];cases (show x=V.bl b from hx)
  rfl
theorem AB{H:Hp}{st:SS}{v:V}(h:cE H (sO st) v):∃a ac ab xs,v=.ref a/\H a=some (.tup [.ref ac,.ref ab,.bl st.2.2])/\H ac=some (.tup xs)/\bG H (st.1.map gW) xs/\H ab=some (.tup (st.2.1.map V.bl)):=by
 obtain ⟨a,o,rfl,m,c⟩:=eU h;unfold bG at c;obtain ⟨u,j,rfl,n,c⟩:=(show ∃x xs',o=x::xs'/\cE H (tP st.1) x/\bG H [bsD st.2.1,.bool st.2.2] xs' from c);obtain ⟨y,z,rfl,l,p⟩:=iL c;obtain ⟨ac,xs,rfl,e,d⟩:=eU n;obtain ⟨ab,r,rfl,b,i⟩:=eU l;rw [NK i] at b;cases (show z=V.bl st.2.2 from p);exact ⟨a,ac,ab,xs,rfl,m,e,d,b⟩
theorem KY{H:Hp}{st:SS}{a ac ab:Addr}{xs:List V}(h:H a=some (.tup [.ref ac,.ref ab,.bl st.2.2]))(hc:H ac=some (.tup xs))(r:bG H (st.1.map gW) xs)(hb:H ab=some (.tup (st.2.1.map V.bl))):cE H (sO st) (.ref a) :=
 cE.tup h (bG.cons (cE.tup hc r) (bG.cons (cE.tup hb (NE _)) (bG.cons (show cE H (.bool st.2.2) (.bl st.2.2) from rfl) bG.nil)))
theorem bG.set{H:Hp}{d:PyData}{x:V}(hx:cE H d x):∀{ds:List PyData}{xs:List V}(i:Nat),bG H ds xs->bG H (ds.set i d) (xs.set i x)
 | [],xs,i,h=>by
  cases (show xs=[] from h);exact bG.nil
 | d' :: ds,xs,i,h=>by
  unfold bG at h;obtain ⟨y,ys,rfl,hy,hr⟩:=(show ∃x xs',xs=x::xs'/\cE H d' x/\bG H ds xs' from h);cases i with
  | zero=>exact bG.cons hx hr
  | succ i=>exact bG.cons hy (bG.set hx i hr)
theorem DC(N:Nat):Qn N 1 1:=⟨(N:Int),by rw [Rat.one_mul];exact (Rat.intCast_natCast N).symm,by simp⟩
def wS(es:List cL)(c:List Nat):List Fr:=((es.find? λe=>decide (e.1=c)).map (·.2)).getD []
theorem CV{es:List cL}(nd:(es.map (·.1)).Nodup){e:cL}(he:e∈es):wS es e.1=e.2:=by
 unfold wS;cases q:es.find? λx=>decide (x.1=e.1) with
 | none=>have:=List.find?_eq_none.mp q e he;simp at this
 | some x =>
  have b:=List.mem_of_find?_eq_some q;have a:x.1=e.1:=by simpa using List.find?_some q
  rw [AS nd b he a];rfl
def RI(F:Nat)(sh:List Fr)(es:List cL)(k:Nat):TQ:=⟨F,λf=>eV sh f,λc=>eV (wS es c) 0,λc=>eV (wS es c) (1+k)⟩
@[irreducible] def nO(K:KFr):Sp:=λvs H Q _=>∃(sv qv cv:V) (i:Nat) (ea:Addr) (st:SS) (q:Rat) (e:cL) (es:List cL) (F n W k D:Nat) (sh:List Fr),vs=[sv,qv,.int (i:Int),cv,.ref ea]/\cE H (sO st) sv/\gI K H (cW q) qv/\Qn D 1 q/\0<D/\D<2^2500/\cE H (gW e.1) cv/\tZ H ea k es/\(es.map (·.1)).Nodup/\e∈es/\zO (1+W) e.2/\k<W/\st.1.length=n/\st.2.1.length=n/\i<n/\n<=3 /\
 ∀L ys H',H L=none->H' L=some (.lst ys)->bG H' ((cZ (RI F sh es k) st i e.1).map λp=>LO (p.1,q*p.2)) ys->bA H H'->Q (.ref L) H'
theorem xN{K:KFr}{H:Hp}{Q:VK}{E:XK}{sv qv cv:V}{i:Nat}{ea:Addr}{st:SS}{q:Rat}{e:cL}{es:List cL}{F n W k D:Nat}{sh:List Fr}(h1:cE H (sO st) sv)(h2:gI K H (cW q) qv)(h3:Qn D 1 q)(h4:0<D)(h5:D<2^2500)(h6:cE H (gW e.1) cv)(h7:tZ H ea k es)(h8:(es.map (·.1)).Nodup)(h9:e∈es)(h10:zO (1+W) e.2)(h11:k<W)(h12:st.1.length=n)(h13:st.2.1.length=n)(h14:i<n)(h15:n<=3)
  (k':∀L ys H',H L=none->H' L=some (.lst ys)->bG H' ((cZ (RI F sh es k) st i e.1).map λp=>LO (p.1,q*p.2)) ys->bA H H'->Q (.ref L) H'):nO K [sv,qv,.int (i:Int),cv,.ref ea] H Q E:=by
 unfold nO;exact ⟨sv,qv,cv,i,ea,st,q,e,es,F,n,W,k,D,sh,rfl,h1,h2,h3,h4,h5,h6,h7,h8,h9,h10,h11,h12,h13,h14,h15,k'⟩
section
theorem aFb(F:jP K "stands_come_to" "stands_come_to" XQ f fd)(T:lC K mg c)(FQ35:fW dY P w K mg base 1 "put" ["things","place","thing"] xO)(FQ42:fW dY P w K mg base 2 "times" ["one","other"] (gO K)):eT P w K mg base dY 3 f fd ["stand","share","test","counts","ends"] (nO K):=by
 refine F.oky aAl λvs H Q E h=>?_;unfold nO at h;obtain ⟨sv,qv,cv,i,ea,st,q,e,d,F,n,W,k,D,sh,rfl,υ,rq,qn,d0,d1,rc,en,nd,he,o,hk,lc,lo,hi,n3,k'⟩:=h;refine ⟨rfl,λcdv A outer s θ=>?_⟩;obtain ⟨a,ac,ab,xs,rfl,α,hac,O,I⟩:=AB υ;have lxs:xs.length=n:=by rw [O.len,aB,lc]
 obtain ⟨cu,rfl,ε⟩:=lB rc;obtain ⟨kvs,χ,ω⟩:=en.ex;obtain ⟨ev,ad,rev⟩:=ω e he;obtain ⟨eb,ex,rfl,δ,Z⟩:=qC rev;have lsy:e.2.length=1+W:=by obtain ⟨ns,l,_,_,_,ef⟩:=o.ex;rw [ef,aB,l]
 obtain ⟨ο,X⟩:∃ο,e.2[0]?=some ο:=⟨_,aC Oo⟩;obtain ⟨μ,Y⟩:∃μ,e.2[1+k]?=some μ:=⟨_,aC Oo⟩;obtain ⟨J,_,n0,d0'⟩:=o.fn ο (aR X);obtain ⟨β,_,n1,d1'⟩:=o.fn μ (aR Y);have sz:kK 4000 (cW q):=gM qn d0 d1 Kk;refine ⟨_,(aS (bS (i:=5) aAl.nd rfl (Or.inl rfl) (bV FQ35 (θ.mono Dd) (aP (bR bK (aL 0) aM (λ_ _=>rfl)) (aP (aL 2) (aP (aL 3) aJ)))))
  (aS (bS (i:=6) aAl.nd rfl (Or.inl rfl) (bV FQ35 (θ.mono Dd) (aP (bR bK (aL 0) aM (λ_ _=>rfl)) (aP (aL 2) (aP sK aJ)))))
  (aS (bS (i:=7) aAl.nd rfl (Or.inl rfl) (fC (aP (eO (aP (aL 5) (aP (bR bK (aL 0) aM (λ_ _=>rfl)) (aP (bR bK (aL 0) aM (λ_ _=>rfl)) aJ)))) (aP (eO (aP (aL 5) (aP (aL 6) (aP (bR bK (aL 0) aM (λ_ _=>rfl)) aJ)))) (aP (eO (aP (aL 5) (aP (aL 6) (aP sK aJ)))) aJ)))))
  (bJ (cP (jJ (eF.of (psc:=bB XQ) (N:=["stand","share","test","counts","ends","seen","over","found"]) (xs:=["one","part"]) (N':=["one","part","share"]) (js:=[1]) Kk rfl rfl rfl) (sA false true rfl T.b_zip (aP (aL 7) (aP (BY θ.u1 (aL 4) (aL 3)) aJ))) (λ_ _ _ _=>eZ) (λ_ _ _ _=>(eO (aP (aL 0) (aP (bV FQ42 (θ.mono Dd) (aP (aL 2) (aP (aL 1) aJ))) aJ)))))))))),?_⟩
 refine ⟨_,rfl,iI α rfl ?_⟩;refine ⟨_,rfl,_,rfl,?_⟩;refine FL hac Oo Oo λc1 H1 S e1=>⟨_,rfl,?_⟩;refine iI (S _ _ α) rfl ⟨_,rfl,?_⟩;refine FL (S _ _ I) (by rw [aB];omega) (by rw [aB];omega) λc2 H2 ι e2=>?_;have G:H2 c2=some (.tup ((st.2.1.set i false).map V.bl)):=by rw [e2,List.map_set]
 have B:bG H2 ((st.1.set i e.1).map gW) (xs.set i (.ref cu)):=by
  rw [List.map_set];exact bG.set (nB ((S.trans ι) _ _ ε)) i (O.same (S.trans ι))
 have S2:=S.trans ι;refine ⟨_,rfl,_,rfl,iI (S2 _ _ α) rfl ?_⟩;refine ⟨_,rfl,iI (S2 _ _ α) rfl ?_⟩;refine rK (by show 3<=64;decide) λq3 H3 hq3 g3 s3=>?_;have S3:=S2.trans s3;refine ⟨_,rfl,_,rfl,_,rfl,iI (S3 _ _ α) rfl ?_⟩;refine rK (by show 3<=64;decide) λq4 H4 hq4 g4 s4=>⟨_,rfl,_,rfl,?_⟩;refine rK (by show 3<=64;decide) λq5 H5 hq5 g5 τ=>uU (by show 3<=64;decide) λq6 H6 hq6 g6 ζ=>?_;have b:=((s3.trans s4).trans τ).trans ζ;have S6:=S2.trans b;have u:H6 c1=some (.tup (xs.set i (.ref cu))):=(ι.trans b) _ _ e1;have r1:cE H6 (sO (st.1.set i e.1,st.2.1,st.2.2)) (.ref q3):=KY (st:=(st.1.set i e.1,st.2.1,st.2.2)) (((s4.trans τ).trans ζ) _ _ g3) u (B.same b) (S6 _ _ I);have r2:cE H6 (sO (st.1.set i e.1,st.2.1.set i false,st.2.2)) (.ref q4):=KY (st:=(st.1.set i e.1,st.2.1.set i false,st.2.2)) ((τ.trans ζ) _ _ g4) u (B.same b) (b _ _ G);have r3:cE H6 (sO (st.1.set i e.1,st.2.1.set i false,true)) (.ref q5):=KY (st:=(st.1.set i e.1,st.2.1.set i false,true)) (ζ _ _ g5) u (B.same b) (b _ _ G);refine ⟨_,rfl,_,rfl,_,rfl,?_⟩;have M:H6 cu=some (.tup ((ci e.1).map V.int)):=by rw [S6 _ _ ε,pB]
 refine dgT (S6 _ _ χ) M ad ?_;have aa:ex.length=3:=by rw [Z.len];rfl
 refine ⟨q6,eb,_,_,rfl,g6,S6 _ _ δ,?_⟩;have γ:=Z.same S6;have gs:∀(j:Nat) (x y:V),([V.ref q3,V.ref q4,V.ref q5]:List V)[j]?=some x->ex[j]?=some y->∃p,(cZ (RI F sh d k) st i e.1)[j]?=some p/\cE H6 (sO p.1) x/\cE H6 (fO (cW p.2)) y/\Qn LC 3 p.2:=λj x y C φ=>by
  have sa:=CV nd he;have η:eV (wS d e.1) 0=eV e.2 0:=by rw [sa]
  have κ:eV (wS d e.1) (1+k)=eV e.2 (1+k):=by rw [sa]
  obtain ⟨g0,ξ⟩:=iO X;obtain ⟨g1,gg1⟩:=iO Y;have U:Qn LC 1 (eV e.2 0):=by rw [g0];exact J.q
  have R:Qn LC 1 (eV e.2 (1+k)):=by rw [g1];exact β.q
  obtain ⟨ff,m,r⟩:=dS γ φ;rcases (show j=0\/j=1\/j=2 by have:=(aO.mp C).1;simp at this;omega) with rfl | rfl | rfl
  ·cases C;cases m;refine ⟨_,rfl,r1,?_,?_⟩
   ·show cE H6 (fO (cW (eV (wS d e.1) 0))) y;rw [η,g0,UV J.low,<-ξ];exact r
   ·show Qn LC 3 (eV (wS d e.1) 0);rw [η];exact U.le Dd
  ·cases C;cases m;refine ⟨_,rfl,r2,?_,?_⟩
   ·show cE H6 (fO (cW (eV (wS d e.1) (1+k)))) y;rw [κ,g1,UV β.low,<-gg1];exact r
   ·show Qn LC 3 (eV (wS d e.1) (1+k));rw [κ];exact R.le Dd
  ·cases C;cases m;refine ⟨_,rfl,r3,?_,?_⟩
   ·show cE H6 (fO (cW (1-(eV (wS d e.1) 0+eV (wS d e.1) (1+k))))) y;rw [η,κ];exact r
   ·show Qn LC 3 (1-(eV (wS d e.1) 0+eV (wS d e.1) (1+k)));rw [η,κ];exact ((DC LC).sub ((Qn.add U R).le (show 1+1<=2 by decide))).le Dd
 refine rF (b1:=false) (b2:=true) (λj z H'=>∃p,(cZ (RI F sh d k) st i e.1)[j]?=some p/\cE H' (LO (p.1,q*p.2)) z) (λj z Ha Hb s ⟨p,h1,h2⟩=>⟨p,h1,h2.flat s (FX _)⟩) (by show 3<=100000;decide) g6 (S6 _ _ δ) (by rw [aa];rfl) (λj x y H' Q' C φ ψ k''=>?_) (λL zs H7 hL g7 s7 ρ ν=>?_)
 ·obtain ⟨p,hp,rx,ry,qp⟩:=gs j x y C φ;refine ⟨_,rfl,_,rfl,_,rfl,?_⟩;refine iE (gI.same (S6.trans ψ) rq) (gI.of (ry.same ψ)) (bO _) (bO _) sz (gM qp Dd Kk Kk) λq8 H8 hq8 g8 s8=>?_;rw [JC] at g8;exact rK (by show 2<=64;decide) λq9 H9 hq9 g9 s9=>k'' _ H9 (s8.trans s9) ⟨p,hp,cE.tup g9 (bG.cons ((rx.same ψ).same (s8.trans s9)) (bG.cons (fU (s9 _ _ g8)) bG.nil))⟩
 ·refine k' L zs H7 (S6.free hL) g7 (bG.ofIdx (by rw [ρ,aB];rfl) λj z hj=>?_) (S6.trans s7);obtain ⟨p,hp,rp⟩:=ν j z hj;exact ⟨_,by rw [aI,hp];rfl,rp⟩
end
abbrev aBP:Stmt:=(top 46)
theorem aAp:cI ["found","stands","stand","share"] ["found"] (bB aBP):=⟨rfl,rfl,rfl,Kk,rfl,Kk,Kk⟩
theorem aEn{H:Hp}{l:Addr}{xs:List V}{y:V}{Q:VK}(h:H l=some (.lst xs))(hz:xs.length<=1000000)(k:∀H',H' l=some (.lst (xs++[y]))->aU l H H'->Q .non H'):OJ (.ref l) [y] H Q:=by
 unfold OJ;exact ⟨l,xs,y,rfl,rfl,h,aY hz Dd,k _ bL aU.self⟩
theorem aCP{H:Hp}{l b:Addr}{xs zs:List V}{Q:VK}(h:H l=some (.lst xs))(h2:H b=some (.lst zs))(hz:xs.length+zs.length<=1000000)(k:∀H',H' l=some (.lst (xs++zs))->aU l H H'->Q .non H'):OH (.ref l) [.ref b] H Q:=by
 unfold OH;exact ⟨l,b,xs,zs,rfl,rfl,h,h2,aZ hz Dd,k _ bL aU.self⟩
theorem DY{α:Type}{g:Nat->List α}{b:Nat}(h:∀f,(g f).length<=b):∀n:Nat,((List.range n).flatMap g).length<=n*b
 | 0=>cC _
 | n+1=>by
  have h1:=DY h n;have a:=h n;rw [rA,aV,Nat.add_mul,Nat.one_mul];omega
@[irreducible] def mB(K:KFr):Sp:=λvs H Q _=>∃(sv qv fv:V) (i:Nat) (ea:Addr) (st:SS) (q:Rat) (es:List cL) (n W k D Ns:Nat) (sh:List Fr),vs=[sv,qv,.int (i:Int),fv,.ref ea]/\cE H (sO st) sv/\nD K H (cW q) qv/\Qn D 1 q/\0<D/\D*Ns<2^2500/\0<Ns/\cE H (vU sh) fv/\(∀f∈sh,Fn Ns 1 f)/\sh.length<=4/\tZ H ea k es/\(es.map (·.1)).Nodup/\(∀e∈es,zO (1+W) e.2)/\k<W/\st.1.length=n/\st.2.1.length=n/\i<n/\n<=3/\(st.1.getD i []).length=sh.length/\(∀f,f<sh.length->bN (st.1.getD i []) f∈es.map (·.1)) /\
 ∀L ys H',H L=none->H' L=some (.lst ys)->bG H' (((List.range sh.length).flatMap λf=>(cZ (RI sh.length sh es k) st i (bN (st.1.getD i []) f)).map λp=>(p.1,q*eV sh f*p.2)).map LO) ys->bA H H'->Q (.ref L) H'
theorem CJ{K:KFr}{H:Hp}{Q:VK}{E:XK}{sv qv fv:V}{i:Nat}{ea:Addr}{st:SS}{q:Rat}{es:List cL}{n W k D Ns:Nat}{sh:List Fr}(h1:cE H (sO st) sv)(h2:nD K H (cW q) qv)(h3:Qn D 1 q)(h4:0<D)(h5:D*Ns<2^2500)(h6:0<Ns)(h7:cE H (vU sh) fv)(h8:∀f∈sh,Fn Ns 1 f)(h9:sh.length<=4)(h10:tZ H ea k es)(h11:(es.map (·.1)).Nodup)(h12:∀e∈es,zO (1+W) e.2)(h13:k<W)(h14:st.1.length=n)(h15:st.2.1.length=n)(h16:i<n)(h17:n<=3)(h18:(st.1.getD i []).length=sh.length)(h19:∀f,f<sh.length->bN (st.1.getD i []) f∈es.map (·.1))
  (k':∀L ys H',H L=none->H' L=some (.lst ys)->bG H' (((List.range sh.length).flatMap λf=>(cZ (RI sh.length sh es k) st i (bN (st.1.getD i []) f)).map λp=>(p.1,q*eV sh f*p.2)).map LO) ys->bA H H'->Q (.ref L) H'):mB K [sv,qv,.int (i:Int),fv,.ref ea] H Q E:=by
 unfold mB;exact ⟨sv,qv,fv,i,ea,st,q,es,n,W,k,D,Ns,sh,rfl,h1,h2,h3,h4,h5,h6,h7,h8,h9,h10,h11,h12,h13,h14,h15,h16,h17,h18,h19,k'⟩
section
theorem aFc(F:jP K "stands_behind_look" "stands_behind_look" aBD f fd)(T:lC K mg c)(FQ41:fW dY P w K mg base 3 "stands_come_to" ["stand","share","test","counts","ends"] (nO K))(FQ42:fW dY P w K mg base 2 "times" ["one","other"] (gO K))(FQ30:fW dY P w K mg base 1 "one_more" ["counts","face"] jN):eT P w K mg base dY 4 f fd ["stand","share","test","face_shares","ends"] (mB K):=by
 refine F.oky aAm λvs H Q E h=>?_;unfold mB at h;obtain ⟨sv,qv,fv,i,ea,d,q,Z,n,W,k,D,θ,sh,rfl,B,rq,qn,R,β,l,rf,γ,l4,en,nd,sy,hk,lc,lo,hi,n3,N,hb,k'⟩:=h;refine ⟨rfl,λcdv A ε s η=>?_⟩;obtain ⟨fa,ω,rfl,I,G⟩:=qC rf;have α:ω.length=sh.length:=dR G;obtain ⟨a,ac,ab,xs,rfl,ha,ι,z,hab⟩:=AB B;have lxs:xs.length=n:=by rw [z.len,aB,lc]
 have dd:D<2^2500:=aY (Nat.le_mul_of_pos_right _ l) β;have szq:kK 4000 (cW q):=gM qn R dd Kk;have O:θ<2^2500:=aY (Nat.le_mul_of_pos_left _ R) β;refine ⟨_,(aS (bS (i:=5) aAm.nd rfl (Or.inl rfl) (fC aJ))
  (aS (fB PassesOwn.never rfl (BU true rfl T.b_enumerate (aP (aL 3) aJ)) (kC rfl (dO (cX (i:=6) aAm.nd rfl (Or.inl rfl)) (dO (cX (i:=7) aAm.nd rfl (Or.inl rfl)) iN))) (bJ (jQ (pJ PySem.F.plainAttrs_list PySem.F.slot_list_extend PySem.F.type_list_extend DJ (aL 5) (aP (bV FQ41 (η.mono Dd) (aP (aL 0) (aP (bV FQ42 (η.mono Dd) (aP (aL 1) (aP (aL 7) aJ))) (aP (aL 2) (aP (bV FQ30 (η.mono Dd) (aP (bR bK (bR bK (aL 0) aM (λ_ _=>rfl)) (aL 2) (λ_ _=>rfl)) (aP (aL 6) aJ))) (aP (aL 4) aJ)))))) aJ)))))
  (bJ (cP (aL 5))))),?_⟩
 refine uU (by show 0<=64;decide) λL H1 ξ e1 χ=>⟨_,rfl,fa,_,rfl,χ _ _ I,?_⟩;refine GQ (b:=true) (n:=0) (xs:=ω) (λj σ H'=>∃(U ζ:Option V) (r:List V),σ=[some (.ref a),some qv,some (.int (i:Int)),some (.ref fa),some (.ref ea),some (.ref L),U,ζ]/\bA H H'/\H' L=some (.lst r)/\bG H' (((List.range j).flatMap λf=>(cZ (RI sh.length sh Z k) d i (bN (d.1.getD i []) f)).map λp=>(p.1,q*eV sh f*p.2)).map LO) r) ⟨_,_,[],rfl,χ,e1,bG.nil⟩ (λj σ H' p=>?_) ?_ ?_
 ·obtain ⟨_,_,_,_,s',_⟩:=p;exact s' _ _ I
 ·rintro j x q3 σ H2 H3 hx ⟨U,ζ,r,rfl,ν,u,C⟩ hq3 e3 M;obtain ⟨g,κ,rg⟩:=dS G hx;have hj:j<sh.length:=(aO.mp κ).1;have J:=γ g (aR κ);have φ:eV sh j=rv g:=(iO κ).1;obtain ⟨e,ψ,ee⟩:=aT.mp (hb j hj);have S3:=ν.trans M;have lys:r.length<=100:=by
   rw [C.len,aB];have:=DY (g:=λf=>(cZ (RI sh.length sh Z k) d i (bN (d.1.getD i []) f)).map λp=>(p.1,q*eV sh f*p.2)) (b:=3) (λf=>by simp [cZ]) j;omega
  refine ⟨q3,_,rfl,fN.of e3,rfl,_,_,rfl,_,_,rfl,rfl,⟨_,rfl,RF (M _ _ u),⟨_,rfl,_,rfl,_,rfl,?_⟩⟩⟩;refine iE (rq.same S3).v (gI.of (rg.same S3)) (bO _) J.low szq (vO J l (bH O (bD Dd Dd)) Nat.one_le_two_pow) λq4 H4 hq4 e4 ρ=>?_;rw [show nY (cW q) g=cW (q*eV sh j) by rw [φ];exact hV (mO (bO _) J.low) (bO _) (by rw [qE (bO _).pos J.low.pos,dI,dI])] at e4;have S4:=S3.trans ρ;obtain ⟨S,y⟩:∃S,d.1[i]?=some S:=⟨_,aC Oo⟩;have o:d.1.getD i []=S:=by rw [aK,y];rfl
  obtain ⟨vx,δ,Y⟩:=gP z y;refine ⟨_,rfl,_,rfl,iI (S4 _ _ ha) rfl ?_⟩;refine ⟨_,rfl,iI (S4 _ _ ι) (dM δ) ?_⟩;refine ⟨_,rfl,?_⟩;rw [show (0:Int)+((j:Nat):Int)=(j:Int) by omega];refine rW (Y.same S4) (by rw [<-o,N];exact hj) (by rw [<-o,N];omega) λv5 H5 X ο=>⟨_,rfl,?_⟩;have S5:=S4.trans X;have qj:Qn (D*θ) 1 (q*eV sh j):=by
   have:=qn.mul (show Qn θ 1 (eV sh j) by rw [φ];exact J.q)
   rwa [Nat.mul_one] at this
  rw [<-o,<-ee] at ο;refine xN (F:=sh.length) (sh:=sh) (B.same S5) (gI.new (f:=cW (q*eV sh j)) (X _ _ e4)) qj (kM R l) β ο (en.same S5) nd ψ (sy e ψ) hk lc lo hi n3 λL6 y6 H6 hL6 e6 μ υ=>?_;have S6:=S5.trans υ;have m:=(ρ.trans X).trans υ;have l6:y6.length=3:=by rw [μ.len];rfl
  refine aCP (m _ _ (M _ _ u)) e6 Oo λH7 e7 b7=>?_;have τ:=b7.t (m _ _ (M _ _ u));refine ⟨_,_,_,rfl,bA.thru ξ S6 b7,e7,?_⟩;rw [rA,bZ];refine bG.app ((C.same (M.trans m)).flat τ (jX _)) ?_;rw [List.map_map];rw [ee] at μ;exact μ.flat τ (by have:=jX ((cZ (RI sh.length sh Z k) d i (bN (d.1.getD i []) j)).map λp=>(p.1,q*eV sh j*p.2));rwa [List.map_map] at this)
 ·rintro σ H2 ⟨U,ζ,r,rfl,ν,u,C⟩;refine ⟨_,rfl,?_⟩;rw [α] at C;exact k' L r H2 ξ u C ν
end
theorem MS:∀a b:List Nat,PyData.eqvAll (a.map λ(n:Nat)=>PyData.int (n:Int)) (b.map λ(n:Nat)=>PyData.int (n:Int))=decide (a=b)
 | [],[]=>by simp [PyData.eqvAll]
 | [],_::_=>by simp [PyData.eqvAll]
 | _::_,[]=>by simp [PyData.eqvAll]
 | x::a,y::b=>by
  have ih:=MS a b;rw [bF,bF];show (PyData.eqv (.int (x:Int)) (.int (y:Int))&&PyData.eqvAll _ _)=_;rw [ih];have e:PyData.eqv (.int (x:Int)) (.int (y:Int))=decide (x=y):=by
   show decide ((x:Int)=(y:Int))=_;exact decide_eq_decide.mpr ⟨λh=>Oo,λh=>by rw [h]⟩
  rw [e];by_cases h:x=y <;> by_cases h':a=b <;> simp [h,h']
theorem ED:∀a b:List (List Nat),PyData.eqvAll (a.map gW) (b.map gW)=decide (a=b)
 | [],[]=>by simp [PyData.eqvAll]
 | [],_::_=>by simp [PyData.eqvAll]
 | _::_,[]=>by simp [PyData.eqvAll]
 | x::a,y::b=>by
  rw [bF,bF];show (PyData.eqvAll _ _&&PyData.eqvAll _ _)=_;rw [ED a b,MS];by_cases h:x=y <;> by_cases h':a=b <;> simp [h,h']
theorem VZ:∀a b:List Bool,PyData.eqvAll (a.map .bool) (b.map .bool)=decide (a=b)
 | [],[]=>by simp [PyData.eqvAll]
 | [],_::_=>by simp [PyData.eqvAll]
 | _::_,[]=>by simp [PyData.eqvAll]
 | x::a,y::b=>by
  rw [bF,bF];show (PyData.eqv (.bool x) (.bool y)&&PyData.eqvAll _ _)=_;rw [VZ a b];have e:PyData.eqv (.bool x) (.bool y)=decide (x=y):=by cases x <;> cases y <;> rfl
  rw [e];by_cases h:x=y <;> by_cases h':a=b <;> simp [h,h']
theorem aBs(a b:SS):PyData.eqv (sO a) (sO b)=decide (a=b):=by
 obtain ⟨j,h,d⟩:=a;obtain ⟨i,b2,c⟩:=b;show (PyData.eqvAll (j.map gW) (i.map gW)&&(PyData.eqvAll (h.map .bool) (b2.map .bool)&&(PyData.eqv (.bool d) (.bool c)&&true)))=_;rw [ED,VZ];have e:PyData.eqv (.bool d) (.bool c)=decide (d=c):=by cases d <;> cases c <;> rfl
 rw [e];by_cases h1:j=i <;> by_cases h2:h=b2 <;> by_cases h3:d=c <;> simp [h1,h2,h3]
theorem VH:∀{a b:List Nat},(a.map λ(n:Nat)=>PyData.int (n:Int))=(b.map λ(n:Nat)=>PyData.int (n:Int))->a=b
 | [],[],_=>rfl
 | [],_::_,h=>by cases h
 | _::_,[],h=>by cases h
 | x::a,y::b,h=>by
  rw [bF,bF] at h;injection h with h1 h2;injection h1 with h1;rw [VH h2,show x=y by omega]
theorem EC:∀{a b:List (List Nat)},a.map gW=b.map gW->a=b
 | [],[],_=>rfl
 | [],_::_,h=>by cases h
 | _::_,[],h=>by cases h
 | x::a,y::b,h=>by
  rw [bF,bF] at h;injection h with h1 h2;injection h1 with h1;rw [EC h2,VH h1]
theorem VY:∀{a b:List Bool},a.map PyData.bool=b.map PyData.bool->a=b
 | [],[],_=>rfl
 | [],_::_,h=>by cases h
 | _::_,[],h=>by cases h
 | x::a,y::b,h=>by
  rw [bF,bF] at h;injection h with h1 h2;injection h1 with h1;rw [VY h2,h1]
theorem CI{a b:SS}(h:sO a=sO b):a=b:=by
 obtain ⟨j,c,i⟩:=a;obtain ⟨e,b2,d⟩:=b;injection h with h;injection h with h1 h;injection h with h2 h;injection h with h3 _;injection h1 with h1;injection h2 with h2;injection h3 with h3;rw [show j=e from EC h1,show c=b2 from VY h2,show i=d from h3]
theorem VG:∀a:List Nat,iY (a.map λ(n:Nat)=>PyData.int (n:Int))=true/\hZ (a.map λ(n:Nat)=>PyData.int (n:Int))=0/\PyData.canLayAll0 (a.map λ(n:Nat)=>PyData.int (n:Int))=true/\PyData.depthAll (a.map λ(n:Nat)=>PyData.int (n:Int))<=1
 | []=>⟨rfl,rfl,rfl,cC _⟩
 | x::a=>by
  obtain ⟨h1,h2,h3,h4⟩:=VG a;refine ⟨?_,?_,?_,?_⟩
  ·show (true&&iY (a.map λ(n:Nat)=>PyData.int (n:Int)))=true;rw [h1];rfl
  ·show max 0 (hZ (a.map λ(n:Nat)=>PyData.int (n:Int)))=0;rw [h2];rfl
  ·show (true&&PyData.canLayAll0 (a.map λ(n:Nat)=>PyData.int (n:Int)))=true;rw [h3];rfl
  ·show max (PyData.depth (.int (x:Int))) (PyData.depthAll (a.map λ(n:Nat)=>PyData.int (n:Int)))<=1;have:PyData.depth (.int (x:Int))<=1:=by simp [PyData.depth]
   omega
theorem lP:∀a:List (List Nat),iY (a.map gW)=true/\hZ (a.map gW)<=1/\PyData.canLayAll0 (a.map gW)=true/\PyData.depthAll (a.map gW)<=2
 | []=>⟨rfl,Dd,rfl,cC _⟩
 | x::a=>by
  obtain ⟨h1,h2,h3,h4⟩:=lP a;obtain ⟨b,e,c,d⟩:=VG x;refine ⟨?_,?_,?_,?_⟩
  ·show (iY (x.map λ(n:Nat)=>PyData.int (n:Int))&&iY (a.map gW))=true;rw [h1,b];rfl
  ·show max (hZ (x.map λ(n:Nat)=>PyData.int (n:Int))+1) (hZ (a.map gW))<=1;omega
  ·show (PyData.canLayAll0 (x.map λ(n:Nat)=>PyData.int (n:Int))&&PyData.canLayAll0 (a.map gW))=true;rw [h3,c];rfl
  ·show max (PyData.depthAll (x.map λ(n:Nat)=>PyData.int (n:Int))+1) (PyData.depthAll (a.map gW))<=2;omega
theorem yY:∀a:List Bool,iY (a.map .bool)=true/\hZ (a.map .bool)=0/\PyData.canLayAll0 (a.map .bool)=true/\PyData.depthAll (a.map .bool)<=1
 | []=>⟨rfl,rfl,rfl,cC _⟩
 | x::a=>by
  obtain ⟨h1,h2,h3,h4⟩:=yY a;refine ⟨?_,?_,?_,?_⟩
  ·show (true&&iY (a.map .bool))=true;rw [h1];rfl
  ·show max 0 (hZ (a.map .bool))=0;rw [h2];rfl
  ·show (true&&PyData.canLayAll0 (a.map .bool))=true;rw [h3];rfl
  ·show max (PyData.depth (.bool x)) (PyData.depthAll (a.map .bool))<=1;have:PyData.depth (.bool x)<=1:=by simp [PyData.depth]
   omega
def shS:L2.rP where
 S:=λd=>∃st:SS,d=sO st
 key:=λd ⟨st,e⟩=>by
  subst e;show (iY (st.1.map gW)&&(iY (st.2.1.map .bool)&&(true&&true)))=true;rw [(lP _).1,(yY _).1];rfl
 deep:=λd ⟨st,e⟩=>by
  subst e;show max (hZ (st.1.map gW)+1) (max (hZ (st.2.1.map .bool)+1) (max 0 0))+1<=8;have:=(lP st.1).2.1;have:=(yY st.2.1).2.1;omega
 lay:=λd ⟨st,e⟩=>by
  subst e;show (PyData.canLayAll0 (st.1.map gW)&&(PyData.canLayAll0 (st.2.1.map .bool)&&(true&&true)))=true;rw [(lP _).2.2.1,(yY _).2.2.1];rfl
 dep:=λd ⟨st,e⟩=>by
  subst e;show max (PyData.depthAll (st.1.map gW)+1) (max (PyData.depthAll (st.2.1.map .bool)+1) (max (PyData.depth (.bool st.2.2)) 0))+1<=60;have:=(lP st.1).2.2.2;have:=(yY st.2.1).2.2.2;have:PyData.depth (.bool st.2.2)<=1:=by simp [PyData.depth]
  omega
 eq:=λd e ⟨a,ha⟩ ⟨b,hb⟩=>by
  subst ha hb;rw [aBs];by_cases h:a=b
  ·rw [h];simp
  ·rw [bU h,bU λz=>h (CI z)]
def XM:L2.rP where
 S:=λd=>∃cs:List (List Nat),d=tP cs
 key:=λd ⟨cs,e⟩=>by subst e;exact (lP cs).1
 deep:=λd ⟨cs,e⟩=>by subst e;show hZ (cs.map gW)+1<=8;have:=(lP cs).2.1;omega
 lay:=λd ⟨cs,e⟩=>by subst e;exact (lP cs).2.2.1
 dep:=λd ⟨cs,e⟩=>by subst e;show PyData.depthAll (cs.map gW)+1<=60;have:=(lP cs).2.2.2;omega
 eq:=λd e ⟨a,ha⟩ ⟨b,hb⟩=>by
  subst ha hb;show PyData.eqvAll (a.map gW) (b.map gW)=_;rw [ED];by_cases h:a=b
  ·rw [h];simp
  ·rw [bU h,bU λz=>h (by injection z with z;exact EC z)]
def kY(l:List (SS × Rat))(st:SS):Rat:=((l.find? λp=>decide (p.1=st)).map (·.2)).getD 0
def wH(l:List (SS × Rat))(st:SS)(q:Rat):List (SS × Rat):=if (l.any λp=>decide (p.1=st))=true then l.map (λp=>if p.1=st then (p.1,q) else p) else l++[(st,q)]
def gth(L:List (SS × Rat)):List (SS × Rat):=L.foldl (λl p=>if p.2=0 then l else wH l p.1 (kY l p.1+p.2)) []
theorem tJ(L:List (SS × Rat))(p:SS × Rat):gth (L++[p])=if p.2=0 then gth L else wH (gth L) p.1 (kY (gth L) p.1+p.2):=by unfold gth;rw [List.foldl_append];rfl
theorem SY{l:List (SS × Rat)}(nd:(l.map (·.1)).Nodup)(st:SS)(q:Rat)(g:SS->Rat):bY (wH l st (kY l st+q)) (λp=>p.2*g p.1)=bY l (λp=>p.2*g p.1)+q*g st:=by
 unfold wH;by_cases h:(l.any λp=>decide (p.1=st))=true
 ·rw [if_pos h];have c:∀(l:List (SS × Rat)) (x:Rat),(l.map (·.1)).Nodup->(l.any λp=>decide (p.1=st))=true->bY (l.map λp=>if p.1=st then (p.1,x) else p) (λp=>p.2*g p.1)=bY l (λp=>p.2*g p.1)+(x-kY l st)*g st:=λl x=>by
   induction l with
   | nil=>intro _ h;simp at h
   | cons p l ih =>
    intro nd h;rw [bF,List.nodup_cons] at nd;rw [bF,cJ,cJ];by_cases e:p.1=st
    ·rw [if_pos e];have j:l.map (λp=>if p.1=st then (p.1,x) else p)=l:=by
      conv=>rhs;rw [<-List.map_id l]
      refine eC λi b=>?_;rw [if_neg λz=>nd.1 (by rw [e,<-z];exact aT.mpr ⟨i,b,rfl⟩)];rfl
     rw [j];have a:kY (p::l) st=p.2:=by unfold kY;simp [List.find?_cons,e]
     rw [a];show x*g p.1+_=_;rw [e];grind
    ·rw [if_neg e];have a:kY (p::l) st=kY l st:=by unfold kY;simp [List.find?_cons,e]
     rw [a,ih nd.2 (by simpa [e] using h)];grind
  rw [c l _ nd h];grind
 ·rw [if_neg h];have a:kY l st=0:=by
   unfold kY;rw [List.find?_eq_none.mpr λp d=>?_];rfl;intro z;exact h (List.any_eq_true.mpr ⟨p,d,z⟩)
  rw [jL,a];show _+(0+q)*g st=_;grind
theorem OL(l:List (SS × Rat))(st:SS)(q:Rat):(wH l st q).map (·.1)=if (l.any λp=>decide (p.1=st))=true then l.map (·.1) else l.map (·.1)++[st]:=by
 unfold wH;split
 ·rw [List.map_map];refine eC λp _=>?_;show (if p.1=st then (p.1,q) else p).1=p.1;split <;> rfl
 ·rw [bZ];rfl
theorem YI{l:List (SS × Rat)}(nd:(l.map (·.1)).Nodup)(st:SS)(q:Rat):((wH l st q).map (·.1)).Nodup:=by
 rw [OL];split
 ·exact nd
 ·rename_i h
  refine List.nodup_append.mpr ⟨nd,by simp,λa d b i e=>?_⟩;cases cF.mp i;subst e;obtain ⟨p,c,rfl⟩:=aT.mp d;exact h (List.any_eq_true.mpr ⟨p,c,by simp⟩)
theorem xY{l:List (SS × Rat)}{st:SS}{q:Rat}{p:SS × Rat}(h:p∈wH l st q):p∈l\/(p.1=st/\p.2=q):=by
 unfold wH at h;split at h
 ·obtain ⟨b,a,rfl⟩:=aT.mp h;split
  ·rename_i e;exact .inr ⟨e,rfl⟩
  ·exact .inl a
 ·rcases eM.mp h with h | h
  ·exact .inl h
  ·rw [cF.mp h];exact .inr ⟨rfl,rfl⟩
structure Gth(L l:List (SS × Rat)):Prop where
 sum:∀g:SS->Rat,bY l (λp=>p.2*g p.1)=bY L (λp=>p.2*g p.1)
 nd:(l.map (·.1)).Nodup
 pos:∀p∈l,0<p.2
 src:∀p∈l,∃p' ∈ L,p'.1=p.1/\p'.2≠0
theorem MH{l:List (SS × Rat)}(h:∀p∈l,0<p.2)(st:SS):0<=kY l st:=by
 unfold kY;cases e:l.find? λp=>decide (p.1=st) with
 | none=>exact Rat.le_refl
 | some p =>
  have:=h p (List.mem_of_find?_eq_some e);show 0<=p.2;grind
theorem JH:∀L:List (SS × Rat),(∀p∈L,0<=p.2)->Gth L (gth L):=λL=>by
 induction L using jB with
 | h0=>exact λ_=>⟨λg=>rfl,List.nodup_nil,λp a=>absurd a List.not_mem_nil,λp a=>absurd a List.not_mem_nil⟩
 | hs L x ih =>
  intro h;have G:=ih λp a=>h p (cA _ a);have i:=h x (by simp);rw [tJ];by_cases z:x.2=0
  ·rw [if_pos z];refine ⟨λg=>?_,G.nd,G.pos,λp a=>?_⟩
   ·rw [jL,G.sum g,z];grind
   ·obtain ⟨c,d,b⟩:=G.src p a;exact ⟨c,cA _ d,b⟩
  ·rw [if_neg z];refine ⟨λg=>?_,YI G.nd _ _,λp a=>?_,λp a=>?_⟩
   ·rw [SY G.nd,G.sum g,jL]
   ·rcases xY a with a | ⟨_,e⟩
    ·exact G.pos p a
    ·rw [e];have:=MH G.pos x.1;grind
   ·rcases xY a with a | ⟨e,_⟩
    ·obtain ⟨c,d,b⟩:=G.src p a;exact ⟨c,cA _ d,b⟩
    ·exact ⟨x,by simp,e.symm,z⟩
theorem ZV{L:List (SS × Rat)}(h:∀p∈L,0<=p.2)(st:SS):kY (gth L) st<=bY L λp=>p.2:=by
 have G:=JH L h;have i:=G.sum λ_=>1;have j:∀f:SS × Rat->Rat,bY (gth L) (λp=>p.2*1)=bY (gth L) λp=>p.2:=λ_=>dE λp _=>by grind
 have n:bY L (λp=>p.2*1)=bY L λp=>p.2:=dE λp _=>by grind
 rw [n,j λ_=>0] at i;rw [<-i];unfold kY;cases e:(gth L).find? λp=>decide (p.1=st) with
 | none=>exact mU λp b=>by have:=G.pos p b;grind
 | some p =>
  have b:=List.mem_of_find?_eq_some e;have d:∀l:List (SS × Rat),(∀p∈l,0<p.2)->p∈l->p.2<=bY l λp=>p.2:=λl=>by
   induction l with
   | nil=>intro _ h;cases h
   | cons a l ih =>
    intro c m;rw [cJ];rcases bE.mp m with z | z
    ·have:=mU (l:=l) (f:=λp=>p.2) λp b=>by have:=c p (aG _ b);grind
     rw [z];grind
    ·have:=ih (λp b=>c p (aG _ b)) z;have:=c a (aQ ..);grind
  exact d _ G.pos b
abbrev GP(K:KFr)(H:Hp):List (PyData × V)->List (SS × Rat)->Prop:=Paired λx p=>x.1=sO p.1/\nD K H (cW p.2) x.2
structure QI(P:Program)(w:World)(K:KFr)(H:Hp)(a:Addr)(l:List (SS × Rat)):Prop where
 ex:∃kvs,fF P w shS H a kvs/\GP K H kvs l
section
variable{P:Program}{w:World}{K:KFr}{H H':Hp}{a:Addr}{l:List (SS × Rat)}{kvs:List (PyData × V)}
theorem GP.t(s:dL H H')(h:GP K H kvs l):GP K H' kvs l:=Paired.mapP h λ_ _ z=>⟨z.1,z.2.t s⟩
theorem QI.same(h:QI P w K H a l)(s:bA H H'):QI P w K H' a l:=by
 obtain ⟨b,d,c⟩:=h.ex;exact ⟨b,d.same s,GP.t s.t c⟩
theorem GP.val(h:GP K H kvs l)(st:SS){z:V}(hz:nD K H (cW 0) z):nD K H (cW (kY l st)) ((gT kvs (sO st)).getD z):=by
 induction h with
 | nil=>exact hz
 | @cons x p xs l hp t ih =>
  by_cases e:p.1=st
  ·rw [fZ (by rw [hp.1,e]),show kY (p::l) st=p.2 by unfold kY;simp [List.find?_cons,e]];exact hp.2
  ·rw [gA (λq=>e (CI (by rw [<-hp.1];exact q))),show kY (p::l) st=kY l st by unfold kY;simp [List.find?_cons,e]];exact ih
theorem GP.any(h:GP K H kvs l)(st:SS):(kvs.any λkv=>decide (kv.1=sO st))=l.any λp=>decide (p.1=st):=by
 induction h with
 | nil=>rfl
 | @cons x p xs l hp t ih =>
  rw [List.any_cons,List.any_cons,ih];congr 1;rw [hp.1];by_cases e:p.1=st
  ·rw [cG e,cG (by rw [e])]
  ·rw [bU e,bU λz=>e (CI z)]
theorem GP.put(h:GP K H kvs l){st:SS}{q:Rat}{v:V}(hv:nD K H (cW q) v):GP K H (jW kvs (sO st) v) (wH l st q):=by
 unfold jW wH;rw [h.any st];by_cases e:(l.any λp=>decide (p.1=st))=true
 ·rw [if_pos e,if_pos e];clear e
  induction h with
  | nil=>exact .nil
  | @cons x p xs l hp t ih =>
   rw [bF,bF];refine .cons ?_ ih;by_cases e:p.1=st
   ·rw [if_pos e,if_pos (by rw [hp.1,e])];exact ⟨hp.1,hv⟩
   ·rw [if_neg e,if_neg λz=>e (CI (by rw [<-hp.1];exact z))];exact hp
 ·rw [if_neg e,if_neg e];exact Paired.snoc h ⟨rfl,hv⟩
end
theorem MG:∀L:List (SS × Rat),(gth L).length<=L.length:=λL=>by
 induction L using jB with
 | h0=>exact aE _
 | hs L x ih =>
  rw [tJ,aV,List.length_singleton];split
  ·omega
  ·unfold wH;split
   ·rw [aB];omega
   ·rw [aV,List.length_singleton];omega
theorem RW{L:List (SS × Rat)}(h:∀p∈L,0<=p.2)(i:Nat):bY (L.take i) (λp=>p.2)<=bY L λp=>p.2:=by
 have e:L.take i++L.drop i=L:=List.take_append_drop i L;have b:bY L (λp=>p.2)=bY (L.take i) (λp=>p.2)+bY (L.drop i) λp=>p.2:=by rw [<-lZ,e]
 have:=mU (l:=L.drop i) (f:=λp=>p.2) λp a=>h p (List.mem_of_mem_drop a);grind
theorem UP{D:Nat}:∀L:List (SS × Rat),(∀p∈L,∃C,Qn D C p.2)->∀p∈gth L,∃C,Qn D C p.2:=λL=>by
 induction L using jB with
 | h0=>intro _ p a;cases a
 | hs L x b =>
  intro h p a;have b:=b λp a=>h p (cA _ a);rw [tJ] at a;split at a
  ·exact b p a
  ·rcases xY a with a | ⟨_,e⟩
   ·exact b p a
   ·rw [e];obtain ⟨C,d⟩:=h x (by simp);have:∃C,Qn D C (kY (gth L) x.1):=by
     unfold kY;cases q:(gth L).find? λp=>decide (p.1=x.1) with
     | none=>exact ⟨0,Qn.zero _ _⟩
     | some p'=>exact b p' (List.mem_of_find?_eq_some q)
    obtain ⟨C',c⟩:=this;exact ⟨_,c.add d⟩
@[irreducible] def qU(P:Program)(w:World)(K:KFr):Sp:=λvs H Q _=>∃(fa:Addr) (ys:List V) (L:List (SS × Rat)) (D:Nat),vs=[.ref fa]/\H fa=some (.lst ys)/\bG H (L.map LO) ys/\(∀p∈L,0<=p.2/\Qn D 1 p.2)/\bY L (λp=>p.2)<=1/\0<D/\D<2^2500/\L.length<=100000/\∀a H',bA H H'->H a=none->QI P w K H' a (gth L)->Q (.ref a) H'
theorem AD{P:Program}{w:World}{K:KFr}{H:Hp}{Q:VK}{E:XK}{fa:Addr}{ys:List V}{L:List (SS × Rat)}{D:Nat}(h1:H fa=some (.lst ys))(h2:bG H (L.map LO) ys)(h3:∀p∈L,0<=p.2/\Qn D 1 p.2)(h4:bY L (λp=>p.2)<=1)(h5:0<D)(h6:D<2^2500)(h7:L.length<=100000)(k:∀a H',bA H H'->H a=none->QI P w K H' a (gth L)->Q (.ref a) H'):qU P w K [.ref fa] H Q E:=by
 unfold qU;exact ⟨fa,ys,L,D,rfl,h1,h2,h3,h4,h5,h6,h7,k⟩
theorem yS(f:Fr):SeqAt.shaped (fO f)=true:=by
 unfold SeqAt.shaped;rw [cM];exact ⟨rfl,cG (by show max (PyData.depth (.int f.1)) (max (PyData.depth (.int f.2)) 0)+1<=64;simp [PyData.depth])⟩
theorem UW(q:Rat):PyData.eqv (fO (cW q)) (fO (0,1))=decide (q=0):=by
 have h:PyData.eqv (fO (cW q)) (fO (0,1))=(decide ((cW q).1=0)&&(decide ((cW q).2=1)&&true)):=rfl;rw [h];by_cases e:q=0
 ·rw [e,tN];rfl
 ·rw [bU e];have:¬(cW q).1=0:=λz=>e (by
   have:=dI q;rw [<-this];unfold rv;rw [z];simp [Rat.div_def])
  rw [bU this];rfl
section
theorem aFx(F:jP K "gathered" "gathered" aBP f fd)(T:lC K mg c)(FQ33:fW dY P w K mg base 2 "plus" ["one","other"] (lH K)):eT P w K mg base dY 3 f fd ["found"] (qU P w K):=by
 refine F.oky aAp λvs H Q E h=>?_;unfold qU at h;obtain ⟨η,θ,L,D,rfl,l,β,I,υ,B,ζ,lL,k⟩:=h;refine ⟨rfl,λφ A X s r=>?_⟩;have nn:∀p∈L,0<=p.2:=λp d=>(I p d).1;have R:θ.length=L.length:=by rw [β.len,aB]
 have τ:∀H',nD K H' (cW 0) (.ref c.NOUGHT):=λH'=>(.inr ⟨c.NOUGHT,rfl,by rw [tN];exact T.o_NOUGHT⟩:nD K H' (cW 0) (.ref c.NOUGHT));refine ⟨_,(aS (bS (i:=1) aAp.nd rfl (Or.inl rfl) (BX P w shS))
  (aS (fB PassesOwn.never rfl (fX (aL 0)) (kC rfl (dO (cX (i:=2) aAp.nd rfl (Or.inl rfl)) (dO (cX (i:=3) aAp.nd rfl (Or.inl rfl)) iN))) (bJ (lV (gJ (aCk K r.units) (aL 3) (iB (v:=.ref c.NOUGHT) rfl T.g_NOUGHT rfl) (nomark _)) (bJ (BQ P w r.units (aL 1) (aL 2) (bV FQ33 (r.mono Dd) (aP (QY P w r.units (aL 1) (aL 2) (iB (v:=.ref c.NOUGHT) rfl T.g_NOUGHT rfl)) (aP (aL 3) aJ))))) iA)))
  (bJ (cP (aL 1))))),?_⟩
 refine rnnew λa H1 ν ρ δ=>⟨_,rfl,η,rfl,⟨_,fY.of (δ _ _ l)⟩,kZ (xs:=θ) (λi σ H'=>∃(Z U:Option V),σ=[some (.ref η),some (.ref a),Z,U]/\bA H H'/\QI P w K H' a (gth (L.take i))) ⟨_,_,rfl,δ,⟨_,ρ,.nil⟩⟩ (λi σ H' _ p=>?_) ?_ ?_⟩
 ·obtain ⟨_,_,_,s',_⟩:=p;exact fY.of (s' _ _ l)
 ·rintro i x σ H2 hx ⟨Z,U,rfl,n,j⟩;obtain ⟨p,d,ψ⟩:=dS β hx;have W:=aR d;have hi:i<L.length:=(aO.mp d).1;obtain ⟨b,us,rfl,hb,S⟩:=eU (ψ.same n);obtain ⟨u,z,rfl,ε,γ⟩:=iL S;obtain ⟨μ,_,_,_,rfl,_⟩:=AB ε;obtain ⟨p0,pq⟩:=I p W;have tk:=eS d;have e:∀p∈L.take i,0<=p.2:=λp d=>nn p (List.mem_of_mem_take d);refine ⟨b,[.ref μ,z],rfl,fN.of hb,rfl,_,_,rfl,_,_,rfl,rfl,⟨_,rfl,reK γ.k (oI.tup (pQ T.o_NOUGHT) (kA.ints [0,1])) (yS _) (yS (0,1)) ?_⟩⟩;refine ⟨_,rfl,?_⟩;rw [show PyData.tuple (List.map PyData.int [0,1])=fO (0,1) from rfl,UW];rw [tk,tJ];by_cases hz0:p.2=0
  ·rw [cG hz0,if_pos hz0];exact sD ⟨_,_,rfl,n,j⟩
  ·rw [bU hz0,if_neg hz0];refine yL ?_;obtain ⟨O,M,y⟩:=j.ex;have G:=JH (L.take i) e;have α:cE H2 (sO p.1) (.ref μ):=ε;refine ⟨_,rfl,rn0 M ?_⟩;refine ⟨_,rfl,aDG M α ⟨_,rfl⟩ ?_⟩;refine ⟨_,rfl,?_⟩;have gv:=y.val p.1 (τ H2);have χ:Qn D 1 (kY (gth (L.take i)) p.1):=by
    have Y:∃C,Qn D C (kY (gth (L.take i)) p.1):=by
     unfold kY;cases q:(gth (L.take i)).find? λJ=>decide (J.1=p.1) with
     | none=>exact ⟨0,Qn.zero _ _⟩
     | some J=>exact UP (L.take i) (λp d=>⟨1,(I p (List.mem_of_mem_take d)).2⟩) J (List.mem_of_find?_eq_some q)
    obtain ⟨C,Y⟩:=Y;refine Qn.le1 Y B (MH G.pos _) ?_;have ο:=ZV e p.1;have h3:=RW nn i;grind
   refine nP gv.v (gI.of γ) (bO _) (bO _) (gM χ B ζ Kk) (gM pq B ζ Kk) λq4 H4 hq4 ι o=>?_;rw [aC6] at ι;refine ⟨_,rfl,_,rfl,?_⟩;have m:=M.same o;have ω:O.length<=100000:=by
    have υ:=Paired.length y;have ο:=MG (L.take i);rw [cB] at ο;omega
   refine rnp m (α.same o) ⟨_,rfl⟩ ω λH5 N κ=>?_;have ξ:=m.t κ;exact ⟨_,_,rfl,bA.thru ν (n.trans o) κ,⟨_,N,(GP.t ξ (GP.t o.t y)).put (.inl ((fU ι).flat ξ (fV _)))⟩⟩
 ·rintro σ H2 ⟨Z,U,rfl,n,j⟩;refine ⟨_,rfl,?_⟩;rw [R,bP] at j;exact k a H2 n ν j
end
abbrev XV:Stmt:=(top 42)
theorem aC0:cI ["plan","stand","going","told"] ["plan","stand"] (bB XV):=⟨rfl,rfl,rfl,Kk,rfl,Kk,Kk⟩
abbrev SI:Stmt:=(top 41)
theorem EH:cI ["hall","ends","begun","stands","test","counts","later","stand","share"] ["hall","ends"] (bB SI):=⟨rfl,rfl,rfl,Kk,rfl,Kk,Kk⟩
theorem HG{K:KFr}{js:List Nat}{te:TE}{tc:TT}{σ:St}{H:Hp}{Q:VK}{l:Addr}{bs:List Bool}(h:H l=some (uI true (bs.map V.bl)))(hz:bs.length<=1000)
  (ht:∀(i:Nat) (b:Bool) (H':Hp) (Q':Bool->Hp->Prop),Q' b H'->tc (some (.int (i:Int))::some (.bl b)::slots σ js) H' Q')
  (he:∀(i:Nat) (b:Bool) (H':Hp) (Q':VK),Q' (.int (i:Int)) H'->te (some (.int (i:Int))::some (.bl b)::slots σ js) H' Q')
  (hd:∀D H',H D=none->H' D=some (.lst ((dJ bs).map lE))->bA H H'->Q (.ref D) H'):mR K 2 (Ite true l 0) σ js tc te H Q:=by
 unfold mR;intro D hD
 let gi:Nat->List Nat:=λi=>(List.range i).filter λj=>bs.getD j false
 have s:∀i,gi (i+1)=if bs.getD i false=true then gi i++[i] else gi i:=λi=>by
  show ((List.range (i+1)).filter _)=_;rw [List.range_succ,List.filter_append];by_cases e:bs.getD i false=true
  ·rw [if_pos e];simp only [List.filter_cons,e,if_true,List.filter_nil];rfl
  ·rw [if_neg e];simp only [List.filter_cons,e,List.filter_nil,if_false,List.append_nil];simp [e];rfl
 refine ⟨λi m p H'=>m=bs.length-i/\i<=bs.length/\p=(gi i).map lE/\H' D=some (.lst p)/\bA H H',⟨bs.length,by simp,cC _,rfl,bL,bA.upd hD⟩,?_⟩;rintro i m p H2 ⟨rfl,C,rfl,a,d⟩;refine ⟨a,?_⟩;have G:((gi i).map lE).length<=i:=by
  rw [aB];refine aZ (List.length_filter_le _ _) ?_;rw [cR];exact aE _
 by_cases hlt:i<bs.length
 ·have u:(bs.map V.bl)[i]?=some (V.bl bs[i]):=by rw [aI,aC hlt];rfl
  refine .inr ⟨⟨_,_,d _ _ h,u⟩,aY (m:=1000) Oo Dd,λv H3 y=>?_⟩;obtain ⟨q,x,rfl,w,rfl,B⟩:=y;have r:=B _ (d _ _ h);rw [u] at r;cases r;rw [show (0:Int)+((i:Nat):Int)=(i:Int) by omega];have c:=bA.upd (o:=.tup [V.int (i:Int),V.bl bs[i]]) w;have e3:(upd H2 q (.tup [V.int (i:Int),V.bl bs[i]])) q=some (.tup [V.int (i:Int),V.bl bs[i]]):=bL;generalize upd H2 q (.tup [V.int (i:Int),V.bl bs[i]])=H3 at c e3;have n:bs.getD i false=bs[i]:=by rw [aK,aC hlt];rfl
  refine ⟨q,_,rfl,fN.of e3,rfl,λb H4=>b=bs[i]/\H4=H3,ht i bs[i] H3 _ ⟨rfl,rfl⟩,?_⟩;rintro b H4 ⟨rfl,rfl⟩;by_cases e:bs[i]=true
  ·rw [if_pos e];refine ⟨λz H5=>z=lE i/\H5=H4,he i bs[i] H4 _ ⟨rfl,rfl⟩,?_⟩;rintro z H5 ⟨rfl,rfl⟩;have A:=c _ _ a;refine ⟨A,bs.length-(i+1),Oo,rfl,hlt,?_,bL,bA.thru hD (d.trans c) aU.self⟩;rw [s i,n,if_pos e,bZ];rfl
  ·rw [if_neg e];refine ⟨c _ _ a,bs.length-(i+1),Oo,rfl,hlt,?_,c _ _ a,d.trans c⟩;rw [s i,n,if_neg e]
 ·have e:i=bs.length:=Oo;subst e;refine .inl ⟨⟨_,d _ _ h,by rw [aB];exact aE _⟩,hd D H2 hD a d⟩
structure HU(P:Program)(w:World)(H:Hp)(a:Addr)(pl:List (List Nat)->Option Int):Prop where
 ex:∃kvs:List (PyData × V),fF P w XM H a kvs/\∀cs,gT kvs (tP cs)=(pl cs).map V.int
theorem HU.same{P:Program}{w:World}{H H':Hp}{a:Addr}{pl:List (List Nat)->Option Int}(h:HU P w H a pl)(s:bA H H'):HU P w H' a pl:=by
 obtain ⟨b,d,c⟩:=h.ex;exact ⟨b,d.same s,c⟩
@[irreducible] def nS(P:Program)(w:World):Sp:=λvs H Q _=>∃(a:Addr) (sv:V) (st:SS) (pl:List (List Nat)->Option Int),vs=[.ref a,sv]/\HU P w H a pl/\cE H (sO st) sv/\st.2.1.length<=3/\∀H',bA H H'->Q (match gU pl st with | none=>V.non | some i=>V.int (i:Int)) H'
theorem FN{P:Program}{w:World}{H:Hp}{Q:VK}{E:XK}{a:Addr}{sv:V}{st:SS}{pl:List (List Nat)->Option Int}(h1:HU P w H a pl)(h2:cE H (sO st) sv)(h3:st.2.1.length<=3)(k:∀H',bA H H'->Q (match gU pl st with | none=>V.non | some i=>V.int (i:Int)) H'):nS P w [.ref a,sv] H Q E:=by
 unfold nS;exact ⟨a,sv,st,pl,rfl,h1,h2,h3,k⟩
section
theorem aFp(F:jP K "looked_at" "looked_at" XV f fd)(T:lC K mg c):eT P w K mg base dY 1 f fd ["plan","stand"] (nS P w):=by
 refine F.oky aC0 λθ H Q E h=>?_;unfold nS at h;obtain ⟨a,ν,l,pl,rfl,ε,I,ι,k⟩:=h;refine ⟨rfl,λδ A W s X=>?_⟩;obtain ⟨κ,μ,η,xs,rfl,α,M,G,B⟩:=AB I;refine ⟨_,(aS (oN (i:=2) (eF.of (psc:=bB XV) (N:=["plan","stand","going","told"]) (xs:=["test","looks_on"]) (N':=["test","looks_on"]) (js:=[]) Kk rfl rfl rfl) aC0.nd rfl rfl (BU true rfl T.b_enumerate (aP (bR bK (aL 1) aM (λ_ _=>rfl)) aJ)) (λ_ _ _ _=>sF (mX (aL 1))) (λ_ _ _ _=>(aL 0)))
  (aS (bS (i:=3) aC0.nd rfl (Or.inl rfl) (QZ P w X.units (aL 0) (bR bK (aL 1) aM (λ_ _=>rfl))))
  (aS (lV (WU (QP (QN (gJ AO (gK jI (by rfl) T.b_len Kk (aP (aL 2) aJ)) aM (nomark _)) (IB (gJ (aCp K X.units) (aL 3) (iB (v:=.int (-1)) rfl T.g_BREAK_OFF ⟨_,rfl⟩) (nomark _)))))) (bJ (cP QX)) iA)
  (bJ (cP (RB (gJ AM (aL 3) (aL 2) (by with_unfolding_all rfl)) (aL 3) (bR bK (aL 2) aM (λ_ _=>rfl)))))))),?_⟩
 refine ⟨_,rfl,iI α rfl ?_⟩;refine ⟨η,_,rfl,B,HG B Oo (λi b H' Q' q=>⟨_,rfl,_,rfl,q⟩) (λi b H' Q' q=>⟨_,rfl,q⟩) (λD H1 hD o p=>?_)⟩;obtain ⟨γ,β,S⟩:=ε.ex;refine ⟨_,rfl,rn0 (β.same p) ?_⟩;refine ⟨_,rfl,iI (p _ _ α) rfl ?_⟩;refine aDG (β.same p) (cE.tup (p _ _ M) (G.same p)) ⟨l.1,rfl⟩ ?_;rw [show (PyData.tuple (l.1.map gW))=tP l.1 from rfl,S];have m:=k H1 p;unfold gU at m;have ζ:((dJ l.2.1).map lE).length=(dJ l.2.1).length:=aB ..;have J:∀t:Int,UL (V.int t) ((dJ l.2.1).map lE)=decide (t∈(dJ l.2.1).map (λ(i:Nat)=>(i:Int))):=λt=>by
  rw [Bool.eq_iff_iff,decide_eq_true_iff];unfold UL;rw [List.any_eq_true];constructor
  ·rintro ⟨x,C,e⟩;obtain ⟨i,L,rfl⟩:=aT.mp C;refine aT.mpr ⟨i,L,?_⟩;have:((i:Int) == t)=true:=e;simpa using this
  ·intro h;obtain ⟨i,L,e⟩:=aT.mp h;refine ⟨lE i,List.mem_map_of_mem L,?_⟩;show ((i:Int) == t)=true;simpa using e
 have O:UL V.non ((dJ l.2.1).map lE)=false:=by
  unfold UL;rw [List.any_eq_false];intro x C;obtain ⟨i,_,rfl⟩:=aT.mp C;simp [ZZ]
 have Y:((dJ l.2.1).map lE).all qN=true:=List.all_eq_true.mpr λx C=>by
  obtain ⟨i,_,rfl⟩:=aT.mp C
  rfl
 have u:dJ l.2.1≠[]->∃j,(dJ l.2.1).head?=some j/\HR ((dJ l.2.1).map lE) 0=some (lE j):=λU=>by
  cases e:dJ l.2.1 with
  | nil=>exact absurd e U
  | cons j r=>exact ⟨j,rfl,dM (j:=0) rfl⟩
 have Z:decide (V.int (((dJ l.2.1).map lE).length:Int)=V.int 0)=decide (dJ l.2.1=[]):=by
  rw [ζ];exact decide_eq_decide.mpr ⟨λh=>by injection h with h;exact List.length_eq_zero_iff.mp Oo,λh=>by rw [h];rfl⟩
 cases e:pl l.1 with
 | none =>
  rw [e] at m;refine ⟨λb H'=>b=decide (dJ l.2.1=[])/\H'=H1,?_,?_⟩
  ·refine ⟨_,rfl,YC o ?_⟩;refine ⟨rfl,_,rfl,?_⟩;rw [Z];by_cases hn:dJ l.2.1=[]
   ·rw [cG hn];exact yL ⟨rfl,rfl⟩
   ·rw [bU hn];refine sD ⟨_,rfl,reK (d:=.none) (d':=.int (-1)) rfl rfl rfl rfl ?_⟩;exact ⟨_,rfl,rfl,rfl⟩
  ·rintro b H' ⟨rfl,rfl⟩;by_cases hn:dJ l.2.1=[]
   ·rw [cG hn];rw [if_pos (.inl hn)] at m;exact yL m
   ·rw [bU hn];rw [if_neg (by simp [hn])] at m;obtain ⟨j,R,n⟩:=u hn;dsimp only at m;rw [R] at m;refine sD ⟨_,rfl,_,rfl,D,_,rfl,.inl (fY.of o),rfl,Y,_,rfl,?_⟩;simp only [Option.map_none,Option.getD_none,O,Bool.false_eq_true,if_false];exact ⟨_,rfl,nZ o n m⟩
 | some t =>
  rw [e] at m;refine ⟨λb H'=>b=decide (dJ l.2.1=[]\/t=-1)/\H'=H1,?_,?_⟩
  ·refine ⟨_,rfl,YC o ?_⟩;refine ⟨rfl,_,rfl,?_⟩;rw [Z];by_cases hn:dJ l.2.1=[]
   ·rw [cG hn,cG (.inl hn)];exact yL ⟨rfl,rfl⟩
   ·rw [bU hn];refine sD ⟨_,rfl,reK (d:=.int t) (d':=.int (-1)) rfl rfl rfl rfl ?_⟩;refine ⟨_,rfl,?_,rfl⟩;show (true == decide (t=-1))=_;by_cases ht:t=-1
    ·rw [cG ht,cG (.inr ht)];rfl
    ·rw [bU ht,bU (by simp [hn,ht])];rfl
  ·rintro b H' ⟨rfl,rfl⟩;by_cases hn:dJ l.2.1=[]\/t=-1
   ·rw [cG hn];rw [if_pos (hn.imp id λz=>by rw [z])] at m;exact yL m
   ·rw [bU hn];rw [if_neg (λz=>hn (z.imp id λy=>dC y))] at m;obtain ⟨j,R,n⟩:=u (λz=>hn (.inl z));dsimp only at m;refine sD ⟨_,rfl,_,rfl,D,_,rfl,.inl (fY.of o),rfl,Y,_,rfl,?_⟩;simp only [Option.map_some,Option.getD_some,Bool.false_eq_true,if_false,J];by_cases hm:t∈(dJ l.2.1).map (λ(i:Nat)=>(i:Int))
    ·rw [if_pos hm] at m;rw [cG hm];refine yL ⟨_,rfl,?_⟩;obtain ⟨i,_,rfl⟩:=aT.mp hm;exact m
    ·rw [if_neg hm,R] at m;rw [bU hm];exact sD ⟨_,rfl,nZ o n m⟩
end
theorem NJ.sy{F W M:Nat}{es:List cL}(h:NJ F W M es):∀e∈es,zO (1+W) e.2:=by
 obtain ⟨f,rfl,d,sy⟩:=h.ex;intro e b;obtain ⟨c,a,rfl⟩:=aT.mp b;exact sy c a
def fR(h:HE)(k:Nat):List Fr:=((h.ws[k]?).map (·.2)).getD []
def oO(M:Nat)(h:HE)(k:Nat):TM:=⟨RI h.fs.length (fR h k) h.es k,M,λc=>c∈h.es.map (·.1)⟩
structure HS(M Ns:Nat)(h:HE)(k:Nat):Prop where
 rl:uC h.fs.length h.es
 sy:∀e∈h.es,zO (1+h.ws.length) e.2
 kw:k<h.ws.length
 le:∀e∈h.es,e.1.sum<=M
 on:∀e∈h.es,s0 e≠0->e.1.sum<M
 few:h.es.length<=40
 f4:h.fs.length<=4
 f1:1<=h.fs.length
 len:(fR h k).length=h.fs.length
 low:∀f∈fR h k,dN f/\0<=f.1
 one:iP ((fR h k).map rv)=1
 fn:∀f∈fR h k,Fn Ns 1 f
 ns:0<Ns
theorem RY(sh:List Fr):dG sh.length (λf=>eV sh f)=iP (sh.map rv):=by
 have:(List.range sh.length).map (λf=>eV sh f)=sh.map rv:=by
  refine List.ext_getElem? λi=>?_;rw [aI,aI];by_cases hi:i<sh.length
  ·rw [eN hi,aC hi];show some (eV sh i)=some (rv sh[i]);rw [(iO (aC hi)).1]
  ·rw [cV (by rw [cR];omega),cV Oo];rfl
 unfold dG;rw [this]
theorem wO{n:Nat}{fs:List Fr}(h:zO n fs):(∀i,0<=eV fs i)/\∀i j,i≠j->eV fs i+eV fs j<=1:=by
 obtain ⟨b,l,m,s,y,rfl⟩:=h.ex;have w:∀i,eV (b.map λx=>lw x b.sum) i=(b.getD i 0:Rat)/(b.sum:Rat):=λi=>by
  unfold eV;rw [aK,aI,aK];cases b[i]? with
  | none=>show rv (0,1)=((0:Int):Rat)/_;rw [show rv (0,1)=0 from qY];simp [Rat.div_def]
  | some x=>show rv (lw x b.sum)=(x:Rat)/_;exact vV s
 have r:(0:Rat)<(b.sum:Rat):=Rat.intCast_pos.mpr s;have nn:∀i,0<=b.getD i 0:=λi=>by
  rw [aK];cases e:b[i]? with
  | none=>exact Int.le_refl 0
  | some x=>exact m x (aR e)
 have o:∀(b:List Int),(∀x∈b,0<=x)->∀i j,i≠j->b.getD i 0+b.getD j 0<=b.sum:=λb=>by
  induction b with
  | nil=>intro _ i j _;simp
  | cons a b ih =>
   intro m i j c;have d:∀x∈b,0<=x:=λx A=>m x (aG _ A);have B:=m a (aQ ..);have one:∀k,b.getD k 0<=b.sum:=λk=>by
    rw [aK];cases e:b[k]? with
    | none=>exact lX d
    | some x=>exact oP d (aR e)
   rw [List.sum_cons];cases i with
   | zero =>
    cases j with
    | zero=>exact absurd rfl c
    | succ j=>have:=one j;simp only [List.getD_cons_zero,List.getD_cons_succ];omega
   | succ i =>
    cases j with
    | zero=>have:=one i;simp only [List.getD_cons_zero,List.getD_cons_succ];omega
    | succ j=>have:=ih d i j Oo;simp only [List.getD_cons_succ];omega
 have p:∀i,eV (b.map λx=>lw x b.sum) i*(b.sum:Rat)=((b.getD i 0:Int):Rat):=λi=>by
  rw [w i,Rat.div_mul_cancel (Rat.ne_of_gt r)]
 refine ⟨λi=>?_,λi j c=>?_⟩
 ·refine Rat.not_lt.mp λh=>?_;have d:=Rat.mul_lt_mul_of_pos_right h r;have u:(0:Rat)<=((b.getD i 0:Int):Rat):=Rat.intCast_nonneg.mpr (nn i);rw [p i] at d;grind
 ·refine Rat.not_lt.mp λh=>?_;have d:=Rat.mul_lt_mul_of_pos_right h r;have u:=o b m i j c;have z:((b.getD i 0:Int):Rat)+((b.getD j 0:Int):Rat)<=((b.sum:Int):Rat):=by
   rw [<-Rat.intCast_add];exact Rat.intCast_le_intCast.mpr u
  rw [<-p i,<-p j] at z;grind
theorem HS.ok{M Ns:Nat}{h:HE}{k:Nat}(t:HS M Ns h k):tY M (λc=>c∈h.es.map (·.1)) (oO M h k).t:=by
 have d:∀c,c∈h.es.map (·.1)->∃e∈h.es,e.1=c/\wS h.es c=e.2:=λc b=>by
  obtain ⟨e,a,rfl⟩:=aT.mp b;exact ⟨e,a,rfl,CV t.rl.nd a⟩
 refine ⟨λf o=>?_,?_,λc b=>?_,λc b=>?_,λc b=>?_,λc b=>?_,λc b=>?_,λc b m=>?_,?_⟩
 ·have i:f<(fR h k).length:=by rw [t.len];exact o
  show 0<=eV (fR h k) f;rw [(iO (aC i)).1];obtain ⟨l,nn⟩:=t.low _ (List.getElem_mem i);exact SL l nn
 ·show dG h.fs.length (λf=>eV (fR h k) f)=1;rw [<-t.len,RY,t.one]
 ·obtain ⟨e,a,rfl,_⟩:=d c b;exact t.rl.len e a
 ·obtain ⟨e,a,rfl,_⟩:=d c b;exact t.le e a
 ·obtain ⟨e,a,rfl,q⟩:=d c b;show 0<=eV (wS h.es e.1) 0;rw [q];exact (wO (t.sy e a)).1 0
 ·obtain ⟨e,a,rfl,q⟩:=d c b;show 0<=eV (wS h.es e.1) (1+k);rw [q];exact (wO (t.sy e a)).1 _
 ·obtain ⟨e,a,rfl,q⟩:=d c b;show eV (wS h.es e.1) 0+eV (wS h.es e.1) (1+k)<=1;rw [q];exact (wO (t.sy e a)).2 0 (1+k) Oo
 ·obtain ⟨e,a,rfl,q⟩:=d c b;have j:s0 e≠0:=by
   have:eV (wS h.es e.1) 0≠0:=m;rw [q] at this;exact this
  exact ⟨t.on e a j,t.rl.fwd e a j⟩
 ·obtain ⟨e,r,q,n⟩:=t.rl.root;show List.replicate h.fs.length 0∈h.es.map (·.1);rw [<-n,q];simp
def PM(t:TQ)(i:Nat)(c:List Nat)(l:List (SS × Rat)):List (SS × Rat):=l.flatMap λp=>(cZ t p.1 i c).map λp'=>(p'.1,p.2*p'.2)
theorem MX(t:TQ)(i:Nat)(c:List Nat)(g:SS->Rat):∀l:List (SS × Rat),bY (PM t i c l) (λp=>p.2*g p.1)=bY l λp=>p.2*bY (cZ t p.1 i c) λp'=>p'.2*g p'.1
 | []=>rfl
 | p::l=>by
  show bY ((cZ t p.1 i c).map (λp'=>(p'.1,p.2*p'.2))++PM t i c l) _=_;rw [lZ,cJ,MX t i c g l,MW];congr 1;unfold cZ bY;simp only [bF,List.map_nil,iP];grind
theorem VQ(t:TQ)(i:Nat)(c:List Nat)(l:List (SS × Rat))(p:SS × Rat):PM t i c (l++[p])=PM t i c l++(cZ t p.1 i c).map λp'=>(p'.1,p.2*p'.2):=by
 unfold PM;rw [List.flatMap_append];simp
theorem wX(t:TQ)(i:Nat)(c:List Nat):∀l:List (SS × Rat),(PM t i c l).length=3*l.length
 | []=>rfl
 | p::l=>by
  show ((cZ t p.1 i c).map (λp'=>(p'.1,p.2*p'.2))++PM t i c l).length=_;rw [aV,wX t i c l,aB,dB];show 3+_=_;omega
theorem aAf{t:TQ}{i:Nat}{c:List Nat}{l:List (SS × Rat)}{p:SS × Rat}(h:p∈PM t i c l):∃p0∈l,∃p' ∈ cZ t p0.1 i c,p.1=p'.1/\p.2=p0.2*p'.2:=by
 unfold PM at h;obtain ⟨p0,b,d⟩:=List.mem_flatMap.mp h;obtain ⟨p',a,rfl⟩:=aT.mp d;exact ⟨p0,b,p',a,rfl,rfl⟩
structure HX(hs:List HE)(ks Ms Ns:List Nat):Prop where
 lk:ks.length=hs.length
 lM:Ms.length=hs.length
 lN:Ns.length=hs.length
 n3:hs.length<=3
 n1:1<=hs.length
 ts:∀i,i<hs.length->HS (Ms.getD i 0) (Ns.getD i 0) (hs.getD i ⟨[],[],[]⟩) (ks.getD i 0)
def jC(hs:List HE)(ks Ms:List Nat):List TM:=(List.range hs.length).map λi=>oO (Ms.getD i 0) (hs.getD i ⟨[],[],[]⟩) (ks.getD i 0)
theorem jY(hs:List HE)(ks Ms:List Nat):(jC hs ks Ms).length=hs.length:=by unfold jC;rw [aB,cR]
theorem mZ{hs:List HE}{ks Ms:List Nat}{i:Nat}(hi:i<hs.length):(jC hs ks Ms).getD i fJ=oO (Ms.getD i 0) (hs.getD i ⟨[],[],[]⟩) (ks.getD i 0):=by
 unfold jC;rw [aK,aI,eN hi];rfl
theorem HX.ok{hs:List HE}{ks Ms Ns:List Nat}(h:HX hs ks Ms Ns):oJ (jC hs ks Ms):=λi a=>by
 rw [jY] at a;rw [mZ a];exact (h.ts i a).ok
structure QE(H:Hp)(a:Addr)(hs:List HE)(ks:List Nat):Prop where
 ex:∃vs:List V,H a=some (.lst vs)/\vs.length=hs.length/\∀i,i<hs.length->∃b,vs[i]?=some (.ref b)/\tZ H b (ks.getD i 0) (hs.getD i ⟨[],[],[]⟩).es
theorem QE.same{H H':Hp}{a:Addr}{hs:List HE}{ks:List Nat}(h:QE H a hs ks)(s:bA H H'):QE H' a hs ks:=by
 obtain ⟨l,n,c,j⟩:=h.ex;exact ⟨l,s _ _ n,c,λi m=>by obtain ⟨b,d,e⟩:=j i m;exact ⟨b,d,e.same s⟩⟩
abbrev EN(hs:List HE):SS:=(hs.map λh=>List.replicate h.fs.length 0,hs.map λ_=>true,false)
structure LdK(ms:List TM)(Sx:SS->Prop)(D:Nat)(T:(SS->Rat)->Rat)(l:List (SS × Rat)):Prop where
 sum:∀g,bY l (λp=>p.2*g p.1)=T g
 nd:(l.map (·.1)).Nodup
 ok:∀p∈l,Sx p.1/\0<p.2/\p.2<=1/\Qn D 1 p.2
theorem aDD(hs:List HE)(ks Ms:List Nat):zD (jC hs ks Ms) 0 (EN hs):=by
 refine ⟨by rw [jY];exact aB ..,by rw [jY];exact aB ..,λi a=>?_,λi h=>Oo,λi _ a=>?_⟩
 ·rw [jY] at a;rw [mZ a];show (hs.map λh=>List.replicate h.fs.length 0).getD i []=List.replicate (hs.getD i ⟨[],[],[]⟩).fs.length 0;rw [aK,aI,aK,aC a];rfl
 ·rw [jY] at a;show (hs.map λ_=>true).getD i false=true;rw [aK,aI,aC a];rfl
theorem KU{l:List (SS × Rat)}(h:∀p∈l,0<=p.2)(h1:bY l (λp=>p.2)<=1):∀p∈l,p.2<=1:=by
 intro p b;have c:∀l:List (SS × Rat),(∀p∈l,0<=p.2)->p∈l->p.2<=bY l λp=>p.2:=λl=>by
  induction l with
  | nil=>intro _ h;cases h
  | cons a l ih =>
   intro d e;rw [cJ];have i:=d a (aQ ..);rcases bE.mp e with z | z
   ·have:=mU (l:=l) (f:=λp=>p.2) λp b=>d p (aG _ b);rw [z];grind
   ·have:=ih (λp b=>d p (aG _ b)) z;grind
 have:=c l h b;grind
theorem oQ(l:List (SS × Rat)):bY l (λp=>p.2*1)=bY l λp=>p.2:=dE λp _=>by grind
theorem LdK.gath{ms:List TM}{Sx:SS->Prop}{D:Nat}{T:(SS->Rat)->Rat}{L:List (SS × Rat)}(hT:T (λ_=>1)<=1)(d0:0<D)(hL:∀p∈L,0<=p.2/\(∃C,Qn D C p.2)/\(p.2≠0->Sx p.1))(hs:∀g,bY L (λp=>p.2*g p.1)=T g):LdK ms Sx D T (gth L)/\(∀p∈L,0<=p.2/\Qn D 1 p.2)/\bY L (λp=>p.2)<=1:=by
 have nn:∀p∈L,0<=p.2:=λp c=>(hL p c).1;have G:=JH L nn;have e:bY L (λp=>p.2)<=1:=by rw [<-oQ,hs λ_=>1];exact hT
 have m:bY (gth L) (λp=>p.2)<=1:=by rw [<-oQ,G.sum λ_=>1,hs λ_=>1];exact hT
 have d:=KU (λp c=>Rat.le_of_lt (G.pos p c)) m;refine ⟨⟨λg=>by rw [G.sum g,hs g],G.nd,λp c=>?_⟩,λp c=>?_,e⟩
 ·obtain ⟨j,n,i,l⟩:=G.src p c;obtain ⟨C,h⟩:=UP L (λp c=>(hL p c).2.1) p c;exact ⟨by rw [<-i];exact (hL j n).2.2 l,G.pos p c,d p c,Qn.le1 h d0 (Rat.le_of_lt (G.pos p c)) (d p c)⟩
 ·obtain ⟨a,⟨C,b⟩,_⟩:=hL p c;exact ⟨a,Qn.le1 b d0 a (KU nn e p c)⟩
abbrev IU:Stmt:=(top 39)
theorem vJ:cI ["hall","choice","plan","ends","face_shares","stands","left","looks","later","stand","share","test","some_wrong","all_said"] ["hall","choice","plan"] (bB IU):=⟨rfl,rfl,rfl,Kk,rfl,Kk,Kk⟩
abbrev QJ(K:KFr)(H:Hp):List (PyData × Addr × V)->List (SS × Rat)->Prop:=Paired λp x=>p.1=sO x.1/\cE H (sO x.1) (.ref p.2.1)/\nD K H (cW x.2) p.2.2
theorem QJ.t{K:KFr}{H H':Hp}{kvs:List (PyData × Addr × V)}{l:List (SS × Rat)}(s:dL H H')(h:QJ K H kvs l):QJ K H' kvs l:=Paired.mapP h λ_ x z=>⟨z.1,z.2.1.flat s (pP _),z.2.2.t s⟩
theorem UT{K:KFr}{H:Hp}:∀{kvs:List (PyData × Addr × V)}{l:List (SS × Rat)},GP K H (EO kvs) l->(∀p∈kvs,cE H p.1 (.ref p.2.1))->QJ K H kvs l
 | [],l,h,_=>by
  have h:GP K H [] l:=h;cases h;exact .nil
 | p::kvs,l,h,r=>by
  have h:GP K H ((p.1,p.2.2)::EO kvs) l:=h;cases h with
  | cons a t=>exact .cons ⟨a.1,by rw [<-a.1];exact r p (aQ ..),a.2⟩ (UT t λp a=>r p (aG _ a))
theorem aAQ{P:Program}{w:World}{K:KFr}{H:Hp}{a:Addr}{l:List (SS × Rat)}{R:It->Hp->Prop}(h:QI P w K H a l)(r:∀o kvs H',H' a=some (.frz o (rY P w shS a kvs))->QJ K H' kvs l->aU a H H'->dL H H'->R (Itn P w shS a o kvs) H'):rNI P w (.ref a) H R:=by
 obtain ⟨kvs,d,m⟩:=h.ex;refine rni d λo c H' e j n b=>?_;have t:=d.t b;subst n;exact r o c H' e (UT (GP.t t m) λp i=>(j p i).2) b t
def Tf(ms:List TM)(s0:SS):Nat->(SS->Rat)->Rat
 | 0,g=>g s0
 | k+1,g=>Tf ms s0 k λst=>bY (cZ (ms.getD k fJ).t st k (List.replicate (ms.getD k fJ).t.F 0)) λp=>p.2*g p.1
theorem JV(ms:List TM)(s0:SS):∀k,Tf ms s0 k (λ_=>1)=1
 | 0=>rfl
 | k+1=>by
  show Tf ms s0 k (λst=>bY (cZ (ms.getD k fJ).t st k (List.replicate (ms.getD k fJ).t.F 0)) λp=>p.2*1)=1;rw [show (λst=>bY (cZ (ms.getD k fJ).t st k (List.replicate (ms.getD k fJ).t.F 0)) λp=>p.2*1)=λ_=>(1:Rat) from funext λst=>EF];exact JV ms s0 k
theorem WF(ms:List TM)(s0:SS)(g:SS->Rat):∀k,k<=ms.length->Tf ms s0 k (qM ((ms.map (·.t)).drop k) k g)=qM (ms.map (·.t)) 0 g s0
 | 0,_=>rfl
 | k+1,h=>by
  rw [<-WF ms s0 g k Oo,EA (ms:=ms) (k:=k) Oo]
  rfl
theorem aC7(ms:List TM)(s0:SS)(g:SS->Rat):Tf ms s0 ms.length g=qM (ms.map (·.t)) 0 g s0:=by
 have:=WF ms s0 g ms.length (aE _);rw [List.drop_eq_nil_of_le (by rw [aB];exact aE _)] at this;exact this
theorem aDR{k:Nat}(h:k<=3):3^k<=27:=aZ (bD Dd h) Dd
theorem DR(k:Nat):0<LC^k:=Nat.pow_pos Dd
theorem UI{k:Nat}(h:k<=3):LC^k<2^2500:=aY (bD Dd h) Kk
theorem MV{M Ns:Nat}{h:HE}{k:Nat}(t:HS M Ns h k){c:List Nat}(hc:c∈h.es.map (·.1))(st:SS)(i:Nat):∀p∈cZ (oO M h k).t st i c,0<=p.2/\Qn LC 1 p.2:=λp d=>by
 obtain ⟨e,n,rfl⟩:=aT.mp hc;have u:=CV t.rl.nd n;have a:=t.sy e n;obtain ⟨nn,b⟩:=wO a;have kw:=t.kw;have B:e.2.length=1+h.ws.length:=by obtain ⟨D,l,_,_,_,A⟩:=a.ex;rw [A,aB,l]
 have q:∀j,j<1+h.ws.length->Qn LC 1 (eV e.2 j):=λj G=>by
  have x:=aC (l:=e.2) (i:=j) Oo;rw [(iO x).1];exact (a.fn _ (aR x)).1.q
 have o:=q 0 Oo;have w:=q (1+k) Oo;have y:=nn 0;have z:=nn (1+k);have C:=b 0 (1+k) Oo;have pos:0<LC:=Dd;unfold cZ at d;simp only [bE,List.not_mem_nil,or_false] at d;have es:(oO M h k).t.s e.1=eV e.2 0:=by show eV (wS h.es e.1) 0=_;rw [u]
 have m:(oO M h k).t.r e.1=eV e.2 (1+k):=by show eV (wS h.es e.1) (1+k)=_;rw [u]
 rcases d with rfl | rfl | rfl
 ·show 0<=(oO M h k).t.s e.1/\Qn LC 1 ((oO M h k).t.s e.1);rw [es];exact ⟨y,o⟩
 ·show 0<=(oO M h k).t.r e.1/\Qn LC 1 ((oO M h k).t.r e.1);rw [m];exact ⟨z,w⟩
 ·show 0<=1-((oO M h k).t.s e.1+(oO M h k).t.r e.1)/\Qn LC 1 (1-((oO M h k).t.s e.1+(oO M h k).t.r e.1));rw [es,m];exact ⟨by grind,Qn.le1 ((DC LC).sub ((Qn.add o w).le (show 1+1<=2 by decide))) pos (by grind) (by grind)⟩
theorem VP{t:TQ}{i:Nat}{c:List Nat}{l:List (SS × Rat)}{j:Nat}{p:SS × Rat}(h:l[j]?=some p):PM t i c (l.take (j+1))=PM t i c (l.take j)++(cZ t p.1 i c).map λp'=>(p'.1,p.2*p'.2):=by
 rw [eS h,VQ]
@[irreducible] def pX(P:Program)(w:World)(K:KFr):Sp:=λvs H Q _=>∃(x:V) (ea:Addr) (hs:List HE) (ks Ms Ns:List Nat),vs=[x,.ref ea]/\cE H (EQ hs) x/\QE H ea hs ks/\HX hs ks Ms Ns /\
 ∀a l H',bA H H'->H a=none->QI P w K H' a l->LdK (jC hs ks Ms) (zD (jC hs ks Ms) hs.length) (LC^hs.length) (Tf (jC hs ks Ms) (EN hs) hs.length) l->l.length<=27->Q (.ref a) H'
theorem IP{P:Program}{w:World}{K:KFr}{H:Hp}{Q:VK}{E:XK}{x:V}{ea:Addr}{hs:List HE}{ks Ms Ns:List Nat}(h1:cE H (EQ hs) x)(h2:QE H ea hs ks)(h3:HX hs ks Ms Ns)(k:∀a l H',bA H H'->H a=none->QI P w K H' a l->LdK (jC hs ks Ms) (zD (jC hs ks Ms) hs.length) (LC^hs.length) (Tf (jC hs ks Ms) (EN hs) hs.length) l->l.length<=27->Q (.ref a) H'):pX P w K [x,.ref ea] H Q E:=by
 unfold pX;exact ⟨x,ea,hs,ks,Ms,Ns,rfl,h1,h2,h3,k⟩
section
theorem aFd(F:jP K "stands_at_first" "stands_at_first" SI f fd)(T:lC K mg c)(FQ29:fW dY P w K mg base 1 "noughts" ["faces"] kF)(FQ36:fW dY P w K mg base 1 "rule_faces" ["rule"] (hU K))(FQ41:fW dY P w K mg base 3 "stands_come_to" ["stand","share","test","counts","ends"] (nO K))(FQ19:fW dY P w K mg base 3 "gathered" ["found"] (qU P w K)):eT P w K mg base dY 4 f fd ["hall","ends"] (pX P w K):=by
 refine F.oky EH λvs H Q E h=>?_;unfold pX at h;obtain ⟨x,ea,d,r,u,Ns,rfl,rx,en,ok,k⟩:=h;refine ⟨rfl,λcdv A outer s hr=>?_⟩;obtain ⟨ha,xs,rfl,Z,rxs⟩:=eU rx;have lx:xs.length=d.length:=dR rxs;have n3:=ok.n3;have lm:(jC d r u).length=d.length:=jY ..;have hat:∀j (h:HE),d[j]?=some h->j<d.length/\d.getD j ⟨[],[],[]⟩=h:=λj h e=>⟨(aO.mp e).1,by rw [aK,e];rfl⟩;refine ⟨_,(aS (bS (i:=2) EH.nd rfl (Or.inl rfl) (jK dF (by rfl) T.b_tuple Kk (aP (gX (fM.of (psc:=bB SI) (N:=["hall","ends","begun","stands","test","counts","later","stand","share"]) (N':=["test"]) (js:=[]) Kk rfl rfl rfl) (kB (aL 0)) (λ_ _ _ _=>eZ) (λ_ _ _ _=>(bV FQ29 (hr.mono Dd) (aP (bV FQ36 (hr.mono Dd) (aP (bR (fK K) (aL 0) aM (λ_ _=>rfl)) aJ)) aJ)))) aJ)))
  (aS (bS (i:=3) EH.nd rfl (Or.inl rfl) (RA P w shS hr.units (eO (aP (aL 2) (aP (jK dF (by rfl) T.b_tuple Kk (aP (gX (fM.of (psc:=bB SI) (N:=["hall","ends","begun","stands","test","counts","later","stand","share"]) (N':=["test"]) (js:=[]) Kk rfl rfl rfl) (kB (aL 0)) (λ_ _ _ _=>eZ) (λ_ _ _ _=>sK)) aJ)) (aP sK aJ)))) (iB (v:=.ref c.ONE) rfl T.g_ONE rfl)))
  (aS (fB PassesOwn.never rfl (BU true rfl T.b_enumerate (aP (aL 2) aJ)) (kC rfl (dO (cX (i:=4) EH.nd rfl (Or.inl rfl)) (dO (cX (i:=5) EH.nd rfl (Or.inl rfl)) iN))) (aS (bS (i:=6) EH.nd rfl (Or.inl rfl) (fC aJ))
  (aS (fB PassesOwn.never rfl (ER P w (aL 3)) (kC rfl (dO (cX (i:=7) EH.nd rfl (Or.inl rfl)) (dO (cX (i:=8) EH.nd rfl (Or.inl rfl)) iN))) (bJ (jQ (pJ PySem.F.plainAttrs_list PySem.F.slot_list_extend PySem.F.type_list_extend DJ (aL 6) (aP (bV FQ41 (hr.mono Dd) (aP (aL 7) (aP (aL 8) (aP (aL 4) (aP (aL 5) (aP (bR bK (aL 1) (aL 4) (λ_ _=>rfl)) aJ)))))) aJ)))))
  (bJ (bS (i:=3) EH.nd rfl (Or.inl rfl) (bV FQ19 (hr.mono Dd) (aP (aL 6) aJ)))))))
  (bJ (cP (aL 3)))))),?_⟩
 refine ⟨_,rfl,ha,rfl,⟨_,fN.of Z⟩,oC (λj y H'=>∃h,d[j]?=some h/\cE H' (gW (List.replicate h.fs.length 0)) y) (λj y Ha Hb s ⟨h,X,h2⟩=>⟨h,X,h2.flat s (gS _)⟩) Oo Z (λj y H' Q' τ s' k'=>?_) (λL J H1 hL e1 s1 hz hr1=>?_)⟩
 ·obtain ⟨h,ω,rh⟩:=dS rxs τ;obtain ⟨ψ,eh⟩:=hat j h ω;have M:=ok.ts j ψ;rw [eh] at M;obtain ⟨ο,er,Y,h0⟩:=M.rl.root;obtain ⟨ta,tt,tu,rfl,hta,rtt,rtu⟩:=qL (rh.same s');have le0:ο.1.length=h.fs.length:=M.rl.len ο (by rw [Y];exact aQ ..);have f4:=M.f4;refine ⟨_,rfl,iI hta rfl ?_⟩;refine pD (e:=ο) (es:=er) (by rw [<-Y];exact IW rtu) ?_;rw [le0];exact sS Oo λv2 H2 s2 r2=>k' _ H2 s2 ⟨h,ω,r2⟩
 have rzs:bG H1 ((d.map λh=>List.replicate h.fs.length 0).map gW) J:=bG.ofIdx (by rw [hz,lx,aB,aB]) λj y ψ=>by
  obtain ⟨h,X,h2⟩:=hr1 j y ψ;exact ⟨_,by rw [aI,aI,X];rfl,h2⟩
 refine ⟨L,_,rfl,.inl ⟨fY.of e1,λbg hbg=>?_⟩⟩;have sl:=bA.upd (o:=.tup J) hbg;have η:(upd H1 bg (.tup J)) bg=some (.tup J):=bL;generalize upd H1 bg (.tup J)=H2 at sl η ⊢;have S2:=s1.trans sl;refine rndisp λa H3 ha3 g3 κ=>⟨_,rfl,_,rfl,ha,rfl,⟨_,fN.of ((S2.trans κ) _ _ Z)⟩,oC (λj y _=>y=.bl true) (λ_ _ _ _ _ h=>h) Oo ((S2.trans κ) _ _ Z) (λj y H' Q' τ s' k'=>?_) (λL4 bs H4 hL4 e4 s4 hb4 hr4=>?_)⟩
 ·exact k' _ H' (bA.refl _) rfl
 have ebs:bs=(d.map λ_=>true).map V.bl:=by
  refine List.ext_getElem? λj=>?_;rw [aI,aI];by_cases ψ:j<d.length
  ·have X:bs[j]?=some bs[j]:=aC Oo;rw [X,hr4 j _ X,aC ψ];rfl
  ·rw [cV Oo,cV Oo];rfl
 subst ebs;refine ⟨L4,_,rfl,.inl ⟨fY.of e4,λbt hbt=>?_⟩⟩;have sl5:=bA.upd (o:=.tup ((d.map λ_=>true).map V.bl)) hbt;have ebt:(upd H4 bt (.tup ((d.map λ_=>true).map V.bl))) bt=some (.tup ((d.map λ_=>true).map V.bl)):=bL;generalize upd H4 bt (.tup ((d.map λ_=>true).map V.bl))=H5 at sl5 ebt ⊢;refine rK (by show 3<=64;decide) λq6 H6 hq6 e6 s6=>?_;have S36:=(s4.trans sl5).trans s6;have rst:cE H6 (sO (EN d)) (.ref q6):=KY (st:=EN d) e6 (S36 _ _ (κ _ _ η)) (rzs.same ((sl.trans κ).trans S36)) (s6 _ _ ebt);refine rn1 rst ⟨_,rfl⟩ (g3.same S36) λH7 g7 b7=>?_;have aH:H a=none:=S2.free ha3;have S7:bA H H7:=bA.thru aH ((S2.trans κ).trans S36) b7;have t7:dL H6 H7:=(g3.same S36).t b7;have γ:H7 bg=some (.tup J):=t7 _ _ (S36 _ _ (κ _ _ η));have rzs7:=(rzs.same ((sl.trans κ).trans S36)).flat t7 (oB _);have gz:QI P w K H7 a [(EN d,1)]:=⟨_,g7,.cons ⟨rfl,.inr ⟨c.ONE,rfl,by rw [jE];exact T.o_ONE⟩⟩ .nil⟩;have ld0:LdK (jC d r u) (zD (jC d r u) 0) (LC^0) (Tf (jC d r u) (EN d) 0) [(EN d,1)]:=by
  refine ⟨λg=>?_,by simp,λp hp=>?_⟩
  ·show bY [(EN d,(1:Rat))] _=g (EN d);unfold bY;simp only [bF,List.map_nil,iP];grind
  ·rw [cF.mp hp];exact ⟨aDD d r u,by show (0:Rat)<1;decide,by show (1:Rat)<=1;decide,DC _⟩
 refine ⟨_,rfl,bg,_,rfl,γ,GQ (b:=true) (n:=0) (xs:=J) (λi σ H'=>∃(o4 o5 o6 ξ θ:Option V) (a:Addr) (l:List (SS × Rat)),σ=[some (.ref ha),some (.ref ea),some (.ref bg),some (.ref a),o4,o5,o6,ξ,θ]/\bA H H'/\H a=none/\H' bg=some (.tup J)/\bG H' ((d.map λh=>List.replicate h.fs.length 0).map gW) J/\QI P w K H' a l/\LdK (jC d r u) (zD (jC d r u) i) (LC^i) (Tf (jC d r u) (EN d) i) l/\l.length<=3^i) ⟨_,_,_,_,_,a,_,rfl,S7,aH,γ,rzs7,gz,ld0,aE _⟩ (λi σ H' p=>?_) ?_ ?_⟩
 ·obtain ⟨_,_,_,_,_,_,_,_,_,_,h,_⟩:=p;exact h
 ·rintro i y q8 σ H8 H9 τ ⟨o4,o5,o6,ξ,θ,ζ,l,rfl,S8,aN,bg8,δ,g8,φ,ll⟩ hq8 e9 χ;have ρ:i<d.length:=by have:=(aO.mp τ).1;omega
  obtain ⟨h,ω⟩:∃h,d[i]?=some h:=⟨_,aC ρ⟩;have eh:=(hat i h ω).2;have M:=ok.ts i ρ;rw [eh] at M;have mt:(jC d r u).getD i fJ=oO (u.getD i 0) h (r.getD i 0):=by rw [mZ ρ,eh]
  obtain ⟨cz,U,rcz⟩:=dS δ τ;rw [aI,ω] at U;cases U;have lpw:=aDR (k:=i) Oo;refine ⟨q8,_,rfl,fN.of e9,rfl,_,_,rfl,_,_,rfl,rfl,?_⟩;rw [show (0:Int)+((i:Nat):Int)=(i:Int) by omega];refine uU (by show 0<=64;decide) λυ H10 hLt e10 α=>?_;have S10:=(S8.trans χ).trans α;have LtN:H υ=none:=(S8.trans χ).free hLt;refine ⟨_,rfl,?_⟩;refine aAQ (g8.same (χ.trans α)) λo ε H11 e11 fz b11 t11=>?_;have S11:=bA.thru aN S10 b11;have nLa:υ≠ζ:=λz=>by
   obtain ⟨kv,dn,_⟩:=(g8.same χ).ex;obtain ⟨_,e⟩:=dn.there;rw [<-z,hLt] at e;cases e
  have eL11:H11 υ=some (.lst []):=b11.at nLa e10;have ab:=((δ.same (χ.trans α)).flat t11 (oB _));have bg11:=t11 _ _ ((χ.trans α) _ _ bg8);have lkv:ε.length=l.length:=fz.length;refine AZ (λj σ H'=>∃(ξ θ:Option V) (ys:List V),σ=[some (.ref ha),some (.ref ea),some (.ref bg),some (.ref ζ),some (.int (i:Int)),some y,some (.ref υ),ξ,θ]/\bA H H'/\H' bg=some (.tup J)/\bG H' ((d.map λh=>List.replicate h.fs.length 0).map gW) J/\H' ζ=some (.frz o (rY P w shS ζ ε))/\QJ K H' ε l/\H' υ=some (.lst ys)/\bG H' ((PM (oO (u.getD i 0) h (r.getD i 0)).t i (List.replicate h.fs.length 0) (l.take j)).map LO) ys) ⟨_,_,[],rfl,S11,bg11,ab,e11,fz,eL11,bG.nil⟩ (λj σ H' _ p=>?_) ?_ ?_
  ·obtain ⟨_,_,_,_,_,_,_,e,_⟩:=p;exact e
  ·rintro j p q12 σ H12 H13 hp ⟨ξ,θ,ys,rfl,S12,W,C,e12,R,I,O⟩ hq12 e13 m;obtain ⟨x,hx,pk,pr,pv⟩:=jH (QJ.t m.t R) hp;obtain ⟨sbx,x0,x1,xq⟩:=φ.ok x (aR hx);have ψ:j<l.length:=(aO.mp hx).1;have lys:ys.length<=81:=by rw [O.len,aB,wX,cB];omega
   refine ⟨q12,_,rfl,fN.of e13,rfl,_,_,rfl,_,_,rfl,rfl,⟨_,rfl,RF (m _ _ I),?_⟩⟩;obtain ⟨evs,hev,lev,aev⟩:=(en.same (S12.trans m)).ex;obtain ⟨eb,heb,enb⟩:=aev i ρ;rw [eh] at enb;refine ⟨_,rfl,_,rfl,_,rfl,_,rfl,_,rfl,_,rfl,nZ hev (dM heb) ?_⟩;obtain ⟨ο,er,Y,h0⟩:=M.rl.root;have he0:ο∈h.es:=by rw [Y];exact aQ ..
   have rc:=(dS ((C.same m)) τ);obtain ⟨cz,U,rcz⟩:=rc;rw [aI,ω] at U;cases U;have lc:=sbx.lc;have lo:=sbx.lo;refine xN (F:=h.fs.length) (sh:=fR h (r.getD i 0)) (e:=ο) (es:=h.es) (k:=r.getD i 0) (n:=d.length) pr pv.v xq (DR _) (UI Oo) (by rw [h0];exact rcz) enb M.rl.nd he0 (M.sy ο he0) M.kw Oo Oo ρ n3 λL6 y6 H14 hL6 e14 ι B=>?_;have l6:y6.length=3:=by rw [ι.len];rfl
   have β:=(m.trans B) _ _ I;refine aCP β e14 Oo λH15 e15 ν=>?_;have S:=ν.t β;have aa:ζ≠υ:=nLa.symm;refine ⟨_,_,_,rfl,bA.thru LtN (S12.trans (m.trans B)) ν,S _ _ ((m.trans B) _ _ W),(C.same (m.trans B)).flat S (oB _),ν.at aa ((m.trans B) _ _ e12),QJ.t ((m.trans B).t.trans S) R,e15,?_⟩;rw [VP hx,bZ];refine bG.app ((O.same (m.trans B)).flat S (jX _)) ?_;rw [List.map_map];rw [h0] at ι;exact ι.flat S (by have:=jX ((cZ (oO (u.getD i 0) h (r.getD i 0)).t x.1 i (List.replicate h.fs.length 0)).map λp'=>(p'.1,x.2*p'.2));rwa [List.map_map] at this)
  ·rintro σ H12 ⟨ξ,θ,ys,rfl,S12,W,C,e12,R,I,O⟩;rw [lkv,bP] at O;have μ:List.replicate h.fs.length 0∈h.es.map (·.1):=M.ok.root;have G:=LdK.gath (ms:=jC d r u) (Sx:=zD (jC d r u) (i+1)) (D:=LC^(i+1)) (T:=Tf (jC d r u) (EN d) (i+1)) (L:=PM (oO (u.getD i 0) h (r.getD i 0)).t i (List.replicate h.fs.length 0) l) (by rw [JV];exact Rat.le_refl) (DR _) (λp hp=>?_) (λg=>?_)
   ·obtain ⟨G1,G2,G3⟩:=G;refine ⟨_,rfl,?_⟩;refine AD I O G2 G3 (DR _) (UI Oo) (by rw [wX];omega) λa13 H13 m ha13 g13=>⟨_,_,_,_,_,a13,_,rfl,S12.trans m,S12.free ha13,m _ _ W,C.same m,g13,G1,?_⟩;refine aZ (MG _) ?_;rw [wX,Nat.pow_succ];omega
   ·obtain ⟨p0,h0,p',X,h2,h3⟩:=aAf hp;obtain ⟨sb0,z0,z1,zq⟩:=φ.ok p0 h0;obtain ⟨c0,cq⟩:=MV M μ p0.1 i p' X;rw [h3];refine ⟨cT (Rat.le_of_lt z0) c0,⟨1,by have:=zq.mul cq;rwa [Nat.mul_one,<-Nat.pow_succ] at this⟩,λhne=>?_⟩;rw [h2];have:=sb0.come (by rw [lm];exact ρ) (p:=p') (by rw [mt];exact X) (λz=>hne (by rw [z];grind));exact this
   ·rw [MX];show _=Tf (jC d r u) (EN d) i λst=>bY (cZ ((jC d r u).getD i fJ).t st i (List.replicate ((jC d r u).getD i fJ).t.F 0)) λp=>p.2*g p.1;rw [<-φ.sum,mt]
    rfl
 ·rintro σ H8 ⟨o4,o5,o6,ξ,θ,ζ,l,rfl,S8,aN,bg8,δ,g8,φ,ll⟩;refine ⟨_,rfl,?_⟩;rw [show J.length=d.length by omega] at φ ll;exact k ζ l H8 S8 aN g8 φ (aZ ll (aDR n3))
end
theorem JQ{js:List Nat}{te:TE}{σ:St}{H:Hp}{Q:VK}{K:KFr}{b1 b2:Bool}{l1 l2:Addr}{xs ys:List V}(R:Nat->V->Hp->Prop)(hR:∀i y H1 H2,bA H1 H2->R i y H1->R i y H2)(hB:∀i y H1 H2 D zs,H1 D=some (.lst zs)->aU D H1 H2->R i y H1->R i y H2)(hz:xs.length<=100000)(h1:H l1=some (uI b1 xs))(h2:H l2=some (uI b2 ys))(hl:xs.length=ys.length)
  (hs:∀i x y H' (Q':VK),xs[i]?=some x->ys[i]?=some y->bA H H'->(∀z H6,bA H' H6->R i z H6->Q' z H6)->te (some x::some y::slots σ js) H' Q')
  (hd:∀D zs H',H D=none->H' D=some (.lst zs)->bA H H'->zs.length=xs.length->(∀(i:Nat) (z:V),zs[i]?=some z->R i z H')->Q (.ref D) H'):mR K 2 (Itz b1 b2 l1 l2) σ js uF te H Q:=by
 unfold mR;intro D hD;refine ⟨λi m zs H'=>m=xs.length-i/\i<=xs.length/\zs.length=i/\H' D=some (.lst zs)/\bA H H'/\∀(i:Nat) (z:V),zs[i]?=some z->R i z H',⟨xs.length,by simp,cC _,rfl,bL,bA.upd hD,λi z h=>by simp at h⟩,?_⟩;rintro i m zs H2 ⟨rfl,N,l,c,a,u⟩;refine ⟨c,?_⟩;by_cases hlt:i<xs.length
 ·have L:xs[i]?=some xs[i]:=aC Oo;have s:ys[i]?=some (ys[i]'Oo):=aC Oo;refine .inr ⟨⟨xs,ys,_,_,a _ _ h1,a _ _ h2,L,s⟩,aY (m:=100000) Oo Dd,λv H3 y=>?_⟩;obtain ⟨q,x,y,rfl,B,rfl,M⟩:=y;obtain ⟨I,J⟩:=M xs ys (a _ _ h1) (a _ _ h2);have d:=bA.upd (o:=.tup [x,y]) B;have e3:(upd H2 q (.tup [x,y])) q=some (.tup [x,y]):=bL;generalize upd H2 q (.tup [x,y])=H3 at d e3;refine ⟨q,[x,y],rfl,fN.of e3,rfl,λb H4=>b=true/\H4=H3,⟨rfl,rfl⟩,?_⟩;rintro b H4 ⟨rfl,rfl⟩;rw [if_pos rfl];refine ⟨λz H5=>bA H4 H5/\R i z H5,hs i x y H4 _ I J (a.trans d) λz H6 C r=>⟨C,r⟩,?_⟩;rintro z H5 ⟨p,r⟩;have n:=p _ _ (d _ _ c);have A:aU D H5 (upd H5 D (.lst (zs++[z]))):=aU.self;exact ⟨n,xs.length-(i+1),Oo,rfl,hlt,by rw [aV,l];rfl,bL,bA.thru hD ((a.trans d).trans p) aU.self,sW (R:=λj z=>R j z _) (λj w G=>hB j w _ _ D _ n A (hR j w _ _ (d.trans p) (u j w G))) (by rw [l];exact hB i z _ _ D _ n A r)⟩
 ·have e:i=xs.length:=Oo;subst e;exact .inl ⟨⟨xs,ys,a _ _ h1,a _ _ h2,.inl (aE _)⟩,hd D zs H2 hD c a l u⟩
def EY:List HE->List (List (List Nat))
 | []=>[[]]
 | h::hs=>(h.es.map (·.1)).flatMap λc=>(EY hs).map (c :: ·)
def FC:Nat->List (List Bool)
 | 0=>[[]]
 | n+1=>(FC n).map (true :: ·)++(FC n).map (false :: ·)
def uni(hs:List HE):List SS:=(EY hs).flatMap λcs=>(FC hs.length).flatMap λbs=>[(cs,bs,true),(cs,bs,false)]
theorem FB:∀n,(FC n).length=2^n
 | 0=>rfl
 | n+1=>by rw [FC,aV,aB,aB,FB n,Nat.pow_succ];omega
theorem rB{α β:Type}{g:α->List β}{b:Nat}:∀{l:List α},(∀a∈l,(g a).length=b)->(l.flatMap g).length=l.length*b
 | [],_=>by simp
 | a::l,h=>by
  rw [List.flatMap_cons,aV,rB (l:=l) λx hx=>h x (aG _ hx),h a (aQ ..),dB,Nat.add_mul];omega
def prE(hs:List HE):Nat:=(hs.map λh=>h.es.length).foldr (· * ·) 1
theorem EX:∀hs:List HE,(EY hs).length=prE hs
 | []=>rfl
 | h::hs=>by
  rw [EY,rB (b:=(EY hs).length) λc _=>aB ..,aB,EX hs];rfl
theorem XD(hs:List HE):(uni hs).length=prE hs*(2^hs.length*2):=by
 unfold uni;rw [rB (b:=2^hs.length*2) λa _=>?_,EX];rw [rB (b:=2) λbs _=>rfl,FB]
theorem EZ:∀{bs:List Bool}{n:Nat},bs.length=n->bs∈FC n
 | [],n,h=>by subst h;simp [FC]
 | b::bs,n,h=>by
  subst h;have:=EZ (bs:=bs) rfl;rw [show (b::bs).length=bs.length+1 from rfl,FC];cases b
  ·exact bW _ (List.mem_map_of_mem this)
  ·exact cA _ (List.mem_map_of_mem this)
theorem EW:∀{hs:List HE}{cs:List (List Nat)},cs.length=hs.length->(∀i,i<hs.length->cs.getD i []∈(hs.getD i ⟨[],[],[]⟩).es.map (·.1))->cs∈EY hs
 | [],[],_,_=>by simp [EY]
 | [],_::_,h,_=>by cases h
 | _::_,[],h,_=>by cases h
 | h::hs,c::cs,hl,hm=>by
  rw [EY];refine List.mem_flatMap.mpr ⟨c,hm 0 (by simp),List.mem_map_of_mem (EW (by simpa using hl) λi hi=>?_)⟩;have:=hm (i+1) (by simpa using hi);simpa using this
theorem XC{hs:List HE}{ks Ms:List Nat}{st:SS}(h:wF (jC hs ks Ms) st):st∈uni hs:=by
 have a:=jY hs ks Ms;obtain ⟨d,bs,b⟩:=st;refine List.mem_flatMap.mpr ⟨d,EW (by rw [<-a];exact h.lc) λi c=>?_,List.mem_flatMap.mpr ⟨bs,EZ (by rw [<-a];exact h.lo),by cases b <;> simp⟩⟩;have:=h.k i (by rw [a];exact c);rw [mZ c] at this;exact this
theorem AR:∀{l m:List SS},l.Nodup->(∀x∈l,x∈m)->l.length<=m.length
 | [],m,_,_=>cC _
 | a::l,m,nd,h=>by
  rw [List.nodup_cons] at nd;have ha:=h a (aQ ..);have:=AR (m:=m.erase a) nd.2 λx b=>(List.mem_erase_of_ne (show x≠a from λz=>nd.1 (z ▸ b))).mpr (h x (aG _ b));rw [List.length_erase_of_mem ha] at this;have:=List.length_pos_of_mem ha;rw [dB];omega
structure QH(hs:List HE)(ks Ms Ns:List Nat)(N:Nat):Prop where
 hall:HX hs ks Ms Ns
 same:∀i,i<hs.length->Ns.getD i 0=N
 n0:0<N
 dz:LC^3*(N*LC)^10<2^2500
 mM:qG (jC hs ks Ms)<=8
 few:prE hs*(2^hs.length*2)<=4000
def Dj(N j:Nat):Nat:=LC^3*(N*LC)^j
theorem QH.dpos{hs:List HE}{ks Ms Ns:List Nat}{N:Nat}(B:QH hs ks Ms Ns N)(j:Nat):0<Dj N j:=kM (DR 3) (Nat.pow_pos (kM B.n0 Dd))
theorem QH.dlt{hs:List HE}{ks Ms Ns:List Nat}{N:Nat}(B:QH hs ks Ms Ns N){j:Nat}(h:j<=10):Dj N j<2^2500 :=
 aY (eB _ (bD (kM B.n0 Dd) h)) B.dz
theorem NN(N j:Nat):Dj N (j+1)=Dj N j*N*LC:=by unfold Dj;rw [Nat.pow_succ (n:=N*LC),Nat.mul_assoc (LC^3*(N*LC)^j),Nat.mul_assoc (LC^3)]
theorem aDe(N:Nat){j k:Nat}(h:j<=k):∃m,Dj N k=Dj N j*m:=⟨(N*LC)^(k-j),by unfold Dj;rw [Nat.mul_assoc,<-Nat.pow_add];congr 2;omega⟩
theorem SW{D m C:Nat}{x:Rat}(h:Qn D C x):Qn (D*m) C x:=by
 have:=h.mul (DC m)
 rwa [Nat.mul_one,Rat.mul_one] at this
structure LvK(hs:List HE)(ks Ms:List Nat)(N j:Nat)(l:List (SS × Rat)):Prop where
 nd:(l.map (·.1)).Nodup
 ok:∀p∈l,(wF (jC hs ks Ms) p.1/\nH p.1.1=j)/\0<p.2/\p.2<=1/\Qn (Dj N j) 1 p.2
 one:bY l (λp=>p.2)<=1
theorem LvK.len{hs:List HE}{ks Ms Ns:List Nat}{N j:Nat}{l:List (SS × Rat)}(B:QH hs ks Ms Ns N)(h:LvK hs ks Ms N j l):l.length<=4000:=by
 have a:=AR (m:=uni hs) h.nd λx c=>by
  obtain ⟨p,b,rfl⟩:=aT.mp c;exact XC (h.ok p b).1.1
 rw [aB,XD] at a;exact aZ a B.few
theorem LvK.lev{hs:List HE}{ks Ms Ns:List Nat}{N j:Nat}{l:List (SS × Rat)}(B:QH hs ks Ms Ns N)(h:LvK hs ks Ms N j l)(hne:0<l.length):j<=8:=by
 obtain ⟨p,c⟩:∃p,p∈l:=⟨_,List.getElem_mem hne⟩;obtain ⟨⟨a,d⟩,_⟩:=h.ok p c;have H7:=B.hall.ok;have:=(IH (ms:=jC hs ks Ms) a.lc λi b=>(H7 i b).le _ (a.k i b)).1;have:=B.mM;omega
def HP(t:TQ)(i:Nat)(x:SS × Rat):List (SS × Rat):=(List.range t.F).flatMap λf=>(cZ t x.1 i (bN (x.1.1.getD i []) f)).map λp=>(p.1,x.2*t.q f*p.2)
theorem HN(t:TQ)(i:Nat)(x:SS × Rat)(g:SS->Rat):bY (HP t i x) (λp=>p.2*g p.1)=x.2*dG t.F λf=>t.q f*bY (cZ t x.1 i (bN (x.1.1.getD i []) f)) λp=>p.2*g p.1:=by
 have a:∀n,bY ((List.range n).flatMap λf=>(cZ t x.1 i (bN (x.1.1.getD i []) f)).map λp=>(p.1,x.2*t.q f*p.2)) (λp=>p.2*g p.1)=x.2*dG n λf=>t.q f*bY (cZ t x.1 i (bN (x.1.1.getD i []) f)) λp=>p.2*g p.1:=λn=>by
  induction n with
  | zero=>show (0:Rat)=x.2*0;grind
  | succ n ih =>
   rw [rA,lZ,ih];have e:dG (n+1) (λf=>t.q f*bY (cZ t x.1 i (bN (x.1.1.getD i []) f)) λp=>p.2*g p.1)=dG n (λf=>t.q f*bY (cZ t x.1 i (bN (x.1.1.getD i []) f)) λp=>p.2*g p.1)+t.q n*bY (cZ t x.1 i (bN (x.1.1.getD i []) n)) λp=>p.2*g p.1:=dP _ _;rw [e];unfold cZ bY;simp only [bF,List.map_nil,iP];grind
 exact a t.F
theorem WB(t:TQ)(i:Nat)(x:SS × Rat):(HP t i x).length<=t.F*3:=DY (λf=>by simp [cZ]) _
theorem aAt{hs:List HE}{ks Ms Ns:List Nat}{N j i:Nat}{pl:List (List Nat)->Option Int}{x:SS × Rat}(B:QH hs ks Ms Ns N)(so:wF (jC hs ks Ms) x.1)(tc:nH x.1.1=j)(x0:0<=x.2)(xq:Qn (Dj N j) 1 x.2)(e:gU pl x.1=some i):∀p∈HP ((jC hs ks Ms).getD i fJ).t i x,0<=p.2/\(∃C,Qn (Dj N (j+1)) C p.2)/\(p.2≠0->wF (jC hs ks Ms) p.1/\nH p.1.1=j+1):=λp n=>by
 have H7:=B.hall.ok;have y:=jY hs ks Ms;obtain ⟨o,M,J,G⟩:=so.look H7 e;have a:i<hs.length:=by rw [<-y];exact o
 have m:=B.hall.ts i a;rw [B.same i a] at m;have T:=H7 i o;unfold HP at n;obtain ⟨f,c,n⟩:=List.mem_flatMap.mp n;have c:=bT.mp c;obtain ⟨h,b,rfl⟩:=aT.mp n;obtain ⟨u,D⟩:=G f c;have q0:=T.q0 f c;have l:=u;have d:=b;rw [mZ a] at l d;obtain ⟨L,A⟩:=MV m l x.1 i h d;have I:Qn N 1 (((jC hs ks Ms).getD i fJ).t.q f):=by
  rw [mZ a];show Qn N 1 (eV (fR (hs.getD i ⟨[],[],[]⟩) (ks.getD i 0)) f);have r:f<(fR (hs.getD i ⟨[],[],[]⟩) (ks.getD i 0)).length:=by
   rw [m.len];rw [mZ a] at c;exact c
  have w:=aC r;rw [(iO w).1];exact (m.fn _ (aR w)).q
 refine ⟨cT (cT x0 q0) L,⟨1,?_⟩,λs=>?_⟩
 ·rw [NN];have:=(xq.mul I).mul A
  rwa [Nat.mul_one,Nat.mul_one] at this
 ·refine ⟨so.come o u h b (λz=>s (by show _*h.2=0;rw [z];grind)) (.inr trivial),?_⟩;show nH h.1.1=j+1;rw [EE h b,D,tc]
def vsum(a:SS->Rat)(b:Rat)(Lf:List (SS × Rat))(Lk:List Rat):Rat:=bY Lf (λp=>p.2*a p.1)+b*bY Lk λq=>q
theorem NV{a:SS->Rat}{b:Rat}{Lf:List (SS × Rat)}{Lk:List Rat}{x:SS × Rat}:vsum a b (Lf++[x]) Lk=vsum a b Lf Lk+x.2*a x.1:=by unfold vsum;rw [jL];grind
theorem NU{a:SS->Rat}{b:Rat}{Lf:List (SS × Rat)}{Lk:List Rat}{x:Rat}:vsum a b Lf (Lk++[x])=vsum a b Lf Lk+b*x:=by unfold vsum;rw [jL];grind
theorem KO{α:Type}{l:List α}{f:α->Rat}{D:Nat}(h:∀a∈l,Qn D 1 (f a))(d0:0<D)(d1:D<2^2500)(hl:l.length<=100000):NI (l.map λa=>cW (f a))/\pM (l.map λa=>cW (f a))=cW (bY l f):=by
 have d:∀m:List α,pM (m.map λa=>cW (f a))=cW (bY m f):=λm=>CF λa _=>⟨bO _,dI _⟩;refine ⟨⟨λg b=>?_,λg b=>?_,λi=>?_⟩,d l⟩
 ·obtain ⟨a,_,rfl⟩:=aT.mp b;exact bO _
 ·obtain ⟨a,c,rfl⟩:=aT.mp b;exact gM (h a c) d0 d1 Kk
 ·rw [<-List.map_take,d];refine ⟨bO _,gM (Qn.sumL λa c=>h a (List.mem_of_mem_take c)) d0 d1 ?_⟩;rw [cB,Nat.mul_one];exact aZ (aZ (Nat.min_le_right _ _) hl) Kk
def PrW(K:KFr)(H:Hp)(p:SS × Rat)(v:V):Prop:=∃b sa qv,v=.ref b/\H b=some (.tup [.ref sa,qv])/\cE H (sO p.1) (.ref sa)/\nD K H (cW p.2) qv
theorem PrW.t{K:KFr}{H H':Hp}{p:SS × Rat}{v:V}(s:dL H H')(h:PrW K H p v):PrW K H' p v:=by
 obtain ⟨b,c,i,e,j,a,d⟩:=h;exact ⟨b,c,i,e,s _ _ j,a.flat s (pP _),d.t s⟩
structure aAB(H:Hp)(a:Addr)(hs:List HE)(ks:List Nat):Prop where
 ex:∃vs:List V,H a=some (.lst vs)/\vs.length=hs.length/\∀i,i<hs.length->∃v,vs[i]?=some v/\cE H (vU (fR (hs.getD i ⟨[],[],[]⟩) (ks.getD i 0))) v
theorem aAB.same{H H':Hp}{a:Addr}{hs:List HE}{ks:List Nat}(h:aAB H a hs ks)(s:bA H H'):aAB H' a hs ks:=by
 obtain ⟨j,m,b,e⟩:=h.ex;exact ⟨j,s _ _ m,b,λi l=>by obtain ⟨v,c,d⟩:=e i l;exact ⟨v,c,d.same s⟩⟩
def cQ(hs:List HE)(ks Ms:List Nat)(pl:List (List Nat)->Option Int)(a:SS->Rat)(b:Rat):Rat:=qM ((jC hs ks Ms).map (·.t)) 0 (pK ((jC hs ks Ms).map (·.t)) pl a b 9) (EN hs)
@[irreducible] def xQ(P:Program)(w:World)(K:KFr):Sp:=λvs H Q _=>∃(x:V) (ca pa:Addr) (hs:List HE) (ks Ms Ns:List Nat) (N:Nat) (pl:List (List Nat)->Option Int),vs=[x,.ref ca,.ref pa]/\cE H (EQ hs) x/\H ca=some (.tup (ks.map lE))/\HU P w H pa pl/\QH hs ks Ms Ns N /\
 ∀v H',bA H H'->cE H' (.tuple [fO (cW (cQ hs ks Ms pl aW 0)),fO (cW (cQ hs ks Ms pl aA 0)),fO (cW (cQ hs ks Ms pl (λ_=>0) 1))]) v->Qn (Dj N 9) 100000 (cQ hs ks Ms pl aW 0)->Qn (Dj N 9) 100000 (cQ hs ks Ms pl aA 0)->Qn (Dj N 9) 100000 (cQ hs ks Ms pl (λ_=>0) 1)->Q v H'
theorem SA{P:Program}{w:World}{K:KFr}{H:Hp}{Q:VK}{E:XK}{x:V}{ca pa:Addr}{hs:List HE}{ks Ms Ns:List Nat}{N:Nat}{pl:List (List Nat)->Option Int}(h1:cE H (EQ hs) x)(h2:H ca=some (.tup (ks.map lE)))(h3:HU P w H pa pl)(h4:QH hs ks Ms Ns N)
  (k:∀v H',bA H H'->cE H' (.tuple [fO (cW (cQ hs ks Ms pl aW 0)),fO (cW (cQ hs ks Ms pl aA 0)),fO (cW (cQ hs ks Ms pl (λ_=>0) 1))]) v->Qn (Dj N 9) 100000 (cQ hs ks Ms pl aW 0)->Qn (Dj N 9) 100000 (cQ hs ks Ms pl aA 0)->Qn (Dj N 9) 100000 (cQ hs ks Ms pl (λ_=>0) 1)->Q v H'):xQ P w K [x,.ref ca,.ref pa] H Q E:=by
 unfold xQ;exact ⟨x,ca,pa,hs,ks,Ms,Ns,N,pl,rfl,h1,h2,h3,h4,k⟩
theorem zV:∀{cs:List (List Nat)},(∀i,i<cs.length->∃n,cs.getD i []=List.replicate n 0)->nH cs=0
 | [],_=>rfl
 | c::cs,h=>by
  obtain ⟨n,hn⟩:=h 0 (by simp);have:=zV (cs:=cs) λi a=>by simpa using h (i+1) (by simpa using a)
  show c.sum+nH cs=0;rw [this,show c=List.replicate n 0 from hn];simp
theorem lv0{hs:List HE}{ks Ms Ns:List Nat}{N:Nat}{l:List (SS × Rat)}(B:QH hs ks Ms Ns N)(h:LdK (jC hs ks Ms) (zD (jC hs ks Ms) hs.length) (LC^hs.length) (Tf (jC hs ks Ms) (EN hs) hs.length) l):LvK hs ks Ms N 0 l:=by
 have j:=jY hs ks Ms;have n3:=B.hall.n3;refine ⟨h.nd,λp b=>?_,?_⟩
 ·obtain ⟨a,e,d,pq⟩:=h.ok p b;rw [<-j] at a;refine ⟨⟨a.ok B.hall.ok,zV λi n=>⟨_,a.c i (by rw [<-a.lc];exact n)⟩⟩,e,d,?_⟩;have:=SW (m:=LC^(3-hs.length)) pq;rw [<-Nat.pow_add,show hs.length+(3-hs.length)=3 by omega] at this;show Qn (LC^3*(N*LC)^0) 1 p.2;rw [Nat.pow_zero,Nat.mul_one];exact this
 ·rw [<-oQ,h.sum λ_=>1,JV];exact Rat.le_refl
theorem KP{l:List (SS × Rat)}{j:Nat}{x:SS × Rat}(h:l[j]?=some x):bY (l.take (j+1)) (λp=>p.2)=bY (l.take j) (λp=>p.2)+x.2:=by rw [eS h,jL]
theorem MN{l:List (SS × Rat)}{j:Nat}{x:SS × Rat}(h:l[j]?=some x)(f:SS × Rat->Rat):bY (l.drop j) f=f x+bY (l.drop (j+1)) f:=by
 obtain ⟨a,e⟩:=aO.mp h;rw [List.drop_eq_getElem_cons a,cJ,e]
theorem zY:∀l:List (SS × Rat),bY l (λp=>p.2*(0:Rat))=0
 | []=>rfl
 | p::l=>by rw [cJ,zY l];grind
theorem ZY(bs:List Bool):(bs.map V.bl).all qN=true:=List.all_eq_true.mpr λx a=>by
 obtain ⟨i,_,rfl⟩:=aT.mp a
 rfl
theorem UQ(bs:List Bool):(if true=true then !UL (V.bl true) (bs.map V.bl) else UL (V.bl true) (bs.map V.bl))=decide (dJ bs=[]):=by
 rw [if_pos rfl,Bool.eq_iff_iff,decide_eq_true_iff,Bool.not_eq_true',<-Bool.not_eq_true];unfold UL;rw [List.any_eq_true];constructor
 ·intro h;refine List.filter_eq_nil_iff.mpr λi a=>?_;have a:=bT.mp a;intro e;refine h ⟨V.bl true,?_,rfl⟩;rw [aK,aC a] at e;have:bs[i]=true:=by simpa using e
  exact aT.mpr ⟨bs[i],List.getElem_mem a,by rw [this]⟩
 ·rintro h ⟨x,l,e⟩;obtain ⟨b,d,rfl⟩:=aT.mp l;have c:b=true:=by cases b;cases e;rfl
  subst c;obtain ⟨i,a,j⟩:=List.getElem_of_mem d;have:=List.filter_eq_nil_iff.mp h i (bT.mpr a);refine this ?_;rw [aK,aC a,j];rfl
section
inductive LI1 (P:Program)(w:World)(K:KFr)(d:List HE)(ks Ms:List Nat)(N:Nat)(pl:List (List Nat)->Option Int)(H2:Hp)(ha ca pa ea fa ν lo:Addr):Nat->St->Hp->Prop
|mk{m:Nat}{σ:St}{H':Hp}(o8 o9 X Z:Option V) (j:Nat) (a:Addr) (l I:List (SS × Rat)) (O:List Rat) (β ε:List V)(_:m=20-j)(_:j<=9)(_:σ=[some (.ref ha),some (.ref ca),some (.ref pa),some (.ref ea),some (.ref fa),some (.ref a),some (.ref ν),some (.ref lo),o8,o9,X,Z,none,none])(_:bA H2 H')(_:H2 a=none)(_:QI P w K H' a l)(_:LvK d ks Ms N j l)(_:H' ν=some (.lst β))(_:Paired (PrW K H') I β)(_:H' lo=some (.lst ε))(_:Paired (λq v=>nD K H' (cW q) v) O ε)(_:(∀p∈I,Qn (Dj N 9) 1 p.2))(_:(∀q∈O,Qn (Dj N 9) 1 q))(_:I.length<=4000*j)(_:O.length<=4000*j)(_:∀u b,vsum u b I O+bY l (λp=>p.2*pK ((jC d ks Ms).map (·.t)) pl u b (9-j) p.1)=cQ d ks Ms pl u b):LI1 P w K d ks Ms N pl H2 ha ca pa ea fa ν lo m σ H'
inductive LI2 (P:Program)(w:World)(K:KFr)(d:List HE)(ks Ms:List Nat)(N:Nat)(pl:List (List Nat)->Option Int)(H2:Hp)(ha ca pa ea fa ν lo:Addr):St->Hp->Prop
|mk{σ:St}{H':Hp}(o5 o8 o9 X Z:Option V) (I:List (SS × Rat)) (O:List Rat) (β ε:List V)(_:σ=[some (.ref ha),some (.ref ca),some (.ref pa),some (.ref ea),some (.ref fa),o5,some (.ref ν),some (.ref lo),o8,o9,X,Z,none,none])(_:bA H2 H')(_:H' ν=some (.lst β))(_:Paired (PrW K H') I β)(_:H' lo=some (.lst ε))(_:Paired (λq v=>nD K H' (cW q) v) O ε)(_:(∀p∈I,Qn (Dj N 9) 1 p.2))(_:(∀q∈O,Qn (Dj N 9) 1 q))(_:I.length<=36000)(_:O.length<=36000)(_:∀u b,vsum u b I O=cQ d ks Ms pl u b):LI2 P w K d ks Ms N pl H2 ha ca pa ea fa ν lo σ H'
inductive LI3 (P:Program)(w:World)(K:KFr)(d:List HE)(ks Ms:List Nat)(N:Nat)(pl:List (List Nat)->Option Int)(H2:Hp)(ha ca pa ea fa ν lo Lt a:Addr)(j:Nat)(o:Obj)(kvs:List (PyData × Addr × V))(l:List (SS × Rat)):Nat->St->Hp->Prop
|mk{i:Nat}{σ:St}{H':Hp}(o9 X Z:Option V) (I L:List (SS × Rat)) (O:List Rat) (β ε ys:List V)(_:σ=[some (.ref ha),some (.ref ca),some (.ref pa),some (.ref ea),some (.ref fa),some (.ref a),some (.ref ν),some (.ref lo),some (.ref Lt),o9,X,Z,none,none])(_:bA H2 H')(_:H' a=some (.frz o (rY P w shS a kvs)))(_:QJ K H' kvs l)(_:H' ν=some (.lst β))(_:Paired (PrW K H') I β)(_:H' lo=some (.lst ε))(_:Paired (λq v=>nD K H' (cW q) v) O ε)(_:H' Lt=some (.lst ys))(_:bG H' (L.map LO) ys)(_:(∀p∈I,Qn (Dj N 9) 1 p.2))(_:(∀q∈O,Qn (Dj N 9) 1 q))(_:I.length<=4000*j+i)(_:O.length<=4000*j+i)(_:L.length<=12*i)(_:(∀p∈L,0<=p.2/\(∃C,Qn (Dj N (j+1)) C p.2)/\(p.2≠0->wF (jC d ks Ms) p.1/\nH p.1.1=j+1)))(_:bY L (λp=>p.2)<=bY (l.take i) (λp=>p.2))(_:∀u b,vsum u b I O+bY L (λp=>p.2*pK ((jC d ks Ms).map (·.t)) pl u b (8-j) p.1)+bY (l.drop i) (λp=>p.2*pK ((jC d ks Ms).map (·.t)) pl u b (9-j) p.1)=cQ d ks Ms pl u b):LI3 P w K d ks Ms N pl H2 ha ca pa ea fa ν lo Lt a j o kvs l i σ H'
theorem aFr(F:jP K "led" "led" IU f fd)(T:lC K mg c)(FQ18:fW dY P w K mg base 4 "ends_of" ["rule","way"] (sU K))(FQ45:fW dY P w K mg base 1 "way_shares" ["trial","way"] uJ)(FQ39:fW dY P w K mg base 4 "stands_at_first" ["hall","ends"] (pX P w K))(FQ27:fW dY P w K mg base 1 "looked_at" ["plan","stand"] (nS P w))(FQ40:fW dY P w K mg base 4 "stands_behind_look" ["stand","share","test","face_shares","ends"] (mB K))(FQ19:fW dY P w K mg base 3 "gathered" ["found"] (qU P w K))(FQ44:fW dY P w K mg base 3 "total" ["some"] (kR K)):eT P w K mg base dY 5 f fd ["hall","choice","plan"] (xQ P w K):=by
 refine F.oky vJ λvs H Q E h=>?_;unfold xQ at h;obtain ⟨x,ca,pa,d,ks,Ms,Ns,N,pl,rfl,rx,hca,hpl,B,k⟩:=h;refine ⟨rfl,λcdv A outer s hr=>?_⟩;have rx0:=rx;obtain ⟨ha,xs,rfl,hha,rxs⟩:=eU rx;have lx:xs.length=d.length:=dR rxs;have n3:=B.hall.n3;have lk:=B.hall.lk;have lm:(jC d ks Ms).length=d.length:=jY ..;have hat:∀j (h:HE),d[j]?=some h->j<d.length/\d.getD j ⟨[],[],[]⟩=h:=λj h e=>⟨(aO.mp e).1,by rw [aK,e];rfl⟩;have kat:∀j v,(ks.map lE)[j]?=some v->v=V.int ((ks.getD j 0:Nat):Int):=λj v e=>by
  rw [aI] at e;obtain ⟨n,hn,rfl⟩:=eJ.mp e;rw [aK,hn];rfl
 refine ⟨_,(aS (oN (i:=3) (eF.of (psc:=bB IU) (N:=["hall","choice","plan","ends","face_shares","stands","left","looks","later","stand","share","test","some_wrong","all_said"]) (xs:=["test","way"]) (N':=["test","way"]) (js:=[]) Kk rfl rfl rfl) vJ.nd rfl rfl (sA true true rfl T.b_zip (aP (aL 0) (aP (aL 1) aJ))) (λ_ _ _ _=>eZ) (λ_ _ _ _=>(bV FQ18 (hr.mono Dd) (aP (bR (fK K) (aL 0) aM (λ_ _=>rfl)) (aP (aL 1) aJ)))))
  (aS (oN (i:=4) (eF.of (psc:=bB IU) (N:=["hall","choice","plan","ends","face_shares","stands","left","looks","later","stand","share","test","some_wrong","all_said"]) (xs:=["test","way"]) (N':=["test","way"]) (js:=[]) Kk rfl rfl rfl) vJ.nd rfl rfl (sA true true rfl T.b_zip (aP (aL 0) (aP (aL 1) aJ))) (λ_ _ _ _=>eZ) (λ_ _ _ _=>(bV FQ45 (hr.mono Dd) (aP (bR (fK K) (aL 0) aM (λ_ _=>rfl)) (aP (aL 1) aJ)))))
  (aS (bS (i:=5) vJ.nd rfl (Or.inl rfl) (bV FQ39 (hr.mono Dd) (aP (aL 0) (aP (aL 3) aJ))))
  (aS (bS (i:=6) vJ.nd rfl (Or.inl rfl) (fC aJ))
  (aS (bS (i:=7) vJ.nd rfl (Or.inl rfl) (fC aJ))
  (aS (sG PassesOwn.never (gJ AN (gK (aAi P w) (by rfl) T.b_len Kk (aP (aL 5) aJ)) aM (nomark _)) (aS (bS (i:=8) vJ.nd rfl (Or.inl rfl) (fC aJ))
  (aS (fB PassesOwn.never rfl (ER P w (aL 5)) (kC rfl (dO (cX (i:=9) vJ.nd rfl (Or.inl rfl)) (dO (cX (i:=10) vJ.nd rfl (Or.inl rfl)) iN))) (aS (bS (i:=11) vJ.nd rfl (Or.inl rfl) (bV FQ27 (hr.mono Dd) (aP (aL 2) (aP (aL 9) aJ))))
  (bJ (lV (gJ aCm (aL 11) QX (nomark _)) (bJ (jQ (pJ PySem.F.plainAttrs_list PySem.F.slot_list_append PySem.F.type_list_append sC (aL 6) (aP (eO (aP (aL 9) (aP (aL 10) aJ))) aJ)))) (aS (jQ (pJ PySem.F.plainAttrs_list PySem.F.slot_list_append PySem.F.type_list_append sC (aL 7) (aP (aL 10) aJ)))
  (bJ (jQ (pJ PySem.F.plainAttrs_list PySem.F.slot_list_extend PySem.F.type_list_extend DJ (aL 8) (aP (bV FQ40 (hr.mono Dd) (aP (aL 9) (aP (aL 10) (aP (aL 11) (aP (bR bK (aL 4) (aL 11) (λ_ _=>rfl)) (aP (bR bK (aL 3) (aL 11) (λ_ _=>rfl)) aJ)))))) aJ)))))))))
  (bJ (bS (i:=5) vJ.nd rfl (Or.inl rfl) (bV FQ19 (hr.mono Dd) (aP (aL 8) aJ)))))))
  (aS (bS (i:=12) vJ.nd rfl (Or.inl rfl) (bV FQ44 (hr.mono Dd) (aP (jJ (eF.of (psc:=bB IU) (N:=["hall","choice","plan","ends","face_shares","stands","left","looks","later","stand","share","test","some_wrong","all_said"]) (xs:=["stand","share"]) (N':=["stand","share"]) (js:=[]) Kk rfl rfl rfl) (fX (aL 6)) (λ_ _ _ _=>sF (mX (bR (fK K) (aL 0) aM (λ_ _=>rfl)))) (λ_ _ _ _=>(aL 1))) aJ)))
  (aS (bS (i:=13) vJ.nd rfl (Or.inl rfl) (bV FQ44 (hr.mono Dd) (aP (jJ (eF.of (psc:=bB IU) (N:=["hall","choice","plan","ends","face_shares","stands","left","looks","later","stand","share","test","some_wrong","all_said"]) (xs:=["stand","share"]) (N':=["stand","share"]) (js:=[]) Kk rfl rfl rfl) (fX (aL 6)) (λ_ _ _ _=>sF (gJ (OR (K:=K)) sK (bR (fK K) (aL 0) aM (λ_ _=>rfl)) (by with_unfolding_all rfl))) (λ_ _ _ _=>(aL 1))) aJ)))
  (bJ (cP (eO (aP (aL 12) (aP (aL 13) (aP (bV FQ44 (hr.mono Dd) (aP (aL 7) aJ)) aJ)))))))))))))),?_⟩
 refine ⟨_,rfl,_,rfl,⟨ha,ca,xs,ks.map lE,rfl,hha,hca,JQ (b1:=true) (b2:=true) (xs:=xs) (ys:=ks.map lE) (λj y H'=>∃a,y=.ref a/\tZ H' a (ks.getD j 0) (d.getD j ⟨[],[],[]⟩).es) (λj y H1 H2 s ⟨a,ω,h2⟩=>⟨a,ω,h2.same s⟩) (λj y H1 H2 D zs hD b ⟨a,ω,h2⟩=>⟨a,ω,h2.keep (b.t hD) λkvs e=>b.at (λz=>by rw [z,hD] at e;cases e) e⟩) Oo hha hca (by rw [aB];omega) (λj v1 v2 H' Q' hv1 hv2 s' k'=>?_) (λea evs H1 hea e1 s1 hz1 hr1=>?_)⟩⟩
 ·obtain ⟨h,hh,rh⟩:=dS rxs hv1;obtain ⟨hj,eh⟩:=hat j h hh;have ζ:=B.hall.ts j hj;rw [eh] at ζ;have:=kat j v2 hv2;subst this;obtain ⟨ta,tt,tu,rfl,hta,rtt,rtu⟩:=qL (rh.same s');have few:=ζ.few;refine ⟨_,rfl,iI hta rfl ?_⟩;refine ⟨_,rfl,?_⟩;exact OD rtu ζ.rl ζ.sy ζ.kw Oo λa2 H2 s2 ha2 en2=>k' _ H2 s2 ⟨a2,rfl,by rw [eh];exact en2⟩
 have es1:QE H1 ea d ks:=⟨evs,e1,Oo,λi hi=>by
  have ξ:evs[i]?=some (evs[i]'Oo):=aC Oo;obtain ⟨a,ω,h2⟩:=hr1 i _ ξ;exact ⟨a,by rw [ξ,ω],h2⟩⟩
 refine ⟨_,rfl,_,rfl,⟨ha,ca,xs,ks.map lE,rfl,s1 _ _ hha,s1 _ _ hca,rF (b1:=true) (b2:=true) (xs:=xs) (ys:=ks.map lE) (λj y H'=>cE H' (vU (fR (d.getD j ⟨[],[],[]⟩) (ks.getD j 0))) y) (λj y H1 H2 s h=>h.flat s (mJ _)) Oo (s1 _ _ hha) (s1 _ _ hca) (by rw [aB];omega) (λj v1 v2 H' Q' hv1 hv2 s' k'=>?_) (λfa fvs H2 hfa e2 s2 hz2 hr2=>?_)⟩⟩
 ·obtain ⟨h,hh,rh⟩:=dS rxs hv1;obtain ⟨hj,eh⟩:=hat j h hh;have ζ:=B.hall.ts j hj;rw [eh] at ζ;have:=kat j v2 hv2;subst this;obtain ⟨ta,tt,tu,rfl,hta,rtt,rtu⟩:=qL (rh.same (s1.trans s'));obtain ⟨wx,hwx⟩:∃wx,h.ws[ks.getD j 0]?=some wx:=⟨_,aC ζ.kw⟩;refine ⟨_,rfl,iI hta rfl ?_⟩;refine ⟨_,rfl,?_⟩;refine FH rtt hwx λx3 rx3=>k' _ H' (bA.refl _) ?_;rw [eh];unfold fR;rw [hwx];exact rx3
 have fs2:aAB H2 fa d ks:=⟨fvs,e2,Oo,λi hi=>by
  have ξ:fvs[i]?=some (fvs[i]'Oo):=aC Oo;exact ⟨_,ξ,hr2 i _ ξ⟩⟩
 have es2:=es1.same s2;have S2:=s1.trans s2;have hpl2:=hpl.same S2;refine ⟨_,rfl,_,rfl,?_⟩;refine IP (rx0.same S2) es2 B.hall λa3 l3 H3 s3 ha3 g3 ld3 ll3=>uU (by show 0<=64;decide) λν H4 hlf e4 s4=>uU (by show 0<=64;decide) λlo H5 hlo e5 s5=>?_;have nfo:ν≠lo:=λz=>by rw [z] at e4;rw [e4] at hlo;cases hlo
 have lfN:H2 ν=none:=s3.free hlf;have loN:H2 lo=none:=(s3.trans s4).free hlo;have V0:∀u b,vsum u b [] []+bY l3 (λp=>p.2*pK ((jC d ks Ms).map (·.t)) pl u b (9-0) p.1)=cQ d ks Ms pl u b:=λu b=>by
  rw [ld3.sum,<-lm,aC7];show (0:Rat)+b*0+_=_;unfold cQ;grind
 refine wN (LI1 P w K d ks Ms N pl H2 ha ca pa ea fa ν lo)
  (LI2 P w K d ks Ms N pl H2 ha ca pa ea fa ν lo) 20
  ⟨_,_,_,_,0,a3,l3,[],[],[],[],rfl,Dd,rfl,(s3.trans s4).trans s5,ha3,g3.same (s4.trans s5),lv0 B ld3,s5 _ _ e4,.nil,e5,.nil,λp M=>absurd M List.not_mem_nil,λp M=>absurd M List.not_mem_nil,cC _,cC _,V0⟩ ?_ ?_
 ·rintro m σ H6 ⟨o8,o9,X,Z,j,a,l,I,O,β,ε,rfl,j9,rfl,S6,aN,g6,lv,ef,pf,eo,po,qf,qo,lenf,leno,V6⟩;have ll:=lv.len B;obtain ⟨kv6,dn6,gp6⟩:=g6.ex;have lkv6:kv6.length=l.length:=Paired.length gp6;refine ⟨_,rfl,rnlen dn6 ?_⟩;refine ⟨_,_,rfl,rfl,⟨_,rfl,?_⟩⟩;rw [lkv6];by_cases hl0:l.length=0
  ·rw [show decide ((0:Int)<(l.length:Int))=false from bU Oo];have l0:=List.length_eq_zero_iff.mp hl0;subst l0;refine sD ?_;exact ⟨_,_,_,_,_,I,O,β,ε,rfl,S6,ef,pf,eo,po,qf,qo,Oo,Oo,λu b=>by
    have:=V6 u b;rw [<-this];show _=_+(0:Rat);grind⟩
  ·rw [show decide ((0:Int)<(l.length:Int))=true from cG Oo];have j8:j<=8:=lv.lev B Oo;refine yL (uU (by show 0<=64;decide) λLt H7 ρ e7 s7=>?_);have LtN:H2 Lt=none:=S6.free ρ;have S7:=S6.trans s7;refine ⟨_,rfl,?_⟩;refine aAQ (g6.same s7) λo kvs H8 e8 fz b8 t8=>?_;have S8:=bA.thru aN S7 b8;have lkv:kvs.length=l.length:=fz.length;have naf:ν≠a:=dn6.neL ef;have nao:lo≠a:=dn6.neL eo;have naL:Lt≠a:=(dn6.same s7).neL e7;have nfL:ν≠Lt:=λz=>by rw [z] at ef;rw [ef] at ρ;cases ρ
   have noL:lo≠Lt:=λz=>by rw [z] at eo;rw [eo] at ρ;cases ρ
   have t68:=s7.t.trans t8;have af:∀(x:SS × Rat) u b,pK ((jC d ks Ms).map (·.t)) pl u b (9-j) x.1=pK ((jC d ks Ms).map (·.t)) pl u b (8-j+1) x.1:=λx u b=>by rw [show 9-j=8-j+1 by omega]
   refine AZ (LI3 P w K d ks Ms N pl H2 ha ca pa ea fa ν lo Lt a j o kvs l)
    ⟨_,_,_,I,[],O,β,ε,[],rfl,S8,e8,fz,b8.at naf (s7 _ _ ef),Paired.mapP pf λ_ _ h=>h.t t68,b8.at nao (s7 _ _ eo),Paired.mapP po λ_ _ h=>h.t t68,b8.at naL e7,bG.nil,qf,qo,lenf,leno,cC _,λp M=>absurd M List.not_mem_nil,Rat.le_refl,λu b=>by
     rw [<-V6 u b];show _+(0:Rat)+_=_;rw [List.drop_zero];grind⟩ (λi σ H' _ p=>?_) ?_ ?_
   ·obtain ⟨_,_,_,_,_,_,_,_,_,_,_,e,_⟩:=p;exact e
   ·rintro i p q9 σ H9 H10 M ⟨o9,X,Z,I,L,O,β,ε,ys,rfl,S9,e9,fz9,μ,ψ,κ,ag,eL9,aa,qf9,qo9,lf9,lo9,lL9,okL,mL,V9⟩ hq9 e10 R;obtain ⟨x,ξ,pk,pr,pv⟩:=jH (QJ.t R.t fz9) M;obtain ⟨⟨so,tc⟩,x0,x1,xq⟩:=lv.ok x (aR ξ);have hi:i<l.length:=(aO.mp ξ).1;have S10:=S9.trans R;have xq9:Qn (Dj N 9) 1 x.2:=by
     obtain ⟨m,hm⟩:=aDe N (show j<=9 by omega);rw [hm];exact SW xq
    refine ⟨q9,_,rfl,fN.of e10,rfl,_,_,rfl,_,_,rfl,rfl,⟨_,rfl,_,rfl,?_⟩⟩;refine FN (hpl2.same S10) pr (by rw [so.lo,lm];exact n3) λH11 δ=>?_;have S11:=S10.trans δ;have J:=R.trans δ;have lyf:β.length=I.length:=(Paired.length ψ).symm;have lyk:ε.length=O.length:=(Paired.length ag).symm;have lys:ys.length=L.length:=by rw [aa.len,aB]
    cases el:gU pl x.1 with
    | none =>
     refine ⟨_,rfl,rfl,⟨_,rfl,?_⟩⟩;rw [show decide (V.non=V.non)=true from rfl];refine yL ⟨_,rfl,RF (J _ _ μ),⟨_,rfl,_,rfl,?_⟩⟩;refine rK (by show 2<=64;decide) λq12 H12 hq12 υ γ=>?_;have U:=J.trans γ;refine aEn (U _ _ μ) Oo λH13 e13 ae=>?_;have t13:=ae.t (U _ _ μ);have θ:=U.t.trans t13;have ο:=((δ.trans γ).t.trans t13);refine ⟨_,_,_,I++[x],L,O,β++[.ref q12],ε,ys,rfl,bA.thru lfN (S11.trans γ) ae,ae.at naf.symm (U _ _ e9),QJ.t θ fz9,e13,mV (Paired.mapP ψ λ_ _ h=>h.t θ) ⟨q12,_,_,rfl,t13 _ _ υ,pr.flat ο (pP _),pv.t ο⟩,ae.at nfo.symm (U _ _ κ),Paired.mapP ag λ_ _ h=>h.t θ,ae.at nfL.symm (U _ _ eL9),(aa.flat θ (jX _)),λp M=>?_,qo9,by rw [aV];show I.length+1<=_;omega,Oo,Oo,okL,?_,λu b=>?_⟩
     ·rcases eM.mp M with M | M
      ·exact qf9 p M
      ·rw [cF.mp M];exact xq9
     ·rw [KP ξ];have:=Rat.le_of_lt x0;grind
     ·rw [<-V9 u b,MN ξ,af x u b,xE el,NV];grind
    | some t =>
     have H7:=B.hall.ok;obtain ⟨ht,hon,hs0,hb⟩:=so.look H7 el;have ι:t<d.length:=by rw [<-lm];exact ht
     have ζ:=B.hall.ts t ι;rw [B.same t ι] at ζ;have mt:=mZ (ks:=ks) (Ms:=Ms) ι;refine ⟨_,rfl,rfl,⟨_,rfl,?_⟩⟩;rw [show decide (V.int (t:Int)=V.non)=false from rfl];refine sD ⟨_,rfl,RF (J _ _ κ),⟨_,rfl,?_⟩⟩;refine aEn (J _ _ κ) Oo λH12 υ χ=>?_;have t12:=χ.t (J _ _ κ);have S12:=bA.thru loN S11 χ;have η:=δ.t.trans t12;have t912:=J.t.trans t12;have φ:=χ.at noL.symm (J _ _ eL9);refine ⟨_,rfl,RF φ,?_⟩;obtain ⟨fv,hfv,lfv,afv⟩:=(fs2.same S12).ex;obtain ⟨ev,hev,lev,aev⟩:=(es2.same S12).ex;obtain ⟨fx,hfx,rfx⟩:=afv t ι;obtain ⟨eb,heb,enb⟩:=aev t ι;refine ⟨_,rfl,_,rfl,_,rfl,_,rfl,_,rfl,nZ hfv (dM hfx) ?_⟩;refine ⟨_,rfl,_,rfl,nZ hev (dM heb) ?_⟩;have lc:=so.lc;have lo':=so.lo;have F4:=ζ.f4;have lsh:=ζ.len;have kk:=so.k t ht;have lct:(x.1.1.getD t []).length=(fR (d.getD t ⟨[],[],[]⟩) (ks.getD t 0)).length:=by
      rw [lsh];have:=(H7 t ht).len _ kk;rw [mt] at this;exact this
     refine CJ (n:=d.length) (W:=(d.getD t ⟨[],[],[]⟩).ws.length) (pr.flat η (pP _)) (pv.t η) xq (B.dpos _) ?_ B.n0 rfx ζ.fn Oo enb ζ.rl.nd ζ.sy ζ.kw Oo Oo ι n3 lct (λf hf=>?_) λL13 y13 H13 hL13 e13 r13 α=>?_
     ·refine aY ?_ (B.dlt (j:=j+1) Oo);rw [NN];exact Nat.le_mul_of_pos_right _ Dd
     ·have:=(hb f (by rw [mt];show f<(d.getD t ⟨[],[],[]⟩).fs.length;omega)).1;rw [mt] at this;exact this
     ·have eb2:((List.range (fR (d.getD t ⟨[],[],[]⟩) (ks.getD t 0)).length).flatMap λf=>(cZ (RI (fR (d.getD t ⟨[],[],[]⟩) (ks.getD t 0)).length (fR (d.getD t ⟨[],[],[]⟩) (ks.getD t 0)) (d.getD t ⟨[],[],[]⟩).es (ks.getD t 0)) x.1 t (bN (x.1.1.getD t []) f)).map λp=>(p.1,x.2*eV (fR (d.getD t ⟨[],[],[]⟩) (ks.getD t 0)) f*p.2))=HP ((jC d ks Ms).getD t fJ).t t x:=by
       rw [mt,lsh];rfl
      rw [eb2] at r13;have lb:(HP ((jC d ks Ms).getD t fJ).t t x).length<=12:=by
       have:=WB ((jC d ks Ms).getD t fJ).t t x;have hF:((jC d ks Ms).getD t fJ).t.F=(d.getD t ⟨[],[],[]⟩).fs.length:=by rw [mt];rfl
       omega
      have ly13:y13.length<=12:=by rw [r13.len,aB];exact lb
      refine aCP (α _ _ φ) e13 Oo λH14 e14 ad=>?_;have t14:=ad.t (α _ _ φ);have τ:=t912.trans (α.t.trans t14);have bk:=aAt B so tc (Rat.le_of_lt x0) xq el;refine ⟨_,_,_,I,L++HP ((jC d ks Ms).getD t fJ).t t x,O++[x.2],β,_,_,rfl,bA.thru LtN (S12.trans α) ad,ad.at naL.symm (α _ _ (χ.at nao.symm (J _ _ e9))),QJ.t τ fz9,ad.at nfL (α _ _ (χ.at nfo (J _ _ μ))),Paired.mapP ψ λ_ _ h=>h.t τ,ad.at noL (α _ _ υ),mV (Paired.mapP ag λ_ _ h=>h.t τ) (pv.t (η.trans (α.t.trans t14))),e14,?_,qf9,λq hq=>?_,Oo,by rw [aV];show O.length+1<=_;omega,by rw [aV];omega,λp M=>?_,?_,λu b=>?_⟩
      ·rw [bZ];exact bG.app ((aa.flat t912 (jX _)).flat (α.t.trans t14) (jX _)) (r13.flat t14 (jX _))
      ·rcases eM.mp hq with hq | hq
       ·exact qo9 q hq
       ·rw [cF.mp hq];exact xq9
      ·rcases eM.mp M with M | M
       ·exact okL p M
       ·exact bk p M
      ·rw [lZ,KP ξ];have ω:bY (HP ((jC d ks Ms).getD t fJ).t t x) (λp=>p.2)=x.2:=by
        rw [<-oQ,HN _ _ _ λ_=>1];have:∀f,((jC d ks Ms).getD t fJ).t.q f*bY (cZ ((jC d ks Ms).getD t fJ).t x.1 t (bN (x.1.1.getD t []) f)) (λp=>p.2*1)=((jC d ks Ms).getD t fJ).t.q f:=λf=>by rw [EF];grind
        rw [dD λf _=>this f,(H7 t ht).q1];grind
       rw [ω];grind
      ·rw [<-V9 u b,MN ξ,af x u b,xD H7 el,lZ,HN,NU];grind
   ·rintro σ H9 ⟨o9,X,Z,I,L,O,β,ε,ys,rfl,S9,e9,fz9,μ,ψ,κ,ag,eL9,aa,qf9,qo9,lf9,lo9,lL9,okL,mL,V9⟩;rw [lkv] at lf9 lo9 lL9 mL V9;rw [bP] at mL;have G:=LdK.gath (ms:=jC d ks Ms) (Sx:=λst=>wF (jC d ks Ms) st/\nH st.1=j+1) (D:=Dj N (j+1)) (T:=λg=>bY L λp=>p.2*g p.1) (L:=L) (by show bY L (λp=>p.2*1)<=1;rw [oQ];exact Rat.le_trans mL lv.one) (B.dpos _) okL (λg=>rfl);obtain ⟨G1,G2,G3⟩:=G;refine ⟨_,rfl,?_⟩;refine AD eL9 aa G2 G3 (B.dpos _) (B.dlt Oo) Oo λa10 H10 R ha10 g10=>⟨20-(j+1),Oo,_,_,_,_,j+1,a10,gth L,I,O,β,ε,rfl,Oo,rfl,S9.trans R,S9.free ha10,g10,⟨G1.nd,G1.ok,?_⟩,R _ _ μ,Paired.mapP ψ λ_ _ h=>h.t R.t,R _ _ κ,Paired.mapP ag λ_ _ h=>h.t R.t,qf9,qo9,Oo,Oo,λu b=>?_⟩
    ·rw [<-oQ,G1.sum λ_=>1];show bY L (λp=>p.2*1)<=1;rw [oQ];exact G3
    ·rw [<-V9 u b,G1.sum,List.drop_length,show 9-(j+1)=8-j by omega];show _=_+(0:Rat);grind
 ·rintro σ H6 ⟨o5,o8,o9,X,Z,I,O,β,ε,rfl,S6,ef,pf,eo,po,qf,qo,lenf,leno,V6⟩;have Y:∀(S:SS × Rat->Bool) (u:SS->Rat),(∀p:SS × Rat,u p.1=if S p=true then 1 else 0)->bY (I.filter S) (λp=>p.2)=cQ d ks Ms pl u 0:=λS u M=>by
   rw [<-V6 u 0];unfold vsum;have key:∀l:List (SS × Rat),bY (l.filter S) (λp=>p.2)=bY l λp=>p.2*u p.1:=λl=>by
    induction l with
    | nil=>rfl
    | cons x l ih =>
     rw [cJ,List.filter_cons,M x];by_cases e:S x=true
     ·rw [if_pos e,if_pos e,cJ,ih];grind
     ·rw [if_neg e,if_neg e,ih];grind
   rw [key];grind
  have frs:∀(S:SS × Rat->Bool) (H7:Hp) (zs:List V),Paired (λp v=>nD K H7 (cW p.2) v) (I.filter S) zs->HY K H7 ((I.filter S).map λp=>cW p.2) zs:=λS H7 zs h=>⟨by rw [aB,Paired.length h],λi v hv=>by
   obtain ⟨p,ω,h2⟩:=nX h hv;exact ⟨_,by rw [aI,ω];rfl,h2.v⟩⟩
  have lenF:∀S:SS × Rat->Bool,(I.filter S).length<=100000:=λS=>by have:=List.length_filter_le S I;omega
  have tt:=λS:SS × Rat->Bool=>KO (l:=I.filter S) (f:=λp=>p.2) (λp M=>qf p (gF.mp M).1) (B.dpos 9) (B.dlt Dd) (lenF S);have qs:∀S:SS × Rat->Bool,Qn (Dj N 9) 100000 (bY (I.filter S) λp=>p.2):=λS=>(Qn.sumL λp M=>qf p (gF.mp M).1).le (by rw [Nat.mul_one];exact lenF S);refine ⟨_,rfl,ν,rfl,⟨_,fY.of ef⟩,oD (as:=I) (λp=>p.1.2.2) (λp v=>PrW K H6 p v) (λp v H'=>nD K H' (cW p.2) v) (λp v H1 H2 s r=>r.t s) Oo ef pf (λv p H' M rp s'=>?_) (λD7 z7 H7 hD7 e7 s7 p7=>?_)⟩
  ·obtain ⟨b,sa,qv,rfl,hb,hsa,hqv⟩:=rp.t s'.t;obtain ⟨sb,ac,ab,xs',esb,hsb,_,_,hab⟩:=AB hsa;cases esb;refine ⟨b,[.ref sa,qv],rfl,fN.of hb,rfl,λQ' h=>?_,λH5 Q' s5 M k'=>?_⟩
   ·refine ⟨_,rfl,iI hsb rfl ?_⟩;exact ⟨_,rfl,h H' (bA.refl _)⟩
   ·exact ⟨_,rfl,k' _ H5 (bA.refl _) (hqv.t s5.t)⟩
  refine kD e7 (frs _ _ _ p7) (tt _).1 λv8 H8 s8 r8=>?_;rw [(tt _).2,Y _ aW λp=>rfl] at r8;have S8:=s7.trans s8;refine ⟨_,rfl,ν,rfl,⟨_,fY.of (S8 _ _ ef)⟩,oD (as:=I) (λp=>decide (dJ p.1.2.1=[])) (λp v=>PrW K H8 p v) (λp v H'=>nD K H' (cW p.2) v) (λp v H1 H2 s r=>r.t s) Oo (S8 _ _ ef) (Paired.mapP pf λ_ _ h=>h.t S8.t) (λv p H' M rp s'=>?_) (λD9 z9 H9 hD9 e9 s9 p9=>?_)⟩
  ·obtain ⟨b,sa,qv,rfl,hb,hsa,hqv⟩:=rp.t s'.t;obtain ⟨sb,ac,ab,xs',esb,hsb,_,_,hab⟩:=AB hsa;cases esb;refine ⟨b,[.ref sa,qv],rfl,fN.of hb,rfl,λQ' h=>?_,λH5 Q' s5 M k'=>?_⟩
   ·refine ⟨_,rfl,iI hsb rfl ?_⟩;refine ⟨ab,_,rfl,.inr (fN.of hab),rfl,ZY _,⟨_,rfl,?_⟩⟩;rw [UQ];exact h H' (bA.refl _)
   ·exact ⟨_,rfl,k' _ H5 (bA.refl _) (hqv.t s5.t)⟩
  refine kD e9 (frs _ _ _ p9) (tt _).1 λv10 H10 R r10=>?_;rw [(tt _).2,Y _ aA λp=>by show aA p.1=_;unfold aA;by_cases e:dJ p.1.2.1=[] <;> simp [e]] at r10;refine ⟨_,rfl,_,rfl,_,rfl,?_⟩;have S10:=(S8.trans s9).trans R;have tl:=KO (l:=O) (f:=λq=>q) qo (B.dpos 9) (B.dlt Dd) Oo;refine kD (S10 _ _ eo) ⟨by rw [aB,Paired.length po],λi v hv=>by
   obtain ⟨q,ω,h2⟩:=nX po hv;exact ⟨_,by rw [aI,ω];rfl,(h2.t S10.t).v⟩⟩ tl.1 λv11 H11 δ r11=>?_
  have eL:bY O (λq=>q)=cQ d ks Ms pl (λ_=>0) 1:=by
   rw [<-V6 (λ_=>0) 1];unfold vsum;have:bY I (λp=>p.2*(0:Rat))=0:=zY I;rw [this];grind
  rw [tl.2,eL] at r11;refine rK (by show 3<=64;decide) λq12 H12 hq12 υ γ=>k _ H12 (((S2.trans S6).trans S10).trans (δ.trans γ)) (cE.tup υ (bG.cons (((r8.same (s9.trans R)).same δ).same γ) (bG.cons ((r10.same δ).same γ) (bG.cons (r11.same γ) bG.nil)))) ?_ ?_ ?_
  ·rw [<-Y (λp=>p.1.2.2) aW λp=>rfl];exact qs _
  ·rw [<-Y (λp=>decide (dJ p.1.2.1=[])) aA λp=>by show aA p.1=_;unfold aA;by_cases e:dJ p.1.2.1=[] <;> simp [e]];exact qs _
  ·rw [<-eL];exact (Qn.sumL (f:=λq=>q) qo).le (by rw [Nat.mul_one];omega)
end
theorem LY:∀{c:List Nat}{x:Nat},x∈c->x<=c.sum
 | a::c,x,h=>by
  rw [List.sum_cons];rcases bE.mp h with rfl | h
  ·omega
  ·have:=LY h;omega
theorem xK{α β:Type}(m:List β)(f:α->β->Rat):∀l:List α,bY l (λa=>bY m (f a))=bY m λb=>bY l λa=>f a b
 | []=>by rw [fG,show (λb=>bY ([]:List α) λa=>f a b)=λ_=>(0:Rat) from rfl,qR]
 | a::l=>by rw [cJ,xK m f l,show (λb=>bY (a::l) λa=>f a b)=λb=>f a b+bY l λa=>f a b from rfl,xL]
theorem ZJ{es:List cL}(nd:(es.map (·.1)).Nodup)(k:Nat):((lev es k).map (·.1)).Nodup:=nd.sublist (List.filter_sublist.map _)
theorem UH{F:Nat}{es:List cL}(R:uC F es){s:List Fr}(hs:∀f∈s,dN f)(hl:s.length=F)(k:Nat)(G:List Nat->Rat) :
  bY (lev es (k+1)) (λd=>rO F es s d.1*G d.1)=bY (lev es k) λe=>rO F es s e.1*s0 e*dG F λf=>eV s f*G (bN e.1 f):=by
 have b:bY (lev es (k+1)) (λd=>rO F es s d.1*G d.1)=bY (lev es (k+1)) λd=>bY (lev es k) λe=>rO F es s e.1*s0 e*dG F λf=>(if bN e.1 f=d.1 then 1 else 0)*(eV s f*G d.1):=by
  refine dE λd hd=>?_;rw [<-ZE R hs hl (lJ.mp hd).2];unfold aCr;rw [Rat.mul_comm,<-sN];refine dE λe _=>?_;have:(dG F λf=>(if bN e.1 f=d.1 then 1 else 0)*(eV s f*G d.1))=G d.1*dG F λf=>if bN e.1 f=d.1 then eV s f else 0:=by
   rw [<-lY];refine dD λf _=>?_;by_cases q:bN e.1 f=d.1
   ·rw [if_pos q,if_pos q];grind
   ·rw [if_neg q,if_neg q];grind
  rw [this];grind
 rw [b,xK];refine dE λe a=>?_;rw [sN,zX];by_cases z:s0 e=0
 ·rw [z];grind
 congr 1;refine dD λf c=>?_;have h:bN e.1 f∈(lev es (k+1)).map (·.1):=(ZK R).mpr ⟨e,a,z,f,c,rfl⟩;exact qT (ZJ R.nd _) h λd=>eV s f*G d
theorem LW{es:List cL}(g:cL->Rat):∀k:Nat,bY (low es k) g=dG k λi=>bY (lev es i) g
 | 0=>by rw [UF,fD]
 | k+1=>by rw [UG,dP,LW g k]
theorem FF(f:Nat->Rat):∀n,dG (n+1) f=f 0+dG n λi=>f (i+1)
 | 0=>by rw [dP,fD,fD];grind
 | n+1=>by rw [dP,FF f n,dP n λi=>f (i+1)];grind
theorem aAY{F M:Nat}{es:List cL}(R:uC F es){s:List Fr}(hs:∀f∈s,dN f)(hl:s.length=F)(G:Nat->List Nat->Rat)(τ:List Nat->Rat)(h0:∀e∈es,e.1.sum=M->G 0 e.1=τ e.1)(hS:∀m,∀e∈es,G (m+1) e.1=τ e.1+s0 e*dG F λf=>eV s f*G m (bN e.1 f)):∀(m k:Nat),k+m=M->bY (lev es k) (λe=>rO F es s e.1*G m e.1)=dG (m+1) λi=>bY (lev es (k+i)) λe=>rO F es s e.1*τ e.1
 | 0,k,hk=>by
  rw [dP,fD];show _=0+bY (lev es k) _;rw [dE λe he=>by rw [h0 e (lJ.mp he).1 (by rw [(lJ.mp he).2];omega)]];grind
 | m+1,k,hk=>by
  have e1:bY (lev es k) (λe=>rO F es s e.1*G (m+1) e.1)=bY (lev es k) λe=>rO F es s e.1*τ e.1+rO F es s e.1*s0 e*dG F λj=>eV s j*G m (bN e.1 j):=by
   refine dE λe he=>?_;rw [hS m e (lJ.mp he).1];grind
  rw [e1,xL,<-UH R hs hl,aAY R hs hl G τ h0 hS m (k+1) Oo,FF _ (m+1)];show _+_=bY (lev es k) _+_;congr 1;refine dD λi _=>?_;rw [show k+1+i=k+(i+1) by omega]
theorem VO{F:Nat}{es:List cL}(R:uC F es){s:List Fr}(hs:∀f∈s,dN f):rO F es s (List.replicate F 0)=1:=by
 unfold rO;rw [KF hs,SQ R,if_pos rfl];have:bY es (λe=>cD F es e.1*s0 e*lK F e.1 (List.replicate F 0))=bY es λ_=>0:=dE λe a=>by
  rw [tI (R.len e a) (by rw [rZ];omega)];grind
 rw [this,qR];grind
theorem WJ{F M:Nat}{es:List cL}(R:uC F es)(top:∀e∈es,e.1.sum<=M){s:List Fr}(hs:∀f∈s,dN f)(hl:s.length=F)(G:Nat->List Nat->Rat)(τ:List Nat->Rat)(h0:∀e∈es,e.1.sum=M->G 0 e.1=τ e.1)(hS:∀m,∀e∈es,G (m+1) e.1=τ e.1+s0 e*dG F λf=>eV s f*G m (bN e.1 f)):G M (List.replicate F 0)=bY es λe=>rO F es s e.1*τ e.1:=by
 have h:=aAY R hs hl G τ h0 hS M 0 Oo;have n:=VO R hs;have c:low es (M+1)=es:=by
  unfold low;rw [List.filter_eq_self];exact λe d=>by have:=top e d;simp;omega
 obtain ⟨i,r,rfl,a⟩:=R.root;have l:lev (i::r) 0=[i]:=by
  unfold lev;rw [List.filter_cons_of_pos (by rw [a,rZ];rfl)];congr 1;rw [List.filter_eq_nil_iff];intro e d;have nd:=R.nd;rw [bF,List.nodup_cons] at nd;simp only [decide_eq_true_eq];intro z;refine nd.1 (aT.mpr ⟨e,d,?_⟩);have le:=R.len e (aG _ d);rw [a,List.eq_replicate_iff];exact ⟨le,λb o=>by have:=LY o;omega⟩
 rw [l,cJ,fG,a,n] at h;have j:=LW (es:=i::r) (λe=>rO F (i::r) s e.1*τ e.1) (M+1);rw [c] at j;rw [j];simp only [Nat.zero_add] at h;rw [<-h];grind
section
variable{M Ns:Nat}{h:HE}{k:Nat}
theorem HS.s_at(t:HS M Ns h k){e:cL}(he:e∈h.es):(oO M h k).t.s e.1=s0 e/\(oO M h k).t.r e.1=eV e.2 (1+k):=by
 have a:=CV t.rl.nd he;constructor
 ·show eV (wS h.es e.1) 0=_;rw [a];rfl
 ·show eV (wS h.es e.1) (1+k)=_;rw [a]
theorem HS.s_top(t:HS M Ns h k){e:cL}(he:e∈h.es)(hM:e.1.sum=M):s0 e=0:=dQ λz=>by have:=t.on e he z;omega
theorem HS.lowS(t:HS M Ns h k):∀f∈fR h k,dN f:=λf a=>(t.low f a).1
theorem HS.wsh(t:HS M Ns h k):∃x,h.ws[k]?=some x/\fR h k=x.2:=⟨_,aC t.kw,by unfold fR;rw [aC t.kw];rfl⟩
theorem HS.RR(t:HS M Ns h k):RR (oO M h k)=pE h k:=by
 obtain ⟨x,i,d⟩:=t.wsh;have b:=WJ t.rl t.le t.lowS t.len (λm c=>(oO M h k).t.s c*sZ (oO M h k).t m c+(oO M h k).t.r c) (λc=>(oO M h k).t.r c) (λe a j=>by
  show (oO M h k).t.s e.1*0+_=_;grind) (λm e a=>by
  rw [(t.s_at a).1];show s0 e*(dG h.fs.length λf=>eV (fR h k) f*((oO M h k).t.s (bN e.1 f)*sZ (oO M h k).t m (bN e.1 f)+(oO M h k).t.r (bN e.1 f)))+_=_;grind)
 unfold Mf.RR rho;rw [show (oO M h k).M-(List.replicate (oO M h k).t.F 0).sum=M by rw [rZ];rfl];refine Eq.trans b ?_;rw [SH i,<-d];unfold qD;refine dE λe a=>?_;rw [(t.s_at a).2];rfl
theorem HS.LL(t:HS M Ns h k):LL (oO M h k)=tU h.fs.length h.es (wq (fR h k)):=by
 have b:=WJ t.rl t.le t.lowS t.len (λm c=>(oO M h k).t.s c*GK (oO M h k).t m c) (λc=>(oO M h k).t.s c) (λe a d=>by
  rw [(t.s_at a).1,t.s_top a d];grind) (λm e a=>by
  rw [(t.s_at a).1];show s0 e*(1+dG h.fs.length λf=>eV (fR h k) f*((oO M h k).t.s (bN e.1 f)*GK (oO M h k).t m (bN e.1 f)))=_;grind)
 unfold Mf.LL lam;rw [show (oO M h k).M-(List.replicate (oO M h k).t.F 0).sum=M by rw [rZ];rfl];refine Eq.trans b ?_;unfold tU;refine dE λe a=>?_;rw [(t.s_at a).1];rfl
end
theorem DF{g:Nat->List Nat->Rat}{st:SS}{f:Nat->Rat}:∀{l:List Nat},(∀i∈l,st.2.1.getD i false=true/\g i (st.1.getD i [])=f i)->uA g st l=(l.map f).foldr (· * ·) 1/\wG g st l=iP (l.map f)
 | [],_=>⟨rfl,rfl⟩
 | i::l,h=>by
  obtain ⟨h1,h2⟩:=DF (l:=l) λi c=>h i (aG _ c);obtain ⟨a,b⟩:=h i (aQ ..);constructor
  ·show (if _ then _ else _)*uA g st l=_;rw [if_pos a,b,h1];rfl
  ·show (if _ then _ else _)+wG g st l=_;rw [if_pos a,b,h2];rfl
theorem TL:∀{hs:List HE}{ks:List Nat},nE hs ks->pq (wrs hs ks)=((List.range hs.length).map λi=>pE (hs.getD i ⟨[],[],[]⟩) (ks.getD i 0)).foldr (· * ·) 1
 | [],[],_=>rfl
 | h::hs,k::ks,.cons r t=>by
  rw [dB,List.range_succ_eq_map,bF,List.map_map,List.foldr_cons];show (1-(1-pE h k))*pq (wrs hs ks)=pE h k*_;rw [TL t];have:(1:Rat)-(1-pE h k)=pE h k:=by grind
  rw [this];rfl
def avs(hs:List HE)(ks:List Nat):List Rat:=(List.range hs.length).map λi=>tU (hs.getD i ⟨[],[],[]⟩).fs.length (hs.getD i ⟨[],[],[]⟩).es (wq (fR (hs.getD i ⟨[],[],[]⟩) (ks.getD i 0)))
theorem OV{hs:List HE}{ks Ms Ns:List Nat}{N:Nat}{pl:List (List Nat)->Option Int}(B:QH hs ks Ms Ns N)(ch:nE hs ks) :
  (cQ hs ks Ms pl aW 0<=1-pq (wrs hs ks)/\cQ hs ks Ms pl aA 0<=1/\cQ hs ks Ms pl (λ_=>0) 1<=iP (avs hs ks))/\((∀cs,pl cs≠some (-1))->cQ hs ks Ms pl aW 0=1-pq (wrs hs ks)/\cQ hs ks Ms pl aA 0=1/\cQ hs ks Ms pl (λ_=>0) 1=iP (avs hs ks)):=by
 have c:=jY hs ks Ms;have A:=ZM (pl:=pl) B.hall.ok (aDD hs ks Ms) rfl (N:=9) (aZ B.mM Dd);have b:∀i,i<hs.length->(EN hs).2.1.getD i false=true:=λi a=>by
  show (hs.map λ_=>true).getD i false=true;rw [aK,aI,aC a];rfl
 have d:zI (jC hs ks Ms).length (GN (jC hs ks Ms) 0) (EN hs)=1-pq (wrs hs ks):=by
  unfold zI;rw [if_neg (by show ¬false=true;decide),TL ch,c,(DF (f:=λi=>pE (hs.getD i ⟨[],[],[]⟩) (ks.getD i 0)) λi a=>?_).1];have a:=bT.mp a;refine ⟨b i a,?_⟩;unfold GN;rw [if_neg (Nat.not_lt_zero _),mZ a,(B.hall.ts i a).RR]
 have e:zJ (jC hs ks Ms).length (GO (jC hs ks Ms) 0) (EN hs)=iP (avs hs ks):=by
  unfold zJ;rw [c,(DF (f:=λi=>tU (hs.getD i ⟨[],[],[]⟩).fs.length (hs.getD i ⟨[],[],[]⟩).es (wq (fR (hs.getD i ⟨[],[],[]⟩) (ks.getD i 0)))) λi a=>?_).2]
  ·rfl
  have a:=bT.mp a;refine ⟨b i a,?_⟩;unfold GO;rw [if_neg (Nat.not_lt_zero _),mZ a,(B.hall.ts i a).LL]
 dsimp only at A;rw [d,e] at A;exact A
theorem aEQ:∀F,F<=4->∀M,M<=5->(2<=F/\F*M<=9->(rise F M).length<=20/\M<=4):=Kk
theorem sz6:∀F,F<=4->∀M,M<=5->(2<=F/\F*M<=4->(rise F M).length<=6/\M<=2):=Kk
theorem NJ.top{F W M:Nat}{es:List cL}(h:NJ F W M es):(∀e∈es,e.1.sum<=M)/\(∀e∈es,s0 e≠0->e.1.sum<M)/\es.length<=(rise F M).length:=by
 obtain ⟨f,rfl,i,sy⟩:=h.ex;refine ⟨λe a=>?_,λe a d=>?_,?_⟩
 ·obtain ⟨c,b,rfl⟩:=aT.mp a;exact (CW h.f1 b).2
 ·obtain ⟨c,b,rfl⟩:=aT.mp a;exact i c (rG.mpr d)
 ·unfold FR;rw [aB];exact (sY h.f1).length_le
def dW(sh:List Fr):Nat:=pN (sh.map λf=>f.2.natAbs)
theorem aDn{n:Nat}{h:HE}{t o F W M k N:Nat}(T:wK t o F W h.fs h.ws)(R:NJ F W M h.es)(hk:k<h.ws.length)(hN:dW (fR h k) ∣ N)(n0:0<N):HS M N h k:=by
 have c:=T.lenF;have e:=T.lenW;have hF:=T.hF;obtain ⟨j,d,i⟩:=R.top;have b:=aC hk;have S:=T.sh _ (aR b);have es:fR h k=h.ws[k].2:=by unfold fR;rw [b];rfl
 refine ⟨by rw [c];exact R.rl,by rw [e];exact R.sy,hk,j,d,aZ i R.few,Oo,Oo,by rw [es,S.len,c],λf a=>?_,?_,λf a=>?_,n0⟩
 ·rw [es] at a;exact ⟨S.low f a,S.pos f a⟩
 ·rw [es,<-IV _ S.low,S.one,uM]
 ·have hd:f.2.natAbs ∣ N:=Nat.dvd_trans (yD (aT.mpr ⟨f,a,rfl⟩)) hN;rw [es] at a;exact (ML (S.low f a) (S.pos f a) (S.le f a)).dvd hd
theorem aEf{h:HE}{t o F W k:Nat}(T:wK t o F W h.fs h.ws)(hk:k<h.ws.length):0<dW (fR h k)/\dW (fR h k)<=1000^4:=by
 have hF:=T.hF;have i:=aC hk;have S:=T.sh _ (aR i);have c:fR h k=h.ws[k].2:=by unfold fR;rw [i];rfl
 have a:∀d∈(fR h k).map (λf=>f.2.natAbs),0<d/\d<=1000:=λd hd=>by
  obtain ⟨f,b,rfl⟩:=aT.mp hd;rw [c] at b;have e:=(S.low f b).pos;have j:=S.dn f b;omega
 refine ⟨?_,?_⟩
 ·have:=(mW (Ds:=(fR h k).map λf=>f.2.natAbs) ((fR h k).map λf=>f.2.natAbs).length λd hd=>(a d hd).1).1;rw [bP] at this;exact this
 ·have e:=AL (B:=1000) λd hd=>(a d hd).2;rw [aB,c,S.len,<-c] at e;exact aZ e (bD Dd Oo)
theorem KS{b:Nat}:∀{l:List Nat},(∀x∈l,x<=b)->l.sum<=l.length*b
 | [],_=>cC _
 | x::l,h=>by
  have h1:=KS (l:=l) λy a=>h y (aG _ a);have c:=h x (aQ ..);rw [List.sum_cons,dB,Nat.add_mul];omega
theorem TK{b:Nat}:∀{hs:List HE},(∀h∈hs,h.es.length<=b)->prE hs<=b^hs.length
 | [],_=>aE _
 | h::hs,a=>by
  show h.es.length*prE hs<=b^(hs.length+1);rw [Nat.pow_succ,Nat.mul_comm];exact Nat.mul_le_mul (TK λx hx=>a x (aG _ hx)) (a h (aQ ..))
theorem HK:∀{hs:List HE}{ks:List Nat},nE hs ks->∀{i:Nat},i<hs.length->ks.getD i 0<(hs.getD i ⟨[],[],[]⟩).ws.length
 | _,_,.nil,i,h=>by cases h
 | _,_,.cons r t,0,_=>r
 | _,_,.cons r t,i+1,h=>HK t (i:=i) (by simpa using h)
theorem aCy{hs:List HE}{ks:List Nat}(hn:hs.length=1\/hs.length=2\/hs.length=3)(h:∀x∈hs,WQ hs.length x)(ch:nE hs ks):∃Ms Ns N,QH hs ks Ms Ns N/\Dj N 9<2^2000:=by
 have u:∀x:HE,∃M:Nat,x∈hs->∃t o F W,wK t o F W x.fs x.ws/\NJ F W M x.es/\F*M<=WT hs.length:=λx=>by
  by_cases p:x∈hs
  ·obtain ⟨t,o,F,W,M,a,b,c⟩:=(h x p).ex;exact ⟨M,λ_=>⟨t,o,F,W,a,b,c⟩⟩
  ·exact ⟨0,λz=>absurd z p⟩
 obtain ⟨g,B⟩:=Classical.axiomOfChoice u;have w:∀i,i<hs.length->hs.getD i ⟨[],[],[]⟩∈hs:=λi m=>vB m
 let Ds:=(List.range hs.length).map λi=>dW (fR (hs.getD i ⟨[],[],[]⟩) (ks.getD i 0))
 have D:∀d∈Ds,0<d/\d<=1000^4:=λd hd=>by
  obtain ⟨i,m,rfl⟩:=aT.mp hd;have m:=bT.mp m;obtain ⟨t,o,F,W,T,R,z⟩:=B _ (w i m);exact aEf T (HK ch m)
 have P:Ds.length=hs.length:=by show ((List.range hs.length).map _).length=_;rw [aB,cR]
 have N0:0<pN Ds:=by
  have:=(mW (Ds:=Ds) Ds.length λd hd=>(D d hd).1).1;rw [bP] at this;exact this
 have N1:pN Ds<=1000^12:=by
  have:=AL λd hd=>(D d hd).2;rw [P] at this;refine aZ this (aZ (bD Dd (show hs.length<=3 by omega)) ?_);rw [<-Nat.pow_mul];exact aE _
 have C:∀i,i<hs.length->(hs.map g).getD i 0=g (hs.getD i ⟨[],[],[]⟩):=λi m=>by
  rw [aK,aI,aK,aC m];rfl
 have s:∀i,i<hs.length->(List.replicate hs.length (pN Ds)).getD i 0=pN Ds:=λi m=>by
  rw [aK,List.getElem?_replicate,if_pos m];rfl
 have O:ks.length=hs.length:=ch.length.symm;have A:qG (jC hs ks (hs.map g))=(hs.map g).sum:=by
  unfold qG jC;rw [List.map_map];congr 1;refine List.ext_getElem? λi=>?_;rw [aI,aI];by_cases m:i<hs.length
  ·rw [eN m,aC m];show some ((hs.map g).getD i 0)=some (g hs[i]);rw [C i m,aK,aC m];rfl
  ·rw [cV (by rw [cR];omega),cV Oo];rfl
 have r:(hs.map g).sum<=8/\prE hs*(2^hs.length*2)<=4000:=by
  have step:∀(b e:Nat),(∀x∈hs,g x<=b/\x.es.length<=e)->(hs.map g).sum<=hs.length*b/\prE hs<=e^hs.length:=λb e J=>⟨by
   have:=KS (l:=hs.map g) (b:=b) λy L=>by
    obtain ⟨x,p,rfl⟩:=aT.mp L;exact (J x p).1
   rwa [aB] at this,TK λx p=>(J x p).2⟩
  rcases hn with q | q | q
  ·obtain ⟨I,G⟩:=step 5 40 λx p=>by
    obtain ⟨t,o,F,W,T,R,z⟩:=B x p;exact ⟨R.m5,aZ R.top.2.2 R.few⟩
   rw [q] at I G ⊢;exact ⟨Oo,Oo⟩
  ·obtain ⟨I,G⟩:=step 4 20 λx p=>by
    obtain ⟨t,o,F,W,T,R,z⟩:=B x p;rw [q] at z;have hF:=T.hF;obtain ⟨a,b⟩:=aEQ F R.f4 (g x) R.m5 ⟨Oo,z⟩;exact ⟨b,aZ R.top.2.2 a⟩
   rw [q] at I G ⊢;exact ⟨Oo,Oo⟩
  ·obtain ⟨I,G⟩:=step 2 6 λx p=>by
    obtain ⟨t,o,F,W,T,R,z⟩:=B x p;rw [q] at z;have hF:=T.hF;obtain ⟨a,b⟩:=sz6 F R.f4 (g x) R.m5 ⟨Oo,z⟩;exact ⟨b,aZ R.top.2.2 a⟩
   rw [q] at I G ⊢;exact ⟨Oo,Oo⟩
 have big:∀j,LC^3*(pN Ds*LC)^j<=LC^3*(1000^12*LC)^j:=λj=>eB _ (Nat.pow_le_pow_left (cS _ N1) j);refine ⟨hs.map g,List.replicate hs.length (pN Ds),pN Ds,⟨⟨O,aB ..,dZ ..,Oo,Oo,λi m=>?_⟩,s,N0,aY (big 10) Kk,by rw [A];exact r.1,r.2⟩,aY (big 9) Kk⟩;rw [C i m,s i m];obtain ⟨t,o,F,W,T,R,z⟩:=B _ (w i m);exact aDn (n:=0) T R (HK ch m) (yD (aT.mpr ⟨i,bT.mpr m,rfl⟩)) N0
end Kw
namespace HT
open PySem PySem.Spec PyProof.Rows PySem.W
section
variable{prog:Program}{w:World}{r d:Addr}{es:Array DictEntry}{ep:Nat}{od:Obj}
theorem aCs(hdd:od.data=.dict es ep):KdlSrc prog w "dict_values" r d es.size (λi v=>∃hi:i<es.size,v=es[i].val) (λh=>h.IsValuesView r d/\h.get? d=some od) where
 type:=λ_ a=>a.1.typeIs
 there:=λ_ a=>⟨let ⟨_,ho,_⟩:=a.1;bC ho,bC a.2⟩
 keep:=λ_ _ a l=>⟨let ⟨o,ho,x⟩:=a.1;⟨o,l r (.inl rfl) o ho,x⟩,l d (.inr rfl) _ a.2⟩
 notList:=Dd
 notTuple:=Dd
 hint:=λ_ _ _ _ a y=>kdl_hint_values a.1.typeIs y
 iter:=λA s D a=>by
  have B:d≠s.heap.objs.size:=dH (bC a.2);refine ⟨_,λi h=>h.IsValIter s.heap.objs.size d i es.size ep/\h.get? d=some od,λE Q y=>XA a.1 a.2 hdd y,?_,⟨_,aX _ rfl,rfl,rfl⟩,aD _ a.2⟩;exact {
   sub:=λb j=>by simp at j;simp [j]
   frame:=λ_ _ _ c l=>⟨c.1.at λo e=>l _ (by simp) o e,l d (by simp) _ c.2⟩
   item:=λi z Q E hi c m=>WZ c.1 c.2 hdd hi λu n p=>m _ u z.toks ⟨hi,rfl⟩ ⟨n,p.extBut _ _ B c.2⟩ λb o j e=>p.extBut b o (λh=>j (by simp [h])) e
   done:=λz Q E c m=>aBk D c.1 c.2 hdd (aE _) λu C=>m u z.toks λb o j e=>C b o (λh=>j (by simp [h])) e
   self:=λ_ _ _ _ c m=>wpAny_pyIter_valiter c.1 m }
end
end HT
namespace L2
open PySem PySem.Spec PyProof.Rows HT
theorem xC:∀{vs:List V}{us:List Value},vs.length=us.length->(∀(i:Nat) (v:V) (u:Value),vs[i]?=some v->us[i]?=some u->eI v u)->eE vs us
 | [],[],_,_=>.nil
 | [],_::_,h,_=>by cases h
 | _::_,[],h,_=>by cases h
 | v::vs,u::us,h,a=>.cons (a 0 v u rfl rfl) (xC (by simpa using h) λi v' u' h1 h2=>a (i+1) v' u' (by simpa using h1) (by simpa using h2))
def VwO(r d:Addr):HO:=.ext λh=>h.IsValuesView r d
@[irreducible] def rNV(P:Program)(w:World)(x:V)(H:Hp)(Q:VK):Prop:=∃Sh a l,x=.ref a/\fF P w Sh H a l/\∀r H',H r=none->H' r=some (VwO r a)->bA H H'->Q (.ref r) H'
theorem rnv{P:Program}{w:World}{Sh:rP}{H:Hp}{a:Addr}{l:List (PyData × V)}{Q:VK}(h:fF P w Sh H a l)(q:∀r H',H r=none->H' r=some (VwO r a)->bA H H'->Q (.ref r) H'):rNV P w (.ref a) H Q:=by unfold rNV;exact ⟨Sh,a,l,rfl,h,q⟩
def tNV(P:Program)(w:World)(tl:TE):TE:=λσ H Q=>tl σ H λx H1=>rNV P w x H1 Q
@[irreducible] def rVL(P:Program)(w:World):List V->Hp->VK->Prop:=λxs H Q=>∃Sh r a l,xs=[.ref r]/\H r=some (VwO r a)/\fF P w Sh H a l/\∀D H',H D=none->H' D=some (.lst (l.map (·.2)))->bA H H'->Q (.ref D) H'
theorem rvl{P:Program}{w:World}{Sh:rP}{H:Hp}{r a:Addr}{l:List (PyData × V)}{Q:VK}(e:H r=some (VwO r a))(h:fF P w Sh H a l)(q:∀D H',H D=none->H' D=some (.lst (l.map (·.2)))->bA H H'->Q (.ref D) H'):rVL P w [.ref r] H Q:=by unfold rVL;exact ⟨Sh,r,a,l,rfl,e,h,q⟩
section
variable{X:Cx}
theorem QW(P:Program)(w:World){l:Expr}{tl:TE}{apos cpos:Pos}(hl:gE X l tl)(hbase:attributeBase l "values" X.env (eval l X.env)=eval l X.env:=by rfl)(hline:(apos.endLine == cpos.line)=true:=by rfl)(hP:X.prog=P:=by rfl)(hw:X.w=w:=by rfl):gE X (.Call (.Attribute l "values" apos) [] [] cpos) (tNV P w tl):=⟨by
 subst hP hw;intro c s σ H Q I h;refine wpAny_Call_method0_late hbase hline (thn (hl.p c s σ H _ I h) λv b ⟨x,H1,I1,u,n⟩=>?_);unfold rNV at n;obtain ⟨N,a,l,e,g,q⟩:=n;subst e;cases u;obtain ⟨A,C,z⟩:=g.isD I1;obtain ⟨r,L,M,_,_,_,_,B,G⟩:=g.open_ I1;obtain ⟨o,S,O,j,i,_⟩:=G;have m:=I1.hok.fresh (aE b.heap.objs.size);have d:(b.heap.push { cls:=.type "dict_values",data:=.fields #[.ref a] }).IsValuesView b.heap.objs.size a:=⟨_,aX _ rfl,rfl,rfl⟩;refine ⟨"dict","dict.values",PySem.F.plainAttrs_dict,PySem.F.slot_dict_values,PySem.F.type_dict_values,A,C,Calls.callWith_builtin rfl (PySem.evalArgs_none (aAa z j i ?_))⟩;refine ⟨.ref b.heap.objs.size,_,I1.laid (a:=b.heap.objs.size) (o:=VwO b.heap.objs.size a) (t':=b.toks) (λ_ _ q=>aD _ q) (aE _) ⟨d,⟨_,aX _ rfl⟩,λT R p k=>?_⟩,rfl,q _ _ m bL (bA.upd m)⟩;obtain ⟨y,J,D⟩:=p;exact ⟨y,k _ J,D⟩⟩
theorem aCV(P:Program)(w:World)(hc:X.calm=true:=by rfl)(hP:X.prog=P:=by rfl)(hw:X.w=w:=by rfl):jO X (.type "list") (rVL P w):=by
 subst hP hw;unfold rVL;intro C s σ H B ξ Q I r h;obtain ⟨x,y,a,l,rfl,e,g,q⟩:=h;obtain ⟨u,rfl,M⟩:=mT r;cases M;obtain ⟨b,U,ν,rfl⟩:=g.ex;obtain ⟨⟨L,B,m,o,z,ι,ζ,μ,δ,J,κ⟩,_⟩:=(show fA X.prog X.w H s.heap a (rY X.prog X.w x a b) from I.hok a _ U);obtain ⟨j,_⟩:=(show fA X.prog X.w H s.heap y (VwO y a) from I.hok y _ e);have A:z.size=b.length:=by
  have:=congrArg List.length J;rw [aB,<-Paired.length m] at this;simpa using this
 refine PySem.W.kdl_call (aCs δ) (I.ok.hd hc) ⟨j,ζ⟩ (by rw [A];exact L.1) λN Z d ε T n c=>?_;have D:=I.hok.fresh (aE s.heap.objs.size);have vals:eE ((EO b).map (·.2)) d.toList:=by
  refine xC (by rw [aB,aB];exact (A.symm.trans c.1.symm).trans (Array.length_toList ..).symm) λi v u j γ=>?_;rw [aI,aI] at j;obtain ⟨p,α,rfl⟩:∃p,b[i]?=some p/\p.2.2=v:=by
   cases e:b[i]? with
   | none=>rw [e] at j;cases j
   | some p=>rw [e] at j;exact ⟨p,rfl,dC j⟩
  obtain ⟨S,rfl⟩:=c.2 i u (by rw [<-Array.getElem?_toList];exact γ);obtain ⟨β,O,η,θ,R⟩:=jH m α;have Y:z[i]=entryOfKey (kH X.prog X.w x) β:=by
   have G:z.toList[i]?=(B.map (entryOfKey (kH X.prog X.w x)))[i]?:=by rw [J]
   rw [aI,O,Array.getElem?_toList,Array.getElem?_eq_getElem S] at G;exact dC G
  rw [Y];exact R
 refine ⟨.ref s.heap.objs.size,_,I.laid (t':=Z) T (aE _) (show fA X.prog X.w _ N _ (.lst ((EO b).map (·.2))) from ⟨by rw [aB,aB];exact L.1,d.toList,ε,vals,by rw [Array.toArray_toList];exact n⟩),rfl,q _ _ D bL (bA.upd D)⟩
end
end L2
namespace Kw
open PySem L2 Mf
abbrev sQ9:Stmt:=(top 60)
theorem cQ9:cI ["_law_feed_here","_law_hall_here","_law_plan_here","_law_least","_law_k","_law_key"] ["_law_feed_here","_law_hall_here"] (bB sQ9):=⟨rfl,rfl,rfl,Kk,rfl,Kk,Kk⟩
abbrev sQ5:Stmt:=(top 61)
theorem cQ5:cI ["_law_hall_here","_law_choice","_law_plan_here","_law_told","_law_all_wrong","_law_looks"] ["_law_hall_here","_law_choice","_law_plan_here"] (bB sQ5):=⟨rfl,rfl,rfl,Kk,rfl,Kk,Kk⟩
abbrev XW:Stmt:=(top 62)
theorem tS:cI ["_law_script","_law_feed_here","_law_hall_here","_law_choices_here","_law_k","_law_choice","_law_dealt","_law_trial_here","_law_rule_here","_law_some","_law_greatest","_law_one","_law_bound"] ["_law_script"] (bB XW):=⟨rfl,rfl,rfl,Kk,rfl,Kk,Kk⟩
section
variable{σ:St}{js:List Nat}{te:TE}{H:Hp}{Q:VK}
theorem PL{K:KFr}{n:Nat}{a0:Addr}{xs:List V}{p L:Addr}{Fd:Hp->Prop}(fl:qP p L Fd)(F0:Fd H)(R:Nat->V->Hp->Prop)(hR:∀i y H1 H2,dL H1 H2->R i y H1->R i y H2)(hz:xs.length<=100000)(ha:H a0=some (.tup xs))
  (hs:∀i x H',xs[i]?=some x->Fd H'->aU p H H'->∃a vs,x=.ref a/\fN K H' a vs/\vs.length=n/\∀Q':VK,(∀y H5,Fd H5->aU p H' H5->R i y H5->Q' y H5)->te (vs.map some++slots σ js) H' Q')
  (hd:∀D ys H',H D=none->H' D=some (.lst ys)->Fd H'->aU p H H'->ys.length=xs.length->(∀(i:Nat) (y:V),ys[i]?=some y->R i y H')->Q (.ref D) H'):mR K n (Itt K a0) σ js uF te H Q:=by
 unfold mR;intro D hD;obtain ⟨np,N⟩:=fl.np _ _ F0 hD;have I:a0≠p:=λz=>by
  obtain ⟨ys,h⟩:=fl.lst H F0;rw [z,h] at ha;cases ha
 refine ⟨λi m ys H'=>m=xs.length-i/\i<=xs.length/\ys.length=i/\H' D=some (.lst ys)/\Fd H'/\aU p H H'/\∀(j:Nat) (y:V),ys[j]?=some y->R j y H',⟨xs.length,by simp,cC _,rfl,bL,fl.same _ _ (bA.upd hD) F0,(bA.upd hD).but,λj y h=>by simp at h⟩,?_⟩;rintro i m ys H2 ⟨rfl,T,u,d,F2,s,B⟩;refine ⟨d,?_⟩;have c:=s.at I ha;by_cases hlt:i<xs.length
 ·refine .inr ⟨⟨xs,xs[i],fN.of c,by simp [hlt]⟩,aY (m:=100000) Oo Dd,λx H3 P=>?_⟩;obtain ⟨rfl,A⟩:=P;have A:=A xs (fN.of c);obtain ⟨a,vs,e,J,M,w⟩:=hs i x H3 A F2 s;refine ⟨a,vs,e,J,M,λb H4=>b=true/\H4=H3,⟨rfl,rfl⟩,?_⟩;rintro b H4 ⟨rfl,rfl⟩;rw [if_pos rfl];refine ⟨λy H5=>Fd H5/\aU p H4 H5/\R i y H5,w _ λy H5 F5 o r=>⟨F5,o,r⟩,?_⟩;rintro y H5 ⟨F5,o,r⟩;have G:=o.at np d;obtain ⟨S,O⟩:=fl.lst H4 F2;have C:dL H5 (upd H5 D (.lst (ys++[y]))):=aU.t aU.self G;refine ⟨G,_,Oo,rfl,hlt,by rw [aV,List.length_singleton,u],bL,fl.but D _ _ np N aU.self F5,aU.thru hD (s.trans o) aU.self,λj z l=>?_⟩;by_cases h:j<ys.length
  ·rw [eY h] at l;exact hR j z _ _ ((o.t O).trans C) (B j z l)
  ·have:j=ys.length:=by
    have:=(aO.mp l).1;rw [aV,List.length_singleton] at this;omega
   subst this;rw [eR (aE _),Nat.sub_self] at l;injection l with l;subst l;rw [u];exact hR i y _ _ C r
 ·have w:i=xs.length:=Oo;subst w;exact .inl ⟨⟨xs,fN.of c,aE _⟩,hd D ys H2 hD d F2 s u B⟩
end
abbrev kI(p:PyData × Int):PyData × V:=(p.1,V.int p.2)
structure QB(P:Program)(w:World)(H:Hp)(a:Addr)(ks:List (PyData × Int)):Prop where
 dn:fF P w XM H a (ks.map kI)
theorem LN(ks:List (PyData × Int))(d:PyData)(v:Int):∃ks':List (PyData × Int),jW (ks.map kI) d (V.int v)=ks'.map kI/\ks'.length<=ks.length+1:=by
 unfold jW;split
 ·refine ⟨ks.map λp=>if p.1=d then (p.1,v) else p,?_,by rw [aB];omega⟩;rw [List.map_map,List.map_map];refine eC λp _=>?_;show (if p.1=d then (p.1,V.int v) else (p.1,V.int p.2))=kI (if p.1=d then (p.1,v) else p);split <;> rfl
 ·exact ⟨ks++[(d,v)],by rw [bZ];rfl,by rw [aV];exact aE _⟩
noncomputable def uS (ks:List (PyData × Int)) (cs:List (List Nat)):Option Int:=(ks.find? λp=>decide (p.1=tP cs)).map (·.2)
theorem LR:∀(ks:List (PyData × Int)) (cs:List (List Nat)),gT (ks.map kI) (tP cs)=(uS ks cs).map V.int
 | [],cs=>rfl
 | p::ks,cs=>by
  rw [bF];by_cases e:p.1=tP cs
  ·rw [fZ e];unfold uS;simp [List.find?_cons,e]
  ·rw [gA e,LR ks cs];unfold uS;simp [List.find?_cons,e]
theorem QB.pl{P:Program}{w:World}{H:Hp}{a:Addr}{ks:List (PyData × Int)}(h:QB P w H a ks):HU P w H a (uS ks):=⟨_,h.dn,LR ks⟩
theorem TN{ks:List (PyData × Int)}{cs:List (List Nat)}{v:Int}(h:uS ks cs=some v):∃p∈ks,p.2=v:=by
 unfold uS at h;cases e:ks.find? λp=>decide (p.1=tP cs) with
 | none=>rw [e] at h;cases h
 | some p=>rw [e] at h;exact ⟨p,List.mem_of_find?_eq_some e,dC h⟩
@[irreducible] def sR(P:Program)(w:World):Sp:=λvs H Q _=>∃(p L:Addr) (x:V) (hs:List HE),vs=[.ref p,x]/\cK H p L/\cE H (EQ hs) x/\1<=hs.length/\hs.length<=3/\(∀h∈hs,1<=h.es.length/\h.es.length<=64)/\∀a ks H',cK H' p L->aU p H H'->H a=none->QB P w H' a ks->ks.length<=40->Q (.ref a) H'
theorem OB{P:Program}{w:World}{H:Hp}{Q:VK}{E:XK}{p L:Addr}{x:V}{hs:List HE}(h1:cK H p L)(h2:cE H (EQ hs) x)(h3:1<=hs.length)(h4:hs.length<=3)(h5:∀h∈hs,1<=h.es.length/\h.es.length<=64)(k:∀a ks H',cK H' p L->aU p H H'->H a=none->QB P w H' a ks->ks.length<=40->Q (.ref a) H'):sR P w [.ref p,x] H Q E:=by
 unfold sR;exact ⟨p,L,x,hs,rfl,h1,h2,h3,h4,h5,k⟩
section
theorem oQ9(F:jP K "_law_plan" "_law_plan" sQ9 f fd)(T:lC K mg c)(FQ2:fW dY P w K mg base 1 "_law_draw" ["_law_feed_here","_law_many"] jT):eT P w K mg base dY 2 f fd ["_law_feed_here","_law_hall_here"] (sR P w):=by
 refine F.oky cQ9 λvs H Q E h=>?_;unfold sR at h;obtain ⟨p,L,x,hs,rfl,FA,rx,n1,n3,υ,k⟩:=h;refine ⟨rfl,λcdv A outer s W=>?_⟩;obtain ⟨ha,xs,rfl,hha,γ⟩:=eU rx;have lx:xs.length=hs.length:=dR γ;have rs0:=γ;refine ⟨_,(aS (bS (i:=2) cQ9.nd rfl (Or.inl rfl) (BX P w XM))
  (aS (bS (i:=3) cQ9.nd rfl (Or.inl rfl) (bR bK (fC (aP (KG CC aM) (aP (KG CC aM) (aP aM (aP aM aJ))))) (bV FQ2 (W.mono Dd) (aP (aL 0) (aP aM aJ))) (λ_ _=>rfl)))
  (aS (fB PassesOwn.never rfl (fQ rfl T.b_range (aP (bV FQ2 (W.mono Dd) (aP (aL 0) (aP aM aJ))) aJ)) (cX (i:=4) cQ9.nd rfl (Or.inl rfl)) (aS (bS (i:=5) cQ9.nd rfl (Or.inl rfl) (jK dF (by rfl) T.b_tuple Kk (aP (jJ (eF.of (psc:=bB sQ9) (N:=["_law_feed_here","_law_hall_here","_law_plan_here","_law_least","_law_k","_law_key"]) (xs:=["_law_trial_here","_law_rule_here"]) (N':=["_law_trial_here","_law_rule_here","_law_feed_here"]) (js:=[0]) Kk rfl rfl rfl) (kB (aL 1)) (λ_ _ _ _=>eZ) (λ_ _ _ _=>(bR (fK K) (bR (fK K) (aL 1) (bV FQ2 (W.mono Dd) (aP (aL 2) (aP (gK (NC K) (by rfl) T.b_len Kk (aP (aL 1) aJ)) aJ))) (λ_ _=>rfl)) aM (λ_ _=>rfl)))) aJ)))
  (bJ (BQ P w W.units (aL 2) (aL 5) (cN fL (aL 3) (bV FQ2 (W.mono Dd) (aP (aL 0) (aP aM aJ))))))))
  (aS (xA (lV (gJ AN (bV FQ2 (W.mono Dd) (aP (aL 0) (aP aM aJ))) aM (nomark _)) (bJ (BQ P w W.units (aL 2) (jK dF (by rfl) T.b_tuple Kk (aP (jJ (eF.of (psc:=bB sQ9) (N:=["_law_feed_here","_law_hall_here","_law_plan_here","_law_least","_law_k","_law_key"]) (xs:=["_law_trial_here","_law_rule_here"]) (N':=["_law_trial_here","_law_rule_here"]) (js:=[]) Kk rfl rfl rfl) (kB (aL 1)) (λ_ _ _ _=>eZ) (λ_ _ _ _=>(bR (fK K) (bR (fK K) (aL 1) aM (λ_ _=>rfl)) aM (λ_ _=>rfl)))) aJ)) (bV FQ2 (W.mono Dd) (aP (aL 0) (aP (gK jI (by rfl) T.b_len Kk (aP (aL 1) aJ)) aJ))))) iA))
  (bJ (cP (aL 2))))))),?_⟩
 refine rnnew λa H1 J g1 s1=>⟨_,rfl,_,rfl,?_⟩;refine uU (by show 4<=64;decide) λq2 H2 hq2 e2 s2=>⟨_,rfl,?_⟩;have F2:=FA.same (s1.trans s2);refine dA F2 Dd Kk λx3 H3 x30 x31 F3 b3=>?_;obtain ⟨ψ,rfl⟩:=mN x30;have ω:a≠p:=FA.ne J;have τ:a≠L:=FA.neL J;have n2p:q2≠p:=(FA.same s1).ne hq2;obtain ⟨lst,ρ⟩:∃z:Int,([V.int (-3),V.int (-1),V.int 0,V.int 0]:List V)[ψ]?=some (V.int z):=by
  rcases (show ψ=0\/ψ=1\/ψ=2\/ψ=3 by omega) with rfl | rfl | rfl | rfl <;> exact ⟨_,rfl⟩
 have e3:H3 q2=some (.lst [V.int (-3),V.int (-1),V.int 0,V.int 0]):=b3.at n2p e2;refine nZ e3 (dM ρ) ?_;have B3:aU p H H3:=(s1.trans s2).but.trans b3;have m:∀{H1 H2:Hp} {l},cK H1 p L->fF P w XM H1 a l->aU p H1 H2->fF P w XM H2 a l:=λ{H1 H2 l} Fx dn b=>by
  obtain ⟨zs,hz⟩:=Fx.lst;exact dn.but hz b
 have g3:fF P w XM H3 a []:=m F2 (g1.same s2) b3;have O:∀{H':Hp},aU p H H'->H' ha=some (.tup xs)/\bG H' (hs.map hD) xs:=λ{H'} b=>by
  have t:=FA.t b;exact ⟨t _ _ hha,γ.flat t (oA _)⟩
 refine ⟨_,rfl,?_⟩;refine dA F3 Dd Kk λx4 H4 x40 x41 F4 b4=>⟨_,rfl,Oo,Oo,?_⟩;refine iT (λi σ H'=>∃(ν κ:Option V) (B:List (PyData × Int)),σ=[some (.ref p),some (.ref ha),some (.ref a),some (.int lst),ν,κ]/\cK H' p L/\aU p H H'/\fF P w XM H' a (B.map kI)/\B.length<=i) ⟨_,_,[],rfl,F4,B3.trans b4,m F3 g3 b4,cC _⟩ ?_ ?_
 ·rintro i σ H5 hi ⟨ν,κ,B,rfl,F5,B5,g5,l5⟩;obtain ⟨X,rxs5⟩:=O B5;refine ⟨_,rfl,ha,rfl,⟨_,fN.of X⟩,PL (cK.like p L) F5 (λj y H'=>∃c:List Nat,cE H' (gW c) y) (λj y Ha Hb s ⟨c,h⟩=>⟨c,h.flat s (gS _)⟩) Oo X (λj y H' φ F' b'=>?_) (λD6 μ H6 hD6 e6 F6 U l6 r6=>?_)⟩
  ·obtain ⟨h,hh,rh⟩:=dS (O (B5.trans b')).2 φ;obtain ⟨ta,tt,tu,rfl,β,rtt,θ⟩:=qL rh;obtain ⟨ra,M,rfl,S,D⟩:=eU θ;have lr:M.length=h.es.length:=dR D;obtain ⟨z1,z2⟩:=υ h (aR hh);refine ⟨ta,[tt,.ref ra],rfl,fN.of β,rfl,λQ' k'=>?_⟩;refine ⟨_,rfl,_,rfl,_,rfl,rlT S ?_⟩;refine dA F' Oo (aZ (bitsle (n:=10) (by show ((M.length:Nat):Int).natAbs<1024;omega)) Dd) λx7 H7 ab x71 F7 I=>?_;obtain ⟨m7,rfl⟩:=mN ab;have t7:=F'.t I;obtain ⟨e,he⟩:∃e,h.es[m7]?=some e:=⟨_,aC Oo⟩;obtain ⟨ve,δ,Z⟩:=gP D he;refine iI (t7 _ _ S) (dM δ) ?_;obtain ⟨eb,ev,rfl,η,rev⟩:=eU Z;obtain ⟨u,z,rfl,ru,rz⟩:=iL rev;exact iI (t7 _ _ η) rfl (k' _ H7 F7 I ⟨e.1,ru.flat t7 (gS _)⟩)
  ·obtain ⟨d,C⟩:∃d:List (List Nat),bG H6 (d.map gW) μ:=by
    have all:∀R:List V,(∀y∈R,∃c:List Nat,cE H6 (gW c) y)->∃d:List (List Nat),bG H6 (d.map gW) R:=λR=>by
     induction R with
     | nil=>exact λ_=>⟨[],bG.nil⟩
     | cons y R ih =>
      intro h;obtain ⟨c,hc⟩:=h y (aQ ..);obtain ⟨d,α⟩:=ih λy φ=>h y (aG _ φ);exact ⟨c::d,bG.cons hc α⟩
    refine all μ λy φ=>?_;obtain ⟨j,hj⟩:=cU.mp φ;exact r6 j y hj
   refine ⟨D6,_,rfl,.inl ⟨fY.of e6,λI hb7=>?_⟩⟩;have G:=bA.upd (o:=.tup μ) hb7;have e7:(upd H6 I (.tup μ)) I=some (.tup μ):=bL;generalize upd H6 I (.tup μ)=H7 at G e7 ⊢;have F7:=F6.same G;have g7:=(m F5 g5 U).same G;have rk7:cE H7 (tP d) (.ref I):=cE.tup e7 (C.same G);refine ⟨_,rfl,_,rfl,?_⟩;refine dA F7 Dd Kk λx8 H8 x80 x81 F8 b8=>?_;have t8:=F7.t b8;refine ⟨_,_,rfl,rfl,⟨_,rfl,_,rfl,?_⟩⟩;obtain ⟨ζ,ι,lk'⟩:=LN B (tP d) (lst+x8);have g8:=m F7 g7 b8;refine rnp g8 (rk7.flat t8 (show eP (tP d)=true from oB d)) ⟨d,rfl⟩ (by rw [aB];omega) λH9 g9 ε=>?_;rw [ι] at g9;have nA:H a=none:=J;exact ⟨_,_,ζ,rfl,F8.but ε ω τ,aU.thru nA (((B5.trans U).trans G.but).trans b8) ε,g9,Oo⟩
 ·rintro σ H5 ⟨ν,κ,B,rfl,F5,B5,g5,l5⟩;refine ⟨λσ H'=>∃(ν κ:Option V) (B:List (PyData × Int)),σ=[some (.ref p),some (.ref ha),some (.ref a),some (.int lst),ν,κ]/\cK H' p L/\aU p H H'/\fF P w XM H' a (B.map kI)/\B.length<=40,?_,?_⟩
  ·rintro σ H6 ⟨ν,κ,B,rfl,F6,B6,g6,l6⟩;exact ⟨_,rfl,k a B H6 F6 B6 J ⟨g6⟩ l6⟩
  ·refine ⟨_,rfl,?_⟩;refine dA F5 Dd Kk λx6 H6 x60 x61 F6 U=>?_;have g6:=m F5 g5 U;refine ⟨_,_,rfl,rfl,⟨_,rfl,yM (λhi0=>?_) (λhi0=>?_)⟩⟩
   ·obtain ⟨aa,rxs6⟩:=O (B5.trans U);refine ⟨_,rfl,_,rfl,rlT aa ?_⟩;refine dA F6 Oo (aZ (bitsle (n:=10) (by show ((xs.length:Nat):Int).natAbs<1024;omega)) Dd) λx7 H7 ab x71 F7 I=>?_;have g7:=m F6 g6 I;obtain ⟨Y,χ⟩:=O ((B5.trans U).trans I);refine ⟨_,rfl,⟨_,rfl,ha,rfl,⟨_,fN.of Y⟩,PJ (as:=hs) (λ_=>true) (λh v=>cE H7 (hD h) v) (λh v H'=>∃c:List Nat,cE H' (gW c) v) (λh v H1 H2 s ⟨c,r⟩=>⟨c,r.flat s (gS _)⟩) Oo Y (Paired.ofRepL χ) (λv h H' hh rh s'=>?_) (λD8 ξ H8 hD8 e8 s8 p8=>?_)⟩⟩
    ·obtain ⟨ta,tt,tu,rfl,β,rtt,θ⟩:=qL (rh.same s');obtain ⟨ra,M,rfl,S,D⟩:=eU θ;have lr:M.length=h.es.length:=dR D;obtain ⟨z1,z2⟩:=υ h hh;obtain ⟨e,he⟩:∃e,h.es[0]?=some e:=⟨_,aC Oo⟩;obtain ⟨ve,δ,Z⟩:=gP D he;obtain ⟨eb,ev,rfl,η,rev⟩:=eU Z;obtain ⟨u,z,rfl,ru,rz⟩:=iL rev;refine ⟨ta,[tt,.ref ra],rfl,fN.of β,rfl,λQ' h=>h H' (bA.refl _),λH5 Q' s5 hp k'=>?_⟩;refine ⟨_,rfl,iI (s5 _ _ S) (dM (j:=0) δ) ?_⟩;exact iI (s5 _ _ η) rfl (k' _ H5 (bA.refl _) ⟨e.1,ru.same s5⟩)
    ·obtain ⟨d,C⟩:∃d:List (List Nat),bG H8 (d.map gW) ξ:=by
      have all:∀(l:List HE) (R:List V),Paired (λh v=>∃c:List Nat,cE H8 (gW c) v) l R->∃d:List (List Nat),bG H8 (d.map gW) R:=λl R h=>by
       induction h with
       | nil=>exact ⟨[],bG.nil⟩
       | cons r t ih =>
        obtain ⟨c,hc⟩:=r;obtain ⟨d,α⟩:=ih;exact ⟨c::d,bG.cons hc α⟩
      exact all _ ξ p8
     refine ⟨D8,_,rfl,.inl ⟨fY.of e8,λε hb9=>?_⟩⟩;have G:=bA.upd (o:=.tup ξ) hb9;have e9:(upd H8 ε (.tup ξ)) ε=some (.tup ξ):=bL;generalize upd H8 ε (.tup ξ)=H9 at G e9 ⊢;have rk9:cE H9 (tP d) (.ref ε):=cE.tup e9 (C.same G);obtain ⟨ζ,ι,lk'⟩:=LN B (tP d) x7;refine rnp (g7.same (s8.trans G)) rk9 ⟨d,rfl⟩ (by rw [aB];omega) λH10 ο b10=>?_;rw [ι] at ο;have nA:H a=none:=J;exact ⟨_,_,ζ,rfl,(F7.same (s8.trans G)).but b10 ω τ,aU.thru nA (((B5.trans U).trans I).trans (s8.trans G).but) b10,ο,Oo⟩
   ·exact ⟨_,_,B,rfl,F6,B5.trans U,g6,Oo⟩
end
structure Sw(n w:Nat)(d:PyData):Prop where
 sh:PyData.showable d=true
 nd:PyData.hasDict d=false
 dp:PyData.depth d<=n
 wd:WL d<=w
theorem Sw.all{n w:Nat}:∀{ds:List PyData},(∀d∈ds,Sw n w d)->PyData.showableAll ds=true/\PyData.hasDictAll ds=false/\PyData.depthAll ds<=n/\CT ds<=ds.length*(w+2)
 | [],_=>⟨rfl,rfl,cC _,cC _⟩
 | d::ds,h=>by
  obtain ⟨a,b,c,e⟩:=h d (aQ ..);obtain ⟨j,i,o,m⟩:=Sw.all λx l=>h x (aG d l);refine ⟨?_,?_,?_,?_⟩
  ·show (PyData.showable d&&PyData.showableAll ds)=true;rw [a,j];rfl
  ·show (PyData.hasDict d || PyData.hasDictAll ds)=false;rw [b,i];rfl
  ·show max (PyData.depth d) (PyData.depthAll ds)<=n;omega
  ·show WL d+2+CT ds<=(ds.length+1)*(w+2);rw [Nat.add_mul,Nat.one_mul];omega
theorem Sw.tup{n w k:Nat}{ds:List PyData}(h:∀d∈ds,Sw n w d)(hl:ds.length<=k):Sw (n+1) (k*(w+2)+4) (.tuple ds):=by
 obtain ⟨a,b,c,e⟩:=Sw.all h;refine ⟨a,b,by show PyData.depthAll ds+1<=n+1;omega,?_⟩;show CT ds+4<=_;have:=cS (w+2) hl;omega
theorem Sw.int{x:Int}{k:Nat}(h:x.natAbs<2^k)(hk:k<=1900:=by decide):Sw 1 1921 (.int x) :=
 ⟨XL (n:=1900) (bH h (bD Dd hk)),rfl,by simp [PyData.depth],aE _⟩
theorem Sw.fr{f:Fr}(h:kK 1900 f):Sw 2 3850 (fO f):=Sw.tup (k:=2) (n:=1) (w:=1921) (λd hd=>by
 simp only [bE,List.not_mem_nil,or_false] at hd;rcases hd with rfl | rfl
 ·exact Sw.int h.1
 ·exact Sw.int h.2) (aE _)
theorem Sw.frs{fs:List Fr}{k:Nat}(h:∀f∈fs,kK 1900 f)(hl:fs.length<=k):Sw 3 (k*3852+4) (vU fs):=Sw.tup (n:=2) (w:=3850) (λd hd=>by
 obtain ⟨f,a,rfl⟩:=aT.mp hd;exact Sw.fr (h f a)) (by rw [aB];exact hl)
theorem rrW{H:Hp}{Q:VK}{x:V}{d:PyData}{n w:Nat}(r:cE H d x)(h:Sw n w d)(hn:n<=60)(hw:w<=16000000)(q:Q (.str d.shown) H):FU [x] H Q :=
 rrI r h.sh h.nd (aZ h.dp hn) (aZ (FQ _ h.sh h.nd) (aZ h.wd (aZ hw Dd))) q
theorem szW{N C:Nat}{q:Rat}(h:Qn N C q)(h0:0<N)(hN:N<2^1000)(hC:C<=2^200):kK 1900 (cW q):=by
 obtain ⟨d,a⟩:=h.fq.num h0;refine ⟨?_,aY a (bH hN (bD Dd Dd))⟩;have b:C*N<=2^200*2^1000:=Nat.mul_le_mul hC (Nat.le_of_lt hN);have c:(2:Nat)^200*2^1000<2^1900:=by rw [<-Nat.pow_add];exact Nat.pow_lt_pow_right Dd Dd
 omega
theorem WD{hs:List HE}{ks:List Nat}(ok:gG hs)(ch:nE hs ks):∃P,0<P/\P<2^1000/\Qn P 1 (1-pq (wrs hs ks)):=by
 have pr:=ok.pr ch;obtain ⟨b,c,P,a,d,pq⟩:=pr.part (wrs hs ks).length;rw [bP] at b c pq;exact ⟨P,a,d,kP pq a b c⟩
theorem aC3{hs:List HE}{ks:List Nat}(ok:gG hs)(ch:nE hs ks):∃P,0<P/\P<2^1000/\∀i,i<hs.length->Qn P (64*5^40) (tU (hs.getD i ⟨[],[],[]⟩).fs.length (hs.getD i ⟨[],[],[]⟩).es (wq (fR (hs.getD i ⟨[],[],[]⟩) (ks.getD i 0)))):=by
 obtain ⟨Ds,pr,m⟩:=ok.ex;have pos:∀d∈Ds,0<d:=λd hd=>by
  obtain ⟨h,u,r⟩:=(oT pr).2 d hd;have:=r.w2;exact (r.sd (j:=0) Oo).2.2.2
 have l:0<pN Ds:=by
  have:=(mW (Ds:=Ds) Ds.length pos).1;rw [bP] at this;exact this
 refine ⟨pN Ds,l,m,λi c=>?_⟩;have e:=aC c;have n:hs.getD i ⟨[],[],[]⟩=hs[i]:=by rw [aK,e];rfl
 obtain ⟨D,hD,r⟩:=jH pr e;have b:=HK ch c;rw [n] at b ⊢;obtain ⟨M,o,R,rfl,TG,p,s⟩:=r.ex;have a:=aC b;have es:fR hs[i] (ks.getD i 0)=(hs[i].ws[ks.getD i 0]).2:=by unfold fR;rw [a];rfl
 rw [es];exact (R.avg (TG.sh _ (aR a))).dvd (yD (aR hD))
theorem UK(z:Int)(zs:List Int):UL (V.int z) (zs.map V.int)=decide (z∈zs):=by
 rw [Bool.eq_iff_iff,decide_eq_true_iff];unfold UL;rw [List.any_eq_true];constructor
 ·rintro ⟨x,a,e⟩;obtain ⟨i,b,rfl⟩:=aT.mp a;have:(i == z)=true:=e;have:i=z:=by simpa using this
  rw [<-this];exact b
 ·intro h;refine ⟨V.int z,List.mem_map_of_mem h,?_⟩;show (z == z)=true;simp
theorem PB(zs:List Int):(zs.map V.int).all qN=true:=List.all_eq_true.mpr λx a=>by
 obtain ⟨i,_,rfl⟩:=aT.mp a
 rfl
@[irreducible] def nQ(P:Program)(w:World):Sp:=λvs H Q _=>∃(x:V) (ca pa:Addr) (hs:List HE) (ks:List Nat) (kp:List (PyData × Int)),vs=[x,.ref ca,.ref pa]/\cE H (EQ hs) x/\H ca=some (.tup (ks.map lE))/\QB P w H pa kp/\gG hs/\nE hs ks/\(∀x∈hs,WQ hs.length x)/\∀H',bA H H'->Q (.bl true) H'
theorem vS{P:Program}{w:World}{H:Hp}{Q:VK}{E:XK}{x:V}{ca pa:Addr}{hs:List HE}{ks:List Nat}{kp:List (PyData × Int)}(h1:cE H (EQ hs) x)(h2:H ca=some (.tup (ks.map lE)))(h3:QB P w H pa kp)(h4:gG hs)(h5:nE hs ks)(h6:∀x∈hs,WQ hs.length x)(k:∀H',bA H H'->Q (.bl true) H'):nQ P w [x,.ref ca,.ref pa] H Q E:=by
 unfold nQ;exact ⟨x,ca,pa,hs,ks,kp,rfl,h1,h2,h3,h4,h5,h6,k⟩
section
theorem oQ5(F:jP K "_law_is_led_right" "_law_is_led_right" sQ5 f fd)(T:lC K mg c)(FQ25:fW dY P w K mg base 5 "led" ["hall","choice","plan"] (xQ P w K))(FQ43:fW dY P w K mg base 6 "together" ["hall","choice"] (jM K))(FQ22:fW dY P w K mg base 1 "is_less" ["one","other"] (lI K))(FQ44:fW dY P w K mg base 3 "total" ["some"] (kR K))(FQ15:fW dY P w K mg base 6 "average" ["trial","rule","way"] (mH K)):eT P w K mg base dY 7 f fd ["_law_hall_here","_law_choice","_law_plan_here"] (nQ P w):=by
 refine F.oky cQ5 λvs H Q E h=>?_;unfold nQ at h;obtain ⟨x,ca,pa,d,m,u,rfl,rx,D,pv,ok,U,hdr,k⟩:=h;refine ⟨rfl,λcdv A outer s o=>?_⟩;have ι:=rx;obtain ⟨ha,xs,rfl,θ,α⟩:=eU rx;have lx:xs.length=d.length:=dR α;have l3:=ok.len;have l1:=ok.ne;have lk:m.length=d.length:=U.length.symm;obtain ⟨W,Ns,N,B,hD9⟩:=aCy Oo hdr U;obtain ⟨L1,L2⟩:=OV (pl:=uS u) B U;obtain ⟨PW,PW0,PW1,qW⟩:=WD ok U;obtain ⟨PA,PA0,PA1,qA⟩:=aC3 ok U;have qS:Qn PA (d.length*(64*5^40)) (iP (avs d m)):=by
  have:=Qn.sumL (l:=List.range d.length) (f:=λi=>tU (d.getD i ⟨[],[],[]⟩).fs.length (d.getD i ⟨[],[],[]⟩).es (wq (fR (d.getD i ⟨[],[],[]⟩) (m.getD i 0)))) λi φ=>qA i (bT.mp φ);rw [cR] at this;exact this
 have Z:=qS.le (aZ (cS _ l3) (show 3*(64*5^40)<=2^200 by decide +kernel));have D25:Dj N 9<2^2500:=Nat.lt_trans hD9 (Nat.pow_lt_pow_right Dd Dd);refine ⟨_,(aS (bS (i:=3) cQ5.nd rfl (Or.inl rfl) (bV FQ25 (o.mono Dd) (aP (aL 0) (aP (aL 1) (aP (aL 2) aJ)))))
  (aS (bS (i:=4) cQ5.nd rfl (Or.inl rfl) (bV FQ43 (o.mono Dd) (aP (aL 0) (aP (aL 1) aJ))))
  (aS (lV (QP (QN (mX (bV FQ22 (o.mono Dd) (aP (aL 4) (aP (bR bK (aL 3) aM (λ_ _=>rfl)) aJ)))) (IB (mX (bV FQ22 (o.mono Dd) (aP (eO (aP aM (aP aM aJ))) (aP (bR bK (aL 3) aM (λ_ _=>rfl)) aJ))))))) (bJ (cP sK)) iA)
  (aS (bS (i:=5) cQ5.nd rfl (Or.inl rfl) (bV FQ44 (o.mono Dd) (aP (jJ (eF.of (psc:=bB sQ5) (N:=["_law_hall_here","_law_choice","_law_plan_here","_law_told","_law_all_wrong","_law_looks"]) (xs:=["_law_test","_law_way"]) (N':=["_law_test","_law_way"]) (js:=[]) Kk rfl rfl rfl) (sA true true rfl T.b_zip (aP (aL 0) (aP (aL 1) aJ))) (λ_ _ _ _=>eZ) (λ_ _ _ _=>(bV FQ15 (o.mono Dd) (aP (bR (fK K) (aL 0) aM (λ_ _=>rfl)) (aP (bR (fK K) (aL 0) aM (λ_ _=>rfl)) (aP (aL 1) aJ)))))) aJ)))
  (aS (lV (gJ (aCo (K:=K)) (KG CC aM) (jK (aCV P w) (by rfl) T.b_list Kk (aP (QW P w (aL 2)) aJ)) (by with_unfolding_all rfl)) (bJ (cP (BW (bV FQ22 (o.mono Dd) (aP (aL 5) (aP (bR bK (aL 3) aM (λ_ _=>rfl)) aJ)))))) iA)
  (bJ (cP (uE AO (gK (NB o.gd o.units) (by rfl) T.b_repr Kk (aP (aL 3) aJ)) (gK (NB o.gd o.units) (by rfl) T.b_repr Kk (aP (eO (aP (aL 4) (aP (eO (aP aM (aP aM aJ))) (aP (aL 5) aJ)))) aJ)) (nomark _))))))))),?_⟩
 refine ⟨_,rfl,_,rfl,_,rfl,?_⟩;refine SA ι D pv.pl B λv1 H1 β r1 q1 q2 q3=>⟨_,rfl,_,rfl,?_⟩;refine rV (ι.same β) (β _ _ D) ok U λv2 H2 τ r2=>?_;have r12:=r1.same τ;obtain ⟨ta,tv,rfl,C,G⟩:=eU r12;unfold bG at G;obtain ⟨w0,tv1,rfl,Y,G⟩:=(show ∃x xs',tv=x::xs'/\cE H2 (fO (cW (cQ d m W (uS u) aW 0))) x/\bG H2 [fO (cW (cQ d m W (uS u) aA 0)),fO (cW (cQ d m W (uS u) (λ_=>0) 1))] xs' from G);obtain ⟨w1,w2,rfl,γ,ζ⟩:=iL G;have z0:kK 4000 (cW (cQ d m W (uS u) aW 0)):=gM q1 (B.dpos 9) D25 Kk;have z1:kK 4000 (cW (cQ d m W (uS u) aA 0)):=gM q2 (B.dpos 9) D25 Kk;have z2:kK 4000 (cW (cQ d m W (uS u) (λ_=>0) 1)):=gM q3 (B.dpos 9) D25 Kk;have zW:kK 4000 (cW (1-pq (wrs d m))):=szq qW PW0 PW1;have zS:kK 4000 (cW (iP (avs d m))):=gM Z PA0 (Nat.lt_trans PA1 (Nat.pow_lt_pow_right Dd Dd)) (aE _);have lookW:(1:Rat)=1:=rfl;refine ⟨_,rfl,_,rfl,iI C rfl ?_⟩;refine lT (gI.of r2) (gI.of Y) zW z0 λb δ=>?_;have r:b=false:=by
  cases b with
  | false=>rfl
  | true=>exact absurd (δ.mp rfl) (Rat.not_lt.mpr L1.1)
 subst r;refine ⟨_,rfl,sD ?_⟩;refine rK (by show 2<=64;decide) λq4 H4 hq4 e4 μ=>⟨_,rfl,?_⟩;refine iI (μ _ _ C) rfl ?_;have ε:gI K H4 (cW 1) (.ref q4):=by rw [jE];exact gI.new (f:=(1,1)) e4
 refine lT ε (gI.of (γ.same μ)) ⟨by rw [jE];decide +kernel,by rw [jE];decide +kernel⟩ z1 λb δ=>?_;have r:b=false:=by
  cases b with
  | false=>rfl
  | true=>exact absurd (δ.mp rfl) (Rat.not_lt.mpr L1.2.1)
 subst r;refine ⟨_,rfl,sD ?_⟩;have S4:=(β.trans τ).trans μ;refine ⟨_,rfl,_,rfl,⟨ha,ca,xs,m.map lE,rfl,S4 _ _ θ,S4 _ _ D,rF (b1:=true) (b2:=true) (xs:=xs) (ys:=m.map lE) (λj y H'=>cE H' (fO (cW (tU (d.getD j ⟨[],[],[]⟩).fs.length (d.getD j ⟨[],[],[]⟩).es (wq (fR (d.getD j ⟨[],[],[]⟩) (m.getD j 0)))))) y) (λj y H1 H2 s h=>h.flat s (fV _)) Oo (S4 _ _ θ) (S4 _ _ D) (by rw [aB];omega) (λj v1' v2' H' Q' hv1 η s' k'=>?_) (λD5 y5 H5 hD5 e5 s5 ad υ=>?_)⟩⟩
 ·obtain ⟨h,hh,rh⟩:=dS α hv1;have ρ:j<d.length:=(aO.mp hh).1;have eh:d.getD j ⟨[],[],[]⟩=h:=by rw [aK,hh];rfl
  rw [aI] at η;obtain ⟨ψ,hkk,rfl⟩:=eJ.mp η;have ek:m.getD j 0=ψ:=by rw [aK,hkk];rfl
  have X:=HK U ρ;rw [eh,ek] at X;obtain ⟨Dh,O⟩:=ok.at_ hh;obtain ⟨M,Nn,R,_,TG,n0,n1⟩:=O.ex;have I:=aC X;obtain ⟨ta',tt,tu,rfl,L,ω,rtu⟩:=qL (rh.same (S4.trans s'));have f2:=O.f2;have ae:fR h ψ=(h.ws[ψ]).2:=by unfold fR;rw [I];rfl
  refine ⟨_,rfl,iI L rfl ?_⟩;refine ⟨_,rfl,iI L rfl ?_⟩;refine ⟨_,rfl,?_⟩;refine CN ω (IW rtu) R Oo O.f4 I (TG.sh _ (aR I)) (TG.b _ (aR I)) λv6 H6 ν S=>k' _ H6 ν ?_;rw [eh,ek,ae];exact S
 have pr5:bG H5 (((List.range d.length).map λi=>cW (tU (d.getD i ⟨[],[],[]⟩).fs.length (d.getD i ⟨[],[],[]⟩).es (wq (fR (d.getD i ⟨[],[],[]⟩) (m.getD i 0))))).map fO) y5:=bG.ofIdx (by rw [ad,lx,aB,aB,cR]) λj y ρ=>by
  have ab:j<d.length:=by have:=(aO.mp ρ).1;omega
  exact ⟨_,by rw [aI,aI,eN ab];rfl,υ j y ρ⟩
 refine kD e5 (HY.of pr5) (zH (N:=PA) (B:=64*5^40) (λf κ=>?_) PA0 (Nat.lt_trans PA1 (Nat.pow_lt_pow_right Dd Dd)) (by rw [aB,cR];omega) Kk) λv6 H6 ν S=>?_
 ·obtain ⟨i,φ,rfl⟩:=aT.mp κ;exact (qA i (bT.mp φ)).fq
 rw [CF (f:=λi=>tU (d.getD i ⟨[],[],[]⟩).fs.length (d.getD i ⟨[],[],[]⟩).es (wq (fR (d.getD i ⟨[],[],[]⟩) (m.getD i 0)))) λa _=>⟨bO _,dI _⟩] at S;have S:cE H6 (fO (cW (iP (avs d m)))) v6:=S;have S6:=(S4.trans s5).trans ν;have s26:=(μ.trans s5).trans ν;refine ⟨_,rfl,_,rfl,?_⟩;refine rnv (pv.dn.same S6) λr7 H7 hr7 e7 ξ=>rvl e7 ((pv.dn.same S6).same ξ) λD8 H8 hD8 ο s8=>?_;have n:=(s26.trans ξ).trans s8;rw [List.map_map,show (λp:PyData × V=>p.2) ∘ kI=λp:PyData × Int=>V.int p.2 from rfl] at ο;have ο:H8 D8=some (.lst ((u.map (·.2)).map V.int)):=by rw [ο,List.map_map];rfl
 refine ⟨D8,_,rfl,.inl (fY.of ο),rfl,PB _,⟨_,rfl,?_⟩⟩;rw [if_neg Dd,UK];by_cases hm:(-1:Int)∈u.map (·.2)
 ·rw [cG hm];refine yL ⟨_,rfl,_,rfl,iI (n _ _ C) rfl ?_⟩;refine lT (gI.of (S.same (ξ.trans s8))) (gI.of (ζ.same n)) zS z2 λb δ=>?_;have r:b=false:=by
   cases b with
   | false=>rfl
   | true=>exact absurd (δ.mp rfl) (Rat.not_lt.mpr L1.2.2)
  subst r;exact ⟨_,rfl,k H8 ((β.trans τ).trans n)⟩
 ·rw [bU hm];refine sD ?_;obtain ⟨E1,E2,E3⟩:=L2 λcs z=>by
   obtain ⟨p,hp,e⟩:=TN z;exact hm (aT.mpr ⟨p,hp,e⟩)
  have χ:=szW qW PW0 PW1 Kk;have zS':=szW Z PA0 PA1 (aE _);have sw:Sw 3 (3*3852+4) (.tuple [fO (cW (1-pq (wrs d m))),fO (1,1),fO (cW (iP (avs d m)))]):=Sw.frs (fs:=[cW (1-pq (wrs d m)),(1,1),cW (iP (avs d m))]) (k:=3) (λf κ=>by
   simp only [bE,List.not_mem_nil,or_false] at κ;rcases κ with rfl | rfl | rfl
   ·exact χ
   ·exact ⟨Kk,Kk⟩
   ·exact zS') (aE _)
  have rT:cE H8 (.tuple [fO (cW (1-pq (wrs d m))),fO (1,1),fO (cW (iP (avs d m)))]) (.ref ta):=by
   rw [<-E1,<-jE,<-E2,<-E3];exact cE.tup (n _ _ C) (bG.cons (Y.same n) (bG.cons (γ.same n) (bG.cons (ζ.same n) bG.nil)))
  refine ⟨_,rfl,rrW rT sw Dd Dd ?_⟩;refine ⟨_,rfl,?_⟩;refine rK (by show 2<=64;decide) λq9 H9 hq9 e9 s9=>⟨_,rfl,?_⟩;refine rK (by show 3<=64;decide) λaa H10 hq10 e10 J=>?_;have ac:cE H10 (.tuple [fO (cW (1-pq (wrs d m))),fO (1,1),fO (cW (iP (avs d m)))]) (.ref aa):=cE.tup e10 (bG.cons ((r2.same n).same (s9.trans J)) (bG.cons (fU (J _ _ e9)) (bG.cons ((S.same (ξ.trans s8)).same (s9.trans J)) bG.nil)));refine rrW ac sw Dd Dd ⟨rfl,?_⟩;simp only [decide_true];exact k H10 (((β.trans τ).trans n).trans (s9.trans J))
end
theorem aCn{X:Cx}:rH X (compareOp .Is) (λx y H Q=>∃a b,x=.bl a/\y=.bl b/\Q (.bl (a == b)) H):=by
 intro c s σ H x y v u Q I d e h;obtain ⟨a,b,rfl,rfl,q⟩:=h;cases d;cases e;exact PyProof.Rows.is_bool ⟨.bl _,H,I,rfl,q⟩
theorem oS{α β:Type}{R:α->β->Prop}:∀{xs:List α}{ys:List β},xs.length=ys.length->(∀(i:Nat) (x:α) (y:β),xs[i]?=some x->ys[i]?=some y->R x y)->Paired R xs ys
 | [],[],_,_=>.nil
 | [],_::_,h,_=>by cases h
 | _::_,[],h,_=>by cases h
 | x::xs,y::ys,h,a=>.cons (a 0 x y rfl rfl) (oS (by simpa using h) λi x' y' h1 h2=>a (i+1) x' y' (by simpa using h1) (by simpa using h2))
theorem ZU{hs:List HE}(hn:hs.length=1\/hs.length=2\/hs.length=3)(h:∀x∈hs,WQ hs.length x):∃Ds,Paired (λh D=>vN D h) hs Ds/\pN (Ds.map (· * 12))<2^1000:=by
 have a:WT hs.length<=12:=by rcases hn with q | q | q <;> rw [q] <;> decide
 have all:∀(n:Nat) (l:List HE),WT n<=12->(∀x∈l,WQ n x)->∃Ds:List Nat,Paired (λh D=>vN D h) l Ds/\∀d∈Ds,d<=LC^6*1000^(4*WT n):=λn l a=>by
  induction l with
  | nil=>exact λ_=>⟨[],.nil,λd hd=>by cases hd⟩
  | cons x l ih =>
   intro m;obtain ⟨t,o,F,W,M,T,R,u⟩:=(m x (aQ ..)).ex;obtain ⟨D,w,s⟩:=aA3 T R u a;obtain ⟨Ds,b,i⟩:=ih λy p=>m y (aG _ p);refine ⟨D::Ds,.cons w b,λd hd=>?_⟩;rcases bE.mp hd with rfl | hd
   ·exact s
   ·exact i d hd
 obtain ⟨Ds,b,i⟩:=all hs.length hs a h;have c:Ds.length=hs.length:=b.length.symm;refine ⟨Ds,b,?_⟩;have j:=AL (B:=LC^6*1000^(4*WT hs.length)*12) (Ds:=Ds.map (· * 12)) λd hd=>by
  obtain ⟨e,r,rfl⟩:=aT.mp hd;exact cS _ (i e r)
 rw [aB,c] at j;refine aY j ?_;rcases hn with q | q | q <;> rw [q] <;> decide +kernel
theorem LQ:∀{xs ys:List Rat},Paired (λx y=>x<=y/\y<=1) xs ys->0<=pq ys/\pq ys<=pq xs
 | _,_,.nil=>⟨by show (0:Rat)<=1;decide,Rat.le_refl⟩
 | x::xs,y::ys,.cons r t=>by
  obtain ⟨h1,h2⟩:=LQ t;obtain ⟨d,c⟩:=r;refine ⟨cT (by grind) h1,?_⟩;show (1-y)*pq ys<=(1-x)*pq xs;have a:(1-y)*pq ys<=(1-x)*pq ys:=Rat.mul_le_mul_of_nonneg_right (by grind) h1;have b:(1-x)*pq ys<=(1-x)*pq xs:=Rat.mul_le_mul_of_nonneg_left h2 (by grind);exact Rat.le_trans a b
theorem VC{g:Rat}{d:Nat}:lw ((cW g).1*12+((cW g).2-(cW g).1)*(d:Int)) ((cW g).2*12)=cW (g+(1-g)*((d:Rat)/12)):=by
 have h:=(bO g).pos;have a:0<(cW g).2*12:=Oo;refine hV (gQ a) (bO _) ?_;rw [vV a,dI];have e:=sX h;rw [dI] at e;have j:((cW g).2:Rat)≠0:=Rat.ne_of_gt (Rat.intCast_pos.mpr h);rw [Rat.intCast_add,Rat.intCast_mul,Rat.intCast_mul,Rat.intCast_mul,Rat.intCast_sub];have c:((12:Int):Rat)=12:=rfl;have i:((d:Int):Rat)=(d:Rat):=Rat.intCast_natCast d;rw [c,i,<-e];generalize ((cW g).2:Rat)=m at j;have b:m*12≠0:=by grind
 have:(g*m*12+(m-g*m)*(d:Rat))=(g+(1-g)*((d:Rat)/12))*(m*12):=by grind
 rw [this,Rat.div_def,Rat.mul_assoc,Rat.mul_inv_cancel _ b];grind
theorem VB{g:Rat}{d D:Nat}(h0:0<=g)(h1:g<=1)(hd:d<=2)(q:Qn D 1 g)(d0:0<D):g<=g+(1-g)*((d:Rat)/12)/\g+(1-g)*((d:Rat)/12)<=1/\Qn (D*12) 1 (g+(1-g)*((d:Rat)/12)):=by
 have h:0<=(d:Rat)/12/\(d:Rat)/12<=1/\Qn 12 1 ((d:Rat)/12):=by
  rcases (show d=0\/d=1\/d=2 by omega) with rfl | rfl | rfl
  ·exact ⟨Kk,Kk,⟨0,Kk,Dd⟩⟩
  ·exact ⟨Kk,Kk,⟨1,Kk,Dd⟩⟩
  ·exact ⟨Kk,Kk,⟨2,Kk,Dd⟩⟩
 obtain ⟨b,e,c⟩:=h;generalize (d:Rat)/12=x at b e c;have i:0<=(1-g)*x:=cT (by grind) b;have j:(1-g)*x<=(1-g)*1:=Rat.mul_le_mul_of_nonneg_left e (by grind);refine ⟨by grind,by grind,?_⟩;have a:=(kP q d0 h0 h1).mul c;rw [Nat.mul_one] at a;exact Qn.le1 (Qn.add (SW (m:=12) q) a) (kM d0 Dd) (by grind) (by grind)
section
theorem aFt(F:jP K "law" "law" XW f fd)(T:lC K mg c)(FQ3:fW dY P w K mg base 1 "_law_feed" ["_law_script"] (sT K))(FQ2:fW dY P w K mg base 1 "_law_draw" ["_law_feed_here","_law_many"] jT)(FQ4:fW dY P w K mg base 4 "_law_hall" ["_law_feed_here"] pW)(FQ1:fW dY P w K mg base 1 "_law_choices" ["_law_hall_here"] mG)(FQ5:fW dY P w K mg base 7 "_law_is_led_right" ["_law_hall_here","_law_choice","_law_plan_here"] (nQ P w))(FQ9:fW dY P w K mg base 2 "_law_plan" ["_law_feed_here","_law_hall_here"] (sR P w))(FQ49:fW dY P w K mg base 5 "wrong" ["trial","rule"] (kQ K))(FQ22:fW dY P w K mg base 1 "is_less" ["one","other"] (lI K))(FQ6:fW dY P w K mg base 1 "_law_low" ["_law_n","_law_d"] mE)(FQ0:fW dY P w K mg base 3 "_law_any" ["_law_shares_here"] (xR K))(FQ21:fW dY P w K mg base 5 "is_dealt" ["bound","shares"] (pY K))(FQ48:fW dY P w K mg base 7 "worst" ["hall"] (pR K)):eT P w K mg base dY 8 f fd ["_law_script"] (uK K):=by
 refine F.oky tS λvs H Q E h=>?_;unfold uK at h;obtain ⟨a,ns,rfl,hS,hl,k⟩:=h;refine ⟨rfl,λcdv A outer s O=>?_⟩;refine ⟨_,(aS (bS (i:=1) tS.nd rfl (Or.inl rfl) (bV FQ3 (O.mono Dd) (aP (aL 0) aJ)))
  (aS (bS (i:=2) tS.nd rfl (Or.inl rfl) (bV FQ4 (O.mono Dd) (aP (aL 1) aJ)))
  (aS (bS (i:=3) tS.nd rfl (Or.inl rfl) (bV FQ1 (O.mono Dd) (aP (aL 2) aJ)))
  (aS (fB PassesOwn.never rfl (fQ rfl T.b_range (aP aM aJ)) (cX (i:=4) tS.nd rfl (Or.inl rfl)) (aS (bS (i:=5) tS.nd rfl (Or.inl rfl) (bR bK (aL 3) (bV FQ2 (O.mono Dd) (aP (aL 1) (aP (gK jI (by rfl) T.b_len Kk (aP (aL 3) aJ)) aJ))) (λ_ _=>rfl)))
  (bJ (lV (QP (QN (QQ (mX (bV FQ5 (O.mono Dd) (aP (aL 2) (aP (aL 5) (aP (bV FQ9 (O.mono Dd) (aP (aL 1) (aP (aL 2) aJ))) aJ)))))) (IB (QQ (mX (bV FQ5 (O.mono Dd) (aP (aL 2) (aP (aL 5) (aP (BX P w XM) aJ))))))))) (bJ (cP sK)) iA))))
  (aS (bS (i:=6) tS.nd rfl (Or.inl rfl) (fC aJ))
  (aS (fB PassesOwn.never rfl (kB (aL 2)) (kC rfl (dO (cX (i:=7) tS.nd rfl (Or.inl rfl)) (dO (cX (i:=8) tS.nd rfl (Or.inl rfl)) iN))) (aS (bS (i:=9) tS.nd rfl (Or.inl rfl) (jK tR (by rfl) T.b_list Kk (aP (bV FQ49 (O.mono Dd) (aP (aL 7) (aP (aL 8) aJ))) aJ)))
  (aS (bS (i:=10) tS.nd rfl (Or.inl rfl) (bR bK (aL 9) aM (λ_ _=>rfl)))
  (aS (fB PassesOwn.never rfl (fX (aL 9)) (cX (i:=11) tS.nd rfl (Or.inl rfl)) (bJ (lV (mX (bV FQ22 (O.mono Dd) (aP (aL 10) (aP (aL 11) aJ)))) (bJ (bS (i:=10) tS.nd rfl (Or.inl rfl) (aL 11))) iA)))
  (bJ (jQ (pJ PySem.F.plainAttrs_list PySem.F.slot_list_append PySem.F.type_list_append sC (aL 6) (aP (bV FQ6 (O.mono Dd) (aP (cN fL (cN fE (bR bK (aL 10) aM (λ_ _=>rfl)) aM) (cN fE (cN yE (bR bK (aL 10) aM (λ_ _=>rfl)) (bR bK (aL 10) aM (λ_ _=>rfl))) (bV FQ2 (O.mono Dd) (aP (aL 1) (aP aM aJ))))) (aP (cN fE (bR bK (aL 10) aM (λ_ _=>rfl)) aM) aJ))) aJ))))))))
  (aS (bS (i:=12) tS.nd rfl (Or.inl rfl) (bV FQ0 (O.mono Dd) (aP (aL 6) aJ)))
  (bJ (cP (aBj (uE aCn (bV FQ21 (O.mono Dd) (aP (aL 12) (aP (jK dF (by rfl) T.b_tuple Kk (aP (aL 6) aJ)) aJ))) sK (nomark _)) (aBi (BW (bV FQ22 (O.mono Dd) (aP (aL 12) (aP (bR bK (bV FQ48 (O.mono Dd) (aP (aL 2) aJ)) aM (λ_ _=>rfl)) aJ))))))))))))))),?_⟩
 refine ⟨_,rfl,?_⟩;refine OC hS hl λp L H1 F1 s1 _ _=>⟨_,rfl,?_⟩;refine IO F1 λv1 B H2 F2 b2 r2 ok κ=>⟨_,rfl,?_⟩;refine CM r2 ok λD H3 s3 hD ls3=>?_;have r3:=r2.same s3;have F3:=F2.same s3;have l3:=ok.len;have l1:=ok.ne;have nDp:D≠p:=F2.ne hD;have nDL:D≠L:=F2.neL hD;obtain ⟨cvs,hDv,rcv⟩:=ls3;have lcv:cvs.length=(chs B).length:=dR rcv;have ν:∀h∈B,∃β,vN β h:=λh Z=>by
  obtain ⟨i,hi⟩:=cU.mp Z;exact ok.at_ hi
 have cl64:(chs B).length<=64:=aZ (ND B.length B rfl λh Z=>(ν h Z).choose_spec.w4) (aZ (bD Dd l3) Dd);have cl1:1<=(chs B).length:=by
  have:∀l:List HE,(∀h∈l,2<=h.ws.length)->∃ε,nE l ε:=λl=>by
   induction l with
   | nil=>exact λ_=>⟨[],.nil⟩
   | cons h l ih =>
    intro hl;obtain ⟨ε,hk⟩:=ih λx hx=>hl x (aG _ hx);exact ⟨0::ε,.cons (by have:=hl h (aQ ..);omega) hk⟩
  obtain ⟨ε,hk⟩:=this B λh Z=>(ν h Z).choose_spec.w2;exact List.length_pos_of_mem ((DK B ε).mpr hk)
 have hes:∀h∈B,1<=h.es.length/\h.es.length<=64:=λh Z=>by
  obtain ⟨t,o,F,W,M,T,R,z⟩:=(κ h Z).ex;have ζ:=R.top.2.2;have ω:=R.few;obtain ⟨e0,r,ee,_⟩:=R.rl.root;rw [ee] at ζ ⊢;rw [dB] at ζ ⊢;omega
 refine ⟨_,rfl,Oo,Oo,iT (λi σ H'=>∃(o4 o5:Option V),σ=[some (.ref a),some (.ref p),some v1,some (.ref D),o4,o5,none,none,none,none,none,none,none]/\cK H' p L/\aU p H3 H') ⟨_,_,rfl,F3,(bA.refl _).but⟩ ?_ ?_⟩
 ·rintro i σ H4 hi ⟨o4,o5,rfl,F4,b4⟩;have t4:=F3.t b4;have hD4:=b4.at nDp hDv;refine ⟨_,rfl,_,rfl,_,rfl,YC hD4 ?_⟩;refine dA F4 Oo (aZ (bitsle (n:=10) (by show ((cvs.length:Nat):Int).natAbs<1024;omega)) Dd) λx5 H5 x50 x51 F5 b5=>?_;obtain ⟨m5,rfl⟩:=mN x50;have hD5:=b5.at nDp hD4;obtain ⟨ε,hks⟩:∃ε,(chs B)[m5]?=some ε:=⟨_,aC Oo⟩;have ψ:=(DK B ε).mp (aR hks);obtain ⟨vk,hvk,rvk⟩:=gP rcv hks;refine nZ hD5 (dM hvk) ?_;have t5:=t4.trans (F4.t b5);have r5:=r3.flat t5 (qK _);obtain ⟨ca,rfl,hca⟩:=lB (rvk.flat t5 (gS _));refine ⟨_,rfl,_,rfl,_,rfl,_,rfl,?_⟩;refine OB F5 r5 l1 l3 hes λpa kp H6 F6 b6 hpa pv lkp=>?_;have δ:=F5.t b6;refine vS (r5.flat δ (qK _)) (δ _ _ hca) pv ok ψ κ λH7 S=>?_;have F7:=F6.same S;refine ⟨_,rfl,sD ?_⟩;refine ⟨_,rfl,_,rfl,?_⟩;refine rnnew λpb H8 hpb g8 G=>vS (kp:=[]) (((r5.flat δ (qK _)).same S).same G) ((S.trans G) _ _ (δ _ _ hca)) ⟨g8⟩ ok ψ κ λH9 s9=>⟨_,rfl,?_⟩;exact sD ⟨_,_,rfl,(F7.same G).same s9,(((b4.trans b5).trans b6).trans S.but).trans (G.trans s9).but⟩
 ·rintro σ H4 ⟨o4,o5,rfl,F4,b4⟩;have t4:=F3.t b4;have r4:=r3.flat t4 (qK _);obtain ⟨Ds,pds,hpz⟩:=ZU Oo κ;obtain ⟨ha,xs,rfl,hha,rxs⟩:=eU r4;have lx:xs.length=B.length:=dR rxs;have lD:Ds.length=B.length:=pds.length.symm;refine uU (by show 0<=64;decide) λχ H5 hLd e5 s5=>?_;have F5:=F4.same s5;have nLp:χ≠p:=F4.ne hLd;have nLL:χ≠L:=F4.neL hLd;refine ⟨_,rfl,ha,rfl,⟨_,fN.of (s5 _ _ hha)⟩,qZ (xs:=xs) (λi σ H'=>∃(o7 o8 o9 ο X:Option V) (ys:List V) (N:List Rat),σ=[some (.ref a),some (.ref p),some (.ref ha),some (.ref D),o4,o5,some (.ref χ),o7,o8,o9,ο,X,none]/\cK H' p L/\dL H5 H'/\H' χ=some (.lst ys)/\ys.length=i/\N.length=i/\(∀(j:Nat) (v:V),ys[j]?=some v->∃x,N[j]?=some x/\cE H' (fO (cW x)) v)/\∀(j:Nat) (x:Rat),N[j]?=some x->∃h β,B[j]?=some h/\Ds[j]?=some β/\0<β/\(∀k,k<h.ws.length->1-pE h k<=x)/\0<=x/\x<=1/\Qn (β*12) 1 x) ⟨_,_,_,_,_,[],[],rfl,F5,(bA.refl _).t,e5,rfl,rfl,λj v h=>by simp at h,λj v h=>by simp at h⟩ (λi σ H' _ q=>?_) ?_ ?_⟩
  ·obtain ⟨_,_,_,_,_,_,_,_,_,t',_⟩:=q;exact fN.of (t' _ _ (s5 _ _ hha))
  ·rintro i y σ H6 hy ⟨o7,o8,o9,ο,X,ys,N,rfl,F6,δ,e6,ly,lq,ry,rq⟩;obtain ⟨h,Z,rh⟩:=dS rxs hy;have hi:i<B.length:=(aO.mp Z).1;obtain ⟨β,hDh,U⟩:=jH pds Z;obtain ⟨ta,tt,tu,rfl,hta,rtt,rtu⟩:=qL ((rh.same s5).flat δ (MF _));refine ⟨ta,[tt,tu],rfl,fN.of hta,rfl,_,_,rfl,_,_,rfl,rfl,⟨_,rfl,_,rfl,?_⟩⟩;refine BS U rtt rtu λv7 H7 S r7=>?_;obtain ⟨wa,η,rfl,hwa,rwx⟩:=qC r7;have lwx:η.length=h.ws.length:=by rw [dR rwx,aB];unfold wrl;rw [aB,cR]
   have w2:=U.w2;have w4:=U.w4;have sd:=λj u=>U.sd (j:=j) u;have μ:=(sd 0 Oo).2.2.2;refine ⟨wa,_,rfl,.inr (fN.of hwa),λI Y=>?_⟩;have G:=bA.upd (o:=.lst η) Y;have τ:(upd H7 I (.lst η)) I=some (.lst η):=bL;generalize upd H7 I (.lst η)=H8 at G τ ⊢;have rw8:=rwx.same G;have φ:∀j v,η[j]?=some v->j<h.ws.length/\cE H8 (fO (cW (1-pE h j))) v:=λj v υ=>by
    have u:j<h.ws.length:=by have:=(aO.mp υ).1;omega
    obtain ⟨ff,hff,rff⟩:=dS rw8 υ;rw [aI,BT u] at hff;cases hff;exact ⟨u,rff⟩
   have win:∀j,j<h.ws.length->0<=1-pE h j/\1-pE h j<=1/\Qn β 1 (1-pE h j):=λj u=>by
    obtain ⟨a1,a2,a3,a4⟩:=sd j u;exact ⟨by grind,by grind,kP a3 a4 a1 a2⟩
   have wz:∀j,j<h.ws.length->kK 4000 (cW (1-pE h j)):=λj u=>szq (win j u).2.2 μ U.dz;obtain ⟨v0,hv0⟩:∃v0,η[0]?=some v0:=⟨_,aC Oo⟩;refine ⟨_,rfl,nZ τ (dM (j:=0) hv0) ?_⟩;refine ⟨_,rfl,I,rfl,⟨_,fY.of τ⟩,?_⟩;have nwp:I≠p:=(F6.same S).ne Y;have nwL':I≠L:=(F6.same S).neL Y;refine kZ (xs:=η) (λm σ H'=>∃(X:Option V) (g:Nat) (ρ:V),σ=[some (.ref a),some (.ref p),some (.ref ha),some (.ref D),o4,o5,some (.ref χ),some tt,some tu,some (.ref I),some ρ,X,none]/\H'=H8/\η[g]?=some ρ/\∀j,j<m->j<h.ws.length->1-pE h j<=1-pE h g) ⟨_,0,v0,rfl,rfl,hv0,λj u=>Oo⟩ (λm σ H' _ q=>?_) ?_ ?_
   ·obtain ⟨_,_,_,_,rfl,_⟩:=q;exact fY.of τ
   ·rintro m v σ _ υ ⟨X,g,ρ,rfl,rfl,ι,C⟩;obtain ⟨hm,rv⟩:=φ m v υ;obtain ⟨hg,rg⟩:=φ g ρ ι;refine ⟨_,rfl,_,rfl,?_⟩;refine lT (gI.of rg) (gI.of rv) (wz g hg) (wz m hm) λb hb=>⟨_,rfl,?_⟩;cases b with
    | true =>
     refine yL ?_;have hlt:=hb.mp rfl;refine ⟨_,rfl,_,m,v,rfl,rfl,υ,λj u J=>?_⟩;rcases (show j<m\/j=m by omega) with q | rfl
     ·have:=C j q J;grind
     ·exact Rat.le_refl
    | false =>
     refine sD ?_;have hle:1-pE h m<=1-pE h g:=Rat.not_lt.mp λz=>by have:=hb.mpr z;cases this
     refine ⟨_,g,ρ,rfl,rfl,ι,λj u J=>?_⟩;rcases (show j<m\/j=m by omega) with q | rfl
     ·exact C j q J
     ·exact hle
   ·rintro σ _ ⟨o11',g,ρ,rfl,rfl,ι,C⟩;obtain ⟨hg,rg⟩:=φ g ρ ι;rw [lwx] at C;obtain ⟨g0,g1,gq⟩:=win g hg;have gz:=wz g hg;obtain ⟨ga,rfl,γ⟩:=DX rg;have F8:=(F6.same S).same G;have e68:=(S.trans G) _ _ e6;refine ⟨_,rfl,RF e68,?_⟩;obtain ⟨n1,n2⟩:=gq.fq.num μ;have dz:=U.dz;have e4:(2:Nat)^1000*100<2^4000:=Kk;have gp:=(bO (1-pE h g)).pos;have zd:((cW (1-pE h g)).2-(cW (1-pE h g)).1).natAbs<2^4000:=Oo;refine ⟨_,rfl,iI γ rfl ?_⟩;refine ⟨_,_,rfl,rfl,tE gz.1 (show (12:Int).natAbs<2^4000 by decide +kernel),⟨_,rfl,iI γ rfl ?_⟩⟩;refine ⟨_,rfl,iI γ rfl ?_⟩;refine ⟨_,_,rfl,rfl,⟨_,rfl,?_⟩⟩;refine dA F8 Dd Kk λx9 H9 x90 x91 F9 b9=>?_;obtain ⟨d9,rfl⟩:=mN x90;have t9:=F8.t b9;refine ⟨_,_,rfl,rfl,tE zd (show ((d9:Nat):Int).natAbs<2^4000 from aY (show ((d9:Nat):Int).natAbs<=100 by omega) Kk),⟨_,_,rfl,rfl,⟨_,rfl,iI (t9 _ _ γ) rfl ?_⟩⟩⟩;refine ⟨_,_,rfl,rfl,tE gz.2 (show (12:Int).natAbs<2^4000 by decide +kernel),?_⟩;refine nR Oo (kO (CH gz.2 (show (12:Int).natAbs<2^4000 by decide +kernel))) λq10 H10 hq10 θ α=>?_;rw [VC] at θ;obtain ⟨d1,d2,d3⟩:=VB g0 g1 (show d9<=2 by omega) gq μ;have e9L:=α _ _ (b9.at nLp e68);refine WC e9L Oo λH11 e11 b11=>?_;have t11:=b11.t e9L;have ξ:dL H6 H11:=(((S.trans G).t.trans t9).trans α.t).trans t11
    refine ⟨_,_,_,_,_,_,N++[1-pE h g+(1-(1-pE h g))*((d9:Rat)/12)],rfl,(F9.same α).but b11 nLp nLL,δ.trans ξ,e11,by rw [aV,ly];rfl,by rw [aV,lq];rfl,λj v u=>?_,λj x u=>?_⟩
    ·by_cases J:j<ys.length
     ·rw [eY J] at u;obtain ⟨x,ζ,ω⟩:=ry j v u;exact ⟨x,by rw [eY Oo];exact ζ,ω.flat ξ (fV _)⟩
     ·have:j=ys.length:=by
       have:=(aO.mp u).1;rw [aV,List.length_singleton] at this;omega
      subst this;rw [eR (aE _),Nat.sub_self] at u;injection u with u;subst u;exact ⟨_,by rw [show ys.length=N.length by omega,eR (aE _),Nat.sub_self];rfl,(fU θ).flat t11 (fV _)⟩
    ·by_cases J:j<N.length
     ·rw [eY J] at u;exact rq j x u
     ·have:j=N.length:=by
       have:=(aO.mp u).1;rw [aV,List.length_singleton] at this;omega
      subst this;rw [eR (aE _),Nat.sub_self] at u;injection u with u;subst u;rw [lq];exact ⟨h,β,Z,hDh,μ,λk hk=>Rat.le_trans (C k hk hk) d1,Rat.le_trans g0 d1,d2,d3⟩
  ·rintro σ H6 ⟨o7,o8,o9,ο,X,ys,N,rfl,F6,δ,e6,ly,lq,ry,rq⟩;have pr:wL N:=wL.of (Ds:=Ds.map (· * 12)) (oS (by rw [aB];omega) λi x d hx hd=>by
    rw [aI] at hd;obtain ⟨e,he,rfl⟩:=eJ.mp hd;obtain ⟨h,β,_,ω,h3,_,h5,h6,h7⟩:=rq i x hx;rw [he] at ω;cases ω;exact ⟨kM h3 Dd,h7,h5,h6⟩) hpz Oo
   have fq6:FqS K H6 χ N:=⟨ys,.inl e6,Oo,ry⟩;obtain ⟨pp0,pp1,Pp,pz0,pz1,pzq⟩:=pr.part N.length;rw [bP] at pp0 pp1 pzq;have zB:kK 4000 (cW (1-pq N)):=szq (kP pzq pz0 pp0 pp1) pz0 pz1;refine ⟨_,rfl,?_⟩;refine SC fq6 pr λv7 H7 S r7=>⟨_,rfl,_,rfl,χ,_,rfl,.inl ⟨fY.of (S _ _ e6),λtb htb=>?_⟩⟩;have G:=bA.upd (o:=.tup ys) htb;have τ:(upd H7 tb (.tup ys)) tb=some (.tup ys):=bL;generalize upd H7 tb (.tup ys)=H8 at G τ ⊢;have fq8:FqS K H8 tb N:=⟨ys,.inr τ,Oo,λi v υ=>by
    obtain ⟨x,ζ,ω⟩:=ry i v υ;exact ⟨x,ζ,ω.same (S.trans G)⟩⟩
   refine IQ (gI.of (r7.same G)) zB fq8 pr λb H9 s9 hb=>?_;have hb1:b=true:=hb.mpr Rat.le_refl;subst hb1;refine ⟨_,_,rfl,rfl,⟨_,rfl,yL ?_⟩⟩;have r9:cE H9 (EQ B) (.ref ha):=((r4.same s5).flat δ (qK _)).same ((S.trans G).trans s9);refine ⟨_,rfl,_,rfl,?_⟩;refine IJ r9 ok λv10 y10 b10 ms H10 α θ r10 eb10 ψ wst=>iI θ rfl ?_;obtain ⟨PW,PW0,PW1,qW⟩:=WD ok ψ;refine lT (gI.of ((r7.same (G.trans s9)).same α)) (gI.of r10) zB (szq qW PW0 PW1) λb hb=>?_;have hb0:b=false:=by
    cases b with
    | false=>rfl
    | true =>
     refine absurd (hb.mp rfl) (Rat.not_lt.mpr ?_);have:=(LQ (xs:=wrs B ms) (ys:=N) (oS (by rw [wM ψ];omega) λi x y hx hy=>by
      obtain ⟨h,β,ζ,_,_,h4,_,h6,_⟩:=rq i y hy;have hi:i<B.length:=(aO.mp ζ).1;obtain ⟨m,hm⟩:∃m,ms[i]?=some m:=⟨_,aC (by have:=ψ.length;omega)⟩;obtain ⟨w1,w2⟩:=IC ψ ζ hm;rw [w1] at hx;cases hx;exact ⟨h4 m w2,h6⟩)).2
     grind
   subst hb0;exact ⟨_,rfl,k H10⟩
end
theorem aFM{α:Type}{us:List α}(h:us.length=1):∃a,us=[a]:=match us,h with | [a],_=>⟨a,rfl⟩
theorem aFL{α:Type}{us:List α}(h:us.length=2):∃a b,us=[a,b]:=match us,h with | [a,b],_=>⟨a,b,rfl⟩
theorem aFK{α:Type}{us:List α}(h:us.length=3):∃a b c,us=[a,b,c]:=match us,h with | [a,b,c],_=>⟨a,b,c,rfl⟩
theorem aFJ{α:Type}{us:List α}(h:us.length=4):∃a b c d,us=[a,b,c,d]:=match us,h with | [a,b,c,d],_=>⟨a,b,c,d,rfl⟩
theorem aFI{α:Type}{us:List α}(h:us.length=5):∃a b c d e,us=[a,b,c,d,e]:=match us,h with | [a,b,c,d,e],_=>⟨a,b,c,d,e,rfl⟩
theorem aCO{K:KFr}{x q:Str}{st:Stmt}{f:Addr}{fd:FuncData}(F:jP K x q st f fd)(P:FuncData->Prop)(h:P fd):∃fd,P fd:=⟨fd,h⟩
inductive Dn (K:KFr) (n:Str) (st:Stmt):Prop
 | mk {f:Addr} {oc:Value} {od:Option Addr} {kV dc pm:Value} {an:Option Addr} {cd ct:Value} {sl:Array (Option Value)} (a:PySem.W.nsIn K mainGlobals n=some (some (.ref f))) (l:K.lookup f=some ⟨oc,od,.func (PySem.W.fnOf n n (rC st) (lO st) (bB st) .none kV dc pm an cd ct),sl⟩) (c:PySem.W.codeIn K cd n=true) (k:PySem.W.keepIn K (.ref f)=true):Dn K n st
theorem fnd(l:PySem.W.OpenLaw)(w:World){K:KFr}{h:Heap}{mg:Str->Option Value}(X:K.In h)(G:h.Ns mainGlobals mg)(base:Heap){n:Str}{st:Stmt}{L:Nat}{ps:List Str}{sp:Sp}(d:Dn K n st)(o:∀{f:Addr}{fd:FuncData},jP K n n st f fd->eT l.prog w K mg base dY L f fd ps sp)(b:∀(kV doc pm:Value) (an:Option Addr) (cdv ct:Value) (us:List Value),us.length=ps.length->bindArgs (PySem.W.fnOf n n (rC st) (lO st) (bB st) .none kV doc pm an cdv ct) ⟨us,[]⟩=pure (ps.zip us):=by intro _ _ _ _ _ _ us hl;first | (obtain ⟨_,rfl⟩:=aFM hl;rfl) | (obtain ⟨_,_,rfl⟩:=aFL hl;rfl) | (obtain ⟨_,_,_,rfl⟩:=aFK hl;rfl) | (obtain ⟨_,_,_,_,rfl⟩:=aFJ hl;rfl) | (obtain ⟨_,_,_,_,_,rfl⟩:=aFI hl;rfl)):fW dY l.prog w K mg base L n ps sp:=by
 obtain ⟨a,e,c,k⟩:=d;exact ⟨_,_,o (JI e c k),PySem.W.mg_of X G a,k,(JI e c k).binds b⟩
open PySem.W (nsIn fnOf codeIn keepIn mg_of mg_none_of) in
theorem aC4{l:PySem.W.OpenLaw}{w:World}{K:KFr}{h:Heap}{mg:Str->Option Value}{fa:Addr}{c_ONE:Addr}{c_NOUGHT:Addr}{tok_LOOKS_ON:Tok}{tok_BREAK_OFF:Tok}(X:K.In h)(G:h.Ns mainGlobals mg)(hfa:mg "law" = some (.ref fa))
  (u_ONE:nsIn K mainGlobals "ONE" = some (some (.ref c_ONE)))
  (u_NOUGHT:nsIn K mainGlobals "NOUGHT" = some (some (.ref c_NOUGHT)))
  (u_LOOKS_ON:nsIn K mainGlobals "LOOKS_ON" = some (some (.int 0 tok_LOOKS_ON)))
  (u_BREAK_OFF:nsIn K mainGlobals "BREAK_OFF" = some (some (.int (-1) tok_BREAK_OFF)))
  (o_ONE:qJ K c_ONE [1,1]=true)
  (o_NOUGHT:qJ K c_NOUGHT [0,1]=true)
  (d0:Dn K "_law_low" sQ6)
  (d1:Dn K "_law_feed" sQ3)
  (d2:Dn K "_law_draw" sQ2)
  (d3:Dn K "_law_shares" OG)
  (d4:Dn K "_law_trial" YA)
  (d5:Dn K "common_divisor" aBR)
  (d6:Dn K "plus" aBI)
  (d7:Dn K "times" aBC)
  (d8:Dn K "less" aBL)
  (d9:Dn K "total" aBB)
  (d10:Dn K "ways_of" aBz)
  (d11:Dn K "way_shares" aBA)
  (d12:Dn K "power" aBH)
  (d13:Dn K "weight" aBy)
  (d14:Dn K "one_more" aBJ)
  (d15:Dn K "ones_more" XT)
  (d16:Dn K "looks_on" aBK)
  (d17:Dn K "noughts" XU)
  (d18:Dn K "rule_faces" aBF)
  (d19:Dn K "amounts" XZ)
  (d20:Dn K "comings" aBS)
  (d21:Dn K "said_of" XR)
  (d22:Dn K "onwards" XS)
  (d23:Dn K "average" XY)
  (d24:Dn K "wrong" aBx)
  (d25:Dn K "_law_more" sQ7)
  (d26:Dn K "_law_says" SJ)
  (d27:Dn K "_law_rule" YB)
  (d28:Dn K "_law_mul" sQ8)
  (d29:Dn K "some_of" aBE)
  (d30:Dn K "_law_any" sQ0)
  (d31:Dn K "is_less" aBN)
  (d32:Dn K "least_place" aBM)
  (d33:Dn K "together" XO)
  (d34:Dn K "greatest_place" XX)
  (d35:Dn K "worst" XN)
  (d36:Dn K "is_dealt" aBO)
  (d37:Dn K "_law_hall" sQ4)
  (d38:Dn K "_law_choices" sQ1)
  (d39:Dn K "put" aBG)
  (d40:Dn K "ends_of" aBQ)
  (d41:Dn K "stands_come_to" XQ)
  (d42:Dn K "stands_behind_look" aBD)
  (d43:Dn K "gathered" aBP)
  (d44:Dn K "looked_at" XV)
  (d45:Dn K "stands_at_first" SI)
  (d46:Dn K "led" IU)
  (d47:Dn K "_law_plan" sQ9)
  (d48:Dn K "_law_is_led_right" sQ5)
  (d49:Dn K "law" XW) (z0:nsIn K mainGlobals "list" = some none) (z1:nsIn K mainGlobals "len" = some none) (z2:nsIn K mainGlobals "abs" = some none) (z3:nsIn K mainGlobals "range" = some none) (z4:nsIn K mainGlobals "sum" = some none) (z5:nsIn K mainGlobals "int" = some none) (z6:nsIn K mainGlobals "sorted" = some none) (z7:nsIn K mainGlobals "dict" = some none) (z8:nsIn K mainGlobals "isinstance" = some none) (z9:nsIn K mainGlobals "tuple" = some none) (z10:nsIn K mainGlobals "zip" = some none) (z11:nsIn K mainGlobals "repr" = some none) (z12:nsIn K mainGlobals "enumerate" = some none) :
  ∃fd:FuncData,(∀(s:Shared) (v:Value),BindsTo s fd ⟨[v],[]⟩ [("_law_script",v)])/\∀base:Heap,K.In base->base.Ns mainGlobals mg->eT l.prog w K mg base dY 8 fa fd ["_law_script"] (uK K):=by
 obtain ⟨d,a,i,b⟩:=d49;have e:=hfa.symm.trans (mg_of X G d);cases e;generalize hcl:(⟨c_ONE,c_NOUGHT,tok_LOOKS_ON,tok_BREAK_OFF⟩:Cl)=c;have T:lC K mg c:=by rw [<-hcl];exact ⟨mg_none_of X G z0,mg_none_of X G z1,mg_none_of X G z2,mg_none_of X G z3,mg_none_of X G z4,mg_none_of X G z5,mg_none_of X G z6,mg_none_of X G z7,mg_none_of X G z8,mg_none_of X G z9,mg_none_of X G z10,mg_none_of X G z11,mg_none_of X G z12,mg_of X G u_ONE,mg_of X G u_NOUGHT,mg_of X G u_LOOKS_ON,mg_of X G u_BREAK_OFF,o_ONE,o_NOUGHT⟩
 have F49:=JI (st:=XW) a i b;refine aCO F49 _ ⟨λs v=>.of_eq rfl,λbase _ _=>?_⟩;have N:=@fnd l w K h mg X G base;have GQ6:=N d0 λF=>oQ6 F T;have GQ3:=N d1 λF=>oQ3 F T;have GQ2:=N d2 λF=>oQ2 F T;have GQ12:=N d3 λF=>aFE F T GQ2 GQ6;have GQ13:=N d4 λF=>aFD F T GQ2 GQ12;have GQ17:=N d5 λF=>aFz F T;have GQ33:=N d6 λF=>aFj F T GQ17;have GQ42:=N d7 λF=>aFa F T GQ17;have GQ26:=N d8 λF=>aFq F T GQ33;have GQ44:=N d9 λF=>aE8 F T GQ33;have GQ46:=N d10 λF=>aE6 F T;have GQ45:=N d11 λF=>aE7 F T;have GQ34:=N d12 λF=>aFi F T;have GQ47:=N d13 λF=>aE5 F T GQ45 GQ42 GQ34;have GQ30:=N d14 λF=>aFm F T;have GQ31:=N d15 λF=>aFl F T GQ30;have GQ28:=N d16 λF=>aFo F T;have GQ29:=N d17 λF=>aFn F T;have GQ36:=N d18 λF=>aFg F T;have GQ14:=N d19 λF=>aFC F T GQ29 GQ36 GQ28 GQ42 GQ31 GQ33;have GQ16:=N d20 λF=>aFA F T GQ14 GQ42 GQ47;have GQ37:=N d21 λF=>aFf F T GQ44 GQ42;have GQ32:=N d22 λF=>aFk F T GQ16 GQ42 GQ28;have GQ15:=N d23 λF=>aFB F T GQ44 GQ32;have GQ49:=N d24 λF=>aE3 F T GQ46 GQ26 GQ37 GQ16;have GQ7:=N d25 λF=>oQ7 F T;have GQ11:=N d26 λF=>aFF F T GQ2 GQ6;have GQ10:=N d27 λF=>aFG F T GQ2 GQ11 GQ7;have GQ8:=N d28 λF=>oQ8 F T GQ6;have GQ38:=N d29 λF=>aFe F T GQ42 GQ26;have GQ0:=N d30 λF=>oQ0 F T GQ8 GQ6;have GQ22:=N d31 λF=>aFu F T;have GQ24:=N d32 λF=>aFs F T GQ22;have GQ43:=N d33 λF=>aE9 F T GQ38 GQ49;have GQ20:=N d34 λF=>aFw F T GQ24 GQ26;have GQ48:=N d35 λF=>aE4 F T GQ20 GQ49 GQ43
 have GQ21:=N d36 λF=>aFv F T GQ22 GQ38;have GQ4:=N d37 λF=>oQ4 F T GQ2 GQ13 GQ10;have GQ1:=N d38 λF=>oQ1 F T;have GQ35:=N d39 λF=>aFh F T;have GQ18:=N d40 λF=>aFy F T GQ26 GQ33;have GQ41:=N d41 λF=>aFb F T GQ35 GQ42;have GQ40:=N d42 λF=>aFc F T GQ41 GQ42 GQ30;have GQ19:=N d43 λF=>aFx F T GQ33;have GQ27:=N d44 λF=>aFp F T;have GQ39:=N d45 λF=>aFd F T GQ29 GQ36 GQ41 GQ19;have GQ25:=N d46 λF=>aFr F T GQ18 GQ45 GQ39 GQ27 GQ40 GQ19 GQ44;have GQ9:=N d47 λF=>oQ9 F T GQ2;have GQ5:=N d48 λF=>oQ5 F T GQ25 GQ43 GQ22 GQ44 GQ15;exact aFt F49 T GQ3 GQ2 GQ4 GQ1 GQ5 GQ9 GQ49 GQ22 GQ6 GQ0 GQ21 GQ48
end Kw
namespace PySem.W.Fast
def tw8679344465651342891:=()
def tw1188194943583435531:=()
def tw16641874009763142566:=()
def tw6110992313472618866:=()
def tw12902181262503061616:=()
def tw12948992015563739360:=()
def tw4889735987987163276:=()
def tw1639035750495219835:=()
def tw14584187279396391476:=()
def tw17640673428284702299:=()
def tw9680010584302273372:=()
def tw2955728978180301167:=()
def tw2198526656855371876:=()
def tw14819788833986863450:=()
def tw1560210825879555906:=()
def tw4096478415092683443:=()
def tw14743532938495036167:=()
def tw992975653836827648:=()
def tw7341818928644501435:=()
def tw10683090496258038221:=()
def tw10289310208004564750:=()
def tw1247156587858112332:=()
def tw6993423534276882791:=()
def tw12888450075370370094:=()
def tw5029496993607420088:=()
def tw2734335301389794739:=()
def tw11678055687934899447:=()
def tw11300866117842875063:=()
def tw13629537451285289524:=()
def tw13548438546925889138:=()
def tw8660074698400111014:=()
def tw11525344238173835952:=()
def tw11951546608784485536:=()
def tw9184820929517352388:=()
def tw13343100255633294609:=()
def tw12675728358513363036:=()
def tw7515282035935260534:=()
def tw4847370080194188162:=()
def tw15167908399718056388:=()
def tw14784594492500467577:=()
def tw18032220902632736444:=()
def tw846340676393672475:=()
def tw2190285044975716106:=()
def tw2707406129509031912:=()
def tw635060851077341771:=()
def tw16547873691787311786:=()
def tw7262662479456005383:=()
def tw13049265907303429570:=()
def tw1053608915927177443:=()
def tw15102821538679359953:=()
def tw9738316653925718146:=()
def tw6720024749090251740:=()
def tw2594360557935046264:=()
def tw16980114650249824329:=()
def tw9726568610716341545:=()
def tw9158910228984936709:=()
def tw6311148056936972939:=()
def tw2252880945794516926:=()
def tw3716259065519970696:=()
def tw16191880236400578358:=()
def tw11186631717102647791:=()
def tw171578623393350924:=()
def tw14806596934958378146:=()
def tw1810580951621497081:=()
def tw16148480904221520265:=()
def tw14125231906689614578:=()
def tw10613390272504478200:=()
def tw8316916533540072094:=()
def tw2716172479125916091:=()
def tw5237181605341461796:=()
def tw8004876008393291535:=()
def tw8488489105283009154:=()
def tw1618465099200834987:=()
def tw15601588082061366849:=()
def tw531041445569613512:=()
def tw12856877936585552719:=()
def tw15868731760958500452:=()
def tw15318045600300385403:=()
def tw10574771161785919118:=()
def tw17593946237644626911:=()
def tw2122858539116795890:=()
def tw15362942508513806772:=()
def tw11590912753448013056:=()
def tw15458804047236215134:=()
def tw10041077485103254676:=()
def tw14039581410936325997:=()
def tw3645575943949462243:=()
def tw15828111567882825182:=()
def tw750941240668836966:=()
def tw5182356697925500696:=()
def tw6602907547624648246:=()
def tw7848132625044067728:=()
def tw5775816732815262659:=()
def tw13336477290445564877:=()
def tw7225079732911495816:=()
def tw6574670242984043118:=()
def tw1828450663393586615:=()
def tw11047368753891658204:=()
def tw6509796602851266865:=()
def tw10767831529611454524:=()
def tw11388575067370708374:=()
def tw18170608368611147439:=()
def tw17579595573136739058:=()
def tw3939966691176707271:=()
def tw13415305118546420039:=()
def tw15750700055742675425:=()
def tw13714144608688122437:=()
def tw13023771642459871021:=()
def tw13613002045157079995:=()
def tw14928388836581547253:=()
def tw17813942183113081101:=()
def tw6727012008341795704:=()
def tw16075003844796580214:=()
def tw15743241151175019292:=()
def tw16405412518060566197:=()
def tw14128036262118204029:=()
def tw8908895448645325826:=()
def tw4518184750021030744:=()
def tw3622566159007353342:=()
def tw6191088601187343790:=()
def tw4925409224883490263:=()
def tw12349098242586100323:=()
def tw249936082173330883:=()
def tw4540630735041695548:=()
def tw12074509196222989147:=()
def tw4684278932293162818:=()
def tw13701197210931390569:=()
def tw311659348517054551:=()
def tw7824733742864440878:=()
def tw2995744186997345270:=()
def tw17488273524930297428:=()
def tw7858212749958046304:=()
def tw1367477663605223911:=()
def tw727360431591630358:=()
def tw14261403733613526852:=()
def tw14938291505541170157:=()
def tw13990588802840340207:=()
def tw6442769235705311432:=()
def tw6297999720058982463:=()
def tw17386055163255509300:=()
def tw16105264789265845988:=()
def tw1313352788694902680:=()
def tw6368939630353218870:=()
def tw6102988615676882439:=()
def tw2450662700691631807:=()
def tw14535355811378761859:=()
def tw14216562888443112823:=()
def tw13665552300132124155:=()
def tw10046493050937153853:=()
def tw12347292754071078553:=()
def tw5435450260835810946:=()
def tw16807649148433118850:=()
def tw15629248957537533948:=()
def tw10063518925845542163:=()
def tw2153968174202744617:=()
def tw3417756633565194422:=()
def tw16075822581010958237:=()
def tw15584801091047916950:=()
def tw8660591617917811011:=()
def tw2917150610226480226:=()
def tw11314813549390668295:=()
def tw9781890722741879072:=()
def tw6388293097077526016:=()
def tw15425215485479952712:=()
def tw14642508998947075899:=()
def tw14061769967906384886:=()
def tw475551390974715583:=()
def tw12032503780544624722:=()
def tw8537692967678102909:=()
def tw17050427776550925550:=()
def tw2753939900984654943:=()
def tw13026795064155604333:=()
def tw6817739132873492463:=()
def tw3723776329468734310:=()
def tw16401951754774911928:=()
def tw6827566411135438398:=()
def tw2867290484407228683:=()
def tw14579295412802894449:=()
def tw3162876219842565216:=()
def tw15383119648132886159:=()
def tw16409582273895289278:=()
def tw10055564964440566356:=()
def tw607283943789973012:=()
def tw16176402331659619405:=()
def tw14018548477758086726:=()
end PySem.W.Fast
open PySem PySem.W PyProof.Rows
set_option maxRecDepth 100000 in
set_option maxHeartbeats 0 in
theorem PySem.Challenge.cw_earlystop_k77_whole_side_by_side_holds : PySem.Challenge.rw_earlystop_k77_whole_side_by_side.Holds := by
  w_on;o_law;k_head;(case hw=>w_witness2)
  k_fill
  refine L2.RD (l:=PySem.Challenge.rw_earlystop_k77_whole_side_by_side) (n:=63) (k:=8) (x := "_law_script") (CX:=L2.dY) (sp:=λK=>Kw.uK K) rfl Dd rfl ⟨rfl,Dd,Dd,rfl⟩ (λw h Y=>PySem.W.kIn_of Y) ?F (λK H a i e _ d=>Kw.SB d e) (λ_ _ _ _ z=>z)
  case F =>
    intro w j m h KX G b
    refine' Kw.aC4 KX G b ?u_ONE ?u_NOUGHT ?u_LOOKS_ON ?u_BREAK_OFF ?o_ONE ?o_NOUGHT ?d0 ?d1 ?d2 ?d3 ?d4 ?d5 ?d6 ?d7 ?d8 ?d9 ?d10 ?d11 ?d12 ?d13 ?d14 ?d15 ?d16 ?d17 ?d18 ?d19 ?d20 ?d21 ?d22 ?d23 ?d24 ?d25 ?d26 ?d27 ?d28 ?d29 ?d30 ?d31 ?d32 ?d33 ?d34 ?d35 ?d36 ?d37 ?d38 ?d39 ?d40 ?d41 ?d42 ?d43 ?d44 ?d45 ?d46 ?d47 ?d48 ?d49 ?z0 ?z1 ?z2 ?z3 ?z4 ?z5 ?z6 ?z7 ?z8 ?z9 ?z10 ?z11 ?z12
    (case u_ONE|u_NOUGHT|u_LOOKS_ON|u_BREAK_OFF|z0|z1|z2|z3|z4|z5|z6|z7|z8|z9|z10|z11|z12=>k_is);(case d0|d1|d2|d3|d4|d5|d6|d7|d8|d9|d10|d11|d12|d13|d14|d15|d16|d17|d18|d19|d20|d21|d22|d23|d24|d25|d26|d27|d28|d29|d30|d31|d32|d33|d34|d35|d36|d37|d38|d39|d40|d41|d42|d43|d44|d45|d46|d47|d48|d49=>refine' Kw.Dn.mk ?a ?l ?c ?k;(case a=>k_is);(case l=>k_is);(case c=>k_is);(case k=>k_is));(case o_ONE=>kernel_rfl);(case o_NOUGHT=>kernel_rfl)
