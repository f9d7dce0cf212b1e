import PyProof.Rows.All
import Wide.All
import OpenK.AllK
import Wide.FinOn
import Lean
import PyProof.EqAt
import PyProof.EqKinds
import PyProof.TupleCall
import KE.IntBitsLaws
import PyProof.ZipIter
import PyProof.ListMulRoad
import PyProof.AutoListH
import PyProof.Rows.SeqMore
import PyProof.Rows.SumAny
import PyProof.SliceStr2
import PyProof.WalksMore
import KE.KSortTup
import PyProof.AttrMissHeap
import PyProof.TupleIter
import KE.KDictOf
import PyProof.DictWalks
import PyProof.DictValues
import KE.KDictList
import PyProof.Rows.MinMaxN
import PyProof.Rows.TupDisplay
import PyProof.DictTruth
import PyProof.Rows.SortRev
import PyProof.Rows.CallKwBuiltin
import PyProof.EnumMake
import PyProof.Rows.StrJoin2
import PyProof.StrBlockG
import PyProof.Rows.Digits
import PyProof.Rows.StrOr
import PyProof.StrCalls2
import PyProof.StrBlock2
import KE.KIntText
import KE.KRevIter
import KE.LcSums
import PyProof.StationsW
import PyProof.Rows.CatchBare
import OpenK.KRaise
import KE.KIsAll
import OpenK.KOwn
import PyProof.ExcInit
import Wide.Seal
import PyProof.P3Eq
import PyProof.Claim2Refuses
import KE.KEqDict
import PyProof.DictItems
import KE.KPairComp
import PyProof.DictRoadsH
import PySem.Challenge.RW_earlystop_k76_led_by_a_plan
set_option Elab.async false
set_option linter.all false
set_option maxHeartbeats 0
set_option maxRecDepth 100000
theorem Oo{p:Prop}(h:p:=by omega):p:=h
theorem Dd{p:Prop}(h:p:=by decide):p:=h
theorem Kk{p:Prop}(h:p:=by decide +kernel):p:=h
namespace PySem
abbrev aB:=@List.getElem?_eq_getElem
abbrev aC:=@List.length_map
abbrev aD:=@Heap.get?_push_of_some
abbrev aE:=@List.getD_eq_getElem?_getD
abbrev aG:=@Nat.le_refl
abbrev aL:=@List.getElem?_map
abbrev aM:=@List.mem_cons_of_mem
abbrev aR:=@List.mem_cons_self
abbrev aS:=@List.mem_map
abbrev aT:=@List.length_append
abbrev aU:=@List.map_cons
abbrev aV:=@List.mem_of_getElem?
abbrev aX:=@List.getElem?_eq_some_iff
abbrev aY:=@Nat.le_trans
abbrev bA:=@Nat.lt_of_le_of_lt
abbrev bB:=@Heap.get?_push_size
abbrev bD:=@Heap.lt_size
abbrev bE:=@List.mem_cons
abbrev bG:=@List.size_toArray
abbrev bI:=@Nat.pow_le_pow_right
abbrev bK:=@Nat.lt_of_lt_of_le
abbrev bN:=@Bool.false_ne_true
abbrev bP:=@decide_eq_false
abbrev bR:=@List.map_append
abbrev bS:=@Nat.zero_le
abbrev bT:=@List.mem_singleton
abbrev bV:=@List.length_cons
abbrev bW:=@List.length_take
abbrev bY:=@decide_eq_true
abbrev bZ:=@List.mem_append_right
abbrev cA:=@Nat.lt_irrefl
abbrev cC:=@Bool.and_eq_true
abbrev cE:=@List.take_length
abbrev cM:=@List.mem_range
abbrev cO:=@List.map_congr_left
abbrev dA:=@List.mem_append_left
abbrev dB:=@Option.some.inj
abbrev dC:=@List.mem_append
abbrev dD:=@Nat.ne_of_lt
abbrev dE:=@List.mem_iff_getElem?
abbrev dF:=@List.getElem?_eq_none
abbrev dM:=@Nat.mul_le_mul_right
abbrev eA:=@List.length_replicate
abbrev fA:=@Nat.mul_le_mul_left
abbrev fX:=@List.length_range
abbrev gA:=@List.getElem?_range
abbrev iN:=@List.mem_filter
abbrev jI:=@Int.natAbs_mul
abbrev jJ:=@Heap.size_push
abbrev lG:=@Nat.mul_pos
end PySem
open PySem
namespace L2
open PySem PySem.Spec PyProof.Rows
abbrev fD:=Sum Int Str
def wH:fD->Value->Bool
 | .inl k,v=>Value.isInt k v
 | .inr x,v=>Value.isStrOf x v
def aEj(w:World):fD->Int
 | .inl k=>hashInt k
 | .inr x=>hashStr w x
theorem fH:∀{k:fD}{v:Value},wH k v=true->(∃i t,k=Sum.inl i/\v=Value.int i t)\/(∃x t,k=Sum.inr x/\v=Value.str x t)
 | .inl i,v,h=>by
  obtain ⟨t,e⟩:=Value.isInt_shape (k:=i) (v:=v) h;exact .inl ⟨i,t,rfl,e⟩
 | .inr x,v,h=>by
  obtain ⟨t,e⟩:=Value.isStrOf_shape (x:=x) (v:=v) h;exact .inr ⟨x,t,rfl,e⟩
theorem NL(i:Int)(t:Tok):wH (.inl i) (.int i t)=true:=by simp [wH,Value.isInt]
theorem NK(x:Str)(t:Tok):wH (.inr x) (.str x t)=true:=by simp [wH,Value.isStrOf]
theorem aBp(a b:Int):decide ((Sum.inl a:fD)=Sum.inl b)=(a == b):=by
 by_cases e:a=b
 ·subst e;simp
 ·have h:¬(Sum.inl a:fD)=Sum.inl b:=λq=>e (Sum.inl.inj q);rw [bP h];exact (beq_eq_false_iff_ne.mpr e).symm
theorem aBm(a b:Str):decide ((Sum.inr a:fD)=Sum.inr b)=decide (a=b):=by
 by_cases e:a=b
 ·subst e;simp
 ·have h:¬(Sum.inr a:fD)=Sum.inr b:=λq=>e (Sum.inr.inj q);rw [bP h,bP e]
theorem aBo(a:Int)(b:Str):decide ((Sum.inl a:fD)=Sum.inr b)=false:=bP (λq=>nomatch q)
theorem aBn(a:Str)(b:Int):decide ((Sum.inr a:fD)=Sum.inl b)=false:=bP (λq=>nomatch q)
def eQ(prog:Program)(w:World):PySem.KeyKind prog w fD where
 is:=wH
 hash:=aEj w
 inj:=λv a b ha hb=>by
  rcases fH ha with ⟨i,t,rfl,rfl⟩ | ⟨x,t,rfl,rfl⟩
  ·rcases fH hb with ⟨j,u,rfl,e⟩ | ⟨y,u,rfl,e⟩
   ·injection e with e1 _;rw [e1]
   ·exact nomatch e
  ·rcases fH hb with ⟨j,u,rfl,e⟩ | ⟨y,u,rfl,e⟩
   ·exact nomatch e
   ·injection e with e1 _;rw [e1]
 byValue:=λk v h=>by
  rcases fH h with ⟨i,t,rfl,rfl⟩ | ⟨x,t,rfl,rfl⟩ <;> rfl
 pyHash:=λhv h=>by
  rcases fH hv with ⟨i,t,rfl,rfl⟩ | ⟨x,t,rfl,rfl⟩
  ·exact wpAny_pyHash_int h
  ·exact wpAny_pyHash_str h
 eqBool:=λhu hv h=>by
  rcases fH hu with ⟨i,t,rfl,rfl⟩ | ⟨x,t,rfl,rfl⟩
  ·rcases fH hv with ⟨j,u,rfl,rfl⟩ | ⟨y,u,rfl,rfl⟩
   ·rw [aBp] at h;exact wpAny_eqBool_int h
   ·rw [aBo] at h;exact SeqAt.EqAt.int_str i t y u _ _ _ _ h
  ·rcases fH hv with ⟨j,u,rfl,rfl⟩ | ⟨y,u,rfl,rfl⟩
   ·rw [aBn] at h;exact SeqAt.EqAt.str_int x t j u _ _ _ _ h
   ·rw [aBm] at h;exact wpAny_eqBool_str h
 «strs» := λk x t v h=>by
  rcases fH h with ⟨i,u,rfl,e⟩ | ⟨y,u,rfl,e⟩
  ·exact nomatch e
  ·injection e with e1 _;subst e1;cases v <;> rfl
theorem EJ(prog:Program)(w:World)(i:Int)(t:Tok):(eQ prog w).is (.inl i) (.int i t)=true:=NL i t
theorem EI(prog:Program)(w:World)(x:Str)(t:Tok):(eQ prog w).is (.inr x) (.str x t)=true:=NK x t
inductive V where
 | non | bl (b:Bool) | int (i:Int) | str (x:Str) | byt (b:Array UInt8) | flt (b:UInt64) | ref (a:Addr) | ty (n:String)
 deriving DecidableEq
def dO:V->Value->Prop
 | .non,u=>u=Value.none
 | .bl b,u=>u=Value.bool b
 | .int i,u=>∃t,u=Value.int i t
 | .str x,u=>∃t,u=Value.str x t
 | .byt b,u=>∃t,u=Value.bytes b t
 | .flt b,u=>∃t,u=Value.float b t
 | .ref a,u=>u=Value.ref a
 | .ty n,u=>u=Value.type n
abbrev dS:List V->List Value->Prop:=Paired dO
theorem dS.length{xs:List V}{us:List Value}(r:dS xs us):xs.length=us.length:=Paired.length r
theorem dS.get:∀{xs:List V}{us:List Value}{i:Nat}{x:V},dS xs us->xs[i]?=some x->∃u,us[i]?=some u/\dO x u
 | _,_,_,_,.nil,e=>by simp at e
 | _,_,0,_,.cons r _,e=>by simp at e;subst e;exact ⟨_,rfl,r⟩
 | _,_,i+1,x,.cons _ t,e=>by
  obtain ⟨u,h1,h2⟩:=dS.get (i:=i) (x:=x) t (by simpa using e);exact ⟨u,by simpa using h1,h2⟩
theorem dS.set{x:V}{u:Value}(r:dO x u):∀{xs:List V}{us:List Value}(i:Nat),dS xs us->dS (xs.set i x) (us.set i u)
 | _,_,_,.nil=>.nil
 | _,_,0,.cons _ t=>.cons r t
 | _,_,i+1,.cons q t=>.cons q (dS.set r i t)
theorem dS.append:∀{xs ys:List V}{us ws:List Value},dS xs us->dS ys ws->dS (xs++ys) (us++ws)
 | _,_,_,_,.nil,s=>s
 | _,_,_,_,.cons r t,s=>.cons r (dS.append t s)
theorem dS.take:∀{xs:List V}{us:List Value}(n:Nat),dS xs us->dS (xs.take n) (us.take n)
 | _,_,0,_=>.nil
 | _,_,_+1,.nil=>.nil
 | _,_,n+1,.cons r t=>.cons r (dS.take n t)
theorem dS.drop:∀{xs:List V}{us:List Value}(n:Nat),dS xs us->dS (xs.drop n) (us.drop n)
 | _,_,0,r=>r
 | _,_,_+1,.nil=>.nil
 | _,_,n+1,.cons _ t=>dS.drop n t
def tF:Option V->Option Value->Prop
 | some v,some u=>dO v u
 | none,none=>True
 | _,_=>False
def KV{κ:Type}:List (κ × V)->List (κ × Value)->Prop:=Paired λ(p:κ × V) (q:κ × Value)=>p.1=q.1/\dO p.2 q.2
def kV:fD->V
 | .inl i=>.int i
 | .inr x=>.str x
inductive HO where
 /-- a list -/
 | lst (xs:List V)
 /-- a tuple (never changes) -/
 | tup (xs:List V)
 /-- a dict whose keys are ints and texts;one whose keys are tuples of ints and texts (the empty one is both) -/
 | dK (kvs:List (fD × V)) | dT (kvs:List (List fD × V))
 /-- a set of ints: its members,its size -/
 | set (S:Int->Bool) (n:Nat)
 /-- an instance of the class at C,its dict at dx,its attributes -/
 | ins (C dx:Addr) (fs:List (Str × V))
 /-- the dict of the instance at x -/
 | own (x:Addr)
 /-- the dict of an exception -/
 | xd (fs:List (Str × V))
 /-- a bound method,f of x -/
 | met (f x:Addr)
 /-- a range object lo,lo+1,.. below hi -/
 | rng (lo hi:Int)
 /-- a thing that is known to the object (the script;a dict while a loop walks it): read,never written while it is so -/
 | frz (o:Obj) (u:HO)
 /-- a code object's table -/
 | tbl (ps:Array Value)
 /-- any other thing,by what is true of its one object (a def of one's own: SetO a S n:=HO.ext λh=>..) -/
 | ext (φ:Heap->Prop)
abbrev Hp:=Addr->Option HO
def upd(H:Hp)(a:Addr)(o:HO):Hp:=λb=>if b=a then some o else H b
theorem bH{H:Hp}{a:Addr}{o:HO}:upd H a o a=some o:=by unfold upd;rw [if_pos rfl]
theorem cU{H:Hp}{a b:Addr}{o:HO}(h:b≠a):upd H a o b=H b:=by unfold upd;rw [if_neg h]
theorem IT{H:Hp}{a:Addr}{o u:HO}:upd (upd H a o) a u=upd H a u:=by
 funext b;unfold upd;split <;> rfl
theorem EG{H:Hp}{a b:Addr}{o u:HO}(h:H a=some o)(h':H b=some u)(d:o≠u):a≠b:=by
 intro e;subst e;rw [h] at h';exact d (dB h')
theorem cX{H:Hp}{a b:Addr}{o:HO}(h:H a=some o)(h':H b=none):a≠b:=by
 intro e;subst e;rw [h] at h';cases h'
section
variable(P:Program)(w:World)
def eM(H:Hp)(h:Heap)(a:Addr):HO->Prop
 | .lst xs=>xs.length<=sizeLine/\∃(its:List Value) (n:Nat),dS xs its/\h.get? a=some { cls:=.type "list",data:=.seq its.toArray n }
 | .tup xs=>(xs.length<=sizeLine/\∃o,h.get? a=some o/\o.dict=none)/\∃its:List Value,dS xs its/\IsTup h a its.toArray
 | .dK kvs=>kvs.length<=sizeLine/\(a == sysModules)=false/\∃vs,KV kvs vs/\h.DictOf (eQ P w) a vs
 | .dT kvs=>kvs.length<=sizeLine/\(a == sysModules)=false/\∃xs:List (List fD × Addr × Value),
   Paired (λ(p:List fD × V) (q:List fD × Addr × Value)=>p.1=q.1/\H q.2.1=some (.tup (p.1.map kV))/\dO p.2 q.2.2) kvs xs /\
   ∃o es ep,h.get? a=some o/\o.ExactDict/\o.data=.dict es ep/\es.toList=xs.map (entryOfKey (tupleKind (eQ P w)))/\(xs.map (·.1)).Nodup
 | .set S n=>h.SetOf (intKind P w) a S n
 | .ins C dx fs=>H dx=some (.own a)/\fs.length<=1000/\dx≠a/\h.get? a=some (PySem.W.instObj C dx) /\
   ∃mA,h.Ns1 dx mA/\(∀f,tF (fs.lookup f) (mA f))/\PySem.Within mA (fs.map (·.1))
 | .own _=>∃o,h.get? a=some o
 | .xd fs=>∃mA,h.Ns1 a mA/\∀f,tF (fs.lookup f) (mA f)
 | .rng lo hi=>∃t u v,h.get? a=some { cls:=.type "range",data:=.fields #[.int lo t,.int hi u,.int 1 v] }
 | .frz o u=>h.get? a=some o/\eM H h a u
 | .tbl ps=>h.get? a=some { cls:=.none,data:=.fields ps }
 | .met f x=>h.get? a=some (PySem.W.methodObj (.ref f) (.ref x))
 | .ext φ=>φ h/\(∃o,h.get? a=some o)/\∀h1 h2:Heap,φ h1->(∀o,h1.get? a=some o->h2.get? a=some o)->φ h2
def nV(H:Hp)(h:Heap):Prop:=∀a o,H a=some o->eM P w H h a o
end
section
variable{P:Program}{w:World}{H H':Hp}{h h':Heap}{a:Addr}{o:HO}
theorem eM.lt(x:eM P w H h a o):a<h.objs.size:=by
 cases o with
 | lst xs=>obtain ⟨_,_,_,_,e⟩:=x;exact bD e
 | tup xs=>obtain ⟨_,_,_,p⟩:=x;exact p.lt
 | dK kvs=>obtain ⟨_,_,_,_,o,_,_,e,_⟩:=x;exact bD e
 | dT kvs=>obtain ⟨_,_,_,_,o,_,_,e,_⟩:=x;exact bD e
 | set S n=>obtain ⟨o,_,_,_,e,_⟩:=x;exact bD e
 | ins C dx fs=>obtain ⟨_,_,_,e,_⟩:=x;exact bD e
 | own y=>obtain ⟨_,e⟩:=x;exact bD e
 | xd fs=>obtain ⟨_,⟨_,_,_,e,_⟩,_⟩:=x;exact bD e
 | rng lo hi=>obtain ⟨_,_,_,e⟩:=x;exact bD e
 | frz ob u=>obtain ⟨e,_⟩:=x;exact bD e
 | tbl ps=>exact bD (show h.get? a=some _ from x)
 | met f y=>exact bD (show h.get? a=some _ from x)
 | ext φ=>obtain ⟨_,⟨_,e⟩,_⟩:=x;exact bD e
theorem Paired.mapP{α β:Type}{F G:α->β->Prop}:∀{l₁:List α}{l₂:List β},Paired F l₁ l₂->(∀a b,F a b->G a b)->Paired G l₁ l₂
 | _,_,.nil,_=>.nil
 | _,_,.cons r t,f=>.cons (f _ _ r) (Paired.mapP t f)
theorem eM.stay(x:eM P w H h a o)(k:∀b u,(b=a\/H b=some (.own a))->h.get? b=some u->h'.get? b=some u)
  (ho:∀b,H b=some (.own a)->H' b=some (.own a)) (ht:∀b xs,H b=some (.tup xs)->H' b=some (.tup xs)):eM P w H' h' a o:=by
 induction o with
 | lst xs=>obtain ⟨z,m,n,r,e⟩:=x;exact ⟨z,m,n,r,k _ _ (.inl rfl) e⟩
 | tup xs=>obtain ⟨⟨z,L,J,D⟩,m,r,i,e,c⟩:=x;exact ⟨⟨z,L,k _ _ (.inl rfl) J,D⟩,m,r,i,k _ _ (.inl rfl) e,c⟩
 | dK kvs=>obtain ⟨z,y,I,r,i,l,j,e,c⟩:=x;exact ⟨z,y,I,r,i,l,j,k _ _ (.inl rfl) e,c⟩
 | dT kvs =>
  obtain ⟨z,y,xs,r,i,l,j,e,c⟩:=x;exact ⟨z,y,xs,Paired.mapP r λp q z=>⟨z.1,ht _ _ z.2.1,z.2.2⟩,i,l,j,k _ _ (.inl rfl) e,c⟩
 | set S n=>obtain ⟨i,l,j,t,e,c⟩:=x;exact ⟨i,l,j,t,k _ _ (.inl rfl) e,c⟩
 | ins C dx fs =>
  obtain ⟨d,z,ne,e,s,⟨A,l,j,G,c⟩,r⟩:=x;exact ⟨ho _ d,z,ne,k _ _ (.inl rfl) e,s,⟨A,l,j,k _ _ (.inr d) G,c⟩,r⟩
 | own y=>obtain ⟨i,e⟩:=x;exact ⟨i,k _ _ (.inl rfl) e⟩
 | xd fs=>obtain ⟨s,⟨A,l,j,e,c⟩,r⟩:=x;exact ⟨s,⟨A,l,j,k _ _ (.inl rfl) e,c⟩,r⟩
 | rng lo hi=>obtain ⟨t,u,v,e⟩:=x;exact ⟨t,u,v,k _ _ (.inl rfl) e⟩
 | frz i u ih=>obtain ⟨e,q⟩:=x;exact ⟨k _ _ (.inl rfl) e,ih q⟩
 | tbl ps =>
  have e:h.get? a=some { cls:=.none,data:=.fields ps }:=x;show h'.get? a=some { cls:=.none,data:=.fields ps };exact k a _ (.inl rfl) e
 | met f y =>
  have e:h.get? a=some (PySem.W.methodObj (.ref f) (.ref y)):=x;show h'.get? a=some (PySem.W.methodObj (.ref f) (.ref y));exact k a _ (.inl rfl) e
 | ext φ=>obtain ⟨p,⟨o,e⟩,B⟩:=x;exact ⟨B _ _ p λo q=>k _ _ (.inl rfl) q,⟨o,k _ _ (.inl rfl) e⟩,B⟩
theorem nV.lt(x:nV P w H h)(e:H a=some o):a<h.objs.size:=(x a o e).lt
theorem nV.fresh(x:nV P w H h)(e:h.objs.size<=a):H a=none:=by
 cases q:H a with
 | none=>rfl
 | some u=>exact absurd (bK (x.lt q) e) (cA _)
theorem nV.kept(x:nV P w H h)(k:∀b u,h.get? b=some u->h'.get? b=some u):nV P w H h':=λa o e =>
 (x a o e).stay (λb u _ q=>k b u q) (λ_ q=>q) λ_ _ q=>q
theorem nV.laid(x:nV P w H h)(k:∀b u,h.get? b=some u->h'.get? b=some u)(hp:h.objs.size<=a)(new:eM P w (upd H a o) h' a o):nV P w (upd H a o) h':=λb u e=>by
 have d:=x.fresh hp;by_cases hb:b=a
 ·subst hb;rw [bH] at e;cases e;exact new
 ·rw [cU hb] at e;exact (x b u e).stay (λc v _ q=>k c v q) (λc q=>by rw [cU (cX q d)];exact q) λc f q=>by rw [cU (cX q d)];exact q
end
def Rd(H:Hp)(a:Addr)(u:HO):Prop:=H a=some u\/∃o,H a=some (.frz o u)
theorem Rd.ok{P:Program}{w:World}{H:Hp}{h:Heap}{a:Addr}{u:HO}(r:Rd H a u)(x:nV P w H h):eM P w H h a u:=by
 rcases r with r | ⟨o,r⟩
 ·exact x a u r
 ·obtain ⟨_,q⟩:=x a _ r;exact q
def Mut:Option HO->Prop
 | some (.lst _)=>True
 | some (.dK _)=>True
 | some (.dT _)=>True
 | some (.set _ _)=>True
 | some (.ins _ _ _)=>True
 | some (.ext _)=>True
 | _=>False
section
variable{P:Program}{w:World}{H:Hp}{h h':Heap}{x e:Addr}{o':HO}
theorem nV.write(ok:nV P w H h)(mu:Mut (H x))(he:e=x\/H e=some (.own x))(k:∀b u,b≠e->h.get? b=some u->h'.get? b=some u)(heo:∃u,h'.get? e=some u)
  (new:eM P w (upd H x o') h' x o'):nV P w (upd H x o') h':=λb u q=>by
 have a:∀c y,H c=some (.own y)->c≠x:=λc y r z=>by subst z;rw [r] at mu;exact mu
 have d:∀c f,H c=some (.tup f)->c≠x:=λc f r z=>by subst z;rw [r] at mu;exact mu
 by_cases hb:b=x
 ·subst hb;rw [bH] at q;cases q;exact new
 ·rw [cU hb] at q;by_cases hbe:b=e
  ·have j:H b=some (.own x):=by
    rcases he with z | z
    ·exact absurd (hbe.trans z) hb
    ·rw [hbe];exact z
   rw [q] at j;cases j;obtain ⟨v,l⟩:=heo;exact ⟨v,by rw [hbe];exact l⟩
  ·refine (ok b u q).stay (λc v i r=>k c v ?_ r) (λc r=>by rw [cU (a c b r)];exact r) λc f r=>by rw [cU (d c f r)];exact r
   rcases i with rfl | i
   ·exact hbe
   ·rintro rfl;rcases he with z | z
    ·exact a c b i z
    ·rw [i] at z;cases z;exact hb rfl
end
structure Un(fs ex:List Addr)(H H':Hp)(h h':Heap):Prop where
 keep:∀b o,h.get? b=some o->H b=none->b ∉ fs->b ∉ ex->h'.get? b=some o
 slot:∀b o,h.get? b=some o->H b=none->b∈fs->b ∉ ex->∃sl,h'.get? b=some { o with slots:=sl }
 free:∀b o,h.get? b=some o->H b=none->b ∉ ex->H' b=none
 there:∀b o,h.get? b=some o->b ∉ ex->∃o',h'.get? b=some o'
 tups:∀b xs,H b=some (.tup xs)->H' b=some (.tup xs)
 frzs:∀b o u,H b=some (.frz o u)->H' b=some (.frz o u)
 tbls:∀b ps,H b=some (.tbl ps)->∃more,H' b=some (.tbl (ps++more))
section
variable{fs fs' ex ex':List Addr}{H H1 H2:Hp}{h h1 h2 h':Heap}{a x e:Addr}{o:HO}
theorem Un.any(u:Un fs ex H H1 h h1){b:Addr}{ob:Obj}(q:h.get? b=some ob)(n:H b=none)(hx:b ∉ ex):∃sl,h1.get? b=some { ob with slots:=sl }:=by
 by_cases hb:b∈fs
 ·exact u.slot b ob q n hb hx
 ·exact ⟨ob.slots,u.keep b ob q n hb hx⟩
theorem Un.kept(k:∀b u,h.get? b=some u->h'.get? b=some u):Un fs ex H H h h' :=
 ⟨λb a q _ _ _=>k b a q,λb a q _ _ _=>⟨a.slots,k b a q⟩,λ_ _ _ n _=>n,λb a q _=>⟨a,k b a q⟩,λ_ _ q=>q,λ_ _ _ q=>q,λ_ c q=>⟨#[],by rw [q];simp⟩⟩
theorem Un.refl:Un fs ex H H h h:=Un.kept λ_ _ q=>q
theorem Un.laid(k:∀b u,h.get? b=some u->h'.get? b=some u)(hp:h.objs.size<=a)(hn:H a=none):Un fs ex H (upd H a o) h h' where
 keep:=λb u q _ _ _=>k b u q
 slot:=λb u q _ _ _=>⟨u.slots,k b u q⟩
 free:=λb u q n _=>by rw [cU (dD (bK (bD q) hp))];exact n
 there:=λb u q _=>⟨u,k b u q⟩
 tups:=λb c q=>by rw [cU (cX q hn)];exact q
 frzs:=λb u c q=>by rw [cU (cX q hn)];exact q
 tbls:=λb d q=>⟨#[],by rw [cU (cX q hn),q];simp⟩
theorem Un.write(mu:Mut (H x))(he:e=x\/H e=some (.own x))(k:∀b u,b≠e->h.get? b=some u->h'.get? b=some u)(heo:∃u,h'.get? e=some u):Un fs ex H (upd H x o) h h':=by
 have d:∀b,H b=none->b≠x:=λb n z=>by subst z;rw [n] at mu;exact mu
 have c:∀b,H b=none->b≠e:=λb n z=>by
  subst z;rcases he with r | r
  ·exact d b n r
  ·rw [n] at r;cases r
 have a:∀b u,H b=some u->¬Mut (some u)->b≠x:=λb u q i z=>by subst z;rw [q] at mu;exact i mu
 refine ⟨λb u q n _ _=>k b u (c b n) q,λb u q n _ _=>⟨u.slots,k b u (c b n) q⟩,λb u q n _=>by rw [cU (d b n)];exact n,λb u q _=>?_,
  λb f q=>by rw [cU (a b _ q λz=>z)];exact q,λb u f q=>by rw [cU (a b _ q λz=>z)];exact q,λb j q=>⟨#[],by rw [cU (a b _ q λz=>z),q];simp⟩⟩
 by_cases hbe:b=e
 ·subst hbe;exact heo
 ·exact ⟨u,k b u hbe q⟩
end
def trk(h:Heap)(H:Hp):List Addr:=(List.range h.objs.size).filter λa=>(H a).isSome
def BT(h:Heap)(H:Hp):Heap:=PySem.W.hideAll h (trk h H)
theorem NN(h:Heap)(H:Hp):(BT h H).objs.size=h.objs.size:=PySem.W.hideAll_size _ _
theorem RY{h:Heap}{H:Hp}{b:Addr}{o:Obj}(e:h.get? b=some o)(n:H b=none):(BT h H).get? b=some o :=
 PySem.W.hideAll_get _ e λa=>by
  have q:(H b).isSome=true:=(iN.mp a).2;rw [n] at q;simp at q
theorem WX{h:Heap}{H:Hp}{b:Addr}{o:Obj}(e:(BT h H).get? b=some o):h.get? b=some o/\H b=none:=by
 have a:h.get? b=some o:=PySem.W.of_hideAll (trk h H) e;refine ⟨a,?_⟩;cases q:H b with
 | none=>rfl
 | some x =>
  have c:b∈trk h H:=iN.mpr ⟨cM.mpr (bD a),by simp [q]⟩;have z:(BT h H).get? b=none:=PySem.W.hideAll_none (trk h H) c;rw [z] at e;cases e
structure Mod(K:PySem.W.Frag)(mg:Str->Option Value)(base:Heap):Prop where
 kin:K.In base
 glob:base.Ns mainGlobals mg
 blt:∃mb,base.Ns builtinsNs mb/\∀x:Str,x ≠ "__name__" -> mb x=bootBuiltins x
 nolimit:base.NoLimit
/-- the context: a def's body (or a comprehension's block) running. base: fixed through the whole law;s₀,H₀: the entry;outer: the frames whose slots others may change (a def's callers);stack: all frames that run;
   ex: iterators that were made ahead of the entry and are walked here (a comprehension's);fn: the names whose cells were made at the entry (a def: all;a comprehension's block: its own);calm: not within an except suite;pn: pins that every state bears;xe: what is wanted of an exception that leaves the code -/
structure Cx where
 prog:Program
 w:World
 K:PySem.W.Frag
 mg:Str->Option Value
 base:Heap
 A:Around
 N:List Str
 s₀:Shared
 H₀:Hp
 env:Env
 outer:List Env
 stack:List Env
 ex:List Addr
 fn:Str->Bool
 calm:Bool
 pn:List (Addr × Obj)
 xe:Value->Shared->Prop
def frs(l:List Env):List Addr:=l.filterMap (·.frame)
abbrev Cx.fs(X:Cx):List Addr:=frs X.outer
def Vis(sc:Scope)(x:Str):Prop:=sc.names.lookup x=some .local\/sc.names.lookup x=some .cell\/sc.names.lookup x=some .free
def Loc(sc:Scope)(x:Str):Prop:=sc.names.lookup x=some .local\/sc.names.lookup x=some .cell
def aEz(env:Env)(h:Heap)(m:Str->Option Value)(x:Str)(u:Value):Prop :=
 (env.kindOf x=some .local/\m x=some u)\/((env.kindOf x=some .cell\/env.kindOf x=some .free)/\∃c,env.cells.lookup x=some c/\h.IsCell c (some u))
structure Cx.Ok(X:Cx):Prop where
 mod:Mod X.K X.mg X.base
 kind:X.env.scope.kind=.function
 glob:X.env.globals=mainGlobals
 blt:X.env.builtins=builtinsNs
 above:X.s₀.heap.objs.size<=X.env.locals
 inj:∀x y c,X.env.cells.lookup x=some c->X.env.cells.lookup y=some c->x=y
 has:∀x,(X.env.kindOf x=some .cell\/X.env.kindOf x=some .free)->∃c,X.env.cells.lookup x=some c
 cab:∀x c,X.fn x=true->X.env.cells.lookup x=some c->X.s₀.heap.objs.size<=c
 hd:X.calm=true->X.A.handled=none
 frames:X.A.frames=some X.stack
 stk:X.stack=X.outer\/(X.stack=X.env::X.outer/\X.env.frame=some X.env.locals)
 exf:∀b∈X.ex,b≠X.env.locals/\∀x c,X.env.cells.lookup x=some c->c≠b
 bs:∀b o,X.base.get? b=some o->X.s₀.heap.get? b=some o/\X.H₀ b=none
 bsz:X.base.objs.size<=X.s₀.heap.objs.size
 noex:∀b o,X.base.get? b=some o->b ∉ X.ex
 exfs:∀b∈X.ex,b ∉ X.fs
 funs:X.s₀.heap.FunFrames X.base X.outer
 frf:∀b∈X.fs,X.H₀ b=none
structure cH(X:Cx)(pins:List (Addr × Obj))(σ:List (Option V))(H:Hp)(s:Shared):Prop where
 ok:X.Ok
 os:s.os=X.s₀.os
 bare:AllBare s.gens
 base:Un X.fs X.ex X.H₀ H X.s₀.heap s.heap
 loc:∃m,s.heap.Ns X.env.locals m/\∀(i:Nat) (x:Str) (v:V),X.N[i]?=some x->σ[i]?=some (some v)->Vis X.env.scope x->∃u,dO v u/\aEz X.env s.heap m x u
 cell:∀x c,X.env.cells.lookup x=some c->∃v,s.heap.IsCell c v
 free:H X.env.locals=none
 freeC:∀x c,X.env.cells.lookup x=some c->H c=none
 pin:∀p∈X.pn++pins,s.heap.get? p.1=some p.2/\H p.1=none/\p.1≠X.env.locals/\p.1 ∉ X.fs/\∀v,p.2.data ≠ .cell v
 hok:nV X.prog X.w H s.heap
 len:σ.length=X.N.length
section
variable{X:Cx}{pins:List (Addr × Obj)}{σ:List (Option V)}{H H':Hp}{s:Shared}{h':Heap}
theorem Cx.Ok.nofr(ok:X.Ok){b:Addr}{o:Obj}(e:X.base.get? b=some o):b ∉ X.fs:=λa=>by
 have:=(ok.funs.mem a).1;rw [e] at this;cases this
theorem cH.bs(I:cH X pins σ H s):∀b o,X.base.get? b=some o->s.heap.get? b=some o/\H b=none:=λb o e =>
 ⟨I.base.keep b o (I.ok.bs b o e).1 (I.ok.bs b o e).2 (I.ok.nofr e) (I.ok.noex b o e),I.base.free b o (I.ok.bs b o e).1 (I.ok.bs b o e).2 (I.ok.noex b o e)⟩
theorem cH.bk(I:cH X pins σ H s):∀b o,X.base.get? b=some o->s.heap.get? b=some o:=λb o e=>(I.bs b o e).1
theorem cH.mod(I:cH X pins σ H s):Mod X.K X.mg X.base:=I.ok.mod
theorem cH.kIn(I:cH X pins σ H s):X.K.In s.heap:=I.ok.mod.kin.keeps I.bk
theorem cH.lt(I:cH X pins σ H s):X.env.locals<s.heap.objs.size:=let ⟨_,hn,_⟩:=I.loc;hn.lt
theorem cH.sz(I:cH X pins σ H s):X.s₀.heap.objs.size<=s.heap.objs.size:=aY I.ok.above (Nat.le_of_lt I.lt)
theorem cH.nofs(I:cH X pins σ H s){a:Addr}(h:s.heap.objs.size<=a):a ∉ X.fs:=λc=>by
 obtain ⟨_,o,b,_⟩:=I.ok.funs.mem c;exact absurd (bK (bD b) (aY I.sz h)) (cA _)
theorem cH.cne(I:cH X pins σ H s):∀x c,X.env.cells.lookup x=some c->c≠X.env.locals:=λx c e z=>by
 obtain ⟨v,o,d,hd⟩:=I.cell x c e;obtain ⟨m,⟨h,i,f,b,a,_⟩,_⟩:=I.loc;rw [z,b] at d;cases d;rw [a] at hd;cases hd
theorem cH.funs(I:cH X pins σ H s):s.heap.FunFrames X.base X.outer:=by
 have all:∀(l:List Env),(∀b∈frs l,b∈X.fs)->X.s₀.heap.FunFrames X.base l->s.heap.FunFrames X.base l:=by
  intro l
  induction l with
  | nil=>intro _ _;trivial
  | cons env r ih =>
   intro f j;obtain ⟨h,⟨L,o,d,n,m,hd⟩,i⟩:=j;have c:L∈X.fs:=f L (by unfold frs;rw [List.filterMap_cons,d];exact aR);obtain ⟨p,e⟩:=I.base.slot L o m (I.ok.frf L c) c λz=>I.ok.exfs L z c;exact ⟨h,⟨L,_,d,n,e,hd⟩,ih (λb a=>f b (by unfold frs;rw [List.filterMap_cons,d];exact aM _ a)) i⟩
 exact all X.outer (λ_ a=>a) I.ok.funs
theorem cH.stack(I:cH X pins σ H s):s.heap.FunFrames X.base X.stack:=by
 rcases I.ok.stk with e | ⟨e,b⟩
 ·rw [e];exact I.funs
 ·rw [e];obtain ⟨m,a,_⟩:=I.loc;refine .cons (by rw [I.ok.kind];decide) b a ?_ I.funs;exact Heap.get?_none_of_le (aY I.ok.bsz I.ok.above)
theorem cH.stkSub(I:cH X pins σ H s):∀b∈frs X.stack,b∈X.env.locals::X.fs:=λb a=>by
 rcases I.ok.stk with e | ⟨e,c⟩
 ·rw [e] at a;exact aM _ a
 ·rw [e] at a;unfold frs at a;rw [List.filterMap_cons,c] at a;exact a
theorem cH.stkFree(I:cH X pins σ H s):∀b∈frs X.stack,H b=none:=λb a=>by
 rcases bE.mp (I.stkSub b a) with e | a
 ·rw [e];exact I.free
 ·obtain ⟨_,o,c,_⟩:=I.ok.funs.mem a;exact I.base.free b o c (I.ok.frf b a) λz=>I.ok.exfs b z a
theorem cH.step{g':Array GenState}{t':Nat}{d':Drawn}{ch:List Addr}(I:cH X pins σ H s)
  (hch:∀b∈ch,(b∈X.ex\/X.s₀.heap.objs.size<=b)/\b≠X.env.locals/\(∀x c,X.env.cells.lookup x=some c->c≠b)/\∀p∈X.pn++pins,p.1≠b)
  (keep:∀b o,b≠X.env.locals->b ∉ X.fs->b ∉ ch->s.heap.get? b=some o->H b=none->h'.get? b=some o)
  (slot:∀b o,b≠X.env.locals->b∈X.fs->b ∉ ch->s.heap.get? b=some o->H b=none->∃sl,h'.get? b=some { o with slots:=sl }) (free:∀b o,b ∉ ch->s.heap.get? b=some o->H b=none->H' b=none)
  (there:∀b o,b ∉ ch->s.heap.get? b=some o->∃o',h'.get? b=some o')
  (tups:∀b xs,H b=some (.tup xs)->H' b=some (.tup xs)) (frzs:∀b o u,H b=some (.frz o u)->H' b=some (.frz o u)) (tbls:∀b ps,H b=some (.tbl ps)->∃more,H' b=some (.tbl (ps++more)))
  (ns:∀m,s.heap.Ns X.env.locals m->h'.Ns X.env.locals m) (hok:nV X.prog X.w H' h') (hg:AllBare g') :
  cH X pins σ H' { s with heap:=h',gens:=g',drawn:=d',toks:=t' }:=by
 have neL:∀b o,X.s₀.heap.get? b=some o->b≠X.env.locals:=λb o e=>dD (bK (bD e) I.ok.above);have y:∀b o,X.s₀.heap.get? b=some o->b ∉ X.ex->b ∉ ch:=λb o e a A=>by
  rcases (hch b A).1 with z | z
  ·exact a z
  ·exact absurd (bK (bD e) z) (cA _)
 have h:∀x c,X.env.cells.lookup x=some c->∀v,s.heap.IsCell c v->h'.IsCell c v:=λx c e v ⟨o,B,hd⟩=>by
  have f:c ∉ ch:=λz=>(hch c z).2.2.1 x c e rfl;by_cases hc:c∈X.fs
  ·obtain ⟨sl,q⟩:=slot c o (I.cne x c e) hc f B (I.freeC x c e);exact ⟨_,q,hd⟩
  ·exact ⟨o,keep c o (I.cne x c e) hc f B (I.freeC x c e),hd⟩
 refine ⟨I.ok,I.os,hg,⟨λb o e n A a=>?_,λb o e n A a=>?_,λb o e n a=>?_,λb o e a=>?_,λb xs e=>tups b xs (I.base.tups b xs e),λb o xs e=>frzs b o xs (I.base.frzs b o xs e),λb ps e=>?_⟩,?_,λx c e=>?_,?_,λx c e=>?_,λp G=>?_,hok,I.len⟩
 ·exact keep b o (neL b o e) A (y b o e a) (I.base.keep b o e n A a) (I.base.free b o e n a)
 ·obtain ⟨sl,j⟩:=I.base.slot b o e n A a;obtain ⟨D,C⟩:=slot b _ (neL b o e) A (y b o e a) j (I.base.free b o e n a);exact ⟨D,C⟩
 ·obtain ⟨o',j⟩:=I.base.there b o e a;exact free b o' (y b o e a) j (I.base.free b o e n a)
 ·obtain ⟨o',j⟩:=I.base.there b o e a;exact there b o' (y b o e a) j
 ·obtain ⟨O,j⟩:=I.base.tbls b ps e;obtain ⟨N,C⟩:=tbls b _ j;exact ⟨O++N,by rw [C,Array.append_assoc]⟩
 ·obtain ⟨m,M,L⟩:=I.loc;refine ⟨m,ns m M,λi x v j C e3=>?_⟩;obtain ⟨u,r,l⟩:=L i x v j C e3;refine ⟨u,r,?_⟩;rcases l with l | ⟨k,c,e,z⟩
  ·exact .inl l
  ·exact .inr ⟨k,c,e,h x c e _ z⟩
 ·obtain ⟨v,z⟩:=I.cell x c e;exact ⟨v,h x c e v z⟩
 ·obtain ⟨m,⟨o,_,_,B,_⟩,_⟩:=I.loc;exact free _ o (λz=>(hch _ z).2.1 rfl) B I.free
 ·obtain ⟨v,o,B,hd⟩:=I.cell x c e;exact free c o (λz=>(hch c z).2.2.1 x c e rfl) B (I.freeC x c e)
 ·obtain ⟨e,n,ne,J,d⟩:=I.pin p G;have f:p.1 ∉ ch:=λz=>(hch p.1 z).2.2.2 p G rfl;exact ⟨keep p.1 p.2 ne J f e n,free p.1 p.2 f e n,ne,J,d⟩
theorem cH.un{t':Nat}(I:cH X pins σ H s)(u:Un X.fs [] H H' s.heap h')(hok:nV X.prog X.w H' h'):cH X pins σ H' { s with heap:=h',toks:=t' }:=by
 obtain ⟨m,⟨o,A,x,h,r⟩,_⟩:=id I.loc;obtain ⟨B,i⟩:=u.any h I.free (by simp);exact I.step (g':=s.gens) (d':=s.drawn) (ch:=[]) (λ_ z=>nomatch z) (λb o _ c _ e n=>u.keep b o e n c (by simp)) (λb o _ c _ e n=>u.slot b o e n c (by simp)) (λb o _ e n=>u.free b o e n (by simp)) (λb o _ e=>u.there b o e (by simp)) u.tups u.frzs u.tbls (λy l=>by
  obtain ⟨p,d,f,a,j⟩:=l;rw [h] at a;cases a;exact ⟨_,d,f,i,j⟩) hok I.bare
theorem cH.call{g':Array GenState}{t':Nat}{d':Drawn}{ch:List Addr}(I:cH X pins σ H s)(u:Un (frs X.stack) ch H H' s.heap h')(hok:nV X.prog X.w H' h')(hg:AllBare g')
  (hch:∀b∈ch,(b∈X.ex\/X.s₀.heap.objs.size<=b)/\b≠X.env.locals/\(∀x c,X.env.cells.lookup x=some c->c≠b)/\∀p∈X.pn++pins,p.1≠b) :
  cH X pins σ H' { s with heap:=h',gens:=g',drawn:=d',toks:=t' }:=by
 obtain ⟨m,⟨o,G,C,j,r⟩,_⟩:=id I.loc;obtain ⟨J,f⟩:=u.any j I.free λz=>(hch _ z).2.1 rfl;exact I.step (ch:=ch) hch (λb o f l a e n=>u.keep b o e n (λz=>(bE.mp (I.stkSub b z)).elim f l) a) (λb o _ _ a e n=>u.any e n a) (λb o a e n=>u.free b o e n a) (λb o a e=>u.there b o e a) u.tups u.frzs u.tbls (λD A=>by
  obtain ⟨B,h,i,d,y⟩:=A;rw [j] at d;cases d;exact ⟨_,h,i,f,y⟩) hok hg
theorem cH.turned{t':Nat}{it:Addr}(I:cH X pins σ H s)(k:∀b o,b≠it->s.heap.get? b=some o->h'.get? b=some o)(hn:H it=none)(hL:it≠X.env.locals)
  (h1:it∈X.ex\/X.s₀.heap.objs.size<=it) (h2:∀x c,X.env.cells.lookup x=some c->c≠it) (h3:∀p∈X.pn++pins,p.1≠it):cH X pins σ H { s with heap:=h',toks:=t' }:=by
 have d:∀b u,H b=some u->b≠it:=λb u e z=>by rw [z,hn] at e;cases e
 refine I.step (g':=s.gens) (d':=s.drawn) (ch:=[it]) (λb f=>?_) (λb o _ _ a e _=>k b o (λz=>a (by simp [z])) e) (λb o _ _ a e _=>⟨o.slots,k b o (λz=>a (by simp [z])) e⟩) (λ_ _ _ _ n=>n)
  (λb o a e=>⟨o,k b o (λz=>a (by simp [z])) e⟩) (λ_ _ e=>e) (λ_ _ _ e=>e) (λb w e=>⟨#[],by rw [e];simp⟩) (λm i=>?_) (λb u e=>?_) I.bare
 ·have e:b=it:=by simpa using f
  subst e;exact ⟨h1,hL,h2,h3⟩
 ·obtain ⟨o,l,h,j,r⟩:=i;exact ⟨o,l,h,k _ o (Ne.symm hL) j,r⟩
 ·refine (I.hok b u e).stay (λc v a q=>k c v ?_ q) (λ_ q=>q) λ_ _ q=>q;rcases a with z | z
  ·rw [z];exact d b u e
  ·exact d c _ z
theorem cH.tok(I:cH X pins σ H s)(t:Nat):cH X pins σ H { s with toks:=t }:=I.un (h':=s.heap) (t':=t) Un.refl I.hok
theorem cH.kept{t':Nat}(I:cH X pins σ H s)(k:∀b u,s.heap.get? b=some u->h'.get? b=some u):cH X pins σ H { s with heap:=h',toks:=t' }:=I.un (Un.kept k) (I.hok.kept k)
theorem cH.laid{a:Addr}{o:HO}{t':Nat}(I:cH X pins σ H s)(k:∀b u,s.heap.get? b=some u->h'.get? b=some u)(hp:s.heap.objs.size<=a)(new:eM X.prog X.w (upd H a o) h' a o) :
  cH X pins σ (upd H a o) { s with heap:=h',toks:=t' }:=I.un (Un.laid k hp (I.hok.fresh hp)) (I.hok.laid k hp new)
theorem cH.write{x e:Addr}{o:HO}{t':Nat}(I:cH X pins σ H s)(mu:Mut (H x))(he:e=x\/H e=some (.own x))(k:∀b u,b≠e->s.heap.get? b=some u->h'.get? b=some u)(heo:∃u,h'.get? e=some u)
  (new:eM X.prog X.w (upd H x o) h' x o):cH X pins σ (upd H x o) { s with heap:=h',toks:=t' }:=I.un (Un.write mu he k heo) (I.hok.write mu he k heo new)
theorem cH.pins_of{pins':List (Addr × Obj)}(I:cH X pins σ H s)(h:∀p∈pins',s.heap.get? p.1=some p.2/\H p.1=none/\p.1≠X.env.locals/\p.1 ∉ X.fs/\∀v,p.2.data ≠ .cell v):cH X pins' σ H s :=
 ⟨I.ok,I.os,I.bare,I.base,I.loc,I.cell,I.free,I.freeC,λp a=>(dC.mp a).elim (λz=>I.pin p (dA _ z)) (h p),I.hok,I.len⟩
theorem EF{N:List Str}(hN:N.Nodup){i j:Nat}{x:Str}(a:N[i]?=some x)(b:N[j]?=some x):i=j:=by
 obtain ⟨f,c⟩:=aX.mp a;obtain ⟨e,d⟩:=aX.mp b;exact (List.getElem_inj hN).mp (c.trans d.symm)
theorem sA{M:Model}{A:Around}{E:Value->Shared->Prop}{i:Nat}{x:Str}{v:V}{u:Value}{Q:Unit->Shared->Prop}(I:cH X pins σ H s)(hN:X.N.Nodup)(hi:X.N[i]?=some x)(hx:Loc X.env.scope x)(r:dO v u)
  (h:∀s',cH X pins (σ.set i (some v)) H s'->(∃a,Heap.SameBut a s.heap s'.heap/\(a=X.env.locals\/X.env.cells.lookup x=some a))->Q () s') (hf:X.fn x=true\/X.env.scope.names.lookup x=some .local:=by first | exact .inl rfl | exact .inr rfl | assumption):wpAny M A (storeName X.env x u) Q E s:=by
 obtain ⟨m,θ,ν⟩:=id I.loc;have U:(X.env.scope.kind == .class || (X.env.scope.kind == .module&&X.env.locals != X.env.globals))=false:=by rw [I.ok.kind];rfl
 have W:i<σ.length:=by rw [I.len];exact (aX.mp hi).1
 have cne:=I.cne;have B:∀{a:Addr} {P:Heap},(∃o,s.heap.get? a=some o/\H a=none)->Heap.SameBut a s.heap P->nV X.prog X.w H P:=λ{a P} φ f b ξ e=>by
  obtain ⟨_,_,D⟩:=φ;refine (I.hok b ξ e).stay (λc Z C q=>(f.2 c ?_).trans q) (λ_ q=>q) λ_ _ q=>q;rintro rfl;rcases C with rfl | C
  ·rw [D] at e;cases e
  ·rw [D] at C;cases C
 rcases hx with J | J
 ·refine wpAny_storeName_local J θ (λP ζ f=>?_) U;obtain ⟨υ,_,_,β,_⟩:=id θ;refine h _ ⟨I.ok,I.os,I.bare,⟨λb o e n L hx=>?_,λb o e n L hx=>?_,I.base.free,λb o e hx=>?_,I.base.tups,I.base.frzs,I.base.tbls⟩,⟨_,ζ,λj y η l G e3=>?_⟩,λy c e=>?_,I.free,I.freeC,λp δ=>?_,B ⟨υ,β,I.free⟩ f,by simpa using I.len⟩ ⟨_,f,.inl rfl⟩
  ·exact (f.2 b (dD (bK (bD e) I.ok.above))).trans (I.base.keep b o e n L hx)
  ·obtain ⟨κ,l⟩:=I.base.slot b o e n L hx;exact ⟨κ,(f.2 b (dD (bK (bD e) I.ok.above))).trans l⟩
  ·obtain ⟨γ,l⟩:=I.base.there b o e hx;exact ⟨γ,(f.2 b (dD (bK (bD e) I.ok.above))).trans l⟩
  ·by_cases hj:j=i
   ·subst hj;rw [hi] at l;cases l;rw [List.getElem?_set_self W] at G;cases G;exact ⟨u,r,.inl ⟨J,by simp⟩⟩
   ·rw [List.getElem?_set_ne (Ne.symm hj)] at G;obtain ⟨α,ε,q⟩:=ν j y η l G e3;refine ⟨α,ε,?_⟩;rcases q with ⟨k,e⟩ | ⟨k,c,e,z⟩
    ·refine .inl ⟨k,?_⟩;have:y≠x:=λe=>hj (EF hN l (e ▸ hi));simp [this,e]
    ·exact .inr ⟨k,c,e,z.sameBut f (cne y c e)⟩
  ·obtain ⟨Z,z⟩:=I.cell y c e;exact ⟨Z,z.sameBut f (cne y c e)⟩
  ·obtain ⟨e,n,ne,ι,d⟩:=I.pin p δ;exact ⟨(f.2 p.1 ne).trans e,n,ne,ι,d⟩
 ·have O:X.fn x=true:=by
   rcases hf with z | z
   ·exact z
   ·rw [z] at J;cases J
  obtain ⟨c,C⟩:=I.ok.has x (.inl J);obtain ⟨Z,z⟩:=I.cell x c C;refine wpAny_storeName_cell I.ok.kind J C z (λP T f=>?_);obtain ⟨μ,R,S⟩:=id z;refine h { s with heap:=P } ⟨I.ok,I.os,I.bare,⟨λb o e n L hx=>?_,λb o e n L hx=>?_,I.base.free,λb o e hx=>?_,I.base.tups,I.base.frzs,I.base.tbls⟩,⟨m,θ.sameBut f (Ne.symm (cne x c C)),λj y η l G e3=>?_⟩,λy Y e=>?_,I.free,I.freeC,λp δ=>?_,B ⟨μ,R,I.freeC x c C⟩ f,by simpa using I.len⟩ ⟨c,f,.inr C⟩
  ·exact (f.2 b (dD (bK (bD e) (I.ok.cab x c O C)))).trans (I.base.keep b o e n L hx)
  ·obtain ⟨κ,l⟩:=I.base.slot b o e n L hx;exact ⟨κ,(f.2 b (dD (bK (bD e) (I.ok.cab x c O C)))).trans l⟩
  ·obtain ⟨γ,l⟩:=I.base.there b o e hx;exact ⟨γ,(f.2 b (dD (bK (bD e) (I.ok.cab x c O C)))).trans l⟩
  ·by_cases hj:j=i
   ·subst hj;rw [hi] at l;cases l;rw [List.getElem?_set_self W] at G;cases G;exact ⟨u,r,.inr ⟨.inl J,c,C,T⟩⟩
   ·rw [List.getElem?_set_ne (Ne.symm hj)] at G;obtain ⟨α,ε,q⟩:=ν j y η l G e3;refine ⟨α,ε,?_⟩;rcases q with q | ⟨k,Y,e,ρ⟩
    ·exact .inl q
    ·refine .inr ⟨k,Y,e,ρ.sameBut f ?_⟩;rintro rfl;exact hj (EF hN l (I.ok.inj _ _ _ e C ▸ hi))
  ·by_cases hcc:Y=c
   ·subst hcc;exact ⟨_,T⟩
   ·obtain ⟨χ,τ⟩:=I.cell y Y e;exact ⟨χ,τ.sameBut f hcc⟩
  ·obtain ⟨e,n,ne,ι,d⟩:=I.pin p δ;refine ⟨(f.2 p.1 ?_).trans e,n,ne,ι,d⟩;intro q;rw [q,R] at e;have ο:μ=p.2:=dB e;exact d Z (by rw [<-ο];exact S)
theorem nZ{M:Model}{A:Around}{E:Value->Shared->Prop}{i:Nat}{x:Str}{v:V}{u:Value}{Q:Unit->Shared->Prop}(I:cH X pins σ H s)(hN:X.N.Nodup)(hi:X.N[i]?=some x)(hx:Loc X.env.scope x)(r:dO v u)
  (h:∀s',cH X pins (σ.set i (some v)) H s'->Q () s') (hf:X.fn x=true\/X.env.scope.names.lookup x=some .local:=by first | exact .inl rfl | exact .inr rfl | assumption):wpAny M A (storeName X.env x u) Q E s :=
 sA I hN hi hx r (λs' I' _=>h s' I') hf
theorem cH.call'{s':Shared}{ch:List Addr}(I:cH X pins σ H s)(ho:s'.os=s.os)(u:Un (frs X.stack) ch H H' s.heap s'.heap)(hok:nV X.prog X.w H' s'.heap)(hg:AllBare s'.gens)
  (hch:∀b∈ch,(b∈X.ex\/X.s₀.heap.objs.size<=b)/\b≠X.env.locals/\(∀x c,X.env.cells.lookup x=some c->c≠b)/\∀p∈X.pn++pins,p.1≠b):cH X pins σ H' s':=by
 obtain ⟨d,g',d',t',a⟩:=s';have e:a=s.os:=ho;subst e;exact I.call (g':=g') (t':=t') (d':=d') u hok hg hch
end
abbrev XK:=Value->Option Addr->Hp->Prop
abbrev St:=List (Option V)
abbrev VK:=V->Hp->Prop
abbrev TE:=St->Hp->VK->Prop
abbrev TT:=St->Hp->(Bool->Hp->Prop)->Prop
abbrev TA:=St->Hp->(List V->Hp->Prop)->Prop
structure oS where
 nx:St->Hp->Prop
 rt:VK
 bk:St->Hp->Prop:=λ_ _=>False
 ct:St->Hp->Prop:=λ_ _=>False
abbrev TS:=oS->St->Hp->Prop
def EP(X:Cx)(pins:List (Addr × Obj))(σ:St)(Q:VK)(u:Value)(s':Shared):Prop:=∃v H',cH X pins σ H' s'/\dO v u/\Q v H'
def TP(X:Cx)(pins:List (Addr × Obj))(σ:St)(Q:Bool->Hp->Prop)(b:Bool)(s':Shared):Prop:=∃H',cH X pins σ H' s'/\Q b H'
def AP(X:Cx)(pins:List (Addr × Obj))(σ:St)(Q:List V->Hp->Prop)(us:List Value)(s':Shared):Prop:=∃vs H',cH X pins σ H' s'/\dS vs us/\Q vs H'
def SP(X:Cx)(pins:List (Addr × Obj))(D:oS)(f:Flow)(s':Shared):Prop :=
 match f with
 | .next=>∃σ' H',cH X pins σ' H' s'/\D.nx σ' H'
 | .brk=>∃σ' H',cH X pins σ' H' s'/\D.bk σ' H'
 | .cont=>∃σ' H',cH X pins σ' H' s'/\D.ct σ' H'
 | .ret u=>∃v σ' H',cH X pins σ' H' s'/\dO v u/\D.rt v H'
def PE(X:Cx)(e:Expr)(t:TE):Prop :=
 ∀(pins:List (Addr × Obj)) (s:Shared) (σ:St) (H:Hp) (Q:VK),cH X pins σ H s->t σ H Q->wpAny (model X.prog X.w) X.A (eval e X.env) (EP X pins σ Q) X.xe s
def PT(X:Cx)(e:Expr)(t:TT):Prop :=
 ∀(pins:List (Addr × Obj)) (s:Shared) (σ:St) (H:Hp) (Q:Bool->Hp->Prop),cH X pins σ H s->t σ H Q->wpAny (model X.prog X.w) X.A (isTrue e X.env (eval e X.env)) (TP X pins σ Q) X.xe s
def PW(X:Cx)(e:Expr)(t:TT):Prop :=
 ∀(whole:Sem Value) (pins:List (Addr × Obj)) (s:Shared) (σ:St) (H:Hp) (Q:Bool->Hp->Prop),cH X pins σ H s->t σ H Q->wpAny (model X.prog X.w) X.A (isTrue e X.env whole) (TP X pins σ Q) X.xe s
theorem PW.pt{X:Cx}{e:Expr}{t:TT}(h:PW X e t):PT X e t:=h _
def PA(X:Cx)(es:List Expr)(t:TA):Prop :=
 ∀(pos:Pos) (pins:List (Addr × Obj)) (s:Shared) (σ:St) (H:Hp) (Q:List V->Hp->Prop),cH X pins σ H s->t σ H Q->wpAny (model X.prog X.w) X.A (spliced (backTo pos (starEach es X.env))) (AP X pins σ Q) X.xe s
def PS(X:Cx)(st:Stmt)(t:TS):Prop :=
 ∀(pins:List (Addr × Obj)) (s:Shared) (σ:St) (H:Hp) (D:oS),cH X pins σ H s->t D σ H->wpAny (model X.prog X.w) X.A (exec st X.env) (SP X pins D) X.xe s
def IL(X:Cx)(st:List Stmt)(t:TS):Prop :=
 ∀(pins:List (Addr × Obj)) (s:Shared) (σ:St) (H:Hp) (D:oS),cH X pins σ H s->t D σ H->wpAny (model X.prog X.w) X.A (execs st X.env) (SP X pins D) X.xe s
theorem thn{α:Type}{t:Sem α}{Q Q':α->Shared->Prop}{M:Model}{A:Around}{E:Value->Shared->Prop}{s:Shared}(h:wpAny M A t Q E s)(hQ:∀a s,Q a s->Q' a s):wpAny M A t Q' E s:=wpAny_mono h hQ λ_ _ x=>x
section
variable{X:Cx}
def aAj(i:Nat):TE:=λσ H Q=>∃v,σ[i]?=some (some v)/\Q v H
def tC(v:V):TE:=λ_ H Q=>Q v H
theorem aA1{i:Nat}{x:Str}{pos:Pos}(hN:X.N[i]?=some x)(hv:Vis X.env.scope x)(hd:(x == ("__debug__" : Str))=false:=by decide)(hcd:(x == ("__classdict__" : Str))=false:=by decide):PE X (.Name x pos) (aAj i):=by
 intro f s σ H Q I h;obtain ⟨v,e,h⟩:=h;obtain ⟨m,p,o⟩:=I.loc;obtain ⟨u,r,l⟩:=o i x v hN e hv;have d:EP X f σ Q u s:=⟨v,H,I,r,h⟩;rcases l with ⟨b,n⟩ | ⟨b,c,j,a⟩
 ·exact wpAny_Name (wpAny_loadName_local I.ok.kind b p n d) hd
 ·rcases b with b | b
  ·exact wpAny_Name (wpAny_loadName_cell I.ok.kind b j a d) hd
  ·exact wpAny_Name (wpAny_loadName_free I.ok.kind b j a d hcd) hd
theorem pe_int{i j pos}:PE X (.Constant (.int i) j pos) (tC (.int i)):=λ_ _ _ H _ I h=>wpAny_Constant_int ⟨.int i,H,I.tok _,⟨_,rfl⟩,h⟩
theorem pe_bl{b j pos}:PE X (.Constant (.bool b) j pos) (tC (.bl b)):=λ_ _ _ H _ I h=>Constant_bool ⟨.bl b,H,I,rfl,h⟩
theorem pe_non{j pos}:PE X (.Constant .none j pos) (tC .non):=λ_ _ _ H _ I h=>Constant_none ⟨.non,H,I,rfl,h⟩
theorem pe_str{x j pos}:PE X (.Constant (.str x) j pos) (tC (.str x)):=λ_ _ _ H _ I h=>Calls.Constant_str ⟨.str x,H,I.tok _,⟨_,rfl⟩,h⟩
def Gl(X:Cx)(x:Str):Prop:=X.env.kindOf x=some .globalImplicit
theorem JZ{E:Value->Shared->Prop}{pins:List (Addr × Obj)}{s:Shared}{σ:St}{H:Hp}{x:Str}{u:Value}{pos:Pos}{Q:Value->Shared->Prop}(I:cH X pins σ H s)(hg:Gl X x)(hm:X.mg x=some u)(h:Q u s)
  (hd:(x == ("__debug__" : Str))=false:=by decide):wpAny (model X.prog X.w) X.A (eval (.Name x pos) X.env) Q E s :=
 Calls.Name_function_global I.ok.kind hg (Calls.loadGlobal_global (by rw [I.ok.glob];exact I.mod.glob.keeps I.bk) hm h) hd
theorem wF{E:Value->Shared->Prop}{pins:List (Addr × Obj)}{s:Shared}{σ:St}{H:Hp}{x:Str}{u:Value}{pos:Pos}{Q:Value->Shared->Prop}(I:cH X pins σ H s)(hg:Gl X x)(hm:X.mg x=none)(hv:bootBuiltins x=some u)(h:Q u s)
  (hn:x ≠ "__name__" := by decide) (hd:(x == ("__debug__" : Str))=false:=by decide):wpAny (model X.prog X.w) X.A (eval (.Name x pos) X.env) Q E s:=by
 obtain ⟨c,b,a⟩:=I.mod.blt;exact Calls.Name_function_global I.ok.kind hg (Calls.loadGlobal_builtin (by rw [I.ok.glob];exact I.mod.glob.keeps I.bk) hm (by rw [I.ok.blt];exact b.keeps I.bk) ((a x hn).trans hv) h) hd
theorem WL{x:Str}{v:V}{u:Value}{pos:Pos}(hg:Gl X x)(hm:X.mg x=some u)(r:dO v u)(hd:(x == ("__debug__" : Str))=false:=by decide):PE X (.Name x pos) (tC v) :=
 λ_ _ _ H _ I h=>JZ I hg hm ⟨v,H,I,r,h⟩ hd
variable{a b:Expr}{ta tb:TE}{pos:Pos}
def tB(t:TE):TT:=λσ H Q=>t σ H λx H1=>∃c,x=.bl c/\Q c H1
theorem aAQ{e:Expr}{t:TE}(h:PE X e t)(he:∀whole,isTrue e X.env whole=(do let v <-whole;standAt e.pos;holding [v] (truthy v)):=by intro _;rfl):PT X e (tB t):=by
 intro a s σ H Q I f;refine isTrue_plain (thn (h a s σ H _ I f) λv i ⟨x,H1,I1,b,c⟩=>?_) (he _);obtain ⟨d,rfl,q⟩:=c;cases b;exact wpAny_truthy_bool ⟨H1,I1,q⟩
variable{tA tB':TT}{rest:List Expr}
def aCp(t u:TT):TT:=λσ H Q=>t σ H λc H1=>if c=true then u σ H1 Q else Q false H1
def tOr(t u:TT):TT:=λσ H Q=>t σ H λc H1=>if c=true then Q true H1 else u σ H1 Q
theorem WA(ha:PT X a tA):PW X (.BoolOp .And [a] pos) tA:=by
 intro f b s σ H Q I h;refine isTrue_and (thn (ha b s σ H Q I h) λc d e=>?_);cases c with
 | true=>exact isTrue_and_nil e
 | false=>exact e
theorem aAM(ha:PT X a tA):PW X (.BoolOp .Or [a] pos) tA:=by
 intro f b s σ H Q I h;refine isTrue_or (thn (ha b s σ H Q I h) λc d e=>?_);cases c with
 | false=>exact isTrue_or_nil e
 | true=>exact e
theorem aAP(ha:PT X a tA)(hb:PW X (.BoolOp .And (b::rest) pos) tB'):PW X (.BoolOp .And (a::b::rest) pos) (aCp tA tB'):=by
 intro i d s σ H Q I h;refine isTrue_and (thn (ha d s σ H _ I h) λc f ⟨H1,I1,e⟩=>?_);cases c with
 | true=>exact hb i d f σ H1 Q I1 e
 | false=>exact ⟨H1,I1,e⟩
theorem aCC(ha:PT X a tA)(hb:PW X (.BoolOp .Or (b::rest) pos) tB'):PW X (.BoolOp .Or (a::b::rest) pos) (tOr tA tB'):=by
 intro i d s σ H Q I h;refine isTrue_or (thn (ha d s σ H _ I h) λc f ⟨H1,I1,e⟩=>?_);cases c with
 | true=>exact ⟨H1,I1,e⟩
 | false=>exact hb i d f σ H1 Q I1 e
def YV(ta:TE):TE:=λσ H Q=>ta σ H λx H1=>∃c,x=.bl c/\Q (.bl (!c)) H1
theorem aA3(ha:PE X a ta):PE X (.UnaryOp .Not a pos) (YV ta):=by
 intro b s σ H Q I h;refine UnaryOp_ (thn (ha b s σ H _ I h) λv f ⟨x,H1,I1,e,d⟩=>?_);obtain ⟨c,rfl,d⟩:=d;cases e;exact not_of (wpAny_truthy_bool ⟨.bl (!c),H1,I1,rfl,d⟩)
def tIf(t:TT)(ta tb:TE):TE:=λσ H Q=>t σ H λc H1=>if c=true then ta σ H1 Q else tb σ H1 Q
theorem RF{c:Expr}(hc:PT X c tA)(ha:PE X a ta)(hb:PE X b tb):PE X (.IfExp c a b pos) (tIf tA ta tb):=by
 intro e s σ H Q I h;refine wpAny_IfExp (thn (hc e s σ H _ I h) λd f ⟨H1,I1,i⟩=>?_);cases d with
 | true=>exact ha e f σ H1 Q I1 i
 | false=>exact hb e f σ H1 Q I1 i
end
def fR(K:PySem.W.Frag)(H:Hp)(a:Addr)(xs:List V):Prop :=
 Rd H a (.lst xs) \/
  ∃(o:Obj) (its:Array Value) (n:Nat),K.lookup a=some o/\o.cls=.type "list" /\ o.dict=none/\o.data=.seq its n/\its.size<=sizeLine/\dS xs its.toList
def fO(K:PySem.W.Frag)(H:Hp)(a:Addr)(xs:List V):Prop :=
 Rd H a (.tup xs) \/
  ∃(o:Obj) (its:Array Value) (n:Nat),K.lookup a=some o/\o.cls=.type "tuple" /\ o.data=.seq its n/\its.size<=sizeLine/\dS xs its.toList
def aEw:Value->Option V
 | .none=>some .non
 | .bool b=>some (.bl b)
 | .int i _=>some (.int i)
 | .str x _=>some (.str x)
 | .bytes b _=>some (.byt b)
 | .float b _=>some (.flt b)
 | .ref a=>some (.ref a)
 | .type n=>some (.ty n)
 | _=>none
theorem dO.abs{x:V}{u:Value}(r:dO x u):aEw u=some x:=by
 cases x with
 | non=>cases r;rfl
 | bl _=>cases r;rfl
 | int _=>obtain ⟨t,rfl⟩:=r;rfl
 | str _=>obtain ⟨t,rfl⟩:=r;rfl
 | byt _=>obtain ⟨t,rfl⟩:=r;rfl
 | flt _=>obtain ⟨t,rfl⟩:=r;rfl
 | ref _=>cases r;rfl
 | ty _=>cases r;rfl
theorem dO.inj{x y:V}{u:Value}(r:dO x u)(q:dO y u):x=y:=dB (r.abs.symm.trans q.abs)
theorem dS.inj:∀{xs ys:List V}{us:List Value},dS xs us->dS ys us->xs=ys
 | _,_,_,.nil,.nil=>rfl
 | _,_,_,.cons r t,.cons r' t'=>by rw [r.inj r',dS.inj t t']
section
variable{X:Cx}{pins:List (Addr × Obj)}{σ:St}{H:Hp}{s:Shared}{a:Addr}{xs ys:List V}
theorem fR.of{K:PySem.W.Frag}(h:H a=some (.lst xs)):fR K H a xs:=.inl (.inl h)
theorem fO.of{K:PySem.W.Frag}(h:H a=some (.tup xs)):fO K H a xs:=.inl (.inl h)
theorem cH.list(I:cH X pins σ H s)(h:fR X.K H a xs):∃its:List Value,dS xs its/\PlainL s.heap a its.toArray/\xs.length<=sizeLine:=by
 rcases h with h | ⟨o,its,n,b,d,hd,c,f,r⟩
 ·obtain ⟨z,its,n,r,e⟩:=h.ok I.hok;exact ⟨its,r,⟨_,n,e,rfl,rfl,rfl⟩,z⟩
 ·refine ⟨its.toList,r,⟨o,n,I.kIn a o b,d,hd,by simpa using c⟩,?_⟩;have e:=r.length;simp only [Array.length_toList] at e;omega
theorem cH.tuple(I:cH X pins σ H s)(h:fO X.K H a xs):∃its:List Value,dS xs its/\IsTup s.heap a its.toArray/\xs.length<=sizeLine:=by
 rcases h with h | ⟨o,its,n,b,d,c,f,r⟩
 ·obtain ⟨⟨z,_⟩,its,r,p⟩:=h.ok I.hok;exact ⟨its,r,p,z⟩
 ·refine ⟨its.toList,r,⟨o,I.kIn a o b,d,n,by simpa using c⟩,?_⟩;have e:=r.length;simp only [Array.length_toList] at e;omega
theorem cH.list_inj(I:cH X pins σ H s)(h:fR X.K H a xs)(h':fR X.K H a ys):xs=ys:=by
 obtain ⟨c,r,⟨o,n,e,_,_,d⟩,_⟩:=I.list h;obtain ⟨b,j,⟨l,m,i,_,_,f⟩,_⟩:=I.list h';rw [e] at i;cases i;rw [d] at f;injection f with d1 _;have:c=b:=by simpa using congrArg Array.toList d1
 subst this;exact r.inj j
theorem cH.tuple_inj(I:cH X pins σ H s)(h:fO X.K H a xs)(h':fO X.K H a ys):xs=ys:=by
 obtain ⟨c,r,⟨o,e,_,n,d⟩,_⟩:=I.tuple h;obtain ⟨b,j,⟨l,i,_,m,f⟩,_⟩:=I.tuple h';rw [e] at i;cases i;rw [d] at f;injection f with d1 _;have:c=b:=by simpa using congrArg Array.toList d1
 subst this;exact r.inj j
end
abbrev Cx.wish(X:Cx)(E:Value->Shared->Prop):Cx:={ X with xe:=E }
abbrev Cx.nox(X:Cx):Cx:=X.wish λ_ _=>False
theorem Cx.Ok.wish{X:Cx}(ok:X.Ok)(E:Value->Shared->Prop):(X.wish E).Ok :=
 ⟨ok.mod,ok.kind,ok.glob,ok.blt,ok.above,ok.inj,ok.has,ok.cab,ok.hd,ok.frames,ok.stk,ok.exf,ok.bs,ok.bsz,ok.noex,ok.exfs,ok.funs,ok.frf⟩
theorem Cx.Ok.unwish{X:Cx}{E:Value->Shared->Prop}(ok:(X.wish E).Ok):X.Ok :=
 ⟨ok.mod,ok.kind,ok.glob,ok.blt,ok.above,ok.inj,ok.has,ok.cab,ok.hd,ok.frames,ok.stk,ok.exf,ok.bs,ok.bsz,ok.noex,ok.exfs,ok.funs,ok.frf⟩
section
variable{X:Cx}{pins:List (Addr × Obj)}{σ:St}{H:Hp}{s:Shared}{E:Value->Shared->Prop}
theorem cH.wish(I:cH X pins σ H s)(E:Value->Shared->Prop):cH (X.wish E) pins σ H s:=⟨I.ok.wish E,I.os,I.bare,I.base,I.loc,I.cell,I.free,I.freeC,I.pin,I.hok,I.len⟩
theorem cH.unwish(I:cH (X.wish E) pins σ H s):cH X pins σ H s:=⟨I.ok.unwish,I.os,I.bare,I.base,I.loc,I.cell,I.free,I.freeC,I.pin,I.hok,I.len⟩
theorem SP.unwish{D:oS}{f:Flow}{s':Shared}(h:SP (X.wish E) pins D f s'):SP X pins D f s':=by
 cases f with
 | next=>obtain ⟨a,H',I,q⟩:=h;exact ⟨a,H',I.unwish,q⟩
 | brk=>obtain ⟨a,H',I,q⟩:=h;exact ⟨a,H',I.unwish,q⟩
 | cont=>obtain ⟨a,H',I,q⟩:=h;exact ⟨a,H',I.unwish,q⟩
 | ret u=>obtain ⟨v,a,H',I,r,q⟩:=h;exact ⟨v,a,H',I.unwish,r,q⟩
theorem IL.nox{st:List Stmt}{t:TS}(h:IL X.nox st t):IL X st t:=λa s σ H D I b =>
 wpAny_mono (h a s σ H D (I.wish _) b) (λ_ _ q=>q.unwish) λ_ _ z=>False.elim z
end
section
variable{X:Cx}{st:Stmt}{rest:List Stmt}{t u:TS}{e:Expr}{te:TE}{pos:Pos}
def YW:TS:=λD σ H=>D.nx σ H
def aCe(t u:TS):TS:=λD σ H=>t { D with nx:=u D } σ H
theorem pss_nil:IL X [] YW:=λ_ _ σ H _ I h=>wpAny_execs_nil ⟨σ,H,I,h⟩
theorem QW(h1:PS X st t)(h2:IL X rest u):IL X (st::rest) (aCe t u):=by
 intro a s σ H D I h;refine wpAny_execs_cons (thn (h1 a s σ H { D with nx:=u D } I h) λf b q=>?_);cases f with
 | next =>
  obtain ⟨c,H',I',q⟩:=q;exact h2 a b c H' D I' q
 | ret v=>exact q
 | brk=>exact q
 | cont=>exact q
theorem WE(h1:PS X st t):IL X [st] t:=by
 intro a s σ H D I h;refine wpAny_execs_cons (thn (h1 a s σ H D I h) λf b q=>?_);cases f with
 | next=>exact wpAny_execs_nil q
 | ret v=>exact q
 | brk=>exact q
 | cont=>exact q
theorem cH.quiet{pins:List (Addr × Obj)}{σ:St}{H:Hp}{s:Shared}(I:cH X pins σ H s):interactive X.env=false:=by simp [interactive,I.ok.kind]
def YX(te:TE):TS:=λD σ H=>te σ H λ_ H1=>D.nx σ H1
theorem WF(he:PE X e te)(hs:swapsWith e none pos.line X.env=pure false:=by rfl):PS X (.Expr e pos) (YX te):=by
 intro a s σ H D I h;exact wpAny_Expr_any (thn (he a s σ H _ I h) λv c ⟨x,H1,I1,d,b⟩=>⟨σ,H1,I1,b⟩) I.quiet hs
def aCf(te:TE):TS:=λD σ H=>te σ H D.rt
theorem aAS(he:PE X e te):PS X (.Return (some e) pos) (aCf te):=by
 intro a s σ H D I h;exact wpAny_Return_some (thn (he a s σ H _ I h) λv d ⟨x,H1,I1,b,c⟩=>⟨x,σ,H1,I1,b,c⟩)
def aCl(c:TT)(t u:TS):TS:=λD σ H=>c σ H λb H1=>if b=true then t D σ H1 else u D σ H1
theorem aCD{c:Expr}{a b:List Stmt}{tc:TT}(hc:PT X c tc)(ha:IL X a t)(hb:IL X b u):PS X (.If c a b pos) (aCl tc t u):=by
 intro e s σ H D I h;refine wpAny_If (thn (hc e s σ H _ I h) λd f ⟨H1,I1,i⟩=>?_);cases d with
 | true=>exact ha e f σ H1 D I1 i
 | false=>exact hb e f σ H1 D I1 i
end
abbrev TG:=V->St->Hp->(St->Hp->Prop)->Prop
abbrev UJ:=List V->St->Hp->(St->Hp->Prop)->Prop
def PG(X:Cx)(target:Expr)(t:TG):Prop :=
 ∀(pins:List (Addr × Obj)) (s:Shared) (σ:St) (H:Hp) (v:V) (u:Value) (Q:St->Hp->Prop),cH X pins σ H s->dO v u->t v σ H Q ->
  wpAny (model X.prog X.w) X.A (assign target X.env u) (λ_ s'=>∃σ' H',cH X pins σ' H' s'/\Q σ' H') X.xe s
def PGs(X:Cx)(ts:List Expr)(t:UJ):Prop :=
 ∀(pins:List (Addr × Obj)) (s:Shared) (σ:St) (H:Hp) (vs:List V) (us:List Value) (Q:St->Hp->Prop),cH X pins σ H s->dS vs us->t vs σ H Q ->
  wpAny (model X.prog X.w) X.A (assignInOrder ((assignEach ts X.env).map (·.2)) us) (λ_ s'=>∃σ' H',cH X pins σ' H' s'/\Q σ' H') X.xe s
abbrev YH:=V->V->V->Hp->(Hp->Prop)->Prop
def aBT(X:Cx)(t:YH):Prop :=
 ∀(pins:List (Addr × Obj)) (s:Shared) (σ:St) (H:Hp) (o i v:V) (ov iv u:Value) (Q:Hp->Prop),cH X pins σ H s->dO o ov->dO i iv->dO v u->t o i v H Q ->
  wpAny (model X.prog X.w) X.A (setItem ov iv u) (λ_ s'=>∃H',cH X pins σ H' s'/\Q H') X.xe s
section
variable{X:Cx}{pos:Pos}
def mO(i:Nat):TG:=λv σ H Q=>Q (σ.set i (some v)) H
theorem WK{i:Nat}{x:Str}(hN:X.N.Nodup)(hi:X.N[i]?=some x)(hx:Loc X.env.scope x)(hf:X.fn x=true\/X.env.scope.names.lookup x=some .local:=by first | exact .inl rfl | exact .inr rfl | assumption):PG X (.Name x pos) (mO i):=by
 intro a s σ H v u Q I r h;exact wpAny_assign_Name (nZ I hN hi hx r (λb I'=>⟨_,H,I',h⟩) hf)
def aBy:UJ:=λvs σ H Q=>vs=[]/\Q σ H
def SB(t:TG)(u:UJ):UJ:=λvs σ H Q=>∃v r,vs=v::r/\t v σ H λσ' H'=>u r σ' H' Q
theorem pgs_nil:PGs X [] aBy:=by
 intro a s σ H c b Q I r h;obtain ⟨e,h⟩:=h;subst e;cases r;exact assignInOrder_nil ⟨σ,H,I,h⟩
theorem RD{e:Expr}{es:List Expr}{t:TG}{u:UJ}(h1:PG X e t)(h2:PGs X es u)
  (hs:(assignEach (e::es) X.env).map (·.2)=assign e X.env::(assignEach es X.env).map (·.2):=by rfl):PGs X (e::es) (SB t u):=by
 intro a s σ H i j Q I r h;obtain ⟨v,l,c,h⟩:=h;subst c;cases r with
 | cons r rr =>
  rw [hs];refine assignInOrder_cons (thn (h1 a s σ H _ _ _ I r h) λ_ d ⟨b,H1,I1,f⟩=>?_);exact h2 a d b H1 _ _ Q I1 rr f
def aBx(K:PySem.W.Frag)(n:Nat)(t:UJ):TG:=λv σ H Q=>∃a xs,v=.ref a/\fO K H a xs/\xs.length=n/\t xs σ H Q
theorem aAZ{es:List Expr}{k:Nat}{t:UJ}{n:Nat}(hc:X.calm=true)(h:PGs X es t)
  (hn:(assignEach es X.env).length=n:=by rfl) (hst:(assignEach es X.env).findIdx? (·.1)=none:=by rfl):PG X (.Tuple es k pos) (aBx X.K n t):=by
 intro c s σ H v u Q I r d;obtain ⟨a,f,i,x,p,d⟩:=d;subst i;cases r;obtain ⟨j,rv,l,y⟩:=I.tuple x;refine assign_Tuple_tuple (I.ok.hd hc) l (by simp [hn,<-p,rv.length]) hst λm w=>?_;have I1:cH X c σ H { s with heap:=m }:=I.kept (t':=s.toks) λb o e=>w b o (dD (bD e)) e;exact h c _ σ H f _ Q I1 (by simpa using rv) d
def aC1(to ti:TE)(t:YH):TG:=λv σ H Q=>to σ H λo H1=>ti σ H1 λi H2=>t o i v H2 λH3=>Q σ H3
theorem aA0{o i:Expr}{to ti:TE}{t:YH}(ho:PE X o to)(hi:PE X i ti)(hs:aBT X t)
  (ha:∀v,assign (.Subscript o i pos) X.env v=(do
   let ov <-holding [v] (eval o X.env)
   let iv <-holding [v,ov] (eval i X.env)
   standAt pos
   holding [v,ov,iv] (setItem ov iv v)
   release [v,ov,iv] []):=by intro _;rfl):PG X (.Subscript o i pos) (aC1 to ti t):=by
 intro a s σ H v u Q I r h;rw [ha];refine wpAny_bind (wpAny_holding (thn (ho a s σ H _ I h) λov c ⟨x,H1,I1,d,f⟩=>?_));refine wpAny_bind (wpAny_holding (thn (hi a c σ H1 _ I1 f) λiv b ⟨y,H2,I2,l,j⟩=>?_));refine wpAny_bind (wpAny_standAt (wpAny_bind (wpAny_holding (thn (hs a b σ H2 x y v ov iv u _ I2 d l r j) λ_ m ⟨H3,I3,e⟩=>?_))));exact wpAny_release ⟨σ,H3,I3,e⟩
def DH(te:TE)(g:TG):TS:=λD σ H=>te σ H λx H1=>g x σ H1 D.nx
theorem aAW{tg e:Expr}{te:TE}{g:TG}(he:PE X e te)(hg:PG X tg g)(hs:swapsWithSole [tg] e pos.line X.env=pure false:=by rfl)(hw:swappedStores [tg] e X.env=pure none:=by rfl)
  (h1:(assignEach [tg] X.env).map (·.2)=[assign tg X.env]:=by rfl):PS X (.Assign [tg] e pos) (DH te g):=by
 intro a s σ H D I h;refine wpAny_Assign_stores (thn (he a s σ H _ I h) λv b ⟨x,H1,I1,c,d⟩=>?_) hs hw;rw [h1];exact thn (hg a b σ H1 x v _ I1 c d) λ_ f q=>q
theorem aAR{i:Nat}{x:Str}{e:Expr}{te:TE}{pos':Pos}(hN:X.N.Nodup)(hi:X.N[i]?=some x)(hx:Loc X.env.scope x)(he:PE X e te)(hs:swapsWith e (some (.Name x pos')) pos.line X.env=pure false:=by rfl)(hf:X.fn x=true\/X.env.scope.names.lookup x=some .local:=by first | exact .inl rfl | exact .inr rfl | assumption) :
  PS X (.Assign [.Name x pos'] e pos) (DH te (mO i)):=by
 intro a s σ H D I h;refine wpAny_Assign_Name (thn (he a s σ H _ I h) λv d ⟨y,H1,I1,b,c⟩=>?_) hs;exact nZ I1 hN hi hx b (λf I2=>⟨_,H1,I2,c⟩) hf
def aCg(i j:Nat)(ta:TA):TS:=λD σ H=>ta σ H λvs H1=>∃v w,vs=[v,w]/\D.nx ((σ.set i (some v)).set j (some w)) H1
theorem aAT{i j:Nat}{x y:Str}{a b:Expr}{ta:TA}{px py pt:Pos}{kt k2 pt2}(hc:X.calm=true)(hN:X.N.Nodup)(hi:X.N[i]?=some x)(hj:X.N[j]?=some y)(hij:i≠j)
  (hx:X.env.scope.names.lookup x=some .local) (hy:X.env.scope.names.lookup y=some .local) (ha:PA X [a,b] ta)
  (hw:swappedStores [.Tuple [.Name x px,.Name y py] kt pt] (.Tuple [a,b] k2 pt2) X.env=pure (some [x,y]))
  (hs:swapsWithSole [.Tuple [.Name x px,.Name y py] kt pt] (.Tuple [a,b] k2 pt2) pos.line X.env=pure false:=by rfl) :
  PS X (.Assign [.Tuple [.Name x px,.Name y py] kt pt] (.Tuple [a,b] k2 pt2) pos) (aCg i j ta):=by
 intro c s σ H D I h;rw [exec_Assign_arm];refine wpAny_bind (wpAny_standAt ?_);rw [hs];refine wpAny_bind (wpAny_pure ?_);rw [if_neg Dd];refine wpAny_bind (Tuple_ (thn (ha _ c s σ H _ I h) λz f ⟨C,H1,I1,u,l⟩=>?_));obtain ⟨v,w,r,l⟩:=l;subst r;obtain ⟨u1,d,rfl,rv,m⟩:∃u1 d,z=[u1,d]/\dO v u1/\dO w d:=by
  cases u with
  | cons p q =>
   cases q with
   | cons p' q' =>
    cases q';exact ⟨_,_,rfl,p,p'⟩
 refine wpAny_newObj_type ?_ (by show 2<=sizeLine;decide);have I2:cH X c σ H1 { f with heap:=f.heap.push { cls:=.type "tuple",data:=.seq [u1,d].toArray } }:=I1.kept (t':=f.toks) λb o e=>aD _ e;rw [hw];refine wpAny_bind (wpAny_pure ?_);show wpAny (model X.prog X.w) X.A (do rule "assign.swapped-stores";let items <-unpackItems (.ref f.heap.objs.size) 2 none;assignInOrder [λv=>bindName X.env y v,λv=>bindName X.env x v] items.reverse;pure Flow.next) _ _ _;refine wpAny_bind (wpAny_rule (wpAny_bind (unpackItems_tuple (items:=#[u1,d]) (I.ok.hd hc) (IsTup.new f.heap _) λh' n=>?_)));have I3:=I2.kept (h':=h') (t':=f.toks) λb o e=>n b o (dD (bD e)) e;show wpAny _ _ (assignInOrder [λv=>bindName X.env y v,λv=>bindName X.env x v] [d,u1] >>= λ_=>pure Flow.next) _ _ _;refine wpAny_bind (assignInOrder_cons (wpAny_bindName (nZ I3 hN hj (.inl hy) m (λB I4=>?_) (.inr hy))));refine assignInOrder_cons (wpAny_bindName (nZ I4 hN hi (.inl hx) rv (λG I5=>assignInOrder_nil (wpAny_pure ?_)) (.inr hx)));rw [List.set_comm _ _ (Ne.symm hij)] at I5;exact ⟨_,H1,I5,l⟩
end
section
variable{X:Cx}{pos:Pos}
def AI(c:TT)(tb:TS):TS:=λD σ H=>∃W:Nat->St->Hp->Prop,(∃m,W m σ H)/\∀m σ H,W m σ H ->
 c σ H λb H1=>if b=true then ∃N:St->Hp->Prop,(∀σ' H',N σ' H'->∃m',m' < m/\W m' σ' H')/\tb { D with nx:=N,ct:=N,bk:=D.nx } σ H1 else D.nx σ H1
theorem QX{c:Expr}{body:List Stmt}{tc:TT}{tb:TS}(hp:PassesOwn (model X.prog X.w) X.A X.env X.xe)(hc:PT X c tc)(hb:IL X body tb):PS X (.While c body [] pos) (AI tc tb):=by
 intro a s σ H D I h;obtain ⟨W,⟨z,y⟩,d⟩:=h;refine wpAny_While (codeAny_whileLoop (λn B=>∃σ' H',cH X a σ' H' B/\W n σ' H') ?_ z ⟨σ,H,I,y⟩);rintro n x ⟨i,H1,I1,C⟩;refine wpAny_passesOwn hp (thn (hc a x i H1 _ I1 (d n i H1 C)) λb u ⟨H2,I2,l⟩=>?_);cases b with
 | true =>
  obtain ⟨N,hN,l⟩:=l;rw [if_pos rfl];refine wpAny_passesOwn hp (thn (hb a u i H2 _ I2 l) λf G j=>?_);cases f with
  | next =>
   obtain ⟨e,H3,I3,p⟩:=j;obtain ⟨o,r,m⟩:=hN e H3 p;exact ⟨o,r,e,H3,I3,m⟩
  | cont =>
   obtain ⟨e,H3,I3,p⟩:=j;obtain ⟨o,r,m⟩:=hN e H3 p;exact ⟨o,r,e,H3,I3,m⟩
  | brk=>exact j
  | ret v=>exact j
 | false =>
  rw [if_neg bN];exact wpAny_execs_nil ⟨i,H2,I2,l⟩
end
structure It where
 go:Nat->Hp->Prop
 yld:Nat->Hp->V->Hp->Prop
 stop:Nat->Hp->Prop
def jA(X:Cx)(pins:List (Addr × Obj))(H:Hp)(b:Addr):Prop :=
 H b=none/\b≠X.env.locals/\b ∉ X.fs/\(b∈X.ex\/X.s₀.heap.objs.size<=b)/\(∀x c,X.env.cells.lookup x=some c->c≠b)/\∀p∈X.pn++pins,p.1≠b
theorem cH.fpOk{X:Cx}{pins:List (Addr × Obj)}{σ:St}{H H':Hp}{s:Shared}{b:Addr}(I:cH X pins σ H s)(hb:s.heap.objs.size<=b)(hn:H' b=none):jA X pins H' b:=by
 refine ⟨hn,Nat.ne_of_gt (bK I.lt hb),I.nofs hb,.inr (aY I.sz hb),λx c e z=>?_,λp a z=>?_⟩
 ·obtain ⟨v,q⟩:=I.cell x c e;exact absurd (bK q.lt (by rw [z];exact hb)) (cA _)
 ·exact absurd (bK (bD (I.pin p a).1) (by rw [z];exact hb)) (cA _)
structure xW(P:Program)(w:World)(K:PySem.W.Frag)(tg:Expr)(J:It)(fp:List Addr)(it:Addr)(tn:Nat->Heap->Prop):Prop where
 mem:it∈fp
 obj:∀i h,tn i h->∀b∈fp,∃o,h.get? b=some o/\∀v,o.data ≠ .cell v
 keep:∀i h h',tn i h->(∀b∈fp,∀o,h.get? b=some o->h'.get? b=some o)->tn i h'
 item:∀(X:Cx),X.prog=P->X.w=w->X.K=K->X.calm=true->∀(i:Nat) (pins:List (Addr × Obj)) (s:Shared) (σ:St) (H:Hp) (E:Value->Shared->Prop),cH X pins σ H s->(∀b∈fp,jA X pins H b)->tn i s.heap->J.go i H ->
  wpAny (model P w) X.A (pyNext (.ref it)) (λr s1=>∃u,r=some u /\
   wpAny (model P w) X.A (letOwnedTupleGo tg (.ref it) u) (λ_ s2=>∃x H',cH X pins σ H' s2/\dO x u/\J.yld i H x H'/\tn (i+1) s2.heap/\∀b∈fp,H' b=none) E s1) E s
 done:∀(X:Cx),X.prog=P->X.w=w->X.K=K->X.calm=true->∀(i:Nat) (pins:List (Addr × Obj)) (s:Shared) (σ:St) (H:Hp) (E:Value->Shared->Prop),cH X pins σ H s->(∀b∈fp,jA X pins H b)->tn i s.heap->J.stop i H ->
  wpAny (model P w) X.A (pyNext (.ref it)) (λr s1=>r=none/\cH X pins σ H s1) E s
 self:∀(A:Around) (i:Nat) (s:Shared) (Q:Value->Shared->Prop) (E:Value->Shared->Prop),tn i s.heap->Q (.ref it) s->wpAny (model P w) A (pyIter (.ref it)) Q E s
abbrev TI:=St->Hp->(It->Hp->Prop)->Prop
def PIE(X:Cx)(pins:List (Addr × Obj))(σ:St)(tg:Expr)(R:It->Hp->Prop)(itv:Value)(s2:Shared):Prop :=
 ∃(it:Addr) (fp:List Addr) (tn:Nat->Heap->Prop) (J:It) (H':Hp),itv=.ref it/\cH X pins σ H' s2/\xW X.prog X.w X.K tg J fp it tn/\tn 0 s2.heap/\(∀b∈fp,jA X pins H' b)/\R J H'
def PI(X:Cx)(tg iter:Expr)(wi:TI):Prop :=
 ∀(pins:List (Addr × Obj)) (s:Shared) (σ:St) (H:Hp) (R:It->Hp->Prop),cH X pins σ H s->wi σ H R ->
  wpAny (model X.prog X.w) X.A (eval iter X.env) (λv s1=>wpAny (model X.prog X.w) X.A (pyIter v) (PIE X pins σ tg R) X.xe s1) X.xe s
theorem KO{M:Model}{A:Around}{E:Value->Shared->Prop}{s:Shared}{tg:Expr}{it:Addr}{u:Value}{o:Obj}{n:String}{vs:Array Value}{Q:Unit->Shared->Prop}(ho:s.heap.get? it=some o)(hc:o.cls=.type n)(hd:o.data=.fields vs)
    (hn:["enumerate","zip","dict_itemiterator","dict_reverseitemiterator","odict_iterator","itertools.zip_longest","itertools.pairwise"].contains n=false) (hQ:Q () s):wpAny M A (letOwnedTupleGo tg (.ref it) u) Q E s:=by
  unfold letOwnedTupleGo;cases tg <;> first
    | exact wpAny_pure hQ
    | (cases u <;> first
        | exact wpAny_pure hQ
        | (refine wpAny_bind (wpAny_load ho ?_)
           rw [hc,hd];show wpAny M A (if (["enumerate","zip","dict_itemiterator","dict_reverseitemiterator","odict_iterator","itertools.zip_longest","itertools.pairwise"].contains n&&vs[0]? == some (rawInt _))=true then _ else _) Q E s;rw [if_neg (by intro h;rw [hn,Bool.false_and] at h;cases h)];exact wpAny_pure hQ))
def YO(K:PySem.W.Frag)(a:Addr):It :=
 ⟨λi H=>∃xs x,fR K H a xs/\xs[i]?=some x,λi H x H'=>H'=H/\∀xs,fR K H a xs->xs[i]?=some x,λi H=>∃xs,fR K H a xs/\xs.length<=i⟩
def Itt(K:PySem.W.Frag)(a:Addr):It :=
 ⟨λi H=>∃xs x,fO K H a xs/\xs[i]?=some x,λi H x H'=>H'=H/\∀xs,fO K H a xs->xs[i]?=some x,λi H=>∃xs,fO K H a xs/\xs.length<=i⟩
def Itr(lo:Int)(n:Nat):It:=⟨λi _=>i<n,λi H x H'=>H'=H/\x=.int (lo+i),λi _=>n<=i⟩
theorem MF{P:Program}{w:World}{K:PySem.W.Frag}{tg:Expr}(a it:Addr):xW P w K tg (YO K a) [it] it (λi h=>h.IsListIter it a i) where
 mem:=by simp
 obj:=λi h f b l=>by
  have e:b=it:=by simpa using l
  subst e;obtain ⟨o,e,c,d⟩:=f;exact ⟨o,e,λv z=>by rw [d] at z;cases z⟩
 keep:=λi h n f k=>f.at λo e=>k it (by simp) o e
 item:=by
  intro X R M A S i j s σ H E I r f D;subst R M A;obtain ⟨U,x,y,N⟩:=D;obtain ⟨B,rv,p,γ⟩:=I.list y;obtain ⟨u,Y,Z⟩:=rv.get N;obtain ⟨O,L,δ,J,G,C⟩:=r it (by simp);refine wpAny_pyNext_list_item f p.isList (x:=u) (by simpa using Y) λn m β=>?_;have I1:cH X j σ H { s with heap:=n }:=I.turned (t':=s.toks) (λb o l e=>(β.2 b l).trans e) O L J G C;obtain ⟨o,e,c,d⟩:=id m;exact ⟨u,rfl,KO (s:={ s with heap:=n }) e c d Dd ⟨x,H,I1,Z,⟨rfl,λε T=>by rw [I.list_inj T y];exact N⟩,m,λb l=>(r b l).1⟩⟩
 done:=by
  intro X R M A S i j s σ H E I r f D;subst R M A;obtain ⟨U,y,N⟩:=D;obtain ⟨B,rv,p,γ⟩:=I.list y;obtain ⟨O,L,δ,J,G,C⟩:=r it (by simp);have ζ:=rv.length;exact wpAny_pyNext_list_end (I.ok.hd S) f p.isList (by simp;omega) λn α=>⟨rfl,I.turned (t':=s.toks) (λb o l e=>α b o l e) O L J G C⟩
 self:=λ_ _ _ _ _ f h=>wpAny_pyIter_listiter f h
theorem GF{P:Program}{w:World}{K:PySem.W.Frag}{tg:Expr}(a it:Addr):xW P w K tg (Itt K a) [it] it (λi h=>h.IsTupleIter it a i) where
 mem:=by simp
 obj:=λi h f b l=>by
  have e:b=it:=by simpa using l
  subst e;obtain ⟨o,e,c,d⟩:=f;exact ⟨o,e,λv z=>by rw [d] at z;cases z⟩
 keep:=λi h r f k=>f.at λo e=>k it (by simp) o e
 item:=by
  intro X R M B S i j s σ H E I y f D;subst R M B;obtain ⟨U,x,A,N⟩:=D;obtain ⟨m,rv,p,γ⟩:=I.tuple A;obtain ⟨u,Y,Z⟩:=rv.get N;obtain ⟨O,L,δ,J,G,C⟩:=y it (by simp);refine wpAny_pyNext_tuple_item f (show s.heap.IsTuple a m.toArray from p) (x:=u) (by simpa using Y) λr n β=>?_;have I1:cH X j σ H { s with heap:=r }:=I.turned (t':=s.toks) (λb o l e=>(β.2 b l).trans e) O L J G C;obtain ⟨o,e,c,d⟩:=id n;exact ⟨u,rfl,KO (s:={ s with heap:=r }) e c d Dd ⟨x,H,I1,Z,⟨rfl,λε T=>by rw [I.tuple_inj T A];exact N⟩,n,λb l=>(y b l).1⟩⟩
 done:=by
  intro X R M B S i j s σ H E I y f D;subst R M B;obtain ⟨U,A,N⟩:=D;obtain ⟨m,rv,p,γ⟩:=I.tuple A;obtain ⟨O,L,δ,J,G,C⟩:=y it (by simp);have ζ:=rv.length;exact wpAny_pyNext_tuple_end (I.ok.hd S) f (show s.heap.IsTuple a m.toArray from p) (by simp;omega) λr α=>⟨rfl,I.turned (t':=s.toks) (λb o l e=>α b o l e) O L J G C⟩
 self:=λ_ _ _ _ _ f h=>wpAny_pyIter_tupleiter f h
theorem GG{P:Program}{w:World}{K:PySem.W.Frag}{tg:Expr}(it:Addr)(lo:Int)(n:Nat):xW P w K tg (Itr lo n) [it] it (λi h=>IsRangeIter h it (lo+(i:Nat)*1) ((n:Int)-(i:Nat)) 1) where
 mem:=by simp
 obj:=λi h a b d=>by
  have e:b=it:=by simpa using d
  subst e;exact ⟨_,a,λv z=>by
   have M:Data.fields _=Data.cell v:=z;cases M⟩
 keep:=λi h j a k=>k it (by simp) _ a
 item:=by
  intro X D A m B i c s σ H E I l a r;subst D A m;obtain ⟨C,y,O,x,u,p⟩:=l it (by simp);have W:=Walks.range (prog:=X.prog) (w:=X.w) (I.ok.hd B) it lo 1 n;refine W.item i s _ _ r a λv j G N f L=>?_;obtain ⟨t,rfl⟩:=N;have I1:cH X c σ H { s with heap:=j,toks:=G }:=I.turned (λb o d e=>L b o (by simpa using d) e) C y x u p;refine ⟨_,rfl,KO (s:={ s with heap:=j,toks:=G }) (n := "range_iterator") f rfl rfl Dd ⟨.int (lo+i),H,I1,⟨t,?_⟩,⟨rfl,rfl⟩,f,λb d=>(l b d).1⟩⟩;rw [Int.mul_one]
 done:=by
  intro X D A m B i c s σ H E I l a r;subst D A m;obtain ⟨C,y,O,x,u,p⟩:=l it (by simp);exact wpAny_pyNext_range_end (I.ok.hd B) a (by have:n<=i:=r;omega) λj J=>⟨rfl,I.turned (t':=s.toks) (λb o d e=>J b o d e) C y x u p⟩
 self:=λ_ _ _ _ _ a h=>wpAny_pyIter_rangeiter a h
section
variable{X:Cx}{tg:Expr}
def ZQ(K:PySem.W.Frag)(tl:TE):TI:=λσ H R=>tl σ H λx H1=>∃a,x=.ref a/\(∃xs,fR K H1 a xs)/\R (YO K a) H1
def aCV(K:PySem.W.Frag)(tl:TE):TI:=λσ H R=>tl σ H λx H1=>∃a,x=.ref a/\(∃xs,fO K H1 a xs)/\R (Itt K a) H1
theorem WJ{l:Expr}{tl:TE}(hl:PE X l tl):PI X tg l (ZQ X.K tl):=by
 intro c s σ H R I h;refine thn (hl c s σ H _ I h) λv d ⟨x,H1,I1,j,m⟩=>?_;obtain ⟨a,e,⟨r,n⟩,q⟩:=m;subst e;cases j;obtain ⟨i,rv,p,u⟩:=I1.list n;refine wpAny_pyIter_list p.isList ⟨d.heap.objs.size,[d.heap.objs.size],_,_,H1,rfl,I1.kept (t':=d.toks) λb o e=>aD _ e,MF a _,⟨_,bB _ rfl,rfl,rfl⟩,λb f=>?_,q⟩;have e:b=d.heap.objs.size:=by simpa using f
 subst e;exact I1.fpOk (aG _) (I1.hok.fresh (aG _))
theorem aAY{l:Expr}{tl:TE}(hl:PE X l tl):PI X tg l (aCV X.K tl):=by
 intro c s σ H R I h;refine thn (hl c s σ H _ I h) λv d ⟨x,H1,I1,j,m⟩=>?_;obtain ⟨a,e,⟨r,n⟩,q⟩:=m;subst e;cases j;obtain ⟨f,rv,p,u⟩:=I1.tuple n;refine wpAny_pyIter_tuple (show d.heap.IsTuple a f.toArray from p) ⟨d.heap.objs.size,[d.heap.objs.size],_,_,H1,rfl,I1.kept (t':=d.toks) λb o e=>aD _ e,GF a _,⟨_,bB _ rfl,rfl,rfl⟩,λb i=>?_,q⟩;have e:b=d.heap.objs.size:=by simpa using i
 subst e;exact I1.fpOk (aG _) (I1.hok.fresh (aG _))
theorem QS{pins:List (Addr × Obj)}{σ:St}{H:Hp}{s:Shared}{R:It->Hp->Prop}{E:Value->Shared->Prop}{lo hi:Int}{t u v:Tok}{tk:Nat}(I:cH X pins σ H s)(h1:-(2^62)<=lo)(h2:lo<2^62)(h3:-(2^62)<=hi)(h4:hi<2^62)
  (q:R (Itr lo (hi-lo).toNat) H):wpAny (model X.prog X.w) X.A (pyIter (.ref s.heap.objs.size)) (PIE X pins σ tg R) E { s with heap:=s.heap.push { cls:=.type "range",data:=.fields #[.int lo t,.int hi u,.int 1 v] },toks:=tk }:=by
 refine wpAny_pyIter_range (IsRange.new ..) (small_one h1 h2 h3 h4) ?_;have I1:cH X pins σ H { s with heap:=s.heap.push { cls:=.type "range",data:=.fields #[.int lo t,.int hi u,.int 1 v] },toks:=tk }:=I.kept λb o e=>aD _ e;refine ⟨(s.heap.push { cls:=.type "range",data:=.fields #[.int lo t,.int hi u,.int 1 v] }).objs.size,[(s.heap.push { cls:=.type "range",data:=.fields #[.int lo t,.int hi u,.int 1 v] }).objs.size],_,_,H,rfl,
  I1.kept (t':=tk) λb o e=>aD _ e,GG _ lo (hi-lo).toNat,?_,λb c=>?_,q⟩
 ·have a:lo+((0:Nat):Int)*1=lo:=by simp
  have d:(((hi-lo).toNat:Nat):Int)-((0:Nat):Int)=Builtin.Range.rangeSize lo hi 1:=by rw [rangeSize_one];split <;> omega
  show IsRangeIter _ _ (lo+((0:Nat):Int)*1) ((((hi-lo).toNat:Nat):Int)-((0:Nat):Int)) 1;rw [a,d];exact bB _ rfl
 ·have e:b=(s.heap.push { cls:=.type "range",data:=.fields #[.int lo t,.int hi u,.int 1 v] }).objs.size:=by simpa using c
  subst e;exact I1.fpOk (aG _) (I1.hok.fresh (aG _))
def ZP(ta:TA):TI:=λσ H R=>ta σ H λvs H1=>∃j:Int,vs=[.int j]/\-(2^62)<=j/\j<2^62/\R (Itr 0 j.toNat) H1
theorem ND{a:Expr}{ta:TA}{p pos:Pos}(hg:Gl X "range")(hm:X.mg "range" = none)(ha:PA X [a] ta)(hs:starEach [a] X.env=[(false,eval a X.env)]:=by rfl):PI X tg (.Call (.Name "range" p) [a] [] pos) (ZP ta):=by
 intro b s σ H R I h;refine Call_ (wF I hg hm boot_range (PyProof.Rows.callWith_type1 (thn (ha pos b s σ H _ I h) λm i ⟨l,H1,I1,d,c⟩=>?_) hs rfl));obtain ⟨j,e,c,f,q⟩:=c;subst e;cases d with
 | cons r rr =>
  cases rr;obtain ⟨t,rfl⟩:=r;exact call_range_1 (QS I1 Oo Oo c f (by simpa using q))
def aCm(wi:TI)(g:TG)(tb:TS):TS:=λD σ H=>wi σ H λJ H1=>∃W:Nat->Nat->St->Hp->Prop,(∃m,W 0 m σ H1)/\∀i m σ H,W i m σ H ->
 (J.stop i H/\D.nx σ H)\/(J.go i H/\∃N:St->Hp->Prop,(∀σ' H',N σ' H'->∃m',m' < m/\W (i+1) m' σ' H')/\∀x H',J.yld i H x H'->g x σ H' λσ2 H2=>tb { D with nx:=N,ct:=N,bk:=D.nx } σ2 H2)
def sG(fp:List Addr)(h:Heap):List (Addr × Obj):=fp.filterMap λb=>(h.get? b).map λo=>(b,o)
theorem jF{fp:List Addr}{h:Heap}{b:Addr}{o:Obj}(hb:b∈fp)(e:h.get? b=some o):(b,o)∈sG fp h:=List.mem_filterMap.mpr ⟨b,hb,by rw [e];rfl⟩
theorem NG{fp:List Addr}{h:Heap}{p:Addr × Obj}(hp:p∈sG fp h):p.1∈fp/\h.get? p.1=some p.2:=by
 obtain ⟨b,c,e⟩:=List.mem_filterMap.mp hp;cases q:h.get? b with
 | none=>rw [q] at e;cases e
 | some o =>
  rw [q] at e;have a:(b,o)=p:=dB e;subst a;exact ⟨c,q⟩
theorem cH.pinned{pins:List (Addr × Obj)}{σ:St}{H:Hp}{s:Shared}{fp:List Addr}(I:cH X pins σ H s)(hf:∀b∈fp,jA X pins H b)(ho:∀b∈fp,∃o,s.heap.get? b=some o/\∀v,o.data ≠ .cell v):cH X (pins++sG fp s.heap) σ H s :=
 I.pins_of λp h=>(dC.mp h).elim (λz=>I.pin p (bZ _ z)) λz=>by
  obtain ⟨a,e⟩:=NG z;obtain ⟨f,j,i,_⟩:=hf p.1 a;obtain ⟨o,c,d⟩:=ho p.1 a;rw [e] at c;cases c;exact ⟨e,f,j,i,d⟩
theorem cH.unpinned{pins pl:List (Addr × Obj)}{σ:St}{H:Hp}{s:Shared}(I:cH X (pins++pl) σ H s):cH X pins σ H s:=I.pins_of λp a=>I.pin p (bZ _ (dA _ a))
theorem aAU{iter:Expr}{body:List Stmt}{wi:TI}{g:TG}{tb:TS}{pos:Pos}(hp:PassesOwn (model X.prog X.w) X.A X.env X.xe)(hc:X.calm=true)(hi:PI X tg iter wi)(hg:PG X tg g)(hb:IL X body tb)
  (hs:∀x,foldedSetIterable iter X.env x=pure x:=by intro _;rfl):PS X (.For tg iter body [] pos) (aCm wi g tb):=by
 intro a s σ H D I h;refine wpAny_For (thn (hi a s σ H _ I h) λv s1 δ=>thn δ λυ s2 ε=>?_) hs;obtain ⟨it,M,γ,J,H2,e,I2,T,S,Y,W,⟨μ,ρ⟩,L⟩:=ε;subst e;have j:∀{H':Hp},(∀b∈M,H' b=none)->∀b∈M,jA X a H' b:=λτ b hb=>⟨τ b hb,(Y b hb).2⟩;refine codeAny_forLoop_any (λn β=>∃i σ' H',cH X a σ' H' β/\γ i β.heap/\(∀b∈M,H' b=none)/\W i n σ' H') ?_ μ ⟨0,σ,H2,I2,S,λb hb=>(Y b hb).1,ρ⟩;rintro n α ⟨i,B,H3,I3,z,O,χ⟩;rcases L i n B H3 χ with ⟨C,qn⟩ | ⟨go,N,hN,step⟩
 ·refine wpAny_passesOwn hp (thn (T.done X rfl rfl rfl hc i a α B H3 X.xe I3 (j O) z C) λr ν ⟨U,I4⟩=>?_);subst U;exact wpAny_execs_nil ⟨B,H3,I4,qn⟩
 ·refine wpAny_passesOwn hp (thn (T.item X rfl rfl rfl hc i a α B H3 X.xe I3 (j O) z go) λr ν ⟨u,U,ι⟩=>?_);subst U;refine wpAny_passesOwn hp (thn ι λ_ Z ⟨x,H5,I5,ζ,φ,y,P⟩=>?_);have I5':=I5.pinned (j P) (T.obj _ _ y);refine wpAny_passesOwn hp (thn (hg _ Z B H5 x u _ I5' ζ (step x H5 φ)) λ_ ο ⟨θ,H6,I6,κ⟩=>?_);refine wpAny_passesOwn hp (thn (hb _ ο θ H6 _ I6 κ) λf R p=>?_);have l:∀{c:St} {H7:Hp},cH X (a++sG M Z.heap) c H7 R->N c H7->∃m,m<n/\∃i σ' H',cH X a σ' H' R/\γ i R.heap/\(∀b∈M,H' b=none)/\W i m σ' H':=λ{c H7} I7 G=>by
   obtain ⟨ψ,hm,ξ⟩:=hN c H7 G;refine ⟨ψ,hm,i+1,c,H7,I7.unpinned,T.keep _ _ _ y λb hb o e=>(I7.pin (b,o) (bZ _ (bZ _ (jF hb e)))).1,λb hb=>?_,ξ⟩;obtain ⟨o,e,d⟩:=T.obj _ _ y b hb;exact (I7.pin (b,o) (bZ _ (bZ _ (jF hb e)))).2.1
  cases f with
  | next=>obtain ⟨c,H7,I7,G⟩:=p;exact l I7 G
  | cont=>obtain ⟨c,H7,I7,G⟩:=p;exact l I7 G
  | brk=>obtain ⟨c,H7,I7,p⟩:=p;exact ⟨c,H7,I7.unpinned,p⟩
  | ret v=>obtain ⟨ω,c,H7,I7,η,p⟩:=p;exact ⟨ω,c,H7,I7.unpinned,η,p⟩
end
theorem jV{K:PySem.W.Frag}{a:Addr}{xs:List V}{g:TG}{tb:TS}{D:oS}{σ:St}{H:Hp}(Pv:Nat->St->Hp->Prop)(h0:Pv 0 σ H)(hl:∀i σ H,i<=xs.length->Pv i σ H->fR K H a xs)
  (hs:∀i x σ H,xs[i]?=some x->Pv i σ H->g x σ H λσ2 H2=>tb { D with nx:=Pv (i+1),ct:=Pv (i+1),bk:=D.nx } σ2 H2) (hd:∀σ H,Pv xs.length σ H->D.nx σ H) :
  ∃W:Nat->Nat->St->Hp->Prop,(∃m,W 0 m σ H)/\∀i m σ H,W i m σ H ->
   ((YO K a).stop i H/\D.nx σ H)\/((YO K a).go i H/\∃N:St->Hp->Prop,(∀σ' H',N σ' H'->∃m',m' < m/\W (i+1) m' σ' H')/\∀x H',(YO K a).yld i H x H'->g x σ H' λσ2 H2=>tb { D with nx:=N,ct:=N,bk:=D.nx } σ2 H2):=by
 refine ⟨λi m σ H=>m=xs.length-i/\i<=xs.length/\Pv i σ H,⟨xs.length,by simp,bS _,h0⟩,?_⟩;rintro i m σ H ⟨rfl,c,p⟩;have q:=hl i σ H c p;by_cases hlt:i<xs.length
 ·refine .inr ⟨⟨xs,xs[i],q,by simp [hlt]⟩,Pv (i+1),λσ' H' b=>⟨xs.length-(i+1),Oo,rfl,hlt,b⟩,λx H' y=>?_⟩;obtain ⟨e,y⟩:=y;subst e;exact hs i x σ _ (y xs q) p
 ·have e:i=xs.length:=Oo;subst e;exact .inl ⟨⟨xs,q,aG _⟩,hd σ H p⟩
theorem KR{K:PySem.W.Frag}{a:Addr}{xs:List V}{g:TG}{tb:TS}{D:oS}{σ:St}{H:Hp}(Pv:Nat->St->Hp->Prop)(h0:Pv 0 σ H)(hl:∀i σ H,i<=xs.length->Pv i σ H->fO K H a xs)
  (hs:∀i x σ H,xs[i]?=some x->Pv i σ H->g x σ H λσ2 H2=>tb { D with nx:=Pv (i+1),ct:=Pv (i+1),bk:=D.nx } σ2 H2) (hd:∀σ H,Pv xs.length σ H->D.nx σ H) :
  ∃W:Nat->Nat->St->Hp->Prop,(∃m,W 0 m σ H)/\∀i m σ H,W i m σ H ->
   ((Itt K a).stop i H/\D.nx σ H)\/((Itt K a).go i H/\∃N:St->Hp->Prop,(∀σ' H',N σ' H'->∃m',m' < m/\W (i+1) m' σ' H')/\∀x H',(Itt K a).yld i H x H'->g x σ H' λσ2 H2=>tb { D with nx:=N,ct:=N,bk:=D.nx } σ2 H2):=by
 refine ⟨λi m σ H=>m=xs.length-i/\i<=xs.length/\Pv i σ H,⟨xs.length,by simp,bS _,h0⟩,?_⟩;rintro i m σ H ⟨rfl,c,p⟩;have q:=hl i σ H c p;by_cases hlt:i<xs.length
 ·refine .inr ⟨⟨xs,xs[i],q,by simp [hlt]⟩,Pv (i+1),λσ' H' b=>⟨xs.length-(i+1),Oo,rfl,hlt,b⟩,λx H' y=>?_⟩;obtain ⟨e,y⟩:=y;subst e;exact hs i x σ _ (y xs q) p
 ·have e:i=xs.length:=Oo;subst e;exact .inl ⟨⟨xs,q,aG _⟩,hd σ H p⟩
theorem hU{lo:Int}{n:Nat}{g:TG}{tb:TS}{D:oS}{σ:St}{H:Hp}(Pv:Nat->St->Hp->Prop)(h0:Pv 0 σ H)
  (hs:∀i σ H,i<n->Pv i σ H->g (.int (lo+i)) σ H λσ2 H2=>tb { D with nx:=Pv (i+1),ct:=Pv (i+1),bk:=D.nx } σ2 H2) (hd:∀σ H,Pv n σ H->D.nx σ H) :
  ∃W:Nat->Nat->St->Hp->Prop,(∃m,W 0 m σ H)/\∀i m σ H,W i m σ H ->
   ((Itr lo n).stop i H/\D.nx σ H)\/((Itr lo n).go i H/\∃N:St->Hp->Prop,(∀σ' H',N σ' H'->∃m',m' < m/\W (i+1) m' σ' H')/\∀x H',(Itr lo n).yld i H x H'->g x σ H' λσ2 H2=>tb { D with nx:=N,ct:=N,bk:=D.nx } σ2 H2):=by
 refine ⟨λi m σ H=>m=n-i/\i<=n/\Pv i σ H,⟨n,by simp,bS _,h0⟩,?_⟩;rintro i m σ H ⟨rfl,b,p⟩;by_cases hlt:i<n
 ·refine .inr ⟨hlt,Pv (i+1),λσ' H' a=>⟨n-(i+1),Oo,rfl,hlt,a⟩,λx H' y=>?_⟩;obtain ⟨e,y⟩:=y;subst e y;exact hs i σ _ hlt p
 ·have e:i=n:=Oo;subst e;exact .inl ⟨aG _,hd σ H p⟩
abbrev R2:=V->V->Hp->VK->Prop
def nU(X:Cx)(f:Value->Value->Sem Value)(r:R2):Prop :=
 ∀(pins:List (Addr × Obj)) (s:Shared) (σ:St) (H:Hp) (x y:V) (v u:Value) (Q:VK),cH X pins σ H s->dO x v->dO y u->r x y H Q ->
  wpAny (model X.prog X.w) X.A (f v u) (EP X pins σ Q) X.xe s
def UnR(X:Cx)(f:Value->Sem Value)(r:V->Hp->VK->Prop):Prop :=
 ∀(pins:List (Addr × Obj)) (s:Shared) (σ:St) (H:Hp) (x:V) (v:Value) (Q:VK),cH X pins σ H s->dO x v->r x H Q ->
  wpAny (model X.prog X.w) X.A (f v) (EP X pins σ Q) X.xe s
def iM(X:Cx)(f:Value)(r:List V->Hp->VK->Prop):Prop :=
 ∀(pins:List (Addr × Obj)) (s:Shared) (σ:St) (H:Hp) (xs:List V) (us:List Value) (Q:VK),cH X pins σ H s->dS xs us->r xs H Q ->
  wpAny (model X.prog X.w) X.A (call f us) (EP X pins σ Q) X.xe s
def VD(r:R2)(ta tb:TE):TE:=λσ H Q=>ta σ H λx H1=>tb σ H1 λy H2=>r x y H2 Q
def tUn(r:V->Hp->VK->Prop)(ta:TE):TE:=λσ H Q=>ta σ H λx H1=>r x H1 Q
def rI(C:Int->Int->Prop)(g:Int->Int->V):R2:=λx y H Q=>∃i j,x=.int i/\y=.int j/\C i j/\Q (g i j) H
def ZI(g:Int->Int->V):R2:=λx y H Q=>∃i j,x=.int i/\y=.int j/\Q (g i j) H
def rU(g:Int->V):V->Hp->VK->Prop:=λx H Q=>∃i,x=.int i/\Q (g i) H
section
variable{X:Cx}{a b c:Expr}{ta tb tc:TE}{pos:Pos}
theorem aBM(ha:PE X a ta)(hb:PE X b tb){pins:List (Addr × Obj)}{s:Shared}{σ:St}{H:Hp}{R:V->V->Hp->Prop}(I:cH X pins σ H s)
  (h:ta σ H λx H1=>tb σ H1 λy H2=>R x y H2) {Q:Value->Shared->Prop} {f:Value->Value->Sem Value}
  (hf:∀v u s2 x y H2,cH X pins σ H2 s2->dO x v->dO y u->R x y H2->wpAny (model X.prog X.w) X.A (f v u) Q X.xe s2) :
  wpAny (model X.prog X.w) X.A (eval a X.env) (λv s₁=>wpAny (model X.prog X.w) X.A (eval b X.env) (λu s₂=>wpAny (model X.prog X.w) X.A (f v u) Q X.xe s₂) X.xe s₁) X.xe s:=by
 exact thn (ha pins s σ H _ I h) λv c ⟨x,H1,I1,e,i⟩=>thn (hb pins c σ H1 _ I1 i) λu s2 ⟨y,H2,I2,j,d⟩=>hf v u s2 x y H2 I2 e j d
theorem aCF{op:Operator}{r:R2}(ho:nU X (binaryOp op) r)(ha:PE X a ta)(hb:PE X b tb):PE X (.BinOp a op b pos) (VD r ta tb):=by
 intro c s σ H Q I h;exact wpAny_BinOp (aBM ha hb I h λv u e x y H2 I2 f d q=>ho c e σ H2 x y v u Q I2 f d q)
theorem aCE{op:UnaryOp}{r:V->Hp->VK->Prop}(ho:UnR X (unaryOp op) r)(ha:PE X a ta):PE X (.UnaryOp op a pos) (tUn r ta):=by
 intro b s σ H Q I h;exact UnaryOp_ (thn (ha b s σ H _ I h) λv c ⟨x,H1,I1,d,e⟩=>ho b c σ H1 x v Q I1 d e)
theorem opI{f:Value->Value->Sem Value}{C:Int->Int->Prop}{g:Int->Int->Int}
  (rule:∀(i j:Int) (t u:Tok) (s:Shared) (Q:Value->Shared->Prop) (E:Value->Shared->Prop),C i j->Q (.int (g i j) s.toks) { s with toks:=s.toks+1 }->wpAny (model X.prog X.w) X.A (f (.int i t) (.int j u)) Q E s) :
  nU X f (rI C λi j=>.int (g i j)):=by
 intro a s σ H x y v u Q I e b h;obtain ⟨i,j,rfl,rfl,d,q⟩:=h;obtain ⟨t,rfl⟩:=e;obtain ⟨c,rfl⟩:=b;exact rule i j t c s _ _ d ⟨.int (g i j),H,I.tok _,⟨_,rfl⟩,q⟩
theorem aCM{f:Value->Value->Sem Value}{g:Int->Int->Int}
  (rule:∀(i j:Int) (t u:Tok) (s:Shared) (Q:Value->Shared->Prop) (E:Value->Shared->Prop),Q (.int (g i j) s.toks) { s with toks:=s.toks+1 }->wpAny (model X.prog X.w) X.A (f (.int i t) (.int j u)) Q E s) :
  nU X f (ZI λi j=>.int (g i j)):=by
 intro a s σ H x y v u Q I d b h;obtain ⟨i,j,rfl,rfl,q⟩:=h;obtain ⟨t,rfl⟩:=d;obtain ⟨c,rfl⟩:=b;exact rule i j t c s _ _ ⟨.int (g i j),H,I.tok _,⟨_,rfl⟩,q⟩
theorem WW{f:Value->Value->Sem Value}{g:Int->Int->Bool}
  (rule:∀(i j:Int) (t u:Tok) (s:Shared) (Q:Value->Shared->Prop) (E:Value->Shared->Prop),Q (.bool (g i j)) s->wpAny (model X.prog X.w) X.A (f (.int i t) (.int j u)) Q E s) :
  nU X f (ZI λi j=>.bl (g i j)):=by
 intro a s σ H x y v u Q I d b h;obtain ⟨i,j,rfl,rfl,q⟩:=h;obtain ⟨t,rfl⟩:=d;obtain ⟨c,rfl⟩:=b;exact rule i j t c s _ _ ⟨.bl (g i j),H,I,rfl,q⟩
def aEE(i j:Int):Prop:=0<=j/\j<=1000000/\i.natAbs<2^64
theorem eP:nU X (binaryOp .Add) (ZI λi j=>.int (i+j)):=aCM λ_ _ _ _ _ _ _ q=>add_int q
theorem HG:nU X (binaryOp .Sub) (ZI λi j=>.int (i-j)):=aCM λ_ _ _ _ _ _ _ q=>sub_int q
theorem lV:nU X (binaryOp .Mod) (rI (λ_ j=>0<j) λi j=>.int (i % j)):=opI λi j _ _ _ _ _ a q=>by
 have b:(0:Int)<j:=a;exact mod_int' Oo (by rw [Int.fmod_eq_emod_of_nonneg i Oo];exact q)
theorem aA7:nU X (binaryOp .Pow) (rI aEE λi j=>.int (i^j.toNat)):=opI λ_ _ _ _ _ _ _ a q=>pow_int_small a.1 a.2.1 a.2.2 q
theorem unI{f:Value->Sem Value}{g:Int->Int}
  (rule:∀(i:Int) (t:Tok) (s:Shared) (Q:Value->Shared->Prop) (E:Value->Shared->Prop),Q (.int (g i) s.toks) { s with toks:=s.toks+1 }->wpAny (model X.prog X.w) X.A (f (.int i t)) Q E s) :
  UnR X f (rU λi=>.int (g i)):=by
 intro a s σ H x v Q I b h;obtain ⟨i,rfl,q⟩:=h;obtain ⟨t,rfl⟩:=b;exact rule i t s _ _ ⟨.int (g i),H,I.tok _,⟨_,rfl⟩,q⟩
theorem uX:UnR X (unaryOp .USub) (rU λi=>.int (-i)):=unI λ_ _ _ _ _ q=>neg_int q
end
def scal:V->V->Bool
 | .non,.non=>true | .non,.int _=>true | .int _,.non=>true | .non,.bl _=>true | .bl _,.non=>true | .non,.str _=>true | .str _,.non=>true
 | .int _,.int _=>true | .bl _,.bl _=>true | .str _,.str _=>true | .byt _,.byt _=>true
 | .int _,.str _=>true | .str _,.int _=>true | .bl _,.str _=>true | .str _,.bl _=>true
 | _,_=>false
def rEq:R2:=λx y H Q=>scal x y=true/\Q (.bl (decide (x=y))) H
def rNe:R2:=λx y H Q=>scal x y=true/\Q (.bl (!decide (x=y))) H
theorem uL{i j:Int}:decide (V.int i=V.int j)=(i == j):=by
 rw [Bool.eq_iff_iff];simp
theorem ST{i j:Bool}:decide (V.bl i=V.bl j)=(i == j):=by
 rw [Bool.eq_iff_iff];simp
theorem LA{i j:Str}:decide (V.str i=V.str j)=(i == j):=by
 rw [Bool.eq_iff_iff];simp
theorem LB{i j:Array UInt8}:decide (V.byt i=V.byt j)=(i.toList == j.toList):=by
 rw [Bool.eq_iff_iff];cases i;cases j;simp
section
variable{X:Cx}{a b c:Expr}{ta tb tc:TE}{pos:Pos}
theorem eB{pins:List (Addr × Obj)}{σ:St}{H:Hp}{s:Shared}{Q:VK}{k k':Bool}(I:cH X pins σ H s)(q:Q (.bl k) H)(e:k=k'):EP X pins σ Q (.bool k') s:=by
 subst e;exact ⟨.bl k,H,I,rfl,q⟩
theorem vT:nU X (compareOp .Eq) rEq:=by
 intro e s σ H x y v u Q I d a h;obtain ⟨c,q⟩:=h;cases x with
 | non =>
  cases d;cases y with
  | non=>cases a;exact PySem.EqNone.eq_none_none (eB I q (by simp))
  | bl j=>cases a;exact PySem.EqNone.eq_none_bool (eB I q (by simp))
  | int j=>obtain ⟨b,rfl⟩:=a;exact PySem.EqNone.eq_none_int (eB I q (by simp))
  | str j=>obtain ⟨b,rfl⟩:=a;exact PySem.EqNone.eq_none_str (eB I q (by simp))
  | _=>exact absurd (show false=true from c) bN
 | bl i =>
  cases d;cases y with
  | non=>cases a;exact PySem.EqNone.eq_bool_none (eB I q (by simp))
  | bl j=>cases a;exact eq_bool (eB I q ST)
  | str j=>obtain ⟨b,rfl⟩:=a;exact PySem.EqMixed.eq_bool_str (eB I q (by simp))
  | _=>exact absurd (show false=true from c) bN
 | int i =>
  obtain ⟨t,rfl⟩:=d;cases y with
  | non=>cases a;exact PySem.EqNone.eq_int_none (eB I q (by simp))
  | int j=>obtain ⟨b,rfl⟩:=a;exact eq_int (eB I q uL)
  | str j=>obtain ⟨b,rfl⟩:=a;exact PySem.EqMixed.eq_int_str (eB I q (by simp))
  | _=>exact absurd (show false=true from c) bN
 | str i =>
  obtain ⟨t,rfl⟩:=d;cases y with
  | non=>cases a;exact PySem.EqNone.eq_str_none (eB I q (by simp))
  | bl j=>cases a;exact PySem.EqMixed.eq_str_bool (eB I q (by simp))
  | int j=>obtain ⟨b,rfl⟩:=a;exact PySem.EqMixed.eq_str_int (eB I q (by simp))
  | str j=>obtain ⟨b,rfl⟩:=a;exact eq_str (eB I q LA)
  | _=>exact absurd (show false=true from c) bN
 | byt i =>
  obtain ⟨t,rfl⟩:=d;cases y with
  | byt j=>obtain ⟨b,rfl⟩:=a;exact PySem.W.eq_bytes (eB I q LB)
  | _=>exact absurd (show false=true from c) bN
 | _=>cases y <;> exact absurd (show false=true from c) bN
theorem JV:nU X (compareOp .NotEq) rNe:=by
 intro e s σ H x y v u Q I d a h;obtain ⟨c,q⟩:=h;cases x with
 | non =>
  cases d;cases y with
  | non=>cases a;exact PySem.EqNone.ne_none_none (eB I q (by simp))
  | bl j=>cases a;exact PySem.EqNone.ne_none_bool (eB I q (by simp))
  | int j=>obtain ⟨b,rfl⟩:=a;exact PySem.EqNone.ne_none_int (eB I q (by simp))
  | str j=>obtain ⟨b,rfl⟩:=a;exact PySem.EqNone.ne_none_str (eB I q (by simp))
  | _=>exact absurd (show false=true from c) bN
 | bl i =>
  cases d;cases y with
  | non=>cases a;exact PySem.EqNone.ne_bool_none (eB I q (by simp))
  | bl j=>cases a;exact ne_bool (eB I q (congrArg not ST))
  | str j=>obtain ⟨b,rfl⟩:=a;exact PySem.EqMixed.ne_bool_str (eB I q (by simp))
  | _=>exact absurd (show false=true from c) bN
 | int i =>
  obtain ⟨t,rfl⟩:=d;cases y with
  | non=>cases a;exact PySem.EqNone.ne_int_none (eB I q (by simp))
  | int j=>obtain ⟨b,rfl⟩:=a;exact ne_int (eB I q (congrArg not uL))
  | str j=>obtain ⟨b,rfl⟩:=a;exact PySem.EqMixed.ne_int_str (eB I q (by simp))
  | _=>exact absurd (show false=true from c) bN
 | str i =>
  obtain ⟨t,rfl⟩:=d;cases y with
  | non=>cases a;exact PySem.EqNone.ne_str_none (eB I q (by simp))
  | bl j=>cases a;exact PySem.EqMixed.ne_str_bool (eB I q (by simp))
  | int j=>obtain ⟨b,rfl⟩:=a;exact PySem.EqMixed.ne_str_int (eB I q (by simp))
  | str j=>obtain ⟨b,rfl⟩:=a;exact ne_str (eB I q (congrArg not LA))
  | _=>exact absurd (show false=true from c) bN
 | byt i =>
  obtain ⟨t,rfl⟩:=d;cases y with
  | byt j=>obtain ⟨b,rfl⟩:=a;exact PySem.W.ne_bytes (eB I q (congrArg not LB))
  | _=>exact absurd (show false=true from c) bN
 | _=>cases y <;> exact absurd (show false=true from c) bN
theorem aCK:nU X (compareOp .Lt) (ZI λi j=>.bl (decide (i<j))):=WW λ_ _ _ _ _ _ _ q=>lt_int q
theorem aCL:nU X (compareOp .LtE) (ZI λi j=>.bl (decide (i<=j))):=WW λ_ _ _ _ _ _ _ q=>le_int q
theorem EE:nU X (compareOp .Gt) (ZI λi j=>.bl (decide (j<i))):=WW λ_ _ _ _ _ _ _ q=>gt_int q
theorem ZL:nU X (compareOp .GtE) (ZI λi j=>.bl (decide (j<=i))):=WW λ_ _ _ _ _ _ _ q=>ge_int q
theorem RN:nU X (compareOp .Is) (λx y H Q=>y=.non/\Q (.bl (decide (x=.non))) H):=by
 intro b s σ H x y v u Q I a c h;obtain ⟨rfl,q⟩:=h;cases c;refine is_none_gen (eB I q ?_);cases x <;> first
  | (cases a;rfl)
  | (obtain ⟨t,rfl⟩:=a;rfl)
theorem WT:nU X (compareOp .IsNot) (λx y H Q=>y=.non/\Q (.bl (!decide (x=.non))) H):=by
 intro b s σ H x y v u Q I a c h;obtain ⟨rfl,q⟩:=h;cases c;refine isnot_none_gen (eB I q ?_);cases x <;> first
  | (cases a;rfl)
  | (obtain ⟨t,rfl⟩:=a;rfl)
theorem nomark(b:Expr){op:CmpOp}(h:op ≠ .In:=by decide)(h2:op ≠ .NotIn:=by decide):behindInMarks op b=false:=by
 have a:(op == CmpOp.In)=false:=by cases op <;> first | rfl | exact absurd rfl h
 have c:(op == CmpOp.NotIn)=false:=by cases op <;> first | rfl | exact absurd rfl h2
 cases b <;> simp [behindInMarks,a,c]
theorem WP{op:CmpOp}{r:R2}(ho:nU X (compareOp op) r)(ha:PE X a ta)(hb:PE X b tb)(hm:behindInMarks op b=false):PE X (.Compare a [op] [b] pos) (VD r ta tb):=by
 intro c s σ H Q I h;exact wpAny_Compare1 (aBM ha hb I h λv u e x y H2 I2 f d q=>ho c e σ H2 x y v u Q I2 f d q) hm
def YT(t:TE):TT:=λσ H Q=>t σ H λx H'=>∃k,x=.bl k/\Q k H'
theorem WD{op:CmpOp}{r:R2}(ho:nU X (compareOp op) r)(ha:PE X a ta)(hb:PE X b tb)(hm:behindInMarks op b=false):PT X (.Compare a [op] [b] pos) (YT (VD r ta tb)):=by
 intro d s σ H Q I h;refine wpAny_isTrue_Compare1 (thn (ha d s σ H _ I h) λv i ⟨x,H1,I1,l,n⟩=>thn (hb d i σ H1 _ I1 n) λu f ⟨y,H2,I2,p,o⟩ =>
  thn (ho d f σ H2 x y v u _ I2 l p o) λc w ⟨z,H3,I3,j,k,e,m⟩=>?_) hm
 subst e;cases j;exact wpAny_truthy_bool ⟨H3,I3,m⟩
theorem wC:(sizeLine:Nat)<2^63:=by rw [sizeLine_eq];decide
theorem lK{x:V}{us:List Value}(r:dS [x] us):∃u,us=[u]/\dO x u:=by
 cases r with
 | cons r1 r2=>cases r2;exact ⟨_,rfl,r1⟩
theorem aCb{x y:V}{us:List Value}(r:dS [x,y] us):∃u w',us=[u,w']/\dO x u/\dO y w':=by
 cases r with
 | cons r1 r2 =>
  cases r2 with
  | cons r3 r4=>cases r4;exact ⟨_,_,rfl,r1,r3⟩
theorem TR:iM X (.builtin "abs") (λxs H Q=>∃i,xs=[.int i]/\Q (.int (if i<0 then -i else i)) H):=by
 intro a s σ H xs b Q I r h;obtain ⟨i,rfl,q⟩:=h;obtain ⟨u,rfl,t,rfl⟩:=lK r;exact call_abs_int λu c=>⟨.int (if i<0 then -i else i),H,I.tok _,⟨_,rfl⟩,q⟩
theorem pE:iM X (.type "int") (λxs H Q=>(∃i,xs=[.int i]/\Q (.int i) H)\/∃k,xs=[.bl k]/\Q (.int (if k then 1 else 0)) H):=by
 intro a s σ H xs c Q I r h;rcases h with ⟨i,rfl,q⟩ | ⟨k,rfl,q⟩
 ·obtain ⟨u,rfl,t,rfl⟩:=lK r;exact call_int_int ⟨.int i,H,I,⟨_,rfl⟩,q⟩
 ·obtain ⟨u,rfl,b⟩:=lK r;cases b;exact call_int_bool ⟨.int (if k then 1 else 0),H,I.tok _,⟨_,rfl⟩,q⟩
def aDg(K:PySem.W.Frag)(x:V)(H:Hp)(n:Nat):Prop :=
 match x with
 | .str y=>y.length<=sizeLine/\n=y.length
 | .byt y=>y.size<=sizeLine/\n=y.size
 | .ref p=>(∃xs,fR K H p xs/\n=xs.length)\/∃xs,fO K H p xs/\n=xs.length
 | _=>False
theorem TN:iM X (.builtin "len") (λxs H Q=>∃x n,xs=[x]/\aDg X.K x H n/\Q (.int n) H):=by
 intro j s σ H xs z Q I r h;obtain ⟨x,n,rfl,e,q⟩:=h;obtain ⟨u,rfl,i⟩:=lK r;have w:=wC;have o:sizeLine=16777216:=sizeLine_eq;cases x with
 | str y =>
  obtain ⟨t,rfl⟩:=i;obtain ⟨l,b⟩:y.length<=sizeLine/\n=y.length:=e;subst b;exact len_str Oo ⟨.int _,H,I.tok _,⟨_,rfl⟩,q⟩
 | byt y =>
  obtain ⟨t,rfl⟩:=i;obtain ⟨l,b⟩:y.size<=sizeLine/\n=y.size:=e;subst b;exact PySem.W.len_bytes Oo ⟨.int _,H,I.tok _,⟨_,rfl⟩,q⟩
 | ref p =>
  cases i;have b:(∃xs,fR X.K H p xs/\n=xs.length)\/∃xs,fO X.K H p xs/\n=xs.length:=e;rcases b with ⟨xs,f,b⟩ | ⟨xs,f,b⟩
  ·subst b;obtain ⟨c,d,pl,m⟩:=I.list f;have a:=d.length;exact Calls.call_len_list pl.isList (by simp only [bG];omega) ⟨.int xs.length,H,I.tok _,⟨_,by simp only [bG];rw [a]⟩,q⟩
  ·subst b;obtain ⟨c,d,pl,m⟩:=I.tuple f;have a:=d.length;exact len_tuple pl (by simp only [bG];omega) ⟨.int xs.length,H,I.tok _,⟨_,by simp only [bG];rw [a]⟩,q⟩
 | _=>exact (show False from e).elim
end
section
variable{prog:Program}{w:World}{A:Around}{E:Value->Shared->Prop}{s:Shared}{K:PySem.W.Frag}{x dx C f:Addr}{mA:Str->Option Value}{name:Str}{v:Value}
end
theorem tF.some_of{v:V}{o:Option Value}(r:tF (some v) o):∃u,o=some u/\dO v u:=by
 cases o with
 | none=>exact (show False from r).elim
 | some u=>exact ⟨u,rfl,r⟩
section
variable{P:Program}{w:World}{H H':Hp}{h h':Heap}{a C dx:Addr}{fs fs':List (Str × V)}
end
section
variable{X:Cx}{pins:List (Addr × Obj)}{σ:St}{H:Hp}{s:Shared}{a C dx:Addr}{fs:List (Str × V)}{f:Str}{v:V}{A:Around}{E:Value->Shared->Prop}
end
section
variable{X:Cx}{o e value:Expr}{f:Str}{pos pos' tpos:Pos}{ta tv:TE}
end
section
variable{X:Cx}{pins:List (Addr × Obj)}{σ:St}{H:Hp}{s:Shared}{A:Around}{E:Value->Shared->Prop}{Q:Value->Shared->Prop}{c:Value}{b:Bool}
end
structure kD(k:Nat)(A:Around):Prop where
 hd:A.handled=none
 dp:A.depth+3*k+5<recursionLimit
 un:A.units+16*k+200<cLine
 gd:A.guards=some []
theorem kD.mono{j k:Nat}{A:Around}(r:kD k A)(h:j<=k):kD j A:=⟨r.hd,by have:=r.dp;omega,by have:=r.un;omega,r.gd⟩
theorem kD.deeper{k:Nat}{A:Around}(r:kD (k+1) A)(env:Env):kD k (A.deeper env) :=
 ⟨r.hd,by have:=r.dp;show A.depth+1+3*k+5<_;omega,by have:=r.un;show A.units+3+16*k+200<_;omega,r.gd⟩
theorem kD.depth{k:Nat}{A:Around}(r:kD k A):A.depth<recursionLimit:=by have:=r.dp;omega
theorem kD.units{k:Nat}{A:Around}(r:kD k A):A.units+64<cLine:=by have:=r.un;omega
def aCh:TA:=λ_ H Q=>Q [] H
def ZA(ta:TE)(tr:TA):TA:=λσ H Q=>ta σ H λx H1=>tr σ H1 λxs H2=>Q (x::xs) H2
section
variable{X:Cx}{e:Expr}{es:List Expr}{te:TE}{t:TA}{pos:Pos}
theorem pa_nil:PA X [] aCh:=λ_ _ _ _ H Q I h=>Calls.spliced_nil ⟨[],H,I,.nil,h⟩
theorem WR(ha:PE X e te)(hr:PA X es t)(hs:starEach (e::es) X.env=(false,eval e X.env)::starEach es X.env:=by rfl):PA X (e::es) (ZA te t):=by
 intro b a s σ H Q I h;rw [hs];show wpAny _ _ (spliced ((false,eval e X.env)::backTo b (starEach es X.env))) _ _ s;refine Calls.spliced_cons (thn (ha a s σ H _ I h) λu d ⟨x,H1,I1,f,i⟩=>?_);exact thn (hr b a d σ H1 _ I1 i) λn m ⟨c,H2,I2,l,j⟩=>⟨x::c,H2,I2,.cons f l,j⟩
def aDw(t:TA):TE:=λσ H Q=>t σ H λxs H1=>xs.length<=sizeLine/\∀p,H1 p=none->Q (.ref p) (upd H1 p (.tup xs))
def aDy(t:TA):TE:=λσ H Q=>t σ H λxs H1=>xs.length<=sizeLine/\∀p,H1 p=none->Q (.ref p) (upd H1 p (.lst xs))
theorem aA2{x1}(h:PA X es t):PE X (.Tuple es x1 pos) (aDw t):=by
 intro a s σ H Q I j;refine wpAny_Tuple_spliced (thn (h pos a s σ H _ I j) λi c ⟨d,H1,I1,r,z,q⟩=>⟨by rw [<-r.length];exact z,?_⟩);have f:H1 c.heap.objs.size=none:=I1.hok.fresh (aG _);refine ⟨.ref c.heap.objs.size,upd H1 c.heap.objs.size (.tup d),I1.laid (t':=c.toks) (λb u e=>aD _ e) (aG _) ?_,rfl,q _ f⟩;exact ⟨⟨z,_,bB _ rfl,rfl⟩,i,r,⟨_,bB _ rfl,rfl,_,rfl⟩⟩
theorem aA4(h:PA X es t):PE X (.List es pos) (aDy t):=by
 intro a s σ H Q I j;refine wpAny_List_spliced (thn (h pos a s σ H _ I j) λi c ⟨d,H1,I1,r,z,q⟩=>⟨by rw [<-r.length];exact z,?_⟩);have f:H1 c.heap.objs.size=none:=I1.hok.fresh (aG _);refine ⟨.ref c.heap.objs.size,upd H1 c.heap.objs.size (.lst d),I1.laid (t':=c.toks) (λb u e=>aD _ e) (aG _) ?_,rfl,q _ f⟩;exact ⟨z,i,0,r,bB _ rfl⟩
end
abbrev Sp:=List V->Hp->VK->XK->Prop
abbrev OM:=List Env->Hp->Shared->XK->Value->Shared->Prop
structure YR(P:Program)(w:World)(K:PySem.W.Frag)(mg:Str->Option Value)(base:Heap)(A:Around)(outer:List Env)(s:Shared)(H:Hp):Prop where
 frames:A.frames=some outer
 mod:Mod K mg base
 bs:∀b o,base.get? b=some o->s.heap.get? b=some o/\H b=none
 bsz:base.objs.size<=s.heap.objs.size
 funs:s.heap.FunFrames base outer
 frf:∀b∈frs outer,H b=none
 hok:nV P w H s.heap
 bare:AllBare s.gens
def CE(outer:List Env)(P:Program)(w:World)(H:Hp)(s:Shared)(Q:VK)(u:Value)(s':Shared):Prop :=
 ∃v H',s'.os=s.os/\AllBare s'.gens/\Un (frs outer) [] H H' s.heap s'.heap/\nV P w H' s'.heap/\dO v u/\Q v H'
def CR(CX:OM)(outer:List Env)(P:Program)(w:World)(H:Hp)(s:Shared)(Q:VK)(E:XK)(r:Result)(s':Shared):Prop :=
 match r with
 | .ok (.ret u)=>CE outer P w H s Q u s'
 | .ok _=>False
 | .error e=>CX outer H s E e s'
structure fJ(P:Program)(w:World)(K:PySem.W.Frag)(mg:Str->Option Value)(base:Heap)(CX:OM)(k:Nat)(f:Addr)(fd:FuncData)(ps:List Str)(sp:Sp):Prop where
 len:∀vs H Q E,sp vs H Q E->vs.length=ps.length
 run:∀(A:Around) (outer:List Env) (s:Shared) (H:Hp) (args:Args) (us:List Value) (vs:List V) (Q:VK) (E:XK),kD k A->YR P w K mg base A outer s H->BindsTo s fd args (ps.zip us)->dS vs us->sp vs H Q E ->
  codeAny (model P w) A (.call (.ref f) args) (CR CX outer P w H s Q E) s
section
variable{X:Cx}{pins:List (Addr × Obj)}{σ:St}{H:Hp}{s s':Shared}
theorem cH.env0(I:cH X pins σ H s):YR X.prog X.w X.K X.mg X.base X.A X.stack s H :=
 ⟨I.ok.frames,I.ok.mod,I.bs,aY I.ok.bsz I.sz,I.stack,I.stkFree,I.hok,I.bare⟩
theorem cH.after{Q:VK}{u:Value}(I:cH X pins σ H s)(h:CE X.stack X.prog X.w H s Q u s'):EP X pins σ Q u s':=by
 obtain ⟨v,H',os,a,un,e,r,q⟩:=h;obtain ⟨f,g,d,t,c⟩:=s';obtain rfl:c=s.os:=os;exact ⟨v,H',I.call (h':=f) (g':=g) (d':=d) (t':=t) (ch:=[]) un e a (λb z=>absurd z (by simp)),r,q⟩
end
def PX(sp:Sp)(dvs:List V)(E:XK)(t:TA):TE:=λσ H Q=>t σ H λvs H1=>sp (vs++dvs) H1 Q E
def zY(K:PySem.W.Frag)(fd:FuncData)(ps:List Str)(ds:List Value):Prop :=
 ∀(s:Shared) (us:List Value),K.In s.heap->(us++ds).length=ps.length->BindsTo s fd ⟨us,[]⟩ (ps.zip (us++ds))
theorem zY.all{K:PySem.W.Frag}{fd:FuncData}{ps:List Str}(h:∀us:List Value,us.length=ps.length->bindArgs fd ⟨us,[]⟩=pure (ps.zip us)):zY K fd ps []:=λs us _ a=>by
 rw [List.append_nil] at a ⊢;exact .of_eq (h us a)
def IK(CX:OM)(X:Cx)(E:XK):Prop:=∀(pins:List (Addr × Obj)) (σ:St) (H:Hp) (s:Shared) (e:Value) (s':Shared),cH X pins σ H s->CX X.stack H s E e s'->X.xe e s'
section
variable{X:Cx}{CX:OM}{k:Nat}{f C:Addr}{fd:FuncData}{ps:List Str}{sp:Sp}{dvs:List V}{ds:List Value}{E:XK}{x m:Str}{p pos apos:Pos}{e o:Expr}{es:List Expr}{ta:TE}{t:TA}
theorem aAI{pins:List (Addr × Obj)}{σ:St}{H:Hp}{s:Shared}{Q:VK}{us:List Value}{vs:List V}(F:fJ X.prog X.w X.K X.mg X.base CX k f fd ps sp)(hr:kD k X.A)(hb:zY X.K fd ps ds)(hd:dS dvs ds)(hx:IK CX X E)
  (I:cH X pins σ H s) (r:dS vs us) (h:sp (vs++dvs) H Q E):wpAny (model X.prog X.w) X.A (call (.ref f) us) (EP X pins σ Q) X.xe s:=by
 have b:dS (vs++dvs) (us++ds):=r.append hd;have d:(us++ds).length=ps.length:=by rw [<-b.length];exact F.len _ _ _ _ h
 refine wpAny_call (codeAny_mono (F.run X.A X.stack s H ⟨us,[]⟩ (us++ds) (vs++dvs) Q E hr I.env0 (hb s us I.kIn d) b h) λr c a=>?_);cases r with
 | error e=>exact hx pins σ H s e c I a
 | ok fl =>
  cases fl with
  | ret u=>exact I.after a
  | next=>exact False.elim a
  | brk=>exact False.elim a
  | cont=>exact False.elim a
theorem WQ(F:fJ X.prog X.w X.K X.mg X.base CX k f fd ps sp)(hr:kD k X.A)(hg:Gl X x)(hm:X.mg x=some (.ref f))(hk:PySem.W.keepIn X.K (.ref f)=true)(hb:zY X.K fd ps ds)(hd:dS dvs ds)(hx:IK CX X E)
  (ha:PA X (e::es) t) (hdb:(x == ("__debug__" : Str))=false:=by decide) (he:starEach (e::es) X.env=(false,eval e X.env)::starEach es X.env:=by rfl) (hpl:(backTo pos (starEach es X.env)).any (·.1)=false:=by rfl) :
  PE X (.Call (.Name x p) (e::es) [] pos) (PX sp dvs E t):=by
 intro a s σ H Q I h;refine wpAny_Call_Name_kw (JZ I hg hm ?_ hdb);refine PySem.W.callWith_K (h₀:=X.base) I.ok.mod.kin hk (thn (ha pos a s σ H _ I h) λb c ⟨d,H1,I1,r,q⟩=>⟨I1.kIn,?_⟩) he hpl;exact aAI F hr hb hd hx I1 r q
end
section
variable{X:Cx}{CX:OM}{k:Nat}{f C:Addr}{fd:FuncData}{ps ks:List Str}{sp:Sp}{E:XK}{x m:Str}{p pos apos kpos:Pos}{e o:Expr}{es:List Expr}{kws:List Keyword}{te ta:TE}{t tk:TA}{nm:Option Str}
variable{g:List Value->List Value->List Value}{gV:List V->List V->List V}
end
structure cT(N P:List Str)(sc:Scope):Prop where
 kind:sc.kind=.function
 co:sc.isCoroutine=false
 gen:sc.isGenerator=false
 nd:N.Nodup
 pre:N.take P.length=P
 par:∀x∈P,sc.names.lookup x=some .local\/sc.names.lookup x=some .cell
 nofree:∀y∈sc.names,y.2 ≠ .free
theorem zR{kindOf:Str->Option NameKind}{x:Str}:∀{binds:List (Str × Value)}{m:Str->Option Value},(∀v,(x,v) ∉ binds)->bindL kindOf binds m x=m x
 | [],_,_=>rfl
 | (n,v)::r,m,h=>by
  unfold bindL;rw [zR λw hw=>h w (aM _ hw)];split
  ·have:x≠n:=by rintro rfl;exact h v aR
   simp [this]
  ·rfl
theorem zT{kindOf:Str->Option NameKind}{x:Str}:∀{binds:List (Str × Value)}{m:Str->Option Value},(∀v,(x,v) ∉ binds)->bindC kindOf binds m x=m x
 | [],_,_=>rfl
 | (n,v)::r,m,h=>by
  unfold bindC;rw [zT λw hw=>h w (aM _ hw)];split
  ·rfl
  ·have:x≠n:=by rintro rfl;exact h v aR
   simp [this]
theorem zS{kindOf:Str->Option NameKind}{x:Str}{v:Value}:∀{P:List Str}{vs:List Value}{i:Nat}{m:Str->Option Value},P.Nodup->P[i]?=some x->vs[i]?=some v->kindOf x=some .local ->
  bindL kindOf (P.zip vs) m x=some v
 | [],_,_,_,_,h,_,_=>by simp at h
 | _::_,[],_,_,_,_,h,_=>by simp at h
 | p::P,w::vs,0,m,nd,h1,h2,hk=>by
  simp at h1 h2;subst h1;subst h2;show bindL kindOf ((p,w)::P.zip vs) m p=_;unfold bindL;rw [zR λv hv=>(List.nodup_cons.mp nd).1 (List.of_mem_zip hv).1,if_pos hk];simp
 | p::P,w::vs,i+1,m,nd,h1,h2,hk=>by
  show bindL kindOf ((p,w)::P.zip vs) m x=_;unfold bindL;exact zS (i:=i) (List.nodup_cons.mp nd).2 (by simpa using h1) (by simpa using h2) hk
theorem zU{kindOf:Str->Option NameKind}{x:Str}{v:Value}:∀{P:List Str}{vs:List Value}{i:Nat}{m:Str->Option Value},P.Nodup->P[i]?=some x->vs[i]?=some v->kindOf x≠some .local ->
  bindC kindOf (P.zip vs) m x=some v
 | [],_,_,_,_,h,_,_=>by simp at h
 | _::_,[],_,_,_,_,h,_=>by simp at h
 | p::P,w::vs,0,m,nd,h1,h2,hk=>by
  simp at h1 h2;subst h1;subst h2;show bindC kindOf ((p,w)::P.zip vs) m p=_;unfold bindC;rw [zT λv hv=>(List.nodup_cons.mp nd).1 (List.of_mem_zip hv).1,if_neg hk];simp
 | p::P,w::vs,i+1,m,nd,h1,h2,hk=>by
  show bindC kindOf ((p,w)::P.zip vs) m x=_;unfold bindC;exact zU (i:=i) (List.nodup_cons.mp nd).2 (by simpa using h1) (by simpa using h2) hk
def start(N:List Str)(vs:List V):St:=vs.map some++List.replicate (N.length-vs.length) none
def FG(CX:OM)(P:Program)(w:World)(K:PySem.W.Frag)(mg:Str->Option Value)(base:Heap)(N:List Str)(qual:Str)(scope:Scope)(f:Addr)(cd:Value)(A:Around)(outer:List Env)(s:Shared)(H:Hp)(E:XK):Cx where
 prog:=P
 w:=w
 K:=K
 mg:=mg
 base:=base
 A:=A.deeper (envOfC qual scope s.heap.objs.size f cd)
 N:=N
 s₀:=s
 H₀:=H
 env:=envOfC qual scope s.heap.objs.size f cd
 outer:=outer
 stack:=envOfC qual scope s.heap.objs.size f cd::outer
 ex:=[]
 calm:=true
 fn:=λ_=>true
 pn:=[]
 xe:=λe s'=>wpAny (model P w) (A.deeper (envOfC qual scope s.heap.objs.size f cd)) (leaving (envOfC qual scope s.heap.objs.size f cd) e) (λ_ s''=>CX outer H s E e s'') (λe' s''=>CX outer H s E e' s'') s'
theorem FN{sc:Scope}{n:Nat}{x:Str}(h:sc.names.lookup x=some .cell):∃c,(cellsFrom n sc.names []).lookup x=some c:=by
 have q:=PySem.W.cellsFrom_some sc.names n [] (.inl h);exact Option.isSome_iff_exists.mp q
theorem NM{CX:OM}{P:Program}{w:World}{K:PySem.W.Frag}{mg:Str->Option Value}{base:Heap}{N ps:List Str}{qual:Str}{scope:Scope}{f:Addr}{cd:Value}{A:Around}{outer:List Env}{s s1:Shared}{H:Hp}{E:XK}{us:List Value}{vs:List V}
  (S:cT N ps scope) (hd:A.handled=none) (e0:YR P w K mg base A outer s H) (hl:vs.length=ps.length) (r:dS vs us)
  (x:InCallC s s.heap.objs.size (bindL (envOfC qual scope s.heap.objs.size f cd).kindOf (ps.zip us) λ_=>none) (cellsFrom (s.heap.objs.size+1) scope.names []) (bindC (envOfC qual scope s.heap.objs.size f cd).kindOf (ps.zip us) λ_=>none) s1) :
  cH (FG CX P w K mg base N qual scope f cd A outer s H E) [] (start N vs) H s1:=by
 have I:ps.length<=N.length:=by have:=congrArg List.length S.pre;rw [bW] at this;omega
 obtain ⟨B,M,rfl,D⟩:=x.done;have l:∀b:Addr,b ∉ (FG CX P w K mg base N qual scope f cd A outer s H E).ex:=λb z=>absurd (show b∈([]:List Addr) from z) (by simp);refine ⟨⟨e0.mod,S.kind,rfl,rfl,aG _,λy z c B d=>?_,λy j=>?_,λy c _ h=>?_,λ_=>hd,Around.frames_deeper e0.frames,.inr ⟨rfl,rfl⟩,λb z=>absurd z (l b),e0.bs,e0.bsz,λb _ _=>l b,λb z=>absurd z (l b),e0.funs,e0.frf⟩,
  rfl,e0.bare,Un.kept D,⟨_,x.toInCall.ns,λi y v B d L=>?_⟩,λy c h=>⟨_,x.cell y c h⟩,e0.hok.fresh (aG _),λy c h=>?_,λp m=>absurd (show p∈([]:List (Addr × Obj)) from m) (by simp),e0.hok.kept D,?_⟩
 ·exact name_of_addr x.apart (PySem.mem_of_lookup B) (PySem.mem_of_lookup d)
 ·have j:scope.names.lookup y=some .cell\/scope.names.lookup y=some .free:=j;rcases j with j | j
  ·exact FN j
  ·exact absurd rfl (S.nofree _ (PySem.mem_of_lookup j))
 ·exact Nat.le_of_lt (x.above y c (PySem.mem_of_lookup h))
 ·have C:i<vs.length:=by
   unfold start at d;by_cases C:i<vs.length
   ·exact C
   ·rw [List.getElem?_append_right (by simpa using C)] at d;rw [List.getElem?_replicate] at d;split at d <;> cases d
  have J:vs[i]?=some v:=by
   unfold start at d;rw [List.getElem?_append_left (by simpa using C),aL] at d;cases e:vs[i]? with
   | none=>rw [e] at d;cases d
   | some a=>rw [e] at d;cases d;rfl
  obtain ⟨u,G,rv⟩:=r.get J;have m:ps[i]?=some y:=by
   rw [<-S.pre,List.getElem?_take_of_lt Oo];exact B
  have o:ps.Nodup:=by rw [<-S.pre];exact S.nd.sublist (List.take_sublist _ _)
  refine ⟨u,rv,?_⟩;rcases S.par y (aV m) with k | k
  ·exact .inl ⟨k,zS o m G k⟩
  ·obtain ⟨c,e⟩:=FN (n:=s.heap.objs.size+1) k;refine .inr ⟨.inl k,c,e,?_⟩;have q:=x.cell y c e;rw [zU o m G (by show scope.names.lookup y≠_;rw [k];decide)] at q;exact q
 ·exact e0.hok.fresh (Nat.le_of_lt (x.above y c (PySem.mem_of_lookup h)))
 ·unfold start;show _=N.length;rw [aT,aC,eA];omega
theorem aC2{CX:OM}{P:Program}{w:World}{K:PySem.W.Frag}{mg:Str->Option Value}{base:Heap}{k:Nat}{f:Addr}{name qual:Str}{params:Arguments}{body:List Stmt}{scope:Scope}{dV kV doc pm cdv ct oc:Value}{an od:Option Addr}
  {osl:Array (Option Value)} {N ps:List Str} {sp:Sp} (lk:K.lookup f=some ⟨oc,od,.func (PySem.W.fnOf name qual params body scope dV kV doc pm an cdv ct),osl⟩) (hcd:PySem.W.codeIn K cdv qual=true) (S:cT N ps scope)
  (len:∀vs H Q E,sp vs H Q E->vs.length=ps.length)
  (hbody:∀(A:Around) (outer:List Env) (s:Shared) (H:Hp) (vs:List V) (Q:VK) (E:XK),kD k (A.deeper (envOfC qual scope s.heap.objs.size f cdv))->sp vs H Q E ->
   ∃t,IL (FG CX P w K mg base N qual scope f cdv A outer s H E) body t/\t { nx:=λ_ H'=>Q .non H',rt:=Q } (start N vs) H) :
  fJ P w K mg base CX (k+1) f (PySem.W.fnOf name qual params body scope dV kV doc pm an cdv ct) ps sp:=by
 refine ⟨len,λA outer s H B O vs Q E l h D r i=>?_⟩;have M:=len _ _ _ _ i;have KX:K.In s.heap:=h.mod.kin.keeps λb o e=>(h.bs b o e).1;have p:s.heap.NoLimit:=h.mod.nolimit.keeps λb o e=>(h.bs b o e).1;have a:∀y∈ps.zip O,scope.names.lookup y.1=some .local\/(scope.names.lookup y.1=some .cell/\((cellsFrom (s.heap.objs.size+1) scope.names []).lookup y.1).isSome=true):=λ⟨n,v⟩ C=>by
  rcases S.par n (List.of_mem_zip C).1 with q | q
  ·exact .inl q
  ·exact .inr ⟨q,PySem.W.cellsFrom_some _ _ _ (.inl q)⟩
 refine codeAny_call_function l.depth (KX _ _ lk) rfl S.co S.gen rfl (PySem.W.codeRec_of KX hcd) (D _ _ _ _ ?_);refine wpAny_newFunctionEnv_cells S.kind a λG R z x=>?_;subst R;refine ⟨p.keeps x.toInCall.keep,codeAny_func ?_⟩;obtain ⟨t,L,U⟩:=hbody A outer s H vs Q E (l.deeper _) i;have I:cH (FG CX P w K mg base N qual scope f cdv A outer s H E) [] (start N vs) H z:=NM S l.hd h M r x;refine wpAny_mono (L [] z (start N vs) H _ I U) (λT m c=>?_) λe m c=>c;have d:∀{j:St} {H':Hp} {v:V} {u:Value},cH (FG CX P w K mg base N qual scope f cdv A outer s H E) [] j H' m->dO v u->Q v H'->CE outer P w H s Q u m :=
  λ{j H' v u} J rv q=>⟨v,H',J.os,J.bare,J.base,J.hok,rv,q⟩
 cases T with
 | ret u =>
  obtain ⟨v,j,H',J,rv,q⟩:=c;exact d J rv q
 | next =>
  obtain ⟨j,H',J,q⟩:=c;exact d (v:=V.non) (u:=Value.none) J rfl q
 | brk =>
  obtain ⟨_,_,_,q⟩:=c;exact False.elim q
 | cont =>
  obtain ⟨_,_,_,q⟩:=c;exact False.elim q
section
variable{X:Cx}{x:Str}{p pos:Pos}{e:Expr}{es:List Expr}{t:TA}{id T:String}{r:List V->Hp->VK->Prop}
def tCB(r:List V->Hp->VK->Prop)(t:TA):TE:=λσ H Q=>t σ H λvs H1=>r vs H1 Q
theorem RI(hc:iM X (.builtin id) r)(hg:Gl X x)(hm:X.mg x=none)(hv:bootBuiltins x=some (.builtin id))(ha:PA X (e::es) t)(hn:x ≠ "__name__" := by decide)(hdb:(x == ("__debug__" : Str))=false:=by decide)
  (he:starEach (e::es) X.env=(false,eval e X.env)::starEach es X.env:=by rfl) (hpl:(backTo pos (starEach es X.env)).any (·.1)=false:=by rfl):PE X (.Call (.Name x p) (e::es) [] pos) (tCB r t):=by
 intro a s σ H Q I h;refine wpAny_Call_Name_kw (wF I hg hm hv ?_ hn hdb);exact PyProof.Rows.callWith_builtin1 (thn (ha pos a s σ H _ I h) λb c ⟨i,H1,I1,d,f⟩=>hc a c σ H1 i b Q I1 d f) he hpl
theorem NE(hc:iM X (.type T) r)(hg:Gl X x)(hm:X.mg x=none)(hv:bootBuiltins x=some (.type T))(ha:PA X (e::es) t)(hn:x ≠ "__name__" := by decide)(hdb:(x == ("__debug__" : Str))=false:=by decide)
  (he:starEach (e::es) X.env=(false,eval e X.env)::starEach es X.env:=by rfl) (hpl:(backTo pos (starEach es X.env)).any (·.1)=false:=by rfl):PE X (.Call (.Name x p) (e::es) [] pos) (tCB r t):=by
 intro a s σ H Q I h;refine wpAny_Call_Name_kw (wF I hg hm hv ?_ hn hdb);exact PyProof.Rows.callWith_type1 (thn (ha pos a s σ H _ I h) λb c ⟨i,H1,I1,d,f⟩=>hc a c σ H1 i b Q I1 d f) he hpl
end
end L2
namespace HT
open PySem PyProof.Rows
section
open PySem.SeqAt
open PySem.AutoSeq1 (wpAny_loadPart')
open PySem.MeetsSeq PySem.MeetsSeq2 PySem.MeetsSeq3
end
section
variable{prog:Program}{w:World}{A:Around}{E:Value->Shared->Prop}{s:Shared}
theorem XV{t b:Addr}{vs ws:List Value}{Q:Value->Shared->Prop}(ht:IsTup s.heap t vs.toArray)(hb:IsTup s.heap b ws.toArray)(hv:vs≠[])
  (h1:ws=[]->Q (.ref t) s) (h2:ws≠[]->Q (.ref s.heap.objs.size) { s with heap:=s.heap.push { cls:=.type "tuple",data:=.seq (vs++ws).toArray } })
  (hsz:vs.length+ws.length<=sizeLine):wpAny (model prog w) A (binaryOp .Add (.ref t) (.ref b)) Q E s:=by
 obtain ⟨⟨cls,p,data,o⟩,i,r,n,hd⟩:=id ht;obtain ⟨⟨m,f,j,d⟩,a,c,l,h⟩:=id hb;simp only at r hd c h;subst r hd c h;have e:vs.toArray++ws.toArray=(vs++ws).toArray:=by simp
 by_cases hw:ws=[]
 ·exact concat_meets ⟨_,i,rfl⟩ ⟨_,a,rfl⟩ noFill_tuple_add seq_tuple_add PySem.F.slot_tuple_add PySem.F.entry_tuple_add (PySem.F.args_tuple_add_2 _ _)
   (tuple_addW1 t b vs.toArray ws.toArray n l p f o d (by simpa using hv) (by simp [hw])) ⟨i,a,h1 hw⟩
 ·refine concat_meets ⟨_,i,rfl⟩ ⟨_,a,rfl⟩ noFill_tuple_add seq_tuple_add PySem.F.slot_tuple_add PySem.F.entry_tuple_add (PySem.F.args_tuple_add_2 _ _)
   (tuple_addW2 t b vs.toArray ws.toArray n l p f o d (by simpa using hv) (by simpa using hw) (by rw [bG,bG];exact hsz)) ⟨i,a,?_⟩
  rw [e];exact h2 hw
def hZ(n d:Nat):Option Int->Nat
 | none=>d
 | some v=>if v<0 then (v+(n:Int)).toNat else min v.toNat n
theorem vK(n d:Nat):hZ n d none=d:=rfl
theorem AV(n d k:Nat):hZ n d (some (k:Int))=min k n:=by
 show (if (k:Int)<0 then ((k:Int)+(n:Int)).toNat else min (k:Int).toNat n)=min k n;rw [if_neg Oo,Int.toNat_natCast]
theorem aAF(n d:Nat)(hd:d<=n)(o:Option Int):hZ n d o<=n:=by
 cases o with
 | none=>exact hd
 | some v =>
  show (if v<0 then (v+(n:Int)).toNat else min v.toNat n)<=n;by_cases hv:v<0
  ·rw [if_pos hv];omega
  ·rw [if_neg hv];exact Nat.min_le_right _ _
theorem LI(v:Int)(n d:Nat):(if v<0 then max (v+(n:Int)) 0 else min v (n:Int))=((hZ n d (some v):Nat):Int):=by
 show (if v<0 then max (v+(n:Int)) 0 else min v (n:Int))=(((if v<0 then (v+(n:Int)).toNat else min v.toNat n):Nat):Int);by_cases hv:v<0
 ·simp only [if_pos hv];omega
 ·simp only [if_neg hv];omega
theorem IG(lo hi:Option Int)(n:Nat):Builtin.Slice.sliceAdjust lo hi 1 (n:Int)=(((hZ n 0 lo:Nat):Int),((hZ n n hi:Nat):Int)):=by
 have a:¬((1:Int)<0):=Oo;unfold Builtin.Slice.sliceAdjust;simp only [a,if_false];refine Prod.ext ?_ ?_
 ·cases lo with
  | none=>rfl
  | some v=>exact LI v n 0
 ·cases hi with
  | none=>rfl
  | some v=>exact LI v n n
theorem HC(i j:Nat):Builtin.Slice.slicePlaces (i:Int) (j:Int) 1=j-i:=by
 unfold Builtin.Slice.slicePlaces;have a:(1:Int) > 0:=Oo;simp only [a,if_true,Int.ediv_one];split <;> omega
theorem vI{v:Value}{o:Option Int}{Q:Option Int->Shared->Prop}(p:IsPart v o)(h:Q o s):wpAny (model prog w) A (Builtin.Slice.slicePartIndex v) Q E s:=by
 cases p with
 | none=>exact slicePart_none h
 | int i t=>exact slicePart_int h
theorem mI{sl:Addr}{vl vu:Value}{lo hi:Option Int}{n:Nat}{Q:Int × Int × Nat->Shared->Prop}(hs:s.heap.IsSliceOf sl vl vu .none)(pl:IsPart vl lo)(pu:IsPart vu hi)
  (h:Q (((hZ n 0 lo:Nat):Int),1,hZ n n hi-hZ n 0 lo) s):wpAny (model prog w) A (Builtin.Slice.sliceApplied (.ref sl) (pure (n:Int))) Q E s:=by
 obtain ⟨d,b,c,a⟩:=id hs;unfold Builtin.Slice.sliceApplied Builtin.Slice.sliceFields;refine wpAny_bind (wpAny_bind (wpAny_field b a (x:=vl) rfl (wpAny_bind (wpAny_field b a (x:=vu) rfl (wpAny_bind (wpAny_field b a (x:=.none) rfl (wpAny_pure ?_)))))));refine wpAny_bind (slicePart_none ?_);show wpAny _ _ (if ((1:Int) == 0)=true then _ else _) _ _ s;rw [if_neg Dd];refine wpAny_bind (vI pl (wpAny_bind (vI pu (wpAny_bind (wpAny_pure ?_)))));show wpAny _ _ (match Builtin.Slice.sliceAdjust lo hi 1 (n:Int) with | (lo,hi)=>pure (lo,(1:Int),Builtin.Slice.slicePlaces lo hi 1)) _ _ s;rw [IG lo hi n];show wpAny _ _ (pure (((hZ n 0 lo:Nat):Int),(1:Int),Builtin.Slice.slicePlaces ((hZ n 0 lo:Nat):Int) ((hZ n n hi:Nat):Int) 1)) _ _ s;rw [HC];exact wpAny_pure h
theorem RC(xs:Array Value)(i k:Nat):((List.range k).filterMap λ(m:Nat)=>xs[((i:Int)+(m:Int)*1).toNat]?).toArray=((xs.toList.drop i).take k).toArray:=by
 have e:(λ(m:Nat)=>xs[((i:Int)+(m:Int)*1).toNat]?)=λm=>xs[i+m]?:=by
  funext m
  have:((i:Int)+(m:Int)*1).toNat=i+m:=Oo;rw [this]
 rw [e];have:=pick_run xs i k;rw [List.filterMap_map] at this;have a:((λx=>xs[x]?) ∘ λx=>i+x)=λm=>xs[i+m]?:=rfl;rw [a] at this;rw [this]
theorem rE{t sl:Addr}{items:Array Value}{vl vu:Value}{lo hi:Option Int}{Q:Value->Shared->Prop}(ht:IsTup s.heap t items)(hs:s.heap.IsSliceOf sl vl vu .none)(pl:IsPart vl lo)(pu:IsPart vu hi)
  (hw:¬(hZ items.size 0 lo=0/\hZ items.size items.size hi=items.size))
  (h:Q (.ref s.heap.objs.size) { s with heap:=s.heap.push { cls:=.type "tuple",data:=.seq ((items.toList.drop (hZ items.size 0 lo)).take (hZ items.size items.size hi-hZ items.size 0 lo)).toArray } })
  (hsz:items.size<=sizeLine):wpAny (model prog w) A (getItem (.ref t) (.ref sl)) Q E s:=by
 have a:sizeOk (.seq ((items.toList.drop (hZ items.size 0 lo)).take (hZ items.size items.size hi-hZ items.size 0 lo)).toArray):=by
  show ((items.toList.drop (hZ items.size 0 lo)).take (hZ items.size items.size hi-hZ items.size 0 lo)).toArray.size<=sizeLine;rw [bG,bW,List.length_drop,Array.length_toList];omega
 have n:hZ items.size items.size hi<=items.size:=aAF _ _ (aG _) hi;obtain ⟨f,b,c,i⟩:=id hs;have e:s.TypeIs (.ref sl) "slice" := ⟨f,b,c⟩;unfold getItem
 try with_reducible refine wpAny_holding ?_
 first | refine wpAny_bind (wpAny_pure ?_) | skip
 refine wpAny_bind (wpAny_sequenceKey ht.typeIs Dd ?_);refine wpAny_bind (wpAny_callSpecial?_slot (name:=Str.ofString "__getitem__") ht.typeIs PyProof.Rows.slot_tuple_getitem
  (wpAny_call_entry PyProof.Rows.slot_tuple_getitem ht.typeIs entry_tuple_getitem ?_ (args_tuple_getitem _ _)))
 show wpAny _ _ (Builtin.Tuple.tupleItemsOf (.ref t) >>= _) _ _ s;refine wpAny_bind (tupleItemsOf_ ht ?_);refine wpAny_bind (wpAny_typeOf e ?_);rw [if_pos Dd];refine wpAny_bind (mI hs pl pu ?_);have d:¬((((hZ items.size 0 lo:Nat):Int) == 0&&(1:Int) == 1&&(hZ items.size items.size hi-hZ items.size 0 lo) == items.size)=true):=by
  intro q;rw [cC,cC] at q;have l:((hZ items.size 0 lo:Nat):Int)=0:=eq_of_beq q.1.1;have j:hZ items.size items.size hi-hZ items.size 0 lo=items.size:=eq_of_beq q.2;exact hw ⟨Oo,Oo⟩
 show wpAny _ _ (if (((hZ items.size 0 lo:Nat):Int) == 0&&(1:Int) == 1&&(hZ items.size items.size hi-hZ items.size 0 lo) == items.size)=true then _ else _) _ _ s;rw [if_neg d,RC]
 first
  | exact wpAny_bind (m:=Builtin.Tuple.tupleExact _) (wpAny_newObj_type (wpAny_pure ⟨_,rfl,wpAny_pure h⟩) a)
  | exact wpAny_bind (m:=Builtin.Tuple.tupleExact _) (wpAny_newObj_type (wpAny_bind (wpAny_pure (wpAny_pure ⟨_,rfl,wpAny_pure h⟩))) a)
  | exact wpAny_bind (wpAny_bind (m:=Builtin.Tuple.tupleExact _) (wpAny_newObj_type (wpAny_pure (wpAny_pure ⟨_,rfl,wpAny_pure h⟩)) a))
  | exact wpAny_bind (wpAny_bind (m:=Builtin.Tuple.tupleExact _) (wpAny_newObj_type (wpAny_pure ⟨_,rfl,wpAny_pure h⟩) a))
end
end HT
namespace L2
open PySem PySem.Spec PyProof.Rows
abbrev TO:=St->Hp->(Option Int->Hp->Prop)->Prop
def PO(X:Cx)(e:Option Expr)(t:TO):Prop :=
 ∀(pins:List (Addr × Obj)) (s:Shared) (σ:St) (H:Hp) (Q:Option Int->Hp->Prop),cH X pins σ H s->t σ H Q ->
  wpAny (model X.prog X.w) X.A (evalPart e X.env) (λu s'=>∃o H',cH X pins σ H' s'/\IsPart u o/\Q o H') X.xe s
def IZ:TO:=λ_ H Q=>Q none H
def YU(t:TE):TO:=λσ H Q=>t σ H λx H1=>∃i,x=.int i/\Q (some i) H1
theorem HM{ns:List Int}:∀{us:List Value},dS (ns.map V.int) us->IntsAre us ns:=by
 induction ns with
 | nil=>intro us r;rw [List.map_nil] at r;cases r;exact .nil
 | cons n ns ih =>
  intro us r;rw [aU] at r;cases r with
  | cons r1 r2 =>
   obtain ⟨t,e⟩:=r1;subst e;exact .cons n t (ih r2)
section
variable{X:Cx}{e:Expr}{te:TE}{lo hi:Option Expr}{tl th:TO}{pos p2:Pos}
theorem po_none:PO X none IZ:=by
 intro a s σ H Q I h;rw [evalPart_none];exact wpAny_pure ⟨none,H,I,.none,h⟩
theorem WH(h:PE X e te):PO X (some e) (YU te):=by
 intro a s σ H Q I d;rw [evalPart_some];refine thn (h a s σ H _ I d) λu f ⟨x,H1,I1,b,c⟩=>?_;obtain ⟨i,rfl,q⟩:=c;obtain ⟨t,rfl⟩:=b;exact ⟨some i,H1,I1,.int i t,q⟩
def SlR(X:Cx)(r:V->Option Int->Option Int->Hp->VK->Prop):Prop :=
 ∀(pins:List (Addr × Obj)) (s:Shared) (σ:St) (H:Hp) (x:V) (v vl vu:Value) (lo hi:Option Int) (sl:Addr) (Q:VK),cH X pins σ H s->dO x v->s.heap.IsSliceOf sl vl vu .none->IsPart vl lo->IsPart vu hi->r x lo hi H Q ->
  ∃T id,typeLookup (.type T) "__getitem__" = pure (some (.builtin id))/\s.TypeIs v T/\wpAny (model X.prog X.w) X.A (getItem v (.ref sl)) (EP X pins σ Q) X.xe s
def tSl(r:V->Option Int->Option Int->Hp->VK->Prop)(te:TE)(tl th:TO):TE:=λσ H Q=>te σ H λx H1=>tl σ H1 λl H2=>th σ H2 λu H3=>r x l u H3 Q
theorem RE{r:V->Option Int->Option Int->Hp->VK->Prop}(hr:SlR X r)(he:PE X e te)(hl:PO X lo tl)(hu:PO X hi th):PE X (.Subscript e (.Slice lo hi none p2) pos) (tSl r te tl th):=by
 intro a s σ H Q I h;refine Subscript_ (thn (he a s σ H _ I h) λv m ⟨x,H1,I1,n,z⟩=>?_);refine wpAny_Slice (thn (hl a m σ H1 _ I1 z) λd i ⟨l,H2,I2,pl,B⟩=>thn (hu a i σ H2 _ I2 B) λf c ⟨u,H3,I3,C,y⟩=>?_);rw [evalPart_none];refine wpAny_pure ?_;have I4:cH X a σ H3 { c with heap:=c.heap.push { cls:=.type "slice",data:=.fields #[d,f,.none] } }:=I3.kept (t':=c.toks) λb D q=>aD _ q;obtain ⟨T,G,j,o,p⟩:=hr a { c with heap:=c.heap.push { cls:=.type "slice",data:=.fields #[d,f,.none] } } σ H3 x v d f l u c.heap.objs.size Q I4 n (Heap.IsSliceOf.new ..) pl C y;show wpAny (model X.prog X.w) X.A (subscriptTail e (.Slice lo hi none p2) v (.ref c.heap.objs.size)) (EP X a σ Q) X.xe { c with heap:=c.heap.push { cls:=.type "slice",data:=.fields #[d,f,.none] } };exact tail_any (ops:=[.ref c.heap.objs.size,v]) o j p (by with_unfolding_all rfl)
def pJ(xs:List V)(lo hi:Option Int):List V:=(xs.drop (HT.hZ xs.length 0 lo)).take (HT.hZ xs.length xs.length hi-HT.hZ xs.length 0 lo)
theorem tR(xs:List V)(lo hi:Option Int):(pJ xs lo hi).length<=xs.length:=by
 unfold pJ;rw [bW,List.length_drop];omega
def aDN(K:PySem.W.Frag):V->Option Int->Option Int->Hp->VK->Prop:=λx lo hi H Q=>∃a xs,x=.ref a/\fO K H a xs /\
 ¬(HT.hZ xs.length 0 lo=0/\HT.hZ xs.length xs.length hi=xs.length)/\∀p,H p=none->Q (.ref p) (upd H p (.tup (pJ xs lo hi)))
theorem aAp:SlR X (aDN X.K):=by
 intro j s σ H x v z B e f C Q I w n pl y h;obtain ⟨a,d,rfl,u,p,q⟩:=h;cases w;obtain ⟨i,r,l,m⟩:=I.tuple u;have c:i.toArray.size=d.length:=by rw [bG];exact r.length.symm
 refine ⟨"tuple",_,PyProof.Rows.slot_tuple_getitem.lookup,l.typeIs,HT.rE l n pl y (by rw [c];exact p) ?_ (by rw [c];exact m)⟩;rw [c];refine ⟨.ref s.heap.objs.size,_,I.laid (t':=s.toks) (o:=.tup (pJ d e f)) (λb A q=>aD _ q) (aG _) ?_,rfl,q _ (I.hok.fresh (aG _))⟩;exact ⟨⟨aY (tR d e f) m,_,bB _ rfl,rfl⟩,_,(r.drop (HT.hZ d.length 0 e)).take (HT.hZ d.length d.length f-HT.hZ d.length 0 e),IsTup.new _ _⟩
def aCA(K:PySem.W.Frag):R2:=λx y H Q=>∃a b xs ys,x=.ref a/\y=.ref b/\fO K H a xs/\fO K H b ys/\xs≠[]/\xs.length+ys.length<=sizeLine /\
 (ys=[]->Q (.ref a) H)/\(ys≠[]->∀p,H p=none->Q (.ref p) (upd H p (.tup (xs++ys))))
theorem dS.nil_iff{xs:List V}{us:List Value}(r:dS xs us):us=[]↔xs=[]:=by
 cases r with
 | nil=>simp
 | cons _ _=>simp
theorem WV:nU X (binaryOp .Add) (aCA X.K):=by
 intro e s σ H x y v u Q I J j h;obtain ⟨a,b,m,p,rfl,rfl,B,l,C,i,A,G⟩:=h;cases J;cases j;obtain ⟨n,d,r,_⟩:=I.tuple B;obtain ⟨f,c,D,_⟩:=I.tuple l;refine HT.XV r D (λz=>C (d.nil_iff.mp z)) (λz=>⟨.ref a,H,I,rfl,A (c.nil_iff.mp z)⟩) (λz=>?_) (by rw [<-d.length,<-c.length];exact i);refine ⟨.ref s.heap.objs.size,_,I.laid (t':=s.toks) (o:=.tup (m++p)) (λb L q=>aD _ q) (aG _) ?_,rfl,G (λw=>z (c.nil_iff.mpr w)) _ (I.hok.fresh (aG _))⟩;exact ⟨⟨by rw [aT];exact i,_,bB _ rfl,rfl⟩,_,d.append c,IsTup.new _ _⟩
end
def KI(n:Nat)(i:Int):Option Nat:=if 0<=i then (if i<n then some i.toNat else none) else if -(n:Int)<=i then some (i+n).toNat else none
def CP{α:Type}(xs:List α)(i:Int):Option α:=(KI xs.length i).bind λj=>xs[j]?
theorem KH{n:Nat}{i:Int}{j:Nat}(h:KI n i=some j):seqIndex? i n=some j/\j<n/\-(n:Int)<=i/\i<n:=by
 unfold KI at h;by_cases h0:0<=i
 ·rw [if_pos h0] at h;by_cases h1:i<n
  ·rw [if_pos h1] at h;have e:i.toNat=j:=dB h;exact ⟨by rw [seqIndex_of h0 h1,e],Oo,Oo,h1⟩
  ·rw [if_neg h1] at h;cases h
 ·rw [if_neg h0] at h;by_cases h1:-(n:Int)<=i
  ·rw [if_pos h1] at h;have e:(i+n).toNat=j:=dB h;exact ⟨by rw [seqIndex_neg Oo h1,e],Oo,h1,Oo⟩
  ·rw [if_neg h1] at h;cases h
theorem CF{α:Type}{xs:List α}{i:Int}{v:α}(h:CP xs i=some v):∃j,seqIndex? i xs.length=some j/\xs[j]?=some v/\j<xs.length/\-(xs.length:Int)<=i/\i<xs.length:=by
 unfold CP at h;cases e:KI xs.length i with
 | none=>rw [e] at h;cases h
 | some j =>
  rw [e] at h;obtain ⟨d,b,a,c⟩:=KH e;exact ⟨j,d,h,b,a,c⟩
theorem cP{α:Type}{xs:List α}{j:Nat}{v:α}(h:xs[j]?=some v):CP xs (j:Int)=some v:=by
 have a:j<xs.length:=(aX.mp h).1;have e:KI xs.length (j:Int)=some j:=by
  unfold KI;rw [if_pos Oo,if_pos Oo];simp
 unfold CP;rw [e];exact h
def LT(b:Expr):Prop:=∀o i,subscripted b false o i=operate [o,i] (getItem o i)
def UK(X:Cx)(r:R2):Prop :=
 ∀(value slice:Expr) (pins:List (Addr × Obj)) (s:Shared) (σ:St) (H:Hp) (x y:V) (v u:Value) (Q:VK),cH X pins σ H s->dO x v->dO y u->r x y H Q ->
  subscripted slice false v u=operate [v,u] (getItem v u)->wpAny (model X.prog X.w) X.A (subscriptTail value slice v u) (EP X pins σ Q) X.xe s
def MtR(X:Cx)(id:String)(r:V->List V->Hp->VK->Prop):Prop :=
 ∀(pins:List (Addr × Obj)) (s:Shared) (σ:St) (H:Hp) (x:V) (xs:List V) (v:Value) (us:List Value) (Q:VK),cH X pins σ H s->dO x v->dS xs us->r x xs H Q ->
  wpAny (model X.prog X.w) X.A (call (.builtin id) (v::us)) (EP X pins σ Q) X.xe s
section
variable{X:Cx}{a b:Expr}{ta tb:TE}{pos:Pos}
theorem UK.or{r r':R2}(h:UK X r)(h':UK X r'):UK X (λx y H Q=>r x y H Q\/r' x y H Q):=by
 intro b a c s σ H x y v u Q I e d q f;rcases q with q | q
 ·exact h b a c s σ H x y v u Q I e d q f
 ·exact h' b a c s σ H x y v u Q I e d q f
theorem aCG{r:R2}(hr:UK X r)(ha:PE X a ta)(hb:PE X b tb)(hs:LT b):PE X (.Subscript a b pos) (VD r ta tb):=by
 intro c s σ H Q I h;exact Subscript_ (aBM ha hb I h λv u e x y H2 I2 f d q=>hr a b c e σ H2 x y v u Q I2 f d q (hs _ _))
def aCy(K:PySem.W.Frag):R2:=λx y H Q=>∃p xs i v,x=.ref p/\y=.int i/\fR K H p xs/\CP xs i=some v/\Q v H
def aCw(K:PySem.W.Frag):R2:=λx y H Q=>∃p xs i v,x=.ref p/\y=.int i/\fO K H p xs/\CP xs i=some v/\Q v H
def aCx:R2:=λx y H Q=>∃z i c,x=.str z/\y=.int i/\z.length<=sizeLine/\CP z.cps.toList i=some c/\Q (.str ⟨#[c]⟩) H
theorem XD:UK X (aCy X.K):=by
 intro d l a s σ H x y v u Q I J A h n;obtain ⟨p,O,i,z,rfl,rfl,N,M,q⟩:=h;cases J;obtain ⟨t,rfl⟩:=A;obtain ⟨e,r,pl,R⟩:=I.list N;obtain ⟨j,c,B,P,C,L⟩:=CF M;obtain ⟨w,o,m⟩:=r.get B;have D:=r.length;have S:=wC;have b:EP X a σ Q w s:=⟨z,H,I,m,q⟩;by_cases h0:0<=i
 ·have f:i.toNat=j:=by
   rw [seqIndex_of h0 L] at c;exact dB c
  exact item_listR pl.isList h0 Oo (by rw [f];simpa using o) b n
 ·have f:(i+(e.toArray.size:Int)).toNat=j:=by
   rw [seqIndex_neg Oo C] at c;rw [bG,<-D];exact dB c
  exact subscriptTail_builtinR (x:=w) pl.isList.typeIs slot_list_getitem.lookup
   (wpAny_getItem_list_neg (Q:=λr G=>r=w/\EP X a σ Q r G) pl.isList Oo (by rw [bG] <;> omega) Oo (by rw [f];simpa using o) ⟨rfl,b⟩) n
theorem aBq:UK X (aCw X.K):=by
 intro c d a s σ H x y v u Q I D f h o;obtain ⟨p,L,i,z,rfl,rfl,J,G,q⟩:=h;cases D;obtain ⟨t,rfl⟩:=f;obtain ⟨n,r,pl,O⟩:=I.tuple J;obtain ⟨j,l,m,M,N,R⟩:=CF G;obtain ⟨w,A,e⟩:=r.get m;have B:=r.length;have P:=wC;have b:EP X a σ Q w s:=⟨z,H,I,e,q⟩;exact subscriptTail_builtinR (x:=w) pl.typeIs slot_tuple_getitem.lookup
  (getItem_tuple (j:=j) (Q:=λr C=>r=w/\EP X a σ Q r C) pl Oo Oo (by rw [bG,<-B];exact l) (by simpa using A) ⟨rfl,b⟩) o
theorem aBr:UK X aCx:=by
 intro a b e s σ H x y v u Q I w f h p;obtain ⟨z,i,c,rfl,rfl,G,B,q⟩:=h;obtain ⟨t,rfl⟩:=w;obtain ⟨D,rfl⟩:=f;obtain ⟨j,d,n,C,o,A⟩:=CF B;have r:z.cps.toList.length=z.length:=by simp [Str.length]
 rw [r] at d o A;have J:=wC;exact tail_any (typeIs_str s z t) slot_str_getitem.lookup (getItem_str (c:=c) (by
  have m:decide (i < -(2^63:Int))=false:=bP Oo;have l:decide (i ≥ 2^63)=false:=bP Oo;rw [m,l,Bool.or_false]) (by rw [d];simpa using n) ⟨.str ⟨#[c]⟩,H,I.tok _,⟨_,rfl⟩,q⟩) p
def rIx(K:PySem.W.Frag):R2:=λx y H Q=>aCy K x y H Q\/aCw K x y H Q\/aCx x y H Q
theorem bL:UK X (rIx X.K):=XD.or (aBq.or aBr)
theorem HJ(its:List Value)(n j:Nat)(u:Value):Obj.mapSeq (·.setIfInBounds j u) { cls:=.type "list",data:=.seq its.toArray n }={ cls:=.type "list",data:=.seq (its.set j u).toArray n }:=by
 simp [Obj.mapSeq]
theorem cH.lst{pins:List (Addr × Obj)}{σ:St}{H:Hp}{s:Shared}{p:Addr}{xs:List V}(I:cH X pins σ H s)(h:H p=some (.lst xs)) :
  ∃(its:List Value) (n:Nat),dS xs its/\s.heap.get? p=some { cls:=.type "list",data:=.seq its.toArray n }/\xs.length<=sizeLine:=by
 obtain ⟨z,its,n,r,e⟩:=I.hok p _ h;exact ⟨its,n,r,e,z⟩
theorem cH.lstUpd{pins:List (Addr × Obj)}{σ:St}{H:Hp}{s:Shared}{p:Addr}{xs ys:List V}{its its':List Value}{n n':Nat}{f:Obj->Obj}(I:cH X pins σ H s)(h:H p=some (.lst xs))
  (ho:s.heap.get? p=some { cls:=.type "list",data:=.seq its.toArray n }) (hf:f { cls:=.type "list",data:=.seq its.toArray n }={ cls:=.type "list",data:=.seq its'.toArray n' }) (r:dS ys its') (hz:ys.length<=sizeLine) (t:Nat) :
  cH X pins σ (upd H p (.lst ys)) { s with heap:=s.heap.update p f,toks:=t }:=by
 have e:(s.heap.update p f).get? p=some { cls:=.type "list",data:=.seq its'.toArray n' }:=by
  rw [Heap.get?_update_self f ho (by rw [hf] <;> rfl),hf]
 refine I.write (x:=p) (e:=p) (by rw [h];trivial) (.inl rfl) (λb u a q=>(Heap.get?_update_other _ _ (Ne.symm a)).trans q) ⟨_,e⟩ ?_;exact ⟨hz,its',n',r,e⟩
def QU:V->V->V->Hp->(Hp->Prop)->Prop:=λo i v H Q=>∃p xs k j,o=.ref p/\i=.int k/\H p=some (.lst xs)/\KI xs.length k=some j/\Q (upd H p (.lst (xs.set j v)))
theorem jR:aBT X QU:=by
 intro a s σ H o i v G D u Q I y B rv h;obtain ⟨p,x,k,j,rfl,rfl,l,z,q⟩:=h;cases y;obtain ⟨t,rfl⟩:=B;obtain ⟨b,n,r,f,A⟩:=I.lst l;obtain ⟨c,C,m,w⟩:=KH z;have e:=r.length;have J:=wC;have I':cH X a σ (upd H p (.lst (x.set j v))) { s with heap:=s.heap.update p (Obj.mapSeq (·.setIfInBounds j u)) } :=
  I.lstUpd l f (HJ b n j u) (r.set rv j) (by rw [List.length_set];exact A) s.toks
 by_cases h0:0<=k
 ·have d:k.toNat=j:=by
   rw [seqIndex_of h0 w] at c;exact dB c
  exact PySem.W.ki_setAt f h0 Oo (by rw [bG,<-e];exact w) (by rw [d];exact ⟨_,I',q⟩)
 ·have d:(k+(b.toArray.size:Int)).toNat=j:=by
   rw [seqIndex_neg Oo m] at c;rw [bG,<-e];exact dB c
  exact PySem.W.ki_setBack f Oo (by rw [bG,<-e];exact m) Oo (by rw [d];exact ⟨_,I',q⟩)
theorem AS(lo hi:Option Int)(n:Nat):(sliceBounds lo hi none n).1=((HT.hZ n 0 lo:Nat):Int)/\(sliceBounds lo hi none n).2.1=((HT.hZ n n hi:Nat):Int)/\(sliceBounds lo hi none n).2.2=1:=by
 refine ⟨?_,?_,rfl⟩
 ·cases lo with
  | none=>simp [sliceBounds,HT.hZ]
  | some i =>
   simp only [sliceBounds,HT.hZ,Option.getD_none,show (1:Int) > 0 by decide,if_true];by_cases h:i<0
   ·simp only [h,if_true] <;> omega
   ·simp only [h,if_false] <;> omega
 ·cases hi with
  | none=>simp [sliceBounds,HT.hZ]
  | some i =>
   simp only [sliceBounds,HT.hZ,Option.getD_none,show (1:Int) > 0 by decide,if_true];by_cases h:i<0
   ·simp only [h,if_true] <;> omega
   ·simp only [h,if_false] <;> omega
theorem xL(its:List Value)(lo hi:Option Int):slicePick its.toArray lo hi none=((its.drop (HT.hZ its.length 0 lo)).take (HT.hZ its.length its.length hi-HT.hZ its.length 0 lo)).toArray:=by
 obtain ⟨c,b,a⟩:=AS lo hi its.toArray.size;unfold slicePick;rw [c,b,a];simp only [sliceRange_one,pick_run,bG] <;> rfl
def aCu(K:PySem.W.Frag):V->Option Int->Option Int->Hp->VK->Prop:=λx lo hi H Q=>∃a xs,x=.ref a/\fR K H a xs/\∀p,H p=none->Q (.ref p) (upd H p (.lst (pJ xs lo hi)))
theorem JG:SlR X (aCu X.K):=by
 intro i s σ H x v y A e f B Q I u m pl w h;obtain ⟨a,c,rfl,n,q⟩:=h;cases u;obtain ⟨l,r,j,p⟩:=I.list n;have d:=r.length;refine ⟨"list",_,slot_list_getitem.lookup,j.isList.typeIs,wpAny_getItem_list_slice j.isList m pl w .none (by simp) ?_ (by rw [bG] <;> omega)⟩;rw [xL,<-d];refine ⟨.ref s.heap.objs.size,_,I.laid (t':=s.toks) (o:=.lst (pJ c e f)) (λb z q=>aD _ q) (aG _) ?_,rfl,q _ (I.hok.fresh (aG _))⟩;exact ⟨aY (tR c e f) p,_,0,(r.drop (HT.hZ c.length 0 e)).take (HT.hZ c.length c.length f-HT.hZ c.length 0 e),bB _ rfl⟩
def nP:V->Bool
 | .non=>true
 | .bl _=>true
 | .int _=>true
 | .str _=>true
 | _=>false
def XL:V->V->Bool
 | .non,.non=>true
 | .bl a,.bl b=>a == b
 | .bl a,.int b=>(if a then 1 else 0) == b
 | .int a,.bl b=>a == (if b then 1 else 0)
 | .int a,.int b=>a == b
 | .str a,.str b=>a == b
 | _,_=>false
theorem aBF{A:Around}{s:Shared}{y x:V}{u v:Value}(ry:dO y u)(rx:dO x v)(fy:nP y=true)(fx:nP x=true):SeqAt.EqAt A s u v (XL y x):=by
 cases y with
 | non =>
  cases ry;cases x with
  | non=>cases rx;exact SeqAt.EqAt.same _
  | bl b=>cases rx;exact SeqAt.EqAt.none_bool b
  | int b=>obtain ⟨t,rfl⟩:=rx;exact SeqAt.EqAt.none_int b t
  | str b=>obtain ⟨t,rfl⟩:=rx;exact SeqAt.EqAt.none_str b t
  | _=>exact absurd (show false=true from fx) bN
 | bl a =>
  cases ry;cases x with
  | non=>cases rx;exact SeqAt.EqAt.bool_none a
  | bl b=>cases rx;exact SeqAt.EqAt.bool_bool a b
  | int b=>obtain ⟨t,rfl⟩:=rx;exact SeqAt.EqAt.bool_int a b t
  | str b=>obtain ⟨t,rfl⟩:=rx;exact SeqAt.EqAt.bool_str a b t
  | _=>exact absurd (show false=true from fx) bN
 | int a =>
  obtain ⟨c,rfl⟩:=ry;cases x with
  | non=>cases rx;exact SeqAt.EqAt.int_none a c
  | bl b=>cases rx;exact SeqAt.EqAt.int_bool a c b
  | int b=>obtain ⟨t,rfl⟩:=rx;exact SeqAt.EqAt.int_int a c b t
  | str b=>obtain ⟨t,rfl⟩:=rx;exact SeqAt.EqAt.int_str a c b t
  | _=>exact absurd (show false=true from fx) bN
 | str a =>
  obtain ⟨c,rfl⟩:=ry;cases x with
  | non=>cases rx;exact SeqAt.EqAt.str_none a c
  | bl b=>cases rx;exact SeqAt.EqAt.str_bool a c b
  | int b=>obtain ⟨t,rfl⟩:=rx;exact SeqAt.EqAt.str_int a c b t
  | str b=>obtain ⟨t,rfl⟩:=rx;exact SeqAt.EqAt.str_str a c b t
  | _=>exact absurd (show false=true from fx) bN
 | _=>exact absurd (show false=true from fy) bN
def HX(x:V)(u:Value):Bool:=match u with
 | .none=>XL .non x
 | .bool b=>XL (.bl b) x
 | .int i _=>XL (.int i) x
 | .str z _=>XL (.str z) x
 | _=>false
theorem SH{x y:V}{u:Value}(r:dO y u)(f:nP y=true):HX x u=XL y x:=by
 cases y with
 | non=>cases r;rfl
 | bl b=>cases r;rfl
 | int i=>obtain ⟨t,rfl⟩:=r;rfl
 | str z=>obtain ⟨t,rfl⟩:=r;rfl
 | _=>exact absurd (show false=true from f) bN
theorem rM{x:V}:∀{xs:List V}{us:List Value},dS xs us->xs.all nP=true->us.any (HX x)=xs.any λy=>XL y x
 | _,_,.nil,_=>rfl
 | y::xs,u::us,.cons r t,f=>by
  rw [List.all_cons,cC] at f;rw [List.any_cons,List.any_cons,SH r f.1,rM t f.2]
theorem oN{A:Around}{s:Shared}{x:V}{v:Value}(rx:dO x v)(fx:nP x=true):∀{xs:List V}{us:List Value},dS xs us->xs.all nP=true->∀u∈us,SeqAt.EqAt A s u v (HX x u)
 | _,_,.nil,_=>λu hu=>by cases hu
 | y::xs,u::us,.cons r t,f=>λu' hu=>by
  rw [List.all_cons,cC] at f;rcases bE.mp hu with rfl | hu
  ·rw [SH r f.1];exact aBF r rx f.1 fx
  ·exact oN rx fx t f.2 u' hu
def HN(x:V)(xs:List V):Bool:=xs.any λy=>XL y x
def rIn(K:PySem.W.Frag)(neg:Bool):R2:=λx y H Q=>∃p xs,y=.ref p/\(fR K H p xs\/fO K H p xs)/\nP x=true/\xs.all nP=true/\Q (.bl (if neg then !HN x xs else HN x xs)) H
theorem sI:nU X (compareOp .In) (rIn X.K false):=by
 intro d s σ H x y v u Q I f i h;obtain ⟨p,l,rfl,b,e,fs,q⟩:=h;cases i;rcases b with b | b
 ·obtain ⟨a,r,pl,j⟩:=I.list b;refine SeqAt.in_listAt (HX x) pl.isList (λw c=>oN f e r fs w (by simpa using c)) ⟨.bl _,H,I,rfl,?_⟩;rw [show a.toArray.any (HX x)=a.any (HX x) by simp,rM r fs];exact q
 ·obtain ⟨a,r,pl,j⟩:=I.tuple b;refine SeqAt.in_tupleAt (HX x) pl (λw c=>oN f e r fs w (by simpa using c)) ⟨.bl _,H,I,rfl,?_⟩;rw [show a.toArray.any (HX x)=a.any (HX x) by simp,rM r fs];exact q
theorem BI:nU X (compareOp .NotIn) (rIn X.K true):=by
 intro d s σ H x y v u Q I f i h;obtain ⟨p,l,rfl,b,e,fs,q⟩:=h;cases i;rcases b with b | b
 ·obtain ⟨a,r,pl,j⟩:=I.list b;refine SeqAt.notIn_listAt (HX x) pl.isList (λw c=>oN f e r fs w (by simpa using c)) ⟨.bl _,H,I,rfl,?_⟩;rw [show a.toArray.any (HX x)=a.any (HX x) by simp,rM r fs];exact q
 ·obtain ⟨a,r,pl,j⟩:=I.tuple b;refine SeqAt.notIn_tupleAt (HX x) pl (λw c=>oN f e r fs w (by simpa using c)) ⟨.bl _,H,I,rfl,?_⟩;rw [show a.toArray.any (HX x)=a.any (HX x) by simp,rM r fs];exact q
theorem CC:iM X (.type "list") (λxs H Q=>∃p ys,xs=[.ref p]/\(fR X.K H p ys\/fO X.K H p ys)/\∀l,H l=none->Q (.ref l) (upd H l (.lst ys))):=by
 intro j s σ H xs D Q I r h;obtain ⟨p,ys,rfl,z,q⟩:=h;obtain ⟨u,rfl,C⟩:=lK r;cases C;have i:∀(a:List Value),dS ys a->ys.length<=sizeLine->∀(c:Heap) (d:Nat),(∀b o',s.heap.get? b=some o'->c.get? b=some o') ->
   c.get? s.heap.objs.size=some { cls:=.type "list",dict:=none,data:=.seq a.toArray d,slots:=#[] }->EP X j σ Q (.ref s.heap.objs.size) { s with heap:=c }:=λa f x c d y e =>
  ⟨.ref s.heap.objs.size,_,I.laid (t':=s.toks) y (aG _) (show eM X.prog X.w _ c _ (.lst ys) from ⟨x,a,d,f,e⟩),rfl,q _ (I.hok.fresh (aG _))⟩
 rcases z with z | z
 ·obtain ⟨a,f,pl,x⟩:=I.list z;have m:=f.length;obtain ⟨o,B,A,n,hd⟩:=pl.isList;exact call_list_seq p (.inl rfl) B A hd (λc d y e=>i a f x c d y e) (by simp only [bG] <;> omega)
 ·obtain ⟨a,f,pl,x⟩:=I.tuple z;have m:=f.length;obtain ⟨o,B,A,n,hd⟩:=pl;exact call_list_seq p (.inr rfl) B A hd (λc d y e=>i a f x c d y e) (by simp only [bG] <;> omega)
theorem dI:iM X (.type "tuple") (λxs H Q=>∃p ys,xs=[.ref p]/\((fR X.K H p ys/\∀l,H l=none->Q (.ref l) (upd H l (.tup ys)))\/(fO X.K H p ys/\Q (.ref p) H))):=by
 intro a s σ H xs y Q I r h;obtain ⟨p,ys,rfl,h⟩:=h;obtain ⟨u,rfl,x⟩:=lK r;cases x;rcases h with ⟨i,q⟩ | ⟨i,q⟩
 ·obtain ⟨c,f,pl,m⟩:=I.list i;have j:=f.length;refine call_tuple_list pl.isList (λd n=>?_) (by simp only [bG] <;> omega);have I1:cH X a σ H { s with heap:=d }:=I.kept (t':=s.toks) n;have I2:cH X a σ (upd H d.objs.size (.tup ys)) { s with heap:=d.push { cls:=.type "tuple",data:=.seq c.toArray } } :=
   I1.laid (t':=s.toks) (λb o e=>aD _ e) (aG _) (show eM X.prog X.w _ _ _ (.tup ys) from ⟨⟨m,_,bB _ rfl,rfl⟩,c,f,IsTup.new _ _⟩)
  exact ⟨.ref d.objs.size,_,I2,rfl,q _ (I1.hok.fresh (aG _))⟩
 ·obtain ⟨c,f,pl,m⟩:=I.tuple i;exact call_tuple_same pl ⟨.ref p,H,I,rfl,q⟩
def tyV(K:PySem.W.Frag)(T:String)(x:V)(H:Hp):Prop:=match x with
 | .str _=>T = "str"
 | .int _=>T = "int"
 | .ref p=>(T = "list" /\ ∃xs,fR K H p xs)\/(T = "tuple" /\ ((∃o,K.lookup p=some o/\o.cls=.type "tuple" /\ o.dict=none)\/∃xs,H p=some (.tup xs))) \/
   (T = "dict" /\ ((∃kvs,H p=some (.dK kvs))\/∃kvs,H p=some (.dT kvs)))\/(T = "set" /\ ∃S n,H p=some (.set S n))
 | _=>False
theorem aAh{pins:List (Addr × Obj)}{σ:St}{H:Hp}{s:Shared}{T:String}{x:V}{v:Value}(I:cH X pins σ H s)(r:dO x v)(ty:tyV X.K T x H) :
  s.TypeIs v T/\∀a,v=.ref a->∃ob,s.heap.get? a=some ob/\ob.dict=none:=by
 cases x with
 | str z =>
  obtain ⟨t,rfl⟩:=r;cases (show T = "str" from ty);exact ⟨typeIs_str s z t,λ_ e=>nomatch e⟩
 | int i =>
  obtain ⟨t,rfl⟩:=r;cases (show T = "int" from ty);exact ⟨typeIs_int s i t,λ_ e=>nomatch e⟩
 | ref p =>
  cases r;rcases ty with ⟨rfl,l,j⟩ | ⟨rfl,⟨o,b,A,hd⟩ | ⟨l,j⟩⟩ | ⟨rfl,b⟩ | ⟨rfl,S,n,b⟩
  ·obtain ⟨y,_,pl,_⟩:=I.list j;refine ⟨pl.isList.typeIs,λa e=>?_⟩;cases e;obtain ⟨o,n,e,c,hd,_⟩:=pl;exact ⟨o,e,hd⟩
  ·refine ⟨⟨o,I.kIn p o b,A⟩,λa e=>?_⟩;cases e;exact ⟨o,I.kIn _ o b,hd⟩
  ·obtain ⟨⟨_,C,B,m⟩,_,_,o,u,f,_⟩:=(show eM X.prog X.w H s.heap p (.tup l) from I.hok p _ j);refine ⟨⟨o,u,f⟩,λa e=>?_⟩;cases e;exact ⟨C,B,m⟩
  ·have z:∃o,s.heap.get? p=some o/\o.ExactDict:=by
    rcases b with ⟨h,b⟩ | ⟨h,b⟩
    ·obtain ⟨_,_,_,_,o,_,_,e,d,_⟩:=I.hok p _ b;exact ⟨o,e,d⟩
    ·obtain ⟨_,_,_,_,o,_,_,e,d,_⟩:=I.hok p _ b;exact ⟨o,e,d⟩
   obtain ⟨o,e,d⟩:=z;refine ⟨⟨o,e,d.1⟩,λa f=>?_⟩;cases f;exact ⟨o,e,d.2.1⟩
  ·obtain ⟨o,_,_,_,e,d,_⟩:=I.hok p _ b;refine ⟨⟨o,e,d.1⟩,λa f=>?_⟩;cases f;exact ⟨o,e,d.2.1⟩
 | _=>exact False.elim ty
def tBM(K:PySem.W.Frag)(T:String)(r:V->List V->Hp->VK->Prop)(to:TE)(t:TA):TE:=λσ H Q=>to σ H λx H1=>tyV K T x H1/\t σ H1 λxs H2=>r x xs H2 Q
variable{o e:Expr}{es:List Expr}{to:TE}{t:TA}{name:Str}{apos cpos:Pos}{T id:String}{r:V->List V->Hp->VK->Prop}
theorem aCI(pa:PlainAttrs T)(slot:Slot T name id)(hty:typeOf (.builtin id)=pure (.type "method_descriptor"))(hm:MtR X id r)(ho:PE X o to)(ha:PA X (e::es) t)
  (hbase:attributeBase o name X.env (eval o X.env)=eval o X.env:=by rfl)
  (hfew:((backTo cpos (starEach (e::es) X.env)).all (λx=>!x.1)&&(backToKw cpos (keywordEach [] X.env)).all (λx=>x.1.isSome)
   && decide ((e::es).length+([]:List Keyword).length+(if ([]:List Keyword).isEmpty then 0 else 1)<30))=true:=by rfl)
  (hline:(apos.endLine == cpos.line)=true:=by rfl) (hs:starEach (e::es) X.env=(false,eval e X.env)::starEach es X.env:=by rfl) (hplain:(backTo cpos (starEach es X.env)).any (·.1)=false:=by rfl) :
  PE X (.Call (.Attribute o name apos) (e::es) [] cpos) (tBM X.K T r to t):=by
 intro b s σ H Q I h;refine wpAny_Call_method_late hbase hfew hline rfl (thn (ho b s σ H _ I h) λv l ⟨x,H1,I1,c,i,u⟩=>?_);obtain ⟨j,n⟩:=aAh I1 c i;refine ⟨T,id,pa,slot,hty,j,n,?_⟩;have d:=ha cpos b l σ H1 _ I1 u;rw [hs] at d ⊢;refine Calls.callWith_builtin (by show (false || (backTo cpos (starEach es X.env)).any (·.1))=false;rw [hplain] <;> rfl) (Calls.evalArgs_plain ?_);exact thn d λw f ⟨p,H2,I2,z,y⟩=>hm b f σ H2 x p v w Q I2 c z y
/- xs.append(e),list.index on a module's tuple .. are MtR facts of 06m -/
end
def MtM(X:Cx)(id:String)(r:V->List V->Hp->VK->Prop):Prop :=
 ∀(pins:List (Addr × Obj)) (s:Shared) (σ:St) (H:Hp) (x:V) (xs:List V) (v:Value) (us:List Value) (Q:VK),cH X pins σ H s->dO x v->dS xs us->r x xs H Q ->
  wpAny (model X.prog X.w) X.A (call (.builtin id) (v::us)) (EP X pins σ Q) X.xe s
theorem dS.one:∀{x:V}{us:List Value},dS [x] us->∃u,us=[u]/\dO x u
 | _,_,.cons r .nil=>⟨_,rfl,r⟩
theorem yY(its:List Value):∀(k:Nat) (acc:List Value),
  List.foldl (λx1 x2=>x1++x2) acc.toArray (List.replicate k its.toArray)=(acc++(List.replicate k its).flatten).toArray
 | 0,acc=>by simp
 | k+1,acc=>by
  have e:acc.toArray++its.toArray=(acc++its).toArray:=by simp
  have a:(acc++its)++(List.replicate k its).flatten=acc++(List.replicate (k+1) its).flatten:=by
   rw [List.replicate_succ,List.flatten_cons,List.append_assoc]
  rw [<-a,<-yY its k (acc++its),<-e,List.replicate_succ,List.foldl_cons]
section
variable{X:Cx}{pins:List (Addr × Obj)}{σ:St}{H:Hp}{s:Shared}{l b:Addr}{xs ys zs:List V}
theorem cH.lset{its its':List Value}{n:Nat}{f:Array Value->Array Value}{t':Nat}(I:cH X pins σ H s)(hH:H l=some (.lst xs))
  (e:s.heap.get? l=some { cls:=.type "list",data:=.seq its.toArray n }) (hf:f its.toArray=its'.toArray) (hv:dS ys its') (hz:ys.length<=sizeLine) :
  cH X pins σ (upd H l (.lst ys)) { s with heap:=s.heap.update l (Obj.mapSeq f),toks:=t' }:=by
 have q:=PySem.IsL.update e f;rw [hf] at q;refine I.write (x:=l) (e:=l) (by rw [hH];exact trivial) (.inl rfl) (λc u a b=>(Heap.get?_update_other s.heap (Obj.mapSeq f) (Ne.symm a)).trans b) ⟨_,q⟩ ?_;exact ⟨hz,its',_,hv,q⟩
theorem cH.lnew{its:List Value}{t':Nat}(I:cH X pins σ H s)(hv:dS ys its)(hz:ys.length<=sizeLine) :
  cH X pins σ (upd H s.heap.objs.size (.lst ys)) { s with heap:=s.heap.push { cls:=.type "list",data:=.seq its.toArray },toks:=t' } :=
 I.laid (λ_ _ q=>aD _ q) (aG _) ⟨hz,its,0,hv,bB _ rfl⟩
theorem cH.fresh(I:cH X pins σ H s):H s.heap.objs.size=none:=I.hok.fresh (aG _)
theorem cH.lstM(I:cH X pins σ H s)(hH:H l=some (.lst xs)):xs.length<=sizeLine/\∃(its:List Value) (n:Nat),dS xs its/\xs.length=its.length/\s.heap.get? l=some { cls:=.type "list",data:=.seq its.toArray n }:=by
 obtain ⟨z,its,n,r,e⟩:=I.hok l _ hH;exact ⟨z,its,n,r,r.length,e⟩
theorem RO{n:Nat}(h:n<=sizeLine):Builtin.List.listTooLong n=false:=by
 unfold Builtin.List.listTooLong;exact bP Oo
end
section
variable{X:Cx}
def JQ:V->List V->Hp->VK->Prop:=λx vs H Q=>∃l xs y,x=.ref l/\vs=[y]/\H l=some (.lst xs)/\xs.length<sizeLine/\Q .non (upd H l (.lst (xs++[y])))
theorem sM:MtM X "list.append" JQ:=by
 intro b s σ H x j v p Q I f rv h;obtain ⟨l,i,y,rfl,rfl,c,o,q⟩:=h;cases f;obtain ⟨u,rfl,d⟩:=rv.one;obtain ⟨z,a,n,r,m,e⟩:=I.lstM c;refine call_meets F.slot_list_append ⟨_,e,rfl⟩ F.entry_list_append (F.args_list_append_2 _ _) (PySem.list_append l a.toArray n u (by rw [bG];omega)) ⟨e,⟨.non,_,I.lset (its':=a++[u]) c e (by simp) (r.append (.cons d .nil)) ?_,rfl,q⟩⟩;rw [aT,List.length_singleton];omega
def JO:V->List V->Hp->VK->Prop:=λx vs H Q=>∃l b xs zs,x=.ref l/\vs=[.ref b]/\H l=some (.lst xs)/\H b=some (.lst zs)/\xs.length+zs.length<=sizeLine/\Q .non (upd H l (.lst (xs++zs)))
theorem NI:MtM X "list.extend" JO:=by
 intro i s σ H x G v N Q I A rv h;obtain ⟨l,b,D,C,rfl,rfl,j,m,M,q⟩:=h;cases A;obtain ⟨u,rfl,p⟩:=rv.one;cases p;obtain ⟨z,c,n,r,L,e⟩:=I.lstM j;obtain ⟨J,a,y,B,w,o⟩:=I.lstM m;have f:c.toArray.size+a.toArray.size<=sizeLine:=by rw [bG,bG];omega
 have d:¬(!c.toArray.isEmpty&&Builtin.List.listTooLong (c.toArray.size+a.toArray.size))=true:=by
  rw [RO f,Bool.and_false];exact bN
 refine call_meets F.slot_list_extend ⟨_,e,rfl⟩ F.entry_list_extend (F.args_list_extend_2 _ _)
  (AutoSeq1.list_extend_list_list_0 l c.toArray n b a.toArray y d (by rw [bG];omega) Oo) ⟨e,o,?_⟩
 refine ⟨.non,_,I.lset (its':=c++a) j e (by simp) (r.append B) ?_,rfl,q⟩;rw [aT];omega
def aCB:R2:=λx y H Q=>∃l b xs zs,x=.ref l/\y=.ref b/\H l=some (.lst xs)/\H b=some (.lst zs)/\xs.length+zs.length<=sizeLine/\∀p,H p=none->Q (.ref p) (upd H p (.lst (xs++zs)))
theorem aBe:nU X (binaryOp .Add) aCB:=by
 intro d s σ H x y v u Q I w i h;obtain ⟨l,b,C,B,rfl,rfl,o,f,J,q⟩:=h;cases w;cases i;obtain ⟨z,c,n,r,G,e⟩:=I.lstM o;obtain ⟨D,a,L,A,p,j⟩:=I.lstM f;refine PySem.P.add_list e j ?_ (by rw [bG,bG];omega);have m:c.toArray++a.toArray=(c++a).toArray:=by simp
 rw [m];exact ⟨.ref _,_,I.lnew (t':=s.toks) (r.append A) (by rw [aT];omega),rfl,q _ I.fresh⟩
end
section
variable{prog:Program}{w:World}{A:Around}{E:Value->Shared->Prop}{s:Shared}
end
section
variable{X:Cx}
end
end L2
namespace Att
open PySem PySem.W PySem.Calls PyProof.Rows
theorem tX{P:Params}{h:Heap}:∀(ns:List Int) (vs:List Value),WellAll P h vs (ns.map WData.int)->IntsAre vs ns:=by
 intro ns
 induction ns with
 | nil =>
  intro vs w;rw [List.map_nil] at w;cases w;exact .nil
 | cons n ns ih =>
  intro vs w;rw [aU] at w;cases w with
  | cons a b =>
   cases a;exact .cons _ _ (ih _ b)
theorem MP{l:OpenLaw}{n:Nat}(hn:l.most=some n){P:Params}{h:Heap}{args:List WData}{vals:List Value}
  (hpre:l.row.toRowW.claim.pre args=true) (hwl:WellAll P h vals args) :
  ∃a vs ns,vals=[Value.ref a]/\args=[WData.list (ns.map WData.int)]/\h.get? a=some { cls:=.type "list",data:=.seq vs.toArray }/\IntsAre vs ns/\ns.length<=n:=by
 have f:WShape.hasAll [] args [.list .int]=true:=(pre_splitW hpre).1;have i:l.pre.holds [] { args:=args }=true:=(pre_splitW hpre).2;obtain ⟨d,r,rfl,p,m⟩:=hasAllW_cons f;obtain rfl:=hasAllW_nil m;obtain ⟨s,rfl,o⟩:=hasW_list p;obtain ⟨ns,rfl⟩:=items_int o;have b:ns.length<=n:=by
  unfold OpenLaw.pre at i;have e:(WTm.not (.lt (.lit (.int (n:Int))) (.len (.arg 0)))).holds [] { args:=[.list (ns.map .int)] }=true:=by
   have e:=(holds_andW i).1;rw [hn] at e;exact e
  have c:=condW_of e (w_not (w_lt w_lit (w_len_list (w_arg rfl))));rw [aC] at c;refine Nat.le_of_not_lt λq=>?_;have j:(n:Int)<((ns.length:Nat):Int):=Oo
  first
   | (rw [bY j] at c;exact absurd c Dd)
   | (simp at c;omega)
 cases hwl with
 | cons w1 w2 =>
  cases w2;cases w1 with
  | list ho hall=>exact ⟨_,_,ns,rfl,rfl,ho,tX ns _ hall,b⟩
theorem NC(l:OpenLaw)(args:List WData):l.row.toRowW.claim.post args (.bool true) args=true :=
 postW_of (r:=l.row.toRowW) (X:=(true == true))
  (show WShape.has [] (.bool true) .bool=true by first | rfl | decide | simp [WShape.has,WShape.arms,WShape.armsAll])
  (show (WTm.eq .res (.lit (.bool true))).value [] { args:=args,res:=some (.bool true),after:=args }=some (.bool (true == true)) from w_eq_bool (w_res rfl) w_lit) rfl
theorem FT{l:OpenLaw}{n:Nat}{q:Program}{loose:List Str}{XP:(Str->Option Value)->Heap->Prop}{YP:World->Heap->Prop}{d:DefRec}
  (hn:l.most=some n) (hdf:d.params.defaults=[])
  (call:∀(w:World) (s₀ s₁:Shared) (mg mb:Str->Option Value) (fa:Addr) (o:Obj) (pm cd doc:Value) (a:Addr) (vs:List Value) (ns:List Int),
   Ground q loose [] XP w s₀ mg mb s₁.heap->YP w s₁.heap ->
   s₁.heap.get? fa=some o->o.data=.func (docDef d.name d.params d.body d.scope pm cd doc)->s₁.heap.CodeRec cd d.name->mg d.name=some (.ref fa) ->
   s₁.heap.get? a=some { cls:=.type "list",data:=.seq vs.toArray }->IntsAre vs ns->ns.length<=n->s₁.gens=#[] ->
   codeAny (model l.prog w) callerA (.call (.ref fa) ⟨[.ref a],[]⟩) (λr s'=>r=.ok (.ret (.bool true))/\OldK s₁.heap s'.heap/\s'.os=s₁.os/\AllBare s'.gens) s₁) :
  WalkO q loose XP YP l.row.toRowW d [] (λf vs=>PySem.call f vs):=by
 intro w s₀ s₁ mg mb G Y fa o pm cd doc C kV D hd j hD m z p vals L h s A i I;obtain rfl:C=.none:=Dflts.none hD hdf;obtain rfl:kV=.none:=Dflts.noKw hD;obtain ⟨a,vs,ns,rfl,rfl,e,b,c⟩:=MP hn h i;refine enter_call (codeAny_mono (call w s₀ s₁ mg mb fa o pm cd doc a vs ns G Y D (fd_plain hd) j m e b c z) λr s' J=>?_);obtain ⟨rfl,u,x,y⟩:=J;exact ⟨.inl ⟨.bool true,.bool true,[],rfl,λ_=>rfl,.bool true,NC l _,λ_=>⟨List.Pairwise.nil,λ_ B=>(nomatch B)⟩⟩,u,x,y⟩
section
variable{prog:Program}{w:World}{A:Around}{E:Value->Shared->Prop}{s:Shared}{K:Frag}
end
end Att
namespace L2
open PySem PySem.Spec PyProof.Rows
theorem xZ:∀{vs:List Value}{ns:List Int},IntsAre vs ns->dS (ns.map V.int) vs
 | _,_,.nil=>.nil
 | _,_,.cons n t h=>.cons ⟨t,rfl⟩ (xZ h)
def YK(H:Hp):Prop:=∀b,H b=none\/∃o xs,H b=some (.frz o (.lst xs))
theorem RS{P:Program}{w:World}{K:PySem.W.Frag}{mg mb:Str->Option Value}{CX:OM}{k:Nat}{fa a:Addr}{fd:FuncData}{x:Str}{sp:Sp}{s₁:Shared}{vs:List Value}{ns:List Int}
  (KX:K.In s₁.heap) (hns:s₁.heap.Ns mainGlobals mg) (hb:s₁.heap.Ns builtinsNs mb) (hbb:∀x:Str,x ≠ "__name__" -> mb x=bootBuiltins x) (hlim:s₁.heap.NoLimit) (hg:s₁.gens=#[])
  (ha:s₁.heap.get? a=some { cls:=.type "list",data:=.seq vs.toArray }) (hi:IntsAre vs ns) (hl:ns.length<=sizeLine) (hr:kD k callerA)
  (F:∀base:Heap,K.In base->base.Ns mainGlobals mg->fJ P w K mg base CX k fa fd [x] sp) (hbind:∀(s:Shared) (u:Value),BindsTo s fd ⟨[u],[]⟩ [(x,u)])
  (hsp:∀H:Hp,YK H->fR K H a (ns.map V.int)->sp [.ref a] H (λv _=>v=.bl true) λ_ _ _=>False)
  (hCX:∀H e s',CX [] H s₁ (λ_ _ _=>False) e s'->False) :
  codeAny (model P w) callerA (.call (.ref fa) ⟨[.ref a],[]⟩) (λr s'=>r=.ok (.ret (.bool true))/\OldK s₁.heap s'.heap/\s'.os=s₁.os/\AllBare s'.gens) s₁:=by
 have rv:=xZ hi;have p:=hi.length;have i:∀H:Hp,YK H->fR K H a (ns.map V.int)->nV P w H s₁.heap->(∀b,H b≠none->b=a)->(H a≠none->K.lookup a=none) ->
   codeAny (model P w) callerA (.call (.ref fa) ⟨[.ref a],[]⟩) (λr s'=>r=.ok (.ret (.bool true))/\OldK s₁.heap s'.heap/\s'.os=s₁.os/\AllBare s'.gens) s₁:=by
  intro H L U j M T;have c:∀{b:Addr} {o:Obj},s₁.heap.get? b=some o->H b=none->(BT s₁.heap H).get? b=some o:=λe n=>RY e n;have I:∀{b:Addr} {o:Obj} {D:Array DictEntry} {l:Nat},s₁.heap.get? b=some o->o.data=.dict D l->H b=none:=λ{b o D l} e d=>by
   cases q:H b with
   | none=>rfl
   | some u =>
    have G:b=a:=M b (by rw [q];simp);subst G;rw [ha] at e;cases e;have R:Data.seq vs.toArray _=Data.dict D l:=d;cases R
  have f:∀{b:Addr} {m:Str->Option Value},s₁.heap.Ns b m->(BT s₁.heap H).Ns b m:=λ{b m} ⟨o,D,l,e,d,r⟩=>⟨o,D,l,c e (I e d),d,r⟩;have A:K.In (BT s₁.heap H):=λb o e=>c (KX b o e) (by
   cases q:H b with
   | none=>rfl
   | some u =>
    have G:b=a:=M b (by rw [q];simp);subst G;rw [T (by rw [q];simp)] at e;cases e)
  have Y:Mod K mg (BT s₁.heap H):=⟨A,f hns,⟨mb,f hb,hbb⟩,let ⟨mc,h1,h2⟩:=hlim;⟨mc,f h1,h2⟩⟩;have α:YR P w K mg (BT s₁.heap H) callerA [] s₁ H:=⟨rfl,Y,λb o e=>WX e,Nat.le_of_eq (NN _ _),trivial,λb hb=>absurd (show b∈([]:List Addr) from hb) (by simp),j,.of_eq hg⟩;refine codeAny_mono ((F _ A (f hns)).run callerA [] s₁ H ⟨[.ref a],[]⟩ [.ref a] [.ref a] _ _ hr α (hbind s₁ (.ref a)) (.cons rfl .nil) (hsp H L U)) λr s' h=>?_;cases r with
  | error e=>exact (hCX H e s' h).elim
  | ok fl =>
   cases fl with
   | next=>exact False.elim h
   | brk=>exact False.elim h
   | cont=>exact False.elim h
   | ret u =>
    obtain ⟨v,H',os,y,un,C,X,q⟩:=h;have S:v=.bl true:=q;subst S;obtain rfl:u=Value.bool true:=X;refine ⟨rfl,OldK.of_keep λb o e=>?_,os,y⟩;cases q:H b with
    | none=>exact un.keep b o e q (by intro z;exact absurd (show b∈([]:List Addr) from z) (by simp)) (by simp)
    | some u =>
     rcases L b with z | ⟨N,β,z⟩
     ·rw [q] at z;cases z
     ·have Z:=un.frzs b N _ z;obtain ⟨J,_⟩:=j b _ z;obtain ⟨O,_⟩:=C b _ Z;rw [e] at J;cases J;exact O
 cases hk:K.lookup a with
 | some o =>
  have e:=KX a o hk;rw [ha] at e;cases e;refine i (λ_=>none) (λ_=>.inl rfl) (.inr ⟨_,vs.toArray,_,hk,rfl,rfl,rfl,by rw [bG,p];exact hl,by simpa using rv⟩) (λb u z=>by have B:(none:Option HO)=some u:=z;cases B) (λb z=>absurd rfl z) λz=>absurd rfl z
 | none =>
  refine i (λb=>if b=a then some (.frz { cls:=.type "list",data:=.seq vs.toArray } (.lst (ns.map V.int))) else none) (λb=>?_) (.inl (.inr ⟨{ cls:=.type "list",data:=.seq vs.toArray },if_pos rfl⟩)) (λb u z=>?_) (λb z=>?_) λ_=>hk
  ·by_cases hb:b=a
   ·exact .inr ⟨_,_,if_pos hb⟩
   ·exact .inl (if_neg hb)
  ·by_cases hb:b=a
   ·have B:=(if_pos hb).symm.trans z;cases B;subst hb;exact ⟨ha,by rw [aC];exact hl,vs,_,rv,ha⟩
   ·have B:=(if_neg hb).symm.trans z;cases B
  ·by_cases hb:b=a
   ·exact hb
   ·exact absurd (if_neg hb) z
theorem IO{l:PySem.W.OpenLaw}{n k:Nat}{q:Program}{loose:List Str}{XP:(Str->Option Value)->Heap->Prop}{YP:World->Heap->Prop}{d:DefRec}{K:Params->PySem.W.Frag}{CX:World->OM}{sp:World->Sp}{x:Str}
  (hn:l.most=some n) (hn2:n<=sizeLine) (hdf:d.params.defaults=[]) (hr:kD k callerA)
  (hY:∀(w:World) (h:Heap),YP w h->(K w.params).In h)
  (F:∀(w:World) (mg:Str->Option Value) (fa:Addr) (h:Heap),(K w.params).In h->h.Ns mainGlobals mg->mg d.name=some (.ref fa) ->
   ∃fd:FuncData,(∀(s:Shared) (u:Value),BindsTo s fd ⟨[u],[]⟩ [(x,u)]) /\
    ∀base:Heap,(K w.params).In base->base.Ns mainGlobals mg->fJ l.prog w (K w.params) mg base (CX w) k fa fd [x] (sp w))
  (hsp:∀(w:World) (H:Hp) (a:Addr) (ns:List Int),ns.length<=n->YK H->fR (K w.params) H a (ns.map V.int)->sp w [.ref a] H (λv _=>v=.bl true) λ_ _ _=>False)
  (hCX:∀(w:World) (H:Hp) (s:Shared) (e:Value) (s':Shared),CX w [] H s (λ_ _ _=>False) e s'->False) :
  PySem.W.WalkO q loose XP YP l.row.toRowW d [] (λf vs=>PySem.call f vs):=by
 refine Att.FT hn hdf λw M p mg J fa o I N D a vs ns G Y L hd z m j i c B=>?_;have KX:=hY w _ Y;obtain ⟨fd,r,A⟩:=F w mg fa _ KX G.T.g m;exact RS KX G.T.g G.T.b G.T.builtins G.T.nolimit B j i (aY c hn2) hr A r (λH C y=>hsp w H a ns c C y) λH e s'=>hCX w H p e s'
theorem PF{l:PySem.W.OpenLaw}{n k:Nat}{q:Program}{loose:List Str}{XP:(Str->Option Value)->Heap->Prop}{YP:World->Heap->Prop}{d:DefRec}{K:Params->PySem.W.Frag}{CX:OM}{sp:PySem.W.Frag->Sp}{x:Str}
  (hn:l.most=some n) (hn2:n<=sizeLine) (hdf:d.params.defaults=[]) (hr:kD k callerA)
  (hY:∀(w:World) (h:Heap),YP w h->(K w.params).In h)
  (F:∀(w:World) (mg:Str->Option Value) (fa:Addr) (h:Heap),(K w.params).In h->h.Ns mainGlobals mg->mg d.name=some (.ref fa) ->
   ∃fd:FuncData,(∀(s:Shared) (u:Value),BindsTo s fd ⟨[u],[]⟩ [(x,u)]) /\
    ∀base:Heap,(K w.params).In base->base.Ns mainGlobals mg->fJ l.prog w (K w.params) mg base CX k fa fd [x] (sp (K w.params)))
  (hsp:∀(K:PySem.W.Frag) (H:Hp) (a:Addr) (ns:List Int),ns.length<=n->YK H->fR K H a (ns.map V.int)->sp K [.ref a] H (λv _=>v=.bl true) λ_ _ _=>False)
  (hCX:∀(H:Hp) (s:Shared) (e:Value) (s':Shared),CX [] H s (λ_ _ _=>False) e s'->False) :
  PySem.W.WalkO q loose XP YP l.row.toRowW d [] (λf vs=>PySem.call f vs) :=
 IO (K:=K) (CX:=λ_=>CX) (sp:=λw=>sp (K w.params)) hn hn2 hdf hr hY F (λw H a ns i b c=>hsp (K w.params) H a ns i b c) λ_ H s e s'=>hCX H s e s'
end L2
/- THE LAST THEOREM (shape;LID,My.* are yours):
   My.Adr: a structure of the addresses that your layer names (classes,functions);My.Txt K t: a structure (Prop) of the equations over K;
   My.txt_mk:{K} {implicit addresses ..} (e1:nsIn K mainGlobals "law" = some (some (.ref f))) (e2:K.lookup f=some ⟨oc,od,.func (fnOf "law" "law" params body scope dV kV doc pm an cdv ct),sl⟩) (e3:codeIn K cdv "law" = true) .. : ∃t,My.Txt K t
set_option maxRecDepth 100000 in
set_option maxHeartbeats 0 in
theorem PySem.Challenge.cw_LID_holds : PySem.Challenge.rw_LID.Holds := by
  w_on;o_law;k_head;(case hw=>w_witness2)
  k_fill
  refine L2.IO (l:=PySem.Challenge.rw_LID) (n:=63) (k:=40) (x := "script") (CX:=λw=>..) (sp:=λ_=>My.sp_law) rfl Dd rfl ⟨rfl,Dd,Dd⟩ (λw h Y=>PySem.W.kIn_of Y) ?F ?S ?C
  case F =>
    intro w y i h KX G e;have T:∃t,My.Txt (L2.KOf KX) t:=by
      dsimp only [L2.KOf]                          -- K must stand as «<heap const> w.params» for k_is
      refine' My.txt_mk ?e1 ?e2 ?e3 ..
      (case e1=>PySem.W.k_is)                    -- in the order: a name -> its address -> its object -> its parts
      (case e2=>PySem.W.k_is)
      ..
    obtain ⟨t,T⟩:=T;have j:=e.symm.trans (PySem.W.mg_of KX G T.law);cases j                                       -- i is the law's own address;exact ⟨_,λs u=>.of_eq rfl,λc f d=>My.law_fn T f d⟩     -- if «.of_eq rfl» comes too early: refine' ⟨_,?b,λc f d=>My.law_fn T f d⟩;exact λs u=>.of_eq rfl
  case S=>exact λw H a p o r m=>..
  case C=>exact ..
(the tactic k_is has no namespace: write k_is) -/
namespace L2
open PySem PySem.Spec PyProof.Rows
def pC(s:Stmt):Arguments:=match s with
 | .FunctionDef _ a _ _ _ _ _ _ _ _=>a
 | _=>{ posonlyargs:=[],args:=[],vararg:=none,kwonlyargs:=[],kw_defaults:=[],kwarg:=none,defaults:=[] }
def kB(s:Stmt):List Stmt:=match s with
 | .FunctionDef _ _ b _ _ _ _ _ _ _=>b
 | _=>[]
def bJ(s:Stmt):Scope:=match s with
 | .FunctionDef _ _ _ _ _ _ sc _ _ _=>sc
 | _=>{ kind:=.function,names:=[],isGenerator:=false,isCoroutine:=false }
abbrev eV:OM:=λ_ _ _ _ _ _=>False
abbrev E0:XK:=λ_ _ _=>False
theorem aCJ{X:Cx}:IK eV X E0:=λ_ _ _ _ _ _ _ h=>h.elim
structure lC(K:PySem.W.Frag)(x qual:Str)(st:Stmt)(f:Addr)(fd:FuncData):Prop where
 ex:∃(oc:Value) (od:Option Addr) (kV doc pm:Value) (an:Option Addr) (cdv ct:Value) (osl:Array (Option Value)),
  fd=PySem.W.fnOf x qual (pC st) (kB st) (bJ st) .none kV doc pm an cdv ct/\K.lookup f=some ⟨oc,od,.func fd,osl⟩/\PySem.W.codeIn K cdv qual=true
 kp:PySem.W.keepIn K (.ref f)=true
section
variable{P:Program}{w:World}{K:PySem.W.Frag}{mg:Str->Option Value}{base:Heap}
theorem lC.ok{x qual:Str}{st:Stmt}{f:Addr}{fd:FuncData}{N ps:List Str}{k:Nat}{sp:Sp}(F:lC K x qual st f fd)(S:cT N ps (bJ st))(len:∀vs H Q E,sp vs H Q E->vs.length=ps.length)
  (hbody:∀(cdv:Value) (A:Around) (outer:List Env) (s:Shared) (H:Hp) (vs:List V) (Q:VK) (E:XK),kD k (A.deeper (envOfC qual (bJ st) s.heap.objs.size f cdv))->sp vs H Q E ->
   ∃t,IL (FG eV P w K mg base N qual (bJ st) f cdv A outer s H E).nox (kB st) t/\t { nx:=λ_ H'=>Q .non H',rt:=Q } (start N vs) H):fJ P w K mg base eV (k+1) f fd ps sp:=by
 obtain ⟨m,n,kV,i,l,j,cdv,ct,e,rfl,d,a⟩:=F.ex;refine aC2 d a S len λA outer s H vs Q E c b=>?_;obtain ⟨t,h,q⟩:=hbody cdv A outer s H vs Q E c b;exact ⟨t,h.nox,q⟩
theorem lC.binds{x qual:Str}{st:Stmt}{f:Addr}{fd:FuncData}{ps:List Str}(F:lC K x qual st f fd)
  (h:∀(kV doc pm:Value) (an:Option Addr) (cdv ct:Value) (us:List Value),us.length=ps.length->bindArgs (PySem.W.fnOf x qual (pC st) (kB st) (bJ st) .none kV doc pm an cdv ct) ⟨us,[]⟩=pure (ps.zip us)):zY K fd ps []:=by
 obtain ⟨c,d,kV,doc,pm,an,cdv,ct,a,rfl,e,b⟩:=F.ex;exact .all (h kV doc pm an cdv ct)
theorem HR{x qual:Str}{st:Stmt}{f:Addr}{oc:Value}{od an:Option Addr}{osl:Array (Option Value)}{kV doc pm cdv ct:Value}(l:K.lookup f=some ⟨oc,od,.func (PySem.W.fnOf x qual (pC st) (kB st) (bJ st) .none kV doc pm an cdv ct),osl⟩)
  (c:PySem.W.codeIn K cdv qual=true) (k:PySem.W.keepIn K (.ref f)=true):lC K x qual st f (PySem.W.fnOf x qual (pC st) (kB st) (bJ st) .none kV doc pm an cdv ct):=⟨⟨oc,od,kV,doc,pm,an,cdv,ct,osl,rfl,l,c⟩,k⟩
end
theorem sD{n:Nat}(h:n<=1000):n<sizeLine:=bA h Dd
section
variable{X:Cx}
theorem pv(i:Nat){x:Str}{pos:Pos}(hN:X.N[i]?=some x:=by rfl)(hv:Vis X.env.scope x:=by first | exact Or.inl rfl | exact Or.inr (Or.inl rfl) | exact Or.inr (Or.inr rfl))(hd:(x == ("__debug__" : Str))=false:=by decide)
  (hcd:(x == ("__classdict__" : Str))=false:=by decide):PE X (.Name x pos) (aAj i):=aA1 hN hv hd hcd
end
theorem nI{A B:Prop}(h:B):if false=true then A else B:=by
 rw [if_neg bN];exact h
theorem oO{A B:Prop}(h:A):if true=true then A else B:=by
 rw [if_pos rfl];exact h
theorem aCR{c A B:Prop}[Decidable c](h1:c->A)(h2:¬c->B):if c then A else B:=by
 by_cases h:c
 ·rw [if_pos h];exact h1 h
 ·rw [if_neg h];exact h2 h
def bC(H H':Hp):Prop:=∀b o,H b=some o->H' b=some o
theorem bC.refl(H:Hp):bC H H:=λ_ _ h=>h
theorem bC.trans{H H1 H2:Hp}(a:bC H H1)(b:bC H1 H2):bC H H2:=λc o h=>b c o (a c o h)
theorem bC.free{H H':Hp}(e:bC H H'){l:Addr}(h:H' l=Option.none):H l=Option.none:=by
 cases q:H l with
 | none=>rfl
 | some o =>
  rw [e l o q] at h;cases h
section
variable{κ:Type}[DecidableEq κ]
def eT(kvs:List (κ × V))(k:κ):Option V:=(kvs.find? λkv=>decide (kv.1=k)).map (·.2)
def fP(kvs:List (κ × V))(k:κ)(v:V):List (κ × V) :=
 if (kvs.any λkv=>decide (kv.1=k))=true then kvs.map (λkv=>if kv.1=k then (kv.1,v) else kv) else kvs++[(k,v)]
theorem fK{p:κ × V}{r:List (κ × V)}{k:κ}(e:p.1=k):eT (p::r) k=some p.2:=by simp [eT,List.find?_cons,e]
theorem fL{p:κ × V}{r:List (κ × V)}{k:κ}(e:¬p.1=k):eT (p::r) k=eT r k:=by simp [eT,List.find?_cons,e]
theorem iQ(k:κ):∀kvs:List (κ × V),(kvs.any λkv=>decide (kv.1=k))=(eT kvs k).isSome
 | []=>rfl
 | p::r=>by
  rw [List.any_cons];by_cases e:p.1=k
  ·simp only [fK e,bY e,Bool.true_or,Option.isSome_some]
  ·rw [fL e,bP e,Bool.false_or];exact iQ k r
theorem CY(k j:κ)(y:V):∀kvs:List (κ × V),eT (kvs.map λkv=>if kv.1=k then (kv.1,y) else kv) j=(eT kvs j).map λx=>if j=k then y else x
 | []=>rfl
 | p::r=>by
  have ih:=CY k j y r;rw [aU];by_cases h:p.1=k
  ·rw [if_pos h];by_cases e:p.1=j
   ·rw [fK (p:=(p.1,y)) e,fK e,Option.map_some,if_pos (e.symm.trans h)]
   ·rw [fL (p:=(p.1,y)) e,fL e,ih]
  ·rw [if_neg h];by_cases e:p.1=j
   ·rw [fK (p:=p) e,fK e,Option.map_some,if_neg (λz=>h (e.trans z))]
   ·rw [fL (p:=p) e,fL e,ih]
theorem yA(k j:κ)(y:V):∀kvs:List (κ × V),eT kvs k=none->eT (kvs++[(k,y)]) j=if j=k then some y else eT kvs j
 | [],_=>by
  by_cases e:k=j
  ·rw [if_pos e.symm];exact fK (p:=(k,y)) e
  ·rw [if_neg (λz=>e z.symm)];exact fL (p:=(k,y)) e
 | p::r,hn=>by
  rw [List.cons_append];have hk:¬p.1=k:=λz=>by rw [fK z] at hn;cases hn
  rw [fL hk] at hn;have a:=yA k j y r hn;by_cases e:p.1=j
  ·rw [fK e,fK e,if_neg (λz=>hk (e.trans z))]
  ·rw [fL e,fL e,a]
theorem CW(kvs:List (κ × V))(k j:κ)(y:V):eT (fP kvs k y) j=if j=k then some y else eT kvs j:=by
 unfold fP;by_cases a:(kvs.any λc=>decide (c.1=k))=true
 ·rw [if_pos a,CY];rw [iQ] at a;by_cases e:j=k
  ·obtain ⟨x,b⟩:=Option.isSome_iff_exists.mp a;rw [if_pos e,e,b,Option.map_some,if_pos rfl]
  ·rw [if_neg e];cases eT kvs j with
   | none=>rfl
   | some x=>rw [Option.map_some,if_neg e]
 ·rw [if_neg a];refine yA k j y kvs ?_;rw [iQ] at a;cases q:eT kvs k with
  | none=>rfl
  | some x=>rw [q] at a;exact (a rfl).elim
theorem iL(kvs:List (κ × V))(k:κ)(v:V):(fP kvs k v).length<=kvs.length+1:=by
 unfold fP;split
 ·rw [aC];omega
 ·rw [aT,bV,List.length_nil];omega
theorem DZ{kvs:List (κ × V)}{k:κ}(v:V)(h:eT kvs k=none):fP kvs k v=kvs++[(k,v)]:=by
 unfold fP;rw [iQ,h];exact if_neg Dd
theorem tF.isSome_eq{o:Option V}{u:Option Value}(r:tF o u):o.isSome=u.isSome:=by
 cases o with
 | none=>cases u with
  | none=>rfl
  | some _=>exact (show False from r).elim
 | some _=>cases u with
  | none=>exact (show False from r).elim
  | some _=>rfl
theorem tF.getD{o:Option V}{u:Option Value}{d:V}{d':Value}(r:tF o u)(rd:dO d d'):dO (o.getD d) (u.getD d'):=by
 cases o with
 | none=>cases u with
  | none=>exact rd
  | some _=>exact (show False from r).elim
 | some _=>cases u with
  | none=>exact (show False from r).elim
  | some _=>exact r
theorem KV.val{kvs:List (κ × V)}{vs:List (κ × Value)}(r:KV kvs vs)(k:κ):tF (eT kvs k) (valueAt vs k):=by
 unfold KV at r
 induction r with
 | nil=>exact True.intro
 | @cons p q ps qs h t ih =>
  obtain ⟨c,d⟩:=h;by_cases e:p.1=k
  ·have a:q.1=k:=c.symm.trans e;have b:valueAt (q::qs) k=some q.2:=by simp [valueAt,List.find?_cons,a]
   rw [fK e,b];exact d
  ·have a:¬q.1=k:=λz=>e (c.trans z);have b:valueAt (q::qs) k=valueAt qs k:=by simp [valueAt,List.find?_cons,a]
   rw [fL e,b];exact ih
theorem KV.any{kvs:List (κ × V)}{vs:List (κ × Value)}(r:KV kvs vs)(k:κ):(kvs.any λkv=>decide (kv.1=k))=vs.any λkv=>decide (kv.1=k):=by
 unfold KV at r
 induction r with
 | nil=>rfl
 | cons h t ih=>rw [List.any_cons,List.any_cons,ih,h.1]
theorem KV.repl{kvs:List (κ × V)}{vs:List (κ × Value)}(r:KV kvs vs)(k:κ){y:V}{u:Value}(ry:dO y u) :
  KV (kvs.map λkv=>if kv.1=k then (kv.1,y) else kv) (vs.map λkv=>if kv.1=k then (kv.1,u) else kv):=by
 unfold KV at r ⊢
 induction r with
 | nil=>exact .nil
 | @cons p q ps qs h t ih =>
  rw [aU,aU];refine .cons ?_ ih;obtain ⟨a,b⟩:=h;by_cases e:p.1=k
  ·rw [if_pos e,if_pos (a.symm.trans e)];exact ⟨a,ry⟩
  ·rw [if_neg e,if_neg (λz=>e (a.trans z))];exact ⟨a,b⟩
theorem KV.put{kvs:List (κ × V)}{vs:List (κ × Value)}(r:KV kvs vs)(k:κ){y:V}{u:Value}(ry:dO y u):KV (fP kvs k y) (stored vs k u):=by
 unfold fP stored;rw [r.any k];by_cases e:(vs.any λa=>decide (a.1=k))=true
 ·rw [if_pos e,if_pos e];exact r.repl k ry
 ·rw [if_neg e,if_neg e];exact Paired.snoc r ⟨rfl,ry⟩
theorem KV.length{kvs:List (κ × V)}{vs:List (κ × Value)}(r:KV kvs vs):kvs.length=vs.length:=Paired.length r
end
theorem KF{P:Program}{w:World}{k:fD}{u:Value}(r:dO (kV k) u):(eQ P w).is k u=true:=by
 cases k with
 | inl i=>obtain ⟨t,e⟩:=(show ∃t,u=Value.int i t from r);subst e;exact EJ P w i t
 | inr x=>obtain ⟨t,e⟩:=(show ∃t,u=Value.str x t from r);subst e;exact EI P w x t
theorem yT{P:Program}{w:World}:∀{ks:List fD}{us:List Value},dS (ks.map kV) us->ItemsAre (eQ P w) ks us
 | [],_,r=>by rw [List.map_nil] at r;cases r;exact .nil
 | k::ks,_,r=>by
  rw [aU] at r;cases r with
  | cons h t=>exact .cons (KF h) (yT t)
abbrev KT(H:Hp):List (List fD × V)->List (List fD × Addr × Value)->Prop:=Paired λp q=>p.1=q.1/\H q.2.1=some (.tup (p.1.map kV))/\dO p.2 q.2.2
theorem KT.val{H:Hp}{kvs:List (List fD × V)}{xs:List (List fD × Addr × Value)}(r:KT H kvs xs)(k:List fD):tF (eT kvs k) ((atKey xs k).map (·.2)):=by
 induction r with
 | nil=>exact True.intro
 | @cons p q ps qs h t ih =>
  obtain ⟨c,_,d⟩:=h;by_cases e:p.1=k
  ·have a:q.1=k:=c.symm.trans e;have b:atKey (q::qs) k=some q.2:=by simp [atKey,List.find?_cons,a]
   rw [fK e,b];exact d
  ·have a:¬q.1=k:=λz=>e (c.trans z);have b:atKey (q::qs) k=atKey qs k:=by simp [atKey,List.find?_cons,a]
   rw [fL e,b];exact ih
theorem KT.repl{H:Hp}{kvs:List (List fD × V)}{xs:List (List fD × Addr × Value)}(r:KT H kvs xs)(k:List fD){y:V}{u:Value}(ry:dO y u) :
  KT H (kvs.map λkv=>if kv.1=k then (kv.1,y) else kv) (xs.map (putAt k u)):=by
 induction r with
 | nil=>exact .nil
 | @cons p q ps qs h t ih =>
  rw [aU,aU];refine .cons ?_ ih;obtain ⟨a,b,c⟩:=h;unfold putAt;by_cases e:p.1=k
  ·rw [if_pos e,if_pos (a.symm.trans e)];exact ⟨a,b,ry⟩
  ·rw [if_neg e,if_neg (λz=>e (a.trans z))];exact ⟨a,b,c⟩
theorem KT.put{H:Hp}{kvs:List (List fD × V)}{xs:List (List fD × Addr × Value)}(r:KT H kvs xs)(k:List fD){b:Addr}{y:V}{u:Value}(hb:H b=some (.tup (k.map kV)))(ry:dO y u) :
  KT H (fP kvs k y) (storedH xs k b u):=by
 have e:(kvs.any λa=>decide (a.1=k))=(atKey xs k).isSome:=by
  rw [iQ,(r.val k).isSome_eq,Option.isSome_map]
 unfold fP storedH;rw [e];by_cases q:(atKey xs k).isSome=true
 ·rw [if_pos q,if_pos q];exact r.repl k ry
 ·rw [if_neg q,if_neg q];exact Paired.snoc r ⟨rfl,hb,ry⟩
theorem KT.keeps{H H':Hp}{kvs:List (List fD × V)}{xs:List (List fD × Addr × Value)}(r:KT H kvs xs)(ht:∀b ys,H b=some (.tup ys)->H' b=some (.tup ys)):KT H' kvs xs :=
 Paired.mapP r λ_ _ z=>⟨z.1,ht _ _ z.2.1,z.2.2⟩
section
variable{P:Program}{w:World}{H:Hp}{h:Heap}{a:Addr}
theorem QR{u:HO}(ok:nV P w H h)(e:Rd H a u):eM P w H h a u:=e.ok ok
theorem SO{kvs:List (fD × V)}(ok:nV P w H h)(e:Rd H a (.dK kvs)):kvs.length<=sizeLine/\(a == sysModules)=false/\∃vs,KV kvs vs/\h.DictOf (eQ P w) a vs :=
 show eM P w H h a (.dK kvs) from QR ok e
theorem ZR{kvs:List (fD × V)}(ok:nV P w H h)(e:H a=some (.dK kvs)):kvs.length<=sizeLine/\(a == sysModules)=false/\∃vs,KV kvs vs/\h.DictOf (eQ P w) a vs:=SO ok (.inl e)
theorem wG{ks:List fD}(ok:nV P w H h)(e:H a=some (.tup (ks.map kV))):(tupleKind (eQ P w)).is h ks a:=by
 obtain ⟨_,b,r,o,f,c,n,d⟩:=(show eM P w H h a (.tup (ks.map kV)) from ok a _ e);exact ⟨o,b.toArray,n,f,c,d,by simpa using yT r⟩
theorem SM{kvs:List (List fD × V)}(ok:nV P w H h)(e:Rd H a (.dT kvs)):kvs.length<=sizeLine/\(a == sysModules)=false /\
  ∃xs,KT H kvs xs/\h.DictOfH (tupleKind (eQ P w)) a xs:=by
 obtain ⟨z,y,xs,r,o,n,d,c,f,i,j,s⟩:=(show eM P w H h a (.dT kvs) from QR ok e);refine ⟨z,y,xs,r,o,n,d,c,f,i,j,λx b=>?_,s⟩;have all:∀{l:List (List fD × V)} {m:List (List fD × Addr × Value)},KT H l m->∀x∈m,(tupleKind (eQ P w)).is h x.1 x.2.1:=by
  intro l m q
  induction q with
  | nil=>intro x b;exact nomatch b
  | @cons p q ps qs hq t ih =>
   intro x b;rcases bE.mp b with e | b
   ·subst e;exact wG ok (by rw [<-hq.1];exact hq.2.1)
   ·exact ih x b
 exact all r x b
theorem aC4{kvs:List (List fD × V)}(ok:nV P w H h)(e:H a=some (.dT kvs)):kvs.length<=sizeLine/\(a == sysModules)=false /\
  ∃xs,KT H kvs xs/\h.DictOfH (tupleKind (eQ P w)) a xs:=SM ok (.inl e)
end
def tG(H:Hp)(a:Addr)(y:V)(r:Option V):Prop :=
 (∃kvs k,Rd H a (.dK kvs)/\y=kV k/\r=eT kvs k)\/∃kvs k b,Rd H a (.dT kvs)/\y=.ref b/\H b=some (.tup (k.map kV))/\r=eT kvs k
def CM(H:Hp)(a:Addr)(y v:V)(H':Hp):Prop :=
 (∃kvs k,H a=some (.dK kvs)/\y=kV k/\kvs.length<sizeLine/\H'=upd H a (.dK (fP kvs k v))) \/
 ∃kvs k b,H a=some (.dT kvs)/\y=.ref b/\H b=some (.tup (k.map kV))/\kvs.length<sizeLine/\H'=upd H a (.dT (fP kvs k v))
theorem tG.k{H:Hp}{a:Addr}{kvs:List (fD × V)}{k:fD}(e:H a=some (.dK kvs)):tG H a (kV k) (eT kvs k):=.inl ⟨kvs,k,.inl e,rfl,rfl⟩
theorem tG.t{H:Hp}{a b:Addr}{kvs:List (List fD × V)}{k:List fD}(e:H a=some (.dT kvs))(eb:H b=some (.tup (k.map kV))):tG H a (.ref b) (eT kvs k):=.inr ⟨kvs,k,b,.inl e,rfl,eb,rfl⟩
theorem CM.k{H:Hp}{a:Addr}{kvs:List (fD × V)}{k:fD}{v:V}(e:H a=some (.dK kvs))(hl:kvs.length<sizeLine):CM H a (kV k) v (upd H a (.dK (fP kvs k v))):=.inl ⟨kvs,k,e,rfl,hl,rfl⟩
theorem CM.t{H:Hp}{a b:Addr}{kvs:List (List fD × V)}{k:List fD}{v:V}(e:H a=some (.dT kvs))(eb:H b=some (.tup (k.map kV)))(hl:kvs.length<sizeLine) :
  CM H a (.ref b) v (upd H a (.dT (fP kvs k v))):=.inr ⟨kvs,k,b,e,rfl,eb,hl,rfl⟩
section
variable{X:Cx}{pins:List (Addr × Obj)}{σ:St}{H:Hp}{s:Shared}{a:Addr}{y v:V}{u r:Value}{o:Option V}{A:Around}{E:Value->Shared->Prop}
theorem cH.big(I:cH X pins σ H s):sysModules<s.heap.objs.size:=by
 have h:mainGlobals<s.heap.objs.size:=(I.mod.glob.keeps I.bk).lt;exact Nat.lt_trans Dd h
theorem NS{Q:Value->Shared->Prop}(hu:A.units+1<cLine)(I:cH X pins σ H s)(g:tG H a y (some v))(ry:dO y u)(h:∀w' s',cH X pins σ H s'->dO v w'->Q w' s') :
  wpAny (model X.prog X.w) A (getItem (.ref a) u) Q E s:=by
 rcases g with ⟨i,k,e,f,l⟩ | ⟨i,k,b,e,f,B,l⟩
 ·subst f;obtain ⟨z,hd,C,c,n⟩:=SO I.hok e;obtain ⟨w',j,d⟩:=tF.some_of (v:=v) (o:=valueAt C k) (by rw [l];exact c.val k);exact wpAny_getItem_of (KF ry) n.mapOf j (h w' _ (I.tok _) d)
 ·subst f;cases (show u=Value.ref b from ry);obtain ⟨z,hd,r,c,n⟩:=SM I.hok e;obtain ⟨w',j,d⟩:=tF.some_of (v:=v) (o:=(atKey r k).map (·.2)) (by rw [l];exact c.val k);obtain ⟨p,x,m⟩:=Option.map_eq_some_iff.mp j;refine wpAny_getItem_heap (tupleKind_room_in1 hu) (wG I.hok B) n x ?_;rw [m];exact h w' _ (I.tok _) d
theorem lT{h':Heap}{t':Nat}{ob:HO}(I:cH X pins σ H s)(mu:Mut (H a))(hs:Heap.SameBut a s.heap h')(he:∃q,h'.get? a=some q)(new:eM X.prog X.w (upd H a ob) h' a ob) :
  cH X pins σ (upd H a ob) { s with heap:=h',toks:=t' } :=
 I.write (x:=a) (e:=a) mu (.inl rfl) (λb q c z=>(hs.2 b c).trans z) he new
theorem SQ{P:Program}{w:World}{H':Hp}{h':Heap}{kvs:List (fD × V)}{vs:List (fD × Value)}(z:kvs.length<=sizeLine)(hd:(a == sysModules)=false)(rel:KV kvs vs)(dd:h'.DictOf (eQ P w) a vs) :
  eM P w H' h' a (.dK kvs):=⟨z,hd,vs,rel,dd⟩
theorem NR{H':Hp}{Q:Unit->Shared->Prop}(hu:A.units+1<cLine)(I:cH X pins σ H s)(g:CM H a y v H')(ry:dO y u)(rv:dO v r)(h:∀s',cH X pins σ H' s'->Q () s') :
  wpAny (model X.prog X.w) A (setItem (.ref a) u r) Q E s:=by
 rcases g with ⟨f,k,e,m,l,x⟩ | ⟨f,k,b,e,m,D,l,x⟩
 ·subst m x;obtain ⟨z,hd,O,d,B⟩:=ZR I.hok e;have p:O.length<=sizeLine:=by rw [<-d.length];exact z
  have o:(fP f k v).length<=sizeLine:=by have:=iL f k v;omega
  refine wpAny_setItem_pairs (hsz:=p) (KF ry) B λG i n=>h _ ?_;have R:∃q,G.get? a=some q:=let ⟨q,_,_,j,_⟩:=i;⟨q,j⟩;exact lT I (by rw [e];exact True.intro) n R (SQ o hd (d.put k rv) i)
 ·subst m x;cases (show u=Value.ref b from ry);obtain ⟨z,hd,J,d,B⟩:=aC4 I.hok e;have p:J.length<=sizeLine:=by rw [<-Paired.length d];exact z
  have o:(fP f k v).length<=sizeLine:=by have:=iL f k v;omega
  refine wpAny_setItem_heap (hsz:=p) (tupleKind_room_in1 hu) (wG I.hok D) B λG i n=>h _ ?_;obtain ⟨q,S,L,j,M,N,P,_,T⟩:=i;refine lT I (by rw [e];exact True.intro) n ⟨q,j⟩ ⟨o,hd,_,(d.put k D rv).keeps λc U C=>?_,q,S,L,j,M,N,P,T⟩;rw [cU (EG C e (λz=>nomatch z))];exact C
end
section
variable{X:Cx}{pins:List (Addr × Obj)}{σ:St}{H:Hp}{s:Shared}{a:Addr}{kvs:List (fD × V)}{k:fD}{u:Value}{A:Around}{E:Value->Shared->Prop}
end
def YL(i:Expr):Prop:=∀ov iv,subscripted i false ov iv=operate [ov,iv] (getItem ov iv)
theorem JC{prog:Program}{w:World}{A:Around}{E:Value->Shared->Prop}{s:Shared}{env:Env}{value slice:Expr}{pos:Pos}{T id:String}{Q:Value->Shared->Prop}
  (hl:typeLookup (.type T) "__getitem__" = pure (some (.builtin id))) (hs:YL slice)
  (h:wpAny (model prog w) A (eval value env) (λo s₁=>wpAny (model prog w) A (eval slice env) (λi s₂=>s₂.TypeIs o T/\wpAny (model prog w) A (getItem o i) Q E s₂) E s₁) E s) :
  wpAny (model prog w) A (eval (.Subscript value slice pos) env) Q E s:=by
 refine Subscript_ (wpAny_mono h (λo s₁ f=>wpAny_mono f (λi s₂ b=>?_) λ_ _ x=>x) λ_ _ x=>x);obtain ⟨d,b⟩:=b;unfold subscriptTail;refine wpAny_bind ?_;rw [getitemInPython_of_ne d.not_modules];refine wpAny_bind (wpAny_specialOf d hl ?_);have a:wpAny (model prog w) A (subscripted slice false o i) (λr c=>wpAny (model prog w) A (letTemporaryGo value o r >>= λ_=>pure r) Q E c) E s₂:=by
  rw [hs o i];exact wpAny_operating (wpAny_mono b (λr c e=>wpAny_bind (wpAny_letTemporaryGo (wpAny_pure e))) λ_ _ x=>x)
 first
  | exact wpAny_pure (wpAny_bind a)
  | exact wpAny_bind (wpAny_pure (wpAny_bind a))
  | exact wpAny_bind a
theorem FE{X:Cx}{pins:List (Addr × Obj)}{σ:St}{H:Hp}{s:Shared}{a:Addr}{y:V}{o:Option V}(I:cH X pins σ H s)(g:tG H a y o):s.TypeIs (.ref a) "dict" := by
 rcases g with ⟨c,k,e,_,_⟩ | ⟨c,k,b,e,_,_,_⟩
 ·obtain ⟨_,_,h,_,d⟩:=SO I.hok e;exact d.typeIs
 ·obtain ⟨_,_,f,_,d⟩:=SM I.hok e;exact d.typeIs
def aCn(td ty:TE):TE:=λσ H Q=>td σ H λx H1=>ty σ H1 λy H2=>∃a v,x=.ref a/\tG H2 a y (some v)/\Q v H2
def aCt(td ty tv:TE):TS:=λD σ H=>tv σ H λv H1=>td σ H1 λx H2=>ty σ H2 λy H3=>∃a H4,x=.ref a/\CM H3 a y v H4/\D.nx σ H4
section
variable{X:Cx}{o i e value:Expr}{pos pos' tpos:Pos}{td ty tv:TE}
theorem WN(hu:X.A.units+1<cLine)(ho:PE X o td)(hi:PE X i ty)(hs:YL i):PE X (.Subscript o i pos) (aCn td ty):=by
 intro b s σ H Q I h;refine JC PySem.F.slot_dict_getitem.lookup hs (thn (ho b s σ H _ I h) λu e ⟨x,H1,I1,m,f⟩=>thn (hi b e σ H1 _ I1 f) λr n ⟨y,H2,I2,d,a,v,j,g,l⟩=>?_);subst j;obtain rfl:u=Value.ref a:=m;exact ⟨FE I2 g,NS hu I2 g d λp w I3 c=>⟨v,H2,I3,c,l⟩⟩
theorem WG(hu:X.A.units+1<cLine)(ho:PE X o td)(hi:PE X i ty)(hv:PE X value tv)(hs:swapsWith value (some (.Subscript o i pos')) pos.line X.env=pure false) :
  PS X (.Assign [.Subscript o i pos'] value pos) (aCt td ty tv):=by
 intro b s σ H D I h;refine wpAny_Assign_Subscript (thn (hv b s σ H _ I h) λr e ⟨v,H1,I1,rv,j⟩=>thn (ho b e σ H1 _ I1 j) λu d ⟨x,H2,I2,n,m⟩=>thn (hi b d σ H2 _ I2 m) λw z ⟨y,H3,I3,c,a,H4,l,g,f⟩=>?_) hs;subst l;obtain rfl:u=Value.ref a:=n;exact NR hu I3 g c rv λp I4=>⟨σ,H4,I4,f⟩
end
theorem SR{P:Program}{w:World}{H:Hp}(h:Heap)(hb:sysModules<h.objs.size):eM P w H (h.push { cls:=.type "dict",data:=.dict #[] }) h.objs.size (.dK []) :=
 ⟨bS _,beq_eq_false_iff_ne.mpr (Ne.symm (dD hb)),[],.nil,Heap.DictOf.new h⟩
theorem FC{P:Program}{w:World}{H:Hp}(h:Heap)(hb:sysModules<h.objs.size):eM P w H (h.push { cls:=.type "dict",data:=.dict #[] }) h.objs.size (.dT []) :=
 ⟨bS _,beq_eq_false_iff_ne.mpr (Ne.symm (dD hb)),[],.nil,_,#[],0,bB _ rfl,⟨rfl,rfl,rfl⟩,rfl,rfl,List.nodup_nil⟩
def PV:TE:=λ_ H Q=>∀p,H p=none->Q (.ref p) (upd H p (.dT []))
section
variable{X:Cx}{pos:Pos}
theorem pe_dnewT:PE X (.Dict [] [] pos) PV:=λb s σ H Q I h =>
 wpAny_Dict_empty ⟨.ref s.heap.objs.size,_,I.laid (a:=s.heap.objs.size) (o:=.dT []) (t':=s.toks) (λ_ _ q=>aD _ q) (aG _) (FC s.heap I.big),rfl,h _ (I.hok.fresh (aG _))⟩
end
def GL:List (TE × TE)->St->Hp->(List (V × V)->Hp->Prop)->Prop
 | [],_,H,Q=>Q [] H
 | (tk,tv)::r,σ,H,Q=>tk σ H λx H1=>tv σ H1 λy H2=>GL r σ H2 λps H3=>Q ((x,y)::ps) H3
abbrev VV:List (V × V)->List (Value × Value)->Prop:=Paired λp q=>dO p.1 q.1/\dO p.2 q.2
def PPs(X:Cx)(pos:Pos)(keys:List (Option Expr))(values:List Expr)(trs:List (TE × TE)):Prop :=
 ∀(pins:List (Addr × Obj)) (s:Shared) (σ:St) (H:Hp) (Q:List (V × V)->Hp->Prop),cH X pins σ H s->GL trs σ H Q ->
  wpAny (model X.prog X.w) X.A (evalPairs (pairTrees keys values X.env pos)) (λvs s'=>∃ps H',cH X pins σ H' s'/\VV ps vs/\Q ps H') X.xe s
theorem pps_nil{X:Cx}{pos:Pos}:PPs X pos [] [] []:=λa s σ H Q I h=>pairTrees_nil_walk ⟨[],H,I,.nil,h⟩
theorem QZ{X:Cx}{pos:Pos}{k v:Expr}{ks:List (Option Expr)}{vs:List Expr}{tk tv:TE}{trs:List (TE × TE)}(hk:PE X k tk)(hv:PE X v tv)(hr:PPs X pos ks vs trs) :
  PPs X pos (some k::ks) (v::vs) ((tk,tv)::trs):=λa s σ H Q I h =>
 pairTrees_cons_walk (thn (hk a s σ H _ I h) λu f ⟨x,H1,I1,m,j⟩=>thn (hv a f σ H1 _ I1 j) λp d ⟨y,H2,I2,c,l⟩ =>
  thn (hr a d σ H2 _ I2 l) λo n ⟨e,H3,I3,b,i⟩=>⟨(x,y)::e,H3,I3,.cons ⟨m,c⟩ b,i⟩)
def oM(kvs more:List (fD × V)):List (fD × V):=more.foldl (λacc kv=>fP acc kv.1 kv.2) kvs
theorem KV.merge:∀{more:List (fD × V)}{rs:List (fD × Value)}{kvs:List (fD × V)}{vs:List (fD × Value)},KV more rs->KV kvs vs->KV (oM kvs more) (merged vs rs):=by
 intro more rs kvs vs r;unfold KV at r
 induction r generalizing kvs vs with
 | nil=>intro q;exact q
 | @cons p q ps qs h t ih =>
  intro a;have e:KV (fP kvs p.1 p.2) (stored vs q.1 q.2):=by
   have:=a.put p.1 h.2;rw [<-h.1];exact this
  exact ih e
theorem pQ:∀(more kvs:List (fD × V)),(oM kvs more).length<=kvs.length+more.length
 | [],kvs=>by show kvs.length<=kvs.length+0;omega
 | p::r,kvs=>by
  have h1:=pQ r (fP kvs p.1 p.2);have a:=iL kvs p.1 p.2;show (oM (fP kvs p.1 p.2) r).length<=_;rw [bV];omega
theorem wY{P:Program}{w:World}:∀{kvs:List (fD × V)}{ws:List (Value × Value)},VV (kvs.map λkv=>(kV kv.1,kv.2)) ws->∃rs,Carries (eQ P w) ws rs/\KV kvs rs
 | [],_,r=>by rw [List.map_nil] at r;cases r;exact ⟨[],True.intro,.nil⟩
 | p::kvs,_,r=>by
  rw [aU] at r;cases r with
  | @cons a b as bs h t =>
   obtain ⟨rs,c,q⟩:=wY (P:=P) (w:=w) t;obtain ⟨e,d⟩:=b;exact ⟨(p.1,d)::rs,⟨KF h.1,rfl,c⟩,.cons ⟨rfl,h.2⟩ q⟩
def YY(trs:List (TE × TE)):TE:=λσ H Q=>∀p,H p=none->GL trs σ (upd H p (.dK [])) λps H2=>H2 p=some (.dK [])/\∃kvs:List (fD × V),ps=kvs.map (λkv=>(kV kv.1,kv.2))/\kvs.length<=15/\Q (.ref p) (upd H2 p (.dK (oM [] kvs)))
theorem WM{X:Cx}{pos:Pos}{keys:List (Option Expr)}{values:List Expr}{trs:List (TE × TE)}(h:PPs X pos keys values trs)(hall:keys.all (·.isSome)=true)(hl:keys.length=values.length)(h0:keys≠[])
  (h15:keys.length<=15):PE X (.Dict keys values pos) (YY trs):=by
 intro d s σ H Q I q;have x:=I.hok.fresh (aG s.heap.objs.size);have I1:=I.laid (a:=s.heap.objs.size) (o:=.dK []) (h':=s.heap.push { cls:=.type "dict",data:=.dict #[] }) (t':=s.toks) (λ_ _ q=>aD _ q) (aG _) (SR s.heap I.big);refine wpAny_Dict_walk (knd:=eQ X.prog X.w) hall hl h0 h15 (thn (h d _ σ _ _ I1 (q _ x)) λJ D ⟨G,H2,I2,i,e,f,l,L,y⟩=>?_);subst l;obtain ⟨p,c,r⟩:=wY (P:=X.prog) (w:=X.w) i;obtain ⟨z,hd,C,m,A⟩:=ZR I2.hok e;cases m;refine ⟨p,c,A,λh' b n=>⟨.ref s.heap.objs.size,_,?_,rfl,y⟩⟩;have u:(oM [] f).length<=sizeLine:=by
  have j:=pQ f [];rw [List.length_nil] at j;rw [sizeLine_eq];omega
 have B:∃q,h'.get? s.heap.objs.size=some q:=let ⟨q,_,_,hq,_⟩:=b;⟨q,hq⟩;exact lT I2 (by rw [e];exact True.intro) n B (SQ u hd (r.merge .nil) b)
section
variable{X:Cx}{pins:List (Addr × Obj)}{σ:St}{H:Hp}{s:Shared}{a:Addr}{y d:V}{u r:Value}{o:Option V}{A:Around}{E:Value->Shared->Prop}
end
section
variable{X:Cx}{o e f:Expr}{apos cpos:Pos}{td ty tx:TE}
end
section
variable{X:Cx}{pins:List (Addr × Obj)}{σ:St}{H:Hp}{s:Shared}{a:Addr}{kvs:List (fD × V)}{A:Around}{E:Value->Shared->Prop}
end
section
variable{X:Cx}{pins:List (Addr × Obj)}{σ:St}{H:Hp}{s:Shared}{a:Addr}{y:V}{u:Value}{A:Around}{E:Value->Shared->Prop}
end
section
variable{κ:Type}[DecidableEq κ]
theorem PM{kvs:List (κ × V)}{k:κ}(h:eT kvs k=none):¬k∈kvs.map (·.1):=by
 intro m;obtain ⟨p,b,e⟩:=aS.mp m;have q:(kvs.any λa=>decide (a.1=k))=true:=List.any_eq_true.mpr ⟨p,b,bY e⟩;rw [iQ,h] at q;exact absurd q (by simp)
theorem IS{kvs:List (κ × V)}{k:κ}{v:V}(h:eT kvs k=some v):k∈kvs.map (·.1):=by
 have q:(kvs.any λa=>decide (a.1=k))=true:=by
  rw [iQ,h]
  all_goals rfl
 obtain ⟨p,b,e⟩:=List.any_eq_true.mp q;exact aS.mpr ⟨p,b,of_decide_eq_true e⟩
end
abbrev bits(i:Int):Nat:=Builtin.Int.intBits i
def UP(i j:Int):Prop:=0<j/\bits j<=9000
theorem tN{j:Int}{n:Nat}(h:bits j<=n)(hn:0<n):j.natAbs.log2<n:=by
 unfold bits Builtin.Int.intBits at h;by_cases hj:(j == 0)=true
 ·have:j=0:=by simpa using hj
  subst this;exact bA (by decide +kernel:(0:Int).natAbs.log2<=0) hn
 ·rw [if_neg hj] at h;omega
section
variable{X:Cx}
theorem gT:nU X (binaryOp .FloorDiv) (rI UP λi j=>.int (i/j)):=opI λi j _ _ _ _ _ a q=>by
 refine floordiv_int (by have:=a.1;omega) ?_ (.inl (PyProof.noPylong_of_log2 (tN a.2 Dd)));rw [Int.fdiv_eq_ediv_of_nonneg i (by have:=a.1;omega)];exact q
theorem fU:nU X (binaryOp .Mult) (rI IntMulOk λi j=>.int (i*j)):=opI λ_ _ _ _ _ _ _ a q=>mul_int q a
end
mutual
def cB(H:Hp):PyData->V->Prop
 | .none,v=>v=.non
 | .bool b,v=>v=.bl b
 | .int i,v=>v=.int i
 | .str x,v=>v=.str x
 | .list ds,v=>∃a xs,v=.ref a/\H a=some (.lst xs)/\aZ H ds xs
 | .tuple ds,v=>∃a xs,v=.ref a/\H a=some (.tup xs)/\aZ H ds xs
 | .dict kvs,v=>kvs=[]/\∃a,v=.ref a/\H a=some (.dK [])
def aZ(H:Hp):List PyData->List V->Prop
 | [],vs=>vs=[]
 | d::ds,vs=>∃x xs,vs=x::xs/\cB H d x/\aZ H ds xs
end
mutual
theorem cB.same{H H':Hp}(e:bC H H'):∀{d:PyData}{v:V},cB H d v->cB H' d v
 | .none,_,h=>h
 | .bool _,_,h=>h
 | .int _,_,h=>h
 | .str _,_,h=>h
 | .list ds,_,h=>by
  unfold cB at h ⊢;obtain ⟨a,xs,rfl,h1,h2⟩:=h;exact ⟨a,xs,rfl,e _ _ h1,aZ.same e h2⟩
 | .tuple ds,_,h=>by
  unfold cB at h ⊢;obtain ⟨a,xs,rfl,h1,h2⟩:=h;exact ⟨a,xs,rfl,e _ _ h1,aZ.same e h2⟩
 | .dict kvs,_,h=>by
  unfold cB at h ⊢;obtain ⟨b,a,rfl,h1⟩:=h;exact ⟨b,a,rfl,e _ _ h1⟩
theorem aZ.same{H H':Hp}(e:bC H H'):∀{ds:List PyData}{vs:List V},aZ H ds vs->aZ H' ds vs
 | [],_,h=>h
 | d::ds,_,h=>by
  unfold aZ at h ⊢;obtain ⟨x,xs,rfl,h1,h2⟩:=h;exact ⟨x,xs,rfl,cB.same e h1,aZ.same e h2⟩
end
theorem cB.tup{H:Hp}{a:Addr}{xs:List V}{ds:List PyData}(h:H a=some (.tup xs))(r:aZ H ds xs):cB H (.tuple ds) (.ref a):=by
 unfold cB;exact ⟨a,xs,rfl,h,r⟩
theorem cB.lst{H:Hp}{a:Addr}{xs:List V}{ds:List PyData}(h:H a=some (.lst xs))(r:aZ H ds xs):cB H (.list ds) (.ref a):=by
 unfold cB;exact ⟨a,xs,rfl,h,r⟩
theorem cB.int{H:Hp}(i:Int):cB H (.int i) (.int i):=by unfold cB;rfl
theorem cB.str{H:Hp}(i:Str):cB H (.str i) (.str i):=by unfold cB;rfl
theorem aZ.nil{H:Hp}:aZ H [] []:=by unfold aZ;rfl
theorem aZ.cons{H:Hp}{d:PyData}{ds:List PyData}{x:V}{xs:List V}(h:cB H d x)(hs:aZ H ds xs):aZ H (d::ds) (x::xs):=by
 unfold aZ;exact ⟨x,xs,rfl,h,hs⟩
section
variable{X:Cx}{pins:List (Addr × Obj)}{σ:St}{H:Hp}{s:Shared}
mutual
theorem cB.reads(I:cH X pins σ H s):∀{d:PyData}{v:V}{u:Value},cB H d v->dO v u->∃as,Reads s.heap u d as
 | .none,_,u,h,r=>by
  cases (show _=V.non from h);cases (show u=Value.none from r);exact ⟨_,.none⟩
 | .bool b,_,u,h,r=>by
  cases (show _=V.bl b from h);cases (show u=Value.bool b from r);exact ⟨_,.bool b⟩
 | .int b,_,u,h,r=>by
  cases (show _=V.int b from h);obtain ⟨t,q⟩:=(show ∃t,u=Value.int b t from r);cases q;exact ⟨_,.int b t⟩
 | .str b,_,u,h,r=>by
  cases (show _=V.str b from h);obtain ⟨t,q⟩:=(show ∃t,u=Value.str b t from r);cases q;exact ⟨_,.str b t⟩
 | .list ds,v,u,h,r=>by
  unfold cB at h;obtain ⟨a,i,rfl,c,j⟩:=h;cases (show u=Value.ref a from r);obtain ⟨_,l,n,m,e⟩:=(show eM X.prog X.w H s.heap a (.lst i) from I.hok a _ c);obtain ⟨as,q⟩:=aZ.reads I j m;exact ⟨_,.list e rfl rfl (by simpa using q)⟩
 | .tuple ds,v,u,h,r=>by
  unfold cB at h;obtain ⟨a,i,rfl,c,j⟩:=h;cases (show u=Value.ref a from r);obtain ⟨_,l,m,o,e,z,n,hd⟩:=(show eM X.prog X.w H s.heap a (.tup i) from I.hok a _ c);obtain ⟨as,q⟩:=aZ.reads I j m;exact ⟨_,.tuple e z hd (by simpa using q)⟩
 | .dict kvs,v,u,h,r=>by
  unfold cB at h;obtain ⟨rfl,a,rfl,c⟩:=h;cases (show u=Value.ref a from r);obtain ⟨_,_,D,B,o,p,C,e,A,hd,_,f,_⟩:=(show eM X.prog X.w H s.heap a (.dK []) from I.hok a _ c);cases B;have x:p.toList=[]:=by
   cases q:p.toList with
   | nil=>rfl
   | cons y ys=>rw [q] at f;cases f
  exact ⟨_,.dict e A.1 hd (by rw [x];exact .nil) (by rw [x];exact .nil)⟩
theorem aZ.reads(I:cH X pins σ H s):∀{ds:List PyData}{vs:List V}{us:List Value},aZ H ds vs->dS vs us->∃as,ReadsAll s.heap us ds as
 | [],_,us,h,r=>by
  cases (show _=[] from h);cases r;exact ⟨_,.nil⟩
 | d::ds,_,us,h,r=>by
  unfold aZ at h;obtain ⟨x,xs,rfl,h1,h2⟩:=h;cases r with
  | cons r1 r2 =>
   obtain ⟨as,a⟩:=cB.reads I h1 r1;obtain ⟨bs,b⟩:=aZ.reads I h2 r2;exact ⟨_,.cons a b⟩
end
end
section
variable{X:Cx}
theorem NX(hg:X.A.guards=some [])(hu:X.A.units+64<cLine):iM X (.builtin "repr") (λxs H Q=>∃x d,xs=[x]/\cB H d x/\d.showable=true/\d.hasDict=false/\d.depth<=60/\d.shown.length<=sizeLine/\Q (.str d.shown) H):=by
 intro l s σ H xs C Q I r h;obtain ⟨x,d,rfl,w,f,a,p,j,q⟩:=h;obtain ⟨u,rfl,m⟩:=lK r;obtain ⟨B,z⟩:=w.reads I m;cases z with
 | none=>exact PySem.P.repr_of_none ⟨.str _,H,I.tok _,⟨_,rfl⟩,q⟩
 | bool b=>exact PySem.P.repr_of_bool ⟨.str _,H,I.tok _,⟨_,rfl⟩,q⟩
 | int i t=>exact PySem.P.repr_of_int (by simpa [PyData.showable] using f) ⟨.str _,H,I.tok _,⟨_,rfl⟩,q⟩
 | str y t=>exact PySem.P.repr_of_str ⟨.str _,H,I.tok _,⟨_,rfl⟩,q⟩ j
 | list a1 a2 a3 a4=>exact repr_of_reads' (.list a1 a2 a3 a4) f (PyData.noDict_hsm a) hg Oo (λ_ _ e=>e) (λn u o c=>⟨.str _,H,I.kept c,⟨_,rfl⟩,q⟩) j
 | tuple a1 a2 a3 a4=>exact repr_of_reads' (.tuple a1 a2 a3 a4) f (PyData.noDict_hsm a) hg Oo (λ_ _ e=>e) (λn u o c=>⟨.str _,H,I.kept c,⟨_,rfl⟩,q⟩) j
 | dict a1 a2 a3 a4 a5=>simp [PyData.hasDict] at a
end
section
variable{X:Cx}
end
structure iP(CX:OM)(P:Program)(w:World)(K:PySem.W.Frag)(mg:Str->Option Value)(base:Heap)(k:Nat)(x:Str)(ps:List Str)(sp:Sp):Prop where
 ex:∃(f:Addr) (fd:FuncData),fJ P w K mg base CX k f fd ps sp/\mg x=some (.ref f)/\PySem.W.keepIn K (.ref f)=true/\zY K fd ps []
section
variable{X:Cx}{k:Nat}{ps:List Str}{sp:Sp}{x:Str}{p pos:Pos}{e:Expr}{es:List Expr}{t:TA}
theorem aCH(F:iP eV X.prog X.w X.K X.mg X.base k x ps sp)(hr:kD k X.A)(ha:PA X (e::es) t)(hg:Gl X x:=by rfl)
  (hdb:(x == ("__debug__" : Str))=false:=by decide) (he:starEach (e::es) X.env=(false,eval e X.env)::starEach es X.env:=by rfl) (hpl:(backTo pos (starEach es X.env)).any (·.1)=false:=by rfl) :
  PE X (.Call (.Name x p) (e::es) [] pos) (PX sp [] E0 t):=by
 obtain ⟨f,h,c,a,b,d⟩:=F.ex;exact WQ c hr hg a b d .nil aCJ ha hdb he hpl
end
section
variable{K:PySem.W.Frag}{H:Hp}{p:Addr}{xs:List V}{i:Int}{v:V}{Q:VK}
theorem mK(h:H p=some (.lst xs))(e:CP xs i=some v)(q:Q v H):rIx K (.ref p) (.int i) H Q:=.inl ⟨p,xs,i,v,rfl,rfl,fR.of h,e,q⟩
theorem jG(h:H p=some (.tup xs))(e:CP xs i=some v)(q:Q v H):rIx K (.ref p) (.int i) H Q:=.inr (.inl ⟨p,xs,i,v,rfl,rfl,fO.of h,e,q⟩)
theorem stL{u:V}{Q:Hp->Prop}{j:Nat}(h:H p=some (.lst xs))(e:KI xs.length i=some j)(q:Q (upd H p (.lst (xs.set j u)))):QU (.ref p) (.int i) u H Q:=⟨p,xs,i,j,rfl,rfl,h,e,q⟩
end
def gL(p:Addr)(H:Hp):Hp:=λb=>if b=p then none else H b
theorem gL.at{p b:Addr}{H:Hp}(h:b≠p):gL p H b=H b:=by unfold gL;rw [if_neg h]
theorem gL.self{p:Addr}{H:Hp}:gL p H p=none:=by unfold gL;rw [if_pos rfl]
theorem gL.same{p:Addr}{H:Hp}:bC (gL p H) H:=λb o h=>by
 unfold gL at h;by_cases e:b=p
 ·rw [if_pos e] at h;cases h
 ·rw [if_neg e] at h;exact h
theorem gL.ne{p b:Addr}{H:Hp}{o:HO}(h:gL p H b=some o):b≠p:=λe=>by
 subst e;rw [gL.self] at h;cases h
theorem gL.of{p b:Addr}{H:Hp}{o:HO}(n:b≠p)(h:H b=some o):gL p H b=some o:=by rw [gL.at n];exact h
theorem gL.upd_self{p:Addr}{H:Hp}{o:HO}:gL p (upd H p o)=gL p H:=by
 funext b
 by_cases e:b=p
 ·subst e;rw [gL.self,gL.self]
 ·rw [gL.at e,gL.at e,L2.cU e]
abbrev aO(p:Addr)(H H':Hp):Prop:=bC (gL p H) (gL p H')
theorem bC.but{p:Addr}{H H':Hp}(h:bC H H'):aO p H H':=λb o e=>by
 have n:=gL.ne e;exact gL.of n (h _ _ (gL.same _ _ e))
theorem bC.upd{H:Hp}{q:Addr}{o:HO}(h:H q=none):bC H (upd H q o):=λb u e=>by
 rw [L2.cU (cX e h)];exact e
theorem aO.self{p:Addr}{H:Hp}{o:HO}:aO p H (upd H p o):=by unfold aO;rw [gL.upd_self];exact bC.refl _
theorem aO.free{p q:Addr}{H H':Hp}(e:aO p H H')(hp:∃o,H' p=some o)(h:H' q=none):H q=none:=by
 cases k:H q with
 | none=>rfl
 | some o =>
  by_cases n:q=p
  ·subst n;obtain ⟨b,a⟩:=hp;rw [a] at h;cases h
  ·have:=gL.same _ _ (e q o (gL.of n k));rw [this] at h;cases h
section
variable{K:PySem.W.Frag}{H:Hp}{p:Addr}{xs:List V}{i:Int}{v:V}{Q:VK}
theorem VH{u:V}{Q:Hp->Prop}{j:Nat}(h:H p=some (.lst xs))(e:KI xs.length i=some j)(k:∀H',H' p=some (.lst (xs.set j u))->aO p H H'->Q H'):QU (.ref p) (.int i) u H Q :=
 stL h e (k _ bH aO.self)
theorem alT{Q:V->Hp->Prop}(hz:xs.length<=sizeLine)(k:∀q H',H q=none->H' q=some (.tup xs)->bC H H'->Q (.ref q) H'):xs.length<=sizeLine/\∀p,H p=none->Q (.ref p) (upd H p (.tup xs)) :=
 ⟨hz,λq a=>k q _ a bH (bC.upd a)⟩
theorem alL{Q:V->Hp->Prop}(hz:xs.length<=sizeLine)(k:∀q H',H q=none->H' q=some (.lst xs)->bC H H'->Q (.ref q) H'):xs.length<=sizeLine/\∀p,H p=none->Q (.ref p) (upd H p (.lst xs)) :=
 ⟨hz,λq a=>k q _ a bH (bC.upd a)⟩
theorem aO.at{p b:Addr}{H H':Hp}{o:HO}(s:aO p H H')(n:b≠p)(h:H b=some o):H' b=some o:=gL.same _ _ (s _ _ (gL.of n h))
end
theorem mZ{n:Nat}(h:n<=64):n<=sizeLine:=aY h Dd
theorem BS{c A B:Prop}[Decidable c](h1:c->A)(h2:¬c->B):if decide c=true then A else B :=
 aCR (λh=>h1 (of_decide_eq_true h)) (λh=>h2 (λk=>h (bY k)))
theorem ZO{c A B:Prop}[Decidable c](h1:¬c->A)(h2:c->B):if (!decide c)=true then A else B :=
 aCR (λh=>h1 (λk=>by rw [bY k] at h;exact absurd h Dd)) (λh=>h2 (Decidable.of_not_not λk=>h (by rw [bP k];rfl)))
def pL(c:TT):TT:=λσ H Q=>∃Q':Bool->Hp->Prop,c σ H Q'/\∀b H1,Q' b H1->Q b H1
theorem PT.mono{X:Cx}{e:Expr}{c:TT}(h:PT X e c):PT X e (pL c):=λa s σ H Q I ⟨Q',f,d⟩ =>
 thn (h a s σ H Q' I f) λb i ⟨H',I',q⟩=>⟨H',I',d _ _ q⟩
theorem MZ{X:Cx}{pos:Pos}{c:Expr}{body:List Stmt}{tc:TT}{tb:TS}(hp:PassesOwn (model X.prog X.w) X.A X.env X.xe)(hc:PT X c tc)(hb:IL X body tb):PS X (.While c body [] pos) (AI (pL tc) tb) :=
 QX hp hc.mono hb
@[irreducible] def HA(K:PySem.W.Frag):List V->Hp->VK->Prop:=λxs H Q=>∃x n,xs=[x]/\aDg K x H n/\Q (.int n) H
@[irreducible] def VY:List V->Hp->VK->Prop:=λxs H Q=>∃i,xs=[.int i]/\Q (.int (i.natAbs:Int)) H
@[irreducible] def DT:List V->Hp->VK->Prop:=λxs H Q=>∃x d,xs=[x]/\cB H d x/\d.showable=true/\d.hasDict=false/\d.depth<=60/\d.shown.length<=sizeLine/\Q (.str d.shown) H
section
variable{X:Cx}{K:PySem.W.Frag}{H:Hp}{p:Addr}{xs:List V}{Q:VK}
theorem iK:iM X (.builtin "len") (HA X.K):=by unfold HA;exact TN
theorem IE:iM X (.builtin "abs") VY:=by
 unfold VY;exact λa s σ H c b Q I r ⟨i,e,q⟩=>TR a s σ H c b Q I r ⟨i,e,by
 have:(if i<0 then -i else i)=(i.natAbs:Int):=by split <;> omega
 rw [this];exact q⟩
theorem LK(hg:X.A.guards=some [])(hu:X.A.units+64<cLine):iM X (.builtin "repr") DT:=by unfold DT;exact NX hg hu
theorem ZG(h:H p=some (.lst xs))(q:Q (.int xs.length) H):HA K [V.ref p] H Q:=by unfold HA;exact ⟨_,_,rfl,.inl ⟨xs,fR.of h,rfl⟩,q⟩
theorem VR(h:H p=some (.tup xs))(q:Q (.int xs.length) H):HA K [V.ref p] H Q:=by unfold HA;exact ⟨_,_,rfl,.inr ⟨xs,fO.of h,rfl⟩,q⟩
theorem raI{i:Int}(q:Q (.int (i.natAbs:Int)) H):VY [V.int i] H Q:=by unfold VY;exact ⟨i,rfl,q⟩
theorem rrI{x:V}{d:PyData}(r:cB H d x)(h1:d.showable=true)(h2:d.hasDict=false)(h3:d.depth<=60)(h4:d.shown.length<=sizeLine)(q:Q (.str d.shown) H):DT [x] H Q:=by unfold DT;exact ⟨x,d,rfl,r,h1,h2,h3,h4,q⟩
end
theorem uC{c:TT}{tb:TS}{D:oS}{σ:St}{H:Hp}(W:Nat->St->Hp->Prop)(R:St->Hp->Prop)(m:Nat)(h0:W m σ H)
  (hs:∀m σ H,W m σ H->c σ H λb H1=>if b=true then tb { D with nx:=λσ' H'=>∃m',m' < m/\W m' σ' H',ct:=λσ' H'=>∃m',m' < m/\W m' σ' H',bk:=D.nx } σ H1 else R σ H1)
  (hd:∀σ H,R σ H->D.nx σ H):AI (pL c) tb D σ H :=
 ⟨W,⟨m,h0⟩,λm σ H a=>⟨_,hs m σ H a,λb H1 q=>by
  by_cases hb:b=true
  ·rw [if_pos hb] at q ⊢;exact ⟨_,λ_ _ h=>h,q⟩
  ·rw [if_neg hb] at q ⊢;exact hd _ _ q⟩⟩
def aCo(t:TS):TS:=λD σ H=>∃R:St->Hp->Prop,(∀σ' H',R σ' H'->D.nx σ' H')/\t { D with nx:=R } σ H
theorem aAV{X:Cx}{st:Stmt}{t:TS}(h:PS X st t):PS X st (aCo t):=λa s σ H D I ⟨R,b,q⟩ =>
 thn (h a s σ H _ I q) λf d z=>by
  cases f with
  | next=>obtain ⟨c,H',I',r⟩:=z;exact ⟨c,H',I',b _ _ r⟩
  | brk=>exact z
  | cont=>exact z
  | ret u=>exact z
section
variable{es:List Expr}{env:Env}
theorem iD{a b c d}:starEach (.BinOp a b c d::es) env=(false,eval (.BinOp a b c d) env)::starEach es env:=by rw [starEach] <;> (intros;contradiction)
theorem fY{a b c}:starEach (.UnaryOp a b c::es) env=(false,eval (.UnaryOp a b c) env)::starEach es env:=by rw [starEach] <;> (intros;contradiction)
theorem fE{a b c d}:starEach (.ListComp a b c d::es) env=(false,eval (.ListComp a b c d) env)::starEach es env:=by rw [starEach] <;> (intros;contradiction)
theorem fZ{a b c d}:starEach (.Compare a b c d::es) env=(false,eval (.Compare a b c d) env)::starEach es env:=by rw [starEach] <;> (intros;contradiction)
theorem iG{a b c d}:starEach (.Call a b c d::es) env=(false,eval (.Call a b c d) env)::starEach es env:=by rw [starEach] <;> (intros;contradiction)
theorem fG{a b c}:starEach (.Constant a b c::es) env=(false,eval (.Constant a b c) env)::starEach es env:=by rw [starEach] <;> (intros;contradiction)
theorem eC{a b c}:starEach (.Subscript a b c::es) env=(false,eval (.Subscript a b c) env)::starEach es env:=by rw [starEach] <;> (intros;contradiction)
theorem iF{a b}:starEach (.Name a b::es) env=(false,eval (.Name a b) env)::starEach es env:=by rw [starEach] <;> (intros;contradiction)
theorem jM{a b}:starEach (.List a b::es) env=(false,eval (.List a b) env)::starEach es env:=by rw [starEach] <;> (intros;contradiction)
theorem iC{a b c}:starEach (.Tuple a b c::es) env=(false,eval (.Tuple a b c) env)::starEach es env:=by rw [starEach] <;> (intros;contradiction)
end
section
variable{X:Cx}{k:Nat}{ps:List Str}{sp:Sp}{x:Str}{p pos:Pos}{e:Expr}{es:List Expr}{te:TE}{t:TA}{id T:String}{r:List V->Hp->VK->Prop}
theorem CH{env:Env}:(backTo pos (starEach [] env)).any (·.1)=false:=rfl
theorem uQ{env:Env}(hs:starEach (e::es) env=(false,eval e env)::starEach es env)(h:(backTo pos (starEach es env)).any (·.1)=false):(backTo pos (starEach (e::es) env)).any (·.1)=false:=by
 rw [hs];show (false || (backTo pos (starEach es env)).any (·.1))=false;rw [h];rfl
end
structure gE(X:Cx)(e:Expr)(t:TE):Prop where p:PE X e t
structure OH(X:Cx)(e:Expr)(t:TT):Prop where p:PT X e t
structure PWw(X:Cx)(e:Expr)(t:TT):Prop where p:PW X e t
structure OJ(X:Cx)(es:List Expr)(t:TA):Prop where p:PA X es t
structure GA(X:Cx)(st:Stmt)(t:TS):Prop where p:PS X st t
structure xX(X:Cx)(st:List Stmt)(t:TS):Prop where p:IL X st t
structure PGw(X:Cx)(e:Expr)(t:TG):Prop where p:PG X e t
structure YJ(X:Cx)(es:List Expr)(t:UJ):Prop where p:PGs X es t
structure OP(X:Cx)(tg iter:Expr)(t:TI):Prop where p:PI X tg iter t
structure POw(X:Cx)(e:Option Expr)(t:TO):Prop where p:PO X e t
@[irreducible] def JK(xs:List V)(H:Hp)(Q:VK):Prop:=xs.length<=sizeLine/\∀p,H p=none->Q (.ref p) (upd H p (.tup xs))
@[irreducible] def JL(xs:List V)(H:Hp)(Q:VK):Prop:=xs.length<=sizeLine/\∀p,H p=none->Q (.ref p) (upd H p (.lst xs))
theorem lI{xs:List V}{H:Hp}{Q:VK}(hz:xs.length<=64)(k:∀q H',H q=none->H' q=some (.tup xs)->bC H H'->Q (.ref q) H'):JK xs H Q:=by unfold JK;exact alT (mZ hz) k
theorem qF{xs:List V}{H:Hp}{Q:VK}(hz:xs.length<=64)(k:∀q H',H q=none->H' q=some (.lst xs)->bC H H'->Q (.ref q) H'):JL xs H Q:=by unfold JL;exact alL (mZ hz) k
def tTu(t:TA):TE:=λσ H Q=>t σ H λxs H1=>JK xs H1 Q
def tLs(t:TA):TE:=λσ H Q=>t σ H λxs H1=>JL xs H1 Q
section
variable{X:Cx}{a b c e o tg:Expr}{es rest:List Expr}{ta tb tc te to:TE}{tA tB':TT}{t:TA}{pos p p2:Pos}{st:Stmt}{sts body orelse:List Stmt}{ts us:TS}{x:Str}{r r':R2}{id T:String}{rl:List V->Hp->VK->Prop}{k i j:Nat}{ps:List Str}{sp:Sp}{n:Nat}
theorem aJ(i:Nat){x:Str}{pos:Pos}(hN:X.N[i]?=some x:=by rfl)(hv:Vis X.env.scope x:=by first | exact Or.inl rfl | exact Or.inr (Or.inl rfl) | exact Or.inr (Or.inr rfl))(hd:(x == ("__debug__" : Str))=false:=by decide)
  (hcd:(x == ("__classdict__" : Str))=false:=by decide):gE X (.Name x pos) (aAj i):=⟨pv i hN hv hd hcd⟩
theorem aK{i j pos}:gE X (.Constant (.int i) j pos) (tC (.int i)):=⟨pe_int⟩
theorem tH{b j pos}:gE X (.Constant (.bool b) j pos) (tC (.bl b)):=⟨pe_bl⟩
theorem uT{j pos}:gE X (.Constant .none j pos) (tC .non):=⟨pe_non⟩
theorem gH{x j pos}:gE X (.Constant (.str x) j pos) (tC (.str x)):=⟨pe_str⟩
theorem qI{v:V}{u:Value}(hg:Gl X x)(hm:X.mg x=some u)(r:dO v u)(hd:(x == ("__debug__" : Str))=false:=by decide):gE X (.Name x pos) (tC v):=⟨WL hg hm r hd⟩
theorem cF{op:Operator}(ho:nU X (binaryOp op) r)(ha:gE X a ta)(hb:gE X b tb):gE X (.BinOp a op b pos) (VD r ta tb):=⟨aCF ho ha.p hb.p⟩
theorem CS{op:UnaryOp}{r:V->Hp->VK->Prop}(ho:UnR X (unaryOp op) r)(ha:gE X a ta):gE X (.UnaryOp op a pos) (tUn r ta):=⟨aCE ho ha.p⟩
theorem AE{op:CmpOp}(ho:nU X (compareOp op) r)(ha:gE X a ta)(hb:gE X b tb)(hm:behindInMarks op b=false):gE X (.Compare a [op] [b] pos) (VD r ta tb):=⟨WP ho ha.p hb.p hm⟩
theorem eJ{op:CmpOp}(ho:nU X (compareOp op) r)(ha:gE X a ta)(hb:gE X b tb)(hm:behindInMarks op b=false):OH X (.Compare a [op] [b] pos) (YT (VD r ta tb)):=⟨WD ho ha.p hb.p hm⟩
theorem OW(h:gE X e te)(he:∀whole,isTrue e X.env whole=(do let v <-whole;standAt e.pos;holding [v] (truthy v)):=by intro _;rfl):OH X e (tB te):=⟨aAQ h.p he⟩
theorem zZ(ha:OH X a tA):PWw X (.BoolOp .And [a] pos) tA:=⟨WA ha.p⟩
theorem GB(ha:OH X a tA):PWw X (.BoolOp .Or [a] pos) tA:=⟨aAM ha.p⟩
theorem GC(ha:OH X a tA)(hb:PWw X (.BoolOp .And (b::rest) pos) tB'):PWw X (.BoolOp .And (a::b::rest) pos) (aCp tA tB'):=⟨aAP ha.p hb.p⟩
theorem OV(ha:OH X a tA)(hb:PWw X (.BoolOp .Or (b::rest) pos) tB'):PWw X (.BoolOp .Or (a::b::rest) pos) (tOr tA tB'):=⟨aCC ha.p hb.p⟩
theorem MA(h:PWw X e tA):OH X e tA:=⟨h.p.pt⟩
theorem aAg(ha:gE X a ta):gE X (.UnaryOp .Not a pos) (YV ta):=⟨aA3 ha.p⟩
theorem CU(hc:OH X c tA)(ha:gE X a ta)(hb:gE X b tb):gE X (.IfExp c a b pos) (tIf tA ta tb):=⟨RF hc.p ha.p hb.p⟩
theorem aI:OJ X [] aCh:=⟨pa_nil⟩
theorem aP(ha:gE X e te)(hr:OJ X es t)(hs:starEach (e::es) X.env=(false,eval e X.env)::starEach es X.env:=by first | exact iF | exact fG | exact se_BoolOp | exact iD | exact fY | exact se_IfExp | exact se_Dict | exact fE | exact fZ | exact iG | exact se_Attribute | exact eC | exact jM | exact iC | exact se_JoinedStr | exact se_GeneratorExp):OJ X (e::es) (ZA te t):=⟨WR ha.p hr.p hs⟩
theorem cW{x1}(h:OJ X es t):gE X (.Tuple es x1 pos) (tTu t):=⟨by unfold tTu JK;exact aA2 h.p⟩
theorem eK(h:OJ X es t):gE X (.List es pos) (tLs t):=⟨by unfold tLs JL;exact aA4 h.p⟩
theorem CV:gE X (.Dict [] [] pos) PV:=⟨pe_dnewT⟩
theorem bU(hr:UK X r)(ha:gE X a ta)(hb:gE X b tb)(hs:LT b):gE X (.Subscript a b pos) (VD r ta tb):=⟨aCG hr ha.p hb.p hs⟩
theorem gP:POw X none IZ:=⟨po_none⟩
theorem gO(h:gE X e te):POw X (some e) (YU te):=⟨WH h.p⟩
theorem fS{lo hi:Option Expr}{tl th:TO}{r:V->Option Int->Option Int->Hp->VK->Prop}(hr:SlR X r)(he:gE X e te)(hl:POw X lo tl)(hu:POw X hi th):gE X (.Subscript e (.Slice lo hi none p2) pos) (tSl r te tl th):=⟨RE hr he.p hl.p hu.p⟩
theorem cG(F:iP eV X.prog X.w X.K X.mg X.base k x ps sp)(hr:kD k X.A)(ha:OJ X (e::es) t)(hg:Gl X x:=by rfl)
  (hdb:(x == ("__debug__" : Str))=false:=by decide) (he:starEach (e::es) X.env=(false,eval e X.env)::starEach es X.env:=by first | exact iF | exact fG | exact se_BoolOp | exact iD | exact fY | exact se_IfExp | exact se_Dict | exact fE | exact fZ | exact iG | exact se_Attribute | exact eC | exact jM | exact iC | exact se_JoinedStr | exact se_GeneratorExp)
  (hpl:(backTo pos (starEach es X.env)).any (·.1)=false:=by repeat (first | exact CH | refine uQ (by first | exact iF | exact fG | exact se_BoolOp | exact iD | exact fY | exact se_IfExp | exact se_Dict | exact fE | exact fZ | exact iG | exact se_Attribute | exact eC | exact jM | exact iC | exact se_JoinedStr | exact se_GeneratorExp) ?_)) :
  gE X (.Call (.Name x p) (e::es) [] pos) (PX sp [] E0 t):=⟨aCH F hr ha.p hg hdb he hpl⟩
theorem gF(hc:iM X (.builtin id) rl)(hg:Gl X x)(hm:X.mg x=none)(hv:bootBuiltins x=some (.builtin id))(ha:OJ X (e::es) t)(hn:x ≠ "__name__" := by decide)(hdb:(x == ("__debug__" : Str))=false:=by decide)
  (he:starEach (e::es) X.env=(false,eval e X.env)::starEach es X.env:=by first | exact iF | exact fG | exact se_BoolOp | exact iD | exact fY | exact se_IfExp | exact se_Dict | exact fE | exact fZ | exact iG | exact se_Attribute | exact eC | exact jM | exact iC | exact se_JoinedStr | exact se_GeneratorExp) (hpl:(backTo pos (starEach es X.env)).any (·.1)=false:=by repeat (first | exact CH | refine uQ (by first | exact iF | exact fG | exact se_BoolOp | exact iD | exact fY | exact se_IfExp | exact se_Dict | exact fE | exact fZ | exact iG | exact se_Attribute | exact eC | exact jM | exact iC | exact se_JoinedStr | exact se_GeneratorExp) ?_)):gE X (.Call (.Name x p) (e::es) [] pos) (tCB rl t) :=
 ⟨RI hc hg hm hv ha.p hn hdb he hpl⟩
theorem iA(hc:iM X (.type T) rl)(hg:Gl X x)(hm:X.mg x=none)(hv:bootBuiltins x=some (.type T))(ha:OJ X (e::es) t)(hn:x ≠ "__name__" := by decide)(hdb:(x == ("__debug__" : Str))=false:=by decide)
  (he:starEach (e::es) X.env=(false,eval e X.env)::starEach es X.env:=by first | exact iF | exact fG | exact se_BoolOp | exact iD | exact fY | exact se_IfExp | exact se_Dict | exact fE | exact fZ | exact iG | exact se_Attribute | exact eC | exact jM | exact iC | exact se_JoinedStr | exact se_GeneratorExp) (hpl:(backTo pos (starEach es X.env)).any (·.1)=false:=by repeat (first | exact CH | refine uQ (by first | exact iF | exact fG | exact se_BoolOp | exact iD | exact fY | exact se_IfExp | exact se_Dict | exact fE | exact fZ | exact iG | exact se_Attribute | exact eC | exact jM | exact iC | exact se_JoinedStr | exact se_GeneratorExp) ?_)):gE X (.Call (.Name x p) (e::es) [] pos) (tCB rl t) :=
 ⟨NE hc hg hm hv ha.p hn hdb he hpl⟩
theorem qK{name:Str}{apos cpos:Pos}{r:V->List V->Hp->VK->Prop}(pa:PlainAttrs T)(slot:Slot T name id)(hty:typeOf (.builtin id)=pure (.type "method_descriptor"))(hm:MtR X id r)(ho:gE X o to)(ha:OJ X (e::es) t)
  (hbase:attributeBase o name X.env (eval o X.env)=eval o X.env:=by rfl)
  (hfew:((backTo cpos (starEach (e::es) X.env)).all (λx=>!x.1)&&(backToKw cpos (keywordEach [] X.env)).all (λx=>x.1.isSome)
   && decide ((e::es).length+([]:List Keyword).length+(if ([]:List Keyword).isEmpty then 0 else 1)<30))=true:=by rfl)
  (hline:(apos.endLine == cpos.line)=true:=by rfl) (hs:starEach (e::es) X.env=(false,eval e X.env)::starEach es X.env:=by first | exact iF | exact fG | exact se_BoolOp | exact iD | exact fY | exact se_IfExp | exact se_Dict | exact fE | exact fZ | exact iG | exact se_Attribute | exact eC | exact jM | exact iC | exact se_JoinedStr | exact se_GeneratorExp) (hplain:(backTo cpos (starEach es X.env)).any (·.1)=false:=by repeat (first | exact CH | refine uQ (by first | exact iF | exact fG | exact se_BoolOp | exact iD | exact fY | exact se_IfExp | exact se_Dict | exact fE | exact fZ | exact iG | exact se_Attribute | exact eC | exact jM | exact iC | exact se_JoinedStr | exact se_GeneratorExp) ?_)) :
  gE X (.Call (.Attribute o name apos) (e::es) [] cpos) (tBM X.K T r to t):=⟨aCI pa slot hty hm ho.p ha.p hbase hfew hline hs hplain⟩
theorem gY:xX X [] YW:=⟨pss_nil⟩
theorem aQ(h1:GA X st ts)(h2:xX X sts us):xX X (st::sts) (aCe ts us):=⟨QW h1.p h2.p⟩
theorem bO(h1:GA X st ts):xX X [st] ts:=⟨WE h1.p⟩
theorem jK(he:gE X e te)(hs:swapsWith e none pos.line X.env=pure false:=by rfl):GA X (.Expr e pos) (YX te):=⟨WF he.p hs⟩
theorem dL(he:gE X e te):GA X (.Return (some e) pos) (aCf te):=⟨aAS he.p⟩
theorem lJ{c:Expr}{a b:List Stmt}(hc:OH X c tA)(ha:xX X a ts)(hb:xX X b us):GA X (.If c a b pos) (aCl tA ts us):=⟨aCD hc.p ha.p hb.p⟩
theorem rV(h:GA X st ts):GA X st (aCo ts):=⟨aAV h.p⟩
theorem cL{i:Nat}{x:Str}(hN:X.N.Nodup)(hi:X.N[i]?=some x)(hx:Loc X.env.scope x)(hf:X.fn x=true\/X.env.scope.names.lookup x=some .local:=by first | exact .inl rfl | exact .inr rfl | assumption):PGw X (.Name x pos) (mO i):=⟨WK hN hi hx hf⟩
theorem gC:YJ X [] aBy:=⟨pgs_nil⟩
theorem cR{t:TG}{u:UJ}(h1:PGw X e t)(h2:YJ X es u)
  (hs:(assignEach (e::es) X.env).map (·.2)=assign e X.env::(assignEach es X.env).map (·.2):=by rfl):YJ X (e::es) (SB t u):=⟨RD h1.p h2.p hs⟩
theorem hV{k:Nat}{t:UJ}{n:Nat}(hc:X.calm=true)(h:YJ X es t)
  (hn:(assignEach es X.env).length=n:=by rfl) (hst:(assignEach es X.env).findIdx? (·.1)=none:=by rfl):PGw X (.Tuple es k pos) (aBx X.K n t):=⟨aAZ hc h.p hn hst⟩
theorem nY{i:Expr}{ti:TE}{t:YH}(ho:gE X o to)(hi:gE X i ti)(hs:aBT X t)
  (ha:∀v,assign (.Subscript o i pos) X.env v=(do
   let ov <-holding [v] (eval o X.env)
   let iv <-holding [v,ov] (eval i X.env)
   standAt pos
   holding [v,ov,iv] (setItem ov iv v)
   release [v,ov,iv] []):=by intro _;rfl):PGw X (.Subscript o i pos) (aC1 to ti t):=⟨aA0 ho.p hi.p hs ha⟩
theorem kJ{g:TG}(he:gE X e te)(hg:PGw X tg g)(hs:swapsWithSole [tg] e pos.line X.env=pure false:=by rfl)(hw:swappedStores [tg] e X.env=pure none:=by rfl)(h1:(assignEach [tg] X.env).map (·.2)=[assign tg X.env]:=by rfl):GA X (.Assign [tg] e pos) (DH te g):=⟨aAW he.p hg.p hs hw h1⟩
theorem bQ{i:Nat}{pos':Pos}(hN:X.N.Nodup)(hi:X.N[i]?=some x)(hx:Loc X.env.scope x)(he:gE X e te)(hs:swapsWith e (some (.Name x pos')) pos.line X.env=pure false:=by rfl)(hf:X.fn x=true\/X.env.scope.names.lookup x=some .local:=by first | exact .inl rfl | exact .inr rfl | assumption) :
  GA X (.Assign [.Name x pos'] e pos) (DH te (mO i)):=⟨aAR hN hi hx he.p hs hf⟩
theorem OX{i j:Nat}{x y:Str}{ta:TA}{px py pt:Pos}{kt k2 pt2}(hc:X.calm=true)(hN:X.N.Nodup)(hi:X.N[i]?=some x)(hj:X.N[j]?=some y)(hij:i≠j)
  (hx:X.env.scope.names.lookup x=some .local) (hy:X.env.scope.names.lookup y=some .local) (ha:OJ X [a,b] ta)
  (hw:swappedStores [.Tuple [.Name x px,.Name y py] kt pt] (.Tuple [a,b] k2 pt2) X.env=pure (some [x,y]))
  (hs:swapsWithSole [.Tuple [.Name x px,.Name y py] kt pt] (.Tuple [a,b] k2 pt2) pos.line X.env=pure false:=by rfl) :
  GA X (.Assign [.Tuple [.Name x px,.Name y py] kt pt] (.Tuple [a,b] k2 pt2) pos) (aCg i j ta):=⟨aAT hc hN hi hj hij hx hy ha.p hw hs⟩
theorem qH{c:Expr}{tc:TT}{tb:TS}(hp:PassesOwn (model X.prog X.w) X.A X.env X.xe)(hc:OH X c tc)(hb:xX X body tb):GA X (.While c body [] pos) (AI (pL tc) tb):=⟨MZ hp hc.p hb.p⟩
theorem gG{l:Expr}{tl:TE}(hl:gE X l tl):OP X tg l (ZQ X.K tl):=⟨WJ hl.p⟩
theorem nX{l:Expr}{tl:TE}(hl:gE X l tl):OP X tg l (aCV X.K tl):=⟨aAY hl.p⟩
theorem eN{a:Expr}{ta:TA}{p pos:Pos}(hg:Gl X "range")(hm:X.mg "range" = none)(ha:OJ X [a] ta)(hs:starEach [a] X.env=[(false,eval a X.env)]:=by first | exact iF | exact fG | exact se_BoolOp | exact iD | exact fY | exact se_IfExp | exact se_Dict | exact fE | exact fZ | exact iG | exact se_Attribute | exact eC | exact jM | exact iC | exact se_JoinedStr | exact se_GeneratorExp):OP X tg (.Call (.Name "range" p) [a] [] pos) (ZP ta):=⟨ND hg hm ha.p hs⟩
theorem fC{iter:Expr}{wi:TI}{g:TG}{tb:TS}{pos:Pos}(hp:PassesOwn (model X.prog X.w) X.A X.env X.xe)(hc:X.calm=true)(hi:OP X tg iter wi)(hg:PGw X tg g)(hb:xX X body tb)
  (hs:∀x,foldedSetIterable iter X.env x=pure x:=by intro _;rfl):GA X (.For tg iter body [] pos) (aCm wi g tb):=⟨aAU hp hc hi.p hg.p hb.p hs⟩
end
theorem lC.okw{P:Program}{w:World}{K:PySem.W.Frag}{mg:Str->Option Value}{base:Heap}{x qual:Str}{st:Stmt}{f:Addr}{fd:FuncData}{N ps:List Str}{k:Nat}{sp:Sp}(F:lC K x qual st f fd)(S:cT N ps (bJ st))(len:∀vs H Q E,sp vs H Q E->vs.length=ps.length)
  (hbody:∀(cdv:Value) (A:Around) (outer:List Env) (s:Shared) (H:Hp) (vs:List V) (Q:VK) (E:XK),kD k (A.deeper (envOfC qual (bJ st) s.heap.objs.size f cdv))->sp vs H Q E ->
   ∃t,xX (FG eV P w K mg base N qual (bJ st) f cdv A outer s H E).nox (kB st) t/\t { nx:=λ_ H'=>Q .non H',rt:=Q } (start N vs) H):fJ P w K mg base eV (k+1) f fd ps sp :=
 F.ok S len λcdv A outer s H vs Q E b h=>by
  obtain ⟨t,c,a⟩:=hbody cdv A outer s H vs Q E b h;exact ⟨t,c.p,a⟩
theorem lC.oky{P:Program}{w:World}{K:PySem.W.Frag}{mg:Str->Option Value}{base:Heap}{x qual:Str}{st:Stmt}{f:Addr}{fd:FuncData}{N ps:List Str}{k:Nat}{sp:Sp}(F:lC K x qual st f fd)(S:cT N ps (bJ st))
  (h:∀(vs:List V) (H:Hp) (Q:VK) (E:XK),sp vs H Q E->vs.length=ps.length/\∀(cdv:Value) (A:Around) (outer:List Env) (s:Shared),kD k (A.deeper (envOfC qual (bJ st) s.heap.objs.size f cdv)) ->
   ∃t,xX (FG eV P w K mg base N qual (bJ st) f cdv A outer s H E).nox (kB st) t/\t { nx:=λ_ H'=>Q .non H',rt:=Q } (start N vs) H):fJ P w K mg base eV (k+1) f fd ps sp :=
 F.okw S (λvs H Q E q=>(h vs H Q E q).1) λcdv A outer s H vs Q E a q=>(h vs H Q E q).2 cdv A outer s a
theorem ES(a b:Int):Int.gcd b (a % b)=Int.gcd a b:=by
 have h:=Int.gcd_add_mul_right_right b (a % b) (a/b);rw [show a % b+a/b*b=a from by have:=Int.emod_add_mul_ediv a b;rw [Int.mul_comm];exact this] at h;rw [<-h,Int.gcd_comm]
theorem KQ{a:Int}(h:0<a):(Int.gcd a 0:Int)=a:=by rw [Int.gcd_zero_right];omega
section
variable{H:Hp}{x:V}{d:PyData}{Q:VK}
end
theorem aZ.len{H:Hp}:∀{ds:List PyData}{vs:List V},aZ H ds vs->vs.length=ds.length
 | [],_,h=>by cases (show _=[] from h);rfl
 | d::ds,_,h=>by
  unfold aZ at h;obtain ⟨x,xs,rfl,_,h2⟩:=h;simp [aZ.len h2]
section
variable{p:Addr}{σ:St}{t:TE}{ta:TA}{d:PyData}{ds:List PyData}
end
theorem uP{α:Type}{xs:List α}{x:Int}(h0:0<=x)(h1:x<xs.length):∃v,CP xs x=some v/\v∈xs/\xs[x.toNat]?=some v:=by
 have h:x.toNat<xs.length:=Oo;have e:=aB h;have:=cP e;rw [Int.toNat_of_nonneg h0] at this;exact ⟨_,this,List.getElem_mem h,e⟩
theorem aZ.append{H:Hp}{es:List PyData}{ws:List V}(h':aZ H es ws):∀{ds:List PyData}{vs:List V},aZ H ds vs->aZ H (ds++es) (vs++ws)
 | [],_,h=>by cases (show _=[] from h);exact h'
 | d::ds,_,h=>by
  unfold aZ at h;obtain ⟨x,xs,rfl,h1,h2⟩:=h;exact aZ.cons h1 (aZ.append h' h2)
end L2
namespace L2
end L2
namespace L2
open PySem PySem.Spec PyProof.Rows
theorem bC.thru{l:Addr}{H0 H1 H2:Hp}(hl:H0 l=none)(s:bC H0 H1)(b:aO l H1 H2):bC H0 H2:=λc o e=>by
 have n:c≠l:=cX e hl;exact b.at n (s _ _ e)
theorem aEo{H:Hp}{l b:Addr}{xs zs:List V}{Q:VK}(h1:H l=some (.lst xs))(h2:H b=some (.lst zs))(hz:xs.length+zs.length<=1000)(k:∀q H',H q=none->H' q=some (.lst (xs++zs))->bC H H'->Q (.ref q) H'):aCB (.ref l) (.ref b) H Q :=
 ⟨l,b,xs,zs,rfl,rfl,h1,h2,Nat.le_of_lt (sD hz),λq a=>k q _ a bH (bC.upd a)⟩
@[irreducible] def MV:V->List V->Hp->VK->Prop:=JQ
theorem vW{X:Cx}:MtR X "list.append" MV:=by unfold MV;exact sM
theorem aDb{H:Hp}{l:Addr}{xs:List V}{y:V}{Q:VK}(h:H l=some (.lst xs))(hz:xs.length<=1000)(k:∀H',H' l=some (.lst (xs++[y]))->aO l H H'->Q .non H'):MV (.ref l) [y] H Q:=by
 unfold MV;exact ⟨l,xs,y,rfl,rfl,h,sD hz,k _ bH aO.self⟩
theorem VC{K:PySem.W.Frag}{H:Hp}{l:Addr}{xs:List V}(h:H l=some (.lst xs)):tyV K "list" (.ref l) H:=.inl ⟨rfl,xs,fR.of h⟩
def mQ(env:Env):List (Str × NameKind)->List (Str × Addr)->List (Str × Addr)
 | [],cs=>cs
 | (n,k)::r,cs=>if k == .free then mQ env r ((n,(env.cells.lookup n).getD 0)::cs) else mQ env r cs
theorem LH(env:Env):∀(l:List (Str × NameKind)) (cs:List (Str × Addr)),(∀y∈l,y.2=.free->∃c,env.cells.lookup y.1=some c) ->
  (forIn l cs λ(x:Str × NameKind) r=>if x.2 == .free then (do let c <-cellOf env x.1;pure (ForInStep.yield ((x.1,c)::r)):Sem _) else pure (ForInStep.yield r))=pure (mQ env l cs)
 | [],cs,_=>rfl
 | (n,k)::r,cs,h=>by
  rw [List.forIn_cons];have ih:=λcs=>LH env r cs λy b=>h y (aM _ b);by_cases hk:(k == NameKind.free)=true
  ·obtain ⟨c,a⟩:=h (n,k) aR (by simpa using hk);dsimp only at a;simp only [hk,if_true,mQ,a,Option.getD_some,cellOf,pure_bind];exact ih _
  ·simp only [hk,mQ,pure_bind];exact ih _
theorem jO{env:Env}{scope:Scope}(h:∀y∈scope.names,y.2=.free->∃c,env.cells.lookup y.1=some c):closureFor scope env=pure (mQ env scope.names []):=by
 have e:=LH env scope.names [] h;unfold closureFor;simp only [bind_pure];exact e
theorem sV{env:Env}:∀(l:List (Str × NameKind)) (cs:List (Str × Addr)),(∀y∈l,y.2=.free->∃c,env.cells.lookup y.1=some c)->∀p∈mQ env l cs,p∈cs\/env.cells.lookup p.1=some p.2
 | [],cs,_,p,hp=>.inl hp
 | (n,k)::r,cs,h,p,hp=>by
  have h':∀y∈r,y.2=.free->∃c,env.cells.lookup y.1=some c:=λy d=>h y (aM _ d);unfold mQ at hp;by_cases hk:(k == NameKind.free)=true
  ·rw [if_pos hk] at hp;obtain ⟨c,b⟩:=h (n,k) aR (by simpa using hk);rcases sV r _ h' p hp with a | a
   ·rcases bE.mp a with rfl | a
    ·exact .inr (by dsimp only at b ⊢;rw [b];rfl)
    ·exact .inl a
   ·exact .inr a
  ·rw [if_neg hk] at hp;exact sV r cs h' p hp
theorem sX{env:Env}:∀(l:List (Str × NameKind)) (cs:List (Str × Addr)),∀p∈cs,p∈mQ env l cs
 | [],_,_,hp=>hp
 | (n,k)::r,cs,p,hp=>by
  unfold mQ;by_cases hk:(k == NameKind.free)=true
  ·rw [if_pos hk];exact sX r _ p (aM _ hp)
  ·rw [if_neg hk];exact sX r _ p hp
theorem sW{env:Env}:∀(l:List (Str × NameKind)) (cs:List (Str × Addr)) (y:Str),(y,NameKind.free)∈l->∃a,(y,a)∈mQ env l cs
 | (n,k)::r,cs,y,hy=>by
  unfold mQ;rcases bE.mp hy with e | hm
  ·cases e;rw [if_pos (by rfl)];exact ⟨_,sX r _ _ aR⟩
  ·by_cases hk:(k == NameKind.free)=true
   ·rw [if_pos hk];exact sW r _ y hm
   ·rw [if_neg hk];exact sW r _ y hm
theorem nG{α β:Type}[BEq α][LawfulBEq α]{x:α}{c:β}:∀{l:List (α × β)},l.lookup x=some c->(x,c)∈l
 | [],h=>by cases h
 | (a,b)::r,h=>by
  rw [List.lookup_cons] at h;by_cases e:(x == a)=true
  ·rw [e] at h;have:x=a:=by simpa using e
   subst this;cases h;exact aR
  ·have d:(x == a)=false:=by simpa using e
   rw [d] at h;exact aM _ (nG h)
theorem nE{α β:Type}[BEq α][LawfulBEq α]{x:α}{c:β}:∀{l:List (α × β)},(x,c)∈l->∃c',l.lookup x=some c'
 | (a,b)::r,h=>by
  rw [List.lookup_cons];by_cases e:(x == a)=true
  ·rw [e];exact ⟨_,rfl⟩
  ·have e':(x == a)=false:=by simpa using e
   rw [e'];rcases bE.mp h with q | q
   ·cases q;simp at e
   ·exact nE q
def IF(X:Cx)(scope:Scope):List (Str × Addr):=mQ X.env scope.names []
theorem gX{X:Cx}{scope:Scope}(h:∀y∈scope.names,y.2=.free->∃c,X.env.cells.lookup y.1=some c){x:Str}{c:Addr}(e:(IF X scope).lookup x=some c):X.env.cells.lookup x=some c:=by
 rcases sV scope.names [] h _ (nG e) with a | a
 ·cases a
 ·exact a
theorem mR{X:Cx}{scope:Scope}(h:∀y∈scope.names,y.2=.free->∃c,X.env.cells.lookup y.1=some c){x:Str}(hx:(x,NameKind.free)∈scope.names){c:Addr}(e:X.env.cells.lookup x=some c):(IF X scope).lookup x=some c:=by
 obtain ⟨a,d⟩:=sW (env:=X.env) scope.names [] x hx;obtain ⟨f,b⟩:=nE d;have:=gX h b;rw [e] at this;cases this;exact b
def kY(X:Cx)(scope:Scope)(C:Addr)(fp:List Addr)(s₀:Shared)(H₀:Hp)(N':List Str):Cx where
 prog:=X.prog
 w:=X.w
 K:=X.K
 mg:=X.mg
 base:=X.base
 A:=X.A
 N:=N'
 s₀:=s₀
 H₀:=H₀
 env:=compEnvC scope (IF X scope) C X.env
 outer:=X.stack
 stack:=X.stack
 ex:=fp
 fn:=λ_=>false
 calm:=true
 pn:=[]
 xe:=λ_ _=>False
def slots(σ:St)(js:List Nat):St:=js.map λj=>(σ[j]?).getD none
def OO(X:Cx)(ifs:List Expr)(t:TT):Prop :=
 ∀(pins:List (Addr × Obj)) (s:Shared) (σ:St) (H:Hp) (Q:Bool->Hp->Prop),cH X pins σ H s->t σ H Q ->
  wpAny (model X.prog X.w) X.A (forIn ifs true λc r=>if r=true then do let ok <-isTrue c X.env (eval c X.env);pure (ForInStep.yield ok) else pure (ForInStep.yield r)) (TP X pins σ Q) X.xe s
def rY:TT:=λ_ H Q=>Q true H
theorem pts_nil{X:Cx}:OO X [] rY:=λa s σ H Q I h=>wpAny_tests_nil ⟨H,I,h⟩
theorem WC{X:Cx}{c:Expr}{t:TT}(h:PT X c t):OO X [c] t:=λa s σ H Q I q=>wpAny_tests_one (h a s σ H Q I q)
def ZB(wi:TI)(js:List Nat)(tc:TT)(te:TE):TE:=λσ H Q=>wi σ H λJ H1=>∀D,H1 D=none->∃W:Nat->Nat->List V->Hp->Prop,(∃m,W 0 m [] (upd H1 D (.lst []))) /\
 ∀i m ys H2,W i m ys H2->H2 D=some (.lst ys)/\((J.stop i H2/\Q (.ref D) H2)\/(J.go i H2/\ys.length<sizeLine/\∀x H3,J.yld i H2 x H3 ->
  tc (some x::slots σ js) H3 λb H4=>if b=true then te (some x::slots σ js) H4 λy H5=>H5 D=some (.lst ys)/\∃m',m' < m/\W (i+1) m' (ys++[y]) (upd H5 D (.lst (ys++[y])))
   else H4 D=some (.lst ys)/\∃m',m' < m/\W (i+1) m' ys H4))
structure eR(X:Cx)(scope:Scope)(x:Str)(N':List Str)(js:List Nat):Prop where
 calm:X.calm=true
 free:∀y∈scope.names,y.2=.free->X.env.kindOf y.1=some .cell
 cell:∀y∈scope.names,y.2 ≠ .cell
 kind:scope.kind=.function
 names:∀y∈scope.names,y.2=.local->scope.names.lookup y.1=some .local
 own:scope.names.lookup x=some .local
 nofl:∀y,(y,NameKind.free)∈scope.names->scope.names.lookup y=some .local->False
 len:N'.length=js.length+1
 zero:N'[0]?=some x
 nd:N'.Nodup
 slot:∀(i:Nat) (j:Nat),js[i]?=some j->∃y,N'[i+1]?=some y/\X.N[j]?=some y/\(y,NameKind.free)∈scope.names
section
variable{X:Cx}{pins:List (Addr × Obj)}{σ:St}{H:Hp}{s:Shared}{scope:Scope}{x:Str}{N':List Str}{js:List Nat}{fp:List Addr}
theorem eR.cells(S:eR X scope x N' js)(ok:X.Ok):∀y∈scope.names,y.2=.free->∃c,X.env.cells.lookup y.1=some c:=λy a b=>ok.has _ (.inl (S.free y a b))
theorem iE{env:Env}:∀{names:List (Str × NameKind)}{y:Str}{k:NameKind},(names.map λ(n,k)=>if (k == NameKind.free&&env.scope.kind == .function&&env.kindOf n == some .cell) then (n,NameKind.cell) else (n,k)).lookup y=some k ->
  (k=.cell\/k=.free)->(∀z∈names,z.2 ≠ .cell)->(y,NameKind.free)∈names
 | [],_,_,h,_,_=>by cases h
 | (n,q)::r,y,k,h,hk,hc=>by
  rw [aU,List.lookup_cons] at h;have ih:=λh=>@iE env r y k h hk λz c=>hc z (aM _ c);by_cases hq:(q == NameKind.free&&env.scope.kind == .function&&env.kindOf n == some .cell)=true
  ·dsimp only at h;rw [if_pos hq] at h;have d:q=.free:=by
    rw [cC,cC] at hq;simpa using hq.1.1
   subst d;by_cases e:(y == n)=true
   ·have:y=n:=by simpa using e
    subst this;exact aR
   ·have b:(y == n)=false:=by simpa using e
    dsimp only at h;rw [b] at h;exact aM _ (ih h)
  ·dsimp only at h;rw [if_neg hq] at h;by_cases e:(y == n)=true
   ·have:y=n:=by simpa using e
    subst this;dsimp only at h;rw [e] at h;have a:k=q:=by injection h with h;exact h.symm
    subst a;rcases hk with rfl | rfl
    ·exact absurd rfl (hc _ aR)
    ·exact aR
   ·have b:(y == n)=false:=by simpa using e
    dsimp only at h;rw [b] at h;exact aM _ (ih h)
theorem aBG(S:eR X scope x N' js)(I:cH X pins σ H s)(hf:∀b∈fp,jA X pins H b)(hb:∀b∈fp,b<s.heap.objs.size):(kY X scope s.heap.objs.size fp s H N').Ok where
 mod:=I.ok.mod
 kind:=S.kind
 glob:=I.ok.glob
 blt:=I.ok.blt
 above:=aG _
 inj:=λy z c l d=>I.ok.inj y z c (gX (S.cells I.ok) l) (gX (S.cells I.ok) d)
 has:=λy f=>by
  have i:(y,NameKind.free)∈scope.names:=by
   rcases f with f | f
   ·exact iE (env:=X.env) f (.inl rfl) S.cell
   ·exact iE (env:=X.env) f (.inr rfl) S.cell
  obtain ⟨c,m⟩:=S.cells I.ok _ i rfl;exact ⟨c,mR (S.cells I.ok) i m⟩
 cab:=λ_ _ h=>by cases h
 hd:=λ_=>I.ok.hd S.calm
 frames:=I.ok.frames
 stk:=.inl rfl
 exf:=λb a=>⟨λe=>by have:=hb b a;rw [e] at this;exact cA _ this,λy c h=>(hf b a).2.2.2.2.1 y c (gX (S.cells I.ok) h)⟩
 bs:=I.bs
 bsz:=aY I.ok.bsz I.sz
 noex:=λb o e a=>by
  rcases (hf b a).2.2.2.1 with h | h
  ·exact I.ok.noex b o e h
  ·exact absurd (bK (bD e) (aY I.ok.bsz h)) (cA _)
 exfs:=λb a j=>by
  have d:=I.stkSub b j;rcases bE.mp d with d | d
  ·exact (hf b a).2.1 d
  ·exact (hf b a).2.2.1 d
 funs:=I.stack
 frf:=I.stkFree
theorem yI{i j:Nat}(h:js[i]?=some j):(slots σ js)[i]?=some ((σ[j]?).getD none):=by
 unfold slots;rw [aL,h];rfl
theorem XQ{h':Heap}{tk:Nat}(S:eR X scope x N' js)(I:cH X pins σ H s)(hf:∀b∈fp,jA X pins H b)(hb:∀b∈fp,b<s.heap.objs.size)
  (hn:h'.Ns s.heap.objs.size (λ_=>none)) (hk:∀b o,s.heap.get? b=some o->h'.get? b=some o):cH (kY X scope s.heap.objs.size fp s H N') [] (none::slots σ js) H { s with heap:=h',toks:=tk } where
 ok:=aBG S I hf hb
 os:=rfl
 bare:=I.bare
 base:=Un.kept hk
 loc:=by
  refine ⟨_,hn,λi y v T N a=>?_⟩;cases i with
  | zero=>cases N
  | succ i =>
   have d:(slots σ js)[i]?=some (some v):=N;have L:i<js.length:=by
    have:=(aX.mp d).1;unfold slots at this
    rwa [aC] at this
   have P:js[i]?=some js[i]:=aB L;obtain ⟨z,R,U,A⟩:=S.slot i _ P;have G:z=y:=by
    have:N'[i+1]?=some y:=T;rw [R] at this;cases this;rfl
   subst G;rw [yI P] at d;have Z:σ[js[i]]?=some (some v):=by
    cases q:σ[js[i]]? with
    | none=>rw [q] at d;cases d
    | some o=>rw [q] at d;cases d;rfl
   have C:X.env.kindOf z=some .cell:=S.free _ A rfl;obtain ⟨m,ζ,α⟩:=I.loc;obtain ⟨u,Y,β⟩:=α _ z v U Z (.inr (.inl C));rcases β with ⟨j,_⟩ | ⟨_,c,O,f⟩
   ·rw [C] at j;cases j
   ·refine ⟨u,Y,.inr ⟨?_,c,mR (S.cells I.ok) A O,?_⟩⟩
    ·rcases a with a | a | a
     ·exfalso;have γ:=mR (S.cells I.ok) A O;have B:=nG (l:=(relabel scope X.env).names) a;unfold relabel at B;obtain ⟨⟨n,k⟩,w,D⟩:=aS.mp B;dsimp only at D;by_cases hq:(k == NameKind.free&&X.env.scope.kind == .function&&X.env.kindOf n == some .cell)=true
      ·rw [if_pos hq] at D;cases D
      ·rw [if_neg hq] at D;cases D;have:=S.names _ w rfl;have M:=nE A;obtain ⟨ε,M⟩:=M;dsimp only at this;rw [this] at M;have δ:(relabel scope X.env).names.lookup z=some .local:=lookup_relabel_local this;have J:scope.names.lookup z=some .local:=this;exact S.nofl z A J
     ·exact .inl a
     ·exact .inr a
    ·obtain ⟨o,e,r⟩:=f;exact ⟨o,hk _ _ e,r⟩
 cell:=λy c h=>by
  obtain ⟨v,o,e,r⟩:=I.cell y c (gX (S.cells I.ok) h);exact ⟨v,o,hk _ _ e,r⟩
 free:=I.hok.fresh (aG _)
 freeC:=λy c h=>I.freeC y c (gX (S.cells I.ok) h)
 pin:=λp W=>by cases W
 hok:=I.hok.kept hk
 len:=by
  show (slots σ js).length+1=N'.length;unfold slots;rw [aC,S.len]
theorem nV.but{P:Program}{w:World}{H:Hp}{h h':Heap}{C:Addr}(x:nV P w H h)(hC:H C=none)(k:∀b u,b≠C->h.get? b=some u->h'.get? b=some u):nV P w H h':=λa o e =>
 (x a o e).stay (λb u c q=>k b u (by
  rcases c with rfl | c
  ·exact cX e hC
  ·exact cX c hC) q) (λ_ q=>q) λ_ _ q=>q
theorem FH{H2:Hp}{σ':St}{s2:Shared}{h'':Heap}(S:eR X scope x N' js)(I:cH X pins σ H s)(hf:∀b∈fp,jA X pins H b)
  (J:cH (kY X scope s.heap.objs.size fp s H N') [] σ' H2 s2) (hs:Heap.SameBut s.heap.objs.size s2.heap h''):cH X pins σ H2 { s2 with heap:=h'' }:=by
 have hC:H2 s.heap.objs.size=none:=J.free;have ne:∀{b:Addr} {o:Obj},s.heap.get? b=some o->b≠s.heap.objs.size:=λe q=>by
  have:=bD e;rw [q] at this;exact cA _ this
 refine I.call' (s':={ s2 with heap:=h'' }) (ch:=fp) (by rw [show ({ s2 with heap:=h'' }:Shared).os=s2.os from rfl];exact J.os) ?_ (J.hok.but hC λb u a q=>hs.extBut b u a q) J.bare λb a=>⟨(hf b a).2.2.2.1,(hf b a).2.1,(hf b a).2.2.2.2.1,(hf b a).2.2.2.2.2⟩;have U:=J.base;exact {
  keep:=λb o e n d c=>hs.extBut b o (ne e) (U.keep b o e n d c)
  slot:=λb o e n d c=>by
   obtain ⟨h,q⟩:=U.slot b o e n d c;exact ⟨h,hs.extBut b _ (ne e) q⟩
  free:=U.free
  there:=λb o e c=>by
   obtain ⟨f,q⟩:=U.there b o e c;exact ⟨f,hs.extBut b _ (ne e) q⟩
  tups:=U.tups
  frzs:=U.frzs
  tbls:=U.tbls }
end
abbrev UU:Value->Shared->Prop:=λ_ _=>False
theorem rJ{prog:Program}{w:World}{A:Around}{R:Result->Shared->Prop}{s:Shared}{elt target iter:Expr}{ifs:List Expr}{scope:Scope}{pos:Pos}{it acc:Value}{env:Env}(I:Nat->Shared->Prop)
  (turn:∀n s,I n s->wpAny (model prog w) A (pyNext it) (λr s₁=>match r with
   | none=>R (.ok .next) s₁
   | some v=>wpAny (model prog w) A (letOwnedTupleGo target it v) (λ_ s₁'=>wpAny (model prog w) A (assign target env v) (λ_ s₂ =>
     wpAny (model prog w) A (forIn ifs true λc r=>if r=true then do let ok <-isTrue c env (eval c env);pure (ForInStep.yield ok) else pure (ForInStep.yield r)) (λok s₃ =>
      if ok=true then wpAny (model prog w) A (eval elt env) (λx s₄=>wpAny (model prog w) A (call (.builtin "list.append") [acc,x]) (λ_ s₅=>∃m,m<n/\I m s₅) UU s₄) UU s₃
      else ∃m,m<n/\I m s₃) UU s₂) UU s₁') UU s₁) UU s)
  (n:Nat) (h:I n s):codeAny (model prog w) A (.compLoop (.ListComp elt [⟨target,iter,ifs,0⟩] scope pos) 0 it acc env) R s:=by
 refine codeAny_loop rfl I (λn s j=>?_) n h;show wpAny _ A ((compTurn (.ListComp elt [⟨target,iter,ifs,0⟩] scope pos) 0 it acc env).onRaise (λx=>do noteFrame x env;theTreesLotGoes x)) _ _ s;refine wpAny_noted ?_;rw [compTurn_list];refine wpAny_bind (wpAny_standAt (wpAny_bind (wpAny_mono (turn n s j) (λr s₁ d=>?_) λ_ _ a=>a.elim)));cases r with
 | none=>exact wpAny_pure d
 | some v =>
  refine wpAny_bind (wpAny_mono d (λ_ s₁' b=>?_) λ_ _ a=>a.elim);refine wpAny_bind (wpAny_mono b (λ_ s₂ f=>wpAny_bind (wpAny_mono f (λok s₃ e=>?_) λ_ _ a=>a.elim)) λ_ _ a=>a.elim);cases ok with
  | false=>exact wpAny_pure ⟨rfl,e⟩
  | true =>
   exact wpAny_bind (wpAny_bind (wpAny_mono e (λx s₄ l=>wpAny_bind (wpAny_mono l (λ_ s₅ i=>wpAny_pure (wpAny_pure ⟨rfl,i⟩)) λ_ _ a=>a.elim)) λ_ _ a=>a.elim))
section
variable{X:Cx}{pins:List (Addr × Obj)}{σ:St}{H:Hp}{s:Shared}{scope:Scope}{x:Str}{N':List Str}{js:List Nat}{fp:List Addr}{elt iter:Expr}{px pos:Pos}{ifs:List Expr}{tc:TT}{te:TE}
theorem wV{J:It}{it:Addr}{tn:Nat->Heap->Prop}{RR:Value->Addr->Result->Shared->Prop}{E:Value->Shared->Prop}{Q:VK}
  (S:eR X scope x N' js) (I:cH X pins σ H s) (T:xW X.prog X.w X.K (.Name x px) J fp it tn) (h0:tn 0 s.heap) (hf:∀b∈fp,jA X pins H b)
  (ht:∀C fp s₀ H₀,OO (kY X scope C fp s₀ H₀ N') ifs tc) (he:∀C fp s₀ H₀,PE (kY X scope C fp s₀ H₀ N') elt te)
  (R:∀D,H D=none->∃W:Nat->Nat->List V->Hp->Prop,(∃m,W 0 m [] (upd H D (.lst []))) /\
   ∀i m ys H2,W i m ys H2->H2 D=some (.lst ys)/\((J.stop i H2/\Q (.ref D) H2)\/(J.go i H2/\ys.length<sizeLine/\∀x H3,J.yld i H2 x H3 ->
    tc (some x::slots σ js) H3 λb H4=>if b=true then te (some x::slots σ js) H4 λy H5=>H5 D=some (.lst ys)/\∃m',m' < m/\W (i+1) m' (ys++[y]) (upd H5 D (.lst (ys++[y])))
     else H4 D=some (.lst ys)/\∃m',m' < m/\W (i+1) m' ys H4)))
  (hRR:∀(D:Addr) (H3:Hp) (s3:Shared) (σ':St) (H':Hp) (s':Shared),cH X pins σ H3 s3->(∀b∈fp,jA X pins H3 b)->cH (kY X scope s3.heap.objs.size fp s3 H3 N') [] σ' H' s'->Q (.ref D) H'->RR (.ref D) s3.heap.objs.size (.ok .next) s') :
  wpAny (model X.prog X.w) X.A (newList []) (λacc s₃=>wpAny (model X.prog X.w) X.A (newFunctionEnv scope X.env.globals (IF X scope) [] X.env.qual none .none (some X.env)) (λcenv s₄ =>
   codeAny (model X.prog X.w) X.A (.compStart (.ListComp elt [⟨.Name x px,iter,ifs,0⟩] scope pos) 0 (.ref it) acc { cenv with scope:=relabel scope X.env }) (RR acc cenv.locals) s₄) E s₃) E s:=by
 have P:∀b∈fp,b<s.heap.objs.size:=λb P=>by
  obtain ⟨o,e,_⟩:=T.obj 0 _ h0 b P;exact bD e
 refine wpAny_newObj_type (wpAny_newFunctionEnv S.cell (by intro y ε;simp at ε) (λO L N=>?_) S.kind);have η:H s.heap.objs.size=none:=I.hok.fresh (aG _);obtain ⟨W,⟨m0,ν⟩,hW⟩:=R _ η;have I3:cH X pins σ (upd H s.heap.objs.size (.lst [])) { s with heap:=s.heap.push { cls:=.type "list",dict:=none,data:=.seq ([]:List Value).toArray } }:=I.lnew (its:=[]) (ys:=[]) (t':=s.toks) .nil (bS _);have j:∀b∈fp,jA X pins (upd H s.heap.objs.size (.lst [])) b:=λb a =>
  ⟨by rw [cU (λe=>by have:=P b a;rw [e] at this;exact cA _ this)];exact (hf b a).1,(hf b a).2⟩
 have κ:∀b∈fp,b<(s.heap.push { cls:=.type "list",dict:=none,data:=.seq ([]:List Value).toArray }).objs.size:=λb a=>by
  rw [jJ];exact Nat.lt_succ_of_lt (P b a)
 have d:∀b o,(s.heap.push { cls:=.type "list",dict:=none,data:=.seq ([]:List Value).toArray }).get? b=some o->O.get? b=some o:=λb o e =>
  N.extBut b o (λq=>by have:=bD e;rw [q] at this;exact cA _ this) (aD _ e)
 have J4:=XQ (h':=O) (tk:=s.toks+([]:List (Str × Value)).length) S I3 j κ L d;have τ:tn 0 O:=T.keep 0 _ _ h0 λb a o e=>d b o (aD _ e);have h:codeAny (model X.prog X.w) X.A (.compLoop (.ListComp elt [⟨.Name x px,iter,ifs,0⟩] scope pos) 0 (.ref it) (.ref s.heap.objs.size) (compEnvC scope (IF X scope) (s.heap.push { cls:=.type "list",dict:=none,data:=.seq ([]:List Value).toArray }).objs.size X.env))
   (RR (.ref s.heap.objs.size) (s.heap.push { cls:=.type "list",dict:=none,data:=.seq ([]:List Value).toArray }).objs.size) { s with heap:=O,toks:=s.toks+([]:List (Str × Value)).length }:=by
  refine rJ (λn s'=>∃(i:Nat) (ys:List V) (H2:Hp) (o:Option V),cH (kY X scope _ fp _ _ N') [] (o::slots σ js) H2 s'/\tn i s'.heap/\(∀b∈fp,H2 b=none)/\W i n ys H2) ?_ m0 ⟨0,[],_,none,J4,τ,λb a=>(j b a).1,ν⟩;rintro n s' ⟨i,ys,H2,o,J2,υ,f2,w2⟩;obtain ⟨hD,B⟩:=hW i n ys H2 w2;have ο:∀b∈fp,jA (kY X scope (s.heap.push { cls:=.type "list",dict:=none,data:=.seq ([]:List Value).toArray }).objs.size fp { s with heap:=s.heap.push { cls:=.type "list",dict:=none,data:=.seq ([]:List Value).toArray } } (upd H s.heap.objs.size (.lst [])) N') [] H2 b:=λb a =>
   ⟨f2 b a,(J2.ok.exf b a).1,J2.ok.exfs b a,.inl a,(J2.ok.exf b a).2,λp ι=>by cases ι⟩
  rcases B with ⟨l,hq⟩ | ⟨δ,χ,G⟩
  ·refine wpAny_mono (T.done (kY X scope _ fp _ _ N') rfl rfl rfl rfl i [] s' _ H2 UU J2 ο υ l) (λr s1 ⟨μ,J5⟩=>?_) λ_ _ f=>f;subst μ;exact hRR _ _ _ _ _ _ I3 j J5 hq
  ·refine wpAny_mono (T.item (kY X scope _ fp _ _ N') rfl rfl rfl rfl i [] s' _ H2 UU J2 ο υ δ) (λr s1 ⟨u,μ,γ⟩=>?_) λ_ _ f=>f;subst μ;refine wpAny_mono γ (λ_ φ ⟨v,H3,J3,rv,ε,ξ,f3⟩=>?_) λ_ _ f=>f;have α:∀b∈fp,jA (kY X scope (s.heap.push { cls:=.type "list",dict:=none,data:=.seq ([]:List Value).toArray }).objs.size fp { s with heap:=s.heap.push { cls:=.type "list",dict:=none,data:=.seq ([]:List Value).toArray } } (upd H s.heap.objs.size (.lst [])) N') [] H3 b:=λb a =>
    ⟨f3 b a,(J3.ok.exf b a).1,J3.ok.exfs b a,.inl a,(J3.ok.exf b a).2,λp ι=>by cases ι⟩
   have P3:=J3.pinned α (T.obj (i+1) _ ξ);have c:∀{σ':St} {Hx:Hp} {sx:Shared},cH (kY X scope (s.heap.push { cls:=.type "list",dict:=none,data:=.seq ([]:List Value).toArray }).objs.size fp { s with heap:=s.heap.push { cls:=.type "list",dict:=none,data:=.seq ([]:List Value).toArray } } (upd H s.heap.objs.size (.lst [])) N') ([]++sG fp φ.heap) σ' Hx sx->tn (i+1) sx.heap/\∀b∈fp,Hx b=none:=λρ =>
    ⟨T.keep (i+1) _ _ ξ λb a Z e=>(ρ.pin (b,Z) (bZ _ (bZ _ (jF a e)))).1,λb a=>by
     obtain ⟨Z,e,_⟩:=T.obj (i+1) _ ξ b a;exact (ρ.pin (b,Z) (bZ _ (bZ _ (jF a e)))).2.1⟩
   refine wpAny_assign_Name (nZ P3 (i:=0) (x:=x) (v:=v) ?nd ?hi ?γ rv (λs5 J5=>?_) ?hfn)
   case nd=>exact S.nd
   case hi=>exact S.zero
   case γ=>exact .inl (lookup_relabel_local S.own)
   case hfn=>exact .inr (lookup_relabel_local S.own)
   have J5':cH _ _ (some v::slots σ js) H3 s5:=J5;refine wpAny_mono (ht _ _ _ _ _ _ _ _ _ J5' (G v H3 ε)) (λok s6 ⟨H6,J6,M⟩=>?_) λ_ _ f=>f;dsimp only at M;by_cases hok:ok=true
   ·rw [if_pos hok] at M ⊢;refine wpAny_mono (he _ _ _ _ _ _ _ _ _ J6 M) (λy s7 ⟨θ,H7,J7,ψ,Y,m',z,ζ⟩=>?_) λ_ _ f=>f;refine wpAny_mono (sM (X:=kY X scope _ fp _ _ N') _ _ _ _ (.ref s.heap.objs.size) [θ] (.ref s.heap.objs.size) [y] (λ_ H8=>H8=upd H7 s.heap.objs.size (.lst (ys++[θ]))) J7 rfl (.cons ψ .nil) ⟨_,_,_,rfl,rfl,Y,χ,rfl⟩) (λ_ s8 ⟨_,H8,J8,_,ω⟩=>?_) λ_ _ f=>f;subst ω;obtain ⟨U,β⟩:=c J8;exact ⟨m',z,i+1,ys++[θ],_,some v,J8.unpinned,U,β,ζ⟩
   ·rw [if_neg hok] at M ⊢;obtain ⟨_,m',z,ζ⟩:=M;obtain ⟨U,β⟩:=c J6;exact ⟨m',z,i+1,ys,_,some v,J6.unpinned,U,β,ζ⟩
 refine codeAny_compStart_list h (T.self X.A 0 _ _ _ τ h)
theorem WO{wi:TI}(S:eR X scope x N' js)(hi:PI X (.Name x px) iter wi)(ht:∀C fp s₀ H₀,OO (kY X scope C fp s₀ H₀ N') ifs tc)(he:∀C fp s₀ H₀,PE (kY X scope C fp s₀ H₀ N') elt te)
  (hs:∀x,foldedSetIterable iter X.env x=pure x:=by intro _;rfl):PE X (.ListComp elt [⟨.Name x px,iter,ifs,0⟩] scope pos) (ZB wi js tc te):=by
 intro a s σ H Q I h;rw [eval_ListComp];refine wpAny_comprehension_free (use:=none) rfl hs (jO (S.cells I.ok)) S.kind S.names (wpAny_mono (hi a s σ H _ I h) (λv o d=>?_) λ_ _ e=>e);refine wpAny_mono d (λl n ⟨p,fp,z,J,H2,e,I2,T,j,f,R⟩=>?_) λ_ _ e=>e;subst e;refine wV S I2 T j f ht he R ?_;intro D H3 w u H' y I3 b J3 q;obtain ⟨m,i,_⟩:=J3.loc;exact ⟨m,i,λr c=>⟨.ref D,H',FH S I3 b J3 c,rfl,q⟩⟩
theorem HB{wi:TI}{y:Str}{py spos:Pos}{i:Nat}(S:eR X scope x N' js)(hN:X.N.Nodup)(hiN:X.N[i]?=some y)(hy:X.env.kindOf y=some .local)(hi:PI X (.Name x px) iter wi)(ht:∀C fp s₀ H₀,OO (kY X scope C fp s₀ H₀ N') ifs tc)(he:∀C fp s₀ H₀,PE (kY X scope C fp s₀ H₀ N') elt te)
  (hsw:swapsWith (.ListComp elt [⟨.Name x px,iter,ifs,0⟩] scope pos) (some (.Name y py)) spos.line X.env=pure true) (hs:∀x,foldedSetIterable iter X.env x=pure x:=by intro _;rfl) :
  PS X (.Assign [.Name y py] (.ListComp elt [⟨.Name x px,iter,ifs,0⟩] scope pos) spos) (DH (ZB wi js tc te) (mO i)):=by
 intro d s σ H D0 I h;rw [exec_Assign_Name_used _ _ _ _ hsw];refine wpAny_bind (wpAny_standAt (wpAny_bind ?_));show wpAny _ X.A (do let _ <-comprehension (.ListComp elt [⟨.Name x px,iter,ifs,0⟩] scope pos) scope X.env _ (newList []) false (eval iter X.env) (some (assign (.Name y py) X.env))) _ _ s;refine wpAny_bind (wpAny_mono (wpAny_comprehension_free (use:=some (assign (.Name y py) X.env)) (Q:=λ_ l=>SP X d D0 .next l) rfl hs (jO (S.cells I.ok)) S.kind S.names (wpAny_mono (hi d s σ H _ I h) (λv δ M=>?_) λ_ _ e=>e)) (λ_ l β=>wpAny_pure (wpAny_pure β)) λ_ _ e=>e);refine wpAny_mono M (λα γ ⟨it,fp,η,J,H2,e,I2,T,Y,U,R⟩=>?_) λ_ _ e=>e;subst e;refine wV (Q:=λv H'=>mO i v σ H' D0.nx) S I2 T Y U ht he R ?_;intro D H3 G ζ H' l I3 u J3 q;obtain ⟨m,W,_⟩:=J3.loc;have IX:cH X d σ H' l:=FH S I3 u J3 (Heap.SameBut.refl ..);have j:G.heap.objs.size≠X.env.locals:=λe=>by have:=I3.lt;rw [e] at this;exact cA _ this
 show wpAny _ X.A (assign (.Name y py) X.env (.ref D)) _ _ _;refine wpAny_assign_Name (sA IX hN hiN (.inl hy) (v:=.ref D) rfl (λO I5 f=>?_) (.inr hy));obtain ⟨a,f,B⟩:=f;have r:G.heap.objs.size≠a:=by
  rcases B with rfl | B
  ·exact j
  ·intro e;obtain ⟨v,o,w,_⟩:=I3.cell y a B;have:=bD w;rw [<-e] at this;exact cA _ this
 refine ⟨m,W.sameBut f r,λε L=>⟨_,H',?_,q⟩⟩;exact I5.turned (it:=G.heap.objs.size) (t':=O.toks) (λb o n e=>L.extBut b o n e) J3.free j (.inr I3.sz)
  (λz c Z e=>by
   obtain ⟨v,o,w,_⟩:=I3.cell z c Z;have:=bD w;rw [e] at this;exact cA _ this)
  (λp P e=>by
   have:=bD (I3.pin p P).1;rw [e] at this;exact cA _ this)
end
structure OI(X:Cx)(ifs:List Expr)(t:TT):Prop where p:OO X ifs t
def uZ(t:TE):TE:=λσ H Q=>∃Q':VK,t σ H Q'/\∀v H1,Q' v H1->Q v H1
theorem PE.mono{X:Cx}{e:Expr}{t:TE}(h:PE X e t):PE X e (uZ t):=λa s σ H Q I ⟨Q',d,c⟩ =>
 thn (h a s σ H Q' I d) λb f ⟨v,H',I',r,q⟩=>⟨v,H',I',r,c _ _ q⟩
theorem OO.mono{X:Cx}{es:List Expr}{t:TT}(h:OO X es t):OO X es (pL t):=λa s σ H Q I ⟨Q',d,c⟩ =>
 thn (h a s σ H Q' I d) λb e ⟨H',I',q⟩=>⟨H',I',c _ _ q⟩
@[irreducible] def jZ(J:It)(σ:St)(js:List Nat)(tc:TT)(te:TE)(H1:Hp)(Q:VK):Prop:=∀D,H1 D=none->∃W:Nat->Nat->List V->Hp->Prop,(∃m,W 0 m [] (upd H1 D (.lst []))) /\
 ∀i m ys H2,W i m ys H2->H2 D=some (.lst ys)/\((J.stop i H2/\Q (.ref D) H2)\/(J.go i H2/\ys.length<sizeLine/\∀x H3,J.yld i H2 x H3 ->
  pL tc (some x::slots σ js) H3 λb H4=>if b=true then uZ te (some x::slots σ js) H4 λy H5=>H5 D=some (.lst ys)/\∃m',m' < m/\W (i+1) m' (ys++[y]) (upd H5 D (.lst (ys++[y])))
   else H4 D=some (.lst ys)/\∃m',m' < m/\W (i+1) m' ys H4))
def AK(wi:TI)(js:List Nat)(tc:TT)(te:TE):TE:=λσ H Q=>wi σ H λJ H1=>jZ J σ js tc te H1 Q
section
variable{X:Cx}{scope:Scope}{x y:Str}{N':List Str}{js:List Nat}{elt iter c:Expr}{px py pos spos:Pos}{ifs:List Expr}{tc:TT}{te:TE}{wi:TI}{i:Nat}
theorem fB:OI X [] rY:=⟨pts_nil⟩
theorem oT{t:TT}(h:OH X c t):OI X [c] t:=⟨WC h.p⟩
theorem gQ(S:eR X scope x N' js)(hi:OP X (.Name x px) iter wi)(ht:∀C fp s₀ H₀,OI (kY X scope C fp s₀ H₀ N') ifs tc)(he:∀C fp s₀ H₀,gE (kY X scope C fp s₀ H₀ N') elt te)
  (hs:∀x,foldedSetIterable iter X.env x=pure x:=by intro _;rfl):gE X (.ListComp elt [⟨.Name x px,iter,ifs,0⟩] scope pos) (AK wi js tc te) :=
 ⟨by unfold AK jZ;exact WO S hi.p (λC fp s₀ H₀=>(ht C fp s₀ H₀).p.mono) (λC fp s₀ H₀=>(he C fp s₀ H₀).p.mono) hs⟩
theorem GD(S:eR X scope x N' js)(hN:X.N.Nodup)(hiN:X.N[i]?=some y)(hy:X.env.kindOf y=some .local)(hi:OP X (.Name x px) iter wi)(ht:∀C fp s₀ H₀,OI (kY X scope C fp s₀ H₀ N') ifs tc)(he:∀C fp s₀ H₀,gE (kY X scope C fp s₀ H₀ N') elt te)
  (hsw:swapsWith (.ListComp elt [⟨.Name x px,iter,ifs,0⟩] scope pos) (some (.Name y py)) spos.line X.env=pure true:=by rfl) (hs:∀x,foldedSetIterable iter X.env x=pure x:=by intro _;rfl) :
  GA X (.Assign [.Name y py] (.ListComp elt [⟨.Name x px,iter,ifs,0⟩] scope pos) spos) (DH (AK wi js tc te) (mO i)) :=
 ⟨by unfold AK jZ;exact HB S hN hiN hy hi.p (λC fp s₀ H₀=>(ht C fp s₀ H₀).p.mono) (λC fp s₀ H₀=>(he C fp s₀ H₀).p.mono) hsw hs⟩
end
def ZS(psc scope:Scope)(N:List Str)(x:Str)(N':List Str)(js:List Nat):Bool :=
 (scope.names.all λy=>!(y.2 == .free) || psc.names.lookup y.1 == some .cell)&&(scope.names.all λy=>!(y.2 == .cell))&&scope.kind == .function &&
 (scope.names.all λy=>!(y.2 == .local) || scope.names.lookup y.1 == some .local)&&scope.names.lookup x == some .local &&
 (scope.names.all λy=>!(y.2 == .free) || !(scope.names.lookup y.1 == some .local))&&N'.length == js.length+1&&N'[0]? == some x&&decide N'.Nodup &&
 ((List.range js.length).all λi=>match js[i]?,N'[i+1]? with
  | some j,some y=>N[j]? == some y&&scope.names.contains (y,NameKind.free)
  | _,_=>false)
theorem eR.of{X:Cx}{psc scope:Scope}{N:List Str}{x:Str}{N':List Str}{js:List Nat}(h:ZS psc scope N x N' js=true)(hX:X.env.scope=psc)(hN:X.N=N)(hc:X.calm=true):eR X scope x N' js:=by
 unfold ZS at h;simp only [cC] at h;obtain ⟨⟨⟨⟨⟨⟨⟨⟨⟨f,c⟩,n⟩,m⟩,s⟩,d⟩,r⟩,u⟩,o⟩,b⟩:=h;rw [List.all_eq_true] at f c m d b;refine ⟨hc,λy a e=>?_,λy a e=>?_,by simpa using n,λy a e=>?_,by simpa using s,λy a e=>?_,by simpa using r,by simpa using u,of_decide_eq_true o,λi j l=>?_⟩
 ·have:=f y a;rw [e] at this;show X.env.scope.names.lookup y.1=_;rw [hX];simpa using this
 ·have:=c y a;rw [e] at this;simp at this
 ·have:=m y a;rw [e] at this;simpa using this
 ·have:=d _ a;rw [e] at this;simp at this
 ·have p:i<js.length:=(aX.mp l).1;have:=b i (cM.mpr p);rw [l] at this;cases q:N'[i+1]? with
  | none=>rw [q] at this;simp at this
  | some y =>
   rw [q] at this;simp only [cC] at this;exact ⟨y,rfl,by rw [hN];simpa using this.1,List.contains_iff_mem.mp this.2⟩
section
variable{js:List Nat}{te:TE}{tc:TT}{σ:St}{H:Hp}{Q:VK}
theorem FJ{J:It}{n:Nat}(src:Nat->V->Prop)(hz:n<=100000)(Pv:Addr->Nat->List V->Hp->Prop)
  (h0:∀D H1,H D=none->H1 D=some (.lst [])->bC H H1->Pv D 0 [] H1)
  (hg:∀D i ys H',i<n->H' D=some (.lst ys)->Pv D i ys H'->J.go i H'/\∀x H3,J.yld i H' x H3->H3=H'/\src i x)
  (hst:∀D ys H',H' D=some (.lst ys)->Pv D n ys H'->J.stop n H')
  (hs:∀D i x ys H',src i x->i<n->ys.length=i->H' D=some (.lst ys)->Pv D i ys H'->te (some x::slots σ js) H' λy H5=>H5 D=some (.lst ys)/\∀H6,H6 D=some (.lst (ys++[y]))->aO D H5 H6->Pv D (i+1) (ys++[y]) H6)
  (hd:∀D ys H',ys.length=n->H D=none->H' D=some (.lst ys)->Pv D n ys H'->Q (.ref D) H') :
  jZ J σ js rY te H Q:=by
 unfold jZ;intro D hD;refine ⟨λi m ys H'=>m=n-i/\i<=n/\ys.length=i/\H' D=some (.lst ys)/\Pv D i ys H',⟨n,by simp,bS _,rfl,bH,h0 D _ hD bH (bC.upd hD)⟩,?_⟩;rintro i m ys H2 ⟨rfl,o,c,a,p⟩;refine ⟨a,?_⟩;by_cases hlt:i<n
 ·obtain ⟨h,l⟩:=hg D i ys H2 hlt a p;refine .inr ⟨h,bA (m:=100000) Oo Dd,λx H3 d=>?_⟩;obtain ⟨rfl,j⟩:=l x H3 d;refine ⟨λb H4=>b=true/\H4=H3,⟨rfl,rfl⟩,?_⟩;rintro b H4 ⟨rfl,rfl⟩;rw [if_pos rfl];refine ⟨_,hs D i x ys H4 j hlt c a p,?_⟩;rintro v H5 ⟨f,k⟩;exact ⟨f,n-(i+1),Oo,rfl,hlt,by rw [aT,c];rfl,bH,k _ bH aO.self⟩
 ·have e:i=n:=Oo;subst e;exact .inl ⟨hst D ys H2 a p,hd D ys H2 c hD a p⟩
end
@[irreducible] def QT(K:PySem.W.Frag):List V->Hp->VK->Prop:=λxs H Q=>∃(p:Addr) (ns:List Int),xs=[.ref p]/\fR K H p (ns.map V.int)/\Q (.int ns.sum) H
@[irreducible] def MU(b:Bool):R2:=λx y H Q=>∃d d',cB H d x/\cB H d' y/\SeqAt.shaped d=true/\SeqAt.shaped d'=true/\Q (.bl (b == PyData.eqv d d')) H
section
variable{X:Cx}
theorem TH(hc:X.calm=true):iM X (.builtin "sum") (QT X.K):=by
 unfold QT;intro c s σ H w A Q I r h;obtain ⟨p,m,rfl,o,q⟩:=h;obtain ⟨u,rfl,n⟩:=lK r;cases n;obtain ⟨a,j,pl,z⟩:=I.list o;have d:=HM j;obtain ⟨b,e⟩:=d.allInts.items;rw [e] at pl;refine sum_intListG (I.ok.hd hc) pl.isList λx y l f=>⟨.int m.sum,H,I.kept f,⟨l,?_⟩,q⟩;rw [preSum_eq,List.take_of_length_le (by simp)];rw [<-d.numsOf];have i:a=(intItems b).toList:=by rw [<-e]
 rw [i,nums_intItems]
theorem rsI{K:PySem.W.Frag}{H:Hp}{p:Addr}{ns:List Int}{Q:VK}(h:fR K H p (ns.map V.int))(q:Q (.int ns.sum) H):QT K [.ref p] H Q:=by unfold QT;exact ⟨p,ns,rfl,h,q⟩
theorem aBd(hu:X.A.units+64<cLine):nU X (compareOp .Eq) (MU true):=by
 unfold MU;intro a s σ H x y v u Q I m b h;obtain ⟨d,n,e,i,f,c,q⟩:=h;obtain ⟨o,l⟩:=e.reads I m;obtain ⟨bs,j⟩:=i.reads I b;exact SeqAt.compareEq_shaped l j f c hu ⟨.bl _,H,I,by show _=_;simp,q⟩
theorem RM(hu:X.A.units+64<cLine):nU X (compareOp .NotEq) (MU false):=by
 unfold MU;intro a s σ H x y v u Q I m b h;obtain ⟨d,n,e,i,f,c,q⟩:=h;obtain ⟨o,l⟩:=e.reads I m;obtain ⟨bs,j⟩:=i.reads I b;exact SeqAt.compareNe_shaped l j f c hu ⟨.bl _,H,I,by show _=_;simp,q⟩
theorem reD{b:Bool}{x y:V}{d d':PyData}{H:Hp}{Q:VK}(h1:cB H d x)(h2:cB H d' y)(s1:SeqAt.shaped d=true)(s2:SeqAt.shaped d'=true)(q:Q (.bl (b == PyData.eqv d d')) H):MU b x y H Q:=by
 unfold MU;exact ⟨d,d',h1,h2,s1,s2,q⟩
end
mutual
theorem EX:∀d:PyData,d.hasDict=false->PyData.eqv d d=true
 | .none,_=>by simp [PyData.eqv]
 | .bool _,_=>by simp [PyData.eqv]
 | .int _,_=>by simp [PyData.eqv]
 | .str _,_=>by simp [PyData.eqv]
 | .list xs,h=>by simp only [PyData.eqv];exact oQ xs (by simpa [PyData.hasDict] using h)
 | .tuple xs,h=>by simp only [PyData.eqv];exact oQ xs (by simpa [PyData.hasDict] using h)
 | .dict _,h=>by simp [PyData.hasDict] at h
theorem oQ:∀ds:List PyData,PyData.hasDictAll ds=false->PyData.eqvAll ds ds=true
 | [],_=>by simp [PyData.eqvAll]
 | d::ds,h=>by
  simp only [PyData.hasDictAll,Bool.or_eq_false_iff] at h;simp only [PyData.eqvAll,EX d h.1,oQ ds h.2,Bool.and_self]
end
mutual
def dG:PyData->Bool
 | .list _=>false
 | .dict _=>false
 | .tuple ds=>cV ds
 | _=>true
def cV:List PyData->Bool
 | []=>true
 | d::ds=>dG d&&cV ds
end
def dJ(H H':Hp):Prop:=∀b xs,H b=some (.tup xs)->H' b=some (.tup xs)
theorem dJ.trans{H H1 H2:Hp}(a:dJ H H1)(b:dJ H1 H2):dJ H H2:=λc o h=>b c o (a c o h)
theorem bC.t{H H':Hp}(s:bC H H'):dJ H H':=λb a h=>s _ _ h
theorem aO.t{H H':Hp}{p:Addr}(s:aO p H H'){xs:List V}(hp:H p=some (.lst xs)):dJ H H':=λb a h=>s.at (EG h hp (by intro z;cases z)) h
mutual
theorem cB.flat{H H':Hp}(s:dJ H H'):∀{d:PyData}{v:V},dG d=true->cB H d v->cB H' d v
 | .none,_,_,h=>h
 | .bool _,_,_,h=>h
 | .int _,_,_,h=>h
 | .str _,_,_,h=>h
 | .list _,_,f,_=>by simp [dG] at f
 | .dict _,_,f,_=>by simp [dG] at f
 | .tuple ds,_,f,h=>by
  unfold cB at h ⊢;obtain ⟨a,ys,rfl,h1,h2⟩:=h;exact ⟨a,ys,rfl,s _ _ h1,aZ.flat s (by simpa [dG] using f) h2⟩
theorem aZ.flat{H H':Hp}(s:dJ H H'):∀{ds:List PyData}{vs:List V},cV ds=true->aZ H ds vs->aZ H' ds vs
 | [],_,_,h=>h
 | d::ds,_,f,h=>by
  unfold aZ at h ⊢;obtain ⟨x,ys,rfl,h1,h2⟩:=h;simp only [cV,cC] at f;exact ⟨x,ys,rfl,cB.flat s f.1 h1,aZ.flat s f.2 h2⟩
end
theorem aZ.get{H:Hp}:∀{ds:List PyData}{vs:List V}{i:Nat}{v:V},aZ H ds vs->vs[i]?=some v->∃d,ds[i]?=some d/\cB H d v
 | [],_,i,v,h,e=>by cases (show _=[] from h);simp at e
 | d::ds,_,i,v,h,e=>by
  unfold aZ at h;obtain ⟨x,ys,rfl,h1,h2⟩:=h;cases i with
  | zero=>simp at e;subst e;exact ⟨d,rfl,h1⟩
  | succ i =>
   rw [List.getElem?_cons_succ] at e ⊢;exact aZ.get h2 e
theorem aZ.get'{H:Hp}:∀{ds:List PyData}{vs:List V}{i:Nat}{d:PyData},aZ H ds vs->ds[i]?=some d->∃v,vs[i]?=some v/\cB H d v
 | [],_,i,d,h,e=>by simp at e
 | d' :: ds,_,i,d,h,e=>by
  unfold aZ at h;obtain ⟨x,ys,rfl,h1,h2⟩:=h;cases i with
  | zero=>simp at e;subst e;exact ⟨x,rfl,h1⟩
  | succ i =>
   rw [List.getElem?_cons_succ] at e ⊢;exact aZ.get' h2 e
theorem aZ.snoc{H:Hp}{ds:List PyData}{vs:List V}{d:PyData}{v:V}(h:aZ H ds vs)(r:cB H d v):aZ H (ds++[d]) (vs++[v]):=aZ.append (aZ.cons r aZ.nil) h
theorem xB{i:Int}{n:Nat}(h:i.natAbs<2^n):bits i<=n:=PySem.intBits_le_iff.mpr h
theorem xP{i j:Int}{n m:Nat}(h1:i.natAbs<2^n)(h2:j.natAbs<2^m)(hn:n<=1048576:=by decide)(hm:m<=1048576:=by decide):IntMulOk i j:=by
 refine IntMulOk.of_bits ?_ ?_
 ·exact aY (xB h1) hn
 ·exact aY (xB h2) hm
mutual
def UR:PyData->Nat
 | .none=>4
 | .bool _=>5
 | .int _=>1921
 | .str x=>(reprText x).length
 | .list xs=>AU xs+4
 | .tuple xs=>AU xs+4
 | .dict _=>0
def AU:List PyData->Nat
 | []=>0
 | x::xs=>UR x+2+AU xs
end
theorem tI:∀(ts:List Str) (k:Nat) (acc:Str),(textFrom k acc ts).length<=acc.length+piled ts
 | [],k,acc=>by show acc.length<=_;omega
 | t::r,k,acc=>by
  have h:=tI r (k+1) (acc++(if k > 0 then ", " else "" : String)++t);have e:(acc++(if k > 0 then ", " else "" : String)++t).length=acc.length+(if k > 0 then 2 else 0)+t.length:=by
   rw [strLen_append,strLen_append];split <;> rfl
  rw [e] at h;rw [piled_cons];show (textFrom (k+1) _ r).length<=_;refine aY h ?_;split <;> omega
theorem AH(ts:List Str):(tupleText ts).length<=piled ts+4:=by
 unfold tupleText;rw [strLen_append,strLen_append];have a:(("(" : Str)).length=1:=rfl;have b:((if ts.length == 1 then ",)" else ")" : String):Str).length<=2:=by split <;> decide
 rw [a];by_cases h:ts=[]
 ·subst h;have:(Str.join ", " []).length=0:=rfl;omega
 ·have:=join_length_add ts h;omega
theorem EN(ts:List Str):(listText ts).length<=piled ts+4:=by
 unfold listText;rw [strLen_append];have:=tI ts 0 "[";have a:(("[" : String):Str).length=1:=rfl;have b:(("]" : String):Str).length=1:=rfl;rw [a] at this;rw [b];omega
mutual
theorem DO:∀d:PyData,d.showable=true->d.hasDict=false->d.shown.length<=UR d
 | .none,_,_=>by simp only [PyData.shown,UR];decide
 | .bool b,_,_=>by cases b <;> (simp only [PyData.shown,UR];decide)
 | .int i,h,_=>by
  simp only [PyData.shown,UR];exact int_text_len_1921 (by simpa [PyData.showable] using h)
 | .str x,_,_=>by simp only [PyData.shown,UR];exact aG _
 | .list xs,h,h2=>by
  simp only [PyData.shown,UR];have:=oJ xs (by simpa [PyData.showable] using h) (by simpa [PyData.hasDict] using h2);have:=EN (PyData.shownAll xs);omega
 | .tuple xs,h,h2=>by
  simp only [PyData.shown,UR];have:=oJ xs (by simpa [PyData.showable] using h) (by simpa [PyData.hasDict] using h2);have:=AH (PyData.shownAll xs);omega
 | .dict _,_,h=>by simp [PyData.hasDict] at h
theorem oJ:∀ds:List PyData,PyData.showableAll ds=true->PyData.hasDictAll ds=false->piled (PyData.shownAll ds)<=AU ds
 | [],_,_=>by simp only [PyData.shownAll,AU];exact aG _
 | d::ds,h,h2=>by
  simp only [PyData.showableAll,cC] at h;simp only [PyData.hasDictAll,Bool.or_eq_false_iff] at h2;have:=DO d h.1 h2.1;have:=oJ ds h.2 h2.2;simp only [PyData.shownAll,AU,piled_cons];omega
end
theorem VI{i:Int}{n:Nat}(h:i.natAbs<2^n)(hn:n<=1920:=by decide):PyData.showable (.int i)=true:=by
 simp only [PyData.showable];refine bY (tN (aY (xB h) hn) Dd)
section
variable{X:Cx}(K:PySem.W.Frag)
theorem gI(h:X.K=K:=by rfl):UK X (rIx K):=by subst h;exact bL
theorem LL(h:X.K=K:=by rfl):iM X (.builtin "len") (HA K):=by subst h;exact iK
theorem LJ(hc:X.calm=true)(h:X.K=K:=by rfl):iM X (.builtin "sum") (QT K):=by subst h;exact TH hc
theorem aBb(h:X.K=K:=by rfl):nU X (compareOp .In) (rIn K false):=by subst h;exact sI
theorem NF(h:X.K=K:=by rfl):nU X (compareOp .NotIn) (rIn K true):=by subst h;exact BI
end
end L2
namespace L2
open PySem
def mT(b:Bool)(h:Heap)(i l:Addr)(k:Nat):Prop:=∃o,h.get? i=some o/\o.cls=.type (bif b then "tuple_iterator" else "list_iterator")/\o.data=.fields #[.ref l,.int k 0]
def jH(b:Bool)(h:Heap)(l:Addr)(xs:Array Value):Prop:=∃o,h.get? l=some o/\o.cls=.type (bif b then "tuple" else "list")/\∃n,o.data=.seq xs n
theorem mT.at{b:Bool}{h h':Heap}{i l:Addr}{k:Nat}(x:mT b h i l k)(f:∀o,h.get? i=some o->h'.get? i=some o):mT b h' i l k:=let ⟨o,ho,r⟩:=x;⟨o,f o ho,r⟩
theorem jH.at{b:Bool}{h h':Heap}{l:Addr}{xs:Array Value}(x:jH b h l xs)(f:∀o,h.get? l=some o->h'.get? l=some o):jH b h' l xs:=let ⟨o,ho,r⟩:=x;⟨o,f o ho,r⟩
section
variable{prog:Program}{w:World}{A:Around}{E:Value->Shared->Prop}{s:Shared}
theorem uJ{b:Bool}{it l:Addr}{i:Nat}{items:Array Value}{x:Value}{Q:Value->Shared->Prop}(hit:mT b s.heap it l i)(hl:jH b s.heap l items)(hx:items[i]?=some x)
  (hQ:∀h',mT b h' it l (i+1)->Heap.SameBut it s.heap h'->Q x { s with heap:=h' }):wpAny (model prog w) A (Builtin.SmallTypes.nextOf (.ref it)) Q E s:=by
 cases b with
 | false=>exact wpAny_nextOf_list_item hit hl hx hQ
 | true =>
  have d:s.heap.IsTupleIter it l i:=hit;obtain ⟨o,a,f,hd⟩:=id d;obtain ⟨j,e,_,h,c⟩:=hl;unfold Builtin.SmallTypes.nextOf;refine wpAny_bind (wpAny_callSpecial?_slot (name:=Str.ofString "__next__") d.typeIs F.slot_tuple_iterator_next (wpAny_call_entry F.slot_tuple_iterator_next d.typeIs F.entry_tuple_iterator_next ?_ (F.args_tuple_iterator_next_1 _)));show wpAny _ _ (field (.ref it) 0 >>= _) _ _ s;refine wpAny_bind (wpAny_field a hd (x:=.ref l) rfl ?_);show wpAny _ _ (if (Value.ref l == Value.none)=true then _ else _) _ _ s;rw [if_neg (show ¬((Value.ref l == Value.none)=true) from bN)];show wpAny _ _ (field (.ref it) 1 >>= _) _ _ s;refine wpAny_bind (wpAny_field a hd (x:=.int i 0) rfl ?_);show wpAny _ _ (seqItems? (.ref l) >>= _) _ _ s;refine wpAny_bind (wpAny_seqItems e c ?_);simp only [Int.toNat_natCast,hx];refine wpAny_bind (wpAny_setField a hd (by simp) (wpAny_pure ⟨x,rfl,wpAny_pure (hQ _ ?_ (Heap.SameBut.update ..))⟩));refine ⟨_,Heap.get?_update_self _ a (Obj.isFreed_of_fields (Obj.data_mapFields hd _)),(Obj.cls_mapFields ..).trans f,?_⟩;rw [Obj.data_mapFields hd];simp [rawInt]
theorem HH{b:Bool}{it l:Addr}{i:Nat}{items:Array Value}{Q:Value->Shared->Prop}(hh:A.handled=none)(hit:mT b s.heap it l i)(hl:jH b s.heap l items)(hx:items[i]?=none)
  (hE:∀h' e,Heap.ExtBut it s.heap h'->(∃o,h'.get? e=some o/\o.cls=.type "StopIteration")->E (.ref e) { s with heap:=h' }):wpAny (model prog w) A (Builtin.SmallTypes.nextOf (.ref it)) Q E s:=by
 cases b with
 | false=>exact wpAny_nextOf_list_end hh hit hl hx hE
 | true =>
  have d:s.heap.IsTupleIter it l i:=hit;obtain ⟨o,f,p,hd⟩:=id d;obtain ⟨n,h,_,j,c⟩:=hl;unfold Builtin.SmallTypes.nextOf;refine wpAny_bind (wpAny_callSpecial?_slot (name:=Str.ofString "__next__") d.typeIs F.slot_tuple_iterator_next (wpAny_call_entry F.slot_tuple_iterator_next d.typeIs F.entry_tuple_iterator_next ?_ (F.args_tuple_iterator_next_1 _)));show wpAny _ _ (field (.ref it) 0 >>= _) _ _ s;refine wpAny_bind (wpAny_field f hd (x:=.ref l) rfl ?_);show wpAny _ _ (if (Value.ref l == Value.none)=true then _ else _) _ _ s;rw [if_neg (show ¬((Value.ref l == Value.none)=true) from bN)];show wpAny _ _ (field (.ref it) 1 >>= _) _ _ s;refine wpAny_bind (wpAny_field f hd (x:=.int i 0) rfl ?_);show wpAny _ _ (seqItems? (.ref l) >>= _) _ _ s;refine wpAny_bind (wpAny_seqItems h c ?_);simp only [Int.toNat_natCast,hx];refine wpAny_bind (wpAny_rule (wpAny_bind (wpAny_setField f hd (by simp) ?_)));show wpAny _ _ (newExc (.type "StopIteration") [] >>= _) _ _ _;refine wpAny_bind ?_;simp only [newExc,newTuple];refine wpAny_bind (wpAny_newObj_type ?_ (by size_fits));refine wpAny_bind (m:=firstArgMember _ _) (wpAny_of_eq (a:=Value.none) (by first | rfl | (simp only [firstArgMember];rfl)) ?_);refine wpAny_newObj_type ?_ (by size_fits);simp only [raiseNew];refine wpAny_bind (wpAny_handled ?_)
  first | rw [show A.in1.handled=none from hh] | rw [hh]
  refine wpAny_bind (wpAny_pure (wpAny_throw ?_));exact hE _ _ (((Heap.SameBut.update ..).extBut.push _).push _) ⟨_,bB _ rfl,rfl⟩
structure ZW(b1 b2:Bool)(z TI TO i1 i2 l1 l2:Addr)(f:Value)(k:Nat)(h:Heap):Prop where
 z:IsZip h z TI TO f
 ti:IsPair h TI (.ref i1) (.ref i2)
 to:∃a b,IsPair h TO a b
 i1:mT b1 h i1 l1 k
 i2:mT b2 h i2 l2 k
theorem LZ{b1 b2:Bool}{z TI TO i1 i2 l1 l2:Addr}{k:Nat}{xs ys:Array Value}{x y:Value}{Q:Value->Shared->Prop}(D:ZipApart z TI TO i1 i2 l1 l2)(Z:ZW b1 b2 z TI TO i1 i2 l1 l2 .none k s.heap)
  (hl1:jH b1 s.heap l1 xs) (hl2:jH b2 s.heap l2 ys) (hx:xs[k]?=some x) (hy:ys[k]?=some y)
  (hQ:∀h',ZW b1 b2 z TI TO i1 i2 l1 l2 (rawInt s.heap.objs.size) (k+1) h'->IsPair h' s.heap.objs.size x y->(∀c o,c≠z->c≠TO->c≠i1->c≠i2->s.heap.get? c=some o->h'.get? c=some o)->Q (.ref s.heap.objs.size) { s with heap:=h' }) :
  wpAny (model prog w) A (Builtin.«zip.__next__» ⟨[.ref z],[]⟩) (λfin s'=>∃v,fin=.done (.ret v)/\Q v s') E s:=by
 obtain ⟨T,M,⟨a,b,δ⟩,ν,ο⟩:=Z;show wpAny _ _ (field (.ref z) 2 >>= _) _ _ _;refine wpAny_bind (wpAny_field T rfl (x:=.bool false) rfl ?_);show wpAny _ _ (field (.ref z) 3 >>= _) _ _ _;refine wpAny_bind (wpAny_field T rfl (x:=.ref TI) rfl ?_);refine wpAny_bind (wpAny_seqItems M rfl ?_);show wpAny _ _ (Builtin.SmallTypes.ownedTupleIsFree (.ref z) >>= _) _ _ _;refine wpAny_bind ?_;unfold Builtin.SmallTypes.ownedTupleIsFree;refine wpAny_bind (wpAny_field T rfl (x:=.none) rfl (wpAny_pure ?_));simp only [if_true];refine wpAny_bind (wpAny_rule ?_);refine wpAny_bind (wpAny_field T rfl (x:=.ref TO) rfl ?_);refine wpAny_bind (wpAny_setField_rec T (by simp) λξ n G=>?_);have u:=G.extBut;replace n:IsZip ξ z TI TO .ellipsis:=n;refine wpAny_bind ?_;simp only [List.zipIdx_cons,List.zipIdx_nil,List.forIn_cons,List.forIn_nil];refine wpAny_bind (wpAny_bind (wpAny_onRaise ?_));show wpAny _ _ (Builtin.SmallTypes.nextOf (.ref i1) >>= _) _ _ _;refine wpAny_bind (uJ (ν.at λo e=>u _ o D.i1z e) (hl1.at λo e=>u _ o D.l1z e) hx λμ ι W=>wpAny_pure ?_);have B:=W.extBut;have j:IsPair μ TO a b:=B _ _ D.TOi1 (u _ _ D.TOz δ);refine wpAny_bind (wpAny_seqItems j rfl ?_);refine wpAny_bind (wpAny_updateSeq_pair j λτ h S=>?_);have U:=S.extBut;replace h:IsPair τ TO x b:=h;refine wpAny_bind (wpAny_letGo (wpAny_pure ?_));refine wpAny_bind (wpAny_bind (wpAny_onRaise ?_));show wpAny _ _ (Builtin.SmallTypes.nextOf (.ref i2) >>= _) _ _ _
 refine wpAny_bind (uJ (ο.at λo e=>U _ o D.TOi2.symm (B _ o D.i12.symm (u _ o D.i2z e))) (hl2.at λo e=>U _ o D.l2TO (B _ o D.l2i1 (u _ o D.l2z e))) hy λυ κ I=>wpAny_pure ?_);have X:=I.extBut;have l:IsPair υ TO x b:=X _ _ D.TOi2 h;refine wpAny_bind (wpAny_seqItems l rfl ?_);refine wpAny_bind (wpAny_updateSeq_pair l λf d R=>?_);have β:=R.extBut;replace d:IsPair f TO x y:=d;refine wpAny_bind (wpAny_letGo (wpAny_pure (wpAny_pure ?_)));refine wpAny_bind (wpAny_seqItems d rfl ?_);refine wpAny_bind (wpAny_newTuple ?_);have N:f.objs.size=s.heap.objs.size:=by rw [R.1,I.1,S.1,W.1,G.1]
 have O:IsZip f z TI TO .ellipsis:=β _ _ D.TOz.symm (X _ _ D.i2z.symm (U _ _ D.TOz.symm (B _ _ D.i1z.symm n)));have L:∀c o,c≠z->c≠TO->c≠i1->c≠i2->s.heap.get? c=some o->f.get? c=some o:=λc o p α ζ ε e=>β _ _ α (X _ _ ε (U _ _ α (B _ _ ζ (u _ _ p e))));have γ:mT b1 f i1 l1 (k+1):=ι.at λo e=>β _ o D.TOi1.symm (X _ o D.i12 (U _ o D.TOi1.symm e));have η:mT b2 f i2 l2 (k+1):=κ.at λo e=>β _ o D.TOi2.symm e;have m:=bD O;show wpAny _ _ (Builtin.SmallTypes.ownedTupleHandOut (.ref z) (.ref f.objs.size) >>= _) _ _ _;refine wpAny_bind ?_;unfold Builtin.SmallTypes.ownedTupleHandOut;have θ:IsZip (f.push { cls:=.type "tuple",data:=.seq #[x,y] }) z TI TO .ellipsis:=aD _ O;refine wpAny_bind (wpAny_setField_rec θ (by simp) λρ r C=>?_);replace r:IsZip ρ z TI TO (rawInt f.objs.size):=r;refine wpAny_setField_rec r (by simp) λY i J=>?_;replace i:IsZip Y z TI TO (rawInt f.objs.size):=i;have up:∀c o,c≠z->f.get? c=some o->Y.get? c=some o:=λc o p e=>J.extBut _ _ p (C.extBut _ _ p (aD _ e));have P:IsPair Y f.objs.size x y:=J.extBut _ _ (Nat.ne_of_gt m) (C.extBut _ _ (Nat.ne_of_gt m) (bB _ rfl));rw [N] at i P;refine wpAny_pure ⟨_,rfl,?_⟩;show Q (.ref f.objs.size) _;rw [N]
 exact hQ Y ⟨i,up _ _ D.TIz (L _ _ D.TIz D.TITO D.TIi1 D.TIi2 M),⟨_,_,up _ _ D.TOz d⟩,γ.at λo e=>up _ o D.i1z e,η.at λo e=>up _ o D.i2z e⟩ P λc o p α ζ ε e=>up c o p (L c o p α ζ ε e)
theorem OT{b1 b2:Bool}{z TI TO i1 i2 l1 l2:Addr}{k:Nat}{xs ys:Array Value}{Q:Fin->Shared->Prop}(hh:A.handled=none)(D:ZipApart z TI TO i1 i2 l1 l2)(Z:ZW b1 b2 z TI TO i1 i2 l1 l2 .none k s.heap)
  (hl1:jH b1 s.heap l1 xs) (hl2:jH b2 s.heap l2 ys) (hend:xs[k]?=none\/ys[k]?=none)
  (hE:∀h' e,(∀c o,c≠z->c≠TO->c≠i1->c≠i2->s.heap.get? c=some o->h'.get? c=some o)->(∃o,h'.get? e=some o/\o.cls=.type "StopIteration")->E (.ref e) { s with heap:=h' }) :
  wpAny (model prog w) A (Builtin.«zip.__next__» ⟨[.ref z],[]⟩) Q E s:=by
 obtain ⟨I,R,⟨a,b,O⟩,T,β⟩:=Z;show wpAny _ _ (field (.ref z) 2 >>= _) _ _ _;refine wpAny_bind (wpAny_field I rfl (x:=.bool false) rfl ?_);show wpAny _ _ (field (.ref z) 3 >>= _) _ _ _;refine wpAny_bind (wpAny_field I rfl (x:=.ref TI) rfl ?_);refine wpAny_bind (wpAny_seqItems R rfl ?_);show wpAny _ _ (Builtin.SmallTypes.ownedTupleIsFree (.ref z) >>= _) _ _ _;refine wpAny_bind ?_;unfold Builtin.SmallTypes.ownedTupleIsFree;refine wpAny_bind (wpAny_field I rfl (x:=.none) rfl (wpAny_pure ?_));simp only [if_true];refine wpAny_bind (wpAny_rule ?_);refine wpAny_bind (wpAny_field I rfl (x:=.ref TO) rfl ?_);refine wpAny_bind (wpAny_setField_rec I (by simp) λα i L=>?_);have j:=L.extBut;replace i:IsZip α z TI TO .ellipsis:=i;refine wpAny_bind ?_;simp only [List.zipIdx_cons,List.zipIdx_nil,List.forIn_cons,List.forIn_nil];refine wpAny_bind (wpAny_bind (wpAny_onRaise ?_));show wpAny _ _ (Builtin.SmallTypes.nextOf (.ref i1) >>= _) _ _ _;cases hx:xs[k]? with
 | none =>
  refine wpAny_bind (HH hh (T.at λo e=>j _ o D.i1z e) (hl1.at λo e=>j _ o D.l1z e) hx λM e m S=>?_);obtain ⟨N,d,f⟩:=S;have y:IsZip M z TI TO .ellipsis:=m _ _ D.i1z.symm i;have p:e≠z:=λx=>by subst x;rw [y] at d;cases d;simp at f
  exact wpAny_setField_rec y (by simp) λW _ l=>hE W e (λc o G _ P _ x=>l.extBut _ _ G (m _ _ P (j _ _ G x))) ⟨N,l.extBut _ _ p d,f⟩
 | some x =>
  have X:ys[k]?=none:=by
   rcases hend with h | h
   ·rw [hx] at h;cases h
   ·exact h
  refine wpAny_bind (uJ (T.at λo e=>j _ o D.i1z e) (hl1.at λo e=>j _ o D.l1z e) hx λM ζ m=>wpAny_pure ?_);have r:=m.extBut;have n:IsPair M TO a b:=r _ _ D.TOi1 (j _ _ D.TOz O);refine wpAny_bind (wpAny_seqItems n rfl ?_);refine wpAny_bind (wpAny_updateSeq_pair n λW U l=>?_);have J:=l.extBut;refine wpAny_bind (wpAny_letGo (wpAny_pure ?_));refine wpAny_bind (wpAny_bind (wpAny_onRaise ?_));show wpAny _ _ (Builtin.SmallTypes.nextOf (.ref i2) >>= _) _ _ _;refine wpAny_bind (HH hh (β.at λo e=>J _ o D.TOi2.symm (r _ o D.i12.symm (j _ o D.i2z e))) (hl2.at λo e=>J _ o D.l2TO (r _ o D.l2i1 (j _ o D.l2z e))) X λε e u S=>?_);obtain ⟨N,d,f⟩:=S;have C:IsZip ε z TI TO .ellipsis:=u _ _ D.i2z.symm (J _ _ D.TOz.symm (r _ _ D.i1z.symm i));have p:e≠z:=λx=>by subst x;rw [C] at d;cases d;simp at f
  exact wpAny_setField_rec C (by simp) λγ _ B=>hE γ e (λc o G δ P Y x=>B.extBut _ _ G (u _ _ Y (J _ _ δ (r _ _ P (j _ _ G x))))) ⟨N,B.extBut _ _ p d,f⟩
theorem LY{b1 b2:Bool}{z TI TO i1 i2 l1 l2:Addr}{k:Nat}{xs ys:Array Value}{x y:Value}{Q:Option Value->Shared->Prop}(D:ZipApart z TI TO i1 i2 l1 l2)(Z:ZW b1 b2 z TI TO i1 i2 l1 l2 .none k s.heap)
  (hl1:jH b1 s.heap l1 xs) (hl2:jH b2 s.heap l2 ys) (hx:xs[k]?=some x) (hy:ys[k]?=some y)
  (hQ:∀h',ZW b1 b2 z TI TO i1 i2 l1 l2 (rawInt s.heap.objs.size) (k+1) h'->IsPair h' s.heap.objs.size x y->(∀c o,c≠z->c≠TO->c≠i1->c≠i2->s.heap.get? c=some o->h'.get? c=some o)->Q (some (.ref s.heap.objs.size)) { s with heap:=h' }) :
  wpAny (model prog w) A (pyNext (.ref z)) Q E s:=by
 have a:s.TypeIs (.ref z) "zip" := ⟨_,Z.z,rfl⟩;unfold pyNext;refine wpAny_bind (wpAny_attempt (wpAny_callSpecial?_slot (name:=Str.ofString "__next__") a F.slot_zip_next (wpAny_call_entry F.slot_zip_next a F.entry_zip_next ?_ (F.args_zip_next_1 _))));exact LZ D Z hl1 hl2 hx hy λh' d b e=>wpAny_pure (hQ h' d b e)
theorem LX{b1 b2:Bool}{z TI TO i1 i2 l1 l2:Addr}{k:Nat}{xs ys:Array Value}{Q:Option Value->Shared->Prop}(hh:A.handled=none)(D:ZipApart z TI TO i1 i2 l1 l2)(Z:ZW b1 b2 z TI TO i1 i2 l1 l2 .none k s.heap)
  (hl1:jH b1 s.heap l1 xs) (hl2:jH b2 s.heap l2 ys) (hend:xs[k]?=none\/ys[k]?=none)
  (hQ:∀h',(∀c o,c≠z->c≠TO->c≠i1->c≠i2->s.heap.get? c=some o->h'.get? c=some o)->Q none { s with heap:=h' }):wpAny (model prog w) A (pyNext (.ref z)) Q E s:=by
 have a:s.TypeIs (.ref z) "zip" := ⟨_,Z.z,rfl⟩;unfold pyNext;refine wpAny_bind (wpAny_attempt (wpAny_callSpecial?_slot (name:=Str.ofString "__next__") a F.slot_zip_next (wpAny_call_entry F.slot_zip_next a F.entry_zip_next ?_ (F.args_zip_next_1 _))));refine OT hh D Z hl1 hl2 hend λh' e d f=>?_;obtain ⟨o,i,h⟩:=f;refine wpAny_bind (wpAny_isInstance (T := "StopIteration") (b:=true) ⟨o,i,h⟩ isSubtype_stop ?_);exact wpAny_pure (hQ _ d)
abbrev US(b:Bool)(l:Addr):Obj:={ cls:=.type (bif b then "tuple_iterator" else "list_iterator"),data:=.fields #[.ref l,.int 0 0] }
theorem KJ{b:Bool}{l:Addr}{xs:Array Value}{Q:Value->Shared->Prop}(h:jH b s.heap l xs)(q:Q (.ref s.heap.objs.size) { s with heap:=s.heap.push (US b l) }):wpAny (model prog w) A (pyIter (.ref l)) Q E s:=by
 cases b with
 | false=>exact wpAny_pyIter_list h q
 | true=>exact wpAny_pyIter_tuple h q
end
end L2
namespace L2
open PySem PySem.Spec PyProof.Rows
section
variable{X:Cx}{pins:List (Addr × Obj)}{σ:St}{H:Hp}{s:Shared}{h':Heap}
theorem cH.turnedL{t':Nat}{fp:List Addr}(I:cH X pins σ H s)(k:∀b o,b ∉ fp->s.heap.get? b=some o->h'.get? b=some o)(hf:∀b∈fp,jA X pins H b):cH X pins σ H { s with heap:=h',toks:=t' }:=by
 have d:∀b u,H b=some u->b ∉ fp:=λb u e z=>by rw [(hf b z).1] at e;cases e
 refine I.step (g':=s.gens) (d':=s.drawn) (ch:=fp) (λb f=>?_) (λb o _ _ a e _=>k b o a e) (λb o _ _ a e _=>⟨o.slots,k b o a e⟩) (λ_ _ _ _ n=>n)
  (λb o a e=>⟨o,k b o a e⟩) (λ_ _ e=>e) (λ_ _ _ e=>e) (λb A e=>⟨#[],by rw [e];simp⟩) (λm l=>?_) (λb u e=>?_) I.bare
 ·obtain ⟨B,w,C,p,j,i⟩:=hf b f;exact ⟨p,w,j,i⟩
 ·obtain ⟨o,y,h,x,r⟩:=l;exact ⟨o,y,h,k _ o (λz=>(hf _ z).2.1 rfl) x,r⟩
 ·refine (I.hok b u e).stay (λc v a q=>k c v ?_ q) (λ_ q=>q) λ_ _ q=>q;rcases a with z | z
  ·rw [z];exact d b u e
  ·exact d c _ z
theorem Un.putE{fs ex:List Addr}{H H1:Hp}{h h1:Heap}{a:Addr}{u:HO}(x:Un fs ex H H1 h h1)(ha:h.get? a=none)(hn:H1 a=none):Un fs ex H (upd H1 a u) h h1 where
 keep:=x.keep
 slot:=x.slot
 free:=λb d e n m=>by rw [cU (λz=>by subst z;rw [ha] at e;cases e)];exact x.free b d e n m
 there:=x.there
 tups:=λb c e=>by rw [cU (cX (x.tups b c e) hn)];exact x.tups b c e
 frzs:=λb d c e=>by rw [cU (cX (x.frzs b d c e) hn)];exact x.frzs b d c e
 tbls:=λb f e=>by
  obtain ⟨m,q⟩:=x.tbls b f e;exact ⟨m,by rw [cU (cX q hn)];exact q⟩
theorem nV.putE{P:Program}{w:World}{h:Heap}{a:Addr}{u:HO}(x:nV P w H h)(hn:H a=none)(new:eM P w (upd H a u) h a u):nV P w (upd H a u) h:=λb v e=>by
 by_cases hb:b=a
 ·subst hb;rw [bH] at e;cases e;exact new
 ·rw [cU hb] at e;exact (x b v e).stay (λc q _ r=>r) (λc q=>by rw [cU (cX q hn)];exact q) λc d q=>by rw [cU (cX q hn)];exact q
theorem cH.put{a:Addr}{o:HO}(I:cH X pins σ H s)(f:jA X pins H a)(hs:X.s₀.heap.get? a=none)(new:eM X.prog X.w (upd H a o) s.heap a o):cH X pins σ (upd H a o) s :=
 ⟨I.ok,I.os,I.bare,I.base.putE hs f.1,I.loc,I.cell,by rw [cU (Ne.symm f.2.1)];exact I.free,λx c e=>by rw [cU (f.2.2.2.2.1 x c e)];exact I.freeC x c e,λp b=>by
  obtain ⟨i,d,h⟩:=I.pin p b;exact ⟨i,by rw [cU (f.2.2.2.2.2 p b)];exact d,h⟩,nV.putE I.hok f.1 new,I.len⟩
def sB(b:Bool)(xs:List V):HO:=bif b then .tup xs else .lst xs
theorem sB.inj{b:Bool}{xs ys:List V}(h:some (sB b xs)=some (sB b ys)):xs=ys:=by
 cases b <;> (injection h with h;injection h)
theorem cH.sq{b:Bool}{a:Addr}{xs:List V}(I:cH X pins σ H s)(h:H a=some (sB b xs)):∃its:List Value,dS xs its/\jH b s.heap a its.toArray:=by
 cases b with
 | false=>obtain ⟨its,r,p,_⟩:=I.list (fR.of h);exact ⟨its,r,p.isList⟩
 | true=>obtain ⟨its,r,p,_⟩:=I.tuple (fO.of h);exact ⟨its,r,p⟩
end
def Itz(b1 b2:Bool)(l1 l2:Addr):It :=
  ⟨λi H=>∃xs ys x y,H l1=some (sB b1 xs)/\H l2=some (sB b2 ys)/\xs[i]?=some x/\ys[i]?=some y,
   λi H v H'=>∃q x y,v=.ref q/\H q=none/\H'=upd H q (.tup [x,y])/\∀xs ys,H l1=some (sB b1 xs)->H l2=some (sB b2 ys)->xs[i]?=some x/\ys[i]?=some y,
   λi H=>∃xs ys,H l1=some (sB b1 xs)/\H l2=some (sB b2 ys)/\(xs.length<=i\/ys.length<=i)⟩
structure ZD(z TI TO i1 i2:Addr):Prop where
 TIz:TI≠z
 TOz:TO≠z
 i1z:i1≠z
 i2z:i2≠z
 TITO:TI≠TO
 TIi1:TI≠i1
 TIi2:TI≠i2
 TOi1:TO≠i1
 TOi2:TO≠i2
 i12:i1≠i2
theorem ZD.seq(n:Nat):ZD (n+4) (n+2) (n+3) n (n+1) where
 TIz:=λh=>absurd (show (n+2:Nat)=n+4 from h) Oo
 TOz:=λh=>absurd (show (n+3:Nat)=n+4 from h) Oo
 i1z:=λh=>absurd (show (n:Nat)=n+4 from h) Oo
 i2z:=λh=>absurd (show (n+1:Nat)=n+4 from h) Oo
 TITO:=λh=>absurd (show (n+2:Nat)=n+3 from h) Oo
 TIi1:=λh=>absurd (show (n+2:Nat)=n from h) Oo
 TIi2:=λh=>absurd (show (n+2:Nat)=n+1 from h) Oo
 TOi1:=λh=>absurd (show (n+3:Nat)=n from h) Oo
 TOi2:=λh=>absurd (show (n+3:Nat)=n+1 from h) Oo
 i12:=λh=>absurd (show (n:Nat)=n+1 from h) Oo
theorem ZD.all{z TI TO i1 i2 l1 l2:Addr}(d:ZD z TI TO i1 i2){H:Hp}{o1 o2:HO}(e1:H l1=some o1)(e2:H l2=some o2)(h:∀b∈[z,TI,TO,i1,i2],H b=none):ZipApart z TI TO i1 i2 l1 l2 :=
 ⟨d.TIz,d.TOz,d.i1z,d.i2z,d.TITO,d.TIi1,d.TIi2,d.TOi1,d.TOi2,d.i12,cX e1 (h _ (by simp)),cX e1 (h _ (by simp)),cX e1 (h _ (by simp)),cX e1 (h _ (by simp)),cX e2 (h _ (by simp)),cX e2 (h _ (by simp)),cX e2 (h _ (by simp)),cX e2 (h _ (by simp))⟩
theorem PQ{P:Program}{w:World}{K:PySem.W.Frag}{elts:List Expr}{x1}{tp:Pos}{b1 b2:Bool}{z TI TO i1 i2 l1 l2:Addr}(d:ZD z TI TO i1 i2):xW P w K (.Tuple elts x1 tp) (Itz b1 b2 l1 l2) [z,TI,TO,i1,i2] z (λi h=>ZW b1 b2 z TI TO i1 i2 l1 l2 .none i h) where
 mem:=by simp
 obj:=λi h j b f=>by
  obtain ⟨a,b',u⟩:=j.to;obtain ⟨ρ,p,_,d1⟩:=j.i1;obtain ⟨ο,n,_,χ⟩:=j.i2;simp only [bE,List.not_mem_nil,or_false] at f;rcases f with rfl | rfl | rfl | rfl | rfl
  ·exact ⟨_,j.z,λv q=>by cases q⟩
  ·exact ⟨_,j.ti,λv q=>by cases q⟩
  ·exact ⟨_,u,λv q=>by cases q⟩
  ·exact ⟨_,p,λv q=>by rw [d1] at q;cases q⟩
  ·exact ⟨_,n,λv q=>by rw [χ] at q;cases q⟩
 keep:=λi h μ j k=>by
  obtain ⟨a,b,u⟩:=j.to;exact ⟨k _ (by simp) _ j.z,k _ (by simp) _ j.ti,⟨a,b,k _ (by simp) _ u⟩,j.i1.at λo e=>k _ (by simp) o e,j.i2.at λo e=>k _ (by simp) o e⟩
 item:=by
  intro X Y O J ε i m s σ H E I r j S;subst Y O J;obtain ⟨xs,ys,x,y,p,n,η,θ⟩:=S;obtain ⟨u1,C,T⟩:=I.sq p;obtain ⟨β,L,U⟩:=I.sq n;obtain ⟨δ,M,rx⟩:=C.get η;obtain ⟨ζ,N,ψ⟩:=L.get θ;have D:=d.all p n λb f=>(r b f).1;refine LY D j T U (x:=δ) (y:=ζ) (by simpa using M) (by simpa using N) λμ Z' κ B=>⟨_,rfl,wpAny_letOwnedTupleGo_zip Z'.z λγ Z l=>?_⟩;have υ:∀b o,b ∉ [z,TI,TO,i1,i2]->s.heap.get? b=some o->γ.get? b=some o:=λb o f e=>by
   simp only [bE,List.not_mem_nil,or_false,not_or] at f;exact l.extBut b o f.1 (B b o f.1 f.2.2.1 f.2.2.2.1 f.2.2.2.2 e)
  have I1:cH X m σ H { s with heap:=γ }:=I.turnedL (t':=s.toks) υ r;have fq:jA X m H s.heap.objs.size:=I.fpOk (aG _) (I.hok.fresh (aG _));have φ:X.s₀.heap.get? s.heap.objs.size=none:=by
   cases q:X.s₀.heap.get? s.heap.objs.size with
   | none=>rfl
   | some o=>exact absurd (bK (bD q) I.sz) (cA _)
  have ι:s.heap.objs.size≠z:=λq=>absurd (bD j.z) (by rw [<-q];exact cA _);obtain ⟨a,b,u⟩:=Z'.to;refine ⟨.ref s.heap.objs.size,upd H s.heap.objs.size (.tup [x,y]),I1.put fq φ ⟨⟨mZ (by show 2<=64;decide),_,l.extBut _ _ ι κ,rfl⟩,[δ,ζ],.cons rx (.cons ψ .nil),⟨_,l.extBut _ _ ι κ,rfl,_,rfl⟩⟩,rfl,⟨_,x,y,rfl,fq.1,rfl,λxs' τ ν ξ=>?_⟩,
   ⟨Z,l.extBut _ _ d.TIz Z'.ti,⟨a,b,l.extBut _ _ d.TOz u⟩,Z'.i1.at λo e=>l.extBut _ o d.i1z e,Z'.i2.at λo e=>l.extBut _ o d.i2z e⟩,λb f=>?_⟩
  ·rw [p] at ν;rw [n] at ξ;rw [<-sB.inj ν,<-sB.inj ξ];exact ⟨η,θ⟩
  ·have ω:b≠s.heap.objs.size:=λq=>by
    obtain ⟨a',b',α⟩:=j.to;obtain ⟨ρ,G,_⟩:=j.i1;obtain ⟨ο,R,_⟩:=j.i2;have lt:∀{c o},s.heap.get? c=some o->c≠s.heap.objs.size:=λe=>dD (bD e);simp only [bE,List.not_mem_nil,or_false] at f;rcases f with rfl | rfl | rfl | rfl | rfl
    ·exact lt j.z q
    ·exact lt j.ti q
    ·exact lt α q
    ·exact lt G q
    ·exact lt R q
   rw [cU ω];exact (r b f).1
 done:=by
  intro X Y O J ε i m s σ H E I r j S;subst Y O J;obtain ⟨xs,ys,p,n,hl⟩:=S;obtain ⟨u1,C,T⟩:=I.sq p;obtain ⟨β,L,U⟩:=I.sq n;have D:=d.all p n λb f=>(r b f).1;have l1:=C.length;have l2:=L.length;have A:u1.toArray[i]?=none\/β.toArray[i]?=none:=by
   rcases hl with h | h
   ·left;simp;omega
   ·right;simp;omega
  refine LX (I.ok.hd ε) D j T U A λμ B=>⟨rfl,I.turnedL (t':=s.toks) (λb o f e=>?_) r⟩;simp only [bE,List.not_mem_nil,or_false,not_or] at f;exact B b o f.1 f.2.2.1 f.2.2.2.1 f.2.2.2.2 e
 self:=λ_ _ _ _ _ j h=>wpAny_pyIter_zip j.z h
abbrev zA(b:Bool)(h:Heap)(l:Addr):Heap:=h.push (US b l)
abbrev zB(b1 b2:Bool)(h:Heap)(l1 l2:Addr):Heap:=(zA b1 h l1).push (US b2 l2)
abbrev zC(b1 b2:Bool)(h:Heap)(l1 l2:Addr):Heap:=(zB b1 b2 h l1 l2).push { cls:=.type "tuple",data:=.seq #[.ref h.objs.size,.ref (zA b1 h l1).objs.size] }
abbrev zE(b1 b2:Bool)(h:Heap)(l1 l2:Addr):Heap:=(zC b1 b2 h l1 l2).push { cls:=.type "tuple",data:=.seq #[.none,.none] }
abbrev zF(b1 b2:Bool)(h:Heap)(l1 l2:Addr):Heap:=(zE b1 b2 h l1 l2).push { cls:=.type "zip",data:=.fields #[.none,.bool false,.bool false,.ref (zB b1 b2 h l1 l2).objs.size,.ref (zC b1 b2 h l1 l2).objs.size] }
theorem aBf(b1 b2:Bool)(l1 l2:Addr)(xs ys:Array Value):Meets (Builtin.«zip.__new__» ⟨[.type "zip",.ref l1,.ref l2],[]⟩) (λ_ R s=>jH b1 s.heap l1 xs/\jH b2 s.heap l2 ys/\R (.ok (.ret (.ref (zE b1 b2 s.heap l1 l2).objs.size))) { s with heap:=zF b1 b2 s.heap l1 l2 }) :=
 .of_wp λn w A R s h=>by
  obtain ⟨l,g,d,m,i⟩:=s;obtain ⟨b,a,h⟩:=h;have j:=sub_zip;have f:jH b1 (Shared.heap ⟨l,g,d,m,i⟩) l1 xs:=b;have c:jH b2 (Shared.heap ⟨l.push (US b1 l1),g,d,m,i⟩) l2 ys:=a.at λo e=>aD _ e
  wp_walk using KJ f,KJ c
  exact ⟨_,rfl,h⟩
section
variable{prog:Program}{w:World}{A:Around}{E:Value->Shared->Prop}{s:Shared}
theorem aC9{b1 b2:Bool}{l1 l2:Addr}{xs ys:Array Value}{Q:Value->Shared->Prop}(hl1:jH b1 s.heap l1 xs)(hl2:jH b2 s.heap l2 ys)
  (h:∀h',ZW b1 b2 (s.heap.objs.size+4) (s.heap.objs.size+2) (s.heap.objs.size+3) s.heap.objs.size (s.heap.objs.size+1) l1 l2 .none 0 h'->(∀c o,s.heap.get? c=some o->h'.get? c=some o)->Q (.ref (s.heap.objs.size+4)) { s with heap:=h' }) :
  wpAny (model prog w) A (call (.type "zip") [.ref l1,.ref l2]) Q E s:=by
 refine callType_new F.called_zip Dd (F.typeCall_zip_2 _ _) (F.newCall_zip_2 _ _) (λb=>F.args_object_init_3 b _ _) F.entry_zip_new (aBf b1 b2 l1 l2 xs ys) ⟨hl1,hl2,?_⟩;have d:(zA b1 s.heap l1).objs.size=s.heap.objs.size+1:=jJ ..;have f:(zB b1 b2 s.heap l1 l2).objs.size=s.heap.objs.size+2:=by rw [jJ,d]
 have a:(zC b1 b2 s.heap l1 l2).objs.size=s.heap.objs.size+3:=by rw [jJ,f]
 have m:(zE b1 b2 s.heap l1 l2).objs.size=s.heap.objs.size+4:=by rw [jJ,a]
 have e:(zF b1 b2 s.heap l1 l2).get? (zE b1 b2 s.heap l1 l2).objs.size=some _:=bB _ rfl;have j:(zF b1 b2 s.heap l1 l2).get? (zC b1 b2 s.heap l1 l2).objs.size=some _:=aD _ (bB _ rfl);have i:(zF b1 b2 s.heap l1 l2).get? (zB b1 b2 s.heap l1 l2).objs.size=some _:=aD _ (aD _ (bB _ rfl));have l:(zF b1 b2 s.heap l1 l2).get? (zA b1 s.heap l1).objs.size=some _:=aD _ (aD _ (aD _ (bB _ rfl)));have n:(zF b1 b2 s.heap l1 l2).get? s.heap.objs.size=some _:=aD _ (aD _ (aD _ (aD _ (bB _ rfl))));show _/\_;rw [f,a,m] at e;rw [d,f] at i;rw [a] at j;rw [d] at l;rw [m];exact ⟨⟨_,e,rfl⟩,h _ ⟨e,i,⟨_,_,j⟩,⟨_,n,rfl,rfl⟩,⟨_,l,rfl,rfl⟩⟩ λc o x=>aD _ (aD _ (aD _ (aD _ (aD _ x))))⟩
end
def aCU(b1 b2:Bool)(ta:TA):TI:=λσ H R=>ta σ H λvs H1=>∃l1 l2 xs ys,vs=[.ref l1,.ref l2]/\H1 l1=some (sB b1 xs)/\H1 l2=some (sB b2 ys)/\R (Itz b1 b2 l1 l2) H1
theorem UA:bootBuiltins (Str.ofString "zip")=some (Value.type "zip"):=Kk
section
variable{X:Cx}
theorem aAX{a b:Expr}{ta:TA}{p pos tp:Pos}{elts:List Expr}{x1}{b1 b2:Bool}(hg:Gl X "zip")(hm:X.mg "zip" = none)(ha:PA X [a,b] ta)(hs:starEach [a,b] X.env=[(false,eval a X.env),(false,eval b X.env)])(hs2:starEach [b] X.env=[(false,eval b X.env)]) :
  PI X (.Tuple elts x1 tp) (.Call (.Name "zip" p) [a,b] [] pos) (aCU b1 b2 ta):=by
 intro d s σ H R I h;refine Call_ (wF I hg hm UA (PyProof.Rows.callWith_type1 (thn (ha pos d s σ H _ I h) λG c ⟨C,H1,I1,m,u⟩=>?_) (by rw [hs,hs2]) (by rw [hs2];rfl)));obtain ⟨x,J,y,D,e,l,j,q⟩:=u;subst e;cases m with
 | cons r rr =>
  cases rr with
  | cons r' rr =>
   cases rr;cases r;cases r';obtain ⟨u1,_,o⟩:=I1.sq l;obtain ⟨A,_,w⟩:=I1.sq j;refine aC9 o w λB Z n=>wpAny_pyIter_zip Z.z ?_;refine ⟨_,[c.heap.objs.size+4,c.heap.objs.size+2,c.heap.objs.size+3,c.heap.objs.size,c.heap.objs.size+1],_,_,H1,rfl,I1.kept (t':=c.toks) n,PQ (ZD.seq _),Z,λb i=>?_,q⟩;have f:c.heap.objs.size<=b:=by
    simp only [bE,List.not_mem_nil,or_false] at i;rcases i with rfl | rfl | rfl | rfl | rfl
    ·exact Nat.le_add_right _ _
    ·exact Nat.le_add_right _ _
    ·exact Nat.le_add_right _ _
    ·exact aG _
    ·exact Nat.le_add_right _ _
   exact I1.fpOk f (I1.hok.fresh f)
theorem AB(b1 b2:Bool){a b:Expr}{ta:TA}{p pos tp:Pos}{elts:List Expr}{x1}(hg:Gl X "zip")(hm:X.mg "zip" = none)(ha:OJ X [a,b] ta)(hs:starEach [a,b] X.env=[(false,eval a X.env),(false,eval b X.env)]:=by rfl)(hs2:starEach [b] X.env=[(false,eval b X.env)]:=by first | exact iF | exact iG | exact eC | rfl) :
  OP X (.Tuple elts x1 tp) (.Call (.Name "zip" p) [a,b] [] pos) (aCU b1 b2 ta):=⟨aAX hg hm ha.p hs hs2⟩
end
theorem XI{b1 b2:Bool}{l1 l2:Addr}{xs ys:List V}{g:TG}{tb:TS}{D:oS}{σ:St}{H:Hp}(Pv:Nat->St->Hp->Prop)(h0:Pv 0 σ H)(hl:∀i σ H,Pv i σ H->H l1=some (sB b1 xs)/\H l2=some (sB b2 ys))
  (hs:∀i x y q σ H H',xs[i]?=some x->ys[i]?=some y->Pv i σ H->H q=none->H' q=some (.tup [x,y])->bC H H'->g (.ref q) σ H' λσ2 H2=>tb { D with nx:=Pv (i+1),ct:=Pv (i+1),bk:=D.nx } σ2 H2) (hd:∀σ H,Pv (min xs.length ys.length) σ H->D.nx σ H) :
  ∃W:Nat->Nat->St->Hp->Prop,(∃m,W 0 m σ H)/\∀i m σ H,W i m σ H ->
   ((Itz b1 b2 l1 l2).stop i H/\D.nx σ H)\/((Itz b1 b2 l1 l2).go i H/\∃N:St->Hp->Prop,(∀σ' H',N σ' H'->∃m',m' < m/\W (i+1) m' σ' H')/\∀x H',(Itz b1 b2 l1 l2).yld i H x H'->g x σ H' λσ2 H2=>tb { D with nx:=N,ct:=N,bk:=D.nx } σ2 H2):=by
 refine ⟨λi m σ H=>m=min xs.length ys.length-i/\i<=min xs.length ys.length/\Pv i σ H,⟨_,rfl,bS _,h0⟩,?_⟩;rintro i m σ H ⟨rfl,o,p⟩;obtain ⟨a,b⟩:=hl i σ H p;by_cases hlt:i<min xs.length ys.length
 ·have l:xs[i]?=some xs[i]:=aB Oo;have d:ys[i]?=some ys[i]:=aB Oo;refine .inr ⟨⟨xs,ys,_,_,a,b,l,d⟩,Pv (i+1),λσ' H' h=>⟨_,Oo,rfl,hlt,h⟩,λv H' y=>?_⟩;obtain ⟨q,x,y,rfl,c,rfl,n⟩:=y;obtain ⟨f,j⟩:=n xs ys a b;exact hs i x y q σ H _ f j p c bH (bC.upd c)
 ·have e:i=min xs.length ys.length:=Oo;subst e;refine .inl ⟨⟨xs,ys,a,b,?_⟩,hd σ H p⟩;omega
end L2
namespace L2
open PySem
def nJ:List Value->List Int->Bool
 | [],[]=>true
 | .int i _::vs,n::ns=>decide (i=n)&&nJ vs ns
 | _,_=>false
def oP(K:PySem.W.Frag)(a:Addr)(ns:List Int):Bool :=
 match K.lookup a with
 | some o=>(match o.cls with | .type n=>n == "tuple" | _=>false)&&(match o.data with | .seq xs _=>decide (xs.size<=64)&&nJ xs.toList ns | _=>false)
 | none=>false
theorem nJ.vals:∀{vs:List Value}{ns:List Int},nJ vs ns=true->dS (ns.map V.int) vs
 | [],[],_=>.nil
 | v::vs,n::ns,h=>by
  cases v with
  | int i t =>
   have h':(decide (i=n)&&nJ vs ns)=true:=h;rw [cC] at h';have e:=of_decide_eq_true h'.1;subst e;exact .cons ⟨t,rfl⟩ (nJ.vals h'.2)
  | _=>cases h
 | [],_::_,h=>by cases h
 | v::_,[],h=>by cases v <;> cases h
theorem vA{K:PySem.W.Frag}{H:Hp}{a:Addr}{ns:List Int}(h:oP K a ns=true):fO K H a (ns.map V.int):=by
 unfold oP at h;split at h
 ·rename_i o ho
  rw [cC] at h;obtain ⟨c,b⟩:=h;split at c
  ·rename_i n hn
   split at b
   ·rename_i xs m hx
    rw [cC] at b;have e:n = "tuple" := by simpa using c
    subst e;exact .inr ⟨o,xs,m,ho,hn,hx,mZ (of_decide_eq_true b.1),nJ.vals b.2⟩
   ·cases b
  ·cases c
 ·cases h
theorem fO.keep{K:PySem.W.Frag}{H H':Hp}{a:Addr}{xs:List V}(s:bC H H')(h:fO K H a xs):fO K H' a xs:=by
 rcases h with (h | ⟨o,h⟩) | h
 ·exact .inl (.inl (s _ _ h))
 ·exact .inl (.inr ⟨o,s _ _ h⟩)
 ·exact .inr h
mutual
def lA(K:PySem.W.Frag)(H:Hp):PyData->V->Prop
 | .none,v=>v=.non
 | .bool b,v=>v=.bl b
 | .int i,v=>v=.int i
 | .str x,v=>v=.str x
 | .list ds,v=>∃a xs,v=.ref a/\H a=some (.lst xs)/\jB K H ds xs
 | .tuple ds,v=>∃a xs,v=.ref a/\fO K H a xs/\jB K H ds xs
 | .dict kvs,v=>kvs=[]/\∃a,v=.ref a/\H a=some (.dK [])
def jB(K:PySem.W.Frag)(H:Hp):List PyData->List V->Prop
 | [],vs=>vs=[]
 | d::ds,vs=>∃x xs,vs=x::xs/\lA K H d x/\jB K H ds xs
end
mutual
theorem cB.k{K:PySem.W.Frag}{H:Hp}:∀{d:PyData}{v:V},cB H d v->lA K H d v
 | .none,_,h=>h
 | .bool _,_,h=>h
 | .int _,_,h=>h
 | .str _,_,h=>h
 | .list ds,_,h=>by
  unfold cB at h;unfold lA;obtain ⟨a,xs,rfl,h1,h2⟩:=h;exact ⟨a,xs,rfl,h1,aZ.k h2⟩
 | .tuple ds,_,h=>by
  unfold cB at h;unfold lA;obtain ⟨a,xs,rfl,h1,h2⟩:=h;exact ⟨a,xs,rfl,fO.of h1,aZ.k h2⟩
 | .dict kvs,_,h=>by unfold cB at h;unfold lA;exact h
theorem aZ.k{K:PySem.W.Frag}{H:Hp}:∀{ds:List PyData}{vs:List V},aZ H ds vs->jB K H ds vs
 | [],_,h=>h
 | d::ds,_,h=>by
  unfold aZ at h;unfold jB;obtain ⟨x,xs,rfl,h1,h2⟩:=h;exact ⟨x,xs,rfl,cB.k h1,aZ.k h2⟩
end
theorem lA.tup{K:PySem.W.Frag}{H:Hp}{a:Addr}{xs:List V}{ds:List PyData}(h:fO K H a xs)(r:jB K H ds xs):lA K H (.tuple ds) (.ref a):=by
 unfold lA;exact ⟨a,xs,rfl,h,r⟩
theorem jB.ints{K:PySem.W.Frag}{H:Hp}:∀ns:List Int,jB K H (ns.map PyData.int) (ns.map V.int)
 | []=>by unfold jB;rfl
 | n::ns=>by unfold jB;exact ⟨_,_,rfl,by unfold lA;rfl,jB.ints ns⟩
section
variable{X:Cx}{pins:List (Addr × Obj)}{σ:St}{H:Hp}{s:Shared}
mutual
theorem lA.reads(I:cH X pins σ H s):∀{d:PyData}{v:V}{u:Value},lA X.K H d v->dO v u->∃as,Reads s.heap u d as
 | .none,_,u,h,r=>by
  cases (show _=V.non from h);cases (show u=Value.none from r);exact ⟨_,.none⟩
 | .bool b,_,u,h,r=>by
  cases (show _=V.bl b from h);cases (show u=Value.bool b from r);exact ⟨_,.bool b⟩
 | .int b,_,u,h,r=>by
  cases (show _=V.int b from h);obtain ⟨t,q⟩:=(show ∃t,u=Value.int b t from r);cases q;exact ⟨_,.int b t⟩
 | .str b,_,u,h,r=>by
  cases (show _=V.str b from h);obtain ⟨t,q⟩:=(show ∃t,u=Value.str b t from r);cases q;exact ⟨_,.str b t⟩
 | .list ds,v,u,h,r=>by
  unfold lA at h;obtain ⟨a,l,rfl,j,c⟩:=h;cases (show u=Value.ref a from r);obtain ⟨_,f,n,i,e⟩:=(show eM X.prog X.w H s.heap a (.lst l) from I.hok a _ j);obtain ⟨as,q⟩:=jB.reads I c i;exact ⟨_,.list e rfl rfl (by simpa using q)⟩
 | .tuple ds,v,u,h,r=>by
  unfold lA at h;obtain ⟨a,l,rfl,j,c⟩:=h;cases (show u=Value.ref a from r);obtain ⟨f,i,⟨o,e,m,n,hd⟩,_⟩:=I.tuple j;obtain ⟨as,q⟩:=jB.reads I c i;exact ⟨_,.tuple e m hd (by simpa using q)⟩
 | .dict kvs,v,u,h,r=>cB.reads I (d:=.dict kvs) (by unfold cB;unfold lA at h;exact h) r
theorem jB.reads(I:cH X pins σ H s):∀{ds:List PyData}{vs:List V}{us:List Value},jB X.K H ds vs->dS vs us->∃as,ReadsAll s.heap us ds as
 | [],_,us,h,r=>by
  cases (show _=[] from h);cases r;exact ⟨_,.nil⟩
 | d::ds,_,us,h,r=>by
  unfold jB at h;obtain ⟨x,xs,rfl,h1,h2⟩:=h;cases r with
  | cons r1 r2 =>
   obtain ⟨as,a⟩:=lA.reads I h1 r1;obtain ⟨bs,b⟩:=jB.reads I h2 r2;exact ⟨_,.cons a b⟩
end
end
@[irreducible] def MT(K:PySem.W.Frag)(b:Bool):R2:=λx y H Q=>∃d d',lA K H d x/\lA K H d' y/\SeqAt.shaped d=true/\SeqAt.shaped d'=true/\Q (.bl (b == PyData.eqv d d')) H
section
variable{X:Cx}
theorem aBc(K:PySem.W.Frag)(hu:X.A.units+64<cLine)(hK:X.K=K:=by rfl):nU X (compareOp .Eq) (MT K true):=by
 subst hK;unfold MT;intro a s σ H x y v u Q I m b h;obtain ⟨d,n,e,i,f,c,q⟩:=h;obtain ⟨o,l⟩:=e.reads I m;obtain ⟨bs,j⟩:=i.reads I b;exact SeqAt.compareEq_shaped l j f c hu ⟨.bl _,H,I,by show _=_;simp,q⟩
theorem aBa(K:PySem.W.Frag)(hu:X.A.units+64<cLine)(hK:X.K=K:=by rfl):nU X (compareOp .NotEq) (MT K false):=by
 subst hK;unfold MT;intro a s σ H x y v u Q I m b h;obtain ⟨d,n,e,i,f,c,q⟩:=h;obtain ⟨o,l⟩:=e.reads I m;obtain ⟨bs,j⟩:=i.reads I b;exact SeqAt.compareNe_shaped l j f c hu ⟨.bl _,H,I,by show _=_;simp,q⟩
end
section
variable{K:PySem.W.Frag}{H:Hp}{p:Addr}{xs:List V}{i:Int}{v:V}{Q:VK}
theorem reK{b:Bool}{x y:V}{d d':PyData}(h1:lA K H d x)(h2:lA K H d' y)(s1:SeqAt.shaped d=true)(s2:SeqAt.shaped d'=true)(q:Q (.bl (b == PyData.eqv d d')) H):MT K b x y H Q:=by
 unfold MT;exact ⟨d,d',h1,h2,s1,s2,q⟩
theorem sN(h:fO K H p xs)(e:CP xs i=some v)(q:Q v H):rIx K (.ref p) (.int i) H Q:=.inr (.inl ⟨p,xs,i,v,rfl,rfl,h,e,q⟩)
end
theorem BX(xs:List V)(k:Nat):pJ xs (some (k:Int)) none=xs.drop k:=by
 unfold pJ;rw [HT.AV,HT.vK];by_cases h:k<=xs.length
 ·rw [Nat.min_eq_left h];exact List.take_of_length_le (by rw [List.length_drop];exact aG _)
 ·rw [Nat.min_eq_right Oo,List.drop_of_length_le (aG _),List.drop_of_length_le Oo,List.take_nil]
theorem uM(xs:List V)(k:Nat):pJ xs none (some (k:Int))=xs.take k:=by
 unfold pJ;rw [HT.AV,HT.vK,List.drop_zero,Nat.sub_zero];by_cases h:k<=xs.length
 ·rw [Nat.min_eq_left h]
 ·rw [Nat.min_eq_right Oo,List.take_of_length_le (aG _),List.take_of_length_le Oo]
@[irreducible] def VT(K:PySem.W.Frag):V->Option Int->Option Int->Hp->VK->Prop:=aCu K
theorem oI{X:Cx}(K:PySem.W.Frag)(h:X.K=K:=by rfl):SlR X (VT K):=by subst h;unfold VT;exact JG
theorem slL{K:PySem.W.Frag}{H:Hp}{a:Addr}{xs ys:List V}{lo hi:Option Int}{Q:VK}(h:H a=some (.lst xs))(e:pJ xs lo hi=ys)(k:∀q H',H q=none->H' q=some (.lst ys)->bC H H'->Q (.ref q) H'):VT K (.ref a) lo hi H Q:=by
 unfold VT;exact ⟨a,xs,rfl,fR.of h,λp b=>by rw [e];exact k p _ b bH (bC.upd b)⟩
section
variable{σ:St}{js:List Nat}{te:TE}{H:Hp}{Q:VK}
theorem qW{R:Nat->V->Prop}{ys:List V}{y:V}(h:∀(j:Nat) z,ys[j]?=some z->R j z)(r:R ys.length y):∀(j:Nat) z,(ys++[y])[j]?=some z->R j z:=λj z a=>by
 by_cases hji:j<ys.length
 ·rw [List.getElem?_append_left hji] at a;exact h j z a
 ·rw [List.getElem?_append_right Oo] at a;have:j-ys.length=0:=by
   by_cases q:j-ys.length=0
   ·exact q
   ·rw [dF (by simp;omega)] at a;cases a
  rw [this] at a;have b:y=z:=by simpa using a
  have:j=ys.length:=Oo;subst this b;exact r
theorem sR{J:It}{n:Nat}(src:Nat->V->Prop)(R:Nat->V->Hp->Prop)(hR:∀i y H1 H2,dJ H1 H2->R i y H1->R i y H2)(hz:n<=100000)
  (hg:∀i H',bC H H'->i<n->J.go i H'/\∀x H3,J.yld i H' x H3->H3=H'/\src i x) (hst:∀H',bC H H'->J.stop n H')
  (hs:∀i x H' (Q':VK),src i x->i<n->bC H H'->(∀y H5,bC H' H5->R i y H5->Q' y H5)->te (some x::slots σ js) H' Q')
  (hd:∀D ys H',H D=none->H' D=some (.lst ys)->bC H H'->ys.length=n->(∀(i:Nat) (y:V),ys[i]?=some y->R i y H')->Q (.ref D) H'):jZ J σ js rY te H Q:=by
 refine FJ (J:=J) (n:=n) src hz (λD i ys H'=>H D=none/\bC H H'/\∀(i:Nat) (y:V),ys[i]?=some y->R i y H') (λD H1 hD _ s=>⟨hD,s,λi y h=>by simp at h⟩)
  (λD i ys H' c _ p=>hg i H' p.2.1 c) (λD ys H' _ p=>hst H' p.2.1) (λD i x ys H' m c b hD p=>?_) (λD ys H' b hD d p=>hd D ys H' hD d p.2.1 b p.2.2)
 refine hs i x H' _ m c p.2.1 λy H5 a r=>⟨a _ _ hD,λH6 l e=>⟨p.1,bC.thru p.1 (p.2.1.trans a) e,?_⟩⟩;have f:=e.t (a _ _ hD);exact qW (R:=λj z=>R j z H6) (λj z o=>hR j z _ _ (a.t.trans f) (p.2.2 j z o)) (by rw [b];exact hR i y _ _ f r)
theorem sT{K:PySem.W.Frag}{a:Addr}{xs:List V}(R:Nat->V->Hp->Prop)(hR:∀i y H1 H2,dJ H1 H2->R i y H1->R i y H2)(hz:xs.length<=100000)(hl:H a=some (.lst xs))
  (hs:∀i x H' (Q':VK),xs[i]?=some x->bC H H'->(∀y H5,bC H' H5->R i y H5->Q' y H5)->te (some x::slots σ js) H' Q')
  (hd:∀D ys H',H D=none->H' D=some (.lst ys)->bC H H'->ys.length=xs.length->(∀(i:Nat) (y:V),ys[i]?=some y->R i y H')->Q (.ref D) H'):jZ (YO K a) σ js rY te H Q :=
 sR (λi x=>xs[i]?=some x) R hR hz (λi H' s b=>⟨⟨xs,xs[i],fR.of (s _ _ hl),by simp [b]⟩,λx H3 y=>⟨y.1,y.2 xs (fR.of (s _ _ hl))⟩⟩) (λH' s=>⟨xs,fR.of (s _ _ hl),aG _⟩)
  (λi x H' Q' c _ s k=>hs i x H' Q' c s k) hd
theorem zK{K:PySem.W.Frag}{a:Addr}{xs:List V}(R:Nat->V->Hp->Prop)(hR:∀i y H1 H2,dJ H1 H2->R i y H1->R i y H2)(hz:xs.length<=100000)(hl:H a=some (.tup xs))
  (hs:∀i x H' (Q':VK),xs[i]?=some x->bC H H'->(∀y H5,bC H' H5->R i y H5->Q' y H5)->te (some x::slots σ js) H' Q')
  (hd:∀D ys H',H D=none->H' D=some (.lst ys)->bC H H'->ys.length=xs.length->(∀(i:Nat) (y:V),ys[i]?=some y->R i y H')->Q (.ref D) H'):jZ (Itt K a) σ js rY te H Q :=
 sR (λi x=>xs[i]?=some x) R hR hz (λi H' s b=>⟨⟨xs,xs[i],fO.of (s _ _ hl),by simp [b]⟩,λx H3 y=>⟨y.1,y.2 xs (fO.of (s _ _ hl))⟩⟩) (λH' s=>⟨xs,fO.of (s _ _ hl),aG _⟩)
  (λi x H' Q' c _ s k=>hs i x H' Q' c s k) hd
theorem sS{lo:Int}{n:Nat}(R:Nat->V->Hp->Prop)(hR:∀i y H1 H2,dJ H1 H2->R i y H1->R i y H2)(hz:n<=100000)
  (hs:∀i H' (Q':VK),i<n->bC H H'->(∀y H5,bC H' H5->R i y H5->Q' y H5)->te (some (.int (lo+(i:Nat)))::slots σ js) H' Q')
  (hd:∀D ys H',H D=none->H' D=some (.lst ys)->bC H H'->ys.length=n->(∀(i:Nat) (y:V),ys[i]?=some y->R i y H')->Q (.ref D) H'):jZ (Itr lo n) σ js rY te H Q :=
 sR (λi x=>x=.int (lo+(i:Nat))) R hR hz (λi H' s a=>⟨a,λx H3 y=>y⟩) (λH' s=>aG _)
  (λi x H' Q' b a s k=>by subst b;exact hs i H' Q' a s k) hd
structure oR(p L:Addr)(Fd:Hp->Prop):Prop where
 but:∀D H1 H2,D≠p->D≠L->aO D H1 H2->Fd H1->Fd H2
 same:∀H1 H2,bC H1 H2->Fd H1->Fd H2
 lst:∀H',Fd H'->∃xs,H' p=some (.lst xs)
 np:∀H' D,Fd H'->H' D=none->D≠p/\D≠L
theorem aO.thru{p l:Addr}{H0 H1 H2:Hp}(hl:H0 l=none)(s:aO p H0 H1)(b:aO l H1 H2):aO p H0 H2:=λc o e=>by
 have n:=gL.ne e;have a:H0 c=some o:=by rw [gL.at n] at e;exact e
 have d:c≠l:=λz=>by subst z;rw [hl] at a;cases a
 exact gL.of n (b.at d (s.at n a))
theorem LE{J:It}{n:Nat}{p L:Addr}{Fd:Hp->Prop}(fl:oR p L Fd)(F0:Fd H)(src:Nat->V->Prop)(R:Nat->V->Hp->Prop)(hR:∀i y H1 H2,dJ H1 H2->R i y H1->R i y H2)(hz:n<=100000)
  (hg:∀i H',aO p H H'->i<n->J.go i H'/\∀x H3,J.yld i H' x H3->H3=H'/\src i x) (hst:∀H',aO p H H'->J.stop n H')
  (hs:∀i x H' (Q':VK),src i x->i<n->Fd H'->aO p H H'->(∀y H5,Fd H5->aO p H' H5->R i y H5->Q' y H5)->te (some x::slots σ js) H' Q')
  (hd:∀D ys H',H D=none->H' D=some (.lst ys)->Fd H'->aO p H H'->ys.length=n->(∀(i:Nat) (y:V),ys[i]?=some y->R i y H')->Q (.ref D) H'):jZ J σ js rY te H Q:=by
 refine FJ (J:=J) (n:=n) src hz (λD i ys H'=>H D=none/\Fd H'/\aO p H H'/\∀(i:Nat) (y:V),ys[i]?=some y->R i y H') (λD H1 hD _ s=>⟨hD,fl.same _ _ s F0,s.but,λi y h=>by simp at h⟩)
  (λD i ys H' d _ q=>hg i H' q.2.2.1 d) (λD ys H' _ q=>hst H' q.2.2.1) (λD i x ys H' u d b hD q=>?_) (λD ys H' b hD f q=>hd D ys H' hD f q.2.1 q.2.2.1 b q.2.2.2)
 obtain ⟨np,A⟩:=fl.np H D F0 q.1;refine hs i x H' _ u d q.2.1 q.2.2.1 λy H5 F5 c r=>?_;obtain ⟨B,m⟩:=fl.lst H' q.2.1;have a:=c.at np hD;refine ⟨a,λH6 o e=>⟨q.1,fl.but D _ _ np A e F5,aO.thru q.1 (q.2.2.1.trans c) e,?_⟩⟩;have l:=e.t a;exact qW (R:=λj z=>R j z H6) (λj z w=>hR j z _ _ ((c.t m).trans l) (q.2.2.2 j z w)) (by rw [b];exact hR i y _ _ l r)
theorem SZ{K:PySem.W.Frag}{a:Addr}{xs:List V}{p L:Addr}{Fd:Hp->Prop}(fl:oR p L Fd)(F0:Fd H)(R:Nat->V->Hp->Prop)(hR:∀i y H1 H2,dJ H1 H2->R i y H1->R i y H2)(hz:xs.length<=100000)(na:a≠p)(hl:H a=some (.lst xs))
  (hs:∀i x H' (Q':VK),xs[i]?=some x->Fd H'->aO p H H'->(∀y H5,Fd H5->aO p H' H5->R i y H5->Q' y H5)->te (some x::slots σ js) H' Q')
  (hd:∀D ys H',H D=none->H' D=some (.lst ys)->Fd H'->aO p H H'->ys.length=xs.length->(∀(i:Nat) (y:V),ys[i]?=some y->R i y H')->Q (.ref D) H'):jZ (YO K a) σ js rY te H Q :=
 LE fl F0 (λi x=>xs[i]?=some x) R hR hz (λi H' s b=>⟨⟨xs,xs[i],fR.of (s.at na hl),by simp [b]⟩,λx H3 y=>⟨y.1,y.2 xs (fR.of (s.at na hl))⟩⟩) (λH' s=>⟨xs,fR.of (s.at na hl),aG _⟩)
  (λi x H' Q' c _ f s k=>hs i x H' Q' c f s k) hd
theorem SY{lo:Int}{n:Nat}{p L:Addr}{Fd:Hp->Prop}(fl:oR p L Fd)(F0:Fd H)(R:Nat->V->Hp->Prop)(hR:∀i y H1 H2,dJ H1 H2->R i y H1->R i y H2)(hz:n<=100000)
  (hs:∀i H' (Q':VK),i<n->Fd H'->aO p H H'->(∀y H5,Fd H5->aO p H' H5->R i y H5->Q' y H5)->te (some (.int (lo+(i:Nat)))::slots σ js) H' Q')
  (hd:∀D ys H',H D=none->H' D=some (.lst ys)->Fd H'->aO p H H'->ys.length=n->(∀(i:Nat) (y:V),ys[i]?=some y->R i y H')->Q (.ref D) H'):jZ (Itr lo n) σ js rY te H Q :=
 LE fl F0 (λi x=>x=.int (lo+(i:Nat))) R hR hz (λi H' s a=>⟨a,λx H3 y=>y⟩) (λH' s=>aG _)
  (λi x H' Q' b a f s k=>by subst b;exact hs i H' Q' a f s k) hd
end
theorem aZ.ofIdx{H:Hp}:∀{ds:List PyData}{ys:List V},ys.length=ds.length->(∀(i:Nat) (y:V),ys[i]?=some y->∃d,ds[i]?=some d/\cB H d y)->aZ H ds ys
 | [],[],_,_=>aZ.nil
 | d::ds,y::ys,hl,h=>by
  obtain ⟨d',e,r⟩:=h 0 y rfl;cases (show d=d' by simpa using e);exact aZ.cons r (aZ.ofIdx (by simpa using hl) λi z a=>by simpa using h (i+1) z (by simpa using a))
 | [],_::_,hl,_=>by simp at hl
 | _::_,[],hl,_=>by simp at hl
theorem rB{P:Nat->Int->Prop}:∀{ys:List V},(∀(i:Nat) (y:V),ys[i]?=some y->∃n,y=.int n/\P i n)->∃ns:List Int,ys=ns.map V.int/\∀(i:Nat) n,ns[i]?=some n->P i n
 | [],_=>⟨[],rfl,λi n h=>by simp at h⟩
 | y::ys,h=>by
  obtain ⟨n,rfl,hn⟩:=h 0 y rfl;obtain ⟨ns,rfl,c⟩:=rB (P:=λi=>P (i+1)) (ys:=ys) λi z b=>h (i+1) z (by simpa using b);refine ⟨n::ns,rfl,λi m a=>?_⟩;cases i with
  | zero=>cases (show n=m by simpa using a);exact hn
  | succ i=>exact c i m (by simpa using a)
end L2
namespace L2
open PySem PySem.Spec PyProof.Rows
theorem kD.u1{k:Nat}{A:Around}(r:kD k A):A.units+1<cLine:=by have:=r.units;omega
@[irreducible] def ZJ:R2:=λx y H Q=>∃a v,x=.ref a/\tG H a y (some v)/\Q v H
@[irreducible] def rDP(D:oS)(σ:St)(x y v:V)(H:Hp):Prop:=∃a H4,x=.ref a/\CM H a y v H4/\D.nx σ H4
def YZ(td ty tv:TE):TS:=λD σ H=>tv σ H λv H1=>td σ H1 λx H2=>ty σ H2 λy H3=>rDP D σ x y v H3
structure YI(X:Cx)(pos:Pos)(keys:List (Option Expr))(values:List Expr)(trs:List (TE × TE)):Prop where p:PPs X pos keys values trs
section
variable{X:Cx}{o i value k v:Expr}{td ty tv tk:TE}{pos pos':Pos}{ks:List (Option Expr)}{vs:List Expr}{trs:List (TE × TE)}
theorem qJ(hu:X.A.units+1<cLine)(ho:gE X o td)(hi:gE X i ty)(hs:YL i:=by intro _ _;rfl):gE X (.Subscript o i pos) (VD ZJ td ty):=⟨by unfold ZJ;exact WN hu ho.p hi.p hs⟩
theorem AA(hu:X.A.units+1<cLine)(ho:gE X o td)(hi:gE X i ty)(hv:gE X value tv)(hs:swapsWith value (some (.Subscript o i pos')) pos.line X.env=pure false:=by rfl) :
  GA X (.Assign [.Subscript o i pos'] value pos) (YZ td ty tv):=⟨by unfold YZ rDP;exact WG hu ho.p hi.p hv.p hs⟩
theorem UW:YI X pos [] [] []:=⟨pps_nil⟩
theorem uS(hk:gE X k tk)(hv:gE X v tv)(hr:YI X pos ks vs trs):YI X pos (some k::ks) (v::vs) ((tk,tv)::trs):=⟨QZ hk.p hv.p hr.p⟩
theorem UY(h:YI X pos ks vs trs)(hall:ks.all (·.isSome)=true:=by rfl)(hl:ks.length=vs.length:=by rfl)(h0:ks≠[]:=by intro h;cases h)(h15:ks.length<=15:=by decide):gE X (.Dict ks vs pos) (YY trs):=⟨WM h.p hall hl h0 h15⟩
end
theorem dgS{H:Hp}{p:Addr}{kvs:List (fD × V)}{x:Str}{v:V}{Q:VK}(e:H p=some (.dK kvs))(hv:eT kvs (.inr x)=some v)(q:Q v H):ZJ (.ref p) (.str x) H Q:=by
 unfold ZJ;exact ⟨p,v,rfl,hv ▸ tG.k (k:=.inr x) e,q⟩
theorem dpS{H:Hp}{p:Addr}{kvs kvs2:List (fD × V)}{x:Str}{v:V}{D:oS}{σ:St}(e:H p=some (.dK kvs))(hl:kvs.length<=64)(hk:fP kvs (.inr x) v=kvs2)(q:∀H',H' p=some (.dK kvs2)->aO p H H'->D.nx σ H') :
  rDP D σ (.ref p) (.str x) v H:=by
 unfold rDP;exact ⟨p,_,rfl,CM.k (k:=.inr x) e (bA hl Dd),q _ (by rw [hk];exact bH) aO.self⟩
theorem aO.tD{H H':Hp}{p:Addr}(s:aO p H H'){xs:List (fD × V)}(hp:H p=some (.dK xs)):dJ H H':=λb a h=>s.at (EG h hp (by intro z;cases z)) h
section
variable{σ:St}{js:List Nat}{te:TE}{H:Hp}{Q:VK}
end
section
variable{X:Cx}
@[irreducible] def JP(K:PySem.W.Frag):R2:=λx y H Q=>∃a b xs ys,x=.ref a/\y=.ref b/\H a=some (.tup xs)/\H b=some (.tup ys)/\xs.length+ys.length<=1000/\∀c H',bC H H'->H' c=some (.tup (xs++ys))->Q (.ref c) H'
theorem xS{K:PySem.W.Frag}{H:Hp}{Q:VK}{a b:Addr}{xs ys:List V}(h1:H a=some (.tup xs))(h2:H b=some (.tup ys))(hz:xs.length+ys.length<=1000)(k:∀c H',bC H H'->H' c=some (.tup (xs++ys))->Q (.ref c) H'):JP K (.ref a) (.ref b) H Q:=by
 unfold JP;exact ⟨a,b,xs,ys,rfl,rfl,h1,h2,hz,k⟩
theorem jN(K:PySem.W.Frag)(hK:X.K=K:=by rfl):nU X (binaryOp .Add) (JP K):=by
 subst hK;unfold JP;intro d s σ H x y v u Q I G w h;obtain ⟨a,b,z,P,rfl,rfl,r,j,T,q⟩:=h;by_cases hx:z=[]
 ·cases G;cases w;subst hx;obtain ⟨L,N,R,_⟩:=I.tuple (fO.of r);obtain ⟨A,α,S,_⟩:=I.tuple (fO.of j);cases N;obtain ⟨⟨O,Y,J,Z⟩,D,C,n,hd⟩:=id R;obtain ⟨⟨B,m,o,l⟩,c,i,U,f⟩:=id S;simp only at C hd i f;subst C hd i f;exact concat_meets ⟨_,D,rfl⟩ ⟨_,c,rfl⟩ noFill_tuple_add seq_tuple_add PySem.F.slot_tuple_add PySem.F.entry_tuple_add (PySem.F.args_tuple_add_2 _ _)
   (tuple_addW0 a b _ _ n U Y m Z l rfl) ⟨D,c,⟨.ref b,H,I,rfl,q b H (bC.refl _) j⟩⟩
 ·refine WV d s σ H _ _ v u Q I G w ⟨a,b,z,P,rfl,rfl,fO.of r,fO.of j,hx,aY T Dd,λe=>?_,λ_ p M=>q p _ (bC.upd M) bH⟩;subst e;exact q a H (bC.refl _) (by rw [List.append_nil];exact r)
end
theorem wI(a:Int)(t:Tok)(l:Addr)(items:Array Value)(n:Nat)(dd:Option Addr)(sl:Array (Option Value)) :
  Meets (Builtin.«int.__rmul__» ⟨[.int a t,.ref l],[]⟩) (λ_ R s=>s.heap.get? l=some { cls:=.type "tuple",dict:=dd,data:=.seq items n,slots:=sl }/\R (.ok (.ret Value.notImplemented)) s) :=
 .of_wp λb w A R s h=>by
  obtain ⟨e,g,d,i,c⟩:=s;obtain ⟨f,h⟩:=h
  wp_walk
  exact ⟨_,rfl,h⟩
theorem GJ(l:Addr)(items:Array Value)(n:Nat)(dd:Option Addr)(sl:Array (Option Value))(k:Int)(u:Tok)(h0:2<=k)(h1:k<=64)(he:items.isEmpty=false)(hz:items.size<=64)(hsz:((List.replicate k.toNat items).foldl (· ++ ·) #[]).size<=sizeLine) :
  Meets (Builtin.«tuple.__mul__» ⟨[.ref l,.int k u],[]⟩) (λ_ R s=>s.heap.get? l=some { cls:=.type "tuple",dict:=dd,data:=.seq items n,slots:=sl }/\R (.ok (.ret (.ref s.heap.objs.size))) { s with heap:=s.heap.push { cls:=.type "tuple",data:=.seq ((List.replicate k.toNat items).foldl (· ++ ·) #[]) } }) :=
 .of_wp λc w A R s h=>by
  obtain ⟨j,g,d,o,i⟩:=s;obtain ⟨b,h⟩:=h;have m:=AutoSeq1.idx_int
  wp_walk using wpAny_loadPart' b
  rw [if_neg (by simp;omega)]
  wp_walk using wpAny_loadPart' b
  have a:¬items=#[]:=λz=>by simp [z] at he
  have e:(items.size:Int)*k<=4096:=by
   have f:(items.size:Int)*k<=64*64:=Int.mul_le_mul Oo h1 Oo Oo;omega
  rw [if_neg (by simp;exact ⟨a,Oo⟩)];rw [if_neg (by simp;exact ⟨Oo,a⟩)];show wpAny _ _ (if (items.size:Int)*k > (2^63-1)/8 then _ else _) _ _ _;rw [if_neg Oo];show wpAny _ _ (if Builtin.Tuple.tupleTooMany (items.size*k)=true then _ else _) _ _ _;rw [if_neg (by unfold Builtin.Tuple.tupleTooMany;simp;exact Int.le_trans e Dd)]
  wp_walk
  exact ⟨_,rfl,h⟩
theorem sK:fillsNumberSlot (.type "tuple") "mul" = pure false:=PySem.fillsNumberSlot_seq (id := "tuple.__mul__") (r:=some (.builtin "tuple.__rmul__")) F.slot_tuple_mul.lookup Kk F.slot_tuple_rmul.lookup Kk
theorem BB:seqRepeat? (.type "tuple")=pure (some (.builtin "tuple.__mul__")):=by
 unfold seqRepeat?;rw [PySem.seqSlot_of (T := "tuple") (name := "__mul__") (id := "tuple.__mul__") F.slot_tuple_mul.lookup Kk,PySem.seqSlot_of (T := "tuple") (name := "__rmul__") (id := "tuple.__rmul__") F.slot_tuple_rmul.lookup Kk];rfl
@[irreducible] def JN:R2:=λx y H Q=>∃a z,∃k:Nat,x=.ref a/\y=.int (k:Int)/\H a=some (.tup [z])/\2<=k/\k<=64/\∀c H',bC H H'->H' c=some (.tup (List.replicate k z))->Q (.ref c) H'
theorem aEd{H:Hp}{Q:VK}{a:Addr}{z:V}{k:Nat}(h:H a=some (.tup [z]))(h2:2<=k)(hk:k<=64)(q:∀c H',bC H H'->H' c=some (.tup (List.replicate k z))->Q (.ref c) H'):JN (.ref a) (.int (k:Int)) H Q:=by
 unfold JN;exact ⟨a,z,k,rfl,rfl,h,h2,hk,q⟩
section
variable{X:Cx}
theorem WU:nU X (binaryOp .Mult) JN:=by
 unfold JN;intro m s σ H x y v u Q I R G h;obtain ⟨a,z,k,rfl,rfl,J,Y,l,q⟩:=h;cases R;obtain ⟨t,rfl⟩:=(show ∃t,u=Value.int (k:Int) t from G);obtain ⟨N,r,p,_⟩:=I.tuple (fO.of J);obtain ⟨c,rfl,j⟩:=lK r;obtain ⟨⟨O,C,B,D⟩,i,w,n,hd⟩:=id p;simp only at w hd;subst w hd;have d:∀k:Nat,(List.replicate k [c]).flatten=List.replicate k c:=λk=>by
  induction k with
  | zero=>rfl
  | succ k ih=>rw [List.replicate_succ,List.flatten_cons,ih,List.replicate_succ];rfl
 have A:List.foldl (λM L=>M++L) #[] (List.replicate k [c].toArray)=(List.replicate k c).toArray:=by
  have:=yY [c] k [];rw [List.nil_append,d] at this;exact this
 have S:∀k:Nat,dS (List.replicate k z) (List.replicate k c):=λk=>by
  induction k with
  | zero=>exact .nil
  | succ k ih=>exact .cons j ih
 generalize hk':(k:Int)=f;have e:f.toNat=k:=Oo;refine wpAny_binaryOp_repeat_ref (T := "tuple") (U := "int") Dd ⟨_,i,rfl⟩ (λP=>typeIs_int P f t) sK F.fills_int_mul F.slot_int_rmul BB F.slot_int_index.lookup
  (call_meets F.slot_int_rmul (typeIs_int s f t) F.entry_int_rmul (F.args_int_rmul_2 _ _) (wI f t a [c].toArray n C D) ⟨i,rfl,⟨_,i,rfl⟩,?_⟩)
 refine call_meets F.slot_tuple_mul ⟨_,i,rfl⟩ F.entry_tuple_mul (F.args_tuple_mul_2 _ _) (GJ a [c].toArray n C D f t Oo Oo rfl (by show 1<=64;decide) (by rw [e,A,bG,eA];exact aY l Dd)) ⟨i,?_⟩;rw [e,A];refine ⟨.ref _,_,I.laid (t':=s.toks) (o:=.tup (List.replicate k z)) (λb W q=>aD _ q) (aG _) ?_,rfl,q _ _ (bC.upd (I.hok.fresh (aG _))) bH⟩;exact ⟨⟨by rw [eA];exact mZ l,_,bB _ rfl,rfl⟩,_,S k,IsTup.new _ _⟩
end
@[irreducible] def MS:V->List V->Hp->VK->Prop:=JO
theorem BJ{X:Cx}:MtR X "list.extend" MS:=by unfold MS;exact NI
theorem aEm{H:Hp}{l b:Addr}{xs zs:List V}{Q:VK}(h:H l=some (.lst xs))(h2:H b=some (.lst zs))(hz:xs.length+zs.length<=1000)(k:∀H',H' l=some (.lst (xs++zs))->aO l H H'->Q .non H'):MS (.ref l) [.ref b] H Q:=by
 unfold MS;exact ⟨l,b,xs,zs,rfl,rfl,h,h2,Nat.le_of_lt (sD hz),k _ bH aO.self⟩
section
variable{prog:Program}{w:World}{A:Around}{E:Value->Shared->Prop}{s:Shared}{l:Addr}{xs:Array (Int × Tok)}
end
section
variable{js:List Nat}{te:TE}{tc:TT}{σ:St}{H:Hp}{Q:VK}
theorem aZ.atI{α:Type}{g:α->PyData}:∀{as:List α}{xs:List V},aZ H (as.map g) xs->∀{i:Nat}{x:V},xs[i]?=some x->∃a,as[i]?=some a/\cB H (g a) x:=by
 intro as xs r i x e;obtain ⟨d,b,c⟩:=r.get e;rw [aL] at b;cases q:as[i]? with
 | none=>rw [q] at b;cases b
 | some a=>rw [q] at b;cases b;exact ⟨a,rfl,c⟩
theorem NU{K:PySem.W.Frag}{a:Addr}{xs:List V}{α:Type}{g:α->PyData}{as:List α}(r:aZ H (as.map g) xs)(p:α->Bool)(hz:xs.length<=100000)(hl:H a=some (.lst xs))
  (ht:∀x c H' (Q':Bool->Hp->Prop),c∈as->cB H' (g c) x->bC H H'->(∀H5,bC H' H5->Q' (p c) H5)->tc (some x::slots σ js) H' Q')
  (he:∀x H' (Q':VK),Q' x H'->te (some x::slots σ js) H' Q')
  (hd:∀D ys H',H D=none->H' D=some (.lst ys)->bC H H'->aZ H' ((as.filter p).map g) ys->Q (.ref D) H'):jZ (YO K a) σ js tc te H Q:=by
 unfold jZ;intro D hD;have n:xs.length=as.length:=by rw [r.len,aC]
 refine ⟨λi m ys H'=>m=xs.length-i/\i<=xs.length/\H' D=some (.lst ys)/\bC H H'/\aZ H (((as.take i).filter p).map g) ys/\ys.length<=i,⟨xs.length,by simp,bS _,bH,bC.upd hD,aZ.nil,aG _⟩,?_⟩;rintro i m ys H2 ⟨rfl,C,d,f,o,B⟩;refine ⟨d,?_⟩;by_cases hlt:i<xs.length
 ·have A:xs[i]?=some xs[i]:=aB hlt;refine .inr ⟨⟨xs,_,fR.of (f _ _ hl),A⟩,bA (m:=100000) Oo Dd,λx H3 s=>?_⟩;obtain ⟨rfl,h⟩:=s;have h:=h xs (fR.of (f _ _ hl));obtain ⟨c,w,u⟩:=r.atI h;have l:as.take (i+1)=as.take i++[c]:=by rw [List.take_add_one,w];rfl
  refine ⟨λb H4=>b=p c/\bC H3 H4,ht x c H3 _ (aV w) (u.same f) f λH5 z=>⟨rfl,z⟩,?_⟩;rintro b H4 ⟨rfl,j⟩;by_cases hp:p c=true
  ·rw [if_pos hp];refine ⟨λy H5=>y=x/\H5=H4,he x H4 _ ⟨rfl,rfl⟩,?_⟩;rintro y H5 ⟨rfl,rfl⟩;refine ⟨j _ _ d,_,?_,rfl,hlt,bH,bC.thru hD (f.trans j) aO.self,?_,?_⟩
   ·omega
   ·rw [l,List.filter_append,bR];have:List.filter p [c]=[c]:=by simp [hp]
    rw [this];exact aZ.snoc o u
   ·rw [aT,List.length_singleton];omega
  ·rw [if_neg hp];refine ⟨j _ _ d,_,?_,rfl,hlt,j _ _ d,f.trans j,?_,?_⟩
   ·omega
   ·rw [l,List.filter_append];have:List.filter p [c]=[]:=by simp [hp]
    rw [this,List.append_nil];exact o
   ·omega
 ·have e:i=xs.length:=Oo;subst e;refine .inl ⟨⟨xs,fR.of (f _ _ hl),aG _⟩,hd D ys H2 hD d f ?_⟩;rw [n,cE] at o;exact o.same f
end
end L2
namespace Mf
def lw(n d:Int):Int × Int:=(n/(Int.gcd n d:Int),d/(Int.gcd n d:Int))
structure YM(n d:Int):Prop where
 pos:0<d
 low:Int.gcd n d=1
theorem iH{n d:Int}(h:0<d):0<(Int.gcd n d:Int):=by
 have:=Int.gcd_pos_of_ne_zero_right n (Int.ne_of_gt h);omega
theorem iW{n d:Int}(h:0<d):YM (lw n d).1 (lw n d).2:=by
 have g:=iH (n:=n) h;refine ⟨?_,?_⟩
 ·exact Int.ediv_pos_of_pos_of_dvd h (Int.le_of_lt g) (Int.gcd_dvd_right n d)
 ·exact Int.gcd_ediv_gcd_ediv_gcd Oo
theorem ZN{n d:Int}:(lw n d).1*(Int.gcd n d:Int)=n/\(lw n d).2*(Int.gcd n d:Int)=d :=
 ⟨Int.ediv_mul_cancel (Int.gcd_dvd_left n d),Int.ediv_mul_cancel (Int.gcd_dvd_right n d)⟩
theorem mJ{n d:Int}:(lw n d).1*d=n*(lw n d).2:=by
 obtain ⟨c,e⟩:=ZN (n:=n) (d:=d);generalize (lw n d).1=a at *;generalize (lw n d).2=b at *;generalize (Int.gcd n d:Int)=g at *;rw [<-c,<-e];rw [Int.mul_assoc,Int.mul_comm g b]
theorem KU{b a d:Int}(h:b ∣ a*d)(g:Int.gcd b a=1):b ∣ d:=by
 rw [<-Int.natAbs_dvd_natAbs,jI] at h;rw [<-Int.natAbs_dvd_natAbs];rw [Int.gcd_eq_natAbs_gcd_natAbs] at g;exact Nat.Coprime.dvd_of_dvd_mul_left g h
theorem EM{a b c d:Int}(h1:YM a b)(h2:YM c d)(e:a*d=c*b):a=c/\b=d:=by
 have j:b ∣ d:=by
  have:b ∣ a*d:=by rw [e];exact Int.dvd_mul_left c b
  exact KU this (by rw [Int.gcd_comm];exact h1.low)
 have h:d ∣ b:=by
  have:d ∣ c*b:=by rw [<-e];exact Int.dvd_mul_left a d
  exact KU this (by rw [Int.gcd_comm];exact h2.low)
 have i:=h1.pos;have hd:=h2.pos;have f:b=d:=Int.dvd_antisymm (Int.le_of_lt i) (Int.le_of_lt hd) j h;subst f;exact ⟨Int.eq_of_mul_eq_mul_right Oo e,rfl⟩
theorem wB{a b n d:Int}(h:YM a b)(hd:0<d)(e:a*d=n*b):lw n d=(a,b):=by
 have c:=mJ (n:=n) (d:=d);have q:=EM (iW (n:=n) hd) h (by
  have f:d≠0:=Oo;apply Int.eq_of_mul_eq_mul_right f
  calc (lw n d).1*b*d=((lw n d).1*d)*b:=by rw [Int.mul_assoc,Int.mul_comm b d,<-Int.mul_assoc]
   _=(n*(lw n d).2)*b:=by rw [c]
   _=(n*b)*(lw n d).2:=by rw [Int.mul_assoc,Int.mul_comm (lw n d).2 b,<-Int.mul_assoc]
   _=(a*d)*(lw n d).2:=by rw [e]
   _=a*(lw n d).2*d:=by rw [Int.mul_assoc,Int.mul_comm d,<-Int.mul_assoc])
 exact Prod.ext q.1 q.2
theorem rG{u a b:Int}(h1:Int.gcd u a=1)(h2:Int.gcd u b=1):Int.gcd u (a*b)=1:=by
 rw [Int.gcd_eq_natAbs_gcd_natAbs] at *;rw [jI];exact Nat.Coprime.mul_right h1 h2
theorem kZ{a b c:Int}(h:Int.gcd a b=1)(d:c ∣ b):Int.gcd a c=1:=by
 have:=Int.gcd_dvd_gcd_of_dvd_right a d;rw [h] at this;exact Nat.eq_one_of_dvd_one this
theorem iI{a b c:Int}(h:Int.gcd a b=1)(d:c ∣ a):Int.gcd c b=1:=by
 rw [Int.gcd_comm] at *;exact kZ h d
theorem WI{a b c d:Int}(h1:YM a b)(h2:YM c d) :
  let g:Int:=Int.gcd b d
  let u:=a*(d/g)+c*(b/g)
  let l:Int:=Int.gcd u g
  lw (a*d+c*b) (b*d)=(u/l,(b/g)*(d/l)):=by
 intro g u l;have L:0<g:=iH h2.pos;have T:0<l:=iH L;obtain ⟨p,o⟩:=Int.gcd_dvd_left b d;obtain ⟨m,n⟩:=Int.gcd_dvd_right b d;have o:b=g*p:=o;have n:d=g*m:=n;have B:b/g=p:=by rw [o];exact Int.mul_ediv_cancel_left _ Oo
 have N:d/g=m:=by rw [n];exact Int.mul_ediv_cancel_left _ Oo
 have z:u=a*m + c*p:=by show a*(d/g)+c*(b/g)=_;rw [B,N]
 have x:Int.gcd p m=1:=by
  have:=Int.gcd_ediv_gcd_ediv_gcd (i:=b) (j:=d) (by have:0<(Int.gcd b d:Int):=L;omega);have h:Int.gcd (b/g) (d/g)=1:=this
  rwa [B,N] at h
 have y:Int.gcd a p=1:=kZ h1.low ⟨g,by rw [o,Int.mul_comm]⟩;have C:Int.gcd c m=1:=kZ h2.low ⟨g,by rw [n,Int.mul_comm]⟩;have S:Int.gcd u p=1:=by
  rw [z,Int.add_comm,Int.gcd_mul_right_add_left,Int.gcd_mul_right_left_of_gcd_eq_one y,Int.gcd_comm];exact x
 have P:Int.gcd u m=1:=by
  rw [z,Int.gcd_mul_right_add_left,Int.gcd_mul_right_left_of_gcd_eq_one C];exact x
 obtain ⟨r,f⟩:=Int.gcd_dvd_left u g;obtain ⟨s,e⟩:=Int.gcd_dvd_right u g;have f:u=l*r:=f;have e:g=l*s:=e;have O:u/l=r:=by rw [f];exact Int.mul_ediv_cancel_left _ Oo
 have D:d/l=s * m:=by rw [n,e,Int.mul_assoc];exact Int.mul_ediv_cancel_left _ Oo
 have J:Int.gcd r s=1:=by
  have:=Int.gcd_ediv_gcd_ediv_gcd (i:=u) (j:=g) (by have:0<(Int.gcd u g:Int):=T;omega);have h:Int.gcd (u/l) (g/l)=1:=this;rw [O] at h
  rwa [show g/l=s from by rw [e];exact Int.mul_ediv_cancel_left _ Oo] at h
 rw [O,B,D];have w:r ∣ u:=⟨l,by rw [f,Int.mul_comm]⟩;have A:0<p:=by
  have:=h1.pos;rw [o] at this;exact Int.pos_of_mul_pos_right this Oo
 have I:0<m:=by
  have:=h2.pos;rw [n] at this;exact Int.pos_of_mul_pos_right this Oo
 have M:0<s:=by
  have:=L;rw [e] at this;exact Int.pos_of_mul_pos_right this Oo
 refine wB ⟨Int.mul_pos A (Int.mul_pos M I),?_⟩ (Int.mul_pos h1.pos h2.pos) ?_
 ·exact rG (iI S w) (rG J (iI P w))
 ·have R:a*d+c*b=g*(l*r):=by
   rw [<-f,z,o,n];rw [Int.mul_add,Int.mul_left_comm a,Int.mul_left_comm c]
  rw [R,o,n];generalize hG:g=G at *;rw [e];simp only [Int.mul_assoc,Int.mul_left_comm,Int.mul_comm]
theorem PU{a b c d:Int}(h1:YM a b)(h2:YM c d) :
  let f:Int:=Int.gcd a d
  let s:Int:=Int.gcd c b
  lw (a*c) (b*d)=((a/f)*(c/s),(b/s)*(d/f)):=by
 intro f s;have M:0<f:=iH h2.pos;have N:0<s:=iH h1.pos;obtain ⟨u,p⟩:=Int.gcd_dvd_left a d;obtain ⟨e,m⟩:=Int.gcd_dvd_right a d;obtain ⟨o,r⟩:=Int.gcd_dvd_left c b;obtain ⟨l,n⟩:=Int.gcd_dvd_right c b;have p:a=f*u:=p;have m:d=f*e:=m;have r:c=s*o:=r;have n:b=s*l:=n;have L:a/f=u:=by rw [p];exact Int.mul_ediv_cancel_left _ Oo
 have J:d/f=e:=by rw [m];exact Int.mul_ediv_cancel_left _ Oo
 have C:c/s=o:=by rw [r];exact Int.mul_ediv_cancel_left _ Oo
 have D:b/s=l:=by rw [n];exact Int.mul_ediv_cancel_left _ Oo
 have B:Int.gcd u e=1:=by
  have:=Int.gcd_ediv_gcd_ediv_gcd (i:=a) (j:=d) (by have:0<(Int.gcd a d:Int):=M;omega);have h:Int.gcd (a/f) (d/f)=1:=this
  rwa [L,J] at h
 have z:Int.gcd o l=1:=by
  have:=Int.gcd_ediv_gcd_ediv_gcd (i:=c) (j:=b) (by have:0<(Int.gcd c b:Int):=N;omega);have h:Int.gcd (c/s) (b/s)=1:=this
  rwa [C,D] at h
 have w:Int.gcd u l=1:=iI (kZ h1.low ⟨s,by rw [n,Int.mul_comm]⟩) ⟨f,by rw [p,Int.mul_comm]⟩;have y:Int.gcd o e=1:=iI (kZ h2.low ⟨f,by rw [m,Int.mul_comm]⟩) ⟨s,by rw [r,Int.mul_comm]⟩;have x:0<l:=by
  have:=h1.pos;rw [n] at this;exact Int.pos_of_mul_pos_right this Oo
 have A:0<e:=by
  have:=h2.pos;rw [m] at this;exact Int.pos_of_mul_pos_right this Oo
 rw [L,D,C,J];refine wB ⟨Int.mul_pos x A,?_⟩ (Int.mul_pos h1.pos h2.pos) ?_
 ·have I:Int.gcd u (l * e)=1:=rG w B;have G:Int.gcd o (l * e)=1:=rG z y;rw [Int.gcd_comm] at I G ⊢;exact rG I G
 ·rw [p,n,r,m];simp only [Int.mul_assoc,Int.mul_left_comm,Int.mul_comm]
end Mf
namespace Mf
abbrev Fr:=Int × Int
def pK(x y:Fr):Fr:=lw (x.1*y.2+y.1*x.2) (x.2*y.2)
def pG(fs:List Fr):Fr:=fs.foldl pK (0,1)
def eS(f:Fr):Prop:=YM f.1 f.2
theorem oZ{α:Type}{P:List α->Prop}(h0:P [])(hs:∀l a,P l->P (l++[a]))(l:List α):P l:=by
 have:∀r:List α,P r.reverse:=by
  intro r
  induction r with
  | nil=>exact h0
  | cons a r ih=>rw [List.reverse_cons];exact hs _ _ ih
 have:=this l.reverse
 rwa [List.reverse_reverse] at this
theorem oU(l:List Fr)(a:Fr):pG (l++[a])=pK (pG l) a:=by unfold pG;rw [List.foldl_append];rfl
theorem DF(l:List Fr):(∀f∈l,eS f)->eS (pG l):=by
 refine oZ (P:=λl=>(∀f∈l,eS f)->eS (pG l)) (λ_=>⟨Dd,Dd⟩) (λl a d h=>?_) l;rw [oU];have c:=d λf e=>h f (dA _ e);have b:=h a (bZ _ aR);exact iW (Int.mul_pos c.pos b.pos)
theorem ZM{n d:Int}(h:0<d):(lw n d).2<=d/\(lw n d).1.natAbs<=n.natAbs:=by
 obtain ⟨c,e⟩:=ZN (n:=n) (d:=d);have g:=iH (n:=n) h;have p:=(iW (n:=n) h).pos;generalize (lw n d).1=a at *;generalize (lw n d).2=b at *;generalize (Int.gcd n d:Int)=G at *;refine ⟨?_,?_⟩
 ·rw [<-e];have:=Int.mul_le_mul_of_nonneg_left (show (1:Int)<=G by omega) (Int.le_of_lt p);simpa using this
 ·rw [<-c,jI];exact Nat.le_mul_of_pos_right _ Oo
end Mf
namespace Mf
theorem EL{n d n' d':Int}(hd:0<d)(hd':0<d')(e:n*d'=n' * d):lw n d=lw n' d':=by
 have h:=iW (n:=n') hd';have c:=mJ (n:=n') (d:=d');generalize lw n' d'=L at c h;refine wB (a:=L.1) (b:=L.2) h hd (Int.eq_of_mul_eq_mul_right (a:=d') Oo ?_)
 calc L.1*d*d'=(L.1*d')*d:=by ac_rfl
  _=n' * L.2*d:=by rw [c]
  _=(n' * d)*L.2:=by ac_rfl
  _=n*d' * L.2:=by rw [e]
  _=n*L.2*d':=by ac_rfl
def xO(f g:Fr):Fr:=lw (f.1*g.1) (f.2*g.2)
theorem EH{f g:Fr}(h:eS f)(h':eS g):eS (xO f g):=iW (Int.mul_pos h.pos h'.pos)
theorem aBP{a b c d:Int}(hb:0<b)(hd:0<d):pK (lw a b) (lw c d)=lw (a*d+c*b) (b*d):=by
 have h:=(iW (n:=a) hb).pos;have f:=(iW (n:=c) hd).pos;refine EL (Int.mul_pos h f) (Int.mul_pos hb hd) ?_;have e:=mJ (n:=a) (d:=b);have i:=mJ (n:=c) (d:=d);generalize lw a b=L at *;generalize lw c d=M at *;rw [Int.add_mul,Int.add_mul];congr 1
 ·calc L.1*M.2*(b*d)=(L.1*b)*(M.2*d):=by ac_rfl
   _=(a*L.2)*(M.2*d):=by rw [e]
   _=a*d*(L.2*M.2):=by ac_rfl
 ·calc M.1*L.2*(b*d)=(M.1*d)*(L.2*b):=by ac_rfl
   _=(c*M.2)*(L.2*b):=by rw [i]
   _=c*b*(L.2*M.2):=by ac_rfl
theorem JW{d:Int}(h:0<d):lw 0 d=(0,1):=wB (a:=0) (b:=1) ⟨Dd,Dd⟩ h Oo
theorem aBh{d:Int}(h:0<d):lw d d=(1,1):=wB (a:=1) (b:=1) ⟨Dd,Dd⟩ h Oo
theorem MH{S:Int}(hS:0<S)(ps:List Int):pG (ps.map λp=>lw p S)=lw ps.sum S:=by
 induction ps using oZ with
 | h0=>rw [show ([]:List Int).sum=0 from rfl,JW hS];rfl
 | hs l a ih =>
  rw [bR,aU,List.map_nil,oU,ih,aBP hS hS,List.sum_append];refine EL (Int.mul_pos hS hS) hS ?_;rw [show ([a]:List Int).sum=a by simp,<-Int.add_mul,Int.mul_assoc]
end Mf
namespace Mf
theorem kA:∀(l:List Nat) (j v x:Nat),l[j]?=some x->(l.set j v).sum+x=l.sum+v
 | [],j,v,x,h=>by simp at h
 | a::l,0,v,x,h=>by
  have:a=x:=by simpa using h
  subst this;simp only [List.set_cons_zero,List.sum_cons];omega
 | a::l,j+1,v,x,h=>by
  have:=kA l j v x (by simpa using h);simp only [List.set_cons_succ,List.sum_cons];omega
def cta:Nat->Nat->List (List Nat)
 | 0,_=>[]
 | 1,m=>[[m]]
 | F+2,m=>(List.range (m+1)).flatMap λk=>(cta (F+1) (m-k)).map λc=>k::c
theorem gJ:∀{F m:Nat}{c:List Nat},c∈cta F m->c.length=F/\c.sum=m
 | 0,m,c,h=>by cases h
 | 1,m,c,h=>by
  have:c=[m]:=by simpa [cta] using h
  subst this;simp
 | F+2,m,c,h=>by
  obtain ⟨k,a,h⟩:=List.mem_flatMap.mp h;obtain ⟨d,hd,rfl⟩:=aS.mp h;have a:=cM.mp a;obtain ⟨b,e⟩:=gJ hd;refine ⟨by simp [b],?_⟩;rw [List.sum_cons];omega
end Mf
namespace Mf
end Mf
namespace L2
open PySem PySem.Spec PyProof.Rows
theorem UV{X:Cx}{e:Expr}{t:TT}(h:OH X e t):OH X e (pL t):=⟨h.p.mono⟩
end L2
namespace HT
open PySem PyProof.Rows
section
variable{prog:Program}{w:World}{A:Around}{E:Value->Shared->Prop}{s:Shared}
theorem pI{t sl:Addr}{items:Array Value}{vl vu:Value}{lo hi:Option Int}{Q:Value->Shared->Prop}(ht:IsTup s.heap t items)(hs:s.heap.IsSliceOf sl vl vu .none)(pl:IsPart vl lo)(pu:IsPart vu hi)
  (h0:hZ items.size 0 lo=0) (h1:hZ items.size items.size hi=items.size) (h:Q (.ref t) s):wpAny (model prog w) A (getItem (.ref t) (.ref sl)) Q E s:=by
 obtain ⟨f,b,d,i⟩:=id hs;have e:s.TypeIs (.ref sl) "slice" := ⟨f,b,d⟩;have c:s.TypeIs (.ref t) "tuple" := ht.typeIs;unfold getItem
 try with_reducible refine wpAny_holding ?_
 first | refine wpAny_bind (wpAny_pure ?_) | skip
 refine wpAny_bind (wpAny_sequenceKey ht.typeIs Dd ?_);refine wpAny_bind (wpAny_callSpecial?_slot (name:=Str.ofString "__getitem__") ht.typeIs PyProof.Rows.slot_tuple_getitem
  (wpAny_call_entry PyProof.Rows.slot_tuple_getitem ht.typeIs entry_tuple_getitem ?_ (args_tuple_getitem _ _)))
 show wpAny _ _ (Builtin.Tuple.tupleItemsOf (.ref t) >>= _) _ _ s;refine wpAny_bind (tupleItemsOf_ ht ?_);refine wpAny_bind (wpAny_typeOf e ?_);rw [if_pos Dd];refine wpAny_bind (mI hs pl pu ?_);have a:(((hZ items.size 0 lo:Nat):Int) == 0&&(1:Int) == 1&&(hZ items.size items.size hi-hZ items.size 0 lo) == items.size)=true:=by
  rw [h0,h1];simp
 show wpAny _ _ (if (((hZ items.size 0 lo:Nat):Int) == 0&&(1:Int) == 1&&(hZ items.size items.size hi-hZ items.size 0 lo) == items.size)=true then _ else _) _ _ s;rw [if_pos a];unfold Builtin.Tuple.tupleIsExact;refine wpAny_bind (wpAny_bind (wpAny_typeOf c (wpAny_pure ?_)));rw [if_pos Dd];refine wpAny_bind (wpAny_rule ?_)
 first
  | exact wpAny_pure ⟨_,rfl,wpAny_pure h⟩
  | exact wpAny_bind (wpAny_pure (wpAny_pure ⟨_,rfl,wpAny_pure h⟩))
end
end HT
namespace L2
open PySem PySem.W PySem.Spec PySem.Calls PyProof.Rows
theorem IB{xs:List V}{lo hi:Option Int}(h0:HT.hZ xs.length 0 lo=0)(h1:HT.hZ xs.length xs.length hi=xs.length):pJ xs lo hi=xs:=by
 unfold pJ;rw [h0,h1];simp
section
variable{X:Cx}
@[irreducible] def GZ(K:PySem.W.Frag):V->Option Int->Option Int->Hp->VK->Prop:=λx lo hi H Q=>∃a xs,x=.ref a/\H a=some (.tup xs)/\∀c H',bC H H'->H' c=some (.tup (pJ xs lo hi))->Q (.ref c) H'
theorem lQ(K:PySem.W.Frag)(hK:X.K=K:=by rfl):SlR X (GZ K):=by
 unfold GZ;subst hK;intro d s σ H x v u y j i z Q I n m pl o h;obtain ⟨a,c,rfl,f,q⟩:=h;by_cases hw:HT.hZ c.length 0 j=0/\HT.hZ c.length c.length i=c.length
 ·cases n;obtain ⟨e,r,l,A⟩:=I.tuple (fO.of f);have b:e.toArray.size=c.length:=by rw [bG];exact r.length.symm
  refine ⟨"tuple",_,PyProof.Rows.slot_tuple_getitem.lookup,l.typeIs,HT.pI l m pl o (by rw [b];exact hw.1) (by rw [b];exact hw.2) ?_⟩;exact ⟨.ref a,H,I,rfl,q a H (bC.refl _) (by rw [IB hw.1 hw.2];exact f)⟩
 ·exact aAp d s σ H (.ref a) v u y j i z Q I n m pl o ⟨a,c,rfl,fO.of f,hw,λp w=>q p _ (bC.upd w) bH⟩
theorem AT{K:PySem.W.Frag}{H:Hp}{a:Addr}{xs:List V}{k:Nat}{Q:VK}(h:H a=some (.tup xs))(q:∀c H',bC H H'->H' c=some (.tup (xs.take k))->Q (.ref c) H'):GZ K (.ref a) none (some (k:Int)) H Q:=by
 unfold GZ;exact ⟨a,xs,rfl,h,λc H' s e=>q c H' s (by rw [e,uM])⟩
theorem aAq{K:PySem.W.Frag}{H:Hp}{a:Addr}{xs:List V}{k:Nat}{Q:VK}(h:H a=some (.tup xs))(q:∀c H',bC H H'->H' c=some (.tup (xs.drop k))->Q (.ref c) H'):GZ K (.ref a) (some (k:Int)) none H Q:=by
 unfold GZ;exact ⟨a,xs,rfl,h,λc H' s e=>q c H' s (by rw [e,BX])⟩
end
end L2
namespace HT
open PySem PySem.W PyProof.Rows
def dQ{α:Type}(n:Nat)(lt:Nat->Nat->Bool)(R:α->Prop):KasT α->Prop
 | .ret a=>R a
 | .ask i j k=>i<n/\j<n/\dQ n lt R (k (lt i j))
section
variable{n:Nat}{lt:Nat->Nat->Bool}
theorem dQ.bind{α β:Type}{R:α->Prop}{S:β->Prop}{f:α->KasT β}:∀{t:KasT α},dQ n lt R t->(∀a,R a->dQ n lt S (f a))->dQ n lt S (t.bind f)
 | .ret a,h,k=>k a h
 | .ask i j t,⟨h1,h2,h3⟩,k=>⟨h1,h2,dQ.bind (t:=t (lt i j)) h3 k⟩
theorem dQ.wp{α:Type}{R:α->Prop}{cmp:Nat->Nat->(Bool->Shared->Prop)->Shared->Prop}{Q:α->Shared->Prop}{s:Shared}(hc:∀i j C,i<n->j<n->C (lt i j) s->cmp i j C s)(q:∀a,R a->Q a s) :
  ∀{t:KasT α},dQ n lt R t->t.kasWp cmp Q s
 | .ret a,h=>q a h
 | .ask i j t,⟨h1,h2,h3⟩=>hc i j _ h1 h2 (dQ.wp (t:=t (lt i j)) hc q h3)
def gB(n:Nat)(p:Array Nat):Prop:=p.Perm (List.toArray (List.range n))
theorem gB.bd{p:Array Nat}(g:gB n p)(hn:0<n)(i:Nat):p.getD i 0<n:=by
 by_cases hi:i<p.size
 ·have e:p.getD i 0=p[i]:=by simp [Array.getD,hi]
  rw [e];have m:p[i]∈List.toArray (List.range n):=(Array.Perm.mem_iff g).mp (Array.getElem_mem hi);simpa using m
 ·have e:p.getD i 0=0:=by simp [Array.getD,hi]
  rw [e];exact hn
theorem gB.rev{p:Array Nat}(g:gB n p)(i j:Nat):gB n (kas_rev p i j):=(mirror_perm p i j _).trans g
theorem gB.bub{p:Array Nat}(g:gB n p)(i j:Nat):gB n (bubble p i j):=(bubble_perm p i j).trans g
theorem CI{p:Array Nat}(g:gB n p)(hn:0<n):∀(f m:Nat),dQ n lt (λ_=>True) (kas_asc p f m)
 | 0,m=>True.intro
 | f+1,m=>⟨g.bd hn _,g.bd hn _,by
  cases lt (p.getD m 0) (p.getD (m-1) 0) with
  | true=>exact True.intro
  | false=>exact CI g hn f (m+1)⟩
theorem rO(hn:0<n):∀(f:Nat) {p:Array Nat}(g:gB n p) (m q:Nat),dQ n lt (λr=>gB n r.1) (kas_desc f p m q)
 | 0,p,g,m,q=>g
 | f+1,p,g,m,q=>by
  refine ⟨g.bd hn _,g.bd hn _,?_⟩;cases lt (p.getD m 0) (p.getD (m-1) 0) with
  | true =>
   show dQ n lt _ (if q > 0 then _ else _);split
   ·exact rO hn f (g.rev _ _) _ _
   ·exact rO hn f g _ _
  | false =>
   refine ⟨g.bd hn _,g.bd hn _,?_⟩;cases lt (p.getD (m-1) 0) (p.getD m 0) with
   | true=>exact g
   | false=>exact rO hn f g _ _
theorem zV{p:Array Nat}(g:gB n p)(hn:0<n)(m r:Nat):dQ n lt (λr=>gB n r.2) (kas_tail3 m r p):=by
 unfold kas_tail3;exact (CI (g.rev 0 m) hn _ _).bind λ_ _=>g.rev 0 m
theorem rN{p:Array Nat}(g:gB n p)(hn:0<n)(m r:Nat):dQ n lt (λr=>gB n r.2) (kas_descPart m r p):=by
 unfold kas_descPart;refine (rO hn _ g _ _).bind λr a=>?_;split
 ·exact zV (gB.rev a _ _) hn _ _
 ·exact zV a hn _ _
theorem OF{p:Array Nat}(g:gB n p)(hn:0<n)(m:Nat):dQ n lt (λr=>gB n r.2) (kas_count m p):=by
 unfold kas_count;refine (CI g hn _ _).bind λk _=>?_;split
 ·exact g
 ·split
  ·refine ⟨g.bd hn _,g.bd hn _,?_⟩;cases lt (p.getD 0 0) (p.getD (k-1) 0) with
   | true=>exact g
   | false=>exact rN (g.rev _ _) hn _ _
  ·exact rN g hn _ _
theorem sZ{p:Array Nat}(g:gB n p)(hn:0<n)(k:Nat):∀(f l r:Nat),dQ n lt (λ_=>True) (kas_place p k f l r)
 | 0,l,r=>True.intro
 | f+1,l,r=>by
  unfold kas_place;split
  ·exact True.intro
  ·refine ⟨g.bd hn _,g.bd hn _,?_⟩;cases lt (p.getD k 0) (p.getD ((l+r)/2) 0) with
   | true=>exact sZ g hn k f _ _
   | false=>exact sZ g hn k f _ _
theorem LQ(hn:0<n):∀(f:Nat) {p:Array Nat}(g:gB n p) (k:Nat),dQ n lt (gB n) (kas_bin f p k)
 | 0,p,g,k=>g
 | f+1,p,g,k=>by
  unfold kas_bin;exact (sZ g hn k _ _ _).bind λl _=>LQ hn f (g.bub _ _) _
theorem UC(hn:0<n):dQ n lt (gB n) (kas_sort n):=by
 unfold kas_sort;refine (OF (Array.Perm.refl _) hn n).bind λr a=>?_;split
 ·exact LQ hn _ a _
 ·exact a
end
structure FV(n:Nat)(lt:Nat->Nat->Bool):Prop where
 tot:∀i j,i<n->j<n->i≠j->lt i j=false->lt j i=true
 tra:∀i j k,lt i j=true->lt j k=true->lt i k=true
def xY(lt:Nat->Nat->Bool)(p:Array Nat)(m:Nat):Prop:=∀a b,a<b->b<m->lt (p.getD a 0) (p.getD b 0)=true
def Dsc(lt:Nat->Nat->Bool)(p:Array Nat)(m:Nat):Prop:=∀a b,a<b->b<m->lt (p.getD b 0) (p.getD a 0)=true
section
variable{n:Nat}{lt:Nat->Nat->Bool}
theorem dQ.mono{α:Type}{R S:α->Prop}(k:∀a,R a->S a):∀{t:KasT α},dQ n lt R t->dQ n lt S t
 | .ret a,h=>k a h
 | .ask i j t,⟨h1,h2,h3⟩=>⟨h1,h2,dQ.mono k (t:=t (lt i j)) h3⟩
theorem gB.size{p:Array Nat}(g:gB n p):p.size=n:=by
 have:=(Array.perm_iff_toList_perm.mp g).length_eq;simpa using this
theorem gB.ne{p:Array Nat}(g:gB n p){i j:Nat}(hi:i<n)(hj:j<n)(h:i≠j):p.getD i 0≠p.getD j 0:=by
 have c:p.toList.Nodup:=(Array.perm_iff_toList_perm.mp g).nodup_iff.mpr (by simpa using List.nodup_range);have a:=g.size;have b:p.getD i 0=p.toList[i]'(by simpa [a] using hi):=by simp [Array.getD,a,hi]
 have d:p.getD j 0=p.toList[j]'(by simpa [a] using hj):=by simp [Array.getD,a,hj]
 rw [b,d];intro e;exact h ((List.getElem_inj c).mp e)
theorem xY.one{p:Array Nat}:xY lt p 1:=λa b d c=>Oo
theorem xY.more(O:FV n lt){p:Array Nat}(g:gB n p){m:Nat}(h:xY lt p m)(h1:1<=m)(hm:m<n)(e:lt (p.getD m 0) (p.getD (m-1) 0)=false):xY lt p (m+1):=λa b c i=>by
 by_cases q:b<m
 ·exact h a b c q
 ·have f:b=m:=Oo;subst f;have d:lt (p.getD (b-1) 0) (p.getD b 0)=true:=O.tot _ _ (g.bd Oo _) (g.bd Oo _) (g.ne Oo Oo Oo) e;by_cases r:a=b-1
  ·rw [r];exact d
  ·exact O.tra _ _ _ (h a (b-1) Oo Oo) d
theorem CG(O:FV n lt){p:Array Nat}(g:gB n p):∀(f m:Nat),1<=m->m+f<=n->xY lt p m->dQ n lt (λk=>m<=k/\k<=m+f/\xY lt p k/\(k<m+f->lt (p.getD k 0) (p.getD (k-1) 0)=true)) (kas_asc p f m)
 | 0,m,_,_,h=>⟨aG _,aG _,h,λq=>Oo⟩
 | f+1,m,h1,hm,h=>by
  refine ⟨g.bd Oo _,g.bd Oo _,?_⟩;cases e:lt (p.getD m 0) (p.getD (m-1) 0) with
  | true=>exact ⟨aG _,Oo,h,λ_=>e⟩
  | false =>
   refine (show dQ n lt _ (kas_asc p f (m+1)) from ?_);have ih:=CG O g f (m+1) Oo Oo (h.more O g h1 Oo e);exact dQ.mono (λk ⟨d,c,a,b⟩=>⟨Oo,Oo,a,λq=>b Oo⟩) ih
theorem Dsc.more(O:FV n lt){p:Array Nat}{m:Nat}(h:Dsc lt p m)(h1:1<=m)(e:lt (p.getD m 0) (p.getD (m-1) 0)=true):Dsc lt p (m+1):=λa b c f=>by
 by_cases q:b<m
 ·exact h a b c q
 ·have d:b=m:=Oo;subst d;by_cases r:a=b-1
  ·rw [r];exact e
  ·exact O.tra _ _ _ e (h a (b-1) Oo Oo)
theorem FF(O:FV n lt){p:Array Nat}(g:gB n p):∀(f m:Nat),1<=m->m+f<=n->Dsc lt p m->dQ n lt (λr=>r.1=p/\r.2.2=0/\m<=r.2.1/\r.2.1<=m+f/\Dsc lt p r.2.1) (kas_desc f p m 0)
 | 0,m,_,_,h=>⟨rfl,rfl,aG _,aG _,h⟩
 | f+1,m,h1,hm,h=>by
  refine ⟨g.bd Oo _,g.bd Oo _,?_⟩;cases e:lt (p.getD m 0) (p.getD (m-1) 0) with
  | true =>
   refine (show dQ n lt _ (kas_desc f p (m+1) 0) from ?_);exact dQ.mono (λr ⟨a1,a2,a3,a4,a5⟩=>⟨a1,a2,Oo,Oo,a5⟩) (FF O g f (m+1) Oo Oo (h.more O h1 e))
  | false =>
   refine ⟨g.bd Oo _,g.bd Oo _,?_⟩;rw [O.tot _ _ (g.bd Oo _) (g.bd Oo _) (g.ne Oo Oo Oo) e];exact ⟨rfl,rfl,aG _,(show m<=m+(f+1) by omega),h⟩
theorem QQ{p:Array Nat}{m i:Nat}(hm:m<=p.size):(kas_rev p 0 m).getD i 0=if i<m then p.getD (m-1-i) 0 else p.getD i 0:=by
 have e:=getElem?_mirror (xs:=p) (i:=0) (j:=m) hm (m/2) Oo i;have a:(kas_rev p 0 m)[i]?=if (0<=i/\i<0+m/2)\/(m-m/2<=i/\i<m) then p[0+m-1-i]? else p[i]?:=e
 have g:∀(q:Array Nat) (k:Nat),q.getD k 0=q[k]?.getD 0:=λq k=>by simp [Array.getD_eq_getD_getElem?]
 rw [g,a,g,g];by_cases h:i<m
 ·rw [if_pos h];by_cases h2:(0<=i/\i<0+m/2)\/(m-m/2<=i/\i<m)
  ·rw [if_pos h2,show 0+m-1-i=m-1-i by omega]
  ·rw [if_neg h2,show m-1-i=i by omega]
 ·rw [if_neg h,if_neg Oo]
theorem Dsc.rev{p:Array Nat}{m:Nat}(h:Dsc lt p m)(hm:m<=p.size):xY lt (kas_rev p 0 m) m:=λa b d c=>by
 rw [QQ hm,QQ hm,if_pos Oo,if_pos c];exact h _ _ Oo Oo
theorem NT(O:FV n lt){p:Array Nat}(g:gB n p)(hn:2<=n):dQ n lt (λr=>gB n r.2/\1<=r.1/\r.1<=n/\xY lt r.2 r.1) (kas_count n p):=by
 unfold kas_count;refine (CG O g (n-1) 1 (aG _) Oo xY.one).bind λk ⟨h,D,c,y⟩=>?_;split
 ·exact ⟨g,h,by show k<=n;omega,c⟩
 ·rename_i hk
  have l:k≠n:=λe=>hk (by simp [e]);split
  ·refine ⟨g.bd Oo _,g.bd Oo _,?_⟩;rw [c 0 (k-1) Oo Oo];exact ⟨g,h,by show k<=n;omega,c⟩
  ·have s:k=1:=Oo;subst s;unfold kas_descPart;have x:Dsc lt p 2:=λa b o B=>by
    have e:a=0/\b=1:=Oo;rw [e.1,e.2];exact y Oo
   refine (FF O g (n-2) 2 Oo Oo x).bind λr ⟨f,j,u,z,i⟩=>?_;obtain ⟨C,m,q⟩:=r;dsimp only at f j u z i ⊢;subst f j;rw [if_neg Dd];unfold kas_tail3;have I:=g.size;exact (CG O (g.rev 0 m) (n-m) m Oo Oo (i.rev Oo)).bind λd ⟨G,A,w,_⟩=>⟨g.rev 0 m,(show 1<=d by omega),(show d<=n by omega),w⟩
theorem sF(O:FV n lt){p:Array Nat}(g:gB n p){k:Nat}(hk:k<n)(h:xY lt p k):∀(f l r:Nat),l<=r->r<=k->r-l<=f->(∀a,a<l->lt (p.getD a 0) (p.getD k 0)=true)->(∀a,r<=a->a<k->lt (p.getD k 0) (p.getD a 0)=true) ->
  dQ n lt (λm=>m<=k/\(∀a,a<m->lt (p.getD a 0) (p.getD k 0)=true)/\∀a,m<=a->a<k->lt (p.getD k 0) (p.getD a 0)=true) (kas_place p k f l r)
 | 0,l,r,h1,h2,h3,h4,h5=>⟨Oo,h4,λa q1 q2=>h5 a Oo q2⟩
 | f+1,l,r,h1,h2,h3,h4,h5=>by
  unfold kas_place;split
  ·exact ⟨Oo,h4,λa q1 q2=>h5 a Oo q2⟩
  ·refine ⟨g.bd Oo _,g.bd Oo _,?_⟩;cases e:lt (p.getD k 0) (p.getD ((l+r)/2) 0) with
   | true =>
    refine (show dQ n lt _ (kas_place p k f l ((l+r)/2)) from ?_);refine sF O g hk h f l ((l+r)/2) Oo Oo Oo h4 λa q1 q2=>?_;by_cases q:a=(l+r)/2
    ·rw [q];exact e
    ·exact O.tra _ _ _ e (h _ _ Oo q2)
   | false =>
    refine (show dQ n lt _ (kas_place p k f ((l+r)/2+1) r) from ?_);have e2:=O.tot _ _ (g.bd Oo _) (g.bd Oo _) (g.ne hk Oo Oo) e;refine sF O g hk h f ((l+r)/2+1) r Oo Oo Oo (λa q1=>?_) h5;by_cases q:a=(l+r)/2
    ·rw [q];exact e2
    ·exact O.tra _ _ _ (h a ((l+r)/2) Oo Oo) e2
theorem TX{p:Array Nat}{k m i:Nat}(hk:k<p.size)(hm:m<=k):(bubble p k (k-m)).getD i 0=if i=m then p.getD k 0 else if m<i/\i<=k then p.getD (i-1) 0 else p.getD i 0:=by
 have e:=getElem?_bubble (xs:=p) hk (k-m) Oo i;have g:∀(q:Array Nat) (k:Nat),q.getD k 0=q[k]?.getD 0:=λq k=>by simp [Array.getD_eq_getD_getElem?]
 rw [g,e,g,g,g,show k-(k-m)=m by omega];by_cases h:i=m
 ·rw [if_pos h,if_pos h]
 ·rw [if_neg h,if_neg h];by_cases h2:m<i/\i<=k
  ·rw [if_pos h2,if_pos h2]
  ·rw [if_neg h2,if_neg h2]
theorem LP(O:FV n lt):∀(f:Nat) {p:Array Nat}(g:gB n p) (k:Nat),k+f=n->xY lt p k->dQ n lt (λp=>gB n p/\xY lt p n) (kas_bin f p k)
 | 0,p,g,k,hk,h=>⟨g,by rw [<-hk];exact h⟩
 | f+1,p,g,k,hk,h=>by
  unfold kas_bin;refine (sF O g Oo h k 0 k Oo Oo Oo (λa q=>Oo) (λa q1 q2=>Oo)).bind λm ⟨m1,m2,m3⟩=>?_;have hs:=g.size;refine LP O f (g.bub _ _) (k+1) Oo λa b c d=>?_;rw [TX Oo m1,TX Oo m1];by_cases ha:a=m
  ·rw [if_pos ha,if_neg Oo,if_pos Oo];exact m3 _ Oo Oo
  ·rw [if_neg ha];by_cases hb':b=m
   ·rw [if_pos hb',if_neg Oo];exact m2 a Oo
   ·rw [if_neg hb'];by_cases q1:m<a/\a<=k
    ·rw [if_pos q1,if_pos Oo];exact h _ _ Oo Oo
    ·rw [if_neg q1];by_cases q2:m<b/\b<=k
     ·rw [if_pos q2];exact h _ _ Oo Oo
     ·rw [if_neg q2];exact h _ _ c Oo
theorem QG(O:FV n lt)(hn:2<=n):dQ n lt (λp=>gB n p/\xY lt p n) (kas_sort n):=by
 unfold kas_sort;refine (NT O (Array.Perm.refl _) hn).bind λr ⟨a,c,d,b⟩=>?_;split
 ·rename_i q
  rw [Nat.max_eq_left c];exact LP O _ a _ Oo b
 ·rename_i q
  have e:r.1=n:=Oo;exact ⟨a,e ▸ b⟩
end
end HT
namespace L2
open PySem PySem.Spec PySem.W PyProof.Rows HT
theorem IR{x:V}{xs:List V}{us:List Value}(r:dS (x::xs) us):∃u us',us=u::us'/\dO x u/\dS xs us':=by
 cases r with
 | cons h t=>exact ⟨_,_,rfl,h,t⟩
def EQ(fin:Bool):List Int->List Int->Bool
 | x::a,y::b=>if x=y then EQ fin a b else decide (x<y)
 | _,_=>fin
def nH(a b:List Int):Bool:=EQ (decide (a.length<b.length)) a b
theorem wE(a:List Int):nH a []=false:=by
 unfold nH;cases a <;> rfl
theorem BO(y:Int)(b:List Int):nH [] (y::b)=true:=by unfold nH;rfl
theorem BP(x y:Int)(a b:List Int):nH (x::a) (y::b)=if x=y then nH a b else decide (x<y):=by
 show (if x=y then EQ (decide ((x::a).length<(y::b).length)) a b else decide (x<y))=_;rw [bV,bV,show decide (a.length+1<b.length+1)=decide (a.length<b.length) by simp]
 rfl
theorem JY:∀{a b:List Int},a≠b->nH a b=false->nH b a=true
 | [],[],h,_=>absurd rfl h
 | [],y::b,_,e=>by rw [BO] at e;cases e
 | x::a,[],_,_=>BO _ _
 | x::a,y::b,h,e=>by
  rw [BP] at e ⊢;by_cases q:x=y
  ·subst q;rw [if_pos rfl] at e ⊢;exact JY (λz=>h (by rw [z])) e
  ·rw [if_neg q] at e;rw [if_neg (Ne.symm q)];have:=of_decide_eq_false e;exact bY Oo
theorem BM:∀{a b c:List Int},nH a b=true->nH b c=true->nH a c=true
 | a,b,[],_,h=>by rw [wE] at h;cases h
 | [],b,z::c,_,_=>BO _ _
 | x::a,[],z::c,h,_=>by rw [wE] at h;cases h
 | x::a,y::b,z::c,h1,h2=>by
  rw [BP] at h1 h2 ⊢;by_cases q1:x=y
  ·subst q1;rw [if_pos rfl] at h1;by_cases q2:x=z
   ·subst q2;rw [if_pos rfl] at h2 ⊢;exact BM h1 h2
   ·rw [if_neg q2] at h2 ⊢;exact h2
  ·rw [if_neg q1] at h1;have h1:=of_decide_eq_true h1;by_cases q2:y=z
   ·subst q2;rw [if_neg q1];exact bY h1
   ·rw [if_neg q2] at h2;have h2:=of_decide_eq_true h2;rw [if_neg Oo];exact bY Oo
theorem BN{a:List Int}:nH a a=false:=by
 induction a with
 | nil=>exact wE _
 | cons x a ih=>rw [BP,if_pos rfl];exact ih
theorem EO:∀{l m:List (List Int)},l.Pairwise (λa b=>nH a b=true)->m.Pairwise (λa b=>nH a b=true)->(∀x,x∈l↔x∈m)->l=m
 | [],[],_,_,_=>rfl
 | [],y::m,_,_,h=>by have:=(h y).mpr (aR ..);cases this
 | x::l,[],_,_,h=>by have:=(h x).mp (aR ..);cases this
 | x::l,y::m,h1,h2,h=>by
  obtain ⟨c,f⟩:=List.pairwise_cons.mp h1;obtain ⟨d,i⟩:=List.pairwise_cons.mp h2;have e:x=y:=by
   rcases bE.mp ((h x).mp (aR ..)) with q | q
   ·exact q
   ·rcases bE.mp ((h y).mpr (aR ..)) with r | r
    ·exact r.symm
    ·have:=BM (d x q) (c y r);rw [BN] at this;cases this
  subst e;rw [EO f i λz=>?_];constructor
  ·intro q;rcases bE.mp ((h z).mp (aM _ q)) with r | r
   ·subst r;have:=c z q;rw [BN] at this;cases this
   ·exact r
  ·intro q;rcases bE.mp ((h z).mpr (aM _ q)) with r | r
   ·subst r;have:=d z q;rw [BN] at this;cases this
   ·exact r
abbrev JX(cs:List (List Int)):Nat->Nat->Bool:=λi j=>nH (cs.getD i []) (cs.getD j [])
theorem aA6{cs:List (List Int)}(h:cs.Nodup):FV cs.length (JX cs):=⟨λi j c f ne e=>JY (λz=>by
  have a:cs.getD i []=cs[i]:=by simp [c]
  have l:cs.getD j []=cs[j]:=by simp [f]
  rw [a,l] at z;exact ne ((List.getElem_inj h).mp z)) e,λi j k d b=>BM d b⟩
section
variable{prog:Program}{w:World}{A:Around}{E:Value->Shared->Prop}{s:Shared}{Q:Bool->Shared->Prop}
theorem tP{fin:Bool}:∀{a b:List Int}{us vs:List Value}{i:Nat},dS (a.map V.int) us->dS (b.map V.int) vs->Q (EQ fin a b) s->KatLex prog w A true fin Q (us.zip vs) i s
 | [],b,us,vs,i,ha,hb,q=>by cases ha;exact kat_nil (by unfold EQ at q;exact q)
 | x::a,[],us,vs,i,ha,hb,q=>by
  cases hb;cases us with
  | nil=>exact kat_nil (by unfold EQ at q;exact q)
  | cons u us=>exact kat_nil (by unfold EQ at q;exact q)
 | x::a,y::b,us,vs,i,ha,hb,q=>by
  rw [aU] at ha hb;obtain ⟨u,us',rfl,⟨t,rfl⟩,ra⟩:=IR ha;obtain ⟨v,d,rfl,⟨e,rfl⟩,c⟩:=IR hb;rw [List.zip_cons_cons];refine kat_cons (wpAny_eqBool_int ?_);unfold EQ at q;by_cases h:x=y
  ·rw [if_pos h] at q;rw [show (x == y)=true by simp [h]];exact kat_yes (tP ra c q)
  ·rw [if_neg h] at q;rw [show (x == y)=false by simp [h]];refine kat_no ?_;cases (true&&i == 0) with
   | true=>exact oneLt_int q
   | false=>exact kat_one _ _ (lt_int q)
def ZX(h:Heap)(v:Value)(c:List Int):Prop:=∃b its,v=.ref b/\IsTup h b (List.toArray its)/\dS (c.map V.int) its/\c≠[]
abbrev iY(h:Heap):List Value->List (List Int)->Prop:=Paired (ZX h)
theorem iY.get{h:Heap}:∀{vs:List Value}{cs:List (List Int)}{i:Nat},iY h vs cs->i<vs.length->ZX h (vs.getD i Value.none) (cs.getD i [])
 | _,_,_,.nil,hi=>by simp at hi
 | _,_,0,.cons t r,hi=>t
 | v::vs,c::cs,i+1,.cons t r,hi=>by
  have:=iY.get (i:=i) r (by simpa using hi);simpa using this
theorem iY.firsts{h:Heap}:∀{vs:List Value}{cs:List (List Int)},iY h vs cs->∃fs,KatTups h vs fs/\fs.length=vs.length/\∀v∈fs,∃i t,v=Value.int i t
 | _,_,.nil=>⟨[],KatTups.nil,rfl,λv hv=>by cases hv⟩
 | v::vs,c::cs,.cons t r=>by
  obtain ⟨fs,h1,h2,h3⟩:=iY.firsts r;obtain ⟨b,d,rfl,⟨o,f,e,n,hd⟩,hv,a⟩:=t;cases c with
  | nil=>exact absurd rfl a
  | cons x c =>
   rw [aU] at hv;obtain ⟨u,j,rfl,⟨t,rfl⟩,_⟩:=IR hv;exact ⟨.int x t::fs,KatTups.cons f e hd (by simp) h1,by simp [h2],λv hv=>by
    rcases bE.mp hv with rfl | hv
    ·exact ⟨_,_,rfl⟩
    ·exact h3 v hv⟩
theorem iY.keep{h h':Heap}(k:∀b o,h.get? b=some o->o.cls=.type "tuple" -> h'.get? b=some o):∀{vs:List Value}{cs:List (List Int)},iY h vs cs->iY h' vs cs
 | _,_,.nil=>.nil
 | _,_,.cons ⟨b,its,e,⟨o,ho,hc,hd⟩,hv,hne⟩ r=>.cons ⟨b,its,e,⟨o,k b o ho hc,hc,hd⟩,hv,hne⟩ (iY.keep k r)
theorem QH{n:Nat}{lt:Nat->Nat->Bool}(hn:2<=n):dQ n lt (λp=>gB n p/\(FV n lt->xY lt p n)) (kas_sort n):=by
 by_cases O:FV n lt
 ·exact dQ.mono (λp h=>⟨h.1,λ_=>h.2⟩) (QG O hn)
 ·exact dQ.mono (λp h=>⟨h,λz=>absurd z O⟩) (UC Oo)
theorem MO{a:Addr}{vs:List Value}{cs:List (List Int)}{n:Nat}{P:PySem.Fin->Shared->Prop}(ho:s.heap.get? a=some (seqObj "list" vs.toArray n))(ht:iY s.heap vs cs)(h64:vs.length<64)
  (h:∀p:Array Nat,gB vs.length p->(FV vs.length (JX cs)->xY (JX cs) p vs.length)->P (.done (.ret .none)) { s with heap:=sortedHeap s.heap a vs (List.toArray (p.toList.map λi=>vs.getD i Value.none)) }) :
  wpAny (model prog w) A (Builtin.«list.sort» ⟨[.ref a],[]⟩) P E s:=by
 rw [list_sort_plain];have Z:a<s.heap.objs.size:=bD ho;refine wpAny_bind (listItems_at ho rfl ?_);refine wpAny_bind (listUpdate_at ho rfl ?_ (by rw [bG,sizeLine_eq];omega) (bS _));obtain ⟨J,B⟩:∃J,(s.heap.update a (Obj.mapSeq λ_=>#[])).get? a=some (seqObj "list" #[] J):=⟨_,get?_update_seq ho (λ_=>#[])⟩;refine wpAny_bind (seqEpoch_at B rfl ?_);refine wpAny_bind (wpAny_newTuple ?_ (by show vs.length<=_;rw [sizeLine_eq];omega));refine wpAny_bind (wpAny_newList ?_ (bS _));refine wpAny_holding ?_;have d:(((s.heap.update a (Obj.mapSeq λ_=>#[])).push (seqObj "tuple" vs.toArray 0)).push (seqObj "list" #[] 0)).get? a=some (seqObj "list" #[] J):=by
  rw [Heap.get?_push_ne _ _ _ (by rw [size_push',Heap.size_update];exact dD (Nat.lt_succ_of_lt Z)),Heap.get?_push_ne _ _ _ (by rw [Heap.size_update];exact dD Z)];exact B
 show wpAny (model prog w) A _ P E { s with heap:=((s.heap.update a (Obj.mapSeq λ_=>#[])).push (seqObj "tuple" vs.toArray 0)).push (seqObj "list" #[] 0) };dsimp only;have u:∀c:SortSt,∀p:Array Nat,gB vs.length p->(FV vs.length (JX cs)->xY (JX cs) p vs.length)->(arrOf c).map (·.2)=List.toArray (p.toList.map λi=>vs.getD i Value.none) ->
   P (.done (.ret .none)) { s with heap:=sortedHeap s.heap a vs ((arrOf c).map (·.2)) }:=by
  intro c p x ho ν;rw [ν];exact h p x ho
 have l:iY (((s.heap.update a (Obj.mapSeq λ_=>#[])).push (seqObj "tuple" vs.toArray 0)).push (seqObj "list" #[] 0)) vs cs:=ht.keep λb o m α=>by
  have L:b≠a:=λe=>by
   subst e;rw [ho] at m;cases m;exact absurd (show Value.type "list" = Value.type "tuple" from α) Dd
  exact aD _ (aD _ (by rw [Heap.get?_update_ne _ _ _ _ L];exact m))
 by_cases h2:vs.toArray.size<2
 ·rw [if_pos h2,if_pos h2];refine wpAny_bind (wpAny_pure ?_);rw [StateT.run_pure];refine wpAny_bind (wpAny_pure ?_);dsimp only;refine wpAny_bind (seqEpoch_at d rfl ?_);refine wpAny_bind (listUpdate_at d rfl ?_ (hsz2:=by rw [Array.size_map];show (pairsOf vs).size<=_;rw [pairsOf_size,sizeLine_eq];omega));simp only [bne_self_eq_false,Bool.false_eq_true,if_false];refine wpAny_pure (u (SortSt.mk' general' (vs.toArray.zip vs.toArray) #[] 7 none) (List.toArray (List.range vs.length)) (Array.Perm.refl _) (λ_ a b ρ φ=>by rw [bG] at h2;omega) ?_);have e:=kat_snds (ks:=vs) (vs:=vs) (st:=SortSt.mk' general' (vs.toArray.zip vs.toArray) #[] 7 none) (p:=List.toArray (List.range vs.length)) rfl (by
   have e:=kas_range (vs.toArray.zip vs.toArray);rw [show (vs.toArray.zip vs.toArray).size=vs.length by simp] at e;exact e.symm)
  exact e
 ·rw [if_neg h2,if_neg h2];have y:2<=vs.length:=by rw [bG] at h2;omega
  obtain ⟨fs,μ,ψ,ι⟩:=l.firsts;refine wpAny_bind (kat_kind (T:=.type "int") μ Oo (λv D=>?_) rfl ?_)
  ·obtain ⟨i,t,rfl⟩:=ι v D;exact .now
  refine wpAny_bind (wpAny_mono (kat_run (ks:=vs) (vs:=vs) (G:=λp z=>z={ s with heap:=((s.heap.update a (Obj.mapSeq λ_=>#[])).push (seqObj "tuple" vs.toArray 0)).push (seqObj "list" #[] 0) }/\gB vs.length p/\(FV vs.length (JX cs)->xY (JX cs) p vs.length))
   (Q:=λc z=>z={ s with heap:=((s.heap.update a (Obj.mapSeq λ_=>#[])).push (seqObj "tuple" vs.toArray 0)).push (seqObj "list" #[] 0) }/\failedOf c=none/\∃p:Array Nat,p.size=vs.length/\(gB vs.length p/\(FV vs.length (JX cs)->xY (JX cs) p vs.length))/\arrOf c=p.map (kas_item (vs.toArray.zip vs.toArray)))
   rfl y h64 (λδ c z κ γ ο W=>⟨W.1,ο,δ,κ,W.2,γ⟩)
   (dQ.wp (n:=vs.length) (lt:=JX cs) (R:=λp=>gB vs.length p/\(FV vs.length (JX cs)->xY (JX cs) p vs.length)) (λi j C ε ξ hC=>?_) (λp x=>⟨rfl,x⟩) (QH y))) ?_ λ_ _ e=>e)
  ·obtain ⟨b,ζ,N,⟨o,m,α,τ,hd⟩,D,_⟩:=l.get ε;obtain ⟨υ,X,S,⟨χ,M,η,ω,I⟩,r,_⟩:=l.get ξ;unfold kas_ask;rw [N,S];refine kat_lt m hd M I (tP D r ?_);have U:=D.length;have β:=r.length;rw [aC] at U β;rw [bG,bG,<-U,<-β];exact hC
  rintro ⟨⟨⟩,c⟩ z ⟨rfl,θ,p,x,Y,O⟩;dsimp only;have f:=kat_snds rfl O;refine wpAny_bind (seqEpoch_at d rfl ?_);refine wpAny_bind (listUpdate_at d rfl ?_ (hsz2:=by rw [f,bG,aC,Array.length_toList,x,sizeLine_eq];omega));rw [θ];simp only [bne_self_eq_false,Bool.false_eq_true,if_false];exact wpAny_pure (u c p Y.1 Y.2 f)
end
theorem IU{X:Cx}{pins:List (Addr × Obj)}{σ:St}{H:Hp}{s:Shared}(I:cH X pins σ H s):∀{cs:List (List Int)}{ys:List V}{us:List Value},aZ H (cs.map λc=>PyData.tuple (c.map .int)) ys->(∀c∈cs,c≠[])->dS ys us->iY s.heap us cs
 | [],ys,us,r,hc,v=>by
  unfold aZ at r;cases (show ys=[] from r);cases v;exact .nil
 | c::cs,ys,us,r,hc,v=>by
  rw [aU] at r;unfold aZ at r;obtain ⟨y,ys',rfl,r1,r2⟩:=r;obtain ⟨u,w,rfl,rv,n⟩:=IR v;refine .cons ?_ (IU I r2 (λc h=>hc c (aM _ h)) n);unfold cB at r1;obtain ⟨a,f,rfl,i,b⟩:=r1;cases rv;obtain ⟨d,j,pl,e⟩:=I.tuple (fO.of i);have o:f=c.map V.int:=by
   clear j i hc e
   induction c generalizing f with
   | nil=>unfold aZ at b;exact b
   | cons z c ih =>
    rw [aU] at b;unfold aZ at b;obtain ⟨x,p,rfl,l,m⟩:=b;cases (show x=V.int z from l);rw [ih _ m];rfl
  subst o;exact ⟨a,d,rfl,pl,j,hc c (aR ..)⟩
theorem IQ{ys:List V}{us:List Value}(v:dS ys us):∀ix:List Nat,(∀i∈ix,i<ys.length)->dS (ix.map λi=>ys.getD i .non) (ix.map λi=>us.getD i Value.none)
 | [],_=>.nil
 | i::ix,h=>by
  have hi:=h i (aR ..);obtain ⟨u,c,b⟩:=v.get (i:=i) (x:=ys[i]) (by simp [hi]);refine .cons ?_ (IQ v ix λj d=>h j (aM _ d));have a:ys.getD i .non=ys[i]:=by simp [hi]
  have e:us.getD i Value.none=u:=by rw [aE,c];rfl
  show dO (ys.getD i .non) (us.getD i Value.none);rw [a,e];exact b
open Classical in
section
variable{X:Cx}{pins:List (Addr × Obj)}{σ:St}{H:Hp}{s:Shared}
end
section
variable{X:Cx}
end
end L2
namespace HT
open PySem PySem.Spec PyProof.Rows PySem.Builtin
theorem xJ:typeLookup (.type "tuple") "keys" = pure none:=am_miss_of_fast Kk
section
variable{prog:Program}{w:World}{A:Around}{E:Value->Shared->Prop}{s:Shared}
theorem NJ{a:Addr}{o:Obj}{xs:Array Value}{k:Nat}{Q:Option Value->Shared->Prop}(hx:s.heap.get? a=some o)(hc:o.cls=.type "tuple")(hdat:o.data=.seq xs k)(hd:o.dict=none)(hA:A.handled=none)
  (h:∀h' tk,(∀b u,s.heap.get? b=some u->h'.get? b=some u)->Q none { s with heap:=h',toks:=tk }):wpAny (model prog w) A (getAttr? (.ref a) "keys") Q E s:=by
 obtain ⟨c,p,m,r⟩:=o;simp only at hc hdat hd;subst hc hdat hd;obtain ⟨l,g,d,tk,n⟩:=s;have j:∀f,(⟨l,g,d,f,n⟩:Shared).TypeIs (.ref a) "tuple" := λ_=>⟨_,hx,rfl⟩;have D:=sub_AttributeError;have C:=F.slot_tuple_getattribute.lookup;have z:=F.slot_tuple_getattribute.bind (.ref a);have y:=am_tuple_getattr_none;unfold getAttr? getAttrBy? getAttrBy
 repeat (any_goals (first | assumption | exact j _ | ((with_reducible show wpAny _ _ (call (Value.builtin "tuple.__getattribute__") _ _) _ _ _);refine call_meets F.slot_tuple_getattribute (j _) am_entry_tuple_getattribute (F.args_tuple_getattribute_2 _ _) (meets_getattribute_miss_tuple a xs k r "keys" _ xJ Dd) ⟨hx,hA,λh' f e i=>?_⟩) | wp_step))
 obtain ⟨B,x,G⟩:=i.there;show wpAny _ _ (getattributeRaised _ _ _ _ _ _ _) _ _ _;unfold getattributeRaised
 repeat (any_goals (first | assumption | wp_step))
 exact h _ _ i.keeps
end
theorem pS:entryFor table "dict.update.loop" = some Builtin.«dict.update.loop» := entryFor_of_tree (by kernel_rfl)
theorem pO:plainId "dict.update.loop" = true:=Kk
section
variable{prog:Program}{w:World}{A:Around}{E:Value->Shared->Prop}{s:Shared}{K:Type}[DecidableEq K]{knd:HeapKind prog w K}
theorem UZ{d it t:Addr}{i:Nat}{items:Array Value}{R:Result->Shared->Prop}(hA:A.handled=none)(hit:s.heap.IsTupleIter it t i)(ht:s.heap.IsTuple t items)(hx:items[i]?=none)
  (h:∀h',Heap.ExtBut it s.heap h'->R (.ok (.ret .none)) { s with heap:=h' }) :
  codeAny (model prog w) A (.builtin "dict.update.loop" ⟨[.ref d,.ref it,rawInt i,.none],[]⟩) R s:=by
 refine codeAny_builtin pS ?_;rw [Around.under_plainId pO _];unfold Builtin.«dict.update.loop»;refine wpAny_bind (wpAny_pyNext_tuple_end hA hit ht hx λh' e=>?_);show wpAny _ _ (Dict.addKeywords d [] >>= λ_=>ret Value.none) _ _ _;exact wpAny_bind (wpAny_pure (wpAny_pure (h h' e)))
theorem xN{b:Addr}{its:Array Value}{Q:List Value->Shared->Prop}(hb:s.heap.IsTuple b its)(h:Q its.toList s):wpAny (model prog w) A (Dict.pairItems (.ref b)) Q E s:=by
 obtain ⟨o,a,c,n,hd⟩:=id hb;unfold Dict.pairItems;refine wpAny_bind (wpAny_typeOf hb.typeIs ?_);rw [if_pos Dd];exact wpAny_bind (wpAny_seqItems a hd (wpAny_pure h))
theorem PP{d it t b a:Addr}{i:Nat}{items:Array Value}{xs:List (K × Addr × Value)}{k:K}{v:Value}{R:Result->Shared->Prop}(hu:knd.room A.in1)(hit:s.heap.IsTupleIter it t i)(ht:s.heap.IsTuple t items)(hx:items[i]?=some (.ref b))
  (hb:s.heap.IsTuple b #[.ref a,v]) (nb:b≠it) (hk:∀h',(∀c o,c≠it->s.heap.get? c=some o->h'.get? c=some o)->knd.is h' k a/\h'.DictOfH knd d xs) (nd:d≠it) (hz:xs.length<=sizeLine)
  (h:∀h1 h' tk,(∀c o,c≠it->s.heap.get? c=some o->h1.get? c=some o)->Heap.SameBut d h1 h'->h'.DictOfH knd d (storedH xs k a v)->h'.IsTupleIter it t (i+1) ->
   codeAny (model prog w) A (.builtin "dict.update.loop" ⟨[.ref d,.ref it,rawInt ((i+1:Nat):Int),.none],[]⟩) R { s with heap:=h',toks:=tk }) :
  codeAny (model prog w) A (.builtin "dict.update.loop" ⟨[.ref d,.ref it,rawInt i,.none],[]⟩) R s:=by
 refine codeAny_builtin pS ?_;rw [Around.under_plainId pO _];unfold Builtin.«dict.update.loop»;refine wpAny_bind (wpAny_pyNext_tuple_item hit ht hx λh' m z=>?_);have f:∀c o,c≠it->s.heap.get? c=some o->h'.get? c=some o:=λc o B e=>(z.2 c B).trans e;refine wpAny_bind (wpAny_holding ?_);refine wpAny_bind (wpAny_tryCatch ?_);have p:h'.IsTuple b #[.ref a,v]:=by
  obtain ⟨o,u,r⟩:=hb;exact ⟨o,f b o nb u,r⟩
 refine xN (s:={ s with heap:=h' }) p ?_;show wpAny _ _ (holding [Value.ref a,v] (dictSet d (.ref a) v)) _ _ _;have l:=(hk h' f).2;refine wpAny_holding (wpAny_dictSet_heap (s:={ s with heap:=h' }) hu (hk h' f).1 l (λy n j=>?_) hz);refine wpAny_pure ⟨Code.quiet_builtin _ Kk,?_⟩;have x:=h h' y (s.toks+knd.draws k) f j n (by
  obtain ⟨o,u,r⟩:=m;exact ⟨o,(j.2 it (Ne.symm nd)).trans u,r⟩)
 rw [show ((i+1:Nat):Int)=(i:Int)+1 from Oo] at x;exact x
end
end HT
namespace L2
open PySem PySem.Spec PySem.W PyProof.Rows HT
def LV(H:Hp)(y:V)(p:List fD × V):Prop:=∃b a,y=.ref b/\H b=some (.tup [.ref a,p.2])/\H a=some (.tup (p.1.map kV))
section
variable{X:Cx}{pins:List (Addr × Obj)}{σ:St}{H:Hp}
theorem KT.isAll{P:Program}{w:World}{H:Hp}{h:Heap}(ok:nV P w H h){l:List (List fD × V)}{m:List (List fD × Addr × Value)}(q:KT H l m):∀x∈m,(tupleKind (eQ P w)).is h x.1 x.2.1:=by
 unfold KT at q
 induction q with
 | nil=>intro x a;exact nomatch a
 | @cons p q ps qs hq t ih =>
  intro x a;rcases bE.mp a with e | a
  ·subst e;exact wG ok (by rw [<-hq.1];exact hq.2.1)
  ·exact ih x a
theorem zH{D it t:Addr}{ys:List V}{R:Result->Shared->Prop}(hu:X.A.units+8<cLine)(hA:X.A.handled=none)(hD:H D=none)(ht:H t=some (.tup ys))(nit:it≠D) :
  ∀(rest:List (List fD × V)) (i:Nat) (kvs:List (List fD × V)) (s:Shared),cH X pins σ (upd H D (.dT kvs)) s->jA X pins (upd H D (.dT kvs)) it->s.heap.IsTupleIter it t i->Paired (LV H) (ys.drop i) rest->((kvs++rest).map (·.1)).Nodup->(kvs++rest).length<=1000 ->
   (∀s',cH X pins σ (upd H D (.dT (kvs++rest))) s'->R (.ok (.ret .none)) s')->codeAny (model X.prog X.w) X.A.in1 (.builtin "dict.update.loop" ⟨[.ref D,.ref it,rawInt i,.none],[]⟩) R s
 | [],i,kvs,s,I,fp,hit,pr,nd,hz,k=>by
  have ntD:t≠D:=λe=>by subst e;rw [hD] at ht;cases ht
  obtain ⟨Z,r,pl,_⟩:=I.tuple (fO.of (show upd H D (.dT kvs) t=some (.tup ys) by rw [cU ntD];exact ht));have hl:ys.length<=i:=by
   generalize hq:ys.drop i=l at pr;cases pr;exact List.drop_eq_nil_iff.mp hq
  have ψ:=r.length;rw [List.append_nil] at k;refine UZ hA hit pl (by rw [Array.getElem?_eq_none];simp;omega) λm e=>k _ ?_;exact I.turnedL (t':=s.toks) (fp:=[it]) (λb o f x=>e b o (by simpa using f) x) (λb f=>by
   cases (show b=it by simpa using f);exact fp)
 | p::rest,i,kvs,s,I,fp,hit,pr,nd,hz,k=>by
  have ntD:t≠D:=λe=>by subst e;rw [hD] at ht;cases ht
  obtain ⟨Z,r,pl,_⟩:=I.tuple (fO.of (show upd H D (.dT kvs) t=some (.tup ys) by rw [cU ntD];exact ht));generalize hq:ys.drop i=l at pr;cases pr with
  | @cons y _ ys' _ hy pr' =>
   obtain ⟨b,a,rfl,f,ζ⟩:=hy;have U:i<ys.length:=by
    by_cases h:i<ys.length
    ·exact h
    ·rw [List.drop_eq_nil_iff.mpr Oo] at hq;cases hq
   have γ:ys[i]?=some (.ref b):=by
    have:=List.drop_eq_getElem_cons U;rw [hq] at this;injection this with O P;rw [aB U,<-O]
   have L:ys.drop (i+1)=ys':=by
    have:=List.drop_eq_getElem_cons U;rw [hq] at this;injection this with O P;exact P.symm
   obtain ⟨u,β,ρ⟩:=r.get γ;cases ρ;have δ:b≠D:=λe=>by subst e;rw [hD] at f;cases f
   have W:a≠D:=λe=>by subst e;rw [hD] at ζ;cases ζ
   have C:upd H D (.dT kvs) b=some (.tup [.ref a,p.2]):=by rw [cU δ];exact f
   have B:upd H D (.dT kvs) a=some (.tup (p.1.map kV)):=by rw [cU W];exact ζ
   obtain ⟨itb,rb,κ,_⟩:=I.tuple (fO.of C);obtain ⟨ua,uv,rfl,ra,rv⟩:=aCb rb;cases ra;have ν:b≠it:=λe=>by have:=fp.1;rw [<-e,C] at this;cases this
   obtain ⟨z,Y,xs,j,o,es,ξ,O,P,τ,χ,h5⟩:=(show eM X.prog X.w (upd H D (.dT kvs)) s.heap D (.dT kvs) from I.hok D _ bH);have d:∀m J,(∀c o,c≠it->s.heap.get? c=some o->m.get? c=some o)->cH X pins σ (upd H D (.dT kvs)) { s with heap:=m,toks:=J }:=λm J n =>
    I.turnedL (t':=J) (fp:=[it]) (λb o f x=>n b o (by simpa using f) x) (λb f=>by
     cases (show b=it by simpa using f);exact fp)
   have ο:xs.length=kvs.length:=(Paired.length j).symm;refine PP (knd:=tupleKind (eQ X.prog X.w)) (xs:=xs) (k:=p.1) (v:=uv) (b:=b) (a:=a) (show _<_ by show X.A.in1.in1.units<cLine;exact bA (show X.A.in1.in1.units<=X.A.units+2 from aG _) Oo) hit pl (by simpa using β) κ ν (λm n=>⟨wG (d m s.toks n).hok B,o,es,ξ,n D o (Ne.symm nit) O,P,τ,χ,KT.isAll (d m s.toks n).hok j,h5⟩) (Ne.symm nit) Oo λα ω J n η ε G=>?_;have I1:=d α s.toks n;obtain ⟨q,θ,S,N,g2,υ,φ,_,g5⟩:=ε;have T:eT kvs p.1=none:=by
    rw [bR,aU] at nd;have M:=(List.nodup_append.mp nd).2.2;cases hv:eT kvs p.1 with
    | none=>rfl
    | some v=>exact absurd rfl (M _ (IS hv) p.1 (aR ..))
   have ι:(fP kvs p.1 p.2).length<=sizeLine:=by
    have h6:=iL kvs p.1 p.2;rw [aT,bV] at hz;have h7:(1000:Nat)<=sizeLine:=Dd;omega
   have I2:=lT (t':=J) (ob:=.dT (fP kvs p.1 p.2)) I1 (by rw [bH];exact True.intro) η ⟨q,N⟩ ⟨ι,Y,_,(KT.put (show KT (upd H D (.dT kvs)) kvs xs from j) p.1 B rv).keeps λc ys μ=>(by rw [cU (EG μ bH (λz=>nomatch z))];exact μ),q,θ,S,N,g2,υ,φ,g5⟩;rw [IT,DZ p.2 T] at I2;refine zH hu hA hD ht nit rest (i+1) (kvs++[p]) _ I2 ?_ G (by rw [L];exact pr') (by rw [List.append_assoc];exact nd) (by rw [List.append_assoc];exact hz) (by rw [List.append_assoc];exact k);refine ⟨?_,fp.2⟩;rw [cU nit];have:=fp.1;rw [cU nit] at this;exact this
@[irreducible] def BE:List V->Hp->VK->Prop:=λxs H Q=>∃(t:Addr) (ys:List V) (kvs:List (List fD × V)),xs=[.ref t]/\H t=some (.tup ys)/\Paired (LV H) ys kvs/\(kvs.map (·.1)).Nodup/\kvs.length<=1000/\∀D,H D=none->Q (.ref D) (upd H D (.dT kvs))
theorem rdcp{H:Hp}{Q:VK}{t:Addr}{ys:List V}{kvs:List (List fD × V)}(ht:H t=some (.tup ys))(pr:Paired (LV H) ys kvs)(nd:(kvs.map (·.1)).Nodup)(hz:kvs.length<=1000)(q:∀D H',H D=none->H' D=some (.dT kvs)->bC H H'->Q (.ref D) H'):BE [.ref t] H Q:=by
 unfold BE;exact ⟨t,ys,kvs,rfl,ht,pr,nd,hz,λD hD=>q D _ hD bH (bC.upd hD)⟩
theorem TK(hu:X.A.units+64<cLine)(hc:X.calm=true):iM X (.type "dict") BE:=by
 unfold BE;intro d s σ H β δ Q I r h;obtain ⟨t,ys,y,rfl,x,U,R,Y,q⟩:=h;obtain ⟨u,rfl,α⟩:=lK r;cases α;have O:=I.ok.hd hc;refine callType_codes (Q₁:=λp N=>p=.ref s.heap.objs.size/\N={ s with heap:=s.heap.push { cls:=.type "dict",data:=.dict #[] } }) F.kt_called_dict (F.kt_typeCall_dict_1 _) F.entry_dict_init (kt_code_dict_new _ ⟨rfl,rfl⟩) ?_;rintro p N ⟨rfl,rfl⟩;have hD:=I.hok.fresh (aG s.heap.objs.size);have I1:cH X d σ (upd H s.heap.objs.size (.dT [])) { s with heap:=s.heap.push { cls:=.type "dict",data:=.dict #[] } }:=I.laid (a:=s.heap.objs.size) (o:=.dT []) (t':=s.toks) (λ_ _ q=>aD _ q) (aG _) (FC s.heap I.big);have L:t≠s.heap.objs.size:=λe=>by subst e;rw [hD] at x;cases x
 have z:upd H s.heap.objs.size (.dT []) t=some (.tup ys):=by rw [cU L];exact x
 obtain ⟨⟨γ,P,f,J⟩,G,ζ,S,i,j,Z,m⟩:=(show eM X.prog X.w (upd H s.heap.objs.size (.dT [])) (s.heap.push { cls:=.type "dict",data:=.dict #[] }) t (.tup ys) from I1.hok t _ z);rw [f] at i;cases i;have c:(s.heap.push { cls:=.type "dict",data:=.dict #[] }).DictOf (eQ X.prog X.w) s.heap.objs.size []:=Heap.DictOf.new s.heap;refine ⟨c.typeIs,F.args_dict_init_2 _ _,?_⟩;unfold Builtin.«dict.__init__»;refine wpAny_bind ?_;unfold Builtin.Dict.selfAndRest;refine wpAny_bind (wpAny_notOrdered_dict c.typeIs ?_);show wpAny _ _ (pure (s.heap.objs.size,[Value.ref t])) _ _ _;refine wpAny_pure ?_;show wpAny _ _ (Builtin.Dict.updateFrom "dict.__init__" s.heap.objs.size (.ref t) [] .none) _ _ _;unfold Builtin.Dict.updateFrom;refine wpAny_bind (wpAny_typeOf (T := "tuple") ⟨_,f,j⟩ ?_);rw [if_pos Dd];refine wpAny_bind (NJ (s:={ s with heap:=s.heap.push { cls:=.type "dict",data:=.dict #[] } }) f j m J O λl n C=>?_);rw [if_pos (by rfl)];refine wpAny_bind (wpAny_rule ?_);refine wpAny_bind (wpAny_pyIter_tuple (s:={ s with heap:=l,toks:=n }) (items:=G.toArray) ⟨P,C t P f,j,Z,m⟩ ?_);refine wpAny_pure ⟨Code.quiet_builtin _ Kk,?_⟩;have I2:cH X d σ (upd H s.heap.objs.size (.dT [])) { s with heap:=l,toks:=n }:=I1.kept (t':=n) C;have I3:cH X d σ (upd H s.heap.objs.size (.dT [])) { s with heap:=l.push { cls:=.type "tuple_iterator",data:=.fields #[.ref t,.int 0 0] },toks:=n }:=I2.kept (t':=n) λb o e=>aD _ e
 have B:s.heap.objs.size<l.objs.size:=by
  obtain ⟨_,_,_,W,_⟩:=c;exact bD (C _ _ W)
 have M:upd H s.heap.objs.size (.dT []) l.objs.size=none:=I2.hok.fresh (aG _);refine zH (D:=s.heap.objs.size) (it:=l.objs.size) (t:=t) (ys:=ys) Oo O hD x (Nat.ne_of_gt B) y 0 [] _ I3 (I2.fpOk (aG _) M) ⟨_,bB _ rfl,rfl,rfl⟩ (by simpa using U) (by simpa using R) (by simpa using Y) λε I'=>⟨rfl,.ref _,_,I',rfl,?_⟩;rw [List.nil_append];exact q _ hD
end
end L2
namespace HT
open PySem PySem.Spec PyProof.Rows
section
variable{prog:Program}{w:World}{A:Around}{E:Value->Shared->Prop}{s:Shared}{it d:Addr}{es:Array DictEntry}{ep i:Nat}{od:Obj}
theorem KA{Q:Option Value->Shared->Prop}(hit:s.heap.IsKeyIter it d i es.size ep)(hod:s.heap.get? d=some od)(hdd:od.data=.dict es ep)(hi:i<es.size)
  (h:∀h',h'.IsKeyIter it d (i+1) es.size ep->Heap.SameBut it s.heap h'->Q (some es[i].key) { s with heap:=h' }):wpAny (model prog w) A (pyNext (.ref it)) Q E s:=by
 obtain ⟨⟨c0,n,l,o⟩,j,m,hd⟩:=id hit;simp only at m hd;subst m hd;have b:=hit.typeIs;unfold pyNext;refine wpAny_bind (wpAny_attempt (wpAny_callSpecial?_slot (name:=Str.ofString "__next__") b F.slot_dict_keyiterator_next (wpAny_call_entry F.slot_dict_keyiterator_next b F.entry_dict_keyiterator_next ?_ (F.args_dict_keyiterator_next_1 _))));have p:(Value.ref d == Value.none)=false:=rfl;have c:Builtin.Dict_items.ownsTuple "dict_keyiterator" = false:=Dd
 repeat (any_goals (first | assumption | (with_reducible refine wpAny_typeNameOfWhole_keyiter b ?_) | (with_reducible refine wpAny_isOneOf_keyiter b ?_) | (with_reducible refine wpAny_fieldsOf j rfl ?_) | (with_reducible refine wpAny_dictEntries hod hdd ?_) | (with_reducible refine wpAny_dictEpoch hod hdd ?_) | wp_step))
 rw [if_neg (show ¬((i:Int)<0) by omega),Int.toNat_natCast,Array.getElem?_eq_getElem hi];have a:(s.heap.update it (Obj.mapFields (·.setIfInBounds 1 (rawInt ((i:Int)+1))))).IsKeyIter it d (i+1) es.size ep :=
  ⟨_,Heap.get?_update_self _ j (Obj.isFreed_of_fields (Obj.data_mapFields rfl _)),(Obj.cls_mapFields ..).trans rfl,by rw [Obj.data_mapFields rfl];simp [rawInt]⟩
 have f:({ s with heap:=s.heap.update it (Obj.mapFields (·.setIfInBounds 1 (rawInt ((i:Int)+1)))) }:Shared).TypeIs (.ref it) "dict_keyiterator" := a.typeIs;have e:=h _ a (Heap.SameBut.update ..)
 repeat (any_goals (first | assumption | (with_reducible refine wpAny_typeNameOfWhole_keyiter b ?_) | (with_reducible refine wpAny_isOneOf_keyiter b ?_) | (with_reducible refine wpAny_isOneOf_keyiter f ?_) | (with_reducible refine wpAny_setField j rfl (by rw [c];simp) ?_) | wp_step))
 exact ⟨_,rfl,wpAny_pure e⟩
theorem RT{Q:Option Value->Shared->Prop}(hh:A.handled=none)(hit:s.heap.IsKeyIter it d i es.size ep)(hod:s.heap.get? d=some od)(hdd:od.data=.dict es ep)(hi:es.size<=i)
  (h:∀h',Heap.ExtBut it s.heap h'->Q none { s with heap:=h' }):wpAny (model prog w) A (pyNext (.ref it)) Q E s:=by
 obtain ⟨⟨c0,l,e,m⟩,f,j,hd⟩:=id hit;simp only at j hd;subst j hd;have c:=hit.typeIs;have n:(Value.ref d == Value.none)=false:=rfl;have a:Builtin.Dict_items.ownsTuple "dict_keyiterator" = false:=Dd;unfold pyNext;refine wpAny_bind (wpAny_attempt (wpAny_callSpecial?_slot (name:=Str.ofString "__next__") c F.slot_dict_keyiterator_next (wpAny_call_entry F.slot_dict_keyiterator_next c F.entry_dict_keyiterator_next ?_ (F.args_dict_keyiterator_next_1 _))))
 repeat (any_goals (first | assumption | (with_reducible refine wpAny_typeNameOfWhole_keyiter c ?_) | (with_reducible refine wpAny_isOneOf_keyiter c ?_) | (with_reducible refine wpAny_fieldsOf f rfl ?_) | (with_reducible refine wpAny_dictEntries hod hdd ?_) | (with_reducible refine wpAny_dictEpoch hod hdd ?_) | wp_step))
 rw [if_neg (show ¬((i:Int)<0) by omega),Int.toNat_natCast,Array.getElem?_eq_none hi]
 repeat (any_goals (first | assumption | (with_reducible refine wpAny_typeNameOfWhole_keyiter c ?_) | (with_reducible refine wpAny_setField f rfl (by rw [a];simp) ?_) | wp_step))
 simp only [raiseNew];refine wpAny_bind (wpAny_handled ?_);rw [show A.in1.handled=none from hh];refine wpAny_bind (wpAny_pure (wpAny_throw ?_));refine wpAny_bind (wpAny_isInstance (T := "StopIteration") (b:=true) ⟨_,bB _ rfl,rfl⟩ isSubtype_stop ?_);exact wpAny_pure (h _ (((Heap.SameBut.update ..).extBut.push _).push _))
theorem KC{Q:Value->Shared->Prop}(hd:(d == sysModules)=false)(hod:s.heap.get? d=some od)(hex:od.ExactDict)(hdd:od.data=.dict es ep)
  (hQ:Q (.ref s.heap.objs.size) { s with heap:=s.heap.push { cls:=.type "dict_keyiterator",data:=.fields #[.ref d,.int 0 0,.int es.size 0,.int ep 0] } }):wpAny (model prog w) A (pyIter (.ref d)) Q E s:=by
 have a:s.TypeIs (.ref d) "dict" := ⟨od,hod,hex.1⟩;refine wpAny_pyIter_slot a F.slot_dict_iter (wpAny_call_entry F.slot_dict_iter a F.entry_dict_iter ?_ (F.args_dict_iter_1 _));unfold Builtin.«dict.__iter__»;refine wpAny_bind ?_;unfold Builtin.Dict.dictSlotNone;refine wpAny_bind (wpAny_notOrdered_dict a ?_);show wpAny _ _ (pure (Value.ref d)) _ _ s;refine wpAny_pure ?_;have b:(d == sysModules)=false:=hd
 repeat (any_goals (first | assumption | (with_reducible refine wpAny_dictEntries hod hdd ?_) | (with_reducible refine wpAny_dictEpoch hod hdd ?_) | wp_step))
 exact ⟨_,rfl, "dict_keyiterator",_,⟨_,bB _ rfl,rfl⟩,F.slot_dict_keyiterator_next.lookup,hQ⟩
end
end HT
namespace L2
open PySem PySem.Spec PySem.W PyProof.Rows HT
section
variable{X:Cx}{pins:List (Addr × Obj)}{σ:St}{H:Hp}{s:Shared}
theorem pY{α β:Type}{R:α->β->Prop}:∀{l:List α}{m:List β}{i:Nat}{a:α},Paired R l m->l[i]?=some a->∃b,m[i]?=some b/\R a b
 | _,_,i,a,.nil,h=>by simp at h
 | _,_,0,a,.cons r t,h=>by
  cases (show _=a by simpa using h);exact ⟨_,rfl,r⟩
 | _,_,i+1,a,.cons r t,h=>by
  obtain ⟨b,h1,h2⟩:=pY t (by simpa using h);exact ⟨b,by simpa using h1,h2⟩
end
section
variable{X:Cx}{tg:Expr}
end
end L2
namespace HT
open PySem PySem.Spec PyProof.Rows PySem.W
section
variable{prog:Program}{w:World}{A:Around}{d:Addr}{o:Obj}{es:Array DictEntry}{ep:Nat}
theorem MB(hh:A.handled=none)(I:Addr)(hne:d≠I)(hdat:o.data=.dict es ep) :
  Walks prog w A I [I,d] [I] es.size (λi v=>∃hi:i<es.size,v=es[i].key) (λi h=>h.IsKeyIter I d i es.size ep/\h.get? d=some o) where
 sub:=λb c=>by simp at c;simp [c]
 frame:=λ_ _ _ a p=>⟨a.1.at λo e=>p I (by simp) o e,p d (by simp) o a.2⟩
 item:=λi s Q E hi a j=>KA a.1 a.2 hdat hi λn f l =>
  j _ n s.toks ⟨hi,rfl⟩ ⟨f,(l.2 d hne).trans a.2⟩ λb o c e=>(l.2 b (λh=>c (by simp [h]))).trans e
 done:=λs Q E a j=>RT hh a.1 a.2 hdat (aG _) λn m=>j n s.toks λb o c e=>m b o (λh=>c (by simp [h])) e
 self:=λ_ _ _ _ a j=>wpAny_pyIter_keyiter a.1 j
theorem XC(lo:(d == sysModules)=false)(hex:o.ExactDict)(hdat:o.data=.dict es ep):KdlSrc prog w "dict" d d es.size (λi v=>∃hi:i<es.size,v=es[i].key) (λh=>h.get? d=some o) where
 type:=λ_ a=>⟨o,a,hex.1⟩
 there:=λ_ a=>⟨bD a,bD a⟩
 keep:=λ_ _ a b=>b d (.inl rfl) o a
 notList:=Dd
 notTuple:=Dd
 hint:=λ_ _ _ _ a f=>kdl_hint_dict ⟨o,a,hex.1⟩ f
 iter:=λA s e a=>⟨_,_,λE Q c=>KC lo a hex hdat c,MB e _ (dD (bD a)) hdat,⟨_,bB _ rfl,rfl,rfl⟩,aD _ a⟩
end
end HT
namespace L2
open PySem PySem.Spec PySem.W PyProof.Rows HT
section
variable{prog:Program}{w:World}{A:Around}{E:Value->Shared->Prop}{s:Shared}
theorem FL{T:String}{r d:Addr}{n:Nat}{P:Nat->Value->Prop}{OK:Heap->Prop}{Q:List Value->Shared->Prop}(K:KdlSrc prog w T r d n P OK)(hh:A.handled=none)(hok:OK s.heap)(hn:n<=sizeLine)
  (hQ:∀h' tk (acc':Array Value),(∀b o,s.heap.get? b=some o->h'.get? b=some o)->ItemsOf P acc' n->Q acc'.toList { s with heap:=h',toks:=tk }) :
  wpAny (model prog w) A (collect (.ref r)) Q E s:=by
 have lt:=K.there _ hok;have p:(s.heap.push (seqObj "list" #[] 0)).get? s.heap.objs.size=some { cls:=.type "list",data:=.seq #[] 0 }:=bB _ rfl
 let G:Result->Shared->Prop:=λa z=>∃g m l e,a=.ok (.ret (.ref s.heap.objs.size))/\z={ s with heap:=g,toks:=m }/\(∀b o,s.heap.get? b=some o->g.get? b=some o)/\g.get? s.heap.objs.size=some { cls:=.type "list",dict:=none,data:=.seq l e,slots:=#[] }/\ItemsOf P l n
 have ext:=kdl_extend (A:=A) (s:={ s with heap:=s.heap.push (seqObj "list" #[] 0) }) (R:=G) K hh (K.keep _ _ hok λb _ o e=>aD _ e) s.heap.objs.size (Nat.ne_of_gt lt.1) (Nat.ne_of_gt lt.2) (.ref s.heap.objs.size) 0 p
  (λg m l e j h i=>⟨g,m,l,e,rfl,rfl,λb o z=>j b o (dD (bD z)) (aD _ z),h,i⟩) hn
 unfold collect;refine wpAny_bind (wpAny_runValue (codeAny_builtin entry_proto_collect' ?_));rw [Around.under_plainId PySem.F.plain_proto_collect _];refine wpAny_bind (m:=newList []) (wpAny_newList (wpAny_pure ⟨plainId_quiet PySem.F.plain_list_iadd _,codeAny_builtin entry_list_iadd' ?_⟩));rw [Around.under_plainId PySem.F.plain_list_iadd _];refine wpAny_mono ext (λu z y=>?_) λe z ⟨_,_,_,_,q,_⟩=>by cases q
 cases u with
 | done f=>obtain ⟨g,m,l,e,q,rfl,j,h,i⟩:=y;cases q;exact wpAny_bind (wpAny_load h (wpAny_pure (hQ g m l j i)))
 | again c=>exact ⟨y.1,codeAny_mono y.2 λq z ⟨g,m,l,e,eq,x,j,h,i⟩=>by subst eq x;exact wpAny_bind (wpAny_load h (wpAny_pure (hQ g m l j i)))⟩
theorem GT{x:Value}{Q:Value->Shared->Prop}
  (h:wpAny (model prog w) A.in1 (collect x) (λvs s1=>∃h1 tk cs,s1={ s with heap:=h1,toks:=tk }/\(∀b o,s.heap.get? b=some o->h1.get? b=some o)/\iY h1 vs cs/\vs.length<64 /\
   ∀(p:Array Nat) (h':Heap) (D:Addr) (c:Nat),gB vs.length p->(FV vs.length (JX cs)->xY (JX cs) p vs.length)->(∀b o,h1.get? b=some o->h'.get? b=some o)->h1.objs.size<=D->h'.get? D=some (seqObj "list" (List.toArray (p.toList.map λi=>vs.getD i Value.none)) c)->Q (.ref D) { s with heap:=h',toks:=tk }) E s) :
  wpAny (model prog w) A (call (.builtin "sorted") [x]) Q E s:=by
 refine Calls.call_function_entry kind_sorted plain_sorted entry_sorted (args_sorted1 _) ?_;unfold Builtin.«sorted»;refine wpAny_bind (m:=checkCount "sorted" 1 1 _) (wpAny_pure ?_);refine wpAny_bind (wpAny_mono h (λvs s1 ⟨h1,tk,cs,e,l,y,f,q⟩=>?_) λ_ _ e=>e);subst e;refine wpAny_bind (wpAny_newList ?_ (by rw [sizeLine_eq];omega));have a:(h1.push (seqObj "list" vs.toArray 0)).get? h1.objs.size=some (seqObj "list" vs.toArray 0):=bB _ rfl;have keep:∀b o,h1.get? b=some o->(h1.push (seqObj "list" vs.toArray 0)).get? b=some o:=λb o q=>aD _ q;show wpAny _ _ _ _ _ { s with heap:=h1.push (seqObj "list" vs.toArray 0),toks:=tk };refine wpAny_bind (wpAny_holding (wpAny_call_entry slot_list_sort ⟨_,a,rfl⟩ entry_list_sort ?body (args_list_sort _)));refine MO (s:={ s with heap:=h1.push (seqObj "list" vs.toArray 0),toks:=tk }) a (y.keep λb o n _=>keep b o n) f λp r B=>⟨_,rfl,wpAny_pure ⟨_,rfl,?_⟩⟩;unfold sortedHeap;have z:((h1.push (seqObj "list" vs.toArray 0)).update h1.objs.size (Obj.mapSeq λ_=>#[])).get? h1.objs.size=some (seqObj "list" #[] _):=get?_update_seq a (λ_=>#[]);have u:=aD (seqObj "list" #[] 0) (aD (seqObj "tuple" vs.toArray 0) z);refine q p _ h1.objs.size _ r B (λb o e=>?_) (aG _) (get?_update_seq u λ_=>List.toArray (p.toList.map λi=>vs.getD i Value.none));have j:b<h1.objs.size:=bD e;have d:b≠h1.objs.size:=dD j;rw [Heap.get?_update_ne _ _ _ _ d]
 exact aD _ (aD _ (by rw [Heap.get?_update_ne _ _ _ _ d];exact keep b o e))
end
theorem aC8{X:Cx}{pins:List (Addr × Obj)}{σ:St}{H:Hp}{s:Shared}(I:cH X pins σ H s){d:Addr}{kvs:List (List fD × V)}(e:H d=some (.dT kvs)):(d == sysModules)=false/\(kvs.map (·.1)).Nodup/\∃o,s.heap.get? d=some o/\o.ExactDict/\∃es ep,o.data=.dict es ep/\es.size=kvs.length /\
  ∀(i:Nat) (hi:i<es.size) p,kvs[i]?=some p->∃b,es[i].key=.ref b/\H b=some (.tup (p.1.map kV)):=by
 obtain ⟨z,hd,n,a,o,es,ep,u,y,B,f,j⟩:=(show eM X.prog X.w H s.heap d (.dT kvs) from I.hok d _ e);have h:es.size=kvs.length:=by
  have:=congrArg List.length f;rw [aC,<-Paired.length a] at this;simpa using this
 have m:kvs.map (·.1)=n.map (·.1):=by
  clear f j h e z
  induction a with
  | nil=>rfl
  | cons r t ih=>rw [aU,aU,r.1,ih]
 refine ⟨hd,m ▸ j,o,u,y,es,ep,B,h,λi hi p A=>?_⟩;obtain ⟨x,C,J,D,G⟩:=pY a A;have l:es.toList[i]?=some (entryOfKey (tupleKind (eQ X.prog X.w)) x):=by rw [f,aL,C];rfl
 have c:es[i]=entryOfKey (tupleKind (eQ X.prog X.w)) x:=by
  have:es.toList[i]?=some es[i]:=by simp [hi]
  rw [this] at l;injection l
 rw [c];exact ⟨x.2.1,rfl,D⟩
abbrev kyI(c:List Int):List fD:=c.map Sum.inl
theorem kyV(c:List Int):(kyI c).map kV=c.map V.int:=by rw [List.map_map];rfl
@[irreducible] def BC:List V->Hp->VK->Prop:=λxs H Q=>∃(d:Addr) (kvs:List (List fD × V)) (cs:List (List Int)),xs=[.ref d]/\H d=some (.dT kvs)/\kvs.map (·.1)=cs.map kyI/\(∀c∈cs,c≠[])/\cs.length<64 /\
 ∀q (ys:List V) (ds:List (List Int)) H',ds.Perm cs->ds.Pairwise (λa b=>nH a b=true)->H q=none->H' q=some (.lst ys)->aZ H' (ds.map λc=>PyData.tuple (c.map .int)) ys->bC H H'->Q (.ref q) H'
theorem rsrd{H:Hp}{Q:VK}{d:Addr}{kvs:List (List fD × V)}{cs:List (List Int)}(h:H d=some (.dT kvs))(hk:kvs.map (·.1)=cs.map kyI)(hc:∀c∈cs,c≠[])(hz:cs.length<64)
  (q:∀q (ys:List V) (ds:List (List Int)) H',ds.Perm cs->ds.Pairwise (λa b=>nH a b=true)->H q=none->H' q=some (.lst ys)->aZ H' (ds.map λc=>PyData.tuple (c.map .int)) ys->bC H H'->Q (.ref q) H'):BC [.ref d] H Q:=by
 unfold BC;exact ⟨d,kvs,cs,rfl,h,hk,hc,hz,q⟩
theorem XT{X:Cx}(hc:X.calm=true):iM X (.builtin "sorted") BC:=by
 unfold BC;intro U s σ H xs us Q I r h;obtain ⟨d,L,f,rfl,hq,M,ω,hz,q⟩:=h;obtain ⟨u,rfl,χ⟩:=lK r;cases χ;obtain ⟨O,α,o,τ,aa,es,ep,ο,ab,η⟩:=aC8 I hq;have lk:L.length=f.length:=by have:=congrArg List.length M;simpa using this
 refine GT (FL (XC O aa ο) (show X.A.in1.handled=none from I.ok.hd hc) τ (by rw [sizeLine_eq];omega) λJ ι Y kp C=>?_);obtain ⟨la,C⟩:=C;have I1:cH X U σ H { s with heap:=J,toks:=ι }:=I.kept kp;have ξ:∀(n:Nat) (l:List Value),l.length=n->∀(m:List (List Int)),m.length=n->(∀(i:Nat) v c,l[i]?=some v->m[i]?=some c->∃b,v=.ref b/\H b=some (.tup (c.map V.int)))->∃B:List V,dS B l/\aZ H (m.map λc=>PyData.tuple (c.map .int)) B:=by
  intro n
  induction n with
  | zero =>
   intro l ε m O _;cases l with
   | nil=>cases m with
    | nil=>exact ⟨[],.nil,aZ.nil⟩
    | cons _ _=>simp at O
   | cons _ _=>simp at ε
  | succ n ih =>
   intro l ε m O M;cases l with
   | nil=>simp at ε
   | cons v l=>cases m with
    | nil=>simp at O
    | cons c m =>
     obtain ⟨b,rfl,hb⟩:=M 0 v c rfl rfl;obtain ⟨B,δ,T⟩:=ih l (by simpa using ε) m (by simpa using O) λi v p J θ=>M (i+1) v p (by simpa using J) (by simpa using θ);have rb:∀c:List Int,aZ H (c.map PyData.int) (c.map V.int):=λc=>by
      induction c with
      | nil=>exact aZ.nil
      | cons x c ih=>exact aZ.cons (cB.int _) ih
     exact ⟨.ref b::B,.cons rfl δ,aZ.cons (cB.tup hb (rb c)) T⟩
 have G:Y.toList.length=f.length:=by rw [Array.length_toList,la,ab,lk]
 obtain ⟨B,δ,T⟩:=ξ f.length Y.toList G f rfl λi v c υ Z=>by
  obtain ⟨z,e⟩:=C i v (by rw [<-Array.getElem?_toList];exact υ);have hp:∃p,L[i]?=some p/\p.1=kyI c:=by
   have:(L.map (·.1))[i]?=some (kyI c):=by rw [M,aL,Z];rfl
   rw [aL] at this;obtain ⟨p,J,θ⟩:=Option.map_eq_some_iff.mp this;exact ⟨p,J,θ⟩
  obtain ⟨p,ac,ν⟩:=hp;obtain ⟨b,k1,k2⟩:=η i z p ac;rw [ν,kyV] at k2;exact ⟨b,by rw [e,k1],k2⟩
 have β:f.Nodup:=by
  rw [M] at α;exact List.Pairwise.of_map _ (λa b h e=>h (by rw [e])) α
 have P:B.length=f.length:=by rw [T.len,aC]
 refine ⟨J,ι,f,rfl,kp,IU I1 T ω δ,Oo,λw h' D c hg ho keep hD γ=>?_⟩;have y:w.toList.Perm (List.range f.length):=by
  have:=(Array.perm_iff_toList_perm.mp hg);rw [<-G];simpa using this
 have R:∀i∈w.toList,i<B.length:=λi z=>by
  have:=y.mem_iff.mp z;rw [P];simpa using this
 have κ:(w.toList.map λi=>B.getD i .non).length=f.length:=by rw [aC,y.length_eq,fX]
 have hn:=I1.hok.fresh hD;have sm:bC H (upd H D (.lst (w.toList.map λi=>B.getD i .non))):=bC.upd hn;refine ⟨.ref D,upd H D (.lst (w.toList.map λi=>B.getD i .non)),I1.laid (t':=ι) keep hD ⟨by rw [κ,sizeLine_eq];omega,_,c,IQ δ _ R,γ⟩,rfl,?_⟩;have ha:=ho (G ▸ aA6 β);have W:=hg.size;have μ:(w.toList.map λi=>f.getD i []).Perm f:=by
  have J:=y.map λi=>f.getD i [];have e:(List.range f.length).map (λi=>f.getD i [])=f:=by
   apply List.ext_getElem?;intro i;rw [aL];by_cases z:i<f.length
   ·rw [gA z,aB z,Option.map_some,aE,aB z];rfl
   ·rw [dF (by simpa using z),dF Oo];rfl
  rwa [e] at J
 refine q D _ (w.toList.map λi=>f.getD i []) _ μ ?_ hn bH ?_ sm
 ·rw [List.pairwise_map,List.pairwise_iff_getElem];intro i j z φ ζ;have ψ:i<w.size:=by simpa using z
  have S:j<w.size:=by simpa using φ
  have υ:w.toList[i]=w.getD i 0:=by rw [Array.getElem_toList];exact (by simp [Array.getD,ψ]:w.getD i 0=w[i]).symm
  have Z:w.toList[j]=w.getD j 0:=by rw [Array.getElem_toList];exact (by simp [Array.getD,S]:w.getD j 0=w[j]).symm
  rw [υ,Z];exact ha i j ζ (by rw [<-W];exact S)
 ·have ρ:∀N:List Nat,(∀i∈N,i<f.length)->aZ H ((N.map λi=>f.getD i []).map λc=>PyData.tuple (c.map .int)) (N.map λi=>B.getD i .non):=λN=>by
   induction N with
   | nil=>exact λ_=>aZ.nil
   | cons i N ih =>
    intro h;have z:=h i (aR ..);have hd:(f.map λc=>PyData.tuple (c.map .int))[i]?=some (PyData.tuple ((f.getD i []).map .int)):=by
     rw [aL,aE,aB z];rfl
    obtain ⟨x,hx,χ⟩:=T.get' hd;have Z:B.getD i .non=x:=by rw [aE,hx];rfl
    refine aZ.cons ?_ (ih λj φ=>h j (aM _ φ));show cB H _ (B.getD i .non);rw [Z];exact χ
  exact (ρ w.toList λi z=>by rw [<-P];exact R i z).same sm
end L2
namespace HT
open PySem PySem.Spec PyProof.Rows PySem.W
section
variable{prog:Program}{w:World}{A:Around}{E:Value->Shared->Prop}{s:Shared}{it d:Addr}{es:Array DictEntry}{ep i:Nat}{od:Obj}
end
end HT
namespace L2
open PySem PySem.Spec PySem.W PyProof.Rows HT
section
variable{X:Cx}{tg:Expr}
end
section
variable{X:Cx}{o e:Expr}{apos cpos:Pos}{td ty:TE}
end
end L2
namespace L2
open PySem
section
variable{js:List Nat}{te:TE}{tc:TT}{σ:St}{H:Hp}{Q:VK}
end
end L2
namespace L2
open PySem PySem.Spec PyProof.Rows
section
variable{X:Cx}{pins:List (Addr × Obj)}{σ:St}{H:Hp}{s:Shared}{scope:Scope}{x x2:Str}{N':List Str}{js:List Nat}{fp:List Addr}
end
section
variable{X:Cx}{pins:List (Addr × Obj)}{σ:St}{H:Hp}{s:Shared}{scope:Scope}{x:Str}{N':List Str}{js:List Nat}{fp:List Addr}{elt iter:Expr}{px pos:Pos}{tg:Expr}{x2:Str}{te:TE}
end
section
variable{X:Cx}{scope:Scope}{x x2 y:Str}{N':List Str}{js:List Nat}{elt iter tg:Expr}{py pos spos:Pos}{te:TE}{wi:TI}{i:Nat}
end
end L2
namespace HT
open PySem PySem.Spec PyProof.Rows
section
variable{prog:Program}{w:World}{A:Around}{E:Value->Shared->Prop}{s:Shared}{d:Addr}{o:Obj}{es:Array DictEntry}{ep:Nat}
theorem DR(lo:(d == sysModules)=false)(hdat:o.data=.dict es ep):MeetsIn prog w (Builtin.«dict.__len__» ⟨[.ref d],[]⟩) (λ_ R s=>s.heap.get? d=some o/\R (.ok (.ret (.int es.size s.toks))) { s with toks:=s.toks+1 }) :=
 .of_wp λA R s ⟨b,a⟩=>by
  show wpAny _ _ (dictSize d >>= _) _ _ s;unfold dictSize;refine wpAny_bind (wpAny_bind (wpAny_dictEntries b hdat (wpAny_pure (show wpAny _ _ (Builtin.Dict.pendingCount d >>= _) _ _ s from wpAny_bind (wpAny_pendingCount_other lo (wpAny_ret_mkInt ?_))))));rw [Nat.add_zero];exact a
theorem XB{Q:Value->Shared->Prop}(lo:(d == sysModules)=false)(ho:s.heap.get? d=some o)(hex:o.ExactDict)(hdat:o.data=.dict es ep)(hz:es.size<=sizeLine)
  (hQ:∀t s',s'={ s with toks:=s.toks+1+1 }->Q (.int es.size t) s'):wpAny (model prog w) A (call (.builtin "len") [.ref d]) Q E s:=by
 have a:s.TypeIs (.ref d) "dict" := ⟨o,ho,hex.1⟩;have c:(es.size:Int)<2^63:=by
  have b:sizeLine<2^63:=Dd;omega
 refine Calls.call_function_entry kind_len plain_len entry_len (args_len1 _) ?_;unfold Builtin.«len»;refine wpAny_bind (m:=oneArg "len" _) (wpAny_pure (wpAny_bind (m:=callSpecial? (.ref d) (Str.ofString "__len__")) (wpAny_callSpecial?_slot (name:=Str.ofString "__len__") a F.slot_dict_len (call_meetsIn F.slot_dict_len a F.entry_dict_len (F.args_dict_len_1 _) (DR lo hdat) ⟨ho,?_⟩))));refine wpAny_bind (wpAny_holding (wpAny_pure (wpAny_bind (wpAny_letGo ?_))));show wpAny _ _ (if (es.size:Int)<0 then _ else _) _ _ _;rw [if_neg Oo];show wpAny _ _ (if (es.size:Int) ≥ 2^63 then _ else _) _ _ _;rw [if_neg Oo];exact wpAny_bind (wpAny_mkInt (wpAny_pure ⟨_,rfl,hQ _ _ rfl⟩))
end
end HT
namespace L2
open PySem PySem.Spec PySem.W PyProof.Rows HT
theorem HK(c:List Int):(c.map (Sum.inl:Int->fD)).map kV=c.map V.int:=by rw [List.map_map];rfl
abbrev kT(c:List Int):List fD:=c.map Sum.inl
theorem BR{a b:List Int}(h:kT a=kT b):a=b:=by
 have:∀{a b:List Int},kT a=kT b->a=b:=by
  intro a
  induction a with
  | nil=>intro b h;cases b with
   | nil=>rfl
   | cons _ _=>cases h
  | cons x a ih=>intro b h;cases b with
   | nil=>cases h
   | cons y b =>
    injection h with h1 h2;injection h1 with h1;rw [h1,ih h2]
 exact this h
section
variable{X:Cx}{o e f k v:Expr}{apos cpos pos:Pos}{td ty tx tk tv:TE}
end
theorem dpT{H:Hp}{p b:Addr}{kvs:List (List fD × V)}{c:List Int}{v:V}{D:oS}{σ:St}(e:H p=some (.dT kvs))(eb:H b=some (.tup (c.map V.int)))(hl:kvs.length<=100000)(q:∀H',H' p=some (.dT (fP kvs (kT c) v))->aO p H H'->D.nx σ H') :
  rDP D σ (.ref p) (.ref b) v H:=by
 unfold rDP;exact ⟨p,_,rfl,CM.t (k:=kT c) e (by rw [HK];exact eb) (bA hl Dd),q _ bH aO.self⟩
theorem tG.ct{H:Hp}{p b:Addr}{kvs:List (List fD × V)}{c:List Int}(e:H p=some (.dT kvs))(eb:H b=some (.tup (c.map V.int))):tG H p (.ref b) (eT kvs (kT c)):=tG.t e (by rw [HK];exact eb)
theorem dgT{H:Hp}{p b:Addr}{kvs:List (List fD × V)}{c:List Int}{v:V}{Q:VK}(e:H p=some (.dT kvs))(eb:H b=some (.tup (c.map V.int)))(hv:eT kvs (kT c)=some v)(q:Q v H):ZJ (.ref p) (.ref b) H Q:=by
 unfold ZJ;exact ⟨p,v,rfl,hv ▸ tG.ct e eb,q⟩
theorem xR{kvs:List (List fD × V)}{k:List fD}{v:V}(h:(eT kvs k).isSome=true):(fP kvs k v).map (·.1)=kvs.map (·.1):=by
 unfold fP;rw [iQ,if_pos h,List.map_map];refine cO λp _=>?_;show (if p.1=k then (p.1,v) else p).1=p.1;split <;> rfl
end L2
namespace L2
open PySem PySem.Spec PyProof.Rows
structure eI(X:Cx)(scope:Scope)(xs:List Str)(N':List Str)(js:List Nat):Prop where
 calm:X.calm=true
 free:∀y∈scope.names,y.2=.free->X.env.kindOf y.1=some .cell
 cell:∀y∈scope.names,y.2 ≠ .cell
 kind:scope.kind=.function
 names:∀y∈scope.names,y.2=.local->scope.names.lookup y.1=some .local
 own:∀x∈xs,scope.names.lookup x=some .local
 nofl:∀y,(y,NameKind.free)∈scope.names->scope.names.lookup y=some .local->False
 len:N'.length=xs.length+js.length
 pre:∀(i:Nat) x,xs[i]?=some x->N'[i]?=some x
 nd:N'.Nodup
 slot:∀(i:Nat) (j:Nat),js[i]?=some j->∃y,N'[xs.length+i]?=some y/\X.N[j]?=some y/\(y,NameKind.free)∈scope.names
def BU:Nat->Nat->UJ
 | _,0=>aBy
 | i,n+1=>SB (mO i) (BU (i+1) n)
def gN(K:PySem.W.Frag)(n:Nat):TG:=aBx K n (BU 0 n)
theorem wN{H:Hp}{r:St}{Q:St->Hp->Prop}:∀(vs:List V) (pre os:St),os.length=vs.length->Q (pre++(vs.map some++r)) H->BU pre.length vs.length vs (pre++(os++r)) H Q
 | [],pre,[],_,q=>⟨rfl,q⟩
 | v::vs,pre,o::os,hl,q=>by
  refine ⟨v,vs,rfl,?_⟩;show BU (pre.length+1) vs.length vs ((pre++(o::os++r)).set pre.length (some v)) H Q;have e1:(pre++(o::os++r)).set pre.length (some v)=(pre++[some v])++(os++r):=by
   rw [List.set_append_right _ _ (aG _),Nat.sub_self,List.append_assoc];rfl
  have a:pre.length+1=(pre++[some v]).length:=by rw [aT];rfl
  rw [e1,a];refine wN vs (pre++[some v]) os (by simpa using hl) ?_;rw [List.append_assoc];exact q
@[irreducible] def lE(K:PySem.W.Frag)(n:Nat)(J:It)(σ:St)(js:List Nat)(tc:TT)(te:TE)(H1:Hp)(Q:VK):Prop:=∀D,H1 D=none->∃W:Nat->Nat->List V->Hp->Prop,(∃m,W 0 m [] (upd H1 D (.lst []))) /\
 ∀i m ys H2,W i m ys H2->H2 D=some (.lst ys)/\((J.stop i H2/\Q (.ref D) H2)\/(J.go i H2/\ys.length<sizeLine/\∀x H3,J.yld i H2 x H3->∃a vs,x=.ref a/\fO K H3 a vs/\vs.length=n /\
  pL tc (vs.map some++slots σ js) H3 λb H4=>if b=true then uZ te (vs.map some++slots σ js) H4 λy H5=>H5 D=some (.lst ys)/\∃m',m' < m/\W (i+1) m' (ys++[y]) (upd H5 D (.lst (ys++[y])))
   else H4 D=some (.lst ys)/\∃m',m' < m/\W (i+1) m' ys H4))
def AJ(K:PySem.W.Frag)(n:Nat)(wi:TI)(js:List Nat)(tc:TT)(te:TE):TE:=λσ H Q=>wi σ H λJ H1=>lE K n J σ js tc te H1 Q
section
variable{X:Cx}{pins:List (Addr × Obj)}{σ:St}{H:Hp}{s:Shared}{scope:Scope}{xs:List Str}{N':List Str}{js:List Nat}{fp:List Addr}
theorem eI.cells(S:eI X scope xs N' js)(ok:X.Ok):∀y∈scope.names,y.2=.free->∃c,X.env.cells.lookup y.1=some c:=λy a b=>ok.has _ (.inl (S.free y a b))
theorem XO(S:eI X scope xs N' js)(I:cH X pins σ H s)(hf:∀b∈fp,jA X pins H b)(hb:∀b∈fp,b<s.heap.objs.size):(kY X scope s.heap.objs.size fp s H N').Ok where
 mod:=I.ok.mod
 kind:=S.kind
 glob:=I.ok.glob
 blt:=I.ok.blt
 above:=aG _
 inj:=λy z c l d=>I.ok.inj y z c (gX (S.cells I.ok) l) (gX (S.cells I.ok) d)
 has:=λy f=>by
  have i:(y,NameKind.free)∈scope.names:=by
   rcases f with f | f
   ·exact iE (env:=X.env) f (.inl rfl) S.cell
   ·exact iE (env:=X.env) f (.inr rfl) S.cell
  obtain ⟨c,m⟩:=S.cells I.ok _ i rfl;exact ⟨c,mR (S.cells I.ok) i m⟩
 cab:=λ_ _ h=>by cases h
 hd:=λ_=>I.ok.hd S.calm
 frames:=I.ok.frames
 stk:=.inl rfl
 exf:=λb a=>⟨λe=>by have:=hb b a;rw [e] at this;exact cA _ this,λy c h=>(hf b a).2.2.2.2.1 y c (gX (S.cells I.ok) h)⟩
 bs:=I.bs
 bsz:=aY I.ok.bsz I.sz
 noex:=λb o e a=>by
  rcases (hf b a).2.2.2.1 with h | h
  ·exact I.ok.noex b o e h
  ·exact absurd (bK (bD e) (aY I.ok.bsz h)) (cA _)
 exfs:=λb a j=>by
  have d:=I.stkSub b j;rcases bE.mp d with d | d
  ·exact (hf b a).2.1 d
  ·exact (hf b a).2.2.1 d
 funs:=I.stack
 frf:=I.stkFree
theorem SU{h':Heap}{tk:Nat}(S:eI X scope xs N' js)(I:cH X pins σ H s)(hf:∀b∈fp,jA X pins H b)(hb:∀b∈fp,b<s.heap.objs.size)
  (hn:h'.Ns s.heap.objs.size (λ_=>none)) (hk:∀b o,s.heap.get? b=some o->h'.get? b=some o):cH (kY X scope s.heap.objs.size fp s H N') [] (List.replicate xs.length none++slots σ js) H { s with heap:=h',toks:=tk } where
 ok:=XO S I hf hb
 os:=rfl
 bare:=I.bare
 base:=Un.kept hk
 loc:=by
  refine ⟨_,hn,λi y v R D a=>?_⟩;by_cases hlt0:i<xs.length
  ·rw [List.getElem?_append_left (by rw [eA];exact hlt0),List.getElem?_replicate,if_pos hlt0] at D;cases D
  ·obtain ⟨i,rfl⟩:∃k,i=xs.length+k:=⟨i-xs.length,Oo⟩;rw [List.getElem?_append_right (by rw [eA];omega),eA,Nat.add_sub_cancel_left] at D;have d:(slots σ js)[i]?=some (some v):=D;have L:i<js.length:=by
    have:=(aX.mp d).1;unfold slots at this
    rwa [aC] at this
   have O:js[i]?=some js[i]:=aB L;obtain ⟨z,P,T,x⟩:=S.slot i _ O;have G:z=y:=by
    have:N'[xs.length+i]?=some y:=R;rw [P] at this;cases this;rfl
   subst G;rw [yI O] at d;have Y:σ[js[i]]?=some (some v):=by
    cases q:σ[js[i]]? with
    | none=>rw [q] at d;cases d
    | some o=>rw [q] at d;cases d;rfl
   have B:X.env.kindOf z=some .cell:=S.free _ x rfl;obtain ⟨m,ε,Z⟩:=I.loc;obtain ⟨u,W,α⟩:=Z _ z v T Y (.inr (.inl B));rcases α with ⟨j,_⟩ | ⟨_,c,N,f⟩
   ·rw [B] at j;cases j
   ·refine ⟨u,W,.inr ⟨?_,c,mR (S.cells I.ok) x N,?_⟩⟩
    ·rcases a with a | a | a
     ·exfalso;have β:=mR (S.cells I.ok) x N;have A:=nG (l:=(relabel scope X.env).names) a;unfold relabel at A;obtain ⟨⟨n,k⟩,w,C⟩:=aS.mp A;dsimp only at C;by_cases hq:(k == NameKind.free&&X.env.scope.kind == .function&&X.env.kindOf n == some .cell)=true
      ·rw [if_pos hq] at C;cases C
      ·rw [if_neg hq] at C;cases C;have:=S.names _ w rfl;have M:=nE x;obtain ⟨δ,M⟩:=M;dsimp only at this;rw [this] at M;have γ:(relabel scope X.env).names.lookup z=some .local:=lookup_relabel_local this;have J:scope.names.lookup z=some .local:=this;exact S.nofl z x J
     ·exact .inl a
     ·exact .inr a
    ·obtain ⟨o,e,r⟩:=f;exact ⟨o,hk _ _ e,r⟩
 cell:=λy c h=>by
  obtain ⟨v,o,e,r⟩:=I.cell y c (gX (S.cells I.ok) h);exact ⟨v,o,hk _ _ e,r⟩
 free:=I.hok.fresh (aG _)
 freeC:=λy c h=>I.freeC y c (gX (S.cells I.ok) h)
 pin:=λp U=>by cases U
 hok:=I.hok.kept hk
 len:=by
  rw [aT,eA];unfold slots;rw [aC];exact S.len.symm
theorem zI{H2:Hp}{σ':St}{s2:Shared}{h'':Heap}(S:eI X scope xs N' js)(I:cH X pins σ H s)(hf:∀b∈fp,jA X pins H b)
  (J:cH (kY X scope s.heap.objs.size fp s H N') [] σ' H2 s2) (hs:Heap.SameBut s.heap.objs.size s2.heap h''):cH X pins σ H2 { s2 with heap:=h'' }:=by
 have hC:H2 s.heap.objs.size=none:=J.free;have ne:∀{b:Addr} {o:Obj},s.heap.get? b=some o->b≠s.heap.objs.size:=λe q=>by
  have:=bD e;rw [q] at this;exact cA _ this
 refine I.call' (s':={ s2 with heap:=h'' }) (ch:=fp) (by rw [show ({ s2 with heap:=h'' }:Shared).os=s2.os from rfl];exact J.os) ?_ (J.hok.but hC λb u a q=>hs.extBut b u a q) J.bare λb a=>⟨(hf b a).2.2.2.1,(hf b a).2.1,(hf b a).2.2.2.2.1,(hf b a).2.2.2.2.2⟩;have U:=J.base;exact {
  keep:=λb o e n d c=>hs.extBut b o (ne e) (U.keep b o e n d c)
  slot:=λb o e n d c=>by
   obtain ⟨h,q⟩:=U.slot b o e n d c;exact ⟨h,hs.extBut b _ (ne e) q⟩
  free:=U.free
  there:=λb o e c=>by
   obtain ⟨f,q⟩:=U.there b o e c;exact ⟨f,hs.extBut b _ (ne e) q⟩
  tups:=U.tups
  frzs:=U.frzs
  tbls:=U.tbls }
end
section
variable{X:Cx}{pins:List (Addr × Obj)}{σ:St}{H:Hp}{s:Shared}{scope:Scope}{xs:List Str}{N':List Str}{js:List Nat}{fp:List Addr}{elt iter:Expr}{px pos:Pos}{tg:Expr}{ifs:List Expr}{tc:TT}{te:TE}
theorem tS{J:It}{it:Addr}{tn:Nat->Heap->Prop}{RR:Value->Addr->Result->Shared->Prop}{E:Value->Shared->Prop}{Q:VK}
  (S:eI X scope xs N' js) (I:cH X pins σ H s) (T:xW X.prog X.w X.K tg J fp it tn) (h0:tn 0 s.heap) (hf:∀b∈fp,jA X pins H b)
  (hg:∀C fp s₀ H₀,PG (kY X scope C fp s₀ H₀ N') tg (gN X.K xs.length)) (ht:∀C fp s₀ H₀,OO (kY X scope C fp s₀ H₀ N') ifs tc) (he:∀C fp s₀ H₀,PE (kY X scope C fp s₀ H₀ N') elt te)
  (R:∀D,H D=none->∃W:Nat->Nat->List V->Hp->Prop,(∃m,W 0 m [] (upd H D (.lst []))) /\
   ∀i m ys H2,W i m ys H2->H2 D=some (.lst ys)/\((J.stop i H2/\Q (.ref D) H2)\/(J.go i H2/\ys.length<sizeLine/\∀x H3,J.yld i H2 x H3->∃a vs,x=.ref a/\fO X.K H3 a vs/\vs.length=xs.length /\
    tc (vs.map some++slots σ js) H3 λb H4=>if b=true then te (vs.map some++slots σ js) H4 λy H5=>H5 D=some (.lst ys)/\∃m',m' < m/\W (i+1) m' (ys++[y]) (upd H5 D (.lst (ys++[y])))
     else H4 D=some (.lst ys)/\∃m',m' < m/\W (i+1) m' ys H4)))
  (hRR:∀(D:Addr) (H3:Hp) (s3:Shared) (σ':St) (H':Hp) (s':Shared),cH X pins σ H3 s3->(∀b∈fp,jA X pins H3 b)->cH (kY X scope s3.heap.objs.size fp s3 H3 N') [] σ' H' s'->Q (.ref D) H'->RR (.ref D) s3.heap.objs.size (.ok .next) s') :
  wpAny (model X.prog X.w) X.A (newList []) (λacc s₃=>wpAny (model X.prog X.w) X.A (newFunctionEnv scope X.env.globals (IF X scope) [] X.env.qual none .none (some X.env)) (λcenv s₄ =>
   codeAny (model X.prog X.w) X.A (.compStart (.ListComp elt [⟨tg,iter,ifs,0⟩] scope pos) 0 (.ref it) acc { cenv with scope:=relabel scope X.env }) (RR acc cenv.locals) s₄) E s₃) E s:=by
 have Z:∀b∈fp,b<s.heap.objs.size:=λb Z=>by
  obtain ⟨o,e,_⟩:=T.obj 0 _ h0 b Z;exact bD e
 refine wpAny_newObj_type (wpAny_newFunctionEnv S.cell (by intro y θ;simp at θ) (λY M O=>?_) S.kind);have κ:H s.heap.objs.size=none:=I.hok.fresh (aG _);obtain ⟨W,⟨m0,τ⟩,hW⟩:=R _ κ;have I3:cH X pins σ (upd H s.heap.objs.size (.lst [])) { s with heap:=s.heap.push { cls:=.type "list",dict:=none,data:=.seq ([]:List Value).toArray } }:=I.lnew (its:=[]) (ys:=[]) (t':=s.toks) .nil (bS _);have l:∀b∈fp,jA X pins (upd H s.heap.objs.size (.lst [])) b:=λb c =>
  ⟨by rw [cU (λe=>by have:=Z b c;rw [e] at this;exact cA _ this)];exact (hf b c).1,(hf b c).2⟩
 have ο:∀b∈fp,b<(s.heap.push { cls:=.type "list",dict:=none,data:=.seq ([]:List Value).toArray }).objs.size:=λb c=>by
  rw [jJ];exact Nat.lt_succ_of_lt (Z b c)
 have h:∀b o,(s.heap.push { cls:=.type "list",dict:=none,data:=.seq ([]:List Value).toArray }).get? b=some o->Y.get? b=some o:=λb o e =>
  O.extBut b o (λq=>by have:=bD e;rw [q] at this;exact cA _ this) (aD _ e)
 have J4:=SU (h':=Y) (tk:=s.toks+([]:List (Str × Value)).length) S I3 l ο M h;have ψ:tn 0 Y:=T.keep 0 _ _ h0 λb c o e=>h b o (aD _ e);have j:codeAny (model X.prog X.w) X.A (.compLoop (.ListComp elt [⟨tg,iter,ifs,0⟩] scope pos) 0 (.ref it) (.ref s.heap.objs.size) (compEnvC scope (IF X scope) (s.heap.push { cls:=.type "list",dict:=none,data:=.seq ([]:List Value).toArray }).objs.size X.env))
   (RR (.ref s.heap.objs.size) (s.heap.push { cls:=.type "list",dict:=none,data:=.seq ([]:List Value).toArray }).objs.size) { s with heap:=Y,toks:=s.toks+([]:List (Str × Value)).length }:=by
  refine rJ (λn s'=>∃(i:Nat) (ys:List V) (H2:Hp) (U:St),U.length=xs.length/\cH (kY X scope _ fp _ _ N') [] (U++slots σ js) H2 s'/\tn i s'.heap/\(∀b∈fp,H2 b=none)/\W i n ys H2) ?_ m0 ⟨0,[],_,_,eA,J4,ψ,λb c=>(l b c).1,τ⟩;rintro n s' ⟨i,ys,H2,U,ζ,J2,ω,f2,w2⟩;obtain ⟨hD,G⟩:=hW i n ys H2 w2;have φ:∀b∈fp,jA (kY X scope (s.heap.push { cls:=.type "list",dict:=none,data:=.seq ([]:List Value).toArray }).objs.size fp { s with heap:=s.heap.push { cls:=.type "list",dict:=none,data:=.seq ([]:List Value).toArray } } (upd H s.heap.objs.size (.lst [])) N') [] H2 b:=λb c =>
   ⟨f2 b c,(J2.ok.exf b c).1,J2.ok.exfs b c,.inl c,(J2.ok.exf b c).2,λp ξ=>by cases ξ⟩
  rcases G with ⟨z,μ⟩ | ⟨η,hz,L⟩
  ·refine wpAny_mono (T.done (kY X scope _ fp _ _ N') rfl rfl rfl rfl i [] s' _ H2 UU J2 φ ω z) (λr s1 ⟨ρ,J5⟩=>?_) λ_ _ f=>f;subst ρ;exact hRR _ _ _ _ _ _ I3 l J5 μ
  ·refine wpAny_mono (T.item (kY X scope _ fp _ _ N') rfl rfl rfl rfl i [] s' _ H2 UU J2 φ ω η) (λr s1 ⟨u,ρ,hx⟩=>?_) λ_ _ f=>f;subst ρ;refine wpAny_mono hx (λ_ s2 ⟨v,H3,J3,rv,θ,υ,f3⟩=>?_) λ_ _ f=>f;have δ:∀b∈fp,jA (kY X scope (s.heap.push { cls:=.type "list",dict:=none,data:=.seq ([]:List Value).toArray }).objs.size fp { s with heap:=s.heap.push { cls:=.type "list",dict:=none,data:=.seq ([]:List Value).toArray } } (upd H s.heap.objs.size (.lst [])) N') [] H3 b:=λb c =>
    ⟨f3 b c,(J3.ok.exf b c).1,J3.ok.exfs b c,.inl c,(J3.ok.exf b c).2,λp ξ=>by cases ξ⟩
   have P3:=J3.pinned δ (T.obj (i+1) _ υ);have d:∀{σ':St} {Hx:Hp} {sx:Shared},cH (kY X scope (s.heap.push { cls:=.type "list",dict:=none,data:=.seq ([]:List Value).toArray }).objs.size fp { s with heap:=s.heap.push { cls:=.type "list",dict:=none,data:=.seq ([]:List Value).toArray } } (upd H s.heap.objs.size (.lst [])) N') ([]++sG fp s2.heap) σ' Hx sx->tn (i+1) sx.heap/\∀b∈fp,Hx b=none:=λχ =>
    ⟨T.keep (i+1) _ _ υ λb c γ e=>(χ.pin (b,γ) (bZ _ (bZ _ (jF c e)))).1,λb c=>by
     obtain ⟨γ,e,_⟩:=T.obj (i+1) _ υ b c;exact (χ.pin (b,γ) (bZ _ (bZ _ (jF c e)))).2.1⟩
   obtain ⟨a,vs,ev,μ,P,qe⟩:=L v H3 θ;subst ev;refine wpAny_mono (hg _ _ _ _ _ _ (U++slots σ js) H3 (.ref a) u (λσ' H'=>σ'=vs.map some++slots σ js/\H'=H3) P3 rv ⟨a,vs,rfl,μ,P,?_⟩) (λ_ s5 ⟨σ5,H5,J5,e5,e6⟩=>?_) λ_ _ f=>f
   ·have:=wN (H:=H3) (r:=slots σ js) (Q:=λσ' H'=>σ'=vs.map some++slots σ js/\H'=H3) vs [] U (by rw [ζ,P]) ⟨rfl,rfl⟩;rw [P] at this;exact this
   subst e5 e6;refine wpAny_mono (ht _ _ _ _ _ _ _ _ _ J5 qe) (λok s6 ⟨H6,J6,N⟩=>?_) λ_ _ f=>f;dsimp only at N;by_cases hok:ok=true
   ·rw [if_pos hok] at N ⊢;refine wpAny_mono (he _ _ _ _ _ _ _ _ _ J6 N) (λy s7 ⟨ν,H7,J7,r7,β,m',B,ι⟩=>?_) λ_ _ f=>f;refine wpAny_mono (sM (X:=kY X scope _ fp _ _ N') _ _ _ _ (.ref s.heap.objs.size) [ν] (.ref s.heap.objs.size) [y] (λ_ H8=>H8=upd H7 s.heap.objs.size (.lst (ys++[ν]))) J7 rfl (.cons r7 .nil) ⟨_,_,_,rfl,rfl,β,hz,rfl⟩) (λ_ s8 ⟨_,H8,J8,_,e8⟩=>?_) λ_ _ f=>f;subst e8;obtain ⟨α,ε⟩:=d J8;exact ⟨m',B,i+1,ys++[ν],_,vs.map some,by rw [aC,P],J8.unpinned,α,ε,ι⟩
   ·rw [if_neg hok] at N ⊢;obtain ⟨_,m',B,ι⟩:=N;obtain ⟨α,ε⟩:=d J6;exact ⟨m',B,i+1,ys,_,vs.map some,by rw [aC,P],J6.unpinned,α,ε,ι⟩
 refine codeAny_compStart_list j (T.self X.A 0 _ _ _ ψ j)
theorem RH{wi:TI}(S:eI X scope xs N' js)(hi:PI X tg iter wi)(hg:∀C fp s₀ H₀,PG (kY X scope C fp s₀ H₀ N') tg (gN X.K xs.length))(ht:∀C fp s₀ H₀,OO (kY X scope C fp s₀ H₀ N') ifs tc)(he:∀C fp s₀ H₀,PE (kY X scope C fp s₀ H₀ N') elt te)
  (hs:∀x,foldedSetIterable iter X.env x=pure x:=by intro _;rfl):PE X (.ListComp elt [⟨tg,iter,ifs,0⟩] scope pos) (AJ X.K xs.length wi js tc te):=by
 intro a s σ H Q I h;rw [eval_ListComp];refine wpAny_comprehension_free (use:=none) rfl hs (jO (S.cells I.ok)) S.kind S.names (wpAny_mono (hi a s σ H _ I h) (λv o d=>?_) λ_ _ e=>e);refine wpAny_mono d (λl n ⟨p,fp,z,J,H2,e,I2,T,j,f,R⟩=>?_) λ_ _ e=>e;subst e;refine tS (te:=uZ te) (tc:=pL tc) S I2 T j f hg (λC fp s₀ H₀=>(ht C fp s₀ H₀).mono) (λC fp s₀ H₀=>(he C fp s₀ H₀).mono) (by unfold lE at R;exact R) ?_;intro D H3 w u H' y I3 b J3 q;obtain ⟨m,i,_⟩:=J3.loc;exact ⟨m,i,λr c=>⟨.ref D,H',zI S I3 b J3 c,rfl,q⟩⟩
theorem EB{wi:TI}{y:Str}{py spos:Pos}{i:Nat}(S:eI X scope xs N' js)(hN:X.N.Nodup)(hiN:X.N[i]?=some y)(hy:X.env.kindOf y=some .local)(hi:PI X tg iter wi)(hg:∀C fp s₀ H₀,PG (kY X scope C fp s₀ H₀ N') tg (gN X.K xs.length))(ht:∀C fp s₀ H₀,OO (kY X scope C fp s₀ H₀ N') ifs tc)(he:∀C fp s₀ H₀,PE (kY X scope C fp s₀ H₀ N') elt te)
  (hsw:swapsWith (.ListComp elt [⟨tg,iter,ifs,0⟩] scope pos) (some (.Name y py)) spos.line X.env=pure true) (hs:∀x,foldedSetIterable iter X.env x=pure x:=by intro _;rfl) :
  PS X (.Assign [.Name y py] (.ListComp elt [⟨tg,iter,ifs,0⟩] scope pos) spos) (DH (AJ X.K xs.length wi js tc te) (mO i)):=by
 intro d s σ H D0 I h;rw [exec_Assign_Name_used _ _ _ _ hsw];refine wpAny_bind (wpAny_standAt (wpAny_bind ?_));show wpAny _ X.A (do let _ <-comprehension (.ListComp elt [⟨tg,iter,ifs,0⟩] scope pos) scope X.env _ (newList []) false (eval iter X.env) (some (assign (.Name y py) X.env))) _ _ s;refine wpAny_bind (wpAny_mono (wpAny_comprehension_free (use:=some (assign (.Name y py) X.env)) (Q:=λ_ l=>SP X d D0 .next l) rfl hs (jO (S.cells I.ok)) S.kind S.names (wpAny_mono (hi d s σ H _ I h) (λv δ M=>?_) λ_ _ e=>e)) (λ_ l β=>wpAny_pure (wpAny_pure β)) λ_ _ e=>e);refine wpAny_mono M (λα γ ⟨it,fp,η,J,H2,e,I2,T,Y,U,R⟩=>?_) λ_ _ e=>e;subst e;refine tS (te:=uZ te) (tc:=pL tc) (Q:=λv H'=>mO i v σ H' D0.nx) S I2 T Y U hg (λC fp s₀ H₀=>(ht C fp s₀ H₀).mono) (λC fp s₀ H₀=>(he C fp s₀ H₀).mono) (by unfold lE at R;exact R) ?_;intro D H3 G ζ H' l I3 u J3 q;obtain ⟨m,W,_⟩:=J3.loc;have IX:cH X d σ H' l:=zI S I3 u J3 (Heap.SameBut.refl ..);have j:G.heap.objs.size≠X.env.locals:=λe=>by have:=I3.lt;rw [e] at this;exact cA _ this
 show wpAny _ X.A (assign (.Name y py) X.env (.ref D)) _ _ _;refine wpAny_assign_Name (sA IX hN hiN (.inl hy) (v:=.ref D) rfl (λO I5 f=>?_) (.inr hy));obtain ⟨a,f,B⟩:=f;have r:G.heap.objs.size≠a:=by
  rcases B with rfl | B
  ·exact j
  ·intro e;obtain ⟨v,o,w,_⟩:=I3.cell y a B;have:=bD w;rw [<-e] at this;exact cA _ this
 refine ⟨m,W.sameBut f r,λε L=>⟨_,H',?_,q⟩⟩;exact I5.turned (it:=G.heap.objs.size) (t':=O.toks) (λb o n e=>L.extBut b o n e) J3.free j (.inr I3.sz)
  (λz c Z e=>by
   obtain ⟨v,o,w,_⟩:=I3.cell z c Z;have:=bD w;rw [e] at this;exact cA _ this)
  (λp P e=>by
   have:=bD (I3.pin p P).1;rw [e] at this;exact cA _ this)
end
section
variable{X:Cx}{scope:Scope}{x1 x2 x3 y:Str}{N':List Str}{js:List Nat}{elt iter tg:Expr}{ifs:List Expr}{py pos spos:Pos}{tc:TT}{te:TE}{wi:TI}{i:Nat}
theorem YS{xs:List Str}{k:Nat}{x:Str}{p:Pos}(S:eI X scope xs N' js)(h:xs[k]?=some x)(C:Addr)(fp:List Addr)(s₀:Shared)(H₀:Hp):PGw (kY X scope C fp s₀ H₀ N') (.Name x p) (mO k) :=
 have l:=S.own x (aV h)
 cL S.nd (S.pre k x h) (.inl (lookup_relabel_local l)) (.inr (lookup_relabel_local l))
theorem OZ{p1 p2 pt:Pos}{kk:Nat}(S:eI X scope [x1,x2] N' js)(C:Addr)(fp:List Addr)(s₀:Shared)(H₀:Hp):PGw (kY X scope C fp s₀ H₀ N') (.Tuple [.Name x1 p1,.Name x2 p2] kk pt) (gN X.K 2) :=
 hV rfl (cR (YS S rfl C fp s₀ H₀) (cR (YS S rfl C fp s₀ H₀) gC))
theorem jC{p1 p2 pt:Pos}{kk:Nat}(S:eI X scope [x1,x2] N' js)(hi:OP X (.Tuple [.Name x1 p1,.Name x2 p2] kk pt) iter wi)(ht:∀C fp s₀ H₀,OI (kY X scope C fp s₀ H₀ N') ifs tc)(he:∀C fp s₀ H₀,gE (kY X scope C fp s₀ H₀ N') elt te)
  (hs:∀x,foldedSetIterable iter X.env x=pure x:=by intro _;rfl):gE X (.ListComp elt [⟨.Tuple [.Name x1 p1,.Name x2 p2] kk pt,iter,ifs,0⟩] scope pos) (AJ X.K 2 wi js tc te) :=
 ⟨RH S hi.p (λC fp s₀ H₀=>(OZ S C fp s₀ H₀).p) (λC fp s₀ H₀=>(ht C fp s₀ H₀).p) (λC fp s₀ H₀=>(he C fp s₀ H₀).p) hs⟩
theorem mW{p1 p2 pt:Pos}{kk:Nat}(S:eI X scope [x1,x2] N' js)(hN:X.N.Nodup)(hiN:X.N[i]?=some y)(hy:X.env.kindOf y=some .local)(hi:OP X (.Tuple [.Name x1 p1,.Name x2 p2] kk pt) iter wi)(ht:∀C fp s₀ H₀,OI (kY X scope C fp s₀ H₀ N') ifs tc)(he:∀C fp s₀ H₀,gE (kY X scope C fp s₀ H₀ N') elt te)
  (hsw:swapsWith (.ListComp elt [⟨.Tuple [.Name x1 p1,.Name x2 p2] kk pt,iter,ifs,0⟩] scope pos) (some (.Name y py)) spos.line X.env=pure true:=by rfl) (hs:∀x,foldedSetIterable iter X.env x=pure x:=by intro _;rfl) :
  GA X (.Assign [.Name y py] (.ListComp elt [⟨.Tuple [.Name x1 p1,.Name x2 p2] kk pt,iter,ifs,0⟩] scope pos) spos) (DH (AJ X.K 2 wi js tc te) (mO i)) :=
 ⟨EB S hN hiN hy hi.p (λC fp s₀ H₀=>(OZ S C fp s₀ H₀).p) (λC fp s₀ H₀=>(ht C fp s₀ H₀).p) (λC fp s₀ H₀=>(he C fp s₀ H₀).p) hsw hs⟩
end
def SX(psc scope:Scope)(N:List Str)(xs N':List Str)(js:List Nat):Bool :=
 (scope.names.all λy=>!(y.2 == .free) || psc.names.lookup y.1 == some .cell)&&(scope.names.all λy=>!(y.2 == .cell))&&scope.kind == .function &&
 (scope.names.all λy=>!(y.2 == .local) || scope.names.lookup y.1 == some .local)&&(xs.all λx=>scope.names.lookup x == some .local) &&
 (scope.names.all λy=>!(y.2 == .free) || !(scope.names.lookup y.1 == some .local))&&N'.length == xs.length+js.length&&N'.take xs.length == xs&&decide N'.Nodup &&
 ((List.range js.length).all λi=>match js[i]?,N'[xs.length+i]? with
  | some j,some y=>N[j]? == some y&&scope.names.contains (y,NameKind.free)
  | _,_=>false)
theorem eI.of{X:Cx}{psc scope:Scope}{N:List Str}{xs N':List Str}{js:List Nat}(h:SX psc scope N xs N' js=true)(hX:X.env.scope=psc)(hN:X.N=N)(hc:X.calm=true):eI X scope xs N' js:=by
 unfold SX at h;simp only [cC] at h;obtain ⟨⟨⟨⟨⟨⟨⟨⟨⟨f,l⟩,r⟩,m⟩,p⟩,o⟩,w⟩,u⟩,s⟩,b⟩:=h;rw [List.all_eq_true] at f l m p o b;refine ⟨hc,λy a e=>?_,λy a e=>?_,by simpa using r,λy a e=>?_,λx c=>by simpa using p x c,λy a e=>?_,by simpa using w,λi x c=>?_,of_decide_eq_true s,λi j n=>?_⟩
 ·have:=f y a;rw [e] at this;show X.env.scope.names.lookup y.1=_;rw [hX];simpa using this
 ·have:=l y a;rw [e] at this;simp at this
 ·have:=m y a;rw [e] at this;simpa using this
 ·have:=o _ a;rw [e] at this;simp at this
 ·have z:N'.take xs.length=xs:=by simpa using u
  have d:i<xs.length:=(aX.mp c).1;rw [<-c]
  conv=>rhs;rw [<-z]
  rw [List.getElem?_take,if_pos d]
 ·have d:i<js.length:=(aX.mp n).1;have:=b i (cM.mpr d);rw [n] at this;cases q:N'[xs.length+i]? with
  | none=>rw [q] at this;simp at this
  | some y =>
   rw [q] at this;simp only [cC] at this;exact ⟨y,rfl,by rw [hN];simpa using this.1,List.contains_iff_mem.mp this.2⟩
theorem jE{α β:Type}{R:α->β->Prop}:∀{l:List α}{m:List β}{i:Nat}{b:β},Paired R l m->m[i]?=some b->∃a,l[i]?=some a/\R a b
 | _,_,_,_,.nil,h=>by simp at h
 | _,_,0,b,.cons h t,e=>⟨_,rfl,by cases (show _=b by simpa using e);exact h⟩
 | _,_,i+1,b,.cons h t,e=>by
  obtain ⟨a,h1,h2⟩:=jE t (i:=i) (by simpa using e);exact ⟨a,by simpa using h1,h2⟩
section
variable{js:List Nat}{te:TE}{tc:TT}{σ:St}{H:Hp}{Q:VK}
theorem zP{K:PySem.W.Frag}{n:Nat}{J:It}{α:Type}{as:List α}(p:α->Bool)(Src:α->V->Prop)(R:α->V->Hp->Prop)(hR:∀c y H1 H2,dJ H1 H2->R c y H1->R c y H2)(hz:as.length<=100000)
  (hg:∀i H',bC H H'->i<as.length->J.go i H'/\∀x H3,J.yld i H' x H3->H3=H'/\∃c,as[i]?=some c/\Src c x) (hst:∀H',bC H H'->J.stop as.length H')
  (hs:∀x c H',c∈as->Src c x->bC H H'->∃a vs,x=.ref a/\fO K H' a vs/\vs.length=n/\(∀Q':Bool->Hp->Prop,(∀H5,bC H' H5->Q' (p c) H5)->tc (vs.map some++slots σ js) H' Q') /\
   ∀H5 (Q':VK),bC H' H5->p c=true->(∀y H6,bC H5 H6->R c y H6->Q' y H6)->te (vs.map some++slots σ js) H5 Q')
  (hd:∀D ys H',H D=none->H' D=some (.lst ys)->bC H H'->Paired (λc y=>R c y H') (as.filter p) ys->Q (.ref D) H'):lE K n J σ js tc te H Q:=by
 unfold lE;intro D hD;have mono:∀{H1 H2:Hp} {l:List α} {ys:List V},dJ H1 H2->Paired (λc y=>R c y H1) l ys->Paired (λc y=>R c y H2) l ys:=by
  intro H1 H2 l ys s h
  induction h with
  | nil=>exact .nil
  | cons h t ih=>exact .cons (hR _ _ _ _ s h) ih
 have snoc:∀{H1:Hp} {l:List α} {ys:List V} {c:α} {y:V},Paired (λc y=>R c y H1) l ys->R c y H1->Paired (λc y=>R c y H1) (l++[c]) (ys++[y]):=by
  intro H1 l ys c y h r
  induction h with
  | nil=>exact .cons r .nil
  | cons h t ih=>exact .cons h ih
 refine ⟨λi m ys H'=>m=as.length-i/\i<=as.length/\H' D=some (.lst ys)/\bC H H'/\ys.length<=i/\Paired (λc y=>R c y H') ((as.take i).filter p) ys,⟨as.length,by simp,bS _,bH,bC.upd hD,aG _,.nil⟩,?_⟩;rintro i m ys H2 ⟨rfl,U,d,j,T,w⟩;refine ⟨d,?_⟩;by_cases hlt:i<as.length
 ·obtain ⟨z,B⟩:=hg i H2 j hlt;refine .inr ⟨z,bA (m:=100000) Oo Dd,λx H3 A=>?_⟩;obtain ⟨rfl,c,G,L⟩:=B x H3 A;have u:as.take (i+1)=as.take i++[c]:=by rw [List.take_add_one,G];rfl
  obtain ⟨a,vs,e,S,O,M,P⟩:=hs x c H3 (aV G) L j;refine ⟨a,vs,e,S,O,λb H4=>b=p c/\bC H3 H4,M _ λH5 o=>⟨rfl,o⟩,?_⟩;rintro b H4 ⟨rfl,f⟩;by_cases hp:p c=true
  ·rw [if_pos hp];refine ⟨λy H5=>bC H4 H5/\R c y H5,P H4 _ f hp λy H6 I r=>⟨I,r⟩,?_⟩;rintro y H5 ⟨o,r⟩;have C:=o _ _ (f _ _ d);refine ⟨C,_,?_,rfl,hlt,bH,bC.thru hD ((j.trans f).trans o) aO.self,?_,?_⟩
   ·omega
   ·rw [aT,List.length_singleton];omega
   ·rw [u,List.filter_append,show List.filter p [c]=[c] by simp [hp]];have N:dJ H5 (upd H5 D (.lst (ys++[y]))):=aO.t aO.self C;exact mono N (snoc (mono (f.trans o).t w) r)
  ·rw [if_neg hp];refine ⟨f _ _ d,_,?_,rfl,hlt,f _ _ d,j.trans f,Oo,?_⟩
   ·omega
   ·rw [u,List.filter_append,show List.filter p [c]=[] by simp [hp],List.append_nil];exact mono f.t w
 ·have e:i=as.length:=Oo;subst e;refine .inl ⟨hst H2 j,hd D ys H2 hD d j ?_⟩;rw [cE] at w;exact w
theorem sU{K:PySem.W.Frag}{n:Nat}{a0:Addr}{xs:List V}{α:Type}{as:List α}(p:α->Bool)(Src:α->V->Prop)(R:α->V->Hp->Prop)(hR:∀c y H1 H2,dJ H1 H2->R c y H1->R c y H2)(hz:as.length<=100000)(ha:H a0=some (.tup xs))(pr:Paired Src as xs)
  (hs:∀x c H',c∈as->Src c x->bC H H'->∃a vs,x=.ref a/\fO K H' a vs/\vs.length=n/\(∀Q':Bool->Hp->Prop,(∀H5,bC H' H5->Q' (p c) H5)->tc (vs.map some++slots σ js) H' Q') /\
   ∀H5 (Q':VK),bC H' H5->p c=true->(∀y H6,bC H5 H6->R c y H6->Q' y H6)->te (vs.map some++slots σ js) H5 Q')
  (hd:∀D ys H',H D=none->H' D=some (.lst ys)->bC H H'->Paired (λc y=>R c y H') (as.filter p) ys->Q (.ref D) H'):lE K n (Itt K a0) σ js tc te H Q:=by
 have f:xs.length=as.length:=pr.length.symm;refine zP p Src R hR hz (λi H' s h=>⟨⟨xs,xs[i]'Oo,fO.of (s _ _ ha),by simp⟩,λx H3 y=>⟨y.1,?_⟩⟩) (λH' s=>⟨xs,fO.of (s _ _ ha),Oo⟩) hs hd;have e:=y.2 xs (fO.of (s _ _ ha));obtain ⟨c,d,b⟩:=jE pr e;exact ⟨c,d,b⟩
theorem zO{K:PySem.W.Frag}{n:Nat}{a0:Addr}{xs:List V}{α:Type}{as:List α}(p:α->Bool)(Src:α->V->Prop)(R:α->V->Hp->Prop)(hR:∀c y H1 H2,dJ H1 H2->R c y H1->R c y H2)(hz:as.length<=100000)(ha:H a0=some (.lst xs))(pr:Paired Src as xs)
  (hs:∀x c H',c∈as->Src c x->bC H H'->∃a vs,x=.ref a/\fO K H' a vs/\vs.length=n/\(∀Q':Bool->Hp->Prop,(∀H5,bC H' H5->Q' (p c) H5)->tc (vs.map some++slots σ js) H' Q') /\
   ∀H5 (Q':VK),bC H' H5->p c=true->(∀y H6,bC H5 H6->R c y H6->Q' y H6)->te (vs.map some++slots σ js) H5 Q')
  (hd:∀D ys H',H D=none->H' D=some (.lst ys)->bC H H'->Paired (λc y=>R c y H') (as.filter p) ys->Q (.ref D) H'):lE K n (YO K a0) σ js tc te H Q:=by
 have f:xs.length=as.length:=pr.length.symm;refine zP p Src R hR hz (λi H' s h=>⟨⟨xs,xs[i]'Oo,fR.of (s _ _ ha),by simp⟩,λx H3 y=>⟨y.1,?_⟩⟩) (λH' s=>⟨xs,fR.of (s _ _ ha),Oo⟩) hs hd;have e:=y.2 xs (fR.of (s _ _ ha));obtain ⟨c,d,b⟩:=jE pr e;exact ⟨c,d,b⟩
end
end L2
namespace L2
open PySem
section
variable{js:List Nat}{te:TE}{σ:St}{H:Hp}{Q:VK}
theorem zM{K:PySem.W.Frag}{b1 b2:Bool}{l1 l2:Addr}{xs ys:List V}(R:Nat->V->Hp->Prop)(hR:∀i y H1 H2,dJ H1 H2->R i y H1->R i y H2)(hz:xs.length<=100000)(h1:H l1=some (sB b1 xs))(h2:H l2=some (sB b2 ys))(hl:xs.length=ys.length)
  (hs:∀i x y H' (Q':VK),xs[i]?=some x->ys[i]?=some y->bC H H'->(∀z H6,bC H' H6->R i z H6->Q' z H6)->te (some x::some y::slots σ js) H' Q')
  (hd:∀D zs H',H D=none->H' D=some (.lst zs)->bC H H'->zs.length=xs.length->(∀(i:Nat) (z:V),zs[i]?=some z->R i z H')->Q (.ref D) H'):lE K 2 (Itz b1 b2 l1 l2) σ js rY te H Q:=by
 unfold lE;intro D hD;refine ⟨λi m zs H'=>m=xs.length-i/\i<=xs.length/\zs.length=i/\H' D=some (.lst zs)/\bC H H'/\∀(i:Nat) (z:V),zs[i]?=some z->R i z H',⟨xs.length,by simp,bS _,rfl,bH,bC.upd hD,λi z h=>by simp at h⟩,?_⟩;rintro i m zs H2 ⟨rfl,M,f,c,a,s⟩;refine ⟨c,?_⟩;by_cases hlt:i<xs.length
 ·have G:xs[i]?=some xs[i]:=aB Oo;have n:ys[i]?=some (ys[i]'Oo):=aB Oo;refine .inr ⟨⟨xs,ys,_,_,a _ _ h1,a _ _ h2,G,n⟩,bA (m:=100000) Oo Dd,λv H3 y=>?_⟩;obtain ⟨q,x,y,rfl,L,rfl,J⟩:=y;obtain ⟨B,I⟩:=J xs ys (a _ _ h1) (a _ _ h2);have d:=bC.upd (o:=.tup [x,y]) L;have e3:(upd H2 q (.tup [x,y])) q=some (.tup [x,y]):=bH;generalize upd H2 q (.tup [x,y])=H3 at d e3;refine ⟨q,[x,y],rfl,fO.of e3,rfl,λb H4=>b=true/\H4=H3,⟨rfl,rfl⟩,?_⟩;rintro b H4 ⟨rfl,rfl⟩;rw [if_pos rfl];refine ⟨λz H5=>bC H4 H5/\R i z H5,hs i x y H4 _ B I (a.trans d) λz H6 A r=>⟨A,r⟩,?_⟩;rintro z H5 ⟨l,r⟩;have p:=l _ _ (d _ _ c);have u:dJ H5 (upd H5 D (.lst (zs++[z]))):=aO.t aO.self p;exact ⟨p,xs.length-(i+1),Oo,rfl,hlt,by rw [aT,f];rfl,bH,bC.thru hD ((a.trans d).trans l) aO.self,qW (R:=λj z=>R j z _) (λj w C=>hR j w _ _ ((d.trans l).t.trans u) (s j w C)) (by rw [f];exact hR i z _ _ u r)⟩
 ·have e:i=xs.length:=Oo;subst e;exact .inl ⟨⟨xs,ys,a _ _ h1,a _ _ h2,.inl (aG _)⟩,hd D zs H2 hD c a f s⟩
end
theorem Paired.ofRepL{H:Hp}{α:Type}{g:α->PyData}:∀{as:List α}{xs:List V},aZ H (as.map g) xs->Paired (λa x=>cB H (g a) x) as xs
 | [],xs,r=>by
  unfold aZ at r;cases (show xs=[] from r);exact .nil
 | a::as,xs,r=>by
  rw [aU] at r;unfold aZ at r;obtain ⟨x,xs',rfl,r1,r2⟩:=r;exact .cons r1 (Paired.ofRepL r2)
theorem Paired.toRepL{H:Hp}{α:Type}{g:α->PyData}:∀{as:List α}{xs:List V},Paired (λa x=>cB H (g a) x) as xs->aZ H (as.map g) xs
 | _,_,.nil=>aZ.nil
 | _,_,.cons h t=>aZ.cons h (Paired.toRepL t)
section
variable{X:Cx}{scope:Scope}{x1 x2 x3 y:Str}{N':List Str}{js:List Nat}{elt iter tg:Expr}{ifs:List Expr}{py pos spos:Pos}{tc:TT}{te:TE}{wi wj:TI}{i:Nat}
end
end L2
namespace L2
open PySem PySem.Spec PyProof.Rows
section
variable{X:Cx}
end
section
variable{X:Cx}
end
end L2
namespace L2
open PySem PySem.Spec PySem.W PyProof.Rows HT
end L2
namespace L2
open PySem PySem.Spec PyProof.Rows
theorem mT.ext{b:Bool}{h h':Heap}{i l c:Addr}{k:Nat}(x:mT b h i l k)(s:Heap.ExtBut c h h')(n:i≠c):mT b h' i l k:=x.at λo e=>s i o n e
section
variable{prog:Program}{w:World}{A:Around}{E:Value->Shared->Prop}{s:Shared}
theorem IA{b:Bool}{e it l:Addr}{i:Nat}{n:Int}{items:Array Value}{x old:Value}{Q:Value->Shared->Prop}(he:IsEnum s.heap e it n old)(hit:mT b s.heap it l i)(hl:jH b s.heap l items)(hx:items[i]?=some x)(hne:e≠it)
  (hQ:∀h' t,IsEnumOut h' e it (n+1) x s.heap.objs.size->mT b h' it l (i+1)->h'.get? s.heap.objs.size=some { cls:=.type "tuple",data:=.seq #[.int n t,x] }->(∀c o,c≠e->c≠it->s.heap.get? c=some o->h'.get? c=some o)->Q (.ref s.heap.objs.size) { s with heap:=h',toks:=s.toks+1 }) :
  wpAny (model prog w) A (Builtin.«enumerate.__next__» ⟨[.ref e],[]⟩) (λfin s'=>∃v,fin=.done (.ret v)/\Q v s') E s:=by
 obtain ⟨G,g,d,h,J⟩:=s;show wpAny _ _ (field (.ref e) 2 >>= _) _ _ _;refine wpAny_bind (wpAny_field he rfl (x:=.ref it) rfl ?_);refine wpAny_bind (uJ hit hl hx λD I f=>?_);replace f:Heap.SameBut it G D:=f;have z:IsEnum D e it n old:=(f.2 e hne).trans he;show wpAny _ _ (field (.ref e) 3 >>= _) _ _ ⟨D,g,d,h,J⟩;refine wpAny_bind (wpAny_field z rfl (x:=rawInt n) rfl ?_);show wpAny _ _ (field (.ref e) 4 >>= _) _ _ ⟨D,g,d,h,J⟩;refine wpAny_bind (wpAny_field z rfl (x:=.none) rfl ?_);show wpAny _ _ (mkInt n >>= _) _ _ ⟨D,g,d,h,J⟩;refine wpAny_bind (wpAny_mkInt ?_);show wpAny _ _ (setField (.ref e) 3 (rawInt (n+1)) >>= _) _ _ ⟨D,g,d,h+1,J⟩;refine wpAny_bind (wpAny_setField_rec z (by simp) λT B m=>?_);replace m:Heap.SameBut e D T:=m;replace B:IsEnum T e it (n+1) old:=B;show wpAny _ _ (setField (.ref e) 4 .none >>= _) _ _ ⟨T,g,d,h+1,J⟩;refine wpAny_bind (wpAny_setField_rec B (by simp) λS y j=>?_);replace j:Heap.SameBut e T S:=j;replace y:IsEnum S e it (n+1) old:=y;show wpAny _ _ (newTuple [.int n h,x] >>= _) _ _ ⟨S,g,d,h+1,J⟩;refine wpAny_bind (wpAny_newTuple ?_);have C:IsEnum (S.push { cls:=.type "tuple",data:=.seq #[.int n h,x] }) e it (n+1) old:=aD _ y;generalize hh₄:S.push { cls:=.type "tuple",data:=.seq #[.int n h,x] }=W at C;have M:S.objs.size=G.objs.size:=by rw [j.1,m.1,f.1]
 have P:e<G.objs.size:=bD he;have γ:W.get? G.objs.size=some { cls:=.type "tuple",data:=.seq #[.int n h,x] }:=by rw [<-hh₄,<-M];exact bB _ rfl
 have Y:∀c o,c≠e->c≠it->G.get? c=some o->W.get? c=some o:=λc o a O Z=>by rw [<-hh₄];exact aD _ (j.extBut c o a (m.extBut c o a (f.extBut c o O Z)))
 have U:mT b W it l (i+1):=by rw [<-hh₄];exact ((I.ext m.extBut (Ne.symm hne)).ext j.extBut (Ne.symm hne)).at λo δ=>aD _ δ
 show wpAny _ _ (Builtin.SmallTypes.ownedTupleIsFree (.ref e) >>= _) _ _ ⟨W,g,d,h+1,J⟩;rw [M];clear hh₄ y j B m z f I M S T D;refine wpAny_bind ?_;unfold Builtin.SmallTypes.ownedTupleIsFree;refine wpAny_bind (wpAny_field C rfl (x:=.none) rfl (wpAny_pure ?_));simp only [if_true];refine wpAny_bind (wpAny_rule ?_);refine wpAny_bind (wpAny_field C rfl (x:=old) rfl ?_);refine wpAny_bind (wpAny_setField_rec C (by simp) λX R r=>?_);replace r:Heap.SameBut e W X:=r;replace R:IsEnum X e it (n+1) x:=R;show wpAny _ _ (Builtin.SmallTypes.ownedTupleHandOut (.ref e) (.ref G.objs.size) >>= _) _ _ ⟨X,g,d,h+1,J⟩;refine wpAny_bind ?_;unfold Builtin.SmallTypes.ownedTupleHandOut;refine wpAny_bind (wpAny_setField_rec R (by simp) λα N u=>?_);replace u:Heap.SameBut e X α:=u;replace N:IsEnumOut α e it (n+1) x G.objs.size:=N;refine wpAny_setField_rec N (by simp) λβ L p=>?_;replace p:Heap.SameBut e α β:=p;replace L:IsEnumOut β e it (n+1) x G.objs.size:=L;refine wpAny_bind (wpAny_letGo (wpAny_pure ⟨_,rfl,hQ β h L ?_ ?_ ?_⟩))
 ·exact ((U.ext r.extBut (Ne.symm hne)).ext u.extBut (Ne.symm hne)).ext p.extBut (Ne.symm hne)
 ·exact p.extBut _ _ (Nat.ne_of_gt P) (u.extBut _ _ (Nat.ne_of_gt P) (r.extBut _ _ (Nat.ne_of_gt P) γ))
 ·exact λc o a O Z=>p.extBut c o a (u.extBut c o a (r.extBut c o a (Y c o a O Z)))
theorem HZ{b:Bool}{e it l:Addr}{i:Nat}{n:Int}{items:Array Value}{x old:Value}{Q:Option Value->Shared->Prop}(he:IsEnum s.heap e it n old)(hit:mT b s.heap it l i)(hl:jH b s.heap l items)(hx:items[i]?=some x)(hne:e≠it)
  (hQ:∀h' t,IsEnumOut h' e it (n+1) x s.heap.objs.size->mT b h' it l (i+1)->h'.get? s.heap.objs.size=some { cls:=.type "tuple",data:=.seq #[.int n t,x] }->(∀c o,c≠e->c≠it->s.heap.get? c=some o->h'.get? c=some o)->Q (some (.ref s.heap.objs.size)) { s with heap:=h',toks:=s.toks+1 }) :
  wpAny (model prog w) A (pyNext (.ref e)) Q E s:=by
 have d:s.TypeIs (.ref e) "enumerate" := ⟨_,he,rfl⟩;unfold pyNext;refine wpAny_bind (wpAny_attempt (wpAny_callSpecial?_slot (name:=Str.ofString "__next__") d F.slot_enumerate_next (wpAny_call_entry F.slot_enumerate_next d F.entry_enumerate_next ?_ (F.args_enumerate_next_1 _))));exact IA he hit hl hx hne λh' t a b c k=>wpAny_pure (hQ h' t a b c k)
theorem HY{b:Bool}{e it l:Addr}{i:Nat}{n:Int}{items:Array Value}{old:Value}{Q:Option Value->Shared->Prop}(hh:A.handled=none)(he:IsEnum s.heap e it n old)(hit:mT b s.heap it l i)(hl:jH b s.heap l items)(hx:items[i]?=none)
  (hQ:∀h',Heap.ExtBut it s.heap h'->Q none { s with heap:=h' }):wpAny (model prog w) A (pyNext (.ref e)) Q E s:=by
 have d:s.TypeIs (.ref e) "enumerate" := ⟨_,he,rfl⟩;unfold pyNext;refine wpAny_bind (wpAny_attempt (wpAny_callSpecial?_slot (name:=Str.ofString "__next__") d F.slot_enumerate_next (wpAny_call_entry F.slot_enumerate_next d F.entry_enumerate_next ?_ (F.args_enumerate_next_1 _))));show wpAny _ _ (field (.ref e) 2 >>= _) _ _ _;refine wpAny_bind (wpAny_field he rfl (x:=.ref it) rfl ?_);refine wpAny_bind (HH hh hit hl hx λh' x a c=>?_);obtain ⟨o,h,f⟩:=c;refine wpAny_bind (wpAny_isInstance (T := "StopIteration") (b:=true) ⟨o,h,f⟩ isSubtype_stop ?_);exact wpAny_pure (hQ _ a)
abbrev enO(it:Addr)(n:Int):Obj:={ cls:=.type "enumerate",data:=.fields #[.none,.bool false,.ref it,rawInt n,.none,.none] }
theorem aBg(b:Bool)(l:Addr)(xs:Array Value):Meets (Builtin.«enumerate.__new__» ⟨[.type "enumerate",.ref l],[]⟩) (λ_ R s=>jH b s.heap l xs/\R (.ok (.ret (.ref (s.heap.push (US b l)).objs.size))) { s with heap:=(s.heap.push (US b l)).push (enO s.heap.objs.size 0) }) :=
 .of_wp λf w A R s h=>by
  obtain ⟨j,g,d,n,i⟩:=s;obtain ⟨m,h⟩:=h;have a:=sub_enumerate;have e:jH b (Shared.heap ⟨j,g,d,n,i⟩) l xs:=m
  wp_walk
  refine wpAny_stack_any λo=>wpAny_pure ?_;split
  ·rename_i c _ _ _ _ _
   cases (c == Value.type "enumerate") <;> (wp_walk using KJ e) <;> exact ⟨_,rfl,h⟩
  ·wp_walk using KJ e
   exact ⟨_,rfl,h⟩
end
end L2
namespace Mf
section
variable(F:Nat)(G:List Int->Int)
end
section
variable{F:Nat}{G:List Int->Int}{ks:List (List Int)}
end
end Mf
namespace Mf
section
variable{F:Nat}{G:List Int->Int}{ks:List (List Int)}
end
end Mf
namespace L2
open PySem PySem.W PySem.Spec PySem.Calls PyProof.Rows
section
variable{X:Cx}
end
end L2
namespace Mf
def rv(f:Fr):Rat:=(f.1:Rat)/(f.2:Rat)
theorem RV{d:Int}(h:0<d):(0:Rat)<(d:Rat):=by exact_mod_cast h
theorem lS{d:Int}(h:0<d):(d:Rat)≠0:=by have:=RV h;grind
theorem DP{f:Fr}(h:0<f.2):rv f*(f.2:Rat)=(f.1:Rat):=by
 have:=lS h;unfold rv;grind
theorem vL{n d:Int}(h:0<d):rv (lw n d)=(n:Rat)/(d:Rat):=by
 have e:=mJ (n:=n) (d:=d);have p:=(iW (n:=n) h).pos;have i:=lS h;have c:=lS p;have f:((lw n d).1:Rat)*(d:Rat)=(n:Rat)*((lw n d).2:Rat):=by exact_mod_cast e
 unfold rv;generalize ((lw n d).1:Rat)=a at *;generalize ((lw n d).2:Rat)=b at *;grind
theorem AX{f g:Fr}(hf:0<f.2)(hg:0<g.2):rv (pK f g)=rv f+rv g:=by
 unfold pK;rw [vL (Int.mul_pos hf hg)];have b:=lS hf;have a:=lS hg;unfold rv;rw [Rat.intCast_add,Rat.intCast_mul,Rat.intCast_mul,Rat.intCast_mul];grind
theorem QM{f g:Fr}(hf:0<f.2)(hg:0<g.2):rv (xO f g)=rv f*rv g:=by
 unfold xO;rw [vL (Int.mul_pos hf hg)];have b:=lS hf;have a:=lS hg;unfold rv;rw [Rat.intCast_mul,Rat.intCast_mul];grind
theorem aAG(f:Fr):rv (-f.1,f.2)=- rv f:=by
 unfold rv;rw [show (((-f.1,f.2):Fr).1:Rat)=-(f.1:Rat) by rw [<-Rat.intCast_neg]];grind
theorem kQ{f g:Fr}(hf:eS f)(hg:eS g)(e:rv f=rv g):f=g:=by
 have h:=lS hf.pos;have d:=lS hg.pos;have c:(f.1:Rat)*(g.2:Rat)=(g.1:Rat)*(f.2:Rat):=by
  have a:=DP hf.pos;have b:=DP hg.pos;rw [<-a,<-b,e];grind
 have q:=EM hf hg (by exact_mod_cast c);exact Prod.ext q.1 q.2
theorem oX:rv (0,1)=0:=by unfold rv;grind
theorem GY:rv (1,1)=1:=by unfold rv;grind
def lH(l:List Rat):Rat:=l.foldr (· + ·) 0
theorem qM:lH []=0:=rfl
theorem mC(x:Rat)(l:List Rat):lH (x::l)=x+lH l:=rfl
theorem qN:∀(a b:List Rat),lH (a++b)=lH a+lH b
 | [],b=>by rw [qM,List.nil_append];grind
 | x::a,b=>by rw [List.cons_append,mC,mC,qN a b];grind
theorem GX(l:List Fr):(∀f∈l,eS f)->rv (pG l)=lH (l.map rv):=by
 induction l using oZ with
 | h0=>intro _;exact oX
 | hs l a ih =>
  intro h;have b:∀f∈l,eS f:=λf c=>h f (dA _ c);rw [oU,AX (DF l b).pos (h a (by simp)).pos,ih b,bR,qN,aU,List.map_nil,mC,qM];grind
def Fn(N B:Nat)(f:Fr):Prop:=eS f/\∃x:Int,rv f*(N:Rat)=(x:Rat)/\x.natAbs<=B*N
theorem Fn.low{N B:Nat}{f:Fr}(h:Fn N B f):eS f:=h.1
theorem xC{f g:Fr}(h:eS f)(h':eS g):eS (pK f g):=iW (Int.mul_pos h.pos h'.pos)
theorem Fn.up{N B:Nat}{f:Fr}(h:Fn N B f)(M:Nat):Fn (N*M) B f:=by
 obtain ⟨l,x,a,b⟩:=h;refine ⟨l,x*(M:Int),?_,?_⟩
 ·rw [Rat.intCast_mul,<-a,Rat.natCast_mul];have:((M:Int):Rat)=(M:Rat):=rfl;rw [this];grind
 ·rw [jI,<-Nat.mul_assoc];exact dM _ b
theorem Fn.dvd{N M B:Nat}{f:Fr}(h:Fn N B f)(d:N ∣ M):Fn M B f:=by
 obtain ⟨e,rfl⟩:=d;exact h.up e
theorem pZ(N:Nat):((N:Int):Rat)=(N:Rat):=rfl
theorem aCO:eS (0,1):=⟨Dd,Dd⟩
theorem aCP:eS (1,1):=⟨Dd,Dd⟩
theorem Fn.eq{N B:Nat}{f:Fr}(h:Fn N B f)(hN:0<N):∃x:Int,f=lw x (N:Int)/\x.natAbs<=B*N:=by
 obtain ⟨l,x,c,b⟩:=h;have a:(0:Int)<(N:Int):=Oo;refine ⟨x,kQ l (iW a) ?_,b⟩;rw [vL a,<-c,pZ];have:=lS a;rw [pZ] at this;grind
theorem Fn.of{n d:Int}{B:Nat}(h:0<d)(hB:n.natAbs<=B*d.natAbs):Fn d.natAbs B (lw n d):=by
 refine ⟨iW h,n,?_,hB⟩;have e:(d.natAbs:Int)=d:=Oo;rw [vL h,<-pZ,e];have:=lS h;grind
theorem Fn.num{N B:Nat}{f:Fr}(h:Fn N B f)(hN:0<N):f.1.natAbs<=B*N/\f.2.natAbs<=N:=by
 obtain ⟨x,rfl,a⟩:=h.eq hN;have q:=ZM (n:=x) (d:=(N:Int)) Oo;have p:=(iW (n:=x) (d:=(N:Int)) Oo).pos;omega
end Mf
namespace Mf
def iZ(n:Nat)(f:Nat->Rat):Rat:=lH ((List.range n).map f)
theorem rZ(f:Nat->Rat):iZ 0 f=0:=rfl
theorem gZ(n:Nat)(f:Nat->Rat):iZ (n+1) f=iZ n f+f n:=by
 unfold iZ;rw [List.range_succ,bR,qN,aU,List.map_nil,mC,qM];grind
theorem pU{n:Nat}{f g:Nat->Rat}(h:∀i,i<n->f i=g i):iZ n f=iZ n g:=by
 induction n with
 | zero=>rfl
 | succ n ih=>rw [gZ,gZ,ih λi a=>h i Oo,h n Oo]
theorem QB(n:Nat):iZ n (λ_=>0)=0:=by
 induction n with
 | zero=>rfl
 | succ n ih=>rw [gZ,ih];grind
def cK(c:List Nat)(i:Nat):List Nat:=c.set i (c.getD i 0+1)
section
variable{W F:Nat}{q:Nat->List Nat->Rat}{mix ps ps' cs:Nat->Rat}
end
end Mf
namespace Mf
def Qn(N B:Nat)(x:Rat):Prop:=∃z:Int,x*(N:Rat)=(z:Rat)/\z.natAbs<=B*N
theorem Fn.q{N B:Nat}{f:Fr}(h:Fn N B f):Qn N B (rv f):=h.2
def dU(x:Rat):Fr:=(x.num,(x.den:Int))
theorem cJ(x:Rat):eS (dU x):=by
 refine ⟨?_,?_⟩
 ·show (0:Int)<(x.den:Int);have:=x.den_pos;omega
 ·show Int.gcd x.num (x.den:Int)=1;rw [Int.gcd_eq_natAbs_gcd_natAbs,Int.natAbs_natCast];exact x.reduced
theorem gD(x:Rat):rv (dU x)=x:=by
 unfold rv dU;show (x.num:Rat)/((x.den:Int):Rat)=x;rw [<-Rat.divInt_eq_div,Rat.num_divInt_den]
theorem Qn.fq{N B:Nat}{x:Rat}(h:Qn N B x):Fn N B (dU x):=⟨cJ x,by rw [gD];exact h⟩
theorem Qn.le{N B C:Nat}{x:Rat}(h:Qn N B x)(hB:B<=C):Qn N C x:=by
 obtain ⟨z,b,a⟩:=h;exact ⟨z,b,aY a (dM _ hB)⟩
theorem Qn.add{N B C:Nat}{x y:Rat}(h:Qn N B x)(h':Qn N C y):Qn N (B+C) (x+y):=by
 obtain ⟨z,b,c⟩:=h;obtain ⟨u,a,d⟩:=h';refine ⟨z+u,?_,?_⟩
 ·rw [Rat.intCast_add,<-b,<-a];grind
 ·rw [Nat.add_mul];omega
theorem Qn.neg{N B:Nat}{x:Rat}(h:Qn N B x):Qn N B (-x):=by
 obtain ⟨z,b,a⟩:=h;refine ⟨-z,?_,by rw [Int.natAbs_neg];exact a⟩;rw [Rat.intCast_neg,<-b];grind
theorem Qn.sub{N B C:Nat}{x y:Rat}(h:Qn N B x)(h':Qn N C y):Qn N (B+C) (x-y):=by
 have:=h.add h'.neg
 rwa [<-Rat.sub_eq_add_neg] at this
theorem Qn.mul{N M B C:Nat}{x y:Rat}(h:Qn N B x)(h':Qn M C y):Qn (N*M) (B*C) (x*y):=by
 obtain ⟨z,d,a⟩:=h;obtain ⟨u,b,c⟩:=h';refine ⟨z*u,?_,?_⟩
 ·rw [Rat.intCast_mul,<-d,<-b,Rat.natCast_mul];grind
 ·rw [jI];have:=Nat.mul_le_mul a c;rw [Nat.mul_mul_mul_comm] at this;exact this
theorem Qn.dvd{N M B:Nat}{x:Rat}(h:Qn N B x)(d:N ∣ M):Qn M B x:=by
 obtain ⟨e,rfl⟩:=d;obtain ⟨z,b,a⟩:=h;refine ⟨z*(e:Int),?_,?_⟩
 ·rw [Rat.intCast_mul,<-b,Rat.natCast_mul,pZ];grind
 ·rw [jI,<-Nat.mul_assoc];exact dM _ a
theorem Qn.zero(N B:Nat):Qn N B 0:=⟨0,by grind,by simp⟩
theorem Qn.sumR{N B:Nat}{f:Nat->Rat}:∀{n:Nat},(∀i,i<n->Qn N B (f i))->Qn N (n*B) (iZ n f)
 | 0,_=>by rw [rZ];exact Qn.zero _ _
 | n+1,h=>by
  rw [gZ,Nat.add_mul,Nat.one_mul];exact (Qn.sumR λi hi=>h i Oo).add (h n Oo)
theorem ZE{f:Fr}(h:eS f)(h0:0<=f.1):0<=rv f:=by
 have b:=RV h.pos;have e:=DP h.pos;have a:(0:Rat)<=(f.1:Rat):=by exact_mod_cast h0
 have:rv f=(f.1:Rat)*(f.2:Rat)⁻¹:=by unfold rv;exact Rat.div_def _ _
 rw [this];exact Rat.mul_nonneg a (Rat.le_of_lt (Rat.inv_pos.mpr b))
def fM(ps:List Fr)(v:Nat):Rat:=rv (ps.getD v (0,1))
theorem sO{α:Type}{l:List α}{j:Nat}{a:α}(h:j<l.length):l.getD j a∈l:=by
 rw [aE,aB h];exact List.getElem_mem h
section
variable{F W M:Nat}{ss:List (List Fr)}{mix ps cs:List Fr}{Ns Nm Np Nc B:Nat}
theorem FO{c:List Nat}{j:Nat}(h:j<c.length):(cK c j).sum=c.sum+1:=by
 unfold cK;have a:c[j]?=some (c.getD j 0):=by rw [aE,aB h];rfl
 have:=kA c j (c.getD j 0+1) _ a;omega
theorem TW(c:List Nat)(j:Nat):(cK c j).length=c.length:=by unfold cK;rw [List.length_set]
end
def rise(F M:Nat):List (List Nat):=(List.range (M+1)).flatMap (cta F)
theorem uK:∀{F m:Nat}{c:List Nat},1<=F->c.length=F->c.sum=m->c∈cta F m
 | 0,m,c,h,_,_=>Oo
 | 1,m,c,_,hl,hs=>by
  obtain ⟨x,rfl⟩:∃x,c=[x]:=by
   match c,hl with
   | [x],_=>exact ⟨x,rfl⟩
  have:x=m:=by simpa using hs
  subst this;simp [cta]
 | F+2,m,c,_,hl,hs=>by
  cases c with
  | nil=>simp at hl
  | cons x c =>
   rw [List.sum_cons] at hs;unfold cta;refine List.mem_flatMap.mpr ⟨x,cM.mpr Oo,aS.mpr ⟨c,uK Oo (by simpa using hl) Oo,rfl⟩⟩
theorem wA{F M:Nat}{c:List Nat}(hF:1<=F):c∈rise F M↔c.length=F/\c.sum<=M:=by
 unfold rise;rw [List.mem_flatMap];constructor
 ·rintro ⟨m,d,e⟩;have:=cM.mp d;obtain ⟨a,b⟩:=gJ e;exact ⟨a,Oo⟩
 ·rintro ⟨a,b⟩;exact ⟨c.sum,cM.mpr Oo,uK hF a rfl⟩
theorem tJ(F:Nat):∀M:Nat,(rise F M).Pairwise λa b=>a.sum<=b.sum
 | 0=>by
  unfold rise;rw [List.range_succ,List.range_zero,List.nil_append,List.flatMap_singleton];refine List.pairwise_iff_forall_sublist.mpr λ{a b} h=>?_;have ha:a∈cta F 0:=h.subset (by simp);have:=(gJ ha).2;omega
 | M+1=>by
  have i:=tJ F M;unfold rise at *;rw [List.range_succ,List.flatMap_append,List.flatMap_singleton];refine List.pairwise_append.mpr ⟨i,?_,λa ha b c=>?_⟩
  ·refine List.pairwise_iff_forall_sublist.mpr λ{a b} h=>?_;have ha:a∈cta F (M+1):=h.subset (by simp);have c:b∈cta F (M+1):=h.subset (by simp);have f:=(gJ ha).2;have d:=(gJ c).2;omega
  ·obtain ⟨m,e,ha⟩:=List.mem_flatMap.mp ha;have:=cM.mp e;have f:=(gJ ha).2;have d:=(gJ c).2;omega
end Mf
namespace Mf
theorem FI:∀F:Nat,1<=F->cta F 0=[List.replicate F 0]
 | 1,_=>rfl
 | F+2,_=>by
  unfold cta;rw [List.range_succ,List.range_zero,List.nil_append,List.flatMap_singleton,Nat.sub_zero,FI (F+1) Oo]
  rfl
theorem SV{F m:Nat}(hF:1<=F){d:List Nat}:d∈cta F (m+1) ↔ ∃c∈cta F m,∃j,j<F/\d=cK c j:=by
 constructor
 ·intro h;obtain ⟨b,n⟩:=gJ h;obtain ⟨j,a,w⟩:∃j,j<d.length/\0<d.getD j 0:=by
   refine Classical.byContradiction λq=>?_;have z:d=List.replicate d.length 0:=by
    refine List.eq_replicate_iff.mpr ⟨rfl,λx s=>?_⟩;obtain ⟨j,a⟩:=dE.mp s;have o:=(aX.mp a).1;have:d.getD j 0=x:=by rw [aE,a];rfl
    refine Classical.byContradiction λr=>q ⟨j,o,Oo⟩
   have:d.sum=0:=by rw [z];simp
   omega
  have f:d[j]?=some (d.getD j 0):=by rw [aE,aB a];rfl
  have u:=kA d j (d.getD j 0-1) _ f;refine ⟨d.set j (d.getD j 0-1),uK hF (by rw [List.length_set];exact b) Oo,j,Oo,?_⟩;unfold cK;rw [aE (l:=d.set j _),List.getElem?_set_self a,List.set_set];show d=d.set j (d.getD j 0-1+1);rw [show d.getD j 0-1+1=d.getD j 0 by omega];refine (List.ext_getElem? λi=>?_);rw [List.getElem?_set];by_cases e:j=i
  ·subst e;rw [if_pos rfl,if_pos a];exact f
  ·rw [if_neg e]
 ·rintro ⟨c,p,j,a,rfl⟩;obtain ⟨b,n⟩:=gJ p;exact uK hF (by rw [TW];exact b) (by rw [FO Oo];omega)
theorem JJ:∀F,F<=4->∀M,M<=5->(rise F M).Nodup:=Kk
end Mf
namespace Mf
abbrev eE:=List Nat × List Fr
def s0(e:eE):Rat:=fM e.2 0
def RX(F:Nat)(c d:List Nat):Rat:=iZ F λf=>if cK c f=d then 1 else 0
def nO(F:Nat)(es:List eE):List Nat->Rat:=es.foldl (λg e=>λd=>g d+g e.1*s0 e*RX F e.1 d) (λd=>if d=List.replicate F 0 then 1 else 0)
theorem NP(F:Nat)(d:List Nat):nO F [] d=if d=List.replicate F 0 then 1 else 0:=rfl
theorem HV(F:Nat)(l:List eE)(e:eE)(d:List Nat):nO F (l++[e]) d=nO F l d+nO F l e.1*s0 e*RX F e.1 d:=by unfold nO;rw [List.foldl_append];rfl
def cI{α:Type}(l:List α)(f:α->Rat):Rat:=lH (l.map f)
theorem DJ{α:Type}(f:α->Rat):cI [] f=0:=rfl
theorem cY{α:Type}(a:α)(l:List α)(f:α->Rat):cI (a::l) f=f a+cI l f:=rfl
theorem iS{α:Type}(a b:List α)(f:α->Rat):cI (a++b) f=cI a f+cI b f:=by unfold cI;rw [bR,qN]
theorem kE{α:Type}(l:List α)(a:α)(f:α->Rat):cI (l++[a]) f=cI l f+f a:=by rw [iS,cY,DJ];grind
theorem pV{α:Type}{l:List α}{f g:α->Rat}(h:∀a∈l,f a=g a):cI l f=cI l g:=by unfold cI;rw [cO h]
theorem MI{α:Type}(l:List α):cI l (λ_=>0)=0:=by
 induction l with
 | nil=>rfl
 | cons a l ih=>rw [cY,ih];grind
theorem MJ{α:Type}{l:List α}{f g:α->Rat}(h:∀a∈l,f a<=g a):cI l f<=cI l g:=by
 induction l with
 | nil=>exact Rat.le_refl
 | cons a l ih =>
  have d:=h a (aR ..);have c:=ih λx b=>h x (aM _ b);rw [cY,cY];grind
theorem uE{α:Type}{l:List α}{f:α->Rat}(h:∀a∈l,0<=f a):0<=cI l f:=by
 have:=MJ (l:=l) (f:=λ_=>0) (g:=f) h
 rwa [MI] at this
structure RlC(F:Nat)(es:List eE):Prop where
 root:∃e r,es=e::r/\e.1=List.replicate F 0
 len:∀e∈es,e.1.length=F
 nd:(es.map (·.1)).Nodup
 srt:es.Pairwise λa b=>a.1.sum<=b.1.sum
 fwd:∀e∈es,s0 e≠0->∀f,f<F->cK e.1 f∈es.map (·.1)
 bwd:∀d∈es.map (·.1),d≠List.replicate F 0->∃e∈es,s0 e≠0/\∃f,f<F/\cK e.1 f=d
 nn:∀e∈es,0<=s0 e
section
variable{F:Nat}{es:List eE}
theorem RW{c d:List Nat}(hc:c.length=F)(h:d.sum≠c.sum+1):RX F c d=0:=by
 unfold RX;rw [pU (g:=λ_=>0) λf a=>if_neg λq=>h ?_,QB];rw [<-q,FO Oo]
theorem Qn.one'(N:Nat):Qn N 1 1:=⟨N,by rw [pZ];grind,by simp⟩
theorem RlC.qn(R:RlC F es){N:Nat}(hN:∀e∈es,Qn N 1 (s0 e))(f4:F<=4):∀n,n<=es.length->∀d,Qn (N^d.sum) (5^n) (nO F (es.take n) d):=by
 intro n
 induction n with
 | zero =>
  intro _ d;rw [List.take_zero,NP];split
  ·exact Qn.one' _
  ·exact Qn.zero _ _
 | succ n ih =>
  intro o d;obtain ⟨e,c⟩:∃x,es[n]?=some x:=⟨_,aB Oo⟩;have j:es.take (n+1)=es.take n++[e]:=by rw [List.take_add_one,c];rfl
  rw [j,HV];have b:=ih Oo d;have a:=aV c;have p:5^(n+1)=5*5^n:=by rw [Nat.pow_succ];omega
  by_cases hs:d.sum=e.1.sum+1
  ·have i:=(ih Oo e.1).mul (hN e a);have l:Qn 1 4 (RX F e.1 d):=by
    have:=Qn.sumR (N:=1) (B:=1) (n:=F) (f:=λf=>if cK e.1 f=d then 1 else 0) λf _=>by
     split
     ·exact Qn.one' _
     ·exact Qn.zero _ _
    exact this.le Oo
   have h:=i.mul l;have m:N^e.1.sum*N=N^d.sum:=by rw [hs,Nat.pow_succ]
   rw [Nat.mul_one,m] at h;exact (b.add h).le Oo
  ·rw [RW (R.len e a) hs];have:nO F (es.take n) d+nO F (es.take n) e.1*s0 e*0=nO F (es.take n) d:=by grind
   rw [this];exact b.le Oo
end
section
variable{F W M:Nat}{es:List eE}{q:Nat->List Nat->Rat}{mix ps cs:Nat->Rat}
end
end Mf
namespace Mf
section
variable{F W:Nat}{es:List eE}{q:Nat->List Nat->Rat}{mix ps cs:Nat->Rat}
end
end Mf
namespace L2
end L2
namespace L2
open PySem
section
variable{M:Model}{A:Around}{E:Value->Shared->Prop}{s:Shared}{env:Env}{outer:List Env}{base:Heap}{L a:Addr}{cls:Value}{od:Option Addr}
end
end L2
namespace L2
open PySem PySem.Spec PyProof.Rows
section
variable{P:Program}{w:World}{H H1 H2:Hp}{h h1 h2 base:Heap}{fs fs2 ex:List Addr}{a:Addr}{o:HO}
end
section
variable{P:Program}{w:World}{K:PySem.W.Frag}{mg:Str->Option Value}{base:Heap}{N:List Str}{qual:Str}{scope:Scope}{f:Addr}{cd:Value}{A:Around}{outer:List Env}{s:Shared}{H:Hp}{E:XK}
end
section
variable{X:Cx}{k:Nat}{f C:Addr}{fd:FuncData}{ps:List Str}{sp:Sp}{Ex:St->XK}{x:Str}{p pos np cpos:Pos}{e:Expr}{es:List Expr}{t:TA}
end
section
variable{X:Cx}{C:Addr}{Ex:St->XK}{x:Str}{pos np cpos:Pos}{e:Expr}{es:List Expr}{t:TA}
end
end L2
namespace L2
open PySem PySem.W PySem.Spec PySem.Calls PyProof.Rows
section
variable{prog:Program}{w:World}{A:Around}{E:Value->Shared->Prop}{s:Shared}{K:Frag}{x C:Addr}{ox:Obj}{od:Option Obj}{name:Str}
end
end L2
namespace L2
open PySem PySem.Spec PyProof.Rows
section
variable{X:Cx}{pins:List (Addr × Obj)}{σ:St}{H:Hp}{s:Shared}
end
section
variable{M:Model}{A:Around}{E:Value->Shared->Prop}{K:PySem.W.Frag}{s:Shared}{a C C2:Addr}{ox:Obj}{od:Option Obj}
end
section
variable{X:Cx}{x n:Str}{np hpos pos:Pos}{b₀:Stmt}{body suite:List Stmt}{i:Nat}{C2:Addr}{tb:(St->XK)->TS}{th:TS}
end
end L2
namespace L2
open PySem PySem.W PySem.Spec PySem.Calls PyProof.Rows
section
variable{prog:Program}{w:World}{A:Around}{E:Value->Shared->Prop}{h:Heap}{g:Array GenState}{d:Drawn}{t:Nat}{os:OsState}
variable{nm q:Str}{C N:Addr}{bs bm bmB:List Value}{hdct:Bool}{sn:List Str}{sub:List Value}{ab:Bool}{col:Option Bool}{dd:Option Addr}{k0 k1 k2 k3 k5:Option Value}{B newId initId:String}
end
section
variable{prog:Program}{w:World}{A:Around}{E:Value->Shared->Prop}{s:Shared}{K:Frag}{C f:Addr}{rest:List Value}
end
end L2
namespace L2
open PySem PySem.W PySem.Spec PySem.Calls PyProof.Rows Builtin Builtin.ObjectAttr
section
variable{prog:Program}{w:World}{A:Around}{E:Value->Shared->Prop}{s:Shared}{K:Frag}{x C:Addr}{R:Result->Shared->Prop}
end
section
variable{X:Cx}{pins:List (Addr × Obj)}{σ:St}{H:Hp}{s:Shared}{a C d:Addr}{fs:List (Str × V)}{f:Str}{v:V}{A:Around}{E:Value->Shared->Prop}
end
section
variable{X:Cx}{k:Nat}{f C:Addr}{fd:FuncData}{ps:List Str}{sp:Sp}{x g:Str}{p pos np apos pos':Pos}{e o value:Expr}{es:List Expr}{t:TA}{ta tv:TE}
end
end L2
namespace L2
open PySem PySem.W PySem.Spec PySem.Calls PyProof.Rows
end L2
namespace L2
open PySem PySem.W PySem.Spec PySem.Calls PyProof.Rows Builtin Builtin.ObjectAttr
section
variable{P:Program}{w:World}{H:Hp}{h:Heap}{a C:Addr}{od:Option Addr}
end
section
variable{prog:Program}{w:World}{A:Around}{E:Value->Shared->Prop}{s:Shared}{K:Frag}{x C:Addr}
end
section
variable{X:Cx}{pins:List (Addr × Obj)}{σ:St}{H:Hp}{s:Shared}{a C d:Addr}{fs:List (Str × V)}{f:Str}{v:V}{A:Around}{E:Value->Shared->Prop}
end
section
variable{X:Cx}{k:Nat}{f C:Addr}{fd:FuncData}{ps:List Str}{sp:Sp}{x g:Str}{p pos np apos pos':Pos}{e o value:Expr}{es:List Expr}{t:TA}{ta tv:TE}
end
section
variable{M:Model}{A:Around}{E:Value->Shared->Prop}{env:Env}{K:Frag}{C:Addr}
end
section
variable{X:Cx}{k:Nat}{f C:Addr}{fd:FuncData}{ps:List Str}{sp:Sp}{Ex:St->XK}{x:Str}{pos np cpos:Pos}{e:Expr}{es:List Expr}{t:TA}
end
end L2
namespace L2
open PySem PySem.Spec PySem.W PyProof.Rows HT
end L2
namespace L2
open PySem PySem.Spec PyProof.Rows
section
variable{X:Cx}
end
section
variable{σ:St}{js:List Nat}{te:TE}{H:Hp}{Q:VK}
end
end L2
namespace L2
open PySem PySem.Spec PySem.W PyProof.Rows
mutual
def qC:PyData->Bool
 | .int _=>true
 | .bool _=>true
 | .str _=>true
 | .tuple ds=>gR ds
 | _=>false
def gR:List PyData->Bool
 | []=>true
 | d::ds=>qC d&&gR ds
end
mutual
def jY(w:World):PyData->Int
 | .int i=>hashInt i
 | .bool b=>reduceHash (if b=true then 1 else 0)
 | .str x=>hashStr w x
 | .tuple ds=>reduceHash (Builtin.Tuple.tupleHashOf (kU w ds))
 | _=>0
def kU(w:World):List PyData->List Int
 | []=>[]
 | d::ds=>jY w d::kU w ds
end
mutual
def KZ:PyData->Nat
 | .tuple ds=>sQ ds+1
 | _=>1
def sQ:List PyData->Nat
 | []=>0
 | d::ds=>KZ d+sQ ds
end
mutual
def tQ:PyData->Nat
 | .tuple ds=>fQ ds+1
 | _=>0
def fQ:List PyData->Nat
 | []=>0
 | d::ds=>max (tQ d) (fQ ds)
end
section
variable{prog:Program}{w:World}{E:Value->Shared->Prop}
set_option maxRecDepth 100000 in
mutual
theorem ER:∀(d:PyData) (v:Value) (A:Around) (s:Shared) (Q:Int->Shared->Prop) (as:List Addr),qC d=true->Reads s.heap v d as->A.units+tQ d<cLine ->
  Q (jY w d) { s with toks:=s.toks+KZ d }->wpAny (model prog w) A (pyHash v) Q E s
 | .int i,_,A,s,Q,as,_,r,_,h=>by cases r;exact wpAny_pyHash_int h
 | .str y,_,A,s,Q,as,_,r,_,h=>by cases r;exact wpAny_pyHash_str h
 | .bool b,_,A,s,Q,as,_,r,hu,h=>by
  cases r;refine pyHash_slot (T := "bool") rfl F.slot_bool_hash entry_int_hash (args_int_hash _) (beq_builtin_none _) (.inr (bA (Nat.le_add_right _ _) hu)) ?_;cases b with
  | false=>exact (show wpAny _ _ (mkInt 0 >>= λr=>ret r) _ _ s from wpAny_bind (wpAny_mkInt (wpAny_pure ⟨_,_,rfl,h⟩)))
  | true=>exact (show wpAny _ _ (mkInt 1 >>= λr=>ret r) _ _ s from wpAny_bind (wpAny_mkInt (wpAny_pure ⟨_,_,rfl,h⟩)))
 | .tuple ds,_,A,s,Q,as,hk,r,hu,h=>by
  cases r with
  | @tuple a o vs n _ _ hg hc hd hw =>
   have hu':A.units+(fQ ds+1)<cLine:=hu;refine pyHash_slot (T := "tuple") ⟨_,hg,hc⟩ F.slot_tuple_hash F.entry_tuple_hash (F.args_tuple_hash_1 _) (beq_builtin_none _) (.inr Oo) ?_;show wpAny _ _ (Builtin.Tuple.tupleItemsOf (.ref a) >>= _) _ _ s;refine wpAny_bind (wpAny_tupleItemsOf hg hd ?_);refine wpAny_bind ?_;rw [<-Array.forIn_toList];refine kG ds vs.toList A.in1 s #[] _ as hk hw (by rw [Around.in1_units];omega) λb c=>?_;show wpAny _ _ (retInt (Builtin.Tuple.tupleHashOf b.toList)) _ _ _;rw [c];exact wpAny_bind (wpAny_mkInt (wpAny_pure ⟨_,_,rfl,h⟩))
 | .none,_,_,_,_,_,hk,_,_,_ | .list _,_,_,_,_,_,hk,_,_,_ | .dict _,_,_,_,_,_,hk,_,_,_=>by simp [qC] at hk
theorem kG:∀(ds:List PyData) (vs:List Value) (A:Around) (s:Shared) (b:Array Int) (Q:Array Int->Shared->Prop) (as:List Addr),gR ds=true->ReadsAll s.heap vs ds as->A.units+fQ ds<cLine ->
  (∀b',b'.toList=b.toList++kU w ds->Q b' { s with toks:=s.toks+sQ ds }) ->
  wpAny (model prog w) A (forIn vs b λx r=>do let h <-pyHash x;pure PUnit.unit;pure (ForInStep.yield (r.push h))) Q E s
 | [],_,A,s,b,Q,as,_,r,_,h=>by cases r;exact wpAny_pure (h b (by simp [kU]))
 | d::ds,_,A,s,b,Q,as,hk,r,hu,h=>by
  cases r with
  | cons r1 r2 =>
   have hk':qC d=true/\gR ds=true:=by rw [gR,cC] at hk;exact hk
   have a:A.units+max (tQ d) (fQ ds)<cLine:=hu;rw [List.forIn_cons];refine wpAny_bind (wpAny_bind (ER d _ A s _ _ hk'.1 r1 Oo ?_));refine wpAny_bind (wpAny_pure (wpAny_pure ?_));refine kG ds _ A _ _ Q _ hk'.2 r2 Oo λb' c=>?_;have:=h b' (by rw [c];simp [kU]);rw [show s.toks+sQ (d::ds)=s.toks+KZ d+sQ ds by rw [sQ,Nat.add_assoc]] at this;exact this
end
mutual
theorem yK:∀(n:Nat) (d:PyData) (v:Value) (A:Around) (s:Shared) (Q:Bool->Shared->Prop) (as:List Addr),qC d=true->tQ d<=n->Reads s.heap v d as->Q true s->wpAny (model prog w) A (eqIsQuiet n v) Q E s
 | n,.int i,_,A,s,Q,as,_,_,r,h=>by cases r;unfold eqIsQuiet;exact wpAny_pure h
 | n,.str i,_,A,s,Q,as,_,_,r,h=>by cases r;unfold eqIsQuiet;exact wpAny_pure h
 | n,.bool i,_,A,s,Q,as,_,_,r,h=>by cases r;unfold eqIsQuiet;exact wpAny_pure h
 | n,.tuple ds,_,A,s,Q,as,hk,hn,r,h=>by
  cases r with
  | @tuple a o vs m _ _ hg hc hd hw =>
   have hn':fQ ds+1<=n:=hn;obtain ⟨n,rfl⟩:∃k,n=k+1:=⟨n-1,Oo⟩;have b:s.TypeIs (.ref a) "tuple" := ⟨o,hg,hc⟩;unfold eqIsQuiet;refine wpAny_bind (wpAny_specialOf b F.slot_tuple_eq.lookup ?_);show wpAny _ _ (isInstance (.ref a) (.type "tuple") >>= _) _ _ s;refine wpAny_bind (wpAny_isInstance b isSubtype_tuple_tuple ?_);simp only [Bool.not_true,Bool.false_eq_true,if_false];refine wpAny_bind (wpAny_seqItems hg hd ?_);refine wpAny_bind ?_;show wpAny _ _ (forIn vs _ _) _ _ s;rw [<-Array.forIn_toList];exact vO n ds vs.toList A s _ as hk Oo hw (wpAny_pure h)
 | _,.none,_,_,_,_,_,hk,_,_,_ | _,.list _,_,_,_,_,_,hk,_,_,_ | _,.dict _,_,_,_,_,_,hk,_,_,_=>by simp [qC] at hk
theorem vO:∀(n:Nat) (ds:List PyData) (vs:List Value) (A:Around) (s:Shared) (Q:Option Bool × Unit->Shared->Prop) (as:List Addr),gR ds=true->fQ ds<=n->ReadsAll s.heap vs ds as->Q (none,()) s ->
  wpAny (model prog w) A (forIn vs ((none,()):Option Bool × Unit) λy r=>do
   let x <-eqIsQuiet n y
   if (!x)=true then pure (ForInStep.done (some false,())) else pure (ForInStep.yield (none,()))) Q E s
 | n,[],_,A,s,Q,as,_,_,r,h=>by cases r;exact wpAny_pure h
 | n,d::ds,_,A,s,Q,as,hk,hn,r,h=>by
  cases r with
  | cons r1 r2 =>
   have hk':qC d=true/\gR ds=true:=by rw [gR,cC] at hk;exact hk
   have a:max (tQ d) (fQ ds)<=n:=hn;rw [List.forIn_cons];refine wpAny_bind (wpAny_bind (yK n d _ A s _ _ hk'.1 Oo r1 ?_));simp only [Bool.not_true,Bool.false_eq_true,if_false];exact wpAny_pure (vO n ds _ A s Q _ hk'.2 Oo r2 h)
end
end
mutual
theorem vM{h h':Heap}(k:∀(b:Addr) (o:Obj) vs n,h.get? b=some o->o.data=.seq vs n->h'.get? b=some o):∀(d:PyData) (v:Value) (as:List Addr),qC d=true->Reads h v d as->Reads h' v d as
 | .int i,_,_,_,r=>by cases r;exact .int ..
 | .str i,_,_,_,r=>by cases r;exact .str ..
 | .bool i,_,_,_,r=>by cases r;exact .bool ..
 | .tuple ds,_,_,hk,r=>by
  cases r with
  | tuple hg hc hd hw=>exact .tuple (k _ _ _ _ hg hd) hc hd (tK k ds _ _ hk hw)
 | .none,_,_,hk,_ | .list _,_,_,hk,_ | .dict _,_,_,hk,_=>by simp [qC] at hk
theorem tK{h h':Heap}(k:∀(b:Addr) (o:Obj) vs n,h.get? b=some o->o.data=.seq vs n->h'.get? b=some o):∀(ds:List PyData) (vs:List Value) (as:List Addr),gR ds=true->ReadsAll h vs ds as->ReadsAll h' vs ds as
 | [],_,_,_,r=>by cases r;exact .nil
 | d::ds,_,_,hk,r=>by
  cases r with
  | cons r1 r2 =>
   rw [gR,cC] at hk;exact .cons (vM k d _ _ hk.1 r1) (tK k ds _ _ hk.2 r2)
end
noncomputable instance decPyData:DecidableEq PyData:=λa b=>Classical.propDecidable (a=b)
structure nM where
 S:PyData->Prop
 key:∀d,S d->qC d=true
 deep:∀d,S d->tQ d<=8
 lay:∀d,S d->d.canLay0=true
 dep:∀d,S d->d.depth<=60
 eq:∀d e,S d->S e->PyData.eqv d e=decide (d=e)
noncomputable def gM (P:Program) (w:World) (Sh:nM):HeapKind P w PyData where
 is:=λh d a=>Sh.S d/\∃as,Reads h (.ref a) d as
 hash:=jY w
 draws:=KZ
 room:=λA=>A.units+61<cLine
 inj:=λ{h a x y} ⟨sx,_,rx⟩ ⟨_,_,ry⟩=>SeqAt.Reads.unique _ _ _ _ _ (Sh.lay x sx) rx ry
 keeps:=λ{h h' k a d o es ep} ⟨sx,as,rx⟩ ho hd hs=>⟨sx,as,vM (λb ob vs n hb hbd=>by
  have nb:b≠d:=λz=>by subst z;rw [ho] at hb;cases hb;rw [hd] at hbd;cases hbd
  exact (hs.2 b nb).trans hb) _ _ _ (Sh.key k sx) rx⟩
 pyHash:=λ{A E s k a Q} hu ⟨sx,as,rx⟩ h=>ER k _ A s Q as (Sh.key k sx) rx (by have:=Sh.deep k sx;omega) h
 eqBool:=λ{A E s x y a b Q} hu ⟨sx,as,rx⟩ ⟨sy,bs,ry⟩ h=>SeqAt.eqBoolOverData P w A E s _ _ x y as bs Q rx ry (Sh.lay x sx) (Sh.lay y sy) (by have:=Sh.dep x sx;omega) (by rw [Sh.eq x y sx sy];exact h)
 quiet:=λ{A E s k a Q} ⟨sx,as,rx⟩ h=>yK 8 k _ A s Q as (Sh.key k sx) (Sh.deep k sx) rx h
def SN(P:Program)(w:World)(Sh:nM)(a:Addr)(kvs:List (PyData × Addr × V))(h:Heap):Prop :=
 (kvs.length<=sizeLine/\(a == sysModules)=false)/\∃xs:List (PyData × Addr × Value),Paired (λ(p:PyData × Addr × V) (q:PyData × Addr × Value)=>p.1=q.1/\p.2.1=q.2.1/\dO p.2.2 q.2.2) kvs xs /\
  ∃o es ep,h.get? a=some o/\o.ExactDict/\o.data=.dict es ep/\es.toList=xs.map (entryOfKey (gM P w Sh))/\(xs.map (·.1)).Nodup
def mU(P:Program)(w:World)(Sh:nM)(a:Addr)(kvs:List (PyData × Addr × V)):HO:=.ext (SN P w Sh a kvs)
abbrev qG(kvs:List (PyData × Addr × V)):List (PyData × V):=kvs.map λp=>(p.1,p.2.2)
structure dZ(P:Program)(w:World)(Sh:nM)(H:Hp)(a:Addr)(l:List (PyData × V)):Prop where
 ex:∃kvs:List (PyData × Addr × V),H a=some (mU P w Sh a kvs)/\(∀p∈kvs,Sh.S p.1/\cB H p.1 (.ref p.2.1))/\l=qG kvs
section
variable{P:Program}{w:World}{Sh:nM}{H H':Hp}{h h':Heap}{a:Addr}
theorem zD{kvs:List (PyData × Addr × V)}(x:SN P w Sh a kvs h):eM P w H h a (mU P w Sh a kvs):=by
 obtain ⟨b,f,r,o,i,d,e,c⟩:=id x;refine ⟨x,⟨o,e⟩,λl j p k=>?_⟩;obtain ⟨b,f,r,o,i,d,e,c⟩:=p;exact ⟨b,f,r,o,i,d,k _ e,c⟩
abbrev KN:List (PyData × Addr × V)->List (PyData × Addr × Value)->Prop:=Paired λ(p:PyData × Addr × V) (q:PyData × Addr × Value)=>p.1=q.1/\p.2.1=q.2.1/\dO p.2.2 q.2.2
theorem KN.val{kvs:List (PyData × Addr × V)}{xs:List (PyData × Addr × Value)}(r:KN kvs xs)(k:PyData):tF (eT (qG kvs) k) ((atKey xs k).map (·.2)):=by
 induction r with
 | nil=>exact True.intro
 | @cons p q ps qs h t ih =>
  obtain ⟨c,_,d⟩:=h;by_cases e:p.1=k
  ·have a:q.1=k:=c.symm.trans e;have b:atKey (q::qs) k=some q.2:=by simp [atKey,List.find?_cons,a]
   rw [show qG (p::ps)=(p.1,p.2.2)::qG ps from rfl,fK e,b];exact d
  ·have a:¬q.1=k:=λz=>e (c.trans z);have b:atKey (q::qs) k=atKey qs k:=by simp [atKey,List.find?_cons,a]
   rw [show qG (p::ps)=(p.1,p.2.2)::qG ps from rfl,fL e,b];exact ih
noncomputable def pH (kvs:List (PyData × Addr × V)) (k:PyData) (b:Addr) (v:V):List (PyData × Addr × V) :=
 if (kvs.any λkv=>decide (kv.1=k))=true then kvs.map (λkv=>if kv.1=k then (kv.1,kv.2.1,v) else kv) else kvs++[(k,b,v)]
theorem DY(kvs:List (PyData × Addr × V))(k:PyData)(b:Addr)(v:V):qG (pH kvs k b v)=fP (qG kvs) k v:=by
 unfold pH fP qG;rw [List.any_map];have e:((λa:PyData × V=>decide (a.1=k)) ∘ λp:PyData × Addr × V=>(p.1,p.2.2))=λa:PyData × Addr × V=>decide (a.1=k):=rfl;rw [e];by_cases q:(kvs.any λa=>decide (a.1=k))=true
 ·rw [if_pos q,if_pos q,List.map_map,List.map_map];refine cO λp _=>?_;show (λp:PyData × Addr × V=>(p.1,p.2.2)) (if p.1=k then (p.1,p.2.1,v) else p)=if p.1=k then (p.1,v) else (p.1,p.2.2)
  by_cases e:p.1=k
  ·rw [if_pos e,if_pos e]
  ·rw [if_neg e,if_neg e]
 ·rw [if_neg q,if_neg q,bR];rfl
theorem DW{kvs:List (PyData × Addr × V)}{k:PyData}{b:Addr}{v:V}{p:PyData × Addr × V}(h:p∈pH kvs k b v):(∃q∈kvs,p.1=q.1/\p.2.1=q.2.1)\/(p.1=k/\p.2.1=b):=by
 unfold pH at h;split at h
 ·obtain ⟨q,a,rfl⟩:=aS.mp h;refine .inl ⟨q,a,?_⟩;split <;> exact ⟨rfl,rfl⟩
 ·rcases dC.mp h with h | h
  ·exact .inl ⟨p,h,rfl,rfl⟩
  ·rw [bT.mp h];exact .inr ⟨rfl,rfl⟩
theorem DX(kvs:List (PyData × Addr × V))(k:PyData)(b:Addr)(v:V):(pH kvs k b v).length<=kvs.length+1:=by
 unfold pH;split
 ·rw [aC];omega
 ·rw [aT,List.length_singleton];exact aG _
theorem KN.any{kvs:List (PyData × Addr × V)}{xs:List (PyData × Addr × Value)}(r:KN kvs xs)(k:PyData):(kvs.any λkv=>decide (kv.1=k))=(atKey xs k).isSome:=by
 have h:=(r.val k).isSome_eq;rw [Option.isSome_map] at h;rw [<-h,<-iQ];unfold qG;rw [List.any_map];rfl
theorem KN.put{kvs:List (PyData × Addr × V)}{xs:List (PyData × Addr × Value)}(r:KN kvs xs)(k:PyData){b:Addr}{y:V}{u:Value}(ry:dO y u):KN (pH kvs k b y) (storedH xs k b u):=by
 unfold pH storedH;rw [r.any k];by_cases q:(atKey xs k).isSome=true
 ·rw [if_pos q,if_pos q];clear q
  induction r with
  | nil=>exact .nil
  | @cons p q ps qs h t ih =>
   rw [aU,aU];refine .cons ?_ ih;obtain ⟨a,c,d⟩:=h;unfold putAt;by_cases e:p.1=k
   ·rw [if_pos e,if_pos (a.symm.trans e)];exact ⟨a,c,ry⟩
   ·rw [if_neg e,if_neg (λz=>e (a.trans z))];exact ⟨a,c,d⟩
 ·rw [if_neg q,if_neg q];exact Paired.snoc r ⟨rfl,rfl,ry⟩
end
section
variable{X:Cx}{pins:List (Addr × Obj)}{σ:St}{H:Hp}{s:Shared}{a:Addr}{Sh:nM}
theorem nC{d:PyData}{b:Addr}(I:cH X pins σ H s)(hS:Sh.S d)(r:cB H d (.ref b)):(gM X.prog X.w Sh).is s.heap d b:=⟨hS,r.reads I rfl⟩
theorem aC5{kvs:List (PyData × Addr × V)}(I:cH X pins σ H s)(e:Rd H a (mU X.prog X.w Sh a kvs))(ks:∀p∈kvs,Sh.S p.1/\cB H p.1 (.ref p.2.1)):(kvs.length<=sizeLine/\(a == sysModules)=false)/\∃xs,KN kvs xs/\s.heap.DictOfH (gM X.prog X.w Sh) a xs:=by
 obtain ⟨⟨y,xs,r,o,A,h,f,i,j,u,B⟩,_⟩:=(show eM X.prog X.w H s.heap a (mU X.prog X.w Sh a kvs) from QR I.hok e);refine ⟨y,xs,r,o,A,h,f,i,j,u,λx b=>?_,B⟩;have all:∀{l:List (PyData × Addr × V)} {m:List (PyData × Addr × Value)},KN l m->(∀p∈l,Sh.S p.1/\cB H p.1 (.ref p.2.1))->∀x∈m,(gM X.prog X.w Sh).is s.heap x.1 x.2.1:=by
  intro l m q
  induction q with
  | nil=>intro _ x b;exact nomatch b
  | @cons p q ps qs hq t ih =>
   intro d x b;rcases bE.mp b with e | b
   ·subst e;obtain ⟨z,n⟩:=d p (aR ..);rw [<-hq.1,<-hq.2.1];exact nC I z n
   ·exact ih (λp c=>d p (aM _ c)) x b
 exact all r ks x b
end
end L2
namespace HT
open PySem PySem.Spec PySem.W PyProof.Rows
section
variable{prog:Program}{w:World}{K:Type}[DecidableEq K]{knd:HeapKind prog w K}{A:Around}{E:Value->Shared->Prop}{s:Shared}
theorem FU{nm:String}{a b:Addr}{xa xb:List (K × Addr × Value)}{Q:Bool->Shared->Prop}(ha:(a == sysModules)=false)(hb:(b == sysModules)=false)(da:s.heap.DictOfH knd a xa)(db:s.heap.DictOfH knd b xb)(hl:xa.length=xb.length)(hu:knd.room A)
  (hits:∀(i:Nat) (x:K × Addr × Value),xa[i]?=some x->∃(j:Nat) (p:Addr × Value),xb[j]?=some (x.1,p)) (eqs:∀(i j:Nat) (x:K × Addr × Value) (p:Addr × Value),xa[i]?=some x->xb[j]?=some (x.1,p)->SeqAt.EqAt A s x.2.2 p.2 true) (h:Q true s) :
  wpAny (model prog w) A (Builtin.Dict.samePairs nm a b) Q E s:=by
 obtain ⟨β,l,α,d,_,f,z,D,R⟩:=da;obtain ⟨Z,I,W,n,_,o,r,J,N⟩:=db;have U:=size_of_entries z;have Y:=size_of_entries r;unfold Builtin.Dict.samePairs Builtin.Dict.showsAll;rw [if_neg (show ¬(a == sysModules)=true by rw [ha];exact bN),if_neg (show ¬(b == sysModules)=true by rw [hb];exact bN)];refine wpAny_bind (wpAny_pure (wpAny_bind (wpAny_pure ?_)));refine wpAny_bind (wpAny_dictEntries d f ?_);dsimp only;refine wpAny_bind (wpAny_dictEntries n o ?_);have G:l.size=I.size:=Oo;rw [if_neg (by rw [G];simp)];refine wpAny_bind (wpAny_dictEpoch d f ?_);refine wpAny_bind ?_;rw [Std.Legacy.Range.forIn_eq_forIn_range'];simp only [Std.Legacy.Range.size,Nat.sub_zero,Nat.add_sub_cancel,Nat.div_one];refine wpAny_forIn_list _ (λc q M=>M=s/\q=(none,())/\∃i,c=List.range' i (l.size-i)/\i<=l.size) _ ?_ ?_ _ _ ⟨rfl,rfl,0,by simp,bS _⟩
 ·rintro x c q M ⟨rfl,rfl,i,B,T⟩;have L:i<l.size:=by
   rcases Nat.lt_or_ge i l.size with h | h
   ·exact h
   ·rw [Nat.sub_eq_zero_of_le h] at B;simp at B
  obtain ⟨rfl,m⟩:x=i/\c=List.range' (i+1) (l.size-(i+1)):=by
   have e:l.size-i=(l.size-(i+1))+1:=Oo;rw [e,List.range'_succ] at B;injection B with h1 h2;exact ⟨h1,h2⟩
  refine wpAny_bind (wpAny_dictEntries d f ?_);have C:xa[x]?=some (xa[x]'Oo):=aB _;generalize xa[x]'Oo=u at C;rw [entry_at z x,C];obtain ⟨j,p,X⟩:=hits x u C;show wpAny _ _ (holding [Value.ref u.2.1,u.2.2] _ >>= _) _ _ _;refine wpAny_bind (wpAny_holding (wpAny_bind (wpAny_dictFind_heap (k:=u.1) hu (D u (aV C)) n o r J N (λO=>absurd X (O j p)) λP S y=>?_)));refine wpAny_bind (wpAny_dictEntries n o ?_);rw [entry_at r P,y];refine wpAny_holding (eqs x P u S C y prog w _ _ ?_);show wpAny _ _ (if (!true)=true then _ else _) _ _ _;rw [if_neg Dd];refine wpAny_bind (wpAny_dictEpoch d f ?_);rw [if_neg (by simp)];exact wpAny_pure ⟨rfl,rfl,x+1,m,L⟩
 ·rintro q M ⟨rfl,rfl,i,B,T⟩;exact wpAny_pure h
theorem kX{a:Addr}{xs:List (K × Addr × Value)}(d:s.heap.DictOfH knd a xs):s.TypeIs (.ref a) "dict" := let ⟨o,_,_,ho,hex,_⟩:=d;⟨o,ho,hex.1⟩
theorem UD{a b:Addr}{xa xb:List (K × Addr × Value)}{Q:Value->Shared->Prop}(ha:(a == sysModules)=false)(hb:(b == sysModules)=false)(da:s.heap.DictOfH knd a xa)(db:s.heap.DictOfH knd b xb)(hl:xa.length=xb.length)(hu:A.units<cLine)(hr:knd.room A.in1)
  (hits:∀(i:Nat) (x:K × Addr × Value),xa[i]?=some x->∃(j:Nat) (p:Addr × Value),xb[j]?=some (x.1,p)) (eqs:∀(i j:Nat) (x:K × Addr × Value) (p:Addr × Value),xa[i]?=some x->xb[j]?=some (x.1,p)->SeqAt.EqAt A.in1 s x.2.2 p.2 true) (h:Q (.bool false) s) :
  wpAny (model prog w) A (compareOp .NotEq (.ref a) (.ref b)) Q E s:=by
 refine wpAny_richCompare_same_room (op:=.NotEq) (kX da) (kX db) PySem.F.slot_dict_ne (wpAny_call_entry PySem.F.slot_dict_ne (kX da) PySem.F.entry_dict_ne ?_ (PySem.F.args_dict_ne_2 _ _)) hu;show wpAny _ _ (Builtin.Dict.dictSlotArgs "__ne__" ⟨[.ref a,.ref b],[]⟩ >>= _) _ _ s;refine wpAny_bind ?_;unfold Builtin.Dict.dictSlotArgs;refine wpAny_bind (wpAny_notOrdered_dict (kX da) ?_);show wpAny _ _ (pure (Value.ref a,Value.ref b)) _ _ s;refine wpAny_pure (wpAny_bind (wpAny_isInstance (T := "dict") (kX db) PySem.F.sub_dict_dict ?_));simp only [Bool.not_true,Bool.false_eq_true,if_false];refine wpAny_bind (wpAny_pure (wpAny_bind (wpAny_pure ?_)));refine wpAny_bind (FU ha hb da db hl hr hits eqs ?_);refine wpAny_pure ⟨_,rfl,?_,?_⟩
 ·exact λx=>nomatch x
 ·simpa using h
end
end HT
namespace L2
open PySem PySem.Spec PySem.W PyProof.Rows HT
section
variable{X:Cx}
end
theorem AG{H:Hp}{d:Addr}{o:HO}:aO d H (upd H d o):=λc u h=>by
 have n:=gL.ne h;rw [gL.at n] at h;exact gL.of n (by rw [cU n];exact h)
section
variable{X:Cx}{tg:Expr}
end
section
variable{σ:St}{js:List Nat}{te:TE}{H:Hp}{Q:VK}
end
section
variable{X:Cx}
end
mutual
theorem jS:∀(d:PyData),qC d=true->dG d=true
 | .int _,_=>rfl
 | .str _,_=>rfl
 | .bool _,_=>rfl
 | .tuple ds,h=>yS ds h
 | .none,h | .list _,h | .dict _,h=>by simp [qC] at h
theorem yS:∀(ds:List PyData),gR ds=true->cV ds=true
 | [],_=>rfl
 | d::ds,h=>by
  rw [gR,cC] at h;show (dG d&&cV ds)=true;rw [jS d h.1,yS ds h.2];rfl
end
section
variable{P:Program}{w:World}{Sh:nM}{H H':Hp}{a:Addr}{l:List (PyData × V)}
theorem dZ.keep(h:dZ P w Sh H a l)(t:dJ H H')(k:∀kvs,H a=some (mU P w Sh a kvs)->H' a=some (mU P w Sh a kvs)):dZ P w Sh H' a l:=by
 obtain ⟨kvs,e,c,rfl⟩:=h.ex;exact ⟨kvs,k _ e,λp b=>⟨(c p b).1,(c p b).2.flat t (jS _ (Sh.key _ (c p b).1))⟩,rfl⟩
theorem dZ.same(h:dZ P w Sh H a l)(s:bC H H'):dZ P w Sh H' a l:=h.keep s.t λb e=>s _ _ e
theorem dZ.ne{b:Addr}{xs:List V}(h:dZ P w Sh H a l)(hb:H b=some (.tup xs)):b≠a:=λz=>by
 obtain ⟨c,e,_⟩:=h.ex;rw [z,e] at hb;cases hb
theorem dZ.neL{b:Addr}{xs:List V}(h:dZ P w Sh H a l)(hb:H b=some (.lst xs)):b≠a:=λz=>by
 obtain ⟨c,e,_⟩:=h.ex;rw [z,e] at hb;cases hb
theorem dZ.t(h:dZ P w Sh H a l)(s:aO a H H'):dJ H H':=λb d c=>s.at (h.ne c) c
theorem dZ.but{b:Addr}{xs:List V}(h:dZ P w Sh H a l)(hb:H b=some (.lst xs))(s:aO b H H'):dZ P w Sh H' a l:=h.keep (s.t hb) λc e=>s.at (λz=>h.neL hb z.symm) e
theorem dZ.there(h:dZ P w Sh H a l):∃o,H a=some o:=by
 obtain ⟨b,e,_⟩:=h.ex;exact ⟨_,e⟩
end
section
variable{X:Cx}{pins:List (Addr × Obj)}{σ:St}{H:Hp}{s:Shared}{a:Addr}{Sh:nM}{l:List (PyData × V)}
theorem dZ.open_(h:dZ X.prog X.w Sh H a l)(I:cH X pins σ H s):∃kvs xs,H a=some (mU X.prog X.w Sh a kvs)/\(∀p∈kvs,Sh.S p.1/\cB H p.1 (.ref p.2.1))/\l=qG kvs/\kvs.length<=sizeLine/\(a == sysModules)=false/\KN kvs xs/\s.heap.DictOfH (gM X.prog X.w Sh) a xs:=by
 obtain ⟨kvs,e,c,rfl⟩:=h.ex;obtain ⟨⟨z,hd⟩,xs,b,d⟩:=aC5 I (.inl e) c;exact ⟨kvs,xs,e,c,rfl,z,hd,b,d⟩
theorem dZ.isD(h:dZ X.prog X.w Sh H a l)(I:cH X pins σ H s):s.TypeIs (.ref a) "dict" /\ (∀b,Value.ref a=.ref b->∃ob,s.heap.get? b=some ob/\ob.dict=none)/\(a == sysModules)=false:=by
 obtain ⟨f,i,_,_,_,_,hd,_,c⟩:=h.open_ I;refine ⟨c.typeIs,λb q=>?_,hd⟩;cases q;obtain ⟨ob,_,_,e,d,_⟩:=c;exact ⟨ob,e,d.2.1⟩
theorem nD{A:Around}(P:Program)(w:World)(Sh:nM)(hu:A.units+64<cLine):(gM P w Sh).room A.in1:=by
 show A.in1.units+61<cLine;rw [Around.in1_units];omega
theorem FD{h':Heap}{t':Nat}{kvs:List (PyData × Addr × V)}{xs:List (PyData × Addr × Value)}{d:PyData}{b:Addr}{v:V}{r:Value}(I:cH X pins σ H s)(e:H a=some (mU X.prog X.w Sh a kvs))(ks:∀p∈kvs,Sh.S p.1/\cB H p.1 (.ref p.2.1))(hl:kvs.length<sizeLine)(hd:(a == sysModules)=false)(rel:KN kvs xs)
  (hS:Sh.S d) (rb:cB H d (.ref b)) (rv:dO v r) (dd:h'.DictOfH (gM X.prog X.w Sh) a (storedH xs d b r)) (hs:Heap.SameBut a s.heap h') :
  ∃H',cH X pins σ H' { s with heap:=h',toks:=t' }/\dZ X.prog X.w Sh H' a (fP (qG kvs) d v)/\aO a H H':=by
 obtain ⟨q,u,l,f,m,o,x,_,y⟩:=dd;have t:dJ H (upd H a (mU X.prog X.w Sh a (pH kvs d b v))):=λc A i=>by rw [cU (λz=>by rw [z,e] at i;cases i)];exact i
 refine ⟨_,lT (ob:=mU X.prog X.w Sh a (pH kvs d b v)) I (by rw [e];exact True.intro) hs ⟨q,f⟩ (zD ⟨⟨aY (DX kvs d b v) hl,hd⟩,_,rel.put d rv,q,u,l,f,m,o,x,y⟩),⟨pH kvs d b v,bH,λp n=>?_,(DY kvs d b v).symm⟩,aO.self⟩;rcases DW n with ⟨q,f,h,j⟩ | ⟨h,j⟩
 ·rw [h,j];exact ⟨(ks q f).1,(ks q f).2.flat t (jS _ (Sh.key _ (ks q f).1))⟩
 ·rw [h,j];exact ⟨hS,rb.flat t (jS _ (Sh.key _ hS))⟩
end
@[irreducible] def rNP(P:Program)(w:World)(D:oS)(σ:St)(x y v:V)(H:Hp):Prop:=∃Sh a l b d,x=.ref a/\y=.ref b/\dZ P w Sh H a l/\cB H d (.ref b)/\Sh.S d/\l.length<sizeLine/\∀H',dZ P w Sh H' a (fP l d v)->aO a H H'->D.nx σ H'
theorem rnp{P:Program}{w:World}{D:oS}{σ:St}{H:Hp}{a b:Addr}{Sh:nM}{l:List (PyData × V)}{d:PyData}{v:V}(h:dZ P w Sh H a l)(rb:cB H d (.ref b))(hS:Sh.S d)(hl:l.length<=100000)(q:∀H',dZ P w Sh H' a (fP l d v)->aO a H H'->D.nx σ H'):rNP P w D σ (.ref a) (.ref b) v H:=by
 unfold rNP;exact ⟨Sh,a,l,b,d,rfl,rfl,h,rb,hS,bA hl Dd,q⟩
def aCj(P:Program)(w:World)(td ty tv:TE):TS:=λD σ H=>tv σ H λv H1=>td σ H1 λx H2=>ty σ H2 λy H3=>rNP P w D σ x y v H3
@[irreducible] def ZH(P:Program)(w:World)(x:V)(H:Hp)(R:Prop):Prop:=∃Sh a l,x=.ref a/\dZ P w Sh H a l/\R
@[irreducible] def rNG(P:Program)(w:World)(x y z:V)(H:Hp)(Q:VK):Prop:=∃Sh a l b d,x=.ref a/\y=.ref b/\dZ P w Sh H a l/\cB H d (.ref b)/\Sh.S d/\Q ((eT l d).getD z) H
def aAl(P:Program)(w:World)(td ty:TE):TE:=λσ H Q=>td σ H λx H1=>ZH P w x H1 (ty σ H1 λy H2=>rNG P w x y .non H2 Q)
def aAk(P:Program)(w:World)(td ty tx:TE):TE:=λσ H Q=>td σ H λx H1=>ZH P w x H1 (ty σ H1 λy H2=>tx σ H2 λz H3=>rNG P w x y z H3 Q)
theorem rn0{P:Program}{w:World}{Sh:nM}{H:Hp}{a:Addr}{l:List (PyData × V)}{R:Prop}(h:dZ P w Sh H a l)(r:R):ZH P w (.ref a) H R:=by unfold ZH;exact ⟨Sh,a,l,rfl,h,r⟩
theorem aAK{P:Program}{w:World}{Sh:nM}{H:Hp}{a b:Addr}{l:List (PyData × V)}{d:PyData}{z:V}{Q:VK}(h:dZ P w Sh H a l)(rb:cB H d (.ref b))(hS:Sh.S d)(q:Q ((eT l d).getD z) H):rNG P w (.ref a) (.ref b) z H Q:=by unfold rNG;exact ⟨Sh,a,l,b,d,rfl,rfl,h,rb,hS,q⟩
@[irreducible] def DV(P:Program)(w:World)(Sh:nM)(H:Hp)(Q:VK):Prop:=∀p H',H p=none->dZ P w Sh H' p []->bC H H'->Q (.ref p) H'
theorem rnnew{P:Program}{w:World}{Sh:nM}{H:Hp}{Q:VK}(q:∀p H',H p=none->dZ P w Sh H' p []->bC H H'->Q (.ref p) H'):DV P w Sh H Q:=by unfold DV;exact q
def aCk(P:Program)(w:World)(Sh:nM):TE:=λ_ H Q=>DV P w Sh H Q
@[irreducible] def rN1(P:Program)(w:World)(Sh:nM)(p:Addr)(x y:V)(H:Hp)(Q:VK):Prop:=∃b d,x=.ref b/\cB H d (.ref b)/\Sh.S d/\dZ P w Sh H p []/\∀H',dZ P w Sh H' p [(d,y)]->aO p H H'->Q (.ref p) H'
theorem rn1{P:Program}{w:World}{Sh:nM}{H:Hp}{p b:Addr}{d:PyData}{y:V}{Q:VK}(rb:cB H d (.ref b))(hS:Sh.S d)(h:dZ P w Sh H p [])(q:∀H',dZ P w Sh H' p [(d,y)]->aO p H H'->Q (.ref p) H'):rN1 P w Sh p (.ref b) y H Q:=by unfold rN1;exact ⟨b,d,rfl,rb,hS,h,q⟩
@[irreducible] def vN(P:Program)(w:World)(Sh:nM)(R:Addr->Hp->Prop)(H:Hp):Prop:=∀p H',H p=none->dZ P w Sh H' p []->bC H H'->R p H'
theorem rndisp{P:Program}{w:World}{Sh:nM}{R:Addr->Hp->Prop}{H:Hp}(q:∀p H',H p=none->dZ P w Sh H' p []->bC H H'->R p H'):vN P w Sh R H:=by unfold vN;exact q
def aAm(P:Program)(w:World)(Sh:nM)(tk tv:TE):TE:=λσ H Q=>vN P w Sh (λp H0=>tk σ H0 λx H1=>tv σ H1 λy H2=>rN1 P w Sh p x y H2 Q) H
@[irreducible] def JM(P:Program)(w:World):List V->Hp->VK->Prop:=λxs H Q=>∃Sh a l,xs=[.ref a]/\dZ P w Sh H a l/\Q (.int (l.length:Nat)) H
theorem rnlen{P:Program}{w:World}{Sh:nM}{H:Hp}{a:Addr}{l:List (PyData × V)}{Q:VK}(h:dZ P w Sh H a l)(q:Q (.int (l.length:Nat)) H):JM P w [.ref a] H Q:=by unfold JM;exact ⟨Sh,a,l,rfl,h,q⟩
section
variable{X:Cx}{o e f i k v value:Expr}{apos cpos pos pos':Pos}{td ty tx tk tv:TE}
theorem uB(P:Program)(w:World)(hu:X.A.units+64<cLine)(ho:gE X o td)(hi:gE X i ty)(hv:gE X value tv)(hs:swapsWith value (some (.Subscript o i pos')) pos.line X.env=pure false:=by rfl)(hP:X.prog=P:=by rfl)(hw:X.w=w:=by rfl) :
  GA X (.Assign [.Subscript o i pos'] value pos) (aCj P w td ty tv):=⟨by
 subst hP hw;intro c s σ H D I h;refine wpAny_Assign_Subscript (thn (hv.p c s σ H _ I h) λr R ⟨v,H1,I1,rv,U⟩=>thn (ho.p c R σ H1 _ I1 U) λu M ⟨x,H2,I2,α,Z⟩=>thn (hi.p c M σ H2 _ I2 Z) λS ζ ⟨y,H3,I3,L,C⟩=>?_) hs;unfold rNP at C;obtain ⟨T,a,l,b,d,rfl,rfl,g,G,B,W,q⟩:=C;obtain rfl:u=Value.ref a:=α;cases (show S=Value.ref b from L);obtain ⟨m,δ,O,β,rfl,z,hd,e,γ⟩:=g.open_ I3;have j:m.length<sizeLine:=by rwa [aC] at W
 refine wpAny_setItem_heap (hsz:=by rw [<-Paired.length e];exact z) (nD _ _ T hu) (nC I3 B G) γ λε f n=>?_;obtain ⟨H',J,N,Y⟩:=FD I3 O β j hd e B G rv f n;exact ⟨σ,H',J,q H' N Y⟩⟩
theorem PC(P:Program)(w:World)(hu:X.A.units+64<cLine)(ho:gE X o td)(he:gE X e ty)(base:attributeBase o "get" X.env (eval o X.env)=eval o X.env:=by rfl)
  (few:((backTo cpos (starEach [e] X.env)).all (λx=>!x.1)&&(backToKw cpos (keywordEach [] X.env)).all (λx=>x.1.isSome)&&decide (([e]:List Expr).length+([]:List Keyword).length+(if ([]:List Keyword).isEmpty then 0 else 1)<30))=true:=by rfl)
  (line:(apos.endLine == cpos.line)=true:=by rfl) (trees:backTo cpos (starEach [e] X.env)=[(false,eval e X.env)]:=by rfl) (hP:X.prog=P:=by rfl) (hw:X.w=w:=by rfl):gE X (.Call (.Attribute o "get" apos) [e] [] cpos) (aAl P w td ty):=⟨by
 subst hP hw;intro c s σ H Q I h;refine wpAny_Call_method base few line PySem.F.plainAttrs_dict PySem.F.slot_dict_get PySem.F.type_dict_get (thn (ho.p c s σ H _ I h) λu G ⟨x,H1,I1,U,i⟩=>?_);unfold ZH at i;obtain ⟨D,a,W,rfl,O,S⟩:=i;obtain rfl:u=Value.ref a:=U;obtain ⟨R,N,_⟩:=O.isD I1;refine ⟨R,N,?_⟩;rw [trees];refine Calls.callWith_builtin rfl (Calls.evalArgs_plain (Calls.spliced_cons (thn (he.p c G σ H1 _ I1 S) λL Y ⟨y,H2,I2,B,n⟩=>Calls.spliced_nil ?_)));unfold rNG at n;obtain ⟨m,Z,l,b,d,j,rfl,g,T,J,q⟩:=n;cases j;cases (show L=Value.ref b from B);obtain ⟨M,C,j,α,rfl,z,hd,f,r⟩:=g.open_ I2;exact call_meetsIn PySem.F.slot_dict_get r.typeIs PySem.F.entry_dict_get (PySem.F.args_dict_get_2 _ _) (meetsH_dict_get (gM X.prog X.w m) a b hd) ⟨nD _ _ m hu,d,C,nC I2 J T,r,⟨_,H2,I2.tok _,(f.val d).getD (show dO V.non Value.none from rfl),q⟩⟩⟩
theorem CT(P:Program)(w:World)(hu:X.A.units+64<cLine)(ho:gE X o td)(he:gE X e ty)(hf:gE X f tx)(base:attributeBase o "get" X.env (eval o X.env)=eval o X.env:=by rfl)
  (few:((backTo cpos (starEach [e,f] X.env)).all (λx=>!x.1)&&(backToKw cpos (keywordEach [] X.env)).all (λx=>x.1.isSome)&&decide (([e,f]:List Expr).length+([]:List Keyword).length+(if ([]:List Keyword).isEmpty then 0 else 1)<30))=true:=by rfl)
  (line:(apos.endLine == cpos.line)=true:=by rfl) (trees:backTo cpos (starEach [e,f] X.env)=[(false,eval e X.env),(false,eval f X.env)]:=by rfl) (hP:X.prog=P:=by rfl) (hw:X.w=w:=by rfl):gE X (.Call (.Attribute o "get" apos) [e,f] [] cpos) (aAk P w td ty tx):=⟨by
 subst hP hw;intro c s σ H Q I h;refine wpAny_Call_method base few line PySem.F.plainAttrs_dict PySem.F.slot_dict_get PySem.F.type_dict_get (thn (ho.p c s σ H _ I h) λu L ⟨x,H1,I1,β,j⟩=>?_);unfold ZH at j;obtain ⟨J,a,γ,rfl,S,W⟩:=j;obtain rfl:u=Value.ref a:=β;obtain ⟨U,R,_⟩:=S.isD I1;refine ⟨U,R,?_⟩;rw [trees];refine Calls.callWith_builtin rfl (Calls.evalArgs_plain (Calls.spliced_cons (thn (he.p c L σ H1 _ I1 W) λN D ⟨y,H2,I2,C,α⟩ =>
  Calls.spliced_cons (thn (hf.p c D σ H2 _ I2 α) λT ζ ⟨δ,H3,I3,Z,r⟩=>Calls.spliced_nil ?_))))
 unfold rNG at r;obtain ⟨n,ε,l,b,d,m,rfl,g,Y,M,q⟩:=r;cases m;cases (show N=Value.ref b from C);obtain ⟨O,G,m,η,rfl,z,hd,i,B⟩:=g.open_ I3;exact call_meetsIn PySem.F.slot_dict_get B.typeIs PySem.F.entry_dict_get (PySem.F.args_dict_get_3 _ _ _) (meetsH_dict_get_default (gM X.prog X.w n) a b hd T) ⟨nD _ _ n hu,d,G,nC I3 M Y,B,⟨_,H3,I3.tok _,(i.val d).getD Z,q⟩⟩⟩
theorem wT{P:Program}{w:World}{Sh:nM}{H:Hp}(h:Heap)(hb:sysModules<h.objs.size):eM P w H (h.push { cls:=.type "dict",data:=.dict #[] }) h.objs.size (mU P w Sh h.objs.size []) :=
 zD ⟨⟨bS _,beq_eq_false_iff_ne.mpr (Ne.symm (dD hb))⟩,[],.nil,_,#[],0,bB _ rfl,⟨rfl,rfl,rfl⟩,rfl,rfl,List.nodup_nil⟩
theorem AD(P:Program)(w:World)(Sh:nM)(hP:X.prog=P:=by rfl)(hw:X.w=w:=by rfl):gE X (.Dict [] [] pos) (aCk P w Sh):=⟨by
 subst hP hw;intro c s σ H Q I h;have h:DV X.prog X.w Sh H Q:=h;unfold DV at h;have b:=I.hok.fresh (aG s.heap.objs.size);refine wpAny_Dict_empty ⟨.ref s.heap.objs.size,_,I.laid (a:=s.heap.objs.size) (o:=mU X.prog X.w Sh s.heap.objs.size []) (t':=s.toks) (λ_ _ q=>aD _ q) (aG _) (wT s.heap I.big),rfl,h _ _ b ⟨[],bH,(λp d=>absurd d List.not_mem_nil),rfl⟩ (bC.upd b)⟩⟩
theorem PD(P:Program)(w:World)(Sh:nM)(hu:X.A.units+64<cLine)(hk:gE X k tk)(hv:gE X v tv)(hP:X.prog=P:=by rfl)(hw:X.w=w:=by rfl):gE X (.Dict [some k] [v] pos) (aAm P w Sh tk tv):=⟨by
 subst hP hw;intro c s σ H Q I q;have q:vN X.prog X.w Sh _ H:=q;unfold vN at q;have l:=I.hok.fresh (aG s.heap.objs.size);have I1:=I.laid (a:=s.heap.objs.size) (o:=mU X.prog X.w Sh s.heap.objs.size []) (h':=s.heap.push { cls:=.type "dict",data:=.dict #[] }) (t':=s.toks) (λ_ _ q=>aD _ q) (aG _) (wT s.heap I.big);refine wpAny_Dict_any rfl rfl (by simp) (show 1<=15 by decide) (pairTrees_cons_walk (thn (hk.p c _ σ _ _ I1 (q _ _ l ⟨[],bH,(λp D=>absurd D List.not_mem_nil),rfl⟩ (bC.upd l))) λu C ⟨x,H1,I1,R,N⟩=>thn (hv.p c C σ H1 _ I1 N) λY U ⟨y,H2,I2,n,m⟩=>pairTrees_nil_walk ?_));unfold rN1 at m;obtain ⟨b,d,rfl,j,i,g,M⟩:=m;cases (show u=Value.ref b from R);obtain ⟨h,W,B,S,G,z,hd,e,T⟩:=g.open_ I2;obtain rfl:h=[]:=List.map_eq_nil_iff.mp G.symm;unfold storeAll;rw [List.forIn_cons];refine wpAny_bind (wpAny_bind (wpAny_dictSet_heap (show X.A.units+61<cLine by omega) (nC I2 i j) T (λh' f L=>wpAny_pure ?_) (by rw [<-Paired.length e];exact z)));dsimp only;rw [List.forIn_nil];refine wpAny_pure ?_;obtain ⟨H',J,r,O⟩:=FD I2 B S (by show 0<sizeLine;decide) hd e i j n f L;exact ⟨.ref _,H',J,rfl,M H' r O⟩⟩
theorem XU(P:Program)(w:World)(hP:X.prog=P:=by rfl)(hw:X.w=w:=by rfl):iM X (.builtin "len") (JM P w):=by
 subst hP hw;unfold JM;intro d s σ H e C Q I r h;obtain ⟨B,a,l,rfl,g,q⟩:=h;obtain ⟨_,rfl,n⟩:=lK r;cases n;obtain ⟨c,e,y,G,rfl,z,hd,b,o,x,A,f,i,m,p,J⟩:=g.open_ I;have u:x.size=c.length:=by
  have:=congrArg List.length p;rw [aC,<-Paired.length b] at this;simpa using this
 refine XB hd f i m Oo λt D j=>?_;subst j;rw [aC] at q;exact ⟨.int _,H,I.tok _,⟨t,by rw [u]⟩,q⟩
end
end L2
namespace HT
open PySem PySem.Spec PyProof.Rows
section
variable{prog:Program}{w:World}{A:Around}{E:Value->Shared->Prop}{s:Shared}{it d:Addr}{es:Array DictEntry}{ep i:Nat}{od:Obj}{ok ov:Value}
theorem XE{Q:Option Value->Shared->Prop}(hit:IsItemIter s.heap it d i es.size ep ok ov)(hod:s.heap.get? d=some od)(hdd:od.data=.dict es ep)(hi:i<es.size)
  (h:∀h',IsItemIterOut h' it d (i+1) es.size ep es[i].key es[i].val s.heap.objs.size->h'.get? s.heap.objs.size=some { cls:=.type "tuple",data:=.seq #[es[i].key,es[i].val] } ->
   (∀b o,b≠it->s.heap.get? b=some o->h'.get? b=some o)->Q (some (.ref s.heap.objs.size)) { s with heap:=h' }):wpAny (model prog w) A (pyNext (.ref it)) Q E s:=by
 obtain ⟨l,g,r,u,y⟩:=s;have j:Shared.TypeIs ⟨l,g,r,u,y⟩ (.ref it) "dict_itemiterator" := ⟨_,hit,rfl⟩;have X:(Value.ref d == Value.none)=false:=rfl;have C:Builtin.Dict_items.ownsTuple "dict_itemiterator" = true:=Dd;unfold pyNext;refine wpAny_bind (wpAny_attempt (wpAny_callSpecial?_slot (name:=Str.ofString "__next__") j F.slot_dict_itemiterator_next (wpAny_call_entry F.slot_dict_itemiterator_next j F.entry_dict_itemiterator_next ?_ (F.args_dict_itemiterator_next_1 _))))
 repeat (any_goals (first | assumption | (with_reducible refine wpAny_typeNameOfWhole_itemiter j ?_) | (with_reducible refine wpAny_isOneOf_itemiter j ?_) | (with_reducible refine wpAny_fieldsOf hit rfl ?_) | (with_reducible refine wpAny_dictEntries hod hdd ?_) | (with_reducible refine wpAny_dictEpoch hod hdd ?_) | wp_step))
 rw [if_neg (show ¬((i:Int)<0) by omega),Int.toNat_natCast,Array.getElem?_eq_getElem hi];refine wpAny_bind (wpAny_bind (wpAny_typeNameOfWhole_itemiter j (wpAny_pure (wpAny_bind (wpAny_isOneOf_itemiter j ?_)))));show wpAny _ _ (setField (.ref it) 3 (rawInt ((i:Int)+1)) >>= λ_=>_) _ _ _;refine wpAny_bind (wpAny_setField_rec hit (by simp) λc m f=>?_);have p:IsItemIter c it d (i+1) es.size ep ok ov:=by
  unfold IsItemIter;rw [Int.natCast_add];simpa [rawInt] using m
 have z:c.objs.size=l.objs.size:=f.1;have I:∀b o,b≠it->l.get? b=some o->c.get? b=some o:=λb o a e=>f.extBut b o a e;clear m f;have T1:Shared.TypeIs ⟨c,g,r,u,y⟩ (.ref it) "dict_itemiterator" := ⟨_,p,rfl⟩;refine wpAny_bind (wpAny_holding (wpAny_bind (wpAny_isOneOf_itemiter T1 (wpAny_bind (wpAny_isOneOf_itemiter T1 ?_)))));show wpAny _ _ (Builtin.Dict_items.pairFromOwner (.ref it) 6 es[i].key es[i].val) _ _ _;unfold Builtin.Dict_items.pairFromOwner;refine wpAny_bind (wpAny_newTuple ?_);have n:IsItemIter (c.push { cls:=.type "tuple",data:=.seq #[es[i].key,es[i].val] }) it d (i+1) es.size ep ok ov:=aD _ p;have G:(c.push { cls:=.type "tuple",data:=.seq #[es[i].key,es[i].val] }).get? l.objs.size=some { cls:=.type "tuple",data:=.seq #[es[i].key,es[i].val] }:=by rw [<-z];exact bB _ rfl
 have D:∀b o,b≠it->l.get? b=some o->(c.push { cls:=.type "tuple",data:=.seq #[es[i].key,es[i].val] }).get? b=some o:=λb o a e=>aD _ (I b o a e);have U:l.objs.size≠it:=Nat.ne_of_gt (bD hit);show wpAny _ _ (Builtin.Dict_items.ownedTupleIsFree (.ref it) >>= _) _ _ ⟨c.push { cls:=.type "tuple",data:=.seq #[es[i].key,es[i].val] },g,r,u,y⟩;rw [z];generalize c.push { cls:=.type "tuple",data:=.seq #[es[i].key,es[i].val] }=M at n G D ⊢;clear p z I T1;unfold Builtin.Dict_items.ownedTupleIsFree;refine wpAny_bind (wpAny_bind (wpAny_field n rfl (x:=.none) rfl (wpAny_pure ?_)));simp only [if_true];refine wpAny_bind (wpAny_field n rfl (x:=ok) rfl (wpAny_bind (wpAny_field n rfl (x:=ov) rfl ?_)));refine wpAny_bind (wpAny_setField_rec n (by simp) λY e3 T=>wpAny_bind (wpAny_setField_rec e3 (by simp) λZ S L=>wpAny_bind (wpAny_setField_rec S (by simp) λW N O=>wpAny_bind (wpAny_setField_rec N (by simp) λB R P=>?_))));have J:∀b o,b≠it->M.get? b=some o->B.get? b=some o:=λb o a e=>P.extBut b o a (O.extBut b o a (L.extBut b o a (T.extBut b o a e)));exact wpAny_bind (wpAny_letGo (wpAny_pure (wpAny_pure ⟨_,rfl,wpAny_pure (h B R (J _ _ U G) λb o a e=>J b o a (D b o a e))⟩)))
theorem aBs{Q:Option Value->Shared->Prop}(hh:A.handled=none)(hit:IsItemIter s.heap it d i es.size ep ok ov)(hod:s.heap.get? d=some od)(hdd:od.data=.dict es ep)(hi:es.size<=i)
  (h:∀h',Heap.ExtBut it s.heap h'->Q none { s with heap:=h' }):wpAny (model prog w) A (pyNext (.ref it)) Q E s:=by
 have c:s.TypeIs (.ref it) "dict_itemiterator" := ⟨_,hit,rfl⟩;have f:(Value.ref d == Value.none)=false:=rfl;have e:Builtin.Dict_items.ownsTuple "dict_itemiterator" = true:=Dd;unfold pyNext;refine wpAny_bind (wpAny_attempt (wpAny_callSpecial?_slot (name:=Str.ofString "__next__") c F.slot_dict_itemiterator_next (wpAny_call_entry F.slot_dict_itemiterator_next c F.entry_dict_itemiterator_next ?_ (F.args_dict_itemiterator_next_1 _))))
 repeat (any_goals (first | assumption | (with_reducible refine wpAny_typeNameOfWhole_itemiter c ?_) | (with_reducible refine wpAny_isOneOf_itemiter c ?_) | (with_reducible refine wpAny_fieldsOf hit rfl ?_) | (with_reducible refine wpAny_dictEntries hod hdd ?_) | (with_reducible refine wpAny_dictEpoch hod hdd ?_) | wp_step))
 rw [if_neg (show ¬((i:Int)<0) by omega),Int.toNat_natCast,Array.getElem?_eq_none hi];refine wpAny_bind (wpAny_bind (wpAny_typeNameOfWhole_itemiter c (wpAny_pure ?_)));show wpAny _ _ (setField (.ref it) 2 .none >>= λ_=>_) _ _ s;refine wpAny_bind (wpAny_setField hit rfl (by simp) ?_);refine wpAny_bind ?_;simp only [newExc,newTuple];refine wpAny_bind (wpAny_newObj_type (wpAny_bind (m:=firstArgMember _ _) (wpAny_of_eq (a:=Value.none) (by simp only [firstArgMember];rfl) (wpAny_newObj_type ?_ (by size_fits)))) (by size_fits));simp only [raiseNew];refine wpAny_bind (wpAny_handled ?_);rw [show A.in1.handled=none from hh];refine wpAny_bind (wpAny_pure (wpAny_throw ?_));exact wpAny_bind (wpAny_isInstance (T := "StopIteration") (b:=true) ⟨_,bB _ rfl,rfl⟩ isSubtype_stop (wpAny_pure (h _ (((Heap.SameBut.update ..).extBut.push _).push _))))
theorem XF{v:Addr}{Q:Value->Shared->Prop}(hv:s.heap.IsItemsView v d)(hod:s.heap.get? d=some od)(hdd:od.data=.dict es ep)
  (hQ:Q (.ref s.heap.objs.size) { s with heap:=s.heap.push { cls:=.type "dict_itemiterator",data:=.fields #[.none,.bool false,.ref d,.int 0 0,.int es.size 0,.int ep 0,.none,.none] } }):wpAny (model prog w) A (pyIter (.ref v)) Q E s:=by
 obtain ⟨f,b,e,c⟩:=id hv;refine wpAny_pyIter_slot hv.typeIs F.slot_dict_items_iter (wpAny_call_entry F.slot_dict_items_iter hv.typeIs F.entry_dict_items_iter ?_ (F.args_dict_items_iter_1 _));unfold Builtin.«dict_items.__iter__» Builtin.Dict_items.dictOf Builtin.Dict_items.newIterator;refine wpAny_bind (wpAny_pure (wpAny_bind (wpAny_bind (wpAny_field b c (x:=.ref d) rfl (wpAny_pure ?_)))));refine wpAny_bind (wpAny_bind (wpAny_dictEntries hod hdd (wpAny_bind (wpAny_dictEpoch hod hdd ?_))));have a:Builtin.Dict_items.ownsTuple "dict_itemiterator" = true:=Dd;simp only [a,if_true];refine wpAny_newObj_type (wpAny_pure ⟨_,rfl, "dict_itemiterator",_,⟨_,bB _ rfl,rfl⟩,F.slot_dict_itemiterator_next.lookup,?_⟩) (by simp only [sizeOk,Builtin.Dict_items.ownedTupleFields,bG,aT,bV,List.length_nil,sizeLine_eq];omega);simpa [rawInt,Builtin.Dict_items.ownedTupleFields] using hQ
theorem XN{Q:Value->Shared->Prop}(hd:(d == sysModules)=false)(hod:s.heap.get? d=some od)(hex:od.ExactDict)
  (hQ:Q (.ref s.heap.objs.size) { s with heap:=s.heap.push { cls:=.type "dict_items",data:=.fields #[.ref d] } }):wpAny (model prog w) A (call (.builtin "dict.items") [.ref d]) Q E s:=by
 have a:s.TypeIs (.ref d) "dict" := ⟨od,hod,hex.1⟩;refine wpAny_call_entry F.slot_dict_items a F.entry_dict_items ?_ (F.args_dict_items_1 _);unfold Builtin.«dict.items» Builtin.Dict.noArgs;refine wpAny_bind (wpAny_bind (wpAny_notOrdered_dict a ?_));show wpAny _ _ (pure d) _ _ s;refine wpAny_pure ?_
 repeat (any_goals (first | assumption | wp_step))
 exact ⟨_,rfl,hQ⟩
end
end HT
namespace L2
open PySem PySem.Spec PySem.W PyProof.Rows HT
def Itn(P:Program)(w:World)(Sh:nM)(d:Addr)(o:Obj)(kvs:List (PyData × Addr × V)):It :=
 ⟨λi H=>H d=some (.frz o (mU P w Sh d kvs))/\i<kvs.length,λi H x H'=>∃q p,x=.ref q/\H q=none/\kvs[i]?=some p/\H'=upd H q (.tup [.ref p.2.1,p.2.2]),λi H=>H d=some (.frz o (mU P w Sh d kvs))/\kvs.length<=i⟩
theorem kR{α β:Type}{R:α->β->Prop}:∀{l:List α}{m:List β}{i:Nat}{a:α},Paired R l m->l[i]?=some a->∃b,m[i]?=some b/\R a b
 | _,_,i,a,.nil,h=>by simp at h
 | _,_,0,a,.cons r t,h=>by
  cases (show _=a by simpa using h);exact ⟨_,rfl,r⟩
 | _,_,i+1,a,.cons r t,h=>by
  obtain ⟨b,h1,h2⟩:=kR t (by simpa using h);exact ⟨b,by simpa using h1,h2⟩
section
variable{X:Cx}{pins:List (Addr × Obj)}{σ:St}{H:Hp}{s:Shared}{Sh:nM}
theorem HS{D:Addr}{o:Obj}{kvs:List (PyData × Addr × V)}(I:cH X pins σ H s)(e:H D=some (.frz o (mU X.prog X.w Sh D kvs))):(D == sysModules)=false/\s.heap.get? D=some o/\o.ExactDict/\∃es ep,o.data=.dict es ep/\es.size=kvs.length /\
  ∀(i:Nat) (hi:i<es.size) p,kvs[i]?=some p->es[i].key=.ref p.2.1/\dO p.2.2 es[i].val:=by
 obtain ⟨d,⟨⟨z,hd⟩,h,a,A,es,ep,b,j,n,c,C⟩,_⟩:=(show eM X.prog X.w H s.heap D (.frz o (mU X.prog X.w Sh D kvs)) from I.hok D _ e);rw [d] at b;cases b;have r:es.size=kvs.length:=by
  have:=congrArg List.length c;rw [aC,<-Paired.length a] at this;simpa using this
 refine ⟨hd,d,j,es,ep,n,r,λi hi p m=>?_⟩;obtain ⟨q,y,B,x,l⟩:=kR a m;have u:es[i]=entryOfKey (gM X.prog X.w Sh) q:=by
  have f:es.toList[i]?=(h.map (entryOfKey (gM X.prog X.w Sh)))[i]?:=by rw [c]
  rw [aL,y,Array.getElem?_toList,Array.getElem?_eq_getElem hi] at f;exact dB f
 rw [u];exact ⟨by rw [x];rfl,l⟩
theorem cH.frzN{D:Addr}{kvs:List (PyData × Addr × V)}(I:cH X pins σ H s)(e:H D=some (mU X.prog X.w Sh D kvs)):∃o,cH X pins σ (upd H D (.frz o (mU X.prog X.w Sh D kvs))) s:=by
 obtain ⟨x,_⟩:=(show eM X.prog X.w H s.heap D (mU X.prog X.w Sh D kvs) from I.hok D _ e);obtain ⟨z,h,c,o,i,d,a,f⟩:=id x;exact ⟨o,I.write (x:=D) (e:=D) (o:=.frz o (mU X.prog X.w Sh D kvs)) (h':=s.heap) (t':=s.toks) (by rw [e];exact True.intro) (.inl rfl) (λb u _ q=>q) ⟨o,a⟩ ⟨a,zD x⟩⟩
end
theorem GH{P:Program}{w:World}{K:PySem.W.Frag}{elts:List Expr}{x1}{tp:Pos}(Sh:nM)(d it:Addr){o:Obj}(kvs:List (PyData × Addr × V)){es:Array DictEntry}{ep:Nat}(hdat:o.data=.dict es ep):xW P w K (.Tuple elts x1 tp) (Itn P w Sh d o kvs) [it] it (λi h=>∃a b,IsItemIter h it d i es.size ep a b) where
 mem:=by simp
 obj:=λi h c b m=>by
  have e:b=it:=by simpa using m
  subst e;obtain ⟨u,v,e⟩:=c;exact ⟨_,e,λv z=>by cases z⟩
 keep:=λi h Y c k=>by
  obtain ⟨u,v,e⟩:=c;exact ⟨u,v,k it (by simp) _ e⟩
 item:=by
  intro X O N C α i f s σ H E I y c J;subst O N C;obtain ⟨S,A⟩:=J;obtain ⟨u,v,c⟩:=c;obtain ⟨ι,n,D,L,M,j,G,p⟩:=HS I S;rw [hdat] at j;cases j;have x:i<es.size:=Oo;obtain ⟨β,η⟩:=p i x kvs[i] (aB A);refine XE c n hdat x λY B γ ξ=>⟨_,rfl,wpAny_letOwnedTupleGo_items B λT R r=>?_⟩;have U:s.heap.objs.size≠it:=Nat.ne_of_gt (bD c);have ε:∀b o,b ∉ [it]->s.heap.get? b=some o->T.get? b=some o:=λb o m e=>by
   have l:b≠it:=λz=>m (by simp [z]);exact r.extBut b o l (ξ b o l e)
  have I1:cH X f σ H { s with heap:=T }:=I.turnedL (t':=s.toks) ε y;have fq:jA X f H s.heap.objs.size:=I.fpOk (aG _) (I.hok.fresh (aG _));have κ:X.s₀.heap.get? s.heap.objs.size=none:=by
   cases q:X.s₀.heap.get? s.heap.objs.size with
   | none=>rfl
   | some o=>exact absurd (bK (bD q) I.sz) (cA _)
  have Z:=r.extBut _ _ U γ;refine ⟨.ref s.heap.objs.size,upd H s.heap.objs.size (.tup [.ref kvs[i].2.1,kvs[i].2.2]),I1.put fq κ ⟨⟨mZ (by show 2<=64;decide),_,Z,rfl⟩,[es[i].key,es[i].val],.cons (by rw [β];rfl) (.cons η .nil),⟨_,Z,rfl,_,rfl⟩⟩,rfl,⟨_,kvs[i],rfl,fq.1,aB A,rfl⟩,⟨_,_,R⟩,λb m=>?_⟩;have l:b=it:=by simpa using m
  rw [cU (by rw [l];exact U.symm)];exact (y b m).1
 done:=by
  intro X O N C α i f s σ H E I y c J;subst O N C;obtain ⟨S,A⟩:=J;obtain ⟨u,v,c⟩:=c;obtain ⟨ι,n,D,L,M,j,G,p⟩:=HS I S;rw [hdat] at j;cases j;obtain ⟨ο,ν,ρ,μ,θ,ζ⟩:=y it (by simp);exact aBs (I.ok.hd α) c n hdat Oo λY δ=>⟨rfl,I.turned (t':=s.toks) (λb o m e=>δ b o m e) ο ν μ θ ζ⟩
 self:=λ_ _ _ _ _ c h=>by
  obtain ⟨u,v,c⟩:=c;exact kcp_self c h
@[irreducible] def rNI(P:Program)(w:World)(x:V)(H:Hp)(R:It->Hp->Prop):Prop:=∃Sh a l,x=.ref a/\dZ P w Sh H a l/\∀o kvs H',H' a=some (.frz o (mU P w Sh a kvs))->(∀p∈kvs,Sh.S p.1/\cB H' p.1 (.ref p.2.1))->qG kvs=l->aO a H H'->R (Itn P w Sh a o kvs) H'
theorem rni{P:Program}{w:World}{Sh:nM}{H:Hp}{a:Addr}{l:List (PyData × V)}{R:It->Hp->Prop}(h:dZ P w Sh H a l)(r:∀o kvs H',H' a=some (.frz o (mU P w Sh a kvs))->(∀p∈kvs,Sh.S p.1/\cB H' p.1 (.ref p.2.1))->qG kvs=l->aO a H H'->R (Itn P w Sh a o kvs) H'):rNI P w (.ref a) H R:=by unfold rNI;exact ⟨Sh,a,l,rfl,h,r⟩
def iNI(P:Program)(w:World)(tl:TE):TI:=λσ H R=>tl σ H λx H1=>rNI P w x H1 R
theorem CQ{X:Cx}(P:Program)(w:World){elts:List Expr}{x1}{tp:Pos}{l:Expr}{tl:TE}{apos cpos:Pos}(hl:gE X l tl)(hbase:attributeBase l "items" X.env (eval l X.env)=eval l X.env:=by rfl)(hline:(apos.endLine == cpos.line)=true:=by rfl)(hP:X.prog=P:=by rfl)(hw:X.w=w:=by rfl):OP X (.Tuple elts x1 tp) (.Call (.Attribute l "items" apos) [] [] cpos) (iNI P w tl):=⟨by
 subst hP hw;intro f s σ H R I h;refine wpAny_Call_method0_late hbase hline (thn (hl.p f s σ H _ I h) λv i ⟨x,H1,I1,O,G⟩=>?_);unfold rNI at G;obtain ⟨j,a,l,e,g,q⟩:=G;subst e;cases O;obtain ⟨T,S,_⟩:=g.isD I1;obtain ⟨d,D,C,rfl⟩:=g.ex;obtain ⟨o,I2⟩:=I1.frzN D;have t:dJ H1 (upd H1 a (.frz o (mU X.prog X.w j a d))):=λc Y B=>by rw [cU (λz=>by rw [z,D] at B;cases B)];exact B
 have J:=q o d _ bH (λp y=>⟨(C p y).1,(C p y).2.flat t (jS _ (j.key _ (C p y).1))⟩) rfl aO.self;have r:(upd H1 a (.frz o (mU X.prog X.w j a d))) a=some (.frz o (mU X.prog X.w j a d)):=bH;generalize upd H1 a (.frz o (mU X.prog X.w j a d))=H2 at I2 J r;obtain ⟨U,n,A,Z,W,m,N,M⟩:=HS I2 r;refine ⟨"dict","dict.items",PySem.F.plainAttrs_dict,PySem.F.slot_dict_items,PySem.F.type_dict_items,T,S,Calls.callWith_builtin rfl (PySem.evalArgs_none (XN U n A ?_))⟩;have I3:cH X f σ H2 { i with heap:=i.heap.push { cls:=.type "dict_items",data:=.fields #[.ref a] } }:=I2.kept (t':=i.toks) λb o e=>aD _ e;refine XF (s:={ i with heap:=i.heap.push { cls:=.type "dict_items",data:=.fields #[.ref a] } }) ⟨_,bB _ rfl,rfl,rfl⟩ (aD _ n) m ?_;generalize hH:i.heap.push { cls:=.type "dict_items",data:=.fields #[.ref a] }=u at *;refine ⟨u.objs.size,[u.objs.size],_,_,H2,rfl,I3.kept (t':=i.toks) λb o e=>aD _ e,GH j a _ d m,⟨_,_,bB _ rfl⟩,λb L=>?_,J⟩;have e:b=u.objs.size:=by simpa using L
 subst e;exact I3.fpOk (aG _) (I3.hok.fresh (aG _))⟩
theorem yX{P:Program}{w:World}{Sh:nM}{d:Addr}{o:Obj}{kvs:List (PyData × Addr × V)}{g:TG}{tb:TS}{D:oS}{σ:St}{H:Hp}(Pv:Nat->St->Hp->Prop)(h0:Pv 0 σ H)(hl:∀i σ H,i<=kvs.length->Pv i σ H->H d=some (.frz o (mU P w Sh d kvs)))
  (hs:∀i p q σ H H',kvs[i]?=some p->Pv i σ H->H q=none->H' q=some (.tup [.ref p.2.1,p.2.2])->bC H H'->g (.ref q) σ H' λσ2 H2=>tb { D with nx:=Pv (i+1),ct:=Pv (i+1),bk:=D.nx } σ2 H2) (hd:∀σ H,Pv kvs.length σ H->D.nx σ H) :
  ∃W:Nat->Nat->St->Hp->Prop,(∃m,W 0 m σ H)/\∀i m σ H,W i m σ H ->
   ((Itn P w Sh d o kvs).stop i H/\D.nx σ H)\/((Itn P w Sh d o kvs).go i H/\∃N:St->Hp->Prop,(∀σ' H',N σ' H'->∃m',m' < m/\W (i+1) m' σ' H')/\∀x H',(Itn P w Sh d o kvs).yld i H x H'->g x σ H' λσ2 H2=>tb { D with nx:=N,ct:=N,bk:=D.nx } σ2 H2):=by
 refine ⟨λi m σ H=>m=kvs.length-i/\i<=kvs.length/\Pv i σ H,⟨kvs.length,by simp,bS _,h0⟩,?_⟩;rintro i m σ H ⟨rfl,j,p⟩;have q:=hl i σ H j p;by_cases hlt:i<kvs.length
 ·refine .inr ⟨⟨q,hlt⟩,Pv (i+1),λσ' H' h=>⟨kvs.length-(i+1),Oo,rfl,hlt,h⟩,λx H' y=>?_⟩;obtain ⟨c,f,rfl,a,b,rfl⟩:=y;exact hs i f c σ H _ b p a bH (bC.upd a)
 ·have e:i=kvs.length:=Oo;subst e;exact .inl ⟨⟨q,aG _⟩,hd σ H p⟩
end L2
namespace L2
open PySem PySem.Spec PyProof.Rows
section
variable{prog:Program}{w:World}{A:Around}{E:Value->Shared->Prop}{s:Shared}
structure EAt(b:Bool)(e it l:Addr)(n:Int)(k:Nat)(h:Heap):Prop where
 e:∃old,IsEnum h e it (n+k) old
 i:mT b h it l k
theorem aDa{b:Bool}{l:Addr}{xs:Array Value}{Q:Value->Shared->Prop}(hl:jH b s.heap l xs)
  (h:∀h',EAt b (s.heap.objs.size+1) s.heap.objs.size l 0 0 h'->(∀c o,s.heap.get? c=some o->h'.get? c=some o)->Q (.ref (s.heap.objs.size+1)) { s with heap:=h' }) :
  wpAny (model prog w) A (call (.type "enumerate") [.ref l]) Q E s:=by
 refine callType_new F.called_enumerate Dd (F.typeCall_enumerate_1 _) (F.newCall_enumerate_1 _) (λa=>F.args_object_init_2 a _) F.entry_enumerate_new (aBg b l xs) ⟨hl,?_⟩;have e:(s.heap.push (US b l)).objs.size=s.heap.objs.size+1:=jJ ..;have d:((s.heap.push (US b l)).push (enO s.heap.objs.size 0)).get? (s.heap.push (US b l)).objs.size=some _:=bB _ rfl;have f:((s.heap.push (US b l)).push (enO s.heap.objs.size 0)).get? s.heap.objs.size=some _:=aD _ (bB _ rfl);show _/\_;rw [e] at d ⊢;exact ⟨⟨_,d,rfl⟩,h _ ⟨⟨_,d⟩,⟨_,f,rfl,rfl⟩⟩ λc o x=>aD _ (aD _ x)⟩
end
def Ite(b:Bool)(l:Addr)(n:Int):It :=
  ⟨λi H=>∃xs x,H l=some (sB b xs)/\xs[i]?=some x,
   λi H v H'=>∃q x,v=.ref q/\H q=none/\H'=upd H q (.tup [.int (n+(i:Nat)),x])/\∀xs,H l=some (sB b xs)->xs[i]?=some x,
   λi H=>∃xs,H l=some (sB b xs)/\xs.length<=i⟩
theorem MG{P:Program}{w:World}{K:PySem.W.Frag}{elts:List Expr}{x1}{tp:Pos}{b:Bool}{e it l:Addr}{n:Int}(hne:e≠it):xW P w K (.Tuple elts x1 tp) (Ite b l n) [e,it] e (λi h=>EAt b e it l n i h) where
 mem:=by simp
 obj:=λi h d c a=>by
  obtain ⟨m,p⟩:=d.e;obtain ⟨ζ,z,_,ν⟩:=d.i;simp only [bE,List.not_mem_nil,or_false] at a;rcases a with rfl | rfl
  ·exact ⟨_,p,λv q=>by cases q⟩
  ·exact ⟨_,z,λv q=>by rw [ν] at q;cases q⟩
 keep:=λi h J d k=>by
  obtain ⟨m,p⟩:=d.e;exact ⟨⟨m,k _ (by simp) _ p⟩,d.i.at λo e=>k _ (by simp) o e⟩
 item:=by
  intro X T S A α i j s σ H E I y d O;subst T S A;obtain ⟨ε,x,p,β⟩:=O;obtain ⟨u1,L,R⟩:=I.sq p;obtain ⟨Y,M,ξ⟩:=L.get β;obtain ⟨m,u⟩:=d.e;refine HZ u d.i R (x:=Y) (by simpa using M) hne λJ t ο G U δ=>⟨_,rfl,wpAny_letOwnedTupleGo_enum ο λB N f=>?_⟩;have f:Heap.SameBut e J B:=f;have θ:∀c o,c ∉ [e,it]->s.heap.get? c=some o->B.get? c=some o:=λc o a D=>by
   simp only [bE,List.not_mem_nil,or_false,not_or] at a;exact f.extBut c o a.1 (δ c o a.1 a.2 D)
  have I1:cH X j σ H { s with heap:=B,toks:=s.toks+1 }:=I.turnedL (t':=s.toks+1) θ y;have fq:jA X j H s.heap.objs.size:=I.fpOk (aG _) (I.hok.fresh (aG _));have ι:X.s₀.heap.get? s.heap.objs.size=none:=by
   cases q:X.s₀.heap.get? s.heap.objs.size with
   | none=>rfl
   | some o=>exact absurd (bK (bD q) I.sz) (cA _)
  have C:s.heap.objs.size≠e:=λq=>absurd (bD u) (by rw [<-q];exact cA _);have κ:s.heap.objs.size≠it:=λq=>by obtain ⟨ζ,z,_⟩:=d.i;exact absurd (bD z) (by rw [<-q];exact cA _)
  have r:n+((i+1:Nat):Int)=n+(i:Nat)+1:=Oo;refine ⟨.ref s.heap.objs.size,upd H s.heap.objs.size (.tup [.int (n+(i:Nat)),x]),I1.put fq ι ⟨⟨mZ (by show 2<=64;decide),_,f.extBut _ _ C U,rfl⟩,[.int (n+(i:Nat)) t,Y],.cons ⟨t,rfl⟩ (.cons ξ .nil),⟨_,f.extBut _ _ C U,rfl,_,rfl⟩⟩,rfl,⟨_,x,rfl,fq.1,rfl,λμ Z=>?_⟩,
   ⟨⟨_,by rw [r];exact N⟩,G.ext f.extBut (Ne.symm hne)⟩,λc a=>?_⟩
  ·rw [p] at Z;rw [<-sB.inj Z];exact β
  ·have γ:c≠s.heap.objs.size:=λq=>by
    simp only [bE,List.not_mem_nil,or_false] at a;rcases a with rfl | rfl
    ·exact C q.symm
    ·exact κ q.symm
   rw [cU γ];exact (y c a).1
 done:=by
  intro X T S A α i j s σ H E I y d O;subst T S A;obtain ⟨ε,p,τ⟩:=O;obtain ⟨u1,L,R⟩:=I.sq p;have ρ:=L.length;obtain ⟨m,u⟩:=d.e;refine HY (I.ok.hd α) u d.i R (by simp;omega) λJ η=>⟨rfl,I.turnedL (t':=s.toks) (λc o a D=>?_) y⟩;simp only [bE,List.not_mem_nil,or_false,not_or] at a;exact η c o a.2 D
 self:=λ_ _ _ _ _ d h=>by
  obtain ⟨m,u⟩:=d.e;exact wpAny_pyIter_enum u h
def aCW(b:Bool)(n:Int)(ta:TA):TI:=λσ H R=>ta σ H λvs H1=>∃l xs,vs=[.ref l]/\H1 l=some (sB b xs)/\R (Ite b l n) H1
theorem OC:bootBuiltins (Str.ofString "enumerate")=some (Value.type "enumerate"):=Kk
section
variable{X:Cx}
theorem RB{pins:List (Addr × Obj)}{σ:St}{tg:Expr}{elts:List Expr}{x1}{tp:Pos}{b:Bool}{l:Addr}{n:Int}{H1:Hp}{s1:Shared}{R:It->Hp->Prop}{h':Heap}(I1:cH X pins σ H1 s1)(Z:EAt b (s1.heap.objs.size+1) s1.heap.objs.size l n 0 h')(kk:∀c o,s1.heap.get? c=some o->h'.get? c=some o)(q:R (Ite b l n) H1) :
  wpAny (model X.prog X.w) X.A (pyIter (.ref (s1.heap.objs.size+1))) (PIE X pins σ (.Tuple elts x1 tp) R) X.xe { s1 with heap:=h' }:=by
 obtain ⟨i,f⟩:=Z.e;refine wpAny_pyIter_enum f ⟨_,[s1.heap.objs.size+1,s1.heap.objs.size],_,_,H1,rfl,I1.kept (t':=s1.toks) kk,MG (λh=>absurd (show (s1.heap.objs.size+1:Nat)=s1.heap.objs.size from h) Oo),Z,λc d=>?_,q⟩;have a:s1.heap.objs.size<=c:=by
  simp only [bE,List.not_mem_nil,or_false] at d;rcases d with rfl | rfl
  ·exact Nat.le_add_right _ _
  ·exact aG _
 exact I1.fpOk a (I1.hok.fresh a)
theorem AC(b:Bool){a:Expr}{ta:TA}{p pos tp:Pos}{elts:List Expr}{x1}(hg:Gl X "enumerate")(hm:X.mg "enumerate" = none)(ha:OJ X [a] ta)(hs:starEach [a] X.env=[(false,eval a X.env)]:=by first | exact iF | exact iG | exact eC | rfl) :
  OP X (.Tuple elts x1 tp) (.Call (.Name "enumerate" p) [a] [] pos) (aCW b 0 ta):=⟨by
 intro c s σ H R I h;refine Call_ (wF I hg hm OC (PyProof.Rows.callWith_type1 (thn (ha.p pos c s σ H _ I h) λy r ⟨x,H1,I1,i,n⟩=>?_) (by rw [hs];rfl) (by rfl)));obtain ⟨l,o,e,d,q⟩:=n;subst e;obtain ⟨u,rfl,f⟩:=lK i;cases f;obtain ⟨u1,_,m⟩:=I1.sq d;exact aDa m λw Z j=>RB (tg:=.Tuple elts x1 tp) I1 Z j q⟩
theorem ET{b:Bool}{l:Addr}{n:Int}{xs:List V}{g:TG}{tb:TS}{D:oS}{σ:St}{H:Hp}(Pv:Nat->St->Hp->Prop)(h0:Pv 0 σ H)(hl:∀i σ H,Pv i σ H->H l=some (sB b xs))
  (hs:∀i x q σ H H',xs[i]?=some x->Pv i σ H->H q=none->H' q=some (.tup [.int (n+(i:Nat)),x])->bC H H'->g (.ref q) σ H' λσ2 H2=>tb { D with nx:=Pv (i+1),ct:=Pv (i+1),bk:=D.nx } σ2 H2) (hd:∀σ H,Pv xs.length σ H->D.nx σ H) :
  ∃W:Nat->Nat->St->Hp->Prop,(∃m,W 0 m σ H)/\∀i m σ H,W i m σ H ->
   ((Ite b l n).stop i H/\D.nx σ H)\/((Ite b l n).go i H/\∃N:St->Hp->Prop,(∀σ' H',N σ' H'->∃m',m' < m/\W (i+1) m' σ' H')/\∀x H',(Ite b l n).yld i H x H'->g x σ H' λσ2 H2=>tb { D with nx:=N,ct:=N,bk:=D.nx } σ2 H2):=by
 refine ⟨λi m σ H=>m=xs.length-i/\i<=xs.length/\Pv i σ H,⟨_,rfl,bS _,h0⟩,?_⟩;rintro i m σ H ⟨rfl,j,p⟩;have a:=hl i σ H p;by_cases hlt:i<xs.length
 ·have f:xs[i]?=some xs[i]:=aB hlt;refine .inr ⟨⟨xs,_,a,f⟩,Pv (i+1),λσ' H' d=>⟨_,Oo,rfl,hlt,d⟩,λv H' y=>?_⟩;obtain ⟨q,x,rfl,c,rfl,h⟩:=y;exact hs i x q σ H _ (h xs a) p c bH (bC.upd c)
 ·have e:i=xs.length:=Oo;subst e;exact .inl ⟨⟨xs,a,aG _⟩,hd σ H p⟩
end
end L2
namespace Mf
structure TQ where
 F:Nat
 q:Nat->Rat
 s:List Nat->Rat
 r:List Nat->Rat
abbrev SS:=List (List Nat) × List Bool × Bool
def tq0:TQ:=⟨0,λ_=>0,λ_=>0,λ_=>0⟩
def dH(t:TQ)(st:SS)(i:Nat)(c:List Nat):List (SS × Rat):=[((st.1.set i c,st.2.1,st.2.2),t.s c),((st.1.set i c,st.2.1.set i false,st.2.2),t.r c),((st.1.set i c,st.2.1.set i false,true),1-(t.s c+t.r c))]
def cS(on:List Bool):List Nat:=(List.range on.length).filter λi=>on.getD i false
def gU(pl:List (List Nat)->Option Int)(st:SS):Option Nat :=
 if cS st.2.1=[]\/pl st.1=some (-1) then none else
  match pl st.1 with
  | some t=>if t∈(cS st.2.1).map (λ(i:Nat)=>(i:Int)) then some t.toNat else (cS st.2.1).head?
  | none=>(cS st.2.1).head?
def nQ(ts:List TQ)(pl:List (List Nat)->Option Int)(a:SS->Rat)(b:Rat):Nat->SS->Rat
 | 0,st=>a st
 | n+1,st=>match gU pl st with
  | none=>a st
  | some i=>b+iZ (ts.getD i tq0).F λf=>(ts.getD i tq0).q f*cI (dH (ts.getD i tq0) st i (cK (st.1.getD i []) f)) λp=>p.2*nQ ts pl a b n p.1
def SD:List TQ->Nat->(SS->Rat)->SS->Rat
 | [],_,g,st=>g st
 | t::ts,i,g,st=>cI (dH t st i (List.replicate t.F 0)) λp=>p.2*SD ts (i+1) g p.1
theorem TC(t:TQ)(st:SS)(i:Nat)(c:List Nat)(g:SS->Rat):cI (dH t st i c) (λp=>p.2*g p.1)=t.s c*g (st.1.set i c,st.2.1,st.2.2)+(t.r c*g (st.1.set i c,st.2.1.set i false,st.2.2)+(1-(t.s c+t.r c))*g (st.1.set i c,st.2.1.set i false,true)):=by
 unfold dH cI;simp only [aU,List.map_nil,lH];grind
theorem XA{pl:List (List Nat)->Option Int}{st:SS}{i:Nat}(h:gU pl st=some i):i<st.2.1.length/\st.2.1.getD i false=true:=by
 unfold gU at h;have a:i∈cS st.2.1->i<st.2.1.length/\st.2.1.getD i false=true:=λb=>by
  unfold cS at b;obtain ⟨e,c⟩:=iN.mp b;exact ⟨cM.mp e,c⟩
 split at h
 ·cases h
 ·split at h
  ·split at h
   ·rename_i t _ b
    cases h;obtain ⟨k,d,rfl⟩:=aS.mp b;exact a (by simpa using d)
   ·exact a (List.mem_of_head? h)
  ·exact a (List.mem_of_head? h)
structure aDc(M:Nat)(K:List Nat->Prop)(t:TQ):Prop where
 q0:∀f,f<t.F->0<=t.q f
 q1:iZ t.F t.q=1
 len:∀c,K c->c.length=t.F
 le:∀c,K c->c.sum<=M
 s0:∀c,K c->0<=t.s c
 r0:∀c,K c->0<=t.r c
 sr:∀c,K c->t.s c+t.r c<=1
 on:∀c,K c->t.s c≠0->c.sum<M/\∀f,f<t.F->K (cK c f)
 root:K (List.replicate t.F 0)
section
variable{M:Nat}{K:List Nat->Prop}{t:TQ}
theorem OB{c:List Nat}{f:Nat}(h:f<c.length):(cK c f).sum=c.sum+1:=by
 unfold cK
 induction c generalizing f with
 | nil=>simp at h
 | cons a c ih =>
  cases f with
  | zero=>simp;omega
  | succ f =>
   have:=ih (f:=f) (by simpa using h);simp only [List.set_cons_succ,List.sum_cons,List.getD_cons_succ];omega
end
structure TM where
 t:TQ
 M:Nat
 K:List Nat->Prop
def eO:TM:=⟨tq0,0,λ_=>False⟩
structure FZ(ms:List TM)(st:SS):Prop where
 lc:st.1.length=ms.length
 lo:st.2.1.length=ms.length
 k:∀i,i<ms.length->(ms.getD i eO).K (st.1.getD i [])
 on:∀i,i<ms.length->st.2.1.getD i false=true->(ms.getD i eO).t.s (st.1.getD i [])≠0
def UM(ms:List TM):Prop:=∀i,i<ms.length->aDc (ms.getD i eO).M (ms.getD i eO).K (ms.getD i eO).t
theorem gW{α:Type}{l:List α}{i j:Nat}{a d:α}(h:i≠j):(l.set i a).getD j d=l.getD j d:=by
 rw [aE,aE,List.getElem?_set_ne h]
theorem jU{α:Type}{l:List α}{i:Nat}{a d:α}(h:i<l.length):(l.set i a).getD i d=a:=by
 rw [aE,List.getElem?_set_self h];rfl
def aW(st:SS):Rat:=if st.2.2=true then 1 else 0
def aA(st:SS):Rat:=if cS st.2.1=[] then 1 else 0
section
variable{ms:List TM}{st:SS}
theorem FZ.come(h:FZ ms st){i:Nat}(hi:i<ms.length){c:List Nat}(hc:(ms.getD i eO).K c):∀p∈dH (ms.getD i eO).t st i c,p.2≠0->(st.2.1.getD i false=true\/True)->FZ ms p.1:=λp f d _=>by
 have l:∀(on:List Bool) (w:Bool) j,j<ms.length->(ms.getD j eO).K (((st.1.set i c,on,w):SS).1.getD j []):=λon w j b=>by
  by_cases e:j=i
  ·subst e;rw [show ((st.1.set j c,on,w):SS).1.getD j []=c from jU (by rw [h.lc];exact hi)];exact hc
  ·rw [show ((st.1.set i c,on,w):SS).1.getD j []=st.1.getD j [] from gW λz=>e z.symm];exact h.k j b
 have a:∀(w:Bool) j,j<ms.length->(st.2.1.set i false).getD j false=true->(ms.getD j eO).t.s (((st.1.set i c,st.2.1.set i false,w):SS).1.getD j [])≠0:=λw j b q=>by
  by_cases e:j=i
  ·subst e;rw [jU (by rw [h.lo];exact hi)] at q;cases q
  ·rw [gW λz=>e z.symm] at q;rw [show ((st.1.set i c,st.2.1.set i false,w):SS).1.getD j []=st.1.getD j [] from gW λz=>e z.symm];exact h.on j b q
 unfold dH at f;simp only [bE,List.not_mem_nil,or_false] at f;rcases f with rfl | rfl | rfl
 ·refine ⟨by simp [h.lc],h.lo,l _ _,λj b q=>?_⟩;by_cases e:j=i
  ·subst e;rw [show ((st.1.set j c,st.2.1,st.2.2):SS).1.getD j []=c from jU (by rw [h.lc];exact hi)];exact d
  ·rw [show ((st.1.set i c,st.2.1,st.2.2):SS).1.getD j []=st.1.getD j [] from gW λz=>e z.symm];exact h.on j b q
 ·exact ⟨by simp [h.lc],by simp [h.lo],l _ _,a _⟩
 ·exact ⟨by simp [h.lc],by simp [h.lo],l _ _,a _⟩
theorem TB{i:Nat}{c:List Nat}:cI (dH (ms.getD i eO).t st i c) (λp=>p.2*1)=1:=by
 rw [TC (g:=λ_=>1)];grind
end
def jP(cs:List (List Nat)):Nat:=(cs.map List.sum).sum
def tL(ms:List TM):Nat:=(ms.map (·.M)).sum
theorem DG:∀{cs:List (List Nat)}{i:Nat}{c:List Nat},i<cs.length->jP (cs.set i c)+(cs.getD i []).sum=jP cs+c.sum
 | [],i,c,h=>by simp at h
 | a::cs,0,c,h=>by show c.sum+(cs.map List.sum).sum+a.sum=a.sum+(cs.map List.sum).sum+c.sum;omega
 | a::cs,i+1,c,h=>by
  have:=DG (cs:=cs) (i:=i) (c:=c) (by simpa using h);unfold jP at this;show a.sum+((cs.set i c).map List.sum).sum+(cs.getD i []).sum=a.sum+(cs.map List.sum).sum+c.sum;omega
theorem GK:∀{ms:List TM}{cs:List (List Nat)},cs.length=ms.length->(∀i,i<ms.length->(cs.getD i []).sum<=(ms.getD i eO).M)->jP cs<=tL ms/\∀i,i<ms.length->(cs.getD i []).sum<(ms.getD i eO).M->jP cs<tL ms
 | [],[],_,_=>⟨aG _,λi hi=>by simp at hi⟩
 | [],_::_,h,_=>by simp at h
 | _::_,[],h,_=>by simp at h
 | m::ms,c::cs,hl,h=>by
  obtain ⟨h1,h2⟩:=GK (ms:=ms) (cs:=cs) (by simpa using hl) λi hi=>h (i+1) (by simpa using hi);have a:c.sum<=m.M:=h 0 (by simp);refine ⟨?_,λi hi q=>?_⟩
  ·show c.sum+jP cs<=m.M+tL ms;omega
  ·show c.sum+jP cs<m.M+tL ms;cases i with
   | zero=>have:c.sum<m.M:=q;omega
   | succ i=>have:=h2 i (by simpa using hi) q;omega
theorem aBv(ms:List TM)(i:Nat):(ms.map (·.t)).getD i tq0=(ms.getD i eO).t:=by
 rw [aE,aE,aL];cases ms[i]? <;> rfl
section
variable{ms:List TM}{pl:List (List Nat)->Option Int}
theorem FZ.look(h:FZ ms st)(H:UM ms){i:Nat}(e:gU pl st=some i):i<ms.length/\st.2.1.getD i false=true/\(ms.getD i eO).t.s (st.1.getD i [])≠0/\∀f,f<(ms.getD i eO).t.F->(ms.getD i eO).K (cK (st.1.getD i []) f)/\jP (st.1.set i (cK (st.1.getD i []) f))=jP st.1+1:=by
 obtain ⟨n,b⟩:=XA e;have a:i<ms.length:=by rw [<-h.lo];exact n
 have j:=h.on i a b;have d:=h.k i a;refine ⟨a,b,j,λf l=>⟨((H i a).on _ d j).2 f l,?_⟩⟩;have m:=DG (cs:=st.1) (i:=i) (c:=cK (st.1.getD i []) f) (by rw [h.lc];exact a);rw [OB (by rw [(H i a).len _ d];exact l)] at m;omega
theorem FZ.out(h:FZ ms st)(H:UM ms)(hn:tL ms<=jP st.1):gU pl st=none:=by
 cases e:gU pl st with
 | none=>rfl
 | some i =>
  obtain ⟨a,d,c,_⟩:=h.look H e;have f:=(GK h.lc λj b=>(H j b).le _ (h.k j b)).2 i a ((H i a).on _ (h.k i a) c).1;omega
theorem LF{t:TQ}{st:SS}{i:Nat}{c:List Nat}:∀p∈dH t st i c,p.1.1=st.1.set i c:=λp a=>by
 unfold dH at a;simp only [bE,List.not_mem_nil,or_false] at a;rcases a with rfl | rfl | rfl <;> rfl
theorem uU(H:UM ms){a:SS->Rat}{b:Rat}{n:Nat}{st:SS}{i:Nat}(e:gU pl st=some i):nQ (ms.map (·.t)) pl a b (n+1) st=b+iZ (ms.getD i eO).t.F λf=>(ms.getD i eO).t.q f*cI (dH (ms.getD i eO).t st i (cK (st.1.getD i []) f)) λp=>p.2*nQ (ms.map (·.t)) pl a b n p.1:=by
 show (match gU pl st with | none=>a st | some i=>_)=_;rw [e];show b+iZ _ _=_;rw [aBv]
theorem uV{ts:List TQ}{a:SS->Rat}{b:Rat}{st:SS}(e:gU pl st=none):∀n,nQ ts pl a b n st=a st
 | 0=>rfl
 | n+1=>by show (match gU pl st with | none=>a st | some i=>_)=_;rw [e]
structure IJ(ms:List TM)(k:Nat)(st:SS):Prop where
 lc:st.1.length=ms.length
 lo:st.2.1.length=ms.length
 c:∀i,i<ms.length->st.1.getD i []=List.replicate (ms.getD i eO).t.F 0
 on:∀i,i<k->i<ms.length->st.2.1.getD i false=true->(ms.getD i eO).t.s (st.1.getD i [])≠0
 on2:∀i,k<=i->i<ms.length->st.2.1.getD i false=true
theorem IJ.ok(H:UM ms){st:SS}(h:IJ ms ms.length st):FZ ms st:=⟨h.lc,h.lo,λi a=>by rw [h.c i a];exact (H i a).root,λi a=>h.on i a a⟩
theorem IJ.come{st:SS}{k:Nat}(h:IJ ms k st)(hk:k<ms.length):∀p∈dH (ms.getD k eO).t st k (List.replicate (ms.getD k eO).t.F 0),p.2≠0->IJ ms (k+1) p.1:=λp l f=>by
 have d:∀(on:List Bool) (w:Bool) j,j<ms.length->((st.1.set k (List.replicate (ms.getD k eO).t.F 0),on,w):SS).1.getD j []=List.replicate (ms.getD j eO).t.F 0:=λon w j n=>by
  by_cases e:j=k
  ·subst e;exact jU (by rw [h.lc];exact hk)
  ·rw [show ((st.1.set k (List.replicate (ms.getD k eO).t.F 0),on,w):SS).1.getD j []=st.1.getD j [] from gW λz=>e z.symm];exact h.c j n
 have b:∀(w:Bool),IJ ms (k+1) (st.1.set k (List.replicate (ms.getD k eO).t.F 0),st.2.1.set k false,w):=λw=>by
  refine ⟨by simp [h.lc],by simp [h.lo],d _ _,λi m a q=>?_,λi m a=>?_⟩
  ·by_cases e:i=k
   ·subst e;rw [show ((st.1.set i (List.replicate (ms.getD i eO).t.F 0),st.2.1.set i false,w):SS).2.1.getD i false=false from jU (by rw [h.lo];exact hk)] at q;cases q
   ·rw [show ((st.1.set k (List.replicate (ms.getD k eO).t.F 0),st.2.1.set k false,w):SS).2.1.getD i false=st.2.1.getD i false from gW λz=>e z.symm] at q;rw [d _ _ i a,<-h.c i a];exact h.on i Oo a q
  ·rw [show ((st.1.set k (List.replicate (ms.getD k eO).t.F 0),st.2.1.set k false,w):SS).2.1.getD i false=st.2.1.getD i false from gW Oo];exact h.on2 i Oo a
 unfold dH at l;simp only [bE,List.not_mem_nil,or_false] at l;rcases l with rfl | rfl | rfl
 ·refine ⟨by simp [h.lc],h.lo,d _ _,λi m a q=>?_,λi m a=>h.on2 i Oo a⟩;rw [d _ _ i a];by_cases e:i=k
  ·subst e;exact f
  ·rw [<-h.c i a];exact h.on i Oo a q
 ·exact b _
 ·exact b _
theorem XM{k:Nat}(hk:k<ms.length):(ms.map (·.t)).drop k=(ms.getD k eO).t::(ms.map (·.t)).drop (k+1):=by
 rw [List.drop_eq_getElem_cons (by rw [aC];exact hk),List.getElem_map];congr 2;rw [aE,aB hk];rfl
end
end Mf
namespace Kw
open PySem L2 Mf
def top(i:Nat):Stmt:=PySem.Challenge.pw_earlystop_k76_led_by_a_plan.main.body.getD i (.Pass ⟨0,0,0,0⟩)
structure Cl where
 ONE:Addr
 NOUGHT:Addr
 tok_BREAK_OFF:Tok
structure nT(K:PySem.W.Frag)(mg:Str->Option Value)(c:Cl):Prop where
 b_list:mg "list" = none
 b_len:mg "len" = none
 b_abs:mg "abs" = none
 b_range:mg "range" = none
 b_sum:mg "sum" = none
 b_int:mg "int" = none
 b_sorted:mg "sorted" = none
 b_dict:mg "dict" = none
 b_isinstance:mg "isinstance" = none
 b_tuple:mg "tuple" = none
 b_zip:mg "zip" = none
 b_repr:mg "repr" = none
 b_enumerate:mg "enumerate" = none
 g_ONE:mg "ONE" = some (.ref c.ONE)
 g_NOUGHT:mg "NOUGHT" = some (.ref c.NOUGHT)
 g_BREAK_OFF:mg "BREAK_OFF" = some (.int (-1) c.tok_BREAK_OFF)
 o_ONE:oP K c.ONE [1,1]=true
 o_NOUGHT:oP K c.NOUGHT [0,1]=true
abbrev sQ7:Stmt:=(top 29)
theorem cQ7:cT ["_law_n","_law_d","_law_one","_law_other"] ["_law_n","_law_d"] (bJ sQ7):=⟨rfl,rfl,rfl,Kk,rfl,Kk,Kk⟩
abbrev sQ4:Stmt:=(top 27)
theorem cQ4:cT ["_law_script"] ["_law_script"] (bJ sQ4):=⟨rfl,rfl,rfl,Kk,rfl,Kk,Kk⟩
abbrev sQ2:Stmt:=(top 28)
theorem cQ2:cT ["_law_feed_here","_law_many","_law_found","_law_cell","_law_stirred"] ["_law_feed_here","_law_many"] (bJ sQ2):=⟨rfl,rfl,rfl,Kk,rfl,Kk,Kk⟩
abbrev MR:Stmt:=(top 30)
theorem YA:cT ["_law_feed_here","_law_many","_law_most","_law_parts"] ["_law_feed_here","_law_many"] (bJ MR):=⟨rfl,rfl,rfl,Kk,rfl,Kk,Kk⟩
abbrev VO:Stmt:=(top 31)
theorem OA:cT ["_law_feed_here","_law_pool","_law_turn","_law_faces","_law_ways"] ["_law_feed_here"] (bJ VO):=⟨rfl,rfl,rfl,Kk,rfl,Kk,Kk⟩
abbrev eY(f:Fr):PyData:=.tuple [.int f.1,.int f.2]
theorem aBA{H:Hp}{f:Fr}{v:V}(h:cB H (eY f) v):∃a,v=.ref a/\H a=some (.tup [.int f.1,.int f.2]):=by
 unfold cB aZ aZ aZ at h;obtain ⟨a,_,rfl,b,x,_,rfl,c,y,_,rfl,d,rfl⟩:=h;cases (show x=V.int f.1 from c);cases (show y=V.int f.2 from d);exact ⟨a,rfl,b⟩
theorem eU{H:Hp}{f:Fr}{a:Addr}(h:H a=some (.tup [.int f.1,.int f.2])):cB H (eY f) (.ref a):=cB.tup h (aZ.cons (cB.int _) (aZ.cons (cB.int _) aZ.nil))
theorem fN(f:Fr):dG (eY f)=true:=rfl
def iO(K:PySem.W.Frag)(H:Hp)(f:Fr)(x:V):Prop:=∃a,x=.ref a/\fO K H a [.int f.1,.int f.2]
theorem iO.of{K:PySem.W.Frag}{H:Hp}{f:Fr}{x:V}(h:cB H (eY f) x):iO K H f x:=by
 obtain ⟨a,e,h⟩:=aBA h;exact ⟨a,e,fO.of h⟩
theorem iO.new{K:PySem.W.Frag}{H:Hp}{f:Fr}{a:Addr}(h:H a=some (.tup [.int f.1,.int f.2])):iO K H f (.ref a):=⟨a,rfl,fO.of h⟩
theorem iO.same{K:PySem.W.Frag}{H H':Hp}{f:Fr}{x:V}(s:bC H H')(h:iO K H f x):iO K H' f x:=by
 obtain ⟨a,e,h⟩:=h;exact ⟨a,e,h.keep s⟩
def jW(k:Nat)(f:Fr):Prop:=f.1.natAbs<2^k/\f.2.natAbs<2^k
@[irreducible] def yH:Sp:=λvs H Q _=>∃n d:Int,vs=[.int n,.int d]/\0<d/\Q (.int (Int.gcd n d)) H
theorem uF{H:Hp}{Q:VK}{E:XK}{n d:Int}(h:0<d)(q:Q (.int (Int.gcd n d)) H):yH [.int n,.int d] H Q E:=by unfold yH;exact ⟨n,d,rfl,h,q⟩
def qE(H:Hp)(Q:VK)(f:Fr):Prop:=∀q H',H q=none->H' q=some (.tup [.int f.1,.int f.2])->bC H H'->Q (.ref q) H'
@[irreducible] def lO(K:PySem.W.Frag):Sp:=λvs H Q _=>∃x y f g,vs=[x,y]/\iO K H f x/\iO K H g y/\eS f/\eS g/\jW 4000 f/\jW 4000 g/\qE H Q (pK f g)
theorem oV{K:PySem.W.Frag}{H:Hp}{Q:VK}{E:XK}{x y:V}{f g:Fr}(h1:iO K H f x)(h2:iO K H g y)(l1:eS f)(l2:eS g)(z1:jW 4000 f)(z2:jW 4000 g)(q:qE H Q (pK f g)):lO K [x,y] H Q E:=by unfold lO;exact ⟨x,y,f,g,rfl,h1,h2,l1,l2,z1,z2,q⟩
@[irreducible] def oE:Sp:=λvs H Q _=>∃n d:Int,vs=[.int n,.int d]/\0<d/\d.natAbs<2^9000/\qE H Q (lw n d)
theorem qT{H:Hp}{Q:VK}{E:XK}{n d:Int}(h:0<d)(z:d.natAbs<2^9000)(q:qE H Q (lw n d)):oE [.int n,.int d] H Q E:=by unfold oE;exact ⟨n,d,rfl,h,z,q⟩
theorem aBw{n d:Int}(h:0<d):(Int.gcd n d:Int)<=d:=Int.le_of_dvd h (Int.gcd_dvd_right n d)
theorem wM{n d:Int}{k:Nat}(h:0<d)(z:d.natAbs<2^k):(Int.gcd n d:Int).natAbs<2^k:=by
 have:=aBw (n:=n) h;have:=iH (n:=n) h;omega
theorem rF{n d:Int}(h:0<d)(z:d.natAbs<2^9000):UP n d:=⟨h,xB z⟩
theorem jL{i:Int}{n m:Nat}(h:i.natAbs<2^n)(k:n<=m:=by decide):i.natAbs<2^m:=bK h (bI Dd k)
theorem pT{i j:Int}{n:Nat}(h:i.natAbs<2^n)(hj:0<j):(i/j).natAbs<2^n:=bA (by
 have:=Int.natAbs_ediv_le_natAbs i j;exact this) h
theorem AM{i j:Int}{n m:Nat}(h1:i.natAbs<2^n)(h2:j.natAbs<2^m):(i*j).natAbs<2^(n+m):=by
 rw [jI,Nat.pow_add];exact Nat.mul_lt_mul'' h1 h2
abbrev uH(fs:List Fr):PyData:=.tuple (fs.map eY)
theorem wO:∀fs:List Fr,cV (fs.map eY)=true
 | []=>rfl
 | f::fs=>by show (dG (eY f)&&cV (fs.map eY))=true;rw [wO fs];rfl
theorem kP(fs:List Fr):dG (uH fs)=true:=wO fs
section
theorem oQ7(F:lC K "_law_low" "_law_low" sQ7 f fd)(T:nT K mg c):fJ P w K mg base eV 1 f fd ["_law_n","_law_d"] oE:=by
 refine F.oky cQ7 λM H Q E h=>?_;unfold oE at h;obtain ⟨n,d,rfl,hd,L,q⟩:=h;refine ⟨rfl,λG A r s N=>?_⟩;refine ⟨_,(aQ (OX (i:=2) (j:=3) rfl cQ7.nd rfl rfl Dd rfl rfl (aP (gF IE (by rfl) T.b_abs Kk (aP (aJ 0) aI)) (aP (aJ 1) aI)) rfl)
  (aQ (qH PassesOwn.never (eJ JV (aJ 3) aK (nomark _)) (bO (OX (i:=2) (j:=3) rfl cQ7.nd rfl rfl Dd rfl rfl (aP (aJ 3) (aP (cF lV (aJ 2) (aJ 3)) aI)) rfl)))
  (bO (dL (cW (aP (cF gT (aJ 0) (aJ 2)) (aP (cF gT (aJ 1) (aJ 2)) aI))))))),?_⟩
 refine ⟨_,rfl,raI ?_⟩;refine ⟨_,rfl,⟨_,_,rfl,?_⟩⟩;refine uC (λm σ H'=>∃(u v:Int),σ=[some (.int n),some (.int d),some (.int u),some (.int v)]/\0<=v/\Int.gcd u v=Int.gcd n d/\(v=0->0<u)/\H'=H/\m=v.toNat)
  (λσ H'=>σ=[some (.int n),some (.int d),some (.int (Int.gcd n d)),some (.int 0)]/\H'=H)
  _ ⟨(n.natAbs:Int),d,rfl,Oo,by rw [Int.gcd_eq_natAbs_gcd_natAbs,Int.gcd_eq_natAbs_gcd_natAbs,Int.natAbs_natCast],Oo,rfl,rfl⟩ ?_ ?_
 ·rintro m σ H2 ⟨u,v,rfl,z,l,I,rfl,rfl⟩;refine ⟨_,rfl,rfl,_,rfl,ZO (λe=>?_) (λe=>?_)⟩
  ·have a:0<v:=by
    rcases Int.lt_or_eq_of_le z with h | h
    ·exact h
    ·exact absurd (congrArg V.int h.symm) e
   refine ⟨_,rfl,_,rfl,_,rfl,_,_,rfl,rfl,a,_,_,rfl,?_⟩;have o:=Int.emod_lt_of_pos u a;have C:=Int.emod_nonneg u (b:=v) Oo;exact ⟨_,Oo,v,u % v,rfl,C,by rw [ES,l],λ_=>a,rfl,rfl⟩
  ·have x:v=0:=by injection e
   subst x;have B:=I rfl;have o:=KQ B;rw [l] at o;rw [o];exact ⟨rfl,rfl⟩
 ·rintro σ H2 ⟨rfl,rfl⟩;have l:=iH (n:=n) hd;have y:UP n (Int.gcd n d:Int):=rF l (wM hd L);refine ⟨_,rfl,_,rfl,_,_,rfl,rfl,y,⟨_,rfl,_,rfl,_,_,rfl,rfl,y,?_⟩⟩;exact lI (by show 2<=64;decide) λp H3 D e3 J=>q p H3 D e3 J
end
theorem nB{H:Hp}{fs:List Fr}{v:V}(h:cB H (uH fs) v):∃a xs,v=.ref a/\H a=some (.tup xs)/\aZ H (fs.map eY) xs:=by
 unfold cB at h;exact h
abbrev wD(w:Str × List Fr):PyData:=.tuple [.str w.1,uH w.2]
abbrev UQ(fs:List Str)(ws:List (Str × List Fr)):PyData:=.tuple [.tuple (fs.map .str),.tuple (ws.map wD)]
theorem yD:∀fs:List Str,cV (fs.map PyData.str)=true
 | []=>rfl
 | f::fs=>by show (dG (.str f)&&cV (fs.map PyData.str))=true;rw [yD fs];rfl
theorem IP(w:Str × List Fr):dG (wD w)=true:=by
 show (dG (.str w.1)&&(dG (uH w.2)&&true))=true;rw [kP];rfl
theorem IM:∀ws:List (Str × List Fr),cV (ws.map wD)=true
 | []=>rfl
 | w::ws=>by show (dG (wD w)&&cV (ws.map wD))=true;rw [IP w,IM ws];rfl
theorem uY(fs:List Str)(ws:List (Str × List Fr)):dG (UQ fs ws)=true:=by
 show (dG (.tuple (fs.map .str))&&(dG (.tuple (ws.map wD))&&true))=true;rw [show dG (.tuple (fs.map PyData.str))=cV (fs.map PyData.str) from rfl,yD,show dG (.tuple (ws.map wD))=cV (ws.map wD) from rfl,IM];rfl
theorem zW{H:Hp}:∀fs:List Str,aZ H (fs.map PyData.str) (fs.map V.str)
 | []=>aZ.nil
 | f::fs=>aZ.cons (cB.str f) (zW fs)
theorem dX{H:Hp}{ds:List PyData}{v:V}(h:cB H (.tuple ds) v):∃a xs,v=.ref a/\H a=some (.tup xs)/\aZ H ds xs:=by unfold cB at h;exact h
theorem fW{H:Hp}{d e:PyData}{xs:List V}(h:aZ H [d,e] xs):∃x y,xs=[x,y]/\cB H d x/\cB H e y:=by
 unfold aZ aZ aZ at h;obtain ⟨x,_,rfl,b,y,_,rfl,a,rfl⟩:=h;exact ⟨x,y,rfl,b,a⟩
theorem eF{α:Type}{H:Hp}{g:α->PyData}{fs:List α}{vs:List V}(h:aZ H (fs.map g) vs){i:Nat}{v:V}(e:vs[i]?=some v):∃f,fs[i]?=some f/\cB H (g f) v:=by
 obtain ⟨d,a,b⟩:=h.get e;rw [aL] at a;cases q:fs[i]? with
 | none=>rw [q] at a;cases a
 | some f=>rw [q] at a;cases a;exact ⟨f,rfl,b⟩
theorem dY{α:Type}{H:Hp}{g:α->PyData}{fs:List α}{vs:List V}(h:aZ H (fs.map g) vs){i:Nat}{f:α}(e:fs[i]?=some f):∃v,vs[i]?=some v/\cB H (g f) v :=
 h.get' (by rw [aL,e];rfl)
theorem dN{α:Type}{H:Hp}{g:α->PyData}{fs:List α}{vs:List V}(h:aZ H (fs.map g) vs):vs.length=fs.length:=by rw [h.len,aC]
theorem fI{α:Type}{l:List α}{i:Nat}{x:α}(h:l[i]?=some x):l.take (i+1)=l.take i++[x]:=by
 rw [List.take_add_one,h];rfl
structure cD(H:Hp)(p L:Addr):Prop where
 ex:∃(ns:List Int) (i r k:Int),H p=some (.lst [.ref L,.int i,.int r,.int k])/\H L=some (.lst (ns.map V.int))/\0<=i/\0<=r/\0<=k/\k<=ns.length/\ns.length<=63/\L≠p
theorem cD.there{H:Hp}{p L:Addr}(F:cD H p L):∃o,H p=some o:=by obtain ⟨a,i,r,k,h,_⟩:=F.ex;exact ⟨_,h⟩
theorem cD.lst{H:Hp}{p L:Addr}(F:cD H p L):∃xs,H p=some (.lst xs):=by obtain ⟨a,i,r,k,h,_⟩:=F.ex;exact ⟨_,h⟩
theorem cD.ne{H:Hp}{p L q:Addr}(F:cD H p L)(hq:H q=none):q≠p:=λe=>by
 subst e;obtain ⟨o,h⟩:=F.there;rw [h] at hq;cases hq
theorem cD.neL{H:Hp}{p L q:Addr}(F:cD H p L)(hq:H q=none):q≠L:=λe=>by
 subst e;obtain ⟨b,i,r,k,h,a,_⟩:=F.ex;rw [a] at hq;cases hq
@[irreducible] def qU(K:PySem.W.Frag):Sp:=λvs H Q _=>∃(a:Addr) (ns:List Int),vs=[.ref a]/\fR K H a (ns.map V.int)/\ns.length<=63/\∀p L H',cD H' p L->bC H H'->H p=none->H L=none->Q (.ref p) H'
@[irreducible] def iT:Sp:=λvs H Q _=>∃(p L:Addr) (m:Int),vs=[.ref p,.int m]/\cD H p L/\0<m/\bits m<=9000/\∀x H',0<=x->x<m->cD H' p L->aO p H H'->Q (.int x) H'
theorem cZ{H:Hp}{Q:VK}{E:XK}{p L:Addr}{m:Int}(F:cD H p L)(h:0<m)(hb:bits m<=9000)(k:∀x H',0<=x->x<m->cD H' p L->aO p H H'->Q (.int x) H'):iT [.ref p,.int m] H Q E:=by
 unfold iT;exact ⟨p,L,m,rfl,F,h,hb,k⟩
theorem bitsle{i:Int}{n:Nat}(h:i.natAbs<2^n):bits i<=n:=PySem.intBits_le_iff.mpr h
theorem cD.same{H H':Hp}{p L:Addr}(F:cD H p L)(s:bC H H'):cD H' p L:=by
 obtain ⟨d,i,r,k,c,a,b⟩:=F.ex;exact ⟨d,i,r,k,s _ _ c,s _ _ a,b⟩
theorem cD.but{H H':Hp}{p L D:Addr}(F:cD H p L)(s:aO D H H')(n1:D≠p)(n2:D≠L):cD H' p L:=by
 obtain ⟨d,i,r,k,c,a,b⟩:=F.ex;exact ⟨d,i,r,k,s.at (Ne.symm n1) c,s.at (Ne.symm n2) a,b⟩
theorem MM{K:PySem.W.Frag}{H:Hp}{Q:VK}{E:XK}{a:Addr}{ns:List Int}(h:fR K H a (ns.map V.int))(hl:ns.length<=63)(k:∀p L H',cD H' p L->bC H H'->H p=none->H L=none->Q (.ref p) H'):qU K [.ref a] H Q E:=by
 unfold qU;exact ⟨a,ns,rfl,h,hl,k⟩
@[irreducible] def sC(K:PySem.W.Frag):Sp:=λvs H Q _=>∃(a:Addr) (ns:List Int),vs=[.ref a]/\fR K H a (ns.map V.int)/\ns.length<=63/\∀H',Q (.bl true) H'
theorem QE{K:PySem.W.Frag}{H:Hp}{a:Addr}{ns:List Int}(h:fR K H a (ns.map V.int))(hl:ns.length<=63):sC K [.ref a] H (λv _=>v=.bl true) (λ_ _ _=>False):=by
 unfold sC;exact ⟨a,ns,rfl,h,hl,λ_=>rfl⟩
section
theorem oQ4(F:lC K "_law_feed" "_law_feed" sQ4 f fd)(T:nT K mg c):fJ P w K mg base eV 1 f fd ["_law_script"] (qU K):=by
 refine F.oky cQ4 λD H Q E h=>?_;unfold qU at h;obtain ⟨a,b,rfl,x,C,k⟩:=h;refine ⟨rfl,λy A m s G=>?_⟩;refine ⟨_,(bO (dL (eK (aP (iA CC (by rfl) T.b_list Kk (aP (fS JG (aJ 0) gP (gO aK)) aI)) (aP aK (aP aK (aP aK aI))))))),⟨_,rfl,_,rfl,a,_,rfl,x,λr j=>?_⟩⟩;refine ⟨r,_,rfl,.inl (fR.of bH),λo d=>?_⟩;refine qF (by show 4<=64;decide) λB H3 l e3 n=>?_;have z:o≠r:=λe=>by subst e;rw [bH] at d;cases d
 have u:pJ (b.map V.int) none (some 63)=b.map V.int:=by
  unfold pJ;have:HT.hZ (b.map V.int).length (b.map V.int).length (some 63)=(b.map V.int).length:=by
   rw [show ((63:Int))=((63:Nat):Int) from rfl,HT.AV,aC];omega
  rw [this,HT.vK,List.drop_zero,Nat.sub_zero];exact List.take_of_length_le (aG _)
 have i:=n;rw [u] at n;have p:=n o _ bH;refine k B o H3 ⟨b,0,0,0,e3,p,Int.le_refl _,Int.le_refl _,Int.le_refl _,Oo,C,λe=>?_⟩ (((bC.upd j).trans (bC.upd d)).trans i) ?_ ?_
 ·subst e;rw [bH] at l;cases l
 ·exact ((bC.upd j).trans (bC.upd d)).free l
 ·exact (bC.upd j).free d
theorem oQ2(F:lC K "_law_draw" "_law_draw" sQ2 f fd)(T:nT K mg c):fJ P w K mg base eV 1 f fd ["_law_feed_here","_law_many"] iT:=by
 refine F.oky cQ2 λι H Q E h=>?_;unfold iT at h;obtain ⟨p,L,m,rfl,F,R,δ,k⟩:=h;refine ⟨rfl,λζ A X s ξ=>?_⟩;obtain ⟨e,i,r,j,W,β,μ,x,C,I,γ,l⟩:=F.ex;refine ⟨_,(aQ (kJ (cF eP (bU bL (aJ 0) aK (λ_ _=>rfl)) aK) (nY (aJ 0) aK jR))
  (aQ (qH PassesOwn.never (MA (GC (eJ vT (bU bL (aJ 0) aK (λ_ _=>rfl)) aK (nomark _)) (zZ (eJ aCK (bU bL (aJ 0) aK (λ_ _=>rfl)) (gF iK (by rfl) T.b_len Kk (aP (bU bL (aJ 0) aK (λ_ _=>rfl)) aI)) (nomark _))))) (aQ (rV (lJ (eJ ZL (gF IE (by rfl) T.b_abs Kk (aP (bU bL (bU bL (aJ 0) aK (λ_ _=>rfl)) (bU bL (aJ 0) aK (λ_ _=>rfl)) (λ_ _=>rfl)) aI)) (cF aA7 aK aK) (nomark _)) (bO (kJ (gF IE (by rfl) T.b_abs Kk (aP (bU bL (bU bL (aJ 0) aK (λ_ _=>rfl)) (bU bL (aJ 0) aK (λ_ _=>rfl)) (λ_ _=>rfl)) aI)) (nY (aJ 0) aK jR))) gY))
  (bO (kJ (cF eP (bU bL (aJ 0) aK (λ_ _=>rfl)) aK) (nY (aJ 0) aK jR)))))
  (aQ (lJ (eJ EE (bU bL (aJ 0) aK (λ_ _=>rfl)) aK (nomark _)) (aQ (bQ (i:=2) cQ2.nd rfl (Or.inl rfl) (cF lV (bU bL (aJ 0) aK (λ_ _=>rfl)) (aJ 1)))
  (aQ (kJ (cF gT (bU bL (aJ 0) aK (λ_ _=>rfl)) (aJ 1)) (nY (aJ 0) aK jR))
  (bO (dL (aJ 2))))) gY)
  (aQ (bQ (i:=3) cQ2.nd rfl (Or.inl rfl) aK)
  (aQ (rV (lJ (eJ EE (gF iK (by rfl) T.b_len Kk (aP (bU bL (aJ 0) aK (λ_ _=>rfl)) aI)) aK (nomark _)) (bO (bQ (i:=3) cQ2.nd rfl (Or.inl rfl) (bU bL (bU bL (aJ 0) aK (λ_ _=>rfl)) (cF lV (bU bL (aJ 0) aK (λ_ _=>rfl)) (gF iK (by rfl) T.b_len Kk (aP (bU bL (aJ 0) aK (λ_ _=>rfl)) aI))) (λ_ _=>rfl)))) gY))
  (aQ (bQ (i:=4) cQ2.nd rfl (Or.inl rfl) (cF lV (cF eP (cF eP (cF fU (cF lV (aJ 3) aK) aK) (cF fU aK (bU bL (aJ 0) aK (λ_ _=>rfl)))) aK) aK))
  (aQ (bQ (i:=4) cQ2.nd rfl (Or.inl rfl) (cF lV (cF fU (aJ 4) (cF eP (aJ 4) aK)) aK))
  (bO (dL (cF lV (cF lV (cF fU (aJ 4) aK) aK) (aJ 1))))))))))),?_⟩
 refine ⟨_,rfl,mK W rfl ?_⟩;refine ⟨_,_,rfl,rfl,⟨_,rfl,?_⟩⟩;refine VH W rfl λH1 J α=>?_;have O:H1 p=some (.lst [.ref L,.int (i+1),.int r,.int j]):=J;clear J;refine uC (λn σ H'=>∃r j:Int,σ=[some (.ref p),some (.int m),none,none,none]/\H' p=some (.lst [.ref L,.int (i+1),.int r,.int j])/\0<=r/\0<=j/\j<=e.length/\aO p H H'/\n=((e.length:Int)-j).toNat)
  (λσ H'=>∃r j:Int,σ=[some (.ref p),some (.int m),none,none,none]/\H' p=some (.lst [.ref L,.int (i+1),.int r,.int j])/\0<=r/\0<=j/\j<=e.length/\aO p H H')
  _ ⟨r,j,rfl,O,x,C,I,α,rfl⟩ ?_ ?_
 all_goals clear W x C I O α
 ·rintro n σ H2 ⟨r,j,rfl,a,x,C,I,u,rfl⟩;have d:=u.at l β;refine ⟨_,rfl,mK a rfl ?_⟩;refine ⟨rfl,_,rfl,BS (λY=>?_) (λY=>?_)⟩
  ·refine ⟨_,rfl,mK a rfl ?_⟩;refine ⟨_,rfl,mK a rfl ?_⟩;refine ZG d ⟨_,_,rfl,rfl,_,rfl,BS (λG=>?_) (λG=>?_)⟩
   ·rw [aC] at G;have Z:∃z,e[j.toNat]?=some z:=⟨_,aB Oo⟩;obtain ⟨z,M⟩:=Z;have B:CP (e.map V.int) j=some (.int z):=by
     have:=cP (xs:=e.map V.int) (j:=j.toNat) (v:=V.int z) (by rw [aL,M];rfl)
     rwa [Int.toNat_of_nonneg C] at this
    refine ⟨_,λ_ _ h=>h,?_⟩;refine ⟨_,rfl,mK a rfl ?_⟩;refine ⟨_,rfl,mK a rfl ?_⟩;refine mK d B (raI ?_);refine ⟨_,_,rfl,rfl,⟨Dd,Dd,Dd⟩,_,_,rfl,rfl,_,rfl,BS (λε=>?_) (λε=>?_)⟩
    ·refine ⟨_,rfl,mK a rfl ?_⟩;refine ⟨_,rfl,mK a rfl ?_⟩;refine mK d B (raI ?_);refine ⟨_,rfl,?_⟩;refine VH a rfl λH3 N S=>?_;have D:H3 p=some (.lst [.ref L,.int (i+1),.int (z.natAbs:Int),.int j]):=N;refine ⟨_,rfl,mK D rfl ?_⟩;refine ⟨_,_,rfl,rfl,⟨_,rfl,?_⟩⟩;exact VH D rfl λH4 o U=>⟨_,Oo,_,j+1,rfl,o,Oo,Oo,Oo,(u.trans S).trans U,rfl⟩
    ·refine ⟨_,rfl,mK a rfl ?_⟩;refine ⟨_,_,rfl,rfl,⟨_,rfl,?_⟩⟩;exact VH a rfl λH4 o U=>⟨_,Oo,_,j+1,rfl,o,x,Oo,Oo,u.trans U,rfl⟩
   ·rw [aC] at G;exact ⟨r,j,rfl,a,x,C,I,u⟩
  ·exact nI ⟨r,j,rfl,a,x,C,I,u⟩
 ·rintro σ H2 ⟨r,j,rfl,a,x,C,I,u⟩;have d:=u.at l β;refine ⟨_,rfl,mK a rfl ?_⟩;refine ⟨_,_,rfl,rfl,_,rfl,BS (λY=>?_) (λY=>?_)⟩
  ·refine ⟨_,rfl,mK a rfl ?_⟩;refine ⟨_,rfl,_,_,rfl,rfl,R,⟨_,rfl,mK a rfl ?_⟩⟩;refine ⟨_,rfl,_,_,rfl,rfl,⟨R,δ⟩,⟨_,rfl,?_⟩⟩;refine VH a rfl λH3 D S=>⟨_,rfl,?_⟩;exact k _ H3 (Int.emod_nonneg _ Oo) (Int.emod_lt_of_pos _ R) ⟨e,i+1,r/m,j,D,S.at l d,Oo,Int.ediv_nonneg x Oo,C,I,γ,l⟩ (u.trans S)
  ·refine ⟨λσ H3=>∃c:Int,σ=[some (.ref p),some (.int m),none,some (.int c),none]/\H3=H2,?_,?_⟩
   ·rintro σ H3 ⟨c,rfl,rfl⟩;have ρ:=Int.emod_nonneg c (b:=2147483647) Dd;have θ:=Int.emod_lt_of_pos c (b:=2147483647) Dd;refine ⟨_,rfl,_,_,rfl,rfl,(by show (0:Int)<2147483647;decide),_,_,rfl,rfl,IntMulOk.of_right Kk,⟨_,rfl,mK a rfl ?_⟩⟩;refine ⟨_,_,rfl,rfl,IntMulOk.of_left Kk,_,_,rfl,rfl,_,_,rfl,rfl,_,_,rfl,rfl,(by show (0:Int)<2147483629;decide),?_⟩;generalize M:(c % 2147483647*48271+7919*(i+1)+12345) % 2147483629=z;have κ:0<=z:=by rw [<-M];exact Int.emod_nonneg _ Dd
    have υ:z<2147483629:=by rw [<-M];exact Int.emod_lt_of_pos _ Dd
    refine ⟨_,rfl,_,rfl,_,_,rfl,rfl,_,_,rfl,rfl,IntMulOk.of_left (PySem.intBits_le_64 Oo Oo),_,_,rfl,rfl,(by show (0:Int)<2147483587;decide),?_⟩;generalize hy:z*(z+40692) % 2147483587=y;have ο:0<=y:=by rw [<-hy];exact Int.emod_nonneg _ Dd
    have ν:y<2147483587:=by rw [<-hy];exact Int.emod_lt_of_pos _ Dd
    exact ⟨_,rfl,_,_,rfl,rfl,IntMulOk.of_left (PySem.intBits_le_64 Oo Oo),_,_,rfl,rfl,(by show (0:Int)<2147483563;decide),⟨_,rfl,_,_,rfl,rfl,R,k _ H3 (Int.emod_nonneg _ Oo) (Int.emod_lt_of_pos _ R) ⟨e,i+1,r,j,a,d,Oo,x,C,I,γ,l⟩ u⟩⟩
   ·refine ⟨_,rfl,mK a rfl ?_⟩;refine ZG d ⟨_,_,rfl,rfl,_,rfl,BS (λG=>?_) (λG=>?_)⟩
    ·rw [aC] at G;refine ⟨_,rfl,mK a rfl ?_⟩;refine ⟨_,rfl,mK a rfl ?_⟩;refine ⟨_,rfl,mK a rfl ?_⟩;refine ZG d ?_;rw [aC];refine ⟨_,_,rfl,rfl,G,?_⟩;have η:=Int.emod_nonneg (i+1) (b:=(e.length:Int)) Oo;have τ:=Int.emod_lt_of_pos (i+1) G;have Z:∃z,e[((i+1) % (e.length:Int)).toNat]?=some z:=⟨_,aB Oo⟩;obtain ⟨z,M⟩:=Z;have B:CP (e.map V.int) ((i+1) % (e.length:Int))=some (.int z):=by
      have:=cP (xs:=e.map V.int) (j:=((i+1) % (e.length:Int)).toNat) (v:=V.int z) (by rw [aL,M];rfl)
      rwa [Int.toNat_of_nonneg η] at this
     exact mK d B ⟨z,rfl,rfl⟩
    ·exact ⟨0,rfl,rfl⟩
end
structure II(n:Nat)(fs:List Fr):Prop where
 len:fs.length=n
 low:∀f∈fs,eS f
 pos:∀f∈fs,0<=f.1
 le:∀f∈fs,f.1<=f.2
 dn:∀f∈fs,f.2<=1000
 one:pG fs=(1,1)
def pool:List Str:=["a","ab","ways","onto","abc","sayer","ruler","b","prices","worthy","nones","zzzzzzzz"]
def rot(t:Nat):List Str:=pool.drop t++pool.take t
structure tY(t o F W:Nat)(fs:List Str)(ws:List (Str × List Fr)):Prop where
 ht:t<12
 ho:o=0\/o=2\/o=5
 hF:F=2\/F=3\/F=4
 hW:W=2\/W=3\/W=4
 hfs:fs=(rot t).take F
 hns:ws.map (·.1)=((rot t).drop o).take W
 sh:∀w∈ws,II F w.2
theorem AZ{t:Nat}(h:t<12):(rot t).length=12:=by
 unfold rot;rw [aT,List.length_drop,bW];show 12-t+min t 12=12;omega
theorem tY.lenF{t o F W:Nat}{fs:List Str}{ws:List (Str × List Fr)}(h:tY t o F W fs ws):fs.length=F:=by
 rw [h.hfs,bW,AZ h.ht];have:=h.hF;omega
theorem tY.lenW{t o F W:Nat}{fs:List Str}{ws:List (Str × List Fr)}(h:tY t o F W fs ws):ws.length=W:=by
 have e:=congrArg List.length h.hns;rw [aC,bW,List.length_drop,AZ h.ht] at e;have:=h.hW;have:=h.ho;omega
theorem cD.like(p L:Addr):oR p L (λH=>cD H p L) :=
 ⟨λD H1 H2 a b s F=>F.but s a b,λH1 H2 s F=>F.same s,λH' F=>F.lst,λH' D F h=>⟨F.ne h,F.neL h⟩⟩
theorem zX{H:Hp}:∀fs:List Int,aZ H (fs.map PyData.int) (fs.map V.int)
 | []=>aZ.nil
 | f::fs=>aZ.cons (cB.int f) (zX fs)
@[irreducible] def mE:Sp:=λvs H Q _=>∃(p L:Addr) (m:Nat),vs=[.ref p,.int (m:Int)]/\cD H p L/\0<m/\m<=4/\∀v fs H',cD H' p L->aO p H H'->cB H' (uH fs) v->II m fs->Q v H'
theorem DL{H:Hp}{Q:VK}{E:XK}{p L:Addr}{m:Nat}(F:cD H p L)(h0:0<m)(h1:m<=4)(k:∀v fs H',cD H' p L->aO p H H'->cB H' (uH fs) v->II m fs->Q v H'):mE [.ref p,.int (m:Int)] H Q E:=by unfold mE;exact ⟨p,L,m,rfl,F,h0,h1,k⟩
@[irreducible] def oB:Sp:=λvs H Q _=>∃(p L:Addr),vs=[.ref p]/\cD H p L/\∀v t o F W fs ws H',cD H' p L->aO p H H'->cB H' (UQ fs ws) v->tY t o F W fs ws->Q v H'
theorem GN{H:Hp}{Q:VK}{E:XK}{p L:Addr}(F:cD H p L)(k:∀v t o F W fs ws H',cD H' p L->aO p H H'->cB H' (UQ fs ws) v->tY t o F W fs ws->Q v H'):oB [.ref p] H Q E:=by unfold oB;exact ⟨p,L,rfl,F,k⟩
theorem kK:∀{ns:List Int},(∀n∈ns,0<=n)->0<=ns.sum
 | [],_=>Dd
 | n::ns,h=>by
  have:=kK λm a=>h m (aM _ a);have:=h n (by simp);rw [List.sum_cons];omega
theorem mX{n:Int}:∀{ns:List Int},(∀n∈ns,0<=n)->n∈ns->n<=ns.sum
 | m::ns,h,hn=>by
  have h1:=kK λm a=>h m (aM _ a);have b:=h m (by simp);rw [List.sum_cons];rcases bE.mp hn with rfl | hn
  ·omega
  ·have:=mX (λm a=>h m (aM _ a)) hn;omega
theorem QA{B:Nat}:∀{ns:List Int},(∀n∈ns,n<=B)->ns.sum<=B*ns.length
 | [],_=>by simp
 | n::ns,h=>by
  have h1:=QA λm a=>h m (aM _ a);have b:=h n (by simp);rw [List.sum_cons,bV];have:(B:Int)*((ns.length+1:Nat):Int)=B*ns.length+B:=by rw [Int.natCast_add,Int.mul_add];simp
  omega
theorem RJ{ns:List Int}(h0:∀n∈ns,0<=n)(h1:∀n∈ns,n<=200)(hp:∃n∈ns,0<n)(hl:ns.length<=4):0<ns.sum/\ns.sum<=800/\II ns.length (ns.map λn=>lw n ns.sum):=by
 obtain ⟨n,j,r⟩:=hp;have o:=mX h0 j;have l:=QA (B:=200) h1;have e:0<ns.sum:=Oo;refine ⟨e,Oo,by rw [aC],λf h=>?_,λf h=>?_,λf h=>?_,λf h=>?_,?_⟩
 ·obtain ⟨m,i,rfl⟩:=aS.mp h;exact iW e
 ·obtain ⟨m,i,rfl⟩:=aS.mp h;exact Int.ediv_nonneg (h0 m i) Oo
 ·obtain ⟨m,i,rfl⟩:=aS.mp h;have c:=mJ (n:=m) (d:=ns.sum);have p:=(iW (n:=m) e).pos;have b:=mX h0 i;refine Int.le_of_mul_le_mul_right (a:=ns.sum) ?_ e;rw [c,Int.mul_comm];exact Int.mul_le_mul_of_nonneg_left b Oo
 ·obtain ⟨m,i,rfl⟩:=aS.mp h;have:=(ZM (n:=m) e).1;omega
 ·rw [MH e,aBh e]
section
theorem aD7(F:lC K "_law_shares" "_law_shares" MR f fd)(T:nT K mg c)
  (FQ2:iP eV P w K mg base 1 "_law_draw" ["_law_feed_here","_law_many"] iT) (FQ7:iP eV P w K mg base 1 "_law_low" ["_law_n","_law_d"] oE):fJ P w K mg base eV 2 f fd ["_law_feed_here","_law_many"] mE:=by
 refine F.oky YA λvs H Q E h=>?_;unfold mE at h;obtain ⟨p,L,m,rfl,F,m0,m4,k⟩:=h;refine ⟨rfl,λcdv A ζ s I=>?_⟩;have bm:bits (m:Int)<=9000:=xB (n:=9000) (bK (show (m:Int).natAbs<2^6 by show (m:Int).natAbs<64;omega) (bI Dd Dd));refine ⟨_,(aQ (bQ (i:=2) YA.nd rfl (Or.inr rfl) (bU bL (eK (aP aK (aP aK (aP aK aI)))) (cG FQ2 (I.mono Dd) (aP (aJ 0) (aP aK aI))) (λ_ _=>rfl)))
  (aQ (bQ (i:=3) YA.nd rfl (Or.inr rfl) (gQ (eR.of (psc:=bJ MR) (N:=["_law_feed_here","_law_many","_law_most","_law_parts"]) (N':=["_law_k","_law_feed_here","_law_most"]) (js:=[0,2]) Kk rfl rfl rfl) (eN rfl T.b_range (aP (aJ 1) aI)) (λ_ _ _ _=>fB) (λ_ _ _ _=>(cF fU (cG FQ2 (I.mono Dd) (aP (aJ 1) (aP (aJ 2) aI))) (cG FQ2 (I.mono Dd) (aP (aJ 1) (aP aK aI)))))))
  (aQ (bQ (i:=3) YA.nd rfl (Or.inr rfl) (gQ (eR.of (psc:=bJ MR) (N:=["_law_feed_here","_law_many","_law_most","_law_parts"]) (N':=["_law_part","_law_most"]) (js:=[2]) Kk rfl rfl rfl) (gG (aJ 3)) (λ_ _ _ _=>fB) (λ_ _ _ _=>(cF lV (aJ 0) (cF eP (aJ 1) aK)))))
  (aQ (kJ (cF eP aK (cG FQ2 (I.mono Dd) (aP (aJ 0) (aP (aJ 2) aI)))) (nY (aJ 3) (cG FQ2 (I.mono Dd) (aP (aJ 0) (aP (aJ 1) aI))) jR))
  (bO (dL (iA dI (by rfl) T.b_tuple Kk (aP (gQ (eR.of (psc:=bJ MR) (N:=["_law_feed_here","_law_many","_law_most","_law_parts"]) (N':=["_law_part","_law_parts"]) (js:=[3]) Kk rfl rfl rfl) (gG (aJ 3)) (λ_ _ _ _=>fB) (λ_ _ _ _=>(cG FQ7 (I.mono Dd) (aP (aJ 0) (aP (gF (LJ K rfl) (by rfl) T.b_sum Kk (aP (aJ 1) aI)) aI))))) aI)))))))),?_⟩
 refine qF (by show 3<=64;decide) λq1 H1 ν e1 ψ=>⟨_,rfl,?_⟩;refine cZ (F.same ψ) Dd Kk λx H2 x0 x1 F2 υ=>?_;obtain ⟨v,β,j,_⟩:=uP (xs:=[V.int 6,V.int 6,V.int 200]) x0 x1;refine mK (υ.at (F.ne ν) e1) β ?_;have hv:∃M:Int,v=.int M/\0<M/\M<=200/\bits M<=9000:=by
  simp only [bE,List.not_mem_nil,or_false] at j;rcases j with rfl | rfl | rfl <;> exact ⟨_,rfl,Dd,Dd,Kk⟩
 obtain ⟨M,rfl,M0,M1,bM⟩:=hv;have S2:=ψ.but.trans υ;refine ⟨_,rfl,_,rfl,Oo,Oo,SY (cD.like p L) F2 (λ_ y _=>∃n,y=.int n/\0<=n) (λ_ _ _ _ _ h=>h) Oo (λi H' Q' G F' ρ J=>?_) (λD z H3 hD u F3 s3 ω κ=>?_)⟩
 ·refine ⟨_,rfl,_,rfl,?_⟩;refine cZ F' M0 bM λa H4 a0 a1 F4 U=>⟨_,rfl,?_⟩;refine cZ F4 Dd Kk λb H5 τ b1 F5 X=>⟨_,_,rfl,rfl,IntMulOk.of_left (PySem.intBits_le_64 Oo Oo),?_⟩;exact J _ H5 F5 (U.trans X) ⟨_,rfl,Int.mul_nonneg a0 τ⟩
 ·obtain ⟨ns,rfl,W⟩:=rB (P:=λ_ n=>0<=n) κ;have npD:=F2.ne hD;refine ⟨_,rfl,D,rfl,⟨_,fR.of u⟩,sT (λ_ y _=>∃n,y=.int n/\0<=n/\n<=200) (λ_ _ _ _ _ h=>h) (by rw [ω];omega) u (λi x H' Q' d ρ J=>?_) (λD2 z H4 r ο U R θ=>?_)⟩
  ·rw [aL] at d;obtain ⟨n,O,rfl⟩:=(show ∃n,ns[i]?=some n/\V.int n=x by
    cases q:ns[i]? with
    | none=>rw [q] at d;cases d
    | some n=>rw [q] at d;cases d;exact ⟨n,rfl,rfl⟩)
   refine ⟨_,rfl,_,rfl,_,_,rfl,rfl,_,_,rfl,rfl,(by show 0<M+1;omega),?_⟩;have c0:=Int.emod_nonneg n (b:=M+1) Oo;have c1:=Int.emod_lt_of_pos n (b:=M+1) Oo;exact J _ H' (bC.refl _) ⟨_,rfl,c0,Oo⟩
  ·obtain ⟨C,rfl,hm⟩:=rB (P:=λ_ n=>0<=n/\n<=200) θ;have F4:=F3.same U;have η:C.length=m:=by
    rw [aC] at R ω;rw [aC] at R;omega
   have B:=F3.ne r;refine ⟨_,rfl,_,rfl,?_⟩;refine cZ F4 M0 bM λa H5 a0 a1 F5 X=>⟨_,_,rfl,rfl,?_⟩;refine ⟨_,rfl,_,rfl,_,rfl,?_⟩;refine cZ F5 Oo bm λb H6 τ b1 F6 s6=>?_;have ξ:=s6.at B (X.at B ο);have hj:KI (C.map V.int).length b=some b.toNat:=by
    unfold KI;rw [if_pos τ,if_pos (by rw [aC];omega)]
   refine VH ξ hj λH7 S s7=>?_;rw [<-List.map_set] at S;have ι:=F3.neL r;have F7:=F6.but s7 B ι;have hb:b.toNat<C.length:=Oo;obtain ⟨hS,hS8,Z⟩:=RJ (ns:=C.set b.toNat (1+a))
    (λn W=>by
     rcases List.mem_or_eq_of_mem_set W with h | rfl
     ·obtain ⟨i,G⟩:=dE.mp h;exact (hm i n G).1
     ·omega)
    (λn W=>by
     rcases List.mem_or_eq_of_mem_set W with h | rfl
     ·obtain ⟨i,G⟩:=dE.mp h;exact (hm i n G).2
     ·omega)
    ⟨1+a,dE.mpr ⟨b.toNat,by rw [List.getElem?_set_self hb]⟩,Oo⟩ (by rw [List.length_set];omega)
   have lt:(C.set b.toNat (1+a)).length=m:=by rw [List.length_set];exact η
   generalize C.set b.toNat (1+a)=e at *;have SF:aO p H H7:=by
    refine aO.thru ?_ (((S2.trans s3).trans U.but).trans (X.trans s6)) s7;exact aO.free (p:=p) (S2.trans s3) F3.there r
   refine ⟨_,rfl,D2,rfl,⟨_,fR.of S⟩,sT (λi y H'=>∃n,e[i]?=some n/\cB H' (eY (lw n e.sum)) y) (λi y H1 H2 s ⟨n,α,δ⟩=>⟨n,α,δ.flat s (fN _)⟩) (by rw [aC];omega) S (λi x H' Q' d ρ J=>?_) (λD3 z H8 u γ φ μ ε=>?_)⟩
   ·rw [aL] at d;obtain ⟨n,O,rfl⟩:=(show ∃n,e[i]?=some n/\V.int n=x by
     cases q:e[i]? with
     | none=>rw [q] at d;cases d
     | some n=>rw [q] at d;cases d;exact ⟨n,rfl,rfl⟩)
    refine ⟨_,rfl,_,rfl,rsI (fR.of (ρ _ _ S)) ?_⟩;refine qT hS (bK (show e.sum.natAbs<2^10 by show e.sum.natAbs<1024;omega) (bI Dd Dd)) ?_;intro q9 H9 hq9 e9 s9;exact J _ H9 s9 ⟨n,O,eU e9⟩
   ·refine ⟨D3,z,rfl,.inl ⟨fR.of γ,λl hl=>?_⟩⟩;have Y:=bC.upd (o:=.tup z) hl;have χ:(upd H8 l (.tup z)) l=some (.tup z):=bH;generalize upd H8 l (.tup z)=H9 at Y χ;refine k _ (e.map λn=>lw n e.sum) H9 ((F7.same φ).same Y) (SF.trans (φ.trans Y).but) (cB.tup χ ?_) (lt ▸ Z);refine aZ.ofIdx (by rw [μ,aC,aC,aC]) λi y G=>?_;obtain ⟨n,α,δ⟩:=ε i y G;exact ⟨eY (lw n e.sum),by rw [aL,aL,α];rfl,δ.same Y⟩
theorem kS{x:Int}(h:0<=x):∃t:Nat,x=(t:Int):=⟨x.toNat,Oo⟩
theorem aD6(F:lC K "_law_trial" "_law_trial" VO f fd)(T:nT K mg c)
  (FQ2:iP eV P w K mg base 1 "_law_draw" ["_law_feed_here","_law_many"] iT) (FQ15:iP eV P w K mg base 2 "_law_shares" ["_law_feed_here","_law_many"] mE):fJ P w K mg base eV 3 f fd ["_law_feed_here"] oB:=by
 refine F.oky OA λvs H Q E h=>?_;unfold oB at h;obtain ⟨p,L,rfl,F,k⟩:=h;refine ⟨rfl,λcdv A outer s ω=>?_⟩;refine ⟨_,(aQ (bQ (i:=1) OA.nd rfl (Or.inl rfl) (eK (aP gH (aP gH (aP gH (aP gH (aP gH (aP gH (aP gH (aP gH (aP gH (aP gH (aP gH (aP gH aI))))))))))))))
  (aQ (bQ (i:=2) OA.nd rfl (Or.inl rfl) (cG FQ2 (ω.mono Dd) (aP (aJ 0) (aP aK aI))))
  (aQ (bQ (i:=1) OA.nd rfl (Or.inl rfl) (cF aBe (fS (oI K) (aJ 1) (gO (aJ 2)) gP) (fS (oI K) (aJ 1) gP (gO (aJ 2)))))
  (aQ (bQ (i:=3) OA.nd rfl (Or.inr rfl) (fS (oI K) (aJ 1) gP (gO (bU bL (eK (aP aK (aP aK (aP aK (aP aK aI))))) (cG FQ2 (ω.mono Dd) (aP (aJ 0) (aP aK aI))) (λ_ _=>rfl)))))
  (aQ (bQ (i:=4) OA.nd rfl (Or.inl rfl) (fS (oI K) (fS (oI K) (aJ 1) (gO (bU bL (eK (aP aK (aP aK (aP aK aI)))) (cG FQ2 (ω.mono Dd) (aP (aJ 0) (aP aK aI))) (λ_ _=>rfl))) gP) gP (gO (bU bL (eK (aP aK (aP aK (aP aK (aP aK aI))))) (cG FQ2 (ω.mono Dd) (aP (aJ 0) (aP aK aI))) (λ_ _=>rfl)))))
  (bO (dL (cW (aP (iA dI (by rfl) T.b_tuple Kk (aP (aJ 3) aI)) (aP (iA dI (by rfl) T.b_tuple Kk (aP (gQ (eR.of (psc:=bJ VO) (N:=["_law_feed_here","_law_pool","_law_turn","_law_faces","_law_ways"]) (N':=["_law_name","_law_feed_here","_law_faces"]) (js:=[0,3]) Kk rfl rfl rfl) (gG (aJ 4)) (λ_ _ _ _=>fB) (λ_ _ _ _=>(cW (aP (aJ 0) (aP (cG FQ15 (ω.mono Dd) (aP (aJ 1) (aP (gF (LL K) (by rfl) T.b_len Kk (aP (aJ 2) aI)) aI))) aI))))) aI)) aI)))))))))),?_⟩
 refine qF (by show 12<=64;decide) λq1 H1 χ e1 s1=>?_;have β:H1 q1=some (.lst (pool.map V.str)):=e1;refine ⟨_,rfl,?_⟩;refine cZ (F.same s1) Dd Kk λx H2 x0 x1 F2 s2=>?_;obtain ⟨t,rfl⟩:=kS x0;have e2:=s2.at (F.ne χ) β;have S2:aO p H H2:=s1.but.trans s2;refine ⟨_,rfl,_,rfl,_,rfl,?_⟩;refine slL e2 (ys:=(pool.drop t).map V.str) (by rw [BX,List.map_drop]) λq3 H3 hq3 e3 s3=>⟨_,rfl,_,rfl,_,rfl,?_⟩;refine slL (s3 _ _ e2) (ys:=(pool.take t).map V.str) (by rw [uM,List.map_take]) λq4 H4 hq4 e4 ν=>?_;have hp12:pool.length=12:=rfl;refine aEo (ν _ _ e3) e4 (by rw [aC,aC,List.length_drop,bW];omega) λq5 H5 hq5 e5 s5=>?_;have δ:H5 q5=some (.lst ((rot t).map V.str)):=by rw [e5];unfold rot;rw [bR]
 have ht:t<12:=Oo;have S5:aO p H H5:=S2.trans ((s3.trans ν).trans s5).but;have F5:=((F2.same s3).same ν).same s5;have n5:q5≠p:=((F2.same s3).same ν).ne hq5;clear e1 β e2 e3 e4 e5 s3 ν s5 hq3 hq4 χ s1 s2;refine ⟨_,rfl,?_⟩;refine qF (by show 4<=64;decide) λq6 H6 α e6 s6=>⟨_,rfl,?_⟩;refine cZ (F5.same s6) Dd Kk λy H7 y0 y1 F7 s7=>?_;obtain ⟨v,d,a,_⟩:=uP (xs:=[V.int 2,V.int 2,V.int 3,V.int 4]) y0 y1;refine mK (s7.at (F5.ne α) e6) d ?_;have j:∃n:Nat,v=.int (n:Int)/\(n=2\/n=3\/n=4):=by
  simp only [bE,List.not_mem_nil,or_false] at a;rcases a with rfl | rfl | rfl | rfl
  ·exact ⟨2,rfl,Dd⟩
  ·exact ⟨2,rfl,Dd⟩
  ·exact ⟨3,rfl,Dd⟩
  ·exact ⟨4,rfl,Dd⟩
 obtain ⟨e,rfl,hF⟩:=j;have e7:=s7.at n5 (s6 _ _ δ);refine ⟨_,rfl,?_⟩;refine slL e7 (ys:=((rot t).take e).map V.str) (by rw [uM,List.map_take]) λq8 H8 hq8 e8 s8=>?_;have S8:aO p H H8:=((S5.trans s6.but).trans s7).trans s8.but;have F8:=F7.same s8;have n8:q8≠p:=F7.ne hq8;have e8p:=s8 _ _ e7;clear e6 α s6 s7 d a e7 δ;refine ⟨_,rfl,?_⟩;refine qF (by show 3<=64;decide) λq9 H9 ε e9 s9=>⟨_,rfl,?_⟩;refine cZ (F8.same s9) Dd Kk λz H10 z0 z1 F10 B=>?_;obtain ⟨v,d,a,_⟩:=uP (xs:=[V.int 0,V.int 2,V.int 5]) z0 z1;refine mK (B.at (F8.ne ε) e9) d ?_;have j:∃n:Nat,v=.int (n:Int)/\(n=0\/n=2\/n=5):=by
  simp only [bE,List.not_mem_nil,or_false] at a;rcases a with rfl | rfl | rfl
  ·exact ⟨0,rfl,Dd⟩
  ·exact ⟨2,rfl,Dd⟩
  ·exact ⟨5,rfl,Dd⟩
 obtain ⟨o,rfl,ho⟩:=j;refine ⟨_,rfl,?_⟩;refine slL (B.at n5 (s9 _ _ e8p)) (ys:=((rot t).drop o).map V.str) (by rw [BX,List.map_drop]) λq11 H11 ψ ρ S=>?_;have F11:=F10.same S;have n11:q11≠p:=F10.ne ψ;have I:=S _ _ (B.at n8 (s9 _ _ e8));have S11:aO p H H11:=((S8.trans s9.but).trans B).trans S.but;clear e9 ε s9 B d a;refine qF (by show 4<=64;decide) λq12 H12 J ξ C=>⟨_,rfl,?_⟩;refine cZ (F11.same C) Dd Kk λy H13 y0 y1 F13 r=>?_;obtain ⟨v,d,a,_⟩:=uP (xs:=[V.int 2,V.int 2,V.int 3,V.int 4]) y0 y1;refine mK (r.at (F11.ne J) ξ) d ?_;have j:∃n:Nat,v=.int (n:Int)/\(n=2\/n=3\/n=4):=by
  simp only [bE,List.not_mem_nil,or_false] at a;rcases a with rfl | rfl | rfl | rfl
  ·exact ⟨2,rfl,Dd⟩
  ·exact ⟨2,rfl,Dd⟩
  ·exact ⟨3,rfl,Dd⟩
  ·exact ⟨4,rfl,Dd⟩
 obtain ⟨m,rfl,hW⟩:=j;refine ⟨_,rfl,?_⟩;refine slL (r.at n11 (C _ _ ρ)) (ys:=(((rot t).drop o).take m).map V.str) (by rw [uM,List.map_take]) λο H14 φ γ O=>?_;have F14:=F13.same O;have n14:ο≠p:=F13.ne φ;have M:=O _ _ (r.at n8 (C _ _ I));have S14:aO p H H14:=((S11.trans C.but).trans r).trans O.but;clear ξ J C r d a ρ I;have lr:=AZ ht;refine ⟨_,rfl,q8,_,rfl,.inl ⟨fR.of M,λl U=>?_⟩⟩;have W:=bC.upd (o:=.tup (((rot t).take e).map V.str)) U;have el:(upd H14 l (.tup (((rot t).take e).map V.str))) l=some (.tup (((rot t).take e).map V.str)):=bH;generalize upd H14 l (.tup (((rot t).take e).map V.str))=H15 at W el;have F15:=F14.same W;refine ⟨_,rfl,ο,rfl,⟨_,fR.of (W _ _ γ)⟩,SZ (cD.like p L) F15 (λi y H'=>∃w:Str × List Fr,(((rot t).drop o).take m)[i]?=some w.1/\II e w.2/\cB H' (wD w) y) (λi y H1 H2 s ⟨w,Y,Z,ζ⟩=>⟨w,Y,Z,ζ.flat s (IP _)⟩) (by rw [aC,bW];omega) n14 (W _ _ γ) (λi x H' Q' η F' s' k'=>?_) (λD ys H16 hD υ F16 X κ μ=>?_)⟩
 ·rw [aL] at η;obtain ⟨nm,hn',rfl⟩:=(show ∃n,(((rot t).drop o).take m)[i]?=some n/\V.str n=x by
   cases q:(((rot t).drop o).take m)[i]? with
   | none=>rw [q] at η;cases η
   | some n=>rw [q] at η;cases η;exact ⟨n,rfl,rfl⟩)
  refine ⟨_,rfl,_,rfl,_,rfl,ZG (s'.at n8 (W _ _ M)) ?_⟩;have lf:(((rot t).take e).map V.str).length=e:=by rw [aC,bW];omega
  rw [lf];exact DL F' Oo Oo λv fs H17 F17 s17 r17 τ=>lI (by show 2<=64;decide) λq18 H18 ι R b=>k' _ H18 (F17.same b) (s17.trans b.but) ⟨(nm,fs),hn',τ,cB.tup R (aZ.cons (cB.str _) (aZ.cons (r17.same b) aZ.nil))⟩
 ·refine ⟨D,ys,rfl,.inl ⟨fR.of υ,λl2 hl2=>?_⟩⟩;have u:=bC.upd (o:=.tup ys) hl2;have θ:(upd H16 l2 (.tup ys)) l2=some (.tup ys):=bH;generalize upd H16 l2 (.tup ys)=H17 at u θ;have elf:H17 l=some (.tup (((rot t).take e).map V.str)):=u _ _ (X.at (F14.ne U) el);refine lI (by show 2<=64;decide) λq18 H18 ι R b=>?_;have hws:∀(n:Nat) (ys:List V),ys.length=n->(∀(i:Nat) y,ys[i]?=some y->∃w:Str × List Fr,(((rot t).drop o).take m)[i]?=some w.1/\II e w.2/\cB H16 (wD w) y) ->
    ∃G:List (Str × List Fr),G.length=n/\aZ H16 (G.map wD) ys/\(∀(i:Nat) w,G[i]?=some w->(((rot t).drop o).take m)[i]?=some w.1)/\∀w∈G,II e w.2:=by
   generalize ((rot t).drop o).take m=nl;intro n
   induction n generalizing nl with
   | zero =>
    intro ys U _;cases ys with
    | nil=>exact ⟨[],rfl,aZ.nil,λi w h=>by simp at h,λw h=>by cases h⟩
    | cons _ _=>simp at U
   | succ n ih =>
    intro ys U h;cases ys with
    | nil=>simp at U
    | cons y ys =>
     obtain ⟨w,Y,Z,ζ⟩:=h 0 y rfl;obtain ⟨G,i1,i2,i3,i4⟩:=ih nl.tail ys (by simpa using U) λi z hz=>by
      obtain ⟨w,Y,Z,ζ⟩:=h (i+1) z (by simpa using hz);exact ⟨w,by rw [List.getElem?_tail];exact Y,Z,ζ⟩
     refine ⟨w::G,by simp [i1],aZ.cons ζ i2,λi v j=>?_,λv j=>?_⟩
     ·cases i with
      | zero=>cases (show w=v by simpa using j);exact Y
      | succ i =>
       have:=i3 i v (by simpa using j);rw [List.getElem?_tail] at this;exact this
     ·rcases bE.mp j with rfl | j
      ·exact Z
      ·exact i4 v j
  obtain ⟨G,w1,w2,w3,w4⟩:=hws _ ys rfl μ;have lnl:(((rot t).drop o).take m).length=m:=by
   rw [bW,List.length_drop,lr];omega
  have lws:G.length=m:=by rw [w1,κ,aC,lnl]
  refine k _ t o e m ((rot t).take e) G H18 ((F16.same u).same b) ?_ ?_ ⟨ht,ho,hF,hW,rfl,?_,w4⟩
  ·exact (S14.trans W.but).trans (X.trans (u.trans b).but)
  ·exact cB.tup R (aZ.cons (cB.tup (b _ _ elf) (zW _)) (aZ.cons (cB.tup (b _ _ θ) (w2.same (u.trans b))) aZ.nil))
  ·apply List.ext_getElem?;intro i;rw [aL];cases q:G[i]? with
   | none =>
    have:m<=i:=by rw [<-lws];exact List.getElem?_eq_none_iff.mp q
    rw [dF Oo];rfl
   | some w=>rw [w3 i w q];rfl
end
abbrev aAE:Stmt:=(top 1)
theorem NZ:cT ["number","above_nought","divided","divisor","rest"] ["number","above_nought"] (bJ aAE):=⟨rfl,rfl,rfl,Kk,rfl,Kk,Kk⟩
abbrev aAz:Stmt:=(top 3)
theorem NY:cT ["one","other","common","one_part","other_part","upper","left"] ["one","other"] (bJ aAz):=⟨rfl,rfl,rfl,Kk,rfl,Kk,Kk⟩
abbrev aAB:Stmt:=(top 4)
theorem aEv:cT ["one","other"] ["one","other"] (bJ aAB):=⟨rfl,rfl,rfl,Kk,rfl,Kk,Kk⟩
abbrev aAv:Stmt:=(top 5)
theorem aBI:cT ["one","other","first","second"] ["one","other"] (bJ aAv):=⟨rfl,rfl,rfl,Kk,rfl,Kk,Kk⟩
abbrev aAu:Stmt:=(top 6)
theorem XW:cT ["some","whole","one"] ["some"] (bJ aAu):=⟨rfl,rfl,rfl,Kk,rfl,Kk,Kk⟩
abbrev aAt:Stmt:=(top 10)
theorem aEq:cT ["trial","way"] ["trial","way"] (bJ aAt):=⟨rfl,rfl,rfl,Kk,rfl,Kk,Kk⟩
abbrev aAA:Stmt:=(top 13)
theorem aEt:cT ["counts","face"] ["counts","face"] (bJ aAA):=⟨rfl,rfl,rfl,Kk,rfl,Kk,Kk⟩
theorem qE.of{H H1:Hp}{Q:VK}{f:Fr}(s:bC H H1)(q:qE H Q f):qE H1 Q f:=λp H' b e a=>q p H' (s.free b) e (s.trans a)
@[irreducible] def mD(K:PySem.W.Frag):Sp:=λvs H Q _=>∃x y f g,vs=[x,y]/\iO K H f x/\iO K H g y/\eS f/\eS g/\jW 4000 f/\jW 4000 g/\qE H Q (xO f g)
theorem vC{K:PySem.W.Frag}{H:Hp}{Q:VK}{E:XK}{x y:V}{f g:Fr}(h1:iO K H f x)(h2:iO K H g y)(l1:eS f)(l2:eS g)(z1:jW 4000 f)(z2:jW 4000 g)(q:qE H Q (xO f g)):mD K [x,y] H Q E:=by unfold mD;exact ⟨x,y,f,g,rfl,h1,h2,l1,l2,z1,z2,q⟩
def NH(f:Fr):Fr:=(-f.1,f.2)
theorem vU{f:Fr}(h:eS f):eS (NH f):=⟨h.pos,by show Int.gcd (-f.1) f.2=1;rw [Int.neg_gcd];exact h.low⟩
@[irreducible] def oG(K:PySem.W.Frag):Sp:=λvs H Q _=>∃x y f g,vs=[x,y]/\iO K H f x/\iO K H g y/\eS f/\eS g/\jW 4000 f/\jW 4000 g/\qE H Q (pK f (NH g))
theorem GR{K:PySem.W.Frag}{H:Hp}{Q:VK}{E:XK}{x y:V}{f g:Fr}(h1:iO K H f x)(h2:iO K H g y)(l1:eS f)(l2:eS g)(z1:jW 4000 f)(z2:jW 4000 g)(q:qE H Q (pK f (NH g))):oG K [x,y] H Q E:=by unfold oG;exact ⟨x,y,f,g,rfl,h1,h2,l1,l2,z1,z2,q⟩
theorem aD5(F:lC K "common_divisor" "common_divisor" aAE f fd)(T:nT K mg c):fJ P w K mg base eV 1 f fd ["number","above_nought"] yH:=by
 refine F.oky NZ λC H Q E h=>?_;unfold yH at h;obtain ⟨n,d,rfl,hd,q⟩:=h;refine ⟨rfl,λy A o s D=>?_⟩;refine ⟨_,(aQ (bQ (i:=2) NZ.nd rfl (Or.inl rfl) (aJ 0))
  (aQ (bQ (i:=3) NZ.nd rfl (Or.inl rfl) (aJ 1))
  (aQ (qH PassesOwn.never (eJ JV (aJ 3) aK (nomark _)) (aQ (bQ (i:=4) NZ.nd rfl (Or.inl rfl) (cF lV (aJ 2) (aJ 3)))
  (aQ (bQ (i:=2) NZ.nd rfl (Or.inl rfl) (aJ 3))
  (bO (bQ (i:=3) NZ.nd rfl (Or.inl rfl) (aJ 4))))))
  (bO (dL (aJ 2)))))),?_⟩
 refine ⟨_,rfl,_,rfl,?_⟩;refine uC (λm σ H'=>∃(a b:Int) (c:Option V),σ=[some (.int n),some (.int d),some (.int a),some (.int b),c]/\0<=b/\Int.gcd a b=Int.gcd n d/\(b=0->0<a)/\H'=H/\m=b.toNat)
  (λσ H'=>∃(c:Option V),σ=[some (.int n),some (.int d),some (.int (Int.gcd n d)),some (.int 0),c]/\H'=H)
  _ ⟨n,d,none,rfl,Oo,rfl,Oo,rfl,rfl⟩ ?_ ?_
 ·rintro m σ H2 ⟨a,b,c,rfl,u,r,z,rfl,rfl⟩;refine ⟨_,rfl,rfl,_,rfl,ZO (λe=>?_) (λe=>?_)⟩
  ·have j:0<b:=by
    rcases Int.lt_or_eq_of_le u with h | h
    ·exact h
    ·exact absurd (congrArg V.int h.symm) e
   refine ⟨_,rfl,_,rfl,_,_,rfl,rfl,j,_,rfl,_,rfl,?_⟩;have l:=Int.emod_lt_of_pos a j;have x:=Int.emod_nonneg a (b:=b) Oo;exact ⟨_,Oo,b,a % b,_,rfl,x,by rw [ES,r],λ_=>j,rfl,rfl⟩
  ·have p:b=0:=by injection e
   subst p;have B:=z rfl;have l:=KQ B;rw [r] at l;rw [l];exact ⟨c,rfl,rfl⟩
 ·rintro σ H2 ⟨c,rfl,rfl⟩;exact ⟨_,rfl,q⟩
theorem aDW(F:lC K "plus" "plus" aAz f fd)(T:nT K mg c)
  (FQ17:iP eV P w K mg base 1 "common_divisor" ["number","above_nought"] yH):fJ P w K mg base eV 2 f fd ["one","other"] (lO K):=by
 refine F.oky NY λβ H Q E h=>?_;unfold lO at h;obtain ⟨x,y,⟨a,b⟩,⟨c,d⟩,rfl,O,R,I,N,Y,W,q⟩:=h;refine ⟨rfl,λU A C s L=>?_⟩;obtain ⟨γ,rfl,o⟩:=O;obtain ⟨δ,rfl,l⟩:=R;have α:0<b:=I.pos;have B:0<d:=N.pos;obtain ⟨u,M⟩:=Y;obtain ⟨D,r⟩:=W;dsimp only at u M D r o l;have e:=iH (n:=b) B;have G:=wM (n:=b) B r;have j:=pT M e;have m:=pT r e;have u1:=AM u m;have Z:=AM D j;have z:=iH (n:=a*(d/(Int.gcd b d:Int))+c*(b/(Int.gcd b d:Int))) e;have J:=wM (n:=a*(d/(Int.gcd b d:Int))+c*(b/(Int.gcd b d:Int))) e G;have eq:pK (a,b) (c,d)=_:=WI I N;refine ⟨_,(aQ (bQ (i:=2) NY.nd rfl (Or.inl rfl) (cG FQ17 (L.mono Dd) (aP (bU bL (aJ 0) aK (λ_ _=>rfl)) (aP (bU bL (aJ 1) aK (λ_ _=>rfl)) aI))))
  (aQ (bQ (i:=3) NY.nd rfl (Or.inl rfl) (cF gT (bU bL (aJ 0) aK (λ_ _=>rfl)) (aJ 2)))
  (aQ (bQ (i:=4) NY.nd rfl (Or.inl rfl) (cF gT (bU bL (aJ 1) aK (λ_ _=>rfl)) (aJ 2)))
  (aQ (bQ (i:=5) NY.nd rfl (Or.inl rfl) (cF eP (cF fU (bU bL (aJ 0) aK (λ_ _=>rfl)) (aJ 4)) (cF fU (bU bL (aJ 1) aK (λ_ _=>rfl)) (aJ 3))))
  (aQ (bQ (i:=6) NY.nd rfl (Or.inl rfl) (cG FQ17 (L.mono Dd) (aP (aJ 5) (aP (aJ 2) aI))))
  (bO (dL (cW (aP (cF gT (aJ 5) (aJ 6)) (aP (cF fU (aJ 3) (cF gT (bU bL (aJ 1) aK (λ_ _=>rfl)) (aJ 6))) aI)))))))))),?_⟩
 refine ⟨_,rfl,sN o rfl ?_⟩;refine ⟨_,rfl,sN l rfl ?_⟩;refine uF B ⟨_,rfl,sN o rfl ?_⟩;refine ⟨_,rfl,_,_,rfl,rfl,rF e (jL G),⟨_,rfl,sN l rfl ?_⟩⟩;refine ⟨_,rfl,_,_,rfl,rfl,rF e (jL G),⟨_,rfl,sN o rfl ?_⟩⟩;refine ⟨_,rfl,_,_,rfl,rfl,xP u m,⟨_,rfl,sN l rfl ?_⟩⟩;refine ⟨_,rfl,_,_,rfl,rfl,xP D j,_,_,rfl,rfl,⟨_,rfl,_,rfl,uF e ?_⟩⟩;refine ⟨_,rfl,_,rfl,_,_,rfl,rfl,rF z (jL J),⟨_,rfl,_,rfl,sN l rfl ?_⟩⟩;refine ⟨_,rfl,_,_,rfl,rfl,rF z (jL J),_,_,rfl,rfl,xP j (pT r z),?_⟩;refine lI (by show 2<=64;decide) λp H3 S e3 X=>q p H3 S ?_ X;rw [eq];exact e3
theorem aDQ(F:lC K "times" "times" aAv f fd)(T:nT K mg c)
  (FQ17:iP eV P w K mg base 1 "common_divisor" ["number","above_nought"] yH):fJ P w K mg base eV 2 f fd ["one","other"] (mD K):=by
 refine F.oky aBI λX H Q E h=>?_;unfold mD at h;obtain ⟨x,y,⟨a,b⟩,⟨m,d⟩,rfl,O,R,D,N,⟨G,C⟩,⟨L,z⟩,q⟩:=h;refine ⟨rfl,λU A B s M=>?_⟩;obtain ⟨Y,rfl,j⟩:=O;obtain ⟨Z,rfl,e⟩:=R;have r:0<b:=D.pos;have u:0<d:=N.pos;dsimp only at G C L z j e;have l:=iH (n:=a) u;have o:=iH (n:=m) r;have J:=wM (n:=a) u z;have I:=wM (n:=m) r C;have eq:xO (a,b) (m,d)=_:=PU D N;refine ⟨_,(aQ (bQ (i:=2) aBI.nd rfl (Or.inl rfl) (cG FQ17 (M.mono Dd) (aP (bU bL (aJ 0) aK (λ_ _=>rfl)) (aP (bU bL (aJ 1) aK (λ_ _=>rfl)) aI))))
  (aQ (bQ (i:=3) aBI.nd rfl (Or.inl rfl) (cG FQ17 (M.mono Dd) (aP (bU bL (aJ 1) aK (λ_ _=>rfl)) (aP (bU bL (aJ 0) aK (λ_ _=>rfl)) aI))))
  (bO (dL (cW (aP (cF fU (cF gT (bU bL (aJ 0) aK (λ_ _=>rfl)) (aJ 2)) (cF gT (bU bL (aJ 1) aK (λ_ _=>rfl)) (aJ 3))) (aP (cF fU (cF gT (bU bL (aJ 0) aK (λ_ _=>rfl)) (aJ 3)) (cF gT (bU bL (aJ 1) aK (λ_ _=>rfl)) (aJ 2))) aI))))))),?_⟩
 refine ⟨_,rfl,sN j rfl ?_⟩;refine ⟨_,rfl,sN e rfl ?_⟩;refine uF u ⟨_,rfl,sN e rfl ?_⟩;refine ⟨_,rfl,sN j rfl ?_⟩;refine uF r ⟨_,rfl,sN j rfl ?_⟩;refine ⟨_,rfl,_,_,rfl,rfl,rF l (jL J),⟨_,rfl,sN e rfl ?_⟩⟩;refine ⟨_,rfl,_,_,rfl,rfl,rF o (jL I),_,_,rfl,rfl,xP (pT G l) (pT L o),⟨_,rfl,sN j rfl ?_⟩⟩;refine ⟨_,rfl,_,_,rfl,rfl,rF o (jL I),⟨_,rfl,sN e rfl ?_⟩⟩;refine ⟨_,rfl,_,_,rfl,rfl,rF l (jL J),_,_,rfl,rfl,xP (pT C o) (pT z l),?_⟩;refine lI (by show 2<=64;decide) λp H3 S e3 W=>q p H3 S ?_ W;rw [eq];exact e3
theorem aD0(F:lC K "less" "less" aAB f fd)(T:nT K mg c)
  (FQ26:iP eV P w K mg base 2 "plus" ["one","other"] (lO K)):fJ P w K mg base eV 3 f fd ["one","other"] (oG K):=by
 refine F.oky aEv λz H Q E h=>?_;unfold oG at h;obtain ⟨x,y,f,g,rfl,j,l,i,o,r,d,q⟩:=h;refine ⟨rfl,λm A a s n=>?_⟩;obtain ⟨B,rfl,b⟩:=l;refine ⟨_,(bO (dL (cG FQ26 (n.mono Dd) (aP (aJ 0) (aP (cW (aP (CS uX (bU bL (aJ 1) aK (λ_ _=>rfl))) (aP (bU bL (aJ 1) aK (λ_ _=>rfl)) aI))) aI))))),?_⟩;refine ⟨_,rfl,_,rfl,sN b rfl ?_⟩;refine ⟨_,rfl,⟨_,rfl,sN b rfl ?_⟩⟩;refine lI (by show 2<=64;decide) λp H3 u e3 e=>oV (iO.same e j) (iO.new (f:=NH g) e3) i (vU o) r ⟨by show (-g.1).natAbs<_;rw [Int.natAbs_neg];exact d.1,d.2⟩ ?_;exact q.of e
theorem UN{N B:Nat}{f:Fr}(h:Fn N B f)(hN:0<N)(hz:N<2^3000)(hB:B<=2^500):jW 4000 f:=by
 obtain ⟨d,a⟩:=h.num hN;refine ⟨?_,bA a (bK hz (bI Dd Dd))⟩;have b:B*N<=2^500*2^3000:=Nat.mul_le_mul hB (Nat.le_of_lt hz);have c:(2:Nat)^500*2^3000<2^4000:=by rw [<-Nat.pow_add];exact Nat.pow_lt_pow_right Dd Dd
 omega
structure UG(fs:List Fr):Prop where
 low:∀f∈fs,eS f
 sz:∀f∈fs,jW 4000 f
 part:∀i,eS (pG (fs.take i))/\jW 4000 (pG (fs.take i))
structure aBX(K:PySem.W.Frag)(H:Hp)(fs:List Fr)(xs:List V):Prop where
 len:xs.length=fs.length
 at_:∀(i:Nat) (x:V),xs[i]?=some x->∃f,fs[i]?=some f/\iO K H f x
@[irreducible] def oC(K:PySem.W.Frag):Sp:=λvs H Q _=>∃a xs fs,vs=[.ref a]/\H a=some (.lst xs)/\aBX K H fs xs/\UG fs/\∀v H',bC H H'->cB H' (eY (pG fs)) v->Q v H'
theorem pW{K:PySem.W.Frag}{H:Hp}{Q:VK}{E:XK}{a:Addr}{xs:List V}{fs:List Fr}(h:H a=some (.lst xs))(r:aBX K H fs xs)(ok:UG fs)(q:∀v H',bC H H'->cB H' (eY (pG fs)) v->Q v H'):oC K [.ref a] H Q E:=by unfold oC;exact ⟨a,xs,fs,rfl,h,r,ok,q⟩
section
theorem aDP(F:lC K "total" "total" aAu f fd)(T:nT K mg c)
  (FQ26:iP eV P w K mg base 2 "plus" ["one","other"] (lO K)):fJ P w K mg base eV 3 f fd ["some"] (oC K):=by
 refine F.oky XW λm H Q E h=>?_;unfold oC at h;obtain ⟨a,m,fs,rfl,u,n,ok,q⟩:=h;refine ⟨rfl,λB A l s J=>?_⟩;have d:=n.len;refine ⟨_,(aQ (bQ (i:=1) XW.nd rfl (Or.inl rfl) (cW (aP aK (aP aK aI))))
  (aQ (fC PassesOwn.never rfl (gG (aJ 0)) (cL (i:=2) XW.nd rfl (Or.inl rfl)) (bO (bQ (i:=1) XW.nd rfl (Or.inl rfl) (cG FQ26 (J.mono Dd) (aP (aJ 1) (aP (aJ 2) aI))))))
  (bO (dL (aJ 1))))),?_⟩
 refine lI (by show 2<=64;decide) λO H0 D G s0=>⟨_,rfl,a,rfl,⟨_,fR.of (s0 _ _ u)⟩,jV (xs:=m) (λi σ H'=>∃w e,σ=[some (.ref a),some w,e]/\bC H H'/\cB H' (eY (pG (fs.take i))) w) ⟨_,_,rfl,s0,eU G⟩ (λi σ H' _ p=>?_) ?_ ?_⟩
 ·obtain ⟨w,e,rfl,b,_⟩:=p;exact fR.of (b _ _ u)
 ·rintro i x σ H1 M ⟨w,e,rfl,b,j⟩;obtain ⟨g,o,L⟩:=n.at_ i x M;have r:=aV o;obtain ⟨I,C⟩:=ok.part i;refine ⟨_,rfl,_,rfl,oV (iO.of j) (iO.same b L) I (ok.low _ r) C (ok.sz _ r) ?_⟩;intro R H2 N z y;refine ⟨_,_,rfl,b.trans y,?_⟩;rw [fI o,oU];exact eU z
 ·rintro σ H1 ⟨w,e,rfl,b,j⟩;refine ⟨_,rfl,?_⟩;rw [d,cE] at j;exact q _ H1 b j
end
abbrev gK(cs:List Nat):PyData:=.tuple (cs.map λ(n:Nat)=>PyData.int (n:Int))
theorem wU:∀cs:List Nat,cV (cs.map λ(n:Nat)=>PyData.int (n:Int))=true
 | []=>rfl
 | f::fs=>by show (dG (.int f)&&cV (fs.map λ(n:Nat)=>PyData.int (n:Int)))=true;rw [wU fs];rfl
theorem fV(cs:List Nat):dG (gK cs)=true:=wU cs
def uA(K:PySem.W.Frag)(H:Hp)(f:Fr)(x:V):Prop:=cB H (eY f) x\/∃a,x=.ref a/\oP K a [f.1,f.2]=true
theorem uA.v{K:PySem.W.Frag}{H:Hp}{f:Fr}{x:V}(h:uA K H f x):iO K H f x:=by
 rcases h with h | ⟨a,e,h⟩
 ·exact iO.of h
 ·exact ⟨a,e,vA h⟩
theorem uA.t{K:PySem.W.Frag}{H H':Hp}{f:Fr}{x:V}(s:dJ H H')(h:uA K H f x):uA K H' f x:=by
 rcases h with h | h
 ·exact .inl (h.flat s (fN f))
 ·exact .inr h
theorem uA.same{K:PySem.W.Frag}{H H':Hp}{f:Fr}{x:V}(s:bC H H')(h:uA K H f x):uA K H' f x:=h.t s.t
theorem aBB{K:PySem.W.Frag}{H:Hp}{a:Addr}{m n:Int}(h:oP K a [m,n]=true):iO K H (m,n) (.ref a):=⟨a,rfl,vA h⟩
theorem IV{H:Hp}{fs:List Str}{ws:List (Str × List Fr)}{v:V}(h:cB H (UQ fs ws) v):∃a af aw xf xw,v=.ref a/\H a=some (.tup [.ref af,.ref aw])/\H af=some (.tup xf)/\H aw=some (.tup xw)/\aZ H (fs.map .str) xf/\aZ H (ws.map wD) xw:=by
 obtain ⟨a,m,rfl,i,e⟩:=dX h;obtain ⟨x,y,rfl,j,c⟩:=fW e;obtain ⟨af,xf,rfl,f,b⟩:=dX j;obtain ⟨aw,xw,rfl,d,l⟩:=dX c;exact ⟨a,af,aw,xf,xw,rfl,i,f,d,b,l⟩
@[irreducible] def vB:Sp:=λvs H Q _=>∃v fs ws w,∃i:Nat,vs=[v,.int (i:Int)]/\cB H (UQ fs ws) v/\ws[i]?=some w/\∀x,cB H (uH w.2) x->Q x H
theorem QC{H:Hp}{Q:VK}{E:XK}{v:V}{fs:List Str}{ws:List (Str × List Fr)}{w:Str × List Fr}{i:Nat}(h:cB H (UQ fs ws) v)(hw:ws[i]?=some w)(q:∀x,cB H (uH w.2) x->Q x H):vB [v,.int (i:Int)] H Q E:=by unfold vB;exact ⟨v,fs,ws,w,i,rfl,h,hw,q⟩
structure BOk(B:Nat)(fs:List Fr):Prop where
 low:∀f∈fs,eS f
 up:∀f∈fs,f.1.natAbs<=2^B
 dn:∀f∈fs,f.2.natAbs<=2^B
section
theorem aDO(F:lC K "way_shares" "way_shares" aAt f fd)(T:nT K mg c):fJ P w K mg base eV 1 f fd ["trial","way"] vB:=by
 refine F.oky aEq λM H Q E h=>?_;unfold vB at h;obtain ⟨v,fs,S,w,i,rfl,h,e,q⟩:=h;refine ⟨rfl,λr A d s O=>?_⟩;obtain ⟨a,U,R,J,D,rfl,x,N,B,L,m⟩:=IV h;obtain ⟨u,o,p⟩:=dY m e;obtain ⟨b,I,rfl,n,l⟩:=dX p;obtain ⟨y,z,rfl,G,C⟩:=fW l;refine ⟨_,(bO (dL (bU bL (bU bL (bU bL (aJ 0) aK (λ_ _=>rfl)) (aJ 1) (λ_ _=>rfl)) aK (λ_ _=>rfl)))),?_⟩;refine ⟨_,rfl,jG x rfl ?_⟩;refine ⟨_,rfl,jG B (cP (j:=i) o) ?_⟩;exact jG n rfl (q _ C)
end
abbrev mB(n:Nat):V:=.int (n:Int)
theorem FM{H:Hp}:∀cs:List Nat,aZ H (cs.map λ(n:Nat)=>PyData.int (n:Int)) (cs.map mB)
 | []=>aZ.nil
 | n::cs=>aZ.cons (cB.int _) (FM cs)
theorem tE{H:Hp}:∀{cs:List Nat}{xs:List V},aZ H (cs.map λ(n:Nat)=>PyData.int (n:Int)) xs->xs=cs.map mB
 | [],xs,h=>h
 | n::cs,xs,h=>by
  unfold aZ at h;obtain ⟨x,xs',rfl,hx,hr⟩:=(show ∃x xs',xs=x::xs'/\cB H (PyData.int (n:Int)) x/\aZ H (cs.map λ(n:Nat)=>PyData.int (n:Int)) xs' from h);rw [tE hr];cases (show x=V.int (n:Int) from hx)
  rfl
theorem jX{H:Hp}{cs:List Nat}{v:V}(h:cB H (gK cs) v):∃a,v=.ref a/\H a=some (.tup (cs.map mB)):=by
 obtain ⟨a,d,rfl,b,c⟩:=dX h;rw [tE c] at b;exact ⟨a,rfl,b⟩
theorem lZ{H:Hp}{cs:List Nat}{a:Addr}(h:H a=some (.tup (cs.map mB))):cB H (gK cs) (.ref a):=cB.tup h (FM cs)
theorem FP{cs:List Nat}{i:Nat}(h:i<cs.length):cK cs i=cs.take i++[cs.getD i 0+1]++cs.drop (i+1):=by
 unfold cK;rw [List.set_eq_take_append_cons_drop,if_pos h,List.append_assoc]
 rfl
theorem uG{K:PySem.W.Frag}{H:Hp}{a:Addr}{xs:List V}{k:Nat}{z:Int}{Q:VK}(hz:z=(k:Int))(h:H a=some (.tup xs))(q:∀c H',bC H H'->H' c=some (.tup (xs.drop k))->Q (.ref c) H'):GZ K (.ref a) (some z) none H Q:=by
 subst hz;exact aAq h q
@[irreducible] def jQ:Sp:=λvs H Q _=>∃(x:V) (cs:List Nat) (i:Nat),vs=[x,.int (i:Int)]/\cB H (gK cs) x/\i<cs.length/\cs.length<=64/\∀v H',bC H H'->cB H' (gK (cK cs i)) v->Q v H'
theorem xK{H:Hp}{Q:VK}{E:XK}{x:V}{cs:List Nat}{i:Nat}(h1:cB H (gK cs) x)(h2:i<cs.length)(h3:cs.length<=64)(k:∀v H',bC H H'->cB H' (gK (cK cs i)) v->Q v H'):jQ [x,.int (i:Int)] H Q E:=by
 unfold jQ;exact ⟨x,cs,i,rfl,h1,h2,h3,k⟩
section
theorem aDX(F:lC K "one_more" "one_more" aAA f fd)(T:nT K mg c):fJ P w K mg base eV 1 f fd ["counts","face"] jQ:=by
 refine F.oky aEt λM H Q E h=>?_;unfold jQ at h;obtain ⟨x,b,i,rfl,G,p,O,k⟩:=h;refine ⟨rfl,λD A j s N=>?_⟩;obtain ⟨a,rfl,l⟩:=jX G;refine ⟨_,(bO (dL (cF (jN K) (cF (jN K) (fS (lQ K) (aJ 0) gP (gO (aJ 1))) (cW (aP (cF eP (bU bL (aJ 0) (aJ 1) (λ_ _=>rfl)) aK) aI))) (fS (lQ K) (aJ 0) (gO (cF eP (aJ 1) aK)) gP)))),?_⟩;refine ⟨_,rfl,_,rfl,_,rfl,?_⟩;refine AT l λR H2 d y=>⟨_,rfl,_,rfl,?_⟩;have e:CP (b.map mB) (i:Int)=some (mB (b.getD i 0)):=cP (by rw [aL,aE,aB p];rfl);refine jG (d _ _ l) e ⟨_,_,rfl,rfl,?_⟩;refine lI (by show 1<=64;decide) λL H3 u e3 m=>xS (m _ _ y) e3 (by rw [bW,aC];show min i b.length+1<=1000;omega) λJ H4 n C=>⟨_,rfl,_,rfl,_,_,rfl,rfl,?_⟩;refine ⟨_,rfl,?_⟩;refine uG (k:=i+1) Oo (n _ _ (m _ _ (d _ _ l))) λI H5 o r=>xS (o _ _ C) r (by rw [aT,bW,List.length_drop,aC];show min i b.length+1+(b.length-(i+1))<=1000;omega) λS H6 z B=>k _ H6 ((((d.trans m).trans n).trans o).trans z) (lZ ?_);rw [B,FP p,bR,bR,List.map_take,List.map_drop]
 rfl
end
abbrev VL:Stmt:=(top 12)
theorem aEu:cT ["faces"] ["faces"] (bJ VL):=⟨rfl,rfl,rfl,Kk,rfl,Kk,Kk⟩
def ci(c:List Nat):List Int:=c.map λ(n:Nat)=>(n:Int)
theorem wW(c:List Nat):(ci c).map V.int=c.map mB:=by unfold ci;rw [List.map_map];rfl
theorem CB:∀{a b:List Nat},ci a=ci b->a=b
 | [],[],_=>rfl
 | [],b::bs,h=>by cases h
 | a::as,[],h=>by cases h
 | a::as,b::bs,h=>by
  have h:(a:Int)::ci as=(b:Int)::ci bs:=h;injection h with h1 h2;rw [CB h2,show a=b by omega]
theorem aO.tT{H H':Hp}{p:Addr}(s:aO p H H'){kvs:List (List fD × V)}(hp:H p=some (.dT kvs)):dJ H H':=λb a h=>s.at (EG h hp (by intro z;cases z)) h
theorem AF{fs:List Fr}{i:Nat}(h:fs.length<=i):fM fs i=0:=by
 unfold fM;rw [aE,dF h];exact oX
theorem kW{α:Type}(l:List α):l.filter (λ_=>true)=l:=List.filter_eq_self.mpr λ_ _=>rfl
structure aEB(K:PySem.W.Frag)(H:Hp)(fs:List Fr)(xs:List V):Prop where
 len:xs.length=fs.length
 at_:∀(i:Nat) (x:V),xs[i]?=some x->∃f,fs[i]?=some f/\uA K H f x
def FW(H:Hp)(a:Addr)(cs:List (List Nat)):Prop:=∃vs,H a=some (.lst vs)/\aZ H (cs.map gK) vs
theorem LD:∀cs:List (List Nat),cV (cs.map gK)=true
 | []=>rfl
 | c::cs=>by show (dG (gK c)&&cV (cs.map gK))=true;rw [LD cs,fV];rfl
theorem FW.len{H:Hp}{a:Addr}{cs:List (List Nat)}(h:FW H a cs):∃vs,H a=some (.lst vs)/\aZ H (cs.map gK) vs/\vs.length=cs.length:=by
 obtain ⟨vs,c,b⟩:=h;exact ⟨vs,c,b,dN b⟩
theorem aZ.app{H:Hp}:∀{ds es:List PyData}{xs ys:List V},aZ H ds xs->aZ H es ys->aZ H (ds++es) (xs++ys)
 | [],es,xs,ys,h1,h2=>by
  have:xs=[]:=h1;subst this;exact h2
 | d::ds,es,xs,ys,h1,h2=>by
  unfold aZ at h1;obtain ⟨x,a,rfl,c,b⟩:=(show ∃x a,xs=x::a/\cB H d x/\aZ H ds a from h1);exact aZ.cons c (aZ.app b h2)
theorem pB{α:Type}(g:Nat->List α)(i:Nat):(List.range (i+1)).flatMap g=(List.range i).flatMap g++g i:=by
 rw [List.range_succ,List.flatMap_append];simp
theorem zJ:∀F,F<=4->∀m,m<=5->(cta F m).length<=56:=Kk
theorem OE:∀F,F<=4->∀i,i<=6->((List.range i).flatMap (cta F)).length<=400:=Kk
theorem yN{α:Type}[DecidableEq α]:∀{l m:List α},l.Nodup->(∀x∈l,x∈m)->l.length<=m.length
 | [],m,_,_=>bS _
 | x::l,m,h,hs=>by
  rw [List.nodup_cons] at h;have hx:=hs x (aR ..);have b:=yN (l:=l) (m:=m.erase x) h.2 λy a=>(List.mem_erase_of_ne (λe=>by subst e;exact h.1 a)).mpr (hs y (aM _ a));rw [List.length_erase_of_mem hx] at b;have:0<m.length:=List.length_pos_of_mem hx;rw [bV];omega
theorem aBk{kvs:List (List fD × V)}{ks:List (List Int)}{v:V}(c:List Int)(hk:kvs.map (·.1)=ks.map kT)(nd:ks.Nodup):∃ks2:List (List Int),(fP kvs (kT c) v).map (·.1)=ks2.map kT/\ks2.Nodup/\∀x,x∈ks2↔x∈ks\/x=c:=by
 cases e:eT kvs (kT c) with
 | some u =>
  refine ⟨ks,by rw [xR (by rw [e];rfl),hk],nd,λx=>⟨.inl,λh=>?_⟩⟩;rcases h with h | rfl
  ·exact h
  ·have:kT x∈kvs.map (·.1):=IS e;rw [hk] at this;obtain ⟨y,f,j⟩:=aS.mp this;rw [<-BR j];exact f
 | none =>
  have d:c ∉ ks:=λh=>by
   have:kT c∈kvs.map (·.1):=by rw [hk];exact List.mem_map_of_mem h
   exact PM e this
  refine ⟨ks++[c],by rw [DZ v e,bR,bR,hk];rfl,List.nodup_append.mpr ⟨nd,by simp,λa l b i e=>by cases bT.mp i;subst e;exact d l⟩,λx=>by rw [dC,bT]⟩
theorem XR:∀F,F<=4->∀m,m<=5->((cta F m).map ci).Pairwise (λa b=>nH a b=true):=Kk
theorem ctI(c:List Nat):PyData.tuple ((ci c).map .int)=gK c:=by unfold ci;rw [List.map_map];rfl
section
variable{F W M:Nat}{best:List Nat->Nat}
def lvl(F:Nat)(best:List Nat->Nat):Nat->List (List Nat)
 | 0=>[List.replicate F 0]
 | k+1=>(cta F (k+1)).filter λd=>(lvl F best k).any λc=>best c == 0&&(List.range F).any λj=>d == cK c j
theorem hJ(hF:1<=F):∀k,(lvl F best k).Sublist (cta F k)
 | 0=>by unfold lvl;rw [FI F hF];exact List.Sublist.refl _
 | k+1=>by unfold lvl;exact List.filter_sublist
theorem rA(hF:1<=F){k:Nat}{d:List Nat}:d∈lvl F best (k+1) ↔ ∃c∈lvl F best k,best c=0/\∃j,j<F/\d=cK c j:=by
 have f:d∈lvl F best (k+1)↔d∈cta F (k+1)/\∃c∈lvl F best k,best c=0/\∃j,j<F/\d=cK c j:=by
  show d∈List.filter _ _↔_;rw [iN];simp
 rw [f];refine ⟨λh=>h.2,λh=>⟨?_,h⟩⟩;obtain ⟨c,a,_,j,b,e⟩:=h;exact (SV hF).mpr ⟨c,(hJ hF k).subset a,j,b,e⟩
def JI(F M:Nat)(best:List Nat->Nat):List (List Nat):=(List.range (M+1)).flatMap (lvl F best)
theorem wQ{α:Type}{f g:Nat->List α}(h:∀k,(f k).Sublist (g k)):∀l:List Nat,(l.flatMap f).Sublist (l.flatMap g)
 | []=>List.Sublist.refl _
 | a::l=>by rw [List.flatMap_cons,List.flatMap_cons];exact (h a).append (wQ h l)
theorem oY(hF:1<=F):(JI F M best).Sublist (rise F M):=wQ (hJ hF) _
theorem qZ{c:List Nat}:c∈JI F M best ↔ ∃k,k<=M/\c∈lvl F best k:=by
 unfold JI;rw [List.mem_flatMap];constructor
 ·rintro ⟨k,a,h⟩;exact ⟨k,by have:=cM.mp a;omega,h⟩
 ·rintro ⟨k,a,h⟩;exact ⟨k,cM.mpr Oo,h⟩
theorem QO(hF:1<=F)(on:∀c,best c=0->c.sum<M){c:List Nat}(hc:c∈JI F M best)(h:best c=0){j:Nat}(hj:j<F):cK c j∈JI F M best:=by
 obtain ⟨k,d,a⟩:=qZ.mp hc;have b:=(gJ ((hJ hF k).subset a)).2;have e:=on c h;exact qZ.mpr ⟨k+1,Oo,(rA hF).mpr ⟨c,a,h,j,hj,rfl⟩⟩
theorem QP(hF:1<=F){d:List Nat}(hd:d∈JI F M best)(h:d≠List.replicate F 0):∃c∈JI F M best,best c=0/\∃j,j<F/\cK c j=d:=by
 obtain ⟨k,l,a⟩:=qZ.mp hd;cases k with
 | zero=>exact absurd (bT.mp a) h
 | succ k =>
  obtain ⟨c,f,b,j,i,e⟩:=(rA hF).mp a;exact ⟨c,qZ.mpr ⟨k,Oo,f⟩,b,j,i,e.symm⟩
theorem QN:∃r,JI F M best=List.replicate F 0::r:=by
 unfold JI;rw [List.range_succ_eq_map,List.flatMap_cons];exact ⟨_,rfl⟩
theorem AY(hF:1<=F){c:List Nat}(h:c∈JI F M best):c.length=F/\c.sum<=M:=(wA hF).mp ((oY hF).subset h)
end
def SaW(K:PySem.W.Frag)(H:Hp)(fs:List Fr)(z:V):Prop:=∃sa sx,z=.ref sa/\H sa=some (.tup sx)/\aEB K H fs sx
def EnW(K:PySem.W.Frag)(H:Hp)(e:eE)(x:V):Prop:=∃b cu z,x=.ref b/\H b=some (.tup [.ref cu,z])/\H cu=some (.tup (e.1.map mB))/\SaW K H e.2 z
def RuW(K:PySem.W.Frag)(H:Hp)(es:List eE)(v:V):Prop:=∃a xs,v=.ref a/\H a=some (.tup xs)/\xs.length=es.length/\∀(i:Nat) (x:V),xs[i]?=some x->∃e,es[i]?=some e/\EnW K H e x
@[irreducible] def kM:Sp:=λvs H Q _=>∃F:Nat,vs=[.int (F:Int)]/\F<=64/\∀v H',bC H H'->cB H' (gK (List.replicate F 0)) v->Q v H'
theorem AQ{H:Hp}{Q:VK}{E:XK}{F:Nat}(h:F<=64)(k:∀v H',bC H H'->cB H' (gK (List.replicate F 0)) v->Q v H'):kM [.int (F:Int)] H Q E:=by
 unfold kM;exact ⟨F,rfl,h,k⟩
def DQ(F M:Nat)(best:List Nat->Nat)(sy:List Nat->List Fr):List eE:=(JI F M best).map λc=>(c,sy c)
section
theorem aDY(F:lC K "noughts" "noughts" VL f fd)(T:nT K mg c):fJ P w K mg base eV 1 f fd ["faces"] kM:=by
 refine F.oky aEu λG H Q E h=>?_;unfold kM at h;obtain ⟨F,rfl,I,k⟩:=h;refine ⟨rfl,λu A a s L=>?_⟩;refine ⟨_,(bO (dL (iA dI (by rfl) T.b_tuple Kk (aP (gQ (eR.of (psc:=bJ VL) (N:=["faces"]) (N':=["face"]) (js:=[]) Kk rfl rfl rfl) (eN rfl T.b_range (aP (aJ 0) aI)) (λ_ _ _ _=>fB) (λ_ _ _ _=>aK)) aI)))),?_⟩;refine ⟨_,rfl,_,rfl,Oo,Oo,sS (λi y H'=>∃n,y=.int n/\n=0) (λ_ _ _ _ _ h=>h) Oo (λi H' Q' C M o=>o _ H' (bC.refl _) ⟨0,rfl,rfl⟩) (λD J H1 hD p r j d=>?_)⟩;obtain ⟨e,rfl,z⟩:=rB (P:=λ_ n=>n=0) d;have B:e=List.replicate F 0:=by
  rw [aC] at j;exact List.eq_replicate_iff.mpr ⟨Oo,λb m=>by obtain ⟨i,h⟩:=dE.mp m;exact z i b h⟩
 subst B;refine ⟨D,_,rfl,.inl ⟨fR.of p,λl x=>?_⟩⟩;refine k _ _ (r.trans (bC.upd x)) (lZ ?_);rw [bH,List.map_replicate,List.map_replicate];rfl
end
abbrev aAx:Stmt:=(top 15)
theorem aEr:cT ["rule"] ["rule"] (bJ aAx):=⟨rfl,rfl,rfl,Kk,rfl,Kk,Kk⟩
structure SyG(n:Nat)(fs:List Fr):Prop where
 len:fs.length=n
 at_:∀f∈fs,eS f/\0<=f.1/\jW 3000 f
 one:lH (fs.map rv)=1
structure RuG(F W M N B Ns:Nat)(es:List eE):Prop where
 rl:RlC F es
 sum:∀e∈es,e.1.sum<=M
 sy:∀e∈es,SyG (1+W) e.2
 few:es.length<=64
 on:∀e∈es,s0 e≠0->e.1.sum<M
 fl:∀e∈es,Qn N B (nO F es e.1)
 fs:∀e∈es,∀v,Qn N B (nO F es e.1*fM e.2 v)
 n0:0<N
 s1:0<Ns
 z:N*Ns^M<2^2000
 b:B<=2^100
 m:M<=6
theorem SyG.hd{n:Nat}{fs:List Fr}(h:SyG (1+n) fs):∃f r,fs=f::r/\eS f/\jW 3000 f/\0<=f.1/\fM fs 0=rv f/\(0<f.1↔fM fs 0≠0):=by
 cases fs with
 | nil=>have:=h.len;simp at this;omega
 | cons f r =>
  obtain ⟨a,d,b⟩:=h.at_ f (aR ..);refine ⟨f,r,rfl,a,b,d,rfl,?_⟩;have e:fM (f::r) 0=rv f:=rfl;rw [e];constructor
  ·intro c q;have:=kQ a aCO (by rw [q,oX]);rw [this] at c;exact absurd c Dd
  ·intro q;refine Classical.byContradiction λz=>q ?_;have i:f.1=0:=Oo;have j:=DP a.pos;rw [i] at j;have l:=lS a.pos;have:rv f=0:=by grind
   exact this
theorem SyG.nn{n:Nat}{fs:List Fr}(h:SyG n fs)(v:Nat):0<=fM fs v:=by
 by_cases hv:v<fs.length
 ·have:=h.at_ _ (sO (a:=(0,1)) hv);exact ZE this.1 this.2.1
 ·rw [AF Oo];exact Rat.le_refl
theorem iX:dU 0=(0,1):=kQ (cJ _) aCO (by rw [gD,oX])
theorem pA:dU 1=(1,1):=kQ (cJ _) aCP (by rw [gD,GY])
theorem iR{N C:Nat}{q:Rat}(h:Qn N C q)(h0:0<N)(hN:N<2^2500)(hC:C<=2^200):jW 4000 (dU q):=UN h.fq h0 (bK hN (bI Dd Dd)) (aY hC (bI Dd Dd))
theorem jW.up{j k:Nat}{f:Fr}(h:jW j f)(hk:j<=k):jW k f:=⟨bK h.1 (bI Dd hk),bK h.2 (bI Dd hk)⟩
section
variable{F W M N B Ns:Nat}{es:List eE}{s:List Fr}
end
@[irreducible] def iB(K:PySem.W.Frag):Sp:=λvs H Q _=>∃(x:V) (e:eE) (es:List eE),vs=[x]/\RuW K H (e::es) x/\Q (.int (e.1.length:Nat)) H
theorem tV{K:PySem.W.Frag}{H:Hp}{Q:VK}{E:XK}{x:V}{e:eE}{es:List eE}(h1:RuW K H (e::es) x)(k:Q (.int (e.1.length:Nat)) H):iB K [x] H Q E:=by
 unfold iB;exact ⟨x,e,es,rfl,h1,k⟩
section
theorem aDU(F:lC K "rule_faces" "rule_faces" aAx f fd)(T:nT K mg c):fJ P w K mg base eV 1 f fd ["rule"] (iB K):=by
 refine F.oky aEr λI H Q E h=>?_;unfold iB at h;obtain ⟨x,e,L,rfl,D,k⟩:=h;refine ⟨rfl,λu A m s J=>?_⟩;obtain ⟨a,o,rfl,C,B,l⟩:=D;have d:o[0]?=some (o[0]'(by rw [B];exact Nat.succ_pos _)):=aB _;obtain ⟨r,i,b,G,z,y,p,n,_⟩:=l 0 _ d;cases (show e=r by simpa using i);rw [y] at d;refine ⟨_,(bO (dL (gF iK (by rfl) T.b_len Kk (aP (bU bL (bU bL (aJ 0) aK (λ_ _=>rfl)) aK (λ_ _=>rfl)) aI)))),?_⟩;refine ⟨_,rfl,jG C (cP (j:=0) d) ?_⟩;refine jG p rfl (VR n ?_);rw [aC];exact k
end
section
variable{F W M N B Ns:Nat}{es:List eE}{s:List Fr}
end
theorem Qn.sumL{α:Type}{N B:Nat}{f:α->Rat}:∀{l:List α},(∀a∈l,Qn N B (f a))->Qn N (l.length*B) (cI l f)
 | [],_=>by rw [DJ];exact Qn.zero _ _
 | a::l,h=>by
  rw [cY,bV,Nat.add_mul,Nat.one_mul,Nat.add_comm];exact (h a (aR ..)).add (Qn.sumL λx hx=>h x (aM _ hx))
theorem aAi{α:Type}{l:List α}{g:α->Fr}{f:α->Rat}(h:∀a∈l,eS (g a)/\rv (g a)=f a):pG (l.map g)=dU (cI l f):=by
 have c:∀x∈l.map g,eS x:=λx d=>by
  obtain ⟨a,b,rfl⟩:=aS.mp d;exact (h a b).1
 refine kQ (DF _ c) (cJ _) ?_;rw [GX _ c,gD,List.map_map];exact congrArg lH (cO λa b=>(h a b).2)
theorem vV(x y:Rat):xO (dU x) (dU y)=dU (x*y):=kQ (EH (cJ _) (cJ _)) (cJ _) (by rw [QM (cJ _).pos (cJ _).pos,gD,gD,gD])
theorem CJ(x y:Rat):pK (dU x) (dU y)=dU (x+y):=kQ (xC (cJ _) (cJ _)) (cJ _) (by rw [AX (cJ _).pos (cJ _).pos,gD,gD,gD])
theorem aAn(x y:Rat):pK (dU x) (NH (dU y))=dU (x-y):=kQ (xC (cJ _) (vU (cJ _))) (cJ _) (by
 rw [AX (cJ _).pos (vU (cJ _)).pos,show NH (dU y)=(-(dU y).1,(dU y).2) from rfl,aAG,gD,gD,gD,Rat.sub_eq_add_neg])
section
end
structure TrG(W Ns:Nat)(ws:List (Str × List Fr)):Prop where
 w:ws.length=W
 sh:∀x∈ws,∀f∈x.2,Fn Ns 1 f
 b:∀x∈ws,BOk 10 x.2
section
variable{F W M N B Ns:Nat}{es:List eE}{s:List Fr}
end
section
end
section
variable{F W M N B Ns:Nat}{es:List eE}{s:List Fr}
end
section
end
abbrev QJ:Stmt:=(top 32)
theorem YC:cT ["_law_feed_here","_law_ways","_law_last","_law_parts","_law_k","_law_place"] ["_law_feed_here","_law_ways","_law_last"] (bJ QJ):=⟨rfl,rfl,rfl,Kk,rfl,Kk,Kk⟩
abbrev sQ8:Stmt:=(top 33)
theorem cQ8:cT ["_law_counts","_law_face"] ["_law_counts","_law_face"] (bJ sQ8):=⟨rfl,rfl,rfl,Kk,rfl,Kk,Kk⟩
abbrev LC:Nat:=360360
structure xH(n:Nat)(fs:List Fr):Prop where
 ex:∃ns:List Int,ns.length=n/\(∀x∈ns,0<=x)/\0<ns.sum/\ns.sum<=15/\fs=ns.map λx=>lw x ns.sum
theorem aC3:∀s,s<=15->1<=s->s ∣ LC:=Kk
theorem xH.fn{n:Nat}{fs:List Fr}(h:xH n fs):∀f∈fs,Fn LC 1 f/\0<=f.1/\f.1.natAbs<=15/\f.2.natAbs<=15:=by
 obtain ⟨o,l,e,j,m,rfl⟩:=h.ex;intro f c;obtain ⟨x,d,rfl⟩:=aS.mp c;have le:=mX e d;have i:=e x d;have c:=Fn.of (n:=x) (B:=1) j Oo;obtain ⟨p,r⟩:=c.num Oo;refine ⟨c.dvd (aC3 _ Oo Oo),?_,Oo,Oo⟩;exact Int.ediv_nonneg (a:=x) (b:=((Int.gcd x o.sum:Nat):Int)) i (Int.natCast_nonneg _)
theorem xH.one{n:Nat}{fs:List Fr}(h:xH n fs):lH (fs.map rv)=1:=by
 obtain ⟨d,l,i,c,e,rfl⟩:=h.ex;have all:∀b:List Int,lH ((b.map λx=>lw x d.sum).map rv)*((d.sum:Int):Rat)=((b.sum:Int):Rat):=by
  intro b
  induction b with
  | nil=>simp [qM]
  | cons a b ih =>
   rw [aU,aU,mC,List.sum_cons,Rat.intCast_add,Rat.add_mul,ih,vL c,Rat.div_def];have:=lS c;grind
 have:=all d;have f:=lS c;grind
theorem xH.g{n:Nat}{fs:List Fr}(h:xH n fs):SyG n fs where
 len:=by
  obtain ⟨m,l,p,e,b,rfl⟩:=h.ex;rw [aC];exact l
 at_:=λf d=>by
  obtain ⟨c,a,i,o⟩:=h.fn f d;have j:(15:Nat)<2^3000:=Kk;exact ⟨c.low,a,Oo,Oo⟩
 one:=h.one
theorem kA:∀{ns:List Int}{i:Nat}{x y:Int},ns[i]?=some y->(ns.set i x).sum=ns.sum-y+x
 | n::ns,0,x,y,h=>by
  cases (show n=y by simpa using h);rw [List.set_cons_zero,List.sum_cons,List.sum_cons];omega
 | n::ns,i+1,x,y,h=>by
  rw [List.set_cons_succ,List.sum_cons,List.sum_cons,kA (show ns[i]?=some y by simpa using h)];omega
theorem GU{ns:List Int}{i:Nat}{x:Int}(h:∀n∈ns,0<=n)(hx:0<=x):∀n∈ns.set i x,0<=n:=λn a=>by
 rcases List.mem_or_eq_of_mem_set a with b | rfl
 ·exact h n b
 ·exact hx
theorem KK{ns:List Int}{i:Nat}{x:Int}(h:ns[i]?=some x):CP (ns.map V.int) (i:Int)=some (.int x):=cP (by rw [aL,h];rfl)
theorem HL{ns:List Int}{i:Nat}(h:i<ns.length):KI (ns.map V.int).length (i:Int)=some i:=by
 unfold KI;rw [if_pos Oo,if_pos (by rw [aC];omega)]
 rfl
theorem OU:∀F:Nat,(List.replicate F (0:Int)).sum=0
 | 0=>rfl
 | n+1=>by rw [List.replicate_succ,List.sum_cons,OU n];rfl
@[irreducible] def qQ:Sp:=λvs H Q _=>∃(p L:Addr) (W:Nat) (b:Bool),vs=[.ref p,.int (W:Int),.bl b]/\cD H p L/\1<=W/\W<=4/\∀v fs H',cD H' p L->aO p H H'->cB H' (uH fs) v->xH (1+W) fs->(b=true->fs[0]?=some (0,1))->Q v H'
theorem MK{H:Hp}{Q:VK}{E:XK}{p L:Addr}{W:Nat}{b:Bool}(F:cD H p L)(h1:1<=W)(h4:W<=4)(k:∀v fs H',cD H' p L->aO p H H'->cB H' (uH fs) v->xH (1+W) fs->(b=true->fs[0]?=some (0,1))->Q v H'):qQ [.ref p,.int (W:Int),.bl b] H Q E:=by
 unfold qQ;exact ⟨p,L,W,b,rfl,F,h1,h4,k⟩
@[irreducible] def mH:Sp:=λvs H Q _=>∃(x:V) (cs:List Nat) (i:Nat),vs=[x,.int (i:Int)]/\cB H (gK cs) x/\i<cs.length/\cs.length<=64/\∀v H',bC H H'->cB H' (gK (cK cs i)) v->Q v H'
theorem vF{H:Hp}{Q:VK}{E:XK}{x:V}{cs:List Nat}{i:Nat}(h1:cB H (gK cs) x)(h2:i<cs.length)(h3:cs.length<=64)(k:∀v H',bC H H'->cB H' (gK (cK cs i)) v->Q v H'):mH [x,.int (i:Int)] H Q E:=by
 unfold mH;exact ⟨x,cs,i,rfl,h1,h2,h3,k⟩
section
theorem oQ8(F:lC K "_law_more" "_law_more" sQ8 f fd)(T:nT K mg c):fJ P w K mg base eV 1 f fd ["_law_counts","_law_face"] mH:=by
 refine F.oky cQ8 λM H Q E h=>?_;unfold mH at h;obtain ⟨x,b,i,rfl,G,p,O,k⟩:=h;refine ⟨rfl,λD A j s N=>?_⟩;obtain ⟨a,rfl,l⟩:=jX G;refine ⟨_,(bO (dL (cF (jN K) (cF (jN K) (fS (lQ K) (aJ 0) gP (gO (aJ 1))) (cW (aP (cF eP (bU bL (aJ 0) (aJ 1) (λ_ _=>rfl)) aK) aI))) (fS (lQ K) (aJ 0) (gO (cF eP (aJ 1) aK)) gP)))),?_⟩;refine ⟨_,rfl,_,rfl,_,rfl,?_⟩;refine AT l λR H2 d y=>⟨_,rfl,_,rfl,?_⟩;have e:CP (b.map mB) (i:Int)=some (mB (b.getD i 0)):=cP (by rw [aL,aE,aB p];rfl);refine jG (d _ _ l) e ⟨_,_,rfl,rfl,?_⟩;refine lI (by show 1<=64;decide) λL H3 u e3 m=>xS (m _ _ y) e3 (by rw [bW,aC];show min i b.length+1<=1000;omega) λJ H4 n C=>⟨_,rfl,_,rfl,_,_,rfl,rfl,?_⟩;refine ⟨_,rfl,?_⟩;refine uG (k:=i+1) Oo (n _ _ (m _ _ (d _ _ l))) λI H5 o r=>xS (o _ _ C) r (by rw [aT,bW,List.length_drop,aC];show min i b.length+1+(b.length-(i+1))<=1000;omega) λS H6 z B=>k _ H6 ((((d.trans m).trans n).trans o).trans z) (lZ ?_);rw [B,FP p,bR,bR,List.map_take,List.map_drop]
 rfl
theorem aD9(F:lC K "_law_says" "_law_says" QJ f fd)(T:nT K mg c)(FQ2:iP eV P w K mg base 1 "_law_draw" ["_law_feed_here","_law_many"] iT)(FQ7:iP eV P w K mg base 1 "_law_low" ["_law_n","_law_d"] oE):fJ P w K mg base eV 2 f fd ["_law_feed_here","_law_ways","_law_last"] qQ:=by
 refine F.oky YC λvs H Q E h=>?_;unfold qQ at h;obtain ⟨p,L,W,b,rfl,F,w1,w4,k⟩:=h;refine ⟨rfl,λcdv A ab s α=>?_⟩;have bw:bits (W:Int)<=9000:=bitsle (bA (show ((W:Int)).natAbs<=5 by omega) Kk);have ψ:bits (1+(W:Int))<=9000:=bitsle (bA (show ((1+(W:Int))).natAbs<=5 by omega) Kk);refine ⟨_,(aQ (bQ (i:=3) YC.nd rfl (Or.inr rfl) (gQ (eR.of (psc:=bJ QJ) (N:=["_law_feed_here","_law_ways","_law_last","_law_parts","_law_k","_law_place"]) (N':=["_law_k"]) (js:=[]) Kk rfl rfl rfl) (eN rfl T.b_range (aP (cF eP aK (aJ 1)) aI)) (λ_ _ _ _=>fB) (λ_ _ _ _=>aK)))
  (aQ (fC PassesOwn.never rfl (eN rfl T.b_range (aP (cF eP aK (cG FQ2 (α.mono Dd) (aP (aJ 0) (aP aK aI)))) aI)) (cL (i:=4) YC.nd rfl (Or.inl rfl)) (aQ (bQ (i:=5) YC.nd rfl (Or.inl rfl) (bU bL (eK (aP aK (aP (cG FQ2 (α.mono Dd) (aP (aJ 0) (aP (cF eP aK (aJ 1)) aI))) aI))) (cG FQ2 (α.mono Dd) (aP (aJ 0) (aP aK aI))) (λ_ _=>rfl)))
  (bO (kJ (cF eP (cF eP (bU bL (aJ 3) (aJ 5) (λ_ _=>rfl)) aK) (cG FQ2 (α.mono Dd) (aP (aJ 0) (aP aK aI)))) (nY (aJ 3) (aJ 5) jR)))))
  (aQ (kJ (cF fU (bU bL (aJ 3) aK (λ_ _=>rfl)) (iA pE (by rfl) T.b_int Kk (aP (aAg (aJ 2)) aI))) (nY (aJ 3) aK jR))
  (aQ (rV (lJ (eJ vT (gF (TH rfl) (by rfl) T.b_sum Kk (aP (aJ 3) aI)) aK (nomark _)) (bO (kJ aK (nY (aJ 3) (cF eP aK (cG FQ2 (α.mono Dd) (aP (aJ 0) (aP (aJ 1) aI)))) jR))) gY))
  (bO (dL (iA dI (by rfl) T.b_tuple Kk (aP (gQ (eR.of (psc:=bJ QJ) (N:=["_law_feed_here","_law_ways","_law_last","_law_parts","_law_k","_law_place"]) (N':=["_law_part","_law_parts"]) (js:=[3]) Kk rfl rfl rfl) (gG (aJ 3)) (λ_ _ _ _=>fB) (λ_ _ _ _=>(cG FQ7 (α.mono Dd) (aP (aJ 0) (aP (gF (LJ K rfl) (by rfl) T.b_sum Kk (aP (aJ 1) aI)) aI))))) aI)))))))),?_⟩
 refine ⟨_,rfl,_,_,rfl,rfl,_,rfl,Oo,Oo,sS (λ_ y _=>∃n,y=.int n/\n=0) (λ_ _ _ _ _ h=>h) Oo (λi H' Q' hi s' k'=>k' _ H' (bC.refl _) ⟨0,rfl,rfl⟩) (λD Y H1 hD e1 s1 hy ξ=>?_)⟩;obtain ⟨γ,rfl,J⟩:=rB (P:=λ_ n=>n=0) ξ;have lz:γ.length=1+W:=by rw [aC] at hy;omega
 have ez:γ=List.replicate (1+W) 0:=List.eq_replicate_iff.mpr ⟨lz,λb R=>by obtain ⟨i,h⟩:=dE.mp R;exact J i b h⟩;have zsum:γ.sum=0:=by rw [ez];exact OU _
 have znn:∀n∈γ,0<=n:=λn κ=>by rw [ez] at κ;rw [List.eq_of_mem_replicate κ];exact Int.le_refl _
 clear J hy ξ ez;have M:=F.ne hD;have nL:=F.neL hD;have F1:=F.same s1;refine ⟨_,rfl,?_⟩;refine cZ F1 Dd Kk λx H2 B x1 F2 s2=>?_;obtain ⟨m,rfl⟩:=kS B;refine ⟨_,_,rfl,rfl,_,rfl,Oo,Oo,hU (λi σ H'=>∃(υ ρ:Option V) (d:List Int),σ=[some (.ref p),some (.int (W:Int)),some (.bl b),some (.ref D),υ,ρ]/\cD H' p L/\aO p H H'/\H' D=some (.lst (d.map V.int))/\d.length=1+W/\(∀n∈d,0<=n)/\d.sum<=5*(i:Int)) ⟨_,_,γ,rfl,F2,s1.but.trans s2,s2.at M e1,lz,znn,Oo⟩ ?_ ?_⟩
 ·rintro i σ H3 hi ⟨υ,ρ,d,rfl,F3,S3,e3,ln,nn,I⟩;refine ⟨_,rfl,_,rfl,_,_,rfl,rfl,?_⟩;refine cZ F3 Oo ψ λy H4 y0 y1 F4 ι=>?_;obtain ⟨j0,rfl⟩:=kS y0;refine qF (by show 2<=64;decide) λq5 H5 hq5 μ Z=>?_;have F5:=F4.same Z;refine ⟨_,rfl,?_⟩;refine cZ F5 Dd Kk λz H6 z0 z1 F6 X=>?_;obtain ⟨mz,rfl⟩:=kS z0;have nq:=F4.ne hq5;obtain ⟨j,hj,hjW⟩:∃j:Nat,([.int 0,.int (j0:Int)]:List V)[mz]?=some (.int (j:Int))/\j<1+W:=by
   rcases (show mz=0\/mz=1 by omega) with rfl | rfl
   ·exact ⟨0,rfl,Oo⟩
   ·exact ⟨j0,rfl,Oo⟩
  refine mK (X.at nq μ) (cP hj) ?_;have e:j<d.length:=Oo;have G:=aB e;have δ:H6 D=some (.lst (d.map V.int)):=X.at M (Z _ _ (ι.at M e3));refine ⟨_,rfl,_,rfl,mK δ (KK G) ?_⟩;refine ⟨_,_,rfl,rfl,⟨_,rfl,?_⟩⟩;refine cZ F6 Dd Kk λu H7 u0 u1 F7 s7=>⟨_,_,rfl,rfl,?_⟩;refine ⟨_,rfl,_,rfl,?_⟩;refine VH (s7.at M δ) (HL e) λH8 e8 β=>?_;have b7:aO p H H7:=(((S3.trans ι).trans Z.but).trans X).trans s7;have nnj:=nn _ (List.getElem_mem e);refine ⟨_,_,d.set j (d[j]+1+u),rfl,F7.but β M nL,aO.thru hD b7 β,?_,by rw [List.length_set];exact ln,GU nn Oo,?_⟩
  ·rw [e8,List.map_set]
  ·rw [kA G];omega
 ·rintro σ H3 ⟨υ,ρ,d,rfl,F3,S3,e3,ln,nn,I⟩;have I:d.sum<=15:=Oo;have C:0<d.length:=Oo;have ν:=aB C;have η:=nn _ (List.getElem_mem C);have le0:=mX nn (List.getElem_mem C);have snn:=kK nn;refine ⟨_,rfl,mK e3 (KK (i:=0) ν) ?_⟩;refine ⟨_,rfl,_,rfl,.inr ⟨_,rfl,⟨_,_,rfl,rfl,⟨IntMulOk.of_left (PySem.intBits_le_64 Oo Oo),?_⟩⟩⟩⟩;obtain ⟨B,ad,χ,x01,ζ⟩:∃B:Int,d[0]*(if (!b)=true then 1 else 0)=B/\0<=B/\B<=d[0]/\(b=true->B=0):=by
   cases b
   ·exact ⟨_,rfl,by simp;exact η,by simp,λz=>by cases z⟩
   ·exact ⟨_,rfl,by simp,by simp;exact η,λ_=>by simp⟩
  refine ⟨_,rfl,?_⟩;refine VH e3 (HL C) λH4 U ι=>?_;have U:H4 D=some (.lst ((d.map V.int).set 0 (.int (d[0]*(if (!b)=true then 1 else 0))))):=U;rw [ad,<-List.map_set] at U;have F4:=F3.but ι M nL;have S4:aO p H H4:=aO.thru hD S3 ι;have O:(d.set 0 B).sum<=15:=by rw [kA ν];omega
  have r:=GU (i:=0) nn χ;have S:(d.set 0 B)[0]?=some B:=by rw [List.getElem?_set_self C]
  have l4:(d.set 0 B).length=1+W:=by rw [List.length_set];exact ln
  generalize d.set 0 B=a at U O r S l4;have nn4s:=kK r;refine ⟨λσ H'=>∃a:List Int,σ=[some (.ref p),some (.int (W:Int)),some (.bl b),some (.ref D),υ,ρ]/\cD H' p L/\aO p H H'/\H' D=some (.lst (a.map V.int))/\a.length=1+W/\(∀n∈a,0<=n)/\0<a.sum/\a.sum<=15/\(b=true->a[0]?=some 0),?_,?_⟩
  ·rintro σ H5 ⟨a,rfl,F5,S5,μ,l5,ac,p5,ε,b5⟩;refine ⟨_,rfl,D,rfl,⟨_,fR.of μ⟩,sT (λi y H'=>∃n,a[i]?=some n/\cB H' (eY (lw n a.sum)) y) (λi y H1 H2 s ⟨n,ο,τ⟩=>⟨n,ο,τ.flat s (fN _)⟩) (by rw [aC];omega) μ (λi x H' Q' hx s' k'=>?_) (λD3 Y H8 hD3 ω β hy8 aa=>?_)⟩
   ·rw [aL] at hx;obtain ⟨n,hn',rfl⟩:=Option.map_eq_some_iff.mp hx;refine ⟨_,rfl,_,rfl,rsI (fR.of (s' _ _ μ)) ?_⟩;refine qT p5 (bA (show a.sum.natAbs<=15 by omega) Kk) ?_;intro q9 H9 hq9 e9 s9;exact k' _ H9 s9 ⟨n,hn',eU e9⟩
   ·refine ⟨D3,Y,rfl,.inl ⟨fR.of ω,λl hl=>?_⟩⟩;have φ:=bC.upd (o:=.tup Y) hl;have el:(upd H8 l (.tup Y)) l=some (.tup Y):=bH;generalize upd H8 l (.tup Y)=H9 at φ el;refine k _ (a.map λn=>lw n a.sum) H9 ((F5.same β).same φ) (S5.trans (β.trans φ).but) (cB.tup el ?_) ⟨a,l5,ac,p5,ε,rfl⟩ λR=>?_
    ·refine aZ.ofIdx (by rw [hy8,aC,aC,aC]) λi y hi=>?_;obtain ⟨n,ο,τ⟩:=aa i y hi;exact ⟨eY (lw n a.sum),by rw [aL,aL,ο];rfl,τ.same φ⟩
    ·rw [aL,b5 R];exact congrArg some (JW p5)
  ·refine ⟨_,rfl,rsI (fR.of U) ?_⟩;refine ⟨rfl,_,rfl,BS (λJ=>?_) (λJ=>?_)⟩
   ·have J:a.sum=0:=by injection J
    refine ⟨_,rfl,_,rfl,_,rfl,?_⟩;refine cZ F4 Oo bw λy H5 y0 y1 F5 Z=>?_;obtain ⟨j,rfl⟩:=kS y0;refine ⟨_,_,rfl,rfl,?_⟩;have e:1+j<a.length:=Oo;have hjx:KI (a.map V.int).length (1+(j:Int))=some (1+j):=by
     rw [show (1:Int)+(j:Int)=((1+j:Nat):Int) by omega];exact HL e
    refine VH (Z.at M U) hjx λH6 δ X=>?_;rw [<-List.map_set] at δ;have G:=aB e;have θ:∀n∈a,n=0:=λn κ=>by
     have ο:=r n κ;have τ:=mX r κ;omega
    have hj0:=θ _ (List.getElem_mem e);refine ⟨a.set (1+j) 1,rfl,F5.but X M nL,aO.thru hD (S4.trans Z) X,δ,by rw [List.length_set];exact l4,GU r Dd,by rw [kA G];omega,by rw [kA G];omega,λR=>?_⟩;rw [List.getElem?_set_ne Oo,S,ζ R]
   ·have J:¬a.sum=0:=λz=>J (congrArg V.int z);exact ⟨a,rfl,F4,S4,U,l4,r,Oo,O,λR=>by rw [S,ζ R]⟩
end
abbrev VQ:Stmt:=(top 34)
theorem wZ:cT ["_law_feed_here","_law_faces","_law_ways","_law_room","_law_sizes","_law_most","_law_entries","_law_level","_law_k","_law_later","_law_counts","_law_says_here","_law_face"] ["_law_feed_here","_law_faces","_law_ways","_law_room"] (bJ VQ):=⟨rfl,rfl,rfl,Kk,rfl,Kk,Kk⟩
def bs(f:List Nat->List Fr)(c:List Nat):Nat:=if fM (f c) 0=0 then 1 else 0
theorem pF{f:List Nat->List Fr}{c:List Nat}:bs f c=0↔fM (f c) 0≠0:=by
 unfold bs;split
 ·rename_i h;exact ⟨(λz=>by cases z),λz=>absurd h z⟩
 ·rename_i h;exact ⟨λ_=>h,λ_=>rfl⟩
theorem yR{F:Nat}(hF:1<=F){b b':List Nat->Nat}:∀{k:Nat},(∀c,c.sum<k->b c=b' c)->lvl F b k=lvl F b' k
 | 0,_=>rfl
 | k+1,h=>by
  have e:=yR hF (b:=b) (b':=b') (k:=k) λc a=>h c Oo;unfold lvl;rw [e];refine List.filter_congr λd _=>?_;rw [Bool.eq_iff_iff,List.any_eq_true,List.any_eq_true];have same:∀c∈lvl F b' k,b c=b' c:=λc a=>h c (by have:=(gJ ((hJ hF k).subset a)).2;omega);exact ⟨λ⟨c,a,q⟩=>⟨c,a,by rw [<-same c a];exact q⟩,λ⟨c,a,q⟩=>⟨c,a,by rw [same c a];exact q⟩⟩
structure LR(F W M:Nat)(es:List eE):Prop where
 ex:∃f:List Nat->List Fr,es=DQ F M (bs f) f/\(∀c,bs f c=0->c.sum<M)/\∀c∈JI F M (bs f),xH (1+W) (f c)
 f1:1<=F
 f4:F<=4
 m5:M<=5
 few:(rise F M).length<=40
theorem LR.rl{F W M:Nat}{es:List eE}(h:LR F W M es):RlC F es:=by
 obtain ⟨f,rfl,u,sy⟩:=h.ex;have a:(DQ F M (bs f) f).map (·.1)=JI F M (bs f):=by unfold DQ;rw [List.map_map];exact List.map_id' _
 refine ⟨?_,?_,?_,?_,?_,?_,?_⟩
 ·obtain ⟨r,o⟩:=QN (F:=F) (M:=M) (best:=bs f);exact ⟨_,_,by unfold DQ;rw [o,aU],rfl⟩
 ·intro e i;obtain ⟨c,b,rfl⟩:=aS.mp i;exact (AY h.f1 b).1
 ·rw [a];exact (JJ F h.f4 M h.m5).sublist (oY h.f1)
 ·unfold DQ;rw [List.pairwise_map];exact (tJ F M).sublist (oY h.f1)
 ·intro e i m g n;obtain ⟨c,b,rfl⟩:=aS.mp i;rw [a];exact QO h.f1 u b (pF.mpr m) n
 ·intro d hd s;rw [a] at hd;obtain ⟨c,b,l,j,p,e⟩:=QP h.f1 hd s;exact ⟨(c,f c),aS.mpr ⟨c,b,rfl⟩,pF.mp l,j,p,e⟩
 ·intro e i;obtain ⟨c,b,rfl⟩:=aS.mp i;exact (sy c b).g.nn 0
theorem LR.g{F W M:Nat}{es:List eE}(h:LR F W M es){Ns:Nat}(n0:0<Ns)(hz:LC^6*Ns^M<2^2000):RuG F W M (LC^6) (5^40) Ns es:=by
 have RL:=h.rl;obtain ⟨f,rfl,n,sy⟩:=h.ex;have i:∀e∈DQ F M (bs f) f,xH (1+W) e.2:=λe b=>by
  obtain ⟨c,j,rfl⟩:=aS.mp b;exact sy c j
 have d:∀e∈DQ F M (bs f) f,e.1.sum<=M:=λe b=>by
  obtain ⟨c,j,rfl⟩:=aS.mp b;exact (AY h.f1 j).2
 have o:(DQ F M (bs f) f).length<=40:=by
  unfold DQ;rw [aC];exact aY (oY h.f1).length_le h.few
 have l:∀e∈DQ F M (bs f) f,∀v,Qn LC 1 (fM e.2 v):=λe b v=>by
  by_cases hv:v<e.2.length
  ·exact ((i e b).fn _ (sO (a:=(0,1)) hv)).1.q
  ·rw [AF Oo];exact Qn.zero _ _
 have m:∀e∈DQ F M (bs f) f,Qn (LC^e.1.sum) (5^40) (nO F (DQ F M (bs f) f) e.1):=λe b=>by
  have:=RL.qn (N:=LC) (λe b=>l e b 0) h.f4 (DQ F M (bs f) f).length (aG _) e.1;rw [cE] at this;exact this.le (bI Dd o)
 have m5:=h.m5;refine ⟨RL,d,λe b=>(i e b).g,Oo,λe b p=>?_,λe b=>?_,λe b v=>?_,Nat.pow_pos Dd,n0,hz,Kk,Oo⟩
 ·obtain ⟨c,j,rfl⟩:=aS.mp b;exact n c (pF.mpr p)
 ·exact (m e b).dvd (Nat.pow_dvd_pow _ (by have:=d e b;omega))
 ·have:=(m e b).mul (l e b v);rw [Nat.mul_one,<-Nat.pow_succ] at this;exact this.dvd (Nat.pow_dvd_pow _ (by have:=d e b;omega))
abbrev xG(e:eE):PyData:=.tuple [gK e.1,uH e.2]
abbrev xM(es:List eE):PyData:=.tuple (es.map xG)
theorem FB(e:eE):dG (xG e)=true:=by
 show (dG (gK e.1)&&(dG (uH e.2)&&true))=true;rw [fV,kP];rfl
theorem yZ:∀es:List eE,cV (es.map xG)=true
 | []=>rfl
 | e::es=>by show (dG (xG e)&&cV (es.map xG))=true;rw [yZ es,FB];rfl
theorem yJ(es:List eE):dG (xM es)=true:=yZ es
theorem aAs{K:PySem.W.Frag}{H:Hp}{gs:List Fr}{v:V}(h:cB H (uH gs) v):SaW K H gs v:=by
 obtain ⟨d,e,rfl,a,r⟩:=nB h;refine ⟨d,e,rfl,a,⟨dN r,λi x j=>?_⟩⟩;obtain ⟨f,c,b⟩:=eF r j;exact ⟨f,c,.inl b⟩
theorem aAH{K:PySem.W.Frag}{H:Hp}{es:List eE}{v:V}(h:cB H (xM es) v):RuW K H es v:=by
 obtain ⟨a,j,rfl,n,r⟩:=dX h;refine ⟨a,j,rfl,n,dN r,λi x o=>?_⟩;obtain ⟨e,w,s⟩:=eF r o;obtain ⟨b,y,rfl,f,c⟩:=dX s;obtain ⟨u,z,rfl,m,p⟩:=fW c;obtain ⟨l,rfl,d⟩:=jX m;exact ⟨e,w,b,l,z,rfl,f,d,aAs p⟩
theorem cD.t{H H':Hp}{p L:Addr}(F:cD H p L)(s:aO p H H'):dJ H H':=let ⟨_,hx⟩:=F.lst;s.t hx
theorem EY(x y:Int):PyData.eqv (.int x) (.int y)=decide (x=y):=by
 unfold PyData.eqv
 first | rfl | (by_cases h:x=y <;> simp [h])
theorem aBE(f g:Fr):PyData.eqv (eY f) (eY g)=decide (f=g):=by
 obtain ⟨b,a⟩:=f;obtain ⟨c,d⟩:=g;have e:PyData.eqv (eY (b,a)) (eY (c,d))=(PyData.eqv (.int b) (.int c)&&(PyData.eqv (.int a) (.int d)&&true)):=rfl;rw [e,EY,EY];by_cases h:b=c <;> by_cases h':a=d <;> simp [h,h']
theorem wR:∀a b:List PyData,cV (a++b)=(cV a&&cV b)
 | [],b=>by rw [List.nil_append];rfl
 | x::a,b=>by show (dG x&&cV (a++b))=((dG x&&cV a)&&cV b);rw [wR a b,Bool.and_assoc]
theorem sP(g:List Nat->List Fr):∀cs:List (List Nat),cV (cs.map λc=>xG (c,g c))=true
 | []=>rfl
 | c::cs=>by show (dG (xG (c,g c))&&cV (cs.map λc=>xG (c,g c)))=true;rw [sP g cs,FB];rfl
def szs(F:Nat):List Int:=if F=2 then [1,3,6,10,15,21] else if F=3 then [1,4,10,20,35] else [1,5,15,35]
theorem VF:∀F,F<=4->∀R,R<=40->(2<=F/\1<=R->0<((szs F).filter λs=>decide (s<=((R:Nat):Int))).length/\((szs F).filter λs=>decide (s<=((R:Nat):Int))).length<=6):=Kk
theorem VE:∀F,F<=4->∀R,R<=40->∀m,m<=6->(2<=F/\m<((szs F).filter λs=>decide (s<=((R:Nat):Int))).length->(rise F m).length<=R):=Kk
@[irreducible] def oD:Sp:=λvs H Q _=>∃(p L:Addr) (F W R:Nat),vs=[.ref p,.int (F:Int),.int (W:Int),.int (R:Int)]/\cD H p L/\2<=F/\F<=4/\1<=W/\W<=4/\1<=R/\R<=40/\∀v es M H',cD H' p L->aO p H H'->cB H' (xM es) v->LR F W M es->(rise F M).length<=R->Q v H'
theorem GO{H:Hp}{Q:VK}{E:XK}{p L:Addr}{F W R:Nat}(h:cD H p L)(h1:2<=F)(h2:F<=4)(h3:1<=W)(h4:W<=4)(h5:1<=R)(h6:R<=40)(k:∀v es M H',cD H' p L->aO p H H'->cB H' (xM es) v->LR F W M es->(rise F M).length<=R->Q v H'):oD [.ref p,.int (F:Int),.int (W:Int),.int (R:Int)] H Q E:=by
 unfold oD;exact ⟨p,L,F,W,R,rfl,h,h1,h2,h3,h4,h5,h6,k⟩
theorem aBi{F k:Nat}{b:List Nat->Nat}(f1:1<=F)(f4:F<=4)(hk:k<=5):(lvl F b k).Nodup:=by
 have h:(lvl F b k).Sublist (rise F k):=by
  refine (hJ f1 k).trans ?_;unfold rise;rw [List.range_succ,List.flatMap_append];simp
 exact (JJ F f4 k hk).sublist h
section
inductive LI4 (p L Sz η:Addr)(F W R M:Nat)(H:Hp):Nat -> St -> Hp->Prop
| mk {u:Nat}{σ:St}{H':Hp}(o8 o9 Z α J:Option V) (Lv:Addr) (ν:List V) (g:List Nat->List Fr)(_:σ=[some (.ref p),some (.int (F:Int)),some (.int (W:Int)),some (.int (R:Int)),some (.ref Sz),some (.int (M:Int)),some (.ref η),some (.ref Lv),o8,o9,Z,α,J])(_:cD H' p L)(_:aO p H H')(_:H' η=some (.lst ν))(_:aZ H' (((List.range u).flatMap (lvl F (bs g))).map λc=>xG (c,g c)) ν)(_:FW H' Lv (lvl F (bs g) u))(_:Lv≠η)(_:Lv≠p)(_:(∀c,g c≠[]->c.sum<u/\(c.sum=M->bs g c≠0)))(_:∀i,i<u->∀c∈lvl F (bs g) i,xH (1+W) (g c)):LI4 p L Sz η F W R M H u σ H'
inductive LI5 (p L Sz η ι θ:Addr)(F W R M u:Nat)(H H11:Hp)(ls:List V)(cs:List (List Nat))(g:List Nat->List Fr):Nat -> St -> Hp->Prop
| mk {j:Nat}{σ:St}{H':Hp}(Z α J:Option V) (ν:List V) (y:List (List fD × V)) (κ:List (List Int)) (h:List Nat->List Fr)(_:σ=[some (.ref p),some (.int (F:Int)),some (.int (W:Int)),some (.int (R:Int)),some (.ref Sz),some (.int (M:Int)),some (.ref η),some (.ref ι),some (.int (u:Int)),some (.ref θ),Z,α,J])(_:cD H' p L)(_:aO p H H')(_:H' η=some (.lst ν))(_:ν.length<=400+j)(_:H' ι=some (.lst ls))(_:dJ H11 H')(_:(∀c,c ∉ cs.take j->h c=g c))(_:aZ H' ((((List.range u).flatMap (lvl F (bs g))).map λc=>xG (c,g c))++(cs.take j).map λc=>xG (c,h c)) ν)(_:(∀c∈cs.take j,xH (1+W) (h c)/\(u=M->bs h c≠0)))(_:H' θ=some (.dT y))(_:y.length<=4*j)(_:y.map (·.1)=κ.map kT)(_:κ.Nodup)(_:∀d,d∈κ ↔ ∃c∈cs.take j,bs h c=0/\∃f,f<F/\d=ci (cK c f)):LI5 p L Sz η ι θ F W R M u H H11 ls cs g j σ H'
inductive LJ5 (p Sz η ι θ ac sa:Addr)(F W R M u j:Nat)(H17:Hp)(cs:List (List Nat))(U:List Nat)(h':List Nat->List Fr):Nat -> St -> Hp->Prop
| mk {g':Nat}{σ:St}{H':Hp}(J:Option V) (y:List (List fD × V)) (κ:List (List Int))(_:σ=[some (.ref p),some (.int (F:Int)),some (.int (W:Int)),some (.int (R:Int)),some (.ref Sz),some (.int (M:Int)),some (.ref η),some (.ref ι),some (.int (u:Int)),some (.ref θ),some (.ref ac),some (.ref sa),J])(_:aO θ H17 H')(_:H' θ=some (.dT y))(_:y.length<=4*j+g')(_:y.map (·.1)=κ.map kT)(_:κ.Nodup)(_:∀d,d∈κ↔(∃c∈cs.take j,bs h' c=0/\∃f,f<F/\d=ci (cK c f))\/∃f,f<g'/\d=ci (cK U f)):LJ5 p Sz η ι θ ac sa F W R M u j H17 cs U h' g' σ H'
theorem aEa(F:lC K "_law_rule" "_law_rule" VQ f fd)(T:nT K mg c)(FQ2:iP eV P w K mg base 1 "_law_draw" ["_law_feed_here","_law_many"] iT)(FQ13:iP eV P w K mg base 2 "_law_says" ["_law_feed_here","_law_ways","_law_last"] qQ)(FQ8:iP eV P w K mg base 1 "_law_more" ["_law_counts","_law_face"] mH):fJ P w K mg base eV 3 f fd ["_law_feed_here","_law_faces","_law_ways","_law_room"] oD:=by
 refine F.oky wZ λν H Q E h=>?_;unfold oD at h;obtain ⟨p,L,F,W,R,rfl,FA,f2,f4,w1,w4,r1,r40,k⟩:=h;refine ⟨rfl,λcdv A outer s hr=>?_⟩;have ζ:1<=F:=Oo;obtain ⟨sz0,sz6⟩:=VF F f4 R r40 ⟨f2,r1⟩;have szr:=VE F f4 R r40;refine ⟨_,(aQ (bQ (i:=4) wZ.nd rfl (Or.inl rfl) (bU bL (eK (aP (eK (aP aK (aP aK (aP aK (aP aK (aP aK (aP aK aI))))))) (aP (eK (aP aK (aP aK (aP aK (aP aK (aP aK aI)))))) (aP (eK (aP aK (aP aK (aP aK (aP aK aI))))) aI)))) (cF HG (aJ 1) aK) (λ_ _=>rfl)))
  (aQ (bQ (i:=5) wZ.nd rfl (Or.inl rfl) (cG FQ2 (hr.mono Dd) (aP (aJ 0) (aP (gF iK (by rfl) T.b_len Kk (aP (gQ (eR.of (psc:=bJ VQ) (N:=["_law_feed_here","_law_faces","_law_ways","_law_room","_law_sizes","_law_most","_law_entries","_law_level","_law_k","_law_later","_law_counts","_law_says_here","_law_face"]) (N':=["_law_size","_law_room"]) (js:=[3]) Kk rfl rfl rfl) (gG (aJ 4)) (λ_ _ _ _=>oT (eJ aCL (aJ 0) (aJ 1) (nomark _))) (λ_ _ _ _=>(aJ 0))) aI)) aI))))
  (aQ (bQ (i:=6) wZ.nd rfl (Or.inl rfl) (eK aI))
  (aQ (bQ (i:=7) wZ.nd rfl (Or.inl rfl) (eK (aP (cF WU (cW (aP aK aI)) (aJ 1)) aI)))
  (aQ (fC PassesOwn.never rfl (eN rfl T.b_range (aP (cF eP (aJ 5) aK) aI)) (cL (i:=8) wZ.nd rfl (Or.inl rfl)) (aQ (bQ (i:=9) wZ.nd rfl (Or.inl rfl) CV)
  (aQ (fC PassesOwn.never rfl (gG (aJ 7)) (cL (i:=10) wZ.nd rfl (Or.inl rfl)) (aQ (bQ (i:=11) wZ.nd rfl (Or.inl rfl) (cG FQ13 (hr.mono Dd) (aP (aJ 0) (aP (aJ 2) (aP (AE vT (aJ 8) (aJ 5) (nomark _)) aI)))))
  (aQ (jK (qK PySem.F.plainAttrs_list PySem.F.slot_list_append PySem.F.type_list_append vW (aJ 6) (aP (cW (aP (aJ 10) (aP (aJ 11) aI))) aI)))
  (bO (fC PassesOwn.never rfl (eN rfl T.b_range (aP (cF fU (aJ 1) (iA pE (by rfl) T.b_int Kk (aP (AE (RM hr.units) (bU bL (aJ 11) aK (λ_ _=>rfl)) (cW (aP aK (aP aK aI))) (nomark _)) aI))) aI)) (cL (i:=12) wZ.nd rfl (Or.inl rfl)) (bO (AA hr.u1 (aJ 9) (cG FQ8 (hr.mono Dd) (aP (aJ 10) (aP (aJ 12) aI))) tH)))))))
  (bO (bQ (i:=7) wZ.nd rfl (Or.inl rfl) (gF (XT rfl) (by rfl) T.b_sorted Kk (aP (aJ 9) aI)))))))
  (bO (dL (iA dI (by rfl) T.b_tuple Kk (aP (aJ 6) aI))))))))),?_⟩
 refine qF (by show 6<=64;decide) λc1 H1 hc1 e1 s1=>qF (by show 5<=64;decide) λc2 H2 hc2 e2 s2=>qF (by show 4<=64;decide) λc3 H3 hc3 e3 s3=>qF (by show 3<=64;decide) λc4 H4 hc4 e4 s4=>?_;have δ:=((s1.trans s2).trans s3).trans s4;refine ⟨_,rfl,_,_,rfl,rfl,?_⟩;obtain ⟨Sz,hSz,eSz⟩:∃Sz:Addr,([.ref c1,.ref c2,.ref c3]:List V)[F-2]?=some (.ref Sz)/\H4 Sz=some (.lst ((szs F).map V.int)):=by
  rcases (show F=2\/F=3\/F=4 by omega) with rfl | rfl | rfl
  ·exact ⟨c1,rfl,((s2.trans s3).trans s4) _ _ e1⟩
  ·exact ⟨c2,rfl,(s3.trans s4) _ _ e2⟩
  ·exact ⟨c3,rfl,s4 _ _ e3⟩
 refine mK e4 (by rw [show (F:Int)-2=((F-2:Nat):Int) by omega];exact cP hSz) ?_;have F4:=FA.same δ;refine ⟨_,rfl,_,rfl,Sz,rfl,⟨_,fR.of eSz⟩,?_⟩;have rS:aZ H4 ((szs F).map PyData.int) ((szs F).map V.int):=zX _;have l6:(szs F).length<=6:=by unfold szs;split;decide;split;decide;decide
 refine NU rS (λs=>decide (s<=((R:Nat):Int))) (by rw [aC];omega) eSz (λx c' H' Q' hc' rc s' k'=>?_) (λx H' Q' k'=>⟨_,rfl,k'⟩) (λD ys H5 hD e5 s5 ry=>?_)
 ·cases (show x=V.int c' from rc);exact ⟨_,rfl,_,rfl,_,_,rfl,rfl,_,rfl,k' H' (bC.refl _)⟩
 have lys:ys.length=((szs F).filter λs=>decide (s<=((R:Nat):Int))).length:=by rw [ry.len,aC]
 refine ZG e5 ?_;have F5:=F4.same s5;refine cZ F5 Oo (bitsle (bA (show ((ys.length:Nat):Int).natAbs<=6 by omega) Kk)) λx H6 x0 x1 F6 b6=>?_;obtain ⟨M,rfl⟩:=kS x0;have hM:=szr M Oo ⟨f2,Oo⟩;have m5:M<=5:=Oo;refine qF (by show 0<=64;decide) λη H7 hEn e7 s7=>lI (by show 1<=64;decide) λt8 H8 ht8 e8 s8=>⟨_,rfl,?_⟩;refine aEd e8 f2 Oo λt9 H9 s9 e9=>qF (by show 1<=64;decide) λLv H10 hLv e10 s10=>?_;have s710:=(s8.trans s9).trans s10;have s610:=s7.trans s710;have B6:aO p H H6:=(δ.trans s5).but.trans b6;have hEnH:H η=none:=aO.free (p:=p) B6 F6.there hEn;have nEp:η≠p:=F6.ne hEn;have nEL:η≠L:=F6.neL hEn;have e10E:=s710 _ _ e7;have nLE:Lv≠η:=λz=>by rw [z,(s8.trans s9) _ _ e7] at hLv;cases hLv
 have F10:=F6.same s610;have B10:aO p H H10:=B6.trans s610.but;have r9:cB H10 (gK (List.replicate F 0)) (.ref t9):=by
  refine lZ ?_;rw [s10 _ _ e9,List.map_replicate];rfl
 have L10:FW H10 Lv (lvl F (bs λ_=>[]) 0):=⟨_,e10,aZ.cons r9 aZ.nil⟩;refine ⟨_,rfl,_,_,rfl,rfl,_,rfl,Oo,Oo,?_⟩;rw [show ((M:Int)+1).toNat=M+1 by omega];refine hU (LI4 p L Sz η F W R M H) ⟨_,_,_,_,_,Lv,[],λ_=>[],rfl,F10,B10,e10E,aZ.nil,L10,nLE,(F6.same (s7.trans (s8.trans s9))).ne hLv,λc h=>absurd rfl h,λi hi=>Oo⟩ ?_ ?_
 ·rintro u σ H11 hkk ⟨o8,o9,Z,α,J,ι,ν,g,rfl,F11,B11,e11,r11,L11,nLE1,nLp1,g11,y11⟩;have hk5:u<=5:=Oo;obtain ⟨ls,eL11,rL11,lls⟩:=L11.len;rw [show (0:Int)+(u:Int)=(u:Int) by omega];intro θ X;have O:=bC.upd (o:=.dT []) X;have e12:(upd H11 θ (.dT [])) θ=some (.dT []):=bH;generalize upd H11 θ (.dT [])=H12 at O e12 ⊢;have nDE:θ≠η:=λz=>by rw [z,e11] at X;cases X
  have nDL:θ≠ι:=λz=>by rw [z,eL11] at X;cases X
  have nDp:θ≠p:=F11.ne X;have nDpL:θ≠L:=F11.neL X;have hDlH:H θ=none:=aO.free (p:=p) B11 F11.there X;refine ⟨_,rfl,ι,rfl,⟨_,fR.of (O _ _ eL11)⟩,?_⟩;obtain ⟨cs,ω⟩:∃cs,cs=lvl F (bs g) u:=⟨_,rfl⟩;have ξ:∀c∈cs,c.length=F/\c.sum=u:=λc r=>by rw [ω] at r;exact gJ ((hJ ζ u).subset r)
  have cnd:cs.Nodup:=by rw [ω];exact aBi ζ f4 hk5
  have lcs:cs.length<=56:=by rw [ω];exact aY (hJ ζ u).length_le (zJ F f4 u hk5)
  have lvs:((List.range u).flatMap (lvl F (bs g))).length<=400:=aY (wQ (hJ ζ) (List.range u)).length_le (OE F f4 u Oo);rw [<-ω] at rL11 lls;refine jV (xs:=ls) (LI5 p L Sz η ι θ F W R M u H H11 ls cs g)
   ⟨_,_,_,ν,[],[],g,rfl,F11.same O,B11.trans O.but,O _ _ e11,?_,O _ _ eL11,O.t,λ_ _=>rfl,?_,(λc r=>by rw [List.take_zero] at r;cases r),e12,aG _,rfl,List.nodup_nil,λd=>⟨(λh=>by cases h),λ⟨c,r,_⟩=>by rw [List.take_zero] at r;cases r⟩⟩ (λj σ H' _ q=>?_) ?_ ?_
  ·have:=dN (g:=λc=>xG (c,g c)) r11;omega
  ·rw [List.take_zero,List.map_nil,List.append_nil];exact r11.same O
  ·obtain ⟨_,_,_,_,_,_,_,_,_,_,_,_,q,_⟩:=q;exact fR.of q
  ·rintro j x σ H13 hx ⟨Z,α,J,vs3,y,κ,h,rfl,F13,B13,e13,lv13,eL13,t13,hg,r13,μ,ρ,lk13,k1,k2,k3⟩;obtain ⟨U,hcc,rc⟩:=eF rL11 hx;have hj:j<cs.length:=(aX.mp hcc).1;obtain ⟨lc,sc⟩:=ξ U (aV hcc);obtain ⟨ac,rfl,hac⟩:=jX (rc.flat t13 (fV _));have hnot:U ∉ cs.take j:=λhm=>by
    obtain ⟨i,hi⟩:=dE.mp hm;have hij:i<j:=by have:=(aX.mp hi).1;rw [bW] at this;omega
    rw [List.getElem?_take_of_lt hij] at hi;have:=(List.getElem?_inj Oo cnd).mp (hi.trans hcc.symm);omega
   have nEp':p≠η:=nEp.symm;refine ⟨_,rfl,_,rfl,_,rfl,_,rfl,rfl,?_⟩;refine MK F13 w1 w4 λvsy fs H14 F14 φ rsy sy hstop=>?_;obtain ⟨sa,sx,rfl,hsa,rsx⟩:=nB rsy;obtain ⟨f0,fr,efs,l0,z0,nn0,v0,on0⟩:=sy.g.hd;have χ:=φ.at nEp e13;have e14d:=φ.at nDp ρ;have t14:dJ H13 H14:=F13.t φ;have af:=t14 _ _ hac;refine ⟨_,rfl,VC χ,_,rfl,_,rfl,?_⟩;refine lI (by show 2<=64;decide) λq15 H15 hq15 e15 I=>aDb (I _ _ χ) Oo λH16 e16 aa=>?_;have t16:=aa.t (I _ _ χ);have F16:=(F14.same I).but aa nEp nEL;have B16:aO p H H16:=aO.thru hEnH ((B13.trans φ).trans I.but) aa;have e16d:=aa.at nDE (I _ _ e14d);have B:dJ H14 H16:=I.t.trans t16;have hac16:=B _ _ af;have hsa16:=B _ _ hsa;have C:=rsx.flat B (wO _);rw [efs] at C;obtain ⟨y0,ys',esx,ry0,_⟩:=(show ∃x xs',sx=x::xs'/\cB H16 (eY f0) x/\aZ H16 (fr.map eY) xs' by rw [aU] at C;unfold aZ at C;exact C);refine ⟨_,rfl,_,rfl,jG hsa16 (cP (j:=0) (by rw [esx];rfl)) ?_⟩;refine lI (by show 2<=64;decide) λq17 H17 hq17 e17 G=>reD (ry0.same G) (eU (f:=(0,1)) e17) rfl rfl ?_;refine .inr ⟨_,rfl,?_⟩;obtain ⟨cn,hcn,hon⟩:∃cn:Nat,(F:Int)*(if (false == PyData.eqv (eY f0) (eY (0,1)))=true then 1 else 0)=(cn:Int)/\cn=if f0=(0,1) then 0 else F:=by
    rw [aBE];by_cases z:f0=(0,1)
    ·exact ⟨0,by rw [bY z];simp,by rw [if_pos z]⟩
    ·exact ⟨F,by rw [bP z];simp,by rw [if_neg z]⟩
   have cnF:cn<=F:=by rw [hon];split <;> omega
   refine ⟨_,_,rfl,rfl,IntMulOk.of_left (PySem.intBits_le_64 Oo Oo),⟨_,rfl,?_⟩⟩;show _/\_/\_;rw [hcn];refine ⟨Oo,Oo,?_⟩;have F17:=F16.same G;have ψ:=G _ _ e16d;obtain ⟨h',hh'⟩:∃h':List Nat->List Fr,h'=λd=>if d=U then fs else h d:=⟨_,rfl⟩
   have ad:h' U=fs:=by rw [hh'];exact if_pos rfl
   have ε:∀d,d≠U->h' d=h d:=λd hd=>by rw [hh'];exact if_neg hd
   have bne:∀d,d≠U->bs h' d=bs h d:=λd hd=>by unfold bs;rw [ε d hd]
   have ae:∀d∈cs.take j,d≠U:=λd hd z=>hnot (z ▸ hd);have bcc:bs h' U=0 ↔ ¬f0=(0,1):=by
    rw [pF,ad,<-on0];constructor
    ·intro z q;rw [q] at z;exact absurd z Dd
    ·intro z;refine Classical.byContradiction λq=>z ?_;have z1:f0.1=0:=Oo;have h1:=l0.low;rw [z1] at h1;have hp:=l0.pos;have:Int.gcd 0 f0.2=f0.2.natAbs:=Int.gcd_zero_left _;rw [this] at h1;have h2:f0.2=1:=Oo;exact Prod.ext z1 h2
   refine hU (LJ5 p Sz η ι θ ac sa F W R M u j H17 cs U h')
    ⟨_,y,κ,rfl,(bC.refl _).but,ψ,Oo,k1,k2,λd=>?_⟩ ?_ ?_
   ·rw [k3];constructor
    ·rintro ⟨c,r,γ,f,β⟩;exact .inl ⟨c,r,by rw [bne c (ae c r)];exact γ,f,β⟩
    ·rintro (⟨c,r,γ,f,β⟩ | ⟨f,β,_⟩)
     ·exact ⟨c,r,by rw [<-bne c (ae c r)];exact γ,f,β⟩
     ·omega
   ·rintro g' σ H18 hg' ⟨o12',ab,ks18,rfl,S,e18,lk18,k18,ο,m18⟩;rw [show (0:Int)+(g':Int)=(g':Int) by omega];have t18:=aO.tT S ψ;have hac18:=t18 _ _ (G _ _ hac16);refine ⟨_,rfl,_,rfl,_,rfl,?_⟩;refine vF (lZ hac18) Oo Oo λv19 H19 s19 r19=>?_;obtain ⟨a19,rfl,ha19⟩:=jX r19;refine dpT (s19 _ _ e18) (c:=ci (cK U g')) (by rw [wW];exact ha19) Oo λH20 e20 b20=>?_;obtain ⟨ks2,j1,j2,j3⟩:=aBk (v:=.bl true) (ci (cK U g')) k18 ο;refine ⟨_,_,ks2,rfl,(S.trans s19.but).trans b20,e20,?_,j1,j2,λd=>?_⟩
    ·have:=iL ab (kT (ci (cK U g'))) (V.bl true);omega
    ·rw [j3,m18];constructor
     ·rintro ((h | ⟨f,β,e⟩) | h)
      ·exact .inl h
      ·exact .inr ⟨f,Oo,e⟩
      ·exact .inr ⟨g',Oo,h⟩
     ·rintro (h | ⟨f,β,e⟩)
      ·exact .inl (.inl h)
      ·by_cases q:f=g'
       ·subst q;exact .inr e
       ·exact .inl (.inr ⟨f,Oo,e⟩)
   ·rintro σ H18 ⟨o12',ab,ks18,rfl,S,e18,lk18,k18,ο,m18⟩;have t18:=aO.tT S ψ;have B18:aO p H H18:=aO.thru hDlH (B16.trans G.but) S;have tk:cs.take (j+1)=cs.take j++[U]:=fI hcc;have T18:dJ H13 H18:=((t14.trans B).trans G.t).trans t18;refine ⟨_,_,_,vs3++[.ref q15],ab,ks18,h',rfl,F17.but S nDp nDpL,B18,S.at nDE.symm (G _ _ e16),by rw [aT,List.length_singleton];omega,?_,t13.trans T18,λc r=>?_,?_,λc r=>?_,e18,Oo,k18,ο,λd=>?_⟩
    ·exact S.at nDL.symm (G _ _ (aa.at nLE1 (I _ _ (φ.at nLp1 eL13))))
    ·rw [tk] at r;have h1:c ∉ cs.take j:=λz=>r (dA _ z);have h2:c≠U:=λz=>r (bZ _ (bT.mpr z));rw [ε c h2,hg c h1]
    ·rw [tk,bR,<-List.append_assoc];have e1:(cs.take j).map (λc=>xG (c,h' c))=(cs.take j).map λc=>xG (c,h c):=cO λc r=>by rw [ε c (ae c r)]
     rw [e1];refine aZ.snoc (r13.flat T18 ?_) ?_
     ·rw [wR,sP,sP];rfl
     ·show cB H18 (xG (U,h' U)) (.ref q15);rw [ad];have Y:dJ H15 H18:=(t16.trans G.t).trans t18;exact cB.tup (Y _ _ e15) (aZ.cons (lZ (Y _ _ (I _ _ af))) (aZ.cons ((rsy.same I).flat Y (kP _)) aZ.nil))
    ·rw [tk] at r;rcases dC.mp r with r | r
     ·rw [bne c (ae c r),ε c (ae c r)];exact μ c r
     ·rw [bT.mp r,ad];refine ⟨sy,λz=>?_⟩;have hst:=hstop (by rw [decide_eq_true_iff];exact congrArg (λn:Nat=>V.int (n:Int)) z);rw [efs] at hst;rw [Ne,bcc];exact λq=>q (by simpa using hst)
    ·rw [m18];constructor
     ·rintro (⟨c,r,γ,f,β⟩ | ⟨f,β,e⟩)
      ·exact ⟨c,by rw [tk];exact dA _ r,γ,f,β⟩
      ·by_cases z:f0=(0,1)
       ·rw [if_pos z] at hon;omega
       ·exact ⟨U,by rw [tk];exact bZ _ (bT.mpr rfl),bcc.mpr z,f,Oo,e⟩
     ·rintro ⟨c,r,γ,f,β,e⟩;rw [tk] at r;rcases dC.mp r with r | r
      ·exact .inl ⟨c,r,γ,f,β,e⟩
      ·rw [bT.mp r] at γ e;have z:=bcc.mp γ;rw [if_neg z] at hon;exact .inr ⟨f,Oo,e⟩
  ·rintro σ H13 ⟨Z,α,J,vs3,y,κ,h,rfl,F13,B13,e13,lv13,eL13,t13,hg,r13,μ,ρ,lk13,k1,k2,k3⟩;have lfull:cs.take ls.length=cs:=by rw [lls];exact cE
   rw [lfull] at hg r13 μ k3;have υ:∀c:List Nat,c.sum<u->h c=g c:=λc r=>hg c λz=>by have:=(ξ c z).2;omega
   have blow:∀c:List Nat,c.sum<u->bs h c=bs g c:=λc r=>by unfold bs;rw [υ c r]
   have lvE:∀i,i<=u->lvl F (bs h) i=lvl F (bs g) i:=λi hi=>yR ζ λc r=>blow c Oo;have τ:lvl F (bs h) u=cs:=by rw [lvE u (aG _),ω]
   have ag:∀d,d∈κ↔d∈(lvl F (bs h) (u+1)).map ci:=λd=>by
    rw [k3,aS];constructor
    ·rintro ⟨c,r,γ,f,β,e⟩;exact ⟨cK c f,(rA ζ).mpr ⟨c,by rw [τ];exact r,γ,f,β,rfl⟩,e.symm⟩
    ·rintro ⟨d',hd',rfl⟩;obtain ⟨c,r,γ,f,β,rfl⟩:=(rA ζ).mp hd';exact ⟨c,by rw [<-τ];exact r,γ,f,β,rfl⟩
   have nilM:u=M->lvl F (bs h) (u+1)=[]:=λz=>by
    refine List.eq_nil_iff_forall_not_mem.mpr λd hd=>?_;obtain ⟨c,r,γ,_⟩:=(rA ζ).mp hd;rw [τ] at r;exact (μ c r).2 z γ
   have small:(lvl F (bs h) (u+1)).length<=56:=by
    by_cases z:u=M
    ·rw [nilM z];exact bS _
    ·exact aY (hJ ζ (u+1)).length_le (zJ F f4 (u+1) Oo)
   have slex:((lvl F (bs h) (u+1)).map ci).Pairwise λa b=>nH a b=true:=by
    by_cases z:u=M
    ·rw [nilM z];exact List.Pairwise.nil
    ·exact (XR F f4 (u+1) Oo).sublist ((hJ ζ (u+1)).map ci)
   have lk:κ.length<=56:=by
    have:=yN k2 (m:=(lvl F (bs h) (u+1)).map ci) λd hd=>(ag d).mp hd;rw [aC] at this;omega
   refine ⟨_,rfl,?_⟩;refine rsrd (cs:=κ) ρ k1 (λc r=>?_) Oo λq8 ys8 ds H14 pm pw hq8 χ r14 δ=>?_
   ·obtain ⟨d,hd,rfl⟩:=aS.mp ((ag c).mp r);obtain ⟨l1,_⟩:=gJ ((hJ ζ (u+1)).subset hd);intro z;have e:(ci d).length=d.length:=by unfold ci;rw [aC]
    rw [z,List.length_nil] at e;omega
   have eds:ds=(lvl F (bs h) (u+1)).map ci:=EO pw slex λd=>by rw [pm.mem_iff];exact ag d
   rw [eds,List.map_map,show (lvl F (bs h) (u+1)).map ((λc:List Int=>PyData.tuple (c.map .int)) ∘ ci)=(lvl F (bs h) (u+1)).map gK from cO λc _=>ctI c] at r14;have nqE:q8≠η:=λz=>by rw [z,e13] at hq8;cases hq8
   have efl:(List.range u).flatMap (lvl F (bs h))=(List.range u).flatMap (lvl F (bs g)):=by
    rw [List.flatMap_def,List.flatMap_def];exact congrArg List.flatten (cO λi hi=>lvE i (by have:=cM.mp hi;omega))
   have inlow:∀c∈(List.range u).flatMap (lvl F (bs g)),c.sum<u:=λc r=>by
    obtain ⟨i,hi,h1⟩:=List.mem_flatMap.mp r;have:=(gJ ((hJ ζ i).subset h1)).2;have:=cM.mp hi;omega
   refine ⟨_,_,_,_,_,q8,vs3,h,rfl,F13.same δ,B13.trans δ.but,δ _ _ e13,?_,⟨ys8,χ,r14⟩,nqE,F13.ne hq8,λc r=>?_,λi hi c r=>?_⟩
   ·rw [pB,efl,τ,bR];have e1:((List.range u).flatMap (lvl F (bs g))).map (λc=>xG (c,h c))=((List.range u).flatMap (lvl F (bs g))).map λc=>xG (c,g c):=cO λc r=>by rw [υ c (inlow c r)]
    rw [e1];exact r13.same δ
   ·by_cases hm:c∈cs
    ·obtain ⟨_,h2⟩:=ξ c hm;exact ⟨Oo,λz=>(μ c hm).2 Oo⟩
    ·rw [hg c hm] at r;obtain ⟨h1,h2⟩:=g11 c r;refine ⟨Oo,λz=>?_⟩;have:bs h c=bs g c:=by unfold bs;rw [hg c hm]
     rw [this];exact h2 z
   ·by_cases z:i=u
    ·rw [z,τ] at r;exact (μ c r).1
    ·rw [lvE i Oo] at r;have hs:=(gJ ((hJ ζ i).subset r)).2;rw [υ c Oo];exact y11 i Oo c r
 ·rintro σ H11 ⟨o8,o9,Z,α,J,ι,ν,g,rfl,F11,B11,e11,r11,L11,nLE1,nLp1,g11,y11⟩;refine ⟨_,rfl,⟨η,ν,rfl,.inl ⟨fR.of e11,λl hl=>?_⟩⟩⟩;have sl:=bC.upd (o:=.tup ν) hl;refine k _ (DQ F M (bs g) g) M _ (F11.same sl) (B11.trans sl.but) (cB.tup bH ?_) ⟨⟨g,rfl,λc r=>?_,λc r=>?_⟩,ζ,f4,m5,aY hM r40⟩ hM
  ·have:((DQ F M (bs g) g).map xG)=((List.range (M+1)).flatMap (lvl F (bs g))).map λc=>xG (c,g c):=by unfold DQ JI;rw [List.map_map];rfl
   rw [this];exact r11.same sl
  ·have hn:g c≠[]:=λz=>by
    have:=pF.mp r;rw [z] at this;exact this (AF (bS _))
   obtain ⟨h1,h2⟩:=g11 c hn;refine Classical.byContradiction λz=>h2 Oo r
  ·obtain ⟨i,hi,h1⟩:=qZ.mp r;exact y11 i Oo c h1
end
abbrev sQ9:Stmt:=(top 36)
theorem cQ9:cT ["_law_one","_law_other"] ["_law_one","_law_other"] (bJ sQ9):=⟨rfl,rfl,rfl,Kk,rfl,Kk,Kk⟩
@[irreducible] def kF(K:PySem.W.Frag):Sp:=λvs H Q _=>∃x y f g,vs=[x,y]/\iO K H f x/\iO K H g y/\eS f/\eS g/\jW 4000 f/\jW 4000 g/\qE H Q (xO f g)
theorem lP{K:PySem.W.Frag}{H:Hp}{Q:VK}{E:XK}{x y:V}{f g:Fr}(h1:iO K H f x)(h2:iO K H g y)(l1:eS f)(l2:eS g)(z1:jW 4000 f)(z2:jW 4000 g)(q:qE H Q (xO f g)):kF K [x,y] H Q E:=by unfold kF;exact ⟨x,y,f,g,rfl,h1,h2,l1,l2,z1,z2,q⟩
section
theorem oQ9(F:lC K "_law_mul" "_law_mul" sQ9 f fd)(T:nT K mg c)(FQ7:iP eV P w K mg base 1 "_law_low" ["_law_n","_law_d"] oE):fJ P w K mg base eV 2 f fd ["_law_one","_law_other"] (kF K):=by
 refine F.oky cQ9 λr H Q E h=>?_;unfold kF at h;obtain ⟨x,y,f,g,rfl,l,m,j,p,d,a,q⟩:=h;refine ⟨rfl,λn A b s o=>?_⟩;obtain ⟨u,rfl,i⟩:=l;obtain ⟨z,rfl,e⟩:=m;refine ⟨_,(bO (dL (cG FQ7 (o.mono Dd) (aP (cF fU (bU bL (aJ 0) aK (λ_ _=>rfl)) (bU bL (aJ 1) aK (λ_ _=>rfl))) (aP (cF fU (bU bL (aJ 0) aK (λ_ _=>rfl)) (bU bL (aJ 1) aK (λ_ _=>rfl))) aI))))),?_⟩;refine ⟨_,rfl,sN i rfl ?_⟩;refine ⟨_,rfl,sN e rfl ?_⟩;refine ⟨_,_,rfl,rfl,xP d.1 a.1,⟨_,rfl,sN i rfl ?_⟩⟩;refine ⟨_,rfl,sN e rfl ?_⟩;refine ⟨_,_,rfl,rfl,xP d.2 a.2,qT (Int.mul_pos j.pos p.pos) (jL (AM d.2 a.2)) ?_⟩;exact q
end
theorem Qn.le1{D C:Nat}{x:Rat}(h:Qn D C x)(d0:0<D)(h0:0<=x)(h1:x<=1):Qn D 1 x:=by
 obtain ⟨X,a,c⟩:=h;have b:(0:Rat)<(D:Rat):=by exact_mod_cast d0
 have X0:0<=X:=by
  have:(0:Rat)<=(X:Rat):=by rw [<-a];exact Rat.mul_nonneg h0 (Rat.le_of_lt b)
  exact_mod_cast this
 have X1:X<=(D:Int):=by
  have:(X:Rat)<=(D:Rat):=by
   rw [<-a];have:=Rat.mul_le_mul_of_nonneg_right h1 (Rat.le_of_lt b);grind
  have:((X:Int):Rat)<=((D:Int):Rat):=by rw [pZ];exact this
  exact_mod_cast this
 exact ⟨X,a,Oo⟩
section
variable{F W M N B Ns:Nat}{es:List eE}{s:List Fr}
end
structure HE where
 fs:List Str
 ws:List (Str × List Fr)
 es:List eE
abbrev hD(h:HE):PyData:=.tuple [UQ h.fs h.ws,xM h.es]
abbrev ON(hs:List HE):PyData:=.tuple (hs.map hD)
theorem KL(h:HE):dG (hD h)=true:=by
 show (dG (UQ h.fs h.ws)&&(dG (xM h.es)&&true))=true;rw [uY,yJ];rfl
theorem mN:∀hs:List HE,cV (hs.map hD)=true
 | []=>rfl
 | h::hs=>by show (dG (hD h)&&cV (hs.map hD))=true;rw [mN hs,KL];rfl
theorem wK(hs:List HE):dG (ON hs)=true:=mN hs
structure UL(D:Nat)(h:HE):Prop where
 ex:∃M Ns,RuG h.fs.length h.ws.length M (LC^6) (5^40) Ns h.es/\D=LC^6*Ns^M/\TrG h.ws.length Ns h.ws/\0<Ns/\Ns<2^400
 f2:2<=h.fs.length
 f4:h.fs.length<=4
 w2:2<=h.ws.length
 w4:h.ws.length<=4
 len:∀x∈h.ws,x.2.length=h.fs.length
 nn:∀x∈h.ws,∀f∈x.2,eS f/\0<=f.1
 one:∀x∈h.ws,lH (x.2.map rv)=1
 d1:D<2^600
def pN(Ds:List Nat):Nat:=Ds.foldr (λd p=>d*p) 1
theorem qY:∀{Ds:List Nat}(i:Nat),(∀d∈Ds,0<d)->0<pN (Ds.take i)/\pN (Ds.take i)<=pN Ds
 | [],i,_=>by rw [List.take_nil];exact ⟨Dd,aG _⟩
 | d::Ds,0,h=>by
  have h1:=(qY (Ds:=Ds) Ds.length λx a=>h x (aM _ a)).1;rw [cE] at h1;refine ⟨by rw [List.take_zero];decide,?_⟩;rw [List.take_zero];exact lG (h d (aR ..)) h1
 | d::Ds,i+1,h=>by
  obtain ⟨h1,b⟩:=qY (Ds:=Ds) i λx a=>h x (aM _ a);have hd:=h d (aR ..);rw [List.take_succ_cons];exact ⟨lG hd h1,fA _ b⟩
theorem vS{α β:Type}{R:α->β->Prop}:∀{xs:List α}{ys:List β},Paired R xs ys->(∀x∈xs,∃y∈ys,R x y)/\∀y∈ys,∃x∈xs,R x y
 | _,_,.nil=>⟨(λx h=>by cases h),λx h=>by cases h⟩
 | x::xs,y::ys,.cons r t=>by
  obtain ⟨h1,h2⟩:=vS t;refine ⟨λa e=>?_,λb d=>?_⟩
  ·rcases bE.mp e with rfl | e
   ·exact ⟨y,aR ..,r⟩
   ·obtain ⟨z,c,f⟩:=h1 a e;exact ⟨z,aM _ c,f⟩
  ·rcases bE.mp d with rfl | d
   ·exact ⟨x,aR ..,r⟩
   ·obtain ⟨z,c,f⟩:=h2 b d;exact ⟨z,aM _ c,f⟩
structure lB(hs:List HE):Prop where
 ex:∃Ds,Paired (λh D=>UL D h) hs Ds/\pN Ds<2^1000
 len:hs.length<=3
 ne:1<=hs.length
def UO(hs:List HE)(ks:List Nat):Prop:=Paired (λh k=>k<h.ws.length) hs ks
def SN(ws:List (Str × List Fr)):Nat:=pN ((ws.flatMap λx=>x.2).map λf=>f.2.natAbs)
theorem BH:∀{Ds:List Nat}{d:Nat},d∈Ds->d ∣ pN Ds
 | e::Ds,d,h=>by
  show d ∣ e*pN Ds;rcases bE.mp h with rfl | h
  ·exact Nat.dvd_mul_right _ _
  ·exact Nat.dvd_trans (BH h) (Nat.dvd_mul_left _ _)
theorem ED{B:Nat}:∀{Ds:List Nat},(∀d∈Ds,d<=B)->pN Ds<=B^Ds.length
 | [],_=>aG _
 | d::Ds,h=>by
  show d*pN Ds<=B^(Ds.length+1);rw [Nat.pow_succ,Nat.mul_comm];exact Nat.mul_le_mul (ED λx hx=>h x (aM _ hx)) (h d (aR ..))
theorem KS{f:Fr}(l:eS f)(h0:0<=f.1)(h1:f.1<=f.2):Fn f.2.natAbs 1 f:=by
 have b:=l.pos;refine ⟨l,f.1,?_,Oo⟩;have e:=DP b;have a:((f.2.natAbs:Nat):Rat)=(f.2:Rat):=by
  have:((f.2.natAbs:Nat):Int)=f.2:=Oo;rw [<-pZ,this]
 rw [a];exact e
theorem EU{F:Nat}:∀{ws:List (Str × List Fr)},(∀x∈ws,x.2.length=F)->(ws.flatMap λx=>x.2).length=ws.length*F
 | [],_=>by simp
 | x::ws,h=>by
  rw [List.flatMap_cons,aT,EU λy hy=>h y (aM _ hy),h x (aR ..),bV,Nat.add_mul];omega
theorem aEk:∀F,F<=4->∀M,M<=5->(2<=F/\(rise F M).length<=40->F*M<=12):=Kk
theorem aEl:∀F,F<=4->∀M,M<=5->(2<=F/\(rise F M).length<=20->F*M<=9):=Kk
theorem fm9:∀F,F<=4->∀M,M<=5->(2<=F/\(rise F M).length<=9->F*M<=4):=Kk
theorem aCX{t o F W M:Nat}{fs:List Str}{ws:List (Str × List Fr)}{es:List eE}(T:tY t o F W fs ws)(R:LR F W M es){Z:Nat}(hz:F*M<=Z)(h12:Z<=12):∃D,UL D ⟨fs,ws,es⟩/\D<=LC^6*1000^(4*Z):=by
 have j:=T.lenF;have l:=T.lenW;have hF:=T.hF;have hW:=T.hW;have f1:=R.f1;have e:∀x∈ws,x.2.length=F:=λx a=>(T.sh x a).len;have i:∀x∈ws,∀f∈x.2,f.2.natAbs∈(ws.flatMap λx=>x.2).map λf=>f.2.natAbs:=λx a f b=>aS.mpr ⟨f,List.mem_flatMap.mpr ⟨x,a,b⟩,rfl⟩;have h:∀d∈(ws.flatMap λx=>x.2).map (λf=>f.2.natAbs),0<d/\d<=1000:=λd hd=>by
  obtain ⟨f,b,rfl⟩:=aS.mp hd;obtain ⟨x,a,b⟩:=List.mem_flatMap.mp b;have c:=((T.sh x a).low f b).pos;have r:=(T.sh x a).dn f b;omega
 have m:0<SN ws:=by
  have:=(qY (Ds:=(ws.flatMap λx=>x.2).map λf=>f.2.natAbs) ((ws.flatMap λx=>x.2).map λf=>f.2.natAbs).length λd hd=>(h d hd).1).1;rw [cE] at this;exact this
 have n:SN ws<=1000^(4*F):=by
  have c:=ED (B:=1000) λd hd=>(h d hd).2;rw [aC,EU e,l] at c;exact aY c (bI Dd (dM _ Oo))
 have y:SN ws^M<=1000^(4*Z):=by
  have c:=Nat.pow_le_pow_left n M;rw [<-Nat.pow_mul,Nat.mul_assoc] at c;exact aY c (bI Dd (fA _ hz))
 have u:LC^6*SN ws^M<=LC^6*1000^(4*Z):=fA _ y;have A:LC^6*1000^(4*Z)<=LC^6*1000^48:=fA _ (bI Dd Oo);have z:LC^6*1000^48<2^600:=Kk;have C:(2:Nat)^600<2^2000:=Kk;have p:SN ws<2^400:=bA (aY n (bI Dd (show 4*F<=16 by omega))) Kk;have RG:=R.g m (show LC^6*SN ws^M<2^2000 by omega);refine ⟨LC^6*SN ws^M,⟨⟨M,SN ws,by rw [j,l];exact RG,rfl,?_,m,p⟩,by show 2<=fs.length;omega,by show fs.length<=4;omega,by show 2<=ws.length;omega,by show ws.length<=4;omega,λx a=>by rw [j];exact e x a,λx a f b=>⟨(T.sh x a).low f b,(T.sh x a).pos f b⟩,λx a=>?_,Oo⟩,u⟩
 ·refine ⟨rfl,λx a f b=>?_,λx a=>⟨(T.sh x a).low,λf b=>?_,λf b=>?_⟩⟩
  ·exact (KS ((T.sh x a).low f b) ((T.sh x a).pos f b) ((T.sh x a).le f b)).dvd (BH (i x a f b))
  ·have c:=(T.sh x a).pos f b;have r:=(T.sh x a).le f b;have s:=(T.sh x a).dn f b;have w:(2:Nat)^10=1024:=Dd;omega
  ·have c:=((T.sh x a).low f b).pos;have s:=(T.sh x a).dn f b;have w:(2:Nat)^10=1024:=Dd;omega
 ·have:=(T.sh x a).one;rw [<-GX x.2 (T.sh x a).low,this,GY]
section
end
section
end
section
end
theorem pR{H:Hp}{h:HE}{v:V}(r:cB H (hD h) v):∃a t u,v=.ref a/\H a=some (.tup [t,u])/\cB H (UQ h.fs h.ws) t/\cB H (xM h.es) u:=by
 obtain ⟨a,f,rfl,e,b⟩:=dX r;obtain ⟨t,u,rfl,c,d⟩:=fW b;exact ⟨a,t,u,rfl,e,c,d⟩
theorem lB.at_{hs:List HE}(ok:lB hs){i:Nat}{h:HE}(e:hs[i]?=some h):∃D,UL D h:=by
 obtain ⟨b,a,_⟩:=ok.ex;obtain ⟨D,_,r⟩:=(vS a).1 h (aV e);exact ⟨D,r⟩
section
end
abbrev sQ6:Stmt:=(top 37)
theorem cQ6:cT ["_law_feed_here","_law_room","_law_many","_law_hall_here","_law_k","_law_trial_here"] ["_law_feed_here"] (bJ sQ6):=⟨rfl,rfl,rfl,Kk,rfl,Kk,Kk⟩
def BA(n:Nat):Nat:=if n=1 then 40 else if n=2 then 20 else 9
def zOf(n:Nat):Nat:=if n=1 then 12 else if n=2 then 9 else 4
structure HDr(n:Nat)(h:HE):Prop where
 ex:∃t o F W M,tY t o F W h.fs h.ws/\LR F W M h.es/\F*M<=zOf n
@[irreducible] def oF:Sp:=λvs H Q _=>∃(p L:Addr),vs=[.ref p]/\cD H p L/\∀v hs H',cD H' p L->aO p H H'->cB H' (ON hs) v->lB hs->(∀x∈hs,HDr hs.length x)->Q v H'
theorem GQ{H:Hp}{Q:VK}{E:XK}{p L:Addr}(F:cD H p L)(k:∀v hs H',cD H' p L->aO p H H'->cB H' (ON hs) v->lB hs->(∀x∈hs,HDr hs.length x)->Q v H'):oF [.ref p] H Q E:=by unfold oF;exact ⟨p,L,rfl,F,k⟩
theorem OS{n F M:Nat}(hn:n=1\/n=2\/n=3)(f2:2<=F)(f4:F<=4)(m5:M<=5)(h:(rise F M).length<=BA n):F*M<=zOf n:=by
 rcases hn with rfl | rfl | rfl
 ·exact aEk F f4 M m5 ⟨f2,h⟩
 ·exact aEl F f4 M m5 ⟨f2,h⟩
 ·exact fm9 F f4 M m5 ⟨f2,h⟩
theorem aA5{B:Nat}{Ds:List Nat}{n:Nat}(h:∀d∈Ds,d<=B)(hl:Ds.length=n):pN Ds<=B^n:=hl ▸ ED h
theorem XG{n:Nat}{hs:List HE}(hn:n=1\/n=2\/n=3)(hl:hs.length=n)(h:∀x∈hs,HDr n x):lB hs:=by
 have f:zOf n<=12:=by rcases hn with rfl | rfl | rfl <;> decide
 have all:∀l:List HE,(∀x∈l,HDr n x)->∃a:List Nat,Paired (λh D=>UL D h) l a/\∀d∈a,d<=LC^6*1000^(4*zOf n):=λl=>by
  induction l with
  | nil=>exact λ_=>⟨[],.nil,λd hd=>by cases hd⟩
  | cons x l ih =>
   intro i;obtain ⟨t,o,F,W,M,T,R,s⟩:=(i x (aR ..)).ex;obtain ⟨D,m,p⟩:=aCX T R s f;obtain ⟨a,b,e⟩:=ih λy j=>i y (aM _ j);refine ⟨D::a,.cons m b,λd hd=>?_⟩;rcases bE.mp hd with rfl | hd
   ·exact p
   ·exact e d hd
 obtain ⟨a,b,e⟩:=all hs h;have c:a.length=n:=by rw [<-b.length];exact hl
 have r:=aA5 e c;refine ⟨⟨a,b,bA r ?_⟩,Oo,Oo⟩;rcases hn with rfl | rfl | rfl <;> decide +kernel
section
theorem oQ6(F:lC K "_law_hall" "_law_hall" sQ6 f fd)(T:nT K mg c)(FQ2:iP eV P w K mg base 1 "_law_draw" ["_law_feed_here","_law_many"] iT)(FQ16:iP eV P w K mg base 3 "_law_trial" ["_law_feed_here"] oB)(FQ12:iP eV P w K mg base 3 "_law_rule" ["_law_feed_here","_law_faces","_law_ways","_law_room"] oD):fJ P w K mg base eV 4 f fd ["_law_feed_here"] oF:=by
 refine F.oky cQ6 λd H Q E h=>?_;unfold oF at h;obtain ⟨p,L,rfl,FA,k⟩:=h;refine ⟨rfl,λcdv A ω s ξ=>?_⟩;refine ⟨_,(aQ (bQ (i:=1) cQ6.nd rfl (Or.inl rfl) (eK (aP aK (aP aK (aP aK aI)))))
  (aQ (bQ (i:=2) cQ6.nd rfl (Or.inl rfl) (cF eP aK (cG FQ2 (ξ.mono Dd) (aP (aJ 0) (aP aK aI)))))
  (aQ (bQ (i:=3) cQ6.nd rfl (Or.inl rfl) (eK aI))
  (aQ (fC PassesOwn.never rfl (eN rfl T.b_range (aP (aJ 2) aI)) (cL (i:=4) cQ6.nd rfl (Or.inl rfl)) (aQ (bQ (i:=5) cQ6.nd rfl (Or.inl rfl) (cG FQ16 (ξ.mono Dd) (aP (aJ 0) aI)))
  (aQ (rV (lJ (MA (GC (eJ EE (aJ 4) aK (nomark _)) (zZ (eJ vT (cG FQ2 (ξ.mono Dd) (aP (aJ 0) (aP aK aI))) aK (nomark _))))) (bO (bQ (i:=5) cQ6.nd rfl (Or.inl rfl) (bU bL (bU bL (aJ 3) aK (λ_ _=>rfl)) aK (λ_ _=>rfl)))) gY))
  (bO (jK (qK PySem.F.plainAttrs_list PySem.F.slot_list_append PySem.F.type_list_append vW (aJ 3) (aP (cW (aP (aJ 5) (aP (cG FQ12 (ξ.mono Dd) (aP (aJ 0) (aP (gF iK (by rfl) T.b_len Kk (aP (bU bL (aJ 5) aK (λ_ _=>rfl)) aI)) (aP (gF iK (by rfl) T.b_len Kk (aP (bU bL (aJ 5) aK (λ_ _=>rfl)) aI)) (aP (bU bL (aJ 1) (cF HG (aJ 2) aK) (λ_ _=>rfl)) aI))))) aI))) aI)))))))
  (bO (dL (iA dI (by rfl) T.b_tuple Kk (aP (aJ 3) aI)))))))),?_⟩
 refine qF (by show 3<=64;decide) λW H1 χ e1 s1=>⟨_,rfl,?_⟩;refine cZ (FA.same s1) Dd Kk λx H2 x0 x1 F2 κ=>?_;obtain ⟨m,rfl⟩:=kS x0;refine ⟨_,_,rfl,rfl,?_⟩;obtain ⟨n,hn,u⟩:∃n:Nat,1+(m:Int)=(n:Int)/\(n=1\/n=2\/n=3):=⟨1+m,Oo,Oo⟩;refine qF (by show 0<=64;decide) λy H3 a e3 s3=>?_;have e:W≠p:=FA.ne χ;have ψ:=s3 _ _ (κ.at e e1);have F3:=F2.same s3;have B3:aO p H H3:=(s1.but.trans κ).trans s3.but;have B:y≠p:=F2.ne a;have nHL:y≠L:=F2.neL a;have ac:y≠W:=λz=>by rw [z,κ.at e e1] at a;cases a
 have α:H y=none:=aO.free (p:=p) (s1.but.trans κ) F2.there a;refine ⟨_,rfl,_,rfl,?_⟩;show _/\_/\_;rw [hn];refine ⟨Oo,Oo,?_⟩;rw [show ((n:Nat):Int).toNat=n by omega];refine hU (λi σ H'=>∃(o4 τ:Option V) (d:List V) (r:List HE),σ=[some (.ref p),some (.ref W),some (.int (n:Int)),some (.ref y),o4,τ]/\cD H' p L/\aO p H H'/\H' W=some (.lst [.int 40,.int 20,.int 9])/\H' y=some (.lst d)/\aZ H' (r.map hD) d/\r.length=i/\∀x∈r,HDr n x) ⟨_,_,[],[],by rw [<-hn];rfl,F3,B3,ψ,e3,aZ.nil,rfl,λx J=>by cases J⟩ ?_ ?_
 ·rintro i σ H4 hi ⟨o4,τ,d,r,rfl,F4,B4,ε,e4,r4,ρ,θ⟩;rw [show (0:Int)+(i:Int)=(i:Int) by omega];refine ⟨_,rfl,?_⟩;refine GN F4 λv t o O G fs ws H5 F5 ι r5 T5=>?_;have t5:=F4.t ι;have e5:=ι.at B e4;have Y:=ι.at e ε;have ζ:=r4.flat t5 (mN _);have B5:=B4.trans ι;refine ⟨λσ H'=>∃(v:V) (t o O G:Nat) (fs:List Str) (ws:List (Str × List Fr)),σ=[some (.ref p),some (.ref W),some (.int (n:Int)),some (.ref y),some (.int (i:Int)),some v]/\cD H' p L/\aO p H H'/\H' W=some (.lst [.int 40,.int 20,.int 9])/\H' y=some (.lst d)/\aZ H' (r.map hD) d/\cB H' (UQ fs ws) v/\tY t o O G fs ws,?_,?_⟩
  ·rintro σ H6 ⟨v,t,o,O,G,fs,ws,rfl,F6,B6,b,U,X,δ,T6⟩;have hF:=T6.hF;have hW:=T6.hW;obtain ⟨at',af,aw,xf,xw,rfl,D,haf,haw,rxf,ab⟩:=IV δ;have ad:xf.length=O:=by rw [rxf.len,aC];exact T6.lenF
   have lxw:xw.length=G:=by rw [ab.len,aC];exact T6.lenW
   refine ⟨_,rfl,VC U,_,rfl,_,rfl,_,rfl,jG D rfl ?_⟩;refine VR haf ⟨_,rfl,jG D rfl ?_⟩;refine VR haw ⟨_,rfl,_,rfl,_,_,rfl,rfl,?_⟩;have I:([.int 40,.int 20,.int 9]:List V)[n-1]?=some (.int (BA n:Nat)):=by rcases u with rfl | rfl | rfl <;> rfl
   refine mK b (by rw [show (n:Int)-1=((n-1:Nat):Int) by omega];exact cP I) ?_;rw [ad,lxw];have C:1<=BA n/\BA n<=40:=by rcases u with rfl | rfl | rfl <;> decide
   refine GO F6 Oo Oo Oo Oo C.1 C.2 λv7 es M H7 F7 ν r7 R7 N=>?_;have t7:=F6.t ν;refine lI (by show 2<=64;decide) λq8 H8 hq8 e8 S=>?_;have Z:=S _ _ (ν.at B U);have lvs:d.length=r.length:=dN X;refine aDb Z Oo λH9 e9 μ=>?_;have φ:=μ.t Z;have γ:dJ H6 H9:=(t7.trans S.t).trans φ;refine ⟨_,_,d++[.ref q8],r++[⟨fs,ws,es⟩],rfl,(F7.same S).but μ B nHL,aO.thru α ((B6.trans ν).trans S.but) μ,μ.at ac.symm (S _ _ (ν.at e b)),e9,?_,by rw [aT,ρ];rfl,λx J=>?_⟩
   ·rw [bR];exact aZ.snoc (X.flat γ (mN _)) (cB.tup (φ _ _ e8) (aZ.cons (δ.flat γ (uY _ _)) (aZ.cons ((r7.same S).flat φ (yJ _)) aZ.nil)))
   ·rcases dC.mp J with J | J
    ·exact θ x J
    ·rw [bT.mp J];exact ⟨t,o,O,G,M,T6,R7,OS u Oo Oo R7.m5 N⟩
  ·refine ⟨_,rfl,_,_,rfl,rfl,⟨_,rfl,BS (λR=>?_) (λR=>?_)⟩⟩
   ·have R:0<i:=by have:=R;omega
    refine ⟨_,rfl,?_⟩;refine cZ F5 Dd Kk λz H6 z0 z1 F6 ο=>?_;have t6:=F5.t ο;have U:=ο.at B e5;have b:=ο.at e Y;have X:=ζ.flat t6 (mN _);have B6:=B5.trans ο;have r6t:=r5.flat t6 (uY fs ws);refine ⟨rfl,_,rfl,BS (λhz=>?_) (λhz=>?_)⟩
    ·obtain ⟨η,β⟩:∃η,r[0]?=some η:=⟨_,aB Oo⟩;obtain ⟨y0,hy0,aa⟩:=dY X β;obtain ⟨ta,tt,tu,rfl,υ,rtt,rtu⟩:=pR aa;obtain ⟨t0,o0,F0,W0,M0,T0,_,_⟩:=(θ η (aV β)).ex;refine ⟨_,rfl,mK U (cP (j:=0) hy0) ?_⟩;exact jG υ rfl ⟨tt,t0,o0,F0,W0,η.fs,η.ws,rfl,F6,B6,b,U,X,rtt,T0⟩
    ·exact ⟨v,t,o,O,G,fs,ws,rfl,F6,B6,b,U,X,r6t,T5⟩
   ·exact ⟨v,t,o,O,G,fs,ws,rfl,F5,B5,Y,e5,ζ,r5,T5⟩
 ·rintro σ H4 ⟨o4,τ,d,r,rfl,F4,B4,ε,e4,r4,ρ,θ⟩;refine ⟨_,rfl,⟨y,d,rfl,.inl ⟨fR.of e4,λl hl=>?_⟩⟩⟩;have sl:=bC.upd (o:=.tup d) hl;exact k _ r _ (F4.same sl) (B4.trans sl.but) (cB.tup bH (r4.same sl)) (XG u ρ θ) (by rw [ρ];exact θ)
end
abbrev sQ1:Stmt:=(top 38)
theorem cQ1:cT ["_law_hall_here","_law_found","_law_trial_here","_law_rule_here","_law_longer","_law_one"] ["_law_hall_here"] (bJ sQ1):=⟨rfl,rfl,rfl,Kk,rfl,Kk,Kk⟩
def chs(hs:List HE):List (List Nat):=hs.foldl (λcs h=>cs.flatMap λks=>(List.range h.ws.length).map λk=>ks++[k]) [[]]
theorem wX(hs:List HE)(h:HE):chs (hs++[h])=(chs hs).flatMap λks=>(List.range h.ws.length).map λk=>ks++[k]:=by unfold chs;rw [List.foldl_append];rfl
theorem lR{α β:Type}{R:α->β->Prop}:∀{xs:List α}{ys:List β}{x:α}{y:β},Paired R xs ys->R x y->Paired R (xs++[x]) (ys++[y])
 | _,_,_,_,.nil,h=>.cons h .nil
 | _,_,_,_,.cons r t,h=>.cons r (lR t h)
theorem pP{α β:Type}{R:α->β->Prop}:∀{xs:List α}{zs:List β}{x:α},Paired R (xs++[x]) zs->∃ys y,zs=ys++[y]/\Paired R xs ys/\R x y
 | [],_,_,.cons r .nil=>⟨[],_,rfl,.nil,r⟩
 | a::xs,_,x,.cons r t=>by
  obtain ⟨ys,y,rfl,h1,h2⟩:=pP t;exact ⟨_::ys,y,rfl,.cons r h1,h2⟩
theorem BL(hs:List HE):∀ks,ks∈chs hs↔UO hs ks:=by
 have all:∀(n:Nat) (hs:List HE),hs.length=n->∀ks,ks∈chs hs↔UO hs ks:=λn=>by
  induction n with
  | zero =>
   intro hs b ks;rw [List.length_eq_zero_iff.mp b];constructor
   ·intro h;rw [bT.mp (show ks∈[[]] from h)];exact .nil
   ·intro h;cases h;exact bT.mpr rfl
  | succ n c =>
   intro hs b ks;obtain ⟨a,h,rfl⟩:∃a h,hs=a ++ [h]:=⟨hs.dropLast,hs.getLast (λz=>by rw [z] at b;cases b),(List.dropLast_concat_getLast _).symm⟩;have c:=c a (by rw [aT] at b;simpa using b);rw [wX,List.mem_flatMap];constructor
   ·rintro ⟨o,l,d⟩;obtain ⟨j,m,rfl⟩:=aS.mp d;exact lR ((c o).mp l) (cM.mp m)
   ·intro d;obtain ⟨e,y,rfl,f,i⟩:=pP d;exact ⟨e,(c e).mpr f,aS.mpr ⟨y,cM.mpr i,rfl⟩⟩
 exact all hs.length hs rfl
theorem LM:∀(n:Nat) (hs:List HE),hs.length=n->(∀h∈hs,h.ws.length<=4)->(chs hs).length<=4^n:=λn=>by
 induction n with
 | zero=>intro hs c _;rw [List.length_eq_zero_iff.mp c];exact aG _
 | succ n d =>
  intro hs c e;obtain ⟨b,h,rfl⟩:∃b h,hs=b ++ [h]:=⟨hs.dropLast,hs.getLast (λz=>by rw [z] at c;cases c),(List.dropLast_concat_getLast _).symm⟩;have d:=d b (by rw [aT] at c;simpa using c) λx m=>e x (dA _ m);have i:=e h (bZ _ (bT.mpr rfl));rw [wX];have j:∀l:List (List Nat),(l.flatMap λf=>(List.range h.ws.length).map λk=>f++[k]).length=l.length*h.ws.length:=λl=>by
   induction l with
   | nil=>simp
   | cons a l d=>rw [List.flatMap_cons,aT,d,aC,fX,bV,Nat.add_mul];omega
  rw [j,Nat.pow_succ];exact Nat.mul_le_mul d i
@[irreducible] def kO:Sp:=λvs H Q _=>∃(x:V) (hs:List HE),vs=[x]/\cB H (ON hs) x/\lB hs/\∀D H',bC H H'->H D=none->FW H' D (chs hs)->Q (.ref D) H'
theorem AR{H:Hp}{Q:VK}{E:XK}{x:V}{hs:List HE}(h1:cB H (ON hs) x)(h2:lB hs)(k:∀D H',bC H H'->H D=none->FW H' D (chs hs)->Q (.ref D) H'):kO [x] H Q E:=by unfold kO;exact ⟨x,hs,rfl,h1,h2,k⟩
theorem lB.w4{hs:List HE}(ok:lB hs):∀h∈hs,h.ws.length<=4:=λh a=>by
 obtain ⟨i,b⟩:=dE.mp a;obtain ⟨D,r⟩:=ok.at_ b;exact r.w4
theorem lB.few{hs:List HE}(ok:lB hs)(i:Nat):(chs (hs.take i)).length<=64:=by
 have c:=LM _ (hs.take i) rfl λh b=>ok.w4 h (List.mem_of_mem_take b);have a:(hs.take i).length<=3:=by rw [bW];have:=ok.len;omega
 exact aY c (bI Dd a)
section
theorem oQ1(F:lC K "_law_choices" "_law_choices" sQ1 f fd)(T:nT K mg c):fJ P w K mg base eV 1 f fd ["_law_hall_here"] kO:=by
 refine F.oky cQ1 λS H Q E h=>?_;unfold kO at h;obtain ⟨x,L,rfl,rx,ok,k⟩:=h;refine ⟨rfl,λcdv A α s hr=>?_⟩;obtain ⟨a,xs,rfl,ha,B⟩:=dX rx;have lx:xs.length=L.length:=dN B;have l3:=ok.len;refine ⟨_,(aQ (bQ (i:=1) cQ1.nd rfl (Or.inl rfl) (eK (aP (cW aI) aI)))
  (aQ (fC PassesOwn.never rfl (nX (aJ 0)) (hV rfl (cR (cL (i:=2) cQ1.nd rfl (Or.inl rfl)) (cR (cL (i:=3) cQ1.nd rfl (Or.inl rfl)) gC))) (aQ (bQ (i:=4) cQ1.nd rfl (Or.inl rfl) (eK aI))
  (aQ (fC PassesOwn.never rfl (gG (aJ 1)) (cL (i:=5) cQ1.nd rfl (Or.inr rfl)) (bO (jK (qK PySem.F.plainAttrs_list PySem.F.slot_list_extend PySem.F.type_list_extend BJ (aJ 4) (aP (gQ (eR.of (psc:=bJ sQ1) (N:=["_law_hall_here","_law_found","_law_trial_here","_law_rule_here","_law_longer","_law_one"]) (N':=["_law_way","_law_one"]) (js:=[5]) Kk rfl rfl rfl) (eN rfl T.b_range (aP (gF iK (by rfl) T.b_len Kk (aP (bU bL (aJ 2) aK (λ_ _=>rfl)) aI)) aI)) (λ_ _ _ _=>fB) (λ_ _ _ _=>(cF (jN K) (aJ 1) (cW (aP (aJ 0) aI))))) aI)))))
  (bO (bQ (i:=1) cQ1.nd rfl (Or.inl rfl) (aJ 4))))))
  (bO (dL (aJ 1))))),?_⟩
 refine lI (by show 0<=64;decide) λq1 H1 hq1 e1 s1=>qF (by show 1<=64;decide) λD2 H2 ε e2 s2=>?_;have S2:=s1.trans s2;have L2':FW H2 D2 (chs (L.take 0)):=⟨_,e2,aZ.cons (cB.tup (s2 _ _ e1) aZ.nil) aZ.nil⟩;refine ⟨_,rfl,a,rfl,⟨_,fO.of (S2 _ _ ha)⟩,KR (xs:=xs) (λi σ H'=>∃(Y θ φ o:Option V) (D:Addr),σ=[some (.ref a),some (.ref D),Y,θ,φ,o]/\bC H H'/\H D=none/\FW H' D (chs (L.take i))) ⟨_,_,_,_,D2,rfl,S2,s1.free ε,L2'⟩ (λi σ H' _ q=>?_) ?_ ?_⟩
 ·obtain ⟨_,_,_,_,_,_,s',_⟩:=q;exact fO.of (s' _ _ ha)
 ·rintro i v σ H3 hv ⟨Y,θ,φ,o,D,rfl,S3,hD,L3⟩;obtain ⟨h,hh,rh⟩:=eF B hv;obtain ⟨ta,tt,U,rfl,X,υ,rtu⟩:=pR (rh.same S3);obtain ⟨e,af,aw,xf,xw,rfl,G,haf,τ,rxf,γ⟩:=IV υ;have ρ:xw.length=h.ws.length:=dN γ;have w4:=ok.w4 h (aV hh);obtain ⟨ο,η,rD,lD⟩:=L3.len;have few:=ok.few i;refine ⟨ta,[.ref e,U],rfl,fO.of X,rfl,.ref e,[U],rfl,U,[],rfl,rfl,?_⟩;refine qF (by show 0<=64;decide) λO H4 m e4 R=>?_;have d:=S3.free m;have ω:O≠D:=λz=>by rw [z,η] at m;cases m
  refine ⟨_,rfl,D,rfl,⟨_,fR.of (R _ _ η)⟩,jV (xs:=ο) (λj σ H'=>∃(o:Option V) (S:List V),σ=[some (.ref a),some (.ref D),some (.ref e),some U,some (.ref O),o]/\bC H H'/\dJ H3 H'/\H' D=some (.lst ο)/\H' O=some (.lst S)/\aZ H' ((((chs (L.take i)).take j).flatMap λb=>(List.range h.ws.length).map λk=>b++[k]).map gK) S/\S.length<=4*j) ⟨_,[],rfl,S3.trans R,R.t,R _ _ η,e4,by rw [List.take_zero];exact aZ.nil,aG _⟩ (λj σ H' _ q=>?_) ?_ ?_⟩
  ·obtain ⟨_,_,_,_,_,q,_⟩:=q;exact fR.of q
  ·rintro j u σ H5 hu ⟨χ,l,rfl,S5,p,C,J,M,ι⟩;obtain ⟨b,r,ψ⟩:=eF rD hu;have hj:j<ο.length:=(aX.mp hu).1;obtain ⟨ka,rfl,δ⟩:=jX (ψ.flat p (fV _));have lks:b.length<=3:=by
    have:=(BL (L.take i) b).mp (aV r);have h1:=this.length;rw [<-h1,bW];omega
   refine ⟨_,rfl,VC J,_,rfl,jG (p _ _ G) rfl ?_⟩;refine VR (p _ _ τ) ⟨_,rfl,Oo,Oo,sS (λk y H'=>cB H' (gK (b++[k])) y) (λ_ y Ha Hb s h=>h.flat s (fV _)) Oo (λk H' Q' W s' k'=>?_) (λD6 I H6 hD6 e6 n ν ζ=>?_)⟩
   ·refine ⟨_,rfl,_,rfl,?_⟩;refine lI (by show 1<=64;decide) λq7 H7 hq7 κ s7=>xS (s7 _ _ (s' _ _ δ)) κ (by rw [aC];show b.length+1<=1000;omega) λc8 H8 s8 e8=>k' _ H8 (s7.trans s8) (lZ ?_);rw [e8,bR];show some (HO.tup (b.map mB++[.int (0+(k:Int))]))=_;rw [show (0:Int)+(k:Int)=(k:Int) by omega];rfl
   ·have μ:I.length=h.ws.length:=by rw [ν,ρ];omega
    refine aEm (n _ _ J) e6 Oo λH7 κ ξ=>?_;have Z:=ξ.t (n _ _ J);refine ⟨_,l++I,rfl,bC.thru d (S5.trans n) ξ,(p.trans n.t).trans Z,ξ.at ω.symm (n _ _ C),κ,?_,by rw [aT];omega⟩;rw [fI r,List.flatMap_append,bR];refine aZ.app ((M.same n).flat Z (LD _)) ?_;rw [List.flatMap_cons,List.flatMap_nil,List.append_nil,List.map_map];refine aZ.ofIdx (by rw [μ,aC,fX]) λk y W=>?_;have β:k<h.ws.length:=by have:=(aX.mp W).1;omega
    exact ⟨gK (b++[k]),by rw [aL,gA β];rfl,(ζ k y W).flat Z (fV _)⟩
  ·rintro σ H5 ⟨χ,l,rfl,S5,p,C,J,M,ι⟩;rw [lD,cE] at M;refine ⟨_,rfl,⟨_,_,_,_,O,rfl,S5,d,l,J,?_⟩⟩;rw [fI hh,wX];exact M
 ·rintro σ H3 ⟨Y,θ,φ,o,D,rfl,S3,hD,L3⟩;rw [lx,cE] at L3;exact ⟨_,rfl,k D H3 S3 hD L3⟩
end
abbrev aAy:Stmt:=(top 24)
theorem aEs:cT ["things","place","thing"] ["things","place","thing"] (bJ aAy):=⟨rfl,rfl,rfl,Kk,rfl,Kk,Kk⟩
abbrev aAD:Stmt:=(top 19)
theorem TU:cT ["rule","way","found","counts","says","right"] ["rule","way"] (bJ aAD):=⟨rfl,rfl,rfl,Kk,rfl,Kk,Kk⟩
@[irreducible] def vE:Sp:=λvs H Q _=>∃(a:Addr) (xs:List V) (i:Nat) (x:V),vs=[.ref a,.int (i:Int),x]/\H a=some (.tup xs)/\i<xs.length/\xs.length<=60/\∀c H',bC H H'->H' c=some (.tup (xs.set i x))->Q (.ref c) H'
theorem DM{H:Hp}{Q:VK}{E:XK}{a:Addr}{xs:List V}{i:Nat}{x:V}(h1:H a=some (.tup xs))(h2:i<xs.length)(h3:xs.length<=60)(k:∀c H',bC H H'->H' c=some (.tup (xs.set i x))->Q (.ref c) H'):vE [.ref a,.int (i:Int),x] H Q E:=by
 unfold vE;exact ⟨a,xs,i,x,rfl,h1,h2,h3,k⟩
def e3(k:Nat)(e:eE):List Fr:=[e.2.getD 0 (0,1),e.2.getD (1+k) (0,1),dU (1-(fM e.2 0+fM e.2 (1+k)))]
structure rQ(H:Hp)(a:Addr)(k:Nat)(es:List eE):Prop where
 ex:∃kvs:List (List fD × V),H a=some (.dT kvs)/\∀e∈es,∃v,eT kvs (kT (ci e.1))=some v/\cB H (uH (e3 k e)) v
theorem rQ.keep{H H':Hp}{a:Addr}{k:Nat}{es:List eE}(h:rQ H a k es)(t:dJ H H')(s:∀kvs,H a=some (.dT kvs)->H' a=some (.dT kvs)):rQ H' a k es:=by
 obtain ⟨kvs,d,b⟩:=h.ex;exact ⟨kvs,s _ d,λe f=>by
  obtain ⟨v,c,i⟩:=b e f;exact ⟨v,c,i.flat t (kP _)⟩⟩
theorem rQ.same{H H':Hp}{a:Addr}{k:Nat}{es:List eE}(h:rQ H a k es)(s:bC H H'):rQ H' a k es:=h.keep s.t λ_ e=>s _ _ e
@[irreducible] def qV(K:PySem.W.Frag):Sp:=λvs H Q _=>∃(r:V) (es:List eE) (F W k:Nat),vs=[r,.int (k:Int)]/\cB H (xM es) r/\RlC F es/\(∀e∈es,xH (1+W) e.2)/\k<W/\es.length<=64/\∀a H',bC H H'->H a=none->rQ H' a k es->Q (.ref a) H'
theorem MN{K:PySem.W.Frag}{H:Hp}{Q:VK}{E:XK}{r:V}{es:List eE}{F W k:Nat}(h1:cB H (xM es) r)(h2:RlC F es)(h3:∀e∈es,xH (1+W) e.2)(h4:k<W)(h5:es.length<=64)(q:∀a H',bC H H'->H a=none->rQ H' a k es->Q (.ref a) H'):qV K [r,.int (k:Int)] H Q E:=by
 unfold qV;exact ⟨r,es,F,W,k,rfl,h1,h2,h3,h4,h5,q⟩
theorem BV{f:Fr}(h:eS f):dU (rv f)=f:=kQ (cJ _) h (gD _)
theorem fT{fs:List Fr}{i:Nat}{f:Fr}(h:fs[i]?=some f):fM fs i=rv f/\fs.getD i (0,1)=f:=by
 unfold fM;rw [aE,h];exact ⟨rfl,rfl⟩
theorem sJ{es:List eE}(nd:(es.map (·.1)).Nodup){a b:eE}(ha:a∈es)(hb:b∈es)(e:a.1=b.1):a=b:=by
 obtain ⟨i,c⟩:=dE.mp ha;obtain ⟨j,d⟩:=dE.mp hb;have f:(es.map (·.1))[i]?=(es.map (·.1))[j]?:=by rw [aL,aL,c,d];exact congrArg some e
 have:=(List.getElem?_inj (by rw [aC];exact (aX.mp c).1) nd).mp f;subst this;rw [c] at d;exact dB d
section
theorem aDV(F:lC K "put" "put" aAy f fd)(T:nT K mg c):fJ P w K mg base eV 1 f fd ["things","place","thing"] vE:=by
 refine F.oky aEs λJ H Q E h=>?_;unfold vE at h;obtain ⟨a,b,i,x,rfl,n,p,M,k⟩:=h;refine ⟨rfl,λC A d s L=>?_⟩;refine ⟨_,(bO (dL (cF (jN K) (cF (jN K) (fS (lQ K) (aJ 0) gP (gO (aJ 1))) (cW (aP (aJ 2) aI))) (fS (lQ K) (aJ 0) (gO (cF eP (aJ 1) aK)) gP)))),⟨_,rfl,_,rfl,_,rfl,?_⟩⟩;refine AT n λN H2 j u=>⟨_,rfl,?_⟩;refine lI (by show 1<=64;decide) λI H3 r e3 e=>xS (e _ _ u) e3 (by rw [bW];show min i b.length+1<=1000;omega) λG H4 l B=>⟨_,rfl,_,rfl,_,_,rfl,rfl,?_⟩;refine ⟨_,rfl,?_⟩;refine uG (k:=i+1) Oo (l _ _ (e _ _ (j _ _ n))) λD H5 m o=>xS (m _ _ B) o (by rw [aT,bW,List.length_drop];show min i b.length+1+(b.length-(i+1))<=1000;omega) λO H6 y z=>k _ H6 ((((j.trans e).trans l).trans m).trans y) ?_;rw [z,List.set_eq_take_append_cons_drop,if_pos p,List.append_assoc]
 rfl
theorem aD4(F:lC K "ends_of" "ends_of" aAD f fd)(T:nT K mg c)(FQ22:iP eV P w K mg base 3 "less" ["one","other"] (oG K))(FQ26:iP eV P w K mg base 2 "plus" ["one","other"] (lO K)):fJ P w K mg base eV 4 f fd ["rule","way"] (qV K):=by
 refine F.oky TU λvs H Q E h=>?_;unfold qV at h;obtain ⟨r,ε,F,W,k,rfl,rr,RL,sy,hk,few,q⟩:=h;refine ⟨rfl,λcdv A ι s ω=>?_⟩;obtain ⟨ra,α,rfl,M,Z⟩:=dX rr;have ρ:α.length=ε.length:=dN Z;refine ⟨_,(aQ (bQ (i:=2) TU.nd rfl (Or.inl rfl) CV)
  (aQ (fC PassesOwn.never rfl (nX (aJ 0)) (hV rfl (cR (cL (i:=3) TU.nd rfl (Or.inl rfl)) (cR (cL (i:=4) TU.nd rfl (Or.inl rfl)) gC))) (aQ (bQ (i:=5) TU.nd rfl (Or.inl rfl) (bU bL (aJ 4) (cF eP aK (aJ 1)) (λ_ _=>rfl)))
  (bO (AA ω.u1 (aJ 2) (aJ 3) (cW (aP (bU bL (aJ 4) aK (λ_ _=>rfl)) (aP (aJ 5) (aP (cG FQ22 (ω.mono Dd) (aP (qI (v:=.ref c.ONE) rfl T.g_ONE rfl) (aP (cG FQ26 (ω.mono Dd) (aP (bU bL (aJ 4) aK (λ_ _=>rfl)) (aP (aJ 5) aI))) aI))) aI))))))))
  (bO (dL (aJ 2))))),?_⟩
 intro D hD;have ν:=bC.upd (o:=.dT []) hD;have e1:(upd H D (.dT [])) D=some (.dT []):=bH;generalize upd H D (.dT [])=H1 at ν e1 ⊢;refine ⟨_,rfl,ra,rfl,⟨_,fO.of (ν _ _ M)⟩,KR (xs:=α) (λi σ H'=>∃(ξ υ η:Option V) (a:List (List fD × V)),σ=[some (.ref ra),some (.int (k:Int)),some (.ref D),ξ,υ,η]/\bC H H'/\H' D=some (.dT a)/\a.length<=i/\(∀e∈ε.take i,∃v,eT a (kT (ci e.1))=some v/\cB H' (uH (e3 k e)) v)) ⟨_,_,_,[],rfl,ν,e1,bS _,λe J=>by rw [List.take_zero] at J;cases J⟩ (λi σ H' _ p=>?_) ?_ ?_⟩
 ·obtain ⟨_,_,_,_,_,s',_⟩:=p;exact fO.of (s' _ _ M)
 ·rintro i y σ H2 hy ⟨ξ,υ,η,a,rfl,δ,ζ,l2,n⟩;obtain ⟨e,J,re⟩:=eF Z hy;have X:=aV J;have hi:i<ε.length:=(aX.mp J).1;have L:=sy e X;obtain ⟨b,us,rfl,hb,χ⟩:=dX (re.same δ);obtain ⟨u,z,rfl,ru,rz⟩:=fW χ;obtain ⟨cu,rfl,φ⟩:=jX ru;obtain ⟨sa,sx,rfl,I,N⟩:=nB rz;have lsy:e.2.length=1+W:=by obtain ⟨ns,l,_,_,_,ef⟩:=L.ex;rw [ef,aC,l]
  obtain ⟨Y,x⟩:∃Y,e.2[0]?=some Y:=⟨_,aB Oo⟩;obtain ⟨γ,B⟩:∃γ,e.2[1+k]?=some γ:=⟨_,aB Oo⟩;obtain ⟨G,_,n0,d0⟩:=L.fn Y (aV x);obtain ⟨C,_,n1,d1⟩:=L.fn γ (aV B);obtain ⟨v0,O,R⟩:=dY N x;obtain ⟨v1,μ,S⟩:=dY N B;have z0:jW 10 Y:=⟨bA n0 Dd,bA d0 Dd⟩;have z1:jW 10 γ:=⟨bA n1 Dd,bA d1 Dd⟩;refine ⟨b,[.ref cu,.ref sa],rfl,fO.of hb,rfl,_,_,rfl,_,_,rfl,rfl,⟨_,rfl,_,rfl,_,_,rfl,rfl,jG I (by rw [show (1:Int)+(k:Int)=((1+k:Nat):Int) by omega];exact cP μ) ?_⟩⟩;refine ⟨_,rfl,jG I (cP (j:=0) O) ?_⟩;refine ⟨_,rfl,⟨_,rfl,jG I (cP (j:=0) O) ?_⟩⟩;refine ⟨_,rfl,?_⟩;refine oV (iO.of R) (iO.of S) G.low C.low (z0.up Dd) (z1.up Dd) λq3 H3 hq3 U s3=>?_;have ep:pK Y γ=dU (fM e.2 0+fM e.2 (1+k)):=by
   rw [(fT x).1,(fT B).1];exact kQ (xC G.low C.low) (cJ _) (by rw [AX G.low.pos C.low.pos,gD])
  rw [ep] at U;have κ:Qn LC 2 (fM e.2 0+fM e.2 (1+k)):=by
   rw [(fT x).1,(fT B).1];exact (Qn.add G.q C.q).le (show 1+1<=2 by decide)
  have zs:jW 4000 (dU (fM e.2 0+fM e.2 (1+k))):=iR κ Dd Kk Kk;refine GR (iO.same s3 (aBB T.o_ONE)) (iO.new U) aCP (cJ _) ⟨Kk,Kk⟩ zs λq4 H4 hq4 e4 s4=>?_;have τ:((1,1):Fr)=dU 1:=pA.symm;rw [τ,aAn] at e4;refine lI (by show 3<=64;decide) λq5 H5 hq5 e5 s5=>?_;have m:=(s3.trans s4).trans s5;refine ⟨_,rfl,_,rfl,?_⟩;have β:H5 cu=some (.tup ((ci e.1).map V.int)):=by rw [m _ _ φ,wW]
  refine dpT (m _ _ ζ) β Oo λH6 e6 b6=>?_;have t6:=aO.tT b6 (m _ _ ζ);have ψ:cB H5 (uH (e3 k e)) (.ref q5):=by
   refine cB.tup e5 ?_;show aZ H5 [eY (e.2.getD 0 (0,1)),eY (e.2.getD (1+k) (0,1)),eY (dU (1-(fM e.2 0+fM e.2 (1+k))))] _;rw [(fT x).2,(fT B).2];exact aZ.cons (R.same m) (aZ.cons (S.same m) (aZ.cons (eU (s5 _ _ e4)) aZ.nil))
  refine ⟨_,_,_,_,rfl,bC.thru hD (δ.trans m) b6,e6,?_,λd hd=>?_⟩
  ·have:=iL a (kT (ci e.1)) (V.ref q5);omega
  ·rw [CW];by_cases q:kT (ci d.1)=kT (ci e.1)
   ·rw [if_pos q];have ο:d=e:=by
     rw [fI J] at hd;rcases dC.mp hd with hd | hd
     ·have nd:=RL.nd;have h1:d.1=e.1:=CB (BR q);exact sJ nd (List.mem_of_mem_take hd) X h1
     ·exact bT.mp hd
    subst ο;exact ⟨_,rfl,ψ.flat t6 (kP _)⟩
   ·rw [if_neg q];have θ:d∈ε.take i:=by
     rw [fI J] at hd;rcases dC.mp hd with hd | hd
     ·exact hd
     ·exact absurd (by rw [bT.mp hd]) q
    obtain ⟨v,h3,h4⟩:=n d θ;exact ⟨v,h3,(h4.same m).flat t6 (kP _)⟩
 ·rintro σ H2 ⟨ξ,υ,η,a,rfl,δ,ζ,l2,n⟩;refine ⟨_,rfl,?_⟩;rw [ρ,cE] at n;exact q D H2 δ hD ⟨a,ζ,n⟩
end
abbrev VJ:Stmt:=(top 23)
theorem XX:cT ["stand","share","test","counts","ends","seen","over","found"] ["stand","share","test","counts","ends"] (bJ VJ):=⟨rfl,rfl,rfl,Kk,rfl,Kk,Kk⟩
abbrev aAw:Stmt:=(top 22)
theorem XY:cT ["stand","share","test","face_shares","ends","found","face","face_share"] ["stand","share","test","face_shares","ends"] (bJ aAw):=⟨rfl,rfl,rfl,Kk,rfl,Kk,Kk⟩
abbrev bsD(bs:List Bool):PyData:=.tuple (bs.map .bool)
abbrev nS(cs:List (List Nat)):PyData:=.tuple (cs.map gK)
abbrev qO(st:SS):PyData:=.tuple [nS st.1,bsD st.2.1,.bool st.2.2]
abbrev JT(p:SS × Rat):PyData:=.tuple [qO p.1,eY (dU p.2)]
theorem LO:∀bs:List Bool,cV (bs.map .bool)=true
 | []=>rfl
 | b::bs=>by show (dG (.bool b)&&cV (bs.map .bool))=true;rw [LO bs];rfl
theorem mP:∀cs:List (List Nat),cV (cs.map gK)=true
 | []=>rfl
 | c::cs=>by show (dG (gK c)&&cV (cs.map gK))=true;rw [mP cs,fV];rfl
theorem oA(st:SS):dG (qO st)=true:=by
 show (cV (st.1.map gK)&&(cV (st.2.1.map .bool)&&(true&&true)))=true;rw [mP,LO];rfl
theorem EC(p:SS × Rat):dG (JT p)=true:=by
 show (dG (qO p.1)&&(dG (eY (dU p.2))&&true))=true;rw [oA,fN];rfl
theorem iU:∀l:List (SS × Rat),cV (l.map JT)=true
 | []=>rfl
 | p::l=>by show (dG (JT p)&&cV (l.map JT))=true;rw [iU l,EC];rfl
theorem LN{H:Hp}:∀bs:List Bool,aZ H (bs.map .bool) (bs.map V.bl)
 | []=>aZ.nil
 | b::bs=>aZ.cons (show cB H (.bool b) (.bl b) from rfl) (LN bs)
theorem LS{H:Hp}:∀{bs:List Bool}{xs:List V},aZ H (bs.map .bool) xs->xs=bs.map V.bl
 | [],xs,h=>h
 | b::bs,xs,h=>by
  unfold aZ at h;obtain ⟨x,xs',rfl,hx,hr⟩:=(show ∃x xs',xs=x::xs'/\cB H (PyData.bool b) x/\aZ H (bs.map .bool) xs' from h);rw [LS hr];cases (show x=V.bl b from hx)
  rfl
theorem yE{H:Hp}{st:SS}{v:V}(h:cB H (qO st) v):∃a ac ab xs,v=.ref a/\H a=some (.tup [.ref ac,.ref ab,.bl st.2.2])/\H ac=some (.tup xs)/\aZ H (st.1.map gK) xs/\H ab=some (.tup (st.2.1.map V.bl)):=by
 obtain ⟨a,o,rfl,m,c⟩:=dX h;unfold aZ at c;obtain ⟨u,l,rfl,j,c⟩:=(show ∃x xs',o=x::xs'/\cB H (nS st.1) x/\aZ H [bsD st.2.1,.bool st.2.2] xs' from c);obtain ⟨y,z,rfl,i,n⟩:=fW c;obtain ⟨ac,xs,rfl,d,e⟩:=dX j;obtain ⟨ab,p,rfl,b,f⟩:=dX i;rw [LS f] at b;cases (show z=V.bl st.2.2 from n);exact ⟨a,ac,ab,xs,rfl,m,d,e,b⟩
theorem JD{H:Hp}{st:SS}{a ac ab:Addr}{xs:List V}(h:H a=some (.tup [.ref ac,.ref ab,.bl st.2.2]))(hc:H ac=some (.tup xs))(r:aZ H (st.1.map gK) xs)(hb:H ab=some (.tup (st.2.1.map V.bl))):cB H (qO st) (.ref a) :=
 cB.tup h (aZ.cons (cB.tup hc r) (aZ.cons (cB.tup hb (LN _)) (aZ.cons (show cB H (.bool st.2.2) (.bl st.2.2) from rfl) aZ.nil)))
theorem aZ.set{H:Hp}{d:PyData}{x:V}(hx:cB H d x):∀{ds:List PyData}{xs:List V}(i:Nat),aZ H ds xs->aZ H (ds.set i d) (xs.set i x)
 | [],xs,i,h=>by
  cases (show xs=[] from h);exact aZ.nil
 | d' :: ds,xs,i,h=>by
  unfold aZ at h;obtain ⟨y,ys,rfl,hy,hr⟩:=(show ∃x xs',xs=x::xs'/\cB H d' x/\aZ H ds xs' from h);cases i with
  | zero=>exact aZ.cons hx hr
  | succ i=>exact aZ.cons hy (aZ.set hx i hr)
theorem oK(N:Nat):Qn N 1 1:=⟨(N:Int),by rw [Rat.one_mul];exact (Rat.intCast_natCast N).symm,by simp⟩
def uI(es:List eE)(c:List Nat):List Fr:=((es.find? λe=>decide (e.1=c)).map (·.2)).getD []
theorem AW{es:List eE}(nd:(es.map (·.1)).Nodup){e:eE}(he:e∈es):uI es e.1=e.2:=by
 unfold uI;cases q:es.find? λx=>decide (x.1=e.1) with
 | none=>have:=List.find?_eq_none.mp q e he;simp at this
 | some x =>
  have b:=List.mem_of_find?_eq_some q;have a:x.1=e.1:=by simpa using List.find?_some q
  rw [sJ nd b he a];rfl
def PR(F:Nat)(sh:List Fr)(es:List eE)(k:Nat):TQ:=⟨F,λf=>fM sh f,λc=>fM (uI es c) 0,λc=>fM (uI es c) (1+k)⟩
@[irreducible] def mF(K:PySem.W.Frag):Sp:=λvs H Q _=>∃(sv qv cv:V) (i:Nat) (ea:Addr) (st:SS) (q:Rat) (e:eE) (es:List eE) (F n W k D:Nat) (sh:List Fr),vs=[sv,qv,.int (i:Int),cv,.ref ea]/\cB H (qO st) sv/\iO K H (dU q) qv/\Qn D 1 q/\0<D/\D<2^2500/\cB H (gK e.1) cv/\rQ H ea k es/\(es.map (·.1)).Nodup/\e∈es/\xH (1+W) e.2/\k<W/\st.1.length=n/\st.2.1.length=n/\i<n/\n<=3 /\
 ∀L ys H',H L=none->H' L=some (.lst ys)->aZ H' ((dH (PR F sh es k) st i e.1).map λp=>JT (p.1,q*p.2)) ys->bC H H'->Q (.ref L) H'
theorem vD{K:PySem.W.Frag}{H:Hp}{Q:VK}{E:XK}{sv qv cv:V}{i:Nat}{ea:Addr}{st:SS}{q:Rat}{e:eE}{es:List eE}{F n W k D:Nat}{sh:List Fr}(h1:cB H (qO st) sv)(h2:iO K H (dU q) qv)(h3:Qn D 1 q)(h4:0<D)(h5:D<2^2500)(h6:cB H (gK e.1) cv)(h7:rQ H ea k es)(h8:(es.map (·.1)).Nodup)(h9:e∈es)(h10:xH (1+W) e.2)(h11:k<W)(h12:st.1.length=n)(h13:st.2.1.length=n)(h14:i<n)(h15:n<=3)
  (k':∀L ys H',H L=none->H' L=some (.lst ys)->aZ H' ((dH (PR F sh es k) st i e.1).map λp=>JT (p.1,q*p.2)) ys->bC H H'->Q (.ref L) H'):mF K [sv,qv,.int (i:Int),cv,.ref ea] H Q E:=by
 unfold mF;exact ⟨sv,qv,cv,i,ea,st,q,e,es,F,n,W,k,D,sh,rfl,h1,h2,h3,h4,h5,h6,h7,h8,h9,h10,h11,h12,h13,h14,h15,k'⟩
section
theorem aDR(F:lC K "stands_come_to" "stands_come_to" VJ f fd)(T:nT K mg c)(FQ27:iP eV P w K mg base 1 "put" ["things","place","thing"] vE)(FQ32:iP eV P w K mg base 2 "times" ["one","other"] (mD K)):fJ P w K mg base eV 3 f fd ["stand","share","test","counts","ends"] (mF K):=by
 refine F.oky XX λvs H Q E h=>?_;unfold mF at h;obtain ⟨sv,qv,cv,i,ea,st,q,e,d,F,n,W,k,D,sh,rfl,ψ,rq,qn,d0,d1,rc,en,nd,he,u,hk,lc,lo,hi,n3,k'⟩:=h;refine ⟨rfl,λcdv A ν s ι=>?_⟩;obtain ⟨a,ac,ab,xs,rfl,γ,ω,Y,J⟩:=yE ψ;have lxs:xs.length=n:=by rw [Y.len,aC,lc]
 obtain ⟨ρ,rfl,Z⟩:=jX rc;obtain ⟨kvs,aa,hen⟩:=en.ex;obtain ⟨ev,κ,rev⟩:=hen e he;obtain ⟨eb,ex,rfl,U,I⟩:=nB rev;have lsy:e.2.length=1+W:=by obtain ⟨ns,l,_,_,_,ef⟩:=u.ex;rw [ef,aC,l]
 obtain ⟨τ,C⟩:∃τ,e.2[0]?=some τ:=⟨_,aB Oo⟩;obtain ⟨f1,R⟩:∃f1,e.2[1+k]?=some f1:=⟨_,aB Oo⟩;obtain ⟨S,_,n0,d0'⟩:=u.fn τ (aV C);obtain ⟨G,_,n1,d1'⟩:=u.fn f1 (aV R);have sz:jW 4000 (dU q):=iR qn d0 d1 Kk;refine ⟨_,(aQ (bQ (i:=5) XX.nd rfl (Or.inl rfl) (cG FQ27 (ι.mono Dd) (aP (bU bL (aJ 0) aK (λ_ _=>rfl)) (aP (aJ 2) (aP (aJ 3) aI)))))
  (aQ (bQ (i:=6) XX.nd rfl (Or.inl rfl) (cG FQ27 (ι.mono Dd) (aP (bU bL (aJ 0) aK (λ_ _=>rfl)) (aP (aJ 2) (aP tH aI)))))
  (aQ (bQ (i:=7) XX.nd rfl (Or.inl rfl) (eK (aP (cW (aP (aJ 5) (aP (bU bL (aJ 0) aK (λ_ _=>rfl)) (aP (bU bL (aJ 0) aK (λ_ _=>rfl)) aI)))) (aP (cW (aP (aJ 5) (aP (aJ 6) (aP (bU bL (aJ 0) aK (λ_ _=>rfl)) aI)))) (aP (cW (aP (aJ 5) (aP (aJ 6) (aP tH aI)))) aI)))))
  (bO (dL (jC (eI.of (psc:=bJ VJ) (N:=["stand","share","test","counts","ends","seen","over","found"]) (xs:=["one","part"]) (N':=["one","part","share"]) (js:=[1]) Kk rfl rfl rfl) (AB false true rfl T.b_zip (aP (aJ 7) (aP (qJ ι.u1 (aJ 4) (aJ 3)) aI))) (λ_ _ _ _=>fB) (λ_ _ _ _=>(cW (aP (aJ 0) (aP (cG FQ32 (ι.mono Dd) (aP (aJ 2) (aP (aJ 1) aI))) aI)))))))))),?_⟩
 refine ⟨_,rfl,jG γ rfl ?_⟩;refine ⟨_,rfl,_,rfl,?_⟩;refine DM ω Oo Oo λc1 H1 M e1=>⟨_,rfl,?_⟩;refine jG (M _ _ γ) rfl ⟨_,rfl,?_⟩;refine DM (M _ _ J) (by rw [aC];omega) (by rw [aC];omega) λc2 H2 ε e2=>?_;have α:H2 c2=some (.tup ((st.2.1.set i false).map V.bl)):=by rw [e2,List.map_set]
 have rs1:aZ H2 ((st.1.set i e.1).map gK) (xs.set i (.ref ρ)):=by
  rw [List.map_set];exact aZ.set (lZ ((M.trans ε) _ _ Z)) i (Y.same (M.trans ε))
 have S2:=M.trans ε;refine ⟨_,rfl,_,rfl,jG (S2 _ _ γ) rfl ?_⟩;refine ⟨_,rfl,jG (S2 _ _ γ) rfl ?_⟩;refine lI (by show 3<=64;decide) λq3 H3 hq3 g3 s3=>?_;have S3:=S2.trans s3;refine ⟨_,rfl,_,rfl,_,rfl,jG (S3 _ _ γ) rfl ?_⟩;refine lI (by show 3<=64;decide) λq4 H4 hq4 g4 s4=>⟨_,rfl,_,rfl,?_⟩;refine lI (by show 3<=64;decide) λq5 H5 hq5 g5 s5=>qF (by show 3<=64;decide) λq6 H6 hq6 g6 θ=>?_;have b:=((s3.trans s4).trans s5).trans θ;have S6:=S2.trans b;have r:H6 c1=some (.tup (xs.set i (.ref ρ))):=(ε.trans b) _ _ e1;have r1:cB H6 (qO (st.1.set i e.1,st.2.1,st.2.2)) (.ref q3):=JD (st:=(st.1.set i e.1,st.2.1,st.2.2)) (((s4.trans s5).trans θ) _ _ g3) r (rs1.same b) (S6 _ _ J);have r2:cB H6 (qO (st.1.set i e.1,st.2.1.set i false,st.2.2)) (.ref q4):=JD (st:=(st.1.set i e.1,st.2.1.set i false,st.2.2)) ((s5.trans θ) _ _ g4) r (rs1.same b) (b _ _ α);have r3:cB H6 (qO (st.1.set i e.1,st.2.1.set i false,true)) (.ref q5):=JD (st:=(st.1.set i e.1,st.2.1.set i false,true)) (θ _ _ g5) r (rs1.same b) (b _ _ α);refine ⟨_,rfl,_,rfl,_,rfl,?_⟩;have δ:H6 ρ=some (.tup ((ci e.1).map V.int)):=by rw [S6 _ _ Z,wW]
 refine dgT (S6 _ _ aa) δ κ ?_;have υ:ex.length=3:=by rw [I.len];rfl
 refine ⟨q6,eb,_,_,rfl,g6,S6 _ _ U,?_⟩;have X:=I.same S6;have gs:∀(j:Nat) (x y:V),([V.ref q3,V.ref q4,V.ref q5]:List V)[j]?=some x->ex[j]?=some y->∃p,(dH (PR F sh d k) st i e.1)[j]?=some p/\cB H6 (qO p.1) x/\cB H6 (eY (dU p.2)) y/\Qn LC 3 p.2:=λj x y B χ=>by
  have sa:=AW nd he;have η:fM (uI d e.1) 0=fM e.2 0:=by rw [sa]
  have ζ:fM (uI d e.1) (1+k)=fM e.2 (1+k):=by rw [sa]
  obtain ⟨g0,ο⟩:=fT C;obtain ⟨g1,gg1⟩:=fT R;have O:Qn LC 1 (fM e.2 0):=by rw [g0];exact S.q
  have β:Qn LC 1 (fM e.2 (1+k)):=by rw [g1];exact G.q
  obtain ⟨ff,m,o⟩:=eF X χ;rcases (show j=0\/j=1\/j=2 by have:=(aX.mp B).1;simp at this;omega) with rfl | rfl | rfl
  ·cases B;cases m;refine ⟨_,rfl,r1,?_,?_⟩
   ·show cB H6 (eY (dU (fM (uI d e.1) 0))) y;rw [η,g0,BV S.low,<-ο];exact o
   ·show Qn LC 3 (fM (uI d e.1) 0);rw [η];exact O.le Dd
  ·cases B;cases m;refine ⟨_,rfl,r2,?_,?_⟩
   ·show cB H6 (eY (dU (fM (uI d e.1) (1+k)))) y;rw [ζ,g1,BV G.low,<-gg1];exact o
   ·show Qn LC 3 (fM (uI d e.1) (1+k));rw [ζ];exact β.le Dd
  ·cases B;cases m;refine ⟨_,rfl,r3,?_,?_⟩
   ·show cB H6 (eY (dU (1-(fM (uI d e.1) 0+fM (uI d e.1) (1+k))))) y;rw [η,ζ];exact o
   ·show Qn LC 3 (1-(fM (uI d e.1) 0+fM (uI d e.1) (1+k)));rw [η,ζ];exact ((oK LC).sub ((Qn.add O β).le (show 1+1<=2 by decide))).le Dd
 refine zM (b1:=false) (b2:=true) (λj z H'=>∃p,(dH (PR F sh d k) st i e.1)[j]?=some p/\cB H' (JT (p.1,q*p.2)) z) (λj z Ha Hb s ⟨p,h1,h2⟩=>⟨p,h1,h2.flat s (EC _)⟩) (by show 3<=100000;decide) g6 (S6 _ _ U) (by rw [υ];rfl) (λj x y H' Q' B χ s' μ=>?_) (λL zs H7 hL g7 s7 ξ φ=>?_)
 ·obtain ⟨p,hp,rx,ry,qp⟩:=gs j x y B χ;refine ⟨_,rfl,_,rfl,_,rfl,?_⟩;refine vC (iO.same (S6.trans s') rq) (iO.of (ry.same s')) (cJ _) (cJ _) sz (iR qp Dd Kk Kk) λq8 H8 hq8 g8 s8=>?_;rw [vV] at g8;exact lI (by show 2<=64;decide) λq9 H9 hq9 g9 s9=>μ _ H9 (s8.trans s9) ⟨p,hp,cB.tup g9 (aZ.cons ((rx.same s').same (s8.trans s9)) (aZ.cons (eU (s9 _ _ g8)) aZ.nil))⟩
 ·refine k' L zs H7 (S6.free hL) g7 (aZ.ofIdx (by rw [ξ,aC];rfl) λj z hj=>?_) (S6.trans s7);obtain ⟨p,hp,rp⟩:=φ j z hj;exact ⟨_,by rw [aL,hp];rfl,rp⟩
end
abbrev aAC:Stmt:=(top 25)
theorem XZ:cT ["found","stands","stand","share"] ["found"] (bJ aAC):=⟨rfl,rfl,rfl,Kk,rfl,Kk,Kk⟩
theorem aBN{H:Hp}{l:Addr}{xs:List V}{y:V}{Q:VK}(h:H l=some (.lst xs))(hz:xs.length<=1000000)(k:∀H',H' l=some (.lst (xs++[y]))->aO l H H'->Q .non H'):MV (.ref l) [y] H Q:=by
 unfold MV;exact ⟨l,xs,y,rfl,rfl,h,bA hz Dd,k _ bH aO.self⟩
theorem aBD{H:Hp}{l b:Addr}{xs zs:List V}{Q:VK}(h:H l=some (.lst xs))(h2:H b=some (.lst zs))(hz:xs.length+zs.length<=1000000)(k:∀H',H' l=some (.lst (xs++zs))->aO l H H'->Q .non H'):MS (.ref l) [.ref b] H Q:=by
 unfold MS;exact ⟨l,b,xs,zs,rfl,rfl,h,h2,aY hz Dd,k _ bH aO.self⟩
theorem BW{α:Type}{g:Nat->List α}{b:Nat}(h:∀f,(g f).length<=b):∀n:Nat,((List.range n).flatMap g).length<=n*b
 | 0=>bS _
 | n+1=>by
  have h1:=BW h n;have a:=h n;rw [pB,aT,Nat.add_mul,Nat.one_mul];omega
@[irreducible] def kL(K:PySem.W.Frag):Sp:=λvs H Q _=>∃(sv qv fv:V) (i:Nat) (ea:Addr) (st:SS) (q:Rat) (es:List eE) (n W k D Ns:Nat) (sh:List Fr),vs=[sv,qv,.int (i:Int),fv,.ref ea]/\cB H (qO st) sv/\uA K H (dU q) qv/\Qn D 1 q/\0<D/\D*Ns<2^2500/\0<Ns/\cB H (uH sh) fv/\(∀f∈sh,Fn Ns 1 f)/\sh.length<=4/\rQ H ea k es/\(es.map (·.1)).Nodup/\(∀e∈es,xH (1+W) e.2)/\k<W/\st.1.length=n/\st.2.1.length=n/\i<n/\n<=3/\(st.1.getD i []).length=sh.length/\(∀f,f<sh.length->cK (st.1.getD i []) f∈es.map (·.1)) /\
 ∀L ys H',H L=none->H' L=some (.lst ys)->aZ H' (((List.range sh.length).flatMap λf=>(dH (PR sh.length sh es k) st i (cK (st.1.getD i []) f)).map λp=>(p.1,q*fM sh f*p.2)).map JT) ys->bC H H'->Q (.ref L) H'
theorem AO{K:PySem.W.Frag}{H:Hp}{Q:VK}{E:XK}{sv qv fv:V}{i:Nat}{ea:Addr}{st:SS}{q:Rat}{es:List eE}{n W k D Ns:Nat}{sh:List Fr}(h1:cB H (qO st) sv)(h2:uA K H (dU q) qv)(h3:Qn D 1 q)(h4:0<D)(h5:D*Ns<2^2500)(h6:0<Ns)(h7:cB H (uH sh) fv)(h8:∀f∈sh,Fn Ns 1 f)(h9:sh.length<=4)(h10:rQ H ea k es)(h11:(es.map (·.1)).Nodup)(h12:∀e∈es,xH (1+W) e.2)(h13:k<W)(h14:st.1.length=n)(h15:st.2.1.length=n)(h16:i<n)(h17:n<=3)(h18:(st.1.getD i []).length=sh.length)(h19:∀f,f<sh.length->cK (st.1.getD i []) f∈es.map (·.1))
  (k':∀L ys H',H L=none->H' L=some (.lst ys)->aZ H' (((List.range sh.length).flatMap λf=>(dH (PR sh.length sh es k) st i (cK (st.1.getD i []) f)).map λp=>(p.1,q*fM sh f*p.2)).map JT) ys->bC H H'->Q (.ref L) H'):kL K [sv,qv,.int (i:Int),fv,.ref ea] H Q E:=by
 unfold kL;exact ⟨sv,qv,fv,i,ea,st,q,es,n,W,k,D,Ns,sh,rfl,h1,h2,h3,h4,h5,h6,h7,h8,h9,h10,h11,h12,h13,h14,h15,h16,h17,h18,h19,k'⟩
section
theorem aDS(F:lC K "stands_behind_look" "stands_behind_look" aAw f fd)(T:nT K mg c)(FQ31:iP eV P w K mg base 3 "stands_come_to" ["stand","share","test","counts","ends"] (mF K))(FQ32:iP eV P w K mg base 2 "times" ["one","other"] (mD K))(FQ25:iP eV P w K mg base 1 "one_more" ["counts","face"] jQ):fJ P w K mg base eV 4 f fd ["stand","share","test","face_shares","ends"] (kL K):=by
 refine F.oky XY λvs H Q E h=>?_;unfold kL at h;obtain ⟨sv,qv,fv,i,ea,d,q,Y,n,W,k,D,ν,sh,rfl,C,rq,qn,Z,γ,m,rf,ι,l4,en,nd,sy,hk,lc,lo,hi,n3,B,hb,k'⟩:=h;refine ⟨rfl,λcdv A X s μ=>?_⟩;obtain ⟨fa,fx,rfl,I,M⟩:=nB rf;have δ:fx.length=sh.length:=dN M;obtain ⟨a,ac,ab,xs,rfl,ha,η,y,hab⟩:=yE C;have lxs:xs.length=n:=by rw [y.len,aC,lc]
 have dd:D<2^2500:=bA (Nat.le_mul_of_pos_right _ m) γ;have U:jW 4000 (dU q):=iR qn Z dd Kk;have ξ:ν<2^2500:=bA (Nat.le_mul_of_pos_left _ Z) γ;refine ⟨_,(aQ (bQ (i:=5) XY.nd rfl (Or.inl rfl) (eK aI))
  (aQ (fC PassesOwn.never rfl (AC true rfl T.b_enumerate (aP (aJ 3) aI)) (hV rfl (cR (cL (i:=6) XY.nd rfl (Or.inl rfl)) (cR (cL (i:=7) XY.nd rfl (Or.inl rfl)) gC))) (bO (jK (qK PySem.F.plainAttrs_list PySem.F.slot_list_extend PySem.F.type_list_extend BJ (aJ 5) (aP (cG FQ31 (μ.mono Dd) (aP (aJ 0) (aP (cG FQ32 (μ.mono Dd) (aP (aJ 1) (aP (aJ 7) aI))) (aP (aJ 2) (aP (cG FQ25 (μ.mono Dd) (aP (bU bL (bU bL (aJ 0) aK (λ_ _=>rfl)) (aJ 2) (λ_ _=>rfl)) (aP (aJ 6) aI))) (aP (aJ 4) aI)))))) aI)))))
  (bO (dL (aJ 5))))),?_⟩
 refine qF (by show 0<=64;decide) λL H1 ο e1 φ=>⟨_,rfl,fa,_,rfl,φ _ _ I,?_⟩;refine ET (b:=true) (n:=0) (xs:=fx) (λj σ H'=>∃(α R:Option V) (r:List V),σ=[some (.ref a),some qv,some (.int (i:Int)),some (.ref fa),some (.ref ea),some (.ref L),α,R]/\bC H H'/\H' L=some (.lst r)/\aZ H' (((List.range j).flatMap λf=>(dH (PR sh.length sh Y k) d i (cK (d.1.getD i []) f)).map λp=>(p.1,q*fM sh f*p.2)).map JT) r) ⟨_,_,[],rfl,φ,e1,aZ.nil⟩ (λj σ H' p=>?_) ?_ ?_
 ·obtain ⟨_,_,_,_,s',_⟩:=p;exact s' _ _ I
 ·rintro j x q3 σ H2 H3 hx ⟨α,R,r,rfl,O,z,u⟩ hq3 e3 J;obtain ⟨g,κ,rg⟩:=eF M hx;have hj:j<sh.length:=(aX.mp κ).1;have G:=ι g (aV κ);have vg:fM sh j=rv g:=(fT κ).1;obtain ⟨e,υ,ee⟩:=aS.mp (hb j hj);have S3:=O.trans J;have lys:r.length<=100:=by
   rw [u.len,aC];have:=BW (g:=λf=>(dH (PR sh.length sh Y k) d i (cK (d.1.getD i []) f)).map λp=>(p.1,q*fM sh f*p.2)) (b:=3) (λf=>by simp [dH]) j;omega
  refine ⟨q3,_,rfl,fO.of e3,rfl,_,_,rfl,_,_,rfl,rfl,⟨_,rfl,VC (J _ _ z),⟨_,rfl,_,rfl,_,rfl,?_⟩⟩⟩;refine vC (rq.same S3).v (iO.of (rg.same S3)) (cJ _) G.low U (UN G m (bK ξ (bI Dd Dd)) Nat.one_le_two_pow) λq4 H4 hq4 e4 χ=>?_;rw [show xO (dU q) g=dU (q*fM sh j) by rw [vg];exact kQ (EH (cJ _) G.low) (cJ _) (by rw [QM (cJ _).pos G.low.pos,gD,gD])] at e4;have S4:=S3.trans χ;obtain ⟨ζ,N⟩:∃ζ,d.1[i]?=some ζ:=⟨_,aB Oo⟩;have l:d.1.getD i []=ζ:=by rw [aE,N];rfl
  obtain ⟨vx,S,β⟩:=dY y N;refine ⟨_,rfl,_,rfl,jG (S4 _ _ ha) rfl ?_⟩;refine ⟨_,rfl,jG (S4 _ _ η) (cP S) ?_⟩;refine ⟨_,rfl,?_⟩;rw [show (0:Int)+((j:Nat):Int)=(j:Int) by omega];refine xK (β.same S4) (by rw [<-l,B];exact hj) (by rw [<-l,B];omega) λv5 H5 θ τ=>⟨_,rfl,?_⟩;have S5:=S4.trans θ;have qj:Qn (D*ν) 1 (q*fM sh j):=by
   have:=qn.mul (show Qn ν 1 (fM sh j) by rw [vg];exact G.q)
   rwa [Nat.mul_one] at this
  rw [<-l,<-ee] at τ;refine vD (F:=sh.length) (sh:=sh) (C.same S5) (iO.new (f:=dU (q*fM sh j)) (θ _ _ e4)) qj (lG Z m) γ τ (en.same S5) nd υ (sy e υ) hk lc lo hi n3 λL6 y6 H6 hL6 e6 ε ω=>?_;have S6:=S5.trans ω;have o:=(χ.trans θ).trans ω;have l6:y6.length=3:=by rw [ε.len];rfl
  refine aBD (o _ _ (J _ _ z)) e6 Oo λH7 e7 ψ=>?_;have ρ:=ψ.t (o _ _ (J _ _ z));refine ⟨_,_,_,rfl,bC.thru ο S6 ψ,e7,?_⟩;rw [pB,bR];refine aZ.app ((u.same (J.trans o)).flat ρ (iU _)) ?_;rw [List.map_map];rw [ee] at ε;exact ε.flat ρ (by have:=iU ((dH (PR sh.length sh Y k) d i (cK (d.1.getD i []) j)).map λp=>(p.1,q*fM sh j*p.2));rwa [List.map_map] at this)
 ·rintro σ H2 ⟨α,R,r,rfl,O,z,u⟩;refine ⟨_,rfl,?_⟩;rw [δ] at u;exact k' L r H2 ο z u O
end
theorem uN:∀a b:List Nat,PyData.eqvAll (a.map λ(n:Nat)=>PyData.int (n:Int)) (b.map λ(n:Nat)=>PyData.int (n:Int))=decide (a=b)
 | [],[]=>by simp [PyData.eqvAll]
 | [],_::_=>by simp [PyData.eqvAll]
 | _::_,[]=>by simp [PyData.eqvAll]
 | x::a,y::b=>by
  have ih:=uN a b;rw [aU,aU];show (PyData.eqv (.int (x:Int)) (.int (y:Int))&&PyData.eqvAll _ _)=_;rw [ih];have e:PyData.eqv (.int (x:Int)) (.int (y:Int))=decide (x=y):=by
   show decide ((x:Int)=(y:Int))=_;exact decide_eq_decide.mpr ⟨λh=>Oo,λh=>by rw [h]⟩
  rw [e];by_cases h:x=y <;> by_cases h':a=b <;> simp [h,h']
theorem CA:∀a b:List (List Nat),PyData.eqvAll (a.map gK) (b.map gK)=decide (a=b)
 | [],[]=>by simp [PyData.eqvAll]
 | [],_::_=>by simp [PyData.eqvAll]
 | _::_,[]=>by simp [PyData.eqvAll]
 | x::a,y::b=>by
  rw [aU,aU];show (PyData.eqvAll _ _&&PyData.eqvAll _ _)=_;rw [CA a b,uN];by_cases h:x=y <;> by_cases h':a=b <;> simp [h,h']
theorem TZ:∀a b:List Bool,PyData.eqvAll (a.map .bool) (b.map .bool)=decide (a=b)
 | [],[]=>by simp [PyData.eqvAll]
 | [],_::_=>by simp [PyData.eqvAll]
 | _::_,[]=>by simp [PyData.eqvAll]
 | x::a,y::b=>by
  rw [aU,aU];show (PyData.eqv (.bool x) (.bool y)&&PyData.eqvAll _ _)=_;rw [TZ a b];have e:PyData.eqv (.bool x) (.bool y)=decide (x=y):=by cases x <;> cases y <;> rfl
  rw [e];by_cases h:x=y <;> by_cases h':a=b <;> simp [h,h']
theorem aAo(a b:SS):PyData.eqv (qO a) (qO b)=decide (a=b):=by
 obtain ⟨i,h,c⟩:=a;obtain ⟨j,f,d⟩:=b;show (PyData.eqvAll (i.map gK) (j.map gK)&&(PyData.eqvAll (h.map .bool) (f.map .bool)&&(PyData.eqv (.bool c) (.bool d)&&true)))=_;rw [CA,TZ];have e:PyData.eqv (.bool c) (.bool d)=decide (c=d):=by cases c <;> cases d <;> rfl
 rw [e];by_cases h1:i=j <;> by_cases h2:h=f <;> by_cases h3:c=d <;> simp [h1,h2,h3]
theorem IC:∀{a b:List Nat},(a.map λ(n:Nat)=>PyData.int (n:Int))=(b.map λ(n:Nat)=>PyData.int (n:Int))->a=b
 | [],[],_=>rfl
 | [],_::_,h=>by cases h
 | _::_,[],h=>by cases h
 | x::a,y::b,h=>by
  rw [aU,aU] at h;injection h with h1 h2;injection h1 with h1;rw [IC h2,show x=y by omega]
theorem BZ:∀{a b:List (List Nat)},a.map gK=b.map gK->a=b
 | [],[],_=>rfl
 | [],_::_,h=>by cases h
 | _::_,[],h=>by cases h
 | x::a,y::b,h=>by
  rw [aU,aU] at h;injection h with h1 h2;injection h1 with h1;rw [BZ h2,IC h1]
theorem TY:∀{a b:List Bool},a.map PyData.bool=b.map PyData.bool->a=b
 | [],[],_=>rfl
 | [],_::_,h=>by cases h
 | _::_,[],h=>by cases h
 | x::a,y::b,h=>by
  rw [aU,aU] at h;injection h with h1 h2;injection h1 with h1;rw [TY h2,h1]
theorem AN{a b:SS}(h:qO a=qO b):a=b:=by
 obtain ⟨e,d,f⟩:=a;obtain ⟨j,c,i⟩:=b;injection h with h;injection h with h1 h;injection h with h2 h;injection h with h3 _;injection h1 with h1;injection h2 with h2;injection h3 with h3;rw [show e=j from BZ h1,show d=c from TY h2,show f=i from h3]
theorem BY:∀a:List Nat,gR (a.map λ(n:Nat)=>PyData.int (n:Int))=true/\fQ (a.map λ(n:Nat)=>PyData.int (n:Int))=0/\PyData.canLayAll0 (a.map λ(n:Nat)=>PyData.int (n:Int))=true/\PyData.depthAll (a.map λ(n:Nat)=>PyData.int (n:Int))<=1
 | []=>⟨rfl,rfl,rfl,bS _⟩
 | x::a=>by
  obtain ⟨h1,h2,h3,h4⟩:=BY a;refine ⟨?_,?_,?_,?_⟩
  ·show (true&&gR (a.map λ(n:Nat)=>PyData.int (n:Int)))=true;rw [h1];rfl
  ·show max 0 (fQ (a.map λ(n:Nat)=>PyData.int (n:Int)))=0;rw [h2];rfl
  ·show (true&&PyData.canLayAll0 (a.map λ(n:Nat)=>PyData.int (n:Int)))=true;rw [h3];rfl
  ·show max (PyData.depth (.int (x:Int))) (PyData.depthAll (a.map λ(n:Nat)=>PyData.int (n:Int)))<=1;have:PyData.depth (.int (x:Int))<=1:=by simp [PyData.depth]
   omega
theorem kC:∀a:List (List Nat),gR (a.map gK)=true/\fQ (a.map gK)<=1/\PyData.canLayAll0 (a.map gK)=true/\PyData.depthAll (a.map gK)<=2
 | []=>⟨rfl,Dd,rfl,bS _⟩
 | x::a=>by
  obtain ⟨h1,h2,h3,h4⟩:=kC a;obtain ⟨c,e,b,d⟩:=BY x;refine ⟨?_,?_,?_,?_⟩
  ·show (gR (x.map λ(n:Nat)=>PyData.int (n:Int))&&gR (a.map gK))=true;rw [h1,c];rfl
  ·show max (fQ (x.map λ(n:Nat)=>PyData.int (n:Int))+1) (fQ (a.map gK))<=1;omega
  ·show (PyData.canLayAll0 (x.map λ(n:Nat)=>PyData.int (n:Int))&&PyData.canLayAll0 (a.map gK))=true;rw [h3,b];rfl
  ·show max (PyData.depthAll (x.map λ(n:Nat)=>PyData.int (n:Int))+1) (PyData.depthAll (a.map gK))<=2;omega
theorem xA:∀a:List Bool,gR (a.map .bool)=true/\fQ (a.map .bool)=0/\PyData.canLayAll0 (a.map .bool)=true/\PyData.depthAll (a.map .bool)<=1
 | []=>⟨rfl,rfl,rfl,bS _⟩
 | x::a=>by
  obtain ⟨h1,h2,h3,h4⟩:=xA a;refine ⟨?_,?_,?_,?_⟩
  ·show (true&&gR (a.map .bool))=true;rw [h1];rfl
  ·show max 0 (fQ (a.map .bool))=0;rw [h2];rfl
  ·show (true&&PyData.canLayAll0 (a.map .bool))=true;rw [h3];rfl
  ·show max (PyData.depth (.bool x)) (PyData.depthAll (a.map .bool))<=1;have:PyData.depth (.bool x)<=1:=by simp [PyData.depth]
   omega
def shS:L2.nM where
 S:=λd=>∃st:SS,d=qO st
 key:=λd ⟨st,e⟩=>by
  subst e;show (gR (st.1.map gK)&&(gR (st.2.1.map .bool)&&(true&&true)))=true;rw [(kC _).1,(xA _).1];rfl
 deep:=λd ⟨st,e⟩=>by
  subst e;show max (fQ (st.1.map gK)+1) (max (fQ (st.2.1.map .bool)+1) (max 0 0))+1<=8;have:=(kC st.1).2.1;have:=(xA st.2.1).2.1;omega
 lay:=λd ⟨st,e⟩=>by
  subst e;show (PyData.canLayAll0 (st.1.map gK)&&(PyData.canLayAll0 (st.2.1.map .bool)&&(true&&true)))=true;rw [(kC _).2.2.1,(xA _).2.2.1];rfl
 dep:=λd ⟨st,e⟩=>by
  subst e;show max (PyData.depthAll (st.1.map gK)+1) (max (PyData.depthAll (st.2.1.map .bool)+1) (max (PyData.depth (.bool st.2.2)) 0))+1<=60;have:=(kC st.1).2.2.2;have:=(xA st.2.1).2.2.2;have:PyData.depth (.bool st.2.2)<=1:=by simp [PyData.depth]
  omega
 eq:=λd e ⟨a,ha⟩ ⟨b,hb⟩=>by
  subst ha hb;rw [aAo];by_cases h:a=b
  ·rw [h];simp
  ·rw [bP h,bP λz=>h (AN z)]
def ZC:L2.nM where
 S:=λd=>∃cs:List (List Nat),d=nS cs
 key:=λd ⟨cs,e⟩=>by subst e;exact (kC cs).1
 deep:=λd ⟨cs,e⟩=>by subst e;show fQ (cs.map gK)+1<=8;have:=(kC cs).2.1;omega
 lay:=λd ⟨cs,e⟩=>by subst e;exact (kC cs).2.2.1
 dep:=λd ⟨cs,e⟩=>by subst e;show PyData.depthAll (cs.map gK)+1<=60;have:=(kC cs).2.2.2;omega
 eq:=λd e ⟨a,ha⟩ ⟨b,hb⟩=>by
  subst ha hb;show PyData.eqvAll (a.map gK) (b.map gK)=_;rw [CA];by_cases h:a=b
  ·rw [h];simp
  ·rw [bP h,bP λz=>h (by injection z with z;exact BZ z)]
def jT(l:List (SS × Rat))(st:SS):Rat:=((l.find? λp=>decide (p.1=st)).map (·.2)).getD 0
def tW(l:List (SS × Rat))(st:SS)(q:Rat):List (SS × Rat):=if (l.any λp=>decide (p.1=st))=true then l.map (λp=>if p.1=st then (p.1,q) else p) else l++[(st,q)]
def gth(L:List (SS × Rat)):List (SS × Rat):=L.foldl (λl p=>if p.2=0 then l else tW l p.1 (jT l p.1+p.2)) []
theorem rC(L:List (SS × Rat))(p:SS × Rat):gth (L++[p])=if p.2=0 then gth L else tW (gth L) p.1 (jT (gth L) p.1+p.2):=by unfold gth;rw [List.foldl_append];rfl
theorem QV{l:List (SS × Rat)}(nd:(l.map (·.1)).Nodup)(st:SS)(q:Rat)(g:SS->Rat):cI (tW l st (jT l st+q)) (λp=>p.2*g p.1)=cI l (λp=>p.2*g p.1)+q*g st:=by
 unfold tW;by_cases h:(l.any λp=>decide (p.1=st))=true
 ·rw [if_pos h];have b:∀(l:List (SS × Rat)) (x:Rat),(l.map (·.1)).Nodup->(l.any λp=>decide (p.1=st))=true->cI (l.map λp=>if p.1=st then (p.1,x) else p) (λp=>p.2*g p.1)=cI l (λp=>p.2*g p.1)+(x-jT l st)*g st:=λl x=>by
   induction l with
   | nil=>intro _ h;simp at h
   | cons p l ih =>
    intro nd h;rw [aU,List.nodup_cons] at nd;rw [aU,cY,cY];by_cases e:p.1=st
    ·rw [if_pos e];have d:l.map (λp=>if p.1=st then (p.1,x) else p)=l:=by
      conv=>rhs;rw [<-List.map_id l]
      refine cO λi c=>?_;rw [if_neg λz=>nd.1 (by rw [e,<-z];exact aS.mpr ⟨i,c,rfl⟩)];rfl
     rw [d];have a:jT (p::l) st=p.2:=by unfold jT;simp [List.find?_cons,e]
     rw [a];show x*g p.1+_=_;rw [e];grind
    ·rw [if_neg e];have a:jT (p::l) st=jT l st:=by unfold jT;simp [List.find?_cons,e]
     rw [a,ih nd.2 (by simpa [e] using h)];grind
  rw [b l _ nd h];grind
 ·rw [if_neg h];have a:jT l st=0:=by
   unfold jT;rw [List.find?_eq_none.mpr λp f=>?_];rfl;intro z;exact h (List.any_eq_true.mpr ⟨p,f,z⟩)
  rw [kE,a];show _+(0+q)*g st=_;grind
theorem MX(l:List (SS × Rat))(st:SS)(q:Rat):(tW l st q).map (·.1)=if (l.any λp=>decide (p.1=st))=true then l.map (·.1) else l.map (·.1)++[st]:=by
 unfold tW;split
 ·rw [List.map_map];refine cO λp _=>?_;show (if p.1=st then (p.1,q) else p).1=p.1;split <;> rfl
 ·rw [bR];rfl
theorem WB{l:List (SS × Rat)}(nd:(l.map (·.1)).Nodup)(st:SS)(q:Rat):((tW l st q).map (·.1)).Nodup:=by
 rw [MX];split
 ·exact nd
 ·rename_i h
  refine List.nodup_append.mpr ⟨nd,by simp,λa f b c e=>?_⟩;cases bT.mp c;subst e;obtain ⟨p,d,rfl⟩:=aS.mp f;exact h (List.any_eq_true.mpr ⟨p,d,by simp⟩)
theorem vP{l:List (SS × Rat)}{st:SS}{q:Rat}{p:SS × Rat}(h:p∈tW l st q):p∈l\/(p.1=st/\p.2=q):=by
 unfold tW at h;split at h
 ·obtain ⟨b,a,rfl⟩:=aS.mp h;split
  ·rename_i e;exact .inr ⟨e,rfl⟩
  ·exact .inl a
 ·rcases dC.mp h with h | h
  ·exact .inl h
  ·rw [bT.mp h];exact .inr ⟨rfl,rfl⟩
structure Gth(L l:List (SS × Rat)):Prop where
 sum:∀g:SS->Rat,cI l (λp=>p.2*g p.1)=cI L (λp=>p.2*g p.1)
 nd:(l.map (·.1)).Nodup
 pos:∀p∈l,0<p.2
 src:∀p∈l,∃p' ∈ L,p'.1=p.1/\p'.2≠0
theorem KP{l:List (SS × Rat)}(h:∀p∈l,0<p.2)(st:SS):0<=jT l st:=by
 unfold jT;cases e:l.find? λp=>decide (p.1=st) with
 | none=>exact Rat.le_refl
 | some p =>
  have:=h p (List.mem_of_find?_eq_some e);show 0<=p.2;grind
theorem HP:∀L:List (SS × Rat),(∀p∈L,0<=p.2)->Gth L (gth L):=λL=>by
 induction L using oZ with
 | h0=>exact λ_=>⟨λg=>rfl,List.nodup_nil,λp a=>absurd a List.not_mem_nil,λp a=>absurd a List.not_mem_nil⟩
 | hs L x ih =>
  intro h;have G:=ih λp a=>h p (dA _ a);have f:=h x (by simp);rw [rC];by_cases z:x.2=0
  ·rw [if_pos z];refine ⟨λg=>?_,G.nd,G.pos,λp a=>?_⟩
   ·rw [kE,G.sum g,z];grind
   ·obtain ⟨d,c,b⟩:=G.src p a;exact ⟨d,dA _ c,b⟩
  ·rw [if_neg z];refine ⟨λg=>?_,WB G.nd _ _,λp a=>?_,λp a=>?_⟩
   ·rw [QV G.nd,G.sum g,kE]
   ·rcases vP a with a | ⟨_,e⟩
    ·exact G.pos p a
    ·rw [e];have:=KP G.pos x.1;grind
   ·rcases vP a with a | ⟨e,_⟩
    ·obtain ⟨d,c,b⟩:=G.src p a;exact ⟨d,dA _ c,b⟩
    ·exact ⟨x,by simp,e.symm,z⟩
theorem XH{L:List (SS × Rat)}(h:∀p∈L,0<=p.2)(st:SS):jT (gth L) st<=cI L λp=>p.2:=by
 have G:=HP L h;have i:=G.sum λ_=>1;have j:∀f:SS × Rat->Rat,cI (gth L) (λp=>p.2*1)=cI (gth L) λp=>p.2:=λ_=>pV λp _=>by grind
 have m:cI L (λp=>p.2*1)=cI L λp=>p.2:=pV λp _=>by grind
 rw [m,j λ_=>0] at i;rw [<-i];unfold jT;cases e:(gth L).find? λp=>decide (p.1=st) with
 | none=>exact uE λp b=>by have:=G.pos p b;grind
 | some p =>
  have b:=List.mem_of_find?_eq_some e;have c:∀l:List (SS × Rat),(∀p∈l,0<p.2)->p∈l->p.2<=cI l λp=>p.2:=λl=>by
   induction l with
   | nil=>intro _ h;cases h
   | cons a l ih =>
    intro d n;rw [cY];rcases bE.mp n with z | z
    ·have:=uE (l:=l) (f:=λp=>p.2) λp b=>by have:=d p (aM _ b);grind
     rw [z];grind
    ·have:=ih (λp b=>d p (aM _ b)) z;have:=d a (aR ..);grind
  exact c _ G.pos b
abbrev GP(K:PySem.W.Frag)(H:Hp):List (PyData × V)->List (SS × Rat)->Prop:=Paired λx p=>x.1=qO p.1/\uA K H (dU p.2) x.2
structure OQ(P:Program)(w:World)(K:PySem.W.Frag)(H:Hp)(a:Addr)(l:List (SS × Rat)):Prop where
 ex:∃kvs,dZ P w shS H a kvs/\GP K H kvs l
section
variable{P:Program}{w:World}{K:PySem.W.Frag}{H H':Hp}{a:Addr}{l:List (SS × Rat)}{kvs:List (PyData × V)}
theorem GP.t(s:dJ H H')(h:GP K H kvs l):GP K H' kvs l:=Paired.mapP h λ_ _ z=>⟨z.1,z.2.t s⟩
theorem OQ.same(h:OQ P w K H a l)(s:bC H H'):OQ P w K H' a l:=by
 obtain ⟨b,d,c⟩:=h.ex;exact ⟨b,d.same s,GP.t s.t c⟩
theorem GP.val(h:GP K H kvs l)(st:SS){z:V}(hz:uA K H (dU 0) z):uA K H (dU (jT l st)) ((eT kvs (qO st)).getD z):=by
 induction h with
 | nil=>exact hz
 | @cons x p xs l hp t ih =>
  by_cases e:p.1=st
  ·rw [fK (by rw [hp.1,e]),show jT (p::l) st=p.2 by unfold jT;simp [List.find?_cons,e]];exact hp.2
  ·rw [fL (λq=>e (AN (by rw [<-hp.1];exact q))),show jT (p::l) st=jT l st by unfold jT;simp [List.find?_cons,e]];exact ih
theorem GP.any(h:GP K H kvs l)(st:SS):(kvs.any λkv=>decide (kv.1=qO st))=l.any λp=>decide (p.1=st):=by
 induction h with
 | nil=>rfl
 | @cons x p xs l hp t ih =>
  rw [List.any_cons,List.any_cons,ih];congr 1;rw [hp.1];by_cases e:p.1=st
  ·rw [bY e,bY (by rw [e])]
  ·rw [bP e,bP λz=>e (AN z)]
theorem GP.put(h:GP K H kvs l){st:SS}{q:Rat}{v:V}(hv:uA K H (dU q) v):GP K H (fP kvs (qO st) v) (tW l st q):=by
 unfold fP tW;rw [h.any st];by_cases e:(l.any λp=>decide (p.1=st))=true
 ·rw [if_pos e,if_pos e];clear e
  induction h with
  | nil=>exact .nil
  | @cons x p xs l hp t ih =>
   rw [aU,aU];refine .cons ?_ ih;by_cases e:p.1=st
   ·rw [if_pos e,if_pos (by rw [hp.1,e])];exact ⟨hp.1,hv⟩
   ·rw [if_neg e,if_neg λz=>e (AN (by rw [<-hp.1];exact z))];exact hp
 ·rw [if_neg e,if_neg e];exact Paired.snoc h ⟨rfl,hv⟩
end
theorem KM:∀L:List (SS × Rat),(gth L).length<=L.length:=λL=>by
 induction L using oZ with
 | h0=>exact aG _
 | hs L x ih =>
  rw [rC,aT,List.length_singleton];split
  ·omega
  ·unfold tW;split
   ·rw [aC];omega
   ·rw [aT,List.length_singleton];omega
theorem PZ{L:List (SS × Rat)}(h:∀p∈L,0<=p.2)(i:Nat):cI (L.take i) (λp=>p.2)<=cI L λp=>p.2:=by
 have e:L.take i++L.drop i=L:=List.take_append_drop i L;have b:cI L (λp=>p.2)=cI (L.take i) (λp=>p.2)+cI (L.drop i) λp=>p.2:=by rw [<-iS,e]
 have:=uE (l:=L.drop i) (f:=λp=>p.2) λp a=>h p (List.mem_of_mem_drop a);grind
theorem RZ{D:Nat}:∀L:List (SS × Rat),(∀p∈L,∃C,Qn D C p.2)->∀p∈gth L,∃C,Qn D C p.2:=λL=>by
 induction L using oZ with
 | h0=>intro _ p a;cases a
 | hs L x b =>
  intro h p a;have b:=b λp a=>h p (dA _ a);rw [rC] at a;split at a
  ·exact b p a
  ·rcases vP a with a | ⟨_,e⟩
   ·exact b p a
   ·rw [e];obtain ⟨C,hC⟩:=h x (by simp);have:∃C,Qn D C (jT (gth L) x.1):=by
     unfold jT;cases q:(gth L).find? λp=>decide (p.1=x.1) with
     | none=>exact ⟨0,Qn.zero _ _⟩
     | some p'=>exact b p' (List.mem_of_find?_eq_some q)
    obtain ⟨C',c⟩:=this;exact ⟨_,c.add hC⟩
@[irreducible] def oW(P:Program)(w:World)(K:PySem.W.Frag):Sp:=λvs H Q _=>∃(fa:Addr) (ys:List V) (L:List (SS × Rat)) (D:Nat),vs=[.ref fa]/\H fa=some (.lst ys)/\aZ H (L.map JT) ys/\(∀p∈L,0<=p.2/\Qn D 1 p.2)/\cI L (λp=>p.2)<=1/\0<D/\D<2^2500/\L.length<=100000/\∀a H',bC H H'->H a=none->OQ P w K H' a (gth L)->Q (.ref a) H'
theorem yG{P:Program}{w:World}{K:PySem.W.Frag}{H:Hp}{Q:VK}{E:XK}{fa:Addr}{ys:List V}{L:List (SS × Rat)}{D:Nat}(h1:H fa=some (.lst ys))(h2:aZ H (L.map JT) ys)(h3:∀p∈L,0<=p.2/\Qn D 1 p.2)(h4:cI L (λp=>p.2)<=1)(h5:0<D)(h6:D<2^2500)(h7:L.length<=100000)(k:∀a H',bC H H'->H a=none->OQ P w K H' a (gth L)->Q (.ref a) H'):oW P w K [.ref fa] H Q E:=by
 unfold oW;exact ⟨fa,ys,L,D,rfl,h1,h2,h3,h4,h5,h6,h7,k⟩
theorem wP(f:Fr):SeqAt.shaped (eY f)=true:=by
 unfold SeqAt.shaped;rw [cC];exact ⟨rfl,bY (by show max (PyData.depth (.int f.1)) (max (PyData.depth (.int f.2)) 0)+1<=64;simp [PyData.depth])⟩
theorem SG(q:Rat):PyData.eqv (eY (dU q)) (eY (0,1))=decide (q=0):=by
 have h:PyData.eqv (eY (dU q)) (eY (0,1))=(decide ((dU q).1=0)&&(decide ((dU q).2=1)&&true)):=rfl;rw [h];by_cases e:q=0
 ·rw [e,iX];rfl
 ·rw [bP e];have:¬(dU q).1=0:=λz=>e (by
   have:=gD q;rw [<-this];unfold rv;rw [z];simp [Rat.div_def])
  rw [bP this];rfl
section
theorem aD3(F:lC K "gathered" "gathered" aAC f fd)(T:nT K mg c)(FQ26:iP eV P w K mg base 2 "plus" ["one","other"] (lO K)):fJ P w K mg base eV 3 f fd ["found"] (oW P w K):=by
 refine F.oky XZ λvs H Q E h=>?_;unfold oW at h;obtain ⟨ν,ι,L,D,rfl,m,ζ,I,ο,R,θ,lL,k⟩:=h;refine ⟨rfl,λaa A M s r=>?_⟩;have nn:∀p∈L,0<=p.2:=λp d=>(I p d).1;have S:ι.length=L.length:=by rw [ζ.len,aC]
 have υ:∀H',uA K H' (dU 0) (.ref c.NOUGHT):=λH'=>(.inr ⟨c.NOUGHT,rfl,by rw [iX];exact T.o_NOUGHT⟩:uA K H' (dU 0) (.ref c.NOUGHT));refine ⟨_,(aQ (bQ (i:=1) XZ.nd rfl (Or.inl rfl) (AD P w shS))
  (aQ (fC PassesOwn.never rfl (gG (aJ 0)) (hV rfl (cR (cL (i:=2) XZ.nd rfl (Or.inl rfl)) (cR (cL (i:=3) XZ.nd rfl (Or.inl rfl)) gC))) (bO (lJ (eJ (aBa K r.units) (aJ 3) (qI (v:=.ref c.NOUGHT) rfl T.g_NOUGHT rfl) (nomark _)) (bO (uB P w r.units (aJ 1) (aJ 2) (cG FQ26 (r.mono Dd) (aP (CT P w r.units (aJ 1) (aJ 2) (qI (v:=.ref c.NOUGHT) rfl T.g_NOUGHT rfl)) (aP (aJ 3) aI))))) gY)))
  (bO (dL (aJ 1))))),?_⟩
 refine rnnew λa H1 ξ g1 ε=>⟨_,rfl,ν,rfl,⟨_,fR.of (ε _ _ m)⟩,jV (xs:=ι) (λi σ H'=>∃(J O:Option V),σ=[some (.ref ν),some (.ref a),J,O]/\bC H H'/\OQ P w K H' a (gth (L.take i))) ⟨_,_,rfl,ε,⟨_,g1,.nil⟩⟩ (λi σ H' _ p=>?_) ?_ ?_⟩
 ·obtain ⟨_,_,_,s',_⟩:=p;exact fR.of (s' _ _ m)
 ·rintro i x σ H2 ω ⟨J,O,rfl,j,n⟩;obtain ⟨p,d,ρ⟩:=eF ζ ω;have N:=aV d;have hi:i<L.length:=(aX.mp d).1;obtain ⟨b,us,rfl,φ,X⟩:=dX (ρ.same j);obtain ⟨u,z,rfl,β,η⟩:=fW X;obtain ⟨κ,_,_,_,rfl,_⟩:=yE β;obtain ⟨p0,χ⟩:=I p N;have τ:=fI d;have l:∀p∈L.take i,0<=p.2:=λp d=>nn p (List.mem_of_mem_take d);refine ⟨b,[.ref κ,z],rfl,fO.of φ,rfl,_,_,rfl,_,_,rfl,rfl,⟨_,rfl,reK η.k (lA.tup (vA T.o_NOUGHT) (jB.ints [0,1])) (wP _) (wP (0,1)) ?_⟩⟩;refine ⟨_,rfl,?_⟩;rw [show PyData.tuple (List.map PyData.int [0,1])=eY (0,1) from rfl,SG];rw [τ,rC];by_cases hz0:p.2=0
  ·rw [bY hz0,if_pos hz0];exact nI ⟨_,_,rfl,j,n⟩
  ·rw [bP hz0,if_neg hz0];refine oO ?_;obtain ⟨Y,y,W⟩:=n.ex;have G:=HP (L.take i) l;have δ:cB H2 (qO p.1) (.ref κ):=β;refine ⟨_,rfl,rn0 y ?_⟩;refine ⟨_,rfl,aAK y δ ⟨_,rfl⟩ ?_⟩;refine ⟨_,rfl,?_⟩;have gv:=W.val p.1 (υ H2);have ψ:Qn D 1 (jT (gth (L.take i)) p.1):=by
    have hC:∃C,Qn D C (jT (gth (L.take i)) p.1):=by
     unfold jT;cases q:(gth (L.take i)).find? λB=>decide (B.1=p.1) with
     | none=>exact ⟨0,Qn.zero _ _⟩
     | some B=>exact RZ (L.take i) (λp d=>⟨1,(I p (List.mem_of_mem_take d)).2⟩) B (List.mem_of_find?_eq_some q)
    obtain ⟨C,hC⟩:=hC;refine Qn.le1 hC R (KP G.pos _) ?_;have α:=XH l p.1;have h3:=PZ nn i;grind
   refine oV gv.v (iO.of η) (cJ _) (cJ _) (iR ψ R θ Kk) (iR χ R θ Kk) λq4 H4 ab μ o=>?_;rw [CJ] at μ;refine ⟨_,rfl,_,rfl,?_⟩;have e:=y.same o;have lk:Y.length<=100000:=by
    have ο:=Paired.length W;have α:=KM (L.take i);rw [bW] at α;omega
   refine rnp e (δ.same o) ⟨_,rfl⟩ lk λH5 U Z=>?_;have γ:=e.t Z;exact ⟨_,_,rfl,bC.thru ξ (j.trans o) Z,⟨_,U,(GP.t γ (GP.t o.t W)).put (.inl ((eU μ).flat γ (fN _)))⟩⟩
 ·rintro σ H2 ⟨J,O,rfl,j,n⟩;refine ⟨_,rfl,?_⟩;rw [S,cE] at n;exact k a H2 j ξ n
end
abbrev VM:Stmt:=(top 21)
theorem aBJ:cT ["plan","stand","going","told"] ["plan","stand"] (bJ VM):=⟨rfl,rfl,rfl,Kk,rfl,Kk,Kk⟩
abbrev QI:Stmt:=(top 20)
theorem CD:cT ["hall","ends","begun","stands","test","counts","later","stand","share"] ["hall","ends"] (bJ QI):=⟨rfl,rfl,rfl,Kk,rfl,Kk,Kk⟩
theorem FK{K:PySem.W.Frag}{js:List Nat}{te:TE}{tc:TT}{σ:St}{H:Hp}{Q:VK}{l:Addr}{bs:List Bool}(h:H l=some (sB true (bs.map V.bl)))(hz:bs.length<=1000)
  (ht:∀(i:Nat) (b:Bool) (H':Hp) (Q':Bool->Hp->Prop),Q' b H'->tc (some (.int (i:Int))::some (.bl b)::slots σ js) H' Q')
  (he:∀(i:Nat) (b:Bool) (H':Hp) (Q':VK),Q' (.int (i:Int)) H'->te (some (.int (i:Int))::some (.bl b)::slots σ js) H' Q')
  (hd:∀D H',H D=none->H' D=some (.lst ((cS bs).map mB))->bC H H'->Q (.ref D) H'):lE K 2 (Ite true l 0) σ js tc te H Q:=by
 unfold lE;intro D hD
 let gi:Nat->List Nat:=λi=>(List.range i).filter λj=>bs.getD j false
 have p:∀i,gi (i+1)=if bs.getD i false=true then gi i++[i] else gi i:=λi=>by
  show ((List.range (i+1)).filter _)=_;rw [List.range_succ,List.filter_append];by_cases e:bs.getD i false=true
  ·rw [if_pos e];simp only [List.filter_cons,e,if_true,List.filter_nil];rfl
  ·rw [if_neg e];simp only [List.filter_cons,e,List.filter_nil,if_false,List.append_nil];simp [e];rfl
 refine ⟨λi m n H'=>m=bs.length-i/\i<=bs.length/\n=(gi i).map mB/\H' D=some (.lst n)/\bC H H',⟨bs.length,by simp,bS _,rfl,bH,bC.upd hD⟩,?_⟩;rintro i m n H2 ⟨rfl,C,rfl,a,c⟩;refine ⟨a,?_⟩;have B:((gi i).map mB).length<=i:=by
  rw [aC];refine aY (List.length_filter_le _ _) ?_;rw [fX];exact aG _
 by_cases hlt:i<bs.length
 ·have s:(bs.map V.bl)[i]?=some (V.bl bs[i]):=by rw [aL,aB hlt];rfl
  refine .inr ⟨⟨_,_,c _ _ h,s⟩,bA (m:=1000) Oo Dd,λv H3 y=>?_⟩;obtain ⟨q,x,rfl,A,rfl,w⟩:=y;have r:=w _ (c _ _ h);rw [s] at r;cases r;rw [show (0:Int)+((i:Nat):Int)=(i:Int) by omega];have d:=bC.upd (o:=.tup [V.int (i:Int),V.bl bs[i]]) A;have e3:(upd H2 q (.tup [V.int (i:Int),V.bl bs[i]])) q=some (.tup [V.int (i:Int),V.bl bs[i]]):=bH;generalize upd H2 q (.tup [V.int (i:Int),V.bl bs[i]])=H3 at d e3;have f:bs.getD i false=bs[i]:=by rw [aE,aB hlt];rfl
  refine ⟨q,_,rfl,fO.of e3,rfl,λb H4=>b=bs[i]/\H4=H3,ht i bs[i] H3 _ ⟨rfl,rfl⟩,?_⟩;rintro b H4 ⟨rfl,rfl⟩;by_cases e:bs[i]=true
  ·rw [if_pos e];refine ⟨λz H5=>z=mB i/\H5=H4,he i bs[i] H4 _ ⟨rfl,rfl⟩,?_⟩;rintro z H5 ⟨rfl,rfl⟩;have u:=d _ _ a;refine ⟨u,bs.length-(i+1),Oo,rfl,hlt,?_,bH,bC.thru hD (c.trans d) aO.self⟩;rw [p i,f,if_pos e,bR];rfl
  ·rw [if_neg e];refine ⟨d _ _ a,bs.length-(i+1),Oo,rfl,hlt,?_,d _ _ a,c.trans d⟩;rw [p i,f,if_neg e]
 ·have e:i=bs.length:=Oo;subst e;refine .inl ⟨⟨_,c _ _ h,by rw [aC];exact aG _⟩,hd D H2 hD a c⟩
structure rP(P:Program)(w:World)(H:Hp)(a:Addr)(pl:List (List Nat)->Option Int):Prop where
 ex:∃kvs:List (PyData × V),dZ P w ZC H a kvs/\∀cs,eT kvs (nS cs)=(pl cs).map V.int
theorem rP.same{P:Program}{w:World}{H H':Hp}{a:Addr}{pl:List (List Nat)->Option Int}(h:rP P w H a pl)(s:bC H H'):rP P w H' a pl:=by
 obtain ⟨b,d,c⟩:=h.ex;exact ⟨b,d.same s,c⟩
@[irreducible] def mG(P:Program)(w:World):Sp:=λvs H Q _=>∃(a:Addr) (sv:V) (st:SS) (pl:List (List Nat)->Option Int),vs=[.ref a,sv]/\rP P w H a pl/\cB H (qO st) sv/\st.2.1.length<=3/\∀H',bC H H'->Q (match gU pl st with | none=>V.non | some i=>V.int (i:Int)) H'
theorem DN{P:Program}{w:World}{H:Hp}{Q:VK}{E:XK}{a:Addr}{sv:V}{st:SS}{pl:List (List Nat)->Option Int}(h1:rP P w H a pl)(h2:cB H (qO st) sv)(h3:st.2.1.length<=3)(k:∀H',bC H H'->Q (match gU pl st with | none=>V.non | some i=>V.int (i:Int)) H'):mG P w [.ref a,sv] H Q E:=by
 unfold mG;exact ⟨a,sv,st,pl,rfl,h1,h2,h3,k⟩
section
theorem aDZ(F:lC K "looked_at" "looked_at" VM f fd)(T:nT K mg c):fJ P w K mg base eV 1 f fd ["plan","stand"] (mG P w):=by
 refine F.oky aBJ λκ H Q E h=>?_;unfold mG at h;obtain ⟨a,θ,l,pl,rfl,ε,W,ι,k⟩:=h;refine ⟨rfl,λζ A R s Z=>?_⟩;obtain ⟨μ,ν,δ,xs,rfl,α,G,J,u⟩:=yE W;refine ⟨_,(aQ (mW (i:=2) (eI.of (psc:=bJ VM) (N:=["plan","stand","going","told"]) (xs:=["test","looks_on"]) (N':=["test","looks_on"]) (js:=[]) Kk rfl rfl rfl) aBJ.nd rfl rfl (AC true rfl T.b_enumerate (aP (bU bL (aJ 1) aK (λ_ _=>rfl)) aI)) (λ_ _ _ _=>oT (OW (aJ 1))) (λ_ _ _ _=>(aJ 0)))
  (aQ (bQ (i:=3) aBJ.nd rfl (Or.inl rfl) (PC P w Z.units (aJ 0) (bU bL (aJ 1) aK (λ_ _=>rfl))))
  (aQ (lJ (UV (MA (OV (eJ vT (gF iK (by rfl) T.b_len Kk (aP (aJ 2) aI)) aK (nomark _)) (GB (eJ (aBc K Z.units) (aJ 3) (qI (v:=.int (-1)) rfl T.g_BREAK_OFF ⟨_,rfl⟩) (nomark _)))))) (bO (dL uT)) gY)
  (bO (dL (CU (eJ sI (aJ 3) (aJ 2) (by with_unfolding_all rfl)) (aJ 3) (bU bL (aJ 2) aK (λ_ _=>rfl)))))))),?_⟩
 refine ⟨_,rfl,jG α rfl ?_⟩;refine ⟨δ,_,rfl,u,FK u Oo (λi b H' Q' q=>⟨_,rfl,_,rfl,q⟩) (λi b H' Q' q=>⟨_,rfl,q⟩) (λD H1 hD o p=>?_)⟩;obtain ⟨η,X,O⟩:=ε.ex;refine ⟨_,rfl,rn0 (X.same p) ?_⟩;refine ⟨_,rfl,jG (p _ _ α) rfl ?_⟩;refine aAK (X.same p) (cB.tup (p _ _ G) (J.same p)) ⟨l.1,rfl⟩ ?_;rw [show (PyData.tuple (l.1.map gK))=nS l.1 from rfl,O];have m:=k H1 p;unfold gU at m;have γ:((cS l.2.1).map mB).length=(cS l.2.1).length:=aC ..;have S:∀t:Int,HN (V.int t) ((cS l.2.1).map mB)=decide (t∈(cS l.2.1).map (λ(i:Nat)=>(i:Int))):=λt=>by
  rw [Bool.eq_iff_iff,decide_eq_true_iff];unfold HN;rw [List.any_eq_true];constructor
  ·rintro ⟨x,C,e⟩;obtain ⟨i,I,rfl⟩:=aS.mp C;refine aS.mpr ⟨i,I,?_⟩;have:((i:Int) == t)=true:=e;simpa using this
  ·intro h;obtain ⟨i,I,e⟩:=aS.mp h;refine ⟨mB i,List.mem_map_of_mem I,?_⟩;show ((i:Int) == t)=true;simpa using e
 have M:HN V.non ((cS l.2.1).map mB)=false:=by
  unfold HN;rw [List.any_eq_false];intro x C;obtain ⟨i,_,rfl⟩:=aS.mp C;simp [XL]
 have β:((cS l.2.1).map mB).all nP=true:=List.all_eq_true.mpr λx C=>by
  obtain ⟨i,_,rfl⟩:=aS.mp C
  rfl
 have B:cS l.2.1≠[]->∃j,(cS l.2.1).head?=some j/\CP ((cS l.2.1).map mB) 0=some (mB j):=λL=>by
  cases e:cS l.2.1 with
  | nil=>exact absurd e L
  | cons j r=>exact ⟨j,rfl,cP (j:=0) rfl⟩
 have Y:decide (V.int (((cS l.2.1).map mB).length:Int)=V.int 0)=decide (cS l.2.1=[]):=by
  rw [γ];exact decide_eq_decide.mpr ⟨λh=>by injection h with h;exact List.length_eq_zero_iff.mp Oo,λh=>by rw [h];rfl⟩
 cases e:pl l.1 with
 | none =>
  rw [e] at m;refine ⟨λb H'=>b=decide (cS l.2.1=[])/\H'=H1,?_,?_⟩
  ·refine ⟨_,rfl,ZG o ?_⟩;refine ⟨rfl,_,rfl,?_⟩;rw [Y];by_cases hn:cS l.2.1=[]
   ·rw [bY hn];exact oO ⟨rfl,rfl⟩
   ·rw [bP hn];refine nI ⟨_,rfl,reK (d:=.none) (d':=.int (-1)) rfl rfl rfl rfl ?_⟩;exact ⟨_,rfl,rfl,rfl⟩
  ·rintro b H' ⟨rfl,rfl⟩;by_cases hn:cS l.2.1=[]
   ·rw [bY hn];rw [if_pos (.inl hn)] at m;exact oO m
   ·rw [bP hn];rw [if_neg (by simp [hn])] at m;obtain ⟨j,U,n⟩:=B hn;dsimp only at m;rw [U] at m;refine nI ⟨_,rfl,_,rfl,D,_,rfl,.inl (fR.of o),rfl,β,_,rfl,?_⟩;simp only [Option.map_none,Option.getD_none,M,Bool.false_eq_true,if_false];exact ⟨_,rfl,mK o n m⟩
 | some t =>
  rw [e] at m;refine ⟨λb H'=>b=decide (cS l.2.1=[]\/t=-1)/\H'=H1,?_,?_⟩
  ·refine ⟨_,rfl,ZG o ?_⟩;refine ⟨rfl,_,rfl,?_⟩;rw [Y];by_cases hn:cS l.2.1=[]
   ·rw [bY hn,bY (.inl hn)];exact oO ⟨rfl,rfl⟩
   ·rw [bP hn];refine nI ⟨_,rfl,reK (d:=.int t) (d':=.int (-1)) rfl rfl rfl rfl ?_⟩;refine ⟨_,rfl,?_,rfl⟩;show (true == decide (t=-1))=_;by_cases ht:t=-1
    ·rw [bY ht,bY (.inr ht)];rfl
    ·rw [bP ht,bP (by simp [hn,ht])];rfl
  ·rintro b H' ⟨rfl,rfl⟩;by_cases hn:cS l.2.1=[]\/t=-1
   ·rw [bY hn];rw [if_pos (hn.imp id λz=>by rw [z])] at m;exact oO m
   ·rw [bP hn];rw [if_neg (λz=>hn (z.imp id λy=>dB y))] at m;obtain ⟨j,U,n⟩:=B (λz=>hn (.inl z));dsimp only at m;refine nI ⟨_,rfl,_,rfl,D,_,rfl,.inl (fR.of o),rfl,β,_,rfl,?_⟩;simp only [Option.map_some,Option.getD_some,Bool.false_eq_true,if_false,S];by_cases hm:t∈(cS l.2.1).map (λ(i:Nat)=>(i:Int))
    ·rw [if_pos hm] at m;rw [bY hm];refine oO ⟨_,rfl,?_⟩;obtain ⟨i,_,rfl⟩:=aS.mp hm;exact m
    ·rw [if_neg hm,U] at m;rw [bP hm];exact nI ⟨_,rfl,mK o n m⟩
end
theorem LR.sy{F W M:Nat}{es:List eE}(h:LR F W M es):∀e∈es,xH (1+W) e.2:=by
 obtain ⟨f,rfl,d,sy⟩:=h.ex;intro e a;obtain ⟨c,b,rfl⟩:=aS.mp a;exact sy c b
def gS(h:HE)(k:Nat):List Fr:=((h.ws[k]?).map (·.2)).getD []
def mV(M:Nat)(h:HE)(k:Nat):TM:=⟨PR h.fs.length (gS h k) h.es k,M,λc=>c∈h.es.map (·.1)⟩
structure ZY(M Ns:Nat)(h:HE)(k:Nat):Prop where
 rl:RlC h.fs.length h.es
 sy:∀e∈h.es,xH (1+h.ws.length) e.2
 kw:k<h.ws.length
 le:∀e∈h.es,e.1.sum<=M
 on:∀e∈h.es,s0 e≠0->e.1.sum<M
 few:h.es.length<=40
 f4:h.fs.length<=4
 f1:1<=h.fs.length
 len:(gS h k).length=h.fs.length
 low:∀f∈gS h k,eS f/\0<=f.1
 one:lH ((gS h k).map rv)=1
 fn:∀f∈gS h k,Fn Ns 1 f
 ns:0<Ns
theorem DI(sh:List Fr):iZ sh.length (λf=>fM sh f)=lH (sh.map rv):=by
 have:(List.range sh.length).map (λf=>fM sh f)=sh.map rv:=by
  refine List.ext_getElem? λi=>?_;rw [aL,aL];by_cases hi:i<sh.length
  ·rw [gA hi,aB hi];show some (fM sh i)=some (rv sh[i]);rw [(fT (aB hi)).1]
  ·rw [dF (by rw [fX];omega),dF Oo];rfl
 unfold iZ;rw [this]
theorem uD{n:Nat}{fs:List Fr}(h:xH n fs):(∀i,0<=fM fs i)/\∀i j,i≠j->fM fs i+fM fs j<=1:=by
 obtain ⟨b,l,f,s,w,rfl⟩:=h.ex;have y:∀i,fM (b.map λx=>lw x b.sum) i=(b.getD i 0:Rat)/(b.sum:Rat):=λi=>by
  unfold fM;rw [aE,aL,aE];cases b[i]? with
  | none=>show rv (0,1)=((0:Int):Rat)/_;rw [show rv (0,1)=0 from oX];simp [Rat.div_def]
  | some x=>show rv (lw x b.sum)=(x:Rat)/_;exact vL s
 have o:(0:Rat)<(b.sum:Rat):=Rat.intCast_pos.mpr s;have nn:∀i,0<=b.getD i 0:=λi=>by
  rw [aE];cases e:b[i]? with
  | none=>exact Int.le_refl 0
  | some x=>exact f x (aV e)
 have m:∀(b:List Int),(∀x∈b,0<=x)->∀i j,i≠j->b.getD i 0+b.getD j 0<=b.sum:=λb=>by
  induction b with
  | nil=>intro _ i j _;simp
  | cons a b ih =>
   intro f i j c;have d:∀x∈b,0<=x:=λx z=>f x (aM _ z);have A:=f a (aR ..);have one:∀k,b.getD k 0<=b.sum:=λk=>by
    rw [aE];cases e:b[k]? with
    | none=>exact kK d
    | some x=>exact mX d (aV e)
   rw [List.sum_cons];cases i with
   | zero =>
    cases j with
    | zero=>exact absurd rfl c
    | succ j=>have:=one j;simp only [List.getD_cons_zero,List.getD_cons_succ];omega
   | succ i =>
    cases j with
    | zero=>have:=one i;simp only [List.getD_cons_zero,List.getD_cons_succ];omega
    | succ j=>have:=ih d i j Oo;simp only [List.getD_cons_succ];omega
 have p:∀i,fM (b.map λx=>lw x b.sum) i*(b.sum:Rat)=((b.getD i 0:Int):Rat):=λi=>by
  rw [y i,Rat.div_mul_cancel (Rat.ne_of_gt o)]
 refine ⟨λi=>?_,λi j c=>?_⟩
 ·refine Rat.not_lt.mp λh=>?_;have d:=Rat.mul_lt_mul_of_pos_right h o;have r:(0:Rat)<=((b.getD i 0:Int):Rat):=Rat.intCast_nonneg.mpr (nn i);rw [p i] at d;grind
 ·refine Rat.not_lt.mp λh=>?_;have d:=Rat.mul_lt_mul_of_pos_right h o;have r:=m b f i j c;have u:((b.getD i 0:Int):Rat)+((b.getD j 0:Int):Rat)<=((b.sum:Int):Rat):=by
   rw [<-Rat.intCast_add];exact Rat.intCast_le_intCast.mpr r
  rw [<-p i,<-p j] at u;grind
theorem ZY.ok{M Ns:Nat}{h:HE}{k:Nat}(t:ZY M Ns h k):aDc M (λc=>c∈h.es.map (·.1)) (mV M h k).t:=by
 have b:∀c,c∈h.es.map (·.1)->∃e∈h.es,e.1=c/\uI h.es c=e.2:=λc d=>by
  obtain ⟨e,a,rfl⟩:=aS.mp d;exact ⟨e,a,rfl,AW t.rl.nd a⟩
 refine ⟨λf n=>?_,?_,λc d=>?_,λc d=>?_,λc d=>?_,λc d=>?_,λc d=>?_,λc d m=>?_,?_⟩
 ·have i:f<(gS h k).length:=by rw [t.len];exact n
  show 0<=fM (gS h k) f;rw [(fT (aB i)).1];obtain ⟨l,nn⟩:=t.low _ (List.getElem_mem i);exact ZE l nn
 ·show iZ h.fs.length (λf=>fM (gS h k) f)=1;rw [<-t.len,DI,t.one]
 ·obtain ⟨e,a,rfl,_⟩:=b c d;exact t.rl.len e a
 ·obtain ⟨e,a,rfl,_⟩:=b c d;exact t.le e a
 ·obtain ⟨e,a,rfl,q⟩:=b c d;show 0<=fM (uI h.es e.1) 0;rw [q];exact (uD (t.sy e a)).1 0
 ·obtain ⟨e,a,rfl,q⟩:=b c d;show 0<=fM (uI h.es e.1) (1+k);rw [q];exact (uD (t.sy e a)).1 _
 ·obtain ⟨e,a,rfl,q⟩:=b c d;show fM (uI h.es e.1) 0+fM (uI h.es e.1) (1+k)<=1;rw [q];exact (uD (t.sy e a)).2 0 (1+k) Oo
 ·obtain ⟨e,a,rfl,q⟩:=b c d;have j:s0 e≠0:=by
   have:fM (uI h.es e.1) 0≠0:=m;rw [q] at this;exact this
  exact ⟨t.on e a j,t.rl.fwd e a j⟩
 ·obtain ⟨e,r,q,o⟩:=t.rl.root;show List.replicate h.fs.length 0∈h.es.map (·.1);rw [<-o,q];simp
def NW(t:TQ)(i:Nat)(c:List Nat)(l:List (SS × Rat)):List (SS × Rat):=l.flatMap λp=>(dH t p.1 i c).map λp'=>(p'.1,p.2*p'.2)
theorem LG(t:TQ)(i:Nat)(c:List Nat)(g:SS->Rat):∀l:List (SS × Rat),cI (NW t i c l) (λp=>p.2*g p.1)=cI l λp=>p.2*cI (dH t p.1 i c) λp'=>p'.2*g p'.1
 | []=>rfl
 | p::l=>by
  show cI ((dH t p.1 i c).map (λp'=>(p'.1,p.2*p'.2))++NW t i c l) _=_;rw [iS,cY,LG t i c g l,TC];congr 1;unfold dH cI;simp only [aU,List.map_nil,lH];grind
theorem TF(t:TQ)(i:Nat)(c:List Nat)(l:List (SS × Rat))(p:SS × Rat):NW t i c (l++[p])=NW t i c l++(dH t p.1 i c).map λp'=>(p'.1,p.2*p'.2):=by
 unfold NW;rw [List.flatMap_append];simp
theorem uO(t:TQ)(i:Nat)(c:List Nat):∀l:List (SS × Rat),(NW t i c l).length=3*l.length
 | []=>rfl
 | p::l=>by
  show ((dH t p.1 i c).map (λp'=>(p'.1,p.2*p'.2))++NW t i c l).length=_;rw [aT,uO t i c l,aC,bV];show 3+_=_;omega
theorem XS{t:TQ}{i:Nat}{c:List Nat}{l:List (SS × Rat)}{p:SS × Rat}(h:p∈NW t i c l):∃p0∈l,∃p' ∈ dH t p0.1 i c,p.1=p'.1/\p.2=p0.2*p'.2:=by
 unfold NW at h;obtain ⟨p0,d,b⟩:=List.mem_flatMap.mp h;obtain ⟨p',a,rfl⟩:=aS.mp b;exact ⟨p0,d,p',a,rfl,rfl⟩
structure FX(hs:List HE)(ks Ms Ns:List Nat):Prop where
 lk:ks.length=hs.length
 lM:Ms.length=hs.length
 lN:Ns.length=hs.length
 n3:hs.length<=3
 n1:1<=hs.length
 ts:∀i,i<hs.length->ZY (Ms.getD i 0) (Ns.getD i 0) (hs.getD i ⟨[],[],[]⟩) (ks.getD i 0)
def dR(hs:List HE)(ks Ms:List Nat):List TM:=(List.range hs.length).map λi=>mV (Ms.getD i 0) (hs.getD i ⟨[],[],[]⟩) (ks.getD i 0)
theorem eZ(hs:List HE)(ks Ms:List Nat):(dR hs ks Ms).length=hs.length:=by unfold dR;rw [aC,fX]
theorem iJ{hs:List HE}{ks Ms:List Nat}{i:Nat}(hi:i<hs.length):(dR hs ks Ms).getD i eO=mV (Ms.getD i 0) (hs.getD i ⟨[],[],[]⟩) (ks.getD i 0):=by
 unfold dR;rw [aE,aL,gA hi];rfl
theorem FX.ok{hs:List HE}{ks Ms Ns:List Nat}(h:FX hs ks Ms Ns):UM (dR hs ks Ms):=λi a=>by
 rw [eZ] at a;rw [iJ a];exact (h.ts i a).ok
structure OL(H:Hp)(a:Addr)(hs:List HE)(ks:List Nat):Prop where
 ex:∃vs:List V,H a=some (.lst vs)/\vs.length=hs.length/\∀i,i<hs.length->∃b,vs[i]?=some (.ref b)/\rQ H b (ks.getD i 0) (hs.getD i ⟨[],[],[]⟩).es
theorem OL.same{H H':Hp}{a:Addr}{hs:List HE}{ks:List Nat}(h:OL H a hs ks)(s:bC H H'):OL H' a hs ks:=by
 obtain ⟨f,e,c,d⟩:=h.ex;exact ⟨f,s _ _ e,c,λi l=>by obtain ⟨b,m,j⟩:=d i l;exact ⟨b,m,j.same s⟩⟩
abbrev xF(hs:List HE):SS:=(hs.map λh=>List.replicate h.fs.length 0,hs.map λ_=>true,false)
structure YN(ms:List TM)(Sx:SS->Prop)(D:Nat)(T:(SS->Rat)->Rat)(l:List (SS × Rat)):Prop where
 sum:∀g,cI l (λp=>p.2*g p.1)=T g
 nd:(l.map (·.1)).Nodup
 ok:∀p∈l,Sx p.1/\0<p.2/\p.2<=1/\Qn D 1 p.2
theorem aCs(hs:List HE)(ks Ms:List Nat):IJ (dR hs ks Ms) 0 (xF hs):=by
 refine ⟨by rw [eZ];exact aC ..,by rw [eZ];exact aC ..,λi a=>?_,λi h=>Oo,λi _ a=>?_⟩
 ·rw [eZ] at a;rw [iJ a];show (hs.map λh=>List.replicate h.fs.length 0).getD i []=List.replicate (hs.getD i ⟨[],[],[]⟩).fs.length 0;rw [aE,aL,aE,aB a];rfl
 ·rw [eZ] at a;show (hs.map λ_=>true).getD i false=true;rw [aE,aL,aB a];rfl
theorem JB{l:List (SS × Rat)}(h:∀p∈l,0<=p.2)(h1:cI l (λp=>p.2)<=1):∀p∈l,p.2<=1:=by
 intro p b;have c:∀l:List (SS × Rat),(∀p∈l,0<=p.2)->p∈l->p.2<=cI l λp=>p.2:=λl=>by
  induction l with
  | nil=>intro _ h;cases h
  | cons a l ih =>
   intro d e;rw [cY];have i:=d a (aR ..);rcases bE.mp e with z | z
   ·have:=uE (l:=l) (f:=λp=>p.2) λp b=>d p (aM _ b);rw [z];grind
   ·have:=ih (λp b=>d p (aM _ b)) z;grind
 have:=c l h b;grind
theorem mY(l:List (SS × Rat)):cI l (λp=>p.2*1)=cI l λp=>p.2:=pV λp _=>by grind
theorem YN.gath{ms:List TM}{Sx:SS->Prop}{D:Nat}{T:(SS->Rat)->Rat}{L:List (SS × Rat)}(hT:T (λ_=>1)<=1)(d0:0<D)(hL:∀p∈L,0<=p.2/\(∃C,Qn D C p.2)/\(p.2≠0->Sx p.1))(hs:∀g,cI L (λp=>p.2*g p.1)=T g):YN ms Sx D T (gth L)/\(∀p∈L,0<=p.2/\Qn D 1 p.2)/\cI L (λp=>p.2)<=1:=by
 have nn:∀p∈L,0<=p.2:=λp c=>(hL p c).1;have G:=HP L nn;have e:cI L (λp=>p.2)<=1:=by rw [<-mY,hs λ_=>1];exact hT
 have h:cI (gth L) (λp=>p.2)<=1:=by rw [<-mY,G.sum λ_=>1,hs λ_=>1];exact hT
 have d:=JB (λp c=>Rat.le_of_lt (G.pos p c)) h;refine ⟨⟨λg=>by rw [G.sum g,hs g],G.nd,λp c=>?_⟩,λp c=>?_,e⟩
 ·obtain ⟨l,j,f,i⟩:=G.src p c;obtain ⟨C,hC⟩:=RZ L (λp c=>(hL p c).2.1) p c;exact ⟨by rw [<-f];exact (hL l j).2.2 i,G.pos p c,d p c,Qn.le1 hC d0 (Rat.le_of_lt (G.pos p c)) (d p c)⟩
 ·obtain ⟨a,⟨C,b⟩,_⟩:=hL p c;exact ⟨a,Qn.le1 b d0 a (JB nn e p c)⟩
abbrev GW:Stmt:=(top 18)
theorem sY:cT ["hall","choice","plan","ends","face_shares","stands","left","looks","later","stand","share","test","some_wrong","all_said"] ["hall","choice","plan"] (bJ GW):=⟨rfl,rfl,rfl,Kk,rfl,Kk,Kk⟩
abbrev OR(K:PySem.W.Frag)(H:Hp):List (PyData × Addr × V)->List (SS × Rat)->Prop:=Paired λp x=>p.1=qO x.1/\cB H (qO x.1) (.ref p.2.1)/\uA K H (dU x.2) p.2.2
theorem OR.t{K:PySem.W.Frag}{H H':Hp}{kvs:List (PyData × Addr × V)}{l:List (SS × Rat)}(s:dJ H H')(h:OR K H kvs l):OR K H' kvs l:=Paired.mapP h λ_ x z=>⟨z.1,z.2.1.flat s (oA _),z.2.2.t s⟩
theorem SC{K:PySem.W.Frag}{H:Hp}:∀{kvs:List (PyData × Addr × V)}{l:List (SS × Rat)},GP K H (qG kvs) l->(∀p∈kvs,cB H p.1 (.ref p.2.1))->OR K H kvs l
 | [],l,h,_=>by
  have h:GP K H [] l:=h;cases h;exact .nil
 | p::kvs,l,h,r=>by
  have h:GP K H ((p.1,p.2.2)::qG kvs) l:=h;cases h with
  | cons a t=>exact .cons ⟨a.1,by rw [<-a.1];exact r p (aR ..),a.2⟩ (SC t λp a=>r p (aM _ a))
theorem ZF{P:Program}{w:World}{K:PySem.W.Frag}{H:Hp}{a:Addr}{l:List (SS × Rat)}{R:It->Hp->Prop}(h:OQ P w K H a l)(r:∀o kvs H',H' a=some (.frz o (mU P w shS a kvs))->OR K H' kvs l->aO a H H'->dJ H H'->R (Itn P w shS a o kvs) H'):rNI P w (.ref a) H R:=by
 obtain ⟨kvs,d,m⟩:=h.ex;refine rni d λo c H' e j f b=>?_;have t:=d.t b;subst f;exact r o c H' e (SC (GP.t t m) λp i=>(j p i).2) b t
def Tf(ms:List TM)(s0:SS):Nat->(SS->Rat)->Rat
 | 0,g=>g s0
 | k+1,g=>Tf ms s0 k λst=>cI (dH (ms.getD k eO).t st k (List.replicate (ms.getD k eO).t.F 0)) λp=>p.2*g p.1
theorem IH(ms:List TM)(s0:SS):∀k,Tf ms s0 k (λ_=>1)=1
 | 0=>rfl
 | k+1=>by
  show Tf ms s0 k (λst=>cI (dH (ms.getD k eO).t st k (List.replicate (ms.getD k eO).t.F 0)) λp=>p.2*1)=1;rw [show (λst=>cI (dH (ms.getD k eO).t st k (List.replicate (ms.getD k eO).t.F 0)) λp=>p.2*1)=λ_=>(1:Rat) from funext λst=>TB];exact IH ms s0 k
theorem UH(ms:List TM)(s0:SS)(g:SS->Rat):∀k,k<=ms.length->Tf ms s0 k (SD ((ms.map (·.t)).drop k) k g)=SD (ms.map (·.t)) 0 g s0
 | 0,_=>rfl
 | k+1,h=>by
  rw [<-UH ms s0 g k Oo,XM (ms:=ms) (k:=k) Oo]
  rfl
theorem UI(ms:List TM)(s0:SS)(g:SS->Rat):Tf ms s0 ms.length g=SD (ms.map (·.t)) 0 g s0:=by
 have:=UH ms s0 g ms.length (aG _);rw [List.drop_eq_nil_of_le (by rw [aC];exact aG _)] at this;exact this
theorem NB{k:Nat}(h:k<=3):3^k<=27:=aY (bI Dd h) Dd
theorem qB(k:Nat):0<LC^k:=Nat.pow_pos Dd
theorem BQ{k:Nat}(h:k<=3):LC^k<2^2500:=bA (bI Dd h) Kk
theorem pD{M Ns:Nat}{h:HE}{k:Nat}(t:ZY M Ns h k){c:List Nat}(hc:c∈h.es.map (·.1))(st:SS)(i:Nat):∀p∈dH (mV M h k).t st i c,0<=p.2/\Qn LC 1 p.2:=λp d=>by
 obtain ⟨e,x,rfl⟩:=aS.mp hc;have o:=AW t.rl.nd x;have a:=t.sy e x;obtain ⟨nn,b⟩:=uD a;have kw:=t.kw;have y:e.2.length=1+h.ws.length:=by obtain ⟨G,l,_,_,_,z⟩:=a.ex;rw [z,aC,l]
 have q:∀j,j<1+h.ws.length->Qn LC 1 (fM e.2 j):=λj D=>by
  have w:=aB (l:=e.2) (i:=j) Oo;rw [(fT w).1];exact (a.fn _ (aV w)).1.q
 have m:=q 0 Oo;have u:=q (1+k) Oo;have A:=nn 0;have B:=nn (1+k);have C:=b 0 (1+k) Oo;have f:0<LC:=Dd;unfold dH at d;simp only [bE,List.not_mem_nil,or_false] at d;have es:(mV M h k).t.s e.1=fM e.2 0:=by show fM (uI h.es e.1) 0=_;rw [o]
 have n:(mV M h k).t.r e.1=fM e.2 (1+k):=by show fM (uI h.es e.1) (1+k)=_;rw [o]
 rcases d with rfl | rfl | rfl
 ·show 0<=(mV M h k).t.s e.1/\Qn LC 1 ((mV M h k).t.s e.1);rw [es];exact ⟨A,m⟩
 ·show 0<=(mV M h k).t.r e.1/\Qn LC 1 ((mV M h k).t.r e.1);rw [n];exact ⟨B,u⟩
 ·show 0<=1-((mV M h k).t.s e.1+(mV M h k).t.r e.1)/\Qn LC 1 (1-((mV M h k).t.s e.1+(mV M h k).t.r e.1));rw [es,n];exact ⟨by grind,Qn.le1 ((oK LC).sub ((Qn.add m u).le (show 1+1<=2 by decide))) f (by grind) (by grind)⟩
theorem TD{t:TQ}{i:Nat}{c:List Nat}{l:List (SS × Rat)}{j:Nat}{p:SS × Rat}(h:l[j]?=some p):NW t i c (l.take (j+1))=NW t i c (l.take j)++(dH t p.1 i c).map λp'=>(p'.1,p.2*p'.2):=by
 rw [fI h,TF]
@[irreducible] def oH(P:Program)(w:World)(K:PySem.W.Frag):Sp:=λvs H Q _=>∃(x:V) (ea:Addr) (hs:List HE) (ks Ms Ns:List Nat),vs=[x,.ref ea]/\cB H (ON hs) x/\OL H ea hs ks/\FX hs ks Ms Ns /\
 ∀a l H',bC H H'->H a=none->OQ P w K H' a l->YN (dR hs ks Ms) (IJ (dR hs ks Ms) hs.length) (LC^hs.length) (Tf (dR hs ks Ms) (xF hs) hs.length) l->l.length<=27->Q (.ref a) H'
theorem GS{P:Program}{w:World}{K:PySem.W.Frag}{H:Hp}{Q:VK}{E:XK}{x:V}{ea:Addr}{hs:List HE}{ks Ms Ns:List Nat}(h1:cB H (ON hs) x)(h2:OL H ea hs ks)(h3:FX hs ks Ms Ns)(k:∀a l H',bC H H'->H a=none->OQ P w K H' a l->YN (dR hs ks Ms) (IJ (dR hs ks Ms) hs.length) (LC^hs.length) (Tf (dR hs ks Ms) (xF hs) hs.length) l->l.length<=27->Q (.ref a) H'):oH P w K [x,.ref ea] H Q E:=by
 unfold oH;exact ⟨x,ea,hs,ks,Ms,Ns,rfl,h1,h2,h3,k⟩
section
inductive LJ3 (P:Program)(w:World)(K:PySem.W.Frag)(d:List HE)(r u:List Nat)(H:Hp)(ha ea Y:Addr)(M:List V):Nat -> St -> Hp->Prop
| mk {i:Nat}{σ:St}{H':Hp}(o4 o5 o6 ε ν:Option V) (a:Addr) (l:List (SS × Rat))(_:σ=[some (.ref ha),some (.ref ea),some (.ref Y),some (.ref a),o4,o5,o6,ε,ν])(_:bC H H')(_:H a=none)(_:H' Y=some (.tup M))(_:aZ H' ((d.map λh=>List.replicate h.fs.length 0).map gK) M)(_:OQ P w K H' a l)(_:YN (dR d r u) (IJ (dR d r u) i) (LC^i) (Tf (dR d r u) (xF d) i) l)(_:l.length<=3^i):LJ3 P w K d r u H ha ea Y M i σ H'
inductive LJ4 (P:Program)(w:World)(K:PySem.W.Frag)(d:List HE)(h:HE)(r u:List Nat)(i:Nat)(H:Hp)(ha ea Y μ ω:Addr)(M:List V)(y:V)(o:Obj)(ξ:List (PyData × Addr × V))(l:List (SS × Rat)):Nat -> St -> Hp->Prop
| mk {j:Nat}{σ:St}{H':Hp}(ε ν:Option V) (ys:List V)(_:σ=[some (.ref ha),some (.ref ea),some (.ref Y),some (.ref μ),some (.int (i:Int)),some y,some (.ref ω),ε,ν])(_:bC H H')(_:H' Y=some (.tup M))(_:aZ H' ((d.map λh=>List.replicate h.fs.length 0).map gK) M)(_:H' μ=some (.frz o (mU P w shS μ ξ)))(_:OR K H' ξ l)(_:H' ω=some (.lst ys))(_:aZ H' ((NW (mV (u.getD i 0) h (r.getD i 0)).t i (List.replicate h.fs.length 0) (l.take j)).map JT) ys):LJ4 P w K d h r u i H ha ea Y μ ω M y o ξ l j σ H'
theorem aDT(F:lC K "stands_at_first" "stands_at_first" QI f fd)(T:nT K mg c)(FQ24:iP eV P w K mg base 1 "noughts" ["faces"] kM)(FQ28:iP eV P w K mg base 1 "rule_faces" ["rule"] (iB K))(FQ31:iP eV P w K mg base 3 "stands_come_to" ["stand","share","test","counts","ends"] (mF K))(FQ19:iP eV P w K mg base 3 "gathered" ["found"] (oW P w K)):fJ P w K mg base eV 4 f fd ["hall","ends"] (oH P w K):=by
 refine F.oky CD λvs H Q E h=>?_;unfold oH at h;obtain ⟨x,ea,d,r,u,Ns,rfl,rx,en,ok,k⟩:=h;refine ⟨rfl,λcdv A outer s hr=>?_⟩;obtain ⟨ha,xs,rfl,α,rxs⟩:=dX rx;have lx:xs.length=d.length:=dN rxs;have n3:=ok.n3;have lm:(dR d r u).length=d.length:=eZ ..;have hat:∀j (h:HE),d[j]?=some h->j<d.length/\d.getD j ⟨[],[],[]⟩=h:=λj h e=>⟨(aX.mp e).1,by rw [aE,e];rfl⟩;refine ⟨_,(aQ (bQ (i:=2) CD.nd rfl (Or.inl rfl) (iA dI (by rfl) T.b_tuple Kk (aP (gQ (eR.of (psc:=bJ QI) (N:=["hall","ends","begun","stands","test","counts","later","stand","share"]) (N':=["test"]) (js:=[]) Kk rfl rfl rfl) (nX (aJ 0)) (λ_ _ _ _=>fB) (λ_ _ _ _=>(cG FQ24 (hr.mono Dd) (aP (cG FQ28 (hr.mono Dd) (aP (bU (gI K) (aJ 0) aK (λ_ _=>rfl)) aI)) aI)))) aI)))
  (aQ (bQ (i:=3) CD.nd rfl (Or.inl rfl) (PD P w shS hr.units (cW (aP (aJ 2) (aP (iA dI (by rfl) T.b_tuple Kk (aP (gQ (eR.of (psc:=bJ QI) (N:=["hall","ends","begun","stands","test","counts","later","stand","share"]) (N':=["test"]) (js:=[]) Kk rfl rfl rfl) (nX (aJ 0)) (λ_ _ _ _=>fB) (λ_ _ _ _=>tH)) aI)) (aP tH aI)))) (qI (v:=.ref c.ONE) rfl T.g_ONE rfl)))
  (aQ (fC PassesOwn.never rfl (AC true rfl T.b_enumerate (aP (aJ 2) aI)) (hV rfl (cR (cL (i:=4) CD.nd rfl (Or.inl rfl)) (cR (cL (i:=5) CD.nd rfl (Or.inl rfl)) gC))) (aQ (bQ (i:=6) CD.nd rfl (Or.inl rfl) (eK aI))
  (aQ (fC PassesOwn.never rfl (CQ P w (aJ 3)) (hV rfl (cR (cL (i:=7) CD.nd rfl (Or.inl rfl)) (cR (cL (i:=8) CD.nd rfl (Or.inl rfl)) gC))) (bO (jK (qK PySem.F.plainAttrs_list PySem.F.slot_list_extend PySem.F.type_list_extend BJ (aJ 6) (aP (cG FQ31 (hr.mono Dd) (aP (aJ 7) (aP (aJ 8) (aP (aJ 4) (aP (aJ 5) (aP (bU bL (aJ 1) (aJ 4) (λ_ _=>rfl)) aI)))))) aI)))))
  (bO (bQ (i:=3) CD.nd rfl (Or.inl rfl) (cG FQ19 (hr.mono Dd) (aP (aJ 6) aI)))))))
  (bO (dL (aJ 3)))))),?_⟩
 refine ⟨_,rfl,ha,rfl,⟨_,fO.of α⟩,zK (λj y H'=>∃h,d[j]?=some h/\cB H' (gK (List.replicate h.fs.length 0)) y) (λj y Ha Hb s ⟨h,X,h2⟩=>⟨h,X,h2.flat s (fV _)⟩) Oo α (λj y H' Q' χ s' k'=>?_) (λL M H1 hL e1 s1 hz hr1=>?_)⟩
 ·obtain ⟨h,φ,rh⟩:=eF rxs χ;obtain ⟨ψ,eh⟩:=hat j h φ;have J:=ok.ts j ψ;rw [eh] at J;obtain ⟨κ,er,Z,h0⟩:=J.rl.root;obtain ⟨ta,tt,tu,rfl,hta,rtt,rtu⟩:=pR (rh.same s');have le0:κ.1.length=h.fs.length:=J.rl.len κ (by rw [Z];exact aR ..);have f4:=J.f4;refine ⟨_,rfl,jG hta rfl ?_⟩;refine tV (e:=κ) (es:=er) (by rw [<-Z];exact aAH rtu) ?_;rw [le0];exact AQ Oo λv2 H2 s2 r2=>k' _ H2 s2 ⟨h,φ,r2⟩
 have rzs:aZ H1 ((d.map λh=>List.replicate h.fs.length 0).map gK) M:=aZ.ofIdx (by rw [hz,lx,aC,aC]) λj y ψ=>by
  obtain ⟨h,X,h2⟩:=hr1 j y ψ;exact ⟨_,by rw [aL,aL,X];rfl,h2⟩
 refine ⟨L,_,rfl,.inl ⟨fR.of e1,λY hbg=>?_⟩⟩;have sl:=bC.upd (o:=.tup M) hbg;have ι:(upd H1 Y (.tup M)) Y=some (.tup M):=bH;generalize upd H1 Y (.tup M)=H2 at sl ι ⊢;have S2:=s1.trans sl;refine rndisp λa H3 ha3 g3 ρ=>⟨_,rfl,_,rfl,ha,rfl,⟨_,fO.of ((S2.trans ρ) _ _ α)⟩,zK (λj y _=>y=.bl true) (λ_ _ _ _ _ h=>h) Oo ((S2.trans ρ) _ _ α) (λj y H' Q' χ s' k'=>?_) (λL4 bs H4 hL4 e4 s4 hb4 hr4=>?_)⟩
 ·exact k' _ H' (bC.refl _) rfl
 have ebs:bs=(d.map λ_=>true).map V.bl:=by
  refine List.ext_getElem? λj=>?_;rw [aL,aL];by_cases ψ:j<d.length
  ·have X:bs[j]?=some bs[j]:=aB Oo;rw [X,hr4 j _ X,aB ψ];rfl
  ·rw [dF Oo,dF Oo];rfl
 subst ebs;refine ⟨L4,_,rfl,.inl ⟨fR.of e4,λbt hbt=>?_⟩⟩;have sl5:=bC.upd (o:=.tup ((d.map λ_=>true).map V.bl)) hbt;have ebt:(upd H4 bt (.tup ((d.map λ_=>true).map V.bl))) bt=some (.tup ((d.map λ_=>true).map V.bl)):=bH;generalize upd H4 bt (.tup ((d.map λ_=>true).map V.bl))=H5 at sl5 ebt ⊢;refine lI (by show 3<=64;decide) λq6 H6 hq6 e6 s6=>?_;have S36:=(s4.trans sl5).trans s6;have rst:cB H6 (qO (xF d)) (.ref q6):=JD (st:=xF d) e6 (S36 _ _ (ρ _ _ ι)) (rzs.same ((sl.trans ρ).trans S36)) (s6 _ _ ebt);refine rn1 rst ⟨_,rfl⟩ (g3.same S36) λH7 g7 b7=>?_;have aH:H a=none:=S2.free ha3;have S7:bC H H7:=bC.thru aH ((S2.trans ρ).trans S36) b7;have t7:dJ H6 H7:=(g3.same S36).t b7;have δ:H7 Y=some (.tup M):=t7 _ _ (S36 _ _ (ρ _ _ ι));have rzs7:=(rzs.same ((sl.trans ρ).trans S36)).flat t7 (mP _);have gz:OQ P w K H7 a [(xF d,1)]:=⟨_,g7,.cons ⟨rfl,.inr ⟨c.ONE,rfl,by rw [pA];exact T.o_ONE⟩⟩ .nil⟩;have ld0:YN (dR d r u) (IJ (dR d r u) 0) (LC^0) (Tf (dR d r u) (xF d) 0) [(xF d,1)]:=by
  refine ⟨λg=>?_,by simp,λp hp=>?_⟩
  ·show cI [(xF d,(1:Rat))] _=g (xF d);unfold cI;simp only [aU,List.map_nil,lH];grind
  ·rw [bT.mp hp];exact ⟨aCs d r u,by show (0:Rat)<1;decide,by show (1:Rat)<=1;decide,oK _⟩
 refine ⟨_,rfl,Y,_,rfl,δ,ET (b:=true) (n:=0) (xs:=M) (LJ3 P w K d r u H ha ea Y M) ⟨_,_,_,_,_,a,_,rfl,S7,aH,δ,rzs7,gz,ld0,aG _⟩ (λi σ H' p=>?_) ?_ ?_⟩
 ·obtain ⟨_,_,_,_,_,_,_,_,_,_,h,_⟩:=p;exact h
 ·rintro i y q8 σ H8 H9 χ ⟨o4,o5,o6,ε,ν,μ,l,rfl,S8,aN,bg8,η,g8,τ,ll⟩ hq8 e9 s9;have υ:i<d.length:=by have:=(aX.mp χ).1;omega
  obtain ⟨h,φ⟩:∃h,d[i]?=some h:=⟨_,aB υ⟩;have eh:=(hat i h φ).2;have J:=ok.ts i υ;rw [eh] at J;have mt:(dR d r u).getD i eO=mV (u.getD i 0) h (r.getD i 0):=by rw [iJ υ,eh]
  obtain ⟨cz,U,rcz⟩:=eF η χ;rw [aL,φ] at U;cases U;have lpw:=NB (k:=i) Oo;refine ⟨q8,_,rfl,fO.of e9,rfl,_,_,rfl,_,_,rfl,rfl,?_⟩;rw [show (0:Int)+((i:Nat):Int)=(i:Int) by omega];refine qF (by show 0<=64;decide) λω H10 hLt e10 β=>?_;have S10:=(S8.trans s9).trans β;have LtN:H ω=none:=(S8.trans s9).free hLt;refine ⟨_,rfl,?_⟩;refine ZF (g8.same (s9.trans β)) λo ξ H11 e11 fz b11 t11=>?_;have S11:=bC.thru aN S10 b11;have nLa:ω≠μ:=λz=>by
   obtain ⟨kv,dn,_⟩:=(g8.same s9).ex;obtain ⟨_,e⟩:=dn.there;rw [<-z,hLt] at e;cases e
  have eL11:H11 ω=some (.lst []):=b11.at nLa e10;have rz11:=((η.same (s9.trans β)).flat t11 (mP _));have bg11:=t11 _ _ ((s9.trans β) _ _ bg8);have lkv:ξ.length=l.length:=fz.length;refine yX (LJ4 P w K d h r u i H ha ea Y μ ω M y o ξ l) ⟨_,_,[],rfl,S11,bg11,rz11,e11,fz,eL11,aZ.nil⟩ (λj σ H' _ p=>?_) ?_ ?_
  ·obtain ⟨_,_,_,_,_,_,_,e,_⟩:=p;exact e
  ·rintro j p q12 σ H12 H13 hp ⟨ε,ν,ys,rfl,S12,W,I,e12,S,C,R⟩ hq12 e13 m;obtain ⟨x,hx,pk,pr,pv⟩:=kR (OR.t m.t S) hp;obtain ⟨sbx,x0,x1,xq⟩:=τ.ok x (aV hx);have ψ:j<l.length:=(aX.mp hx).1;have lys:ys.length<=81:=by rw [R.len,aC,uO,bW];omega
   refine ⟨q12,_,rfl,fO.of e13,rfl,_,_,rfl,_,_,rfl,rfl,⟨_,rfl,VC (m _ _ C),?_⟩⟩;obtain ⟨evs,hev,lev,aev⟩:=(en.same (S12.trans m)).ex;obtain ⟨eb,heb,enb⟩:=aev i υ;rw [eh] at enb;refine ⟨_,rfl,_,rfl,_,rfl,_,rfl,_,rfl,_,rfl,mK hev (cP heb) ?_⟩;obtain ⟨κ,er,Z,h0⟩:=J.rl.root;have he0:κ∈h.es:=by rw [Z];exact aR ..
   have rc:=(eF ((I.same m)) χ);obtain ⟨cz,U,rcz⟩:=rc;rw [aL,φ] at U;cases U;have lc:=sbx.lc;have lo:=sbx.lo;refine vD (F:=h.fs.length) (sh:=gS h (r.getD i 0)) (e:=κ) (es:=h.es) (k:=r.getD i 0) (n:=d.length) pr pv.v xq (qB _) (BQ Oo) (by rw [h0];exact rcz) enb J.rl.nd he0 (J.sy κ he0) J.kw Oo Oo υ n3 λL6 y6 H14 hL6 e14 ζ B=>?_;have l6:y6.length=3:=by rw [ζ.len];rfl
   have γ:=(m.trans B) _ _ C;refine aBD γ e14 Oo λH15 e15 θ=>?_;have O:=θ.t γ;have nLa':μ≠ω:=nLa.symm;refine ⟨_,_,_,rfl,bC.thru LtN (S12.trans (m.trans B)) θ,O _ _ ((m.trans B) _ _ W),(I.same (m.trans B)).flat O (mP _),θ.at nLa' ((m.trans B) _ _ e12),OR.t ((m.trans B).t.trans O) S,e15,?_⟩;rw [TD hx,bR];refine aZ.app ((R.same (m.trans B)).flat O (iU _)) ?_;rw [List.map_map];rw [h0] at ζ;exact ζ.flat O (by have:=iU ((dH (mV (u.getD i 0) h (r.getD i 0)).t x.1 i (List.replicate h.fs.length 0)).map λp'=>(p'.1,x.2*p'.2));rwa [List.map_map] at this)
  ·rintro σ H12 ⟨ε,ν,ys,rfl,S12,W,I,e12,S,C,R⟩;rw [lkv,cE] at R;have ο:List.replicate h.fs.length 0∈h.es.map (·.1):=J.ok.root;have G:=YN.gath (ms:=dR d r u) (Sx:=IJ (dR d r u) (i+1)) (D:=LC^(i+1)) (T:=Tf (dR d r u) (xF d) (i+1)) (L:=NW (mV (u.getD i 0) h (r.getD i 0)).t i (List.replicate h.fs.length 0) l) (by rw [IH];exact Rat.le_refl) (qB _) (λp hp=>?_) (λg=>?_)
   ·obtain ⟨G1,G2,G3⟩:=G;refine ⟨_,rfl,?_⟩;refine yG C R G2 G3 (qB _) (BQ Oo) (by rw [uO];omega) λa13 H13 m ha13 g13=>⟨_,_,_,_,_,a13,_,rfl,S12.trans m,S12.free ha13,m _ _ W,I.same m,g13,G1,?_⟩;refine aY (KM _) ?_;rw [uO,Nat.pow_succ];omega
   ·obtain ⟨p0,h0,p',X,h2,h3⟩:=XS hp;obtain ⟨sb0,z0,z1,zq⟩:=τ.ok p0 h0;obtain ⟨c0,cq⟩:=pD J ο p0.1 i p' X;rw [h3];refine ⟨Rat.mul_nonneg (Rat.le_of_lt z0) c0,⟨1,by have:=zq.mul cq;rwa [Nat.mul_one,<-Nat.pow_succ] at this⟩,λhne=>?_⟩;rw [h2];have:=sb0.come (by rw [lm];exact υ) (p:=p') (by rw [mt];exact X) (λz=>hne (by rw [z];grind));exact this
   ·rw [LG];show _=Tf (dR d r u) (xF d) i λst=>cI (dH ((dR d r u).getD i eO).t st i (List.replicate ((dR d r u).getD i eO).t.F 0)) λp=>p.2*g p.1;rw [<-τ.sum,mt]
    rfl
 ·rintro σ H8 ⟨o4,o5,o6,ε,ν,μ,l,rfl,S8,aN,bg8,η,g8,τ,ll⟩;refine ⟨_,rfl,?_⟩;rw [show M.length=d.length by omega] at τ ll;exact k μ l H8 S8 aN g8 τ (aY ll (NB n3))
end
theorem ID{js:List Nat}{te:TE}{σ:St}{H:Hp}{Q:VK}{K:PySem.W.Frag}{b1 b2:Bool}{l1 l2:Addr}{xs ys:List V}(R:Nat->V->Hp->Prop)(hR:∀i y H1 H2,bC H1 H2->R i y H1->R i y H2)(hB:∀i y H1 H2 D zs,H1 D=some (.lst zs)->aO D H1 H2->R i y H1->R i y H2)(hz:xs.length<=100000)(h1:H l1=some (sB b1 xs))(h2:H l2=some (sB b2 ys))(hl:xs.length=ys.length)
  (hs:∀i x y H' (Q':VK),xs[i]?=some x->ys[i]?=some y->bC H H'->(∀z H6,bC H' H6->R i z H6->Q' z H6)->te (some x::some y::slots σ js) H' Q')
  (hd:∀D zs H',H D=none->H' D=some (.lst zs)->bC H H'->zs.length=xs.length->(∀(i:Nat) (z:V),zs[i]?=some z->R i z H')->Q (.ref D) H'):lE K 2 (Itz b1 b2 l1 l2) σ js rY te H Q:=by
 unfold lE;intro D hD;refine ⟨λi m zs H'=>m=xs.length-i/\i<=xs.length/\zs.length=i/\H' D=some (.lst zs)/\bC H H'/\∀(i:Nat) (z:V),zs[i]?=some z->R i z H',⟨xs.length,by simp,bS _,rfl,bH,bC.upd hD,λi z h=>by simp at h⟩,?_⟩;rintro i m zs H2 ⟨rfl,M,f,c,a,s⟩;refine ⟨c,?_⟩;by_cases hlt:i<xs.length
 ·have G:xs[i]?=some xs[i]:=aB Oo;have p:ys[i]?=some (ys[i]'Oo):=aB Oo;refine .inr ⟨⟨xs,ys,_,_,a _ _ h1,a _ _ h2,G,p⟩,bA (m:=100000) Oo Dd,λv H3 y=>?_⟩;obtain ⟨q,x,y,rfl,L,rfl,J⟩:=y;obtain ⟨B,I⟩:=J xs ys (a _ _ h1) (a _ _ h2);have d:=bC.upd (o:=.tup [x,y]) L;have e3:(upd H2 q (.tup [x,y])) q=some (.tup [x,y]):=bH;generalize upd H2 q (.tup [x,y])=H3 at d e3;refine ⟨q,[x,y],rfl,fO.of e3,rfl,λb H4=>b=true/\H4=H3,⟨rfl,rfl⟩,?_⟩;rintro b H4 ⟨rfl,rfl⟩;rw [if_pos rfl];refine ⟨λz H5=>bC H4 H5/\R i z H5,hs i x y H4 _ B I (a.trans d) λz H6 A r=>⟨A,r⟩,?_⟩;rintro z H5 ⟨n,r⟩;have l:=n _ _ (d _ _ c);have u:aO D H5 (upd H5 D (.lst (zs++[z]))):=aO.self;exact ⟨l,xs.length-(i+1),Oo,rfl,hlt,by rw [aT,f];rfl,bH,bC.thru hD ((a.trans d).trans n) aO.self,qW (R:=λj z=>R j z _) (λj w C=>hB j w _ _ D _ l u (hR j w _ _ (d.trans n) (s j w C))) (by rw [f];exact hB i z _ _ D _ l u r)⟩
 ·have e:i=xs.length:=Oo;subst e;exact .inl ⟨⟨xs,ys,a _ _ h1,a _ _ h2,.inl (aG _)⟩,hd D zs H2 hD c a f s⟩
def rW:List HE->List (List (List Nat))
 | []=>[[]]
 | h::hs=>(h.es.map (·.1)).flatMap λc=>(rW hs).map (c :: ·)
def DE:Nat->List (List Bool)
 | 0=>[[]]
 | n+1=>(DE n).map (true :: ·)++(DE n).map (false :: ·)
def uni(hs:List HE):List SS:=(rW hs).flatMap λcs=>(DE hs.length).flatMap λbs=>[(cs,bs,true),(cs,bs,false)]
theorem DD:∀n,(DE n).length=2^n
 | 0=>rfl
 | n+1=>by rw [DE,aT,aC,aC,DD n,Nat.pow_succ];omega
theorem kH{α β:Type}{g:α->List β}{b:Nat}:∀{l:List α},(∀a∈l,(g a).length=b)->(l.flatMap g).length=l.length*b
 | [],_=>by simp
 | a::l,h=>by
  rw [List.flatMap_cons,aT,kH (l:=l) λx hx=>h x (aM _ hx),h a (aR ..),bV,Nat.add_mul];omega
def NA(hs:List HE):Nat:=(hs.map λh=>h.es.length).foldr (· * ·) 1
theorem DB:∀hs:List HE,(rW hs).length=NA hs
 | []=>rfl
 | h::hs=>by
  rw [rW,kH (b:=(rW hs).length) λc _=>aC ..,aC,DB hs];rfl
theorem VB(hs:List HE):(uni hs).length=NA hs*(2^hs.length*2):=by
 unfold uni;rw [kH (b:=2^hs.length*2) λa _=>?_,DB];rw [kH (b:=2) λbs _=>rfl,DD]
theorem DC:∀{bs:List Bool}{n:Nat},bs.length=n->bs∈DE n
 | [],n,h=>by subst h;simp [DE]
 | b::bs,n,h=>by
  subst h;have:=DC (bs:=bs) rfl;rw [show (b::bs).length=bs.length+1 from rfl,DE];cases b
  ·exact bZ _ (List.mem_map_of_mem this)
  ·exact dA _ (List.mem_map_of_mem this)
theorem uW:∀{hs:List HE}{cs:List (List Nat)},cs.length=hs.length->(∀i,i<hs.length->cs.getD i []∈(hs.getD i ⟨[],[],[]⟩).es.map (·.1))->cs∈rW hs
 | [],[],_,_=>by simp [rW]
 | [],_::_,h,_=>by cases h
 | _::_,[],h,_=>by cases h
 | h::hs,c::cs,hl,hm=>by
  rw [rW];refine List.mem_flatMap.mpr ⟨c,hm 0 (by simp),List.mem_map_of_mem (uW (by simpa using hl) λi hi=>?_)⟩;have:=hm (i+1) (by simpa using hi);simpa using this
theorem VA{hs:List HE}{ks Ms:List Nat}{st:SS}(h:FZ (dR hs ks Ms) st):st∈uni hs:=by
 have a:=eZ hs ks Ms;obtain ⟨d,bs,b⟩:=st;refine List.mem_flatMap.mpr ⟨d,uW (by rw [<-a];exact h.lc) λi c=>?_,List.mem_flatMap.mpr ⟨bs,DC (by rw [<-a];exact h.lo),by cases b <;> simp⟩⟩;have:=h.k i (by rw [a];exact c);rw [iJ c] at this;exact this
theorem yP:∀{l m:List SS},l.Nodup->(∀x∈l,x∈m)->l.length<=m.length
 | [],m,_,_=>bS _
 | a::l,m,nd,h=>by
  rw [List.nodup_cons] at nd;have ha:=h a (aR ..);have:=yP (m:=m.erase a) nd.2 λx b=>(List.mem_erase_of_ne (show x≠a from λz=>nd.1 (z ▸ b))).mpr (h x (aM _ b));rw [List.length_erase_of_mem ha] at this;have:=List.length_pos_of_mem ha;rw [bV];omega
structure rR(hs:List HE)(ks Ms Ns:List Nat)(N:Nat):Prop where
 hall:FX hs ks Ms Ns
 same:∀i,i<hs.length->Ns.getD i 0=N
 n0:0<N
 dz:LC^3*(N*LC)^10<2^2500
 mM:tL (dR hs ks Ms)<=8
 few:NA hs*(2^hs.length*2)<=4000
def Dj(N j:Nat):Nat:=LC^3*(N*LC)^j
theorem rR.dpos{hs:List HE}{ks Ms Ns:List Nat}{N:Nat}(B:rR hs ks Ms Ns N)(j:Nat):0<Dj N j:=lG (qB 3) (Nat.pow_pos (lG B.n0 Dd))
theorem rR.dlt{hs:List HE}{ks Ms Ns:List Nat}{N:Nat}(B:rR hs ks Ms Ns N){j:Nat}(h:j<=10):Dj N j<2^2500 :=
 bA (fA _ (bI (lG B.n0 Dd) h)) B.dz
theorem LW(N j:Nat):Dj N (j+1)=Dj N j*N*LC:=by unfold Dj;rw [Nat.pow_succ (n:=N*LC),Nat.mul_assoc (LC^3*(N*LC)^j),Nat.mul_assoc (LC^3)]
theorem aBY(N:Nat){j k:Nat}(h:j<=k):∃m,Dj N k=Dj N j*m:=⟨(N*LC)^(k-j),by unfold Dj;rw [Nat.mul_assoc,<-Nat.pow_add];congr 2;omega⟩
theorem ZK{D m C:Nat}{x:Rat}(h:Qn D C x):Qn (D*m) C x:=by
 have:=h.mul (oK m)
 rwa [Nat.mul_one,Rat.mul_one] at this
structure LvK(hs:List HE)(ks Ms:List Nat)(N j:Nat)(l:List (SS × Rat)):Prop where
 nd:(l.map (·.1)).Nodup
 ok:∀p∈l,(FZ (dR hs ks Ms) p.1/\jP p.1.1=j)/\0<p.2/\p.2<=1/\Qn (Dj N j) 1 p.2
 one:cI l (λp=>p.2)<=1
theorem LvK.len{hs:List HE}{ks Ms Ns:List Nat}{N j:Nat}{l:List (SS × Rat)}(B:rR hs ks Ms Ns N)(h:LvK hs ks Ms N j l):l.length<=4000:=by
 have a:=yP (m:=uni hs) h.nd λx c=>by
  obtain ⟨p,b,rfl⟩:=aS.mp c;exact VA (h.ok p b).1.1
 rw [aC,VB] at a;exact aY a B.few
theorem LvK.lev{hs:List HE}{ks Ms Ns:List Nat}{N j:Nat}{l:List (SS × Rat)}(B:rR hs ks Ms Ns N)(h:LvK hs ks Ms N j l)(hne:0<l.length):j<=8:=by
 obtain ⟨p,c⟩:∃p,p∈l:=⟨_,List.getElem_mem hne⟩;obtain ⟨⟨a,d⟩,_⟩:=h.ok p c;have H7:=B.hall.ok;have:=(GK (ms:=dR hs ks Ms) a.lc λi b=>(H7 i b).le _ (a.k i b)).1;have:=B.mM;omega
def FS(t:TQ)(i:Nat)(x:SS × Rat):List (SS × Rat):=(List.range t.F).flatMap λf=>(dH t x.1 i (cK (x.1.1.getD i []) f)).map λp=>(p.1,x.2*t.q f*p.2)
theorem FR(t:TQ)(i:Nat)(x:SS × Rat)(g:SS->Rat):cI (FS t i x) (λp=>p.2*g p.1)=x.2*iZ t.F λf=>t.q f*cI (dH t x.1 i (cK (x.1.1.getD i []) f)) λp=>p.2*g p.1:=by
 have a:∀n,cI ((List.range n).flatMap λf=>(dH t x.1 i (cK (x.1.1.getD i []) f)).map λp=>(p.1,x.2*t.q f*p.2)) (λp=>p.2*g p.1)=x.2*iZ n λf=>t.q f*cI (dH t x.1 i (cK (x.1.1.getD i []) f)) λp=>p.2*g p.1:=λn=>by
  induction n with
  | zero=>show (0:Rat)=x.2*0;grind
  | succ n ih =>
   rw [pB,iS,ih];have e:iZ (n+1) (λf=>t.q f*cI (dH t x.1 i (cK (x.1.1.getD i []) f)) λp=>p.2*g p.1)=iZ n (λf=>t.q f*cI (dH t x.1 i (cK (x.1.1.getD i []) f)) λp=>p.2*g p.1)+t.q n*cI (dH t x.1 i (cK (x.1.1.getD i []) n)) λp=>p.2*g p.1:=gZ _ _;rw [e];unfold dH cI;simp only [aU,List.map_nil,lH];grind
 exact a t.F
theorem UB(t:TQ)(i:Nat)(x:SS × Rat):(FS t i x).length<=t.F*3:=BW (λf=>by simp [dH]) _
theorem YG{hs:List HE}{ks Ms Ns:List Nat}{N j i:Nat}{pl:List (List Nat)->Option Int}{x:SS × Rat}(B:rR hs ks Ms Ns N)(so:FZ (dR hs ks Ms) x.1)(tc:jP x.1.1=j)(x0:0<=x.2)(xq:Qn (Dj N j) 1 x.2)(e:gU pl x.1=some i):∀p∈FS ((dR hs ks Ms).getD i eO).t i x,0<=p.2/\(∃C,Qn (Dj N (j+1)) C p.2)/\(p.2≠0->FZ (dR hs ks Ms) p.1/\jP p.1.1=j+1):=λp m=>by
 have H7:=B.hall.ok;have A:=eZ hs ks Ms;obtain ⟨o,G,D,y⟩:=so.look H7 e;have a:i<hs.length:=by rw [<-A];exact o
 have n:=B.hall.ts i a;rw [B.same i a] at n;have T:=H7 i o;unfold FS at m;obtain ⟨f,c,m⟩:=List.mem_flatMap.mp m;have c:=cM.mp c;obtain ⟨d,b,rfl⟩:=aS.mp m;obtain ⟨w,I⟩:=y f c;have q0:=T.q0 f c;have h:=w;have l:=b;rw [iJ a] at h l;obtain ⟨c0,J⟩:=pD n h x.1 i d l;have L:Qn N 1 (((dR hs ks Ms).getD i eO).t.q f):=by
  rw [iJ a];show Qn N 1 (fM (gS (hs.getD i ⟨[],[],[]⟩) (ks.getD i 0)) f);have s:f<(gS (hs.getD i ⟨[],[],[]⟩) (ks.getD i 0)).length:=by
   rw [n.len];rw [iJ a] at c;exact c
  have u:=aB s;rw [(fT u).1];exact (n.fn _ (aV u)).q
 refine ⟨Rat.mul_nonneg (Rat.mul_nonneg x0 q0) c0,⟨1,?_⟩,λr=>?_⟩
 ·rw [LW];have:=(xq.mul L).mul J
  rwa [Nat.mul_one,Nat.mul_one] at this
 ·refine ⟨so.come o w d b (λz=>r (by show _*d.2=0;rw [z];grind)) (.inr trivial),?_⟩;show jP d.1.1=j+1;rw [LF d b,I,tc]
def vsum(a:SS->Rat)(b:Rat)(Lf:List (SS × Rat))(Lk:List Rat):Rat:=cI Lf (λp=>p.2*a p.1)+b*cI Lk λq=>q
theorem ME{a:SS->Rat}{b:Rat}{Lf:List (SS × Rat)}{Lk:List Rat}{x:SS × Rat}:vsum a b (Lf++[x]) Lk=vsum a b Lf Lk+x.2*a x.1:=by unfold vsum;rw [kE];grind
theorem MD{a:SS->Rat}{b:Rat}{Lf:List (SS × Rat)}{Lk:List Rat}{x:Rat}:vsum a b Lf (Lk++[x])=vsum a b Lf Lk+b*x:=by unfold vsum;rw [kE];grind
theorem IW{α:Type}{l:List α}{f:α->Rat}{D:Nat}(h:∀a∈l,Qn D 1 (f a))(d0:0<D)(d1:D<2^2500)(hl:l.length<=100000):UG (l.map λa=>dU (f a))/\pG (l.map λa=>dU (f a))=dU (cI l f):=by
 have d:∀m:List α,pG (m.map λa=>dU (f a))=dU (cI m f):=λm=>aAi λa _=>⟨cJ _,gD _⟩;refine ⟨⟨λg b=>?_,λg b=>?_,λi=>?_⟩,d l⟩
 ·obtain ⟨a,_,rfl⟩:=aS.mp b;exact cJ _
 ·obtain ⟨a,c,rfl⟩:=aS.mp b;exact iR (h a c) d0 d1 Kk
 ·rw [<-List.map_take,d];refine ⟨cJ _,iR (Qn.sumL λa c=>h a (List.mem_of_mem_take c)) d0 d1 ?_⟩;rw [bW,Nat.mul_one];exact aY (aY (Nat.min_le_right _ _) hl) Kk
def ZZ(K:PySem.W.Frag)(H:Hp)(p:SS × Rat)(v:V):Prop:=∃b sa qv,v=.ref b/\H b=some (.tup [.ref sa,qv])/\cB H (qO p.1) (.ref sa)/\uA K H (dU p.2) qv
theorem ZZ.t{K:PySem.W.Frag}{H H':Hp}{p:SS × Rat}{v:V}(s:dJ H H')(h:ZZ K H p v):ZZ K H' p v:=by
 obtain ⟨b,i,c,e,f,a,d⟩:=h;exact ⟨b,i,c,e,s _ _ f,a.flat s (oA _),d.t s⟩
structure YQ(H:Hp)(a:Addr)(hs:List HE)(ks:List Nat):Prop where
 ex:∃vs:List V,H a=some (.lst vs)/\vs.length=hs.length/\∀i,i<hs.length->∃v,vs[i]?=some v/\cB H (uH (gS (hs.getD i ⟨[],[],[]⟩) (ks.getD i 0))) v
theorem YQ.same{H H':Hp}{a:Addr}{hs:List HE}{ks:List Nat}(h:YQ H a hs ks)(s:bC H H'):YQ H' a hs ks:=by
 obtain ⟨e,d,b,c⟩:=h.ex;exact ⟨e,s _ _ d,b,λi j=>by obtain ⟨v,l,f⟩:=c i j;exact ⟨v,l,f.same s⟩⟩
def cQ(hs:List HE)(ks Ms:List Nat)(pl:List (List Nat)->Option Int)(a:SS->Rat)(b:Rat):Rat:=SD ((dR hs ks Ms).map (·.t)) 0 (nQ ((dR hs ks Ms).map (·.t)) pl a b 9) (xF hs)
@[irreducible] def vG(P:Program)(w:World)(K:PySem.W.Frag):Sp:=λvs H Q _=>∃(x:V) (ca pa:Addr) (hs:List HE) (ks Ms Ns:List Nat) (N:Nat) (pl:List (List Nat)->Option Int),vs=[x,.ref ca,.ref pa]/\cB H (ON hs) x/\H ca=some (.tup (ks.map mB))/\rP P w H pa pl/\rR hs ks Ms Ns N /\
 ∀v H',bC H H'->cB H' (.tuple [eY (dU (cQ hs ks Ms pl aW 0)),eY (dU (cQ hs ks Ms pl aA 0)),eY (dU (cQ hs ks Ms pl (λ_=>0) 1))]) v->Qn (Dj N 9) 100000 (cQ hs ks Ms pl aW 0)->Qn (Dj N 9) 100000 (cQ hs ks Ms pl aA 0)->Qn (Dj N 9) 100000 (cQ hs ks Ms pl (λ_=>0) 1)->Q v H'
theorem QD{P:Program}{w:World}{K:PySem.W.Frag}{H:Hp}{Q:VK}{E:XK}{x:V}{ca pa:Addr}{hs:List HE}{ks Ms Ns:List Nat}{N:Nat}{pl:List (List Nat)->Option Int}(h1:cB H (ON hs) x)(h2:H ca=some (.tup (ks.map mB)))(h3:rP P w H pa pl)(h4:rR hs ks Ms Ns N)
  (k:∀v H',bC H H'->cB H' (.tuple [eY (dU (cQ hs ks Ms pl aW 0)),eY (dU (cQ hs ks Ms pl aA 0)),eY (dU (cQ hs ks Ms pl (λ_=>0) 1))]) v->Qn (Dj N 9) 100000 (cQ hs ks Ms pl aW 0)->Qn (Dj N 9) 100000 (cQ hs ks Ms pl aA 0)->Qn (Dj N 9) 100000 (cQ hs ks Ms pl (λ_=>0) 1)->Q v H'):vG P w K [x,.ref ca,.ref pa] H Q E:=by
 unfold vG;exact ⟨x,ca,pa,hs,ks,Ms,Ns,N,pl,rfl,h1,h2,h3,h4,k⟩
theorem rX:∀{cs:List (List Nat)},(∀i,i<cs.length->∃n,cs.getD i []=List.replicate n 0)->jP cs=0
 | [],_=>rfl
 | c::cs,h=>by
  obtain ⟨n,hn⟩:=h 0 (by simp);have:=rX (cs:=cs) λi a=>by simpa using h (i+1) (by simpa using a)
  show c.sum+jP cs=0;rw [this,show c=List.replicate n 0 from hn];simp
theorem lv0{hs:List HE}{ks Ms Ns:List Nat}{N:Nat}{l:List (SS × Rat)}(B:rR hs ks Ms Ns N)(h:YN (dR hs ks Ms) (IJ (dR hs ks Ms) hs.length) (LC^hs.length) (Tf (dR hs ks Ms) (xF hs) hs.length) l):LvK hs ks Ms N 0 l:=by
 have d:=eZ hs ks Ms;have n3:=B.hall.n3;refine ⟨h.nd,λp b=>?_,?_⟩
 ·obtain ⟨a,e,f,j⟩:=h.ok p b;rw [<-d] at a;refine ⟨⟨a.ok B.hall.ok,rX λi n=>⟨_,a.c i (by rw [<-a.lc];exact n)⟩⟩,e,f,?_⟩;have:=ZK (m:=LC^(3-hs.length)) j;rw [<-Nat.pow_add,show hs.length+(3-hs.length)=3 by omega] at this;show Qn (LC^3*(N*LC)^0) 1 p.2;rw [Nat.pow_zero,Nat.mul_one];exact this
 ·rw [<-mY,h.sum λ_=>1,IH];exact Rat.le_refl
theorem IY{l:List (SS × Rat)}{j:Nat}{x:SS × Rat}(h:l[j]?=some x):cI (l.take (j+1)) (λp=>p.2)=cI (l.take j) (λp=>p.2)+x.2:=by rw [fI h,kE]
theorem KY{l:List (SS × Rat)}{j:Nat}{x:SS × Rat}(h:l[j]?=some x)(f:SS × Rat->Rat):cI (l.drop j) f=f x+cI (l.drop (j+1)) f:=by
 obtain ⟨a,e⟩:=aX.mp h;rw [List.drop_eq_getElem_cons a,cY,e]
theorem yC:∀l:List (SS × Rat),cI l (λp=>p.2*(0:Rat))=0
 | []=>rfl
 | p::l=>by rw [cY,yC l];grind
theorem XJ(bs:List Bool):(bs.map V.bl).all nP=true:=List.all_eq_true.mpr λx a=>by
 obtain ⟨i,_,rfl⟩:=aS.mp a
 rfl
theorem SA(bs:List Bool):(if true=true then !HN (V.bl true) (bs.map V.bl) else HN (V.bl true) (bs.map V.bl))=decide (cS bs=[]):=by
 rw [if_pos rfl,Bool.eq_iff_iff,decide_eq_true_iff,Bool.not_eq_true',<-Bool.not_eq_true];unfold HN;rw [List.any_eq_true];constructor
 ·intro h;refine List.filter_eq_nil_iff.mpr λi a=>?_;have a:=cM.mp a;intro e;refine h ⟨V.bl true,?_,rfl⟩;rw [aE,aB a] at e;have:bs[i]=true:=by simpa using e
  exact aS.mpr ⟨bs[i],List.getElem_mem a,by rw [this]⟩
 ·rintro h ⟨x,j,e⟩;obtain ⟨b,d,rfl⟩:=aS.mp j;have c:b=true:=by cases b;cases e;rfl
  subst c;obtain ⟨i,a,f⟩:=List.getElem_of_mem d;have:=List.filter_eq_nil_iff.mp h i (cM.mpr a);refine this ?_;rw [aE,aB a,f];rfl
section
inductive LI1 (P:Program)(w:World)(K:PySem.W.Frag)(d:List HE)(ks Ms:List Nat)(N:Nat)(pl:List (List Nat)->Option Int)(H2:Hp)(ha ca pa ea fa μ lo:Addr):Nat -> St -> Hp->Prop
| mk {m:Nat}{σ:St}{H':Hp}(o8 o9 U X:Option V) (j:Nat) (a:Addr) (l u:List (SS × Rat)) (M:List Rat) (α γ:List V)(_:m=20-j)(_:j<=9)(_:σ=[some (.ref ha),some (.ref ca),some (.ref pa),some (.ref ea),some (.ref fa),some (.ref a),some (.ref μ),some (.ref lo),o8,o9,U,X,none,none])(_:bC H2 H')(_:H2 a=none)(_:OQ P w K H' a l)(_:LvK d ks Ms N j l)(_:H' μ=some (.lst α))(_:Paired (ZZ K H') u α)(_:H' lo=some (.lst γ))(_:Paired (λq v=>uA K H' (dU q) v) M γ)(_:(∀p∈u,Qn (Dj N 9) 1 p.2))(_:(∀q∈M,Qn (Dj N 9) 1 q))(_:u.length<=4000*j)(_:M.length<=4000*j)(_:∀aF b,vsum aF b u M+cI l (λp=>p.2*nQ ((dR d ks Ms).map (·.t)) pl aF b (9-j) p.1)=cQ d ks Ms pl aF b):LI1 P w K d ks Ms N pl H2 ha ca pa ea fa μ lo m σ H'
inductive LI2 (P:Program)(w:World)(K:PySem.W.Frag)(d:List HE)(ks Ms:List Nat)(N:Nat)(pl:List (List Nat)->Option Int)(H2:Hp)(ha ca pa ea fa μ lo:Addr):St -> Hp->Prop
| mk {σ:St}{H':Hp}(o5 o8 o9 U X:Option V) (u:List (SS × Rat)) (M:List Rat) (α γ:List V)(_:σ=[some (.ref ha),some (.ref ca),some (.ref pa),some (.ref ea),some (.ref fa),o5,some (.ref μ),some (.ref lo),o8,o9,U,X,none,none])(_:bC H2 H')(_:H' μ=some (.lst α))(_:Paired (ZZ K H') u α)(_:H' lo=some (.lst γ))(_:Paired (λq v=>uA K H' (dU q) v) M γ)(_:(∀p∈u,Qn (Dj N 9) 1 p.2))(_:(∀q∈M,Qn (Dj N 9) 1 q))(_:u.length<=36000)(_:M.length<=36000)(_:∀aF b,vsum aF b u M=cQ d ks Ms pl aF b):LI2 P w K d ks Ms N pl H2 ha ca pa ea fa μ lo σ H'
inductive LI3 (P:Program)(w:World)(K:PySem.W.Frag)(d:List HE)(ks Ms:List Nat)(N:Nat)(pl:List (List Nat)->Option Int)(H2:Hp)(ha ca pa ea fa μ lo Lt a:Addr)(j:Nat)(o:Obj)(kvs:List (PyData × Addr × V))(l:List (SS × Rat)):Nat -> St -> Hp->Prop
| mk {i:Nat}{σ:St}{H':Hp}(o9 U X:Option V) (u L:List (SS × Rat)) (M:List Rat) (α γ ys:List V)(_:σ=[some (.ref ha),some (.ref ca),some (.ref pa),some (.ref ea),some (.ref fa),some (.ref a),some (.ref μ),some (.ref lo),some (.ref Lt),o9,U,X,none,none])(_:bC H2 H')(_:H' a=some (.frz o (mU P w shS a kvs)))(_:OR K H' kvs l)(_:H' μ=some (.lst α))(_:Paired (ZZ K H') u α)(_:H' lo=some (.lst γ))(_:Paired (λq v=>uA K H' (dU q) v) M γ)(_:H' Lt=some (.lst ys))(_:aZ H' (L.map JT) ys)(_:(∀p∈u,Qn (Dj N 9) 1 p.2))(_:(∀q∈M,Qn (Dj N 9) 1 q))(_:u.length<=4000*j+i)(_:M.length<=4000*j+i)(_:L.length<=12*i)(_:(∀p∈L,0<=p.2/\(∃C,Qn (Dj N (j+1)) C p.2)/\(p.2≠0->FZ (dR d ks Ms) p.1/\jP p.1.1=j+1)))(_:cI L (λp=>p.2)<=cI (l.take i) (λp=>p.2))(_:∀aF b,vsum aF b u M+cI L (λp=>p.2*nQ ((dR d ks Ms).map (·.t)) pl aF b (8-j) p.1)+cI (l.drop i) (λp=>p.2*nQ ((dR d ks Ms).map (·.t)) pl aF b (9-j) p.1)=cQ d ks Ms pl aF b):LI3 P w K d ks Ms N pl H2 ha ca pa ea fa μ lo Lt a j o kvs l i σ H'
theorem aD1(F:lC K "led" "led" GW f fd)(T:nT K mg c)(FQ18:iP eV P w K mg base 4 "ends_of" ["rule","way"] (qV K))(FQ34:iP eV P w K mg base 1 "way_shares" ["trial","way"] vB)(FQ29:iP eV P w K mg base 4 "stands_at_first" ["hall","ends"] (oH P w K))(FQ23:iP eV P w K mg base 1 "looked_at" ["plan","stand"] (mG P w))(FQ30:iP eV P w K mg base 4 "stands_behind_look" ["stand","share","test","face_shares","ends"] (kL K))(FQ19:iP eV P w K mg base 3 "gathered" ["found"] (oW P w K))(FQ33:iP eV P w K mg base 3 "total" ["some"] (oC K)):fJ P w K mg base eV 5 f fd ["hall","choice","plan"] (vG P w K):=by
 refine F.oky sY λvs H Q E h=>?_;unfold vG at h;obtain ⟨x,ca,pa,d,ks,Ms,Ns,N,pl,rfl,rx,hca,hpl,B,k⟩:=h;refine ⟨rfl,λcdv A outer s hr=>?_⟩;have rx0:=rx;obtain ⟨ha,xs,rfl,hha,rxs⟩:=dX rx;have lx:xs.length=d.length:=dN rxs;have n3:=B.hall.n3;have lk:=B.hall.lk;have lm:(dR d ks Ms).length=d.length:=eZ ..;have hat:∀j (h:HE),d[j]?=some h->j<d.length/\d.getD j ⟨[],[],[]⟩=h:=λj h e=>⟨(aX.mp e).1,by rw [aE,e];rfl⟩;have kat:∀j v,(ks.map mB)[j]?=some v->v=V.int ((ks.getD j 0:Nat):Int):=λj v e=>by
  rw [aL] at e;obtain ⟨n,hn,rfl⟩:=Option.map_eq_some_iff.mp e;rw [aE,hn];rfl
 refine ⟨_,(aQ (mW (i:=3) (eI.of (psc:=bJ GW) (N:=["hall","choice","plan","ends","face_shares","stands","left","looks","later","stand","share","test","some_wrong","all_said"]) (xs:=["test","way"]) (N':=["test","way"]) (js:=[]) Kk rfl rfl rfl) sY.nd rfl rfl (AB true true rfl T.b_zip (aP (aJ 0) (aP (aJ 1) aI))) (λ_ _ _ _=>fB) (λ_ _ _ _=>(cG FQ18 (hr.mono Dd) (aP (bU (gI K) (aJ 0) aK (λ_ _=>rfl)) (aP (aJ 1) aI)))))
  (aQ (mW (i:=4) (eI.of (psc:=bJ GW) (N:=["hall","choice","plan","ends","face_shares","stands","left","looks","later","stand","share","test","some_wrong","all_said"]) (xs:=["test","way"]) (N':=["test","way"]) (js:=[]) Kk rfl rfl rfl) sY.nd rfl rfl (AB true true rfl T.b_zip (aP (aJ 0) (aP (aJ 1) aI))) (λ_ _ _ _=>fB) (λ_ _ _ _=>(cG FQ34 (hr.mono Dd) (aP (bU (gI K) (aJ 0) aK (λ_ _=>rfl)) (aP (aJ 1) aI)))))
  (aQ (bQ (i:=5) sY.nd rfl (Or.inl rfl) (cG FQ29 (hr.mono Dd) (aP (aJ 0) (aP (aJ 3) aI))))
  (aQ (bQ (i:=6) sY.nd rfl (Or.inl rfl) (eK aI))
  (aQ (bQ (i:=7) sY.nd rfl (Or.inl rfl) (eK aI))
  (aQ (qH PassesOwn.never (eJ EE (gF (XU P w) (by rfl) T.b_len Kk (aP (aJ 5) aI)) aK (nomark _)) (aQ (bQ (i:=8) sY.nd rfl (Or.inl rfl) (eK aI))
  (aQ (fC PassesOwn.never rfl (CQ P w (aJ 5)) (hV rfl (cR (cL (i:=9) sY.nd rfl (Or.inl rfl)) (cR (cL (i:=10) sY.nd rfl (Or.inl rfl)) gC))) (aQ (bQ (i:=11) sY.nd rfl (Or.inl rfl) (cG FQ23 (hr.mono Dd) (aP (aJ 2) (aP (aJ 9) aI))))
  (bO (lJ (eJ RN (aJ 11) uT (nomark _)) (bO (jK (qK PySem.F.plainAttrs_list PySem.F.slot_list_append PySem.F.type_list_append vW (aJ 6) (aP (cW (aP (aJ 9) (aP (aJ 10) aI))) aI)))) (aQ (jK (qK PySem.F.plainAttrs_list PySem.F.slot_list_append PySem.F.type_list_append vW (aJ 7) (aP (aJ 10) aI)))
  (bO (jK (qK PySem.F.plainAttrs_list PySem.F.slot_list_extend PySem.F.type_list_extend BJ (aJ 8) (aP (cG FQ30 (hr.mono Dd) (aP (aJ 9) (aP (aJ 10) (aP (aJ 11) (aP (bU bL (aJ 4) (aJ 11) (λ_ _=>rfl)) (aP (bU bL (aJ 3) (aJ 11) (λ_ _=>rfl)) aI)))))) aI)))))))))
  (bO (bQ (i:=5) sY.nd rfl (Or.inl rfl) (cG FQ19 (hr.mono Dd) (aP (aJ 8) aI)))))))
  (aQ (bQ (i:=12) sY.nd rfl (Or.inl rfl) (cG FQ33 (hr.mono Dd) (aP (jC (eI.of (psc:=bJ GW) (N:=["hall","choice","plan","ends","face_shares","stands","left","looks","later","stand","share","test","some_wrong","all_said"]) (xs:=["stand","share"]) (N':=["stand","share"]) (js:=[]) Kk rfl rfl rfl) (gG (aJ 6)) (λ_ _ _ _=>oT (OW (bU (gI K) (aJ 0) aK (λ_ _=>rfl)))) (λ_ _ _ _=>(aJ 1))) aI)))
  (aQ (bQ (i:=13) sY.nd rfl (Or.inl rfl) (cG FQ33 (hr.mono Dd) (aP (jC (eI.of (psc:=bJ GW) (N:=["hall","choice","plan","ends","face_shares","stands","left","looks","later","stand","share","test","some_wrong","all_said"]) (xs:=["stand","share"]) (N':=["stand","share"]) (js:=[]) Kk rfl rfl rfl) (gG (aJ 6)) (λ_ _ _ _=>oT (eJ (NF (K:=K)) tH (bU (gI K) (aJ 0) aK (λ_ _=>rfl)) (by with_unfolding_all rfl))) (λ_ _ _ _=>(aJ 1))) aI)))
  (bO (dL (cW (aP (aJ 12) (aP (aJ 13) (aP (cG FQ33 (hr.mono Dd) (aP (aJ 7) aI)) aI)))))))))))))),?_⟩
 refine ⟨_,rfl,_,rfl,⟨ha,ca,xs,ks.map mB,rfl,hha,hca,ID (b1:=true) (b2:=true) (xs:=xs) (ys:=ks.map mB) (λj y H'=>∃a,y=.ref a/\rQ H' a (ks.getD j 0) (d.getD j ⟨[],[],[]⟩).es) (λj y H1 H2 s ⟨a,χ,h2⟩=>⟨a,χ,h2.same s⟩) (λj y H1 H2 D zs hD b ⟨a,χ,h2⟩=>⟨a,χ,h2.keep (b.t hD) λkvs e=>b.at (λz=>by rw [z,hD] at e;cases e) e⟩) Oo hha hca (by rw [aC];omega) (λj v1 v2 H' Q' hv1 hv2 s' k'=>?_) (λea evs H1 hea e1 s1 hz1 hr1=>?_)⟩⟩
 ·obtain ⟨h,hh,rh⟩:=eF rxs hv1;obtain ⟨hj,eh⟩:=hat j h hh;have ε:=B.hall.ts j hj;rw [eh] at ε;have:=kat j v2 hv2;subst this;obtain ⟨ta,tt,tu,rfl,hta,rtt,rtu⟩:=pR (rh.same s');have few:=ε.few;refine ⟨_,rfl,jG hta rfl ?_⟩;refine ⟨_,rfl,?_⟩;exact MN rtu ε.rl ε.sy ε.kw Oo λa2 H2 s2 ha2 en2=>k' _ H2 s2 ⟨a2,rfl,by rw [eh];exact en2⟩
 have es1:OL H1 ea d ks:=⟨evs,e1,Oo,λi hi=>by
  have ν:evs[i]?=some (evs[i]'Oo):=aB Oo;obtain ⟨a,χ,h2⟩:=hr1 i _ ν;exact ⟨a,by rw [ν,χ],h2⟩⟩
 refine ⟨_,rfl,_,rfl,⟨ha,ca,xs,ks.map mB,rfl,s1 _ _ hha,s1 _ _ hca,zM (b1:=true) (b2:=true) (xs:=xs) (ys:=ks.map mB) (λj y H'=>cB H' (uH (gS (d.getD j ⟨[],[],[]⟩) (ks.getD j 0))) y) (λj y H1 H2 s h=>h.flat s (kP _)) Oo (s1 _ _ hha) (s1 _ _ hca) (by rw [aC];omega) (λj v1 v2 H' Q' hv1 hv2 s' k'=>?_) (λfa fvs H2 hfa e2 s2 hz2 hr2=>?_)⟩⟩
 ·obtain ⟨h,hh,rh⟩:=eF rxs hv1;obtain ⟨hj,eh⟩:=hat j h hh;have ε:=B.hall.ts j hj;rw [eh] at ε;have:=kat j v2 hv2;subst this;obtain ⟨ta,tt,tu,rfl,hta,rtt,rtu⟩:=pR (rh.same (s1.trans s'));obtain ⟨wx,hwx⟩:∃wx,h.ws[ks.getD j 0]?=some wx:=⟨_,aB ε.kw⟩;refine ⟨_,rfl,jG hta rfl ?_⟩;refine ⟨_,rfl,?_⟩;refine QC rtt hwx λx3 rx3=>k' _ H' (bC.refl _) ?_;rw [eh];unfold gS;rw [hwx];exact rx3
 have fs2:YQ H2 fa d ks:=⟨fvs,e2,Oo,λi hi=>by
  have ν:fvs[i]?=some (fvs[i]'Oo):=aB Oo;exact ⟨_,ν,hr2 i _ ν⟩⟩
 have es2:=es1.same s2;have S2:=s1.trans s2;have hpl2:=hpl.same S2;refine ⟨_,rfl,_,rfl,?_⟩;refine GS (rx0.same S2) es2 B.hall λa3 l3 H3 s3 ha3 g3 ld3 ll3=>qF (by show 0<=64;decide) λμ H4 hlf e4 s4=>qF (by show 0<=64;decide) λlo H5 hlo e5 s5=>?_;have nfo:μ≠lo:=λz=>by rw [z] at e4;rw [e4] at hlo;cases hlo
 have lfN:H2 μ=none:=s3.free hlf;have loN:H2 lo=none:=(s3.trans s4).free hlo;have V0:∀aF b,vsum aF b [] []+cI l3 (λp=>p.2*nQ ((dR d ks Ms).map (·.t)) pl aF b (9-0) p.1)=cQ d ks Ms pl aF b:=λaF b=>by
  rw [ld3.sum,<-lm,UI];show (0:Rat)+b*0+_=_;unfold cQ;grind
 refine uC (LI1 P w K d ks Ms N pl H2 ha ca pa ea fa μ lo)
  (LI2 P w K d ks Ms N pl H2 ha ca pa ea fa μ lo) 20
  ⟨_,_,_,_,0,a3,l3,[],[],[],[],rfl,Dd,rfl,(s3.trans s4).trans s5,ha3,g3.same (s4.trans s5),lv0 B ld3,s5 _ _ e4,.nil,e5,.nil,λp J=>absurd J List.not_mem_nil,λp J=>absurd J List.not_mem_nil,bS _,bS _,V0⟩ ?_ ?_
 ·rintro m σ H6 ⟨o8,o9,U,X,j,a,l,u,M,α,γ,rfl,j9,rfl,S6,aN,g6,lv,ef,pf,eo,po,qf,qo,lenf,leno,V6⟩;have ll:=lv.len B;obtain ⟨kv6,dn6,gp6⟩:=g6.ex;have lkv6:kv6.length=l.length:=Paired.length gp6;refine ⟨_,rfl,rnlen dn6 ?_⟩;refine ⟨_,_,rfl,rfl,⟨_,rfl,?_⟩⟩;rw [lkv6];by_cases hl0:l.length=0
  ·rw [show decide ((0:Int)<(l.length:Int))=false from bP Oo];have l0:=List.length_eq_zero_iff.mp hl0;subst l0;refine nI ?_;exact ⟨_,_,_,_,_,u,M,α,γ,rfl,S6,ef,pf,eo,po,qf,qo,Oo,Oo,λaF b=>by
    have:=V6 aF b;rw [<-this];show _=_+(0:Rat);grind⟩
  ·rw [show decide ((0:Int)<(l.length:Int))=true from bY Oo];have j8:j<=8:=lv.lev B Oo;refine oO (qF (by show 0<=64;decide) λLt H7 ο e7 s7=>?_);have LtN:H2 Lt=none:=S6.free ο;have S7:=S6.trans s7;refine ⟨_,rfl,?_⟩;refine ZF (g6.same s7) λo kvs H8 e8 fz b8 t8=>?_;have S8:=bC.thru aN S7 b8;have lkv:kvs.length=l.length:=fz.length;have naf:μ≠a:=dn6.neL ef;have nao:lo≠a:=dn6.neL eo;have naL:Lt≠a:=(dn6.same s7).neL e7;have nfL:μ≠Lt:=λz=>by rw [z] at ef;rw [ef] at ο;cases ο
   have noL:lo≠Lt:=λz=>by rw [z] at eo;rw [eo] at ο;cases ο
   have t68:=s7.t.trans t8;have τ:∀(x:SS × Rat) aF b,nQ ((dR d ks Ms).map (·.t)) pl aF b (9-j) x.1=nQ ((dR d ks Ms).map (·.t)) pl aF b (8-j+1) x.1:=λx aF b=>by rw [show 9-j=8-j+1 by omega]
   refine yX (LI3 P w K d ks Ms N pl H2 ha ca pa ea fa μ lo Lt a j o kvs l)
    ⟨_,_,_,u,[],M,α,γ,[],rfl,S8,e8,fz,b8.at naf (s7 _ _ ef),Paired.mapP pf λ_ _ h=>h.t t68,b8.at nao (s7 _ _ eo),Paired.mapP po λ_ _ h=>h.t t68,b8.at naL e7,aZ.nil,qf,qo,lenf,leno,bS _,λp J=>absurd J List.not_mem_nil,Rat.le_refl,λaF b=>by
     rw [<-V6 aF b];show _+(0:Rat)+_=_;rw [List.drop_zero];grind⟩ (λi σ H' _ p=>?_) ?_ ?_
   ·obtain ⟨_,_,_,_,_,_,_,_,_,_,_,e,_⟩:=p;exact e
   ·rintro i p q9 σ H9 H10 J ⟨o9,U,X,u,L,M,α,γ,ys,rfl,S9,e9,fz9,ι,φ,θ,ψ,eL9,υ,qf9,qo9,lf9,lo9,lL9,okL,mL,V9⟩ hq9 e10 O;obtain ⟨x,ν,pk,pr,pv⟩:=kR (OR.t O.t fz9) J;obtain ⟨⟨so,tc⟩,x0,x1,xq⟩:=lv.ok x (aV ν);have hi:i<l.length:=(aX.mp ν).1;have S10:=S9.trans O;have xq9:Qn (Dj N 9) 1 x.2:=by
     obtain ⟨m,hm⟩:=aBY N (show j<=9 by omega);rw [hm];exact ZK xq
    refine ⟨q9,_,rfl,fO.of e10,rfl,_,_,rfl,_,_,rfl,rfl,⟨_,rfl,_,rfl,?_⟩⟩;refine DN (hpl2.same S10) pr (by rw [so.lo,lm];exact n3) λH11 δ=>?_;have S11:=S10.trans δ;have I:=O.trans δ;have lyf:α.length=u.length:=(Paired.length φ).symm;have lyk:γ.length=M.length:=(Paired.length ψ).symm;have lys:ys.length=L.length:=by rw [υ.len,aC]
    cases el:gU pl x.1 with
    | none =>
     refine ⟨_,rfl,rfl,⟨_,rfl,?_⟩⟩;rw [show decide (V.non=V.non)=true from rfl];refine oO ⟨_,rfl,VC (I _ _ ι),⟨_,rfl,_,rfl,?_⟩⟩;refine lI (by show 2<=64;decide) λq12 H12 hq12 ω β=>?_;have R:=I.trans β;refine aBN (R _ _ ι) Oo λH13 e13 af=>?_;have t13:=af.t (R _ _ ι);have η:=R.t.trans t13;have ae:=((δ.trans β).t.trans t13);refine ⟨_,_,_,u++[x],L,M,α++[.ref q12],γ,ys,rfl,bC.thru lfN (S11.trans β) af,af.at naf.symm (R _ _ e9),OR.t η fz9,e13,lR (Paired.mapP φ λ_ _ h=>h.t η) ⟨q12,_,_,rfl,t13 _ _ ω,pr.flat ae (oA _),pv.t ae⟩,af.at nfo.symm (R _ _ θ),Paired.mapP ψ λ_ _ h=>h.t η,af.at nfL.symm (R _ _ eL9),(υ.flat η (iU _)),λp J=>?_,qo9,by rw [aT];show u.length+1<=_;omega,Oo,Oo,okL,?_,λaF b=>?_⟩
     ·rcases dC.mp J with J | J
      ·exact qf9 p J
      ·rw [bT.mp J];exact xq9
     ·rw [IY ν];have:=Rat.le_of_lt x0;grind
     ·rw [<-V9 aF b,KY ν,τ x aF b,uV el,ME];grind
    | some t =>
     have H7:=B.hall.ok;obtain ⟨ht,hon,hs0,hb⟩:=so.look H7 el;have κ:t<d.length:=by rw [<-lm];exact ht
     have ε:=B.hall.ts t κ;rw [B.same t κ] at ε;have mt:=iJ (ks:=ks) (Ms:=Ms) κ;refine ⟨_,rfl,rfl,⟨_,rfl,?_⟩⟩;rw [show decide (V.int (t:Int)=V.non)=false from rfl];refine nI ⟨_,rfl,VC (I _ _ θ),⟨_,rfl,?_⟩⟩;refine aBN (I _ _ θ) Oo λH12 ω ξ=>?_;have t12:=ξ.t (I _ _ θ);have S12:=bC.thru loN S11 ξ;have ζ:=δ.t.trans t12;have t912:=I.t.trans t12;have aa:=ξ.at noL.symm (I _ _ eL9);refine ⟨_,rfl,VC aa,?_⟩;obtain ⟨fv,hfv,lfv,afv⟩:=(fs2.same S12).ex;obtain ⟨ev,hev,lev,aev⟩:=(es2.same S12).ex;obtain ⟨fx,hfx,rfx⟩:=afv t κ;obtain ⟨eb,heb,enb⟩:=aev t κ;refine ⟨_,rfl,_,rfl,_,rfl,_,rfl,_,rfl,mK hfv (cP hfx) ?_⟩;refine ⟨_,rfl,_,rfl,mK hev (cP heb) ?_⟩;have lc:=so.lc;have lo':=so.lo;have F4:=ε.f4;have lsh:=ε.len;have kk:=so.k t ht;have lct:(x.1.1.getD t []).length=(gS (d.getD t ⟨[],[],[]⟩) (ks.getD t 0)).length:=by
      rw [lsh];have:=(H7 t ht).len _ kk;rw [mt] at this;exact this
     refine AO (n:=d.length) (W:=(d.getD t ⟨[],[],[]⟩).ws.length) (pr.flat ζ (oA _)) (pv.t ζ) xq (B.dpos _) ?_ B.n0 rfx ε.fn Oo enb ε.rl.nd ε.sy ε.kw Oo Oo κ n3 lct (λf hf=>?_) λL13 y13 H13 hL13 e13 r13 Z=>?_
     ·refine bA ?_ (B.dlt (j:=j+1) Oo);rw [LW];exact Nat.le_mul_of_pos_right _ Dd
     ·have:=(hb f (by rw [mt];show f<(d.getD t ⟨[],[],[]⟩).fs.length;omega)).1;rw [mt] at this;exact this
     ·have eb2:((List.range (gS (d.getD t ⟨[],[],[]⟩) (ks.getD t 0)).length).flatMap λf=>(dH (PR (gS (d.getD t ⟨[],[],[]⟩) (ks.getD t 0)).length (gS (d.getD t ⟨[],[],[]⟩) (ks.getD t 0)) (d.getD t ⟨[],[],[]⟩).es (ks.getD t 0)) x.1 t (cK (x.1.1.getD t []) f)).map λp=>(p.1,x.2*fM (gS (d.getD t ⟨[],[],[]⟩) (ks.getD t 0)) f*p.2))=FS ((dR d ks Ms).getD t eO).t t x:=by
       rw [mt,lsh];rfl
      rw [eb2] at r13;have lb:(FS ((dR d ks Ms).getD t eO).t t x).length<=12:=by
       have:=UB ((dR d ks Ms).getD t eO).t t x;have hF:((dR d ks Ms).getD t eO).t.F=(d.getD t ⟨[],[],[]⟩).fs.length:=by rw [mt];rfl
       omega
      have ly13:y13.length<=12:=by rw [r13.len,aC];exact lb
      refine aBD (Z _ _ aa) e13 Oo λH14 e14 ρ=>?_;have t14:=ρ.t (Z _ _ aa);have ad:=t912.trans (Z.t.trans t14);have bk:=YG B so tc (Rat.le_of_lt x0) xq el;refine ⟨_,_,_,u,L++FS ((dR d ks Ms).getD t eO).t t x,M++[x.2],α,_,_,rfl,bC.thru LtN (S12.trans Z) ρ,ρ.at naL.symm (Z _ _ (ξ.at nao.symm (I _ _ e9))),OR.t ad fz9,ρ.at nfL (Z _ _ (ξ.at nfo (I _ _ ι))),Paired.mapP φ λ_ _ h=>h.t ad,ρ.at noL (Z _ _ ω),lR (Paired.mapP ψ λ_ _ h=>h.t ad) (pv.t (ζ.trans (Z.t.trans t14))),e14,?_,qf9,λq hq=>?_,Oo,by rw [aT];show M.length+1<=_;omega,by rw [aT];omega,λp J=>?_,?_,λaF b=>?_⟩
      ·rw [bR];exact aZ.app ((υ.flat t912 (iU _)).flat (Z.t.trans t14) (iU _)) (r13.flat t14 (iU _))
      ·rcases dC.mp hq with hq | hq
       ·exact qo9 q hq
       ·rw [bT.mp hq];exact xq9
      ·rcases dC.mp J with J | J
       ·exact okL p J
       ·exact bk p J
      ·rw [iS,IY ν];have χ:cI (FS ((dR d ks Ms).getD t eO).t t x) (λp=>p.2)=x.2:=by
        rw [<-mY,FR _ _ _ λ_=>1];have:∀f,((dR d ks Ms).getD t eO).t.q f*cI (dH ((dR d ks Ms).getD t eO).t x.1 t (cK (x.1.1.getD t []) f)) (λp=>p.2*1)=((dR d ks Ms).getD t eO).t.q f:=λf=>by rw [TB];grind
        rw [pU λf _=>this f,(H7 t ht).q1];grind
       rw [χ];grind
      ·rw [<-V9 aF b,KY ν,τ x aF b,uU H7 el,iS,FR,MD];grind
   ·rintro σ H9 ⟨o9,U,X,u,L,M,α,γ,ys,rfl,S9,e9,fz9,ι,φ,θ,ψ,eL9,υ,qf9,qo9,lf9,lo9,lL9,okL,mL,V9⟩;rw [lkv] at lf9 lo9 lL9 mL V9;rw [cE] at mL;have G:=YN.gath (ms:=dR d ks Ms) (Sx:=λst=>FZ (dR d ks Ms) st/\jP st.1=j+1) (D:=Dj N (j+1)) (T:=λg=>cI L λp=>p.2*g p.1) (L:=L) (by show cI L (λp=>p.2*1)<=1;rw [mY];exact Rat.le_trans mL lv.one) (B.dpos _) okL (λg=>rfl);obtain ⟨G1,G2,G3⟩:=G;refine ⟨_,rfl,?_⟩;refine yG eL9 υ G2 G3 (B.dpos _) (B.dlt Oo) Oo λa10 H10 O ha10 g10=>⟨20-(j+1),Oo,_,_,_,_,j+1,a10,gth L,u,M,α,γ,rfl,Oo,rfl,S9.trans O,S9.free ha10,g10,⟨G1.nd,G1.ok,?_⟩,O _ _ ι,Paired.mapP φ λ_ _ h=>h.t O.t,O _ _ θ,Paired.mapP ψ λ_ _ h=>h.t O.t,qf9,qo9,Oo,Oo,λaF b=>?_⟩
    ·rw [<-mY,G1.sum λ_=>1];show cI L (λp=>p.2*1)<=1;rw [mY];exact G3
    ·rw [<-V9 aF b,G1.sum,List.drop_length,show 9-(j+1)=8-j by omega];show _=_+(0:Rat);grind
 ·rintro σ H6 ⟨o5,o8,o9,U,X,u,M,α,γ,rfl,S6,ef,pf,eo,po,qf,qo,lenf,leno,V6⟩;have Y:∀(S:SS × Rat->Bool) (aF:SS->Rat),(∀p:SS × Rat,aF p.1=if S p=true then 1 else 0)->cI (u.filter S) (λp=>p.2)=cQ d ks Ms pl aF 0:=λS aF J=>by
   rw [<-V6 aF 0];unfold vsum;have key:∀l:List (SS × Rat),cI (l.filter S) (λp=>p.2)=cI l λp=>p.2*aF p.1:=λl=>by
    induction l with
    | nil=>rfl
    | cons x l ih =>
     rw [cY,List.filter_cons,J x];by_cases e:S x=true
     ·rw [if_pos e,if_pos e,cY,ih];grind
     ·rw [if_neg e,if_neg e,ih];grind
   rw [key];grind
  have frs:∀(S:SS × Rat->Bool) (H7:Hp) (zs:List V),Paired (λp v=>uA K H7 (dU p.2) v) (u.filter S) zs->aBX K H7 ((u.filter S).map λp=>dU p.2) zs:=λS H7 zs h=>⟨by rw [aC,Paired.length h],λi v hv=>by
   obtain ⟨p,χ,h2⟩:=jE h hv;exact ⟨_,by rw [aL,χ];rfl,h2.v⟩⟩
  have lenF:∀S:SS × Rat->Bool,(u.filter S).length<=100000:=λS=>by have:=List.length_filter_le S u;omega
  have tt:=λS:SS × Rat->Bool=>IW (l:=u.filter S) (f:=λp=>p.2) (λp J=>qf p (iN.mp J).1) (B.dpos 9) (B.dlt Dd) (lenF S);have qs:∀S:SS × Rat->Bool,Qn (Dj N 9) 100000 (cI (u.filter S) λp=>p.2):=λS=>(Qn.sumL λp J=>qf p (iN.mp J).1).le (by rw [Nat.mul_one];exact lenF S);refine ⟨_,rfl,μ,rfl,⟨_,fR.of ef⟩,zO (as:=u) (λp=>p.1.2.2) (λp v=>ZZ K H6 p v) (λp v H'=>uA K H' (dU p.2) v) (λp v H1 H2 s r=>r.t s) Oo ef pf (λv p H' J rp s'=>?_) (λD7 z7 H7 hD7 e7 s7 p7=>?_)⟩
  ·obtain ⟨b,sa,qv,rfl,hb,hsa,hqv⟩:=rp.t s'.t;obtain ⟨sb,ac,ab,xs',esb,hsb,_,_,hab⟩:=yE hsa;cases esb;refine ⟨b,[.ref sa,qv],rfl,fO.of hb,rfl,λQ' h=>?_,λH5 Q' s5 J k'=>?_⟩
   ·refine ⟨_,rfl,jG hsb rfl ?_⟩;exact ⟨_,rfl,h H' (bC.refl _)⟩
   ·exact ⟨_,rfl,k' _ H5 (bC.refl _) (hqv.t s5.t)⟩
  refine pW e7 (frs _ _ _ p7) (tt _).1 λv8 H8 s8 r8=>?_;rw [(tt _).2,Y _ aW λp=>rfl] at r8;have S8:=s7.trans s8;refine ⟨_,rfl,μ,rfl,⟨_,fR.of (S8 _ _ ef)⟩,zO (as:=u) (λp=>decide (cS p.1.2.1=[])) (λp v=>ZZ K H8 p v) (λp v H'=>uA K H' (dU p.2) v) (λp v H1 H2 s r=>r.t s) Oo (S8 _ _ ef) (Paired.mapP pf λ_ _ h=>h.t S8.t) (λv p H' J rp s'=>?_) (λD9 z9 H9 hD9 e9 s9 p9=>?_)⟩
  ·obtain ⟨b,sa,qv,rfl,hb,hsa,hqv⟩:=rp.t s'.t;obtain ⟨sb,ac,ab,xs',esb,hsb,_,_,hab⟩:=yE hsa;cases esb;refine ⟨b,[.ref sa,qv],rfl,fO.of hb,rfl,λQ' h=>?_,λH5 Q' s5 J k'=>?_⟩
   ·refine ⟨_,rfl,jG hsb rfl ?_⟩;refine ⟨ab,_,rfl,.inr (fO.of hab),rfl,XJ _,⟨_,rfl,?_⟩⟩;rw [SA];exact h H' (bC.refl _)
   ·exact ⟨_,rfl,k' _ H5 (bC.refl _) (hqv.t s5.t)⟩
  refine pW e9 (frs _ _ _ p9) (tt _).1 λv10 H10 O r10=>?_;rw [(tt _).2,Y _ aA λp=>by show aA p.1=_;unfold aA;by_cases e:cS p.1.2.1=[] <;> simp [e]] at r10;refine ⟨_,rfl,_,rfl,_,rfl,?_⟩;have S10:=(S8.trans s9).trans O;have tl:=IW (l:=M) (f:=λq=>q) qo (B.dpos 9) (B.dlt Dd) Oo;refine pW (S10 _ _ eo) ⟨by rw [aC,Paired.length po],λi v hv=>by
   obtain ⟨q,χ,h2⟩:=jE po hv;exact ⟨_,by rw [aL,χ];rfl,(h2.t S10.t).v⟩⟩ tl.1 λv11 H11 δ r11=>?_
  have eL:cI M (λq=>q)=cQ d ks Ms pl (λ_=>0) 1:=by
   rw [<-V6 (λ_=>0) 1];unfold vsum;have:cI u (λp=>p.2*(0:Rat))=0:=yC u;rw [this];grind
  rw [tl.2,eL] at r11;refine lI (by show 3<=64;decide) λq12 H12 hq12 ω β=>k _ H12 (((S2.trans S6).trans S10).trans (δ.trans β)) (cB.tup ω (aZ.cons (((r8.same (s9.trans O)).same δ).same β) (aZ.cons ((r10.same δ).same β) (aZ.cons (r11.same β) aZ.nil)))) ?_ ?_ ?_
  ·rw [<-Y (λp=>p.1.2.2) aW λp=>rfl];exact qs _
  ·rw [<-Y (λp=>decide (cS p.1.2.1=[])) aA λp=>by show aA p.1=_;unfold aA;by_cases e:cS p.1.2.1=[] <;> simp [e]];exact qs _
  ·rw [<-eL];exact (Qn.sumL (f:=λq=>q) qo).le (by rw [Nat.mul_one];omega)
end
section
variable{M Ns:Nat}{h:HE}{k:Nat}
end
theorem aDz:∀F,F<=4->∀M,M<=5->(2<=F/\F*M<=9->(rise F M).length<=20/\M<=4):=Kk
theorem sz6:∀F,F<=4->∀M,M<=5->(2<=F/\F*M<=4->(rise F M).length<=6/\M<=2):=Kk
theorem LR.top{F W M:Nat}{es:List eE}(h:LR F W M es):(∀e∈es,e.1.sum<=M)/\(∀e∈es,s0 e≠0->e.1.sum<M)/\es.length<=(rise F M).length:=by
 obtain ⟨f,rfl,i,sy⟩:=h.ex;refine ⟨λe a=>?_,λe a d=>?_,?_⟩
 ·obtain ⟨c,b,rfl⟩:=aS.mp a;exact (AY h.f1 b).2
 ·obtain ⟨c,b,rfl⟩:=aS.mp a;exact i c (pF.mpr d)
 ·unfold DQ;rw [aC];exact (oY h.f1).length_le
def dW(sh:List Fr):Nat:=pN (sh.map λf=>f.2.natAbs)
theorem aCc{n:Nat}{h:HE}{t o F W M k N:Nat}(T:tY t o F W h.fs h.ws)(R:LR F W M h.es)(hk:k<h.ws.length)(hN:dW (gS h k) ∣ N)(n0:0<N):ZY M N h k:=by
 have b:=T.lenF;have j:=T.lenW;have hF:=T.hF;obtain ⟨i,d,e⟩:=R.top;have c:=aB hk;have S:=T.sh _ (aV c);have es:gS h k=h.ws[k].2:=by unfold gS;rw [c];rfl
 refine ⟨by rw [b];exact R.rl,by rw [j];exact R.sy,hk,i,d,aY e R.few,Oo,Oo,by rw [es,S.len,b],λf a=>?_,?_,λf a=>?_,n0⟩
 ·rw [es] at a;exact ⟨S.low f a,S.pos f a⟩
 ·rw [es,<-GX _ S.low,S.one,GY]
 ·have hd:f.2.natAbs ∣ N:=Nat.dvd_trans (BH (aS.mpr ⟨f,a,rfl⟩)) hN;rw [es] at a;exact (KS (S.low f a) (S.pos f a) (S.le f a)).dvd hd
theorem aC7{h:HE}{t o F W k:Nat}(T:tY t o F W h.fs h.ws)(hk:k<h.ws.length):0<dW (gS h k)/\dW (gS h k)<=1000^4:=by
 have hF:=T.hF;have i:=aB hk;have S:=T.sh _ (aV i);have b:gS h k=h.ws[k].2:=by unfold gS;rw [i];rfl
 have a:∀d∈(gS h k).map (λf=>f.2.natAbs),0<d/\d<=1000:=λd hd=>by
  obtain ⟨f,e,rfl⟩:=aS.mp hd;rw [b] at e;have c:=(S.low f e).pos;have j:=S.dn f e;omega
 refine ⟨?_,?_⟩
 ·have:=(qY (Ds:=(gS h k).map λf=>f.2.natAbs) ((gS h k).map λf=>f.2.natAbs).length λd hd=>(a d hd).1).1;rw [cE] at this;exact this
 ·have c:=ED (B:=1000) λd hd=>(a d hd).2;rw [aC,b,S.len,<-b] at c;exact aY c (bI Dd Oo)
theorem JA{b:Nat}:∀{l:List Nat},(∀x∈l,x<=b)->l.sum<=l.length*b
 | [],_=>bS _
 | x::l,h=>by
  have h1:=JA (l:=l) λy a=>h y (aM _ a);have c:=h x (aR ..);rw [List.sum_cons,bV,Nat.add_mul];omega
theorem QY{b:Nat}:∀{hs:List HE},(∀h∈hs,h.es.length<=b)->NA hs<=b^hs.length
 | [],_=>aG _
 | h::hs,a=>by
  show h.es.length*NA hs<=b^(hs.length+1);rw [Nat.pow_succ,Nat.mul_comm];exact Nat.mul_le_mul (QY λx hx=>a x (aM _ hx)) (a h (aR ..))
theorem TL:∀{hs:List HE}{ks:List Nat},UO hs ks->∀{i:Nat},i<hs.length->ks.getD i 0<(hs.getD i ⟨[],[],[]⟩).ws.length
 | _,_,.nil,i,h=>by cases h
 | _,_,.cons r t,0,_=>r
 | _,_,.cons r t,i+1,h=>TL t (i:=i) (by simpa using h)
theorem aBj{hs:List HE}{ks:List Nat}(hn:hs.length=1\/hs.length=2\/hs.length=3)(h:∀x∈hs,HDr hs.length x)(ch:UO hs ks):∃Ms Ns N,rR hs ks Ms Ns N/\Dj N 9<2^1500:=by
 have B:∀x:HE,∃M:Nat,x∈hs->∃t o F W,tY t o F W x.fs x.ws/\LR F W M x.es/\F*M<=zOf hs.length:=λx=>by
  by_cases m:x∈hs
  ·obtain ⟨t,o,F,W,M,a,b,c⟩:=(h x m).ex;exact ⟨M,λ_=>⟨t,o,F,W,a,b,c⟩⟩
  ·exact ⟨0,λz=>absurd z m⟩
 obtain ⟨g,D⟩:=Classical.axiomOfChoice B;have C:∀i,i<hs.length->hs.getD i ⟨[],[],[]⟩∈hs:=λi f=>sO f
 let Ds:=(List.range hs.length).map λi=>dW (gS (hs.getD i ⟨[],[],[]⟩) (ks.getD i 0))
 have G:∀d∈Ds,0<d/\d<=1000^4:=λd hd=>by
  obtain ⟨i,f,rfl⟩:=aS.mp hd;have f:=cM.mp f;obtain ⟨t,o,F,W,T,R,z⟩:=D _ (C i f);exact aC7 T (TL ch f)
 have L:Ds.length=hs.length:=by show ((List.range hs.length).map _).length=_;rw [aC,fX]
 have N0:0<pN Ds:=by
  have:=(qY (Ds:=Ds) Ds.length λd hd=>(G d hd).1).1;rw [cE] at this;exact this
 have N1:pN Ds<=1000^12:=by
  have:=ED λd hd=>(G d hd).2;rw [L] at this;refine aY this (aY (bI Dd (show hs.length<=3 by omega)) ?_);rw [<-Nat.pow_mul];exact aG _
 have w:∀i,i<hs.length->(hs.map g).getD i 0=g (hs.getD i ⟨[],[],[]⟩):=λi f=>by
  rw [aE,aL,aE,aB f];rfl
 have r:∀i,i<hs.length->(List.replicate hs.length (pN Ds)).getD i 0=pN Ds:=λi f=>by
  rw [aE,List.getElem?_replicate,if_pos f];rfl
 have O:ks.length=hs.length:=ch.length.symm;have s:tL (dR hs ks (hs.map g))=(hs.map g).sum:=by
  unfold tL dR;rw [List.map_map];congr 1;refine List.ext_getElem? λi=>?_;rw [aL,aL];by_cases f:i<hs.length
  ·rw [gA f,aB f];show some ((hs.map g).getD i 0)=some (g hs[i]);rw [w i f,aE,aB f];rfl
  ·rw [dF (by rw [fX];omega),dF Oo];rfl
 have p:(hs.map g).sum<=8/\NA hs*(2^hs.length*2)<=4000:=by
  have step:∀(b e:Nat),(∀x∈hs,g x<=b/\x.es.length<=e)->(hs.map g).sum<=hs.length*b/\NA hs<=e^hs.length:=λb e I=>⟨by
   have:=JA (l:=hs.map g) (b:=b) λy J=>by
    obtain ⟨x,m,rfl⟩:=aS.mp J;exact (I x m).1
   rwa [aC] at this,QY λx m=>(I x m).2⟩
  rcases hn with q | q | q
  ·obtain ⟨u,A⟩:=step 5 40 λx m=>by
    obtain ⟨t,o,F,W,T,R,z⟩:=D x m;exact ⟨R.m5,aY R.top.2.2 R.few⟩
   rw [q] at u A ⊢;exact ⟨Oo,Oo⟩
  ·obtain ⟨u,A⟩:=step 4 20 λx m=>by
    obtain ⟨t,o,F,W,T,R,z⟩:=D x m;rw [q] at z;have hF:=T.hF;obtain ⟨a,b⟩:=aDz F R.f4 (g x) R.m5 ⟨Oo,z⟩;exact ⟨b,aY R.top.2.2 a⟩
   rw [q] at u A ⊢;exact ⟨Oo,Oo⟩
  ·obtain ⟨u,A⟩:=step 2 6 λx m=>by
    obtain ⟨t,o,F,W,T,R,z⟩:=D x m;rw [q] at z;have hF:=T.hF;obtain ⟨a,b⟩:=sz6 F R.f4 (g x) R.m5 ⟨Oo,z⟩;exact ⟨b,aY R.top.2.2 a⟩
   rw [q] at u A ⊢;exact ⟨Oo,Oo⟩
 have big:∀j,LC^3*(pN Ds*LC)^j<=LC^3*(1000^12*LC)^j:=λj=>fA _ (Nat.pow_le_pow_left (dM _ N1) j);refine ⟨hs.map g,List.replicate hs.length (pN Ds),pN Ds,⟨⟨O,aC ..,eA ..,Oo,Oo,λi f=>?_⟩,r,N0,bA (big 10) Kk,by rw [s];exact p.1,p.2⟩,bA (big 9) Kk⟩;rw [w i f,r i f];obtain ⟨t,o,F,W,T,R,z⟩:=D _ (C i f);exact aCc (n:=0) T R (TL ch f) (BH (aS.mpr ⟨i,cM.mpr f,rfl⟩)) N0
end Kw
namespace HT
open PySem PySem.Spec PyProof.Rows PySem.W
section
variable{prog:Program}{w:World}{r d:Addr}{es:Array DictEntry}{ep:Nat}{od:Obj}
end
end HT
namespace L2
open PySem PySem.Spec PyProof.Rows HT
section
variable{X:Cx}
end
end L2
namespace Kw
open PySem L2 Mf
section
variable{σ:St}{js:List Nat}{te:TE}{H:Hp}{Q:VK}
theorem NV{K:PySem.W.Frag}{n:Nat}{a0:Addr}{xs:List V}{p L:Addr}{Fd:Hp->Prop}(fl:oR p L Fd)(F0:Fd H)(R:Nat->V->Hp->Prop)(hR:∀i y H1 H2,dJ H1 H2->R i y H1->R i y H2)(hz:xs.length<=100000)(ha:H a0=some (.tup xs))
  (hs:∀i x H',xs[i]?=some x->Fd H'->aO p H H'->∃a vs,x=.ref a/\fO K H' a vs/\vs.length=n/\∀Q':VK,(∀y H5,Fd H5->aO p H' H5->R i y H5->Q' y H5)->te (vs.map some++slots σ js) H' Q')
  (hd:∀D ys H',H D=none->H' D=some (.lst ys)->Fd H'->aO p H H'->ys.length=xs.length->(∀(i:Nat) (y:V),ys[i]?=some y->R i y H')->Q (.ref D) H'):lE K n (Itt K a0) σ js rY te H Q:=by
 unfold lE;intro D hD;obtain ⟨np,O⟩:=fl.np _ _ F0 hD;have M:a0≠p:=λz=>by
  obtain ⟨ys,h⟩:=fl.lst H F0;rw [z,h] at ha;cases ha
 refine ⟨λi m ys H'=>m=xs.length-i/\i<=xs.length/\ys.length=i/\H' D=some (.lst ys)/\Fd H'/\aO p H H'/\∀(j:Nat) (y:V),ys[j]?=some y->R j y H',⟨xs.length,by simp,bS _,rfl,bH,fl.same _ _ (bC.upd hD) F0,(bC.upd hD).but,λj y h=>by simp at h⟩,?_⟩;rintro i m ys H2 ⟨rfl,S,s,f,F2,o,C⟩;refine ⟨f,?_⟩;have c:=o.at M ha;by_cases hlt:i<xs.length
 ·refine .inr ⟨⟨xs,xs[i],fO.of c,by simp [hlt]⟩,bA (m:=100000) Oo Dd,λx H3 G=>?_⟩;obtain ⟨rfl,u⟩:=G;have u:=u xs (fO.of c);obtain ⟨a,vs,e,N,J,w⟩:=hs i x H3 u F2 o;refine ⟨a,vs,e,N,J,λb H4=>b=true/\H4=H3,⟨rfl,rfl⟩,?_⟩;rintro b H4 ⟨rfl,rfl⟩;rw [if_pos rfl];refine ⟨λy H5=>Fd H5/\aO p H4 H5/\R i y H5,w _ λy H5 F5 l r=>⟨F5,l,r⟩,?_⟩;rintro y H5 ⟨F5,l,r⟩;have A:=l.at np f;obtain ⟨P,I⟩:=fl.lst H4 F2;have B:dJ H5 (upd H5 D (.lst (ys++[y]))):=aO.t aO.self A;refine ⟨A,_,Oo,rfl,hlt,by rw [aT,List.length_singleton,s],bH,fl.but D _ _ np O aO.self F5,aO.thru hD (o.trans l) aO.self,λj z d=>?_⟩;by_cases h:j<ys.length
  ·rw [List.getElem?_append_left h] at d;exact hR j z _ _ ((l.t I).trans B) (C j z d)
  ·have:j=ys.length:=by
    have:=(aX.mp d).1;rw [aT,List.length_singleton] at this;omega
   subst this;rw [List.getElem?_append_right (aG _),Nat.sub_self] at d;injection d with d;subst d;rw [s];exact hR i y _ _ B r
 ·have w:i=xs.length:=Oo;subst w;exact .inl ⟨⟨xs,fO.of c,aG _⟩,hd D ys H2 hD f F2 o s C⟩
end
abbrev kI(p:PyData × Int):PyData × V:=(p.1,V.int p.2)
structure tZ(P:Program)(w:World)(H:Hp)(a:Addr)(ks:List (PyData × Int)):Prop where
 dn:dZ P w ZC H a (ks.map kI)
theorem BF(ks:List (PyData × Int))(d:PyData)(v:Int):∃ks':List (PyData × Int),fP (ks.map kI) d (V.int v)=ks'.map kI/\ks'.length<=ks.length+1:=by
 unfold fP;split
 ·refine ⟨ks.map λp=>if p.1=d then (p.1,v) else p,?_,by rw [aC];omega⟩;rw [List.map_map,List.map_map];refine cO λp _=>?_;show (if p.1=d then (p.1,V.int v) else (p.1,V.int p.2))=kI (if p.1=d then (p.1,v) else p);split <;> rfl
 ·exact ⟨ks++[(d,v)],by rw [bR];rfl,by rw [aT];exact aG _⟩
noncomputable def BG (ks:List (PyData × Int)) (cs:List (List Nat)):Option Int:=(ks.find? λp=>decide (p.1=nS cs)).map (·.2)
theorem JU:∀(ks:List (PyData × Int)) (cs:List (List Nat)),eT (ks.map kI) (nS cs)=(BG ks cs).map V.int
 | [],cs=>rfl
 | p::ks,cs=>by
  rw [aU];by_cases e:p.1=nS cs
  ·rw [fK e];unfold BG;simp [List.find?_cons,e]
  ·rw [fL e,JU ks cs];unfold BG;simp [List.find?_cons,e]
theorem tZ.pl{P:Program}{w:World}{H:Hp}{a:Addr}{ks:List (PyData × Int)}(h:tZ P w H a ks):rP P w H a (BG ks):=⟨_,h.dn,JU ks⟩
end Kw
namespace L2
open PySem PySem.Spec PyProof.Rows HT
@[irreducible] def VX(P:Program)(w:World)(b:Bool):R2:=λx y H Q=>∃Sh a l c d,y=.ref a/\x=.ref c/\dZ P w Sh H a l/\cB H d (.ref c)/\Sh.S d/\Q (.bl (xor b (eT l d).isSome)) H
theorem rnin{P:Program}{w:World}{b:Bool}{Sh:nM}{H:Hp}{a c:Addr}{l:List (PyData × V)}{d:PyData}{Q:VK}(h:dZ P w Sh H a l)(rc:cB H d (.ref c))(hS:Sh.S d)(q:Q (.bl (xor b (eT l d).isSome)) H):VX P w b (.ref c) (.ref a) H Q:=by unfold VX;exact ⟨Sh,a,l,c,d,rfl,rfl,h,rc,hS,q⟩
section
variable{X:Cx}
theorem aA9(P:Program)(w:World)(hu:X.A.units+64<cLine)(hP:X.prog=P:=by rfl)(hw:X.w=w:=by rfl):nU X (compareOp .In) (VX P w false):=by
 subst hP hw;intro e s σ H x y v u Q I o i h;unfold VX at h;obtain ⟨f,a,l,c,d,rfl,rfl,g,j,m,q⟩:=h;cases (show u=Value.ref a from i);cases (show v=Value.ref c from o);obtain ⟨n,r,B,C,rfl,z,hd,b,p⟩:=g.open_ I;refine wpAny_in_heap (knd:=gM X.prog X.w f) (nD _ _ f hu) (nC I m j) hd p ⟨.bl _,H,I.tok _,?_,q⟩;have:=(b.val d).isSome_eq;rw [Option.isSome_map] at this;show Value.bool _=Value.bool _;rw [<-this];simp
@[irreducible] def VW(P:Program)(w:World)(x y:V)(H:Hp)(Q:VK):Prop:=∃Sh a l c d v,x=.ref a/\y=.ref c/\dZ P w Sh H a l/\cB H d (.ref c)/\Sh.S d/\eT l d=some v/\Q v H
theorem rnix{P:Program}{w:World}{Sh:nM}{H:Hp}{a c:Addr}{l:List (PyData × V)}{d:PyData}{v:V}{Q:VK}(h:dZ P w Sh H a l)(rc:cB H d (.ref c))(hS:Sh.S d)(hv:eT l d=some v)(q:Q v H):VW P w (.ref a) (.ref c) H Q:=by unfold VW;exact ⟨Sh,a,l,c,d,v,rfl,rfl,h,rc,hS,hv,q⟩
def aDx(P:Program)(w:World)(td ty:TE):TE:=λσ H Q=>td σ H λx H1=>ty σ H1 λy H2=>VW P w x y H2 Q
theorem PB(P:Program)(w:World){o i:Expr}{pos:Pos}{td ty:TE}(hu:X.A.units+64<cLine)(ho:gE X o td)(hi:gE X i ty)(hs:YL i:=by intro _ _;rfl)(hP:X.prog=P:=by rfl)(hw:X.w=w:=by rfl):gE X (.Subscript o i pos) (aDx P w td ty):=⟨by
 subst hP hw;intro b s σ H Q I h;refine JC PySem.F.slot_dict_getitem.lookup hs (thn (ho.p b s σ H _ I h) λu D ⟨x,H1,I1,R,O⟩=>thn (hi.p b D σ H1 _ I1 O) λL S ⟨y,H2,I2,B,m⟩=>?_);unfold VW at m;obtain ⟨j,a,l,c,d,v,rfl,rfl,g,G,J,N,q⟩:=m;obtain rfl:u=Value.ref a:=R;obtain rfl:L=Value.ref c:=B;obtain ⟨M,C,T,U,rfl,z,hd,f,n⟩:=g.open_ I2;have r:=f.val d;rw [N] at r;cases e:atKey C d with
 | none=>rw [e] at r;exact absurd r id
 | some p =>
  rw [e] at r;exact ⟨n.typeIs,wpAny_getItem_heap (knd:=gM X.prog X.w j) (nD _ _ j hu) (nC I2 J G) n e ⟨v,H2,I2.tok _,r,q⟩⟩⟩
end
end L2
namespace L2
open PySem PySem.Spec PySem.W PyProof.Rows HT
theorem wS{α:Type}{f:α->Int}(v:Int):∀{l:List α},(l.map f).Nodup->(l.filter λx=>f x == v).length<=1
 | [],_=>bS _
 | a::l,h=>by
  rw [aU,List.nodup_cons] at h;rw [List.filter_cons];split
  ·rename_i e
   have e:f a=v:=by simpa using e
   have:l.filter (λx=>f x == v)=[]:=List.filter_eq_nil_iff.mpr λx b q=>h.1 (by
    have q:f x=v:=by simpa using q
    rw [e,<-q];exact List.mem_map_of_mem b)
   rw [this];exact aG _
  ·exact wS v h.2
section
variable{X:Cx}{pins:List (Addr × Obj)}{σ:St}{H:Hp}
variable{prog:Program}{w:World}{A:Around}{E:Value->Shared->Prop}{s:Shared}
theorem MW{a:Addr}{Q:Bool->Shared->Prop}(ht:s.TypeIs (.ref a) "tuple")(h:Q false s):wpAny (model prog w) A (Builtin.Dict.quietEq (.ref a)) Q E s:=by
 unfold Builtin.Dict.quietEq;refine wpAny_bind (wpAny_specialOf ht F.slot_tuple_eq.lookup (wpAny_pure ?_));exact h
theorem EZ{K:Type}[DecidableEq K]{knd:HeapKind prog w K}{id:String}{d:Addr}{o:Obj}{es ep}{xs:List (K × Addr × Value)}{Q:Array DictEntry->Shared->Prop}(ho:s.heap.get? d=some o)(hd:o.data=.dict es ep)(he:es.toList=xs.map (entryOfKey knd))(hty:∀x∈xs,s.TypeIs (.ref x.2.1) "tuple")(nd:(xs.map λx=>knd.hash x.1).Nodup)(h:Q es s) :
  wpAny (model prog w) A (Builtin.Dict.entriesForEmpty id d) Q E s:=by
 unfold Builtin.Dict.entriesForEmpty;refine wpAny_bind (wpAny_dictEntries ho hd ?_);refine wpAny_bind ?_;rw [<-Array.forIn_toList];refine wpAny_forIn_list _ (λa _ i=>i=s/\∀e∈a,e∈es.toList) _ ?_ ?_ _ _ ⟨rfl,λe h=>h⟩
 ·rintro e a b i ⟨rfl,j⟩;have c:=j e (aR ..);rw [he] at c;obtain ⟨x,m,rfl⟩:=aS.mp c;refine wpAny_bind (MW (hty x m) ?_);have l:¬(es.filter λy=>y.hash == (entryOfKey knd x).hash).size > 1:=by
   rw [<-Array.length_toList,Array.toList_filter,he,List.filter_map,aC];have:=wS (f:=λx:K × Addr × Value=>knd.hash x.1) (knd.hash x.1) nd;exact Nat.not_lt.mpr this
  rw [if_pos (by rfl),if_neg l];exact wpAny_pure ⟨rfl,λe h=>j e (aM _ h)⟩
 ·rintro b i ⟨rfl,_⟩;exact wpAny_pure h
theorem yQ{K:Type}[DecidableEq K]{knd:HeapKind prog w K}{nm:String}{d o:Addr}{od oo:Obj}{eso:Array DictEntry}{epd epo:Nat}{xs:List (K × Addr × Value)}{Q:Unit->Shared->Prop}(hdo:d≠o)(hoS:(o == sysModules)=false)
  (hod:s.heap.get? d=some od) (hcd:od.ExactDict) (hdd:od.data=.dict #[] epd) (hoo:s.heap.get? o=some oo) (hdo':oo.data=.dict eso epo) (he:eso.toList=xs.map (entryOfKey knd)) (hty:∀x∈xs,s.TypeIs (.ref x.2.1) "tuple") (nd:(xs.map λx=>knd.hash x.1).Nodup) (hz:xs.length<=sizeLine)
  (hQ:∀h' q ep',h'.get? d=some q->q.ExactDict->q.data=.dict eso ep'->Heap.SameBut d s.heap h'->Q () { s with heap:=h' }) :
  wpAny (model prog w) A (Builtin.Dict.mergeDict nm d o) Q E s:=by
 have c:eso.size<=sizeLine+1:=by
  have:=congrArg List.length he;rw [aC,Array.length_toList] at this;omega
 unfold Builtin.Dict.mergeDict;rw [if_neg (by simpa using hdo)];unfold Builtin.Dict.showsAll;rw [if_neg (by rw [hoS];exact bN)];refine wpAny_bind (wpAny_pure ?_);refine wpAny_bind (wpAny_dictEntries hoo hdo' ?_);dsimp only;cases xs with
 | nil =>
  have f:eso=#[]:=by
   have:eso.toList=[]:=he;exact Array.toList_eq_nil_iff.mp this
  subst f;rw [if_neg (by simp)];refine wpAny_bind (wpAny_dictEpoch hoo hdo' ?_);refine wpAny_bind (wpAny_dictEntries hoo hdo' ?_);refine wpAny_bind ?_;rw [Std.Legacy.Range.forIn_eq_forIn_range'];show wpAny _ _ (forIn (List.range' 0 0 1) _ _) _ _ _;exact wpAny_pure (wpAny_pure (hQ s.heap od epd hod hcd hdd (Heap.SameBut.refl _ _)))
 | cons x xs =>
  have a:(decide (eso.size<=8)&&eso.all λe=>(keyPart e.key).isSome)=false:=by
   rw [Bool.and_eq_false_iff]
   right
   rw [<-Array.all_toList,he]
   rfl
  rw [if_pos (by rw [a];rfl)];refine wpAny_bind (wpAny_dictEntries hod hdd ?_);rw [if_pos (by rfl)];refine wpAny_bind (EZ (knd:=knd) hoo hdo' he hty nd ?_);have b:(!eso.isEmpty)=true:=by
   rw [Bool.not_eq_true',<-Bool.not_eq_true];intro q;rw [Array.isEmpty_iff.mp q] at he;cases he
  rw [if_pos b];refine wpAny_bind (wpAny_updateDictKeysTo hod hdd (wpAny_pure (hQ _ _ (epd+1) (Heap.get?_update_self _ hod (Obj.isFreed_of_dict (Obj.data_mapDictKeys hdd _))) (hcd.mapDictKeys _) (Obj.data_mapDictKeys hdd _) (Heap.SameBut.update ..))) c)
end
section
variable{prog:Program}{w:World}{K:Type}[DecidableEq K]{knd:HeapKind prog w K}{A:Around}{E:Value->Shared->Prop}{s:Shared}
theorem GV{d a:Addr}{xs:List (K × Addr × Value)}{k:K}{v:Value}{Q:Unit->Shared->Prop}(hu:knd.room A)(hkey:knd.is s.heap k a)(hm:s.heap.DictOfH knd d xs)(hz:xs.length<=sizeLine)
  (hQ:∀h',h'.DictOfH knd d (storedH xs k a v)->Heap.SameBut d s.heap h'->Q () { s with heap:=h' }) :
  wpAny (model prog w) A (dictSetHashed d (.ref a) (knd.hash k) v) Q E s:=by
 obtain ⟨o,C,z,f,B,hd,u,i,h⟩:=hm;unfold dictSetHashed
 try with_reducible refine wpAny_holding ?_
 refine wpAny_bind (wpAny_dictFind_heap hu hkey f hd u i h ?_ ?_)
 ·intro c;have m:k ∉ xs.map (·.1):=not_mem_keys_of_get c;refine wpAny_bind (wpAny_rule (wpAny_updateDictKeys (hz:=by have e:=size_of_entries u;omega) f hd (hQ _ ⟨_,_,z+1,Heap.get?_update_self _ f (Obj.isFreed_of_dict (Obj.data_mapDictKeys hd _)),
   B.mapDictKeys _,Obj.data_mapDictKeys hd _,?_,?_,?_⟩ (Heap.SameBut.update ..))))
  ·rw [storedH_new (atKey_none_of_get c)];simp [u,entryOfKey]
  ·rw [storedH_new (atKey_none_of_get c)];intro x b;rcases dC.mp b with b | b
   ·exact knd.keeps (i x b) f hd (Heap.SameBut.update ..)
   ·simp only [bT] at b;subst b;exact knd.keeps hkey f hd (Heap.SameBut.update ..)
  ·rw [storedH_new (atKey_none_of_get c)];rw [bR,List.nodup_append];refine ⟨h,by simp,?_⟩;intro x b y n;simp only [aU,List.map_nil,bT] at n;subst n;exact λe=>m (e ▸ b)
 ·intro j p r;refine wpAny_bind (wpAny_rule (wpAny_bind (wpAny_updateDict f hd (wpAny_point (hQ _ ⟨_,_,z,Heap.get?_update_self _ f (Obj.isFreed_of_dict (Obj.data_mapDict hd _)),
   B.mapDict _,Obj.data_mapDict hd _,?_,?_,?_⟩ (Heap.SameBut.update ..))))))
  ·rw [storedH_old (atKey_of_get h r)];have:=modify_map_putAt (entryOfKey knd) (λe:DictEntry=>{ e with val:=v }) k v (λ_ _=>rfl) h r;rw [<-u] at this;obtain ⟨l⟩:=C;simpa using this
  ·rw [storedH_old (atKey_of_get h r)];intro x b;obtain ⟨y,n,rfl⟩:=aS.mp b;unfold putAt;split <;> exact knd.keeps (i y n) f hd (Heap.SameBut.update ..)
  ·rw [storedH_old (atKey_of_get h r)];rw [keys_map_putAt];exact h
def iV(xs ys:List (K × Addr × Value)):List (K × Addr × Value):=ys.foldl (λacc y=>storedH acc y.1 y.2.1 y.2.2) xs
theorem DK(xs:List (K × Addr × Value))(k:K)(a:Addr)(v:Value):(storedH xs k a v).length<=xs.length+1:=by
 unfold storedH;split
 ·rw [aC];omega
 ·rw [aT];exact aG _
theorem tM:∀(ys xs:List (K × Addr × Value)),(iV xs ys).length<=xs.length+ys.length
 | [],xs=>aG _
 | y::ys,xs=>by
  have h1:=tM ys (storedH xs y.1 y.2.1 y.2.2);have a:=DK xs y.1 y.2.1 y.2.2;show (iV (storedH xs y.1 y.2.1 y.2.2) ys).length<=_;rw [bV];omega
theorem BK(xs ys:List (K × Addr × Value))(i:Nat){y:K × Addr × Value}(h:ys[i]?=some y):iV xs (ys.take (i+1))=storedH (iV xs (ys.take i)) y.1 y.2.1 y.2.2:=by
 simp [iV,List.take_add_one,h,List.foldl_append]
theorem EK{nm:String}{d o:Addr}{xs ys:List (K × Addr × Value)}{Q:Unit->Shared->Prop}(hu:knd.room A)(hdo:d≠o)(hoS:(o == sysModules)=false)(hd:s.heap.DictOfH knd d xs)(ho:s.heap.DictOfH knd o ys)(hne:xs≠[])(hsz:xs.length+ys.length<=sizeLine)
  (hQ:∀h',h'.DictOfH knd d (iV xs ys)->Heap.SameBut d s.heap h'->Q () { s with heap:=h' }) :
  wpAny (model prog w) A (Builtin.Dict.mergeDict nm d o) Q E s:=by
 obtain ⟨ν,W,ι,N,δ,I,J,η,ζ⟩:=id hd;obtain ⟨α,a,γ,r,β,c,G,U,θ⟩:=id ho;have M:ys.length=a.size:=by
  have:=congrArg List.length G;rw [aC,Array.length_toList] at this;exact this.symm
 unfold Builtin.Dict.mergeDict;rw [if_neg (by simpa using hdo)];unfold Builtin.Dict.showsAll;rw [if_neg (by rw [hoS];exact bN)];refine wpAny_bind (wpAny_pure ?_);refine wpAny_bind (wpAny_dictEntries r c ?_);have z:wpAny (model prog w) A (do
   let epoch <-dictEpoch o
   let l <-dictEntries o
   forIn [:l.size] PUnit.unit λi (_:PUnit)=>(do
     let l' <-dictEntries o
     match l'[i]? with
      | some e=>do
       holding [e.key,e.val] (dictSetHashed d e.key e.hash e.val)
       let ep' <-dictEpoch o
       if (ep' != epoch)=true then do
         (unsupported (toString nm++toString ":source-changed-during-callback"):Sem PUnit)
         pure (ForInStep.yield PUnit.unit)
        else pure (ForInStep.yield PUnit.unit)
      | _=>do
       (unsupported "internal:dict-merge" : Sem PUnit)
       pure (ForInStep.yield PUnit.unit):Sem (ForInStep PUnit))
   pure ()) Q E s:=by
  refine wpAny_bind (wpAny_dictEpoch r c ?_);refine wpAny_bind (wpAny_dictEntries r c ?_);refine wpAny_bind ?_;rw [Std.Legacy.Range.forIn_eq_forIn_range'];simp only [Std.Legacy.Range.size,Nat.sub_zero,Nat.add_sub_cancel,Nat.div_one];refine wpAny_forIn_list _
   (λm _ Y=>∃h' i,Y={ s with heap:=h' }/\m=List.range' i (a.size-i)/\i<=a.size/\h'.DictOfH knd d (iV xs (ys.take i))/\h'.get? o=some α/\Heap.SameBut d s.heap h')
   _ ?_ ?_ _ _ ⟨s.heap,0,rfl,by simp,bS _,by simpa [iV] using hd,r,Heap.SameBut.refl _ _⟩
  ·rintro x m b Y ⟨h',i,rfl,D,Z,p,j,u⟩;have X:i<a.size:=by
    rcases Nat.lt_or_ge i a.size with h | h
    ·exact h
    ·rw [Nat.sub_eq_zero_of_le h] at D;simp at D
   obtain ⟨rfl,C⟩:x=i/\m=List.range' (i+1) (a.size-(i+1)):=by
    have e:a.size-i=(a.size-(i+1))+1:=Oo;rw [e,List.range'_succ] at D;injection D with h1 h2;exact ⟨h1,h2⟩
   refine wpAny_bind (wpAny_dictEntries j c ?_);have R:ys[x]?=some (ys[x]'Oo):=aB _;have P:=List.getElem_mem (l:=ys) (n:=x) Oo;rw [entry_at G x,R];generalize ys[x]'Oo=y at R P;show wpAny _ _ (holding [Value.ref y.2.1,y.2.2] (dictSetHashed d (.ref y.2.1) (knd.hash y.1) y.2.2) >>= _) _ _ _;have S:(iV xs (ys.take x)).length<=sizeLine:=by
    have μ:=tM (ys.take x) xs;have κ:(ys.take x).length<=ys.length:=by rw [bW];omega
    omega
   refine wpAny_bind (wpAny_holding (GV (s:={ s with heap:=h' }) hu (knd.keeps (U y P) N I u) p S λL O B=>?_));have f:L.get? o=some α:=(B.2 o (Ne.symm hdo)).trans j;refine wpAny_bind (wpAny_dictEpoch f c ?_);rw [if_neg (by simp)];exact wpAny_pure ⟨L,x+1,rfl,C,X,by rw [BK xs ys x R];exact O,f,u.trans B⟩
  ·rintro b Y ⟨h',i,rfl,D,Z,p,j,u⟩;have T:i=a.size:=by
    rcases Nat.lt_or_ge i a.size with h | h
    ·have e:a.size-i=(a.size-(i+1))+1:=Oo;rw [e,List.range'_succ] at D;exact nomatch D
    ·exact Nat.le_antisymm Z h
   refine wpAny_pure (hQ h' ?_ u);rw [T,<-M,cE] at p;exact p
 dsimp only;split
 ·refine wpAny_bind (wpAny_dictEntries N I ?_);split
  ·rename_i hemp
   have ε:W=#[]:=Array.isEmpty_iff.mp hemp;rw [ε] at J;have:xs=[]:=by
    cases xs with
    | nil=>rfl
    | cons x xs=>cases J
   exact absurd this hne
  ·exact z
 ·exact z
theorem xQ(knd:HeapKind prog w K)(d o:Addr)(hdo:d≠o)(hoS:(o == sysModules)=false) :
  MeetsIn prog w (Builtin.«dict.update» ⟨[.ref d,.ref o],[]⟩) (λA R s=>knd.room A.in1/\∃xs ys,s.heap.DictOfH knd d xs/\s.heap.DictOfH knd o ys/\xs≠[]/\xs.length+ys.length<=sizeLine /\
   ∀h',h'.DictOfH knd d (iV xs ys)->Heap.SameBut d s.heap h'->R (.ok (.ret .none)) { s with heap:=h' }) :=
 .of_wp λA R s ⟨i,xs,ys,hd,a,b,c,h⟩=>by
  unfold Builtin.«dict.update»;refine wpAny_bind ?_;unfold Builtin.Dict.selfAndRest;refine wpAny_bind (wpAny_notOrdered_dict hd.typeIs ?_);show wpAny _ _ (pure (d,[Value.ref o])) _ _ s;refine wpAny_pure ?_;show wpAny _ _ (Builtin.Dict.updateFrom "dict.update" d (.ref o) [] .none) _ _ s;unfold Builtin.Dict.updateFrom;refine wpAny_bind (wpAny_typeOf a.typeIs ?_);rw [if_neg Dd];refine wpAny_bind ?_;unfold Builtin.Dict.merge;refine wpAny_bind ?_
  ·unfold Builtin.Dict.readDirectly;refine wpAny_bind (wpAny_isInstance a.typeIs isSubtype_dict_dict ?_);simp only [Bool.not_true,Bool.false_eq_true,if_false];refine wpAny_bind (wpAny_specialOf a.typeIs F.slot_dict_iter.lookup (wpAny_pure ?_));simp only [beq_self_eq_true,if_true];refine wpAny_bind (wpAny_pure ?_);refine EK i hdo hoS hd a b c λh' e f=>?_;show wpAny _ _ (Builtin.Dict.addKeywords d [] >>= _) _ _ _;exact wpAny_bind (wpAny_pure (wpAny_pure ⟨.none,rfl,h h' e f⟩))
end
section
variable{X:Cx}
end
section
variable{prog:Program}{w:World}{K:Type}[DecidableEq K]{A:Around}{E:Value->Shared->Prop}{s:Shared}
theorem HI(knd:HeapKind prog w K)(d o:Addr)(hdo:d≠o)(hoS:(o == sysModules)=false) :
  MeetsIn prog w (Builtin.«dict.update» ⟨[.ref d,.ref o],[]⟩) (λA R s=>∃od epd oo eso epo,∃xs:List (K × Addr × Value),s.heap.get? d=some od/\od.ExactDict/\od.data=.dict #[] epd/\s.heap.get? o=some oo/\oo.ExactDict/\oo.data=.dict eso epo/\eso.toList=xs.map (entryOfKey knd) /\
   (∀x∈xs,s.TypeIs (.ref x.2.1) "tuple")/\(xs.map λx=>knd.hash x.1).Nodup/\xs.length<=sizeLine/\∀h' q ep',h'.get? d=some q->q.ExactDict->q.data=.dict eso ep'->Heap.SameBut d s.heap h'->R (.ok (.ret .none)) { s with heap:=h' }) :=
 .of_wp λA R s ⟨od,epd,oo,eso,epo,xs,c,e,j,f,B,z,C,m,n,y,h⟩=>by
  have a:s.TypeIs (.ref o) "dict" := ⟨oo,f,B.1⟩;have b:s.TypeIs (.ref d) "dict" := ⟨od,c,e.1⟩;unfold Builtin.«dict.update»;refine wpAny_bind ?_;unfold Builtin.Dict.selfAndRest;refine wpAny_bind (wpAny_notOrdered_dict b ?_);show wpAny _ _ (pure (d,[Value.ref o])) _ _ _;refine wpAny_pure ?_;show wpAny _ _ (Builtin.Dict.updateFrom "dict.update" d (.ref o) [] .none) _ _ _;unfold Builtin.Dict.updateFrom;refine wpAny_bind (wpAny_typeOf a ?_);rw [if_neg Dd];refine wpAny_bind ?_;unfold Builtin.Dict.merge;refine wpAny_bind ?_;unfold Builtin.Dict.readDirectly;refine wpAny_bind (wpAny_isInstance a isSubtype_dict_dict ?_);simp only [Bool.not_true,Bool.false_eq_true,if_false];refine wpAny_bind (wpAny_specialOf a F.slot_dict_iter.lookup (wpAny_pure ?_));simp only [beq_self_eq_true,if_true];refine wpAny_bind (wpAny_pure ?_);refine yQ (knd:=knd) hdo hoS c e j f z C m n y λh' i ep' r u l p=>?_;show wpAny _ _ (Builtin.Dict.addKeywords d [] >>= _) _ _ _;exact wpAny_bind (wpAny_pure (wpAny_pure ⟨.none,rfl,h h' i ep' r u l p⟩))
end
section
variable{X:Cx}
end
section
variable{X:Cx}{pins:List (Addr × Obj)}{σ:St}{H:Hp}{s:Shared}{Sh:nM}
theorem RP{P:Program}{w:World}{h:Heap}{d:PyData}{a:Addr}(r:(gM P w Sh).is h d a):∃o,h.get? a=some o/\o.cls=.type "tuple" := by
 obtain ⟨c,e,r⟩:=r;have b:=Sh.key d c;cases r with
 | tuple hg hc hd hw=>exact ⟨_,hg,hc⟩
 | _=>simp [qC] at b
theorem KN.keys:∀{kvs:List (PyData × Addr × V)}{xs:List (PyData × Addr × Value)},KN kvs xs->kvs.map (·.1)=xs.map (·.1):=by
 intro kvs xs r
 induction r with
 | nil=>rfl
 | cons r _ ih=>rw [aU,aU,ih,r.1]
theorem KB{kvs:List (PyData × Addr × V)}{xs:List (PyData × Addr × Value)}(P:Program)(w:World)(r:KN kvs xs)(nd:((qG kvs).map λp=>jY w p.1).Nodup):(xs.map λx=>(gM P w Sh).hash x.1).Nodup:=by
 have e:((qG kvs).map λp=>jY w p.1)=xs.map λx=>jY w x.1:=by
  have a:((qG kvs).map λp=>jY w p.1)=(kvs.map (·.1)).map (jY w):=by unfold qG;rw [List.map_map,List.map_map];rfl
  rw [a,r.keys,List.map_map];rfl
 rw [e] at nd;exact nd
@[irreducible] def BD(P:Program)(w:World):List V->Hp->VK->Prop:=λxs H Q=>∃(Sh:nM) (t:Addr) (l:List (PyData × V)),xs=[.ref t]/\dZ P w Sh H t l/\(l.map λp=>jY w p.1).Nodup/\l.length<=1000/\∀D H',H D=none->dZ P w Sh H' D l->bC H H'->Q (.ref D) H'
theorem rndict{P:Program}{w:World}{Q:VK}{t:Addr}{l:List (PyData × V)}(h:dZ P w Sh H t l)(nd:(l.map λp=>jY w p.1).Nodup)(hz:l.length<=1000)(q:∀D H',H D=none->dZ P w Sh H' D l->bC H H'->Q (.ref D) H'):BD P w [.ref t] H Q:=by
 unfold BD;exact ⟨Sh,t,l,rfl,h,nd,hz,q⟩
theorem TJ(P:Program)(w:World)(hc:X.calm=true)(hP:X.prog=P:=by rfl)(hw:X.w=w:=by rfl):iM X (.type "dict") (BD P w):=by
 subst hP hw;unfold BD;intro m s σ H ξ ψ Q I r h;obtain ⟨f,t,l,rfl,g,Y,φ,q⟩:=h;obtain ⟨u,rfl,κ⟩:=lK r;cases κ;have χ:=I.ok.hd hc;refine callType_codes (Q₁:=λy O=>y=.ref s.heap.objs.size/\O={ s with heap:=s.heap.push { cls:=.type "dict",data:=.dict #[] } }) F.kt_called_dict (F.kt_typeCall_dict_1 _) F.entry_dict_init (kt_code_dict_new _ ⟨rfl,rfl⟩) ?_;rintro y O ⟨rfl,rfl⟩;have hD:=I.hok.fresh (aG s.heap.objs.size);have I1:cH X m σ (upd H s.heap.objs.size (mU X.prog X.w f s.heap.objs.size [])) { s with heap:=s.heap.push { cls:=.type "dict",data:=.dict #[] } }:=I.laid (a:=s.heap.objs.size) (o:=mU X.prog X.w f s.heap.objs.size []) (t':=s.toks) (λ_ _ q=>aD _ q) (aG _) (wT s.heap I.big);have A:=g.same (bC.upd (o:=mU X.prog X.w f s.heap.objs.size []) hD);obtain ⟨υ,n⟩:=g.there;have L:t≠s.heap.objs.size:=λe=>by subst e;rw [hD] at n;cases n
 have D:((s.heap.objs.size:Nat) == sysModules)=false:=beq_eq_false_iff_ne.mpr (Ne.symm (dD I.big));obtain ⟨b,W,ο,G,rfl,T,M,i,μ,B,γ,R,Z,α,U,N,ν⟩:=A.open_ I1;have d:(s.heap.push { cls:=.type "dict",data:=.dict #[] }).DictOf (eQ X.prog X.w) s.heap.objs.size []:=Heap.DictOf.new s.heap;have j:(Shared.TypeIs { s with heap:=s.heap.push { cls:=.type "dict",data:=.dict #[] } } (.ref t) "dict"):=⟨μ,R,Z.1⟩;refine ⟨d.typeIs,F.args_dict_init_2 _ _,?_⟩;unfold Builtin.«dict.__init__»;refine wpAny_bind ?_;unfold Builtin.Dict.selfAndRest;refine wpAny_bind (wpAny_notOrdered_dict d.typeIs ?_);show wpAny _ _ (pure (s.heap.objs.size,[Value.ref t])) _ _ _;refine wpAny_pure ?_;show wpAny _ _ (Builtin.Dict.updateFrom "dict.__init__" s.heap.objs.size (.ref t) [] .none) _ _ _;unfold Builtin.Dict.updateFrom;refine wpAny_bind (wpAny_typeOf j ?_);rw [if_neg Dd];refine wpAny_bind ?_;unfold Builtin.Dict.merge;refine wpAny_bind ?_;unfold Builtin.Dict.readDirectly;refine wpAny_bind (wpAny_isInstance j isSubtype_dict_dict ?_);simp only [Bool.not_true,Bool.false_eq_true,if_false];refine wpAny_bind (wpAny_specialOf j F.slot_dict_iter.lookup (wpAny_pure ?_));simp only [beq_self_eq_true,if_true];refine wpAny_bind (wpAny_pure ?_);have ι:W.length=b.length:=(Paired.length i).symm
 refine yQ (knd:=gM X.prog X.w f) (Ne.symm L) M (bB _ rfl) ⟨rfl,rfl,rfl⟩ rfl R α U (λx η=>RP (N x η)) (KB X.prog X.w i Y) (by rw [ι];exact T) λρ S J A θ β δ=>?_;have ε:dJ (upd H s.heap.objs.size (mU X.prog X.w f s.heap.objs.size [])) (upd H s.heap.objs.size (mU X.prog X.w f s.heap.objs.size b)):=λc τ hc=>by
  have ζ:c≠s.heap.objs.size:=λz=>by rw [z,bH] at hc;cases hc
  rw [cU ζ] at hc ⊢;exact hc
 have I2:=lT (t':=s.toks) (ob:=mU X.prog X.w f s.heap.objs.size b) I1 (by rw [bH];exact True.intro) δ ⟨S,A⟩ (zD ⟨⟨T,D⟩,W,i,S,B,J,A,θ,β,U,ν⟩);rw [IT] at I2;show wpAny _ _ (Builtin.Dict.addKeywords s.heap.objs.size [] >>= _) _ _ _;exact wpAny_bind (wpAny_pure (wpAny_pure ⟨rfl,.ref _,_,I2,rfl,q _ _ hD ⟨b,bH,λp C=>⟨(G p C).1,(G p C).2.flat ε (jS _ (f.key _ (G p C).1))⟩,rfl⟩ (bC.upd hD)⟩))
@[irreducible] def VU(P:Program)(w:World)(K:PySem.W.Frag):R2:=λx y H Q=>∃(Sh:nM) (a b:Addr) (l:List (PyData × V)),x=.ref a/\y=.ref b/\dZ P w Sh H a l/\dZ P w Sh H b l /\
 (∀p∈l,∃d,lA K H d p.2/\PyData.canLay0 d=true/\d.depth<=60/\d.hasDict=false)/\Q (.bl false) H
theorem rnne{P:Program}{w:World}{K:PySem.W.Frag}{Q:VK}{a b:Addr}{l:List (PyData × V)}(h1:dZ P w Sh H a l)(h2:dZ P w Sh H b l)(h:∀p∈l,∃d,lA K H d p.2/\PyData.canLay0 d=true/\d.depth<=60/\d.hasDict=false)(q:Q (.bl false) H):VU P w K (.ref a) (.ref b) H Q:=by
 unfold VU;exact ⟨Sh,a,b,l,rfl,rfl,h1,h2,h,q⟩
theorem aA8(P:Program)(w:World)(K:PySem.W.Frag)(hu:X.A.units+64<cLine)(hP:X.prog=P:=by rfl)(hw:X.w=w:=by rfl)(hK:X.K=K:=by rfl):nU X (compareOp .NotEq) (VU P w K):=by
 subst hP hw hK;unfold VU;intro ε s σ H x y v u Q I rx ψ h;obtain ⟨Sh,a,b,l,rfl,rfl,ga,ι,hp,q⟩:=h;cases rx;cases ψ;obtain ⟨J,U,ea,φ,rfl,za,ξ,Y,ω⟩:=ga.open_ I;obtain ⟨c,G,eb,kkb,T,zb,χ,β,α⟩:=ι.open_ I;have lk:J.length=c.length:=by have:=congrArg List.length T;rwa [aC,aC] at this
 have ο:U.length=J.length:=Y.length.symm;have κ:G.length=c.length:=β.length.symm;have C:(G.map (·.1)).Nodup:=let ⟨_,_,_,_,_,_,_,_,n⟩:=α;n;have m:∀(i:Nat) (x:PyData × Addr × Value),U[i]?=some x->∃p M z,J[i]?=some p/\c[i]?=some M/\G[i]?=some z/\z.1=x.1/\dO p.2.2 x.2.2/\dO p.2.2 z.2.2:=λi x D=>by
  obtain ⟨p,r,B⟩:=jE Y D;have ρ:i<c.length:=by have:=(aX.mp r).1;omega
  have o:c[i]?=some c[i]:=aB ρ;obtain ⟨z,μ,γ⟩:=pY β o;have e:=congrArg (λl=>l[i]?) T;have e:(qG J)[i]?=(qG c)[i]?:=e;rw [aL,aL,r,o] at e;have e:(p.1,p.2.2)=(c[i].1,c[i].2.2):=dB e;have e1:p.1=c[i].1:=(Prod.mk.inj e).1;have e2:p.2.2=c[i].2.2:=(Prod.mk.inj e).2;refine ⟨p,_,z,r,o,μ,?_,B.2.2,?_⟩
  ·rw [<-γ.1,<-e1,B.1]
  ·rw [e2];exact γ.2.2
 refine UD ξ χ ω α Oo Oo (nD _ _ Sh hu) (λi x D=>?_) (λi j x p D ζ=>?_) ⟨.bl false,H,I,rfl,q⟩
 ·obtain ⟨p,M,z,R,θ,f,N,η,δ⟩:=m i x D;exact ⟨i,z.2,by rw [f,<-N]⟩
 ·obtain ⟨O,M,z,R,θ,f,N,η,δ⟩:=m i x D;have ν:i=j:=by
   have υ:(G.map (·.1))[i]?=(G.map (·.1))[j]?:=by rw [aL,aL,f,ζ];simp [N]
   exact (List.getElem?_inj (by rw [aC];exact (aX.mp f).1) C).mp υ
  subst ν;rw [ζ] at f;have f:=dB f;subst f;obtain ⟨d,S,Z,dd,L⟩:=hp (O.1,O.2.2) (aS.mpr ⟨O,aV R,rfl⟩);obtain ⟨τ,q1⟩:=S.reads I η;obtain ⟨bs,q2⟩:=S.reads I δ;have:=SeqAt.eqAt_reads d d X.A.in1 s _ _ τ bs q1 q2 Z Z (by
   have:X.A.in1.units<=X.A.units+1:=by first | exact aG _ | (unfold Around.in1;simp)
   omega)
  rw [EX d L] at this;exact this
end
noncomputable def lX (kvs more:List (PyData × Addr × V)):List (PyData × Addr × V):=more.foldl (λacc kv=>pH acc kv.1 kv.2.1 kv.2.2) kvs
noncomputable def qA (l m:List (PyData × V)):List (PyData × V):=m.foldl (λacc kv=>fP acc kv.1 kv.2) l
theorem KN.merge:∀{more:List (PyData × Addr × V)}{ys:List (PyData × Addr × Value)}{kvs:List (PyData × Addr × V)}{xs:List (PyData × Addr × Value)},KN more ys->KN kvs xs->KN (lX kvs more) (iV xs ys):=by
 intro more ys kvs xs r
 induction r generalizing kvs xs with
 | nil=>intro q;exact q
 | @cons p q ps qs h t ih =>
  intro a;have e:KN (pH kvs p.1 p.2.1 p.2.2) (storedH xs q.1 q.2.1 q.2.2):=by
   have:=a.put p.1 (b:=p.2.1) h.2.2;rw [<-h.1,<-h.2.1];exact this
  exact ih e
theorem vZ:∀(more kvs:List (PyData × Addr × V)),qG (lX kvs more)=qA (qG kvs) (qG more)
 | [],kvs=>rfl
 | p::r,kvs=>by
  show qG (lX (pH kvs p.1 p.2.1 p.2.2) r)=qA (fP (qG kvs) p.1 p.2.2) (qG r);rw [vZ r,DY]
theorem vY:∀(more kvs:List (PyData × Addr × V)),(lX kvs more).length<=kvs.length+more.length
 | [],kvs=>aG _
 | p::r,kvs=>by
  have h1:=vY r (pH kvs p.1 p.2.1 p.2.2);have a:=DX kvs p.1 p.2.1 p.2.2;show (lX (pH kvs p.1 p.2.1 p.2.2) r).length<=_;rw [bV];omega
theorem vX:∀{more kvs:List (PyData × Addr × V)}{p:PyData × Addr × V},p∈lX kvs more->∃q,(q∈kvs\/q∈more)/\p.1=q.1/\p.2.1=q.2.1
 | [],kvs,p,h=>⟨p,.inl h,rfl,rfl⟩
 | m::r,kvs,p,h=>by
  obtain ⟨q,hq,e1,e2⟩:=vX (more:=r) h;rcases hq with hq | hq
  ·rcases DW hq with ⟨c,d,a,b⟩ | ⟨a,b⟩
   ·exact ⟨c,.inl d,e1.trans a,e2.trans b⟩
   ·exact ⟨m,.inr (aR ..),e1.trans a,e2.trans b⟩
  ·exact ⟨q,.inr (aM _ hq),e1,e2⟩
section
variable{X:Cx}
@[irreducible] def DU(P:Program)(w:World):V->List V->Hp->VK->Prop:=λx vs H Q=>∃(Sh:nM) (d o:Addr) (l m:List (PyData × V)),x=.ref d/\vs=[.ref o]/\d≠o/\dZ P w Sh H d l/\dZ P w Sh H o m/\(l=[]->(m.map λp=>jY w p.1).Nodup)/\l.length+m.length<=1000/\∀H',dZ P w Sh H' d (if l=[] then m else qA l m)->aO d H H'->Q .non H'
theorem rnupd{P:Program}{w:World}{Sh:nM}{H:Hp}{Q:VK}{d o:Addr}{l m:List (PyData × V)}(hdo:d≠o)(hd:dZ P w Sh H d l)(ho:dZ P w Sh H o m)(hne:l=[]->(m.map λp=>jY w p.1).Nodup)(hz:l.length+m.length<=1000)(q:∀H',dZ P w Sh H' d (if l=[] then m else qA l m)->aO d H H'->Q .non H'):DU P w (.ref d) [.ref o] H Q:=by
 unfold DU;exact ⟨Sh,d,o,l,m,rfl,rfl,hdo,hd,ho,hne,hz,q⟩
theorem WZ(P:Program)(w:World)(hu:X.A.units+64<cLine)(hP:X.prog=P:=by rfl)(hw:X.w=w:=by rfl):MtR X "dict.update" (DU P w):=by
 subst hP hw;unfold DU;intro τ s σ H x vs v us Q I rx rv h;obtain ⟨f,d,o,l,m,rfl,rfl,C,hd,ho,ι,ξ,q⟩:=h;cases rx;obtain ⟨u,rfl,ru⟩:=rv.one;cases ru;have big:(1000:Nat)<=sizeLine:=Dd;obtain ⟨a,ρ,M,ω,rfl,z1,L,i,W⟩:=hd.open_ I;obtain ⟨more,n,eb,O,rfl,z2,D,b,B⟩:=ho.open_ I;have ο:a.length=ρ.length:=Paired.length i;have l2:more.length=n.length:=Paired.length b;have ξ:a.length+more.length<=1000:=by rwa [aC,aC] at ξ
 by_cases e:a=[]
 ·subst e;rw [if_pos (show qG ([]:List (PyData × Addr × V))=[] from rfl)] at q;cases i;obtain ⟨φ,U,ζ,υ,ν,a3,a4,_,a5⟩:=W;obtain ⟨oo,r,Z,h1,R,Y,N,η,ε⟩:=B;have T:U=#[]:=Array.toList_eq_nil_iff.mp a4;subst T;refine call_meetsIn PySem.F.slot_dict_update ⟨φ,υ,ν.1⟩ PySem.F.entry_dict_update (PySem.F.args_dict_update_2 _ _) (HI (gM X.prog X.w f) d o C D) ⟨φ,ζ,oo,r,Z,n,υ,ν,a3,h1,R,Y,N,λx hx=>RP (η x hx),KB X.prog X.w b (ι rfl),Oo,λh' y μ ψ g2 g3 κ=>?_⟩;have δ:dJ H (upd H d (mU X.prog X.w f d more)):=λc n j=>by
   rw [cU (λz=>by rw [z,M] at j;cases j)];exact j
  exact ⟨.non,_,lT (t':=s.toks) (ob:=mU X.prog X.w f d more) I (by rw [M];exact True.intro) κ ⟨y,ψ⟩ (zD ⟨⟨z2,L⟩,n,b,y,r,μ,ψ,g2,g3,N,ε⟩),rfl,q _ ⟨more,bH,λp G=>⟨(O p G).1,(O p G).2.flat δ (jS _ (f.key _ (O p G).1))⟩,rfl⟩ aO.self⟩
 ·have e':¬qG a=[]:=λz=>e (List.map_eq_nil_iff.mp z);rw [if_neg e'] at q;refine call_meetsIn PySem.F.slot_dict_update W.typeIs PySem.F.entry_dict_update (PySem.F.args_dict_update_2 _ _) (xQ (gM X.prog X.w f) d o C D) ⟨nD _ _ f hu,ρ,n,W,B,λγ=>?_,Oo,λh' θ κ=>?_⟩
  ·rw [γ] at ο;exact e (List.length_eq_zero_iff.mp (by rw [ο];rfl))
  ·obtain ⟨y,es,ep,χ,R,Y,N,_,ε⟩:=θ;have hl:(lX a more).length<=sizeLine:=by have:=vY more a;omega
   have δ:dJ H (upd H d (mU X.prog X.w f d (lX a more))):=λc n j=>by
    rw [cU (λz=>by rw [z,M] at j;cases j)];exact j
   refine ⟨.non,_,lT (t':=s.toks) (ob:=mU X.prog X.w f d (lX a more)) I (by rw [M];exact True.intro) κ ⟨y,χ⟩ (zD ⟨⟨hl,L⟩,_,b.merge i,y,es,ep,χ,R,Y,N,ε⟩),rfl,q _ ⟨lX a more,bH,λp G=>?_,(vZ more a).symm⟩ aO.self⟩;obtain ⟨J,β,e1,γ⟩:=vX G;rw [e1,γ];have α:f.S J.1/\cB H J.1 (.ref J.2.1):=β.elim (ω J) (O J);exact ⟨α.1,α.2.flat δ (jS _ (f.key _ α.1))⟩
end
def aCi(P:Program)(w:World)(td ty:TE):TE:=λσ H Q=>td σ H λx H1=>ZH P w x H1 (ty σ H1 λy H2=>DU P w x [y] H2 Q)
theorem UX{X:Cx}(P:Program)(w:World){o e:Expr}{apos cpos:Pos}{td ty:TE}(hu:X.A.units+64<cLine)(ho:gE X o td)(he:gE X e ty)(base:attributeBase o "update" X.env (eval o X.env)=eval o X.env:=by rfl)
  (few:((backTo cpos (starEach [e] X.env)).all (λx=>!x.1)&&(backToKw cpos (keywordEach [] X.env)).all (λx=>x.1.isSome)&&decide (([e]:List Expr).length+([]:List Keyword).length+(if ([]:List Keyword).isEmpty then 0 else 1)<30))=true:=by rfl)
  (line:(apos.endLine == cpos.line)=true:=by rfl) (trees:backTo cpos (starEach [e] X.env)=[(false,eval e X.env)]:=by rfl) (hP:X.prog=P:=by rfl) (hw:X.w=w:=by rfl):gE X (.Call (.Attribute o "update" apos) [e] [] cpos) (aCi P w td ty):=⟨by
 subst hP hw;intro b s σ H Q I h;refine wpAny_Call_method base few line PySem.F.plainAttrs_dict PySem.F.slot_dict_update PySem.F.type_dict_update (thn (ho.p b s σ H _ I h) λu j ⟨x,H1,I1,B,c⟩=>?_);unfold ZH at c;obtain ⟨i,a,C,rfl,m,r⟩:=c;obtain rfl:u=Value.ref a:=B;obtain ⟨n,l,_⟩:=m.isD I1;refine ⟨n,l,?_⟩;rw [trees];refine Calls.callWith_builtin rfl (Calls.evalArgs_plain (Calls.spliced_cons (thn (he.p b j σ H1 _ I1 r) λD f ⟨y,H2,I2,d,z⟩=>Calls.spliced_nil ?_)));exact WZ X.prog X.w hu rfl rfl b f σ H2 (.ref a) [y] _ _ Q I2 (show dO (V.ref a) (Value.ref a) from rfl) (.cons d .nil) z⟩
def Itw(d:Addr)(o:Obj)(kvs:List (fD × V)):It :=
 ⟨λi H=>H d=some (.frz o (.dK kvs))/\i<kvs.length,λi H x H'=>H'=H/\∃p,kvs[i]?=some p/\x=kV p.1,λi H=>H d=some (.frz o (.dK kvs))/\kvs.length<=i⟩
section
variable{X:Cx}{pins:List (Addr × Obj)}{σ:St}{H:Hp}{s:Shared}
theorem cH.frzK{D:Addr}{kvs:List (fD × V)}(I:cH X pins σ H s)(e:H D=some (.dK kvs)):∃o,cH X pins σ (upd H D (.frz o (.dK kvs))) s:=by
 obtain ⟨z,hd,i,c,o,h,d,a,f⟩:=(show eM X.prog X.w H s.heap D (.dK kvs) from I.hok D _ e);exact ⟨o,I.write (x:=D) (e:=D) (o:=.frz o (.dK kvs)) (h':=s.heap) (t':=s.toks) (by rw [e];exact True.intro) (.inl rfl) (λb u _ q=>q) ⟨o,a⟩ ⟨a,z,hd,i,c,o,h,d,a,f⟩⟩
theorem HQ(I:cH X pins σ H s){d:Addr}{o:Obj}{kvs:List (fD × V)}(e:H d=some (.frz o (.dK kvs))):(d == sysModules)=false/\s.heap.get? d=some o/\o.ExactDict/\∃es ep,o.data=.dict es ep/\es.size=kvs.length /\
  ∀(i:Nat) (hi:i<es.size) p,kvs[i]?=some p->dO (kV p.1) es[i].key:=by
 obtain ⟨C,z,hd,M,c,S,es,ep,a,b,J,T,P⟩:=(show eM X.prog X.w H s.heap d (.frz o (.dK kvs)) from I.hok d _ e);rw [C] at a;cases a;have D:∀{l:List DictEntry} {m:List (fD × Value)},Pairs (eQ X.prog X.w) l m->l.length=m.length/\∀(i:Nat) (e:DictEntry) (q:fD × Value),l[i]?=some e->m[i]?=some q->dO (kV q.1) e.key:=by
  intro l m r
  induction r with
  | nil=>exact ⟨rfl,λi e q h=>by simp at h⟩
  | @cons e kv es kvs f hv t ih =>
   refine ⟨by rw [bV,bV,ih.1],λi B q a b=>?_⟩;cases i with
   | zero =>
    have a:e=B:=by simpa using a
    have b:kv=q:=by simpa using b
    subst a b;obtain ⟨k,v⟩:=kv;have f:wH k e.key=true:=f;rcases fH f with ⟨j,t,u,n⟩ | ⟨x,t,u,n⟩
    ·rw [n];show dO (kV k) _;rw [u];exact ⟨t,rfl⟩
    ·rw [n];show dO (kV k) _;rw [u];exact ⟨t,rfl⟩
   | succ i=>exact ih.2 i B q (by simpa using a) (by simpa using b)
 obtain ⟨O,U⟩:=P;obtain ⟨pl,y⟩:=D O;have N:M.length=kvs.length:=(Paired.length c).symm;have A:es.size=kvs.length:=by rw [<-N,<-pl];simp
 refine ⟨hd,C,b,es,ep,J,A,λi hi p G=>?_⟩;obtain ⟨q,R,L,W⟩:=kR c G;have:=y i es[i] q (by rw [Array.getElem?_toList,Array.getElem?_eq_getElem hi]) R;rw [L];exact this
theorem GI{P:Program}{w:World}{K:PySem.W.Frag}{tg:Expr}(d it:Addr){o:Obj}(kvs:List (fD × V)){es:Array DictEntry}{ep:Nat}(hdat:o.data=.dict es ep):xW P w K tg (Itw d o kvs) [it] it (λi h=>h.IsKeyIter it d i es.size ep) where
 mem:=by simp
 obj:=λi h f b l=>by
  have e:b=it:=by simpa using l
  subst e;obtain ⟨o,e,c,d⟩:=f;exact ⟨o,e,λv z=>by rw [d] at z;cases z⟩
 keep:=λi h u f k=>f.at λo e=>k it (by simp) o e
 item:=by
  intro X T R A Y i j s σ H E I x f G;subst T R A;obtain ⟨U,y⟩:=G;obtain ⟨α,m,B,J,M,a,C,n⟩:=HQ I U;rw [hdat] at a;cases a;obtain ⟨S,O,δ,N,L,D⟩:=x it (by simp);have r:i<es.size:=Oo;refine KA f m hdat r λu p β=>?_;have I1:cH X j σ H { s with heap:=u }:=I.turned (t':=s.toks) (λb o l e=>(β.2 b l).trans e) S O N L D;obtain ⟨ζ,e,c,ε⟩:=id p;have γ:=n i r kvs[i] (aB y);refine ⟨es[i].key,rfl,KO (s:={ s with heap:=u }) e c ε Dd ⟨kV kvs[i].1,H,I1,γ,⟨rfl,kvs[i],aB y,rfl⟩,p,λb l=>(x b l).1⟩⟩
 done:=by
  intro X T R A Y i j s σ H E I x f G;subst T R A;obtain ⟨U,y⟩:=G;obtain ⟨α,m,B,J,M,a,C,n⟩:=HQ I U;rw [hdat] at a;cases a;obtain ⟨S,O,δ,N,L,D⟩:=x it (by simp);exact RT (I.ok.hd Y) f m hdat Oo λu Z=>⟨rfl,I.turned (t':=s.toks) (λb o l e=>Z b o l e) S O N L D⟩
 self:=λ_ _ _ _ _ f h=>wpAny_pyIter_keyiter f h
end
@[irreducible] def rKF(x:V)(H1:Hp)(R:It->Hp->Prop):Prop:=∃d kvs,x=.ref d/\H1 d=some (.dK kvs)/\∀o,R (Itw d o kvs) (upd H1 d (.frz o (.dK kvs)))
def iKF(tl:TE):TI:=λσ H R=>tl σ H λx H1=>rKF x H1 R
theorem rkf{R:It->Hp->Prop}{H:Hp}{d:Addr}{kvs:List (fD × V)}(h:H d=some (.dK kvs))(k:∀o H2,H2 d=some (.frz o (.dK kvs))->aO d H H2->R (Itw d o kvs) H2):rKF (.ref d) H R:=by
 unfold rKF;exact ⟨d,kvs,rfl,h,λo=>k o _ bH AG⟩
section
variable{X:Cx}{tg:Expr}
theorem OY{l:Expr}{tl:TE}(hl:gE X l tl):OP X tg l (iKF tl):=⟨by
 intro c s σ H R I h;refine thn (hl.p c s σ H _ I h) λv j ⟨x,H1,I1,A,r⟩=>?_;unfold rKF at r;obtain ⟨d,a,e,C,q⟩:=r;subst e;cases A;obtain ⟨o,I2⟩:=I1.frzK C;have u:=q o;have i:(upd H1 d (.frz o (.dK a))) d=some (.frz o (.dK a)):=bH;generalize upd H1 d (.frz o (.dK a))=H2 at I2 u i;obtain ⟨B,n,m,G,D,f,z,y⟩:=HQ I2 i;refine KC B n m f ⟨j.heap.objs.size,[j.heap.objs.size],_,_,H2,rfl,I2.kept (t':=j.toks) λb o e=>aD _ e,GI d _ a f,⟨_,bB _ rfl,rfl,rfl⟩,λb w=>?_,u⟩;have e:b=j.heap.objs.size:=by simpa using w
 subst e;exact I2.fpOk (aG _) (I2.hok.fresh (aG _))⟩
end
section
variable{js:List Nat}{te:TE}{tc:TT}{σ:St}{H:Hp}{Q:VK}
theorem rH{J:It}{n:Nat}(src:Nat->V->Prop)(p:Nat->Bool)(g:Nat->PyData)(hf:∀i,dG (g i)=true)(hz:n<=100000)
  (hg:∀i H',bC H H'->i<n->J.go i H'/\∀x H3,J.yld i H' x H3->H3=H'/\src i x) (hst:∀H',bC H H'->J.stop n H')
  (ht:∀i x H' (Q':Bool->Hp->Prop),src i x->i<n->bC H H'->(∀H5,bC H' H5->Q' (p i) H5)->tc (some x::slots σ js) H' Q')
  (he:∀i x H' (Q':VK),src i x->i<n->p i=true->bC H H'->(∀y H5,bC H' H5->cB H5 (g i) y->Q' y H5)->te (some x::slots σ js) H' Q')
  (hd:∀D ys H',H D=none->H' D=some (.lst ys)->bC H H'->aZ H' (((List.range n).filter p).map g) ys->Q (.ref D) H'):jZ J σ js tc te H Q:=by
 unfold jZ;intro D hD;have w:∀l:List Nat,cV (l.map g)=true:=λl=>by
  induction l with
  | nil=>rfl
  | cons a l ih=>show (dG (g a)&&cV (l.map g))=true;rw [hf a,ih];rfl
 refine ⟨λi m ys H'=>m=n-i/\i<=n/\H' D=some (.lst ys)/\bC H H'/\aZ H' (((List.range i).filter p).map g) ys/\ys.length<=i,⟨n,by simp,bS _,bH,bC.upd hD,aZ.nil,aG _⟩,?_⟩;rintro i m ys H2 ⟨rfl,M,c,d,j,L⟩;refine ⟨c,?_⟩;by_cases hlt:i<n
 ·obtain ⟨o,u⟩:=hg i H2 d hlt;refine .inr ⟨o,bA (m:=100000) Oo Dd,λx H3 s=>?_⟩;obtain ⟨rfl,C⟩:=u x H3 s;refine ⟨λb H4=>b=p i/\bC H3 H4,ht i x H3 _ C hlt d λH5 h=>⟨rfl,h⟩,?_⟩;rintro b H4 ⟨rfl,f⟩;by_cases hp:p i=true
  ·rw [if_pos hp];refine ⟨λy H5=>bC H4 H5/\cB H5 (g i) y,he i x H4 _ C hlt hp (d.trans f) λy H5 h r=>⟨h,r⟩,?_⟩;rintro y H5 ⟨h,I⟩;have A:=(f.trans h) _ _ c;have G:dJ H5 (upd H5 D (.lst (ys++[y]))):=aO.t aO.self A;refine ⟨A,_,Oo,rfl,hlt,bH,bC.thru hD ((d.trans f).trans h) aO.self,?_,by rw [aT,List.length_singleton];omega⟩;rw [List.range_succ,List.filter_append,bR];have z:List.filter p [i]=[i]:=by simp [hp]
   rw [z];exact aZ.snoc ((j.same (f.trans h)).flat G (w _)) (I.flat G (hf i))
  ·rw [if_neg hp];have B:=f _ _ c;refine ⟨B,_,Oo,rfl,hlt,B,d.trans f,?_,Oo⟩;rw [List.range_succ,List.filter_append];have z:List.filter p [i]=[]:=by simp [hp]
   rw [z,List.append_nil];exact j.same f
 ·have e:i=n:=Oo;subst e;exact .inl ⟨hst H2 d,hd D ys H2 hD c d j⟩
end
end L2
namespace Kw
open PySem L2 Mf
abbrev PL:=List (List Nat × Str)
abbrev qL:Str := "on"
abbrev MC:Str := "right"
abbrev CN:Str := "wrong"
def UT(s:Str):Prop:=s=qL\/s=MC\/s=CN
theorem UT.ok{s:Str}(h:UT s):PyData.canLay0 (.str s)=true:=by
 rcases h with rfl | rfl | rfl <;> decide +kernel
abbrev nR(p:List Nat × Str):PyData:=.tuple [gK p.1,.str p.2]
abbrev FY(pl:PL):PyData:=.tuple (pl.map nR)
theorem VZ(p:List Nat × Str):dG (nR p)=true:=by
 show (cV (p.1.map λ(n:Nat)=>PyData.int (n:Int))&&(true&&true))=true;rw [wU];rfl
theorem qX:∀pl:PL,cV (pl.map nR)=true
 | []=>rfl
 | p::pl=>by show (dG (nR p)&&cV (pl.map nR))=true;rw [VZ,qX pl];rfl
theorem vR(pl:PL):dG (FY pl)=true:=qX pl
theorem aAO(a b:List Nat × Str):PyData.eqv (nR a) (nR b)=decide (a=b):=by
 obtain ⟨f,d⟩:=a;obtain ⟨i,c⟩:=b;show (PyData.eqvAll _ _&&(PyData.eqv (.str d) (.str c)&&true))=_;rw [uN];have e:PyData.eqv (.str d) (.str c)=decide (d=c):=by
  show (d == c)=_;by_cases h:d=c <;> simp [h]
 rw [e];by_cases h1:f=i <;> by_cases h2:d=c <;> simp [h1,h2]
theorem RA:∀a b:PL,PyData.eqvAll (a.map nR) (b.map nR)=decide (a=b)
 | [],[]=>by simp [PyData.eqvAll]
 | [],_::_=>by simp [PyData.eqvAll]
 | _::_,[]=>by simp [PyData.eqvAll]
 | x::a,y::b=>by
  rw [aU,aU];show (PyData.eqv (nR x) (nR y)&&PyData.eqvAll _ _)=_;rw [RA a b,aAO];by_cases h:x=y <;> by_cases h':a=b <;> simp [h,h']
theorem HD:∀{a b:PL},a.map nR=b.map nR->a=b
 | [],[],_=>rfl
 | [],_::_,h=>by cases h
 | _::_,[],h=>by cases h
 | (x1,x2)::a,(y1,y2)::b,h=>by
  rw [aU,aU] at h;injection h with h1 h2;injection h1 with h1;injection h1 with h1 h3;injection h1 with h1;injection h3 with h3 _;injection h3 with h3;have h1:x1=y1:=IC h1;have h3:x2=y2:=h3;rw [HD h2,h1,h3]
theorem aAN(p:List Nat × Str)(hw:UT p.2):qC (nR p)=true/\tQ (nR p)<=2/\PyData.canLay0 (nR p)=true/\(nR p).depth<=4:=by
 obtain ⟨b,c,a,d⟩:=BY p.1;refine ⟨?_,?_,?_,?_⟩
 ·show (gR (p.1.map λ(n:Nat)=>PyData.int (n:Int))&&(true&&true))=true;rw [b];rfl
 ·show max (fQ (p.1.map λ(n:Nat)=>PyData.int (n:Int))+1) (max 0 0)+1<=2;omega
 ·show (PyData.canLayAll0 (p.1.map λ(n:Nat)=>PyData.int (n:Int))&&(PyData.canLay0 (.str p.2)&&true))=true;rw [a,hw.ok];rfl
 ·show max (PyData.depthAll (p.1.map λ(n:Nat)=>PyData.int (n:Int))+1) (max (PyData.depth (.str p.2)) 0)+1<=4;have:PyData.depth (.str p.2)<=1:=by simp [PyData.depth]
  omega
theorem vQ:∀pl:PL,(∀p∈pl,UT p.2)->gR (pl.map nR)=true/\fQ (pl.map nR)<=2/\PyData.canLayAll0 (pl.map nR)=true/\PyData.depthAll (pl.map nR)<=4
 | [],_=>⟨rfl,Dd,rfl,bS _⟩
 | p::pl,hw=>by
  obtain ⟨h1,h2,h3,h4⟩:=vQ pl λx c=>hw x (aM _ c);obtain ⟨b,e,a,d⟩:=aAN p (hw p (aR ..));refine ⟨?_,?_,?_,?_⟩
  ·show (qC (nR p)&&gR (pl.map nR))=true;rw [h1,b];rfl
  ·show max (tQ (nR p)) (fQ (pl.map nR))<=2;omega
  ·show (PyData.canLay0 (nR p)&&PyData.canLayAll0 (pl.map nR))=true;rw [h3,a];rfl
  ·show max (PyData.depth (nR p)) (PyData.depthAll (pl.map nR))<=4;omega
def shP:L2.nM where
 S:=λd=>∃pl:PL,d=FY pl/\∀p∈pl,UT p.2
 key:=λd ⟨pl,e,hw⟩=>by subst e;exact (vQ pl hw).1
 deep:=λd ⟨pl,e,hw⟩=>by subst e;show fQ (pl.map nR)+1<=8;have:=(vQ pl hw).2.1;omega
 lay:=λd ⟨pl,e,hw⟩=>by subst e;exact (vQ pl hw).2.2.1
 dep:=λd ⟨pl,e,hw⟩=>by subst e;show PyData.depthAll (pl.map nR)+1<=60;have:=(vQ pl hw).2.2.2;omega
 eq:=λd e ⟨a,ha,_⟩ ⟨b,hb,_⟩=>by
  subst ha hb;show PyData.eqvAll (a.map nR) (b.map nR)=_;rw [RA];by_cases h:a=b
  ·rw [h];simp
  ·rw [bP h,bP λz=>h (by injection z with z;exact HD z)]
def dP(pl:PL):SS:=(pl.map (·.1),pl.map λp=>decide (p.2=qL),pl.any λp=>decide (p.2=CN))
def tU(t:TQ)(c:List Nat):List (Str × Rat):=[(qL,t.s c),(MC,t.r c),(CN,1-(t.s c+t.r c))].filter λp=>decide (p.2≠0)
theorem GM{α:Type}(f:α->Rat)(g:α->Rat):∀l:List α,cI (l.filter λp=>decide (f p≠0)) (λp=>f p*g p)=cI l λp=>f p*g p
 | []=>rfl
 | x::l=>by
  rw [List.filter_cons,cY];by_cases e:f x=0
  ·rw [if_neg (by simp [e]),GM f g l,e];grind
  ·rw [if_pos (by simp [e]),cY,GM f g l]
theorem aAf(t:TQ)(c:List Nat)(g:Str->Rat):cI (tU t c) (λp=>p.2*g p.1)=t.s c*g qL+(t.r c*g MC+(1-(t.s c+t.r c))*g CN):=by
 unfold tU;rw [GM (λp:Str × Rat=>p.2) (λp=>g p.1),cY,cY,cY];show _+(_+(_+(0:Rat)))=_;grind
theorem rT(t:TQ)(c:List Nat):(tU t c).length<=3:=List.length_filter_le _ _
theorem JE{pl:PL}{i:Nat}(hi:i<pl.length)(hon:(dP pl).2.1.getD i false=true)(c:List Nat) :
  dP (pl.set i (c,qL))=((dP pl).1.set i c,(dP pl).2.1,(dP pl).2.2)/\dP (pl.set i (c,MC))=((dP pl).1.set i c,(dP pl).2.1.set i false,(dP pl).2.2)/\dP (pl.set i (c,CN))=((dP pl).1.set i c,(dP pl).2.1.set i false,true):=by
 have f:pl[i].2=qL:=by
  have:(pl.map λp=>decide (p.2=qL)).getD i false=true:=hon;rw [aE,aL,aB hi] at this;exact of_decide_eq_true this
 have a:∀(pl:PL) (i:Nat) (w:Str),(h:i<pl.length)->pl[i].2=qL->((pl.set i (c,w)).any λp=>decide (p.2=CN))=(decide (w=CN) || pl.any λp=>decide (p.2=CN)):=by
  intro pl
  induction pl with
  | nil=>intro i w h;simp at h
  | cons p pl ih =>
   intro i w h d;cases i with
   | zero =>
    have d:p.2=qL:=d;have n:(decide (p.2=CN))=false:=by rw [d];decide
    simp [n]
   | succ i =>
    have:=ih i w (by simpa using h) (by simpa using d);rw [List.set_cons_succ,List.any_cons,this,List.any_cons];cases decide (w=CN) <;> cases decide (p.2=CN) <;> simp
 have b:(dP pl).2.1.set i true=(dP pl).2.1:=by
  refine List.ext_getElem? λj=>?_;by_cases e:i=j
  ·subst e;have l:i<(dP pl).2.1.length:=by show i<(pl.map _).length;rw [aC];exact hi
   rw [List.getElem?_set_self l];rw [aE,aB l] at hon;rw [aB l];have:(dP pl).2.1[i]=true:=hon;rw [this]
  ·rw [List.getElem?_set_ne e]
 refine ⟨?_,?_,?_⟩
 ·unfold dP;rw [List.map_set,List.map_set,a pl i qL hi f];have:(pl.map λp=>decide (p.2=qL)).set i (decide ((c,qL).2=qL))=pl.map λp=>decide (p.2=qL):=b;rw [this]
  rfl
 ·unfold dP;rw [List.map_set,List.map_set,a pl i MC hi f]
  rfl
 ·unfold dP;rw [List.map_set,List.map_set,a pl i CN hi f]
  rfl
theorem IN{t:TQ}{pl:PL}{i:Nat}(hi:i<pl.length)(hon:(dP pl).2.1.getD i false=true)(c:List Nat)(g:SS->Rat):cI (tU t c) (λp=>p.2*g (dP (pl.set i (c,p.1))))=cI (dH t (dP pl) i c) λp=>p.2*g p.1:=by
 rw [aAf t c λw=>g (dP (pl.set i (c,w))),TC];obtain ⟨d,b,a⟩:=JE hi hon c;rw [d,b,a]
theorem GE{t:TQ}{pl:PL}{i:Nat}(hi:i<pl.length)(hon:(dP pl).2.1.getD i false=true)(c:List Nat){p:Str × Rat}(hp:p∈tU t c):(dP (pl.set i (c,p.1)),p.2)∈dH t (dP pl) i c/\p.2≠0/\UT p.1:=by
 obtain ⟨f,d,e⟩:=JE hi hon c;unfold tU at hp;obtain ⟨a,b⟩:=iN.mp hp;refine ⟨?_,of_decide_eq_true b,?_⟩
 ·simp only [bE,List.not_mem_nil,or_false] at a;unfold dH;rcases a with rfl | rfl | rfl
  ·rw [f];simp
  ·rw [d];simp
  ·rw [e];simp
 ·simp only [bE,List.not_mem_nil,or_false] at a;rcases a with rfl | rfl | rfl
  ·exact .inl rfl
  ·exact .inr (.inl rfl)
  ·exact .inr (.inr rfl)
def xI:List HE->List PL
 | []=>[[]]
 | h::hs=>(h.es.map (·.1)).flatMap λc=>[qL,MC,CN].flatMap λw=>(xI hs).map ((c,w) :: ·)
theorem DA:∀hs:List HE,(xI hs).length=NA hs*3^hs.length
 | []=>rfl
 | h::hs=>by
  rw [xI,kH (b:=3*(xI hs).length) λc _=>?_,aC,DA hs]
  ·show h.es.length*(3*(NA hs*3^hs.length))=h.es.length*NA hs*3^(hs.length+1);rw [Nat.pow_succ,Nat.mul_assoc,Nat.mul_comm 3,Nat.mul_assoc (NA hs)]
  ·rw [kH (b:=(xI hs).length) λw _=>aC ..];rfl
theorem CZ:∀{hs:List HE}{pl:PL},pl.length=hs.length->(∀i,i<hs.length->(pl.map (·.1)).getD i []∈(hs.getD i ⟨[],[],[]⟩).es.map (·.1))->(∀p∈pl,UT p.2)->pl∈xI hs
 | [],[],_,_,_=>by simp [xI]
 | [],_::_,h,_,_=>by cases h
 | _::_,[],h,_,_=>by cases h
 | h::hs,(c,w)::pl,hl,hm,hw=>by
  rw [xI];refine List.mem_flatMap.mpr ⟨c,hm 0 (by simp),List.mem_flatMap.mpr ⟨w,?_,List.mem_map_of_mem (CZ (by simpa using hl) (λi hi=>?_) λp hp=>hw p (aM _ hp))⟩⟩
  ·have:UT w:=hw (c,w) (aR ..);rcases this with rfl | rfl | rfl <;> simp
  ·have:=hm (i+1) (by simpa using hi);simpa using this
structure LU(hs:List HE)(ks Ms:List Nat)(pl:PL):Prop where
 so:FZ (dR hs ks Ms) (dP pl)
 wd:∀p∈pl,UT p.2
theorem LU.len{hs:List HE}{ks Ms:List Nat}{pl:PL}(h:LU hs ks Ms pl):pl.length=hs.length:=by
 have:=h.so.lc;rw [eZ] at this;have e:(dP pl).1.length=pl.length:=aC ..;omega
theorem LU.uni{hs:List HE}{ks Ms:List Nat}{pl:PL}(h:LU hs ks Ms pl):pl∈xI hs:=by
 refine CZ h.len (λi a=>?_) h.wd;have:=h.so.k i (by rw [eZ];exact a);rw [iJ a] at this;exact this
def aF:Nat->SS->Rat
 | 0=>aW
 | 1=>aA
 | _=>λ_=>0
def bF:Nat->Rat
 | 2=>1
 | _=>0
def vJ(hs:List HE)(ks Ms:List Nat)(pl:List (List Nat)->Option Int)(j m:Nat)(st:SS):Rat:=nQ ((dR hs ks Ms).map (·.t)) pl (aF j) (bF j) m st
theorem ZV(j:Nat)(st:SS)(N:Nat):Qn N 1 (aF j st):=by
  match j with
  | 0 => show Qn N 1 (aW st); unfold aW; split
         · exact oK N
         · exact Qn.zero _ _
  | 1 => show Qn N 1 (aA st); unfold aA; split
         · exact oK N
         · exact Qn.zero _ _
  | _+2=>exact Qn.zero _ _
theorem ZU(j:Nat)(N:Nat):Qn N 1 (bF j):=by
 match j with
 | 0 | 1=>exact Qn.zero _ _
 | 2=>exact oK N
 | _+3=>exact Qn.zero _ _
theorem aAL{M Ns:Nat}{h:HE}{k:Nat}(t:ZY M Ns h k){f:Nat}(hf:f<h.fs.length):Qn Ns 1 ((mV M h k).t.q f):=by
 show Qn Ns 1 (fM (gS h k) f);have a:f<(gS h k).length:=by rw [t.len];exact hf
 rw [(fT (aB a)).1];exact (t.fn _ (List.getElem_mem a)).q
theorem PN{hs:List HE}{ks Ms Ns:List Nat}{N:Nat}(B:rR hs ks Ms Ns N)(pl:List (List Nat)->Option Int)(j:Nat):∀(m:Nat) (st:SS),FZ (dR hs ks Ms) st->Qn ((N*LC)^m) (13^m) (vJ hs ks Ms pl j m st)
 | 0,st,_=>ZV j st _
 | m+1,st,h=>by
  cases e:gU pl st with
  | none =>
   show Qn _ _ (nQ _ pl (aF j) (bF j) (m+1) st);rw [uV e];exact (ZV j st _).le (Nat.one_le_pow _ _ Dd)
  | some i =>
   have H7:=B.hall.ok;obtain ⟨n,G,I,y⟩:=h.look H7 e;have b:i<hs.length:=by rw [<-eZ hs ks Ms];exact n
   have d:=B.hall.ts i b;rw [B.same i b] at d;have c:=iJ (ks:=ks) (Ms:=Ms) b;show Qn _ _ (nQ _ pl (aF j) (bF j) (m+1) st);rw [uU H7 e,c];have x:(mV (Ms.getD i 0) (hs.getD i ⟨[],[],[]⟩) (ks.getD i 0)).t.F=(hs.getD i ⟨[],[],[]⟩).fs.length:=rfl;have f4:=d.f4;have a:Qn ((N*LC)^(m+1)) (4*(3*13^m)) (iZ (mV (Ms.getD i 0) (hs.getD i ⟨[],[],[]⟩) (ks.getD i 0)).t.F λf=>(mV (Ms.getD i 0) (hs.getD i ⟨[],[],[]⟩) (ks.getD i 0)).t.q f*cI (dH (mV (Ms.getD i 0) (hs.getD i ⟨[],[],[]⟩) (ks.getD i 0)).t st i (cK (st.1.getD i []) f)) λp=>p.2*nQ ((dR hs ks Ms).map (·.t)) pl (aF j) (bF j) m p.1):=by
    rw [x];refine (Qn.sumR (B:=3*13^m) λf u=>?_).le (dM _ f4);obtain ⟨r,J⟩:=y f (by rw [c];exact u);rw [c] at r;have o:cK (st.1.getD i []) f∈(hs.getD i ⟨[],[],[]⟩).es.map (·.1):=r;have A:=pD d o st i;have w:Qn (LC*(N*LC)^m) (3*13^m) (cI (dH (mV (Ms.getD i 0) (hs.getD i ⟨[],[],[]⟩) (ks.getD i 0)).t st i (cK (st.1.getD i []) f)) λp=>p.2*nQ ((dR hs ks Ms).map (·.t)) pl (aF j) (bF j) m p.1):=by
     refine Qn.sumL (B:=13^m) (l:=dH _ _ _ _) λp s=>?_;rcases Classical.em (p.2=0) with z | z
     ·rw [z,Rat.zero_mul];exact Qn.zero _ _
     ·have C:(dR hs ks Ms)[i]?=some _:=aB n;have D:=h.come n (by rw [c];exact r) p (by rw [c];exact s) z (.inr trivial);have:=(A p s).2.mul (PN B pl j m p.1 D);rw [Nat.one_mul] at this;exact this
    have:=(aAL d u).mul w;rw [Nat.one_mul] at this;rw [Nat.pow_succ,Nat.mul_comm ((N*LC)^m),Nat.mul_assoc];exact this
   refine ((ZU j _).add a).le ?_;rw [Nat.pow_succ];have:1<=13^m:=Nat.one_le_pow _ _ Dd;omega
abbrev sQ0:Stmt:=(top 35)
theorem cQ0:cT ["_law_one","_law_other"] ["_law_one","_law_other"] (bJ sQ0):=⟨rfl,rfl,rfl,Kk,rfl,Kk,Kk⟩
abbrev VP:Stmt:=(top 40)
theorem YB:cT ["_law_test","_law_way","_law_counts","_law_says_here","_law_found","_law_k"] ["_law_test","_law_way","_law_counts"] (bJ VP):=⟨rfl,rfl,rfl,Kk,rfl,Kk,Kk⟩
def lU(es:List eE)(c:List Nat):Option (List Fr):=(es.find? λe=>decide (e.1=c)).map (·.2)
theorem JH{H:Hp}{es:List eE}{v:V}(h:cB H (xM es) v):∃a xs,v=.ref a/\H a=some (.tup xs)/\aZ H (es.map xG) xs:=by
 unfold cB at h;exact h
theorem SI{H:Hp}{e:eE}{v:V}(h:cB H (xG e) v):∃a x y,v=.ref a/\H a=some (.tup [x,y])/\cB H (gK e.1) x/\cB H (uH e.2) y:=by
 unfold cB aZ aZ aZ at h;obtain ⟨a,_,rfl,b,x,_,rfl,c,y,_,rfl,d,rfl⟩:=h;exact ⟨a,x,y,rfl,b,c,d⟩
abbrev EnV(H:Hp)(p:List fD × V)(e:eE):Prop:=p.1=kT (ci e.1)/\cB H (uH e.2) p.2
theorem RK{H:Hp}:∀{es:List eE}{xs:List V},aZ H (es.map xG) xs->∃kvs,Paired (LV H) xs kvs/\Paired (EnV H) kvs es
 | [],xs,r=>by
  unfold aZ at r;cases (show xs=[] from r);exact ⟨[],.nil,.nil⟩
 | e::es,xs,r=>by
  rw [aU] at r;unfold aZ at r;obtain ⟨x,xs',rfl,r1,r2⟩:=r;obtain ⟨kvs,h,c⟩:=RK r2;obtain ⟨b,u,v,rfl,d,f,rv⟩:=SI r1;obtain ⟨i,rfl,a⟩:=jX f;exact ⟨(kT (ci e.1),v)::kvs,.cons ⟨b,i,rfl,d,by rw [HK,wW];exact a⟩ h,.cons ⟨rfl,rv⟩ c⟩
theorem KD{H:Hp}:∀{kvs:List (List fD × V)}{es:List eE},Paired (EnV H) kvs es->kvs.map (·.1)=es.map λe=>kT (ci e.1)
 | _,_,.nil=>rfl
 | _,_,.cons h t=>by rw [aU,aU,h.1,KD t]
theorem PH{H:Hp}{c:List Nat}:∀{kvs:List (List fD × V)}{es:List eE},Paired (EnV H) kvs es->(lU es c=none->eT kvs (kT (ci c))=none)/\∀fs,lU es c=some fs->∃v,eT kvs (kT (ci c))=some v/\cB H (uH fs) v
 | _,_,.nil=>⟨λ_=>rfl,λfs h=>by unfold lU at h;cases h⟩
 | p::kvs,e::es,.cons h t=>by
  by_cases he:e.1=c
  ·have e1:eT (p::kvs) (kT (ci c))=some p.2:=fK (by rw [h.1,he]);have a:lU (e::es) c=some e.2:=by unfold lU;rw [List.find?_cons_of_pos (by simpa using he)];rfl
   rw [e1,a];exact ⟨(λh=>by cases h),λfs b=>by cases b;exact ⟨_,rfl,h.2⟩⟩
  ·have e1:eT (p::kvs) (kT (ci c))=eT kvs (kT (ci c)):=fL (by rw [h.1];exact λz=>he (CB (BR z)));have a:lU (e::es) c=lU es c:=by unfold lU;rw [List.find?_cons_of_neg (by simpa using he)]
   rw [e1,a];exact PH t
@[irreducible] def kN(K:PySem.W.Frag):Sp:=λvs H Q _=>∃x y f g,vs=[x,y]/\iO K H f x/\iO K H g y/\eS f/\eS g/\jW 4000 f/\jW 4000 g/\qE H Q (pK f g)
theorem pX{K:PySem.W.Frag}{H:Hp}{Q:VK}{E:XK}{x y:V}{f g:Fr}(h1:iO K H f x)(h2:iO K H g y)(l1:eS f)(l2:eS g)(z1:jW 4000 f)(z2:jW 4000 g)(q:qE H Q (pK f g)):kN K [x,y] H Q E:=by unfold kN;exact ⟨x,y,f,g,rfl,h1,h2,l1,l2,z1,z2,q⟩
section
theorem oQ0(F:lC K "_law_add" "_law_add" sQ0 f fd)(T:nT K mg c)(FQ7:iP eV P w K mg base 1 "_law_low" ["_law_n","_law_d"] oE):fJ P w K mg base eV 2 f fd ["_law_one","_law_other"] (kN K):=by
 refine F.oky cQ0 λr H Q E h=>?_;unfold kN at h;obtain ⟨x,y,f,g,rfl,l,m,j,p,b,a,q⟩:=h;refine ⟨rfl,λn A i s o=>?_⟩;obtain ⟨u,rfl,e⟩:=l;obtain ⟨z,rfl,d⟩:=m;refine ⟨_,(bO (dL (cG FQ7 (o.mono Dd) (aP (cF eP (cF fU (bU bL (aJ 0) aK (λ_ _=>rfl)) (bU bL (aJ 1) aK (λ_ _=>rfl))) (cF fU (bU bL (aJ 1) aK (λ_ _=>rfl)) (bU bL (aJ 0) aK (λ_ _=>rfl)))) (aP (cF fU (bU bL (aJ 0) aK (λ_ _=>rfl)) (bU bL (aJ 1) aK (λ_ _=>rfl))) aI))))),?_⟩;refine ⟨_,rfl,sN e rfl ?_⟩;refine ⟨_,rfl,sN d rfl ?_⟩;refine ⟨_,_,rfl,rfl,xP b.1 a.2,⟨_,rfl,sN d rfl ?_⟩⟩;refine ⟨_,rfl,sN e rfl ?_⟩;refine ⟨_,_,rfl,rfl,xP a.1 b.2,_,_,rfl,rfl,⟨_,rfl,sN e rfl ?_⟩⟩;refine ⟨_,rfl,sN d rfl ?_⟩;refine ⟨_,_,rfl,rfl,xP b.2 a.2,qT (Int.mul_pos j.pos p.pos) (jL (AM b.2 a.2)) ?_⟩;exact q
end
abbrev wsD(p:Str × Rat):PyData:=.tuple [.str p.1,eY (dU p.2)]
theorem uR(p:Str × Rat):dG (wsD p)=true:=by show (true&&(dG (eY (dU p.2))&&true))=true;rw [fN];rfl
@[irreducible] def jD(K:PySem.W.Frag):Sp:=λvs H Q _=>∃(v cv:V) (h:HE) (k M Ns:Nat) (c:List Nat),vs=[v,.int (k:Int),cv]/\cB H (hD h) v/\ZY M Ns h k/\h.ws.length<=64/\c∈h.es.map (·.1)/\cB H (gK c) cv /\
 ∀D ys H',H D=none->H' D=some (.lst ys)->aZ H' ((tU (mV M h k).t c).map wsD) ys->bC H H'->Q (.ref D) H'
theorem qP{K:PySem.W.Frag}{H:Hp}{Q:VK}{E:XK}{v cv:V}{h:HE}{k M Ns:Nat}{c:List Nat}(h1:cB H (hD h) v)(h2:ZY M Ns h k)(hw:h.ws.length<=64)(h3:c∈h.es.map (·.1))(h4:cB H (gK c) cv)
  (q:∀D ys H',H D=none->H' D=some (.lst ys)->aZ H' ((tU (mV M h k).t c).map wsD) ys->bC H H'->Q (.ref D) H'):jD K [v,.int (k:Int),cv] H Q E:=by
 unfold jD;exact ⟨v,cv,h,k,M,Ns,c,rfl,h1,h2,hw,h3,h4,q⟩
abbrev d3(v0 v1 v2:V):List (fD × V):=[(.inr qL,v0),(.inr MC,v1),(.inr CN,v2)]
def HF(fs:List Fr)(k i:Nat):Rat:=iZ i λj=>if j=k then 0 else fM fs (1+j)
theorem sH(fs:List Fr)(k i:Nat):HF fs k (i+1)=HF fs k i+if i=k then 0 else fM fs (1+i):=by unfold HF;rw [gZ]
theorem WS{fs:List Fr}{k W:Nat}(hk:k<W)(h1:iZ (1+W) (λj=>fM fs j)=1):HF fs k W=1-(fM fs 0+fM fs (1+k)):=by
 have a:∀n,n<=W->HF fs k n+(if k<n then fM fs (1+k) else 0)+fM fs 0=iZ (1+n) λj=>fM fs j:=by
  intro n
  induction n with
  | zero =>
   intro _;show (0:Rat)+(if k<0 then _ else 0)+fM fs 0=iZ 1 _;rw [if_neg Oo,gZ,rZ];grind
  | succ n ih =>
   intro b;have:=ih Oo;rw [sH,show 1+(n+1)=(1+n)+1 by omega,gZ,<-this];by_cases e:n=k
   ·subst e;rw [if_pos rfl,if_neg (cA _),if_pos Oo];grind
   ·rw [if_neg e];by_cases e2:k<n
    ·rw [if_pos e2,if_pos Oo];grind
    ·rw [if_neg e2,if_neg Oo];grind
 have:=a W (aG _);rw [if_pos hk,h1] at this;grind
theorem VG{W:Nat}{fs:List Fr}(h:xH (1+W) fs):iZ (1+W) (λj=>fM fs j)=1:=by
 obtain ⟨b,l,r,i,n,rfl⟩:=h.ex;have m:(0:Rat)<(b.sum:Rat):=Rat.intCast_pos.mpr i;have o:(b.map λx=>lw x b.sum).length=1+W:=by rw [aC,l]
 have e:=DI (b.map λx=>lw x b.sum);rw [o] at e;rw [e,List.map_map];have p:b.map (rv ∘ λx=>lw x b.sum)=b.map λ(x:Int)=>(x:Rat)*(1/(b.sum:Rat)):=cO λx _=>by
  show rv (lw x b.sum)=_;rw [vL i,Rat.div_def,Rat.div_def];grind
 have f:∀(d:List Int) (c:Rat),lH (d.map λ(x:Int)=>(x:Rat)*c)=(d.sum:Rat)*c:=λd c=>by
  induction d with
  | nil=>show (0:Rat)=((0:Int):Rat)*c;rw [show ((0:Int):Rat)=0 from rfl];grind
  | cons a d ih=>rw [aU,List.sum_cons,Rat.intCast_add];show _+lH _=_;rw [ih];grind
 rw [p,f,Rat.div_def,Rat.one_mul];exact Rat.mul_inv_cancel _ (Rat.ne_of_gt m)
theorem SE{q:Rat}:(dU q=(0,1))↔q=0:=⟨λh=>by
 have:=congrArg rv h;rw [gD] at this;rw [this];exact oX,λh=>by rw [h];exact iX⟩
theorem MQ{es:List eE}(nd:(es.map (·.1)).Nodup){e:eE}(he:e∈es):lU es e.1=some e.2:=by
 unfold lU;cases h:es.find? λx=>decide (x.1=e.1) with
 | none=>exact absurd (of_decide_eq_true rfl:True) (λ_=>by have:=List.find?_eq_none.mp h e he;simp at this)
 | some x =>
  have b:=List.mem_of_find?_eq_some h;have a:x.1=e.1:=by simpa using List.find?_some h
  rw [sJ nd b he a];rfl
theorem aC6{H:Hp}{p:Addr}{o:Obj}{kvs:List (fD × V)}{x:Str}{v:V}{Q:VK}(e:H p=some (.frz o (.dK kvs)))(hv:eT kvs (.inr x)=some v)(q:Q v H):ZJ (.ref p) (.str x) H Q:=by
 unfold ZJ;exact ⟨p,v,rfl,hv ▸ .inl ⟨kvs,.inr x,.inr ⟨o,e⟩,rfl,rfl⟩,q⟩
theorem yW(f:Fr):SeqAt.shaped (eY f)=true:=rfl
theorem aBz(f g:Fr):PyData.eqv (eY f) (eY g)=decide (f=g):=by
 obtain ⟨a,b⟩:=f;obtain ⟨c,d⟩:=g;show ((a == c)&&((b == d)&&true))=_;by_cases h1:a=c <;> by_cases h2:b=d <;> simp [h1,h2]
section
theorem aD8(F:lC K "_law_settled" "_law_settled" VP f fd)(T:nT K mg c)(FQ0:iP eV P w K mg base 2 "_law_add" ["_law_one","_law_other"] (kN K)):fJ P w K mg base eV 3 f fd ["_law_test","_law_way","_law_counts"] (jD K):=by
 refine F.oky YB λvs H Q E h=>?_;unfold jD at h;obtain ⟨v,cv,h,k,M,Ns,c,rfl,rh,γ,w64,hc,rc,q⟩:=h;refine ⟨rfl,λcdv A outer s L=>?_⟩;obtain ⟨e,he,rfl⟩:=aS.mp hc;obtain ⟨ta,tt,tu,rfl,hta,rtt,rtu⟩:=pR rh;obtain ⟨ra,rxs,rfl,hra,rrx⟩:=JH rtu;obtain ⟨ca,rfl,hca⟩:=jX rc;obtain ⟨kvs,p1,p2⟩:=RK rrx;have Z:=γ.sy e he;have lsy:e.2.length=1+h.ws.length:=by obtain ⟨ns,l,_,_,_,χ⟩:=Z.ex;rw [χ,aC,l]
 have kw:=γ.kw;have few:=γ.few;have ρ:=MQ γ.rl.nd he;obtain ⟨sv,hsv,S⟩:=(PH (c:=e.1) p2).2 _ ρ;refine ⟨_,(aQ (bQ (i:=3) YB.nd rfl (Or.inl rfl) (qJ L.u1 (iA (TK L.units rfl) (by rfl) T.b_dict Kk (aP (bU bL (aJ 0) aK (λ_ _=>rfl)) aI)) (aJ 2)))
  (aQ (bQ (i:=4) YB.nd rfl (Or.inr rfl) (UY (uS gH (bU bL (aJ 3) aK (λ_ _=>rfl)) (uS gH (bU bL (aJ 3) (cF eP aK (aJ 1)) (λ_ _=>rfl)) (uS gH (cW (aP aK (aP aK aI))) UW)))))
  (aQ (fC PassesOwn.never rfl (eN rfl T.b_range (aP (cF HG (gF iK (by rfl) T.b_len Kk (aP (aJ 3) aI)) aK) aI)) (cL (i:=5) YB.nd rfl (Or.inl rfl)) (bO (lJ (eJ JV (aJ 5) (aJ 1) (nomark _)) (bO (AA L.u1 (aJ 4) gH (cG FQ0 (L.mono Dd) (aP (qJ L.u1 (aJ 4) gH) (aP (bU bL (aJ 3) (cF eP aK (aJ 5)) (λ_ _=>rfl)) aI))))) gY)))
  (bO (dL (gQ (eR.of (psc:=bJ VP) (N:=["_law_test","_law_way","_law_counts","_law_says_here","_law_found","_law_k"]) (N':=["_law_word","_law_found"]) (js:=[4]) Kk rfl rfl rfl) (OY (aJ 4)) (λ_ _ _ _=>oT (eJ (RM L.units) (qJ L.u1 (aJ 1) (aJ 0)) (cW (aP aK (aP aK aI))) (nomark _))) (λ_ _ _ _=>(cW (aP (aJ 0) (aP (qJ L.u1 (aJ 1) (aJ 0)) aI)))))))))),?_⟩
 refine ⟨_,rfl,jG hta rfl ?_⟩;refine rdcp hra p1 (by rw [KD p2];exact List.pairwise_map.mpr ((List.pairwise_map.mp γ.rl.nd).imp λh e=>h (CB (BR e)))) (by have:=p2.length;omega) λD H1 hD e1 μ=>⟨_,rfl,?_⟩;refine dgT e1 (by rw [wW];exact μ _ _ hca) hsv ?_;obtain ⟨sa,β,rfl,b,rsx⟩:=nB (S.same μ);have lsx:β.length=1+h.ws.length:=by rw [dN rsx,lsy]
 obtain ⟨m,η⟩:∃m,β[0]?=some m:=⟨_,aB Oo⟩;obtain ⟨d,κ⟩:∃d,β[1+k]?=some d:=⟨_,aB Oo⟩;intro p hp;have δ:=bC.upd (o:=.dK []) hp;have e2:(upd H1 p (.dK [])) p=some (.dK []):=bH;generalize upd H1 p (.dK [])=H2 at δ e2 ⊢;refine ⟨_,rfl,jG (δ _ _ b) (cP (j:=0) η) ?_⟩;refine ⟨_,rfl,_,rfl,_,_,rfl,rfl,jG (δ _ _ b) (by rw [show (1:Int)+(k:Int)=((1+k:Nat):Int) by omega];exact cP κ) ?_⟩;refine lI (by show 2<=64;decide) λO H3 U e3 s3=>⟨s3 _ _ e2,d3 m d (.ref O),rfl,by show 3<=15;decide,?_⟩;have ψ:aO p H3 (upd H3 p (.dK (oM [] (d3 m d (.ref O))))):=aO.self;have e4:(upd H3 p (.dK (oM [] (d3 m d (.ref O))))) p=some (.dK (d3 m d (.ref O))):=by rw [bH];rfl
 generalize upd H3 p (.dK (oM [] (d3 m d (.ref O))))=H4 at ψ e4 ⊢;have Y:H p=none:=μ.free hp;have S4:bC H H4:=bC.thru Y ((μ.trans δ).trans s3) ψ;have q3p:O≠p:=λz=>by rw [z] at U;rw [e2] at U;cases U
 have ο:=ψ.at (λz=>by rw [z,hp] at b;cases b) ((δ.trans s3) _ _ b);have J:H sa=some (.tup β):=by
  obtain ⟨sa',sx',ν,I,_⟩:=nB S;cases ν;have:=μ _ _ I;rw [b] at this;injection this with this;injection this with this;rw [this];exact I
 have υ:∀j,j<1+h.ws.length->∃x,β[j]?=some x/\(∀H',bC H H'->cB H' (eY (dU (fM e.2 j))) x)/\Qn LC 1 (fM e.2 j)/\jW 4000 (dU (fM e.2 j)):=λj hj=>by
  have φ:=aB (l:=e.2) (i:=j) Oo;obtain ⟨sa',sx',ν,I,r'⟩:=nB S;cases ν;rw [J] at I;injection I with I;injection I with I;subst I;obtain ⟨x,ξ,rx⟩:=dY r' φ;obtain ⟨fn,_,n0,d0⟩:=Z.fn _ (aV φ);have χ:dU (fM e.2 j)=e.2[j]'Oo:=by rw [(fT φ).1];exact BV fn.low
  refine ⟨x,ξ,λH' α=>by rw [χ];exact rx.same α,by rw [(fT φ).1];exact fn.q,?_⟩;rw [χ];have z10:jW 10 (e.2[j]'Oo):=⟨bA n0 Dd,bA d0 Dd⟩;exact z10.up Dd
 have oq:∀i,i<=h.ws.length->Qn LC i (HF e.2 k i):=λi C=>by
  have:=Qn.sumR (n:=i) (N:=LC) (B:=1) (f:=λj=>if j=k then 0 else fM e.2 (1+j)) λj hj=>by
   show Qn LC 1 (if j=k then 0 else fM e.2 (1+j));split
   ·exact Qn.zero _ _
   ·obtain ⟨_,_,_,a,_⟩:=υ (1+j) Oo;exact a
  rwa [Nat.mul_one] at this
 refine ⟨_,rfl,VR ο ?_⟩;refine ⟨_,_,rfl,rfl,⟨_,rfl,Oo,Oo,?_⟩⟩;rw [show ((β.length:Int)-1).toNat=h.ws.length by omega];refine hU (λi σ H'=>∃(o5:Option V) (G:V),σ=[some (.ref ta),some (.int (k:Int)),some (.ref ca),some (.ref sa),some (.ref p),o5]/\bC H H'/\H' p=some (.dK (d3 m d G))/\cB H' (eY (dU (HF e.2 k i))) G) ⟨_,_,rfl,S4,e4,?_⟩ ?_ ?_
 ·show cB H4 (eY (dU 0)) (.ref O);rw [iX];exact eU (ψ.at q3p e3)
 ·rintro i σ H5 C ⟨o5,G,rfl,S5,X,ζ⟩;have e0:(0:Int)+(i:Nat)=(i:Int):=Oo;refine ⟨_,rfl,_,rfl,rfl,?_⟩;rw [e0];refine ⟨_,rfl,?_⟩;rw [uL];by_cases ik:i=k
  ·rw [show (!(((i:Nat):Int) == (k:Int)))=false by rw [ik];simp];refine nI ⟨_,G,rfl,S5,X,?_⟩;rw [sH,if_pos ik,Rat.add_zero];exact ζ
  ·rw [show (!(((i:Nat):Int) == (k:Int)))=true by rw [Bool.not_eq_true',beq_eq_false_iff_ne];omega];refine oO ?_;obtain ⟨xi,hxi,rxi,qxi,zxi⟩:=υ (1+i) Oo;refine ⟨_,rfl,dgS X rfl ?_⟩;refine ⟨_,rfl,_,rfl,_,_,rfl,rfl,jG (S5 _ _ J) (by rw [show (1:Int)+((i:Nat):Int)=((1+i:Nat):Int) by omega];exact cP hxi) ?_⟩;refine pX (iO.of ζ) (iO.of (rxi H5 S5)) (cJ _) (cJ _) (iR ((oq i Oo).le (show i<=2^200 from aY (show i<=64 by omega) Kk)) Dd Kk (aG _)) zxi λq6 H6 hq6 R s6=>?_;rw [CJ] at R;refine ⟨_,rfl,?_⟩;refine dpS (s6 _ _ X) (by show 3<=64;decide) rfl λH7 e7 b7=>⟨_,_,rfl,bC.thru Y (S5.trans s6) b7,e7,?_⟩;rw [sH,if_neg ik];exact (eU R).flat (b7.tD (s6 _ _ X)) (fN _)
 ·rintro σ H5 ⟨o5,G,rfl,S5,X,ζ⟩;rw [WS kw (VG Z)] at ζ;have θ:=AW γ.rl.nd he;have ts:(mV M h k).t.s e.1=fM e.2 0:=by show fM (uI h.es e.1) 0=_;rw [θ]
  have tr:(mV M h k).t.r e.1=fM e.2 (1+k):=by show fM (uI h.es e.1) (1+k)=_;rw [θ]
  obtain ⟨x0,ι,rx0,_⟩:=υ 0 Oo;obtain ⟨x1,τ,rx1,_⟩:=υ (1+k) Oo;rw [η] at ι;cases ι;rw [κ] at τ;cases τ;refine ⟨_,rfl,?_⟩;refine rkf X λo H6 R b6=>?_;have S6:bC H H6:=bC.thru Y S5 b6
  let ww:Nat->Str × Rat:=λi=>[(qL,(mV M h k).t.s e.1),(MC,(mV M h k).t.r e.1),(CN,1-((mV M h k).t.s e.1+(mV M h k).t.r e.1))].getD i (qL,0)
  have u:∀i,i<3->∃x,(d3 m d G)[i]?=some (.inr (ww i).1,x)/\eT (d3 m d G) (.inr (ww i).1)=some x/\cB H6 (eY (dU (ww i).2)) x:=λi C=>by
   rcases (show i=0\/i=1\/i=2 by omega) with rfl | rfl | rfl
   ·exact ⟨m,rfl,rfl,by show cB H6 (eY (dU ((mV M h k).t.s e.1))) m;rw [ts];exact rx0 H6 S6⟩
   ·exact ⟨d,rfl,rfl,by show cB H6 (eY (dU ((mV M h k).t.r e.1))) d;rw [tr];exact rx1 H6 S6⟩
   ·exact ⟨G,rfl,rfl,by show cB H6 (eY (dU (1-((mV M h k).t.s e.1+(mV M h k).t.r e.1)))) G;rw [ts,tr];exact ζ.flat (b6.tD X) (fN _)⟩
  refine rH (n:=3) (λi x=>x=.str (ww i).1) (λi=>decide ((ww i).2≠0)) (λi=>wsD (ww i)) (λi=>uR _) Dd (λi H' s C=>⟨⟨s _ _ R,C⟩,λx H3 y=>?_⟩) (λH' s=>⟨s _ _ R,aG _⟩) (λi x H' Q' ξ C α k'=>?_) (λi x H' Q' ξ C W α k'=>?_) (λD7 ys H7 hD7 e7 s7 r7=>?_)
  ·obtain ⟨ν,p',W,rfl⟩:=y;obtain ⟨x,ω,_⟩:=u i C;rw [ω] at W;cases W;exact ⟨ν,rfl⟩
  ·subst ξ;obtain ⟨x,ω,h2,h3⟩:=u i C;refine ⟨_,rfl,_,rfl,aC6 (α _ _ R) h2 ?_⟩;refine lI (by show 2<=64;decide) λq8 H8 hq8 e8 ε=>reD ((h3.same α).same ε) (eU (f:=(0,1)) e8) (yW _) (yW _) ?_;refine ⟨_,rfl,?_⟩;have:(false == PyData.eqv (eY (dU (ww i).2)) (eY (0,1)))=decide ((ww i).2≠0):=by
    rw [aBz];by_cases z:(ww i).2=0
    ·rw [SE.mpr z];simp [z]
    ·have:¬dU (ww i).2=(0,1):=λy=>z (SE.mp y);simp [this,z]
   rw [this];exact k' H8 ε
  ·subst ξ;obtain ⟨x,ω,h2,h3⟩:=u i C;refine ⟨_,rfl,_,rfl,_,rfl,aC6 (α _ _ R) h2 ?_⟩;exact lI (by show 2<=64;decide) λq8 H8 hq8 e8 ε=>k' _ H8 ε (cB.tup e8 (aZ.cons (cB.str _) (aZ.cons ((h3.same α).same ε) aZ.nil)))
  ·refine q D7 ys H7 (S6.free hD7) e7 ?_ (S6.trans s7);have:((List.range 3).filter λi=>decide ((ww i).2≠0)).map (λi=>wsD (ww i))=(tU (mV M h k).t e.1).map wsD:=by
    have h0:tU (mV M h k).t e.1=(([0,1,2].map ww).filter λp=>decide (p.2≠0)):=rfl;rw [h0,List.filter_map,List.map_map];rfl
   rw [this] at r7;exact r7
end
abbrev QL:Stmt:=(top 41)
theorem aBK:cT ["_law_plan_here","_law_place","_law_on","_law_told"] ["_law_plan_here","_law_place"] (bJ QL):=⟨rfl,rfl,rfl,Kk,rfl,Kk,Kk⟩
def WY(pl:List (List Nat)->Option Int)(st:SS):V:=if cS st.2.1=[] then .non else match gU pl st with | none=>.int (-1) | some i=>.int (i:Int)
@[irreducible] def qS(P:Program)(w:World):Sp:=λvs H Q _=>∃(a:Addr) (v:V) (p:PL) (pl:List (List Nat)->Option Int),vs=[.ref a,v]/\rP P w H a pl/\cB H (FY p) v/\p.length<=3/\∀H',bC H H'->Q (WY pl (dP p)) H'
theorem ML{P:Program}{w:World}{H:Hp}{Q:VK}{E:XK}{a:Addr}{v:V}{p:PL}{pl:List (List Nat)->Option Int}(h1:rP P w H a pl)(h2:cB H (FY p) v)(h3:p.length<=3)(k:∀H',bC H H'->Q (WY pl (dP p)) H'):qS P w [.ref a,v] H Q E:=by
 unfold qS;exact ⟨a,v,p,pl,rfl,h1,h2,h3,k⟩
theorem JR{H:Hp}{p:List Nat × Str}{v:V}(h:cB H (nR p) v):∃a ca,v=.ref a/\H a=some (.tup [.ref ca,.str p.2])/\H ca=some (.tup (p.1.map mB)):=by
 unfold cB aZ aZ aZ at h;obtain ⟨a,_,rfl,d,x,_,rfl,e,y,_,rfl,b,rfl⟩:=h;obtain ⟨ca,rfl,c⟩:=jX e;have b:y=V.str p.2:=by unfold cB at b;exact b
 subst b;exact ⟨a,ca,rfl,d,c⟩
theorem DS(p:PL):(List.range p.length).filter (λi=>decide ((p.map (·.2)).getD i MC=qL))=cS (dP p).2.1:=by
 unfold cS;have e:(dP p).2.1.length=p.length:=aC ..;rw [e];refine List.filter_congr λi a=>?_;have a:=cM.mp a;show _=(p.map λq=>decide (q.2=qL)).getD i false;rw [aE,aE,aL,aL,aB a];rfl
theorem tO:∀l:List Nat,SeqAt.shaped (.list (l.map λ(i:Nat)=>PyData.int (i:Int)))=true:=λl=>by
 unfold SeqAt.shaped;obtain ⟨c,b,a,d⟩:=BY l;rw [show PyData.canLay0 (.list (l.map λ(i:Nat)=>PyData.int (i:Int)))=true from a,Bool.true_and];refine bY ?_;show PyData.depthAll (l.map λ(n:Nat)=>PyData.int (n:Int))+1<=64;omega
section
theorem aEc(F:lC K "_law_next" "_law_next" QL f fd)(T:nT K mg c):fJ P w K mg base eV 1 f fd ["_law_plan_here","_law_place"] (qS P w):=by
 refine F.oky aBK λvs H Q E h=>?_;unfold qS at h;obtain ⟨a,v,p,pl,rfl,ρ,rv,l3,k⟩:=h;refine ⟨rfl,λcdv A γ s υ=>?_⟩;obtain ⟨va,xs,rfl,C,D⟩:=dX rv;have lx:xs.length=p.length:=dN D;have η:∀i,i<p.length->∃b I,xs[i]?=some (.ref b)/\H b=some (.tup [.ref I,.str ((p.map (·.2)).getD i MC)]):=λi u=>by
  have B:=aB (l:=p) u;obtain ⟨x,X,Y⟩:=dY D B;obtain ⟨b,I,rfl,ε,ν⟩:=JR Y;refine ⟨b,I,X,?_⟩;rw [aE,aL,B];exact ε
 refine ⟨_,(aQ (GD (i:=2) (eR.of (psc:=bJ QL) (N:=["_law_plan_here","_law_place","_law_on","_law_told"]) (N':=["_law_k","_law_place"]) (js:=[1]) Kk rfl rfl rfl) aBK.nd rfl rfl (eN rfl T.b_range (aP (gF iK (by rfl) T.b_len Kk (aP (aJ 1) aI)) aI)) (λ_ _ _ _=>oT (eJ vT (bU (gI K) (bU (gI K) (aJ 1) (aJ 0) (λ_ _=>rfl)) aK (λ_ _=>rfl)) gH (nomark _))) (λ_ _ _ _=>(aJ 0)))
  (aQ (lJ (eJ (aBd υ.units) (aJ 2) (eK aI) (nomark _)) (bO (dL uT)) gY)
  (aQ (bQ (i:=3) aBK.nd rfl (Or.inl rfl) (CT P w υ.units (aJ 0) (iA dI (by rfl) T.b_tuple Kk (aP (jC (eI.of (psc:=bJ QL) (N:=["_law_plan_here","_law_place","_law_on","_law_told"]) (xs:=["_law_counts","_law_word"]) (N':=["_law_counts","_law_word"]) (js:=[]) Kk rfl rfl rfl) (nX (aJ 1)) (λ_ _ _ _=>fB) (λ_ _ _ _=>(aJ 0))) aI)) (CS uX aK)))
  (bO (dL (CU (MA (OV (eJ vT (aJ 3) (CS uX aK) (nomark _)) (GB (eJ sI (aJ 3) (aJ 2) (by with_unfolding_all rfl))))) (aJ 3) (bU bL (aJ 2) aK (λ_ _=>rfl)))))))),?_⟩
 refine ⟨_,rfl,VR C ?_⟩;refine ⟨_,rfl,Oo,Oo,?_⟩;rw [show ((xs.length:Nat):Int).toNat=p.length by omega];refine rH (n:=p.length) (λi x=>x=.int (i:Int)) (λi=>decide ((p.map (·.2)).getD i MC=qL)) (λi=>.int (i:Int)) (λi=>rfl) Oo (λi H' s u=>⟨u,λx H3 y=>?_⟩) (λH' s=>aG _) (λi x H' Q' B u G R=>?_) (λi x H' Q' B u hp' G R=>?_) (λD1 ys H1 ω ο s1 α=>?_)
 ·obtain ⟨β,θ⟩:=y;exact ⟨β,by rw [θ,Int.zero_add]⟩
 ·subst B;obtain ⟨b,I,X,Y⟩:=η i u;refine ⟨_,rfl,_,rfl,jG (G _ _ C) (cP X) ?_⟩;refine jG (G _ _ Y) rfl ⟨rfl,_,rfl,?_⟩;have:decide (V.str ((p.map (·.2)).getD i MC)=V.str qL)=decide ((p.map (·.2)).getD i MC=qL):=decide_eq_decide.mpr ⟨λh=>by injection h,λh=>by rw [h]⟩;rw [this];exact R H' (bC.refl _)
 ·subst B;exact ⟨_,rfl,R _ H' (bC.refl _) (cB.int _)⟩
 rw [DS p] at α;have ey:ys=(cS (dP p).2.1).map mB:=tE α;subst ey;refine ⟨_,rfl,?_⟩;refine qF (by show 0<=64;decide) λL2' H2 χ e2 U=>?_;have S2:=s1.trans U;refine reD (cB.lst (U _ _ ο) (α.same U)) (cB.lst e2 aZ.nil) (tO _) (tO []) ⟨_,rfl,?_⟩;have ψ:(true == PyData.eqv (.list ((cS (dP p).2.1).map λ(i:Nat)=>PyData.int (i:Int))) (.list []))=decide (cS (dP p).2.1=[]):=by
  show (true == PyData.eqvAll ((cS (dP p).2.1).map λ(i:Nat)=>PyData.int (i:Int)) (([]:List Nat).map λ(i:Nat)=>PyData.int (i:Int)))=_;rw [uN];cases decide (cS (dP p).2.1=[]) <;> rfl
 rw [ψ];have M:=λH' G=>k H' G;unfold WY at M;by_cases hn:cS (dP p).2.1=[]
 ·rw [bY hn];rw [if_pos hn] at M;exact oO (M H2 S2)
 ·rw [bP hn];rw [if_neg hn] at M;refine nI ?_;obtain ⟨kvs,μ,Z⟩:=ρ.ex;refine ⟨_,rfl,rn0 (μ.same S2) ?_⟩;refine ⟨_,rfl,va,rfl,⟨_,fO.of (S2 _ _ C)⟩,sU (as:=p) (λ_=>true) (λq v=>cB H2 (nR q) v) (λq v H'=>cB H' (gK q.1) v) (λq v H1 H2 s r=>r.flat s (fV _)) Oo (S2 _ _ C) (Paired.ofRepL (D.same S2)) (λv q H' hq rq G=>?_) (λD3 J H3 hD3 e3 φ ξ=>?_)⟩
  ·obtain ⟨b,I,rfl,ε,ν⟩:=JR (rq.same G);refine ⟨b,[.ref I,.str q.2],rfl,fO.of ε,rfl,λQ' h=>h H' (bC.refl _),λH5 Q' s5 ρ R=>?_⟩;exact ⟨_,rfl,R _ H5 (bC.refl _) (lZ (s5 _ _ ν))⟩
  ·rw [kW] at ξ;have r3:aZ H3 ((p.map (·.1)).map gK) J:=by
    rw [List.map_map];exact (Paired.toRepL ξ)
   refine ⟨D3,_,rfl,.inl ⟨fR.of e3,λκ ζ=>?_⟩⟩;have W:=bC.upd (o:=.tup J) ζ;have τ:(upd H3 κ (.tup J)) κ=some (.tup J):=bH;generalize upd H3 κ (.tup J)=H4 at W τ ⊢;have S4:=(S2.trans φ).trans W;refine ⟨_,rfl,aAK (μ.same S4) (cB.tup τ (r3.same W)) ⟨(dP p).1,rfl⟩ ?_⟩;rw [show (PyData.tuple ((p.map (·.1)).map gK))=nS (dP p).1 from rfl,Z];have d:=M H4 S4;unfold gU at d;have L:=((U.trans φ).trans W) _ _ ο;have δ:∀t:Int,HN (V.int t) ((cS (dP p).2.1).map mB)=decide (t∈(cS (dP p).2.1).map (λ(i:Nat)=>(i:Int))):=λt=>by
    rw [Bool.eq_iff_iff,decide_eq_true_iff];unfold HN;rw [List.any_eq_true];constructor
    ·rintro ⟨x,B,e⟩;obtain ⟨i,u,rfl⟩:=aS.mp B;refine aS.mpr ⟨i,u,?_⟩;have:((i:Int) == t)=true:=e;simpa using this
    ·intro h;obtain ⟨i,u,e⟩:=aS.mp h;refine ⟨mB i,List.mem_map_of_mem u,?_⟩;show ((i:Int) == t)=true;simpa using e
   have fl:((cS (dP p).2.1).map mB).all nP=true:=List.all_eq_true.mpr λx B=>by
    obtain ⟨i,_,rfl⟩:=aS.mp B
    rfl
   obtain ⟨j0,S,O⟩:∃j,(cS (dP p).2.1).head?=some j/\CP ((cS (dP p).2.1).map mB) 0=some (mB j):=by
    cases e:cS (dP p).2.1 with
    | nil=>exact absurd e hn
    | cons j r=>exact ⟨j,rfl,cP (j:=0) rfl⟩
   have et:(Option.map V.int (pl (dP p).1)).getD (V.int (-2))=V.int ((pl (dP p).1).getD (-2)):=by cases pl (dP p).1 <;> rfl
   show mO 3 ((Option.map V.int (pl (dP p).1)).getD (V.int (-2))) _ H4 _;rw [et];obtain ⟨z,m⟩:∃z,z=(pl (dP p).1).getD (-2):=⟨_,rfl⟩;rw [<-m];refine ⟨_,rfl,_,rfl,rfl,⟨_,rfl,?_⟩⟩;rw [uL];by_cases z1:z=-1
   ·rw [show (z == (-1:Int))=true by rw [z1];rfl];refine oO (oO ⟨_,rfl,?_⟩);have ι:pl (dP p).1=some (-1):=by
     cases e:pl (dP p).1 with
     | none=>rw [e] at m;rw [m] at z1;exact absurd z1 Dd
     | some t=>rw [e] at m;have:z=t:=m;rw [<-this,z1]
    rw [if_pos (.inr ι)] at d;rw [z1];exact d
   ·rw [show (z == (-1:Int))=false from beq_eq_false_iff_ne.mpr z1];refine nI ⟨_,rfl,_,rfl,D1,_,rfl,.inl (fR.of L),rfl,fl,_,rfl,?_⟩;simp only [Bool.false_eq_true,if_false,δ];have ι:¬(cS (dP p).2.1=[]\/pl (dP p).1=some (-1)):=λh=>by
     rcases h with h | h
     ·exact hn h
     ·rw [h] at m;exact z1 m
    rw [if_neg ι] at d;by_cases hm:z∈(cS (dP p).2.1).map (λ(i:Nat)=>(i:Int))
    ·rw [bY hm];refine oO ⟨_,rfl,?_⟩;cases e:pl (dP p).1 with
     | none =>
      rw [e] at m;obtain ⟨i,_,u⟩:=aS.mp hm;have:z=-2:=m;omega
     | some t =>
      rw [e] at m d;have m:z=t:=m;subst m;dsimp only at d;rw [if_pos hm] at d;obtain ⟨i,_,rfl⟩:=aS.mp hm;exact d
    ·rw [bP hm];refine nI ⟨_,rfl,mK L O ?_⟩;cases e:pl (dP p).1 with
     | none =>
      rw [e] at d;dsimp only at d;rw [S] at d;exact d
     | some t =>
      rw [e] at m d;have m:z=t:=m;subst m;dsimp only at d;rw [if_neg hm,S] at d;exact d
end
abbrev sQ5:Stmt:=(top 42)
theorem CO:cT ["_law_case","_law_place","_law_known","_law_hall_here","_law_choice","_law_plan_here","_law_some","_law_k","_law_found","_law_trial_here","_law_rule_here","_law_face","_law_counts","_law_word","_law_share","_law_part","_law_told"] ["_law_case","_law_place","_law_known"] (bJ sQ5):=⟨rfl,rfl,rfl,Kk,rfl,Kk,Kk⟩
structure xE(P:Program)(w:World)(H:Hp)(a pa:Addr)(hs:List HE)(ks:List Nat)(pl:List (List Nat)->Option Int):Prop where
 ex:∃x ca,H a=some (.tup [x,.ref ca,.ref pa])/\cB H (ON hs) x/\H ca=some (.tup (ks.map mB))/\rP P w H pa pl
theorem rP.keep{P:Program}{w:World}{H H':Hp}{a b:Addr}{pl:List (List Nat)->Option Int}(h:rP P w H a pl)(t:dJ H H')(s:aO b H H')(n:a≠b):rP P w H' a pl:=by
 obtain ⟨c,f,d⟩:=h.ex;exact ⟨c,f.keep t λi e=>s.at n e,d⟩
theorem xE.keep{P:Program}{w:World}{H H':Hp}{a pa b:Addr}{hs:List HE}{ks:List Nat}{pl:List (List Nat)->Option Int}(h:xE P w H a pa hs ks pl)(t:dJ H H')(s:aO b H H')(n:pa≠b):xE P w H' a pa hs ks pl:=by
 obtain ⟨x,c,f,d,e,i⟩:=h.ex;exact ⟨x,c,t _ _ f,d.flat t (wK _),t _ _ e,i.keep t s n⟩
theorem xE.same{P:Program}{w:World}{H H':Hp}{a pa:Addr}{hs:List HE}{ks:List Nat}{pl:List (List Nat)->Option Int}(h:xE P w H a pa hs ks pl)(s:bC H H'):xE P w H' a pa hs ks pl:=by
 obtain ⟨x,b,e,c,d,f⟩:=h.ex;exact ⟨x,b,s _ _ e,c.same s,s _ _ d,f.same s⟩
abbrev PY(g:Nat->Rat):PyData:=.tuple [eY (dU (g 0)),eY (dU (g 1)),eY (dU (g 2))]
theorem AL(g:Nat->Rat):dG (PY g)=true:=rfl
structure nN(P:Program)(w:World)(H:Hp)(a:Addr)(hs:List HE)(ks Ms:List Nat)(pl:List (List Nat)->Option Int):Prop where
 ex:∃l:List (PyData × V),dZ P w shP H a l/\(l.map (·.1)).Nodup/\∀q∈l,∃p:PL,q.1=FY p/\LU hs ks Ms p/\cB H (PY λj=>vJ hs ks Ms pl j (9-jP (dP p).1) (dP p)) q.2
theorem nN.keep{P:Program}{w:World}{H H':Hp}{a:Addr}{hs:List HE}{ks Ms:List Nat}{pl:List (List Nat)->Option Int}(h:nN P w H a hs ks Ms pl)(t:dJ H H')(k:∀o,H a=some o->H' a=some o):nN P w H' a hs ks Ms pl:=by
 obtain ⟨l,i,c,d⟩:=h.ex;refine ⟨l,i.keep t λn e=>k _ e,c,λq m=>?_⟩;obtain ⟨p,j,b,f⟩:=d q m;exact ⟨p,j,b,f.flat t (AL _)⟩
theorem nN.same{P:Program}{w:World}{H H':Hp}{a:Addr}{hs:List HE}{ks Ms:List Nat}{pl:List (List Nat)->Option Int}(h:nN P w H a hs ks Ms pl)(s:bC H H'):nN P w H' a hs ks Ms pl:=h.keep s.t λo e=>s _ _ e
theorem nN.t{P:Program}{w:World}{H H':Hp}{a:Addr}{hs:List HE}{ks Ms:List Nat}{pl:List (List Nat)->Option Int}(h:nN P w H a hs ks Ms pl)(s:aO a H H'):dJ H H':=by
 obtain ⟨l,b,_⟩:=h.ex;exact b.t s
theorem nN.neL{P:Program}{w:World}{H:Hp}{a b:Addr}{hs:List HE}{ks Ms:List Nat}{pl:List (List Nat)->Option Int}{xs:List V}(h:nN P w H a hs ks Ms pl)(hb:H b=some (.lst xs)):b≠a:=by
 obtain ⟨l,c,_⟩:=h.ex;exact c.neL hb
theorem MY{κ:Type}[DecidableEq κ](l:List (κ × V))(k:κ)(v:V):(fP l k v).map (·.1)=if k∈l.map (·.1) then l.map (·.1) else l.map (·.1)++[k]:=by
 unfold fP;by_cases h:(l.any λc=>decide (c.1=k))=true
 ·rw [if_pos h];have a:k∈l.map (·.1):=by
   obtain ⟨x,b,e⟩:=List.any_eq_true.mp h;exact aS.mpr ⟨x,b,of_decide_eq_true e⟩
  rw [if_pos a,List.map_map];refine cO λp _=>?_;show (if p.1=k then (p.1,v) else p).1=p.1;split <;> rfl
 ·rw [if_neg h];have a:¬k∈l.map (·.1):=λz=>h (by
   obtain ⟨x,b,e⟩:=aS.mp z;exact List.any_eq_true.mpr ⟨x,b,bY e⟩)
  rw [if_neg a,bR];rfl
theorem JS{κ:Type}[DecidableEq κ]{l:List (κ × V)}(h:(l.map (·.1)).Nodup)(k:κ)(v:V):((fP l k v).map (·.1)).Nodup:=by
 rw [MY];split
 ·exact h
 ·rename_i n
  rw [List.nodup_append];refine ⟨h,by simp,λa d b c e=>?_⟩;rw [bT.mp c] at e;exact n (e ▸ d)
theorem EA{κ:Type}[DecidableEq κ]{l:List (κ × V)}{k:κ}{v:V}{q:κ × V}(h:q∈fP l k v):q∈l\/q=(k,v):=by
 unfold fP at h;split at h
 ·obtain ⟨p,a,rfl⟩:=aS.mp h;by_cases e:p.1=k
  ·rw [if_pos e,e];exact .inr rfl
  ·rw [if_neg e];exact .inl a
 ·rcases dC.mp h with h | h
  ·exact .inl h
  ·exact .inr (bT.mp h)
theorem yO:∀{l m:List PyData},l.Nodup->(∀x∈l,x∈m)->l.length<=m.length
 | [],m,_,_=>bS _
 | a::l,m,nd,h=>by
  rw [List.nodup_cons] at nd;have ha:=h a (aR ..);have:=yO (m:=m.erase a) nd.2 λx b=>(List.mem_erase_of_ne (show x≠a from λz=>nd.1 (z ▸ b))).mpr (h x (aM _ b));rw [List.length_erase_of_mem ha] at this;have:=List.length_pos_of_mem ha;rw [bV];omega
theorem aBl{hs:List HE}{ks Ms Ns:List Nat}{N:Nat}(B:rR hs ks Ms Ns N){l:List (PyData × V)}(nd:(l.map (·.1)).Nodup)(h:∀q∈l,∃p:PL,q.1=FY p/\LU hs ks Ms p):l.length<=30000:=by
 have b:=yO (m:=(xI hs).map FY) nd λx d=>by
  obtain ⟨q,f,rfl⟩:=aS.mp d;obtain ⟨p,e,c⟩:=h q f;rw [e];exact List.mem_map_of_mem c.uni
 rw [aC,aC,DA] at b;have n3:=B.hall.n3;have n1:=B.hall.n1;have few:=B.few;have a:3^hs.length<=27:=NB n3;have i:2<=2^hs.length:=by
  have:=bI (show 0<2 by decide) n1;simpa using this
 have e3:NA hs*4<=4000:=aY (fA _ Oo) few;have:=fA (NA hs) a;omega
@[irreducible] def pM(P:Program)(w:World)(K:PySem.W.Frag):Nat->Sp
 | 0=>λ_ _ _ _=>False
 | n+1=>λvs H Q _=>∃(a pa ka:Addr) (v:V) (p:PL) (hs:List HE) (ks Ms Ns:List Nat) (N:Nat) (pl:List (List Nat)->Option Int),vs=[.ref a,v,.ref ka]/\xE P w H a pa hs ks pl/\pa≠ka/\nN P w H ka hs ks Ms pl/\cB H (FY p) v/\LU hs ks Ms p/\rR hs ks Ms Ns N/\(∀h∈hs,h.ws.length<=64)/\jP (dP p).1+n=8 /\
  ∀v' H',aO ka H H'->nN P w H' ka hs ks Ms pl->cB H' (PY λj=>vJ hs ks Ms pl j (n+1) (dP p)) v'->Q v' H'
theorem JF{P:Program}{w:World}{K:PySem.W.Frag}{n:Nat}{H:Hp}{Q:VK}{E:XK}{a pa ka:Addr}{v:V}{p:PL}{hs:List HE}{ks Ms Ns:List Nat}{N:Nat}{pl:List (List Nat)->Option Int}(h1:xE P w H a pa hs ks pl)(h2:pa≠ka)(h3:nN P w H ka hs ks Ms pl)(h4:cB H (FY p) v)(h5:LU hs ks Ms p)(h6:rR hs ks Ms Ns N)(h7:∀h∈hs,h.ws.length<=64)(h8:jP (dP p).1+n=8)
  (k:∀v' H',aO ka H H'->nN P w H' ka hs ks Ms pl->cB H' (PY λj=>vJ hs ks Ms pl j (n+1) (dP p)) v'->Q v' H'):pM P w K (n+1) [.ref a,v,.ref ka] H Q E:=by
 unfold pM;exact ⟨a,pa,ka,v,p,hs,ks,Ms,Ns,N,pl,rfl,h1,h2,h3,h4,h5,h6,h7,h8,k⟩
theorem PJ{l:List (PyData × V)}{k:PyData}{v:V}(h:eT l k=some v):(k,v)∈l:=by
 unfold eT at h;obtain ⟨x,a,rfl⟩:=Option.map_eq_some_iff.mp h;have c:=List.mem_of_find?_eq_some a;have b:x.1=k:=by simpa using List.find?_some a
 rw [<-b];exact c
theorem aCS(p:PL):HN (V.str CN) (p.map λq=>V.str q.2)=(dP p).2.2:=by
 unfold HN dP;rw [List.any_map];congr 1
def mS(t:TQ)(p:PL)(i:Nat)(v:SS->Rat)(b:Rat)(f u:Nat):Rat:=b+iZ f (λg=>t.q g*cI (tU t (cK ((dP p).1.getD i []) g)) λq=>q.2*v (dP (p.set i (cK ((dP p).1.getD i []) g,q.1))))+t.q f*cI ((tU t (cK ((dP p).1.getD i []) f)).take u) λq=>q.2*v (dP (p.set i (cK ((dP p).1.getD i []) f,q.1)))
theorem xD(t:TQ)(p:PL)(i:Nat)(v:SS->Rat)(b:Rat):mS t p i v b 0 0=b:=by
 unfold mS;rw [rZ,List.take_zero];show b+0+t.q 0*0=b;grind
theorem UF(t:TQ)(p:PL)(i:Nat)(v:SS->Rat)(b:Rat)(f:Nat):mS t p i v b f (tU t (cK ((dP p).1.getD i []) f)).length=mS t p i v b (f+1) 0:=by
 unfold mS;rw [cE,List.take_zero,gZ];show _=_+t.q (f+1)*0;grind
theorem UE(t:TQ)(p:PL)(i:Nat)(v:SS->Rat)(b:Rat)(f u:Nat){q:Str × Rat}(h:(tU t (cK ((dP p).1.getD i []) f))[u]?=some q):mS t p i v b f (u+1)=mS t p i v b f u+q.2*t.q f*v (dP (p.set i (cK ((dP p).1.getD i []) f,q.1))):=by
 unfold mS;rw [fI h,iS,cY];show _+t.q f*(_+(_+0))=_;grind
theorem CK{hs:List HE}{ks Ms Ns:List Nat}{N:Nat}(B:rR hs ks Ms Ns N){pl:List (List Nat)->Option Int}{p:PL}(pk:LU hs ks Ms p){i:Nat}(e:gU pl (dP p)=some i)(j m:Nat) :
  mS ((dR hs ks Ms).getD i eO).t p i (vJ hs ks Ms pl j m) (bF j) ((dR hs ks Ms).getD i eO).t.F 0=vJ hs ks Ms pl j (m+1) (dP p):=by
 obtain ⟨c,a,d,h⟩:=pk.so.look B.hall.ok e;have b:i<p.length:=by rw [pk.len,<-eZ hs ks Ms];exact c
 unfold mS;rw [List.take_zero];show _+_*(0:Rat)=nQ _ pl (aF j) (bF j) (m+1) (dP p);rw [uU B.hall.ok e,pU λg _=>by rw [IN (g:=vJ hs ks Ms pl j m) b a]];show _=bF j+iZ _ λf=>_*cI _ λq:SS × Rat=>q.2*vJ hs ks Ms pl j m q.1;grind
theorem LU.step{hs:List HE}{ks Ms Ns:List Nat}{N:Nat}(B:rR hs ks Ms Ns N){pl:List (List Nat)->Option Int}{p:PL}(pk:LU hs ks Ms p){i:Nat}(e:gU pl (dP p)=some i){f:Nat}(hf:f<((dR hs ks Ms).getD i eO).t.F){q:Str × Rat}(hq:q∈tU ((dR hs ks Ms).getD i eO).t (cK ((dP p).1.getD i []) f)) :
  LU hs ks Ms (p.set i (cK ((dP p).1.getD i []) f,q.1))/\jP (dP (p.set i (cK ((dP p).1.getD i []) f,q.1))).1=jP (dP p).1+1/\Qn LC 1 q.2:=by
 obtain ⟨h,j,w,u⟩:=pk.so.look B.hall.ok e;have a:i<hs.length:=by rw [<-eZ hs ks Ms];exact h
 have m:i<p.length:=by rw [pk.len];exact a
 obtain ⟨d,s⟩:=u f hf;obtain ⟨c,l,o⟩:=GE (t:=((dR hs ks Ms).getD i eO).t) m j (cK ((dP p).1.getD i []) f) hq;have so:=pk.so.come h d _ c l (.inr trivial);refine ⟨⟨so,λx b=>?_⟩,?_,?_⟩
 ·rcases List.mem_or_eq_of_mem_set b with b | b
  ·exact pk.wd x b
  ·rw [b];exact o
 ·have:=LF _ c;rw [show (dP (p.set i (cK ((dP p).1.getD i []) f,q.1))).1=(dP p).1.set i (cK ((dP p).1.getD i []) f) from this,s]
 ·have r:=B.hall.ts i a;have n:=iJ (ks:=ks) (Ms:=Ms) a;rw [n] at d c;exact (pD r d (dP p) i _ c).2
theorem aBQ{hs:List HE}{ks Ms Ns:List Nat}{N:Nat}(B:rR hs ks Ms Ns N){pl:List (List Nat)->Option Int}{p:PL}(pk:LU hs ks Ms p){i:Nat}(e:gU pl (dP p)=some i)(j m:Nat){f u:Nat}(hf:f<((dR hs ks Ms).getD i eO).t.F) :
  Qn ((N*LC)^(m+1)) (13^(m+2)) (mS ((dR hs ks Ms).getD i eO).t p i (vJ hs ks Ms pl j m) (bF j) f u):=by
 obtain ⟨w,J,L,M⟩:=pk.so.look B.hall.ok e;have a:i<hs.length:=by rw [<-eZ hs ks Ms];exact w
 have c:=B.hall.ts i a;rw [B.same i a] at c;have h:=iJ (ks:=ks) (Ms:=Ms) a;have y:((dR hs ks Ms).getD i eO).t.F=(hs.getD i ⟨[],[],[]⟩).fs.length:=by rw [h];rfl
 have f4:=c.f4;have x:(N*LC)^(m+1)=N*(LC*(N*LC)^m):=by rw [Nat.pow_succ,Nat.mul_comm ((N*LC)^m),Nat.mul_assoc]
 have one:∀g,g<((dR hs ks Ms).getD i eO).t.F->∀l:List (Str × Rat),(∀q∈l,q∈tU ((dR hs ks Ms).getD i eO).t (cK ((dP p).1.getD i []) g))->l.length<=3->Qn ((N*LC)^(m+1)) (3*13^m) (((dR hs ks Ms).getD i eO).t.q g*cI l λq=>q.2*vJ hs ks Ms pl j m (dP (p.set i (cK ((dP p).1.getD i []) g,q.1)))):=λg d l C s=>by
  have r:Qn (LC*(N*LC)^m) (l.length*13^m) (cI l λq=>q.2*vJ hs ks Ms pl j m (dP (p.set i (cK ((dP p).1.getD i []) g,q.1)))):=by
   refine Qn.sumL (B:=13^m) λq b=>?_;obtain ⟨z,I,D⟩:=pk.step B e d (C q b);have:=D.mul (PN B pl j m _ z.so)
   rwa [Nat.one_mul] at this
  have G:Qn N 1 (((dR hs ks Ms).getD i eO).t.q g):=by rw [h];exact aAL c (by rw [<-y];exact d)
  have:=G.mul (r.le (dM _ s));rw [Nat.one_mul] at this;rw [x];exact this
 unfold mS;have A:=(Qn.sumR (n:=f) (B:=3*13^m) λg d=>one g Oo _ (λq b=>b) (rT _ _)).le (dM (3*13^m) (show f<=4 by omega));have o:=one f hf ((tU ((dR hs ks Ms).getD i eO).t (cK ((dP p).1.getD i []) f)).take u) (λq b=>List.mem_of_mem_take b) (aY (List.length_take_le' ..) (rT _ _));refine (((ZU j _).add A).add o).le ?_;rw [Nat.pow_succ,Nat.pow_succ];have:1<=13^m:=Nat.one_le_pow _ _ Dd;omega
theorem wL{hs:List HE}{ks Ms Ns:List Nat}{N:Nat}(B:rR hs ks Ms Ns N){m C:Nat}(hm:m<=9)(hC:C<=13^11){x:Rat}(h:Qn ((N*LC)^m) C x):jW 4000 (dU x):=by
 refine iR h (Nat.pow_pos (lG B.n0 Dd)) ?_ (aY hC Kk);refine bA ?_ B.dz;exact aY (bI (lG B.n0 Dd) (show m<=10 by omega)) (Nat.le_mul_of_pos_left _ (qB 3))
def xV(hs:List HE)(ks Ms:List Nat)(pl:List (List Nat)->Option Int)(p:PL)(i n f u:Nat):List PyData:=(List.range 3).map λj=>eY (dU (mS ((dR hs ks Ms).getD i eO).t p i (vJ hs ks Ms pl j n) (bF j) f u))
theorem OG(hs:List HE)(ks Ms:List Nat)(pl:List (List Nat)->Option Int)(p:PL)(i n f u:Nat):cV (xV hs ks Ms pl p i n f u)=true:=rfl
section
theorem zQ5(F:lC K "_law_go" "_law_go" sQ5 f fd)(T:nT K mg c):fJ P w K mg base eV 4 f fd ["_law_case","_law_place","_law_known"] (pM P w K 0):=by
 refine F.okw CO (λd H Q E h=>?_) (λb A a s H d Q E e h=>?_)
 ·unfold pM at h;exact h.elim
 ·unfold pM at h;exact h.elim
inductive LJ1 (P:Program)(w:World)(d:List HE)(ks Ms:List Nat)(pl:List (List Nat)->Option Int)(p:PL)(H:Hp)(a va Y ι γ pa tra:Addr)(tu:V)(i m:Nat):Nat -> St -> Hp->Prop
| mk {f:Nat}{σ:St}{H':Hp}(θ U X D J I G:Option V) (M:Addr) (e:List V)(_:σ=[some (.ref a),some (.ref va),some (.ref Y),some (.ref ι),some (.ref γ),some (.ref pa),θ,some (.int (i:Int)),some (.ref M),some (.ref tra),some tu,U,X,D,J,I,G])(_:aO Y H H')(_:nN P w H' Y d ks Ms pl)(_:H' M=some (.lst e))(_:aZ H' (xV d ks Ms pl p i (m+1) f 0) e):LJ1 P w d ks Ms pl p H a va Y ι γ pa tra tu i m f σ H'
inductive LJ2 (P:Program)(w:World)(d:List HE)(ks Ms:List Nat)(pl:List (List Nat)->Option Int)(p:PL)(H H13:Hp)(a va Y ι γ pa tra:Addr)(tu cv:V)(i m f:Nat):Nat -> St -> Hp->Prop
| mk {u:Nat}{σ:St}{H':Hp}(θ D J I G:Option V) (M:Addr) (e:List V)(_:σ=[some (.ref a),some (.ref va),some (.ref Y),some (.ref ι),some (.ref γ),some (.ref pa),θ,some (.int (i:Int)),some (.ref M),some (.ref tra),some tu,some (.int (f:Int)),some cv,D,J,I,G])(_:aO Y H H')(_:aO Y H13 H')(_:nN P w H' Y d ks Ms pl)(_:H' M=some (.lst e))(_:aZ H' (xV d ks Ms pl p i (m+1) f u) e):LJ2 P w d ks Ms pl p H H13 a va Y ι γ pa tra tu cv i m f u σ H'
theorem oQ5(n:Nat)(F:lC K "_law_go" "_law_go" sQ5 f fd)(T:nT K mg c)(FQ10:iP eV P w K mg base 1 "_law_next" ["_law_plan_here","_law_place"] (qS P w))(FQ8:iP eV P w K mg base 1 "_law_more" ["_law_counts","_law_face"] mH)(FQ14:iP eV P w K mg base 3 "_law_settled" ["_law_test","_law_way","_law_counts"] (jD K))(FQ9:iP eV P w K mg base 2 "_law_mul" ["_law_one","_law_other"] (kF K))(FQ0:iP eV P w K mg base 2 "_law_add" ["_law_one","_law_other"] (kN K))
  (FQ5:iP eV P w K mg base (4+n) "_law_go" ["_law_case","_law_place","_law_known"] (pM P w K n)):fJ P w K mg base eV (4+n+1) f fd ["_law_case","_law_place","_law_known"] (pM P w K (n+1)):=by
 refine F.oky CO λvs H Q E h=>?_;unfold pM at h;obtain ⟨a,pa,Y,v,p,d,ks,Ms,Ns,N,pl,rfl,cs,npk,kn,rvp,Z,B,w64,tn,k⟩:=h;refine ⟨rfl,λcdv A outer s η=>?_⟩;have rv0:=rvp;obtain ⟨va,xs,rfl,α,rxs⟩:=dX rvp;have lx:xs.length=p.length:=dN rxs;have lp:=Z.len;have n3:=B.hall.n3;obtain ⟨l,dn,nd,al⟩:=kn.ex;have hS:shP.S (FY p):=⟨p,rfl,Z.wd⟩;obtain ⟨hx,γ,ha,rhs,hca,hplan⟩:=cs.ex;have rhs0:=rhs;obtain ⟨ι,hvs,rfl,hhxa,rhvs⟩:=dX rhs;refine ⟨_,(aQ (lJ (eJ (aA9 P w η.units) (aJ 1) (aJ 2) (by with_unfolding_all rfl)) (bO (dL (PB P w η.units (aJ 2) (aJ 1)))) gY)
  (aQ (kJ (aJ 0) (hV rfl (cR (cL (i:=3) CO.nd rfl (Or.inl rfl)) (cR (cL (i:=4) CO.nd rfl (Or.inl rfl)) (cR (cL (i:=5) CO.nd rfl (Or.inl rfl)) gC)))))
  (aQ (bQ (i:=6) CO.nd rfl (Or.inl rfl) (cW (aP (iA pE (by rfl) T.b_int Kk (aP (AE (aBb (K:=K)) gH (jC (eI.of (psc:=bJ sQ5) (N:=["_law_case","_law_place","_law_known","_law_hall_here","_law_choice","_law_plan_here","_law_some","_law_k","_law_found","_law_trial_here","_law_rule_here","_law_face","_law_counts","_law_word","_law_share","_law_part","_law_told"]) (xs:=["_law_counts","_law_word"]) (N':=["_law_counts","_law_word"]) (js:=[]) Kk rfl rfl rfl) (nX (aJ 1)) (λ_ _ _ _=>fB) (λ_ _ _ _=>(aJ 1))) (by with_unfolding_all rfl)) aI)) (aP aK aI))))
  (aQ (bQ (i:=7) CO.nd rfl (Or.inl rfl) (cG FQ10 (η.mono Oo) (aP (aJ 5) (aP (aJ 1) aI))))
  (aQ (bQ (i:=8) CO.nd rfl (Or.inr rfl) (eK (aP (aJ 6) (aP (cW (aP (iA pE (by rfl) T.b_int Kk (aP (AE RN (aJ 7) uT (nomark _)) aI)) (aP aK aI))) (aP (cW (aP aK (aP aK aI))) aI)))))
  (aQ (rV (lJ (MA (GC (eJ WT (aJ 7) uT (nomark _)) (zZ (eJ ZL (aJ 7) aK (nomark _))))) (aQ (kJ (bU bL (aJ 3) (aJ 7) (λ_ _=>rfl)) (hV rfl (cR (cL (i:=9) CO.nd rfl (Or.inl rfl)) (cR (cL (i:=10) CO.nd rfl (Or.inl rfl)) gC))))
  (aQ (bQ (i:=8) CO.nd rfl (Or.inr rfl) (eK (aP (cW (aP aK (aP aK aI))) (aP (cW (aP aK (aP aK aI))) (aP (cW (aP aK (aP aK aI))) aI)))))
  (bO (fC PassesOwn.never rfl (eN rfl T.b_range (aP (gF iK (by rfl) T.b_len Kk (aP (bU bL (aJ 9) aK (λ_ _=>rfl)) aI)) aI)) (cL (i:=11) CO.nd rfl (Or.inl rfl)) (aQ (bQ (i:=12) CO.nd rfl (Or.inl rfl) (cG FQ8 (η.mono Oo) (aP (bU bL (bU bL (aJ 1) (aJ 7) (λ_ _=>rfl)) aK (λ_ _=>rfl)) (aP (aJ 11) aI))))
  (bO (fC PassesOwn.never rfl (gG (cG FQ14 (η.mono Oo) (aP (bU bL (aJ 3) (aJ 7) (λ_ _=>rfl)) (aP (bU bL (aJ 4) (aJ 7) (λ_ _=>rfl)) (aP (aJ 12) aI))))) (hV rfl (cR (cL (i:=13) CO.nd rfl (Or.inl rfl)) (cR (cL (i:=14) CO.nd rfl (Or.inl rfl)) gC))) (aQ (bQ (i:=15) CO.nd rfl (Or.inr rfl) (cG FQ9 (η.mono Oo) (aP (aJ 14) (aP (bU bL (bU bL (bU bL (bU bL (aJ 9) aK (λ_ _=>rfl)) (bU bL (aJ 4) (aJ 7) (λ_ _=>rfl)) (λ_ _=>rfl)) aK (λ_ _=>rfl)) (aJ 11) (λ_ _=>rfl)) aI))))
  (aQ (bQ (i:=16) CO.nd rfl (Or.inr rfl) (cG FQ5 (η.mono Oo) (aP (aJ 0) (aP (cF (jN K) (cF (jN K) (fS (lQ K) (aJ 1) gP (gO (aJ 7))) (cW (aP (cW (aP (aJ 12) (aP (aJ 13) aI))) aI))) (fS (lQ K) (aJ 1) (gO (cF eP (aJ 7) aK)) gP)) (aP (aJ 2) aI)))))
  (bO (bQ (i:=8) CO.nd rfl (Or.inr rfl) (gQ (eR.of (psc:=bJ sQ5) (N:=["_law_case","_law_place","_law_known","_law_hall_here","_law_choice","_law_plan_here","_law_some","_law_k","_law_found","_law_trial_here","_law_rule_here","_law_face","_law_counts","_law_word","_law_share","_law_part","_law_told"]) (N':=["_law_j","_law_found","_law_part","_law_told"]) (js:=[8,15,16]) Kk rfl rfl rfl) (eN rfl T.b_range (aP aK aI)) (λ_ _ _ _=>fB) (λ_ _ _ _=>(cG FQ0 (η.mono Oo) (aP (bU (gI K) (aJ 1) (aJ 0) (λ_ _=>rfl)) (aP (cG FQ9 (η.mono Oo) (aP (aJ 2) (aP (bU (gI K) (aJ 3) (aJ 0) (λ_ _=>rfl)) aI))) aI)))))))))))))))) gY))
  (aQ (uB P w η.units (aJ 2) (aJ 1) (iA dI (by rfl) T.b_tuple Kk (aP (aJ 8) aI)))
  (bO (dL (PB P w η.units (aJ 2) (aJ 1))))))))))),?_⟩
 refine ⟨_,rfl,_,rfl,rnin dn rv0 hS ?_⟩;refine ⟨_,rfl,?_⟩;rw [Bool.false_xor];cases hval:eT l (FY p) with
 | some vv =>
  refine oO ⟨_,rfl,_,rfl,rnix dn rv0 hS hval ?_⟩;obtain ⟨p',e1,e2,e3⟩:=al _ (PJ hval);have ep:p=p':=by injection e1 with e1;exact HD e1
  subst ep;refine k vv H (bC.refl _).but kn ?_;rw [show 9-jP (dP p).1=n+1 by omega] at e3;exact e3
 | none =>
  refine nI ⟨_,rfl,⟨a,[.ref ι,.ref γ,.ref pa],rfl,fO.of ha,rfl,_,_,rfl,_,_,rfl,_,_,rfl,rfl,⟨_,rfl,va,rfl,⟨_,fO.of α⟩,sU (as:=p) (λ_=>true) (λq v=>cB H (nR q) v) (λq v H'=>v=.str q.2) (λq v H1 H2 s r=>r) Oo α (Paired.ofRepL rxs) (λv q H' δ rq s'=>?_) (λD1 y1 H1 hD1 e1 s1 p1=>?_)⟩⟩⟩
  ·obtain ⟨b,γ,rfl,h3,h4⟩:=JR (rq.same s');refine ⟨b,[.ref γ,.str q.2],rfl,fO.of h3,rfl,λQ' h=>h H' (bC.refl _),λH5 Q' s5 hp k'=>?_⟩;exact ⟨_,rfl,k' _ H5 (bC.refl _) rfl⟩
  ·rw [kW] at p1;have ey:y1=p.map λq=>V.str q.2:=by
    have:∀{l:PL} {e:List V},Paired (λ(q:List Nat × Str) y=>y=V.str q.2) l e->e=l.map λq=>V.str q.2:=by
     intro l e h
     induction h with
     | nil=>rfl
     | cons r t ih=>rw [aU,<-r,<-ih]
    exact this p1
   subst ey;have fl:(p.map λq=>V.str q.2).all nP=true:=List.all_eq_true.mpr λx hx=>by
    obtain ⟨q,_,rfl⟩:=aS.mp hx
    rfl
   refine ⟨D1,_,rfl,.inl (fR.of e1),rfl,fl,.inr ⟨_,rfl,?_⟩⟩;rw [show (if (if false=true then !HN (V.str (Str.ofString "wrong")) (p.map λq=>V.str q.2) else HN (V.str (Str.ofString "wrong")) (p.map λq=>V.str q.2))=true then (1:Int) else 0)=if (dP p).2.2=true then 1 else 0 by rw [if_neg (show ¬false=true by decide),aCS p]];refine lI (by show 2<=64;decide) λq2 H2 hq2 e2 s2=>?_;have S2:=s1.trans s2;refine ⟨_,rfl,_,rfl,?_⟩;refine ML (hplan.same S2) (rv0.same S2) Oo λH3 s3=>⟨_,rfl,_,rfl,rfl,?_⟩;refine .inr ⟨_,rfl,?_⟩;refine lI (by show 2<=64;decide) λq4 H4 hq4 e4 s4=>lI (by show 2<=64;decide) λq5 H5 hq5 e5 s5=>qF (by show 3<=64;decide) λL6 H6 hL6 e6 s6=>?_;have S6:=(((S2.trans s3).trans s4).trans s5).trans s6;have kn6:=kn.same S6;refine ⟨λσ H'=>∃(θ o7 o9 o10 U X D J I G:Option V) (M:Addr) (e:List V),σ=[some (.ref a),some (.ref va),some (.ref Y),some (.ref ι),some (.ref γ),some (.ref pa),θ,o7,some (.ref M),o9,o10,U,X,D,J,I,G]/\aO Y H H'/\nN P w H' Y d ks Ms pl/\H' M=some (.lst e)/\aZ H' [eY (dU (vJ d ks Ms pl 0 (n+1) (dP p))),eY (dU (vJ d ks Ms pl 1 (n+1) (dP p))),eY (dU (vJ d ks Ms pl 2 (n+1) (dP p)))] e,?_,?_⟩
   ·rintro σ H7 ⟨θ,o7,o9,o10,U,X,D,J,I,G,M,e,rfl,b7,kn7,e7,r7⟩;have t7:=kn.t b7;refine ⟨_,rfl,M,_,rfl,.inl ⟨fR.of e7,λq8 hq8=>?_⟩⟩;have s8:=bC.upd (o:=.tup e) hq8;have e8:(upd H7 q8 (.tup e)) q8=some (.tup e):=bH;generalize upd H7 q8 (.tup e)=H8 at s8 e8 ⊢;have r8:cB H8 (PY λj=>vJ d ks Ms pl j (n+1) (dP p)) (.ref q8):=cB.tup e8 (r7.same s8);obtain ⟨l8,dn8,nd8,al8⟩:=(kn7.same s8).ex;have rv8:cB H8 (FY p) (.ref va):=(rv0.flat t7 (vR _)).same s8;refine ⟨_,rfl,_,rfl,?_⟩;refine rnp dn8 rv8 hS (aY (aBl B nd8 λq δ=>by obtain ⟨p',g1,g2,_⟩:=al8 q δ;exact ⟨p',g1,g2⟩) Dd) λH9 dn9 b9=>?_;have t9:=dn8.t b9;have rv9:=rv8.flat t9 (vR _);have r9:=r8.flat t9 (AL _);refine ⟨_,rfl,_,rfl,rnix dn9 rv9 hS (by rw [CW,if_pos rfl]) ?_⟩;refine k _ H9 ((b7.trans s8.but).trans b9) ⟨_,dn9,JS nd8 _ _,λq δ=>?_⟩ r9;rcases EA δ with δ | δ
    ·obtain ⟨p',g1,g2,g3⟩:=al8 q δ;exact ⟨p',g1,g2,g3.flat t9 (AL _)⟩
    ·rw [δ];refine ⟨p,rfl,Z,?_⟩;rw [show 9-jP (dP p).1=n+1 by omega];exact r9
   ·have q2r:cB H6 (eY (dU (aW (dP p)))) (.ref q2):=by
     refine (eU (f:=(if (dP p).2.2=true then 1 else 0,1)) e2).same (((s3.trans s4).trans s5).trans s6) |> λr=>?_;have:dU (aW (dP p))=(if (dP p).2.2=true then 1 else 0,1):=by
      unfold aW;by_cases h:(dP p).2.2=true
      ·rw [if_pos h,if_pos h];exact pA
      ·rw [if_neg h,if_neg h];exact iX
     rw [this];exact r
    have q5r:cB H6 (eY (dU 0)) (.ref q5):=by rw [iX];exact (eU e5).same s6
    cases el:gU pl (dP p) with
    | none =>
     have v0:∀j,vJ d ks Ms pl j (n+1) (dP p)=aF j (dP p):=λj=>by
      show nQ _ pl (aF j) (bF j) (n+1) (dP p)=_;rw [uV el]
     have fin:∀(z:V) (q4r:cB H6 (eY (dU (aA (dP p)))) (.ref q4)),aZ H6 [eY (dU (vJ d ks Ms pl 0 (n+1) (dP p))),eY (dU (vJ d ks Ms pl 1 (n+1) (dP p))),eY (dU (vJ d ks Ms pl 2 (n+1) (dP p)))] [.ref q2,.ref q4,.ref q5]:=λz q4r=>by
      rw [v0 0,v0 1,v0 2];exact aZ.cons q2r (aZ.cons q4r (aZ.cons q5r aZ.nil))
     by_cases hg:cS (dP p).2.1=[]
     ·have ex:WY pl (dP p)=.non:=by unfold WY;rw [if_pos hg]
      rw [ex] at e4 ⊢;refine ⟨_,rfl,rfl,_,rfl,nI ?_⟩;refine nI ?_;exact ⟨_,_,_,_,_,_,_,_,_,_,L6,_,rfl,S6.but,kn6,e6,fin .non (by
       have:dU (aA (dP p))=(1,1):=by unfold aA;rw [if_pos hg];exact pA
       rw [this];exact (eU e4).same (s5.trans s6))⟩
     ·have ex:WY pl (dP p)=.int (-1):=by unfold WY;rw [if_neg hg,el]
      rw [ex] at e4 ⊢;refine ⟨_,rfl,rfl,_,rfl,oO ?_⟩;refine ⟨_,rfl,_,_,rfl,rfl,_,rfl,nI ?_⟩;exact ⟨_,_,_,_,_,_,_,_,_,_,L6,_,rfl,S6.but,kn6,e6,fin .non (by
       have:dU (aA (dP p))=(0,1):=by unfold aA;rw [if_neg hg];exact iX
       rw [this];exact (eU e4).same (s5.trans s6))⟩
    | some i =>
     obtain ⟨hi,hon,hs0,hb⟩:=Z.so.look B.hall.ok el;have hg:¬cS (dP p).2.1=[]:=λz=>by unfold gU at el;rw [if_pos (.inl z)] at el;cases el
     have ex:WY pl (dP p)=.int (i:Int):=by unfold WY;rw [if_neg hg,el]
     rw [ex] at e4 ⊢;refine ⟨_,rfl,rfl,_,rfl,oO ?_⟩;refine ⟨_,rfl,_,_,rfl,rfl,_,rfl,?_⟩;rw [show decide ((0:Int)<=(i:Int))=true from bY Oo];refine oO ?_;have ν:i<d.length:=by rw [<-eZ d ks Ms];exact hi
     have hip:i<p.length:=Oo;obtain ⟨m,rfl⟩:∃m,n=m+1:=by
      refine ⟨n-1,?_⟩;rcases Nat.eq_zero_or_pos n with z | z
      ·have:=Z.so.out B.hall.ok (pl:=pl) (aY B.mM Oo);rw [this] at el;cases el
      ·omega
     have mt:=iJ (ks:=ks) (Ms:=Ms) ν;have τ:=B.hall.ts i ν;rw [B.same i ν] at τ;obtain ⟨h,eh⟩:∃h,h=d.getD i ⟨[],[],[]⟩:=⟨_,rfl⟩;rw [<-eh] at τ mt;have hhi:d[i]?=some h:=by rw [eh,aE,aB ν];rfl
     obtain ⟨vi,hvi,rvi⟩:=dY rhvs hhi;have rvi0:=rvi;obtain ⟨ta,tt,tu,rfl,hta,rtt,rtu⟩:=pR rvi;obtain ⟨tra,af,aw,xf,xw,rfl,htra,hxf,hxw,rxf,rxw⟩:=IV rtt;have kw:=τ.kw;obtain ⟨wx,hwx⟩:∃wx,h.ws[ks.getD i 0]?=some wx:=⟨_,aB kw⟩;obtain ⟨wu,hwu,rwu⟩:=dY rxw hwx;obtain ⟨wb,wxs,rfl,hwb,rwb⟩:=dX rwu;obtain ⟨wn,wz,rfl,rwn,rwz⟩:=fW rwb;obtain ⟨sa,sx,rfl,hsa,rsx⟩:=nB rwz;have ξ:gS h (ks.getD i 0)=wx.2:=by unfold gS;rw [hwx];rfl
     have lsx:sx.length=h.fs.length:=by rw [dN rsx,<-ξ,τ.len]
     have lxf:xf.length=h.fs.length:=by rw [rxf.len,aC]
     have f4:=τ.f4;have lk:=B.hall.lk;have hki:(ks.map mB)[i]?=some (V.int ((ks.getD i 0:Nat):Int)):=by
      rw [aL,aB Oo,aE,aB Oo];rfl
     obtain ⟨pb,pca,hpb,hpbt,hpca⟩:∃b γ,xs[i]?=some (.ref b)/\H b=some (.tup [.ref γ,.str p[i].2])/\H γ=some (.tup (((dP p).1.getD i []).map mB)):=by
      obtain ⟨x,h1,h2⟩:=dY rxs (aB hip);obtain ⟨b,γ,rfl,h3,h4⟩:=JR h2;refine ⟨b,γ,h1,h3,?_⟩;have:(dP p).1.getD i []=p[i].1:=by
       show (p.map (·.1)).getD i []=_;rw [aE,aL,aB hip];rfl
      rw [this];exact h4
     have w64h:=w64 h (aV hhi);have fF:((dR d ks Ms).getD i eO).t.F=h.fs.length:=by rw [mt];rfl
     have lcc:((dP p).1.getD i []).length=h.fs.length:=by
      have:=(B.hall.ok i hi).len _ (Z.so.k i hi);rw [fF] at this;exact this
     have qf:∀f,f<h.fs.length->∃x,sx[f]?=some x/\cB H (eY (dU (((dR d ks Ms).getD i eO).t.q f))) x/\Qn N 1 (((dR d ks Ms).getD i eO).t.q f):=λf hf=>by
      obtain ⟨ff,hff⟩:∃ff,wx.2[f]?=some ff:=⟨_,aB (by rw [<-ξ,τ.len];exact hf)⟩;obtain ⟨x,h1,h2⟩:=dY rsx hff;refine ⟨x,h1,?_,?_⟩
      ·have eq:((dR d ks Ms).getD i eO).t.q f=rv ff:=by
        rw [mt];show fM (gS h (ks.getD i 0)) f=_;rw [ξ,(fT hff).1]
       have lo:=(τ.low ff (by rw [ξ];exact aV hff)).1;rw [eq,BV lo];exact h2
      ·rw [mt];exact aAL τ hf
     refine ⟨_,rfl,_,rfl,jG (S6 _ _ hhxa) (cP hvi) ?_⟩;refine ⟨ta,[.ref tra,tu],rfl,fO.of (S6 _ _ hta),rfl,_,_,rfl,_,_,rfl,rfl,?_⟩;refine lI (by show 2<=64;decide) λq7 H7 hq7 e7 s7=>lI (by show 2<=64;decide) λq8 H8 hq8 e8 s8=>lI (by show 2<=64;decide) λq9 H9 hq9 e9 s9=>qF (by show 3<=64;decide) λL10 H10 hL10 e10 ω=>?_;have S10:=(((S6.trans s7).trans s8).trans s9).trans ω;refine ⟨_,rfl,jG (S10 _ _ htra) rfl ?_⟩;refine VR (S10 _ _ hxf) ⟨_,rfl,Oo,Oo,?_⟩;rw [show ((xf.length:Nat):Int).toNat=h.fs.length by omega];refine hU (LJ1 P w d ks Ms pl p H a va Y ι γ pa tra tu i m) ⟨_,_,_,_,_,_,_,L10,_,rfl,S10.but,kn.same S10,e10,?_⟩ ?_ ?_
     ·have:xV d ks Ms pl p i (m+1) 0 0=[eY (0,1),eY (0,1),eY (1,1)]:=by
       unfold xV;show [eY (dU (mS _ p i _ (bF 0) 0 0)),eY (dU (mS _ p i _ (bF 1) 0 0)),eY (dU (mS _ p i _ (bF 2) 0 0))]=_;rw [xD,xD,xD];show [eY (dU 0),eY (dU 0),eY (dU 1)]=_;rw [iX,pA]
      rw [this];exact aZ.cons ((eU e7).same ((s8.trans s9).trans ω)) (aZ.cons ((eU e8).same (s9.trans ω)) (aZ.cons ((eU e9).same ω) aZ.nil))
     ·rintro f σ H11 hf ⟨θ,U,X,D,J,I,G,M,e,rfl,χ,O,e11,aa⟩;have e0:(0:Int)+(f:Nat)=(f:Int):=Oo;rw [e0];have fl':f<((dR d ks Ms).getD i eO).t.F:=by rw [fF];exact hf
      obtain ⟨cN,ε⟩:∃cN,cN=cK ((dP p).1.getD i []) f:=⟨_,rfl⟩;have hcN:cN∈h.es.map (·.1):=by
       have:=(hb f fl').1;rw [mt,<-ε] at this;exact this
      have t11:=kn.t χ;refine ⟨_,rfl,_,rfl,jG (t11 _ _ α) (cP hpb) ?_⟩;refine jG (t11 _ _ hpbt) rfl ⟨_,rfl,?_⟩;refine vF (lZ (t11 _ _ hpca)) Oo Oo λcv H12 s12 r12=>?_;rw [<-ε] at r12;have t12:=t11.trans s12.t;refine ⟨_,rfl,_,rfl,jG (t12 _ _ hhxa) (cP hvi) ?_⟩;refine ⟨_,rfl,_,rfl,jG (t12 _ _ hca) (cP hki) ?_⟩;refine ⟨_,rfl,?_⟩;refine qP (rvi0.flat t12 (KL _)) τ w64h hcN r12 λD13 y13 H13 hD13 e13 ψ s13=>?_;have ewl:tU (mV (Ms.getD i 0) h (ks.getD i 0)).t cN=tU ((dR d ks Ms).getD i eO).t (cK ((dP p).1.getD i []) f):=by rw [mt,ε]
      rw [ewl] at ψ;obtain ⟨W,eW⟩:∃W,W=tU ((dR d ks Ms).getD i eO).t (cK ((dP p).1.getD i []) f):=⟨_,rfl⟩;rw [<-eW] at ψ;have W3:W.length<=3:=by rw [eW];exact rT _ _
      have ly13:y13.length=W.length:=dN ψ;have S13:=s12.trans s13;have nkD:D13≠Y:=(O.same S13).neL e13;refine ⟨D13,rfl,⟨_,fR.of e13⟩,jV (xs:=y13) (LJ2 P w d ks Ms pl p H H13 a va Y ι γ pa tra tu cv i m f) ⟨_,_,_,_,_,M,e,rfl,χ.trans S13.but,(bC.refl _).but,O.same S13,S13 _ _ e11,aa.same S13⟩ (λu σ H' _ q=>?_) ?_ ?_⟩
      ·obtain ⟨_,_,_,_,_,_,_,_,_,b',_⟩:=q;exact fR.of (b'.at nkD e13)
      ·rintro u y σ H14 hy ⟨θ,D,J,I,G,M,e,rfl,ο,c14,L,ρ,μ⟩;obtain ⟨q,δ,rq⟩:=eF ψ hy;have hqm:q∈tU ((dR d ks Ms).getD i eO).t (cK ((dP p).1.getD i []) f):=by rw [<-eW];exact aV δ
       obtain ⟨pk',tot',qq⟩:=Z.step B el fl' hqm;have R:=kn.t ο;have c14t:=(O.same S13).t c14;obtain ⟨yb,yxs,rfl,hyb,ryb⟩:=dX (rq.flat c14t (uR _));obtain ⟨y0,y1,rfl,ry0,ry1⟩:=fW ryb;have ey0:y0=V.str q.1:=by unfold cB at ry0;exact ry0
       subst ey0;obtain ⟨xq,hxq,rxq,nxq⟩:=qf f hf;refine ⟨yb,[.str q.1,y1],rfl,fO.of hyb,rfl,_,_,rfl,_,_,rfl,rfl,⟨_,rfl,_,rfl,jG (R _ _ htra) rfl ?_⟩⟩;refine ⟨_,rfl,_,rfl,jG (R _ _ hca) (cP hki) ?_⟩;refine jG (R _ _ hxw) (cP hwu) (jG (R _ _ hwb) rfl ?_);refine ⟨_,rfl,jG (R _ _ hsa) (cP hxq) ?_⟩;have szN:∀x:Rat,Qn N 1 x->jW 4000 (dU x):=λx h=>wL B (m:=1) (C:=1) Oo Kk (h.dvd ⟨LC,by rw [Nat.pow_one]⟩);have szL:∀x:Rat,Qn LC 1 x->jW 4000 (dU x):=λx h=>wL B (m:=1) (C:=1) Oo Kk (h.dvd ⟨N,by rw [Nat.pow_one,Nat.mul_comm]⟩);refine lP (iO.of ry1) (iO.of (rxq.flat R (fN _))) (cJ _) (cJ _) (szL _ qq) (szN _ nxq) λq15 H15 hq15 e15 s15=>?_;rw [vV] at e15;have β:Qn (N*LC) 1 (q.2*((dR d ks Ms).getD i eO).t.q f):=by
        have:=qq.mul nxq;rw [Nat.mul_comm LC N] at this;exact this
       refine ⟨_,rfl,_,rfl,_,rfl,_,rfl,?_⟩;refine AT ((R.trans s15.t) _ _ α) λc16 H16 s16 e16=>⟨_,rfl,_,rfl,?_⟩;refine lI (by show 2<=64;decide) λc17 H17 hc17 e17 φ=>lI (by show 1<=64;decide) λc18 H18 hc18 e18 κ=>xS ((φ.trans κ) _ _ e16) e18 (by rw [bW];show min i xs.length+1<=1000;omega) λc19 H19 s19 e19=>?_;have S19:=(((s15.trans s16).trans φ).trans κ).trans s19;have t19:=R.trans S19.t;refine ⟨_,rfl,_,rfl,_,_,rfl,rfl,⟨_,rfl,?_⟩⟩;refine uG (k:=i+1) Oo (t19 _ _ α) λc20 H20 υ e20=>xS (υ _ _ e19) e20 (by rw [aT,bW,List.length_drop];show min i xs.length+1+(xs.length-(i+1))<=1000;omega) λc21 H21 s21 e21=>?_;have S21:=(S19.trans υ).trans s21;have b21:=ο.trans S21.but;have t21:=kn.t b21;refine ⟨_,rfl,?_⟩;have r17:cB H21 (nR (cN,q.1)) (.ref c17):=by
        refine (cB.tup e17 ?_).same (((κ.trans s19).trans υ).trans s21);exact aZ.cons ((((r12.same s13).flat c14t (fV _)).same (s15.trans s16)).same φ) (aZ.cons (cB.str _) aZ.nil)
       have rpl:cB H21 (FY (p.set i (cN,q.1))) (.ref c21):=by
        have ex:xs.take i++[V.ref c17]++xs.drop (i+1)=xs.set i (.ref c17):=by
         rw [List.set_eq_take_append_cons_drop,if_pos Oo,List.append_assoc];rfl
        rw [ex] at e21;refine cB.tup e21 ?_;have:=aZ.set r17 i (rxs.flat t21 (qX _));rw [List.map_set];exact this
       rw [<-ε] at pk' tot';refine JF (n:=m) (cs.keep t21 b21 npk) npk (L.same S21) rpl pk' B w64 Oo λv22 H22 ζ kn22 r22=>?_;have B22:=b21.trans ζ;have t22:=kn.t B22;have t1422:=S21.t.trans ((L.same S21).t ζ);obtain ⟨tb,txs,rfl,htb,rtb⟩:=dX r22;have nLf:M≠Y:=L.neL ρ;have e22:=ζ.at nLf (S21 _ _ ρ);have r14':=μ.flat t1422 (OG ..);have q15r:cB H22 (eY (dU (q.2*((dR d ks Ms).getD i eO).t.q f))) (.ref q15):=(eU e15).flat (((((s16.trans φ).trans κ).trans s19).trans (υ.trans s21)).t.trans ((L.same S21).t ζ)) (fN _);refine ⟨_,rfl,Oo,Oo,?_⟩;rw [show ((3:Int)).toNat=3 from rfl];refine rH (n:=3) (λj x=>x=.int (j:Int)) (λ_=>true) (λj=>eY (dU (mS ((dR d ks Ms).getD i eO).t p i (vJ d ks Ms pl j (m+1)) (bF j) f (u+1)))) (λj=>fN _) Dd (λj H' s hj=>⟨hj,λx H3 y=>?_⟩) (λH' s=>aG _) (λj x H' Q' hx hj s' k'=>k' H' (bC.refl _)) (λj x H' Q' hx hj hp' s' k'=>?_) (λD23 y23 H23 hD23 e23 s23 r23=>?_)
       ·obtain ⟨e1',e2'⟩:=y;exact ⟨e1',by rw [e2',Int.zero_add]⟩
       ·subst hx;have hr3:(List.range 3)[j]?=some j:=gA hj;obtain ⟨yj,hyj,ryj⟩:=dY (g:=λj=>eY (dU (mS ((dR d ks Ms).getD i eO).t p i (vJ d ks Ms pl j (m+1)) (bF j) f u))) r14' hr3;have rtb':aZ H22 ((List.range 3).map λj=>eY (dU (vJ d ks Ms pl j (m+1) (dP (p.set i (cN,q.1)))))) txs:=rtb;obtain ⟨tj,htj,rtj⟩:=dY rtb' hr3;have ztj:=PN B pl j (m+1) _ pk'.so;have m7:m<=7:=Oo;have zp:jW 4000 (dU (q.2*((dR d ks Ms).getD i eO).t.q f)):=wL B (m:=1) (C:=1) Oo Kk (by rw [Nat.pow_one];exact β);refine ⟨_,rfl,_,rfl,mK (s' _ _ e22) (cP hyj) ?_⟩;refine ⟨_,rfl,_,rfl,_,rfl,jG (s' _ _ htb) (cP htj) ?_⟩;refine lP (iO.of (q15r.same s')) (iO.of (rtj.same s')) (cJ _) (cJ _) zp (wL B Oo (bI Dd Oo) ztj) λq24 H24 hq24 e24 s24=>?_;rw [vV] at e24;have zt:jW 4000 (dU (q.2*((dR d ks Ms).getD i eO).t.q f*vJ d ks Ms pl j (m+1) (dP (p.set i (cN,q.1))))):=by
         have:=β.mul ztj;rw [Nat.one_mul,show N*LC*(N*LC)^(m+1)=(N*LC)^(m+2) by rw [Nat.pow_succ (n:=N*LC) (m:=m+1),Nat.mul_comm]] at this;exact wL B Oo (bI Dd Oo) this
        have zac:jW 4000 (dU (mS ((dR d ks Ms).getD i eO).t p i (vJ d ks Ms pl j (m+1)) (bF j) f u)):=wL B (m:=m+1+1) (C:=13^(m+1+2)) Oo (bI Dd Oo) (aBQ B Z el j (m+1) fl');refine pX (iO.of ((ryj.same s').same s24)) (iO.new e24) (cJ _) (cJ _) zac zt λq25 H25 hq25 e25 s25=>?_;rw [CJ] at e25;have hst:=UE ((dR d ks Ms).getD i eO).t p i (vJ d ks Ms pl j (m+1)) (bF j) f u (q:=q) (by rw [<-eW];exact δ);rw [<-ε] at hst;refine k' _ H25 (s24.trans s25) ?_;show cB H25 (eY (dU (mS ((dR d ks Ms).getD i eO).t p i (vJ d ks Ms pl j (m+1)) (bF j) f (u+1)))) _;rw [hst];exact eU e25
       ·rw [kW] at r23;exact ⟨_,_,_,_,_,D23,y23,rfl,B22.trans s23.but,(c14.trans S21.but).trans (ζ.trans s23.but),kn22.same s23,e23,r23⟩
      ·rintro σ H14 ⟨θ,D,J,I,G,M,e,rfl,ο,c14,L,ρ,μ⟩;refine ⟨_,_,_,_,_,_,_,M,e,rfl,ο,L,ρ,?_⟩;have:xV d ks Ms pl p i (m+1) f y13.length=xV d ks Ms pl p i (m+1) (f+1) 0:=by
        unfold xV;rw [ly13,eW];refine cO λj _=>?_;rw [UF]
       rw [this] at μ;exact μ
     ·rintro σ H11 ⟨θ,U,X,D,J,I,G,M,e,rfl,χ,O,e11,aa⟩;refine ⟨_,_,_,_,_,_,_,_,_,_,M,e,rfl,χ,O,e11,?_⟩;have:xV d ks Ms pl p i (m+1) h.fs.length 0=[eY (dU (vJ d ks Ms pl 0 (m+1+1) (dP p))),eY (dU (vJ d ks Ms pl 1 (m+1+1) (dP p))),eY (dU (vJ d ks Ms pl 2 (m+1+1) (dP p)))]:=by
       unfold xV;rw [<-CK B Z el 0 (m+1),<-CK B Z el 1 (m+1),<-CK B Z el 2 (m+1),fF]
       rfl
      rw [this] at aa;exact aa
end
abbrev QK:Stmt:=(top 39)
theorem TV:cT ["_law_feed_here","_law_hall_here","_law_plan_here","_law_least","_law_k","_law_key"] ["_law_feed_here","_law_hall_here"] (bJ QK):=⟨rfl,rfl,rfl,Kk,rfl,Kk,Kk⟩
structure CL(hs:List HE)(ks:List (PyData × Int)):Prop where
 nd:(ks.map (·.1)).Nodup
 mem:∀p∈ks,∃cs∈rW hs,p.1=nS cs
theorem KG(ks:List (PyData × Int)):(ks.map kI).map (·.1)=ks.map (·.1):=by rw [List.map_map];rfl
theorem CL.nil(hs:List HE):CL hs []:=⟨List.nodup_nil,λp a=>absurd a List.not_mem_nil⟩
theorem CL.put{hs:List HE}{ks ks':List (PyData × Int)}{cs:List (List Nat)}{v:Int}(h:CL hs ks)(hc:cs∈rW hs)(e:fP (ks.map kI) (nS cs) (V.int v)=ks'.map kI):CL hs ks':=by
 have b:=congrArg (List.map (·.1)) e;rw [KG] at b;refine ⟨?_,λp c=>?_⟩
 ·rw [<-b];exact JS (by rw [KG];exact h.nd) _ _
 ·have a:kI p∈fP (ks.map kI) (nS cs) (V.int v):=by rw [e];exact List.mem_map_of_mem c
  rcases EA a with a | a
  ·obtain ⟨q,d,eq⟩:=aS.mp a;have:q.1=p.1:=(Prod.mk.inj eq).1;rw [<-this];exact h.mem q d
  ·exact ⟨cs,hc,(Prod.mk.inj a).1⟩
theorem SW{H:Hp}{hs:List HE}{ys:List V}(hl:ys.length=hs.length)(h:∀(j:Nat) (y:V),ys[j]?=some y->∃c:List Nat,c∈(hs.getD j ⟨[],[],[]⟩).es.map (·.1)/\cB H (gK c) y):∃css∈rW hs,aZ H (css.map gK) ys:=by
 have all:∀(ys:List V) (hs:List HE),ys.length=hs.length->(∀(j:Nat) (y:V),ys[j]?=some y->∃c:List Nat,c∈(hs.getD j ⟨[],[],[]⟩).es.map (·.1)/\cB H (gK c) y)->∃css:List (List Nat),css.length=hs.length/\(∀i,i<hs.length->css.getD i []∈(hs.getD i ⟨[],[],[]⟩).es.map (·.1))/\aZ H (css.map gK) ys:=λys=>by
  induction ys with
  | nil =>
   intro hs hl _;have:hs=[]:=List.length_eq_zero_iff.mp hl.symm;subst this;exact ⟨[],rfl,λi b=>absurd b (Nat.not_lt_zero _),aZ.nil⟩
  | cons y ys ih =>
   intro hs hl h;cases hs with
   | nil=>cases hl
   | cons x hs =>
    obtain ⟨c,n,l⟩:=h 0 y rfl;obtain ⟨css,a,e,f⟩:=ih hs (by simpa using hl) λj z o=>by
     obtain ⟨d,hd,m⟩:=h (j+1) z (by simpa using o);exact ⟨d,by simpa using hd,m⟩
    refine ⟨c::css,by rw [bV,bV,a],λi b=>?_,aZ.cons l f⟩;cases i with
    | zero=>simpa using n
    | succ i=>simpa using e i (by simpa using b)
 obtain ⟨css,a,e,f⟩:=all ys hs hl h;exact ⟨css,uW a e,f⟩
@[irreducible] def qR(P:Program)(w:World):Sp:=λvs H Q _=>∃(p L:Addr) (x:V) (hs:List HE),vs=[.ref p,x]/\cD H p L/\cB H (ON hs) x/\1<=hs.length/\hs.length<=3/\(∀h∈hs,1<=h.es.length/\h.es.length<=64)/\∀a ks H',cD H' p L->aO p H H'->H a=none->tZ P w H' a ks->CL hs ks->ks.length<=40->Q (.ref a) H'
theorem yF{P:Program}{w:World}{H:Hp}{Q:VK}{E:XK}{p L:Addr}{x:V}{hs:List HE}(h1:cD H p L)(h2:cB H (ON hs) x)(h3:1<=hs.length)(h4:hs.length<=3)(h5:∀h∈hs,1<=h.es.length/\h.es.length<=64)(k:∀a ks H',cD H' p L->aO p H H'->H a=none->tZ P w H' a ks->CL hs ks->ks.length<=40->Q (.ref a) H'):qR P w [.ref p,x] H Q E:=by
 unfold qR;exact ⟨p,L,x,hs,rfl,h1,h2,h3,h4,h5,k⟩
section
theorem aEb(F:lC K "_law_plan" "_law_plan" QK f fd)(T:nT K mg c)(FQ2:iP eV P w K mg base 1 "_law_draw" ["_law_feed_here","_law_many"] iT):fJ P w K mg base eV 2 f fd ["_law_feed_here","_law_hall_here"] (qR P w):=by
 refine F.oky TV λvs H Q E h=>?_;unfold qR at h;obtain ⟨p,L,x,hs,rfl,FA,rx,n1,n3,hes,k⟩:=h;refine ⟨rfl,λcdv A outer s W=>?_⟩;obtain ⟨ha,xs,rfl,hha,ζ⟩:=dX rx;have lx:xs.length=hs.length:=dN ζ;have rs0:=ζ;refine ⟨_,(aQ (bQ (i:=2) TV.nd rfl (Or.inl rfl) (AD P w ZC))
  (aQ (bQ (i:=3) TV.nd rfl (Or.inl rfl) (bU bL (eK (aP (CS uX aK) (aP (CS uX aK) (aP aK (aP aK aI))))) (cG FQ2 (W.mono Dd) (aP (aJ 0) (aP aK aI))) (λ_ _=>rfl)))
  (aQ (fC PassesOwn.never rfl (eN rfl T.b_range (aP (cG FQ2 (W.mono Dd) (aP (aJ 0) (aP aK aI))) aI)) (cL (i:=4) TV.nd rfl (Or.inl rfl)) (aQ (bQ (i:=5) TV.nd rfl (Or.inl rfl) (iA dI (by rfl) T.b_tuple Kk (aP (jC (eI.of (psc:=bJ QK) (N:=["_law_feed_here","_law_hall_here","_law_plan_here","_law_least","_law_k","_law_key"]) (xs:=["_law_trial_here","_law_rule_here"]) (N':=["_law_trial_here","_law_rule_here","_law_feed_here"]) (js:=[0]) Kk rfl rfl rfl) (nX (aJ 1)) (λ_ _ _ _=>fB) (λ_ _ _ _=>(bU (gI K) (bU (gI K) (aJ 1) (cG FQ2 (W.mono Dd) (aP (aJ 2) (aP (gF (LL K) (by rfl) T.b_len Kk (aP (aJ 1) aI)) aI))) (λ_ _=>rfl)) aK (λ_ _=>rfl)))) aI)))
  (bO (uB P w W.units (aJ 2) (aJ 5) (cF eP (aJ 3) (cG FQ2 (W.mono Dd) (aP (aJ 0) (aP aK aI))))))))
  (aQ (rV (lJ (eJ EE (cG FQ2 (W.mono Dd) (aP (aJ 0) (aP aK aI))) aK (nomark _)) (bO (uB P w W.units (aJ 2) (iA dI (by rfl) T.b_tuple Kk (aP (jC (eI.of (psc:=bJ QK) (N:=["_law_feed_here","_law_hall_here","_law_plan_here","_law_least","_law_k","_law_key"]) (xs:=["_law_trial_here","_law_rule_here"]) (N':=["_law_trial_here","_law_rule_here"]) (js:=[]) Kk rfl rfl rfl) (nX (aJ 1)) (λ_ _ _ _=>fB) (λ_ _ _ _=>(bU (gI K) (bU (gI K) (aJ 1) aK (λ_ _=>rfl)) aK (λ_ _=>rfl)))) aI)) (cG FQ2 (W.mono Dd) (aP (aJ 0) (aP (gF iK (by rfl) T.b_len Kk (aP (aJ 1) aI)) aI))))) gY))
  (bO (dL (aJ 2))))))),?_⟩
 refine rnnew λa H1 I g1 s1=>⟨_,rfl,_,rfl,?_⟩;refine qF (by show 4<=64;decide) λq2 H2 hq2 e2 s2=>⟨_,rfl,?_⟩;have F2:=FA.same (s1.trans s2);refine cZ F2 Dd Kk λx3 H3 x30 x31 F3 b3=>?_;obtain ⟨φ,rfl⟩:=kS x30;have aa:a≠p:=FA.ne I;have ο:a≠L:=FA.neL I;have n2p:q2≠p:=(FA.same s1).ne hq2;obtain ⟨lst,ab⟩:∃z:Int,([V.int (-3),V.int (-1),V.int 0,V.int 0]:List V)[φ]?=some (V.int z):=by
  rcases (show φ=0\/φ=1\/φ=2\/φ=3 by omega) with rfl | rfl | rfl | rfl <;> exact ⟨_,rfl⟩
 have e3:H3 q2=some (.lst [V.int (-3),V.int (-1),V.int 0,V.int 0]):=b3.at n2p e2;refine mK e3 (cP ab) ?_;have B3:aO p H H3:=(s1.trans s2).but.trans b3;have B:∀{H1 H2:Hp} {l},cD H1 p L->dZ P w ZC H1 a l->aO p H1 H2->dZ P w ZC H2 a l:=λ{H1 H2 l} Fx dn b=>by
  obtain ⟨zs,hz⟩:=Fx.lst;exact dn.but hz b
 have g3:dZ P w ZC H3 a []:=B F2 (g1.same s2) b3;have O:∀{H':Hp},aO p H H'->H' ha=some (.tup xs)/\aZ H' (hs.map hD) xs:=λ{H'} b=>by
  have t:=FA.t b;exact ⟨t _ _ hha,ζ.flat t (mN _)⟩
 refine ⟨_,rfl,?_⟩;refine cZ F3 Dd Kk λx4 H4 x40 x41 F4 b4=>⟨_,rfl,Oo,Oo,?_⟩;refine hU (λi σ H'=>∃(μ ι:Option V) (m:List (PyData × Int)),σ=[some (.ref p),some (.ref ha),some (.ref a),some (.int lst),μ,ι]/\cD H' p L/\aO p H H'/\dZ P w ZC H' a (m.map kI)/\m.length<=i/\CL hs m) ⟨_,_,[],rfl,F4,B3.trans b4,B F3 g3 b4,bS _,CL.nil hs⟩ ?_ ?_
 ·rintro i σ H5 hi ⟨μ,ι,m,rfl,F5,B5,g5,l5,u5⟩;obtain ⟨Y,rxs5⟩:=O B5;refine ⟨_,rfl,ha,rfl,⟨_,fO.of Y⟩,NV (cD.like p L) F5 (λj y H'=>∃c:List Nat,c∈(hs.getD j ⟨[],[],[]⟩).es.map (λe:eE=>e.1)/\cB H' (gK c) y) (λj y Ha Hb s ⟨c,ξ,h⟩=>⟨c,ξ,h.flat s (fV _)⟩) Oo Y (λj y H' hy F' b'=>?_) (λD6 y6 H6 hD6 e6 F6 X l6 r6=>?_)⟩
  ·obtain ⟨h,κ,rh⟩:=eF (O (B5.trans b')).2 hy;obtain ⟨ta,tt,tu,rfl,Z,rtt,β⟩:=pR rh;obtain ⟨ra,S,rfl,R,J⟩:=dX β;have lr:S.length=h.es.length:=dN J;obtain ⟨z1,z2⟩:=hes h (aV κ);refine ⟨ta,[tt,.ref ra],rfl,fO.of Z,rfl,λQ' k'=>?_⟩;refine ⟨_,rfl,_,rfl,_,rfl,VR R ?_⟩;refine cZ F' Oo (aY (bitsle (n:=10) (by show ((S.length:Nat):Int).natAbs<1024;omega)) Dd) λx7 H7 ω x71 F7 D=>?_;obtain ⟨m7,rfl⟩:=kS ω;have t7:=F'.t D;obtain ⟨e,ρ⟩:∃e,h.es[m7]?=some e:=⟨_,aB Oo⟩;obtain ⟨ve,γ,ε⟩:=dY J ρ;refine jG (t7 _ _ R) (cP γ) ?_;obtain ⟨eb,ev,rfl,δ,rev⟩:=dX ε;obtain ⟨u,z,rfl,ru,rz⟩:=fW rev;exact jG (t7 _ _ δ) rfl (k' _ H7 F7 D ⟨e.1,by rw [aE,κ];exact List.mem_map_of_mem (aV ρ),ru.flat t7 (fV _)⟩)
  ·obtain ⟨d,θ,G⟩:=SW (hs:=hs) Oo r6;refine ⟨D6,_,rfl,.inl ⟨fR.of e6,λD hb7=>?_⟩⟩;have M:=bC.upd (o:=.tup y6) hb7;have e7:(upd H6 D (.tup y6)) D=some (.tup y6):=bH;generalize upd H6 D (.tup y6)=H7 at M e7 ⊢;have F7:=F6.same M;have g7:=(B F5 g5 X).same M;have rk7:cB H7 (nS d) (.ref D):=cB.tup e7 (G.same M);refine ⟨_,rfl,_,rfl,?_⟩;refine cZ F7 Dd Kk λx8 H8 x80 x81 F8 b8=>?_;have t8:=F7.t b8;refine ⟨_,_,rfl,rfl,⟨_,rfl,_,rfl,?_⟩⟩;obtain ⟨η,C,lk'⟩:=BF m (nS d) (lst+x8);have g8:=B F7 g7 b8;refine rnp g8 (rk7.flat t8 (show dG (nS d)=true from mP d)) ⟨d,rfl⟩ (by rw [aC];omega) λH9 g9 α=>?_;rw [C] at g9;have nA:H a=none:=I;exact ⟨_,_,η,rfl,F8.but α aa ο,aO.thru nA (((B5.trans X).trans M.but).trans b8) α,g9,Oo,u5.put θ C⟩
 ·rintro σ H5 ⟨μ,ι,m,rfl,F5,B5,g5,l5,u5⟩;refine ⟨λσ H'=>∃(μ ι:Option V) (m:List (PyData × Int)),σ=[some (.ref p),some (.ref ha),some (.ref a),some (.int lst),μ,ι]/\cD H' p L/\aO p H H'/\dZ P w ZC H' a (m.map kI)/\m.length<=40/\CL hs m,?_,?_⟩
  ·rintro σ H6 ⟨μ,ι,m,rfl,F6,B6,g6,l6,u6⟩;exact ⟨_,rfl,k a m H6 F6 B6 I ⟨g6⟩ u6 l6⟩
  ·refine ⟨_,rfl,?_⟩;refine cZ F5 Dd Kk λx6 H6 x60 x61 F6 X=>?_;have g6:=B F5 g5 X;refine ⟨_,_,rfl,rfl,⟨_,rfl,BS (λhi0=>?_) (λhi0=>?_)⟩⟩
   ·obtain ⟨υ,rxs6⟩:=O (B5.trans X);refine ⟨_,rfl,_,rfl,VR υ ?_⟩;refine cZ F6 Oo (aY (bitsle (n:=10) (by show ((xs.length:Nat):Int).natAbs<1024;omega)) Dd) λx7 H7 ω x71 F7 D=>?_;have g7:=B F6 g6 D;obtain ⟨U,ψ⟩:=O ((B5.trans X).trans D);refine ⟨_,rfl,⟨_,rfl,ha,rfl,⟨_,fO.of U⟩,sU (as:=hs) (λ_=>true) (λh v=>cB H7 (hD h) v) (λh v H'=>∃c:List Nat,c∈h.es.map (λe:eE=>e.1)/\cB H' (gK c) v) (λh v H1 H2 s ⟨c,ξ,r⟩=>⟨c,ξ,r.flat s (fV _)⟩) Oo U (Paired.ofRepL ψ) (λv h H' κ rh s'=>?_) (λD8 τ H8 hD8 e8 s8 p8=>?_)⟩⟩
    ·obtain ⟨ta,tt,tu,rfl,Z,rtt,β⟩:=pR (rh.same s');obtain ⟨ra,S,rfl,R,J⟩:=dX β;have lr:S.length=h.es.length:=dN J;obtain ⟨z1,z2⟩:=hes h κ;obtain ⟨e,ρ⟩:∃e,h.es[0]?=some e:=⟨_,aB Oo⟩;obtain ⟨ve,γ,ε⟩:=dY J ρ;obtain ⟨eb,ev,rfl,δ,rev⟩:=dX ε;obtain ⟨u,z,rfl,ru,rz⟩:=fW rev;refine ⟨ta,[tt,.ref ra],rfl,fO.of Z,rfl,λQ' h=>h H' (bC.refl _),λH5 Q' s5 hp k'=>?_⟩;refine ⟨_,rfl,jG (s5 _ _ R) (cP (j:=0) γ) ?_⟩;exact jG (s5 _ _ δ) rfl (k' _ H5 (bC.refl _) ⟨e.1,List.mem_map_of_mem (aV ρ),ru.same s5⟩)
    ·rw [kW] at p8;obtain ⟨d,θ,G⟩:=SW (hs:=hs) (ys:=τ) p8.length.symm λj y hj=>by
      obtain ⟨h,κ,c,ξ,rc⟩:=jE p8 hj;exact ⟨c,by rw [aE,κ];exact ξ,rc⟩
     refine ⟨D8,_,rfl,.inl ⟨fR.of e8,λα hb9=>?_⟩⟩;have M:=bC.upd (o:=.tup τ) hb9;have e9:(upd H8 α (.tup τ)) α=some (.tup τ):=bH;generalize upd H8 α (.tup τ)=H9 at M e9 ⊢;have rk9:cB H9 (nS d) (.ref α):=cB.tup e9 (G.same M);obtain ⟨η,C,lk'⟩:=BF m (nS d) x7;refine rnp (g7.same (s8.trans M)) rk9 ⟨d,rfl⟩ (by rw [aC];omega) λH10 ν χ=>?_;rw [C] at ν;have nA:H a=none:=I;exact ⟨_,_,η,rfl,(F7.same (s8.trans M)).but χ aa ο,aO.thru nA (((B5.trans X).trans D).trans (s8.trans M).but) χ,ν,Oo,u5.put θ C⟩
   ·exact ⟨_,_,m,rfl,F6,B5.trans X,g6,Oo,u5⟩
end
def hC(cs:List (List Nat)):Int:=reduceHash (Builtin.Tuple.tupleHashOf (cs.map λc=>reduceHash (Builtin.Tuple.tupleHashOf (c.map λ(n:Nat)=>hashInt (n:Int)))))
theorem yU(w:World):∀c:List Nat,kU w (c.map λ(n:Nat)=>PyData.int (n:Int))=c.map λ(n:Nat)=>hashInt (n:Int)
 | []=>rfl
 | n::c=>by
  show hashInt (n:Int)::kU w (c.map λ(n:Nat)=>PyData.int (n:Int))=_;rw [yU w c];rfl
theorem wJ(w:World):∀cs:List (List Nat),kU w (cs.map gK)=cs.map λc=>reduceHash (Builtin.Tuple.tupleHashOf (c.map λ(n:Nat)=>hashInt (n:Int)))
 | []=>rfl
 | c::cs=>by
  show reduceHash (Builtin.Tuple.tupleHashOf (kU w (c.map λ(n:Nat)=>PyData.int (n:Int))))::kU w (cs.map gK)=_;rw [yU,wJ w cs];rfl
theorem yV(w:World)(cs:List (List Nat)):jY w (nS cs)=hC cs:=by
 show reduceHash (Builtin.Tuple.tupleHashOf (kU w (cs.map gK)))=_;rw [wJ];rfl
def yL:List (List (List Nat))->List (List (List Nat))
 | []=>[[]]
 | a::r=>a.flatMap λc=>(yL r).map (c :: ·)
theorem yB:∀hs:List HE,rW hs=yL (hs.map λh=>h.es.map (·.1))
 | []=>rfl
 | h::hs=>by rw [rW,yB hs];rfl
theorem sE:∀{as bs:List (List (List Nat))},Paired (λa b=>∀c∈a,c∈b) as bs->∀cs∈yL as,cs∈yL bs
 | _,_,.nil,cs,h=>h
 | _,_,.cons r t,cs,h=>by
  obtain ⟨c,hc,h⟩:=List.mem_flatMap.mp h;obtain ⟨d,hd,rfl⟩:=aS.mp h;exact List.mem_flatMap.mpr ⟨c,r c hc,List.mem_map_of_mem (sE t d hd)⟩
def hN(cs:List (List Nat)):Nat:=(hC cs+18446744073709551616).toNat
def NO:List Nat->(List Nat->Bool)->Bool
 | [],k=>k []
 | x::xs,k=>Nat.casesOn (motive:=λ_=>Bool) x (NO xs λr=>k (0::r)) λn=>NO xs λr=>k ((n+1)::r)
theorem HU:∀(xs:List Nat) (k:List Nat->Bool),NO xs k=k xs
 | [],k=>rfl
 | 0::xs,k=>by show NO xs _=_;rw [HU xs]
 | (n+1)::xs,k=>by show NO xs _=_;rw [HU xs]
def ndB:List Nat->Bool
 | []=>true
 | a::l=>l.all (λb=>!(Nat.beq a b))&&ndB l
theorem RQ:∀{l:List Nat},ndB l=true->l.Nodup
 | [],_=>List.nodup_nil
 | a::l,h=>by
  rw [ndB,cC] at h;refine List.nodup_cons.mpr ⟨λhm=>?_,RQ h.2⟩;have:=List.all_eq_true.mp h.1 a hm;simp at this
def inU(l:List (List (List Nat))):Bool:=NO ((yL l).map hN) ndB
theorem aBt{l:List (List (List Nat))}(h:inU l=true):((yL l).map hN).Nodup:=RQ (by rw [<-HU _ ndB];exact h)
abbrev rs1:List (List (List Nat)):=[rise 2 5,rise 3 4,rise 4 3]
abbrev rs2:List (List (List Nat)):=[rise 2 4,rise 3 3,rise 4 2]
abbrev rs3:List (List (List Nat)):=[rise 2 2,rise 3 1,rise 4 1]
theorem aC0:rs1.all (λa=>inU [a])=true:=Kk
theorem aCZ:rs2.all (λa=>rs2.all λb=>inU [a,b])=true:=Kk
theorem aCY:rs3.all (λa=>rs3.all λb=>rs3.all λc=>inU [a,b,c])=true:=Kk
theorem RU{α β:Type}{g:α->β}:∀{U:List α},(U.map g).Nodup->∀x∈U,∀y∈U,g x=g y->x=y
 | [],_,x,hx,_,_,_=>by cases hx
 | a::U,h,x,hx,y,hy,e=>by
  rw [aU,List.nodup_cons] at h;rcases bE.mp hx with e1 | h1 <;> rcases bE.mp hy with e2 | h2
  ·rw [e1,e2]
  ·rw [e1] at e;exact absurd (e ▸ List.mem_map_of_mem h2) h.1
  ·rw [e2] at e;exact absurd (e ▸ List.mem_map_of_mem h1) h.1
  ·exact RU h.2 x h1 y h2 e
theorem kG{hs:List HE}{bs:List (List (List Nat))}(w:World)(pr:Paired (λa b=>∀c∈a,c∈b) (hs.map λh=>h.es.map (·.1)) bs)(h:inU bs=true){ks:List (PyData × Int)}(u:CL hs ks):(ks.map λp=>jY w p.1).Nodup:=by
 have nd:=aBt h;refine List.pairwise_map.mpr (((List.pairwise_map.mp u.nd)).imp_of_mem λ{p q} o r d e=>d ?_);obtain ⟨f,m,j⟩:=u.mem p o;obtain ⟨i,l,n⟩:=u.mem q r;rw [j,n,yV,yV] at e;rw [yB] at m l;have:f=i:=RU nd f (sE pr f m) i (sE pr i l) (by unfold hN;rw [e]);rw [j,n,this]
def rsN(n:Nat):List (List (List Nat)):=if n=1 then rs1 else if n=2 then rs2 else rs3
theorem VS{F M M':Nat}(hF:1<=F)(h:M<=M'){c:List Nat}(hc:c∈rise F M):c∈rise F M':=by
 obtain ⟨a,b⟩:=(wA hF).mp hc;exact (wA hF).mpr ⟨a,Oo⟩
theorem aBu{n:Nat}(hn:n=1\/n=2\/n=3){h:HE}(d:HDr n h):∃b∈rsN n,∀c∈h.es.map (·.1),c∈b:=by
 obtain ⟨t,o,F,W,M,T,R,z⟩:=d.ex;have hF:=T.hF;have f4:=R.f4;have m5:=R.m5;have f1:=R.f1;have sub:∀c∈h.es.map (·.1),c∈rise F M:=λc a=>by
  obtain ⟨f,l,p,sy⟩:=R.ex;obtain ⟨e,i,rfl⟩:=aS.mp a;rw [l] at i;obtain ⟨d,hd,rfl⟩:=aS.mp i;exact (oY f1).subset hd
 have up:∀M',M<=M'->rise F M' ∈ rsN n->∃b∈rsN n,∀c∈h.es.map (·.1),c∈b:=λM' m j=>⟨_,j,λc a=>VS f1 m (sub c a)⟩;rcases hn with rfl | rfl | rfl
 ·have z:F*M<=12:=z;rcases (show F=2\/F=3\/F=4 by omega) with rfl | rfl | rfl
  ·exact up 5 Oo (by show rise 2 5∈rs1;simp)
  ·exact up 4 Oo (by show rise 3 4∈rs1;simp)
  ·exact up 3 Oo (by show rise 4 3∈rs1;simp)
 ·have z:F*M<=9:=z;rcases (show F=2\/F=3\/F=4 by omega) with rfl | rfl | rfl
  ·exact up 4 Oo (by show rise 2 4∈rs2;simp)
  ·exact up 3 Oo (by show rise 3 3∈rs2;simp)
  ·exact up 2 Oo (by show rise 4 2∈rs2;simp)
 ·have z:F*M<=4:=z;rcases (show F=2\/F=3\/F=4 by omega) with rfl | rfl | rfl
  ·exact up 2 Oo (by show rise 2 2∈rs3;simp)
  ·exact up 1 Oo (by show rise 3 1∈rs3;simp)
  ·exact up 1 Oo (by show rise 4 1∈rs3;simp)
theorem yM{hs:List HE}(hn:hs.length=1\/hs.length=2\/hs.length=3)(d:∀x∈hs,HDr hs.length x)(w:World){ks:List (PyData × Int)}(u:CL hs ks):(ks.map λp=>jY w p.1).Nodup:=by
 have j:=List.all_eq_true.mp aC0;have i:=λa r=>List.all_eq_true.mp (List.all_eq_true.mp aCZ a r);have h:=λa r b c=>List.all_eq_true.mp (List.all_eq_true.mp (List.all_eq_true.mp aCY a r) b c);have g:=λx A=>aBu hn (d x A)
 match hs,hn,g,u with
 | [x],_,g,u =>
  obtain ⟨b,c,l⟩:=g x (by simp);exact kG w (.cons l .nil) (j b c) u
 | [x,y],_,g,u =>
  obtain ⟨b,c,l⟩:=g x (by simp);obtain ⟨n,f,e⟩:=g y (by simp);exact kG w (.cons l (.cons e .nil)) (i b c n f) u
 | [x,y,z],_,g,u =>
  obtain ⟨b,c,l⟩:=g x (by simp);obtain ⟨n,f,e⟩:=g y (by simp);obtain ⟨s,o,m⟩:=g z (by simp);exact kG w (.cons l (.cons e (.cons m .nil))) (h b c n f s o) u
 | [],hn,_,_=>exact absurd hn (by simp)
 | _::_::_::_::_,hn,_,_=>exact absurd hn (by simp)
abbrev c0(t:TQ):List Nat:=List.replicate t.F 0
def OD(t:TQ)(p:PL × Rat):List (PL × Rat):=(tU t (c0 t)).map λq=>(p.1++[(c0 t,q.1)],p.2*q.2)
def xU(ms:List TM):Nat->List (PL × Rat)
 | 0=>[([],1)]
 | k+1=>(xU ms k).flatMap (OD (ms.getD k eO).t)
def nK(hs:List HE)(k:Nat)(pl:PL):PL:=pl++(hs.drop k).map λh=>(List.replicate h.fs.length 0,qL)
theorem EW{hs:List HE}{k:Nat}{pl:PL}(hl:pl.length=k)(hk:k<hs.length)(x:List Nat × Str):nK hs (k+1) (pl++[x])=(nK hs k pl).set k x:=by
 unfold nK;rw [List.drop_eq_getElem_cons hk,aU,List.set_append_right _ _ Oo,hl,Nat.sub_self,List.set_cons_zero,List.append_assoc];rfl
theorem HW{hs:List HE}{k:Nat}{pl:PL}(hl:pl.length=k)(hk:k<hs.length):k<(nK hs k pl).length/\(dP (nK hs k pl)).2.1.getD k false=true:=by
 unfold nK;rw [List.drop_eq_getElem_cons hk,aU];refine ⟨by rw [aT,bV];omega,?_⟩;show (List.map (λp:List Nat × Str=>decide (p.2=qL)) _).getD k false=true;rw [aE,aL,List.getElem?_append_right Oo,hl,Nat.sub_self];rfl
structure BgK(hs:List HE)(ks Ms:List Nat)(k:Nat)(l:List (PL × Rat)):Prop where
 ok:∀p∈l,p.1.length=k/\(∀x∈p.1,UT x.2)/\IJ (dR hs ks Ms) k (dP (nK hs k p.1))/\Qn (LC^k) 1 p.2
 sum:∀g:SS->Rat,cI l (λp=>p.2*g (dP (nK hs k p.1)))=Tf (dR hs ks Ms) (xF hs) k g
 few:l.length<=3^k
theorem EV(hs:List HE):dP (nK hs 0 [])=xF hs:=by
 unfold nK dP xF;rw [List.nil_append,List.drop_zero,List.map_map,List.map_map];refine Prod.ext rfl (Prod.ext ?_ ?_)
 ·refine cO λh _=>?_;show decide (qL=qL)=true;exact bY rfl
 ·show (hs.map λh=>(List.replicate h.fs.length 0,qL)).any (λp=>decide (p.2=CN))=false;rw [List.any_eq_false];intro x a;obtain ⟨h,_,rfl⟩:=aS.mp a;show ¬decide (qL=CN)=true
  decide
theorem YD(hs:List HE)(ks Ms:List Nat):BgK hs ks Ms 0 (xU (dR hs ks Ms) 0):=by
 refine ⟨λp a=>?_,λg=>?_,aG _⟩
 ·rw [bT.mp a];exact ⟨rfl,λx b=>absurd b List.not_mem_nil,by rw [EV];exact aCs hs ks Ms,oK _⟩
 ·show cI [(([]:PL),(1:Rat))] (λp=>p.2*g (dP (nK hs 0 p.1)))=g (xF hs);rw [cY,EV];show 1*g (xF hs)+0=_;grind
theorem YE{hs:List HE}{ks Ms Ns:List Nat}{N:Nat}(B:rR hs ks Ms Ns N){k:Nat}(hk:k<hs.length){l:List (PL × Rat)}(h:BgK hs ks Ms k l):BgK hs ks Ms (k+1) (l.flatMap (OD ((dR hs ks Ms).getD k eO).t)):=by
 have j:=eZ hs ks Ms;have A:=iJ (ks:=ks) (Ms:=Ms) hk;have u:=B.hall.ts k hk;refine ⟨λp e=>?_,λg=>?_,?_⟩
 ·obtain ⟨z,w,o⟩:=List.mem_flatMap.mp e;obtain ⟨q,I,rfl⟩:=aS.mp o;obtain ⟨b,n,G,r⟩:=h.ok z w;obtain ⟨d,c⟩:=HW b hk;obtain ⟨i,D,C⟩:=GE (t:=((dR hs ks Ms).getD k eO).t) d c (c0 ((dR hs ks Ms).getD k eO).t) I;refine ⟨by rw [aT,b];rfl,λx a=>?_,?_,?_⟩
  ·rcases dC.mp a with a | a
   ·exact n x a
   ·rw [bT.mp a];exact C
  ·rw [EW b hk];exact G.come (by rw [j];exact hk) _ i D
  ·have root:=(B.hall.ok k (by rw [j];exact hk)).root;rw [A] at i root;have y:=(pD u root _ k _ i).2;have:=r.mul y;rw [Nat.mul_one] at this;rw [Nat.pow_succ];exact this
 ·show _=Tf (dR hs ks Ms) (xF hs) k λs=>cI (dH ((dR hs ks Ms).getD k eO).t s k (c0 ((dR hs ks Ms).getD k eO).t)) λp=>p.2*g p.1;rw [<-h.sum];have f:∀l:List (PL × Rat),(∀p∈l,p.1.length=k)->cI (l.flatMap (OD ((dR hs ks Ms).getD k eO).t)) (λp=>p.2*g (dP (nK hs (k+1) p.1)))=cI l λp=>p.2*cI (dH ((dR hs ks Ms).getD k eO).t (dP (nK hs k p.1)) k (c0 ((dR hs ks Ms).getD k eO).t)) λp=>p.2*g p.1:=λl=>by
   induction l with
   | nil=>intro _;rfl
   | cons p l ih =>
    intro m;have b:=m p (aR ..);obtain ⟨d,c⟩:=HW b hk;rw [List.flatMap_cons,iS,cY,ih λx a=>m x (aM _ a),<-IN d c (c0 ((dR hs ks Ms).getD k eO).t) g];congr 1;unfold OD;have:∀W:List (Str × Rat),cI (W.map λq=>((p.1++[(c0 ((dR hs ks Ms).getD k eO).t,q.1)],p.2*q.2):PL × Rat)) (λp=>p.2*g (dP (nK hs (k+1) p.1)))=p.2*cI W λq=>q.2*g (dP ((nK hs k p.1).set k (c0 ((dR hs ks Ms).getD k eO).t,q.1))):=λW=>by
     induction W with
     | nil=>show (0:Rat)=p.2*0;grind
     | cons q W ihW =>
      rw [aU,cY,cY,ihW,EW b hk];grind
    exact this _
  exact f l λp e=>(h.ok p e).1
 ·rw [Nat.pow_succ];have:∀l:List (PL × Rat),(l.flatMap (OD ((dR hs ks Ms).getD k eO).t)).length<=l.length*3:=λl=>by
   induction l with
   | nil=>exact bS _
   | cons p l ih =>
    rw [List.flatMap_cons,aT,bV];have:(OD ((dR hs ks Ms).getD k eO).t p).length<=3:=by unfold OD;rw [aC];exact rT _ _
    omega
  exact aY (this l) (dM _ h.few)
theorem qD{hs:List HE}{ks Ms Ns:List Nat}{N:Nat}(B:rR hs ks Ms Ns N):∀k,k<=hs.length->BgK hs ks Ms k (xU (dR hs ks Ms) k)
 | 0,_=>YD hs ks Ms
 | k+1,h=>YE B h (qD B k Oo)
theorem ZT{hs:List HE}{ks Ms Ns:List Nat}{N:Nat}(B:rR hs ks Ms Ns N){p:PL × Rat}(hp:p∈xU (dR hs ks Ms) hs.length):LU hs ks Ms p.1/\jP (dP p.1).1=0/\Qn (LC^hs.length) 1 p.2:=by
 obtain ⟨j,b,a,e⟩:=(qD B hs.length (aG _)).ok p hp;have h:nK hs hs.length p.1=p.1:=by unfold nK;rw [List.drop_length];exact List.append_nil _
 rw [h] at a;have d:=eZ hs ks Ms;refine ⟨⟨IJ.ok B.hall.ok (by rw [d];exact a),b⟩,?_,e⟩;refine rX λi f=>⟨_,a.c i ?_⟩;rw [<-a.lc];exact f
def lY(hs:List HE)(ks Ms:List Nat)(pl:List (List Nat)->Option Int)(j u:Nat):Rat:=cI ((xU (dR hs ks Ms) hs.length).take u) λp=>p.2*vJ hs ks Ms pl j 9 (dP p.1)
theorem KW{hs:List HE}{ks Ms Ns:List Nat}{N:Nat}(B:rR hs ks Ms Ns N)(pl:List (List Nat)->Option Int)(j:Nat):lY hs ks Ms pl j (xU (dR hs ks Ms) hs.length).length=cQ hs ks Ms pl (aF j) (bF j):=by
 have c:=qD B hs.length (aG _);have:=c.sum (vJ hs ks Ms pl j 9);have b:∀p:PL,nK hs hs.length p=p:=λp=>by unfold nK;rw [List.drop_length];exact List.append_nil _
 unfold lY;rw [cE];simp only [b] at this;rw [this];have a:=UI (dR hs ks Ms) (xF hs) (vJ hs ks Ms pl j 9);rw [eZ] at a;rw [a];rfl
theorem SK{hs:List HE}{ks Ms:List Nat}(pl:List (List Nat)->Option Int)(j:Nat){u:Nat}{p:PL × Rat}(h:(xU (dR hs ks Ms) hs.length)[u]?=some p):lY hs ks Ms pl j (u+1)=lY hs ks Ms pl j u+p.2*vJ hs ks Ms pl j 9 (dP p.1):=by
 unfold lY;rw [fI h,iS,cY];show _+(_+0)=_;grind
theorem SL{hs:List HE}{ks Ms Ns:List Nat}{N:Nat}(B:rR hs ks Ms Ns N)(pl:List (List Nat)->Option Int)(j u:Nat):(∀p∈xU (dR hs ks Ms) hs.length,Qn (Dj N 9) (13^9) (p.2*vJ hs ks Ms pl j 9 (dP p.1)))/\Qn (Dj N 9) (27*13^9) (lY hs ks Ms pl j u):=by
 have n3:=B.hall.n3;have one:∀p∈xU (dR hs ks Ms) hs.length,Qn (Dj N 9) (13^9) (p.2*vJ hs ks Ms pl j 9 (dP p.1)):=λp a=>by
  obtain ⟨b,_,q⟩:=ZT B a;have:=(q.dvd (show LC^hs.length ∣ LC^3 from Nat.pow_dvd_pow _ n3)).mul (PN B pl j 9 _ b.so);rw [Nat.one_mul] at this;exact this
 refine ⟨one,?_⟩;unfold lY;refine (Qn.sumL (B:=13^9) λp a=>one p (List.mem_of_mem_take a)).le (dM _ ?_);have:=(qD B hs.length (aG _)).few;have:=NB n3;have:=List.length_take_le' u (xU (dR hs ks Ms) hs.length);omega
theorem SJ{hs:List HE}{ks Ms Ns:List Nat}{N:Nat}(B:rR hs ks Ms Ns N){x:Rat}{C:Nat}(h:Qn (Dj N 9) C x)(hC:C<=27*13^9):jW 4000 (dU x):=iR h (B.dpos 9) (B.dlt Dd) (aY hC Kk)
abbrev sQ3:Stmt:=(top 43)
theorem zQ:cT ["_law_case","_law_hall_here","_law_choice","_law_plan_here","_law_begun","_law_test","_law_way","_law_noughts","_law_longer","_law_place","_law_share","_law_word","_law_part","_law_found","_law_known","_law_told"] ["_law_case"] (bJ sQ3):=⟨rfl,rfl,rfl,Kk,rfl,Kk,Kk⟩
abbrev YF(p:PL × Rat):PyData:=.tuple [FY p.1,eY (dU p.2)]
theorem rK(p:PL × Rat):dG (YF p)=true:=by
 show (dG (FY p.1)&&(dG (eY (dU p.2))&&true))=true;rw [vR,fN];rfl
theorem FQ:∀l:List (PL × Rat),cV (l.map YF)=true
 | []=>rfl
 | p::l=>by show (dG (YF p)&&cV (l.map YF))=true;rw [rK,FQ l];rfl
theorem NQ{α β:Type}(g:α->List β)(l:List α)(i:Nat){a:α}(h:l[i]?=some a):(l.take (i+1)).flatMap g=(l.take i).flatMap g++g a:=by
 rw [fI h,List.flatMap_append];simp
@[irreducible] def vH(P:Program)(w:World):Sp:=λvs H Q _=>∃(a pa:Addr) (hs:List HE) (ks Ms Ns:List Nat) (N:Nat) (pl:List (List Nat)->Option Int),vs=[.ref a]/\xE P w H a pa hs ks pl/\rR hs ks Ms Ns N/\(∀h∈hs,h.ws.length<=64) /\
 ∀v H',bC H H'->cB H' (PY λj=>cQ hs ks Ms pl (aF j) (bF j)) v->Q v H'
theorem QF{P:Program}{w:World}{H:Hp}{Q:VK}{E:XK}{a pa:Addr}{hs:List HE}{ks Ms Ns:List Nat}{N:Nat}{pl:List (List Nat)->Option Int}(h1:xE P w H a pa hs ks pl)(h2:rR hs ks Ms Ns N)(h3:∀h∈hs,h.ws.length<=64)
  (k:∀v H',bC H H'->cB H' (PY λj=>cQ hs ks Ms pl (aF j) (bF j)) v->Q v H'):vH P w [.ref a] H Q E:=by
 unfold vH;exact ⟨a,pa,hs,ks,Ms,Ns,N,pl,rfl,h1,h2,h3,k⟩
section
inductive LI6 (hs:List HE)(ks Ms:List Nat)(H:Hp)(a O ca pa:Addr):Nat -> St -> Hp->Prop
| mk {i:Nat}{σ:St}{H':Hp}(o5 o6 o7 o8 η e b d:Option V) (γ:Addr) (ys:List V)(_:σ=[some (.ref a),some (.ref O),some (.ref ca),some (.ref pa),some (.ref γ),o5,o6,o7,o8,η,e,b,d,none,none,none])(_:bC H H')(_:H' γ=some (.lst ys))(_:aZ H' ((xU (dR hs ks Ms) i).map YF) ys):LI6 hs ks Ms H a O ca pa i σ H'
inductive LI7 (hs:List HE)(ks Ms:List Nat)(H H7:Hp)(a O ca pa γ ta L7:Addr)(i:Nat)(vx:V):Nat -> St -> Hp->Prop
| mk {u:Nat}{σ:St}{H':Hp}(η e b d:Option V) (D:List V)(_:σ=[some (.ref a),some (.ref O),some (.ref ca),some (.ref pa),some (.ref γ),some (.ref ta),some (.int ((ks.getD i 0:Nat):Int)),some vx,some (.ref L7),η,e,b,d,none,none,none])(_:bC H H')(_:aO L7 H7 H')(_:H' L7=some (.lst D))(_:aZ H' ((((xU (dR hs ks Ms) i).take u).flatMap (OD ((dR hs ks Ms).getD i eO).t)).map YF) D):LI7 hs ks Ms H H7 a O ca pa γ ta L7 i vx u σ H'
inductive LI8 (hs:List HE)(ks Ms:List Nat)(H H9:Hp)(a O ca pa γ ta L7 pla:Addr)(i u:Nat)(vx p1:V)(W:List (Str × Rat))(p:PL × Rat):Nat -> St -> Hp->Prop
| mk {v:Nat}{σ:St}{H':Hp}(b d:Option V) (D:List V)(_:σ=[some (.ref a),some (.ref O),some (.ref ca),some (.ref pa),some (.ref γ),some (.ref ta),some (.int ((ks.getD i 0:Nat):Int)),some vx,some (.ref L7),some (.ref pla),some p1,b,d,none,none,none])(_:bC H H')(_:aO L7 H9 H')(_:H' L7=some (.lst D))(_:aZ H' ((((xU (dR hs ks Ms) i).take u).flatMap (OD ((dR hs ks Ms).getD i eO).t)++(W.take v).map λq=>(p.1++[(c0 ((dR hs ks Ms).getD i eO).t,q.1)],p.2*q.2)).map YF) D):LI8 hs ks Ms H H9 a O ca pa γ ta L7 pla i u vx p1 W p v σ H'
inductive LI9 (P:Program)(w:World)(hs:List HE)(ks Ms:List Nat)(pl:List (List Nat)->Option Int)(H10:Hp)(a O ca pa γ ρ:Addr):Nat -> St -> Hp->Prop
| mk {u:Nat}{σ:St}{H':Hp}(o5 o6 o7 o8 η e b d o15:Option V) (Lf:Addr) (D:List V)(_:σ=[some (.ref a),some (.ref O),some (.ref ca),some (.ref pa),some (.ref γ),o5,o6,o7,o8,η,e,b,d,some (.ref Lf),some (.ref ρ),o15])(_:aO ρ H10 H')(_:nN P w H' ρ hs ks Ms pl)(_:H' Lf=some (.lst D))(_:aZ H' ((List.range 3).map λj=>eY (dU (lY hs ks Ms pl j u))) D):LI9 P w hs ks Ms pl H10 a O ca pa γ ρ u σ H'
theorem oQ3(F:lC K "_law_due" "_law_due" sQ3 f fd)(T:nT K mg c)(FQ14:iP eV P w K mg base 3 "_law_settled" ["_law_test","_law_way","_law_counts"] (jD K))(FQ9:iP eV P w K mg base 2 "_law_mul" ["_law_one","_law_other"] (kF K))(FQ0:iP eV P w K mg base 2 "_law_add" ["_law_one","_law_other"] (kN K))
  (FQ5:iP eV P w K mg base (4+9) "_law_go" ["_law_case","_law_place","_law_known"] (pM P w K 9)):fJ P w K mg base eV 14 f fd ["_law_case"] (vH P w):=by
 refine F.oky zQ λvs H Q E h=>?_;unfold vH at h;obtain ⟨a,pa,hs,ks,Ms,Ns,N,pl,rfl,cs,B,w64,k⟩:=h;refine ⟨rfl,λcdv A outer s hr=>?_⟩;obtain ⟨hx,ca,ha,rhs,hca,hplan⟩:=cs.ex;obtain ⟨O,hvs,rfl,χ,φ⟩:=dX rhs;have lhv:hvs.length=hs.length:=dN φ;have n3:=B.hall.n3;have lk:=B.hall.lk;refine ⟨_,(aQ (kJ (aJ 0) (hV rfl (cR (cL (i:=1) zQ.nd rfl (Or.inl rfl)) (cR (cL (i:=2) zQ.nd rfl (Or.inl rfl)) (cR (cL (i:=3) zQ.nd rfl (Or.inl rfl)) gC)))))
  (aQ (bQ (i:=4) zQ.nd rfl (Or.inl rfl) (eK (aP (cW (aP (cW aI) (aP (cW (aP aK (aP aK aI))) aI))) aI)))
  (aQ (fC PassesOwn.never rfl (AB true true rfl T.b_zip (aP (aJ 1) (aP (aJ 2) aI))) (hV rfl (cR (cL (i:=5) zQ.nd rfl (Or.inl rfl)) (cR (cL (i:=6) zQ.nd rfl (Or.inl rfl)) gC))) (aQ (bQ (i:=7) zQ.nd rfl (Or.inl rfl) (bU bL (bU bL (bU bL (aJ 5) aK (λ_ _=>rfl)) aK (λ_ _=>rfl)) aK (λ_ _=>rfl)))
  (aQ (bQ (i:=8) zQ.nd rfl (Or.inl rfl) (eK aI))
  (aQ (fC PassesOwn.never rfl (gG (aJ 4)) (hV rfl (cR (cL (i:=9) zQ.nd rfl (Or.inl rfl)) (cR (cL (i:=10) zQ.nd rfl (Or.inr rfl)) gC))) (bO (fC PassesOwn.never rfl (gG (cG FQ14 (hr.mono Dd) (aP (aJ 5) (aP (aJ 6) (aP (aJ 7) aI))))) (hV rfl (cR (cL (i:=11) zQ.nd rfl (Or.inl rfl)) (cR (cL (i:=12) zQ.nd rfl (Or.inl rfl)) gC))) (bO (jK (qK PySem.F.plainAttrs_list PySem.F.slot_list_append PySem.F.type_list_append vW (aJ 8) (aP (cW (aP (cF (jN K) (aJ 9) (cW (aP (cW (aP (aJ 7) (aP (aJ 11) aI))) aI))) (aP (cG FQ9 (hr.mono Dd) (aP (aJ 10) (aP (aJ 12) aI))) aI))) aI)))))))
  (bO (bQ (i:=4) zQ.nd rfl (Or.inl rfl) (aJ 8)))))))
  (aQ (bQ (i:=13) zQ.nd rfl (Or.inr rfl) (eK (aP (cW (aP aK (aP aK aI))) (aP (cW (aP aK (aP aK aI))) (aP (cW (aP aK (aP aK aI))) aI)))))
  (aQ (bQ (i:=14) zQ.nd rfl (Or.inl rfl) (AD P w shP))
  (aQ (fC PassesOwn.never rfl (gG (aJ 4)) (hV rfl (cR (cL (i:=9) zQ.nd rfl (Or.inl rfl)) (cR (cL (i:=10) zQ.nd rfl (Or.inr rfl)) gC))) (aQ (bQ (i:=15) zQ.nd rfl (Or.inr rfl) (cG FQ5 (hr.mono Dd) (aP (aJ 0) (aP (aJ 9) (aP (aJ 14) aI)))))
  (bO (bQ (i:=13) zQ.nd rfl (Or.inr rfl) (gQ (eR.of (psc:=bJ sQ3) (N:=["_law_case","_law_hall_here","_law_choice","_law_plan_here","_law_begun","_law_test","_law_way","_law_noughts","_law_longer","_law_place","_law_share","_law_word","_law_part","_law_found","_law_known","_law_told"]) (N':=["_law_j","_law_share","_law_found","_law_told"]) (js:=[10,13,15]) Kk rfl rfl rfl) (eN rfl T.b_range (aP aK aI)) (λ_ _ _ _=>fB) (λ_ _ _ _=>(cG FQ0 (hr.mono Dd) (aP (bU (gI K) (aJ 2) (aJ 0) (λ_ _=>rfl)) (aP (cG FQ9 (hr.mono Dd) (aP (aJ 1) (aP (bU (gI K) (aJ 3) (aJ 0) (λ_ _=>rfl)) aI))) aI)))))))))
  (bO (dL (iA dI (by rfl) T.b_tuple Kk (aP (aJ 13) aI)))))))))),?_⟩
 refine ⟨_,rfl,⟨a,[.ref O,.ref ca,.ref pa],rfl,fO.of ha,rfl,_,_,rfl,_,_,rfl,_,_,rfl,rfl,?_⟩⟩;refine lI (by show 0<=64;decide) λq1 H1 hq1 e1 s1=>lI (by show 2<=64;decide) λq2 H2 hq2 e2 s2=>lI (by show 2<=64;decide) λq3 H3 hq3 e3 s3=>qF (by show 1<=64;decide) λL4 H4 hL4 e4 s4=>?_;have S4:=((s1.trans s2).trans s3).trans s4;have r4:aZ H4 ((xU (dR hs ks Ms) 0).map YF) [.ref q3]:=by
  refine aZ.cons ((cB.tup e3 ?_).same s4) aZ.nil;refine aZ.cons ((cB.tup e1 aZ.nil).same (s2.trans s3)) (aZ.cons ?_ aZ.nil);rw [pA];exact (eU e2).same s3
 refine ⟨_,rfl,_,rfl,⟨O,ca,hvs,ks.map mB,rfl,S4 _ _ χ,S4 _ _ hca,XI (b1:=true) (b2:=true) (xs:=hvs) (ys:=ks.map mB) (LI6 hs ks Ms H a O ca pa) ⟨_,_,_,_,_,_,_,_,L4,_,rfl,S4,e4,r4⟩ (λi σ H' q=>?_) ?_ ?_⟩⟩
 ·obtain ⟨_,_,_,_,_,_,_,_,_,_,_,ν,_⟩:=q;exact ⟨ν _ _ χ,ν _ _ hca⟩
 ·rintro i x y q5 σ H5 H6 hx hy ⟨o5,o6,o7,o8,η,e,b,d,γ,ys,rfl,S5,e5,r5⟩ hq5 e6 s6;obtain ⟨h,hh,rh⟩:=eF φ hx;have hi:i<hs.length:=(aX.mp hh).1;have eh:hs.getD i ⟨[],[],[]⟩=h:=by rw [aE,hh];rfl
  have ey:y=V.int ((ks.getD i 0:Nat):Int):=by
   rw [aL,aB Oo] at hy;rw [aE,aB Oo];exact (dB hy).symm
  subst ey;have tk:=B.hall.ts i hi;rw [eh] at tk;have mt:=iJ (ks:=ks) (Ms:=Ms) hi;rw [eh] at mt;have rh0:=rh;obtain ⟨ta,tt,tu,rfl,hta,rtt,rtu⟩:=pR rh;obtain ⟨ra,rxs,rfl,hra,rrx⟩:=JH rtu;obtain ⟨e0,er,ee0,he0⟩:=tk.rl.root;obtain ⟨v0,hv0,rv0⟩:=dY rrx (show h.es[0]?=some e0 by rw [ee0];rfl);obtain ⟨vb,vx,vy,rfl,hvb,rvx,rvy⟩:=SI rv0;rw [he0] at rvx;have S6:=S5.trans s6;refine ⟨q5,[.ref ta,.int ((ks.getD i 0:Nat):Int)],rfl,fO.of e6,rfl,_,_,rfl,_,_,rfl,rfl,⟨_,rfl,jG (S6 _ _ hta) rfl ?_⟩⟩;refine jG (S6 _ _ hra) (cP (j:=0) hv0) (jG (S6 _ _ hvb) rfl ?_);refine qF (by show 0<=64;decide) λL7 H7 ο e7 s7=>?_;have S7:=S6.trans s7;have e57:=(s6.trans s7) _ _ e5;have r57:=r5.same (s6.trans s7);have l5:=(qD B i Oo).few;have p27:3^i<=27:=NB Oo;have aa:ys.length=(xU (dR hs ks Ms) i).length:=dN r57;have nL:L7≠γ:=λz=>by rw [z] at ο;rw [s6 _ _ e5] at ο;cases ο
  have L7H:H L7=none:=S6.free ο;have ec0:c0 ((dR hs ks Ms).getD i eO).t=List.replicate h.fs.length 0:=by rw [mt];rfl
  refine ⟨_,rfl,γ,rfl,⟨_,fR.of e57⟩,jV (xs:=ys) (LI7 hs ks Ms H H7 a O ca pa γ ta L7 i vx) ⟨_,_,_,_,[],rfl,S7,(bC.refl _).but,e7,aZ.nil⟩ (λu σ H' _ q=>?_) ?_ ?_⟩
  ·obtain ⟨_,_,_,_,_,_,_,b',_⟩:=q;exact fR.of (b'.at nL.symm e57)
  ·rintro u y8 σ H8 hy8 ⟨η,e,b,d,D,rfl,S8,b8,e8,r8⟩;obtain ⟨p,hp,rp⟩:=eF r57 hy8;have t78:=b8.t e7;have hu:u<(xU (dR hs ks Ms) i).length:=(aX.mp hp).1;obtain ⟨pb,pxs,rfl,hpb,rpb⟩:=dX (rp.flat t78 (rK _));obtain ⟨p0,p1,rfl,ι,rp1⟩:=fW rpb;have rp00:=ι;obtain ⟨pla,plx,rfl,hpla,ψ⟩:=dX ι;obtain ⟨pl1,pl2,pl3,pl4⟩:=(qD B i Oo).ok p (aV hp);have lplx:plx.length=i:=by rw [dN ψ,pl1]
   refine ⟨pb,[.ref pla,p1],rfl,fO.of hpb,rfl,_,_,rfl,_,_,rfl,rfl,⟨_,rfl,_,rfl,_,rfl,?_⟩⟩;have root:List.replicate h.fs.length 0∈h.es.map (·.1):=by rw [<-he0,ee0];simp
   refine qP (rh0.same S8) tk (w64 h (aV hh)) root (rvx.same S8) λD9 y9 H9 ab e9 r9 Z=>?_;obtain ⟨W,eW⟩:∃W,W=tU ((dR hs ks Ms).getD i eO).t (c0 ((dR hs ks Ms).getD i eO).t):=⟨_,rfl⟩;have eW2:tU (mV (Ms.getD i 0) h (ks.getD i 0)).t (List.replicate h.fs.length 0)=W:=by rw [eW,ec0,mt]
   rw [eW2] at r9;have W3:W.length<=3:=by rw [eW];exact rT _ _
   have ly9:y9.length=W.length:=dN r9;have nD9:D9≠L7:=λz=>by rw [z] at ab;rw [e8] at ab;cases ab
   have lflat:(((xU (dR hs ks Ms) i).take u).flatMap (OD ((dR hs ks Ms).getD i eO).t)).length<=81:=by
    have:∀l:List (PL × Rat),(l.flatMap (OD ((dR hs ks Ms).getD i eO).t)).length<=l.length*3:=λl=>by
     induction l with
     | nil=>exact bS _
     | cons p l ih =>
      rw [List.flatMap_cons,aT,bV];have:(OD ((dR hs ks Ms).getD i eO).t p).length<=3:=by unfold OD;rw [aC];exact rT _ _
      omega
    have h1:=this ((xU (dR hs ks Ms) i).take u);have h2:=List.length_take_le' u (xU (dR hs ks Ms) i);omega
   refine ⟨D9,rfl,⟨_,fR.of e9⟩,jV (xs:=y9) (LI8 hs ks Ms H H9 a O ca pa γ ta L7 pla i u vx p1 W p) ⟨_,_,D,rfl,S8.trans Z,(bC.refl _).but,Z _ _ e8,by rw [List.take_zero,List.map_nil,List.append_nil];exact r8.same Z⟩ (λv σ H' _ q=>?_) ?_ ?_⟩
   ·obtain ⟨_,_,_,_,_,b',_⟩:=q;exact fR.of (b'.at nD9 e9)
   ·rintro v y10 σ H10 hy10 ⟨b,d,D,rfl,S10,κ,θ,Y⟩;obtain ⟨q,hq,rq⟩:=eF r9 hy10;have υ:=κ.t (Z _ _ e8);have X:=Z.t.trans υ;obtain ⟨yb,yxs,rfl,hyb,ryb⟩:=dX (rq.flat υ (uR _));obtain ⟨y0,y1,rfl,ry0,ry1⟩:=fW ryb;have ey0:y0=V.str q.1:=by unfold cB at ry0;exact ry0
    subst ey0;have lz:D.length<=84:=by
     rw [dN Y,aT,aC,bW];omega
    refine ⟨yb,[.str q.1,y1],rfl,fO.of hyb,rfl,_,_,rfl,_,_,rfl,rfl,⟨_,rfl,VC θ,_,rfl,_,rfl,_,rfl,?_⟩⟩;refine lI (by show 2<=64;decide) λc11 H11 hc11 R s11=>lI (by show 1<=64;decide) λc12 H12 hc12 S J=>?_;have t812:=X.trans (s11.trans J).t;refine xS (t812 _ _ hpla) S (by show plx.length+1<=1000;omega) λc13 H13 β e13=>?_;have I:=(s11.trans J).trans β;refine ⟨_,rfl,_,rfl,?_⟩;have hqm:q∈tU ((dR hs ks Ms).getD i eO).t (c0 ((dR hs ks Ms).getD i eO).t):=by rw [<-eW];exact aV hq
    have qq:Qn LC 1 q.2:=by
     obtain ⟨x1,x2⟩:=HW pl1 hi;obtain ⟨m1,m2,m3⟩:=GE (t:=((dR hs ks Ms).getD i eO).t) x1 x2 (c0 ((dR hs ks Ms).getD i eO).t) hqm;rw [ec0,mt] at m1;exact (pD tk root _ i _ m1).2
    have szp:jW 4000 (dU p.2):=iR pl4 (qB _) (BQ Oo) Kk;have szq':jW 4000 (dU q.2):=iR qq Dd Kk Kk;refine lP (iO.of ((rp1.flat X (fN _)).same I)) (iO.of (ry1.same I)) (cJ _) (cJ _) szp szq' λq14 H14 hq14 α ζ=>?_;rw [vV] at α;refine lI (by show 2<=64;decide) λc15 H15 hc15 ξ ε=>?_;have r:=(I.trans ζ).trans ε;refine aBN (r _ _ θ) Oo λH16 e16 b16=>?_;have t16:=b16.t (r _ _ θ);have rpl:cB H13 (FY (p.1++[(c0 ((dR hs ks Ms).getD i eO).t,q.1)])) (.ref c13):=by
     refine cB.tup e13 ?_;rw [bR];refine aZ.app ((ψ.flat X (qX _)).same I) (aZ.cons ?_ aZ.nil);refine (cB.tup R ?_).same (J.trans β);rw [ec0];exact aZ.cons ((rvx.same S10).same s11) (aZ.cons (cB.str _) aZ.nil)
    have rnew:cB H15 (YF (p.1++[(c0 ((dR hs ks Ms).getD i eO).t,q.1)],p.2*q.2)) (.ref c15):=cB.tup ξ (aZ.cons (rpl.same (ζ.trans ε)) (aZ.cons ((eU α).same ε) aZ.nil));refine ⟨_,_,_,rfl,bC.thru L7H (S10.trans r) b16,(κ.trans r.but).trans b16,e16,?_⟩;have ee:∀A:List (PL × Rat),(A++(W.take (v+1)).map λq=>(p.1++[(c0 ((dR hs ks Ms).getD i eO).t,q.1)],p.2*q.2))=(A++(W.take v).map λq=>(p.1++[(c0 ((dR hs ks Ms).getD i eO).t,q.1)],p.2*q.2))++[(p.1++[(c0 ((dR hs ks Ms).getD i eO).t,q.1)],p.2*q.2)]:=λA=>by
     rw [fI hq,bR,<-List.append_assoc];rfl
    rw [ee,bR];exact aZ.app ((Y.same r).flat t16 (FQ _)) (aZ.cons (rnew.flat t16 (rK _)) aZ.nil)
   ·rintro σ H10 ⟨b,d,D,rfl,S10,κ,θ,Y⟩;refine ⟨_,_,_,_,D,rfl,S10,(b8.trans Z.but).trans κ,θ,?_⟩;rw [ly9,cE,eW] at Y;rw [NQ _ _ _ hp];exact Y
  ·rintro σ H8 ⟨η,e,b,d,D,rfl,S8,b8,e8,r8⟩;rw [aa,cE] at r8;exact ⟨_,rfl,_,_,_,_,_,_,_,_,L7,D,rfl,S8,e8,r8⟩
 ·rintro σ H5 ⟨o5,o6,o7,o8,η,e,b,d,γ,ys,rfl,S5,e5,r5⟩;rw [aC,lhv,lk,Nat.min_self] at r5;obtain ⟨G,eG⟩:∃G,G=xU (dR hs ks Ms) hs.length:=⟨_,rfl⟩;rw [<-eG] at r5;have aa:ys.length=G.length:=dN r5;have G27:G.length<=27:=by
   rw [eG];exact aY (qD B hs.length (aG _)).few (NB n3)
  refine lI (by show 2<=64;decide) λq6 H6 hq6 e6 s6=>lI (by show 2<=64;decide) λq7 H7 hq7 e7 s7=>lI (by show 2<=64;decide) λq8 H8 hq8 e8 s8=>qF (by show 3<=64;decide) λL9 H9 hL9 e9 Z=>?_;have μ:=((s6.trans s7).trans s8).trans Z;refine rnnew λρ H10 hka g10 L=>?_;have S10:=(S5.trans μ).trans L;have kaH:H ρ=none:=(S5.trans μ).free hka;have e5':=(μ.trans L) _ _ e5;have npk:pa≠ρ:=λz=>by
   obtain ⟨kv,dnp,_⟩:=hplan.ex;obtain ⟨o,ho⟩:=dnp.there;rw [z,kaH] at ho;cases ho
  have U:nN P w H10 ρ hs ks Ms pl:=⟨[],g10,List.nodup_nil,λq hq=>absurd hq List.not_mem_nil⟩;have nLb:γ≠ρ:=U.neL e5';have r5':=r5.same (μ.trans L);refine ⟨_,rfl,γ,rfl,⟨_,fR.of e5'⟩,jV (xs:=ys) (LI9 P w hs ks Ms pl H10 a O ca pa γ ρ) ⟨_,_,_,_,_,_,_,_,_,L9,_,rfl,(bC.refl _).but,U,L _ _ e9,?_⟩ (λu σ H' _ q=>?_) ?_ ?_⟩
  ·have z0:∀j,lY hs ks Ms pl j 0=0:=λj=>by unfold lY;rw [List.take_zero];rfl
   show aZ H10 [eY (dU (lY hs ks Ms pl 0 0)),eY (dU (lY hs ks Ms pl 1 0)),eY (dU (lY hs ks Ms pl 2 0))] _;rw [z0 0,z0 1,z0 2,iX];exact aZ.cons ((eU e6).same (((s7.trans s8).trans Z).trans L)) (aZ.cons ((eU e7).same ((s8.trans Z).trans L)) (aZ.cons ((eU e8).same (Z.trans L)) aZ.nil))
  ·obtain ⟨_,_,_,_,_,_,_,_,_,_,_,_,b',_⟩:=q;exact fR.of (b'.at nLb e5')
  ·rintro u y σ H11 hy ⟨o5,o6,o7,o8,η,e,b,d,o15,Lf,D,rfl,δ,M,R,r11⟩;obtain ⟨p,hp,rp⟩:=eF r5' hy;have hpm:p∈xU (dR hs ks Ms) hs.length:=by rw [<-eG];exact aV hp
   obtain ⟨pk,tot,qp⟩:=ZT B hpm;have t11:=U.t δ;obtain ⟨pb,pxs,rfl,hpb,rpb⟩:=dX (rp.flat t11 (rK _));obtain ⟨p0,p1,rfl,ι,rp1⟩:=fW rpb;refine ⟨pb,[p0,p1],rfl,fO.of hpb,rfl,_,_,rfl,_,_,rfl,rfl,⟨_,rfl,_,rfl,_,rfl,?_⟩⟩;refine JF (n:=8) ((cs.same S10).keep t11 δ npk) npk M ι pk B w64 Oo λv12 H12 ω kn12 r12=>?_;have t12:=M.t ω;obtain ⟨tb,txs,rfl,htb,rtb⟩:=dX r12;have nLf:Lf≠ρ:=M.neL R;have S:=ω.at nLf R;have r12':=r11.flat t12 rfl;have rp1':=rp1.flat t12 (fN _);refine ⟨_,rfl,Oo,Oo,?_⟩;rw [show ((3:Int)).toNat=3 from rfl];refine rH (n:=3) (λj x=>x=.int (j:Int)) (λ_=>true) (λj=>eY (dU (lY hs ks Ms pl j (u+1)))) (λj=>fN _) Dd (λj H' s hj=>⟨hj,λx H3 y=>?_⟩) (λH' s=>aG _) (λj x H' Q' hx hj ν k'=>k' H' (bC.refl _)) (λj x H' Q' hx hj hp' ν k'=>?_) (λD13 y13 H13 hD13 e13 β r13=>?_)
   ·obtain ⟨e1',e2'⟩:=y;exact ⟨e1',by rw [e2',Int.zero_add]⟩
   ·subst hx;have hr3:(List.range 3)[j]?=some j:=gA hj;obtain ⟨yj,hyj,ryj⟩:=dY (g:=λj=>eY (dU (lY hs ks Ms pl j u))) r12' hr3;have rtb':aZ H12 ((List.range 3).map λj=>eY (dU (vJ hs ks Ms pl j (8+1) (dP p.1)))) txs:=rtb;obtain ⟨tj,htj,rtj⟩:=dY rtb' hr3;have ztj:=PN B pl j 9 _ pk.so;have szp:jW 4000 (dU p.2):=iR qp (qB _) (BQ n3) Kk;have szt:jW 4000 (dU (vJ hs ks Ms pl j 9 (dP p.1))):=wL B (m:=9) (C:=13^9) Dd Kk ztj;obtain ⟨dq1,dq2⟩:=SL B pl j u;have szs:jW 4000 (dU (p.2*vJ hs ks Ms pl j 9 (dP p.1))):=SJ B (dq1 p hpm) Kk;have szd:jW 4000 (dU (lY hs ks Ms pl j u)):=SJ B dq2 (aG _);refine ⟨_,rfl,_,rfl,mK (ν _ _ S) (cP hyj) ?_⟩;refine ⟨_,rfl,_,rfl,_,rfl,jG (ν _ _ htb) (cP htj) ?_⟩;refine lP (iO.of (rp1'.same ν)) (iO.of (rtj.same ν)) (cJ _) (cJ _) szp szt λq14 H14 hq14 α ζ=>?_;rw [vV] at α;refine pX (iO.of ((ryj.same ν).same ζ)) (iO.new α) (cJ _) (cJ _) szd szs λq15 H15 hq15 ξ ε=>?_;rw [CJ] at ξ;have hst:=SK (hs:=hs) (ks:=ks) (Ms:=Ms) pl j (u:=u) (p:=p) (by rw [<-eG];exact hp);refine k' _ H15 (ζ.trans ε) ?_;show cB H15 (eY (dU (lY hs ks Ms pl j (u+1)))) _;rw [hst];exact eU ξ
   ·rw [kW] at r13;exact ⟨_,_,_,_,_,_,_,_,_,D13,y13,rfl,(δ.trans ω).trans β.but,kn12.same β,e13,r13⟩
  ·rintro σ H11 ⟨o5,o6,o7,o8,η,e,b,d,o15,Lf,D,rfl,δ,M,R,r11⟩;refine ⟨_,rfl,Lf,_,rfl,.inl ⟨fR.of R,λq12 hq12=>?_⟩⟩;have J:=bC.upd (o:=.tup D) hq12;have S:(upd H11 q12 (.tup D)) q12=some (.tup D):=bH;generalize upd H11 q12 (.tup D)=H12 at J S ⊢;refine k _ H12 ((bC.thru kaH S10 δ).trans J) (cB.tup S ?_);have ed:∀j,lY hs ks Ms pl j ys.length=cQ hs ks Ms pl (aF j) (bF j):=λj=>by rw [aa,eG];exact KW B pl j
   have τ:aZ H11 [eY (dU (lY hs ks Ms pl 0 ys.length)),eY (dU (lY hs ks Ms pl 1 ys.length)),eY (dU (lY hs ks Ms pl 2 ys.length))] D:=r11;rw [ed 0,ed 1,ed 2] at τ;exact τ.same J
end
abbrev VN:Stmt:=(top 44)
theorem xT:cT ["_law_script","_law_feed_here","_law_hall_here","_law_choices_here","_law_plan_here","_law_k","_law_choice","_law_kept","_law_turn","_law_told"] ["_law_script"] (bJ VN):=⟨rfl,rfl,rfl,Kk,rfl,Kk,Kk⟩
structure Sw(n w:Nat)(d:PyData):Prop where
 sh:PyData.showable d=true
 nd:PyData.hasDict d=false
 dp:PyData.depth d<=n
 wd:UR d<=w
theorem Sw.all{n w:Nat}:∀{ds:List PyData},(∀d∈ds,Sw n w d)->PyData.showableAll ds=true/\PyData.hasDictAll ds=false/\PyData.depthAll ds<=n/\AU ds<=ds.length*(w+2)
 | [],_=>⟨rfl,rfl,bS _,bS _⟩
 | d::ds,h=>by
  obtain ⟨a,b,c,e⟩:=h d (aR ..);obtain ⟨j,f,m,l⟩:=Sw.all λx i=>h x (aM d i);refine ⟨?_,?_,?_,?_⟩
  ·show (PyData.showable d&&PyData.showableAll ds)=true;rw [a,j];rfl
  ·show (PyData.hasDict d || PyData.hasDictAll ds)=false;rw [b,f];rfl
  ·show max (PyData.depth d) (PyData.depthAll ds)<=n;omega
  ·show UR d+2+AU ds<=(ds.length+1)*(w+2);rw [Nat.add_mul,Nat.one_mul];omega
theorem Sw.tup{n w k:Nat}{ds:List PyData}(h:∀d∈ds,Sw n w d)(hl:ds.length<=k):Sw (n+1) (k*(w+2)+4) (.tuple ds):=by
 obtain ⟨a,b,c,e⟩:=Sw.all h;refine ⟨a,b,by show PyData.depthAll ds+1<=n+1;omega,?_⟩;show AU ds+4<=_;have:=dM (w+2) hl;omega
theorem Sw.int{x:Int}{k:Nat}(h:x.natAbs<2^k)(hk:k<=1900:=by decide):Sw 1 1921 (.int x) :=
 ⟨VI (n:=1900) (bK h (bI Dd hk)),rfl,by simp [PyData.depth],aG _⟩
theorem Sw.fr{f:Fr}(h:jW 1900 f):Sw 2 3850 (eY f):=Sw.tup (k:=2) (n:=1) (w:=1921) (λd hd=>by
 simp only [bE,List.not_mem_nil,or_false] at hd;rcases hd with rfl | rfl
 ·exact Sw.int h.1
 ·exact Sw.int h.2) (aG _)
theorem Sw.frs{fs:List Fr}{k:Nat}(h:∀f∈fs,jW 1900 f)(hl:fs.length<=k):Sw 3 (k*3852+4) (uH fs):=Sw.tup (n:=2) (w:=3850) (λd hd=>by
 obtain ⟨f,a,rfl⟩:=aS.mp hd;exact Sw.fr (h f a)) (by rw [aC];exact hl)
theorem rrW{H:Hp}{Q:VK}{x:V}{d:PyData}{n w:Nat}(r:cB H d x)(h:Sw n w d)(hn:n<=60)(hw:w<=16000000)(q:Q (.str d.shown) H):DT [x] H Q :=
 rrI r h.sh h.nd (aY h.dp hn) (aY (DO _ h.sh h.nd) (aY h.wd (aY hw Dd))) q
theorem aCq{hs:List HE}{ks Ms Ns:List Nat}{N:Nat}(B:rR hs ks Ms Ns N)(z:Dj N 9<2^1500)(pl:List (List Nat)->Option Int):Sw 3 (3*3852+4) (PY λj=>cQ hs ks Ms pl (aF j) (bF j)):=by
 have sz:∀j,jW 1900 (dU (cQ hs ks Ms pl (aF j) (bF j))):=λj=>by
  have q:Qn (Dj N 9) (27*13^9) (cQ hs ks Ms pl (aF j) (bF j)):=by
   rw [<-KW B pl j];exact (SL B pl j _).2
  have e:=B.dpos 9;obtain ⟨b,d⟩:=q.fq.num e;have h:27*13^9*Dj N 9<2^1900:=by
   refine bK (Nat.mul_lt_mul_of_pos_left z Dd) ?_
   decide +kernel
  have c:Dj N 9<2^1900:=bK z (bI Dd Dd);exact ⟨bA b h,bA d c⟩
 exact Sw.frs (fs:=[dU (cQ hs ks Ms pl (aF 0) (bF 0)),dU (cQ hs ks Ms pl (aF 1) (bF 1)),dU (cQ hs ks Ms pl (aF 2) (bF 2))]) (k:=3) (λf a=>by
  simp only [bE,List.not_mem_nil,or_false] at a;rcases a with rfl | rfl | rfl
  ·exact sz 0
  ·exact sz 1
  ·exact sz 2) (aG _)
theorem CL.merge{hs:List HE}:∀{ms ks:List (PyData × Int)},CL hs ks->CL hs ms->∃ks':List (PyData × Int),qA (ks.map kI) (ms.map kI)=ks'.map kI/\CL hs ks'/\ks'.length<=ks.length+ms.length
 | [],ks,h,_=>⟨ks,rfl,h,aG _⟩
 | m::ms,ks,h,hm=>by
  obtain ⟨cs,hc,ec⟩:=hm.mem m (aR ..);obtain ⟨b,a,i⟩:=BF ks m.1 m.2;have u1:CL hs b:=by
   rw [ec] at a;exact h.put hc a
  have nd:=hm.nd;rw [aU,List.nodup_cons] at nd;obtain ⟨e,f,d,j⟩:=CL.merge (ms:=ms) u1 ⟨nd.2,λp c=>hm.mem p (aM _ c)⟩;refine ⟨e,?_,d,by rw [bV];omega⟩;rw [<-f];show qA (fP (ks.map kI) m.1 (V.int m.2)) (ms.map kI)=qA (b.map kI) (ms.map kI);rw [a]
section
theorem aD2(F:lC K "law" "law" VN f fd)(T:nT K mg c)(FQ4:iP eV P w K mg base 1 "_law_feed" ["_law_script"] (qU K))(FQ2:iP eV P w K mg base 1 "_law_draw" ["_law_feed_here","_law_many"] iT)(FQ6:iP eV P w K mg base 4 "_law_hall" ["_law_feed_here"] oF)(FQ1:iP eV P w K mg base 1 "_law_choices" ["_law_hall_here"] kO)(FQ11:iP eV P w K mg base 2 "_law_plan" ["_law_feed_here","_law_hall_here"] (qR P w))(FQ21:iP eV P w K mg base 5 "led" ["hall","choice","plan"] (vG P w K))(FQ3:iP eV P w K mg base 14 "_law_due" ["_law_case"] (vH P w)):fJ P w K mg base eV 15 f fd ["_law_script"] (sC K):=by
 refine F.oky xT λvs H Q E h=>?_;unfold sC at h;obtain ⟨a,ns,rfl,hS,hl,k⟩:=h;refine ⟨rfl,λcdv A outer s m=>?_⟩;refine ⟨_,(aQ (bQ (i:=1) xT.nd rfl (Or.inl rfl) (cG FQ4 (m.mono Dd) (aP (aJ 0) aI)))
  (aQ (bQ (i:=2) xT.nd rfl (Or.inl rfl) (cG FQ6 (m.mono Dd) (aP (aJ 1) aI)))
  (aQ (bQ (i:=3) xT.nd rfl (Or.inl rfl) (cG FQ1 (m.mono Dd) (aP (aJ 2) aI)))
  (aQ (bQ (i:=4) xT.nd rfl (Or.inl rfl) (cG FQ11 (m.mono Dd) (aP (aJ 1) (aP (aJ 2) aI))))
  (aQ (fC PassesOwn.never rfl (eN rfl T.b_range (aP (cF eP aK (cG FQ2 (m.mono Dd) (aP (aJ 1) (aP aK aI)))) aI)) (cL (i:=5) xT.nd rfl (Or.inl rfl)) (aQ (bQ (i:=6) xT.nd rfl (Or.inl rfl) (bU bL (aJ 3) (cG FQ2 (m.mono Dd) (aP (aJ 1) (aP (gF iK (by rfl) T.b_len Kk (aP (aJ 3) aI)) aI))) (λ_ _=>rfl)))
  (aQ (bQ (i:=7) xT.nd rfl (Or.inl rfl) (iA (TJ P w rfl) (by rfl) T.b_dict Kk (aP (aJ 4) aI)))
  (aQ (fC PassesOwn.never rfl (eN rfl T.b_range (aP aK aI)) (cL (i:=8) xT.nd rfl (Or.inl rfl)) (aQ (bQ (i:=9) xT.nd rfl (Or.inl rfl) (gF (LK m.gd m.units) (by rfl) T.b_repr Kk (aP (cG FQ21 (m.mono Dd) (aP (aJ 2) (aP (aJ 6) (aP (aJ 4) aI)))) aI)))
  (bO (lJ (MA (OV (eJ JV (aJ 9) (gF (LK m.gd m.units) (by rfl) T.b_repr Kk (aP (cG FQ3 (m.mono Dd) (aP (cW (aP (aJ 2) (aP (aJ 6) (aP (aJ 7) aI)))) aI)) aI)) (nomark _)) (GB (eJ (aA8 P w K m.units) (aJ 4) (aJ 7) (nomark _))))) (bO (dL tH)) gY))))
  (bO (jK (UX P w m.units (aJ 4) (cG FQ11 (m.mono Dd) (aP (aJ 1) (aP (aJ 2) aI))))))))))
  (bO (dL tH))))))),?_⟩
 refine ⟨_,rfl,?_⟩;refine MM hS hl λp L H1 F1 s1 _ _=>⟨_,rfl,?_⟩;refine GQ F1 λv1 e H2 F2 b2 r2 ok Z=>⟨_,rfl,?_⟩;refine AR r2 ok λD H3 s3 hD ls3=>?_;have r3:=r2.same s3;have F3:=F2.same s3;have l3:=ok.len;have l1:=ok.ne;have hn:e.length=1\/e.length=2\/e.length=3:=Oo;have α:D≠p:=F2.ne hD;have nDL:D≠L:=F2.neL hD;obtain ⟨I,aa,τ⟩:=ls3;have lcv:I.length=(chs e).length:=dN τ;have O:∀h∈e,∃Dh,UL Dh h:=λh Y=>by
  obtain ⟨i,hi⟩:=dE.mp Y;exact ok.at_ hi
 have w64:∀h∈e,h.ws.length<=64:=λh Y=>by
  have:=(O h Y).choose_spec.w4;omega
 have cl64:(chs e).length<=64:=aY (LM e.length e rfl λh Y=>(O h Y).choose_spec.w4) (aY (bI Dd l3) Dd);have cl1:1<=(chs e).length:=by
  have:∀l:List HE,(∀h∈l,2<=h.ws.length)->∃C,UO l C:=λl=>by
   induction l with
   | nil=>exact λ_=>⟨[],.nil⟩
   | cons h l ih =>
    intro hl;obtain ⟨C,hk⟩:=ih λx hx=>hl x (aM _ hx);exact ⟨0::C,.cons (by have:=hl h (aR ..);omega) hk⟩
  obtain ⟨C,hk⟩:=this e λh Y=>(O h Y).choose_spec.w2;exact List.length_pos_of_mem ((BL e C).mpr hk)
 have ab:∀h∈e,1<=h.es.length/\h.es.length<=64:=λh Y=>by
  obtain ⟨t,o,F,W,M,T,R,z⟩:=(Z h Y).ex;have h1:=R.top.2.2;have h2:=R.few;obtain ⟨e0,r,ee,_⟩:=R.rl.root;rw [ee] at h1 ⊢;rw [bV] at h1 ⊢;omega
 refine ⟨_,rfl,_,rfl,?_⟩;refine yF F3 r3 l1 l3 ab λG kp H4 F4 b4 X pv4 uv4 lk4=>?_;have npa:G≠p:=F3.ne X;have npL:G≠L:=F3.neL X;have nDa:D≠G:=λz=>by rw [<-z,aa] at X;cases X
 have t4:=F3.t b4;refine ⟨_,rfl,?_⟩;refine cZ F4 Dd Kk λx5 H5 x50 x51 F5 b5=>?_;obtain ⟨m5,rfl⟩:=kS x50;have t5:=t4.trans (F4.t b5);have θ:∀{Ha Hb:Hp} {q:List (PyData × Int)},cD Ha p L->tZ P w Ha G q->aO p Ha Hb->tZ P w Hb G q:=λ{Ha Hb q} Fx pv b=>by
  obtain ⟨zs,χ⟩:=Fx.lst;exact ⟨pv.dn.but χ b⟩
 have hD5:H5 D=some (.lst I):=b5.at α (b4.at α aa);refine ⟨_,_,rfl,rfl,⟨_,rfl,Oo,Oo,hU (λi σ H'=>∃(o5 o6 o7 κ η:Option V) (q:List (PyData × Int)),σ=[some (.ref a),some (.ref p),some v1,some (.ref D),some (.ref G),o5,o6,o7,κ,η]/\cD H' p L/\dJ H3 H'/\H' D=some (.lst I)/\tZ P w H' G q/\CL e q/\q.length<=40*(i+1)) ⟨_,_,_,_,_,kp,rfl,F5,t5,hD5,θ F4 pv4 b5,uv4,Oo⟩ ?_ ?_⟩⟩
 ·rintro i σ H6 hi ⟨o5,o6,o7,κ,η,q,rfl,F6,t6,ξ,ac,ν,lq6⟩;have i4:i<=4:=Oo;refine ⟨_,rfl,_,rfl,_,rfl,ZG ξ ?_⟩;refine cZ F6 Oo (aY (bitsle (n:=10) (by show ((I.length:Nat):Int).natAbs<1024;omega)) Dd) λx7 H7 x70 x71 F7 b7=>?_;obtain ⟨m7,rfl⟩:=kS x70;have ψ:=b7.at α ξ;obtain ⟨C,φ⟩:∃C,(chs e)[m7]?=some C:=⟨_,aB Oo⟩;have ch:=(BL e C).mp (aV φ);obtain ⟨vk,hvk,rvk⟩:=dY τ φ;refine mK ψ (cP hvk) ?_;have t7:=t6.trans (F6.t b7);have r7:=r3.flat t7 (wK _);obtain ⟨ca,rfl,hca⟩:=jX (rvk.flat t7 (fV _));have ω:=θ F6 ac b7;obtain ⟨Ms,Ns,N,B,zN⟩:=aBj hn Z ch;have nd7:((q.map kI).map λp=>jY w p.1).Nodup:=by
   rw [List.map_map];exact yM hn Z w ν
  refine ⟨_,rfl,?_⟩;refine rndict ω.dn nd7 (by rw [aC];omega) λkt H8 hkt g8 ο=>?_;have γ:tZ P w H8 kt q:=⟨g8⟩;have F8:=F7.same ο;have t8:=t7.trans ο.t;have ζ:tZ P w H8 G q:=⟨ω.dn.same ο⟩;have sw:=aCq B zN (BG q);have rq:∀{Hx:Hp},∀z∈q.map kI,∃d,lA K Hx d z.2/\PyData.canLay0 d=true/\d.depth<=60/\d.hasDict=false:=λ{Hx} z χ=>by
   obtain ⟨y,_,rfl⟩:=aS.mp χ;exact ⟨.int y.2,(cB.int (H:=Hx) y.2).k,rfl,by simp [PyData.depth],rfl⟩
  refine ⟨_,rfl,Oo,Oo,?_⟩;rw [show ((2:Int)).toNat=2 from rfl];refine hU (λj σ H'=>∃(κ η:Option V),σ=[some (.ref a),some (.ref p),some v1,some (.ref D),some (.ref G),some (.int (0+(i:Nat))),some (.ref ca),some (.ref kt),κ,η]/\bC H8 H') ⟨_,_,rfl,bC.refl _⟩ ?_ ?_
  ·rintro j σ H9 hj ⟨κ,η,rfl,U⟩;have β:=U _ _ (ο _ _ hca);have r9:=(r7.same ο).same U;refine ⟨_,rfl,_,rfl,_,rfl,?_⟩;refine QD r9 β (⟨ζ.dn.same U⟩:tZ P w H9 G q).pl B λv10 H10 s10 r10 _ _ _=>rrW (d:=PY λj=>cQ e C Ms (BG q) (aF j) (bF j)) r10 sw Dd Dd ?_;refine ⟨_,rfl,_,rfl,_,rfl,_,rfl,?_⟩;refine lI (by show 3<=64;decide) λq11 H11 hq11 e11 s11=>?_;have u:=s10.trans s11;have ρ:xE P w H11 q11 kt e C (BG q):=⟨v1,ca,e11,r9.same u,u _ _ β,(⟨γ.dn.same (U.trans u)⟩:tZ P w H11 kt q).pl⟩;refine QF ρ B w64 λv12 H12 s12 r12=>rrW r12 sw Dd Dd ?_;refine ⟨rfl,_,rfl,?_⟩;rw [show (!decide (V.str (PyData.shown (PY λj=>cQ e C Ms (BG q) (aF j) (bF j)))=V.str (PyData.shown (PY λj=>cQ e C Ms (BG q) (aF j) (bF j)))))=false by rw [bY rfl];rfl];refine nI ⟨_,rfl,_,rfl,?_⟩;have S12:=U.trans (u.trans s12);refine rnne (ζ.dn.same S12) (γ.dn.same S12) (λz χ=>rq z χ) ⟨_,rfl,?_⟩;exact nI ⟨_,_,rfl,S12⟩
  ·rintro σ H9 ⟨κ,η,rfl,U⟩;have F9:=F8.same U;have t9:=t8.trans U.t;have ε:tZ P w H9 G q:=⟨ζ.dn.same U⟩;refine ⟨_,rfl,rn0 ε.dn ?_⟩;refine ⟨_,rfl,_,rfl,?_⟩;refine yF F9 (r3.flat t9 (wK _)) l1 l3 ab λpb kq H10 F10 ι hpb ad J lk10=>?_;have υ:=θ F9 ε ι;have npb:G≠pb:=λz=>by
    obtain ⟨o,ho⟩:=ε.dn.there;rw [z,hpb] at ho;cases ho
   refine rnupd npb υ.dn ad.dn (λ_=>by rw [List.map_map];exact yM hn Z w J) (by rw [aC,aC];omega) λH11 S μ=>?_;have t11:=υ.dn.t μ;have δ:H11 D=some (.lst I):=μ.at nDa (ι.at α (U _ _ (ο _ _ ψ)));have F11:=F10.but μ npa npL;have T11:=t9.trans ((F9.t ι).trans t11);by_cases e0:q.map kI=[]
   ·rw [if_pos e0] at S;exact ⟨_,_,_,_,_,kq,rfl,F11,T11,δ,⟨S⟩,J,Oo⟩
   ·rw [if_neg e0] at S;obtain ⟨k2,e2,u2,l2⟩:=ν.merge J;rw [e2] at S;exact ⟨_,_,_,_,_,k2,rfl,F11,T11,δ,⟨S⟩,u2,Oo⟩
 ·rintro σ H6 ⟨o5,o6,o7,κ,η,q,rfl,F6,t6,ξ,ac,ν,lq6⟩;exact k H6
end
theorem aEi{α:Type}{us:List α}(h:us.length=1):∃a,us=[a]:=match us,h with | [a],_=>⟨a,rfl⟩
theorem aEh{α:Type}{us:List α}(h:us.length=2):∃a b,us=[a,b]:=match us,h with | [a,b],_=>⟨a,b,rfl⟩
theorem aEg{α:Type}{us:List α}(h:us.length=3):∃a b c,us=[a,b,c]:=match us,h with | [a,b,c],_=>⟨a,b,c,rfl⟩
theorem aEf{α:Type}{us:List α}(h:us.length=4):∃a b c d,us=[a,b,c,d]:=match us,h with | [a,b,c,d],_=>⟨a,b,c,d,rfl⟩
theorem aEe{α:Type}{us:List α}(h:us.length=5):∃a b c d e,us=[a,b,c,d,e]:=match us,h with | [a,b,c,d,e],_=>⟨a,b,c,d,e,rfl⟩
theorem aBC{K:PySem.W.Frag}{x q:Str}{st:Stmt}{f:Addr}{fd:FuncData}(F:lC K x q st f fd)(P:FuncData->Prop)(h:P fd):∃fd,P fd:=⟨fd,h⟩
inductive Dn (K:PySem.W.Frag) (n:Str) (st:Stmt):Prop
 | mk {f:Addr} {oc:Value} {od:Option Addr} {kV dc pm:Value} {an:Option Addr} {cd ct:Value} {sl:Array (Option Value)} (a:PySem.W.nsIn K mainGlobals n=some (some (.ref f))) (l:K.lookup f=some ⟨oc,od,.func (PySem.W.fnOf n n (pC st) (kB st) (bJ st) .none kV dc pm an cd ct),sl⟩) (c:PySem.W.codeIn K cd n=true) (k:PySem.W.keepIn K (.ref f)=true):Dn K n st
theorem fnd(l:PySem.W.OpenLaw)(w:World){K:PySem.W.Frag}{h:Heap}{mg:Str->Option Value}(X:K.In h)(G:h.Ns mainGlobals mg)(base:Heap){n:Str}{st:Stmt}{L:Nat}{ps:List Str}{sp:Sp}(d:Dn K n st)(o:∀{f:Addr}{fd:FuncData},lC K n n st f fd->fJ l.prog w K mg base eV L f fd ps sp)(b:∀(kV doc pm:Value) (an:Option Addr) (cdv ct:Value) (us:List Value),us.length=ps.length->bindArgs (PySem.W.fnOf n n (pC st) (kB st) (bJ st) .none kV doc pm an cdv ct) ⟨us,[]⟩=pure (ps.zip us):=by intro _ _ _ _ _ _ us hl;first | (obtain ⟨_,rfl⟩:=aEi hl;rfl) | (obtain ⟨_,_,rfl⟩:=aEh hl;rfl) | (obtain ⟨_,_,_,rfl⟩:=aEg hl;rfl) | (obtain ⟨_,_,_,_,rfl⟩:=aEf hl;rfl) | (obtain ⟨_,_,_,_,_,rfl⟩:=aEe hl;rfl)):iP eV l.prog w K mg base L n ps sp:=by
 obtain ⟨a,e,c,k⟩:=d;exact ⟨_,_,o (HR e c k),PySem.W.mg_of X G a,k,(HR e c k).binds b⟩
open PySem.W (nsIn fnOf codeIn keepIn mg_of mg_none_of) in
theorem aBO{l:PySem.W.OpenLaw}{w:World}{K:PySem.W.Frag}{h:Heap}{mg:Str->Option Value}{fa:Addr}{c_ONE:Addr}{c_NOUGHT:Addr}{tok_BREAK_OFF:Tok}(X:K.In h)(G:h.Ns mainGlobals mg)(hfa:mg "law" = some (.ref fa))
  (u_ONE:nsIn K mainGlobals "ONE" = some (some (.ref c_ONE)))
  (u_NOUGHT:nsIn K mainGlobals "NOUGHT" = some (some (.ref c_NOUGHT)))
  (u_BREAK_OFF:nsIn K mainGlobals "BREAK_OFF" = some (some (.int (-1) tok_BREAK_OFF)))
  (o_ONE:oP K c_ONE [1,1]=true)
  (o_NOUGHT:oP K c_NOUGHT [0,1]=true)
  (d0:Dn K "_law_low" sQ7)
  (d1:Dn K "_law_feed" sQ4)
  (d2:Dn K "_law_draw" sQ2)
  (d3:Dn K "_law_shares" MR)
  (d4:Dn K "_law_trial" VO)
  (d5:Dn K "common_divisor" aAE)
  (d6:Dn K "plus" aAz)
  (d7:Dn K "times" aAv)
  (d8:Dn K "less" aAB)
  (d9:Dn K "total" aAu)
  (d10:Dn K "way_shares" aAt)
  (d11:Dn K "one_more" aAA)
  (d12:Dn K "noughts" VL)
  (d13:Dn K "rule_faces" aAx)
  (d14:Dn K "_law_more" sQ8)
  (d15:Dn K "_law_says" QJ)
  (d16:Dn K "_law_rule" VQ)
  (d17:Dn K "_law_mul" sQ9)
  (d18:Dn K "_law_hall" sQ6)
  (d19:Dn K "_law_choices" sQ1)
  (d20:Dn K "put" aAy)
  (d21:Dn K "ends_of" aAD)
  (d22:Dn K "stands_come_to" VJ)
  (d23:Dn K "stands_behind_look" aAw)
  (d24:Dn K "gathered" aAC)
  (d25:Dn K "looked_at" VM)
  (d26:Dn K "stands_at_first" QI)
  (d27:Dn K "led" GW)
  (d28:Dn K "_law_plan" QK)
  (d29:Dn K "_law_add" sQ0)
  (d30:Dn K "_law_settled" VP)
  (d31:Dn K "_law_next" QL)
  (d32:Dn K "_law_go" sQ5)
  (d33:Dn K "_law_due" sQ3)
  (d34:Dn K "law" VN) (z0:nsIn K mainGlobals "list" = some none) (z1:nsIn K mainGlobals "len" = some none) (z2:nsIn K mainGlobals "abs" = some none) (z3:nsIn K mainGlobals "range" = some none) (z4:nsIn K mainGlobals "sum" = some none) (z5:nsIn K mainGlobals "int" = some none) (z6:nsIn K mainGlobals "sorted" = some none) (z7:nsIn K mainGlobals "dict" = some none) (z8:nsIn K mainGlobals "isinstance" = some none) (z9:nsIn K mainGlobals "tuple" = some none) (z10:nsIn K mainGlobals "zip" = some none) (z11:nsIn K mainGlobals "repr" = some none) (z12:nsIn K mainGlobals "enumerate" = some none) :
  ∃fd:FuncData,(∀(s:Shared) (v:Value),BindsTo s fd ⟨[v],[]⟩ [("_law_script",v)])/\∀base:Heap,K.In base->base.Ns mainGlobals mg->fJ l.prog w K mg base eV 15 fa fd ["_law_script"] (sC K):=by
 obtain ⟨f,b,d,a⟩:=d34;have e:=hfa.symm.trans (mg_of X G f);cases e;generalize hcl:(⟨c_ONE,c_NOUGHT,tok_BREAK_OFF⟩:Cl)=c;have T:nT K mg c:=by rw [<-hcl];exact ⟨mg_none_of X G z0,mg_none_of X G z1,mg_none_of X G z2,mg_none_of X G z3,mg_none_of X G z4,mg_none_of X G z5,mg_none_of X G z6,mg_none_of X G z7,mg_none_of X G z8,mg_none_of X G z9,mg_none_of X G z10,mg_none_of X G z11,mg_none_of X G z12,mg_of X G u_ONE,mg_of X G u_NOUGHT,mg_of X G u_BREAK_OFF,o_ONE,o_NOUGHT⟩
 have F34:=HR (st:=VN) b d a;refine aBC F34 _ ⟨λs v=>.of_eq rfl,λbase _ _=>?_⟩;have N:=@fnd l w K h mg X G base;have GQ7:=N d0 λF=>oQ7 F T;have GQ4:=N d1 λF=>oQ4 F T;have GQ2:=N d2 λF=>oQ2 F T;have GQ15:=N d3 λF=>aD7 F T GQ2 GQ7;have GQ16:=N d4 λF=>aD6 F T GQ2 GQ15;have GQ17:=N d5 λF=>aD5 F T;have GQ26:=N d6 λF=>aDW F T GQ17;have GQ32:=N d7 λF=>aDQ F T GQ17;have GQ22:=N d8 λF=>aD0 F T GQ26;have GQ33:=N d9 λF=>aDP F T GQ26;have GQ34:=N d10 λF=>aDO F T;have GQ25:=N d11 λF=>aDX F T;have GQ24:=N d12 λF=>aDY F T;have GQ28:=N d13 λF=>aDU F T;have GQ8:=N d14 λF=>oQ8 F T;have GQ13:=N d15 λF=>aD9 F T GQ2 GQ7;have GQ12:=N d16 λF=>aEa F T GQ2 GQ13 GQ8;have GQ9:=N d17 λF=>oQ9 F T GQ7;have GQ6:=N d18 λF=>oQ6 F T GQ2 GQ16 GQ12;have GQ1:=N d19 λF=>oQ1 F T;have GQ27:=N d20 λF=>aDV F T;have GQ18:=N d21 λF=>aD4 F T GQ22 GQ26;have GQ31:=N d22 λF=>aDR F T GQ27 GQ32;have GQ30:=N d23 λF=>aDS F T GQ31 GQ32 GQ25;have GQ19:=N d24 λF=>aD3 F T GQ26;have GQ23:=N d25 λF=>aDZ F T;have GQ29:=N d26 λF=>aDT F T GQ24 GQ28 GQ31 GQ19;have GQ21:=N d27 λF=>aD1 F T GQ18 GQ34 GQ29 GQ23 GQ30 GQ19 GQ33;have GQ11:=N d28 λF=>aEb F T GQ2;have GQ0:=N d29 λF=>oQ0 F T GQ7;have GQ14:=N d30 λF=>aD8 F T GQ0;have GQ10:=N d31 λF=>aEc F T;have GQ5:∀n:Nat,iP eV l.prog w K mg base (4+n) "_law_go" ["_law_case","_law_place","_law_known"] (pM l.prog w K n):=λn=>by
  induction n with
  | zero=>exact N d32 λF=>zQ5 F T
  | succ n ih=>exact N d32 λF=>oQ5 n F T GQ10 GQ8 GQ14 GQ9 GQ0 ih
 have GQ3:=N d33 λF=>oQ3 F T GQ14 GQ9 GQ0 (GQ5 9);exact aD2 F34 T GQ4 GQ2 GQ6 GQ1 GQ11 GQ21 GQ3
end Kw
namespace PySem.W.Fast
def tw9264947762839491298:=()
def tw24768910223570119:=()
def tw12943346771092453142:=()
def tw13495954918150739249:=()
def tw12742156311893548588:=()
def tw2794009040742850275:=()
def tw10412674373458775567:=()
def tw12328013544684413036:=()
def tw8887214921676125131:=()
def tw16188176206200295152:=()
def tw5397443243582140523:=()
def tw125557215810867883:=()
def tw5130553639329709050:=()
def tw7986205293364759861:=()
def tw16182197745544629032:=()
def tw1671781008268903540:=()
def tw1425210583490020933:=()
def tw11422691172001261954:=()
def tw6720123526955257422:=()
def tw15601901787602666242:=()
def tw5262315572194382703:=()
def tw6273091972027168894:=()
def tw13997846031958333570:=()
def tw4335380815553796172:=()
def tw6667824643048135826:=()
def tw15064497927094623063:=()
def tw8798951018752665942:=()
def tw10808841628130237082:=()
def tw4059816296122365845:=()
def tw17015250290776598378:=()
def tw3696631703229905224:=()
def tw3165239908241547818:=()
def tw1984863431713874881:=()
def tw11592166893342053536:=()
def tw11258596405530838468:=()
def tw10022410391739603722:=()
def tw15344673063496978571:=()
def tw13768687824246079194:=()
def tw2016098282750314598:=()
def tw2364026853860761522:=()
def tw17010467103763273748:=()
def tw12364002160076410470:=()
def tw11562854600057937589:=()
def tw16237798093252930609:=()
def tw14759584684830794199:=()
def tw11135278602964185402:=()
def tw6696761368551501004:=()
def tw1567887373916939131:=()
def tw17971544887861457202:=()
def tw9824375934022833041:=()
def tw13113247099871447951:=()
def tw18111305933626572912:=()
def tw11177141558799936010:=()
def tw4949531594137513980:=()
def tw589444869881753186:=()
def tw4044812303283676747:=()
def tw14594742469603503566:=()
def tw10656769905264834683:=()
def tw5784145039635701376:=()
def tw7535079953333198527:=()
def tw12277272122898899954:=()
def tw5561042807774594837:=()
def tw1265990065703763450:=()
def tw6924940265325124475:=()
def tw12471220469305292607:=()
def tw17883732709256340285:=()
def tw9243031627640197407:=()
def tw3907137291607290073:=()
def tw4319753265831196690:=()
def tw18145794100295034631:=()
def tw3992147469672195447:=()
def tw8511823425837854901:=()
def tw14086791190439512732:=()
def tw1547773784277820376:=()
def tw14378448208053763680:=()
def tw10191461391654714576:=()
def tw16587035514313340495:=()
def tw16838937270776394708:=()
def tw18295101481789081764:=()
def tw10218740111214480182:=()
def tw5292898126453640032:=()
def tw17384888162973397167:=()
def tw16485260088461912275:=()
def tw16290545546978306401:=()
def tw6027650393884899762:=()
def tw12207989205000991724:=()
def tw458552874211130412:=()
def tw6428328507296601089:=()
def tw3949689317706098089:=()
def tw3951088728226006454:=()
def tw5490077717535480541:=()
def tw8010713450683689845:=()
def tw3235619598779139222:=()
def tw6514512142227647749:=()
def tw4782049021924859153:=()
def tw3900107955393496633:=()
def tw5380709245037552428:=()
def tw4033820350147658453:=()
def tw15464283663972763966:=()
def tw825631408846347767:=()
def tw15795668048503759569:=()
def tw5516752062743308609:=()
def tw6876592119318237486:=()
def tw1481168129266204320:=()
def tw6706887390136702779:=()
def tw9721584903243366717:=()
def tw15320122151355152417:=()
def tw4912162764337376795:=()
def tw3804057200520400972:=()
def tw825147741271719287:=()
def tw6116154491966532823:=()
def tw16137341469183526027:=()
def tw14125871002357486998:=()
def tw1017570254789307987:=()
def tw6521763456400254905:=()
def tw11963566073408316632:=()
def tw9004581821123544869:=()
def tw7584949240923256220:=()
def tw9945479249003576766:=()
def tw3883217596496654504:=()
def tw18252392387070614111:=()
def tw13554642591711179642:=()
def tw12910539387138031839:=()
def tw2928827033504863657:=()
def tw1739815879658912375:=()
def tw10698370348650151766:=()
def tw11876234245811824501:=()
def tw6293607652308764812:=()
def tw14070193744452589892:=()
def tw12258434200016780330:=()
def tw14400792683338695315:=()
def tw9897251400739117482:=()
end PySem.W.Fast
open PySem PySem.W PyProof.Rows
set_option maxRecDepth 100000 in
set_option maxHeartbeats 0 in
theorem PySem.Challenge.cw_earlystop_k76_led_by_a_plan_holds : PySem.Challenge.rw_earlystop_k76_led_by_a_plan.Holds := by
  w_on;o_law;k_head;(case hw=>w_witness2)
  k_fill
  refine L2.PF (l:=PySem.Challenge.rw_earlystop_k76_led_by_a_plan) (n:=63) (k:=15) (x := "_law_script") (CX:=L2.eV) (sp:=λK=>Kw.sC K) rfl Dd rfl ⟨rfl,Dd,Dd,rfl⟩ (λw h Y=>PySem.W.kIn_of Y) ?F (λK H a j e _ d=>Kw.QE d e) (λ_ _ _ _ z=>z)
  case F =>
    intro w f i h KX G b
    refine' Kw.aBO KX G b ?u_ONE ?u_NOUGHT ?u_BREAK_OFF ?o_ONE ?o_NOUGHT ?d0 ?d1 ?d2 ?d3 ?d4 ?d5 ?d6 ?d7 ?d8 ?d9 ?d10 ?d11 ?d12 ?d13 ?d14 ?d15 ?d16 ?d17 ?d18 ?d19 ?d20 ?d21 ?d22 ?d23 ?d24 ?d25 ?d26 ?d27 ?d28 ?d29 ?d30 ?d31 ?d32 ?d33 ?d34 ?z0 ?z1 ?z2 ?z3 ?z4 ?z5 ?z6 ?z7 ?z8 ?z9 ?z10 ?z11 ?z12
    (case u_ONE|u_NOUGHT|u_BREAK_OFF|z0|z1|z2|z3|z4|z5|z6|z7|z8|z9|z10|z11|z12=>k_is);(case d0|d1|d2|d3|d4|d5|d6|d7|d8|d9|d10|d11|d12|d13|d14|d15|d16|d17|d18|d19|d20|d21|d22|d23|d24|d25|d26|d27|d28|d29|d30|d31|d32|d33|d34=>refine' Kw.Dn.mk ?a ?l ?c ?k;(case a=>k_is);(case l=>k_is);(case c=>k_is);(case k=>k_is));(case o_ONE=>kernel_rfl);(case o_NOUGHT=>kernel_rfl)
